import PyProof.Rows.All
import Wide.All
import OpenK.AllK
import Wide.FinOn
import HandS.ForMost
import HandS.Defaults
import HandS.MakeKwOnly
import HandS.TupAny
import HandS.IsInst
import HandS.Zip
import HandS.Flow
import HandS.Walk
import HandS.Codes
import HandS.Text
import HandS.TupLe
import HandS.ForExc
import HandS.ExcInit
import PyProof.P3In
import PyProof.NoPylong
import HandS.Star
import HandS.Set
import HandS.SetFor
import HandS.Strs
import HandS.TupSets
import HandS.WordsExc
import HandS.ExcOwn
import KE.DataEq
import PySem.Challenge.RW_oncedefaults_k39_callers_allow
set_option Elab.async false
set_option maxRecDepth 100000
set_option maxHeartbeats 4000000
set_option linter.all false
namespace Dr
open PySem PySem.Spec PyProof.Rows L2
def topS (i : Nat) : Stmt := PySem.Challenge.pw_oncedefaults_k39_callers_allow.main.body.getD i (.Pass ⟨0, 0, 0, 0⟩)
abbrev sBag : Stmt := topS 18
abbrev sDraw : Stmt := topS 19
theorem scBag : FnScope ["_law_script"] ["_law_script"] (defScope sBag) := ⟨rfl, rfl, rfl, by decide +kernel, rfl, by decide +kernel, by decide +kernel⟩
theorem scDraw : FnScope ["_law_bag_here", "_law_many", "_law_cell", "_law_digit"] ["_law_bag_here", "_law_many"] (defScope sDraw) := ⟨rfl, rfl, rfl, by decide +kernel, rfl, by decide +kernel, by decide +kernel⟩
/-- the built-in names that the draws use are the built-in ones -/
structure Blt (mg : Str → Option Value) : Prop where
  len : mg "len" = none
  int : mg "int" = none
  lst : mg "list" = none
  ran : mg "range" = none
theorem same_upd {H : Hp} {p : Addr} {o : HO} (h : H p = none) : Same H (upd H p o) := fun b x e => by
  rw [upd_ne (ne_of_none e h)]
  exact e
/-- a bag stands at p -/
def Bag (H : Hp) (p : Addr) : Prop := ∃ (u v c : Int) (ns : List Int), H p = some (.lst (.int u :: .int v :: .int c :: ns.map V.int)) ∧ 0 ≤ u ∧ ns.length ≤ 1000
/-- all but the bag is as it was, the bag is a bag -/
def Kp (p : Addr) (H H' : Hp) : Prop := (∀ b o, b ≠ p → H b = some o → H' b = some o) ∧ Bag H' p
theorem Kp.refl {p : Addr} {H : Hp} (h : Bag H p) : Kp p H H := ⟨fun _ _ _ e => e, h⟩
theorem Kp.trans {p : Addr} {H H1 H2 : Hp} (a : Kp p H H1) (b : Kp p H1 H2) : Kp p H H2 := ⟨fun c o n e => b.1 c o n (a.1 c o n e), b.2⟩
theorem Bag.same {p : Addr} {H H' : Hp} (b : Bag H p) (s : Same H H') : Bag H' p := by
  obtain ⟨u, v, c, ns, e, q⟩ := b
  exact ⟨u, v, c, ns, s _ _ e, q⟩
theorem Kp.same {p : Addr} {H H1 H2 : Hp} (a : Kp p H H1) (s : Same H1 H2) : Kp p H H2 := ⟨fun c o n e => s c o (a.1 c o n e), a.2.same s⟩
theorem Kp.of {p : Addr} {H H' : Hp} (b : Bag H p) (s : Same H H') : Kp p H H' := (Kp.refl b).same s
theorem Bag.ne {p a : Addr} {H : Hp} (b : Bag H p) (h : H a = none) : a ≠ p := fun e => by
  obtain ⟨u, v, c, ns, hp, _⟩ := b
  rw [e, hp] at h
  cases h
theorem Kp.none {p a : Addr} {H H' : Hp} (k : Kp p H H') (n : a ≠ p) (h : H' a = none) : H a = none := by
  cases e : H a with
  | none => rfl
  | some o =>
    rw [k.1 _ _ n e] at h
    cases h
section
variable {X : Cx}
/-- // by a divisor of any size up to thousands of digits -/
theorem op_fdivW : OpR X (binaryOp .FloorDiv) (rI (fun _ j => j ≠ 0 ∧ j.natAbs.log2 < 9000) fun i j => .int (i.fdiv j)) := opI fun _ _ _ _ _ _ _ hc q => floordiv_int hc.1 q (.inl (PyProof.noPylong_of_log2 hc.2))
/-- x[i] of a list, as += reads it -/
theorem get_lst : PGet X (rIxL X.K) := by
  intro pins s σ H x y v u Q I rx ry h
  obtain ⟨p, xs, i, z, rfl, rfl, hq, he, q⟩ := h
  cases rx
  obtain ⟨t, rfl⟩ := ry
  obtain ⟨its, r, pl, hz⟩ := I.list hq
  obtain ⟨j, h1, h2, h3, h4, h5⟩ := atI_get he
  obtain ⟨w, ew, rw'⟩ := r.get h2
  have hl := r.length
  have hn := line63
  have fin : EP X pins σ Q w s := ⟨z, H, I, rw', q⟩
  by_cases h0 : 0 ≤ i
  · have hj : i.toNat = j := by
      rw [seqIndex_of h0 h5] at h1
      exact Option.some.inj h1
    exact wpAny_getItem_list pl.isList h0 (by omega) (by rw [hj]; simpa using ew) fin
  · have hj : (i + (its.toArray.size : Int)).toNat = j := by
      rw [seqIndex_neg (by omega) h4] at h1
      rw [List.size_toArray, ← hl]
      exact Option.some.inj h1
    exact wpAny_getItem_list_neg pl.isList (by omega) (by rw [List.size_toArray] <;> omega) (by omega) (by rw [hj]; simpa using ew) fin
end
section
variable {P : Program} {w : World} {K : PySem.W.Frag} {mg : Str → Option Value} {base : Heap}
def spBag (K : PySem.W.Frag) : Sp := fun vs H Q _ => ∃ (a : Addr) (ns : List Int), vs = [.ref a] ∧ SqL K H a (ns.map V.int) ∧ ns.length ≤ 63 ∧ ∀ H' p, Same H H' → H p = none → Bag H' p → Q (.ref p) H'
theorem ok_bag {f : Addr} {fd : FuncData} (F : Fun K "_law_bag" "_law_bag" sBag f fd) (T : Blt mg) : FnOk P w K mg base CX0 1 f fd ["_law_script"] (spBag K) := by
  refine F.ok scBag (fun vs H Q E h => ?_) (fun cdv A outer s H vs Q E hr h => ?_)
  · obtain ⟨a, ns, rfl, _⟩ := h
    rfl
  · obtain ⟨a, ns, rfl, hS, hlen, q⟩ := h
    refine ⟨_, pss_one (ps_ret (pe_op op_cat (pe_lst (pa_cons pe_int (pa_cons pe_int (pa_cons pe_int pa_nil)))) (pe_callTy call_list_of (by rfl) T.lst (by decide +kernel) (pa_cons (pv 0) pa_nil)))), ?_⟩
    refine ⟨by show 3 ≤ sizeLine; decide, fun l nl => ?_⟩
    have s1 := same_upd (o := .lst [V.int 0, .int 7, .int 0]) nl
    refine ⟨_, rfl, a, _, rfl, .inl (s1.seq hS), fun m nm => ?_⟩
    have s2 := same_upd (o := .lst (ns.map V.int)) nm
    refine ⟨l, m, _, _, rfl, rfl, s2 _ _ upd_same, upd_same, ?_, fun p np => ?_⟩
    · rw [List.length_map, sizeLine_eq]
      show 3 + ns.length ≤ _
      omega
    · have n0 := s1.free (s2.free np)
      exact q _ p ((s1.trans s2).trans (same_upd np)) n0 ⟨0, 7, 0, ns, upd_same, by omega, by omega⟩
def spDraw : Sp := fun vs H Q _ => ∃ (p : Addr) (m : Int), vs = [.ref p, .int m] ∧ Bag H p ∧ 1 ≤ m ∧ m < 2 ^ 200 ∧ ∀ H' r, Kp p H H' → 0 ≤ r → r < m → Q (.int r) H'
theorem ixN_lt {n j : Nat} (h : j < n) : ixN n (j : Int) = some j := by
  unfold ixN
  rw [if_pos (by omega), if_pos (by omega)]
  simp
theorem log_ok {m : Int} (h0 : 1 ≤ m) (h : m < 2 ^ 200) : m ≠ 0 ∧ m.natAbs.log2 < 9000 := by
  refine ⟨by omega, ?_⟩
  have hn : m.natAbs ≠ 0 := by omega
  have h2 : m.natAbs < 2 ^ 200 := by omega
  exact Nat.lt_trans ((Nat.log2_lt hn).mpr h2) (by decide)
theorem kp_upd {p : Addr} {H : Hp} {u v c : Int} {ns : List Int} (h0 : 0 ≤ u) (h1 : ns.length ≤ 1000) : Kp p H (upd H p (.lst (.int u :: .int v :: .int c :: ns.map V.int))) := ⟨fun b o n e => by
  rw [upd_ne n]
  exact e, u, v, c, ns, upd_same, h0, h1⟩
theorem ok_draw {f : Addr} {fd : FuncData} (F : Fun K "_law_draw" "_law_draw" sDraw f fd) (T : Blt mg) : FnOk P w K mg base CX0 1 f fd ["_law_bag_here", "_law_many"] spDraw := by
  refine F.ok scDraw (fun vs H Q E h => ?_) (fun cdv A outer s H vs Q E hr h => ?_)
  · obtain ⟨p, m, rfl, _⟩ := h
    rfl
  · obtain ⟨p, m, rfl, hB, m0, m1, q⟩ := h
    refine ⟨_, C8.pss_cut (ps_if (PW.pt (pw_and (pt_cmpR op_eq (pe_ix ix_list (pv 0) pe_int (fun _ _ => rfl)) pe_int (nomark _)) (pw_and1 (pt_cmpR op_gt (pe_callB call_len_seq (by rfl) T.len PySem.boot_len (pa_cons (pv 0) pa_nil)) pe_int (nomark _)))))
        (pss_cons (ps_set (i := 2) scDraw.nd rfl (.inl rfl) (pe_bm PySem.F.plainAttrs_list PySem.F.slot_list_pop PySem.F.type_list_pop mt_popAt (pv 0) (pa_cons pe_int pa_nil)))
        (pss_one (ps_if (pt_cmpR op_ge (pv 2) (pe_op op_pow pe_int pe_int) (nomark _))
          (pss_one (ps_asg (pv 2) (pg_sub (pv 0) pe_int set_list)))
          (pss_one (ps_asg (pe_op op_mod (pe_callTy call_int1 (by rfl) T.int (by decide +kernel) (pa_cons (pe_op op_add (pe_op op_mul (pe_ix ix_list (pv 0) pe_int (fun _ _ => rfl)) pe_int) (pv 2)) pa_nil)) pe_int) (pg_sub (pv 0) pe_int set_list)))))) pss_nil)
      (pss_cons (ps_if (pt_cmpR op_gt (pe_ix ix_list (pv 0) pe_int (fun _ _ => rfl)) pe_int (nomark _))
        (pss_cons (ps_set (i := 3) scDraw.nd rfl (.inl rfl) (pe_op op_modN (pe_callTy call_int1 (by rfl) T.int (by decide +kernel) (pa_cons (pe_ix ix_list (pv 0) pe_int (fun _ _ => rfl)) pa_nil)) (pv 1)))
        (pss_cons (ps_asg (pe_op op_fdivW (pe_ix ix_list (pv 0) pe_int (fun _ _ => rfl)) (pv 1)) (pg_sub (pv 0) pe_int set_list))
        (pss_one (ps_ret (pv 3))))) pss_nil)
      (pss_cons (ps_augS (pv 0) pe_int get_lst pe_int ip_add set_list)
      (pss_cons (ps_asg (pe_op op_mod (pe_callTy call_int1 (by rfl) T.int (by decide +kernel) (pa_cons (pe_op op_add (pe_op op_mul (pe_ix ix_list (pv 0) pe_int (fun _ _ => rfl)) pe_int) (pe_op op_mul (pe_ix ix_list (pv 0) pe_int (fun _ _ => rfl)) pe_int)) pa_nil)) pe_int) (pg_sub (pv 0) pe_int set_list))
      (pss_one (ps_ret (pe_op op_modN (pe_callTy call_int1 (by rfl) T.int (by decide +kernel) (pa_cons (pe_op op_fdiv (pe_ix ix_list (pv 0) pe_int (fun _ _ => rfl)) pe_int) pa_nil)) (pv 1))))))), ?_⟩
    refine ⟨fun σ' H' => Kp p H H' ∧ ∃ x, σ' = [some (.ref p), some (.int m), x, none], ?_, fun σ' H' hM => ?_⟩
    · obtain ⟨u, v, c, ns, hp, u0, hn⟩ := hB
      have kr := Kp.refl ⟨u, v, c, ns, hp, u0, hn⟩
      refine ⟨_, rfl, p, _, 0, _, rfl, rfl, SqL.of hp, atI_nat (j := 0) rfl, rfl, _, rfl, ite2 (fun _ => ?_) (fun _ => ⟨kr, _, rfl⟩)⟩
      refine ⟨_, rfl, p, _, rfl, .inl (SqL.of hp), _, _, rfl, rfl, _, rfl, ite2 (fun k => ?_) (fun _ => ⟨kr, _, rfl⟩)⟩
      have k := of_decide_eq_true k
      rw [List.length_cons, List.length_cons, List.length_cons, List.length_map] at k
      cases ns with
      | nil => exact absurd k (by decide)
      | cons e r =>
        have hr1 : r.length ≤ 1000 := by
          rw [List.length_cons] at hn
          omega
        refine ⟨_, rfl, .inl ⟨rfl, _, SqL.of hp⟩, p, _, 3, 3, .int e, rfl, rfl, hp, by decide, by decide, ?_, rfl, ?_⟩
        · unfold seqIndex?
          simp
          omega
        have k1 : Kp p H (upd H p (.lst (.int u :: .int v :: .int c :: r.map V.int))) := kp_upd u0 hr1
        have h1 : (upd H p (.lst (.int u :: .int v :: .int c :: r.map V.int))) p = some (.lst (.int u :: .int v :: .int c :: r.map V.int)) := upd_same
        refine ⟨_, rfl, _, _, rfl, rfl, ⟨by decide, by decide, by decide⟩, _, _, rfl, rfl, _, rfl, ite2 (fun k2 => ?_) (fun _ => ?_)⟩
        · have k2 := of_decide_eq_true k2
          refine ⟨_, rfl, .ref p, rfl, p, _, 0, 0, rfl, rfl, h1, ixN_lt (by simp), ?_⟩
          refine ⟨k1.trans (kp_upd (u := e) (v := v) (c := c) (Int.le_trans (show (0 : Int) ≤ 10 ^ (18 : Int).toNat by decide) k2) hr1), _, rfl⟩
        · refine ⟨.ref p, rfl, p, _, 1, _, rfl, rfl, SqL.of h1, atI_nat (j := 1) rfl, v, _, rfl, rfl, .inr ⟨by decide, by decide⟩, _, rfl, _, _, rfl, rfl, .inl ⟨_, rfl, _, _, rfl, rfl, (by show (0 : Int) < 2147483647; decide), ?_⟩⟩
          refine ⟨.ref p, rfl, p, _, 1, 1, rfl, rfl, h1, ixN_lt (by simp), ?_⟩
          exact ⟨k1.trans (kp_upd (u := u) (c := c) u0 hr1), _, rfl⟩
    obtain ⟨k1, x, rfl⟩ := hM
    obtain ⟨u, v, c, ns, hp, u0, hn⟩ := k1.2
    have g0 : atI (V.int u :: V.int v :: V.int c :: ns.map V.int) 0 = some (.int u) := atI_nat (j := 0) rfl
    refine ⟨.ref p, rfl, p, _, 0, _, rfl, rfl, SqL.of hp, g0, _, _, rfl, rfl, _, rfl, ite2 (fun hpos => ?_) (fun _ => ?_)⟩
    · have hu : 0 < u := of_decide_eq_true hpos
      have e1 : u.fdiv m = u / m := Int.fdiv_eq_ediv_of_nonneg _ (by omega)
      have e2 : u.fmod m = u % m := Int.fmod_eq_emod_of_nonneg _ (by omega)
      refine ⟨.ref p, rfl, p, _, 0, _, rfl, rfl, SqL.of hp, g0, .inl ⟨u, rfl, _, rfl, u, m, rfl, rfl, by omega, ?_⟩⟩
      refine ⟨.ref p, rfl, p, _, 0, _, rfl, rfl, SqL.of hp, g0, _, rfl, u, m, rfl, rfl, log_ok m0 m1, ?_⟩
      refine ⟨.ref p, rfl, p, _, 0, 0, rfl, rfl, hp, ixN_lt (by simp), ?_⟩
      exact ⟨_, rfl, q _ _ (k1.trans (kp_upd (by rw [e1]; exact Int.ediv_nonneg (by omega) (by omega)) hn)) (by rw [e2]; exact Int.emod_nonneg _ (by omega)) (by rw [e2]; exact Int.emod_lt_of_pos _ (by omega))⟩
    · refine ⟨.ref p, rfl, p, _, 2, _, rfl, rfl, SqL.of hp, atI_nat (j := 2) rfl, _, _, rfl, rfl, p, _, 2, 2, rfl, rfl, hp, ixN_lt (by simp), ?_⟩
      have k2 : Kp p H' (upd H' p (.lst (.int u :: .int v :: .int (c + 1) :: ns.map V.int))) := kp_upd u0 hn
      have h2 : (upd H' p (.lst (.int u :: .int v :: .int (c + 1) :: ns.map V.int))) p = some (.lst (.int u :: .int v :: .int (c + 1) :: ns.map V.int)) := upd_same
      refine ⟨.ref p, rfl, p, _, 1, _, rfl, rfl, SqL.of h2, atI_nat (j := 1) rfl, v, _, rfl, rfl, .inr ⟨by decide, by decide⟩, .ref p, rfl, p, _, 2, _, rfl, rfl, SqL.of h2, atI_nat (j := 2) rfl, c + 1, _, rfl, rfl, .inr ⟨by decide, by decide⟩, _, _, rfl, rfl, .inl ⟨_, rfl, _, _, rfl, rfl, (by show (0 : Int) < 2147483629; decide), ?_⟩⟩
      refine ⟨.ref p, rfl, p, _, 1, 1, rfl, rfl, h2, ixN_lt (by simp), ?_⟩
      have k3 := kp_upd (p := p) (H := upd H' p (.lst (.int u :: .int v :: .int (c + 1) :: ns.map V.int))) (u := u) (v := (v * 48271 + (c + 1) * 9973) % 2147483629) (c := c + 1) (ns := ns) u0 hn
      have h3 : (upd (upd H' p (.lst (.int u :: .int v :: .int (c + 1) :: ns.map V.int))) p (.lst (.int u :: .int ((v * 48271 + (c + 1) * 9973) % 2147483629) :: .int (c + 1) :: ns.map V.int))) p = some (.lst (.int u :: .int ((v * 48271 + (c + 1) * 9973) % 2147483629) :: .int (c + 1) :: ns.map V.int)) := upd_same
      refine ⟨.ref p, rfl, p, _, 1, _, rfl, rfl, SqL.of h3, atI_nat (j := 1) rfl, _, _, rfl, rfl, ⟨by decide, by decide⟩, .inl ⟨_, rfl, .int m, rfl, _, m, rfl, rfl, by omega, ?_⟩⟩
      have e2 : ∀ y : Int, y.fmod m = y % m := fun y => Int.fmod_eq_emod_of_nonneg _ (by omega)
      exact q _ _ ((k1.trans k2).trans k3) (by rw [e2]; exact Int.emod_nonneg _ (by omega)) (by rw [e2]; exact Int.emod_lt_of_pos _ (by omega))
end
end Dr
namespace Dr
open PySem PySem.Spec PyProof.Rows L2
abbrev sIsName : Stmt := topS 8
theorem scIsName : FnScope ["thing", "letter"] ["thing"] (defScope sIsName) := ⟨rfl, rfl, rfl, by decide +kernel, rfl, by decide +kernel, by decide +kernel⟩
def barred : List Str := ["marks", "kind", "value", "def", "return", "none", "copy", "if", "unless", "in", "is", "mark", "box", "once", "anew", "early", "late", "cls", "self", "method"]
def lowC (c : Nat) : Bool := decide (97 ≤ c) && decide (c ≤ 122)
def nameOk (z : Str) : Bool := (decide (1 ≤ z.length) && decide (z.length ≤ 8)) && (!(barred.contains z) && z.cps.toList.all lowC)
def isNameD : PyData → Bool
  | .str z => nameOk z
  | _ => false
theorem Same.seqT {K : PySem.W.Frag} {H H' : Hp} {a : Addr} {xs : List V} (e : Same H H') (h : SqT K H a xs) : SqT K H' a xs := by
  rcases h with (h | ⟨o, h⟩) | h
  · exact .inl (.inl (e _ _ h))
  · exact .inl (.inr ⟨o, e _ _ h⟩)
  · exact .inr h
mutual
theorem dp_same {K : PySem.W.Frag} {H H' : Hp} (e : Same H H') : ∀ {v : V} {d : PyData}, Dp K H v d → Dp K H' v d
  | _, _, .non => .non
  | _, _, .bl b => .bl b
  | _, _, .int i => .int i
  | _, _, .str x => .str x
  | _, _, .lst h hs => .lst (e.seq h) (dpAll_same e hs)
  | _, _, .tup h hs => .tup (Same.seqT e h) (dpAll_same e hs)
theorem dpAll_same {K : PySem.W.Frag} {H H' : Hp} (e : Same H H') : ∀ {vs : List V} {ds : List PyData}, DpAll K H vs ds → DpAll K H' vs ds
  | _, _, .nil => .nil
  | _, _, .cons h hs => .cons (dp_same e h) (dpAll_same e hs)
end
theorem dpAll_len {K : PySem.W.Frag} {H : Hp} : ∀ {vs : List V} {ds : List PyData}, DpAll K H vs ds → vs.length = ds.length
  | _, _, .nil => rfl
  | _, _, .cons _ hs => by rw [List.length_cons, List.length_cons, dpAll_len hs]
theorem dpAll_get {K : PySem.W.Frag} {H : Hp} : ∀ {vs : List V} {ds : List PyData} {i : Nat} {v : V}, DpAll K H vs ds → vs[i]? = some v → ∃ d, ds[i]? = some d ∧ Dp K H v d
  | _, _, i, v, .nil, h => by simp at h
  | _, _, 0, v, .cons h hs, e => ⟨_, rfl, by
    have q := Option.some.inj e
    subst q
    exact h⟩
  | _, _, i + 1, v, .cons h hs, e => dpAll_get (i := i) hs e
theorem dpAll_strs {K : PySem.W.Frag} {H : Hp} : ∀ (zs : List Str), DpAll K H (zs.map V.str) (zs.map PyData.str)
  | [] => .nil
  | z :: r => .cons (.str z) (dpAll_strs r)
/-- the type of a datum -/
def tyD : PyData → String
  | .none => "NoneType"
  | .bool _ => "bool"
  | .int _ => "int"
  | .str _ => "str"
  | .list _ => "list"
  | .tuple _ => "tuple"
  | .dict _ => "dict"
theorem tyx_lst {K : PySem.W.Frag} {H : Hp} {a : Addr} {xs : List V} (h : SqL K H a xs) : TyX K H (.ref a) (.type "list") := by
  rcases h with (h | ⟨o, h⟩) | ⟨o, its, n, h, c, _⟩
  · exact .base (.lst h)
  · exact .base (.frz h)
  · exact .kList h c
theorem tyx_tup {K : PySem.W.Frag} {H : Hp} {a : Addr} {xs : List V} (h : SqT K H a xs) : TyX K H (.ref a) (.type "tuple") := by
  rcases h with (h | ⟨o, h⟩) | ⟨o, its, n, h, c, _⟩
  · exact .base (.tup h)
  · exact .fTuple h
  · exact .kTuple h c
theorem dp_ty {K : PySem.W.Frag} {H : Hp} {v : V} {d : PyData} (h : Dp K H v d) : TyX K H v (.type (tyD d)) := by
  cases h with
  | non => exact .base .non
  | bl b => exact .base (.bl b)
  | int i => exact .base (.int i)
  | str x => exact .base (.str x)
  | lst h _ => exact tyx_lst h
  | tup h _ => exact tyx_tup h
def isStrD : PyData → Bool
  | .str _ => true
  | _ => false
def isTupD : PyData → Bool
  | .tuple _ => true
  | _ => false
def isBoolD : PyData → Bool
  | .bool _ => true
  | _ => false
theorem kit_str {K : PySem.W.Frag} : ∀ d : PyData, PySem.W.kitOne K (.type (tyD d)) (.type "str") = some (isStrD d)
  | .none => kit_ty (show kitB "NoneType" "str" = some false by decide +kernel)
  | .bool _ => kit_ty (show kitB "bool" "str" = some false by decide +kernel)
  | .int _ => kit_ty (show kitB "int" "str" = some false by decide +kernel)
  | .str _ => kit_ty (show kitB "str" "str" = some true by decide +kernel)
  | .list _ => kit_ty (show kitB "list" "str" = some false by decide +kernel)
  | .tuple _ => kit_ty (show kitB "tuple" "str" = some false by decide +kernel)
  | .dict _ => kit_ty (show kitB "dict" "str" = some false by decide +kernel)
theorem kit_tup {K : PySem.W.Frag} : ∀ d : PyData, PySem.W.kitOne K (.type (tyD d)) (.type "tuple") = some (isTupD d)
  | .none => kit_ty (show kitB "NoneType" "tuple" = some false by decide +kernel)
  | .bool _ => kit_ty (show kitB "bool" "tuple" = some false by decide +kernel)
  | .int _ => kit_ty (show kitB "int" "tuple" = some false by decide +kernel)
  | .str _ => kit_ty (show kitB "str" "tuple" = some false by decide +kernel)
  | .list _ => kit_ty (show kitB "list" "tuple" = some false by decide +kernel)
  | .tuple _ => kit_ty (show kitB "tuple" "tuple" = some true by decide +kernel)
  | .dict _ => kit_ty (show kitB "dict" "tuple" = some false by decide +kernel)
theorem kit_bool {K : PySem.W.Frag} : ∀ d : PyData, PySem.W.kitOne K (.type (tyD d)) (.type "bool") = some (isBoolD d)
  | .none => kit_ty (show kitB "NoneType" "bool" = some false by decide +kernel)
  | .bool _ => kit_ty (show kitB "bool" "bool" = some true by decide +kernel)
  | .int _ => kit_ty (show kitB "int" "bool" = some false by decide +kernel)
  | .str _ => kit_ty (show kitB "str" "bool" = some false by decide +kernel)
  | .list _ => kit_ty (show kitB "list" "bool" = some false by decide +kernel)
  | .tuple _ => kit_ty (show kitB "tuple" "bool" = some false by decide +kernel)
  | .dict _ => kit_ty (show kitB "dict" "bool" = some false by decide +kernel)
mutual
/-- texts and sequences of a size that Python's own limits leave alone -/
def smD : PyData → Bool
  | .str z => decide (z.length ≤ 1000)
  | .list ds => decide (ds.length ≤ 1000) && smAll ds
  | .tuple ds => decide (ds.length ≤ 1000) && smAll ds
  | .dict _ => false
  | _ => true
def smAll : List PyData → Bool
  | [] => true
  | d :: r => smD d && smAll r
end
structure OkD (d : PyData) : Prop where
  sh : SeqAt.shaped d = true
  sm : smD d = true
theorem smAll_get : ∀ {ds : List PyData}, smAll ds = true → ∀ d ∈ ds, smD d = true
  | [], _, _, h => by cases h
  | x :: r, h, d, hd => by
    have h' : smD x = true ∧ smAll r = true := by simpa [smAll] using h
    rcases List.mem_cons.mp hd with e | e
    · exact e ▸ h'.1
    · exact smAll_get h'.2 d e
theorem depth_all : ∀ {ds : List PyData}, ∀ d ∈ ds, d.depth ≤ PyData.depthAll ds
  | [], d, h => by cases h
  | x :: r, d, hd => by
    show d.depth ≤ max x.depth (PyData.depthAll r)
    rcases List.mem_cons.mp hd with e | e
    · subst e
      exact Nat.le_max_left _ _
    · exact Nat.le_trans (depth_all d e) (Nat.le_max_right _ _)
theorem OkD.tup {ds : List PyData} (h : OkD (.tuple ds)) : ds.length ≤ 1000 ∧ ∀ d ∈ ds, OkD d := by
  obtain ⟨hs, hm⟩ := h
  have hm' : ds.length ≤ 1000 ∧ smAll ds = true := by simpa [smD] using hm
  refine ⟨hm'.1, fun d hd => ⟨?_, smAll_get hm'.2 d hd⟩⟩
  have h1 := SeqAt.canLay_of_shaped hs
  have h2 := SeqAt.depth_of_shaped hs
  have h3 : PyData.canLayAll0 ds = true := by simpa only [PyData.canLay0] using h1
  have h4 : PyData.depthAll ds + 1 ≤ 64 := h2
  have h5 := depth_all d hd
  show (d.canLay0 && decide (d.depth ≤ 64)) = true
  rw [Bool.and_eq_true]
  exact ⟨PyData.canLay0_of_mem ds d h3 hd, decide_eq_true (by omega)⟩
/-- what the words module reads of the top -/
structure Wds (K : PySem.W.Frag) (mg : Str → Option Value) : Prop where
  len : mg "len" = none
  isi : mg "isinstance" = none
  str : mg "str" = none
  tup : mg "tuple" = none
  all : mg "all" = none
  bool : mg "bool" = none
  set : mg "set" = none
  most : ∃ t, mg "MOST_LETTERS" = some (.int 8 t)
  bar : ∃ a : Addr, mg "BARRED" = some (.ref a) ∧ ∀ H, SqT K H a (barred.map V.str)
theorem flat_strs (l : List Str) : (l.map V.str).all flatV = true := by
  rw [List.all_eq_true]
  intro x hx
  obtain ⟨y, _, rfl⟩ := List.mem_map.mp hx
  rfl
theorem in_strs (z : Str) : ∀ l : List Str, inV (V.str z) (l.map V.str) = l.contains z
  | [] => rfl
  | y :: r => by
    show (eqV (V.str y) (V.str z) || inV (V.str z) (r.map V.str)) = _
    rw [in_strs z r, List.contains_cons]
    congr 1
    show (y == z) = (z == y)
    rw [Bool.eq_iff_iff, beq_iff_eq, beq_iff_eq]
    exact eq_comm
theorem one_lt (c d : Nat) : decide ((⟨#[c]⟩ : Str).cps.toList < (⟨#[d]⟩ : Str).cps.toList) = decide (c < d) := by
  show decide ([c] < [d]) = decide (c < d)
  by_cases h : c < d
  · rw [decide_eq_true h]
    exact decide_eq_true (List.Lex.rel h)
  · rw [decide_eq_false h]
    refine decide_eq_false fun q => ?_
    rcases List.cons_lt_cons_iff.mp q with q | ⟨_, q⟩
    · exact h q
    · exact absurd q (List.not_lt_nil _)
section
variable {P : Program} {w : World} {K : PySem.W.Frag} {mg : Str → Option Value} {base : Heap}
/-- the answer of a question about any object -/
def spAsk (K : PySem.W.Frag) (q : PyData → Bool) : Sp := fun vs H Q _ => ∃ (v : V) (d : PyData), vs = [v] ∧ Dp K H v d ∧ OkD d ∧ ∀ H', Same H H' → Q (.bl (q d)) H'
theorem ok_name {f : Addr} {fd : FuncData} (F : Fun K "is_name" "is_name" sIsName f fd) (T : Wds K mg) : FnOk P w K mg base CX0 1 f fd ["thing"] (spAsk K isNameD) := by
  refine F.ok scIsName (fun vs H Q E h => ?_) (fun cdv A outer s H vs Q E hr h => ?_)
  · obtain ⟨v, d, rfl, _⟩ := h
    rfl
  · obtain ⟨v, d, rfl, hd, hsh, q⟩ := h
    obtain ⟨tm, hm⟩ := T.most
    obtain ⟨aB, hB, hBs⟩ := T.bar
    refine ⟨_, pss_cons (ps_if (PW.pt (pw_or (pt_not (pt_val (pe_callB call_isi (by rfl) T.isi (by decide +kernel) (pa_cons (pv 0) (pa_cons (pe_bltn (v := .ty "str") (by rfl) T.str (by decide +kernel) rfl) pa_nil)))))
        (pw_or1 (pt_not (pt_chain op_le op_le pe_int (pe_callB call_len_str (by rfl) T.len PySem.boot_len (pa_cons (pv 0) pa_nil)) (pe_glob (v := .int 8) (by rfl) hm ⟨_, rfl⟩))))))
        (pss_one (ps_ret pe_bl)) pss_nil)
      (pss_one (ps_ret (pe_and (pe_cmpR op_notIn_seq (pv 0) (pe_glob (v := .ref aB) (by rfl) hB rfl) rfl)
        (pe_one (pe_callB (cr_all rfl) (by rfl) T.all (by decide +kernel) (pa_cons
          (pe_lc (own := [("letter", 1)]) (g := gName 1) (tt := tYes) rfl scIsName.nd (pi_str (pv 0)) (blkOk_by (N := ["thing", "letter"]) (sc := defScope sIsName) (by decide +kernel)) (fun _ _ _ _ _ => pg_name (i := 1) scIsName.nd rfl (Or.inl rfl)) (fun _ _ _ _ _ => pts_nil)
            (fun _ _ _ _ _ => pe_chain op_le_str op_le_str pe_str (pv 1) pe_str)) pa_nil)))))), ?_⟩
    refine ⟨v, rfl, v, .ty "str", _, _, _, rfl, .ty _, dp_ty hd, kit_str d, _, rfl, ?_⟩
    by_cases hstr : isStrD d = true
    · cases d with
      | str z =>
        cases hd
        have hz : z.length ≤ 1000 := of_decide_eq_true hsh.sm
        have hz2 : z.length ≤ sizeLine := Nat.le_of_lt (small1000 hz)
        refine iteF ?_
        refine ⟨_, rfl, _, rfl, hz2, _, _, rfl, rfl, _, rfl, ?_⟩
        have Z : z.length = z.cps.toList.length := (Array.length_toList).symm
        have no : ¬ (1 ≤ z.length ∧ z.length ≤ 8) → isNameD (.str z) = false := fun hn => by
          show nameOk z = false
          unfold nameOk
          by_cases h1 : 1 ≤ z.length
          · have h2 : ¬ z.length ≤ 8 := fun h2 => hn ⟨h1, h2⟩
            simp [h1, h2]
          · simp [h1]
        refine ite2 (fun k1 => ?_) (fun k1 => ?_)
        · have h1 : (1 : Int) ≤ (z.length : Int) := of_decide_eq_true k1
          refine ⟨_, _, rfl, rfl, _, rfl, ite2 (fun k2 => ?_) (fun k2 => ?_)⟩
          · have h2 : ¬ (z.length : Int) ≤ 8 := by simpa using k2
            rw [no (by omega)] at q
            exact q _ (Same.refl _)
          · have h2 : (z.length : Int) ≤ 8 := by simpa using k2
            have en : isNameD (.str z) = (!(barred.contains z) && z.cps.toList.all lowC) := by
              show nameOk z = _
              unfold nameOk
              rw [decide_eq_true (show 1 ≤ z.length by omega), decide_eq_true (show z.length ≤ 8 by omega)]
              rfl
            rw [en] at q
            refine ⟨_, rfl, aB, _, rfl, .inr (hBs _), rfl, flat_strs _, _, rfl, ?_⟩
            show if (!inV (V.str z) (barred.map V.str)) = true then _ else _
            rw [in_strs]
            cases hb : barred.contains z with
            | true =>
              rw [hb] at q
              refine iteF ?_
              exact q _ (Same.refl _)
            | false =>
              rw [hb] at q
              refine iteT ?_
              refine ⟨_, rfl, z, rfl, fun D hD => lc_it walk_str (fun i H1 => Same H H1 ∧ H1 D = some (.lst (((z.cps.toList.take i).map lowC).map V.bl))) ⟨same_upd hD, upd_same⟩ (fun _ _ _ _ => trivial) ?_ ?_⟩
              · rintro i x H1 H2 hi ⟨sm, hl⟩ ⟨rfl, c, hc, rfl⟩
                have hc' : z.cps.toList[i]? = some c := by rw [Array.getElem?_toList]; exact hc
                have ht : ((z.cps.toList.take i).map lowC).map V.bl ++ [V.bl (lowC c)] = ((z.cps.toList.take (i + 1)).map lowC).map V.bl := by
                  rw [List.take_add_one, hc', List.map_append, List.map_append]
                  rfl
                have nx : Same H (upd H2 D (.lst (((z.cps.toList.take (i + 1)).map lowC).map V.bl))) := fun b o e => by
                  rw [upd_ne (ne_of_none e hD)]
                  exact sm _ _ e
                have hsz : (((z.cps.toList.take i).map lowC).map V.bl).length < sizeLine := by
                  rw [List.length_map, List.length_map, List.length_take]
                  exact small1000 (by omega)
                have ea : (!decide ((⟨#[c]⟩ : Str).cps.toList < (("a" : Str)).cps.toList)) = decide (97 ≤ c) := by
                  show (!decide ((⟨#[c]⟩ : Str).cps.toList < (⟨#[97]⟩ : Str).cps.toList)) = _
                  rw [one_lt, ← decide_not]
                  exact decide_eq_decide.mpr (by omega)
                have ez : (!decide ((("z" : Str)).cps.toList < (⟨#[c]⟩ : Str).cps.toList)) = decide (c ≤ 122) := by
                  show (!decide ((⟨#[122]⟩ : Str).cps.toList < (⟨#[c]⟩ : Str).cps.toList)) = _
                  rw [one_lt, ← decide_not]
                  exact decide_eq_decide.mpr (by omega)
                refine ⟨rfl, ?_⟩
                unfold tYes
                refine iteT ?_
                refine ⟨_, rfl, _, _, rfl, rfl, _, rfl, ?_⟩
                rw [ea]
                refine ite2 (fun k => ?_) (fun k => ?_)
                · refine ⟨_, _, rfl, rfl, ?_⟩
                  rw [ez]
                  have el : lowC c = decide (c ≤ 122) := by
                    unfold lowC
                    rw [k]
                    rfl
                  refine ⟨_, hl, hsz, ?_⟩
                  rw [← el, ht]
                  exact ⟨nx, upd_same⟩
                · have el : lowC c = false := by
                    unfold lowC
                    rw [eq_false_of_ne_true k]
                    rfl
                  refine ⟨_, hl, hsz, ?_⟩
                  rw [← el, ht]
                  exact ⟨nx, upd_same⟩
              · rintro H1 ⟨sm, hl⟩
                refine ⟨D, _, rfl, .inl (.inl hl), ?_⟩
                rw [List.take_of_length_le (Nat.le_of_eq (Array.length_toList)), List.all_map]
                exact q _ sm
        · have h1 : ¬ (1 : Int) ≤ (z.length : Int) := by simpa using k1
          refine ⟨_, rfl, iteT ?_⟩
          rw [no (by omega)] at q
          exact q _ (Same.refl _)
      | _ => cases hstr
    · have e : isStrD d = false := by simpa using hstr
      rw [e]
      refine iteT ?_
      refine iteT ?_
      have en : isNameD d = false := by cases d <;> first | rfl | exact absurd rfl hstr
      rw [en] at q
      exact q _ (Same.refl _)
end
end Dr
namespace Dr
open PySem PySem.Spec PyProof.Rows L2
def setObj (w : World) : Obj := { cls := .type "set", dict := none, data := .set #[] 0 (.fresh 0 0 (!w.params.followText "set-order")) }
/-- an entry of a set of texts -/
def TxE (P : Program) (w : World) (e : Int × Value) : Prop := ∃ x t, e.2 = Value.str x t ∧ e.1 = (PySem.strKind P w).hash x
def txE (e : Int × Value) : Str := strOf e.2
/-- the set at a has the members of S; it can be walked -/
def TSet (P : Program) (w : World) (h : Heap) (a : Addr) (S : List Str) : Prop :=
  ∃ o es ep t, h.get? a = some o ∧ o.ExactSet ∧ o.data = .set es ep t ∧ (∀ e ∈ es.toList, TxE P w e) ∧ (es.toList.map txE).Nodup ∧ (∀ k, k ∈ es.toList.map txE ↔ k ∈ S) ∧ es.size ≤ S.length ∧ S.length < 64 ∧ t.fits es.size = true ∧ Ris t.place.toList ∧ (w.params.followText "set-order" = true ∨ t.led = true)
section
variable {P : Program} {w : World} {h h' : Heap} {a : Addr} {S : List Str}
theorem TSet.go (R : TSet P w h a S) (k : ∀ o, h.get? a = some o → h'.get? a = some o) : TSet P w h' a S := by
  obtain ⟨o, es, ep, t, ho, r⟩ := R
  exact ⟨o, es, ep, t, k o ho, r⟩
theorem txE_elems {l : List (Int × Value)} (g : ∀ e ∈ l, TxE P w e) : ElemsOf (PySem.strKind P w) l := fun e he => by
  obtain ⟨x, t, e1, e2⟩ := g e he
  rw [e1]
  exact ⟨⟨x, strKind_is P w x t, e2⟩, rfl⟩
theorem txE_is {e : Int × Value} (g : TxE P w e) (k : Str) : (PySem.strKind P w).is k e.2 = true ↔ txE e = k := by
  obtain ⟨x, t, e1, _⟩ := g
  unfold txE
  rw [e1]
  have q := KeyKind.is_eq_decide (strKind_is P w x t) k
  rw [q, decide_eq_true_eq]
  exact ⟨fun z => z.symm, fun z => (show x = k from z).symm⟩
theorem txE_mem {l : List (Int × Value)} (g : ∀ e ∈ l, TxE P w e) (k : Str) : k ∈ l.map txE ↔ ∃ e ∈ l, (PySem.strKind P w).is k e.2 = true := by
  rw [List.mem_map]
  exact ⟨fun ⟨e, he, q⟩ => ⟨e, he, (txE_is (g e he) k).2 q⟩, fun ⟨e, he, q⟩ => ⟨e, he, (txE_is (g e he) k).1 q⟩⟩
theorem tset_new : TSet P w (h.push (setObj w)) h.objs.size [] :=
  ⟨_, #[], 0, _, Heap.get?_push_size _ rfl, ⟨rfl, rfl, rfl⟩, rfl, fun e he => by simp at he, by simp, fun k => by simp, Nat.le_refl _, by show 0 < 64; decide, rfl, List.Pairwise.nil, by
    show _ ∨ (!w.params.followText "set-order") = true
    cases w.params.followText "set-order" <;> simp⟩
end
section
variable {P : Program} {w : World} {A : Around} {E : Value → Shared → Prop} {s : Shared} {a : Addr} {S : List Str}
theorem put_tail {g : Bool → Sem Unit} (hg : ∀ (b : Bool) (s₁ : Shared) (Q' : Unit → Shared → Prop), Q' () s₁ → wpAny (model P w) A (g b) Q' E s₁) {o : Obj} {es : Array (Int × Value)} {ep : Nat} {t : SetTable}
    (ho : s.heap.get? a = some o) (hex : o.ExactSet) (hd : o.data = .set es ep t) {es1 : Array (Int × Value)} {t2 : SetTable} {S' : List Str} (g1 : ∀ e ∈ es1.toList, TxE P w e) (nd1 : (es1.toList.map txE).Nodup) (m1 : ∀ k, k ∈ es1.toList.map txE ↔ k ∈ S')
    (hb1 : es1.size ≤ S'.length) (hS : S'.length < 64) (hf2 : t2.fits es1.size = true) (hr : Ris t2.place.toList) (hl : w.params.followText "set-order" = true ∨ t2.led = true) {wasDummy : Bool} {R : Option Bool → Shared → Prop}
    (hR : ∀ h', Heap.SameBut a s.heap h' → TSet P w h' a S' → R (some true) { s with heap := h' }) :
    wpAny (model P w) A (do
        storeSet a es1 t2
        if (!wasDummy && t2.tooFull) = true then do
            g (relayAll t2 es1 (SetTable.grown es1.size)).2.2
            storeSet a (relayAll t2 es1 (SetTable.grown es1.size)).1 (relayAll t2 es1 (SetTable.grown es1.size)).2.1
            pure (some true)
          else pure (some true)) R E s := by
  have scan : ∀ {n : Nat}, n ≤ S'.length → n < scanBound := fun q => Nat.lt_of_le_of_lt q (Nat.lt_trans hS (by decide))
  refine wpAny_bind (wpAny_storeSet_of ho hd ?_ (fits_of_scanBound (scan hb1)))
  have ho1 := store_at (es' := es1) (t' := t2) ho hd
  have sb1 := Heap.SameBut.update s.heap a (Obj.putSet es1 t2)
  split
  · have pm := relayAll_perm t2 es1 (SetTable.grown es1.size)
    have f3 := relayAll_fits t2 es1 (SetTable.grown es1.size)
    have r3 := relayAll_ris t2 es1 (SetTable.grown es1.size)
    have l3 := relayAll_led t2 es1 (SetTable.grown es1.size)
    generalize relayAll t2 es1 (SetTable.grown es1.size) = Z at pm f3 r3 l3 ⊢
    obtain ⟨es2, t3, gave⟩ := Z
    dsimp only at pm f3 r3 l3 ⊢
    have hsz : es2.size = es1.size := by simpa using pm.length_eq
    have hb2 : es2.size ≤ S'.length := hsz ▸ hb1
    refine wpAny_bind (hg _ _ _ (wpAny_bind (wpAny_storeSet_of ho1 rfl ?_ (fits_of_scanBound (scan hb2)))))
    have ho2 := store_at (es' := es2) (t' := t3) ho1 rfl
    refine wpAny_pure (hR _ (sb1.trans (Heap.SameBut.update _ a _)) ⟨_, es2, _, t3, ho2, hex, rfl, fun e he => g1 e (pm.mem_iff.mp he), (pm.map txE).nodup_iff.mpr nd1, fun k => (pm.map txE).mem_iff.trans (m1 k), hb2, hS, f3, r3, ?_⟩)
    exact hl.imp_right fun z => l3 ▸ z
  · exact wpAny_pure (hR _ sb1 ⟨_, es1, _, t2, ho1, hex, rfl, g1, nd1, m1, hb1, hS, hf2, hr, hl⟩)
/-- one text is put in -/
theorem tset_put {k : Str} {tk : Tok} {Q : Bool → Shared → Prop} (R : TSet P w s.heap a S) (room : S.length + 1 < 64) (hQ : ∀ b h', Heap.SameBut a s.heap h' → TSet P w h' a (S ++ [k]) → Q b { s with heap := h' }) :
    wpAny (model P w) A (setAddHashed a (.str k tk) ((PySem.strKind P w).hash k)) Q E s := by
  obtain ⟨o, es, ep, t, ho, hex, hd, g, nd, hm, hb, h64, hf, hr, hl⟩ := R
  have hkey : (PySem.strKind P w).is k (.str k tk) = true := strKind_is P w k tk
  have hel : ElemsOf (PySem.strKind P w) es.toList := txE_elems g
  have hbs : es.size < scanBound := Nat.lt_of_le_of_lt hb (Nat.lt_trans h64 (by decide))
  have hlen : (S ++ [k]).length = S.length + 1 := by rw [List.length_append]; rfl
  unfold setAddHashed setAddHashedIn
  refine wpAny_holding (wpAny_bind (wpAny_setState_of ho hd hf ?_))
  dsimp only
  rw [byScan_of (x := .str k tk) rfl hbs hel]
  simp only [↓reduceIte]
  unfold setAddByScan
  refine wpAny_bind (wpAny_bind (wpAny_rule (wpAny_bind (wpAny_setScan_of hkey ho hd hf hel ?_))))
  cases hfi : List.findIdx? (fun e => (PySem.strKind P w).is k e.2) es.toList with
  | some j =>
    dsimp only
    obtain ⟨hj, pj, _⟩ := List.findIdx?_eq_some_iff_getElem.mp hfi
    have hkS : k ∈ S := (hm k).1 ((txE_mem (P := P) (w := w) g k).2 ⟨es.toList[j], List.getElem_mem hj, pj⟩)
    refine wpAny_pure (wpAny_pure (hQ _ s.heap (Heap.SameBut.refl a s.heap) ⟨o, es, ep, t, ho, hex, hd, g, nd, fun i => (hm i).trans ?_, by omega, by omega, hf, hr, hl⟩))
    rw [List.mem_append, List.mem_singleton]
    exact ⟨.inl, fun z => z.elim id fun e => e ▸ hkS⟩
  | none =>
    dsimp only
    have hnk : k ∉ es.toList.map txE := fun z => by
      obtain ⟨e, he, q⟩ := (txE_mem (P := P) (w := w) g k).1 z
      have c := List.findIdx?_eq_none_iff.mp hfi e he
      rw [q] at c
      cases c
    have gaveway : ∀ (b : Bool) {s₁ : Shared} {Q' : Unit → Shared → Prop}, Q' () s₁ → wpAny (model P w) A (match b with | true => rule "set.scan.the-table-gave-way" | false => pure ()) Q' E s₁ :=
      fun b s₁ Q' q => by cases b <;> first | exact wpAny_pure q | exact wpAny_rule q
    have pm := layNew_perm t es ((PySem.strKind P w).hash k) (.str k tk)
    have f1 := layNew_fits t es ((PySem.strKind P w).hash k) (.str k tk)
    have r1 := layNew_ris t es ((PySem.strKind P w).hash k) (.str k tk) hr
    have l1 := layNew_led t es ((PySem.strKind P w).hash k) (.str k tk)
    generalize layNew t es ((PySem.strKind P w).hash k) (.str k tk) = Z at pm f1 r1 l1 ⊢
    obtain ⟨es1, t1, wasDummy, gave⟩ := Z
    dsimp only at pm f1 r1 l1 ⊢
    rw [Array.toList_push] at pm
    have pc : es1.toList.Perm (((PySem.strKind P w).hash k, Value.str k tk) :: es.toList) := pm.trans (List.perm_append_singleton _ _)
    have pk : (es1.toList.map txE).Perm (k :: es.toList.map txE) := pc.map txE
    have g1 : ∀ e ∈ es1.toList, TxE P w e := fun e he => (List.mem_cons.mp (pc.mem_iff.mp he)).elim (fun z => z ▸ ⟨k, tk, rfl, rfl⟩) (g e)
    have nd1 : (es1.toList.map txE).Nodup := pk.nodup_iff.mpr (List.nodup_cons.mpr ⟨hnk, nd⟩)
    have m1 : ∀ i, i ∈ es1.toList.map txE ↔ i ∈ S ++ [k] := fun i => by
      rw [pk.mem_iff, List.mem_cons, hm i, List.mem_append, List.mem_singleton]
      exact Or.comm
    have hsz : es1.size ≤ (S ++ [k]).length := by
      have q : es1.size = es.size + 1 := by simpa using pc.length_eq
      omega
    have h64' : (S ++ [k]).length < 64 := by omega
    have hled : w.params.followText "set-order" = true ∨ t1.led = true := hl.imp_right fun z => l1 ▸ z
    refine wpAny_bind (gaveway _ ?_)
    split
    · refine wpAny_bind ?_
      rw [hashByValue_scannable 8 (x := .str k tk) rfl]
      refine wpAny_pure (put_tail (fun b s₁ Q' q => ?_) ho hex hd g1 nd1 m1 hsz h64' ?_ ?_ ?_ fun h' sb r => ?_)
      · cases b <;> first | exact wpAny_pure q | exact wpAny_rule q
      · first | (split <;> first | exact f1 | exact SetTable.fits_plain_off f1) | exact f1
      · first | (split <;> exact r1) | exact r1
      · first | (split <;> exact hled) | exact hled
      · dsimp only
        exact wpAny_pure (hQ _ h' sb r)
    · refine wpAny_bind (wpAny_pure ?_)
      simp only [↓reduceIte]
      refine put_tail (fun b s₁ Q' q => ?_) ho hex hd g1 nd1 m1 hsz h64' f1 r1 hled fun h' sb r => ?_
      · cases b <;> first | exact wpAny_pure q | exact wpAny_rule q
      · dsimp only
        exact wpAny_pure (hQ _ h' sb r)
end
end Dr
namespace Dr
open PySem PySem.Spec PyProof.Rows L2
section
variable {P : Program} {w : World} {A : Around} {E : Value → Shared → Prop} {s : Shared}
theorem fill_loop {I : Addr} {fp wr : List Addr} {G : Array GenState → Array GenState → Prop} {n : Nat} {Pv : Nat → Value → Prop} {St : Nat → Shared → Prop} {R : Result → Shared → Prop} (W : WalksS P w A.in1 I fp wr G n Pv St) (D : Addr) (hD : D ∉ fp) (xs : List Str) (hn : n = xs.length) (hf : xs.length < 63)
    (hval : ∀ i v, Pv i v → ∃ x t, xs[i]? = some x ∧ v = .str x t) :
    ∀ (k i : Nat) (s : Shared), n - i = k → i ≤ n → St i s → TSet P w s.heap D (xs.take i) → (∀ s', Moved (D :: wr) G s s' → TSet P w s'.heap D xs → R (.ok (.ret .none)) s') →
      codeAny (model P w) A (.builtin "set.update.loop" ⟨[.ref D, .ref I], []⟩) R s := by
  have hDw : D ∉ wr := fun h => hD (W.sub _ h)
  have hsub : ∀ b ∈ wr, b ∈ D :: wr := fun b hb => List.mem_cons_of_mem _ hb
  intro k
  induction k with
  | zero =>
    intro i s hk hi hst hS hR
    obtain rfl : i = n := by omega
    refine codeAny_builtin F.entry_set_update_loop ?_
    rw [Around.under_plainId F.plain_set_update_loop _]
    show wpAny _ A.in1 (pyNext (.ref I) >>= _) _ _ s
    refine wpAny_bind (W.done s _ _ hst fun s' hm => wpAny_pure (hR s' (hm.mono hsub) ?_))
    rw [hn, List.take_length] at hS
    exact hS.go fun o e => hm.heap D o hDw e
  | succ k ih =>
    intro i s hk hi hst hS hR
    have hlt : i < n := by omega
    refine codeAny_builtin F.entry_set_update_loop ?_
    rw [Around.under_plainId F.plain_set_update_loop _]
    show wpAny _ A.in1 (pyNext (.ref I) >>= _) _ _ s
    refine wpAny_bind (W.item i s _ _ hlt hst fun v s' hP hst' hm => ?_)
    obtain ⟨x, t, hx, rfl⟩ := hval i v hP
    have hS' : TSet P w s'.heap D (xs.take i) := hS.go fun o e => hm.heap D o hDw e
    show wpAny _ A.in1 (PySem.holding [Value.str x t] (setAdd D (.str x t)) >>= _) _ _ s'
    refine wpAny_bind (wpAny_holding ?_)
    unfold setAdd
    refine wpAny_holding (wpAny_bind ((PySem.strKind P w).pyHash (k := x) (strKind_is _ _ _ _) ?_))
    have htk : (xs.take i).length = i := by
      rw [List.length_take]
      omega
    refine tset_put (s := { s' with toks := s'.toks + 1 }) hS' (by omega) fun b h' sb hS2 => ?_
    rw [show xs.take i ++ [x] = xs.take (i + 1) by rw [List.take_add_one, hx]; rfl] at hS2
    have other : ∀ {c : Addr} {o : Obj}, c ≠ D → s'.heap.get? c = some o → h'.get? c = some o := fun hc e => (sb.2 _ hc).trans e
    refine wpAny_pure ⟨plainId_quiet F.plain_set_update_loop _, ih (i + 1) _ (by omega) hlt (W.frame _ s' _ _ hst' (Nat.le_succ _) fun c hc o e => other (fun z => hD (z ▸ hc)) e) hS2 fun s3 hm3 hS3 => ?_⟩
    exact hR s3 (Moved.trans W.gtrans ((hm.mono hsub).then_heap (Nat.le_succ _) fun c o hc e => other (fun z => hc (z ▸ List.mem_cons_self)) e) hm3) hS3
set_option maxHeartbeats 8000000 in
/-- set(xs) of a list of texts -/
theorem call_setS {l : Addr} {items : Array Value} {xs : List Str} {Q : Value → Shared → Prop} (hh : A.handled = none) (hl : s.heap.IsList l items) (hi : PyProof.Rows.StrsAre items.toList xs) (hf : xs.length < 63)
    (h : ∀ (h' : Heap) (tk : Nat), TSet P w h' s.heap.objs.size xs → (∀ b o, s.heap.get? b = some o → h'.get? b = some o) → Q (.ref s.heap.objs.size) { s with heap := h', toks := tk }) :
    wpAny (model P w) A (call (.type "set") [.ref l]) Q E s := by
  have hisz : items.size = xs.length := by rw [← StrsAre.len_eq hi, Array.length_toList]
  obtain ⟨c, tl, hmro⟩ := F.called_set.mro
  have hmade := F.called_set.made
  have hsub := F.called_set.sub
  refine wpAny_call (codeAny_of_tree (show wpAny _ _ (callAny (.type "set") _) _ _ _ from wpAny_pure ⟨Code.quiet_builtin _ (by decide +kernel), codeAny_builtin F.entry_type_call ?_⟩))
  rw [Around.under_plain (weight_type_call_type "set" [.ref l] []) rfl]
  have h1 := F.called_set.notType
  have h2 := F.called_set.canCreate
  have hct := F.typeCall_set_1 (.ref l)
  repeat (any_goals (first | assumption | wp_step))
  refine codeAny_mono (code_set_led1 (.ref l) (E := E) (Q₁ := fun obj s₁ => obj = .ref s.heap.objs.size ∧ s₁ = { s with heap := s.heap.push (setObj w) }) ⟨rfl, rfl⟩) fun r s₁ hr => ?_
  cases r with
  | error e => exact hr
  | ok fl =>
    cases fl with
    | next => exact hr.elim
    | brk => exact hr.elim
    | cont => exact hr.elim
    | ret obj =>
      obtain ⟨rfl, rfl⟩ := hr
      have hS : (s.heap.push (setObj w)).get? s.heap.objs.size = some (setObj w) := Heap.get?_push_size _ rfl
      have hT : Shared.TypeIs { s with heap := s.heap.push (setObj w) } (.ref s.heap.objs.size) "set" := ⟨_, hS, rfl⟩
      have hli := F.called_set.init.lookup
      have hbi := F.called_set.init.bind (.ref s.heap.objs.size)
      repeat (any_goals (first | assumption | wp_step))
      refine codeAny_mono (codeAny_call_builtin (R := wants (fun r s₂ => r = .none ∧ ∃ h' tk, s₂ = { s with heap := h', toks := tk } ∧ TSet P w h' s.heap.objs.size xs ∧ (∀ b o, s.heap.get? b = some o → h'.get? b = some o)) E) F.called_set.init.plain F.entry_set_init (check_set_init_1 hT ?_)) fun r₂ s₂ hr₂ => ?_
      · obtain ⟨⟨ocls, odict, odata, oslots⟩, hol, hcl, nl, hdl⟩ := hl
        simp only at hcl hdl
        subst hcl
        subst hdl
        have hol' : (s.heap.push (setObj w)).get? l = some { cls := .type "list", dict := odict, data := .seq items nl, slots := oslots } := Heap.get?_push_of_some _ hol
        have hsls := F.sub_list_set
        have hslf := F.sub_list_frozenset
        have hne : (Value.type "list" == Value.type "dict") = false := by decide
        have hl1 : (s.heap.push (setObj w)).IsList l items := ⟨_, hol', rfl, nl, rfl⟩
        unfold Builtin.«set.__init__» noKeywords Builtin.Frozenset.updateFrom
        generalize hPI : pyIter = PI
        wp_walk
        subst hPI
        refine wpAny_pyIter_list hl1 (wpAny_bind (wpAny_runValue ?_))
        have hlS : l < s.heap.objs.size := Heap.lt_size hol
        have hh3 : A.in1.in1.in1.handled = none := by simp [hh]
        have hz : (s.heap.push (setObj w)).objs.size = s.heap.objs.size + 1 := Heap.size_push ..
        have hneI : l ≠ (s.heap.push (setObj w)).objs.size := by
          rw [hz]
          exact Nat.ne_of_lt (Nat.lt_succ_of_lt hlS)
        have hSf : s.heap.objs.size ∉ [(s.heap.push (setObj w)).objs.size, l] := by
          rw [hz]
          simp only [List.mem_cons, List.not_mem_nil, or_false, not_or]
          exact ⟨Nat.ne_of_lt (Nat.lt_succ_self _), (Nat.ne_of_lt hlS).symm⟩
        have hval : ∀ (i : Nat) (v : Value), items[i]? = some v → ∃ x t, xs[i]? = some x ∧ v = .str x t := fun i v hv => by
          obtain ⟨y, t, e1, e2⟩ := StrsAre.item hi i v (by rw [Array.getElem?_toList]; exact hv)
          exact ⟨y, t, e2, e1⟩
        refine fill_loop ((Walks.list hh3 _ l hneI items).toS) s.heap.objs.size hSf xs hisz hf hval (items.size - 0) 0 _ (by omega) (Nat.zero_le _) ⟨⟨_, Heap.get?_push_size _ rfl, rfl, rfl⟩, (hl1.push _)⟩ ?hS0 ?hR
        case hS0 => exact (tset_new (P := P) (h := s.heap)).go fun o e => Heap.get?_push_of_some _ e
        case hR =>
          intro s' hm hS'
          obtain ⟨h', g2, d', tk', os'⟩ := s'
          obtain rfl : g2 = s.gens := hm.gens
          obtain rfl : d' = s.drawn := hm.drawn
          obtain rfl : os' = s.os := hm.os
          show wpAny _ _ _ _ _ _
          refine wpAny_pure (show wpAny _ _ (ret Value.none) _ _ _ from wpAny_pure ⟨rfl, h', tk', rfl, hS', fun b o e => ?_⟩)
          have hlt : b < s.heap.objs.size := Heap.lt_size e
          refine hm.heap b o ?_ (Heap.get?_push_of_some _ (Heap.get?_push_of_some _ e))
          rw [hz]
          simp only [List.mem_cons, List.not_mem_nil, or_false, not_or]
          exact ⟨Nat.ne_of_lt hlt, Nat.ne_of_lt (Nat.lt_succ_of_lt hlt)⟩
      · cases r₂ with
        | error e => exact hr₂
        | ok fl₂ =>
          cases fl₂ with
          | next => exact hr₂.elim
          | brk => exact hr₂.elim
          | cont => exact hr₂.elim
          | ret r =>
            obtain ⟨rfl, h', tk, rfl, hS', hk'⟩ := hr₂
            repeat (any_goals (first | assumption | wp_step))
            exact h _ _ hS' hk'
/-- sorted(set) -/
theorem sorted_tset {a : Addr} {S : List Str} {Q : Value → Shared → Prop} (R : TSet P w s.heap a S) (hh : A.handled = none)
    (hQ : ∀ s' p (out : Array Value) (c : Nat) (ys : List Str), (∀ b o, s.heap.get? b = some o → s'.heap.get? b = some o) → s'.gens = s.gens → s'.os = s.os → s.heap.objs.size ≤ p → s'.heap.get? p = some (seqObj "list" out c) → PyProof.Rows.StrsAre out.toList ys → ys.Nodup → (∀ k, k ∈ ys ↔ k ∈ S) → sortedS ys = true → ys.length ≤ S.length → Q (.ref p) s') :
    wpAny (model P w) A (call (.builtin "sorted") [.ref a]) Q E s := by
  obtain ⟨o, es, ep, t, ho, hex, hd, g, nd, hm, hb, h64, hf, hr, hl⟩ := R
  refine Calls.call_function_entry kind_sorted plain_sorted entry_sorted (args_sorted1 _) ?_
  unfold Builtin.«sorted»
  refine wpAny_bind (m := checkCount "sorted" 1 1 _) (wpAny_pure (wpAny_bind (collect_set (A := A.in1) hh ⟨o, ho, hex.1, hd⟩ hf (Nat.lt_of_le_of_lt hb (Nat.lt_trans h64 (by decide))) hr hl fun s1 vs k1 hz g1 o1 pm => ?_)))
  have hvl : vs.length ≤ S.length := by
    rw [pm.length_eq, List.length_map, Array.length_toList]
    exact hb
  have hI : StrsAre vs (vs.map strOf) := strsAre_map vs fun v hv => by
    obtain ⟨e, he, rfl⟩ := List.mem_map.mp (pm.mem_iff.mp hv)
    obtain ⟨x, t, q, _⟩ := g e he
    exact ⟨x, t, q⟩
  have pk : (vs.map strOf).Perm (es.toList.map txE) := by
    have q := pm.map strOf
    rw [List.map_map] at q
    exact q
  refine wpAny_bind (wpAny_newList ?_ (by rw [sizeLine_eq]; omega))
  have hoL : (s1.heap.push (seqObj "list" vs.toArray 0)).get? s1.heap.objs.size = some (seqObj "list" vs.toArray 0) := Heap.get?_push_size _ rfl
  refine wpAny_bind (wpAny_holding (wpAny_call_entry slot_list_sort ⟨_, hoL, rfl⟩ entry_list_sort (list_sort_treeK strKind_oneLt hoL hI.keysOf (fun v₁ v₂ rest e => keyKind_strs (by rw [← e]; exact hI)) (by omega) fun st' hp hs => ⟨_, rfl, ?_⟩) (args_list_sort _)))
  obtain ⟨ys, e1, e2, e3⟩ := sorted_out_str hI hp hs
  obtain ⟨c, hc⟩ := sortedHeap_at (vs := vs) (out := (arrOf st').map (·.2)) hoL
  have pn : ys.Perm (es.toList.map txE) := e2.trans pk
  refine wpAny_pure ⟨_, rfl, hQ _ s1.heap.objs.size _ c ys (fun b u e => ?_) g1 o1 hz hc e1 (pn.nodup_iff.mpr nd) (fun k => pn.mem_iff.trans (hm k)) e3 ?_⟩
  · have q := k1 b u e
    have hlt := Heap.lt_size q
    show (sortedHeap (s1.heap.push (seqObj "list" vs.toArray 0)) s1.heap.objs.size vs _).get? b = some u
    rw [sortedHeap_old (Nat.ne_of_lt hlt) (by rw [size_push']; exact Nat.lt_succ_of_lt hlt)]
    exact Heap.get?_push_of_some _ q
  · rw [pn.length_eq, List.length_map, Array.length_toList]
    exact hb
end
/-- the set of texts at a -/
def TSetO (P : Program) (w : World) (a : Addr) (S : List Str) : HO := .ext fun h => TSet P w h a S
section
variable {X : Cx}
theorem tsetO_new {P : Program} {w : World} {H : Hp} {h : Heap} {a : Addr} {S : List Str} (R : TSet P w h a S) : ObjOk P w H h a (TSetO P w a S) := by
  have ⟨o, _, _, _, ho, _⟩ := R
  exact ⟨R, ⟨o, ho⟩, fun h1 h2 p k => TSet.go p k⟩
/-- set(xs), xs a list of texts -/
def rSetS (K : PySem.W.Frag) (P : Program) (w : World) : List V → Hp → VK → Prop := fun vs H Q => ∃ (l : Addr) (xs : List Str), vs = [V.ref l] ∧ SqL K H l (xs.map V.str) ∧ xs.length < 63 ∧ ∀ a, H a = none → Q (.ref a) (upd H a (TSetO P w a xs))
theorem cr_setS (hc : X.calm = true) : CallR X (.type "set") (rSetS X.K X.prog X.w) := by
  intro pins s σ H vs us Q I r h
  obtain ⟨l, xs, rfl, hl, hf, q⟩ := h
  rw [Vals.ref1 r]
  obtain ⟨its, rv, pl, hz⟩ := I.list hl
  refine call_setS (P := X.prog) (w := X.w) (I.ok.hd hc) pl.isList (by simpa using rv.strs) hf fun h' tk R k => ?_
  exact ⟨.ref s.heap.objs.size, upd H s.heap.objs.size (TSetO X.prog X.w s.heap.objs.size xs), I.laid (t' := tk) k (Nat.le_refl _) (tsetO_new R), rfl, q _ (I.hok.fresh (Nat.le_refl _))⟩
/-- sorted(set), a set of texts -/
def rSortTS (P : Program) (w : World) : List V → Hp → VK → Prop := fun vs H Q => ∃ (a : Addr) (S : List Str), vs = [V.ref a] ∧ H a = some (TSetO P w a S) ∧ ∀ (ys : List Str) (p : Addr), ys.Nodup → (∀ k, k ∈ ys ↔ k ∈ S) → sortedS ys = true → ys.length ≤ S.length → H p = none → Q (.ref p) (upd H p (.lst (ys.map V.str)))
theorem cr_sortTS (hc : X.calm = true) : CallR X (.builtin "sorted") (rSortTS X.prog X.w) := by
  intro pins s σ H vs us Q I r h
  obtain ⟨a, S, rfl, ha, q⟩ := h
  have R : TSet X.prog X.w s.heap a S := (I.hok a _ ha).1
  have h64 : S.length < 64 := by
    obtain ⟨_, _, _, _, _, _, _, _, _, _, _, h64, _⟩ := R
    exact h64
  rw [Vals.ref1 r]
  refine sorted_tset R (I.ok.hd hc) fun s' p out c ys k g o hp hg e1 nd hm so hlen => ?_
  have hn : H p = none := I.hok.fresh hp
  have hsz : (ys.map V.str).length ≤ sizeLine := by
    rw [List.length_map, sizeLine_eq]
    omega
  have J : Inv X pins σ (upd H p (.lst (ys.map V.str))) { s with heap := s'.heap, gens := s'.gens, drawn := s'.drawn, toks := s'.toks } :=
    I.call (ch := []) (Un.laid k hp hn) (I.hok.laid k hp ⟨hsz, out.toList, c, vals_of_strs e1, hg⟩) (by rw [g]; exact I.bare) (fun _ z => nomatch z)
  have e : s' = { s with heap := s'.heap, gens := s'.gens, drawn := s'.drawn, toks := s'.toks } := by
    cases s'
    cases s
    cases o
    rfl
  rw [e]
  exact ⟨.ref p, _, J, rfl, q ys p nd hm so hlen hn⟩
end
end Dr
namespace Dr
open PySem PySem.Spec PyProof.Rows L2
section
variable {P : Program} {w : World} {κ : Type} [DecidableEq κ] {knd : KeyKind P w κ} {A : Around} {E : Value → Shared → Prop} {s : Shared}
theorem ofAClass_byv : ∀ (n : Nat) {v : Value}, carriedByValue v = true → ofAClassStatement n v = pure false
  | n, .ref _, h => by cases h
  | 0, .none, _ | 0, .bool _, _ | 0, .int .., _ | 0, .float .., _ | 0, .str .., _ | 0, .bytes .., _ | 0, .ellipsis, _ | 0, .notImplemented, _ | 0, .type _, _ | 0, .builtin _, _ => rfl
  | _ + 1, .none, _ | _ + 1, .bool _, _ | _ + 1, .int .., _ | _ + 1, .float .., _ | _ + 1, .str .., _ | _ + 1, .bytes .., _ | _ + 1, .ellipsis, _ | _ + 1, .notImplemented, _ | _ + 1, .type _, _ | _ + 1, .builtin _, _ => rfl
theorem hashBy_byv : ∀ (n : Nat) {v : Value}, carriedByValue v = true → ∃ b, hashByValue n v = pure b
  | n, .ref _, h => by cases h
  | 0, .none, _ | 0, .bool _, _ | 0, .int .., _ | 0, .float .., _ | 0, .str .., _ | 0, .bytes .., _ | 0, .ellipsis, _ | 0, .notImplemented, _ | 0, .type _, _ | 0, .builtin _, _ => ⟨_, rfl⟩
  | _ + 1, .none, _ | _ + 1, .bool _, _ | _ + 1, .int .., _ | _ + 1, .float .., _ | _ + 1, .str .., _ | _ + 1, .bytes .., _ | _ + 1, .ellipsis, _ | _ + 1, .notImplemented, _ | _ + 1, .type _, _ | _ + 1, .builtin _, _ => ⟨_, rfl⟩
theorem ofAClass_tk {ks : List κ} {b : Addr} {Q : Bool → Shared → Prop} (hk : IsTupleKey knd s.heap ks b) (q : Q false s) : wpAny (model P w) A (ofAClassStatement 8 (.ref b)) Q E s := by
  have ty := hk.typeIs
  obtain ⟨o, its, n, ho, _, hd, hi⟩ := hk
  unfold ofAClassStatement
  refine wpAny_bind (wpAny_typeOf ty ?_)
  dsimp only
  rw [show (("tuple" : String) == "tuple") = true from by decide]
  simp only [if_true, Bool.not_true, Bool.false_eq_true, if_false]
  try refine wpAny_bind (wpAny_pure ?_)
  try simp only [Bool.not_true, Bool.false_eq_true, if_false]
  refine wpAny_bind (show wpAny _ _ (seqItems? (.ref b)) _ _ s from wpAny_seqItems ho hd ?_)
  dsimp only
  refine wpAny_bind (show wpAny _ _ (forIn its _ _) _ _ s from ?_)
  rw [← Array.forIn_toList]
  refine wpAny_forIn_list _ (fun rest r s' => r.1 = none ∧ s' = s ∧ ∀ v ∈ rest, carriedByValue v = true) _ (fun v rest r s' z => ?_) (fun r s' z => ?_) _ _ ⟨rfl, rfl, hi.byValue⟩
  · obtain ⟨hr, rfl, all⟩ := z
    rw [ofAClass_byv _ (all v List.mem_cons_self)]
    refine wpAny_bind (wpAny_pure ?_)
    simp only [Bool.false_eq_true, if_false]
    exact wpAny_pure ⟨rfl, rfl, fun u hu => all u (List.mem_cons_of_mem _ hu)⟩
  · obtain ⟨r1, r2⟩ := r
    obtain ⟨hr, rfl, _⟩ := z
    simp only at hr
    subst hr
    exact wpAny_pure q
theorem hashBy_tk {ks : List κ} {b : Addr} {Q : Bool → Shared → Prop} (hk : IsTupleKey knd s.heap ks b) (q : ∀ z, Q z s) : wpAny (model P w) A (hashByValue 8 (.ref b)) Q E s := by
  have ty := hk.typeIs
  obtain ⟨o, its, n, ho, _, hd, hi⟩ := hk
  unfold hashByValue
  refine wpAny_bind (wpAny_specialOf ty F.slot_tuple_hash.lookup ?_)
  refine wpAny_bind (show wpAny _ _ (seqItems? (.ref b)) _ _ s from wpAny_seqItems ho hd ?_)
  refine wpAny_bind (show wpAny _ _ (forIn its _ _) _ _ s from ?_)
  rw [← Array.forIn_toList]
  refine wpAny_forIn_list _ (fun rest r s' => s' = s ∧ ∀ v ∈ rest, carriedByValue v = true) _ (fun v rest r s' z => ?_) (fun r s' z => ?_) _ _ ⟨rfl, hi.byValue⟩
  · obtain ⟨rfl, all⟩ := z
    obtain ⟨b, e⟩ := hashBy_byv 7 (all v List.mem_cons_self)
    rw [e]
    refine wpAny_bind (wpAny_pure ?_)
    cases b
    · simp only [Bool.not_false, if_true]
      refine wpAny_pure ?_
      exact wpAny_pure (q _)
    · simp only [Bool.not_true, Bool.false_eq_true, if_false]
      exact wpAny_pure ⟨rfl, fun u hu => all u (List.mem_cons_of_mem _ hu)⟩
  · obtain ⟨r1, r2⟩ := r
    obtain ⟨rfl, _⟩ := z
    cases r1
    · exact wpAny_pure (q _)
    · exact wpAny_pure (q _)
/-- a search among such tuples shows nothing -/
theorem unseen_tk {ks : List κ} {b : Addr} {Q : Bool → Shared → Prop} (hk : IsTupleKey knd s.heap ks b) {ys : List Value} (hy : ∀ y ∈ ys, ∃ js c, y = Value.ref c ∧ IsTupleKey knd s.heap js c) (q : Q false s) : wpAny (model P w) A (searchCouldBeSeen (.ref b) ys) Q E s := by
  unfold searchCouldBeSeen
  refine wpAny_bind (wpAny_forIn_list _ (fun rest r s' => r.1 = none ∧ s' = s ∧ ∀ y ∈ rest, y ∈ ys) _ (fun v rest r s' z => ?_) (fun r s' z => ?_) _ _ ⟨rfl, rfl, fun _ h => h⟩)
  · obtain ⟨hr, rfl, all⟩ := z
    obtain ⟨js, c, rfl, hc⟩ := hy v (all v List.mem_cons_self)
    have go : ∀ y ∈ rest, y ∈ ys := fun y h => all y (List.mem_cons_of_mem _ h)
    dsimp only
    by_cases very : (b == c || (carriedByValue (.ref b) && carriedByValue (.ref c))) = true
    · exact wp_if_pos very (wpAny_pure ⟨rfl, rfl, go⟩)
    · refine wp_if_neg very (wpAny_bind (wpAny_eqIsQuiet_tuple hk ?_))
      simp only [Bool.not_true, Bool.false_eq_true, if_false]
      refine wpAny_bind (wpAny_eqIsQuiet_tuple hc ?_)
      simp only [Bool.not_true, Bool.false_eq_true, if_false]
      refine wpAny_bind (ofAClass_tk hk ?_)
      simp only [Bool.false_eq_true, if_false]
      refine wpAny_bind (ofAClass_tk hc ?_)
      simp only [Bool.false_eq_true, if_false]
      exact wpAny_pure ⟨rfl, rfl, go⟩
  · obtain ⟨r1, r2⟩ := r
    obtain ⟨hr, rfl, _⟩ := z
    simp only at hr
    subst hr
    exact wpAny_pure q
/-- an entry: where the tuple stands, and its keys -/
abbrev Ent (κ : Type) := Addr × List κ
def entH (knd : KeyKind P w κ) (e : Ent κ) : Int := tupleKeyHash knd e.2
def entR (knd : KeyKind P w κ) (e : Ent κ) : Int × Value := (entH knd e, Value.ref e.1)
structure USet (knd : KeyKind P w κ) (h : Heap) (a : Addr) (L : List (Ent κ)) (es : Array (Int × Value)) (ep : Nat) (t : SetTable) : Prop where
  at_ : ∃ o, h.get? a = some o ∧ o.ExactSet ∧ o.data = .set es ep t
  has : es.toList = L.map (entR knd)
  tab : TabOk t (L.map (entH knd))
  one : (L.map Prod.snd).Nodup
  tks : ∀ e ∈ L, IsTupleKey knd h e.2 e.1
  led : w.params.followText "set-order" = true ∨ t.led = true
  gap : L.length * 5 < t.mask * 3
  few : L.length ≤ 16
variable {a : Addr} {L : List (Ent κ)} {es : Array (Int × Value)} {ep : Nat} {t : SetTable}
theorem has_len (h : es.toList = L.map (entR knd)) : es.size = L.length := by
  rw [← Array.length_toList, h, List.length_map]
theorem tab_len (T : TabOk t (L.map (entH knd))) : t.place.size = L.length := by rw [T.sz, List.length_map]
theorem fits_of (T : TabOk t (L.map (entH knd))) (h : es.toList = L.map (entR knd)) (g : L.length ≤ t.mask) : t.fits es.size = true := by
  have h1 := tab_len T
  have h2 := has_len h
  have h3 : t.dummies.size = 0 := by rw [T.dm]; rfl
  show (t.place.size == es.size && decide (t.place.size + t.dummies.size ≤ t.mask)) = true
  rw [h1, h2, h3, beq_self_eq_true, Bool.true_and]
  exact decide_eq_true g
theorem USet.fits (U : USet knd s.heap a L es ep t) : t.fits es.size = true := fits_of U.tab U.has (by have := U.gap; omega)
theorem has_get (h : es.toList = L.map (entR knd)) {i : Nat} {e : Ent κ} (g : L[i]? = some e) : es[i]? = some (entR knd e) := by
  rw [← Array.getElem?_toList, h, List.getElem?_map, g]
  rfl
/-- the c-th probe for a hash -/
abbrev prb (t : SetTable) (h : Int) (c : Nat) : SetTable.Probe := nth t.mask (runAt t.mask (SetTable.bits h % (t.mask + 1)) (SetTable.bits h)) c
theorem prb_dummy (t : SetTable) (h : Int) (c : Nat) : (prb t h c).dummy = none := by
  have go : ∀ (n : Nat) (p : SetTable.Probe), p.dummy = none → (nth t.mask p n).dummy = none := fun n => by
    induction n with
    | zero => exact fun _ z => z
    | succ n ih =>
      refine fun p z => ih _ ?_
      unfold adv
      split <;> exact z
  exact go c _ rfl
/-- from the c-th probe on, with the first free slot at the K-th -/
theorem seek_tk (U : USet knd s.heap a L es ep t) {x : Addr} {ks : List κ} (hx : IsTupleKey knd s.heap ks x) (hu : A.units < cLine) {K : Nat} (hK10 : K < 10 * SetTable.turns t.mask)
    (free : way t.mask (tupleKeyHash knd ks) K ∉ t.place.toList) (busy : ∀ c, c < K → way t.mask (tupleKeyHash knd ks) c ∈ t.place.toList) {Q : SetFound → Shared → Prop}
    (qin : ks ∈ L.map Prod.snd → Q (.there none) s) (qout : ks ∉ L.map Prod.snd → Q (.free (way t.mask (tupleKeyHash knd ks) K) false) s) :
    ∀ (f c : Nat) (stand : Option SetTable.Probe), stand.getD (t.probeStart (tupleKeyHash knd ks)) = prb t (tupleKeyHash knd ks) c → c ≤ K → K < f + c →
      (∀ (i : Nat) (e : Ent κ), L[i]? = some e → e.2 = ks → ∃ d, c ≤ d ∧ d < K ∧ t.place.toList[i]? = some (way t.mask (tupleKeyHash knd ks) d)) →
      wpAny (model P w) A (setSearchFrom a (.ref x) (tupleKeyHash knd ks) true f stand) Q E s := by
  obtain ⟨o, ho, hex, hd⟩ := U.at_
  have fit := U.fits
  generalize hh : tupleKeyHash knd ks = h at free busy qout ⊢
  intro f
  induction f with
  | zero => exact fun c _ _ h1 h2 _ => absurd h2 (by omega)
  | succ f ih =>
    intro c stand hst hc hf later
    rw [setSearchFrom_succ]
    refine wpAny_bind (wpAny_setState_of ho hd fit ?_)
    dsimp only
    refine wp_if_neg (by unfold SetTable.gaveWay; rw [mask_odd U.tab.mok]; decide) ?_
    try refine wpAny_bind (wpAny_pure ?_)
    have on : ∀ q, nth t.mask (prb t h c) q = prb t h (c + q) := fun q => (nth_add t.mask c _ q).symm
    have onj : ∀ q, (nth t.mask (prb t h c) q).j = way t.mask h (c + q) := fun q => congrArg SetTable.Probe.j (on q)
    have hashes : ∀ (i : Nat) (e : Ent κ), L[i]? = some e → ((es[i]?.map (·.1)).getD 0) = entH knd e := fun i e g => by
      rw [has_get U.has g]
      rfl
    have skipped : ∀ {n : Nat}, (∀ k' i' : Nat, k' < n → t.place.toList[i']? = some (nth t.mask (prb t h c) k').j → (es[i']?.map (·.1)).getD 0 ≠ h) → ∀ (i : Nat) (e : Ent κ) (d : Nat), L[i]? = some e → e.2 = ks → c ≤ d → t.place.toList[i]? = some (way t.mask h d) → c + n ≤ d := fun {n} no i e d g ek cd at_ => by
      refine Nat.le_of_not_lt fun lt => no (d - c) i (by omega) ?_ ?_
      · rw [onj, show c + (d - c) = d by omega]
        exact at_
      · rw [hashes i e g]
        show tupleKeyHash knd e.2 = h
        rw [ek, hh]
    rcases go_spec t U.tab.ris U.tab.dm (fun i => (es[i]?.map (·.1)).getD 0) h (10 * SetTable.turns t.mask) (K - c) (prb t h c) (prb_dummy t h c) (by omega) (fun q (hq : q < K - c) => by rw [onj]; exact busy _ (by omega)) (by rw [onj, show c + (K - c) = K by omega]; exact free) with ⟨q, i, q1, q2, q3, q4, met⟩ | ⟨q4, met⟩
    · rw [onj] at q2
      have met : t.probe (fun i => (es[i]?.map (·.1)).getD 0) h (stand.getD (t.probeStart h)) = some (.candidate (way t.mask h (c + q)) i (prb t h (c + (q + 1)))) := by
        rw [hst, ← onj, ← on]
        exact met
      rw [met]
      dsimp only
      have il : i < L.length := by
        have h1 := (List.getElem?_eq_some_iff.mp q2).1
        rw [Array.length_toList, tab_len U.tab] at h1
        exact h1
      obtain ⟨e, he⟩ : ∃ e, L[i]? = some e := ⟨_, List.getElem?_eq_getElem il⟩
      have slot : t.slot (way t.mask h (c + q)) = .live i := slot_live U.tab.ris q2
      have after : wpAny (model P w) A (searchRest a (.ref x) h true f es t (way t.mask h (c + q)) i (prb t h (c + (q + 1)))) Q E s := by
        unfold searchRest
        rw [has_get U.has he]
        show wpAny (model P w) A (PySem.holding [Value.ref e.1] (eqBool (Value.ref e.1) (Value.ref x)) >>= _) Q E s
        refine wpAny_bind (wpAny_holding (wpAny_eqBool_tuple hu (U.tks e (List.mem_of_getElem? he)) hx (wpAny_bind (wpAny_setState_of ho hd fit ?_))))
        dsimp only
        by_cases same : e.2 = ks
        · exact wp_if_pos (by rw [decide_eq_true same]; rfl) (wpAny_pure (qin (List.mem_map.mpr ⟨e, List.mem_of_getElem? he, same⟩)))
        · refine wp_if_neg (by rw [decide_eq_false same]; decide) ?_
          try refine wpAny_bind (wpAny_pure ?_)
          rw [sameMem]
          dsimp only
          simp only [if_true, slot, has_get U.has he]
          refine wpAny_bind (wpAny_isSame_ref_self (wpAny_bind (wpAny_pure ?_)))
          simp only [if_true]
          refine wp_if_neg (by rw [decide_eq_false same]; decide) (ih (c + (q + 1)) _ rfl (by omega) (by omega) fun i2 e2 g ek => ?_)
          obtain ⟨d, d1, d2, d3⟩ := later i2 e2 g ek
          have d4 := skipped q4 i2 e2 d g ek d1 d3
          refine ⟨d, ?_, d2, d3⟩
          rcases Nat.lt_or_ge (c + q) d with lt | ge
          · omega
          · have ed : d = c + q := by omega
            rw [ed] at d3
            have s2 := slot_live U.tab.ris d3
            rw [slot] at s2
            injection s2 with s2
            subst s2
            rw [he] at g
            obtain rfl := Option.some.inj g
            exact absurd ek same
      by_cases led : t.led = true
      · refine wp_if_neg (by rw [led]; decide) ?_
        try refine wpAny_bind (wpAny_pure ?_)
        exact after
      · refine wp_if_pos (by rw [eq_false_of_ne_true led]; rfl) (wpAny_bind (unseen_tk (knd := knd) hx (fun y hy => ?_) ?_))
        · obtain ⟨r, hr, rfl⟩ := List.mem_map.mp hy
          have hr : r ∈ es.toList := by
            have z : r ∈ es ∧ r.1 = h := by simpa using hr
            simpa using z.1
          rw [U.has] at hr
          obtain ⟨e2, m2, rfl⟩ := List.mem_map.mp hr
          exact ⟨e2.2, e2.1, rfl, U.tks e2 m2⟩
        · refine wp_if_neg (by decide) ?_
          try refine wpAny_bind (wpAny_pure ?_)
          exact after
    · have met : t.probe (fun i => (es[i]?.map (·.1)).getD 0) h (stand.getD (t.probeStart h)) = some (.empty (way t.mask h K) none) := by
        rw [hst, show way t.mask h K = (nth t.mask (prb t h c) (K - c)).j by rw [onj, show c + (K - c) = K by omega]]
        exact met
      rw [met]
      dsimp only
      refine wpAny_pure (qout fun m => ?_)
      obtain ⟨e, me, ek⟩ := List.mem_map.mp m
      obtain ⟨i, il, ei⟩ := List.getElem_of_mem me
      have g : L[i]? = some e := by rw [List.getElem?_eq_getElem il, ei]
      obtain ⟨d, d1, d2, d3⟩ := later i e g ek
      have := skipped q4 i e d g ek d1 d3
      omega
end
end Dr
namespace Dr
open PySem PySem.Spec PyProof.Rows L2
section
variable {P : Program} {w : World} {κ : Type} [DecidableEq κ] {knd : KeyKind P w κ} {A : Around} {E : Value → Shared → Prop} {s : Shared}
variable {a : Addr} {L : List (Ent κ)} {es : Array (Int × Value)} {ep : Nat} {t : SetTable}
/-- the search that putting in asks for -/
theorem find_tk (U : USet knd s.heap a L es ep t) {x : Addr} {ks : List κ} (hx : IsTupleKey knd s.heap ks x) (hu : A.units < cLine) {Q : SetFound → Shared → Prop} (qin : ks ∈ L.map Prod.snd → Q (.there none) s)
    (qout : ∀ K, ks ∉ L.map Prod.snd → way t.mask (tupleKeyHash knd ks) K ∉ t.place.toList → (∀ c, c < K → way t.mask (tupleKeyHash knd ks) c ∈ t.place.toList) → Q (.free (way t.mask (tupleKeyHash knd ks) K) false) s) :
    wpAny (model P w) A (setSearch a (.ref x) (tupleKeyHash knd ks) true) Q E s := by
  have gap := U.gap
  obtain ⟨K, k1, k2, k3⟩ := U.tab.first (by rw [List.length_map]; omega) (tupleKeyHash knd ks)
  have big : K < 100000 := by
    have ht : SetTable.turns t.mask ≤ 142 := by
      unfold SetTable.turns
      rcases U.tab.mok with e | e | e <;> omega
    omega
  unfold setSearch
  refine seek_tk U hx hu k1 k2 k3 qin (fun no => qout K no k2 k3) 100000 0 none rfl (Nat.zero_le _) (by omega) fun i e g ek => ?_
  have at_ : (L.map (entH knd))[i]? = some (tupleKeyHash knd ks) := by
    rw [List.getElem?_map, g, ← ek]
    rfl
  have il : i < t.place.toList.length := by
    rw [Array.length_toList, tab_len U.tab]
    exact (List.getElem?_eq_some_iff.mp g).1
  obtain ⟨d, d1, d2⟩ := U.tab.before k2 at_ (List.getElem?_eq_getElem il)
  exact ⟨d, Nat.zero_le _, d1, by rw [List.getElem?_eq_getElem il, d2]⟩
theorem isTk_but {h h' : Heap} {ks : List κ} {b : Addr} {o : Obj} (z : IsTupleKey knd h ks b) (ho : h.get? a = some o) (hd : o.data = .set es ep t) (sb : Heap.SameBut a h h') : IsTupleKey knd h' ks b := by
  obtain ⟨o2, its, n, g, hc, hd2, hi⟩ := z
  refine ⟨o2, its, n, ?_, hc, hd2, hi⟩
  by_cases e : b = a
  · subst e
    rw [ho] at g
    obtain rfl := Option.some.inj g
    rw [hd] at hd2
    cases hd2
  · rw [sb.2 b e]
    exact g
theorem isTk_keep {h h' : Heap} {ks : List κ} {b : Addr} (z : IsTupleKey knd h ks b) (k : ∀ o, h.get? b = some o → h'.get? b = some o) : IsTupleKey knd h' ks b := by
  obtain ⟨o, its, n, g, r⟩ := z
  exact ⟨o, its, n, k o g, r⟩
/-- the entries in another order -/
theorem ordered (L : List (Ent κ)) (es : Array (Int × Value)) (order : Array Nat) (hs : es.toList = L.map (entR knd)) (pm : order.toList.Perm (List.range L.length)) :
    ∃ L2 : List (Ent κ), (order.filterMap (es[·]?)).toList = L2.map (entR knd) ∧ L2.Perm L ∧ L2.map (entH knd) = order.toList.map fun i => (es.map (·.1)).getD i 0 := by
  have get : ∀ i, es[i]? = L[i]?.map (entR knd) := fun i => by rw [← Array.getElem?_toList, hs, List.getElem?_map]
  have one : ∀ (l : List Nat), (∀ i ∈ l, i < L.length) → l.filterMap (fun i => es[i]?) = (l.filterMap fun i => L[i]?).map (entR knd) ∧ (l.filterMap fun i => L[i]?).map (entH knd) = l.map fun i => (es.map (·.1)).getD i 0 := fun l => by
    induction l with
    | nil => exact fun _ => ⟨rfl, rfl⟩
    | cons i l ih =>
      intro hl
      obtain ⟨h1, h2⟩ := ih fun j hj => hl j (List.mem_cons_of_mem _ hj)
      have il := hl i List.mem_cons_self
      have hi : L[i]? = some L[i] := List.getElem?_eq_getElem il
      have hi2 : es[i]? = some (entR knd L[i]) := by rw [get, hi]; rfl
      have hi3 : (es.map (·.1)).getD i 0 = entH knd L[i] := by
        rw [Array.getD_eq_getD_getElem?, Array.getElem?_map, hi2]
        rfl
      rw [List.filterMap_cons_some hi2, List.filterMap_cons_some hi, List.map_cons, List.map_cons, List.map_cons, h1, h2, hi3]
      exact ⟨rfl, rfl⟩
  obtain ⟨h1, h2⟩ := one order.toList fun i hi => List.mem_range.mp (pm.mem_iff.mp hi)
  refine ⟨_, by rw [Array.toList_filterMap]; exact h1, ?_, h2⟩
  have all : ∀ n, n ≤ L.length → (List.range n).filterMap (fun i => L[i]?) = L.take n := fun n => by
    induction n with
    | zero => exact fun _ => rfl
    | succ n ih =>
      intro hn
      have nl : n < L.length := hn
      have g : L[n]? = some L[n] := List.getElem?_eq_getElem nl
      rw [List.range_succ, List.filterMap_append, ih (Nat.le_of_succ_le hn), List.take_add_one, g, List.filterMap_cons_some g]
      rfl
  have z := pm.filterMap fun i => L[i]?
  rw [all _ (Nat.le_refl _), List.take_length] at z
  exact z
/-- the table laid anew, with 31 in the place of 7 -/
theorem relay_tk {o : Obj} (ho : s.heap.get? a = some o) (hex : o.ExactSet) (hd : o.data = .set es ep t) (has : es.toList = L.map (entR knd)) (T : TabOk t (L.map (entH knd))) (one : (L.map Prod.snd).Nodup) (tks : ∀ e ∈ L, IsTupleKey knd s.heap e.2 e.1)
    (led : w.params.followText "set-order" = true ∨ t.led = true) (five : L.length = 5) (m7 : t.mask = 7) {Q : Unit → Shared → Prop}
    (q : ∀ h' L' es' ep' t', Heap.SameBut a s.heap h' → USet knd h' a L' es' ep' t' → L'.Perm L → Q () { s with heap := h' }) : wpAny (model P w) A (setRelay a (SetTable.grown 5)) Q E s := by
  have sz := has_len has
  obtain ⟨t', order, r1, r2, r3, r4, r5, _, _⟩ := relaid_ok t (hs := es.map (·.1)) (wanted := SetTable.grown 5) (M := 31) (by rw [size_20]) (.inr (.inl rfl)) (by rw [Array.size_map, sz, five]; decide)
  rw [Array.size_map, sz] at r2
  obtain ⟨L2, e1, e2, e3⟩ := ordered L es order has r2
  rw [← e3] at r3
  have len2 : (order.filterMap (es[·]?)).size = es.size := by rw [has_len e1, e2.length_eq, sz]
  rw [setRelay_eq]
  refine wpAny_bind (wpAny_setState_of ho hd (fits_of T has (by omega)) ?_)
  dsimp only
  refine wp_if_neg (by rw [size_20, sizeLine_eq]; decide) ?_
  try refine wpAny_bind (wpAny_pure ?_)
  rw [r1]
  dsimp only
  refine wpAny_bind (wp_if_neg (by rw [len2]; simp) ?_)
  try refine wpAny_bind (wpAny_pure ?_)
  refine wpAny_pure ?_
  dsimp only
  have sb : Heap.SameBut a s.heap (s.heap.update a (Obj.putSet (order.filterMap (es[·]?)) t')) := Heap.SameBut.update ..
  refine wpAny_storeSet_of ho hd (q _ L2 _ (ep + 1) t' sb ⟨⟨_, store_at ho hd, ⟨hex.1, hex.2.1, hex.2.2⟩, rfl⟩, e1, r3, (e2.map Prod.snd).nodup_iff.mpr one, fun e me => isTk_but (tks e (e2.mem_iff.mp me)) ho hd sb, by rw [r5]; exact led, by rw [e2.length_eq, r4, five]; decide, by rw [e2.length_eq, five]; decide⟩ e2) (by rw [len2, sz, five, sizeLine_eq]; decide)
/-- one is put in -/
theorem put_tk (U : USet knd s.heap a L es ep t) {x : Addr} {ks : List κ} (hx : IsTupleKey knd s.heap ks x) (hu : A.units < cLine) (few : L.length < 16) {Q : Bool → Shared → Prop}
    (q : ∀ b h' L' es' ep' t', Heap.SameBut a s.heap h' → USet knd h' a L' es' ep' t' → (ks ∈ L.map Prod.snd → L' = L) → (ks ∉ L.map Prod.snd → L'.Perm ((x, ks) :: L)) → Q b { s with heap := h' }) : wpAny (model P w) A (setAddHashed a (.ref x) (tupleKeyHash knd ks)) Q E s := by
  obtain ⟨o, ho, hex, hd⟩ := U.at_
  have sz := has_len U.has
  have gap := U.gap
  unfold setAddHashed
  refine wpAny_holding ?_
  rw [show (100000 : Nat) = 99999 + 1 from rfl, setAddHashedIn_succ]
  refine wpAny_bind (wpAny_setState_of ho hd U.fits ?_)
  dsimp only
  refine wp_if_neg (by simp [byScan, Value.scannable]) ?_
  try refine wpAny_bind (wpAny_pure ?_)
  refine wpAny_bind (find_tk U hx hu (fun m => ?_) fun K no k1 k2 => ?_)
  · dsimp only
    exact wpAny_pure (q false s.heap L es ep t (Heap.SameBut.refl a s.heap) U (fun _ => rfl) fun z => absurd m z)
  dsimp only
  refine wpAny_bind (wpAny_setState_of ho hd U.fits ?_)
  dsimp only
  obtain ⟨p1, p2, p3, p4, p5, _, _, _, p9⟩ := U.tab.put k1 k2
  generalize ept : t.put (way t.mask (tupleKeyHash knd ks) K) = pt at p1 p3 p4 p5 p9 ⊢
  obtain ⟨t1, p⟩ := pt
  dsimp only at p1 p3 p4 p5 p9 ⊢
  subst p1
  have ins : (SetTable.insertAt es (SetTable.below t.place (way t.mask (tupleKeyHash knd ks) K)) (tupleKeyHash knd ks, Value.ref x)).toList = (L.take (SetTable.below t.place (way t.mask (tupleKeyHash knd ks) K)) ++ (x, ks) :: L.drop (SetTable.below t.place (way t.mask (tupleKeyHash knd ks) K))).map (entR knd) := by
    rw [SetTable.toList_insertAt, U.has, List.map_append, List.map_cons, List.map_take, List.map_drop]
    rfl
  generalize SetTable.below t.place (way t.mask (tupleKeyHash knd ks) K) = p at p2 p3 ins ⊢
  have pm := put_perm L p ((x, ks) : Ent κ)
  have hm : (L.take p ++ (x, ks) :: L.drop p).map (entH knd) = (L.map (entH knd)).take p ++ tupleKeyHash knd ks :: (L.map (entH knd)).drop p := by
    rw [List.map_append, List.map_cons, List.map_take, List.map_drop]
    rfl
  rw [← hm] at p3
  have one1 : ((L.take p ++ (x, ks) :: L.drop p).map Prod.snd).Nodup := (pm.map Prod.snd).nodup_iff.mpr (by rw [List.map_cons]; exact List.nodup_cons.mpr ⟨no, U.one⟩)
  generalize L.take p ++ (x, ks) :: L.drop p = L1 at pm p3 one1 ins
  have len1 : L1.length = L.length + 1 := pm.length_eq
  have sz1 := has_len ins
  generalize SetTable.insertAt es p (tupleKeyHash knd ks, Value.ref x) = es1 at ins sz1 ⊢
  -- the table is plain no more, or as plain as it was
  have rest : ∀ z : Bool, wpAny (model P w) A (do
      storeSet a es1 (if z = true then t1 else { t1 with plain := false })
      if (!false && (if z = true then t1 else { t1 with plain := false }).tooFull) = true then do
        setRelay a (SetTable.grown (es.size + 1))
        pure true
      else pure true) Q E s := fun z => by
    have T2 : TabOk (if z = true then t1 else { t1 with plain := false }) (L1.map (entH knd)) := by
      cases z
      · exact ⟨p3.ris, p3.dm, p3.sz, p3.mok, p3.bd, p3.reach⟩
      · exact p3
    have m2 : (if z = true then t1 else { t1 with plain := false }).mask = t.mask := by cases z <;> exact p4
    have l2 : (if z = true then t1 else { t1 with plain := false }).led = t.led := by cases z <;> exact p5
    have f2 : (if z = true then t1 else { t1 with plain := false }).fill = L.length + 1 := by
      rw [List.length_map] at p9
      cases z <;> exact p9
    generalize (if z = true then t1 else { t1 with plain := false }) = t2 at T2 m2 l2 f2 ⊢
    refine wpAny_bind (wpAny_storeSet_of ho hd ?_ (by rw [sz1, len1, sizeLine_eq]; omega))
    have sb : Heap.SameBut a s.heap (s.heap.update a (Obj.putSet es1 t2)) := Heap.SameBut.update ..
    have ho1 := store_at (es' := es1) (t' := t2) ho hd
    generalize s.heap.update a (Obj.putSet es1 t2) = h1 at sb ho1 ⊢
    have tks1 : ∀ e ∈ L1, IsTupleKey knd h1 e.2 e.1 := fun e me => by
      rcases List.mem_cons.mp (pm.mem_iff.mp me) with rfl | me
      · exact isTk_but hx ho hd sb
      · exact isTk_but (U.tks e me) ho hd sb
    have led1 : w.params.followText "set-order" = true ∨ t2.led = true := by rw [l2]; exact U.led
    by_cases full : t2.tooFull = true
    · refine wp_if_pos (by rw [full]; rfl) (wpAny_bind ?_)
      have much : (L.length + 1) * 5 ≥ t2.mask * 3 := by
        unfold SetTable.tooFull at full
        rw [decide_eq_true_eq, f2] at full
        exact full
      have four : L.length = 4 ∧ t.mask = 7 := by
        rw [m2] at much
        rcases U.tab.mok with e | e | e <;> omega
      rw [sz, four.1]
      refine relay_tk (s := { s with heap := h1 }) ho1 ⟨hex.1, hex.2.1, hex.2.2⟩ rfl ins T2 one1 tks1 led1 (by rw [len1, four.1]) (by rw [m2]; exact four.2) fun h2 L2 es2 ep2 t3 sb2 U2 pm2 => ?_
      exact wpAny_pure (q true h2 L2 es2 ep2 t3 (sb.trans sb2) U2 (fun z => absurd z no) fun _ => pm2.trans pm)
    · refine wp_if_neg (by rw [eq_false_of_ne_true full]; decide) (wpAny_pure (q true h1 L1 es1 (ep + 1) t2 sb ⟨⟨_, ho1, ⟨hex.1, hex.2.1, hex.2.2⟩, rfl⟩, ins, T2, one1, tks1, led1, ?_, by omega⟩ (fun z => absurd z no) fun _ => pm))
      unfold SetTable.tooFull at full
      rw [decide_eq_true_eq, f2] at full
      omega
  by_cases pl : t1.plain = true
  · first
      | (refine wpAny_bind (wp_if_pos pl (hashBy_tk hx fun z => ?_)); exact rest z)
      | (refine wp_if_pos pl (wpAny_bind (hashBy_tk hx fun z => ?_)); exact rest z)
  · first
      | (refine wpAny_bind (wp_if_neg pl (wpAny_pure ?_)); exact rest true)
      | (refine wp_if_neg pl (wpAny_bind (wpAny_pure ?_)); exact rest true)
end
end Dr
namespace Dr
open PySem PySem.Spec PyProof.Rows L2
section
variable {P : Program} {w : World} {κ : Type} [DecidableEq κ] {knd : KeyKind P w κ} {A : Around} {E : Value → Shared → Prop} {s : Shared}
/-- what the set has of the first i tuples -/
structure Cnt (ks : List (Ent κ)) (i : Nat) (L : List (Ent κ)) : Prop where
  mem : ∀ k, k ∈ L.map Prod.snd ↔ k ∈ (ks.take i).map Prod.snd
  le : L.length ≤ i
  eq : L.length = i ↔ ((ks.take i).map Prod.snd).Nodup
theorem Cnt.nil (ks : List (Ent κ)) : Cnt ks 0 [] := ⟨fun k => by simp, Nat.le_refl _, by simp⟩
theorem Cnt.next {ks L L' : List (Ent κ)} {i : Nat} {e : Ent κ} (c : Cnt ks i L) (he : ks[i]? = some e) (h1 : e.2 ∈ L.map Prod.snd → L' = L) (h2 : e.2 ∉ L.map Prod.snd → L'.Perm (e :: L)) : Cnt ks (i + 1) L' := by
  have et : (ks.take (i + 1)).map Prod.snd = (ks.take i).map Prod.snd ++ [e.2] := by
    rw [List.take_add_one, he, List.map_append]
    rfl
  have nd : ((ks.take (i + 1)).map Prod.snd).Nodup ↔ ((ks.take i).map Prod.snd).Nodup ∧ e.2 ∉ (ks.take i).map Prod.snd := by
    rw [et, List.nodup_append]
    refine ⟨fun z => ⟨z.1, fun m => z.2.2 _ m _ (List.mem_singleton.mpr rfl) rfl⟩, fun z => ⟨z.1, by simp, fun x hx y hy e2 => ?_⟩⟩
    rw [List.mem_singleton.mp hy] at e2
    exact z.2 (e2 ▸ hx)
  by_cases m : e.2 ∈ L.map Prod.snd
  · rw [h1 m]
    refine ⟨fun k => ?_, Nat.le_succ_of_le c.le, ?_⟩
    · rw [et, List.mem_append, List.mem_singleton, c.mem]
      exact ⟨.inl, fun z => z.elim id fun ek => ek ▸ (c.mem _).1 m⟩
    · rw [nd]
      exact ⟨fun z => absurd z (by have := c.le; omega), fun z => absurd ((c.mem _).1 m) z.2⟩
  · have pm := h2 m
    refine ⟨fun k => ?_, by rw [pm.length_eq]; exact Nat.succ_le_succ c.le, ?_⟩
    · rw [(pm.map Prod.snd).mem_iff, et, List.mem_append, List.mem_singleton, List.map_cons, List.mem_cons, c.mem]
      exact Or.comm
    · rw [nd, pm.length_eq, List.length_cons, Nat.succ_inj, c.eq]
      exact ⟨fun z => ⟨z, fun y => m ((c.mem _).2 y)⟩, fun z => z.1⟩
theorem uset_keep {h h' : Heap} {a : Addr} {L : List (Ent κ)} {es : Array (Int × Value)} {ep : Nat} {t : SetTable} (U : USet knd h a L es ep t) (k : ∀ o, h.get? a = some o → h'.get? a = some o) (kt : ∀ e ∈ L, IsTupleKey knd h' e.2 e.1) : USet knd h' a L es ep t := by
  obtain ⟨o, ho, r⟩ := U.at_
  exact ⟨⟨o, k o ho, r⟩, U.has, U.tab, U.one, kt, U.led, U.gap, U.few⟩
theorem uset_new (h : Heap) : USet knd (h.push (setObj w)) h.objs.size [] #[] 0 (.fresh 0 0 (!w.params.followText "set-order")) :=
  ⟨⟨_, Heap.get?_push_size _ rfl, ⟨rfl, rfl, rfl⟩, rfl⟩, rfl, ⟨List.Pairwise.nil, rfl, rfl, .inl rfl, fun x hx => (by cases hx), fun i h j hi => (by simp at hi)⟩, List.nodup_nil, fun e he => (by cases he), by
    show _ ∨ (!w.params.followText "set-order") = true
    cases w.params.followText "set-order" <;> simp, by show 0 * 5 < 7 * 3; decide, Nat.zero_le _⟩
theorem setU_loop {I : Addr} {fp wr : List Addr} {G : Array GenState → Array GenState → Prop} {n : Nat} {Pv : Nat → Value → Prop} {St : Nat → Shared → Prop} {R : Result → Shared → Prop} (W : WalksS P w A.in1 I fp wr G n Pv St) (D : Addr) (hD : D ∉ fp) (ks : List (Ent κ)) (hn : n = ks.length) (hf : ks.length ≤ 16)
    (hval : ∀ i v, Pv i v → ∃ e, ks[i]? = some e ∧ v = .ref e.1) (h0 : Heap) (hk : ∀ e ∈ ks, IsTupleKey knd h0 e.2 e.1) (hD0 : h0.get? D = none) (hw0 : ∀ b ∈ wr, h0.get? b = none) (hu : A.in1.units < cLine) :
    ∀ (k i : Nat) (s : Shared), n - i = k → i ≤ n → St i s → (∀ b o, h0.get? b = some o → s.heap.get? b = some o) → (∃ L es ep t, USet knd s.heap D L es ep t ∧ Cnt ks i L ∧ ∀ e ∈ L, e ∈ ks) →
      (∀ s' L es ep t, Moved (D :: wr) G s s' → USet knd s'.heap D L es ep t → Cnt ks n L → R (.ok (.ret .none)) s') →
      codeAny (model P w) A (.builtin "set.update.loop" ⟨[.ref D, .ref I], []⟩) R s := by
  have hDw : D ∉ wr := fun h => hD (W.sub _ h)
  have hsub : ∀ b ∈ wr, b ∈ D :: wr := fun b hb => List.mem_cons_of_mem _ hb
  have moved : ∀ {s s' : Shared}, Moved wr G s s' → (∀ b o, h0.get? b = some o → s.heap.get? b = some o) → ∀ b o, h0.get? b = some o → s'.heap.get? b = some o := fun hm h1 b o e =>
    hm.heap b o (fun hb => by rw [hw0 b hb] at e; cases e) (h1 b o e)
  intro k
  induction k with
  | zero =>
    intro i s hk1 hi hst h1 ⟨L, es, ep, t, U, c, sub⟩ hR
    obtain rfl : i = n := by omega
    refine codeAny_builtin F.entry_set_update_loop ?_
    rw [Around.under_plainId F.plain_set_update_loop _]
    show wpAny _ A.in1 (pyNext (.ref I) >>= _) _ _ s
    refine wpAny_bind (W.done s _ _ hst fun s' hm => wpAny_pure (hR s' L es ep t (hm.mono hsub) (uset_keep U (fun o e => hm.heap D o hDw e) fun e he => isTk_keep (hk e (sub e he)) fun o g => moved hm h1 _ o g) c))
  | succ k ih =>
    intro i s hk1 hi hst h1 ⟨L, es, ep, t, U, c, sub⟩ hR
    have hlt : i < n := by omega
    refine codeAny_builtin F.entry_set_update_loop ?_
    rw [Around.under_plainId F.plain_set_update_loop _]
    show wpAny _ A.in1 (pyNext (.ref I) >>= _) _ _ s
    refine wpAny_bind (W.item i s _ _ hlt hst fun v s' hP hst' hm => ?_)
    obtain ⟨e, he, rfl⟩ := hval i v hP
    have h2 := moved hm h1
    have U' : USet knd s'.heap D L es ep t := uset_keep U (fun o z => hm.heap D o hDw z) fun e2 m => isTk_keep (hk e2 (sub e2 m)) fun o g => h2 _ o g
    have hx : IsTupleKey knd s'.heap e.2 e.1 := isTk_keep (hk e (List.mem_of_getElem? he)) fun o g => h2 _ o g
    show wpAny _ A.in1 (PySem.holding [Value.ref e.1] (setAdd D (.ref e.1)) >>= _) _ _ s'
    refine wpAny_bind (wpAny_holding ?_)
    unfold setAdd
    refine wpAny_holding (wpAny_bind (wpAny_pyHash_tuple hu hx ?_))
    refine put_tk (s := { s' with toks := s'.toks + (e.2.length + 1) }) U' hx hu (by have := c.le; omega) fun b h' L' es' ep' t' sb U2 e1 e2 => ?_
    have h3 : ∀ b o, h0.get? b = some o → h'.get? b = some o := fun b o g => (sb.2 b fun z => by rw [z, hD0] at g; cases g).trans (h2 b o g)
    have sub' : ∀ y ∈ L', y ∈ ks := fun y hy => by
      by_cases m : e.2 ∈ L.map Prod.snd
      · rw [e1 m] at hy
        exact sub y hy
      · rcases List.mem_cons.mp ((e2 m).mem_iff.mp hy) with rfl | hy
        · exact List.mem_of_getElem? he
        · exact sub y hy
    have other : ∀ {b : Addr} {o : Obj}, b ≠ D → s'.heap.get? b = some o → h'.get? b = some o := fun hb z => (sb.2 _ hb).trans z
    refine wpAny_pure ⟨plainId_quiet F.plain_set_update_loop _, ih (i + 1) _ (by omega) hlt (W.frame _ s' _ _ hst' (Nat.le_add_right _ _) fun b hb o z => other (fun y => hD (y ▸ hb)) z) h3 ⟨L', es', ep', t', U2, c.next he e1 e2, sub'⟩ fun s3 L3 es3 ep3 t3 hm3 U3 c3 => ?_⟩
    exact hR s3 L3 es3 ep3 t3 (Moved.trans W.gtrans ((hm.mono hsub).then_heap (Nat.le_add_right _ _) fun b o hb z => other (fun y => hb (y ▸ List.mem_cons_self)) z) hm3) U3 c3
set_option maxHeartbeats 8000000 in
/-- set(xs) of a tuple of such tuples -/
theorem call_setU {l : Addr} {items : Array Value} (ks : List (Ent κ)) {Q : Value → Shared → Prop} (hh : A.handled = none) (hl : s.heap.IsTuple l items) (hi : items.toList = ks.map fun e => Value.ref e.1) (hk : ∀ e ∈ ks, IsTupleKey knd s.heap e.2 e.1) (hf : ks.length ≤ 16) (hu : A.units + 3 < cLine)
    (h : ∀ (h' : Heap) (tk : Nat) L es ep t, USet knd h' s.heap.objs.size L es ep t → Cnt ks ks.length L → (∀ b o, s.heap.get? b = some o → h'.get? b = some o) → Q (.ref s.heap.objs.size) { s with heap := h', toks := tk }) :
    wpAny (model P w) A (call (.type "set") [.ref l]) Q E s := by
  have hisz : items.size = ks.length := by rw [← Array.length_toList, hi, List.length_map]
  obtain ⟨c, tl, hmro⟩ := F.called_set.mro
  have hmade := F.called_set.made
  have hsub := F.called_set.sub
  refine wpAny_call (codeAny_of_tree (show wpAny _ _ (callAny (.type "set") _) _ _ _ from wpAny_pure ⟨Code.quiet_builtin _ (by decide +kernel), codeAny_builtin F.entry_type_call ?_⟩))
  rw [Around.under_plain (weight_type_call_type "set" [.ref l] []) rfl]
  have h1 := F.called_set.notType
  have h2 := F.called_set.canCreate
  have hct := F.typeCall_set_1 (.ref l)
  repeat (any_goals (first | assumption | wp_step))
  refine codeAny_mono (code_set_led1 (.ref l) (E := E) (Q₁ := fun obj s₁ => obj = .ref s.heap.objs.size ∧ s₁ = { s with heap := s.heap.push (setObj w) }) ⟨rfl, rfl⟩) fun r s₁ hr => ?_
  cases r with
  | error e => exact hr
  | ok fl =>
    cases fl with
    | next => exact hr.elim
    | brk => exact hr.elim
    | cont => exact hr.elim
    | ret obj =>
      obtain ⟨rfl, rfl⟩ := hr
      have hS : (s.heap.push (setObj w)).get? s.heap.objs.size = some (setObj w) := Heap.get?_push_size _ rfl
      have hT : Shared.TypeIs { s with heap := s.heap.push (setObj w) } (.ref s.heap.objs.size) "set" := ⟨_, hS, rfl⟩
      have hli := F.called_set.init.lookup
      have hbi := F.called_set.init.bind (.ref s.heap.objs.size)
      repeat (any_goals (first | assumption | wp_step))
      refine codeAny_mono (codeAny_call_builtin (R := wants (fun r s₂ => r = .none ∧ ∃ h' tk L es ep t, s₂ = { s with heap := h', toks := tk } ∧ USet knd h' s.heap.objs.size L es ep t ∧ Cnt ks ks.length L ∧ (∀ b o, s.heap.get? b = some o → h'.get? b = some o)) E) F.called_set.init.plain F.entry_set_init (check_set_init_1 hT ?_)) fun r₂ s₂ hr₂ => ?_
      · obtain ⟨⟨ocls, odict, odata, oslots⟩, hol, hcl, nl, hdl⟩ := hl
        simp only at hcl hdl
        subst hcl
        subst hdl
        have hol' : (s.heap.push (setObj w)).get? l = some { cls := .type "tuple", dict := odict, data := .seq items nl, slots := oslots } := Heap.get?_push_of_some _ hol
        have hsls := F.sub_tuple_set
        have hslf := F.sub_tuple_frozenset
        have hne : (Value.type "tuple" == Value.type "dict") = false := by decide
        have hl1 : (s.heap.push (setObj w)).IsTuple l items := ⟨_, hol', rfl, nl, rfl⟩
        unfold Builtin.«set.__init__» noKeywords Builtin.Frozenset.updateFrom
        generalize hPI : pyIter = PI
        wp_walk
        subst hPI
        refine wpAny_pyIter_tuple hl1 (wpAny_bind (wpAny_runValue ?_))
        have hlS : l < s.heap.objs.size := Heap.lt_size hol
        have hh3 : A.in1.in1.in1.handled = none := by simp [hh]
        have hz : (s.heap.push (setObj w)).objs.size = s.heap.objs.size + 1 := Heap.size_push ..
        have hneI : l ≠ (s.heap.push (setObj w)).objs.size := by
          rw [hz]
          exact Nat.ne_of_lt (Nat.lt_succ_of_lt hlS)
        have hSf : s.heap.objs.size ∉ [(s.heap.push (setObj w)).objs.size, l] := by
          rw [hz]
          simp only [List.mem_cons, List.not_mem_nil, or_false, not_or]
          exact ⟨Nat.ne_of_lt (Nat.lt_succ_self _), (Nat.ne_of_lt hlS).symm⟩
        have hval : ∀ (i : Nat) (v : Value), items[i]? = some v → ∃ e, ks[i]? = some e ∧ v = .ref e.1 := fun i v hv => by
          rw [← Array.getElem?_toList, hi, List.getElem?_map] at hv
          cases he : ks[i]? with
          | none =>
            rw [he] at hv
            cases hv
          | some e =>
            rw [he] at hv
            exact ⟨e, rfl, (Option.some.inj hv).symm⟩
        have beyond : ∀ b, s.heap.objs.size ≤ b → s.heap.get? b = none := fun b hb => by
          cases g : s.heap.get? b with
          | none => rfl
          | some o => exact absurd (Nat.lt_of_lt_of_le (Heap.lt_size g) hb) (Nat.lt_irrefl _)
        refine setU_loop ((Walks.tuple hh3 _ l hneI items).toS) s.heap.objs.size hSf ks hisz hf hval s.heap hk (beyond _ (Nat.le_refl _)) (fun b hb => beyond b (by rw [List.mem_singleton.mp hb, hz]; exact Nat.le_succ _)) hu (items.size - 0) 0 _ (by omega) (Nat.zero_le _) ⟨⟨_, Heap.get?_push_size _ rfl, rfl, rfl⟩, (hl1.push _)⟩ (fun b o e => Heap.get?_push_of_some _ (Heap.get?_push_of_some _ e)) ?hS0 ?hR
        case hS0 => exact ⟨[], #[], 0, _, uset_keep (uset_new (knd := knd) s.heap) (fun o e => Heap.get?_push_of_some _ e) (fun e he => by cases he), Cnt.nil ks, fun e he => by cases he⟩
        case hR =>
          intro s' L es ep t hm U' c'
          obtain ⟨h', g2, d', tk', os'⟩ := s'
          obtain rfl : g2 = s.gens := hm.gens
          obtain rfl : d' = s.drawn := hm.drawn
          obtain rfl : os' = s.os := hm.os
          show wpAny _ _ _ _ _ _
          rw [hisz] at c'
          refine wpAny_pure (show wpAny _ _ (ret Value.none) _ _ _ from wpAny_pure ⟨rfl, h', tk', L, es, ep, t, rfl, U', c', fun b o e => ?_⟩)
          have hlt : b < s.heap.objs.size := Heap.lt_size e
          refine hm.heap b o ?_ (Heap.get?_push_of_some _ (Heap.get?_push_of_some _ e))
          rw [hz]
          simp only [List.mem_cons, List.not_mem_nil, or_false, not_or]
          exact ⟨Nat.ne_of_lt hlt, Nat.ne_of_lt (Nat.lt_succ_of_lt hlt)⟩
      · cases r₂ with
        | error e => exact hr₂
        | ok fl₂ =>
          cases fl₂ with
          | next => exact hr₂.elim
          | brk => exact hr₂.elim
          | cont => exact hr₂.elim
          | ret r =>
            obtain ⟨rfl, h', tk, L, es, ep, t, rfl, U', c', hk'⟩ := hr₂
            repeat (any_goals (first | assumption | wp_step))
            exact h _ _ _ _ _ _ U' c' hk'
end
section
variable {X : Cx}
theorem keys_of_vals {P : Program} {w : World} : ∀ {k : List Str} {us : List Value}, Vals (k.map V.str) us → ItemsAre (PySem.strKind P w) k us
  | [], _, .nil => .nil
  | n :: k, _, .cons r t => by
    obtain ⟨tk, rfl⟩ := r
    exact .cons (strKind_is P w n tk) (keys_of_vals t)
theorem refs_of_ents : ∀ {ks : List (Ent Str)} {us : List Value}, Vals (ks.map fun e => V.ref e.1) us → us = ks.map fun e => Value.ref e.1
  | [], _, .nil => rfl
  | e :: ks, _, .cons r t => by
    cases r
    rw [refs_of_ents t]
    rfl
/-- len(set(t)), t a tuple of at most 16 tuples of texts -/
def tLenSetU (K : PySem.W.Frag) (ta : TE) : TE := fun σ H Q => ta σ H fun x H1 => ∃ (l : Addr) (ks : List (Ent Str)), x = V.ref l ∧ SqT K H1 l (ks.map fun e => V.ref e.1) ∧ (∀ e ∈ ks, SqT K H1 e.1 (e.2.map V.str)) ∧ ks.length ≤ 16 ∧
  ∀ n : Nat, n ≤ ks.length → (n = ks.length ↔ (ks.map Prod.snd).Nodup) → Q (.int n) H1
theorem pe_lenSetU {a : Expr} {ta : TE} {p p2 q pos : Pos} (hc : X.calm = true) (hu : X.A.units + 64 < cLine) (hg : Gl X "len") (hm : X.mg "len" = none) (hg2 : Gl X "set") (hm2 : X.mg "set" = none) (ha : PE X a ta)
    (na : starEach [a] X.env = (false, eval a X.env) :: starEach [] X.env := by rfl) : PE X (.Call (.Name "len" p) [.Call (.Name "set" p2) [a] [] q] [] pos) (tLenSetU X.K ta) := by
  refine ⟨fun pins s σ H Q I h => ?_⟩
  refine Call_ (ld_blt I hg hm PySem.boot_len (PyProof.Rows.callWith_builtin1 (PyProof.Rows.args_cons ?_ rfl) rfl rfl))
  refine Call_ (ld_blt I hg2 hm2 PyProof.Rows.boot_set (PyProof.Rows.callWith_type1 (PyProof.Rows.args_cons (thn (ha.run pins s σ H _ I h) fun v s1 ⟨x, H1, I1, r1, q1⟩ => PyProof.Rows.args_nil ?_) na) na rfl))
  obtain ⟨l, ks, rfl, hl, hk, hf, q1⟩ := q1
  cases r1
  obtain ⟨its, r, pl, hz⟩ := I1.tuple hl
  refine call_setU (P := X.prog) (w := X.w) (knd := PySem.strKind X.prog X.w) ks (I1.ok.hd hc) pl (by simpa using refs_of_ents r) (fun e he => ?_) hf (by omega) fun h' tk L es ep t U c k => ?_
  · obtain ⟨js, rj, ⟨o, ho, hc2, n, hd⟩, _⟩ := I1.tuple (hk e he)
    exact ⟨o, js.toArray, n, ho, hc2, hd, by simpa using keys_of_vals rj⟩
  · refine PyProof.Rows.args_nil ?_
    obtain ⟨o, ho, hex, hd⟩ := U.at_
    have sz := has_len U.has
    have few := U.few
    have I2 : Inv X pins σ H1 { s1 with heap := h', toks := tk } := I1.kept k
    have ceq := c.eq
    rw [List.take_length] at ceq
    refine call_len_set ho hex hd (fits_of U.tab U.has (by have := U.gap; omega)) (by rw [sz]; omega) ⟨.int L.length, H1, I2.tok _, ⟨_, by rw [sz]⟩, q1 L.length c.le ceq⟩
end
end Dr
namespace Dr
open PySem PySem.Spec PyProof.Rows L2
abbrev sArePairs : Stmt := topS 14
abbrev sIsPair : Stmt := topS 15
theorem scArePairs : FnScope ["thing", "part"] ["thing"] (defScope sArePairs) := ⟨rfl, rfl, rfl, by decide +kernel, rfl, by decide +kernel, by decide +kernel⟩
theorem scIsPair : FnScope ["thing"] ["thing"] (defScope sIsPair) := ⟨rfl, rfl, rfl, by decide +kernel, rfl, by decide +kernel, by decide +kernel⟩
def isPairD : PyData → Bool
  | .tuple [a, b] => isNameD a && isNameD b
  | _ => false
def keysOf : PyData → List Str
  | .tuple [.str a, .str b] => [a, b]
  | _ => []
def arePairsD : PyData → Bool
  | .tuple ds => ds.all isPairD && decide (ds.map keysOf).Nodup
  | _ => false
theorem isPair_of {d : PyData} (h : isPairD d = true) : ∃ a b, d = .tuple [.str a, .str b] ∧ nameOk a = true ∧ nameOk b = true := by
  unfold isPairD at h
  split at h
  · rename_i x y
    rw [Bool.and_eq_true] at h
    cases x <;> first | (cases h.1; done) | skip
    cases y <;> first | (cases h.2; done) | skip
    exact ⟨_, _, rfl, h.1, h.2⟩
  · cases h
theorem acc_nextQ {q : PyData → Bool} {ds : List PyData} {i : Nat} {d : PyData} (h : ds[i]? = some d) : ((ds.take i).map q).map V.bl ++ [V.bl (q d)] = ((ds.take (i + 1)).map q).map V.bl := by
  rw [List.take_add_one, h, List.map_append, List.map_append]
  rfl
/-- where the pairs stand -/
theorem ents_of {K : PySem.W.Frag} {H : Hp} : ∀ {vs : List V} {ds : List PyData}, DpAll K H vs ds → ds.all isPairD = true → ∃ ks : List (Ent Str), vs = ks.map (fun e => V.ref e.1) ∧ (∀ e ∈ ks, SqT K H e.1 (e.2.map V.str)) ∧ ks.map Prod.snd = ds.map keysOf
  | _, _, .nil, _ => ⟨[], rfl, (fun e h => by cases h), rfl⟩
  | v :: vs, d :: ds, .cons h hs, a => by
    have a' : isPairD d = true ∧ ds.all isPairD = true := by simpa using a
    obtain ⟨x, y, rfl, _, _⟩ := isPair_of a'.1
    obtain ⟨ks, e1, e2, e3⟩ := ents_of hs a'.2
    cases h with
    | @tup b ws _ hS hw =>
      cases hw with
      | cons h1 hw =>
        cases hw with
        | cons h2 hw =>
          cases hw
          cases h1
          cases h2
          refine ⟨(b, [x, y]) :: ks, by rw [e1]; rfl, fun e he => ?_, by rw [List.map_cons, List.map_cons, e3]; rfl⟩
          rcases List.mem_cons.mp he with rfl | he
          · exact hS
          · exact e2 e he
section
variable {P : Program} {w : World} {K : PySem.W.Frag} {mg : Str → Option Value} {base : Heap}
theorem ok_isPair {f fN : Addr} {fd fdN : FuncData} (F : Fun K "is_pair" "is_pair" sIsPair f fd) (T : Wds K mg) (GN : FnOk P w K mg base CX0 1 fN fdN ["thing"] (spAsk K isNameD)) (mN : mg "is_name" = some (.ref fN)) (kN : PySem.W.keepIn K (.ref fN) = true) (bN : Binds K fdN ["thing"] []) :
    FnOk P w K mg base CX0 2 f fd ["thing"] (spAsk K isPairD) := by
  refine F.ok scIsPair (fun vs H Q E h => ?_) (fun cdv A outer s H vs Q E hr h => ?_)
  · obtain ⟨v, d, rfl, _⟩ := h
    rfl
  · obtain ⟨v, d, rfl, hd, hok, q⟩ := h
    refine ⟨_, pss_one (ps_ret (pe_and (pe_callB call_isi (by rfl) T.isi (by decide +kernel) (pa_cons (pv 0) (pa_cons (pe_bltn (v := .ty "tuple") (by rfl) T.tup (by decide +kernel) rfl) pa_nil)))
      (pe_and (pe_cmpR op_eq (pe_callB call_len_seq (by rfl) T.len PySem.boot_len (pa_cons (pv 0) pa_nil)) pe_int (nomark _))
      (pe_and (pe_call GN hr (by rfl) mN kN bN .nil pass0 (pa_cons (pe_ix ix_tup (pv 0) pe_int (fun _ _ => rfl)) pa_nil))
        (pe_one (pe_call GN hr (by rfl) mN kN bN .nil pass0 (pa_cons (pe_ix ix_tup (pv 0) pe_int (fun _ _ => rfl)) pa_nil))))))), ?_⟩
    refine ⟨v, rfl, v, .ty "tuple", _, _, _, rfl, .ty _, dp_ty hd, kit_tup d, _, rfl, ?_⟩
    by_cases ht : isTupD d = true
    · cases d with
      | tuple ds =>
        cases hd with
        | @tup a xs _ hS hall =>
          obtain ⟨hlen, hoks⟩ := hok.tup
          have hxl := dpAll_len hall
          refine iteT ⟨_, rfl, a, _, rfl, .inr hS, rfl, _, rfl, ?_⟩
          by_cases two : xs.length = 2
          · rw [decide_eq_true (by rw [two]; rfl)]
            refine iteT ?_
            cases hall with
            | nil => cases two
            | @cons x xs d1 ds h1 hall =>
              cases hall with
              | nil => cases two
              | @cons y xs d2 ds h2 hall =>
                cases hall with
                | cons _ _ => simp at two
                | nil =>
                  have e : isPairD (.tuple [d1, d2]) = (isNameD d1 && isNameD d2) := rfl
                  rw [e] at q
                  refine ⟨_, rfl, a, _, 0, _, rfl, rfl, hS, atI_nat (j := 0) rfl, _, d1, rfl, h1, hoks d1 (by simp), fun H1 s1 => ⟨_, rfl, ?_⟩⟩
                  cases e1 : isNameD d1 with
                  | false =>
                    rw [e1] at q
                    exact iteF (q _ s1)
                  | true =>
                    rw [e1] at q
                    exact iteT ⟨_, rfl, a, _, 1, _, rfl, rfl, Same.seqT s1 hS, atI_nat (j := 1) rfl, _, d2, rfl, dp_same s1 h2, hoks d2 (by simp), fun H2 s2 => q _ (s1.trans s2)⟩
          · rw [decide_eq_false (fun e => two (by have := V.int.inj e; omega))]
            have e : isPairD (.tuple ds) = false := by
              match ds, hxl with
              | [], _ => rfl
              | [_], _ => rfl
              | [_, _], h => exact absurd h two
              | _ :: _ :: _ :: _, _ => rfl
            rw [e] at q
            exact iteF (q _ (Same.refl _))
      | _ => cases ht
    · rw [eq_false_of_ne_true ht]
      have en : isPairD d = false := by cases d <;> first | rfl | exact absurd rfl ht
      rw [en] at q
      exact iteF (q _ (Same.refl _))
def spArePairs (K : PySem.W.Frag) : Sp := fun vs H Q _ => ∃ (v : V) (d : PyData), vs = [v] ∧ Dp K H v d ∧ OkD d ∧ (∀ ds, d = .tuple ds → ds.length ≤ 16) ∧ ∀ H', Same H H' → Q (.bl (arePairsD d)) H'
theorem ok_arePairs {f fP : Addr} {fd fdP : FuncData} (F : Fun K "are_pairs" "are_pairs" sArePairs f fd) (T : Wds K mg) (GP : FnOk P w K mg base CX0 2 fP fdP ["thing"] (spAsk K isPairD)) (mP : mg "is_pair" = some (.ref fP)) (kP : PySem.W.keepIn K (.ref fP) = true) (bP : Binds K fdP ["thing"] []) :
    FnOk P w K mg base CX0 3 f fd ["thing"] (spArePairs K) := by
  refine F.ok scArePairs (fun vs H Q E h => ?_) (fun cdv A outer s H vs Q E hr h => ?_)
  · obtain ⟨v, d, rfl, _⟩ := h
    rfl
  · obtain ⟨v, d, rfl, hd, hok, h16, q⟩ := h
    have hu : (A.deeper (envOfC "are_pairs" (defScope sArePairs) s.heap.objs.size f cdv)).units + 64 < cLine := hr.units
    refine ⟨_, pss_cons (ps_if (PW.pt (pw_or (pt_not (pt_val (pe_callB call_isi (by rfl) T.isi (by decide +kernel) (pa_cons (pv 0) (pa_cons (pe_bltn (v := .ty "tuple") (by rfl) T.tup (by decide +kernel) rfl) pa_nil)))))
        (pw_or1 (pt_not (pt_val (pe_callB (cr_all rfl) (by rfl) T.all (by decide +kernel) (pa_cons
          (pe_lc (own := [("part", 1)]) (g := gName 1) (tt := tYes) rfl scArePairs.nd (pi_tup (pv 0)) (blkOk_by (N := ["thing", "part"]) (sc := defScope sArePairs) (by decide +kernel)) (fun _ _ _ _ _ => pg_name (i := 1) scArePairs.nd rfl (Or.inl rfl)) (fun _ _ _ _ _ => pts_nil)
            (fun _ _ _ _ _ => pe_call GP hr (by rfl) mP kP bP .nil pass0 (pa_cons (pv 1) pa_nil))) pa_nil)))))))
        (pss_one (ps_ret pe_bl)) pss_nil)
      (pss_one (ps_ret (pe_cmpR op_eq (pe_lenSetU rfl hu (by rfl) T.len (by rfl) T.set (pv 0)) (pe_callB call_len_seq (by rfl) T.len PySem.boot_len (pa_cons (pv 0) pa_nil)) (nomark _)))), ?_⟩
    refine ⟨v, rfl, v, .ty "tuple", _, _, _, rfl, .ty _, dp_ty hd, kit_tup d, _, rfl, ?_⟩
    by_cases ht : isTupD d = true
    · cases d with
      | tuple ds =>
        cases hd with
        | @tup a xs _ hS hall =>
          obtain ⟨hlen, hoks⟩ := hok.tup
          have hxl := dpAll_len hall
          have few := h16 ds rfl
          refine iteF ?_
          refine ⟨_, rfl, a, rfl, ⟨_, hS⟩, fun D hD => lc_it walk_tup (fun i H1 => Same H H1 ∧ H1 D = some (.lst (((ds.take i).map isPairD).map V.bl))) ⟨same_upd hD, upd_same⟩ (fun _ _ _ h => Same.seqT h.1 hS) ?_ ?_⟩
          · rintro i x H1 H2 hi ⟨sm, hl⟩ ⟨rfl, hx⟩
            obtain ⟨d', hd', hdp⟩ := dpAll_get hall hx
            refine ⟨rfl, ?_⟩
            unfold tYes
            refine iteT ?_
            refine ⟨_, rfl, _, d', rfl, dp_same sm hdp, hoks d' (List.mem_of_getElem? hd'), fun H3 s3 => ?_⟩
            refine ⟨_, s3 _ _ hl, ?_, ?_⟩
            · rw [List.length_map, List.length_map, List.length_take]
              exact small1000 (by omega)
            · rw [acc_nextQ hd']
              refine ⟨fun c o e => ?_, upd_same⟩
              rw [upd_ne (ne_of_none e hD)]
              exact s3 _ _ (sm _ _ e)
          · rintro H1 ⟨sm, hl⟩
            refine ⟨D, _, rfl, .inl (.inl hl), _, rfl, ?_⟩
            rw [hxl, List.take_of_length_le (Nat.le_refl _), List.all_map]
            show if (!(ds.all isPairD)) = true then _ else _
            by_cases hn : ds.all isPairD = true
            · rw [hn]
              refine iteF ?_
              obtain ⟨ks, e1, e2, e3⟩ := ents_of hall hn
              have hkl : ks.length = ds.length := by rw [← hxl, e1, List.length_map]
              refine ⟨_, rfl, a, ks, rfl, by rw [← e1]; exact Same.seqT sm hS, fun e he => Same.seqT sm (e2 e he), by omega, fun n n1 n2 => ?_⟩
              refine ⟨_, rfl, a, _, rfl, .inr (Same.seqT sm hS), rfl, ?_⟩
              have ed : arePairsD (.tuple ds) = decide ((n : Int) = (xs.length : Int)) := by
                show (ds.all isPairD && decide (ds.map keysOf).Nodup) = _
                rw [hn, Bool.true_and, decide_eq_decide, ← e3, ← n2, hkl, hxl]
                omega
              rw [ed] at q
              have ev : decide (V.int (n : Int) = V.int (xs.length : Int)) = decide ((n : Int) = (xs.length : Int)) := decide_eq_decide.mpr ⟨V.int.inj, fun e => by rw [e]⟩
              rw [← ev] at q
              exact q _ sm
            · have ed : arePairsD (.tuple ds) = false := by
                show (ds.all isPairD && _) = false
                rw [eq_false_of_ne_true hn]
                rfl
              rw [ed] at q
              rw [eq_false_of_ne_true hn]
              exact iteT (q _ sm)
      | _ => cases ht
    · rw [eq_false_of_ne_true ht]
      have en : arePairsD d = false := by cases d <;> first | rfl | exact absurd rfl ht
      rw [en] at q
      exact iteT (iteT (q _ (Same.refl _)))
end
end Dr
namespace Dr
open PySem PySem.Spec PyProof.Rows L2
abbrev sECa : Stmt := inClass (topS 2) 0
abbrev sCInit : Stmt := inClass (topS 16) 0
abbrev psC : List Str := ["self", "methods", "changes", "passes"]
abbrev kwC : List (Str × V) := [("changes", .bl true), ("passes", .bl true)]
theorem scECa : FnScope ["self", "part"] ["self", "part"] (defScope sECa) := ⟨rfl, rfl, rfl, by decide +kernel, rfl, by decide +kernel, by decide +kernel⟩
theorem scCInit : FnScope psC psC (defScope sCInit) := ⟨rfl, rfl, rfl, by decide +kernel, rfl, by decide +kernel, by decide +kernel⟩
theorem putF_len (f : Str) (v : V) : ∀ fs : List (Str × V), (putF f v fs).length ≤ fs.length + 1
  | [] => Nat.le_refl _
  | (g, u) :: r => by
    have := putF_len f v r
    show (if g = f then (g, v) :: r else (g, u) :: putF f v r).length ≤ _
    split <;> (rw [List.length_cons, List.length_cons]; omega)
/-- what stands of an error's class -/
structure Erc (K : PySem.W.Frag) (mg : Str → Option Value) (x f : Str) (C g : Addr) : Prop where
  oex : OexC K C
  no : PySem.W.findIn K (.ref C) f = some none
  init : PySem.W.findIn K (.ref C) "__init__" = some (some (.ref g))
  tyI : PySem.W.typeIn K (.ref g) = some (.type "function")
  mgC : mg x = some (.ref C)
/-- what stands of the class Callers -/
structure Clr (K : PySem.W.Frag) (mg : Str → Option Value) (C : Addr) : Prop where
  cl : Cls K C
  nM : NoAttr K C "methods"
  nC : NoAttr K C "changes"
  nP : NoAttr K C "passes"
  mgC : mg "Callers" = some (.ref C)
  ha : PySem.W.findIn K (.ref C) "__class__" = some (some (.builtin "object.__class__"))
  hn : PySem.W.specialIn K (.builtin "object.__class__") "__get__" = some (some (.builtin "getset_descriptor.__get__"))
  htk : PySem.W.takesIn K (.builtin "object.__class__") = some true
  hm : PySem.W.mroIn K C (.type "object") = some true
  isC : PySem.W.isClsIn K C = true
  tyC : PySem.W.typeIn K (.ref C) = some (.type "type")
/-- the attributes of callers -/
def cF (vm vc vp : V) : List (Str × V) := putF "passes" vp (putF "changes" vc (putF "methods" vm []))
theorem cF_methods {vm vc vp : V} : (cF vm vc vp).lookup ("methods" : Str) = some vm := by
  unfold cF
  rw [lookup_putF, if_neg (by decide +kernel), lookup_putF, if_neg (by decide +kernel), lookup_putF, if_pos rfl]
theorem cF_changes {vm vc vp : V} : (cF vm vc vp).lookup ("changes" : Str) = some vc := by
  unfold cF
  rw [lookup_putF, if_neg (by decide +kernel), lookup_putF, if_pos rfl]
theorem cF_passes {vm vc vp : V} : (cF vm vc vp).lookup ("passes" : Str) = some vp := by
  unfold cF
  rw [lookup_putF, if_pos rfl]
/-- which part is refused -/
def isNonD : PyData → Bool
  | .none => true
  | _ => false
def cErr (dm dc dp : PyData) : Option Str := if (!isNonD dm && !arePairsD dm) = true then some "methods" else if isBoolD dc = false then some "changes" else if isBoolD dp = false then some "passes" else none
def few16 (d : PyData) : Prop := ∀ ds, d = .tuple ds → ds.length ≤ 16
section
variable {P : Program} {w : World} {K : PySem.W.Frag} {mg : Str → Option Value} {base : Heap}
def spExI (C : Addr) (f : Str) : Sp := fun vs H Q _ => ∃ (a : Addr) (y : V), vs = [.ref a, y] ∧ H a = some (exo a C none) ∧ ∀ d, H d = none → d ≠ a → Q .non (upd (upd H d (exd d [(f, y)])) a (exo a C (some d)))
theorem ok_eCa {x : Str} {C f : Addr} {fd : FuncData} (F : Fun K "__init__" "BadCallers.__init__" sECa f fd) (T : Erc K mg x "part" C f) : FnOk P w K mg base CX0 1 f fd ["self", "part"] (spExI C "part") := by
  refine F.ok scECa (fun vs H Q E h => ?_) (fun cdv A outer s H vs Q E hr h => ?_)
  · obtain ⟨a, y, rfl, _⟩ := h
    rfl
  · obtain ⟨a, y, rfl, ha, q⟩ := h
    exact ⟨_, pss_one (ps_ost (pv 0) (pv 1)), y, rfl, .ref a, rfl, a, C, rfl, T.oex, T.no, .inl ⟨ha, fun d nd ne => q d nd ne⟩⟩
/-- what a raise of such an error leaves -/
theorem ex_end {C a : Addr} {H : Hp} {f : Str} {y : V} {Q : XK} (na : H a = none) (q : ∀ d H', Same H H' → H' d = some (.xd [(f, y)]) → Q (.ref C) (some d) H') :
    spExI C f [.ref a, y] (upd H a (exo a C none)) (fun v H2 => v = .non ∧ ∃ (d : Addr) (fs : List (Str × V)), H2 a = some (exo a C (some d)) ∧ H2 d = some (exd d fs) ∧ H d = none ∧ Q (.ref C) (some d) (upd (del H2 a) d (.xd fs))) (fun _ _ _ => False) := by
  refine ⟨a, y, rfl, upd_same, fun d nd ne => ⟨rfl, d, [(f, y)], upd_same, by rw [upd_ne ne, upd_same], by rw [upd_ne ne] at nd; exact nd, q d _ (fun b o e => ?_) upd_same⟩⟩
  have n0 : H d = none := by
    rw [upd_ne ne] at nd
    exact nd
  have h1 : b ≠ d := ne_of_none e n0
  have h2 : b ≠ a := ne_of_none e na
  rw [upd_ne h1, del_ne h2, upd_ne h2, upd_ne h1, upd_ne h2]
  exact e
def errC (H : Hp) (E : XK) (c : Addr) (f : Str) (v : V) : Prop := ∀ d H', Same H H' → H' d = some (.xd [(f, v)]) → E (.ref c) (some d) H'
theorem errC.go {H H1 : Hp} {E : XK} {c : Addr} {f : Str} {v : V} (h : errC H E c f v) (s : Same H H1) : 1 ≤ 1000 ∧ ∀ a, H1 a = none → spExI c f [.ref a, v] (upd H1 a (exo a c none)) (fun v H2 => v = .non ∧ ∃ (d : Addr) (fs : List (Str × V)), H2 a = some (exo a c (some d)) ∧ H2 d = some (exd d fs) ∧ H1 d = none ∧ E (.ref c) (some d) (upd (del H2 a) d (.xd fs))) (fun _ _ _ => False) :=
  ⟨by decide, fun _ na => ex_end na fun d H' s' hd => h d H' (s.trans s') hd⟩
def spCI (K : PySem.W.Frag) (CC CE : Addr) : Sp := fun vs H Q E => ∃ (p dx : Addr) (vm vc vp : V) (dm dc dp : PyData), vs = [.ref p, vm, vc, vp] ∧ H p = some (.ins CC dx []) ∧ (Dp K H vm dm ∧ OkD dm ∧ few16 dm) ∧ Dp K H vc dc ∧ Dp K H vp dp ∧
  (∀ f, cErr dm dc dp = some f → errC H E CE "part" (.str f)) ∧ (cErr dm dc dp = none → ∀ H', (∀ b o, b ≠ p → H b = some o → H' b = some o) → H' p = some (.ins CC dx (cF vm vc vp)) → Q .non H')
theorem ok_ci {CC CE f fA gE : Addr} {fd fdA fdE : FuncData} {prm : Arguments} {dvs : List V} {kws : List (Str × V)} (F : FunD K "__init__" "Callers.__init__" prm (defBody sCInit) (defScope sCInit) dvs kws f fd) (W : Wds K mg) (T : Clr K mg CC)
    (GA : FnOk P w K mg base CX0 3 fA fdA ["thing"] (spArePairs K)) (mA : mg "are_pairs" = some (.ref fA)) (kA : PySem.W.keepIn K (.ref fA) = true) (bA : Binds K fdA ["thing"] [])
    (EC : Erc K mg "BadCallers" "part" CE gE) (GE : FnOk P w K mg base CX0 1 gE fdE ["self", "part"] (spExI CE "part")) (bE : Binds K fdE ["self", "part"] []) :
    FnOk P w K mg base (L2.CX P w) 4 f fd psC (spCI K CC CE) := by
  refine F.ok scCInit (fun vs H Q E h => ?_) (fun cdv A outer s H vs Q E hr h => ?_)
  · obtain ⟨p, dx, vm, vc, vp, dm, dc, dp, rfl, _⟩ := h
    rfl
  · obtain ⟨p, dx, vm, vc, vp, dm, dc, dp, rfl, hp, ⟨hm, okm, fm⟩, hc, hpp, qe, q⟩ := h
    have hr2 : Room 2 _ := hr.mono (by decide)
    refine ⟨_, C8.pss_cut (ps_if (PW.pt (pw_and (pt_cmpR op_notN (pv 1) pe_non (nomark _)) (pw_and1 (pt_not (pt_val (pe_call GA hr (by rfl) mA kA bA .nil pass0 (pa_cons (pv 1) pa_nil)))))))
          (pss_one (ps_raise rfl (takes_of rfl rfl rfl rfl) (pmk_oex EC.oex EC.init EC.tyI GE hr2 bE .nil pass0 (by rfl) EC.mgC (pa_cons pe_str pa_nil)))) pss_nil)
      (pss_cons (ps_if (pt_not (pt_val (pe_callB call_isi (by rfl) W.isi (by decide +kernel) (pa_cons (pv 2) (pa_cons (pe_bltn (v := .ty "bool") (by rfl) W.bool (by decide +kernel) rfl) pa_nil)))))
          (pss_one (ps_raise rfl (takes_of rfl rfl rfl rfl) (pmk_oex EC.oex EC.init EC.tyI GE hr2 bE .nil pass0 (by rfl) EC.mgC (pa_cons pe_str pa_nil)))) pss_nil)
      (pss_cons (ps_if (pt_not (pt_val (pe_callB call_isi (by rfl) W.isi (by decide +kernel) (pa_cons (pv 3) (pa_cons (pe_bltn (v := .ty "bool") (by rfl) W.bool (by decide +kernel) rfl) pa_nil)))))
          (pss_one (ps_raise rfl (takes_of rfl rfl rfl rfl) (pmk_oex EC.oex EC.init EC.tyI GE hr2 bE .nil pass0 (by rfl) EC.mgC (pa_cons pe_str pa_nil)))) pss_nil)
      (pss_cons (ps_fld (pv 0) (pv 1) rfl) (pss_cons (ps_fld (pv 0) (pv 2) rfl) (pss_one (ps_fld (pv 0) (pv 3) rfl)))))), ?_⟩
    have no : ∀ {α : Prop}, (!isNonD dm && !arePairsD dm) = false → cErr dm dc dp = (if isBoolD dc = false then some ("changes" : Str) else if isBoolD dp = false then some ("passes" : Str) else none) := fun {α} h => by
      unfold cErr
      rw [h]
      rfl
    refine ⟨fun σ1 H1 => σ1 = [some (.ref p), some vm, some vc, some vp] ∧ Same H H1 ∧ (!isNonD dm && !arePairsD dm) = false, ?_, fun σ1 H1 hM => ?_⟩
    · refine ⟨_, rfl, rfl, _, rfl, ite2 (fun k => ?_) (fun k => ⟨rfl, Same.refl _, ?_⟩)⟩
      · have hne : isNonD dm = false := by
          cases hm <;> first | rfl | (simp at k; done)
        refine ⟨_, rfl, vm, dm, rfl, hm, okm, fm, fun H1 s1 => ⟨_, rfl, ?_⟩⟩
        cases e : arePairsD dm with
        | false => exact iteT ((qe "methods" (by unfold cErr; rw [hne, e]; rfl)).go s1)
        | true => exact iteF ⟨rfl, s1, by simp⟩
      · have hv : vm = .non := by simpa using k
        subst hv
        cases hm
        rfl
    obtain ⟨rfl, s1, h1⟩ := hM
    have ec := no (α := True) h1
    rw [ec] at qe q
    refine ⟨_, rfl, vc, .ty "bool", _, _, _, rfl, .ty _, dp_ty (dp_same s1 hc), kit_bool dc, _, rfl, ?_⟩
    cases e1 : isBoolD dc with
    | false => exact iteT ((qe "changes" (by rw [e1]; rfl)).go s1)
    | true =>
    rw [e1] at qe q
    refine iteF ⟨_, rfl, vp, .ty "bool", _, _, _, rfl, .ty _, dp_ty (dp_same s1 hpp), kit_bool dp, _, rfl, ?_⟩
    cases e2 : isBoolD dp with
    | false => exact iteT ((qe "passes" (by rw [e2]; rfl)).go s1)
    | true =>
    rw [e2] at q
    have hp1 := s1 _ _ hp
    refine iteF ⟨_, rfl, _, rfl, p, CC, dx, _, rfl, hp1, T.cl, T.nM, (by show 0 < 1000; decide), ?_⟩
    refine ⟨_, rfl, _, rfl, p, CC, dx, _, rfl, upd_same, T.cl, T.nC, ?_, ?_⟩
    · exact Nat.lt_of_le_of_lt (putF_len _ _ _) (by show 1 < 1000; decide)
    refine ⟨_, rfl, _, rfl, p, CC, dx, _, rfl, upd_same, T.cl, T.nP, ?_, ?_⟩
    · exact Nat.lt_of_le_of_lt (Nat.le_trans (putF_len _ _ _) (Nat.succ_le_succ (putF_len _ _ _))) (by show 2 < 1000; decide)
    refine q rfl _ (fun b o e n => ?_) upd_same
    rw [upd_ne e, upd_ne e, upd_ne e]
    exact s1 _ _ n
/-- callers of these parts stand at a -/
def CAt (K : PySem.W.Frag) (CC : Addr) (H : Hp) (a : Addr) (dm dc dp : PyData) : Prop := ∃ dx vm vc vp, H a = some (.ins CC dx (cF vm vc vp)) ∧ Dp K H vm dm ∧ OkD dm ∧ Dp K H vc dc ∧ OkD dc ∧ Dp K H vp dp ∧ OkD dp
theorem CAt.same {CC : Addr} {H H' : Hp} {a : Addr} {dm dc dp : PyData} (h : CAt K CC H a dm dc dp) (s : Same H H') : CAt K CC H' a dm dc dp := by
  obtain ⟨dx, vm, vc, vp, h1, h2, o2, h3, o3, h4, o4⟩ := h
  exact ⟨dx, vm, vc, vp, s _ _ h1, dp_same s h2, o2, dp_same s h3, o3, dp_same s h4, o4⟩
end
end Dr
namespace Dr
open PySem PySem.Spec PyProof.Rows L2
open SX (S S_len S_cat)
abbrev sNames : Stmt := topS 20
abbrev nNames : List Str := ["_law_bag_here", "_law_many", "_law_letters", "_law_kept", "_law_shift", "_law_spare", "_law_found", "_law_k", "_law_word", "_law_j"]
theorem scNames : FnScope nNames ["_law_bag_here", "_law_many"] (defScope sNames) := ⟨rfl, rfl, rfl, by decide +kernel, rfl, by decide +kernel, by decide +kernel⟩
def letters : List Nat := [97, 98, 99, 100, 101, 102, 103, 104, 105, 106, 107, 108, 109, 110, 111, 112, 113, 114, 115, 116, 117, 118, 119, 120, 121, 122]
theorem az_eq : ("abcdefghijklmnopqrstuvwxyz" : Str) = S letters := by decide +kernel
theorem letters_low : ∀ c ∈ letters, lowC c = true := by decide +kernel
def kept : Str := "marks kind value def return none copy if unless in is mark box once anew early late cls self method"
theorem kept_split : Txt.split kept " " = barred := by decide +kernel
def barL : List (List Nat) := barred.map fun z => z.cps.toList
theorem barL_short : ∀ y ∈ barL, y.length ≤ 6 := by decide +kernel
theorem barL_two : (barL.all fun y => match y.reverse with | a :: b :: r => !(a == b) || !(barL.contains r.reverse) | _ => true) = true := by decide +kernel
theorem bar_mem {cs : List Nat} : barred.contains (S cs) = barL.contains cs := by
  rw [Bool.eq_iff_iff, List.contains_iff_mem, List.contains_iff_mem]
  refine ⟨fun h => List.mem_map.mpr ⟨S cs, h, rfl⟩, fun h => ?_⟩
  obtain ⟨z, hz, e⟩ := List.mem_map.mp h
  have e2 : z = S cs := by rw [← SX.S_tl z, e]
  exact e2 ▸ hz
theorem name_plain {cs : List Nat} (low : cs.all lowC = true) (l1 : 1 ≤ cs.length) (l2 : cs.length ≤ 8) (nb : barL.contains cs = false) : nameOk (S cs) = true := by
  unfold nameOk
  rw [bar_mem, nb, S_len, decide_eq_true l1, decide_eq_true l2]
  exact low
theorem name_more {cs : List Nat} {c : Nat} (low : cs.all lowC = true) (lc : lowC c = true) (b : barL.contains cs = true) : nameOk (S (cs ++ [c] ++ [c])) = true := by
  have hm := List.contains_iff_mem.mp b
  have hl := barL_short cs hm
  refine name_plain (by rw [List.all_append, List.all_append, low, List.all_cons, lc]; rfl) (by simp) (by simp; omega) ?_
  cases h : barL.contains (cs ++ [c] ++ [c]) with
  | false => rfl
  | true =>
    have q := List.all_eq_true.mp barL_two _ (List.contains_iff_mem.mp h)
    rw [List.reverse_append, List.reverse_append] at q
    have e : [c].reverse ++ ([c].reverse ++ cs.reverse) = c :: c :: cs.reverse := rfl
    rw [e] at q
    dsimp only at q
    rw [List.reverse_reverse, b, beq_self_eq_true] at q
    cases q
theorem joinL_nil : ∀ ys : List (List Nat), TL.joinL [] ys = ys.flatten
  | [] => rfl
  | [x] => by simp [TL.joinL]
  | x :: y :: r => by
    have ih := joinL_nil (y :: r)
    simp only [TL.joinL, List.flatten_cons, List.append_nil] at ih ⊢
    simp [ih]
theorem join_signs (cs : List Nat) : Txt.join "" (cs.map fun c => S [c]) = S cs := by
  have e : (cs.map fun c => S [c]) = (cs.map fun c => [c]).map S := by rw [List.map_map]; rfl
  rw [e, show ("" : Str) = S [] from rfl, SX.join_S, joinL_nil]
  congr 2
  induction cs with
  | nil => rfl
  | cons c r ih => rw [List.map_cons, List.flatten_cons, ih (by rw [List.map_map]; rfl)]; rfl
def txts (l : List (List Nat)) : List V := l.map fun cs => V.str (S cs)
theorem letter_at {r : Int} (h0 : 0 ≤ r) (h1 : r < 26) : ∃ c, atI (S letters).cps.toList r = some c ∧ lowC c = true ∧ c = 97 + r.toNat := by
  obtain ⟨j, rfl⟩ : ∃ j : Nat, r = (j : Int) := ⟨r.toNat, by omega⟩
  have hj : j < letters.length := by
    show j < 26
    omega
  have h97 : letters[j]? = some (97 + j) := by
    rw [show letters = (List.range 26).map (97 + ·) from rfl, List.getElem?_map, List.getElem?_range (by omega)]
    rfl
  have hv : letters[j] = 97 + j := Option.some.inj ((List.getElem?_eq_getElem hj).symm.trans h97)
  exact ⟨letters[j], atI_nat (List.getElem?_eq_getElem hj), letters_low _ (List.getElem_mem hj), by rw [hv]; rfl⟩
/-- the letter that tells a drawn name from the others -/
def tagN (sp : Nat) (z : List Nat) : Nat := match z.reverse with
  | a :: r => if a = sp then (match r with | _ :: c :: _ => c | _ => 0) else a
  | [] => 0
theorem tag_one {sp c : Nat} {cs : List Nat} (h : c ≠ sp) : tagN sp (cs ++ [c]) = c := by
  unfold tagN
  rw [List.reverse_append]
  show (if c = sp then _ else c) = c
  rw [if_neg h]
theorem tag_more {sp c : Nat} {cs : List Nat} : tagN sp (cs ++ [c] ++ [sp] ++ [sp]) = c := by
  unfold tagN
  rw [List.reverse_append, List.reverse_append, List.reverse_append]
  show (if sp = sp then c else sp) = c
  rw [if_pos rfl]
def tagL (shift : Int) (i : Nat) : Nat := 97 + ((shift + (0 + (i : Int))) % 26).toNat
theorem tags_nodup {shift : Int} {m : Nat} (hm : m ≤ 20) : ((List.range m).map (tagL shift)).Nodup := by
  refine List.pairwise_map.mpr ((List.nodup_range (n := m)).imp_of_mem fun {a b} ha hb ne e => ne ?_)
  have h1 := List.mem_range.mp ha
  have h2 := List.mem_range.mp hb
  unfold tagL at e
  omega
section
variable {P : Program} {w : World} {K : PySem.W.Frag} {mg : Str → Option Value} {base : Heap}
def spNames (K : PySem.W.Frag) : Sp := fun vs H Q _ => ∃ (p : Addr) (m : Nat), vs = [.ref p, .int (m : Int)] ∧ Bag H p ∧ m ≤ 20 ∧
  ∀ H' q zs, Kp p H H' → H q = none → H' q = some (.lst (txts zs)) → zs.length = m → (∀ z ∈ zs, nameOk (S z) = true) → zs.Nodup → Q (.ref q) H'
theorem ok_names {f fD : Addr} {fd fdD : FuncData} (F : Fun K "_law_names" "_law_names" sNames f fd) (T : Blt mg)
    (GD : FnOk P w K mg base CX0 1 fD fdD ["_law_bag_here", "_law_many"] spDraw) (mD : mg "_law_draw" = some (.ref fD)) (kD : PySem.W.keepIn K (.ref fD) = true) (bD : Binds K fdD ["_law_bag_here", "_law_many"] []) :
    FnOk P w K mg base CX0 2 f fd ["_law_bag_here", "_law_many"] (spNames K) := by
  refine F.ok scNames (fun vs H Q E h => ?_) (fun cdv A outer s H vs Q E hr h => ?_)
  · obtain ⟨p, m, rfl, _⟩ := h
    rfl
  · obtain ⟨p, m, rfl, hB, hm, q⟩ := h
    refine ⟨_, pss_cons (ps_set (i := 2) scNames.nd rfl (.inr rfl) pe_str)
      (pss_cons (ps_set (i := 3) scNames.nd rfl (.inl rfl) pe_str)
      (pss_cons (ps_set (i := 4) scNames.nd rfl (.inl rfl) (pe_call GD hr (by rfl) mD kD bD .nil pass0 (pa_cons (pv 0) (pa_cons pe_int pa_nil))))
      (pss_cons (ps_set (i := 5) scNames.nd rfl (.inl rfl) (pe_ix ix_str (pv 2) (pe_op op_mod (pe_callTy call_int1 (by rfl) T.int (by decide +kernel) (pa_cons (pe_op op_add (pv 4) (pv 1)) pa_nil)) pe_int) (fun _ _ => rfl)))
      (pss_cons (ps_set (i := 6) scNames.nd rfl (.inl rfl) (pe_lst pa_nil))
      (pss_cons (ps_for PassesOwn.never rfl (pi_range1 rfl T.ran (pa_cons (pv 1) pa_nil)) (pg_name (i := 7) scNames.nd rfl (.inl rfl))
        (pss_cons (ps_set (i := 8) scNames.nd rfl (.inl rfl) (pe_join pe_str
            (pe_lc (own := [("_law_j", 9)]) (g := gName 9) (tt := tYes) rfl scNames.nd (pi_range1 rfl T.ran (pa_cons (pe_call GD hr (by rfl) mD kD bD .nil pass0 (pa_cons (pv 0) (pa_cons pe_int pa_nil))) pa_nil)) (blkOk_by (N := nNames) (sc := defScope sNames) (by decide +kernel)) (fun _ _ _ _ _ => pg_name (i := 9) scNames.nd rfl (Or.inl rfl)) (fun _ _ _ _ _ => pts_nil)
              (fun _ _ _ _ _ => pe_ix ix_str (pv 2) (pe_call GD hr (by rfl) mD kD bD .nil pass0 (pa_cons (pv 0) (pa_cons pe_int pa_nil))) (fun _ _ => rfl)))))
        (pss_cons (ps_set (i := 8) scNames.nd rfl (.inl rfl) (pe_op op_add_str (pv 8) (pe_ix ix_str (pv 2) (pe_op op_mod (pe_callTy call_int1 (by rfl) T.int (by decide +kernel) (pa_cons (pe_op op_add (pv 4) (pv 7)) pa_nil)) pe_int) (fun _ _ => rfl))))
        (pss_one (ps_expr (pe_bm PySem.F.plainAttrs_list PySem.F.slot_list_append PySem.F.type_list_append mt_append (pv 6) (pa_cons
          (pe_ifExp (pt_cmpR op_in_seq (pv 8) (pe_split (pv 3) pe_str) rfl) (pe_op op_add_str (pe_op op_add_str (pv 8) (pv 5)) (pv 5)) (pv 8)) pa_nil)))))))
      (pss_one (ps_ret (pv 6)))))))), ?_⟩
    refine ⟨_, rfl, p, 26, rfl, hB, by decide, by decide, fun H1 shift k1 s0 s26 => ?_⟩
    obtain ⟨sp, hsp, lsp, vsp⟩ := letter_at (r := (shift + (m : Int)) % 26) (Int.emod_nonneg _ (by decide)) (Int.emod_lt_of_pos _ (by decide))
    refine ⟨_, rfl, _, rfl, _, rfl, shift, (m : Int), rfl, rfl, .inl ⟨_, rfl, _, _, rfl, rfl, (by show (0 : Int) < 26; decide), S letters, _, sp, congrArg V.str az_eq, rfl, by rw [S_len, sizeLine_eq]; decide, hsp, ?_⟩⟩
    refine ⟨Nat.zero_le _, fun g ng => ?_⟩
    have gp : g ≠ p := k1.2.ne ng
    have g0 : H g = none := k1.none gp ng
    have sg := same_upd (o := .lst []) ng
    refine ⟨_, rfl, (m : Int), rfl, by omega, by omega, for_it walk_range (fun i σ H3 => Kp p H H3 ∧ ∃ (zs : List (List Nat)) (y7 y8 : Option V), σ = [some (.ref p), some (.int (m : Int)), some (.str "abcdefghijklmnopqrstuvwxyz"), some (.str kept), some (.int shift), some (.str (S [sp])), some (.ref g), y7, y8, none] ∧ H3 g = some (.lst (txts zs)) ∧ zs.length = i ∧ (∀ z ∈ zs, nameOk (S z) = true) ∧ zs.map (tagN sp) = (List.range i).map (tagL shift))
      ⟨k1.same sg, [], _, _, rfl, upd_same, rfl, (fun z hz => by cases hz), rfl⟩ (fun _ _ _ _ _ => trivial) ?_ ?_⟩
    · rintro i x σ H3 H4 hi ⟨k3, zs, y7, y8, rfl, hg, hl, hz, htag⟩ ⟨rfl, rfl⟩
      have hi20 : i < 20 := by
        have : i < ((m : Nat) : Int).toNat := hi
        omega
      refine ⟨⟨_, rfl⟩, _, rfl, p, 7, rfl, k3.2, by decide, by decide, fun H4 r k4 r0 r7 => ⟨r, rfl, by omega, by omega, fun D hD => ?_⟩⟩
      have Dp' : D ≠ p := k4.2.ne hD
      have hg4 := k4.1 _ _ gp hg
      refine lc_it walk_range (fun j H5 => Kp p H4 H5 ∧ ∃ cs : List Nat, H5 D = some (.lst (cs.map fun c => V.str (S [c]))) ∧ cs.length = j ∧ cs.all lowC = true) ⟨Kp.of k4.2 (same_upd hD), [], upd_same, rfl, rfl⟩ (fun _ _ _ _ => trivial) ?_ ?_
      · rintro j y H5 H6 hj ⟨k5, cs, hc, lc, low⟩ ⟨rfl, rfl⟩
        have hj7 : j < 7 := by
          have : j < r.toNat := hj
          omega
        refine ⟨rfl, ?_⟩
        unfold tYes
        refine iteT ⟨_, rfl, _, rfl, p, 26, rfl, k5.2, by decide, by decide, fun H7 t k7 t0 t26 => ?_⟩
        obtain ⟨c, hc1, lc1, _⟩ := letter_at t0 t26
        refine ⟨S letters, _, c, congrArg V.str az_eq, rfl, by rw [S_len, sizeLine_eq]; decide, hc1, ?_⟩
        refine ⟨_, k7.1 _ _ Dp' hc, by rw [List.length_map]; exact small1000 (by omega), ⟨fun b o n e => ?_, ?_⟩, cs ++ [c], ?_, by rw [List.length_append, lc]; rfl, by rw [List.all_append, low, List.all_cons, lc1]; rfl⟩
        · rw [upd_ne (ne_of_none e hD)]
          exact k7.1 _ _ n (k5.1 _ _ n e)
        · obtain ⟨u, v, w2, ns, hp, hb⟩ := k7.2
          exact ⟨u, v, w2, ns, by rw [upd_ne Dp'.symm]; exact hp, hb⟩
        · rw [upd_same, List.map_append]
          rfl
      · rintro H5 ⟨k5, cs, hc, lc, low⟩
        have lc7 : cs.length ≤ 6 := by
          rw [lc]
          omega
        have emap : (cs.map fun c => V.str (S [c])) = (cs.map fun c => S [c]).map V.str := by rw [List.map_map]; rfl
        refine ⟨_, D, cs.map fun c => S [c], rfl, rfl, .inl (SqL.of (by rw [← emap]; exact hc)), ?_, ?_⟩
        · have one : ∀ l : List Nat, ((l.map fun c => S [c]).map (·.length)).sum = l.length := fun l => by
            induction l with
            | nil => rfl
            | cons c r ih =>
              rw [List.map_cons, List.map_cons, List.sum_cons, ih, List.length_cons, S_len]
              show 1 + r.length = _
              omega
          rw [one, List.length_map]
          show cs.length + cs.length * 0 ≤ _
          omega
        rw [join_signs]
        obtain ⟨c, hc1, lc1, vc⟩ := letter_at (r := (shift + (0 + (i : Int))) % 26) (Int.emod_nonneg _ (by decide)) (Int.emod_lt_of_pos _ (by decide))
        have low1 : (cs ++ [c]).all lowC = true := by rw [List.all_append, low, List.all_cons, lc1]; rfl
        have len1 : (cs ++ [c]).length ≤ 7 := by rw [List.length_append]; show cs.length + 1 ≤ 7; omega
        refine ⟨_, rfl, _, rfl, _, rfl, _, rfl, shift, _, rfl, rfl, .inl ⟨_, rfl, _, _, rfl, rfl, (by show (0 : Int) < 26; decide), S letters, _, c, congrArg V.str az_eq, rfl, by rw [S_len, sizeLine_eq]; decide, hc1, ?_⟩⟩
        refine ⟨_, _, rfl, rfl, ?_, ?_⟩
        · rw [S_len, S_len]
          exact Nat.le_of_lt (small1000 (by show cs.length + 1 ≤ 1000; omega))
        rw [S_cat]
        have kk : Kp p H H5 := (k3.trans k4).trans k5
        have hg5 := k5.1 _ _ gp hg4
        refine ⟨_, rfl, .inl ⟨rfl, _, SqL.of hg5⟩, _, rfl, _, rfl, ⟨_, rfl⟩, kept, " ", rfl, rfl, rfl, by rw [sizeLine_eq]; decide +kernel, fun t nt => ?_⟩
        have st := same_upd (o := .lst (barred.map V.str)) nt
        have fin : ∀ ws : List Nat, (txts zs).length < sizeLine ∧ Kp p H (upd (upd H5 t (.lst (barred.map V.str))) g (.lst (txts zs ++ [V.str (S ws)]))) ∧ (upd (upd H5 t (.lst (barred.map V.str))) g (.lst (txts zs ++ [V.str (S ws)]))) g = some (.lst (txts (zs ++ [ws]))) := fun ws => by
          refine ⟨?_, ⟨fun b o n e => ?_, ?_⟩, ?_⟩
          · unfold txts
            rw [List.length_map, hl]
            exact small1000 (by omega)
          · rw [upd_ne (ne_of_none e g0)]
            exact st _ _ (kk.1 _ _ n e)
          · obtain ⟨u, v, w2, ns, hp, hb⟩ := kk.2
            exact ⟨u, v, w2, ns, by rw [upd_ne gp.symm]; exact st _ _ hp, hb⟩
          · rw [upd_same]
            unfold txts
            rw [List.map_append]
            rfl
        have okz : ∀ ws : List Nat, nameOk (S ws) = true → ∀ z ∈ zs ++ [ws], nameOk (S z) = true := fun ws ok z hz2 => by
          rcases List.mem_append.mp hz2 with h | h
          · exact hz z h
          · rw [List.mem_singleton.mp h]
            exact ok
        have csp : c ≠ sp := by
          rw [vc, vsp]
          omega
        have tagz : ∀ ws : List Nat, tagN sp ws = c → (zs ++ [ws]).map (tagN sp) = (List.range (i + 1)).map (tagL shift) := fun ws h => by
          rw [List.map_append, htag, List.range_succ, List.map_append]
          show _ ++ [tagN sp ws] = _ ++ [tagL shift i]
          rw [h, vc]
          rfl
        refine ⟨t, _, rfl, .inl (SqL.of upd_same), rfl, flat_strs _, _, rfl, ?_⟩
        show if inV (V.str (S (cs ++ [c]))) ((Txt.split kept " ").map V.str) = true then _ else _
        rw [in_strs, kept_split, bar_mem]
        cases hb : barL.contains (cs ++ [c]) with
        | true =>
          refine iteT ⟨_, rfl, _, rfl, _, _, rfl, rfl, ?_, _, rfl, _, _, rfl, rfl, ?_, ?_⟩
          · rw [S_len, S_len]
            exact Nat.le_of_lt (small1000 (by show _ + 1 ≤ 1000; omega))
          · rw [S_cat, S_len, S_len, List.length_append]
            exact Nat.le_of_lt (small1000 (by show _ + 1 + 1 ≤ 1000; omega))
          · rw [S_cat, S_cat]
            exact ⟨g, _, _, rfl, rfl, st _ _ hg5, (fin (cs ++ [c] ++ [sp] ++ [sp])).1, (fin (cs ++ [c] ++ [sp] ++ [sp])).2.1, _, _, _, rfl, (fin (cs ++ [c] ++ [sp] ++ [sp])).2.2, by rw [List.length_append, hl]; rfl, okz _ (name_more low1 lsp hb), tagz _ tag_more⟩
        | false => exact iteF ⟨_, rfl, g, _, _, rfl, rfl, st _ _ hg5, (fin (cs ++ [c])).1, (fin (cs ++ [c])).2.1, _, _, _, rfl, (fin (cs ++ [c])).2.2, by rw [List.length_append, hl]; rfl, okz _ (name_plain low1 (by simp) (by omega) hb), tagz _ (tag_one csp)⟩
    · rintro σ H3 ⟨k3, zs, y7, y8, rfl, hg, hl, hz, htag⟩
      have hl' : zs.length = m := by
        rw [hl]
        show ((m : Nat) : Int).toNat = m
        omega
      exact ⟨_, rfl, q _ g zs k3 g0 hg hl' hz (L2.nodup_of_map (f := tagN sp) (by rw [htag, show (((m : Nat) : Int)).toNat = m from by omega]; exact tags_nodup hm))⟩
end
end Dr
namespace Dr
open PySem PySem.Spec PyProof.Rows L2
abbrev sIsInt : Stmt := topS 6
abbrev sIsNum : Stmt := topS 7
abbrev sIsCall : Stmt := topS 10
abbrev sIsChg : Stmt := topS 11
abbrev sArgs : Stmt := topS 12
abbrev sAllows : Stmt := inClass (topS 16) 2
theorem scIsInt : FnScope ["thing"] ["thing"] (defScope sIsInt) := ⟨rfl, rfl, rfl, by decide +kernel, rfl, by decide +kernel, by decide +kernel⟩
theorem scIsNum : FnScope ["thing", "bound"] ["thing", "bound"] (defScope sIsNum) := ⟨rfl, rfl, rfl, by decide +kernel, rfl, by decide +kernel, by decide +kernel⟩
theorem scIsCall : FnScope ["thing", "args", "options", "option"] ["thing"] (defScope sIsCall) := ⟨rfl, rfl, rfl, by decide +kernel, rfl, by decide +kernel, by decide +kernel⟩
theorem scIsChg : FnScope ["thing"] ["thing"] (defScope sIsChg) := ⟨rfl, rfl, rfl, by decide +kernel, rfl, by decide +kernel, by decide +kernel⟩
theorem scArgs : FnScope ["call", "_", "argument"] ["call"] (defScope sArgs) := ⟨rfl, rfl, rfl, by decide +kernel, rfl, by decide +kernel, by decide +kernel⟩
theorem scAllows : FnScope ["self", "step", "held", "argument"] ["self", "step", "held"] (defScope sAllows) := ⟨rfl, rfl, rfl, by decide +kernel, rfl, by decide +kernel, by decide +kernel⟩
def isIntB : PyData → Bool
  | .int _ => true
  | .bool _ => true
  | _ => false
def isNumD (h : Int) : PyData → Bool
  | .int i => decide (0 ≤ i) && decide (i < h)
  | _ => false
def isChgD : PyData → Bool
  | .tuple [x, _, _] => PyData.eqv x (.str "put") || PyData.eqv x (.str "take")
  | _ => false
def isTwoD : PyData → Bool
  | .tuple [_, _] => true
  | _ => false
def isOptsD : PyData → Bool
  | .tuple os => os.all isTwoD
  | _ => false
def isCallD : PyData → Bool
  | .tuple [x, _, _, a, o] => PyData.eqv x (.str "call") && (isTupD a && isOptsD o)
  | _ => false
def secD : PyData → PyData
  | .tuple [_, b] => b
  | _ => .none
def itemsD : PyData → List PyData
  | .tuple ds => ds
  | _ => []
def argsOf : PyData → List PyData
  | .tuple [_, _, _, a, o] => itemsD a ++ (itemsD o).map secD
  | _ => []
def keyD : PyData → PyData
  | .tuple [_, k, n, _, _] => .tuple [k, n]
  | _ => .none
def alD (dm : PyData) (b1 b2 : Bool) (h : Int) (d : PyData) : Bool :=
  if isChgD d = true then b1 else if isCallD d = false then false else if (!isNonD dm && !(itemsD dm).any fun z => PyData.eqv z (keyD d)) = true then false else b2 || !((argsOf d).any (isNumD h))
theorem isCall_of {d : PyData} (h : isCallD d = true) : ∃ x k n as os, d = .tuple [x, k, n, .tuple as, .tuple os] ∧ os.all isTwoD = true := by
  unfold isCallD at h
  split at h
  · rename_i x k n a o
    rw [Bool.and_eq_true, Bool.and_eq_true] at h
    cases a <;> first | (cases h.2.1; done) | skip
    cases o <;> first | (cases h.2.2; done) | skip
    exact ⟨_, _, _, _, _, rfl, h.2.2⟩
  · cases h
theorem kit_int {K : PySem.W.Frag} : ∀ d : PyData, PySem.W.kitOne K (.type (tyD d)) (.type "int") = some (isIntB d)
  | .none => kit_ty (show kitB "NoneType" "int" = some false by decide +kernel)
  | .bool _ => kit_ty (show kitB "bool" "int" = some true by decide +kernel)
  | .int _ => kit_ty (show kitB "int" "int" = some true by decide +kernel)
  | .str _ => kit_ty (show kitB "str" "int" = some false by decide +kernel)
  | .list _ => kit_ty (show kitB "list" "int" = some false by decide +kernel)
  | .tuple _ => kit_ty (show kitB "tuple" "int" = some false by decide +kernel)
  | .dict _ => kit_ty (show kitB "dict" "int" = some false by decide +kernel)
theorem lenI {n k : Nat} : decide (V.int (n : Int) = V.int (k : Int)) = decide (n = k) := decide_eq_decide.mpr ⟨fun e => by have := V.int.inj e; omega, fun e => by rw [e]⟩
section
variable {P : Program} {w : World} {K : PySem.W.Frag} {mg : Str → Option Value} {base : Heap}
theorem ok_int {f : Addr} {fd : FuncData} (F : Fun K "is_integer" "is_integer" sIsInt f fd) (W : Wds K mg) (T : Blt mg) : FnOk P w K mg base CX0 1 f fd ["thing"] (spAsk K fun d => isIntB d && !isBoolD d) := by
  refine F.ok scIsInt (fun vs H Q E h => ?_) (fun cdv A outer s H vs Q E hr h => ?_)
  · obtain ⟨v, d, rfl, _⟩ := h
    rfl
  · obtain ⟨v, d, rfl, hd, hok, q⟩ := h
    refine ⟨_, pss_one (ps_ret (pe_and (pe_callB call_isi (by rfl) W.isi (by decide +kernel) (pa_cons (pv 0) (pa_cons (pe_bltn (v := .ty "int") (by rfl) T.int (by decide +kernel) rfl) pa_nil)))
      (pe_one (pe_not (pe_callB call_isi (by rfl) W.isi (by decide +kernel) (pa_cons (pv 0) (pa_cons (pe_bltn (v := .ty "bool") (by rfl) W.bool (by decide +kernel) rfl) pa_nil))))))), ?_⟩
    refine ⟨v, rfl, v, .ty "int", _, _, _, rfl, .ty _, dp_ty hd, kit_int d, _, rfl, ?_⟩
    have z := q H (Same.refl _)
    dsimp only at z
    cases e : isIntB d with
    | false =>
      rw [e] at z
      exact iteF z
    | true =>
      rw [e, Bool.true_and] at z
      exact iteT ⟨v, rfl, v, .ty "bool", _, _, _, rfl, .ty _, dp_ty hd, kit_bool d, _, rfl, z⟩
def spNum (K : PySem.W.Frag) : Sp := fun vs H Q _ => ∃ (v : V) (d : PyData) (h : Int), vs = [v, .int h] ∧ Dp K H v d ∧ OkD d ∧ ∀ H', Same H H' → Q (.bl (isNumD h d)) H'
theorem ok_num {f fI : Addr} {fd fdI : FuncData} (F : Fun K "is_number_below" "is_number_below" sIsNum f fd) (GI : FnOk P w K mg base CX0 1 fI fdI ["thing"] (spAsk K fun d => isIntB d && !isBoolD d)) (mI : mg "is_integer" = some (.ref fI)) (kI : PySem.W.keepIn K (.ref fI) = true) (bI : Binds K fdI ["thing"] []) :
    FnOk P w K mg base CX0 2 f fd ["thing", "bound"] (spNum K) := by
  refine F.ok scIsNum (fun vs H Q E h => ?_) (fun cdv A outer s H vs Q E hr h => ?_)
  · obtain ⟨v, d, h, rfl, _⟩ := h
    rfl
  · obtain ⟨v, d, h, rfl, hd, hok, q⟩ := h
    refine ⟨_, pss_one (ps_ret (pe_and (pe_call GI hr (by rfl) mI kI bI .nil pass0 (pa_cons (pv 0) pa_nil)) (pe_one (pe_chain op_le op_lt pe_int (pv 0) (pv 1))))), ?_⟩
    refine ⟨_, rfl, v, d, rfl, hd, hok, fun H1 s1 => ⟨_, rfl, ?_⟩⟩
    have z := q H1 s1
    have other : (isIntB d && !isBoolD d) = false → isNumD h d = false := fun e => by cases d <;> first | rfl | cases e
    refine ite2 (fun e0 => ?_) (fun e => ?_)
    · have e : (isIntB d && !isBoolD d) = true := e0
      clear e0
      cases d <;> first | (cases e; done) | skip
      rename_i i
      cases hd
      have ei : isNumD h (.int i) = (decide (0 ≤ i) && decide (i < h)) := rfl
      rw [ei] at z
      refine ⟨_, rfl, _, _, rfl, rfl, _, rfl, ite2 (fun k => ?_) (fun k => ?_)⟩
      · have k : decide (0 ≤ i) = true := k
        rw [k, Bool.true_and] at z
        exact ⟨_, rfl, _, _, rfl, rfl, z⟩
      · have k : ¬ decide (0 ≤ i) = true := k
        rw [eq_false_of_ne_true k] at z
        exact z
    · have e : ¬ (isIntB d && !isBoolD d) = true := e
      rw [other (eq_false_of_ne_true e)] at z
      exact z
theorem ok_chg {f : Addr} {fd : FuncData} (F : Fun K "is_change" "is_change" sIsChg f fd) (W : Wds K mg) : FnOk P w K mg base CX0 1 f fd ["thing"] (spAsk K isChgD) := by
  refine F.ok scIsChg (fun vs H Q E h => ?_) (fun cdv A outer s H vs Q E hr h => ?_)
  · obtain ⟨v, d, rfl, _⟩ := h
    rfl
  · obtain ⟨v, d, rfl, hd, hok, q⟩ := h
    have hu : (A.deeper (envOfC "is_change" (defScope sIsChg) s.heap.objs.size f cdv)).units + 64 < cLine := hr.units
    refine ⟨_, pss_one (ps_ret (pe_and (pe_callB call_isi (by rfl) W.isi (by decide +kernel) (pa_cons (pv 0) (pa_cons (pe_bltn (v := .ty "tuple") (by rfl) W.tup (by decide +kernel) rfl) pa_nil)))
      (pe_and (pe_cmpR op_eq (pe_callB call_len_seq (by rfl) W.len PySem.boot_len (pa_cons (pv 0) pa_nil)) pe_int (nomark _))
        (pe_one (pe_or (pe_cmpR (op_eqD hu) (pe_ix ix_tup (pv 0) pe_int (fun _ _ => rfl)) pe_str (nomark _)) (pe_one (pe_cmpR (op_eqD hu) (pe_ix ix_tup (pv 0) pe_int (fun _ _ => rfl)) pe_str (nomark _)))))))), ?_⟩
    refine ⟨v, rfl, v, .ty "tuple", _, _, _, rfl, .ty _, dp_ty hd, kit_tup d, _, rfl, ?_⟩
    have z := q H (Same.refl _)
    by_cases ht : isTupD d = true
    case neg =>
      rw [eq_false_of_ne_true ht]
      have en : isChgD d = false := by cases d <;> first | rfl | exact absurd rfl ht
      rw [en] at z
      exact iteF z
    cases d with
    | tuple ds =>
      cases hd with
      | @tup a xs _ hS hall =>
        have hxl := dpAll_len hall
        refine iteT ⟨_, rfl, a, _, rfl, .inr hS, rfl, _, rfl, ?_⟩
        by_cases three : xs.length = 3
        case neg =>
          rw [show decide (V.int (xs.length : Int) = V.int 3) = false from (lenI (k := 3)).trans (decide_eq_false three)]
          have en : isChgD (.tuple ds) = false := by
            match ds, hxl with
            | [], _ => rfl
            | [_], _ => rfl
            | [_, _], _ => rfl
            | [_, _, _], h => exact absurd h three
            | _ :: _ :: _ :: _ :: _, _ => rfl
          rw [en] at z
          exact iteF z
        rw [show decide (V.int (xs.length : Int) = V.int 3) = true from (lenI (k := 3)).trans (decide_eq_true three)]
        refine iteT ?_
        cases hall with
        | nil => cases three
        | @cons x xs d1 ds h1 hall =>
          have ok1 := hok.tup.2 d1 (by simp)
          have ed : isChgD (.tuple (d1 :: ds)) = (PyData.eqv d1 (.str "put") || PyData.eqv d1 (.str "take")) := by
            match ds, hxl with
            | [_, _], _ => rfl
            | [], h => rw [three] at h; simp at h
            | [_], h => rw [three] at h; simp at h
            | _ :: _ :: _ :: _, h => rw [three] at h; simp at h
          rw [ed] at z
          refine ⟨_, rfl, a, _, 0, _, rfl, rfl, hS, atI_nat (j := 0) rfl, d1, .str "put", h1, .str _, ok1.sh, by decide +kernel, _, rfl, ?_⟩
          cases e1 : PyData.eqv d1 (.str "put") with
          | true =>
            rw [e1] at z
            exact iteT z
          | false =>
            rw [e1] at z
            exact iteF ⟨_, rfl, a, _, 0, _, rfl, rfl, hS, atI_nat (j := 0) rfl, d1, .str "take", h1, .str _, ok1.sh, by decide +kernel, z⟩
    | _ => cases ht
end
end Dr
namespace Dr
open PySem PySem.Spec PyProof.Rows L2
theorem dpAll_secs {K : PySem.W.Frag} {H : Hp} : ∀ {ds : List PyData} {vs : List V}, DpAll K H vs ds → ds.all isTwoD = true → ∀ (i : Nat) (v : V), vs[i]? = some v → ∃ (b : Addr) (x y : V) (d1 d2 : PyData), v = .ref b ∧ SqT K H b [x, y] ∧ ds[i]? = some (.tuple [d1, d2]) ∧ Dp K H x d1 ∧ Dp K H y d2 := by
  intro ds vs h ha i v hv
  obtain ⟨d, hd, hdp⟩ := dpAll_get h hv
  have h2 : isTwoD d = true := List.all_eq_true.mp ha d (List.mem_of_getElem? hd)
  unfold isTwoD at h2
  split at h2
  · rename_i d1 d2
    cases hdp with
    | @tup b ws _ hS hw =>
      cases hw with
      | cons h1 hw =>
        cases hw with
        | cons h2 hw =>
          cases hw
          exact ⟨b, _, _, d1, d2, rfl, hS, hd, h1, h2⟩
  · cases h2
theorem dpAll_app {K : PySem.W.Frag} {H : Hp} : ∀ {vs : List V} {ds : List PyData} {us : List V} {es : List PyData}, DpAll K H vs ds → DpAll K H us es → DpAll K H (vs ++ us) (ds ++ es)
  | _, _, _, _, .nil, h => h
  | _, _, _, _, .cons h hs, k => .cons h (dpAll_app hs k)
theorem take_snoc {α β : Type} {f : α → β} {ds : List α} {i : Nat} {d : α} (h : ds[i]? = some d) : (ds.take i).map f ++ [f d] = (ds.take (i + 1)).map f := by
  rw [List.take_add_one, h, List.map_append]
  rfl
theorem OkD.key {d : PyData} (h : OkD d) (c : isCallD d = true) : OkD (keyD d) := by
  obtain ⟨x, k, n, as, os, rfl, _⟩ := isCall_of c
  have oks := h.tup.2
  have ok := oks k (by simp)
  have on := oks n (by simp)
  have c1 := SeqAt.canLay_of_shaped ok.sh
  have c2 := SeqAt.canLay_of_shaped on.sh
  have h2 := SeqAt.depth_of_shaped h.sh
  have h4 : PyData.depthAll [x, k, n, .tuple as, .tuple os] + 1 ≤ 64 := h2
  have d1 := depth_all k (ds := [x, k, n, .tuple as, .tuple os]) (by simp)
  have d2 := depth_all n (ds := [x, k, n, .tuple as, .tuple os]) (by simp)
  refine ⟨?_, ?_⟩
  · show (PyData.canLay0 (.tuple [k, n]) && decide ((PyData.tuple [k, n]).depth ≤ 64)) = true
    rw [Bool.and_eq_true]
    refine ⟨?_, decide_eq_true ?_⟩
    · show (k.canLay0 && (n.canLay0 && true)) = true
      rw [c1, c2]
      rfl
    · show max k.depth (max n.depth 0) + 1 ≤ 64
      omega
  · show (decide (2 ≤ 1000) && (smD k && (smD n && true))) = true
    rw [ok.sm, on.sm]
    rfl
section
variable {X : Cx}
def rNotInT (K : PySem.W.Frag) : R2 := fun x y H Q => ∃ d ds, Dp K H x d ∧ Dp K H y (.tuple ds) ∧ SeqAt.shaped d = true ∧ SeqAt.shaped (.tuple ds) = true ∧ Q (.bl (!ds.any fun z => PyData.eqv z d)) H
theorem op_notInT (hu : X.A.units + 65 < cLine) : OpR X (compareOp .NotIn) (rNotInT X.K) := by
  intro pins s σ H x y v u Q I rx ry h
  obtain ⟨d, ds, hd, he, sd, se, q⟩ := h
  obtain ⟨as, r1⟩ := Dp.reads I d x v hd rx
  obtain ⟨bs, r2⟩ := Dp.reads I (.tuple ds) y u he ry
  exact SeqAt.notIn_tuple_reads r2 r1 (SeqAt.canLay_of_shaped se) (SeqAt.canLay_of_shaped sd) (room_in_shaped sd hu) ⟨.bl _, H, I, rfl, q⟩
end
section
variable {P : Program} {w : World} {K : PySem.W.Frag} {mg : Str → Option Value} {base : Heap}
theorem ok_call {f : Addr} {fd : FuncData} (F : Fun K "is_call" "is_call" sIsCall f fd) (W : Wds K mg) : FnOk P w K mg base CX0 1 f fd ["thing"] (spAsk K isCallD) := by
  refine F.ok scIsCall (fun vs H Q E h => ?_) (fun cdv A outer s H vs Q E hr h => ?_)
  · obtain ⟨v, d, rfl, _⟩ := h
    rfl
  · obtain ⟨v, d, rfl, hd, hok, q⟩ := h
    have hu : (A.deeper (envOfC "is_call" (defScope sIsCall) s.heap.objs.size f cdv)).units + 64 < cLine := hr.units
    refine ⟨_, pss_cons (ps_if (PW.pt (pw_or (pt_not (pt_val (pe_callB call_isi (by rfl) W.isi (by decide +kernel) (pa_cons (pv 0) (pa_cons (pe_bltn (v := .ty "tuple") (by rfl) W.tup (by decide +kernel) rfl) pa_nil)))))
        (pw_or (pt_cmpR op_ne (pe_callB call_len_seq (by rfl) W.len PySem.boot_len (pa_cons (pv 0) pa_nil)) pe_int (nomark _))
          (pw_or1 (pt_cmpR (op_neD hu) (pe_ix ix_tup (pv 0) pe_int (fun _ _ => rfl)) pe_str (nomark _))))))
        (pss_one (ps_ret pe_bl)) pss_nil)
      (pss_cons (ps_par (i := 1) (j := 2) (by rfl) scIsCall.nd rfl rfl (by decide) rfl rfl (pa_cons (pe_ix ix_tup (pv 0) pe_int (fun _ _ => rfl)) (pa_cons (pe_ix ix_tup (pv 0) pe_int (fun _ _ => rfl)) pa_nil)) (by rfl))
      (pss_cons (ps_if (PW.pt (pw_or (pt_not (pt_val (pe_callB call_isi (by rfl) W.isi (by decide +kernel) (pa_cons (pv 1) (pa_cons (pe_bltn (v := .ty "tuple") (by rfl) W.tup (by decide +kernel) rfl) pa_nil)))))
          (pw_or1 (pt_not (pt_val (pe_callB call_isi (by rfl) W.isi (by decide +kernel) (pa_cons (pv 2) (pa_cons (pe_bltn (v := .ty "tuple") (by rfl) W.tup (by decide +kernel) rfl) pa_nil))))))))
          (pss_one (ps_ret pe_bl)) pss_nil)
      (pss_one (ps_ret (pe_callB (cr_all rfl) (by rfl) W.all (by decide +kernel) (pa_cons
          (pe_lc (own := [("option", 3)]) (g := gName 3) (tt := tYes) rfl scIsCall.nd (pi_tup (pv 2)) (blkOk_by (N := ["thing", "args", "options", "option"]) (sc := defScope sIsCall) (by decide +kernel)) (fun _ _ _ _ _ => pg_name (i := 3) scIsCall.nd rfl (Or.inl rfl)) (fun _ _ _ _ _ => pts_nil)
            (fun _ _ _ _ _ => pe_and (pe_callB (show CallR _ (.builtin "isinstance") (rIsi K) from call_isi) (by rfl) W.isi (by decide +kernel) (pa_cons (pv 3) (pa_cons (pe_bltn (v := .ty "tuple") (by rfl) W.tup (by decide +kernel) rfl) pa_nil)))
              (pe_one (pe_cmpR op_eq (pe_callB (show CallR _ (.builtin "len") (fun xs H Q => ∃ p ys, xs = [V.ref p] ∧ (SqL K H p ys ∨ SqT K H p ys) ∧ Q (.int ys.length) H) from call_len_seq) (by rfl) W.len PySem.boot_len (pa_cons (pv 3) pa_nil)) pe_int (nomark _))))) pa_nil)))))), ?_⟩
    refine ⟨v, rfl, v, .ty "tuple", _, _, _, rfl, .ty _, dp_ty hd, kit_tup d, _, rfl, ?_⟩
    have z := fun {H'} s => q H' s
    by_cases ht : isTupD d = true
    case neg =>
      rw [eq_false_of_ne_true ht]
      have en : isCallD d = false := by cases d <;> first | rfl | exact absurd rfl ht
      rw [en] at q
      exact iteT (q _ (Same.refl _))
    cases d with
    | tuple ds =>
      cases hd with
      | @tup a xs _ hS hall =>
        have hxl := dpAll_len hall
        refine iteF ⟨_, rfl, a, _, rfl, .inr hS, rfl, _, rfl, ?_⟩
        by_cases five : xs.length = 5
        case neg =>
          have en : isCallD (.tuple ds) = false := by
            match ds, hxl with
            | [], _ => rfl
            | [_], _ => rfl
            | [_, _], _ => rfl
            | [_, _, _], _ => rfl
            | [_, _, _, _], _ => rfl
            | [_, _, _, _, _], h => exact absurd h five
            | _ :: _ :: _ :: _ :: _ :: _ :: _, _ => rfl
          rw [en] at q
          refine ite2 (fun k => ?_) (fun k => ?_)
          · exact iteT (q _ (Same.refl _))
          · exfalso
            refine k ?_
            show (!decide (V.int (xs.length : Int) = V.int 5)) = true
            rw [show decide (V.int (xs.length : Int) = V.int 5) = false from (lenI (k := 5)).trans (decide_eq_false five)]
            rfl
        have nk : (!decide (V.int (xs.length : Int) = V.int 5)) = false := by
          rw [show decide (V.int (xs.length : Int) = V.int 5) = true from (lenI (k := 5)).trans (decide_eq_true five)]
          rfl
        rw [nk]
        refine iteF ?_
        cases hall with
        | nil => cases five
        | @cons x0 xs d0 ds h0 hall =>
          cases hall with
          | nil => cases five
          | @cons x1 xs d1 ds h1 hall =>
            cases hall with
            | nil => cases five
            | @cons x2 xs d2 ds h2 hall =>
              cases hall with
              | nil => cases five
              | @cons x3 xs d3 ds h3 hall =>
                cases hall with
                | nil => cases five
                | @cons x4 xs d4 ds h4 hall =>
                  cases hall with
                  | cons _ _ => simp at five
                  | nil =>
                    have oks := hok.tup.2
                    have ed : isCallD (.tuple [d0, d1, d2, d3, d4]) = (PyData.eqv d0 (.str "call") && (isTupD d3 && isOptsD d4)) := rfl
                    rw [ed] at q
                    refine ⟨_, rfl, a, _, 0, _, rfl, rfl, hS, atI_nat (j := 0) rfl, d0, .str "call", h0, .str _, (oks d0 (by simp)).sh, by decide +kernel, _, rfl, ?_⟩
                    cases e0 : PyData.eqv d0 (.str "call") with
                    | false =>
                      rw [e0] at q
                      exact iteT (q _ (Same.refl _))
                    | true =>
                    rw [e0, Bool.true_and] at q
                    refine iteF ?_
                    refine ⟨_, rfl, a, _, 3, _, rfl, rfl, hS, atI_nat (j := 3) rfl, _, rfl, a, _, 4, _, rfl, rfl, hS, atI_nat (j := 4) rfl, _, _, rfl, ?_⟩
                    refine ⟨x3, rfl, x3, .ty "tuple", _, _, _, rfl, .ty _, dp_ty h3, kit_tup d3, _, rfl, ?_⟩
                    cases e3 : isTupD d3 with
                    | false =>
                      rw [e3] at q
                      exact iteT (iteT (q _ (Same.refl _)))
                    | true =>
                    rw [e3, Bool.true_and] at q
                    refine iteF ⟨x4, rfl, x4, .ty "tuple", _, _, _, rfl, .ty _, dp_ty h4, kit_tup d4, _, rfl, ?_⟩
                    by_cases t4 : isTupD d4 = true
                    case neg =>
                      rw [eq_false_of_ne_true t4]
                      have en : isOptsD d4 = false := by cases d4 <;> first | rfl | exact absurd rfl t4
                      rw [en] at q
                      exact iteT (q _ (Same.refl _))
                    rw [t4]
                    refine iteF ?_
                    cases d4 with
                    | tuple os =>
                      have eo : isOptsD (.tuple os) = os.all isTwoD := rfl
                      rw [eo] at q
                      cases h4 with
                      | @tup b ys _ hB hys =>
                        have hyl := dpAll_len hys
                        have hl1 := (oks _ (by simp : PyData.tuple os ∈ [d0, d1, d2, d3, .tuple os])).tup.1
                        refine ⟨_, rfl, b, rfl, ⟨_, hB⟩, fun D hD => lc_it walk_tup (fun i H1 => Same H H1 ∧ H1 D = some (.lst (((os.take i).map isTwoD).map V.bl))) ⟨same_upd hD, upd_same⟩ (fun _ _ _ h => Same.seqT h.1 hB) ?_ ?_⟩
                        · rintro i y H1 H2 hi ⟨sm, hl⟩ ⟨rfl, hy⟩
                          obtain ⟨d', hd', hdp⟩ := dpAll_get hys hy
                          have hdp := dp_same sm hdp
                          refine ⟨rfl, ?_⟩
                          unfold tYes
                          refine iteT ⟨_, rfl, _, .ty "tuple", _, _, _, rfl, .ty _, dp_ty hdp, kit_tup d', _, rfl, ?_⟩
                          have fin : ∀ bb, isTwoD d' = bb → ∃ acc, H2 D = some (.lst acc) ∧ acc.length < sizeLine ∧ (Same H (upd H2 D (.lst (acc ++ [V.bl bb]))) ∧ (upd H2 D (.lst (acc ++ [V.bl bb]))) D = some (.lst (((os.take (i + 1)).map isTwoD).map V.bl))) := fun bb ebb => by
                            refine ⟨_, hl, ?_, ?_⟩
                            · rw [List.length_map, List.length_map, List.length_take]
                              exact small1000 (by omega)
                            · rw [← ebb, acc_nextQ hd']
                              refine ⟨fun c o e => ?_, upd_same⟩
                              rw [upd_ne (ne_of_none e hD)]
                              exact sm _ _ e
                          by_cases tt : isTupD d' = true
                          case neg =>
                            rw [eq_false_of_ne_true tt]
                            exact iteF (fin _ (by cases d' <;> first | rfl | exact absurd rfl tt))
                          rw [tt]
                          refine iteT ?_
                          cases d' with
                          | tuple es =>
                            cases hdp with
                            | @tup c ws _ hC hws =>
                              have hwl := dpAll_len hws
                              refine ⟨_, rfl, c, _, rfl, .inr hC, rfl, ?_⟩
                              rw [show decide (V.int (ws.length : Int) = V.int 2) = decide (ws.length = 2) from lenI (k := 2)]
                              refine fin _ ?_
                              match es, hwl with
                              | [], h => rw [h]; rfl
                              | [_], h => rw [h]; rfl
                              | [_, _], h => rw [h]; rfl
                              | _ :: _ :: _ :: _, h =>
                                refine (decide_eq_false (p := ws.length = 2) ?_).symm
                                rw [h]
                                simp
                          | _ => cases tt
                        · rintro H1 ⟨sm, hl⟩
                          refine ⟨D, _, rfl, .inl (.inl hl), ?_⟩
                          rw [hyl, List.take_of_length_le (Nat.le_refl _), List.all_map]
                          exact q _ sm
                    | _ => cases t4
    | _ => cases ht
def spArgs (K : PySem.W.Frag) : Sp := fun vs H Q _ => ∃ (v : V) (d : PyData), vs = [v] ∧ Dp K H v d ∧ OkD d ∧ isCallD d = true ∧ ∀ H' p xs, Same H H' → H p = none → H' p = some (.lst xs) → DpAll K H' xs (argsOf d) → xs.length ≤ 2000 → Q (.ref p) H'
theorem ok_args {f : Addr} {fd : FuncData} (F : Fun K "arguments_of" "arguments_of" sArgs f fd) : FnOk P w K mg base CX0 1 f fd ["call"] (spArgs K) := by
  refine F.ok scArgs (fun vs H Q E h => ?_) (fun cdv A outer s H vs Q E hr h => ?_)
  · obtain ⟨v, d, rfl, _⟩ := h
    rfl
  · obtain ⟨v, d, rfl, hd, hok, hc, q⟩ := h
    refine ⟨_, pss_one (ps_ret (pe_lst (StX.pa_star (pe_ix ix_tup (pv 0) pe_int (fun _ _ => rfl))
      (StX.pa_star (pe_lc (own := [("_", 1), ("argument", 2)]) (g := gTup K 2 (gCons (gName 1) (gCons (gName 2) gNil))) (tt := tYes) rfl scArgs.nd (pi_tup (pe_ix ix_tup (pv 0) pe_int (fun _ _ => rfl))) (blkOk_by (N := ["call", "_", "argument"]) (sc := defScope sArgs) (by decide +kernel))
          (fun _ _ _ _ _ => pg_tup rfl (pgs_cons (pg_name (i := 1) scArgs.nd rfl (Or.inl rfl)) (pgs_cons (pg_name (i := 2) scArgs.nd rfl (Or.inl rfl)) pgs_nil))) (fun _ _ _ _ _ => pts_nil) (fun _ _ _ _ _ => pv 2)) pa_nil)))), ?_⟩
    obtain ⟨x, k, n, as, os, rfl, ho⟩ := isCall_of hc
    have oks := hok.tup.2
    have la := (oks _ (by simp : PyData.tuple as ∈ [x, k, n, .tuple as, .tuple os])).tup.1
    have lo := (oks _ (by simp : PyData.tuple os ∈ [x, k, n, .tuple as, .tuple os])).tup.1
    cases hd with
    | @tup a xs _ hS hall =>
      cases hall with
      | cons h0 hall =>
      cases hall with
      | cons h1 hall =>
      cases hall with
      | cons h2 hall =>
      cases hall with
      | cons h3 hall =>
      cases hall with
      | cons h4 hall =>
      cases hall
      cases h3 with
      | @tup a3 us _ hA hus =>
      cases h4 with
      | @tup a4 ws _ hB hws =>
      have hwl := dpAll_len hws
      have hul := dpAll_len hus
      refine ⟨_, rfl, a, _, 3, _, rfl, rfl, hS, atI_nat (j := 3) rfl, a3, us, rfl, .inl hA, _, rfl, a, _, 4, _, rfl, rfl, hS, atI_nat (j := 4) rfl, a4, rfl, ⟨_, hB⟩, fun D hD => lc_it walk_tup (fun i H1 => Same H H1 ∧ ∃ zs, H1 D = some (.lst zs) ∧ DpAll K H zs ((os.take i).map secD)) ⟨same_upd hD, [], upd_same, .nil⟩ (fun _ _ _ h => Same.seqT h.1 hB) ?_ ?_⟩
      · rintro i y H1 H2 hi ⟨sm, zs, hl, hz⟩ ⟨rfl, hy⟩
        obtain ⟨b, y1, y2, d1, d2, rfl, hb, hd', _, e2⟩ := dpAll_secs hws ho i y hy
        refine ⟨b, _, rfl, Same.seqT sm hb, rfl, _, _, rfl, _, _, rfl, rfl, rfl, ?_⟩
        unfold tYes
        have hzl := dpAll_len hz
        refine iteT ⟨_, rfl, zs, hl, ?_, ?_, zs ++ [y2], upd_same, ?_⟩
        · rw [hzl, List.length_map, List.length_take]
          exact small1000 (by omega)
        · intro c o e
          rw [upd_ne (ne_of_none e hD)]
          exact sm _ _ e
        · rw [← take_snoc (f := secD) hd']
          exact dpAll_app hz (.cons e2 .nil)
      · rintro H1 ⟨sm, zs, hl, hz⟩
        have hzl := dpAll_len hz
        rw [List.length_map, List.length_take] at hzl
        refine ⟨D, zs, rfl, .inr (SqL.of hl), by rw [List.append_nil, List.length_append, sizeLine_eq]; omega, fun p hp => ?_⟩
        have s2 := sm.trans (same_upd (o := .lst (us ++ (zs ++ []))) hp)
        refine q _ p _ s2 (sm.free hp) upd_same ?_ (by rw [List.append_nil, List.length_append]; omega)
        rw [List.append_nil] at s2 ⊢
        have e : os.take ws.length = os := List.take_of_length_le (by omega)
        rw [e] at hz
        exact dpAll_same s2 (dpAll_app hus hz)
/-- may callers of these parts do the step, if so many boxes are held -/
def spAl (K : PySem.W.Frag) (CC : Addr) : Sp := fun vs H Q _ => ∃ (x : Addr) (v : V) (d dm : PyData) (b1 b2 : Bool) (h : Int), vs = [.ref x, v, .int h] ∧ CAt K CC H x dm (.bool b1) (.bool b2) ∧ (dm = .none ∨ ∃ ms, dm = .tuple ms) ∧ Dp K H v d ∧ OkD d ∧ ∀ H', Same H H' → Q (.bl (alD dm b1 b2 h d)) H'
theorem ok_allows {CC f fG fC fA fN : Addr} {fd fdG fdC fdA fdN : FuncData} (F : Fun K "allows" "Callers.allows" sAllows f fd) (W : Wds K mg) (T : Clr K mg CC) (hany : mg "any" = none)
    (GG : FnOk P w K mg base CX0 1 fG fdG ["thing"] (spAsk K isChgD)) (mG : mg "is_change" = some (.ref fG)) (kG : PySem.W.keepIn K (.ref fG) = true) (bG : Binds K fdG ["thing"] [])
    (GC : FnOk P w K mg base CX0 1 fC fdC ["thing"] (spAsk K isCallD)) (mC : mg "is_call" = some (.ref fC)) (kC : PySem.W.keepIn K (.ref fC) = true) (bC : Binds K fdC ["thing"] [])
    (GA : FnOk P w K mg base CX0 1 fA fdA ["call"] (spArgs K)) (mA : mg "arguments_of" = some (.ref fA)) (kA : PySem.W.keepIn K (.ref fA) = true) (bA : Binds K fdA ["call"] [])
    (GN : FnOk P w K mg base CX0 2 fN fdN ["thing", "bound"] (spNum K)) (mN : mg "is_number_below" = some (.ref fN)) (kN : PySem.W.keepIn K (.ref fN) = true) (bN : Binds K fdN ["thing", "bound"] []) :
    FnOk P w K mg base CX0 3 f fd ["self", "step", "held"] (spAl K CC) := by
  refine F.ok scAllows (fun vs H Q E h => ?_) (fun cdv A outer s H vs Q E hr h => ?_)
  · obtain ⟨x, v, d, dm, b1, b2, h, rfl, _⟩ := h
    rfl
  · obtain ⟨x, v, d, dm, b1, b2, h, rfl, hC, hdm, hd, hok, q⟩ := h
    have hr1 : Room 1 _ := hr.mono (by decide)
    have hu : (A.deeper (envOfC "Callers.allows" (defScope sAllows) s.heap.objs.size f cdv)).units + 65 < cLine := by
      have := hr.un
      omega
    refine ⟨_, pss_cons (ps_if (pt_val (pe_call GG hr1 (by rfl) mG kG bG .nil pass0 (pa_cons (pv 1) pa_nil))) (pss_one (ps_ret (pe_fld (pv 0) rfl))) pss_nil)
      (pss_cons (ps_if (pt_not (pt_val (pe_call GC hr1 (by rfl) mC kC bC .nil pass0 (pa_cons (pv 1) pa_nil)))) (pss_one (ps_ret pe_bl)) pss_nil)
      (C8.pss_cut (ps_if (PW.pt (pw_and (pt_cmpR op_notN (pe_fld (pv 0) rfl) pe_non (nomark _)) (pw_and1 (pt_cmpR (op_notInT hu) (pe_tup (pa_cons (pe_ix ix_tup (pv 1) pe_int (fun _ _ => rfl)) (pa_cons (pe_ix ix_tup (pv 1) pe_int (fun _ _ => rfl)) pa_nil))) (pe_fld (pv 0) rfl) rfl))))
          (pss_one (ps_ret pe_bl)) pss_nil)
      (pss_one (ps_ret (pe_or (pe_fld (pv 0) rfl) (pe_one (pe_not (pe_callB (cr_any rfl) (by rfl) hany (by decide +kernel) (pa_cons
          (pe_lc (own := [("argument", 3)]) (g := gName 3) (tt := tYes) rfl scAllows.nd (pi_list (pe_call GA hr1 (by rfl) mA kA bA .nil pass0 (pa_cons (pv 1) pa_nil))) (blkOk_by (N := ["self", "step", "held", "argument"]) (sc := defScope sAllows) (by decide +kernel)) (fun _ _ _ _ _ => pg_name (i := 3) scAllows.nd rfl (Or.inl rfl)) (fun _ _ _ _ _ => pts_nil)
            (fun _ _ _ _ _ => pe_call GN hr (by rfl) mN kN bN .nil pass0 (pa_cons (pv 3) (pa_cons (pv 2) pa_nil)))) pa_nil))))))))), ?_⟩
    refine ⟨_, rfl, v, d, rfl, hd, hok, fun H1 s1 => ⟨_, rfl, ?_⟩⟩
    obtain ⟨dx, vm, vc, vp, hx, hm, om, hc, oc, hp, op⟩ := hC
    cases hc
    cases hp
    refine ite2 (fun c1 => ?_) (fun c1 => ?_)
    · have e : alD dm b1 b2 h d = b1 := if_pos c1
      rw [e] at q
      exact ⟨_, rfl, x, CC, dx, _, _, rfl, s1 _ _ hx, T.cl, T.nC, cF_changes, q _ s1⟩
    refine ⟨_, rfl, v, d, rfl, dp_same s1 hd, hok, fun H2 s2 => ⟨_, rfl, ?_⟩⟩
    have s12 := s1.trans s2
    have c1 : ¬ isChgD d = true := c1
    refine ite2 (fun c2 => ?_) (fun c2 => ?_)
    · have c2 : isCallD d = false := by simpa using c2
      have e : alD dm b1 b2 h d = false := (if_neg c1).trans (if_pos c2)
      rw [e] at q
      exact q _ s12
    have c2 : isCallD d = true := by simpa using c2
    have c2n : ¬ isCallD d = false := by rw [c2]; simp
    have hx2 := s12 _ _ hx
    have e2 : alD dm b1 b2 h d = if (!isNonD dm && !(itemsD dm).any fun z => PyData.eqv z (keyD d)) = true then false else b2 || !((argsOf d).any (isNumD h)) := (if_neg c1).trans (if_neg c2n)
    rw [e2] at q
    refine ⟨fun σ' H' => σ' = [some (.ref x), some v, some (.int h), none] ∧ Same H H' ∧ (!isNonD dm && !(itemsD dm).any fun z => PyData.eqv z (keyD d)) = false, ?_, fun σ' H3 hM => ?_⟩
    · refine ⟨_, rfl, x, CC, dx, _, _, rfl, hx2, T.cl, T.nM, cF_methods, rfl, _, rfl, ite2 (fun c3 => ?_) (fun c3 => ?_)⟩
      · rcases hdm with rfl | ⟨ms, rfl⟩
        · cases hm
          simp at c3
        obtain ⟨x0, k, n, as, os, rfl, _⟩ := isCall_of c2
        have okk := hok.key c2
        cases hd with
        | @tup a xs _ hS hall =>
          cases hall with
          | cons h0 hall =>
          cases hall with
          | @cons v1 _ _ _ h1 hall =>
          cases hall with
          | @cons v2 _ _ _ h2 hall =>
          have hS2 := Same.seqT s12 hS
          refine ⟨_, rfl, a, _, 1, _, rfl, rfl, hS2, atI_nat (j := 1) rfl, _, rfl, a, _, 2, _, rfl, rfl, hS2, atI_nat (j := 2) rfl, by show 2 ≤ sizeLine; decide, fun g ng => ?_⟩
          have sg := s12.trans (same_upd (o := .tup [v1, v2]) ng)
          refine ⟨_, rfl, x, CC, dx, _, _, rfl, sg _ _ hx, T.cl, T.nM, cF_methods, .tuple [k, n], ms, .tup (.inl (.inl upd_same)) (.cons (dp_same sg h1) (.cons (dp_same sg h2) .nil)), dp_same sg hm, okk.sh, om.sh, _, rfl, ?_⟩
          have ek : (!isNonD (.tuple ms) && !(itemsD (.tuple ms)).any fun z => PyData.eqv z (keyD (.tuple [x0, k, n, .tuple as, .tuple os]))) = (!ms.any fun z => PyData.eqv z (.tuple [k, n])) := rfl
          rw [ek] at q ⊢
          refine ite2 (fun c4 => ?_) (fun c4 => ?_)
          · rw [if_pos c4] at q
            exact q _ sg
          · exact ⟨rfl, sg, eq_false_of_ne_true c4⟩
      · refine ⟨rfl, s12, ?_⟩
        have hv : vm = .non := by simpa using c3
        subst hv
        cases hm
        rfl
    obtain ⟨rfl, s3, c3⟩ := hM
    rw [if_neg (by rw [c3]; simp)] at q
    refine ⟨_, rfl, x, CC, dx, _, _, rfl, s3 _ _ hx, T.cl, T.nP, cF_passes, _, rfl, ite2 (fun c4 => ?_) (fun c4 => ?_)⟩
    · have c4 : b2 = true := c4
      rw [c4, Bool.true_or] at q
      exact q _ s3
    have c4 : b2 = false := eq_false_of_ne_true c4
    rw [c4, Bool.false_or] at q
    refine ⟨_, rfl, v, d, rfl, dp_same s3 hd, hok, c2, fun H4 p xs s4 np hl hds hxl => ⟨p, rfl, ⟨_, SqL.of hl⟩, fun D hD => ?_⟩⟩
    have s34 := s3.trans s4
    refine lc_it walk_list (fun i H5 => Same H4 H5 ∧ H5 D = some (.lst ((((argsOf d).take i).map (isNumD h)).map V.bl))) ⟨same_upd hD, upd_same⟩ (fun _ _ _ h => SqL.of (h.1 _ _ hl)) ?_ ?_
    · rintro i y H5 H6 hi ⟨sm, ha⟩ ⟨rfl, hy⟩
      obtain ⟨d', hd', hdp⟩ := dpAll_get hds hy
      have ok' : OkD d' := by
        obtain ⟨x0, k, n, as, os, rfl, ho⟩ := isCall_of c2
        have oks := hok.tup.2
        have oa := oks (.tuple as) (by simp)
        have oo := oks (.tuple os) (by simp)
        rcases List.mem_append.mp (List.mem_of_getElem? hd') with m | m
        · exact oa.tup.2 d' m
        · obtain ⟨e, me, rfl⟩ := List.mem_map.mp m
          have oe := oo.tup.2 e me
          have te := List.all_eq_true.mp ho e me
          unfold isTwoD at te
          split at te
          · exact oe.tup.2 _ (by simp [secD])
          · cases te
      refine ⟨rfl, ?_⟩
      unfold tYes
      refine iteT ⟨_, rfl, _, rfl, y, d', h, rfl, dp_same sm hdp, ok', fun H7 s7 => ?_⟩
      refine ⟨_, s7 _ _ ha, ?_, ⟨fun c o e => ?_, ?_⟩⟩
      · rw [List.length_map, List.length_map, List.length_take, sizeLine_eq]
        have := dpAll_len hds
        omega
      · rw [upd_ne (ne_of_none e hD)]
        exact s7 _ _ (sm _ _ e)
      · rw [acc_nextQ hd', upd_same]
    · rintro H5 ⟨sm, ha⟩
      refine ⟨D, _, rfl, .inl (.inl ha), _, rfl, ?_⟩
      rw [dpAll_len hds, List.take_of_length_le (Nat.le_refl _), List.any_map]
      exact q _ (s34.trans sm)
end
end Dr
namespace Dr
open PySem PySem.Spec PyProof.Rows L2
open SX (S S_len S_cat)
theorem Kp.seq {K : PySem.W.Frag} {p a : Addr} {H H' : Hp} {xs : List V} (k : Kp p H H') (n : a ≠ p) (h : SqL K H a xs) : SqL K H' a xs := by
  rcases h with (h | ⟨o, h⟩) | h
  · exact .inl (.inl (k.1 _ _ n h))
  · exact .inl (.inr ⟨o, k.1 _ _ n h⟩)
  · exact .inr h
/-- the names stand in a list -/
structure Nms (H : Hp) (u p : Addr) (zs : List (List Nat)) : Prop where
  at_ : H u = some (.lst (txts zs))
  np : u ≠ p
  ne : 4 ≤ zs.length
  le : zs.length ≤ 20
  ok : ∀ z ∈ zs, nameOk (S z) = true
theorem Nms.kp {H H' : Hp} {u p : Addr} {zs : List (List Nat)} (n : Nms H u p zs) (k : Kp p H H') : Nms H' u p zs := ⟨k.1 _ _ n.np n.at_, n.np, n.ne, n.le, n.ok⟩
theorem Nms.same {H H' : Hp} {u p : Addr} {zs : List (List Nat)} (n : Nms H u p zs) (s : Same H H') : Nms H' u p zs := ⟨s _ _ n.at_, n.np, n.ne, n.le, n.ok⟩
theorem nms_at {zs : List (List Nat)} {r : Int} (h0 : 0 ≤ r) (h1 : r < (zs.length : Int)) : ∃ z, z ∈ zs ∧ atI (txts zs) r = some (.str (S z)) := by
  obtain ⟨j, rfl⟩ : ∃ j : Nat, r = (j : Int) := ⟨r.toNat, by omega⟩
  have hj : j < zs.length := by omega
  exact ⟨zs[j], List.getElem_mem hj, atI_nat (by unfold txts; rw [List.getElem?_map, List.getElem?_eq_getElem hj]; rfl)⟩
theorem two_le : 2 ≤ sizeLine := by
  rw [sizeLine_eq]
  decide
theorem txts_len (zs : List (List Nat)) : (txts zs).length = zs.length := List.length_map _
structure SmS (z : Str) : Prop where
  ok : PyData.strOk z = true
  sm : z.length ≤ 1000
theorem sms_lit {z : Str} (h : (PyData.strOk z && decide (z.length ≤ 1000)) = true) : SmS z := by
  rw [Bool.and_eq_true] at h
  exact ⟨h.1, of_decide_eq_true h.2⟩
theorem sms_low {cs : List Nat} (h : ∀ c ∈ cs, lowC c = true) (l : cs.length ≤ 1000) : SmS (S cs) := by
  refine ⟨?_, by rw [S_len]; exact l⟩
  unfold PyData.strOk
  rw [← Array.all_toList]
  refine List.all_eq_true.mpr fun c hc => ?_
  have q := h c hc
  unfold lowC at q
  rw [Bool.and_eq_true] at q
  have := of_decide_eq_true q.2
  exact decide_eq_true (by omega)
structure Smn (n : Nat) (d : PyData) : Prop where
  c : d.canLay0 = true
  s : smD d = true
  d : d.depth ≤ n
structure Smns (n : Nat) (ds : List PyData) : Prop where
  c : PyData.canLayAll0 ds = true
  s : smAll ds = true
  d : PyData.depthAll ds ≤ n
theorem smn_nil {n : Nat} : Smns n [] := ⟨rfl, rfl, Nat.zero_le _⟩
theorem smn_cons {n : Nat} {d : PyData} {ds : List PyData} (h : Smn n d) (hs : Smns n ds) : Smns n (d :: ds) := by
  refine ⟨?_, ?_, ?_⟩
  · show (d.canLay0 && PyData.canLayAll0 ds) = true
    rw [h.c, hs.c]
    rfl
  · show (smD d && smAll ds) = true
    rw [h.s, hs.s]
    rfl
  · show max d.depth (PyData.depthAll ds) ≤ n
    have := h.d
    have := hs.d
    omega
theorem smn_tup {n : Nat} {ds : List PyData} (h : Smns n ds) (l : ds.length ≤ 1000) : Smn (n + 1) (.tuple ds) := ⟨h.c, by
  show (decide (ds.length ≤ 1000) && smAll ds) = true
  rw [h.s, decide_eq_true l]
  rfl, Nat.succ_le_succ h.d⟩
theorem smn_lst {n : Nat} {ds : List PyData} (h : Smns n ds) (l : ds.length ≤ 1000) : Smn (n + 1) (.list ds) := ⟨h.c, by
  show (decide (ds.length ≤ 1000) && smAll ds) = true
  rw [h.s, decide_eq_true l]
  rfl, Nat.succ_le_succ h.d⟩
theorem smn_str {n : Nat} {z : Str} (h : SmS z) : Smn n (.str z) := ⟨h.ok, decide_eq_true h.sm, Nat.zero_le _⟩
theorem smn_lit {n : Nat} {z : Str} (h : (PyData.strOk z && decide (z.length ≤ 1000)) = true) : Smn n (.str z) := smn_str (sms_lit h)
theorem smn_int {n : Nat} (i : Int) : Smn n (.int i) := ⟨rfl, rfl, Nat.zero_le _⟩
theorem smn_bl {n : Nat} (b : Bool) : Smn n (.bool b) := ⟨rfl, rfl, Nat.zero_le _⟩
theorem smn_non {n : Nat} : Smn n .none := ⟨rfl, rfl, Nat.zero_le _⟩
theorem Smn.okD {n : Nat} {d : PyData} (h : Smn n d) (hn : n ≤ 60) : OkD d := ⟨by
  show (d.canLay0 && decide (d.depth ≤ 64)) = true
  rw [h.c, decide_eq_true (by have := h.d; omega)]
  rfl, h.s⟩
theorem Smns.all {n : Nat} : ∀ {ds : List PyData}, Smns n ds → ∀ d ∈ ds, Smn n d
  | [], _, _, h => by cases h
  | x :: r, h, d, hd => by
    have h1 : (x.canLay0 && PyData.canLayAll0 r) = true := h.c
    have h2 : (smD x && smAll r) = true := h.s
    have h3 : max x.depth (PyData.depthAll r) ≤ n := h.d
    rw [Bool.and_eq_true] at h1 h2
    rcases List.mem_cons.mp hd with rfl | hd
    · exact ⟨h1.1, h2.1, by omega⟩
    · exact Smns.all ⟨h1.2, h2.2, by omega⟩ d hd
theorem smns_of {n : Nat} : ∀ {ds : List PyData}, (∀ d ∈ ds, Smn n d) → Smns n ds
  | [], _ => smn_nil
  | x :: r, h => smn_cons (h x (List.mem_cons_self ..)) (smns_of fun d hd => h d (List.mem_cons_of_mem _ hd))
theorem Smn.mono {n m : Nat} {d : PyData} (h : Smn n d) (hm : n ≤ m) : Smn m d := ⟨h.c, h.s, Nat.le_trans h.d hm⟩
theorem Smns.of_mem {n : Nat} {ds : List PyData} (h : Smns n ds) {d : PyData} (m : d ∈ ds) : Smn n d := h.all d m
theorem smns_app {n : Nat} {ds es : List PyData} (h : Smns n ds) (k : Smns n es) : Smns n (ds ++ es) := smns_of fun d m => by
  rcases List.mem_append.mp m with m | m
  · exact h.all d m
  · exact k.all d m
theorem Smns.mono {n m : Nat} {ds : List PyData} (h : Smns n ds) (k : n ≤ m) : Smns m ds := smns_of fun d hd => (h.all d hd).mono k
theorem Smn.tup {n : Nat} {ds : List PyData} (h : Smn (n + 1) (.tuple ds)) : Smns n ds ∧ ds.length ≤ 1000 := by
  have h1 : (decide (ds.length ≤ 1000) && smAll ds) = true := h.s
  rw [Bool.and_eq_true] at h1
  exact ⟨⟨h.c, h1.2, Nat.le_of_succ_le_succ h.d⟩, of_decide_eq_true h1.1⟩
open Classical in
/-- the heap without the places of T -/
noncomputable def hid (T : Addr → Prop) (H : Hp) : Hp := fun b => if T b then none else H b
/-- all places of T are taken -/
def Dom (T : Addr → Prop) (H : Hp) : Prop := ∀ b, T b → H b ≠ none
abbrev Dq (K : PySem.W.Frag) (T : Addr → Prop) (H : Hp) (v : V) (d : PyData) : Prop := Dp K (hid T H) v d
abbrev DqAll (K : PySem.W.Frag) (T : Addr → Prop) (H : Hp) (vs : List V) (ds : List PyData) : Prop := DpAll K (hid T H) vs ds
/-- all but the places of T stays -/
def StT (T : Addr → Prop) (H H' : Hp) : Prop := ∀ b o, ¬ T b → H b = some o → H' b = some o
theorem hid_sub {T : Addr → Prop} {H : Hp} : Same (hid T H) H := fun b o e => by
  unfold hid at e
  split at e
  · cases e
  · exact e
theorem hid_stT {T : Addr → Prop} {H H' : Hp} (s : StT T H H') : Same (hid T H) (hid T H') := fun b o e => by
  unfold hid at e ⊢
  split at e
  · cases e
  · rename_i n
    rw [if_neg n]
    exact s _ _ n e
theorem StT.same {T : Addr → Prop} {H H' : Hp} (s : Same H H') : StT T H H' := fun b o _ e => s b o e
theorem StT.trans {T : Addr → Prop} {H H1 H2 : Hp} (a : StT T H H1) (b : StT T H1 H2) : StT T H H2 := fun c o n e => b c o n (a c o n e)
theorem StT.kp {T : Addr → Prop} {p : Addr} {H H' : Hp} (k : Kp p H H') (tp : T p) : StT T H H' := fun b o n e => k.1 b o (fun z => n (z ▸ tp)) e
theorem StT.set {T : Addr → Prop} {H : Hp} {c : Addr} {o : HO} (tc : T c) : StT T H (upd H c o) := fun b u n e => by
  rw [upd_ne (fun z => n (by rw [z]; exact tc))]
  exact e
theorem hid_same {T : Addr → Prop} {H H' : Hp} (s : Same H H') : Same (hid T H) (hid T H') := hid_stT (StT.same s)
theorem hid_at {T : Addr → Prop} {q : Addr} {H : Hp} {o : HO} (n : ¬ T q) (h : H q = some o) : hid T H q = some o := by
  unfold hid
  rw [if_neg n]
  exact h
theorem Dom.same {T : Addr → Prop} {H H' : Hp} (d : Dom T H) (s : Same H H') : Dom T H' := fun b t z => by
  cases e : H b with
  | none => exact d b t e
  | some o =>
    rw [s _ _ e] at z
    cases z
theorem Dom.kp {T : Addr → Prop} {p : Addr} {H H' : Hp} (d : Dom T H) (k : Kp p H H') : Dom T H' := fun b t z => by
  by_cases n : b = p
  · subst n
    obtain ⟨_, _, _, _, hp, _⟩ := k.2
    rw [hp] at z
    cases z
  · cases e : H b with
    | none => exact d b t e
    | some o =>
      rw [k.1 _ _ n e] at z
      cases z
theorem Dom.new {T : Addr → Prop} {H : Hp} {q : Addr} (d : Dom T H) (n : H q = none) : ¬ T q := fun t => d q t n
theorem Dq.dp {K : PySem.W.Frag} {T : Addr → Prop} {H : Hp} {v : V} {d : PyData} (h : Dq K T H v d) : Dp K H v d := dp_same hid_sub h
theorem Dq.same {K : PySem.W.Frag} {T : Addr → Prop} {H H' : Hp} {v : V} {d : PyData} (h : Dq K T H v d) (s : Same H H') : Dq K T H' v d := dp_same (hid_same s) h
theorem Dq.stT {K : PySem.W.Frag} {T : Addr → Prop} {H H' : Hp} {v : V} {d : PyData} (h : Dq K T H v d) (s : StT T H H') : Dq K T H' v d := dp_same (hid_stT s) h
theorem DqAll.stT {K : PySem.W.Frag} {T : Addr → Prop} {H H' : Hp} {v : List V} {d : List PyData} (h : DqAll K T H v d) (s : StT T H H') : DqAll K T H' v d := dpAll_same (hid_stT s) h
/-- a bag stands at p, all of T is taken, p is in T -/
structure Stg (T : Addr → Prop) (p : Addr) (H : Hp) : Prop where
  bag : Bag H p
  dom : Dom T H
  tp : T p
theorem Stg.kp {T : Addr → Prop} {p : Addr} {H H' : Hp} (g : Stg T p H) (k : Kp p H H') : Stg T p H' := ⟨k.2, g.dom.kp k, g.tp⟩
theorem Stg.upd {T : Addr → Prop} {p q : Addr} {H : Hp} {o : HO} (g : Stg T p H) (n : H q = none) : Stg T p (upd H q o) := ⟨g.bag.same (same_upd n), g.dom.same (same_upd n), g.tp⟩
/-- what is known of the slots -/
abbrev SP := L2.St → Hp → Prop
/-- stays while the bag is drawn from -/
def Up (p : Addr) (A : SP) : Prop := ∀ σ H H', Bag H p → Kp p H H' → A σ H → A σ H'
def tG (K : PySem.W.Frag) (T : Addr → Prop) (p : Addr) (A : SP) (P : PyData → Prop) : TE := fun σ H Q => Stg T p H ∧ A σ H ∧ ∀ v H' d, Kp p H H' → P d → Dq K T H' v d → Q v H'
def aG (K : PySem.W.Frag) (T : Addr → Prop) (p : Addr) (A : SP) (P : List PyData → Prop) : TA := fun σ H Q => Stg T p H ∧ A σ H ∧ ∀ vs H' ds, Kp p H H' → P ds → DqAll K T H' vs ds → Q vs H'
/-- a list display -/
def lG (K : PySem.W.Frag) (T : Addr → Prop) (p : Addr) (A : SP) (P : List PyData → Prop) : TE := fun σ H Q => Stg T p H ∧ A σ H ∧ ∀ l H' vs ds, Kp p H H' → P ds → DqAll K T H' vs ds → H l = none → H' l = some (.lst vs) → Q (.ref l) H'
/-- a drawn number -/
def rG (p : Addr) (A : SP) (m : Int) : TE := fun σ H Q => Bag H p ∧ A σ H ∧ ∀ r H', Kp p H H' → 0 ≤ r → r < m → Q (.int r) H'
theorem PE.imp {X : Cx} {e : Expr} {t t' : TE} (h : PE X e t) (i : ∀ σ H Q, t' σ H Q → t σ H Q) : PE X e t' := ⟨fun pins s σ H Q I w => h.run pins s σ H Q I (i σ H Q w)⟩
theorem PA.imp {X : Cx} {es : List Expr} {t t' : TA} (h : PA X es t) (i : ∀ σ H Q, t' σ H Q → t σ H Q) : PA X es t' := ⟨fun pos pins s σ H Q I w => h.run pos pins s σ H Q I (i σ H Q w)⟩
def Sm (n : Nat) : PyData → Prop := Smn n
/-- k data of depth n -/
def Sms (n k : Nat) : List PyData → Prop := fun ds => Smns n ds ∧ ds.length = k
/-- a tuple of at most k data of depth n -/
def SmT (n k : Nat) : PyData → Prop := fun d => ∃ ds, d = .tuple ds ∧ Smns n ds ∧ ds.length ≤ k
theorem SmT.sm {n k : Nat} {d : PyData} (h : SmT n k d) (l : k ≤ 1000) : Smn (n + 1) d := by
  obtain ⟨ds, rfl, a, b⟩ := h
  exact smn_tup a (Nat.le_trans b l)
section
variable {X : Cx} {T : Addr → Prop} {p : Addr} {A : SP} {P P' : PyData → Prop} {n k : Nat}
theorem Kp.refl' {H : Hp} (g : Stg T p H) : Kp p H H := Kp.refl g.bag
theorem dw_imp {e : Expr} (h : PE X e (tG X.K T p A P)) (i : ∀ d, P d → P' d) : PE X e (tG X.K T p A P') := PE.imp h fun σ H Q ⟨g, a, q⟩ => ⟨g, a, fun v H' d k o => q v H' d k (i d o)⟩
theorem dw_str {x : Str} {j : Nat} {pos : Pos} (h : (PyData.strOk x && decide (x.length ≤ 1000)) = true) : PE X (.Constant (.str x) j pos) (tG X.K T p A (Sm n)) := PE.imp pe_str fun _ H _ ⟨g, _, q⟩ => q _ H _ (Kp.refl' g) (smn_lit h) (.str x)
theorem dw_int {x : Int} {j : Nat} {pos : Pos} : PE X (.Constant (.int x) j pos) (tG X.K T p A (Sm n)) := PE.imp pe_int fun _ H _ ⟨g, _, q⟩ => q _ H _ (Kp.refl' g) (smn_int x) (.int x)
theorem dw_bl {x : Bool} {j : Nat} {pos : Pos} : PE X (.Constant (.bool x) j pos) (tG X.K T p A (Sm n)) := PE.imp pe_bl fun _ H _ ⟨g, _, q⟩ => q _ H _ (Kp.refl' g) (smn_bl x) (.bl x)
theorem dw_non {j : Nat} {pos : Pos} : PE X (.Constant .none j pos) (tG X.K T p A (Sm n)) := PE.imp pe_non fun _ H _ ⟨g, _, q⟩ => q _ H _ (Kp.refl' g) smn_non .non
/-- any expression that gives a number and changes nothing -/
theorem dw_num {e : Expr} {te : TE} (h : PE X e te) (i : ∀ σ H Q, A σ H → (∀ j : Int, Q (.int j) H) → te σ H Q) : PE X e (tG X.K T p A (Sm n)) := PE.imp h fun σ H Q ⟨g, a, q⟩ => i σ H Q a fun j => q _ H _ (Kp.refl' g) (smn_int j) (.int j)
/-- a slot -/
theorem dw_slot (i : Nat) {x : Str} {pos : Pos} (h : PE X (.Name x pos) (tVar i)) (ha : ∀ σ H, A σ H → ∃ v d, σ[i]? = some (some v) ∧ Dq X.K T H v d ∧ P d) : PE X (.Name x pos) (tG X.K T p A P) := PE.imp h fun σ H _ ⟨g, a, q⟩ => by
  obtain ⟨v, d, e, hd, o⟩ := ha σ H a
  exact ⟨v, e, q v H d (Kp.refl' g) o hd⟩
theorem dwa_nil : PA X [] (aG X.K T p A (Sms n 0)) := PA.imp pa_nil fun _ H _ ⟨g, _, q⟩ => q [] H [] (Kp.refl' g) ⟨smn_nil, rfl⟩ .nil
theorem dwa_cons {e : Expr} {es : List Expr} (h : PE X e (tG X.K T p A (Sm n))) (hs : PA X es (aG X.K T p A (Sms n k))) (u : Up p A) (c : starEach (e :: es) X.env = (false, eval e X.env) :: starEach es X.env := by rfl) : PA X (e :: es) (aG X.K T p A (Sms n (k + 1))) :=
  PA.imp (pa_cons h hs c) fun σ H Q ⟨g, a, q⟩ => ⟨g, a, fun v H1 d k1 o1 h1 => ⟨g.kp k1, u σ H H1 g.bag k1 a, fun vs H2 ds k2 o2 h2 => q (v :: vs) H2 (d :: ds) (k1.trans k2) ⟨smn_cons o1 o2.1, by rw [List.length_cons, o2.2]⟩ (.cons (Dq.stT h1 (StT.kp k2 g.tp)) h2)⟩⟩
theorem dw_tup {es : List Expr} {j : Nat} {pos : Pos} (h : PA X es (aG X.K T p A (Sms n k))) (hk : k ≤ 1000 := by decide) : PE X (.Tuple es j pos) (tG X.K T p A (SmT n k)) := PE.imp (pe_tup h) fun σ H Q ⟨g, a, q⟩ => by
  refine ⟨g, a, fun vs H1 ds k1 o1 h1 => ⟨by rw [dpAll_len h1, o1.2]; exact Nat.le_of_lt (small1000 hk), fun t nt => ?_⟩⟩
  have s := same_upd (o := .tup vs) nt
  exact q _ _ (.tuple ds) (k1.same s) ⟨ds, rfl, o1.1, Nat.le_of_eq o1.2⟩ (.tup (SqT.of (hid_at ((g.kp k1).dom.new nt) upd_same)) (dpAll_same (hid_same s) h1))
theorem dw_tupS {es : List Expr} {j : Nat} {pos : Pos} (h : PA X es (aG X.K T p A (Sms n k))) (hk : k ≤ 1000 := by decide) : PE X (.Tuple es j pos) (tG X.K T p A (Sm (n + 1))) := dw_imp (dw_tup h hk) fun d o => o.sm hk
theorem dw_lst {es : List Expr} {pos : Pos} (h : PA X es (aG X.K T p A (Sms n k))) (hk : k ≤ 1000 := by decide) : PE X (.List es pos) (tG X.K T p A (Sm (n + 1))) := PE.imp (pe_lst h) fun σ H Q ⟨g, a, q⟩ => by
  refine ⟨g, a, fun vs H1 ds k1 o1 h1 => ⟨by rw [dpAll_len h1, o1.2]; exact Nat.le_of_lt (small1000 hk), fun t nt => ?_⟩⟩
  have s := same_upd (o := .lst vs) nt
  exact q _ _ (.list ds) (k1.same s) (smn_lst o1.1 (by rw [o1.2]; exact hk)) (.lst (SqL.of (hid_at ((g.kp k1).dom.new nt) upd_same)) (dpAll_same (hid_same s) h1))
theorem dw_list {es : List Expr} {pos : Pos} (h : PA X es (aG X.K T p A (Sms n k))) (hk : k ≤ 1000 := by decide) : PE X (.List es pos) (lG X.K T p A (Sms n k)) := PE.imp (pe_lst h) fun σ H Q ⟨g, a, q⟩ => by
  refine ⟨g, a, fun vs H1 ds k1 o1 h1 => ⟨by rw [dpAll_len h1, o1.2]; exact Nat.le_of_lt (small1000 hk), fun t nt => ?_⟩⟩
  have s := same_upd (o := .lst vs) nt
  exact q t _ vs ds (k1.same s) o1 (DqAll.stT h1 (StT.same s)) (k1.none ((k1.2).ne nt) nt) upd_same
end
end Dr
namespace Dr
open PySem PySem.Spec PyProof.Rows L2
open SX (S S_len S_cat)
theorem low_name {z : List Nat} (h : nameOk (S z) = true) : (∀ c ∈ z, lowC c = true) ∧ z.length ≤ 8 ∧ 1 ≤ z.length := by
  unfold nameOk at h
  rw [Bool.and_eq_true, Bool.and_eq_true, Bool.and_eq_true, S_len] at h
  exact ⟨fun c hc => List.all_eq_true.mp h.2.2 c hc, of_decide_eq_true h.1.2, of_decide_eq_true h.1.1⟩
theorem smn_name {n : Nat} {z : List Nat} (h : nameOk (S z) = true) : Smn n (.str (S z)) := smn_str (sms_low (low_name h).1 (by have := (low_name h).2.1; omega))
section
variable {X : Cx} {T : Addr → Prop} {p : Addr} {A : SP} {P P' : PyData → Prop} {n k : Nat}
/-- [..][drawn] -/
theorem dw_ix {e i : Expr} {pos : Pos} {m : Int} (h : PE X e (lG X.K T p A (Sms n k))) (hi : PE X i (rG p A m)) (u : Up p A) (hs : PlainIx i) (hm : m ≤ (k : Int) := by decide) : PE X (.Subscript e i pos) (tG X.K T p A (Sm n)) := PE.imp (pe_ix ix_list h hi hs) fun σ H Q ⟨g, a, q⟩ => by
  refine ⟨g, a, fun l H1 vs ds k1 o1 h1 nl hl => ⟨k1.2, u σ H H1 g.bag k1 a, fun r H2 k2 r0 r1 => ?_⟩⟩
  obtain ⟨j, rfl⟩ : ∃ j : Nat, r = (j : Int) := ⟨r.toNat, by omega⟩
  have hv := dpAll_len h1
  have hj : j < vs.length := by
    have := o1.2
    omega
  have lp : l ≠ p := g.bag.ne nl
  have hx := List.getElem?_eq_getElem hj
  obtain ⟨d, hd, hdp⟩ := dpAll_get h1 hx
  exact ⟨l, vs, (j : Int), vs[j], rfl, rfl, SqL.of (k2.1 _ _ lp hl), atI_nat hx, q _ H2 d (k1.trans k2) (o1.1.all d (List.mem_of_getElem? hd)) (Dq.stT hdp (StT.kp k2 g.tp))⟩
/-- the names are known -/
def NmA (p : Addr) (i : Nat) (A : SP) : Prop := ∀ σ H, A σ H → ∃ u zs, σ[i]? = some (some (.ref u)) ∧ Nms H u p zs
theorem dw_nm {e i : Expr} {pos : Pos} {m : Int} {j : Nat} (h : PE X e (tVar j)) (hi : PE X i (rG p A m)) (u : Up p A) (hA : NmA p j A) (hs : PlainIx i) (hm : m ≤ 4 := by decide) : PE X (.Subscript e i pos) (tG X.K T p A (Sm n)) := PE.imp (pe_ix ix_list h hi hs) fun σ H Q ⟨g, a, q⟩ => by
  obtain ⟨l, zs, e1, hN⟩ := hA σ H a
  refine ⟨.ref l, e1, g.bag, a, fun r H2 k2 r0 r1 => ?_⟩
  have hN2 := hN.kp k2
  obtain ⟨z, hz, hat⟩ := nms_at (zs := zs) r0 (by have := hN.ne; omega)
  exact ⟨l, txts zs, r, _, rfl, rfl, SqL.of hN2.at_, hat, q _ H2 _ k2 (smn_name (hN.ok z hz)) (.str _)⟩
theorem dw_nmc {e : Expr} {pos : Pos} {j : Nat} {c : Int} {c1 : Nat} {cp : Pos} (h : PE X e (tVar j)) (hA : NmA p j A) (h0 : 0 ≤ c := by decide) (hm : c < 4 := by decide) : PE X (.Subscript e (.Constant (.int c) c1 cp) pos) (tG X.K T p A (Sm n)) := PE.imp (pe_ix ix_list h pe_int (fun _ _ => rfl)) fun σ H Q ⟨g, a, q⟩ => by
  obtain ⟨l, zs, e1, hN⟩ := hA σ H a
  obtain ⟨z, hz, hat⟩ := nms_at (zs := zs) h0 (by have := hN.ne; omega)
  exact ⟨.ref l, e1, l, txts zs, c, _, rfl, rfl, SqL.of hN.at_, hat, q _ H _ (Kp.refl' g) (smn_name (hN.ok z hz)) (.str _)⟩
/-- a drawn number, from a call -/
theorem dw_draw {e : Expr} {te : TE} {m : Int} (h : PE X e te) (i : ∀ σ H Q, Bag H p → A σ H → (∀ r H', Kp p H H' → 0 ≤ r → r < m → Q (.int r) H') → te σ H Q) : PE X e (rG p A m) := PE.imp h fun σ H Q ⟨b, a, q⟩ => i σ H Q b a q
/-- a list of what a tuple in a slot holds -/
theorem dw_cat {a b : Expr} {pos : Pos} {j l : Nat} (h : PE X a (tG X.K T p A (SmT n k))) (hb : PE X b (tG X.K T p A (SmT n j))) (u : Up p A) (hl : k + j ≤ l := by decide) (hl2 : l ≤ 1000 := by decide) : PE X (.BinOp a .Add b pos) (tG X.K T p A (SmT n l)) := PE.imp (pe_op op_catA h hb) fun σ H Q ⟨g, ha, q⟩ => by
  refine ⟨g, ha, fun v H1 d k1 o1 h1 => ⟨g.kp k1, u σ H H1 g.bag k1 ha, fun w H2 d2 k2 o2 h2 => ?_⟩⟩
  obtain ⟨ds, rfl, s1, l1⟩ := o1
  obtain ⟨es, rfl, s2, l2⟩ := o2
  have h1 := Dq.stT h1 (StT.kp k2 g.tp)
  have kk := k1.trans k2
  cases h1 with
  | @tup x xs _ hX hxs =>
  cases h2 with
  | @tup y ys _ hY hys =>
  have lx := dpAll_len hxs
  have ly := dpAll_len hys
  have ok : SmT n l (.tuple (ds ++ es)) := ⟨_, rfl, smns_app s1 s2, by rw [List.length_append]; omega⟩
  refine ⟨x, y, xs, ys, rfl, rfl, Same.seqT hid_sub hX, Same.seqT hid_sub hY, by rw [sizeLine_eq]; omega, fun e => ?_, fun _ e => ?_, fun _ _ t nt => ?_⟩
  · have : ds = [] := List.eq_nil_of_length_eq_zero (by rw [← lx, e]; rfl)
    subst this
    exact q _ H2 _ kk ok (.tup hY hys)
  · have : es = [] := List.eq_nil_of_length_eq_zero (by rw [← ly, e]; rfl)
    subst this
    rw [List.append_nil] at ok
    exact q _ H2 _ kk ok (.tup hX hxs)
  · have s := same_upd (o := .tup (xs ++ ys)) nt
    exact q _ _ _ (kk.same s) ok (.tup (SqT.of (hid_at ((g.kp kk).dom.new nt) upd_same)) (dpAll_same (hid_same s) (dpAll_app hxs hys)))
end
end Dr
namespace Dr
open PySem PySem.Spec PyProof.Rows L2
open SX (S S_len S_cat)
abbrev sArg : Stmt := topS 21
abbrev nArg : List Str := ["_law_bag_here", "_law_names_here", "_law_held", "_law_odd"]
theorem scArg : FnScope nArg ["_law_bag_here", "_law_names_here", "_law_held"] (defScope sArg) := ⟨rfl, rfl, rfl, by decide +kernel, rfl, by decide +kernel, by decide +kernel⟩
/-- bag, names and a number in the first slots -/
def A3 (p : Addr) : SP := fun σ H => σ[0]? = some (some (.ref p)) ∧ (∃ u zs, σ[1]? = some (some (.ref u)) ∧ Nms H u p zs) ∧ ∃ h : Int, σ[2]? = some (some (.int h))
theorem up_A3 {p : Addr} : Up p (A3 p) := fun σ H H' b k ⟨a, ⟨u, zs, c, n⟩, d⟩ => ⟨a, ⟨u, zs, c, n.kp k⟩, d⟩
theorem nmA3 {p : Addr} : NmA p 1 (A3 p) := fun σ H ⟨_, h, _⟩ => h
section
variable {P : Program} {w : World} {K : PySem.W.Frag} {mg : Str → Option Value} {base : Heap}
def spArg (K : PySem.W.Frag) : Sp := fun vs H Q _ => ∃ (p u : Addr) (zs : List (List Nat)) (h : Int) (T : Addr → Prop), vs = [.ref p, .ref u, .int h] ∧ Stg T p H ∧ Nms H u p zs ∧ ∀ H' v d, Kp p H H' → Smn 1 d → Dq K T H' v d → Q v H'
theorem ok_arg {f fD : Addr} {fd fdD : FuncData} (F : Fun K "_law_argument" "_law_argument" sArg f fd) (B : Blt mg)
    (GD : FnOk P w K mg base CX0 1 fD fdD ["_law_bag_here", "_law_many"] spDraw) (mD : mg "_law_draw" = some (.ref fD)) (kD : PySem.W.keepIn K (.ref fD) = true) (bD : Binds K fdD ["_law_bag_here", "_law_many"] []) :
    FnOk P w K mg base CX0 2 f fd ["_law_bag_here", "_law_names_here", "_law_held"] (spArg K) := by
  refine F.ok scArg (fun vs H Q E h => ?_) (fun cdv A outer s H vs Q E hr h => ?_)
  · obtain ⟨p, u, zs, h, T, rfl, _⟩ := h
    rfl
  · obtain ⟨p, u, zs, h, T, rfl, hG, hN, q⟩ := h
    have U := up_A3 (p := p)
    refine ⟨_, pss_cons (ps_set (i := 3) scArg.nd rfl (.inl rfl) (dw_list (T := T) (p := p) (A := A3 p) (n := 1) (k := 15) (dwa_cons dw_int (dwa_cons dw_int (dwa_cons (dw_num (pv 2) (fun σ H Q a q => by obtain ⟨_, _, h, e⟩ := a; exact ⟨_, e, q h⟩))
        (dwa_cons (dw_num (pe_op op_sub (pv 2) pe_int) (fun σ H Q a q => by obtain ⟨_, _, h, e⟩ := a; exact ⟨_, e, h, 1, rfl, rfl, q _⟩))
        (dwa_cons (dw_num (pe_op op_add (pv 2) pe_int) (fun σ H Q a q => by obtain ⟨_, _, h, e⟩ := a; exact ⟨_, e, h, 1, rfl, rfl, q _⟩))
        (dwa_cons (dw_num (pe_un un_neg pe_int) (fun σ H Q a q => ⟨1, rfl, q _⟩))
        (dwa_cons dw_bl (dwa_cons dw_bl (dwa_cons dw_non (dwa_cons (dw_tupS dwa_nil) (dwa_cons (dw_tupS (dwa_cons (dw_nmc (pv 1) nmA3) dwa_nil U)) (dwa_cons (dw_nmc (pv 1) nmA3) (dwa_cons (dw_tupS (dwa_cons dw_int dwa_nil U)) (dwa_cons (dw_lst (dwa_cons dw_int dwa_nil U))
        (dwa_cons (dw_num (pe_op op_pow pe_int pe_int) (fun σ H Q a q => ⟨10, 30, rfl, rfl, by unfold CPow; omega, q _⟩)) dwa_nil U) U) U) U) U) U) U) U) U) U) U) U) U) U) U)))
      (pss_one (ps_ret (pe_ix ix_list (pv 3) (pe_call GD hr (by rfl) mD kD bD .nil pass0 (pa_cons (pv 0) (pa_cons (pe_callB call_len_seq (by rfl) B.len PySem.boot_len (pa_cons (pv 3) pa_nil)) pa_nil))) (fun _ _ => rfl)))), ?_⟩
    refine ⟨hG, ⟨rfl, ⟨u, zs, rfl, hN⟩, h, rfl⟩, fun l H1 vs ds k1 o1 h1 nl hl => ?_⟩
    have hv := dpAll_len h1
    have lp : l ≠ p := hG.bag.ne nl
    have l15 : vs.length = 15 := by rw [hv, o1.2]
    refine ⟨_, rfl, _, rfl, _, rfl, l, vs, rfl, .inl (SqL.of hl), p, _, rfl, k1.2, by omega, by omega, fun H2 r k2 r0 r1 => ?_⟩
    obtain ⟨j, rfl⟩ : ∃ j : Nat, r = (j : Int) := ⟨r.toNat, by omega⟩
    have hj : j < vs.length := by omega
    have hx := List.getElem?_eq_getElem hj
    obtain ⟨d, hd, hdp⟩ := dpAll_get h1 hx
    exact ⟨l, vs, (j : Int), vs[j], rfl, rfl, SqL.of (k2.1 _ _ lp hl), atI_nat hx, q H2 _ d (k1.trans k2) (o1.1.all d (List.mem_of_getElem? hd)) (Dq.stT hdp (StT.kp k2 hG.tp))⟩
end
end Dr
namespace Dr
open PySem PySem.Spec PyProof.Rows L2
open SX (S S_len S_cat)
abbrev sStep : Stmt := topS 22
abbrev nStep : List Str := ["_law_bag_here", "_law_names_here", "_law_held", "_law_word", "_law_odd", "_law_args", "_law_options", "_law_bent", "_law_k"]
theorem scStep : FnScope nStep ["_law_bag_here", "_law_names_here", "_law_held"] (defScope sStep) := ⟨rfl, rfl, rfl, by decide +kernel, rfl, by decide +kernel, by decide +kernel⟩
/-- a datum in a slot -/
def SlA (K : PySem.W.Frag) (T : Addr → Prop) (i : Nat) (P : PyData → Prop) : SP := fun σ H => ∃ v d, σ[i]? = some (some v) ∧ Dq K T H v d ∧ P d
theorem up_SlA {K : PySem.W.Frag} {T : Addr → Prop} {p : Addr} {i : Nat} {P : PyData → Prop} (tp : T p) : Up p (SlA K T i P) := fun σ H H' b k ⟨v, d, e, h, o⟩ => ⟨v, d, e, h.stT (StT.kp k tp), o⟩
def andA (A B : SP) : SP := fun σ H => A σ H ∧ B σ H
theorem up_and {p : Addr} {A B : SP} (a : Up p A) (b : Up p B) : Up p (andA A B) := fun σ H H' h k ⟨x, y⟩ => ⟨a σ H H' h k x, b σ H H' h k y⟩
def A6 (K : PySem.W.Frag) (T : Addr → Prop) (p : Addr) : SP := andA (A3 p) (andA (SlA K T 5 (SmT 1 2)) (SlA K T 6 (SmT 2 2)))
theorem up_A6 {K : PySem.W.Frag} {T : Addr → Prop} {p : Addr} (tp : T p) : Up p (A6 K T p) := up_and up_A3 (up_and (up_SlA tp) (up_SlA tp))
theorem nmA6 {K : PySem.W.Frag} {T : Addr → Prop} {p : Addr} : NmA p 1 (A6 K T p) := fun σ H h => h.1.2.1
section
variable {X : Cx} {T : Addr → Prop} {p : Addr} {A : SP} {P P' : PyData → Prop} {n k : Nat}
theorem dw_raw {e : Expr} {te : TE} (h : PE X e te) (i : ∀ σ H Q, Stg T p H → A σ H → (∀ v H' d, Kp p H H' → P d → Dq X.K T H' v d → Q v H') → te σ H Q) : PE X e (tG X.K T p A P) := PE.imp h fun σ H Q ⟨g, a, q⟩ => i σ H Q g a q
/-- list(x), x a tuple in a slot -/
theorem lof_ok {K : PySem.W.Frag} {σ : L2.St} {H : Hp} {Q : VK} {i : Nat} (g : Stg T p H) (a : SlA K T i (SmT n k) σ H) (hk : k ≤ 1000) (q : ∀ v H' d, Kp p H H' → Sm (n + 1) d → Dq K T H' v d → Q v H') :
    ∃ v, σ[i]? = some (some v) ∧ ∃ b ys, [v] = [V.ref b] ∧ (SqL K H b ys ∨ SqT K H b ys) ∧ ∀ l, H l = none → Q (.ref l) (upd H l (.lst ys)) := by
  obtain ⟨v, d, e, hd, ds, rfl, s, l⟩ := a
  cases hd with
  | @tup b ys _ hS hys =>
    refine ⟨_, e, b, ys, rfl, .inr (Same.seqT hid_sub hS), fun t nt => ?_⟩
    have sm := same_upd (o := .lst ys) nt
    exact q _ _ (.list ds) ((Kp.refl' g).same sm) (smn_lst s (Nat.le_trans l hk)) (.lst (SqL.of (hid_at (g.dom.new nt) upd_same)) (dpAll_same (hid_same sm) hys))
theorem hid_le {T T' : Addr → Prop} {H : Hp} (h : ∀ b, T b → T' b) : Same (hid T' H) (hid T H) := fun b o e => by
  unfold hid at e ⊢
  split at e
  · cases e
  · rename_i n
    rw [if_neg (fun t => n (h b t))]
    exact e
/-- a list of data in a slot -/
def LsA (K : PySem.W.Frag) (T : Addr → Prop) (p : Addr) (i n k : Nat) : SP := fun σ H => ∃ l vs ds, σ[i]? = some (some (.ref l)) ∧ H l = some (.lst vs) ∧ l ≠ p ∧ DqAll K T H vs ds ∧ Smns n ds ∧ ds.length = k
theorem up_LsA {K : PySem.W.Frag} {i : Nat} (tp : T p) : Up p (LsA K T p i n k) := fun σ H H' b kp ⟨l, vs, ds, e, hl, lp, h, o, c⟩ => ⟨l, vs, ds, e, kp.1 _ _ lp hl, lp, DqAll.stT h (StT.kp kp tp), o, c⟩
/-- x[drawn], x a list in a slot -/
theorem dw_ixs {e i : Expr} {pos : Pos} {m : Int} {j : Nat} (h : PE X e (tVar j)) (hi : PE X i (rG p A m)) (u : Up p A) (hA : ∀ σ H, A σ H → LsA X.K T p j n k σ H) (hs : PlainIx i) (hm : m ≤ (k : Int) := by decide) : PE X (.Subscript e i pos) (tG X.K T p A (Sm n)) := PE.imp (pe_ix ix_list h hi hs) fun σ H Q ⟨g, a, q⟩ => by
  obtain ⟨l, vs, ds, e1, hl, lp, h1, o, c⟩ := hA σ H a
  refine ⟨.ref l, e1, g.bag, a, fun r H2 k2 r0 r1 => ?_⟩
  obtain ⟨j, rfl⟩ : ∃ j : Nat, r = (j : Int) := ⟨r.toNat, by omega⟩
  have hv := dpAll_len h1
  have hj : j < vs.length := by omega
  have hx := List.getElem?_eq_getElem hj
  obtain ⟨d, hd, hdp⟩ := dpAll_get h1 hx
  exact ⟨l, vs, (j : Int), vs[j], rfl, rfl, SqL.of (k2.1 _ _ lp hl), atI_nat hx, q _ H2 d k2 (o.all d (List.mem_of_getElem? hd)) (Dq.stT hdp (StT.kp k2 g.tp))⟩
end
def A7 (K : PySem.W.Frag) (T : Addr → Prop) (p : Addr) : SP := andA (A6 K T p) (SlA K T 7 (Sm 3))
def A7L (K : PySem.W.Frag) (T : Addr → Prop) (p : Addr) : SP := andA (A6 K T p) (LsA K T p 7 3 4)
def A4L (K : PySem.W.Frag) (T : Addr → Prop) (p : Addr) : SP := andA (A6 K T p) (LsA K T p 4 3 5)
section
variable {P : Program} {w : World} {K : PySem.W.Frag} {mg : Str → Option Value} {base : Heap}
def spStep (K : PySem.W.Frag) : Sp := fun vs H Q _ => ∃ (p u : Addr) (zs : List (List Nat)) (h : Int) (T : Addr → Prop), vs = [.ref p, .ref u, .int h] ∧ Stg T p H ∧ Nms H u p zs ∧ ∀ H' v d, Kp p H H' → Smn 4 d → Dq K T H' v d → Q v H'
theorem ok_step {f fD fA : Addr} {fd fdD fdA : FuncData} (F : Fun K "_law_drawn_step" "_law_drawn_step" sStep f fd) (B : Blt mg) (htu : mg "tuple" = none)
    (GD : FnOk P w K mg base CX0 1 fD fdD ["_law_bag_here", "_law_many"] spDraw) (mD : mg "_law_draw" = some (.ref fD)) (kD : PySem.W.keepIn K (.ref fD) = true) (bD : Binds K fdD ["_law_bag_here", "_law_many"] [])
    (GA : FnOk P w K mg base CX0 2 fA fdA ["_law_bag_here", "_law_names_here", "_law_held"] (spArg K)) (mA : mg "_law_argument" = some (.ref fA)) (kA : PySem.W.keepIn K (.ref fA) = true) (bA : Binds K fdA ["_law_bag_here", "_law_names_here", "_law_held"] []) :
    FnOk P w K mg base CX0 3 f fd ["_law_bag_here", "_law_names_here", "_law_held"] (spStep K) := by
  refine F.ok scStep (fun vs H Q E h => ?_) (fun cdv A outer s H vs Q E hr h => ?_)
  · obtain ⟨p, u, zs, h, T, rfl, _⟩ := h
    rfl
  · obtain ⟨p, u, zs, h, T, rfl, hG, hN, q⟩ := h
    have hr1 : Room 1 _ := hr.mono (by decide)
    have U := up_A3 (p := p)
    have U6 := up_A6 (K := K) hG.tp
    have U7 : Up p (A7 K T p) := up_and U6 (up_SlA hG.tp)
    have U7L : Up p (A7L K T p) := up_and U6 (up_LsA hG.tp)
    have U4L : Up p (A4L K T p) := up_and U6 (up_LsA hG.tp)
    have nmA7 : NmA p 1 (A7 K T p) := fun σ H h => h.1.1.2.1
    have nmA7L : NmA p 1 (A7L K T p) := fun σ H h => h.1.1.2.1
    have nmA4L : NmA p 1 (A4L K T p) := fun σ H h => h.1.1.2.1
    have arg3 : ∀ (σ : L2.St) (H : Hp) (Q : VK) (n : Nat), 1 ≤ n → Stg T p H → A3 p σ H → (∀ v H' d, Kp p H H' → Sm n d → Dq K T H' v d → Q v H') → ∃ v0, σ[0]? = some (some v0) ∧ ∃ v1, σ[1]? = some (some v1) ∧ ∃ v2, σ[2]? = some (some v2) ∧ spArg K [v0, v1, v2] H Q E0 := fun σ H Q n hn g a q => by
      obtain ⟨a0, ⟨u, zs, a1, hN⟩, h, a2⟩ := a
      exact ⟨_, a0, _, a1, _, a2, p, u, zs, h, T, rfl, g, hN, fun H' v d k o hd => q v H' d k (Smn.mono o hn) hd⟩
    refine ⟨_, pss_cons (ps_set (i := 3) scStep.nd rfl (.inl rfl) (pe_call GD hr1 (by rfl) mD kD bD .nil pass0 (pa_cons (pv 0) (pa_cons pe_int pa_nil))))
      (pss_cons (ps_if (pt_cmpR op_eq (pv 3) pe_int (nomark _))
        (pss_cons (ps_set (i := 4) scStep.nd rfl (.inl rfl) (dw_list (T := T) (p := p) (A := A3 p) (n := 3) (k := 9) (dwa_cons dw_non (dwa_cons (dw_imp (dw_tupS (n := 0) dwa_nil) (fun d o => o.mono (by decide))) (dwa_cons (dw_tupS (dwa_cons (dw_str (by decide +kernel)) dwa_nil U)) (dwa_cons (dw_tupS (dwa_cons (dw_str (by decide +kernel)) (dwa_cons dw_int dwa_nil U) U))
            (dwa_cons (dw_lst (dwa_cons (dw_str (by decide +kernel)) (dwa_cons dw_int (dwa_cons (dw_nmc (pv 1) nmA3) dwa_nil U) U) U)) (dwa_cons (dw_tupS (dwa_cons (dw_str (by decide +kernel)) (dwa_cons dw_int (dwa_cons (dw_nmc (pv 1) nmA3) dwa_nil U) U) U))
            (dwa_cons (dw_str (by decide +kernel)) (dwa_cons dw_int (dwa_cons (dw_tupS (dwa_cons dw_bl (dwa_cons dw_int (dwa_cons dw_int dwa_nil U) U) U)) dwa_nil U) U) U) U) U) U) U) U) U)))
        (pss_one (ps_ret (pe_ix ix_list (pv 4) (pe_call GD hr1 (by rfl) mD kD bD .nil pass0 (pa_cons (pv 0) (pa_cons (pe_callB call_len_seq (by rfl) B.len PySem.boot_len (pa_cons (pv 4) pa_nil)) pa_nil))) (fun _ _ => rfl))))) pss_nil)
      (pss_cons (ps_if (pt_cmpR op_eq (pv 3) pe_int (nomark _))
        (pss_one (ps_ret (dw_tupS (T := T) (p := p) (A := A3 p) (n := 3) (k := 3) (dwa_cons (dw_ix (dw_list (k := 2) (dwa_cons (dw_str (by decide +kernel)) (dwa_cons (dw_str (by decide +kernel)) dwa_nil U) U)) (dw_draw (m := 2) (pe_call GD hr1 (by rfl) mD kD bD .nil pass0 (pa_cons (pv 0) (pa_cons pe_int pa_nil))) (fun σ H Q b a q => ⟨_, a.1, p, 2, rfl, b, by decide, by decide, fun H' r k r0 r1 => q r H' k r0 r1⟩)) U (fun _ _ => rfl))
          (dwa_cons (dw_raw (pe_call GA hr (by rfl) mA kA bA .nil pass0 (pa_cons (pv 0) (pa_cons (pv 1) (pa_cons (pv 2) pa_nil)))) (fun σ H Q g a q => arg3 σ H Q 3 (by decide) g a q))
          (dwa_cons (dw_raw (pe_call GA hr (by rfl) mA kA bA .nil pass0 (pa_cons (pv 0) (pa_cons (pv 1) (pa_cons (pv 2) pa_nil)))) (fun σ H Q g a q => arg3 σ H Q 3 (by decide) g a q)) dwa_nil U) U) U)))) pss_nil)
      (pss_cons (ps_set (i := 5) scStep.nd rfl (.inl rfl) (pe_callTy call_tuple_of (by rfl) htu (by decide +kernel) (pa_cons (pe_lc (own := [("_law_k", 8)]) (g := gName 8) (tt := tYes) rfl scStep.nd (pi_range1 rfl B.ran (pa_cons (pe_call GD hr1 (by rfl) mD kD bD .nil pass0 (pa_cons (pv 0) (pa_cons pe_int pa_nil))) pa_nil)) (blkOk_by (N := nStep) (sc := defScope sStep) (by decide +kernel)) (fun _ _ _ _ _ => pg_name (i := 8) scStep.nd rfl (Or.inl rfl)) (fun _ _ _ _ _ => pts_nil)
          (fun _ _ _ _ _ => pe_call GA hr (by rfl) mA kA bA .nil pass0 (pa_cons (pv 0) (pa_cons (pv 1) (pa_cons (pv 2) pa_nil))))) pa_nil)))
      (pss_cons (ps_set (i := 6) scStep.nd rfl (.inl rfl) (pe_callTy call_tuple_of (by rfl) htu (by decide +kernel) (pa_cons (pe_lc (own := [("_law_k", 8)]) (g := gName 8) (tt := tYes) rfl scStep.nd (pi_range1 rfl B.ran (pa_cons (pe_call GD hr1 (by rfl) mD kD bD .nil pass0 (pa_cons (pv 0) (pa_cons pe_int pa_nil))) pa_nil)) (blkOk_by (N := nStep) (sc := defScope sStep) (by decide +kernel)) (fun _ _ _ _ _ => pg_name (i := 8) scStep.nd rfl (Or.inl rfl)) (fun _ _ _ _ _ => pts_nil)
          (fun _ _ _ _ _ => pe_tup (pa_cons (pe_ix (show IxR _ (rIxL K) from ix_list) (pv 1) (pe_call GD hr1 (by rfl) mD kD bD .nil pass0 (pa_cons (pv 0) (pa_cons pe_int pa_nil))) (fun _ _ => rfl)) (pa_cons (pe_call GA hr (by rfl) mA kA bA .nil pass0 (pa_cons (pv 0) (pa_cons (pv 1) (pa_cons (pv 2) pa_nil)))) pa_nil)))) pa_nil)))
      (pss_cons (ps_if (pt_cmpR op_eq (pv 3) pe_int (nomark _)) (pss_cons (ps_set (i := 7) scStep.nd rfl (.inl rfl) (dw_ix (T := T) (p := p) (A := A6 K T p) (n := 3) (dw_list (k := 3) (dwa_cons (dw_raw (pe_callTy call_list_of (by rfl) B.lst (by decide +kernel) (pa_cons (pv 5) pa_nil)) (fun σ H Q g a q => lof_ok (n := 1) (k := 2) g a.2.1 (by decide) (fun v H' d k o hd => q v H' d k (Smn.mono o (by decide)) hd))) (dwa_cons dw_non (dwa_cons (dw_imp (dw_cat (n := 1) (k := 2) (j := 1) (l := 3) (dw_slot 5 (pv 5) (fun σ H a => a.2.1)) (dw_tup (dwa_cons dw_int dwa_nil U6)) U6) (fun d o => (o.sm (by decide)).mono (by decide))) dwa_nil U6) U6) U6)) (dw_draw (m := 3) (pe_call GD hr1 (by rfl) mD kD bD .nil pass0 (pa_cons (pv 0) (pa_cons pe_int pa_nil))) (fun σ H Q b a q => ⟨_, a.1.1, p, 3, rfl, b, by decide, by decide, fun H' r k r0 r1 => q r H' k r0 r1⟩)) U6 (fun _ _ => rfl))) (pss_one (ps_ret (dw_tupS (T := T) (p := p) (A := A7 K T p) (n := 3) (k := 5) (dwa_cons (dw_str (by decide +kernel)) (dwa_cons (dw_nmc (pv 1) nmA7) (dwa_cons (dw_nmc (pv 1) nmA7) (dwa_cons (dw_slot 7 (pv 7) (fun σ H a => a.2)) (dwa_cons (dw_imp (P := SmT 2 2) (dw_slot 6 (pv 6) (fun σ H a => a.1.2.2)) (fun d o => (o.sm (by decide)).mono (by decide))) dwa_nil U7) U7) U7) U7) U7))))) pss_nil)
      (pss_cons (ps_if (pt_cmpR op_eq (pv 3) pe_int (nomark _)) (pss_cons (ps_set (i := 7) scStep.nd rfl (.inl rfl) (dw_list (T := T) (p := p) (A := A6 K T p) (n := 3) (k := 4) (dwa_cons (dw_raw (pe_callTy call_list_of (by rfl) B.lst (by decide +kernel) (pa_cons (pv 6) pa_nil)) (fun σ H Q g a q => lof_ok (n := 2) (k := 2) g a.2.2 (by decide) (fun v H' d k o hd => q v H' d k (Smn.mono o (by decide)) hd))) (dwa_cons (dw_imp (dw_cat (n := 2) (k := 2) (j := 1) (l := 3) (dw_slot 6 (pv 6) (fun σ H a => a.2.2)) (dw_tup (dwa_cons (dw_tupS (n := 1) (dwa_cons dw_int dwa_nil U6)) dwa_nil U6)) U6) (fun d o => (o.sm (by decide)).mono (by decide))) (dwa_cons (dw_imp (dw_cat (n := 2) (k := 2) (j := 1) (l := 3) (dw_slot 6 (pv 6) (fun σ H a => a.2.2)) (dw_tup (dwa_cons (dw_lst (n := 1) (dwa_cons (dw_nmc (pv 1) nmA6) (dwa_cons dw_int dwa_nil U6) U6)) dwa_nil U6)) U6) (fun d o => (o.sm (by decide)).mono (by decide))) (dwa_cons (dw_imp (dw_cat (n := 2) (k := 2) (j := 1) (l := 3) (dw_slot 6 (pv 6) (fun σ H a => a.2.2)) (dw_tup (dwa_cons (dw_tupS (n := 1) (dwa_cons dw_int (dwa_cons (dw_num (pv 2) (fun σ H Q a q => by obtain ⟨_, _, h, e⟩ := a.1; exact ⟨_, e, q h⟩)) (dwa_cons dw_int dwa_nil U6) U6) U6)) dwa_nil U6)) U6) (fun d o => (o.sm (by decide)).mono (by decide))) dwa_nil U6) U6) U6) U6))) (pss_one (ps_ret (dw_tupS (T := T) (p := p) (A := A7L K T p) (n := 3) (k := 5) (dwa_cons (dw_str (by decide +kernel)) (dwa_cons (dw_nmc (pv 1) nmA7L) (dwa_cons (dw_nmc (pv 1) nmA7L) (dwa_cons (dw_imp (P := SmT 1 2) (dw_slot 5 (pv 5) (fun σ H a => a.1.2.1)) (fun d o => (o.sm (by decide)).mono (by decide))) (dwa_cons (dw_ixs (k := 4) (pv 7) (dw_draw (m := 4) (pe_call GD hr1 (by rfl) mD kD bD .nil pass0 (pa_cons (pv 0) (pa_cons pe_int pa_nil))) (fun σ H Q b a q => ⟨_, a.1.1.1, p, 4, rfl, b, by decide, by decide, fun H' r k r0 r1 => q r H' k r0 r1⟩)) U7L (fun σ H a => a.2) (fun _ _ => rfl)) dwa_nil U7L) U7L) U7L) U7L) U7L))))) pss_nil)
      (pss_cons (ps_if (pt_cmpR op_eq (pv 3) pe_int (nomark _)) (pss_cons (ps_set (i := 4) scStep.nd rfl (.inl rfl) (dw_list (T := T) (p := p) (A := A6 K T p) (n := 3) (k := 5) (dwa_cons dw_non (dwa_cons dw_bl (dwa_cons (dw_lst (n := 2) (dwa_cons (dw_nmc (pv 1) nmA6) dwa_nil U6)) (dwa_cons (dw_str (by decide +kernel)) (dwa_cons (dw_imp (dw_tupS (n := 0) dwa_nil) (fun d o => o.mono (by decide))) dwa_nil U6) U6) U6) U6) U6))) (pss_one (ps_ret (dw_tupS (T := T) (p := p) (A := A4L K T p) (n := 3) (k := 5) (dwa_cons (dw_str (by decide +kernel)) (dwa_cons (dw_ixs (k := 5) (pv 4) (dw_draw (m := 5) (pe_call GD hr1 (by rfl) mD kD bD .nil pass0 (pa_cons (pv 0) (pa_cons pe_int pa_nil))) (fun σ H Q b a q => ⟨_, a.1.1.1, p, 5, rfl, b, by decide, by decide, fun H' r k r0 r1 => q r H' k r0 r1⟩)) U4L (fun σ H a => a.2) (fun _ _ => rfl)) (dwa_cons (dw_nmc (pv 1) nmA4L) (dwa_cons (dw_imp (P := SmT 1 2) (dw_slot 5 (pv 5) (fun σ H a => a.1.2.1)) (fun d o => (o.sm (by decide)).mono (by decide))) (dwa_cons (dw_imp (P := SmT 2 2) (dw_slot 6 (pv 6) (fun σ H a => a.1.2.2)) (fun d o => (o.sm (by decide)).mono (by decide))) dwa_nil U4L) U4L) U4L) U4L) U4L))))) pss_nil)
      (pss_one (ps_ret (dw_tupS (T := T) (p := p) (A := A6 K T p) (n := 3) (k := 5) (dwa_cons (dw_str (by decide +kernel)) (dwa_cons (dw_nm (pv 1) (dw_draw (m := 4) (pe_call GD hr1 (by rfl) mD kD bD .nil pass0 (pa_cons (pv 0) (pa_cons pe_int pa_nil))) (fun σ H Q b a q => ⟨_, a.1.1, p, 4, rfl, b, by decide, by decide, fun H' r k r0 r1 => q r H' k r0 r1⟩)) U6 nmA6 (fun _ _ => rfl)) (dwa_cons (dw_nm (pv 1) (dw_draw (m := 4) (pe_call GD hr1 (by rfl) mD kD bD .nil pass0 (pa_cons (pv 0) (pa_cons pe_int pa_nil))) (fun σ H Q b a q => ⟨_, a.1.1, p, 4, rfl, b, by decide, by decide, fun H' r k r0 r1 => q r H' k r0 r1⟩)) U6 nmA6 (fun _ _ => rfl)) (dwa_cons (dw_imp (P := SmT 1 2) (dw_slot 5 (pv 5) (fun σ H a => a.2.1)) (fun d o => (o.sm (by decide)).mono (by decide))) (dwa_cons (dw_imp (P := SmT 2 2) (dw_slot 6 (pv 6) (fun σ H a => a.2.2)) (fun d o => (o.sm (by decide)).mono (by decide))) dwa_nil U6) U6) U6) U6) U6))))))))))), ?_⟩
    refine ⟨_, rfl, p, 8, rfl, hG.bag, by decide, by decide, fun H1 r k1 r0 r8 => ?_⟩
    have g1 := hG.kp k1
    have hN1 := hN.kp k1
    refine ⟨_, rfl, rfl, _, rfl, ite2 (fun _ => ?_) (fun _ => ?_)⟩
    · refine ⟨g1, ⟨rfl, ⟨u, zs, rfl, hN1⟩, h, rfl⟩, fun l H2 vs ds k2 o2 h2 nl hl => ?_⟩
      have hv := dpAll_len h2
      have lp : l ≠ p := g1.bag.ne nl
      have l9 : vs.length = 9 := by rw [hv, o2.2]
      refine ⟨_, rfl, _, rfl, _, rfl, l, vs, rfl, .inl (SqL.of hl), p, _, rfl, k2.2, by omega, by omega, fun H3 r k3 r0 r1 => ?_⟩
      obtain ⟨j, rfl⟩ : ∃ j : Nat, r = (j : Int) := ⟨r.toNat, by omega⟩
      have hj : j < vs.length := by omega
      have hx := List.getElem?_eq_getElem hj
      obtain ⟨d, hd, hdp⟩ := dpAll_get h2 hx
      exact ⟨l, vs, (j : Int), vs[j], rfl, rfl, SqL.of (k3.1 _ _ lp hl), atI_nat hx, q H3 _ d ((k1.trans k2).trans k3) (Smn.mono (o2.1.all d (List.mem_of_getElem? hd)) (by decide)) (Dq.stT hdp (StT.kp k3 hG.tp))⟩
    refine ⟨_, rfl, rfl, _, rfl, ite2 (fun _ => ?_) (fun _ => ?_)⟩
    · exact ⟨g1, ⟨rfl, ⟨u, zs, rfl, hN1⟩, h, rfl⟩, fun v H2 d k2 o2 h2 => q H2 v d (k1.trans k2) o2 h2⟩
    refine ⟨_, rfl, p, 3, rfl, k1.2, by decide, by decide, fun H2 c k2 c0 c3 => ⟨c, rfl, by omega, by omega, fun D hD => ?_⟩⟩
    have g2 := g1.kp k2
    have hN2 := hN1.kp k2
    have Dn : D ≠ p := k2.2.ne hD
    have TD : ¬ T D := g2.dom.new hD
    refine lc_it walk_range (fun j H5 => Kp p H2 H5 ∧ ∃ vs ds, H5 D = some (.lst vs) ∧ DqAll K (fun b => T b ∨ b = D) H5 vs ds ∧ Smns 1 ds ∧ ds.length = j) ⟨Kp.of k2.2 (same_upd hD), [], [], upd_same, .nil, smn_nil, rfl⟩ (fun _ _ _ _ => trivial) ?_ ?_
    · rintro j y H5 H6 hj ⟨k5, vs, ds, hl, hq, so, lj⟩ ⟨rfl, rfl⟩
      have hj3 : j < 3 := by
        have : j < c.toNat := hj
        omega
      refine ⟨rfl, ?_⟩
      unfold tYes
      refine iteT ⟨_, rfl, _, rfl, _, rfl, p, u, zs, h, fun b => T b ∨ b = D, rfl, ⟨k5.2, fun b t => ?_, .inl hG.tp⟩, hN2.kp k5, fun H7 v d k7 o7 h7 => ?_⟩
      · rcases t with t | rfl
        · exact g2.dom.kp k5 b t
        · rw [hl]
          simp
      have hl7 := k7.1 _ _ Dn hl
      have st : StT (fun b => T b ∨ b = D) H7 (upd H7 D (.lst (vs ++ [v]))) := StT.set (.inr rfl)
      refine ⟨vs, hl7, ?_, ⟨fun b o n e => ?_, ?_⟩, vs ++ [v], ds ++ [d], upd_same, ?_, smns_app so (smn_cons o7 smn_nil), by rw [List.length_append, lj]; rfl⟩
      · rw [dpAll_len hq, lj]
        exact small1000 (by omega)
      · rw [upd_ne (ne_of_none e hD)]
        exact k7.1 _ _ n (k5.1 _ _ n e)
      · obtain ⟨u, v, w2, ns, hp, hb⟩ := k7.2
        exact ⟨u, v, w2, ns, by rw [upd_ne Dn.symm]; exact hp, hb⟩
      · exact dpAll_app (DqAll.stT (DqAll.stT hq (StT.kp k7 (.inl hG.tp))) st) (.cons (Dq.stT h7 st) .nil)
    rintro H5 ⟨k5, vs, ds, hl, hq, so, lj⟩
    refine ⟨D, vs, rfl, .inl ⟨SqL.of hl, fun t nt => ?_⟩⟩
    have g5 := g2.kp k5
    have s6 := same_upd (o := .tup vs) nt
    have hA : Dq K T (upd H5 t (.tup vs)) (.ref t) (.tuple ds) := .tup (SqT.of (hid_at (g5.dom.new nt) upd_same)) (dpAll_same (hid_same s6) (dpAll_same (hid_le fun b t => .inl t) hq))
    have k6 := (k1.trans k2).trans (k5.same s6)
    have oA : SmT 1 2 (.tuple ds) := ⟨ds, rfl, so, by omega⟩
    generalize (upd H5 t (.tup vs)) = H6 at hA k6 ⊢
    clear hl hq so lj k5 g5 s6
    have g6 := hG.kp k6
    have hN6 := hN.kp k6
    refine ⟨_, rfl, p, 3, rfl, k6.2, by decide, by decide, fun H2 c k2 c0 c3 => ⟨c, rfl, by omega, by omega, fun D hD => ?_⟩⟩
    have g2 := g6.kp k2
    have hN2 := hN6.kp k2
    have Dn : D ≠ p := k2.2.ne hD
    have TD : ¬ T D := g2.dom.new hD
    refine lc_it walk_range (fun j H5 => Kp p H2 H5 ∧ ∃ vs ds, H5 D = some (.lst vs) ∧ DqAll K (fun b => T b ∨ b = D) H5 vs ds ∧ Smns 2 ds ∧ ds.length = j) ⟨Kp.of k2.2 (same_upd hD), [], [], upd_same, .nil, smn_nil, rfl⟩ (fun _ _ _ _ => trivial) ?_ ?_
    · rintro j y H5 H6 hj ⟨k5, vs, ds, hl, hq, so, lj⟩ ⟨rfl, rfl⟩
      have hj3 : j < 3 := by
        have : j < c.toNat := hj
        omega
      refine ⟨rfl, ?_⟩
      unfold tYes
      refine iteT ⟨_, rfl, _, rfl, p, 3, rfl, k5.2, by decide, by decide, fun H6 i k6 i0 i3 => ?_⟩
      have hN5 := (hN2.kp k5).kp k6
      obtain ⟨z, hz, hat⟩ := nms_at (zs := zs) i0 (by have := hN.ne; omega)
      have gT : Stg (fun b => T b ∨ b = D) p H6 := ⟨k6.2, fun b t => by
        rcases t with t | rfl
        · exact (g2.dom.kp k5).kp k6 b t
        · rw [k6.1 _ _ Dn hl]
          simp, .inl hG.tp⟩
      refine ⟨u, txts zs, i, _, rfl, rfl, SqL.of hN5.at_, hat, _, rfl, _, rfl, _, rfl, p, u, zs, h, fun b => T b ∨ b = D, rfl, gT, hN5, fun H7 v d k7 o7 h7 => ⟨two_le, fun e ne => ?_⟩⟩
      have se := same_upd (o := .tup [V.str (S z), v]) ne
      have k567 := (k6.trans k7).same se
      have hl7 := k567.1 _ _ Dn hl
      have gE := gT.kp k7
      have hE : Dq K (fun b => T b ∨ b = D) (upd H7 e (.tup [V.str (S z), v])) (.ref e) (.tuple [.str (S z), d]) := .tup (SqT.of (hid_at (gE.dom.new ne) upd_same)) (.cons (.str _) (.cons (Dq.same h7 se) .nil))
      have oE : Smn 2 (.tuple [.str (S z), d]) := smn_tup (smn_cons (smn_name (hN.ok z hz)) (smn_cons o7 smn_nil)) (by show 2 ≤ 1000; decide)
      have st : StT (fun b => T b ∨ b = D) (upd H7 e (.tup [V.str (S z), v])) (upd (upd H7 e (.tup [V.str (S z), v])) D (.lst (vs ++ [.ref e]))) := StT.set (.inr rfl)
      refine ⟨vs, hl7, ?_, ⟨fun b o n e2 => ?_, ?_⟩, vs ++ [.ref e], ds ++ [.tuple [.str (S z), d]], upd_same, ?_, smns_app so (smn_cons oE smn_nil), by rw [List.length_append, lj]; rfl⟩
      · rw [dpAll_len hq, lj]
        exact small1000 (by omega)
      · rw [upd_ne (ne_of_none e2 hD)]
        exact k567.1 _ _ n (k5.1 _ _ n e2)
      · obtain ⟨u, v, w2, ns, hp, hb⟩ := k567.2
        exact ⟨u, v, w2, ns, by rw [upd_ne Dn.symm]; exact hp, hb⟩
      · exact dpAll_app (DqAll.stT (DqAll.stT hq (StT.kp k567 (.inl hG.tp))) st) (.cons (Dq.stT hE st) .nil)
    rintro H5 ⟨k5, vs, ds2, hl, hq, so, lj⟩
    refine ⟨D, vs, rfl, .inl ⟨SqL.of hl, fun t2 nt2 => ?_⟩⟩
    have g5 := g2.kp k5
    have s6 := same_upd (o := .tup vs) nt2
    have hO : Dq K T (upd H5 t2 (.tup vs)) (.ref t2) (.tuple ds2) := .tup (SqT.of (hid_at (g5.dom.new nt2) upd_same)) (dpAll_same (hid_same s6) (dpAll_same (hid_le fun b t => .inl t) hq))
    have k9 := (k2.trans (k5.same s6))
    have oO : SmT 2 2 (.tuple ds2) := ⟨ds2, rfl, so, by omega⟩
    generalize (upd H5 t2 (.tup vs)) = H9 at hO k9 ⊢
    have hA := Dq.stT hA (StT.kp k9 hG.tp)
    have kk := k6.trans k9
    have g9 := hG.kp kk
    have hN9 := hN.kp kk
    clear hl hq so lj k5 g5 s6 k9 k2 g2 hN2 Dn TD
    have a6 : ∀ {y4 y7 y8 : Option V}, A6 K T p [some (.ref p), some (.ref u), some (.int h), some (.int r), y4, some (.ref t), some (.ref t2), y7, y8] H9 := ⟨⟨rfl, ⟨u, zs, rfl, hN9⟩, h, rfl⟩, ⟨_, _, rfl, hA, oA⟩, _, _, rfl, hO, oO⟩
    have a6' : ∀ {H : Hp} {y4 y7 y8 : Option V}, Kp p H9 H → A6 K T p [some (.ref p), some (.ref u), some (.int h), some (.int r), y4, some (.ref t), some (.ref t2), y7, y8] H := fun {H y4 y7 y8} k => U6 _ _ _ g9.bag k a6
    refine ⟨_, rfl, rfl, _, rfl, ite2 (fun _ => ?_) (fun _ => ?_)⟩
    · exact ⟨g9, a6, fun v H10 d k10 o10 h10 => ⟨g9.kp k10, ⟨a6' k10, v, d, rfl, h10, o10⟩, fun v2 H11 d2 k11 o11 h11 => q H11 v2 d2 (kk.trans (k10.trans k11)) o11 h11⟩⟩
    refine ⟨_, rfl, rfl, _, rfl, ite2 (fun _ => ?_) (fun _ => ?_)⟩
    · exact ⟨g9, a6, fun l H10 vs ds k10 o10 h10 nl hl => ⟨g9.kp k10, ⟨a6' k10, l, vs, ds, rfl, hl, g9.bag.ne nl, h10, o10.1, o10.2⟩, fun v2 H11 d2 k11 o11 h11 => q H11 v2 d2 (kk.trans (k10.trans k11)) o11 h11⟩⟩
    refine ⟨_, rfl, rfl, _, rfl, ite2 (fun _ => ?_) (fun _ => ?_)⟩
    · exact ⟨g9, a6, fun l H10 vs ds k10 o10 h10 nl hl => ⟨g9.kp k10, ⟨a6' k10, l, vs, ds, rfl, hl, g9.bag.ne nl, h10, o10.1, o10.2⟩, fun v2 H11 d2 k11 o11 h11 => q H11 v2 d2 (kk.trans (k10.trans k11)) o11 h11⟩⟩
    exact ⟨g9, a6, fun v2 H11 d2 k11 o11 h11 => q H11 v2 d2 (kk.trans k11) o11 h11⟩
end
end Dr
namespace Dr
open PySem PySem.Spec PyProof.Rows L2
open SX (S S_len S_cat)
abbrev sForm : Stmt := topS 23
theorem scForm : FnScope ["_law_thing", "_law_pair"] ["_law_thing"] (defScope sForm) := ⟨rfl, rfl, rfl, by decide +kernel, rfl, by decide +kernel, by decide +kernel⟩
theorem eqvS {a : Str} : ∀ {x : PyData}, PyData.eqv x (.str a) = true → x = .str a
  | .str b, h => by
    have h : (b == a) = true := h
    rw [beq_iff_eq.mp h]
  | .none, h => by cases h
  | .bool _, h => by cases h
  | .int _, h => by cases h
  | .list _, h => by cases h
  | .tuple _, h => by cases h
  | .dict _, h => by cases h
theorem eqvC {a : Str} : ∀ x : PyData, PyData.eqv (.str a) x = PyData.eqv x (.str a)
  | .str b => by
    show (a == b) = (b == a)
    rw [Bool.eq_iff_iff, beq_iff_eq, beq_iff_eq]
    exact eq_comm
  | .none => rfl
  | .bool _ => rfl
  | .int _ => rfl
  | .list _ => rfl
  | .tuple _ => rfl
  | .dict _ => rfl
def isFormD (d : PyData) : Bool := isChgD d || isCallD d
theorem isForm_tup {d : PyData} (h : isTupD d = false) : isFormD d = false := by cases d <;> first | rfl | cases h
theorem isForm_len {ds : List PyData} (h3 : ds.length ≠ 3) (h5 : ds.length ≠ 5) : isFormD (.tuple ds) = false := by
  match ds, h3, h5 with
  | [], _, _ => rfl
  | [_], _, _ => rfl
  | [_, _], _, _ => rfl
  | [_, _, _], h, _ => exact absurd rfl h
  | [_, _, _, _], _, _ => rfl
  | [_, _, _, _, _], _, h => exact absurd rfl h
  | _ :: _ :: _ :: _ :: _ :: _ :: _, _, _ => rfl
section
variable {X : Cx}
/-- x in t, t a tuple of data -/
def rInT (K : PySem.W.Frag) : R2 := fun x y H Q => ∃ d ds, Dp K H x d ∧ Dp K H y (.tuple ds) ∧ SeqAt.shaped d = true ∧ SeqAt.shaped (.tuple ds) = true ∧ Q (.bl (ds.any fun z => PyData.eqv z d)) H
theorem op_inT (hu : X.A.units + 65 < cLine) : OpR X (compareOp .In) (rInT X.K) := by
  intro pins s σ H x y v u Q I rx ry h
  obtain ⟨d, ds, hd, he, sd, se, q⟩ := h
  obtain ⟨as, r1⟩ := Dp.reads I d x v hd rx
  obtain ⟨bs, r2⟩ := Dp.reads I (.tuple ds) y u he ry
  exact SeqAt.in_tuple_reads r2 r1 (SeqAt.canLay_of_shaped se) (SeqAt.canLay_of_shaped sd) (room_in_shaped sd hu) ⟨.bl _, H, I, rfl, q⟩
end
section
variable {P : Program} {w : World} {K : PySem.W.Frag} {mg : Str → Option Value} {base : Heap}
theorem ok_form {f : Addr} {fd : FuncData} (F : Fun K "_law_is_form" "_law_is_form" sForm f fd) (W : Wds K mg) : FnOk P w K mg base CX0 1 f fd ["_law_thing"] (spAsk K isFormD) := by
  refine F.ok scForm (fun vs H Q E h => ?_) (fun cdv A outer s H vs Q E hr h => ?_)
  · obtain ⟨v, d, rfl, _⟩ := h
    rfl
  · obtain ⟨v, d, rfl, hd, hok, q⟩ := h
    have hU : (A.deeper (envOfC "_law_is_form" (defScope sForm) s.heap.objs.size f cdv)).units + 65 < cLine := by
      have := hr.un
      omega
    have hu : (A.deeper (envOfC "_law_is_form" (defScope sForm) s.heap.objs.size f cdv)).units + 64 < cLine := hr.units
    refine ⟨_, pss_cons (ps_if (PW.pt (pw_or (pt_not (pt_val (pe_callB call_isi (by rfl) W.isi (by decide +kernel) (pa_cons (pv 0) (pa_cons (pe_bltn (v := .ty "tuple") (by rfl) W.tup (by decide +kernel) rfl) pa_nil)))))
        (pw_or1 (pt_cmpR op_notIn_seq (pe_callB call_len_seq (by rfl) W.len PySem.boot_len (pa_cons (pv 0) pa_nil)) (pe_tup (pa_cons pe_int (pa_cons pe_int pa_nil))) rfl))))
        (pss_one (ps_ret pe_bl)) pss_nil)
      (pss_cons (ps_if (pt_cmpR op_eq (pe_callB call_len_seq (by rfl) W.len PySem.boot_len (pa_cons (pv 0) pa_nil)) pe_int (nomark _))
        (pss_one (ps_ret (pe_cmpR (op_inT hU) (pe_ix ix_tup (pv 0) pe_int (fun _ _ => rfl)) (pe_tup (pa_cons pe_str (pa_cons pe_str pa_nil))) rfl))) pss_nil)
      (pss_cons (ps_if (PW.pt (pw_or (pt_cmpR (op_neD hu) (pe_ix ix_tup (pv 0) pe_int (fun _ _ => rfl)) pe_str (nomark _)) (pw_or (pt_not (pt_val (pe_callB call_isi (by rfl) W.isi (by decide +kernel) (pa_cons (pe_ix ix_tup (pv 0) pe_int (fun _ _ => rfl)) (pa_cons (pe_bltn (v := .ty "tuple") (by rfl) W.tup (by decide +kernel) rfl) pa_nil)))))
          (pw_or1 (pt_not (pt_val (pe_callB call_isi (by rfl) W.isi (by decide +kernel) (pa_cons (pe_ix ix_tup (pv 0) pe_int (fun _ _ => rfl)) (pa_cons (pe_bltn (v := .ty "tuple") (by rfl) W.tup (by decide +kernel) rfl) pa_nil)))))))))
          (pss_one (ps_ret pe_bl)) pss_nil)
      (pss_one (ps_ret (pe_callB (cr_all rfl) (by rfl) W.all (by decide +kernel) (pa_cons
          (pe_lc (own := [("_law_pair", 1)]) (g := gName 1) (tt := tYes) rfl scForm.nd (pi_tup (pe_ix ix_tup (pv 0) pe_int (fun _ _ => rfl))) (blkOk_by (N := ["_law_thing", "_law_pair"]) (sc := defScope sForm) (by decide +kernel)) (fun _ _ _ _ _ => pg_name (i := 1) scForm.nd rfl (Or.inl rfl)) (fun _ _ _ _ _ => pts_nil)
            (fun _ _ _ _ _ => pe_and (pe_callB (show CallR _ (.builtin "isinstance") (rIsi K) from call_isi) (by rfl) W.isi (by decide +kernel) (pa_cons (pv 1) (pa_cons (pe_bltn (v := .ty "tuple") (by rfl) W.tup (by decide +kernel) rfl) pa_nil)))
              (pe_one (pe_cmpR op_eq (pe_callB (show CallR _ (.builtin "len") (fun xs H Q => ∃ p ys, xs = [V.ref p] ∧ (SqL K H p ys ∨ SqT K H p ys) ∧ Q (.int ys.length) H) from call_len_seq) (by rfl) W.len PySem.boot_len (pa_cons (pv 1) pa_nil)) pe_int (nomark _))))) pa_nil)))))), ?_⟩
    refine ⟨v, rfl, v, .ty "tuple", _, _, _, rfl, .ty _, dp_ty hd, kit_tup d, _, rfl, ?_⟩
    by_cases ht : isTupD d = true
    case neg =>
      rw [eq_false_of_ne_true ht]
      rw [isForm_tup (eq_false_of_ne_true ht)] at q
      exact iteT (q _ (Same.refl _))
    cases d with
    | tuple ds =>
      cases hd with
      | @tup a xs _ hS hall =>
        have hxl := dpAll_len hall
        refine iteF ⟨_, rfl, a, _, rfl, .inr hS, two_le, fun t nt => ?_⟩
        have st := same_upd (o := .tup [V.int 3, V.int 5]) nt
        replace hall := dpAll_same st hall
        replace hS := Same.seqT st hS
        refine ⟨t, _, rfl, .inr (SqT.of upd_same), rfl, rfl, _, rfl, ?_⟩
        generalize upd H t (.tup [V.int 3, V.int 5]) = H1 at st hall hS ⊢
        have ein : inV (V.int (xs.length : Int)) [V.int 3, V.int 5] = (decide (xs.length = 3) || decide (xs.length = 5)) := by
          show ((3 : Int) == (xs.length : Int) || ((5 : Int) == (xs.length : Int) || false)) = _
          rw [Bool.or_false]
          congr 1
          · rw [Bool.eq_iff_iff, beq_iff_eq, decide_eq_true_iff]
            omega
          · rw [Bool.eq_iff_iff, beq_iff_eq, decide_eq_true_iff]
            omega
        show if (!inV (V.int (xs.length : Int)) [V.int 3, V.int 5]) = true then _ else _
        rw [ein]
        by_cases n3 : xs.length = 3
        · rw [decide_eq_true n3]
          refine iteF ⟨_, rfl, a, _, rfl, .inr hS, rfl, _, rfl, ?_⟩
          rw [show decide (V.int (xs.length : Int) = V.int 3) = true from (lenI (k := 3)).trans (decide_eq_true n3)]
          refine iteT ?_
          cases hall with
          | nil => cases n3
          | @cons x0 xs d0 ds h0 hall =>
            have e : isFormD (.tuple (d0 :: ds)) = ([PyData.str "put", .str "take"].any fun z => PyData.eqv z d0) := by
              have hl : ds.length = 2 := by
                have := dpAll_len hall
                simp at n3
                omega
              match ds, hl with
              | [_, _], _ =>
                show (PyData.eqv d0 (.str "put") || PyData.eqv d0 (.str "take") || false) = (PyData.eqv (.str "put") d0 || (PyData.eqv (.str "take") d0 || false))
                rw [eqvC, eqvC, Bool.or_false, Bool.or_false]
            rw [e] at q
            refine ⟨_, rfl, a, _, 0, _, rfl, rfl, hS, atI_nat (j := 0) rfl, two_le, fun t2 nt2 => ?_⟩
            have s2 := same_upd (o := .tup [V.str "put", V.str "take"]) nt2
            exact ⟨d0, _, dp_same s2 h0, .tup (SqT.of upd_same) (.cons (.str _) (.cons (.str _) .nil)), (hok.tup.2 d0 (by simp)).sh, by decide +kernel, q _ (st.trans s2)⟩
        by_cases five : xs.length = 5
        case neg =>
          rw [isForm_len (by rw [← hxl]; exact n3) (by rw [← hxl]; exact five)] at q
          rw [decide_eq_false n3, decide_eq_false five]
          exact iteT (q _ st)
        rw [decide_eq_false n3, decide_eq_true five]
        refine iteF ⟨_, rfl, a, _, rfl, .inr hS, rfl, _, rfl, ?_⟩
        rw [show decide (V.int (xs.length : Int) = V.int 3) = false from (lenI (k := 3)).trans (decide_eq_false n3)]
        refine iteF ?_
        cases hall with
        | nil => cases five
        | @cons x0 xs d0 ds h0 hall =>
          cases hall with
          | nil => cases five
          | @cons x1 xs d1 ds h1 hall =>
            cases hall with
            | nil => cases five
            | @cons x2 xs d2 ds h2 hall =>
              cases hall with
              | nil => cases five
              | @cons x3 xs d3 ds h3 hall =>
                cases hall with
                | nil => cases five
                | @cons x4 xs d4 ds h4 hall =>
                  cases hall with
                  | cons _ _ => simp at five
                  | nil =>
                    have oks := hok.tup.2
                    have ed : isFormD (.tuple [d0, d1, d2, d3, d4]) = (PyData.eqv d0 (.str "call") && (isTupD d3 && isOptsD d4)) := rfl
                    rw [ed] at q
                    refine ⟨_, rfl, a, _, 0, _, rfl, rfl, hS, atI_nat (j := 0) rfl, d0, .str "call", h0, .str _, (oks d0 (by simp)).sh, by decide +kernel, _, rfl, ?_⟩
                    cases e0 : PyData.eqv d0 (.str "call") with
                    | false =>
                      rw [e0] at q
                      exact iteT (q _ st)
                    | true =>
                    rw [e0, Bool.true_and] at q
                    refine iteF ?_
                    refine ⟨_, rfl, a, _, 3, _, rfl, rfl, hS, atI_nat (j := 3) rfl, x3, .ty "tuple", _, _, _, rfl, .ty _, dp_ty h3, kit_tup d3, _, rfl, ?_⟩
                    cases e3 : isTupD d3 with
                    | false =>
                      rw [e3] at q
                      exact iteT (iteT (q _ st))
                    | true =>
                    rw [e3, Bool.true_and] at q
                    refine iteF ⟨_, rfl, a, _, 4, _, rfl, rfl, hS, atI_nat (j := 4) rfl, x4, .ty "tuple", _, _, _, rfl, .ty _, dp_ty h4, kit_tup d4, _, rfl, ?_⟩
                    by_cases t4 : isTupD d4 = true
                    case neg =>
                      rw [eq_false_of_ne_true t4]
                      have en : isOptsD d4 = false := by cases d4 <;> first | rfl | exact absurd rfl t4
                      rw [en] at q
                      exact iteT (q _ st)
                    rw [t4]
                    refine iteF ?_
                    cases d4 with
                    | tuple os =>
                      have eo : isOptsD (.tuple os) = os.all isTwoD := rfl
                      rw [eo] at q
                      cases h4 with
                      | @tup b ys _ hB hys =>
                        have hyl := dpAll_len hys
                        have hl1 := (oks _ (by simp : PyData.tuple os ∈ [d0, d1, d2, d3, .tuple os])).tup.1
                        refine ⟨_, rfl, a, _, 4, _, rfl, rfl, hS, atI_nat (j := 4) rfl, b, rfl, ⟨_, hB⟩, fun D hD => lc_it walk_tup (fun i H2 => Same H1 H2 ∧ H2 D = some (.lst (((os.take i).map isTwoD).map V.bl))) ⟨same_upd hD, upd_same⟩ (fun _ _ _ h => Same.seqT h.1 hB) ?_ ?_⟩
                        · rintro i y H3 H2 hi ⟨sm, hl⟩ ⟨rfl, hy⟩
                          obtain ⟨d', hd', hdp⟩ := dpAll_get hys hy
                          have hdp := dp_same sm hdp
                          refine ⟨rfl, ?_⟩
                          unfold tYes
                          refine iteT ⟨_, rfl, _, .ty "tuple", _, _, _, rfl, .ty _, dp_ty hdp, kit_tup d', _, rfl, ?_⟩
                          have fin : ∀ bb, isTwoD d' = bb → ∃ acc, H2 D = some (.lst acc) ∧ acc.length < sizeLine ∧ (Same H1 (upd H2 D (.lst (acc ++ [V.bl bb]))) ∧ (upd H2 D (.lst (acc ++ [V.bl bb]))) D = some (.lst (((os.take (i + 1)).map isTwoD).map V.bl))) := fun bb ebb => by
                            refine ⟨_, hl, ?_, ?_⟩
                            · rw [List.length_map, List.length_map, List.length_take]
                              exact small1000 (by omega)
                            · rw [← ebb, acc_nextQ hd']
                              refine ⟨fun c o e => ?_, upd_same⟩
                              rw [upd_ne (ne_of_none e hD)]
                              exact sm _ _ e
                          by_cases tt : isTupD d' = true
                          case neg =>
                            rw [eq_false_of_ne_true tt]
                            exact iteF (fin _ (by cases d' <;> first | rfl | exact absurd rfl tt))
                          rw [tt]
                          refine iteT ?_
                          cases d' with
                          | tuple es =>
                            cases hdp with
                            | @tup c ws _ hC hws =>
                              have hwl := dpAll_len hws
                              refine ⟨_, rfl, c, _, rfl, .inr hC, rfl, ?_⟩
                              rw [show decide (V.int (ws.length : Int) = V.int 2) = decide (ws.length = 2) from lenI (k := 2)]
                              refine fin _ ?_
                              match es, hwl with
                              | [], h => rw [h]; rfl
                              | [_], h => rw [h]; rfl
                              | [_, _], h => rw [h]; rfl
                              | _ :: _ :: _ :: _, h =>
                                refine (decide_eq_false (p := ws.length = 2) ?_).symm
                                rw [h]
                                simp
                          | _ => cases tt
                        · rintro H2 ⟨sm, hl⟩
                          refine ⟨D, _, rfl, .inl (.inl hl), ?_⟩
                          rw [hyl, List.take_of_length_le (Nat.le_refl _), List.all_map]
                          exact q _ (st.trans sm)
                    | _ => cases t4
    | _ => cases ht
end
end Dr
namespace Dr
open PySem PySem.Spec PyProof.Rows L2
open SX (S S_len S_cat)
abbrev sDue : Stmt := topS 24
abbrev nDue : List Str := ["_law_told", "_law_step", "_law_held", "_law_given", "_law_pair"]
theorem scDue : FnScope nDue ["_law_told", "_law_step", "_law_held"] (defScope sDue) := ⟨rfl, rfl, rfl, by decide +kernel, rfl, by decide +kernel, by decide +kernel⟩
/-- the told parts stand in a tuple -/
def Tld (K : PySem.W.Frag) (H : Hp) (t : Addr) (dm : PyData) (b1 b2 : Bool) : Prop := ∃ vm, H t = some (.tup [vm, .bl b1, .bl b2]) ∧ Dp K H vm dm ∧ OkD dm
theorem Tld.same {K : PySem.W.Frag} {H H' : Hp} {t : Addr} {dm : PyData} {b1 b2 : Bool} (h : Tld K H t dm b1 b2) (s : Same H H') : Tld K H' t dm b1 b2 := by
  obtain ⟨vm, a, b, c⟩ := h
  exact ⟨vm, s _ _ a, dp_same s b, c⟩
theorem isChg_of {d : PyData} (h : isChgD d = true) : ∃ x y z, d = .tuple [x, y, z] ∧ (x = .str "put" ∨ x = .str "take") := by
  unfold isChgD at h
  split at h
  · rename_i x y z
    rw [Bool.or_eq_true] at h
    exact ⟨x, y, z, rfl, h.imp eqvS eqvS⟩
  · cases h
theorem isCall_head {x k n a o : PyData} (h : isCallD (.tuple [x, k, n, a, o]) = true) : x = .str "call" := by
  have h : (PyData.eqv x (.str "call") && (isTupD a && isOptsD o)) = true := h
  rw [Bool.and_eq_true] at h
  exact eqvS h.1
theorem isCall_five {d : PyData} (h : isCallD d = true) : isChgD d = false := by
  obtain ⟨x, k, n, as, os, rfl, _⟩ := isCall_of h
  rfl
section
variable {P : Program} {w : World} {K : PySem.W.Frag} {mg : Str → Option Value} {base : Heap}
def spDue (K : PySem.W.Frag) : Sp := fun vs H Q _ => ∃ (t : Addr) (v : V) (d dm : PyData) (b1 b2 : Bool) (h : Int), vs = [.ref t, v, .int h] ∧ Tld K H t dm b1 b2 ∧ (dm = .none ∨ ∃ ms, dm = .tuple ms) ∧ Dp K H v d ∧ OkD d ∧ ∀ H', Same H H' → Q (.bl (alD dm b1 b2 h d)) H'
theorem ok_due {f fF : Addr} {fd fdF : FuncData} (F : Fun K "_law_due" "_law_due" sDue f fd) (W : Wds K mg) (B : Blt mg)
    (GF : FnOk P w K mg base CX0 1 fF fdF ["_law_thing"] (spAsk K isFormD)) (mF : mg "_law_is_form" = some (.ref fF)) (kF : PySem.W.keepIn K (.ref fF) = true) (bF : Binds K fdF ["_law_thing"] []) :
    FnOk P w K mg base CX0 2 f fd ["_law_told", "_law_step", "_law_held"] (spDue K) := by
  refine F.ok scDue (fun vs H Q E h => ?_) (fun cdv A outer s H vs Q E hr h => ?_)
  · obtain ⟨t, v, d, dm, b1, b2, h, rfl, _⟩ := h
    rfl
  · obtain ⟨t, v, d, dm, b1, b2, h, rfl, hT, hdm, hd, hok, q⟩ := h
    have hU : (A.deeper (envOfC "_law_due" (defScope sDue) s.heap.objs.size f cdv)).units + 65 < cLine := by
      have := hr.un
      omega
    have hu : (A.deeper (envOfC "_law_due" (defScope sDue) s.heap.objs.size f cdv)).units + 64 < cLine := hr.units
    refine ⟨_, pss_cons (ps_if (pt_not (pt_val (pe_call GF hr (by rfl) mF kF bF .nil pass0 (pa_cons (pv 1) pa_nil)))) (pss_one (ps_ret pe_bl)) pss_nil)
      (pss_cons (ps_if (pt_cmpR (op_neD hu) (pe_ix ix_tup (pv 1) pe_int (fun _ _ => rfl)) pe_str (nomark _)) (pss_one (ps_ret (pe_ix ix_tup (pv 0) pe_int (fun _ _ => rfl)))) pss_nil)
      (C8.pss_cut (ps_if (PW.pt (pw_and (pt_cmpR op_notN (pe_ix ix_tup (pv 0) pe_int (fun _ _ => rfl)) pe_non (nomark _)) (pw_and1 (pt_cmpR (op_notInT hU) (pe_tup (pa_cons (pe_ix ix_tup (pv 1) pe_int (fun _ _ => rfl)) (pa_cons (pe_ix ix_tup (pv 1) pe_int (fun _ _ => rfl)) pa_nil))) (pe_ix ix_tup (pv 0) pe_int (fun _ _ => rfl)) rfl))))
          (pss_one (ps_ret pe_bl)) pss_nil)
      (pss_cons (ps_for PassesOwn.never rfl (pi_list (pe_op op_cat (pe_callTy call_list_of (by rfl) B.lst (by decide +kernel) (pa_cons (pe_ix ix_tup (pv 1) pe_int (fun _ _ => rfl)) pa_nil))
            (pe_lc (own := [("_law_pair", 4)]) (g := gName 4) (tt := tYes) rfl scDue.nd (pi_tup (pe_ix ix_tup (pv 1) pe_int (fun _ _ => rfl))) (blkOk_by (N := nDue) (sc := defScope sDue) (by decide +kernel)) (fun _ _ _ _ _ => pg_name (i := 4) scDue.nd rfl (Or.inl rfl)) (fun _ _ _ _ _ => pts_nil)
              (fun _ _ _ _ _ => pe_ix (show IxR _ (rIxT K) from ix_tup) (pv 4) pe_int (fun _ _ => rfl))))) (pg_name (i := 3) scDue.nd rfl (.inl rfl))
          (pss_one (ps_if (PW.pt (pw_and (pt_not (pt_val (pe_ix ix_tup (pv 0) pe_int (fun _ _ => rfl)))) (pw_and (pt_val (pe_callB call_isi (by rfl) W.isi (by decide +kernel) (pa_cons (pv 3) (pa_cons (pe_bltn (v := .ty "int") (by rfl) B.int (by decide +kernel) rfl) pa_nil))))
              (pw_and (pt_not (pt_val (pe_callB call_isi (by rfl) W.isi (by decide +kernel) (pa_cons (pv 3) (pa_cons (pe_bltn (v := .ty "bool") (by rfl) W.bool (by decide +kernel) rfl) pa_nil)))))
                (pw_and1 (pt_chain op_le op_lt pe_int (pv 3) (pv 2)))))))
            (pss_one (ps_ret pe_bl)) pss_nil)))
      (pss_one (ps_ret pe_bl))))), ?_⟩
    refine ⟨_, rfl, v, d, rfl, hd, hok, fun H1 s1 => ⟨_, rfl, ?_⟩⟩
    obtain ⟨vm, ht, hm, om⟩ := hT
    refine ite2 (fun c0 => ?_) (fun c0 => ?_)
    · have c0 : isFormD d = false := by simpa using c0
      have e : alD dm b1 b2 h d = false := by
        unfold isFormD at c0
        rw [Bool.or_eq_false_iff] at c0
        exact (if_neg (by rw [c0.1]; simp)).trans (if_pos c0.2)
      rw [e] at q
      exact q _ s1
    have c0 : isFormD d = true := by simpa using c0
    by_cases c1 : isChgD d = true
    · have e : alD dm b1 b2 h d = b1 := if_pos c1
      rw [e] at q
      obtain ⟨x, y, z, rfl, hx⟩ := isChg_of c1
      cases hd with
      | @tup a xs _ hS hall =>
        cases hall with
        | cons h0 hall =>
          have hS1 := Same.seqT s1 hS
          refine ⟨_, rfl, a, _, 0, _, rfl, rfl, hS1, atI_nat (j := 0) rfl, x, .str "call", dp_same s1 h0, .str _, (hok.tup.2 x (by simp)).sh, by decide +kernel, _, rfl, ?_⟩
          have ne : PyData.eqv x (.str "call") = false := by rcases hx with rfl | rfl <;> decide +kernel
          rw [ne]
          exact iteT ⟨_, rfl, t, _, 1, _, rfl, rfl, SqT.of (s1 _ _ ht), atI_nat (j := 1) rfl, q _ s1⟩
    have c2 : isCallD d = true := by
      unfold isFormD at c0
      rw [eq_false_of_ne_true c1, Bool.false_or] at c0
      exact c0
    have c2n : ¬ isCallD d = false := by rw [c2]; simp
    have e2 : alD dm b1 b2 h d = if (!isNonD dm && !(itemsD dm).any fun z => PyData.eqv z (keyD d)) = true then false else b2 || !((argsOf d).any (isNumD h)) := (if_neg c1).trans (if_neg c2n)
    rw [e2] at q
    have okk := hok.key c2
    obtain ⟨x0, k, n, as, os, rfl, ho⟩ := isCall_of c2
    have ex := isCall_head c2
    subst ex
    have oks := hok.tup.2
    have la := (oks _ (by simp : PyData.tuple as ∈ [.str "call", k, n, .tuple as, .tuple os])).tup
    have lo := (oks _ (by simp : PyData.tuple os ∈ [.str "call", k, n, .tuple as, .tuple os])).tup
    cases hd with
    | @tup a xs _ hS hall =>
    cases hall with
    | cons h0 hall =>
    cases hall with
    | @cons v1 _ _ _ h1 hall =>
    cases hall with
    | @cons v2 _ _ _ h2 hall =>
    cases hall with
    | @cons v3 _ _ _ h3 hall =>
    cases hall with
    | @cons v4 _ _ _ h4 hall =>
    cases hall
    cases h3 with
    | @tup a3 us _ hA hus =>
    cases h4 with
    | @tup a4 ws _ hB hws =>
    have hwl := dpAll_len hws
    have hul := dpAll_len hus
    have at_ := fun {H2 : Hp} (s : Same H H2) => Same.seqT (K := K) s hS
    refine ⟨_, rfl, a, _, 0, _, rfl, rfl, at_ s1, atI_nat (j := 0) rfl, .str "call", .str "call", dp_same s1 h0, .str _, by decide +kernel, by decide +kernel, _, rfl, ?_⟩
    rw [show PyData.eqv (.str "call") (.str "call") = true by decide +kernel]
    refine iteF ?_
    refine ⟨fun σ' H' => σ' = [some (.ref t), some (.ref a), some (.int h), none, none] ∧ Same H H' ∧ (!isNonD dm && !(itemsD dm).any fun z => PyData.eqv z (.tuple [k, n])) = false, ?_, fun σ' H3 hM => ?_⟩
    · refine ⟨_, rfl, t, _, 0, _, rfl, rfl, SqT.of (s1 _ _ ht), atI_nat (j := 0) rfl, rfl, _, rfl, ite2 (fun c3 => ?_) (fun c3 => ?_)⟩
      · rcases hdm with rfl | ⟨ms, rfl⟩
        · cases hm
          simp at c3
        refine ⟨_, rfl, a, _, 1, _, rfl, rfl, at_ s1, atI_nat (j := 1) rfl, _, rfl, a, _, 2, _, rfl, rfl, at_ s1, atI_nat (j := 2) rfl, two_le, fun g ng => ?_⟩
        have sg := s1.trans (same_upd (o := .tup [v1, v2]) ng)
        refine ⟨_, rfl, t, _, 0, _, rfl, rfl, SqT.of (sg _ _ ht), atI_nat (j := 0) rfl, .tuple [k, n], ms, .tup (.inl (.inl upd_same)) (.cons (dp_same sg h1) (.cons (dp_same sg h2) .nil)), dp_same sg hm, okk.sh, om.sh, _, rfl, ?_⟩
        have ek : (!isNonD (.tuple ms) && !(itemsD (.tuple ms)).any fun z => PyData.eqv z (keyD (.tuple [.str "call", k, n, .tuple as, .tuple os]))) = (!ms.any fun z => PyData.eqv z (.tuple [k, n])) := rfl
        rw [ek] at q
        refine ite2 (fun c4 => ?_) (fun c4 => ?_)
        · rw [if_pos c4] at q
          exact q _ sg
        · exact ⟨rfl, sg, eq_false_of_ne_true c4⟩
      · refine ⟨rfl, s1, ?_⟩
        have hv : vm = .non := by simpa using c3
        subst hv
        cases hm
        rfl
    obtain ⟨rfl, s3, c3⟩ := hM
    have c3 : (!isNonD dm && !(itemsD dm).any fun z => PyData.eqv z (keyD (.tuple [.str "call", k, n, .tuple as, .tuple os]))) = false := c3
    rw [if_neg (by rw [c3]; simp)] at q
    refine ⟨_, rfl, a, _, 3, _, rfl, rfl, at_ s3, atI_nat (j := 3) rfl, a3, us, rfl, .inr (Same.seqT s3 hA), fun l nl => ?_⟩
    have sl := same_upd (o := .lst us) nl
    have s4 := s3.trans sl
    refine ⟨_, rfl, a, _, 4, _, rfl, rfl, at_ s4, atI_nat (j := 4) rfl, a4, rfl, ⟨_, Same.seqT s4 hB⟩, fun D hD => ?_⟩
    have hl4 : (upd H3 l (.lst us)) l = some (.lst us) := upd_same
    generalize (upd H3 l (.lst us)) = H4 at s4 hD hl4 ⊢
    refine lc_it walk_tup (fun i H1 => Same H4 H1 ∧ ∃ zs, H1 D = some (.lst zs) ∧ DpAll K H zs ((os.take i).map secD)) ⟨same_upd hD, [], upd_same, .nil⟩ (fun _ _ _ h => Same.seqT (s4.trans h.1) hB) ?_ ?_
    · rintro i y H5 H6 hi ⟨sm, zs, hl, hz⟩ ⟨rfl, hy⟩
      obtain ⟨b, y1, y2, d1, d2, rfl, hb, hd', _, e2⟩ := dpAll_secs hws ho i y hy
      refine ⟨rfl, ?_⟩
      unfold tYes
      have hzl := dpAll_len hz
      refine iteT ⟨_, rfl, b, _, 1, _, rfl, rfl, Same.seqT (s4.trans sm) hb, atI_nat (j := 1) rfl, zs, hl, ?_, ?_, zs ++ [y2], upd_same, ?_⟩
      · rw [hzl, List.length_map, List.length_take]
        exact small1000 (by omega)
      · intro c o e
        rw [upd_ne (ne_of_none e hD)]
        exact sm _ _ e
      · rw [← take_snoc (f := secD) hd']
        exact dpAll_app hz (.cons e2 .nil)
    rintro H5 ⟨sm, zs, hl, hz⟩
    have hzl := dpAll_len hz
    rw [List.length_map, List.length_take] at hzl
    have l5 := sm _ _ hl4
    have l1 := la.1
    have l2 := lo.1
    refine ⟨l, D, us, zs, rfl, rfl, l5, hl, by rw [sizeLine_eq]; omega, fun g ng => ?_⟩
    have sg := same_upd (o := .lst (us ++ zs)) ng
    have s6 := (s4.trans sm).trans sg
    rw [List.take_of_length_le (by omega)] at hz
    have hds : DpAll K H (us ++ zs) (argsOf (.tuple [.str "call", k, n, .tuple as, .tuple os])) := dpAll_app hus hz
    have hg : (upd H5 g (.lst (us ++ zs))) g = some (.lst (us ++ zs)) := upd_same
    generalize (upd H5 g (.lst (us ++ zs))) = H6 at s6 hg ⊢
    generalize hads : argsOf (.tuple [.str "call", k, n, .tuple as, .tuple os]) = ads at hds q
    generalize us ++ zs = xs at hds hg ⊢
    have hxl := dpAll_len hds
    refine ⟨g, rfl, ⟨_, SqL.of hg⟩, for_it (walk_list (xs := xs)) (fun i σ H7 => H7 = H6 ∧ (b2 = true ∨ (ads.take i).any (isNumD h) = false) ∧ ∃ y3, σ = [some (.ref t), some (.ref a), some (.int h), y3, none]) ⟨rfl, .inr rfl, _, rfl⟩ (fun _ _ _ _ h => by rw [h.1]; exact SqL.of hg) ?_ ?_⟩
    · rintro i y σ H7 H8 hi ⟨rfl, hb, y3, rfl⟩ ⟨rfl, hy⟩
      obtain ⟨e, he, hde⟩ := dpAll_get hds hy
      have hde := dp_same s6 hde
      have next : ∀ {bb : Bool}, b2 = bb → (bb = true ∨ isNumD h e = false) → (bb = true ∨ (ads.take (i + 1)).any (isNumD h) = false) := fun {bb} ebb z => by
        subst ebb
        rcases hb with hb | hb
        · exact .inl hb
        rcases z with z | z
        · exact .inl z
        · refine .inr ?_
          rw [List.take_add_one, he, List.any_append, hb]
          show (isNumD h e || false) = false
          rw [z]
          rfl
      refine ⟨_, rfl, t, _, 2, _, rfl, rfl, SqT.of (s6 _ _ ht), atI_nat (j := 2) rfl, b2, rfl, ?_⟩
      cases hb2 : b2 with
      | true => exact iteF ⟨rfl, next hb2 (.inl rfl), _, rfl⟩
      | false =>
      refine iteT ⟨_, rfl, y, .ty "int", _, _, _, rfl, .ty _, dp_ty hde, kit_int e, _, rfl, ?_⟩
      cases e1 : isIntB e with
      | false => exact iteF ⟨rfl, next hb2 (.inr (by cases e <;> first | rfl | cases e1)), _, rfl⟩
      | true =>
      refine iteT ⟨_, rfl, y, .ty "bool", _, _, _, rfl, .ty _, dp_ty hde, kit_bool e, _, rfl, ?_⟩
      cases e2 : isBoolD e with
      | true => exact iteF ⟨rfl, next hb2 (.inr (by cases e <;> first | rfl | cases e2)), _, rfl⟩
      | false =>
      refine iteT ?_
      obtain ⟨x, rfl⟩ : ∃ x, e = .int x := by cases e <;> first | exact ⟨_, rfl⟩ | (cases e1; done) | (cases e2; done)
      cases hde
      have en : isNumD h (.int x) = (decide (0 ≤ x) && decide (x < h)) := rfl
      refine ⟨_, rfl, _, _, rfl, rfl, _, rfl, ite2 (fun k1 => ?_) (fun k1 => ?_)⟩
      · have k1 : decide (0 ≤ x) = true := k1
        refine ⟨_, rfl, _, _, rfl, rfl, _, rfl, ite2 (fun k2 => ?_) (fun k2 => ?_)⟩
        · have k2 : decide (x < h) = true := k2
          have e : (b2 || !ads.any (isNumD h)) = false := by
            rw [hb2, List.any_eq_true.mpr ⟨_, List.mem_of_getElem? he, by rw [en, k1, k2]; rfl⟩]
            rfl
          rw [e] at q
          exact q _ s6
        · have k2 : ¬ decide (x < h) = true := k2
          exact ⟨rfl, next hb2 (.inr (by rw [en, eq_false_of_ne_true k2, Bool.and_false])), _, rfl⟩
      · have k1 : ¬ decide (0 ≤ x) = true := k1
        exact ⟨_, rfl, ite2 (fun z => absurd z (by first | exact k1 | simp)) (fun _ => ⟨rfl, next hb2 (.inr (by rw [en, eq_false_of_ne_true k1, Bool.false_and])), _, rfl⟩)⟩
    rintro σ H7 ⟨rfl, hb, y3, rfl⟩
    rw [List.take_of_length_le (by omega)] at hb
    have e : (b2 || !ads.any (isNumD h)) = true := by
      rcases hb with hb | hb
      · rw [hb]
        rfl
      · rw [hb]
        exact Bool.or_true _
    rw [e] at q
    exact q _ s6
end
end Dr
namespace Dr
open PySem PySem.Spec PyProof.Rows L2
open SX (S S_len S_cat S_inj)
/-- tuples stay -/
def TupE (H H' : Hp) : Prop := ∀ b xs, H b = some (.tup xs) → H' b = some (.tup xs)
theorem TupE.refl (H : Hp) : TupE H H := fun _ _ e => e
theorem TupE.trans {H H1 H2 : Hp} (a : TupE H H1) (b : TupE H1 H2) : TupE H H2 := fun c xs e => b c xs (a c xs e)
theorem TupE.same {H H' : Hp} (s : Same H H') : TupE H H' := fun c xs e => s _ _ e
theorem TupE.kp {p : Addr} {H H' : Hp} (hB : Bag H p) (k : Kp p H H') : TupE H H' := fun c xs e => k.1 _ _ (fun z => by
  obtain ⟨u, v, w, ns, hp, _⟩ := hB
  rw [z, hp] at e
  cases e) e
theorem TupE.grow {H : Hp} {l : Addr} {us ys : List V} (hl : H l = some (.lst us)) : TupE H (upd H l (.lst ys)) := fun c xs e => by
  rw [upd_ne (fun z => by rw [z, hl] at e; cases e)]
  exact e
/-- drawn pairs stand -/
inductive PrsAt (H : Hp) : List Addr → List (Str × Str) → Prop
  | nil : PrsAt H [] []
  | cons {a q as qs} : H a = some (.tup [.str q.1, .str q.2]) → PrsAt H as qs → PrsAt H (a :: as) (q :: qs)
theorem PrsAt.ext {H H' : Hp} (s : TupE H H') {as : List Addr} {qs : List (Str × Str)} (h : PrsAt H as qs) : PrsAt H' as qs := by
  induction h with
  | nil => exact .nil
  | cons h _ ih => exact .cons (s _ _ h) ih
theorem PrsAt.len {H : Hp} {as : List Addr} {qs : List (Str × Str)} (h : PrsAt H as qs) : as.length = qs.length := by
  induction h with
  | nil => rfl
  | cons _ _ ih => rw [List.length_cons, List.length_cons, ih]
theorem PrsAt.snoc {H : Hp} {as : List Addr} {qs : List (Str × Str)} {a : Addr} {q : Str × Str} (h : PrsAt H as qs) (ha : H a = some (.tup [.str q.1, .str q.2])) : PrsAt H (as ++ [a]) (qs ++ [q]) := by
  induction h with
  | nil => exact .cons ha .nil
  | cons h _ ih => exact .cons h ih
def prD (q : Str × Str) : PyData := .tuple [.str q.1, .str q.2]
theorem PrsAt.dp {K : PySem.W.Frag} {H : Hp} {as : List Addr} {qs : List (Str × Str)} (h : PrsAt H as qs) : DpAll K H (as.map V.ref) (qs.map prD) := by
  induction h with
  | nil => exact .nil
  | cons h _ ih => exact .cons (.tup (SqT.of h) (.cons (.str _) (.cons (.str _) .nil))) ih
abbrev FC (K : PySem.W.Frag) (f : Addr) (fd : FuncData) : Prop := FunD K "__init__" "Callers.__init__" (defArgs sCInit) (defBody sCInit) (defScope sCInit) [.non] kwC f fd
/-- the pairs of some names with all -/
def prsOf (ones zs : List (List Nat)) : List (Str × Str) := (ones.map fun o => zs.map fun z => (S o, S z)).flatten
theorem prsOf_snoc {zs ones : List (List Nat)} {i : Nat} {o : List Nat} (h : ones[i]? = some o) : prsOf (ones.take (i + 1)) zs = prsOf (ones.take i) zs ++ zs.map fun z => (S o, S z) := by
  unfold prsOf
  rw [← take_snoc (f := fun o => zs.map fun z => (S o, S z)) h, List.flatten_append]
  simp
theorem prsOf_mem {ones zs : List (List Nat)} {q : Str × Str} (h : q ∈ prsOf ones zs) : ∃ o ∈ ones, ∃ z ∈ zs, q = (S o, S z) := by
  unfold prsOf at h
  rw [List.mem_flatten] at h
  obtain ⟨l, hl, hq⟩ := h
  obtain ⟨o, ho, rfl⟩ := List.mem_map.mp hl
  obtain ⟨z, hz, rfl⟩ := List.mem_map.mp hq
  exact ⟨o, ho, z, hz, rfl⟩
theorem prsOf_len {zs : List (List Nat)} : ∀ {ones : List (List Nat)}, (prsOf ones zs).length = ones.length * zs.length
  | [] => by simp [prsOf]
  | o :: r => by
    have ih := prsOf_len (zs := zs) (ones := r)
    unfold prsOf at ih ⊢
    rw [List.map_cons, List.flatten_cons, List.length_append, ih, List.length_map, List.length_cons, Nat.succ_mul, Nat.add_comm]
theorem prsOf_nodup {zs : List (List Nat)} (hz : zs.Nodup) : ∀ {ones : List (List Nat)}, ones.Nodup → (prsOf ones zs).Nodup
  | [], _ => by simp [prsOf]
  | o :: r, h => by
    have h' := List.nodup_cons.mp h
    have ih := prsOf_nodup hz h'.2
    have e : prsOf (o :: r) zs = (zs.map fun z => (S o, S z)) ++ prsOf r zs := by
      unfold prsOf
      rw [List.map_cons, List.flatten_cons]
    rw [e, List.nodup_append]
    refine ⟨List.pairwise_map.mpr (hz.imp fun {a b} ne e => ne (S_inj (Prod.mk.inj e).2)), ih, fun x hx y hy e => ?_⟩
    obtain ⟨z, _, rfl⟩ := List.mem_map.mp hx
    obtain ⟨o2, ho2, z2, _, rfl⟩ := prsOf_mem hy
    have := S_inj (Prod.mk.inj e).1
    subst this
    exact h'.1 ho2
theorem prs_right {qs : List (Str × Str)} (hn : qs.Nodup) (ok : ∀ q ∈ qs, nameOk q.1 = true ∧ nameOk q.2 = true) : arePairsD (.tuple (qs.map prD)) = true := by
  show ((qs.map prD).all isPairD && decide ((qs.map prD).map keysOf).Nodup) = true
  rw [Bool.and_eq_true]
  refine ⟨List.all_eq_true.mpr fun d hd => ?_, decide_eq_true ?_⟩
  · obtain ⟨q, hq, rfl⟩ := List.mem_map.mp hd
    show (nameOk q.1 && nameOk q.2) = true
    rw [(ok q hq).1, (ok q hq).2]
    rfl
  · rw [List.map_map]
    refine List.pairwise_map.mpr (hn.imp fun {a b} ne e => ne ?_)
    have e : [a.1, a.2] = [b.1, b.2] := e
    have e1 := (List.cons.inj e).1
    have e2 := (List.cons.inj (List.cons.inj e).2).1
    exact Prod.ext e1 e2
/-- drawn methods: None, or a tuple of pairs -/
def MtD (H : Hp) (vm : V) (dm : PyData) : Prop := (vm = .non ∧ dm = .none) ∨ ∃ t as qs, vm = .ref t ∧ H t = some (.tup (as.map V.ref)) ∧ PrsAt H as qs ∧ dm = .tuple (qs.map prD)
theorem MtD.ext {H H' : Hp} {vm : V} {dm : PyData} (h : MtD H vm dm) (s : TupE H H') : MtD H' vm dm := by
  rcases h with h | ⟨t, as, qs, a, b, c, d⟩
  · exact .inl h
  · exact .inr ⟨t, as, qs, a, s _ _ b, c.ext s, d⟩
theorem MtD.dp {K : PySem.W.Frag} {H : Hp} {vm : V} {dm : PyData} (h : MtD H vm dm) : Dp K H vm dm := by
  rcases h with ⟨rfl, rfl⟩ | ⟨t, as, qs, rfl, b, c, rfl⟩
  · exact .non
  · exact .tup (SqT.of b) c.dp
theorem MtD.two {H : Hp} {vm : V} {dm : PyData} (h : MtD H vm dm) : dm = .none ∨ ∃ ms, dm = .tuple ms := by
  rcases h with ⟨_, e⟩ | ⟨_, _, _, _, _, _, e⟩
  · exact .inl e
  · exact .inr ⟨_, e⟩
/-- at the places of T lists stand -/
def Lsts (T : Addr → Prop) (H : Hp) : Prop := ∀ b, T b → ∃ xs, H b = some (.lst xs)
theorem Lsts.tupE {T : Addr → Prop} {H : Hp} (h : Lsts T H) : TupE H (hid T H) := fun b xs e => hid_at (fun t => by
  obtain ⟨ys, z⟩ := h b t
  rw [z] at e
  cases e) e
theorem Lsts.ins {T : Addr → Prop} {H : Hp} (h : Lsts T H) {b : Addr} {C dx : Addr} {fs : List (Str × V)} (e : H b = some (.ins C dx fs)) : hid T H b = some (.ins C dx fs) := hid_at (fun t => by
  obtain ⟨ys, z⟩ := h b t
  rw [z] at e
  cases e) e
/-- the heap without its lists -/
def noL (H : Hp) : Hp := fun b => match H b with
  | some (.lst _) => none
  | o => o
theorem noL_sub {H : Hp} : Same (noL H) H := fun b o e => by
  unfold noL at e
  split at e
  · cases e
  · exact e
theorem noL_at {H : Hp} {b : Addr} {o : HO} (h : H b = some o) (n : ∀ xs, o ≠ .lst xs) : noL H b = some o := by
  unfold noL
  split
  · rename_i xs e
    rw [e] at h
    exact absurd (Option.some.inj h).symm (n xs)
  · exact h
mutual
/-- no list in it -/
def nlD : PyData → Bool
  | .list _ => false
  | .tuple ds => nlAll ds
  | _ => true
def nlAll : List PyData → Bool
  | [] => true
  | d :: r => nlD d && nlAll r
end
theorem seqT_noL {K : PySem.W.Frag} {H : Hp} {a : Addr} {xs : List V} (h : SqT K H a xs) : SqT K (noL H) a xs := by
  rcases h with (h | ⟨o, h⟩) | h
  · exact .inl (.inl (noL_at h fun _ e => by cases e))
  · exact .inl (.inr ⟨o, noL_at h fun _ e => by cases e⟩)
  · exact .inr h
mutual
theorem dp_noL {K : PySem.W.Frag} {H : Hp} : ∀ {v : V} {d : PyData}, Dp K H v d → nlD d = true → Dp K (noL H) v d
  | _, _, .non, _ => .non
  | _, _, .bl b, _ => .bl b
  | _, _, .int i, _ => .int i
  | _, _, .str x, _ => .str x
  | _, _, .lst _ _, h => by cases h
  | _, _, .tup h hs, n => .tup (seqT_noL h) (dpAll_noL hs n)
theorem dpAll_noL {K : PySem.W.Frag} {H : Hp} : ∀ {vs : List V} {ds : List PyData}, DpAll K H vs ds → nlAll ds = true → DpAll K (noL H) vs ds
  | _, _, .nil, _ => .nil
  | _, _, .cons h hs, n => by
    have n' : (nlD _ && nlAll _) = true := n
    rw [Bool.and_eq_true] at n'
    exact .cons (dp_noL h n'.1) (dpAll_noL hs n'.2)
end
theorem nl_pairs : ∀ {ds : List PyData}, ds.all isPairD = true → nlAll ds = true
  | [], _ => rfl
  | d :: r, h => by
    have h' : isPairD d = true ∧ r.all isPairD = true := by simpa using h
    obtain ⟨a, b, rfl, _, _⟩ := isPair_of h'.1
    show (nlD (.tuple [.str a, .str b]) && nlAll r) = true
    rw [nl_pairs h'.2]
    rfl
theorem noL_hid {T : Addr → Prop} {H : Hp} (h : Lsts T H) : Same (noL H) (hid T H) := fun b o e => hid_at (fun t => by
  obtain ⟨ys, z⟩ := h b t
  unfold noL at e
  rw [z] at e
  cases e) (noL_sub _ _ e)
theorem hid_nl {K : PySem.W.Frag} {T : Addr → Prop} {H : Hp} {v : V} {d : PyData} (h : Lsts T H) (hd : Dp K H v d) (n : nlD d = true) : Dp K (hid T H) v d := dp_same (noL_hid h) (dp_noL hd n)
/-- what methods may be -/
structure RightD (dm : PyData) : Prop where
  is : isNonD dm = true ∨ arePairsD dm = true
  few : few16 dm
  ok : OkD dm
theorem RightD.two {dm : PyData} (h : RightD dm) : dm = .none ∨ ∃ ms, dm = .tuple ms := by
  rcases h.is with h | h
  · cases dm <;> first | exact .inl rfl | cases h
  · cases dm <;> first | exact .inr ⟨_, rfl⟩ | cases h
theorem RightD.nl {dm : PyData} (h : RightD dm) : nlD dm = true := by
  rcases h.is with h1 | h1
  · cases dm <;> first | rfl | cases h1
  · cases dm with
    | tuple ds =>
      have q : (ds.all isPairD && decide (ds.map keysOf).Nodup) = true := h1
      rw [Bool.and_eq_true] at q
      exact nl_pairs q.1
    | _ => cases h1
theorem RightD.made {dm : PyData} (h : RightD dm) (b1 b2 : Bool) : cErr dm (.bool b1) (.bool b2) = none := by
  unfold cErr
  rcases h.is with h1 | h1 <;> rw [h1] <;> simp [isBoolD]
theorem rightN : RightD .none := ⟨.inl rfl, (fun _ e => by cases e), ⟨rfl, rfl⟩⟩
theorem PrsAt.get {H : Hp} {as : List Addr} {qs : List (Str × Str)} (h : PrsAt H as qs) {j : Nat} {v : V} (e : (as.map V.ref)[j]? = some v) : ∃ a q, v = .ref a ∧ qs[j]? = some q ∧ H a = some (.tup [.str q.1, .str q.2]) := by
  induction h generalizing j with
  | nil => simp at e
  | cons h _ ih =>
    cases j with
    | zero => exact ⟨_, _, (Option.some.inj e).symm, rfl, h⟩
    | succ j => exact ih (j := j) e
theorem rightQ {zs ones : List (List Nat)} {qs : List (Str × Str)} (hz : ∀ z ∈ zs, nameOk (S z) = true) (ho : ∀ z ∈ ones, z ∈ zs) (l : ones.length * zs.length ≤ 16) (n1 : zs.Nodup) (n2 : ones.Nodup) (sub : qs.Sublist (prsOf ones zs)) : RightD (.tuple (qs.map prD)) := by
  have ok : ∀ q ∈ qs, nameOk q.1 = true ∧ nameOk q.2 = true := fun q hq => by
    obtain ⟨o, h1, z, h2, rfl⟩ := prsOf_mem (sub.subset hq)
    exact ⟨hz o (ho o h1), hz z h2⟩
  have ll : qs.length ≤ 16 := by
    have := sub.length_le
    rw [prsOf_len] at this
    omega
  refine ⟨.inr (prs_right ((prsOf_nodup n1 n2).sublist sub) ok), fun ds e => ?_, ?_⟩
  · cases e
    rw [List.length_map]
    exact ll
  · refine (smn_tup (n := 1) (smns_of fun d hd => ?_) (by rw [List.length_map]; omega)).okD (by decide)
    obtain ⟨q, hq, rfl⟩ := List.mem_map.mp hd
    obtain ⟨o, h1, z, h2, rfl⟩ := prsOf_mem (sub.subset hq)
    exact smn_tup (smn_cons (smn_name (hz o (ho o h1))) (smn_cons (smn_name (hz z h2)) smn_nil)) (by show 2 ≤ 1000; decide)
theorem cF_allows {vm vc vp : V} : (cF vm vc vp).lookup ("allows" : Str) = none := by
  unfold cF
  rw [lookup_putF, if_neg (by decide +kernel), lookup_putF, if_neg (by decide +kernel), lookup_putF, if_neg (by decide +kernel)]
  rfl
theorem ok_bl (b : Bool) : OkD (.bool b) := ⟨rfl, rfl⟩
theorem eqvR {d : PyData} (h : OkD d) : PyData.eqv d d = true := SeqAt.eqv_refl_plain _ (PyData.plain_of_canLay0 _ (SeqAt.canLay_of_shaped h.sh))
section
variable {P : Program} {w : World} {K : PySem.W.Frag} {mg : Str → Option Value} {base : Heap}
theorem bind_cc {f : Addr} {fd : FuncData} (F : FC K f fd) : KBn K fd psC 2 ["changes", "passes"] (fun us ws => us ++ ws) (fun vs zs => vs ++ zs) := by
  obtain ⟨its, mv, h⟩ := F.kbinds (ps := psC) 2 ["changes", "passes"] [] (fun us _ _ ws => us ++ ws) (by simp) (by simp) (fun q hq => by cases hq) (fun r1 _ _ r4 => r1.append r4)
    (fun T D doc pm an cdv ct us its mv ws l1 l2 l3 l4 => match us, its, mv, ws, l1, l2, l3, l4 with | [_, _], [_], [], [_, _], _, _, _, _ => ⟨_, rfl, rfl⟩)
  exact h
/-- new callers of the parts in the tuple at t, or the refusal -/
theorem made_at {CC CE x dx : Addr} {H : Hp} {vm vc vp : V} {dm dc dp : PyData} {Q : VK} {E : XK} (hx : H x = none) (hdx : H dx = none) (hm : Dp K H vm dm) (om : OkD dm) (fm : few16 dm) (hc : Dp K H vc dc) (oc : OkD dc) (hp : Dp K H vp dp) (op : OkD dp)
    (qe : ∀ f, cErr dm dc dp = some f → errC H E CE "part" (.str f)) (q : cErr dm dc dp = none → ∀ H3, Same H H3 → CAt K CC H3 x dm dc dp → Q .non H3) : spCI K CC CE [.ref x, vm, vc, vp] (upd (upd H dx (.own x)) x (.ins CC dx [])) Q E := by
  have s1 : Same H (upd (upd H dx (.own x)) x (.ins CC dx [])) := fun b o e => by
    rw [upd_ne (ne_of_none e hx), upd_ne (ne_of_none e hdx)]
    exact e
  refine ⟨x, dx, vm, vc, vp, dm, dc, dp, rfl, upd_same, ⟨dp_same s1 hm, om, fm⟩, dp_same s1 hc, dp_same s1 hp, fun f e d H' s' hd => qe f e d H' (s1.trans s') hd, fun e H3 h1 h2 => ?_⟩
  have s3 : Same H H3 := fun b o g => h1 b o (ne_of_none g hx) (s1 _ _ g)
  exact q e H3 s3 ⟨dx, vm, vc, vp, h2, dp_same s3 hm, om, dp_same s3 hc, oc, dp_same s3 hp, op⟩
end
end Dr
namespace Dr
open PySem PySem.Spec PyProof.Rows L2
open SX (S S_len S_cat S_inj)
abbrev sLaw : Stmt := topS 25
abbrev nLaw : List Str := ["_law_script", "_law_bag_here", "_law_names_here", "_law_pairs", "_law_one", "_law_methods", "_law_told", "_law_group", "_law_chosen_ones", "_law_k", "_law_held", "_law_step", "_law_actual", "_law_other", "_law_pair"]
theorem scLaw : FnScope nLaw ["_law_script"] (defScope sLaw) := ⟨rfl, rfl, rfl, by decide +kernel, rfl, by decide +kernel, by decide +kernel⟩
theorem cut_to (xs : List V) {k : Nat} (h : k ≤ xs.length) : cutV xs none (some (k : Int)) = xs.take k := by
  unfold cutV
  rw [show HT.sIx xs.length xs.length (some (k : Int)) = min k xs.length from HT.sIx_nat xs.length xs.length k, HT.sIx_none, Nat.min_eq_left h]
  simp
theorem cut_from (xs : List V) {k : Nat} (h : k ≤ xs.length) : cutV xs (some (k : Int)) none = xs.drop k := by
  unfold cutV
  rw [show HT.sIx xs.length 0 (some (k : Int)) = min k xs.length from HT.sIx_nat xs.length 0 k, HT.sIx_none, Nat.min_eq_left h]
  exact List.take_of_length_le (by rw [List.length_drop]; exact Nat.le_refl _)
theorem PrsAt.app {H : Hp} {as bs : List Addr} {qs rs : List (Str × Str)} (h : PrsAt H as qs) (k : PrsAt H bs rs) : PrsAt H (as ++ bs) (qs ++ rs) := by
  induction h with
  | nil => exact k
  | cons h _ ih => exact .cons h ih
theorem txts_get {zs : List (List Nat)} {i : Nat} {v : V} (h : (txts zs)[i]? = some v) : ∃ z, zs[i]? = some z ∧ v = .str (S z) := by
  unfold txts at h
  rw [List.getElem?_map] at h
  cases e : zs[i]? with
  | none =>
    rw [e] at h
    cases h
  | some z =>
    rw [e] at h
    exact ⟨z, rfl, (Option.some.inj h).symm⟩
/-- a step and a number in the list of what was chosen -/
def EntS (K : PySem.W.Frag) (T : Addr → Prop) (H : Hp) (e : Addr) : Prop := ∃ v d h, hid T H e = some (.tup [v, .int h]) ∧ Dq K T H v d ∧ OkD d
theorem EntS.stT {K : PySem.W.Frag} {T : Addr → Prop} {H H' : Hp} {e : Addr} (h : EntS K T H e) (s : StT T H H') : EntS K T H' e := by
  obtain ⟨v, d, n, a, b, c⟩ := h
  exact ⟨v, d, n, hid_stT s _ _ a, Dq.stT b s, c⟩
/-- what stands while steps are drawn -/
structure LSt (K : PySem.W.Frag) (CC p c u t x : Addr) (zs : List (List Nat)) (dm : PyData) (b1 b2 : Bool) (i : Nat) (H : Hp) : Prop where
  bag : Bag H p
  cp : c ≠ p
  uc : u ≠ c
  nms : Nms H u p zs
  tld : Tld K (hid (fun b => b = p ∨ b = c) H) t dm b1 b2
  cat : CAt K CC (hid (fun b => b = p ∨ b = c) H) x dm (.bool b1) (.bool b2)
  ents : ∃ es : List Addr, H c = some (.lst (es.map V.ref)) ∧ es.length ≤ i ∧ ∀ e ∈ es, EntS K (fun b => b = p ∨ b = c) H e
section
variable {K : PySem.W.Frag} {CC p c u t x : Addr} {zs : List (List Nat)} {dm : PyData} {b1 b2 : Bool} {i : Nat} {H H' : Hp}
theorem LSt.stg (h : LSt K CC p c u t x zs dm b1 b2 i H) : Stg (fun b => b = p ∨ b = c) p H := by
  refine ⟨h.bag, fun b tb z => ?_, .inl rfl⟩
  rcases tb with rfl | rfl
  · obtain ⟨_, _, _, _, e, _⟩ := h.bag
    rw [e] at z
    cases z
  · obtain ⟨_, e, _⟩ := h.ents
    rw [e] at z
    cases z
theorem LSt.kp (h : LSt K CC p c u t x zs dm b1 b2 i H) (k : Kp p H H') : LSt K CC p c u t x zs dm b1 b2 i H' := by
  have s : StT (fun b => b = p ∨ b = c) H H' := StT.kp k (.inl rfl)
  obtain ⟨es, e1, e2, e3⟩ := h.ents
  exact ⟨k.2, h.cp, h.uc, h.nms.kp k, h.tld.same (hid_stT s), h.cat.same (hid_stT s), es, k.1 _ _ h.cp e1, e2, fun e he => (e3 e he).stT s⟩
theorem LSt.same (h : LSt K CC p c u t x zs dm b1 b2 i H) (s : Same H H') : LSt K CC p c u t x zs dm b1 b2 i H' := h.kp (Kp.of h.bag s)
end
section
variable {P : Program} {w : World} {K : PySem.W.Frag} {mg : Str → Option Value} {base : Heap}
def spLaw (K : PySem.W.Frag) : Sp := fun vs H Q _ => ∃ (a : Addr) (ns : List Int), vs = [.ref a] ∧ SqL K H a (ns.map V.int) ∧ ns.length ≤ 63 ∧ ∀ H', Q (.bl true) H'
theorem ok_law {CC CE f fB fD fN fS fU fI fL : Addr} {fd fdB fdD fdN fdS fdU fdI fdL : FuncData} (F : Fun K "law" "law" sLaw f fd) (W : Wds K mg) (B : Blt mg) (htu : mg "tuple" = none) (TC : Clr K mg CC)
    (GB : FnOk P w K mg base CX0 1 fB fdB ["_law_script"] (spBag K)) (mB : mg "_law_bag" = some (.ref fB)) (kB : PySem.W.keepIn K (.ref fB) = true) (bB : Binds K fdB ["_law_script"] [])
    (GD : FnOk P w K mg base CX0 1 fD fdD ["_law_bag_here", "_law_many"] spDraw) (mD : mg "_law_draw" = some (.ref fD)) (kD : PySem.W.keepIn K (.ref fD) = true) (bD : Binds K fdD ["_law_bag_here", "_law_many"] [])
    (GN : FnOk P w K mg base CX0 2 fN fdN ["_law_bag_here", "_law_many"] (spNames K)) (mN : mg "_law_names" = some (.ref fN)) (kN : PySem.W.keepIn K (.ref fN) = true) (bN : Binds K fdN ["_law_bag_here", "_law_many"] [])
    (GS : FnOk P w K mg base CX0 3 fS fdS ["_law_bag_here", "_law_names_here", "_law_held"] (spStep K)) (mS : mg "_law_drawn_step" = some (.ref fS)) (kS : PySem.W.keepIn K (.ref fS) = true) (bS : Binds K fdS ["_law_bag_here", "_law_names_here", "_law_held"] [])
    (GU : FnOk P w K mg base CX0 2 fU fdU ["_law_told", "_law_step", "_law_held"] (spDue K)) (mU : mg "_law_due" = some (.ref fU)) (kU : PySem.W.keepIn K (.ref fU) = true) (bU : Binds K fdU ["_law_told", "_law_step", "_law_held"] [])
    (GL : FnOk P w K mg base CX0 3 fL fdL ["self", "step", "held"] (spAl K CC)) (mL : Meth K CC "allows" fL) (bL : Binds K fdL ["self", "step", "held"] [])
    (FI : FC K fI fdI) (M : Mk K CC fI) (GI : FnOk P w K mg base (L2.CX P w) 4 fI fdI psC (spCI K CC CE)) :
    FnOk P w K mg base CX0 6 f fd ["_law_script"] (spLaw K) := by
  have bC := bind_cc FI
  refine F.ok scLaw (fun vs H Q E h => ?_) (fun cdv A outer s H vs Q E hr h => ?_)
  · obtain ⟨a, ns, rfl, _⟩ := h
    rfl
  · obtain ⟨a, ns, rfl, hS, hlen, q⟩ := h
    have hu : (A.deeper (envOfC "law" (defScope sLaw) s.heap.objs.size f cdv)).units + 64 < cLine := hr.units
    have hr1 : Room 1 _ := hr.mono (by decide)
    have hr2 : Room 2 _ := hr.mono (by decide)
    have hr3 : Room 3 _ := hr.mono (by decide)
    have hr5 : Room 5 _ := hr.mono (by decide)
    refine ⟨_, (pss_cons (ps_set (i := 1) scLaw.nd rfl (.inr rfl) (pe_call GB hr1 (by rfl) mB kB bB .nil pass0 (pa_cons (pv 0) pa_nil)))
      (pss_cons (ps_set (i := 2) scLaw.nd rfl (.inl rfl) (pe_call GN hr2 (by rfl) mN kN bN .nil pass0 (pa_cons (pv 1) (pa_cons pe_int pa_nil))))
      (pss_cons (ps_set (i := 3) scLaw.nd rfl (.inl rfl) (pe_lst pa_nil))
      (pss_cons (ps_for PassesOwn.never rfl (pi_list (pe_op op_cat (pe_slice sl_list (pv 2) po_none (po_some pe_int)) (pe_slice sl_list (pv 2) (po_some pe_int) po_none))) (pg_name (i := 4) scLaw.nd rfl (.inr rfl)) (pss_one (ps_set (i := 3) scLaw.nd rfl (.inl rfl) (pe_op op_cat (pv 3) (pe_lc (own := [("_law_other", 13)]) (g := gName 13) (tt := tYes) rfl scLaw.nd (pi_list (pv 2)) (blkOk_by (N := nLaw) (sc := defScope sLaw) (by decide +kernel)) (fun _ _ _ _ _ => pg_name (i := 13) scLaw.nd rfl (Or.inl rfl)) (fun _ _ _ _ _ => pts_nil) (fun _ _ _ _ _ => pe_tup (pa_cons (pv 4) (pa_cons (pv 13) pa_nil))))))))
      (pss_cons (ps_set (i := 5) scLaw.nd rfl (.inl rfl) pe_non)
      (C8.pss_cut (ps_if (pt_cmpR op_eq (pe_call GD hr1 (by rfl) mD kD bD .nil pass0 (pa_cons (pv 1) (pa_cons pe_int pa_nil))) pe_int (nomark _)) (pss_one (ps_set (i := 5) scLaw.nd rfl (.inl rfl) (pe_callTy call_tuple_of (by rfl) htu (by decide +kernel) (pa_cons (pe_lc (own := [("_law_pair", 14)]) (g := gName 14) rfl scLaw.nd (pi_list (pv 3)) (blkOk_by (N := nLaw) (sc := defScope sLaw) (by decide +kernel)) (fun _ _ _ _ _ => pg_name (i := 14) scLaw.nd rfl (Or.inl rfl)) (fun _ _ _ _ _ => pts_one (pt_cmpR op_eq (pe_call GD hr1 (by rfl) mD kD bD .nil pass0 (pa_cons (pv 1) (pa_cons pe_int pa_nil))) pe_int (nomark _))) (fun _ _ _ _ _ => pv 14)) pa_nil)))) pss_nil)
      (pss_cons (ps_set (i := 6) scLaw.nd rfl (.inl rfl) (pe_tup (pa_cons (pv 5) (pa_cons (pe_cmpR op_eq (pe_call GD hr1 (by rfl) mD kD bD .nil pass0 (pa_cons (pv 1) (pa_cons pe_int pa_nil))) pe_int (nomark _)) (pa_cons (pe_cmpR op_eq (pe_call GD hr1 (by rfl) mD kD bD .nil pass0 (pa_cons (pv 1) (pa_cons pe_int pa_nil))) pe_int (nomark _)) pa_nil)))))
      (pss_cons (ps_set (i := 7) scLaw.nd rfl (.inl rfl) (pe_makeK M GI hr5 (by rfl) TC.mgC bC (passes_call takes0 (fun _ _ _ _ h => h)) (pa_cons (pe_ix ix_tup (pv 6) pe_int (fun _ _ => rfl)) pa_nil) (pk_cons (pe_ix ix_tup (pv 6) pe_int (fun _ _ => rfl)) (pk_cons (pe_ix ix_tup (pv 6) pe_int (fun _ _ => rfl)) pk_nil))))
      (pss_cons (ps_set (i := 8) scLaw.nd rfl (.inl rfl) (pe_lst pa_nil))
      (pss_cons (ps_for PassesOwn.never rfl (pi_range1 rfl B.ran (pa_cons pe_int pa_nil)) (pg_name (i := 9) scLaw.nd rfl (.inl rfl))
        (pss_cons (ps_set (i := 10) scLaw.nd rfl (.inl rfl) (pe_call GD hr1 (by rfl) mD kD bD .nil pass0 (pa_cons (pv 1) (pa_cons pe_int pa_nil))))
        (C8.pss_cut (ps_if (pt_cmpR op_eq (pe_call GD hr1 (by rfl) mD kD bD .nil pass0 (pa_cons (pv 1) (pa_cons pe_int pa_nil))) pe_int (nomark _)) (pss_one (ps_set (i := 10) scLaw.nd rfl (.inl rfl) (pe_call GD hr1 (by rfl) mD kD bD .nil pass0 (pa_cons (pv 1) (pa_cons (pe_op op_add (pe_op op_pow pe_int pe_int) pe_int) pa_nil))))) pss_nil)
        (pss_cons (ps_set (i := 11) scLaw.nd rfl (.inl rfl) (pe_call GS hr3 (by rfl) mS kS bS .nil pass0 (pa_cons (pv 1) (pa_cons (pv 2) (pa_cons (pv 10) pa_nil)))))
        (pss_cons (ps_set (i := 12) scLaw.nd rfl (.inl rfl) (pe_meth (pv 7) TC.cl mL GL hr3 bL .nil pass0 (pa_cons (pv 11) (pa_cons (pv 10) pa_nil))))
        (pss_cons (ps_if (PW.pt (pw_or (pt_not (pt_val (pe_callB call_isi (by rfl) W.isi (by decide +kernel) (pa_cons (pv 12) (pa_cons (pe_bltn (v := .ty "bool") (by rfl) W.bool (by decide +kernel) rfl) pa_nil))))) (pw_or1 (pt_cmpR op_ne (pv 12) (pe_call GU hr2 (by rfl) mU kU bU .nil pass0 (pa_cons (pv 6) (pa_cons (pv 11) (pa_cons (pv 10) pa_nil)))) (nomark _))))) (pss_one (ps_ret pe_bl)) pss_nil)
        (pss_one (ps_expr (pe_bm PySem.F.plainAttrs_list PySem.F.slot_list_append PySem.F.type_list_append mt_append (pv 8) (pa_cons (pe_tup (pa_cons (pv 11) (pa_cons (pv 10) pa_nil))) pa_nil))))))))))
      (pss_cons (ps_for PassesOwn.never rfl (pi_list (pv 8)) (pg_tup rfl (pgs_cons (pg_name (i := 11) scLaw.nd rfl (.inl rfl)) (pgs_cons (pg_name (i := 10) scLaw.nd rfl (.inl rfl)) pgs_nil))) (pss_one (ps_if (pt_cmpR op_ne (pe_meth (pv 7) TC.cl mL GL hr3 bL .nil pass0 (pa_cons (pv 11) (pa_cons (pv 10) pa_nil))) (pe_call GU hr2 (by rfl) mU kU bU .nil pass0 (pa_cons (pv 6) (pa_cons (pv 11) (pa_cons (pv 10) pa_nil)))) (nomark _)) (pss_one (ps_ret pe_bl)) pss_nil)))
      (pss_one (ps_ret (pe_and (pe_cmpR (op_eqD hu) (pe_fld (pv 7) rfl) (pe_ix ix_tup (pv 6) pe_int (fun _ _ => rfl)) (nomark _)) (pe_and (pe_cmpR (op_eqD hu) (pe_fld (pv 7) rfl) (pe_ix ix_tup (pv 6) pe_int (fun _ _ => rfl)) (nomark _)) (pe_one (pe_cmpR (op_eqD hu) (pe_fld (pv 7) rfl) (pe_ix ix_tup (pv 6) pe_int (fun _ _ => rfl)) (nomark _)))))))))))))))))), ?_⟩
    refine ⟨_, rfl, a, ns, rfl, hS, hlen, fun H1 p s1 np hB => ?_⟩
    refine ⟨_, rfl, p, 4, rfl, hB, by decide, fun H2 u zs k2 nu hU zl hok hnd => ?_⟩
    have up : u ≠ p := hB.ne nu
    have hN2 : Nms H2 u p zs := ⟨hU, up, by omega, by omega, hok⟩
    refine ⟨Nat.zero_le _, fun g ng => ?_⟩
    have gp := k2.2.ne ng
    have sg := same_upd (o := .lst []) ng
    have hg0 : (upd H2 g (.lst [])) g = some (.lst []) := upd_same
    have hB3 := k2.2.same sg
    have hN3 := hN2.same sg
    generalize (upd H2 g (.lst [])) = H3 at hg0 hB3 hN3 ⊢
    refine ⟨.ref u, rfl, 2, rfl, u, txts zs, rfl, SqL.of hN3.at_, fun l1 n1 => ?_⟩
    have t1 := same_upd (o := .lst (cutV (txts zs) none (some 2))) n1
    refine ⟨.ref u, rfl, 3, rfl, u, txts zs, rfl, SqL.of (t1 _ _ hN3.at_), fun l2 n2 => ?_⟩
    have t2 := same_upd (o := .lst (cutV (txts zs) (some 3) none)) n2
    refine ⟨l1, l2, _, _, rfl, rfl, t2 _ _ upd_same, upd_same, ?_, fun l3 n3 => ?_⟩
    · rw [sizeLine_eq, show (some 2 : Option Int) = some ((2 : Nat) : Int) from rfl, show (some 3 : Option Int) = some ((3 : Nat) : Int) from rfl, cut_to _ (by rw [txts_len]; omega), cut_from _ (by rw [txts_len]; omega), List.length_take, List.length_drop, txts_len]
      omega
    have e3 : cutV (txts zs) none (some 2) ++ cutV (txts zs) (some 3) none = txts (zs.take 2 ++ zs.drop 3) := by
      rw [show (some 2 : Option Int) = some ((2 : Nat) : Int) from rfl, show (some 3 : Option Int) = some ((3 : Nat) : Int) from rfl, cut_to _ (by rw [txts_len]; omega), cut_from _ (by rw [txts_len]; omega)]
      unfold txts
      rw [List.map_append, List.map_take, List.map_drop]
    rw [e3]
    have t3 := same_upd (o := .lst (txts (zs.take 2 ++ zs.drop 3))) n3
    have sOnes := (t1.trans t2).trans t3
    have hl3 : (upd (upd (upd H3 l1 (.lst (cutV (txts zs) none (some 2)))) l2 (.lst (cutV (txts zs) (some 3) none))) l3 (.lst (txts (zs.take 2 ++ zs.drop 3)))) l3 = some (.lst (txts (zs.take 2 ++ zs.drop 3))) := upd_same
    generalize (upd (upd (upd H3 l1 (.lst (cutV (txts zs) none (some 2)))) l2 (.lst (cutV (txts zs) (some 3) none))) l3 (.lst (txts (zs.take 2 ++ zs.drop 3)))) = H4 at sOnes hl3 ⊢
    have o1 : (zs.take 2 ++ zs.drop 3).length = 3 := by
      rw [List.length_append, List.length_take, List.length_drop, zl]
      rfl
    have o2 : ∀ z ∈ zs.take 2 ++ zs.drop 3, z ∈ zs := fun z hz => by
      rcases List.mem_append.mp hz with h | h
      · exact List.mem_of_mem_take h
      · exact List.mem_of_mem_drop h
    have o3 : (zs.take 2 ++ zs.drop 3).Nodup := by
      match zs, zl, hnd with
      | [a, b, c, d], _, h =>
        show [a, b, d].Nodup
        simp at h ⊢
        exact ⟨⟨h.1.1, h.1.2.2⟩, h.2.1.2⟩
    have hg4 := sOnes _ _ hg0
    have hN4 := hN3.same sOnes
    have hB4 := hB3.same sOnes
    generalize zs.take 2 ++ zs.drop 3 = ones at o1 o2 o3 hl3 ⊢
    clear e3 t1 t2 t3
    refine ⟨l3, rfl, ⟨_, SqL.of hl3⟩, for_it (walk_list (xs := txts ones)) (fun i σ H5 => Same H4 H5 ∧ ∃ g as y4, σ = [some (.ref a), some (.ref p), some (.ref u), some (.ref g), y4, none, none, none, none, none, none, none, none, none, none] ∧ H5 g = some (.lst (as.map V.ref)) ∧ PrsAt H5 as (prsOf (ones.take i) zs) ∧ g ≠ p) ⟨Same.refl _, g, [], none, rfl, hg4, .nil, gp⟩ (fun _ _ _ _ h => SqL.of (h.1 _ _ hl3)) ?_ ?_⟩
    · rintro i x σ H5 H6 hi ⟨s5, g, as, y4, rfl, hg, hP, gp⟩ ⟨rfl, hx⟩
      obtain ⟨o, ho, rfl⟩ := txts_get hx
      refine ⟨_, rfl, _, rfl, u, rfl, ⟨_, SqL.of (s5 _ _ hN4.at_)⟩, fun D hD => ?_⟩
      refine lc_it walk_list (fun j H7 => Same H6 H7 ∧ ∃ bs, H7 D = some (.lst (bs.map V.ref)) ∧ PrsAt H7 bs ((zs.take j).map fun z => (S o, S z))) ⟨same_upd hD, [], upd_same, .nil⟩ (fun _ _ _ h => SqL.of (h.1 _ _ (s5 _ _ hN4.at_))) ?_ ?_
      · rintro j y H7 H8 hj ⟨s7, bs, hd, hQ⟩ ⟨rfl, hy⟩
        obtain ⟨z, hz, rfl⟩ := txts_get hy
        refine ⟨rfl, ?_⟩
        unfold tYes
        refine iteT ⟨_, rfl, _, rfl, two_le, fun e ne => ?_⟩
        have se := same_upd (o := .tup [V.str (S o), V.str (S z)]) ne
        have hd8 := se _ _ hd
        refine ⟨_, hd8, ?_, fun b q e2 => ?_, bs ++ [e], ?_, ?_⟩
        · have := hQ.len
          rw [List.length_map, List.length_take] at this
          rw [List.length_map]
          exact small1000 (by omega)
        · rw [upd_ne (ne_of_none e2 hD)]
          exact se _ _ (s7 _ _ e2)
        · rw [upd_same, List.map_append]
          rfl
        · rw [← take_snoc (f := fun z => (S o, S z)) hz]
          exact PrsAt.snoc (hQ.ext ((TupE.same se).trans (TupE.grow hd8))) (TupE.grow hd8 _ _ upd_same)
      · rintro H7 ⟨s7, bs, hd, hQ⟩
        have lA := hP.len
        have lB := hQ.len
        rw [prsOf_len, List.length_take] at lA
        rw [List.length_map, List.length_take] at lB
        refine ⟨g, D, _, _, rfl, rfl, s7 _ _ hg, hd, ?_, fun g2 n2 => ?_⟩
        · rw [List.length_map, List.length_map, lA, lB, sizeLine_eq, txts_len, zl, o1]
          have : min i 3 ≤ 3 := Nat.min_le_right _ _
          omega
        · have s8 := same_upd (o := .lst (as.map V.ref ++ bs.map V.ref)) n2
          refine ⟨(s5.trans s7).trans s8, g2, as ++ bs, _, rfl, by rw [upd_same, List.map_append], ?_, (hB4.same (s5.trans s7)).ne n2⟩
          rw [prsOf_snoc ho]
          refine PrsAt.app (hP.ext ((TupE.same s7).trans (TupE.same s8))) ?_
          have e : zs.take (txts zs).length = zs := List.take_of_length_le (by rw [txts_len]; exact Nat.le_refl _)
          rw [e] at hQ
          exact hQ.ext (TupE.same s8)
    rintro σ H5 ⟨s5, g, as, y4, rfl, hg, hP, gp⟩
    rw [List.take_of_length_le (by rw [txts_len]; exact Nat.le_refl _)] at hP
    have hB5 := hB4.same s5
    have hN5 := hN4.same s5
    clear hl3 sOnes hg0 hg4 s5
    refine ⟨fun σ' H' => ∃ vm dm, σ' = [some (.ref a), some (.ref p), some (.ref u), some (.ref g), y4, some vm, none, none, none, none, none, none, none, none, none] ∧ Kp p H5 H' ∧ MtD H' vm dm ∧ RightD dm, ?_, fun σ' H6 hM => ?_⟩
    · refine ⟨_, rfl, p, 2, rfl, hB5, by decide, by decide, fun H6 r k6 r0 r2 => ⟨rfl, _, rfl, ite2 (fun _ => ?_) (fun _ => ?_)⟩⟩
      · refine ⟨_, rfl, g, rfl, ⟨_, SqL.of (k6.1 _ _ gp hg)⟩, fun D hD => ?_⟩
        have Dn : D ≠ p := k6.2.ne hD
        refine lc_it walk_list (fun j H7 => Kp p H6 H7 ∧ ∃ bs qs, H7 D = some (.lst (bs.map V.ref)) ∧ PrsAt H7 bs qs ∧ qs.Sublist ((prsOf ones zs).take j)) ⟨Kp.of k6.2 (same_upd hD), [], [], upd_same, .nil, List.Sublist.refl _⟩ (fun _ _ _ h => SqL.of (h.1.1 _ _ gp (k6.1 _ _ gp hg))) ?_ ?_
        · rintro j y H7 H8 hj ⟨k7, bs, qs, hd, hQ, sub⟩ ⟨rfl, hy⟩
          obtain ⟨aj, qj, rfl, hqj, haj⟩ := (hP.ext ((TupE.kp hB5 k6).trans (TupE.kp k6.2 k7))).get hy
          have tk : (prsOf ones zs).take (j + 1) = (prsOf ones zs).take j ++ [qj] := by
            rw [List.take_add_one, hqj]
            rfl
          refine ⟨rfl, ?_⟩
          refine ⟨_, rfl, p, 2, rfl, k7.2, by decide, by decide, fun H9 r k9 r0 r2 => ⟨rfl, _, rfl, ite2 (fun _ => ?_) (fun _ => ?_)⟩⟩
          · have hd9 := k9.1 _ _ Dn hd
            have lB := hQ.len
            have lS := sub.length_le
            rw [List.length_take] at lS
            refine ⟨_, rfl, _, hd9, ?_, ⟨fun b o n e => ?_, ?_⟩, bs ++ [aj], qs ++ [qj], ?_, ?_, ?_⟩
            · rw [List.length_map, sizeLine_eq]
              have := prsOf_len (zs := zs) (ones := ones)
              rw [o1, zl] at this
              omega
            · rw [upd_ne (ne_of_none e hD)]
              exact k9.1 _ _ n (k7.1 _ _ n e)
            · obtain ⟨u, v, w2, ns, hp, hb⟩ := k9.2
              exact ⟨u, v, w2, ns, by rw [upd_ne Dn.symm]; exact hp, hb⟩
            · rw [upd_same, List.map_append]
              rfl
            · have te := (TupE.kp k7.2 k9).trans (TupE.grow (ys := bs.map V.ref ++ [V.ref aj]) hd9)
              exact PrsAt.snoc (hQ.ext te) (te _ _ haj)
            · rw [tk]
              exact sub.append (List.Sublist.refl _)
          · refine ⟨k7.trans k9, bs, qs, k9.1 _ _ Dn hd, hQ.ext (TupE.kp k7.2 k9), ?_⟩
            rw [tk]
            exact sub.trans (List.sublist_append_left _ _)
        · rintro H7 ⟨k7, bs, qs, hd, hQ, sub⟩
          refine ⟨D, _, rfl, .inl ⟨SqL.of hd, fun t nt => ?_⟩⟩
          have st := same_upd (o := .tup (bs.map V.ref)) nt
          exact ⟨.ref t, .tuple (qs.map prD), rfl, (k6.trans k7).same st, .inr ⟨t, bs, qs, rfl, upd_same, hQ.ext (TupE.same st), rfl⟩, rightQ hok o2 (by rw [o1, zl]; decide) hnd o3 (sub.trans (List.take_sublist _ _))⟩
      · exact ⟨.non, .none, rfl, k6, .inl ⟨rfl, rfl⟩, rightN⟩
    obtain ⟨vm, dm, rfl, k6, hM, hR⟩ := hM
    have hN6 := hN5.kp k6
    refine ⟨_, rfl, _, rfl, p, 2, rfl, k6.2, by decide, by decide, fun H7 r1 k7 _ _ => ⟨rfl, _, rfl, p, 2, rfl, k7.2, by decide, by decide, fun H8 r2 k8 _ _ => ⟨rfl, by show 3 ≤ sizeLine; rw [sizeLine_eq]; decide, fun t nt => ?_⟩⟩⟩
    generalize hb1 : decide (V.int r1 = V.int 1) = b1
    generalize hb2 : decide (V.int r2 = V.int 1) = b2
    have k68 := k7.trans k8
    have st := same_upd (o := .tup [vm, .bl b1, .bl b2]) nt
    have hM9 := hM.ext ((TupE.kp k6.2 k68).trans (TupE.same st))
    have hN9 := (hN6.kp k68).same st
    have hB9 := k8.2.same st
    have ht9 : (upd H8 t (.tup [vm, .bl b1, .bl b2])) t = some (.tup [vm, .bl b1, .bl b2]) := upd_same
    generalize (upd H8 t (.tup [vm, .bl b1, .bl b2])) = H9 at hM9 hN9 hB9 ht9 ⊢
    clear hb1 hb2 k68 st
    refine ⟨_, rfl, t, _, 0, _, rfl, rfl, SqT.of ht9, atI_nat (j := 0) rfl, _, rfl, t, _, 1, _, rfl, rfl, SqT.of ht9, atI_nat (j := 1) rfl, _, rfl, t, _, 2, _, rfl, rfl, SqT.of ht9, atI_nat (j := 2) rfl, rfl, rfl, fun x dx n1 n2 _ => ?_⟩
    refine made_at n1 n2 hM9.dp hR.ok hR.few (.bl b1) (ok_bl b1) (.bl b2) (ok_bl b2) (fun f e2 => by rw [hR.made b1 b2] at e2; cases e2) (fun _ H10 s10 hC => ⟨rfl, ?_⟩)
    refine ⟨Nat.zero_le _, fun c nc => ?_⟩
    have cp : c ≠ p := (hB9.same s10).ne nc
    have sc := same_upd (o := .lst []) nc
    have hLs : Lsts (fun b => b = p ∨ b = c) (upd H10 c (.lst [])) := fun b tb => by
      rcases tb with rfl | rfl
      · obtain ⟨_, _, _, _, e, _⟩ := (hB9.same s10).same sc
        exact ⟨_, e⟩
      · exact ⟨_, upd_same⟩
    have hL : LSt K CC p c u t x zs dm b1 b2 0 (upd H10 c (.lst [])) := by
      refine ⟨(hB9.same s10).same sc, cp, ne_of_none (s10 _ _ hN9.at_) nc, (hN9.same s10).same sc, ⟨vm, hLs.tupE _ _ (sc _ _ (s10 _ _ ht9)), hid_nl hLs (dp_same (s10.trans sc) hM9.dp) hR.nl, hR.ok⟩, ?_, [], upd_same, Nat.le_refl _, fun e he => by cases he⟩
      obtain ⟨dx2, um, uc, upp, c1, c2, o2, c3, o3, c4, o4⟩ := hC.same sc
      exact ⟨dx2, um, uc, upp, hLs.ins c1, hid_nl hLs c2 hR.nl, o2, hid_nl hLs c3 rfl, o3, hid_nl hLs c4 rfl, o4⟩
    generalize (upd H10 c (.lst [])) = H11 at hL ⊢
    have two := hR.two
    refine ⟨6, rfl, by decide, by decide, for_it walk_range (fun i σ H => LSt K CC p c u t x zs dm b1 b2 i H ∧ ∃ y9 y10 y11 y12, σ = [some (.ref a), some (.ref p), some (.ref u), some (.ref g), y4, some vm, some (.ref t), some (.ref x), some (.ref c), y9, y10, y11, y12, none, none]) ⟨hL, _, _, _, _, rfl⟩ (fun _ _ _ _ _ => trivial) ?_ ?_⟩
    · rintro i y σ H12 H13 hi ⟨hL, y9, y10, y11, y12, rfl⟩ ⟨rfl, rfl⟩
      have hi6 : i < 6 := hi
      refine ⟨_, rfl, p, 10, rfl, hL.bag, by decide, by decide, fun H14 h0 k14 _ _ => ?_⟩
      have hL14 := hL.kp k14
      refine ⟨fun σ' H' => LSt K CC p c u t x zs dm b1 b2 i H' ∧ ∃ (h : Int) (y9 : Option V), σ' = [some (.ref a), some (.ref p), some (.ref u), some (.ref g), y4, some vm, some (.ref t), some (.ref x), some (.ref c), y9, some (.int h), y11, y12, none, none], ?_, fun σ' H15 hM => ?_⟩
      · refine ⟨_, rfl, p, 4, rfl, hL14.bag, by decide, by decide, fun H15 r k15 _ _ => ⟨rfl, _, rfl, ite2 (fun _ => ?_) (fun _ => ⟨hL14.kp k15, h0, _, rfl⟩)⟩⟩
        exact ⟨_, rfl, 10, 30, rfl, rfl, by unfold CPow; omega, _, 1, rfl, rfl, p, _, rfl, k15.2, by decide, by decide, fun H16 h k16 _ _ => ⟨(hL14.kp k15).kp k16, h, _, rfl⟩⟩
      obtain ⟨hL15, h, y9, rfl⟩ := hM
      refine ⟨_, rfl, _, rfl, _, rfl, p, u, zs, h, _, rfl, hL15.stg, hL15.nms, fun H16 v d k16 o16 h16 => ?_⟩
      have hL16 := hL15.kp k16
      have od := o16.okD (by decide)
      have hC := hL16.cat.same hid_sub
      obtain ⟨dx2, um, uc, upp, c1, _⟩ := id hC
      refine ⟨_, rfl, x, dx2, _, rfl, c1, cF_allows, _, rfl, _, rfl, x, v, d, dm, b1, b2, h, rfl, hC, two, h16.dp, od, fun H17 s17 => ?_⟩
      have hL17 := hL16.same s17
      have h17 := Dq.same h16 s17
      refine ⟨_, rfl, _, .ty "bool", _, _, _, rfl, .ty _, dp_ty (.bl _), kit_bool (.bool (alD dm b1 b2 h d)), _, rfl, iteF ⟨_, rfl, _, rfl, _, rfl, _, rfl, t, v, d, dm, b1, b2, h, rfl, hL17.tld.same hid_sub, two, h17.dp, od, fun H18 s18 => ⟨rfl, _, rfl, ite2 (fun k => absurd k (by simp)) (fun _ => ?_)⟩⟩⟩
      have hL18 := hL17.same s18
      have h18 := Dq.same h17 s18
      obtain ⟨es0, e10, _⟩ := hL18.ents
      refine ⟨_, rfl, .inl ⟨rfl, _, SqL.of e10⟩, _, rfl, _, rfl, two_le, fun e ne => ?_⟩
      have se := same_upd (o := .tup [v, .int h]) ne
      have hL19 := hL18.same se
      have h19 := Dq.same h18 se
      have he : hid (fun b => b = p ∨ b = c) (upd H18 e (.tup [v, .int h])) e = some (.tup [v, .int h]) := hid_at (hL18.stg.dom.new ne) upd_same
      generalize (upd H18 e (.tup [v, .int h])) = H19 at hL19 h19 he ⊢
      obtain ⟨es, e1, e2, e3⟩ := hL19.ents
      have sT : StT (fun b => b = p ∨ b = c) H19 (upd H19 c (.lst (es.map V.ref ++ [.ref e]))) := StT.set (.inr rfl)
      refine ⟨c, _, _, rfl, rfl, e1, by rw [List.length_map]; exact small1000 (by omega), ⟨?_, hL19.cp, hL19.uc, ?_, hL19.tld.same (hid_stT sT), hL19.cat.same (hid_stT sT), es ++ [e], by rw [upd_same, List.map_append]; rfl, by rw [List.length_append]; exact Nat.succ_le_succ e2, fun e' he' => ?_⟩, _, _, _, _, rfl⟩
      · obtain ⟨u', v', w', ns', hp', hb'⟩ := hL19.bag
        exact ⟨u', v', w', ns', by rw [upd_ne hL19.cp.symm]; exact hp', hb'⟩
      · exact ⟨by rw [upd_ne hL19.uc]; exact hL19.nms.at_, hL19.nms.np, hL19.nms.ne, hL19.nms.le, hL19.nms.ok⟩
      · rcases List.mem_append.mp he' with m | m
        · exact (e3 e' m).stT sT
        · rw [List.mem_singleton.mp m]
          exact EntS.stT ⟨v, d, h, he, h19, od⟩ sT
    rintro σ H12 ⟨hL, y9, y10, y11, y12, rfl⟩
    obtain ⟨es, e1, e2, e3⟩ := hL.ents
    refine ⟨_, rfl, c, rfl, ⟨_, SqL.of e1⟩, for_it (walk_list (xs := es.map V.ref)) (fun i σ H => Same H12 H ∧ ∃ y10 y11, σ = [some (.ref a), some (.ref p), some (.ref u), some (.ref g), y4, some vm, some (.ref t), some (.ref x), some (.ref c), y9, y10, y11, y12, none, none]) ⟨Same.refl _, _, _, rfl⟩ (fun _ _ _ _ h => SqL.of (h.1 _ _ e1)) ?_ ?_⟩
    · rintro i y σ H13 H14 hi ⟨s13, y10, y11, rfl⟩ ⟨rfl, hy⟩
      obtain ⟨e, he, rfl⟩ : ∃ e ∈ es, y = .ref e := by
        rw [List.getElem?_map] at hy
        cases h : es[i]? with
        | none =>
          rw [h] at hy
          cases hy
        | some e =>
          rw [h] at hy
          exact ⟨e, List.mem_of_getElem? h, (Option.some.inj hy).symm⟩
      obtain ⟨v, d, h, a1, a2, od⟩ := e3 e he
      have hL13 := hL.same s13
      have ha := s13 _ _ (hid_sub _ _ a1)
      have hd := dp_same s13 a2.dp
      have hC := hL13.cat.same hid_sub
      obtain ⟨dx2, um, uc, upp, c1, _⟩ := id hC
      refine ⟨e, _, rfl, SqT.of ha, rfl, _, _, rfl, _, _, rfl, rfl, ?_⟩
      refine ⟨_, rfl, x, dx2, _, rfl, c1, cF_allows, _, rfl, _, rfl, x, v, d, dm, b1, b2, h, rfl, hC, two, hd, od, fun H17 s17 => ?_⟩
      have hL17 := hL13.same s17
      refine ⟨_, rfl, _, rfl, _, rfl, t, v, d, dm, b1, b2, h, rfl, hL17.tld.same hid_sub, two, dp_same s17 hd, od, fun H18 s18 => ⟨rfl, _, rfl, ite2 (fun k => absurd k (by simp)) (fun _ => ?_)⟩⟩
      exact ⟨(s13.trans s17).trans s18, _, _, rfl⟩
    rintro σ H13 ⟨s13, y10, y11, rfl⟩
    have hL13 := hL.same s13
    obtain ⟨dx2, um, uc, upp, c1, c2, o2, c3, _, c4, _⟩ := hL13.cat.same hid_sub
    obtain ⟨wm, t1, t2, _⟩ := hL13.tld.same hid_sub
    refine ⟨_, rfl, x, CC, dx2, _, _, rfl, c1, TC.cl, TC.nM, cF_methods, _, rfl, t, _, 0, _, rfl, rfl, SqT.of t1, atI_nat (j := 0) rfl, dm, dm, c2, t2, o2.sh, o2.sh, _, rfl, ?_⟩
    rw [eqvR o2]
    refine iteT ⟨_, rfl, x, CC, dx2, _, _, rfl, c1, TC.cl, TC.nC, cF_changes, _, rfl, t, _, 1, _, rfl, rfl, SqT.of t1, atI_nat (j := 1) rfl, _, .bool b1, c3, .bl b1, by rfl, by rfl, _, rfl, ?_⟩
    rw [eqvR (ok_bl b1)]
    refine iteT ⟨_, rfl, x, CC, dx2, _, _, rfl, c1, TC.cl, TC.nP, cF_passes, _, rfl, t, _, 2, _, rfl, rfl, SqT.of t1, atI_nat (j := 2) rfl, _, .bool b2, c4, .bl b2, by rfl, by rfl, ?_⟩
    rw [eqvR (ok_bl b2)]
    exact q _
end
end Dr
namespace Dr
open PySem PySem.Spec PyProof.Rows L2
open SX (S S_len S_cat)
/-- values that are these texts -/
def strsB : List Value → List Str → Bool
  | [], [] => true
  | .str x _ :: us, z :: zs => (x == z) && strsB us zs
  | _, _ => false
theorem strsB_vals : ∀ {us : List Value} {zs : List Str}, strsB us zs = true → Vals (zs.map V.str) us
  | [], [], _ => .nil
  | .str x t :: us, z :: zs, h => by
    have h' : ((x == z) && strsB us zs) = true := h
    rw [Bool.and_eq_true, beq_iff_eq] at h'
    obtain ⟨rfl, h2⟩ := h'
    exact .cons ⟨t, rfl⟩ (strsB_vals h2)
  | [], _ :: _, h => by cases h
  | .str _ _ :: _, [], h => by cases h
theorem strsB_len : ∀ {us : List Value} {zs : List Str}, strsB us zs = true → us.length = zs.length := fun h => by
  have := (strsB_vals h).length
  rw [List.length_map] at this
  exact this.symm
theorem fm_of {K : PySem.W.Frag} {a : Addr} {dd : Option Addr} {its : Array Value} {n : Nat} {sl : Array (Option Value)} {zs : List Str} (l : K.lookup a = some ⟨.type "tuple", dd, .seq its n, sl⟩) (h : strsB its.toList zs = true) (hz : zs.length ≤ 1000) : ∀ H : Hp, SqT K H a (zs.map V.str) := fun H =>
  .inr ⟨_, its, n, l, rfl, rfl, by
    have := strsB_len h
    rw [Array.length_toList] at this
    rw [this]
    exact Nat.le_of_lt (small1000 hz), strsB_vals h⟩
theorem all_mk {l : PySem.W.OpenLaw} {w : World} {K : PySem.W.Frag} {h : Heap} {mg : Str → Option Value} {fa CC CE TD D gE aB fci fal fnm fii fnb fcl fch fao fap fip fbg fdr fns fag fsp ffo fdu flw : Addr} (X : K.In h) (G : h.Ns mainGlobals mg) (hfa : mg "law" = some (.ref fa))
    {odnm annm odii anii odnb annb odcl ancl odch anch odao anao odap anap odip anip odbg anbg oddr andr odns anns odag anag odsp ansp odfo anfo oddu andu odlw anlw odci anci odal anal odxE anxE ddTD ddaB : Option Addr} {slnm slii slnb slcl slch slao slap slip slbg sldr slns slag slsp slfo sldu sllw slci slal slxE ssTD ssaB : Array (Option Value)} {ocnm dcnm pmnm cdnm ctnm kVnm ocii dcii pmii cdii ctii kVii ocnb dcnb pmnb cdnb ctnb kVnb occl dccl pmcl cdcl ctcl kVcl occh dcch pmch cdch ctch kVch ocao dcao pmao cdao ctao kVao ocap dcap pmap cdap ctap kVap ocip dcip pmip cdip ctip kVip ocbg dcbg pmbg cdbg ctbg kVbg ocdr dcdr pmdr cddr ctdr kVdr ocns dcns pmns cdns ctns kVns ocag dcag pmag cdag ctag kVag ocsp dcsp pmsp cdsp ctsp kVsp ocfo dcfo pmfo cdfo ctfo kVfo ocdu dcdu pmdu cddu ctdu kVdu oclw dclw pmlw cdlw ctlw kVlw occi dcci pmci cdci ctci ocal dcal pmal cdal ctal kVal ocxE dcxE pmxE cdxE ctxE kVxE : Value} {tl : Tok} {nmE qE : Str} {NE BAE : Addr} {bsE subE : List Value} {snE : List Str} {abE : Bool} {colE : Option Bool} {ddE : Option Addr} {u0E u1E u2E u3E u5E : Option Value} {nnTD nnaB : Nat} {itaB : Array Value}
    (anm : PySem.W.nsIn K mainGlobals "is_name" = some (some (.ref fnm)))
    (lnm : K.lookup fnm = some ⟨ocnm, odnm, .func (PySem.W.fnOf "is_name" "is_name" (defArgs sIsName) (defBody sIsName) (defScope sIsName) .none kVnm dcnm pmnm annm cdnm ctnm), slnm⟩)
    (cnm : PySem.W.codeIn K cdnm "is_name" = true)
    (knm : PySem.W.keepIn K (.ref fnm) = true)
    (aii : PySem.W.nsIn K mainGlobals "is_integer" = some (some (.ref fii)))
    (lii : K.lookup fii = some ⟨ocii, odii, .func (PySem.W.fnOf "is_integer" "is_integer" (defArgs sIsInt) (defBody sIsInt) (defScope sIsInt) .none kVii dcii pmii anii cdii ctii), slii⟩)
    (cii : PySem.W.codeIn K cdii "is_integer" = true)
    (kii : PySem.W.keepIn K (.ref fii) = true)
    (anb : PySem.W.nsIn K mainGlobals "is_number_below" = some (some (.ref fnb)))
    (lnb : K.lookup fnb = some ⟨ocnb, odnb, .func (PySem.W.fnOf "is_number_below" "is_number_below" (defArgs sIsNum) (defBody sIsNum) (defScope sIsNum) .none kVnb dcnb pmnb annb cdnb ctnb), slnb⟩)
    (cnb : PySem.W.codeIn K cdnb "is_number_below" = true)
    (knb : PySem.W.keepIn K (.ref fnb) = true)
    (acl : PySem.W.nsIn K mainGlobals "is_call" = some (some (.ref fcl)))
    (lcl : K.lookup fcl = some ⟨occl, odcl, .func (PySem.W.fnOf "is_call" "is_call" (defArgs sIsCall) (defBody sIsCall) (defScope sIsCall) .none kVcl dccl pmcl ancl cdcl ctcl), slcl⟩)
    (ccl : PySem.W.codeIn K cdcl "is_call" = true)
    (kcl : PySem.W.keepIn K (.ref fcl) = true)
    (ach : PySem.W.nsIn K mainGlobals "is_change" = some (some (.ref fch)))
    (lch : K.lookup fch = some ⟨occh, odch, .func (PySem.W.fnOf "is_change" "is_change" (defArgs sIsChg) (defBody sIsChg) (defScope sIsChg) .none kVch dcch pmch anch cdch ctch), slch⟩)
    (cch : PySem.W.codeIn K cdch "is_change" = true)
    (kch : PySem.W.keepIn K (.ref fch) = true)
    (aao : PySem.W.nsIn K mainGlobals "arguments_of" = some (some (.ref fao)))
    (lao : K.lookup fao = some ⟨ocao, odao, .func (PySem.W.fnOf "arguments_of" "arguments_of" (defArgs sArgs) (defBody sArgs) (defScope sArgs) .none kVao dcao pmao anao cdao ctao), slao⟩)
    (cao : PySem.W.codeIn K cdao "arguments_of" = true)
    (kao : PySem.W.keepIn K (.ref fao) = true)
    (aap : PySem.W.nsIn K mainGlobals "are_pairs" = some (some (.ref fap)))
    (lap : K.lookup fap = some ⟨ocap, odap, .func (PySem.W.fnOf "are_pairs" "are_pairs" (defArgs sArePairs) (defBody sArePairs) (defScope sArePairs) .none kVap dcap pmap anap cdap ctap), slap⟩)
    (cap : PySem.W.codeIn K cdap "are_pairs" = true)
    (kap : PySem.W.keepIn K (.ref fap) = true)
    (aip : PySem.W.nsIn K mainGlobals "is_pair" = some (some (.ref fip)))
    (lip : K.lookup fip = some ⟨ocip, odip, .func (PySem.W.fnOf "is_pair" "is_pair" (defArgs sIsPair) (defBody sIsPair) (defScope sIsPair) .none kVip dcip pmip anip cdip ctip), slip⟩)
    (cip : PySem.W.codeIn K cdip "is_pair" = true)
    (kip : PySem.W.keepIn K (.ref fip) = true)
    (abg : PySem.W.nsIn K mainGlobals "_law_bag" = some (some (.ref fbg)))
    (lbg : K.lookup fbg = some ⟨ocbg, odbg, .func (PySem.W.fnOf "_law_bag" "_law_bag" (defArgs sBag) (defBody sBag) (defScope sBag) .none kVbg dcbg pmbg anbg cdbg ctbg), slbg⟩)
    (cbg : PySem.W.codeIn K cdbg "_law_bag" = true)
    (kbg : PySem.W.keepIn K (.ref fbg) = true)
    (adr : PySem.W.nsIn K mainGlobals "_law_draw" = some (some (.ref fdr)))
    (ldr : K.lookup fdr = some ⟨ocdr, oddr, .func (PySem.W.fnOf "_law_draw" "_law_draw" (defArgs sDraw) (defBody sDraw) (defScope sDraw) .none kVdr dcdr pmdr andr cddr ctdr), sldr⟩)
    (cdr : PySem.W.codeIn K cddr "_law_draw" = true)
    (kdr : PySem.W.keepIn K (.ref fdr) = true)
    (ans : PySem.W.nsIn K mainGlobals "_law_names" = some (some (.ref fns)))
    (lns : K.lookup fns = some ⟨ocns, odns, .func (PySem.W.fnOf "_law_names" "_law_names" (defArgs sNames) (defBody sNames) (defScope sNames) .none kVns dcns pmns anns cdns ctns), slns⟩)
    (cns : PySem.W.codeIn K cdns "_law_names" = true)
    (kns : PySem.W.keepIn K (.ref fns) = true)
    (aag : PySem.W.nsIn K mainGlobals "_law_argument" = some (some (.ref fag)))
    (lag : K.lookup fag = some ⟨ocag, odag, .func (PySem.W.fnOf "_law_argument" "_law_argument" (defArgs sArg) (defBody sArg) (defScope sArg) .none kVag dcag pmag anag cdag ctag), slag⟩)
    (cag : PySem.W.codeIn K cdag "_law_argument" = true)
    (kag : PySem.W.keepIn K (.ref fag) = true)
    (asp : PySem.W.nsIn K mainGlobals "_law_drawn_step" = some (some (.ref fsp)))
    (lsp : K.lookup fsp = some ⟨ocsp, odsp, .func (PySem.W.fnOf "_law_drawn_step" "_law_drawn_step" (defArgs sStep) (defBody sStep) (defScope sStep) .none kVsp dcsp pmsp ansp cdsp ctsp), slsp⟩)
    (csp : PySem.W.codeIn K cdsp "_law_drawn_step" = true)
    (ksp : PySem.W.keepIn K (.ref fsp) = true)
    (afo : PySem.W.nsIn K mainGlobals "_law_is_form" = some (some (.ref ffo)))
    (lfo : K.lookup ffo = some ⟨ocfo, odfo, .func (PySem.W.fnOf "_law_is_form" "_law_is_form" (defArgs sForm) (defBody sForm) (defScope sForm) .none kVfo dcfo pmfo anfo cdfo ctfo), slfo⟩)
    (cfo : PySem.W.codeIn K cdfo "_law_is_form" = true)
    (kfo : PySem.W.keepIn K (.ref ffo) = true)
    (adu : PySem.W.nsIn K mainGlobals "_law_due" = some (some (.ref fdu)))
    (ldu : K.lookup fdu = some ⟨ocdu, oddu, .func (PySem.W.fnOf "_law_due" "_law_due" (defArgs sDue) (defBody sDue) (defScope sDue) .none kVdu dcdu pmdu andu cddu ctdu), sldu⟩)
    (cdu : PySem.W.codeIn K cddu "_law_due" = true)
    (kdu : PySem.W.keepIn K (.ref fdu) = true)
    (alw : PySem.W.nsIn K mainGlobals "law" = some (some (.ref flw)))
    (llw : K.lookup flw = some ⟨oclw, odlw, .func (PySem.W.fnOf "law" "law" (defArgs sLaw) (defBody sLaw) (defScope sLaw) .none kVlw dclw pmlw anlw cdlw ctlw), sllw⟩)
    (clw : PySem.W.codeIn K cdlw "law" = true)
    (klw : PySem.W.keepIn K (.ref flw) = true)
    (aCC : PySem.W.nsIn K mainGlobals "Callers" = some (some (.ref CC)))
    (Cpg : PySem.W.plainGet K CC Str.empty = true)
    (Chd : PySem.W.hasDictIn K CC = true)
    (Cpo : PySem.W.plainOver K CC = true)
    (Csa : PySem.W.findIn K (.ref CC) "__setattr__" = some (some (.builtin "object.__setattr__")))
    (Cmk : PySem.W.makesIn K CC = true)
    (Ckc : PySem.W.keepIn K (.ref CC) = true)
    (Cn0 : PySem.W.findIn K (.ref CC) "methods" = some none)
    (Cn1 : PySem.W.findIn K (.ref CC) "changes" = some none)
    (Cn2 : PySem.W.findIn K (.ref CC) "passes" = some none)
    (Cha : PySem.W.findIn K (.ref CC) "__class__" = some (some (.builtin "object.__class__")))
    (hn : PySem.W.specialIn K (.builtin "object.__class__") "__get__" = some (some (.builtin "getset_descriptor.__get__")))
    (htk : PySem.W.takesIn K (.builtin "object.__class__") = some true)
    (Chm : PySem.W.mroIn K CC (.type "object") = some true)
    (CisC : PySem.W.isClsIn K CC = true)
    (CtyC : PySem.W.typeIn K (.ref CC) = some (.type "type"))
    (aci : PySem.W.findIn K (.ref CC) "__init__" = some (some (.ref fci)))
    (ici : PySem.W.isFn K (.ref fci) = true)
    (lci : K.lookup fci = some ⟨occi, odci, .func (PySem.W.fnOf "__init__" "Callers.__init__" (defArgs sCInit) (defBody sCInit) (defScope sCInit) (.ref TD) (.ref D) dcci pmci anci cdci ctci), slci⟩)
    (cci : PySem.W.codeIn K cdci "Callers.__init__" = true)
    (kci : PySem.W.keepIn K (.ref fci) = true)
    (tTD : K.lookup TD = some ⟨.type "tuple", ddTD, .seq #[.none] nnTD, ssTD⟩)
    (dK1 : PySem.W.nsIn K D "changes" = some (some (.bool true)))
    (dK2 : PySem.W.nsIn K D "passes" = some (some (.bool true)))
    (aal : PySem.W.findIn K (.ref CC) "allows" = some (some (.ref fal)))
    (ial : PySem.W.isFn K (.ref fal) = true)
    (lal : K.lookup fal = some ⟨ocal, odal, .func (PySem.W.fnOf "allows" "Callers.allows" (defArgs sAllows) (defBody sAllows) (defScope sAllows) .none kVal dcal pmal anal cdal ctal), slal⟩)
    (cal : PySem.W.codeIn K cdal "Callers.allows" = true)
    (kal : PySem.W.keepIn K (.ref fal) = true)
    (aCE : PySem.W.nsIn K mainGlobals "BadCallers" = some (some (.ref CE)))
    (xLE : K.lookup CE = some (excClassObj nmE qE CE NE bsE [.ref BAE, .type "ValueError", .type "Exception", .type "BaseException", .type "object"] true snE subE abE colE ddE u0E u1E u2E u3E u5E "ValueError.__new__"))
    (saE : PySem.W.findIn K (.ref CE) "__setattr__" = some (some (.builtin "object.__setattr__")))
    (nfE : PySem.W.findIn K (.ref CE) "part" = some none)
    (aiE : PySem.W.findIn K (.ref CE) "__init__" = some (some (.ref gE)))
    (tiE : PySem.W.typeIn K (.ref gE) = some (.type "function"))
    (liE : K.lookup gE = some ⟨ocxE, odxE, .func (PySem.W.fnOf "__init__" "BadCallers.__init__" (defArgs sECa) (defBody sECa) (defScope sECa) .none kVxE dcxE pmxE anxE cdxE ctxE), slxE⟩)
    (ciE : PySem.W.codeIn K cdxE "BadCallers.__init__" = true)
    (kiE : PySem.W.keepIn K (.ref gE) = true)
    (kCE : PySem.W.keepIn K (.ref CE) = true)
    (eCE : PySem.W.subIn K (.ref CE) (.type "BaseException") = some true)
    (tCE : PySem.W.typeIn K (.ref CE) = some (.type "type"))
    (gB : PySem.W.nsIn K mainGlobals "BARRED" = some (some (.ref aB)))
    (gL : PySem.W.nsIn K mainGlobals "MOST_LETTERS" = some (some (.int 8 tl)))
    (taB : K.lookup aB = some ⟨.type "tuple", ddaB, .seq itaB nnaB, ssaB⟩)
    (vaB : strsB itaB.toList barred = true)
    (z_len : PySem.W.nsIn K mainGlobals "len" = some none)
    (z_isinstance : PySem.W.nsIn K mainGlobals "isinstance" = some none)
    (z_str : PySem.W.nsIn K mainGlobals "str" = some none)
    (z_tuple : PySem.W.nsIn K mainGlobals "tuple" = some none)
    (z_all : PySem.W.nsIn K mainGlobals "all" = some none)
    (z_bool : PySem.W.nsIn K mainGlobals "bool" = some none)
    (z_set : PySem.W.nsIn K mainGlobals "set" = some none)
    (z_int : PySem.W.nsIn K mainGlobals "int" = some none)
    (z_list : PySem.W.nsIn K mainGlobals "list" = some none)
    (z_range : PySem.W.nsIn K mainGlobals "range" = some none)
    (z_any : PySem.W.nsIn K mainGlobals "any" = some none) :
    ∃ fd : FuncData, (∀ (s : Shared) (v : Value), BindsTo s fd ⟨[v], []⟩ [("_law_script", v)]) ∧ ∀ base : Heap, K.In base → base.Ns mainGlobals mg → FnOk l.prog w K mg base CX0 6 fa fd ["_law_script"] (spLaw K) := by
  have e := hfa.symm.trans (PySem.W.mg_of X G alw)
  cases e
  have g : ∀ {n : Str} {v : Value}, PySem.W.nsIn K mainGlobals n = some (some v) → mg n = some v := fun h => PySem.W.mg_of X G h
  have z : ∀ {n : Str}, PySem.W.nsIn K mainGlobals n = some none → mg n = none := fun h => PySem.W.mg_none_of X G h
  have Fnm := fun_mk (st := sIsName) lnm cnm knm
  have bnm := Fnm.binds (ps := ["thing"]) fun _ _ _ _ _ _ us hl => match us, hl with | [_], _ => rfl
  have Fii := fun_mk (st := sIsInt) lii cii kii
  have bii := Fii.binds (ps := ["thing"]) fun _ _ _ _ _ _ us hl => match us, hl with | [_], _ => rfl
  have Fnb := fun_mk (st := sIsNum) lnb cnb knb
  have bnb := Fnb.binds (ps := ["thing", "bound"]) fun _ _ _ _ _ _ us hl => match us, hl with | [_, _], _ => rfl
  have Fcl := fun_mk (st := sIsCall) lcl ccl kcl
  have bcl := Fcl.binds (ps := ["thing"]) fun _ _ _ _ _ _ us hl => match us, hl with | [_], _ => rfl
  have Fch := fun_mk (st := sIsChg) lch cch kch
  have bch := Fch.binds (ps := ["thing"]) fun _ _ _ _ _ _ us hl => match us, hl with | [_], _ => rfl
  have Fao := fun_mk (st := sArgs) lao cao kao
  have bao := Fao.binds (ps := ["call"]) fun _ _ _ _ _ _ us hl => match us, hl with | [_], _ => rfl
  have Fap := fun_mk (st := sArePairs) lap cap kap
  have bap := Fap.binds (ps := ["thing"]) fun _ _ _ _ _ _ us hl => match us, hl with | [_], _ => rfl
  have Fip := fun_mk (st := sIsPair) lip cip kip
  have bip := Fip.binds (ps := ["thing"]) fun _ _ _ _ _ _ us hl => match us, hl with | [_], _ => rfl
  have Fbg := fun_mk (st := sBag) lbg cbg kbg
  have bbg := Fbg.binds (ps := ["_law_script"]) fun _ _ _ _ _ _ us hl => match us, hl with | [_], _ => rfl
  have Fdr := fun_mk (st := sDraw) ldr cdr kdr
  have bdr := Fdr.binds (ps := ["_law_bag_here", "_law_many"]) fun _ _ _ _ _ _ us hl => match us, hl with | [_, _], _ => rfl
  have Fns := fun_mk (st := sNames) lns cns kns
  have bns := Fns.binds (ps := ["_law_bag_here", "_law_many"]) fun _ _ _ _ _ _ us hl => match us, hl with | [_, _], _ => rfl
  have Fag := fun_mk (st := sArg) lag cag kag
  have bag := Fag.binds (ps := ["_law_bag_here", "_law_names_here", "_law_held"]) fun _ _ _ _ _ _ us hl => match us, hl with | [_, _, _], _ => rfl
  have Fsp := fun_mk (st := sStep) lsp csp ksp
  have bsp := Fsp.binds (ps := ["_law_bag_here", "_law_names_here", "_law_held"]) fun _ _ _ _ _ _ us hl => match us, hl with | [_, _, _], _ => rfl
  have Ffo := fun_mk (st := sForm) lfo cfo kfo
  have bfo := Ffo.binds (ps := ["_law_thing"]) fun _ _ _ _ _ _ us hl => match us, hl with | [_], _ => rfl
  have Fdu := fun_mk (st := sDue) ldu cdu kdu
  have bdu := Fdu.binds (ps := ["_law_told", "_law_step", "_law_held"]) fun _ _ _ _ _ _ us hl => match us, hl with | [_, _, _], _ => rfl
  have Flw := fun_mk (st := sLaw) llw clw klw
  have Fci : FC K fci _ := ⟨⟨_, _, _, _, _, _, _, _, _, _, rfl, lci, cci, .inr ⟨by simp, TD, _, [.none], nnTD, rfl, tTD, rfl, .cons rfl .nil⟩, .inr ⟨D, rfl, fun q hq => by
    rcases List.mem_cons.mp hq with rfl | hq
    · exact ⟨_, dK1, rfl⟩
    · rcases List.mem_cons.mp hq with rfl | hq
      · exact ⟨_, dK2, rfl⟩
      · cases hq⟩⟩, kci⟩
  have FxE := fun_mk (st := sECa) liE ciE kiE
  have bxE := FxE.binds (ps := ["self", "part"]) fun _ _ _ _ _ _ us hl => match us, hl with | [_, _], _ => rfl
  have EE : Erc K mg "BadCallers" "part" CE gE := ⟨⟨⟨nmE, qE, NE, bsE, _, snE, subE, abE, colE, ddE, u0E, u1E, u2E, u3E, u5E, xLE, rfl⟩, saE, eCE, tCE, kCE⟩, nfE, aiE, tiE, g aCE⟩
  have W : Wds K mg := ⟨z z_len, z z_isinstance, z z_str, z z_tuple, z z_all, z z_bool, z z_set, ⟨_, g gL⟩, ⟨aB, g gB, fm_of taB vaB (by decide)⟩⟩
  have T : Blt mg := ⟨z z_len, z z_int, z z_list, z z_range⟩
  have TC : Clr K mg CC := ⟨⟨Cpg, Chd, Cpo, Csa⟩, Cn0, Cn1, Cn2, g aCC, Cha, hn, htk, Chm, CisC, CtyC⟩
  have ML : Meth K CC "allows" fal := ⟨aal, ial, kal⟩
  have M : Mk K CC fci := ⟨Cmk, aci, ici, Ckc⟩
  refine ⟨PySem.W.fnOf "law" "law" (defArgs sLaw) (defBody sLaw) (defScope sLaw) .none kVlw dclw pmlw anlw cdlw ctlw, fun s v => .of_eq rfl, fun base _ _ => ?_⟩
  have Gnm := ok_name (P := l.prog) (w := w) (base := base) Fnm W
  have Gip := ok_isPair Fip W Gnm (g anm) knm bnm
  have Gap := ok_arePairs Fap W Gip (g aip) kip bip
  have GxE := ok_eCa (P := l.prog) (w := w) (base := base) FxE EE
  have Gci := ok_ci Fci W TC Gap (g aap) kap bap EE GxE bxE
  have Fal := fun_mk (st := sAllows) lal cal kal
  have bal := Fal.binds (ps := ["self", "step", "held"]) fun _ _ _ _ _ _ us hl => match us, hl with | [_, _, _], _ => rfl
  have Gii := ok_int (P := l.prog) (w := w) (base := base) Fii W T
  have Gnb := ok_num Fnb Gii (g aii) kii bii
  have Gcl := ok_call (P := l.prog) (w := w) (base := base) Fcl W
  have Gch := ok_chg (P := l.prog) (w := w) (base := base) Fch W
  have Gao := ok_args (P := l.prog) (w := w) (mg := mg) (base := base) Fao
  have Gal := ok_allows Fal W TC (z z_any) Gch (g ach) kch bch Gcl (g acl) kcl bcl Gao (g aao) kao bao Gnb (g anb) knb bnb
  have Gbg := ok_bag (P := l.prog) (w := w) (base := base) Fbg T
  have Gdr := ok_draw (P := l.prog) (w := w) (base := base) Fdr T
  have Gns := ok_names Fns T Gdr (g adr) kdr bdr
  have Gag := ok_arg Fag T Gdr (g adr) kdr bdr
  have Gsp := ok_step Fsp T (z z_tuple) Gdr (g adr) kdr bdr Gag (g aag) kag bag
  have Gfo := ok_form (P := l.prog) (w := w) (base := base) Ffo W
  have Gdu := ok_due Fdu W T Gfo (g afo) kfo bfo
  exact ok_law Flw W T (z z_tuple) TC Gbg (g abg) kbg bbg Gdr (g adr) kdr bdr Gns (g ans) kns bns Gsp (g asp) ksp bsp Gdu (g adu) kdu bdu Gal ML bal Fci M Gci
theorem walk {l : PySem.W.OpenLaw} {q : Program} {loose : List Str} {XP : (Str → Option Value) → Heap → Prop} {YP : World → Heap → Prop} {d : DefRec} {K : Params → PySem.W.Frag} (hn : l.most = some 63) (hdf : d.params.defaults = [])
    (hY : ∀ (w : World) (h : Heap), YP w h → (K w.params).In h)
    (F : ∀ (w : World) (mg : Str → Option Value) (fa : Addr) (h : Heap), (K w.params).In h → h.Ns mainGlobals mg → mg d.name = some (.ref fa) →
      ∃ fd : FuncData, (∀ (s : Shared) (u : Value), BindsTo s fd ⟨[u], []⟩ [("_law_script", u)]) ∧ ∀ base : Heap, (K w.params).In base → base.Ns mainGlobals mg → FnOk l.prog w (K w.params) mg base CX0 6 fa fd ["_law_script"] (spLaw (K w.params))) :
    PySem.W.WalkO q loose XP YP l.row.toRowW d [] (fun f vs => PySem.call f vs) :=
  L2.walk_of (n := 63) (k := 6) (x := "_law_script") (CX := fun _ => CX0) (sp := fun w => spLaw (K w.params)) hn (by decide) hdf ⟨rfl, by decide, by decide⟩ hY F (fun _ _ a ns hl _ hS => ⟨a, ns, rfl, hS, hl, fun _ => rfl⟩) fun _ _ _ _ _ z => z
end Dr
open PySem PySem.W PyProof.Rows in
set_option maxRecDepth 100000 in
set_option maxHeartbeats 0 in
theorem PySem.Challenge.cw_oncedefaults_k39_callers_allow_holds : PySem.Challenge.rw_oncedefaults_k39_callers_allow.Holds := by
  w_on; o_law; k_head; (case hw => w_witness2)
  k_fill
  refine Dr.walk (l := PySem.Challenge.rw_oncedefaults_k39_callers_allow) rfl rfl (fun w h Y => PySem.W.kIn_of Y) ?F
  case F =>
    intro w mg fa h KX G hmg
    refine' Dr.all_mk KX G hmg ?anm ?lnm ?cnm ?knm ?aii ?lii ?cii ?kii ?anb ?lnb ?cnb ?knb ?acl ?lcl ?ccl ?kcl ?ach ?lch ?cch ?kch ?aao ?lao ?cao ?kao ?aap ?lap ?cap ?kap ?aip ?lip ?cip ?kip ?abg ?lbg ?cbg ?kbg ?adr ?ldr ?cdr ?kdr ?ans ?lns ?cns ?kns ?aag ?lag ?cag ?kag ?asp ?lsp ?csp ?ksp ?afo ?lfo ?cfo ?kfo ?adu ?ldu ?cdu ?kdu ?alw ?llw ?clw ?klw ?aCC ?Cpg ?Chd ?Cpo ?Csa ?Cmk ?Ckc ?Cn0 ?Cn1 ?Cn2 ?Cha ?hn ?htk ?Chm ?CisC ?CtyC ?aci ?ici ?lci ?cci ?kci ?tTD ?dK1 ?dK2 ?aal ?ial ?lal ?cal ?kal ?aCE ?xLE ?saE ?nfE ?aiE ?tiE ?liE ?ciE ?kiE ?kCE ?eCE ?tCE ?gB ?gL ?taB ?vaB ?z_len ?z_isinstance ?z_str ?z_tuple ?z_all ?z_bool ?z_set ?z_int ?z_list ?z_range ?z_any
    (case anm => k_is)
    (case lnm => k_is)
    (case cnm => k_is)
    (case knm => k_is)
    (case aii => k_is)
    (case lii => k_is)
    (case cii => k_is)
    (case kii => k_is)
    (case anb => k_is)
    (case lnb => k_is)
    (case cnb => k_is)
    (case knb => k_is)
    (case acl => k_is)
    (case lcl => k_is)
    (case ccl => k_is)
    (case kcl => k_is)
    (case ach => k_is)
    (case lch => k_is)
    (case cch => k_is)
    (case kch => k_is)
    (case aao => k_is)
    (case lao => k_is)
    (case cao => k_is)
    (case kao => k_is)
    (case aap => k_is)
    (case lap => k_is)
    (case cap => k_is)
    (case kap => k_is)
    (case aip => k_is)
    (case lip => k_is)
    (case cip => k_is)
    (case kip => k_is)
    (case abg => k_is)
    (case lbg => k_is)
    (case cbg => k_is)
    (case kbg => k_is)
    (case adr => k_is)
    (case ldr => k_is)
    (case cdr => k_is)
    (case kdr => k_is)
    (case ans => k_is)
    (case lns => k_is)
    (case cns => k_is)
    (case kns => k_is)
    (case aag => k_is)
    (case lag => k_is)
    (case cag => k_is)
    (case kag => k_is)
    (case asp => k_is)
    (case lsp => k_is)
    (case csp => k_is)
    (case ksp => k_is)
    (case afo => k_is)
    (case lfo => k_is)
    (case cfo => k_is)
    (case kfo => k_is)
    (case adu => k_is)
    (case ldu => k_is)
    (case cdu => k_is)
    (case kdu => k_is)
    (case alw => k_is)
    (case llw => k_is)
    (case clw => k_is)
    (case klw => k_is)
    (case aCC => k_is)
    (case Cpg => k_is)
    (case Chd => k_is)
    (case Cpo => k_is)
    (case Csa => k_is)
    (case Cmk => k_is)
    (case Ckc => k_is)
    (case Cn0 => k_is)
    (case Cn1 => k_is)
    (case Cn2 => k_is)
    (case Cha => k_is)
    (case hn => k_is)
    (case htk => k_is)
    (case Chm => k_is)
    (case CisC => k_is)
    (case CtyC => k_is)
    (case aci => k_is)
    (case ici => k_is)
    (case lci => k_is)
    (case cci => k_is)
    (case kci => k_is)
    (case dK1 => k_is)
    (case dK2 => k_is)
    (case aal => k_is)
    (case ial => k_is)
    (case lal => k_is)
    (case cal => k_is)
    (case kal => k_is)
    (case aCE => k_is)
    (case xLE => k_is)
    (case saE => k_is)
    (case nfE => k_is)
    (case aiE => k_is)
    (case tiE => k_is)
    (case liE => k_is)
    (case ciE => k_is)
    (case kiE => k_is)
    (case kCE => k_is)
    (case eCE => k_is)
    (case tCE => k_is)
    (case gB => k_is)
    (case gL => k_is)
    (case z_len => k_is)
    (case z_isinstance => k_is)
    (case z_str => k_is)
    (case z_tuple => k_is)
    (case z_all => k_is)
    (case z_bool => k_is)
    (case z_set => k_is)
    (case z_int => k_is)
    (case z_list => k_is)
    (case z_range => k_is)
    (case z_any => k_is)
    (case tTD => k_is)
    (case taB => k_is)
    (case vaB => decide +kernel)
