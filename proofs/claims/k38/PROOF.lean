import PyProof.Rows.All
import Wide.All
import OpenK.AllK
import Wide.FinOn
import HandS.ForMost
import HandS.Defaults
import HandS.MakeKwOnly
import HandS.TupAny
import HandS.IsInst
import HandS.Zip
import HandS.Flow
import HandS.Walk
import HandS.Codes
import HandS.Text
import HandS.TupLe
import HandS.ForExc
import HandS.ExcInit
import PyProof.P3In
import HandS.Set
import HandS.SetFor
import HandS.Strs
import HandS.TupSets
import HandS.SlotsOwn
import HandS.More
import HandS.TryMany
import HandS.ExcField
import HandS.CallSlots
import HandS.ExcIs
import KE.KExcIs
import HandS.WordsExc
import HandS.ExcOwn
import HandS.RaiseMore
import KE.DataEq
import PySem.Challenge.RW_oncedefaults_k38_callers_made
set_option Elab.async false
set_option maxRecDepth 100000
set_option maxHeartbeats 4000000
set_option linter.all false
namespace Dr
open PySem PySem.Spec PyProof.Rows L2
def topS (i : Nat) : Stmt := PySem.Challenge.pw_oncedefaults_k38_callers_made.main.body.getD i (.Pass ⟨0, 0, 0, 0⟩)
abbrev sBag : Stmt := topS 14
abbrev sDraw : Stmt := topS 15
theorem scBag : FnScope ["_law_script"] ["_law_script"] (defScope sBag) := ⟨rfl, rfl, rfl, by decide +kernel, rfl, by decide +kernel, by decide +kernel⟩
theorem scDraw : FnScope ["_law_bag_here", "_law_many", "_law_cell", "_law_digit"] ["_law_bag_here", "_law_many"] (defScope sDraw) := ⟨rfl, rfl, rfl, by decide +kernel, rfl, by decide +kernel, by decide +kernel⟩
/-- the built-in names that the draws use are the built-in ones -/
structure Blt (mg : Str → Option Value) : Prop where
  len : mg "len" = none
  int : mg "int" = none
  lst : mg "list" = none
  ran : mg "range" = none
theorem same_upd {H : Hp} {p : Addr} {o : HO} (h : H p = none) : Same H (upd H p o) := fun b x e => by
  rw [upd_ne (ne_of_none e h)]
  exact e
/-- a bag stands at p -/
def Bag (H : Hp) (p : Addr) : Prop := ∃ (u v c : Int) (ns : List Int), H p = some (.lst (.int u :: .int v :: .int c :: ns.map V.int)) ∧ 0 ≤ u ∧ ns.length ≤ 1000
/-- all but the bag is as it was, the bag is a bag -/
def Kp (p : Addr) (H H' : Hp) : Prop := (∀ b o, b ≠ p → H b = some o → H' b = some o) ∧ Bag H' p
theorem Kp.refl {p : Addr} {H : Hp} (h : Bag H p) : Kp p H H := ⟨fun _ _ _ e => e, h⟩
theorem Kp.trans {p : Addr} {H H1 H2 : Hp} (a : Kp p H H1) (b : Kp p H1 H2) : Kp p H H2 := ⟨fun c o n e => b.1 c o n (a.1 c o n e), b.2⟩
theorem Bag.same {p : Addr} {H H' : Hp} (b : Bag H p) (s : Same H H') : Bag H' p := by
  obtain ⟨u, v, c, ns, e, q⟩ := b
  exact ⟨u, v, c, ns, s _ _ e, q⟩
theorem Kp.same {p : Addr} {H H1 H2 : Hp} (a : Kp p H H1) (s : Same H1 H2) : Kp p H H2 := ⟨fun c o n e => s c o (a.1 c o n e), a.2.same s⟩
theorem Kp.of {p : Addr} {H H' : Hp} (b : Bag H p) (s : Same H H') : Kp p H H' := (Kp.refl b).same s
theorem Bag.ne {p a : Addr} {H : Hp} (b : Bag H p) (h : H a = none) : a ≠ p := fun e => by
  obtain ⟨u, v, c, ns, hp, _⟩ := b
  rw [e, hp] at h
  cases h
theorem Kp.none {p a : Addr} {H H' : Hp} (k : Kp p H H') (n : a ≠ p) (h : H' a = none) : H a = none := by
  cases e : H a with
  | none => rfl
  | some o =>
    rw [k.1 _ _ n e] at h
    cases h
section
variable {X : Cx}
/-- x[i] of a list, as += reads it -/
theorem get_lst : PGet X (rIxL X.K) := by
  intro pins s σ H x y v u Q I rx ry h
  obtain ⟨p, xs, i, z, rfl, rfl, hq, he, q⟩ := h
  cases rx
  obtain ⟨t, rfl⟩ := ry
  obtain ⟨its, r, pl, hz⟩ := I.list hq
  obtain ⟨j, h1, h2, h3, h4, h5⟩ := atI_get he
  obtain ⟨w, ew, rw'⟩ := r.get h2
  have hl := r.length
  have hn := line63
  have fin : EP X pins σ Q w s := ⟨z, H, I, rw', q⟩
  by_cases h0 : 0 ≤ i
  · have hj : i.toNat = j := by
      rw [seqIndex_of h0 h5] at h1
      exact Option.some.inj h1
    exact wpAny_getItem_list pl.isList h0 (by omega) (by rw [hj]; simpa using ew) fin
  · have hj : (i + (its.toArray.size : Int)).toNat = j := by
      rw [seqIndex_neg (by omega) h4] at h1
      rw [List.size_toArray, ← hl]
      exact Option.some.inj h1
    exact wpAny_getItem_list_neg pl.isList (by omega) (by rw [List.size_toArray] <;> omega) (by omega) (by rw [hj]; simpa using ew) fin
end
section
variable {P : Program} {w : World} {K : PySem.W.Frag} {mg : Str → Option Value} {base : Heap}
def spBag (K : PySem.W.Frag) : Sp := fun vs H Q _ => ∃ (a : Addr) (ns : List Int), vs = [.ref a] ∧ SqL K H a (ns.map V.int) ∧ ns.length ≤ 63 ∧ ∀ H' p, Same H H' → H p = none → Bag H' p → Q (.ref p) H'
theorem ok_bag {f : Addr} {fd : FuncData} (F : Fun K "_law_bag" "_law_bag" sBag f fd) (T : Blt mg) : FnOk P w K mg base CX0 1 f fd ["_law_script"] (spBag K) := by
  refine F.ok scBag (fun vs H Q E h => ?_) (fun cdv A outer s H vs Q E hr h => ?_)
  · obtain ⟨a, ns, rfl, _⟩ := h
    rfl
  · obtain ⟨a, ns, rfl, hS, hlen, q⟩ := h
    refine ⟨_, pss_one (ps_ret (pe_op op_cat (pe_lst (pa_cons pe_int (pa_cons pe_int (pa_cons pe_int pa_nil)))) (pe_callTy call_list_of (by rfl) T.lst (by decide +kernel) (pa_cons (pv 0) pa_nil)))), ?_⟩
    refine ⟨by show 3 ≤ sizeLine; decide, fun l nl => ?_⟩
    have s1 := same_upd (o := .lst [V.int 0, .int 7, .int 0]) nl
    refine ⟨_, rfl, a, _, rfl, .inl (s1.seq hS), fun m nm => ?_⟩
    have s2 := same_upd (o := .lst (ns.map V.int)) nm
    refine ⟨l, m, _, _, rfl, rfl, s2 _ _ upd_same, upd_same, ?_, fun p np => ?_⟩
    · rw [List.length_map, sizeLine_eq]
      show 3 + ns.length ≤ _
      omega
    · have n0 := s1.free (s2.free np)
      exact q _ p ((s1.trans s2).trans (same_upd np)) n0 ⟨0, 7, 0, ns, upd_same, by omega, by omega⟩
def spDraw : Sp := fun vs H Q _ => ∃ (p : Addr) (m : Int), vs = [.ref p, .int m] ∧ Bag H p ∧ 1 ≤ m ∧ m < 1073741824 ∧ ∀ H' r, Kp p H H' → 0 ≤ r → r < m → Q (.int r) H'
theorem ixN_lt {n j : Nat} (h : j < n) : ixN n (j : Int) = some j := by
  unfold ixN
  rw [if_pos (by omega), if_pos (by omega)]
  simp
theorem kp_upd {p : Addr} {H : Hp} {u v c : Int} {ns : List Int} (h0 : 0 ≤ u) (h1 : ns.length ≤ 1000) : Kp p H (upd H p (.lst (.int u :: .int v :: .int c :: ns.map V.int))) := ⟨fun b o n e => by
  rw [upd_ne n]
  exact e, u, v, c, ns, upd_same, h0, h1⟩
theorem ok_draw {f : Addr} {fd : FuncData} (F : Fun K "_law_draw" "_law_draw" sDraw f fd) (T : Blt mg) : FnOk P w K mg base CX0 1 f fd ["_law_bag_here", "_law_many"] spDraw := by
  refine F.ok scDraw (fun vs H Q E h => ?_) (fun cdv A outer s H vs Q E hr h => ?_)
  · obtain ⟨p, m, rfl, _⟩ := h
    rfl
  · obtain ⟨p, m, rfl, hB, m0, m1, q⟩ := h
    refine ⟨_, C8.pss_cut (ps_if (PW.pt (pw_and (pt_cmpR op_eq (pe_ix ix_list (pv 0) pe_int (fun _ _ => rfl)) pe_int (nomark _)) (pw_and1 (pt_cmpR op_gt (pe_callB call_len_seq (by rfl) T.len PySem.boot_len (pa_cons (pv 0) pa_nil)) pe_int (nomark _)))))
        (pss_cons (ps_set (i := 2) scDraw.nd rfl (.inl rfl) (pe_bm PySem.F.plainAttrs_list PySem.F.slot_list_pop PySem.F.type_list_pop mt_popAt (pv 0) (pa_cons pe_int pa_nil)))
        (pss_one (ps_if (pt_cmpR op_ge (pv 2) (pe_op op_pow pe_int pe_int) (nomark _))
          (pss_one (ps_asg (pv 2) (pg_sub (pv 0) pe_int set_list)))
          (pss_one (ps_asg (pe_op op_mod (pe_callTy call_int1 (by rfl) T.int (by decide +kernel) (pa_cons (pe_op op_add (pe_op op_mul (pe_ix ix_list (pv 0) pe_int (fun _ _ => rfl)) pe_int) (pv 2)) pa_nil)) pe_int) (pg_sub (pv 0) pe_int set_list)))))) pss_nil)
      (pss_cons (ps_if (pt_cmpR op_gt (pe_ix ix_list (pv 0) pe_int (fun _ _ => rfl)) pe_int (nomark _))
        (pss_cons (ps_set (i := 3) scDraw.nd rfl (.inl rfl) (pe_op op_modN (pe_callTy call_int1 (by rfl) T.int (by decide +kernel) (pa_cons (pe_ix ix_list (pv 0) pe_int (fun _ _ => rfl)) pa_nil)) (pv 1)))
        (pss_cons (ps_asg (pe_op op_fdivN (pe_ix ix_list (pv 0) pe_int (fun _ _ => rfl)) (pv 1)) (pg_sub (pv 0) pe_int set_list))
        (pss_one (ps_ret (pv 3))))) pss_nil)
      (pss_cons (ps_augS (pv 0) pe_int get_lst pe_int ip_add set_list)
      (pss_cons (ps_asg (pe_op op_mod (pe_callTy call_int1 (by rfl) T.int (by decide +kernel) (pa_cons (pe_op op_add (pe_op op_mul (pe_ix ix_list (pv 0) pe_int (fun _ _ => rfl)) pe_int) (pe_op op_mul (pe_ix ix_list (pv 0) pe_int (fun _ _ => rfl)) pe_int)) pa_nil)) pe_int) (pg_sub (pv 0) pe_int set_list))
      (pss_one (ps_ret (pe_op op_modN (pe_callTy call_int1 (by rfl) T.int (by decide +kernel) (pa_cons (pe_op op_fdiv (pe_ix ix_list (pv 0) pe_int (fun _ _ => rfl)) pe_int) pa_nil)) (pv 1))))))), ?_⟩
    refine ⟨fun σ' H' => Kp p H H' ∧ ∃ x, σ' = [some (.ref p), some (.int m), x, none], ?_, fun σ' H' hM => ?_⟩
    · obtain ⟨u, v, c, ns, hp, u0, hn⟩ := hB
      have kr := Kp.refl ⟨u, v, c, ns, hp, u0, hn⟩
      refine ⟨_, rfl, p, _, 0, _, rfl, rfl, SqL.of hp, atI_nat (j := 0) rfl, rfl, _, rfl, ite2 (fun _ => ?_) (fun _ => ⟨kr, _, rfl⟩)⟩
      refine ⟨_, rfl, p, _, rfl, .inl (SqL.of hp), _, _, rfl, rfl, _, rfl, ite2 (fun k => ?_) (fun _ => ⟨kr, _, rfl⟩)⟩
      have k := of_decide_eq_true k
      rw [List.length_cons, List.length_cons, List.length_cons, List.length_map] at k
      cases ns with
      | nil => exact absurd k (by decide)
      | cons e r =>
        have hr1 : r.length ≤ 1000 := by
          rw [List.length_cons] at hn
          omega
        refine ⟨_, rfl, .inl ⟨rfl, _, SqL.of hp⟩, p, _, 3, 3, .int e, rfl, rfl, hp, by decide, by decide, ?_, rfl, ?_⟩
        · unfold seqIndex?
          simp
          omega
        have k1 : Kp p H (upd H p (.lst (.int u :: .int v :: .int c :: r.map V.int))) := kp_upd u0 hr1
        have h1 : (upd H p (.lst (.int u :: .int v :: .int c :: r.map V.int))) p = some (.lst (.int u :: .int v :: .int c :: r.map V.int)) := upd_same
        refine ⟨_, rfl, _, _, rfl, rfl, ⟨by decide, by decide, by decide⟩, _, _, rfl, rfl, _, rfl, ite2 (fun k2 => ?_) (fun _ => ?_)⟩
        · have k2 := of_decide_eq_true k2
          refine ⟨_, rfl, .ref p, rfl, p, _, 0, 0, rfl, rfl, h1, ixN_lt (by simp), ?_⟩
          refine ⟨k1.trans (kp_upd (u := e) (v := v) (c := c) (Int.le_trans (show (0 : Int) ≤ 10 ^ (18 : Int).toNat by decide) k2) hr1), _, rfl⟩
        · refine ⟨.ref p, rfl, p, _, 1, _, rfl, rfl, SqL.of h1, atI_nat (j := 1) rfl, v, _, rfl, rfl, .inr ⟨by decide, by decide⟩, _, rfl, _, _, rfl, rfl, .inl ⟨_, rfl, _, _, rfl, rfl, (by show (0 : Int) < 2147483647; decide), ?_⟩⟩
          refine ⟨.ref p, rfl, p, _, 1, 1, rfl, rfl, h1, ixN_lt (by simp), ?_⟩
          exact ⟨k1.trans (kp_upd (u := u) (c := c) u0 hr1), _, rfl⟩
    obtain ⟨k1, x, rfl⟩ := hM
    obtain ⟨u, v, c, ns, hp, u0, hn⟩ := k1.2
    have g0 : atI (V.int u :: V.int v :: V.int c :: ns.map V.int) 0 = some (.int u) := atI_nat (j := 0) rfl
    refine ⟨.ref p, rfl, p, _, 0, _, rfl, rfl, SqL.of hp, g0, _, _, rfl, rfl, _, rfl, ite2 (fun hpos => ?_) (fun _ => ?_)⟩
    · have hu : 0 < u := of_decide_eq_true hpos
      have e1 : u.fdiv m = u / m := Int.fdiv_eq_ediv_of_nonneg _ (by omega)
      have e2 : u.fmod m = u % m := Int.fmod_eq_emod_of_nonneg _ (by omega)
      refine ⟨.ref p, rfl, p, _, 0, _, rfl, rfl, SqL.of hp, g0, .inl ⟨u, rfl, _, rfl, u, m, rfl, rfl, by omega, ?_⟩⟩
      refine ⟨.ref p, rfl, p, _, 0, _, rfl, rfl, SqL.of hp, g0, _, rfl, u, m, rfl, rfl, ⟨by omega, by omega⟩, ?_⟩
      refine ⟨.ref p, rfl, p, _, 0, 0, rfl, rfl, hp, ixN_lt (by simp), ?_⟩
      exact ⟨_, rfl, q _ _ (k1.trans (kp_upd (by rw [e1]; exact Int.ediv_nonneg (by omega) (by omega)) hn)) (by rw [e2]; exact Int.emod_nonneg _ (by omega)) (by rw [e2]; exact Int.emod_lt_of_pos _ (by omega))⟩
    · refine ⟨.ref p, rfl, p, _, 2, _, rfl, rfl, SqL.of hp, atI_nat (j := 2) rfl, _, _, rfl, rfl, p, _, 2, 2, rfl, rfl, hp, ixN_lt (by simp), ?_⟩
      have k2 : Kp p H' (upd H' p (.lst (.int u :: .int v :: .int (c + 1) :: ns.map V.int))) := kp_upd u0 hn
      have h2 : (upd H' p (.lst (.int u :: .int v :: .int (c + 1) :: ns.map V.int))) p = some (.lst (.int u :: .int v :: .int (c + 1) :: ns.map V.int)) := upd_same
      refine ⟨.ref p, rfl, p, _, 1, _, rfl, rfl, SqL.of h2, atI_nat (j := 1) rfl, v, _, rfl, rfl, .inr ⟨by decide, by decide⟩, .ref p, rfl, p, _, 2, _, rfl, rfl, SqL.of h2, atI_nat (j := 2) rfl, c + 1, _, rfl, rfl, .inr ⟨by decide, by decide⟩, _, _, rfl, rfl, .inl ⟨_, rfl, _, _, rfl, rfl, (by show (0 : Int) < 2147483629; decide), ?_⟩⟩
      refine ⟨.ref p, rfl, p, _, 1, 1, rfl, rfl, h2, ixN_lt (by simp), ?_⟩
      have k3 := kp_upd (p := p) (H := upd H' p (.lst (.int u :: .int v :: .int (c + 1) :: ns.map V.int))) (u := u) (v := (v * 48271 + (c + 1) * 9973) % 2147483629) (c := c + 1) (ns := ns) u0 hn
      have h3 : (upd (upd H' p (.lst (.int u :: .int v :: .int (c + 1) :: ns.map V.int))) p (.lst (.int u :: .int ((v * 48271 + (c + 1) * 9973) % 2147483629) :: .int (c + 1) :: ns.map V.int))) p = some (.lst (.int u :: .int ((v * 48271 + (c + 1) * 9973) % 2147483629) :: .int (c + 1) :: ns.map V.int)) := upd_same
      refine ⟨.ref p, rfl, p, _, 1, _, rfl, rfl, SqL.of h3, atI_nat (j := 1) rfl, _, _, rfl, rfl, ⟨by decide, by decide⟩, .inl ⟨_, rfl, .int m, rfl, _, m, rfl, rfl, by omega, ?_⟩⟩
      have e2 : ∀ y : Int, y.fmod m = y % m := fun y => Int.fmod_eq_emod_of_nonneg _ (by omega)
      exact q _ _ ((k1.trans k2).trans k3) (by rw [e2]; exact Int.emod_nonneg _ (by omega)) (by rw [e2]; exact Int.emod_lt_of_pos _ (by omega))
end
end Dr
namespace Dr
open PySem PySem.Spec PyProof.Rows L2
abbrev sIsName : Stmt := topS 8
theorem scIsName : FnScope ["thing", "letter"] ["thing"] (defScope sIsName) := ⟨rfl, rfl, rfl, by decide +kernel, rfl, by decide +kernel, by decide +kernel⟩
def barred : List Str := ["marks", "kind", "value", "def", "return", "none", "copy", "if", "unless", "in", "is", "mark", "box", "once", "anew", "early", "late", "cls", "self", "method"]
def lowC (c : Nat) : Bool := decide (97 ≤ c) && decide (c ≤ 122)
def nameOk (z : Str) : Bool := (decide (1 ≤ z.length) && decide (z.length ≤ 8)) && (!(barred.contains z) && z.cps.toList.all lowC)
def isNameD : PyData → Bool
  | .str z => nameOk z
  | _ => false
theorem Same.seqT {K : PySem.W.Frag} {H H' : Hp} {a : Addr} {xs : List V} (e : Same H H') (h : SqT K H a xs) : SqT K H' a xs := by
  rcases h with (h | ⟨o, h⟩) | h
  · exact .inl (.inl (e _ _ h))
  · exact .inl (.inr ⟨o, e _ _ h⟩)
  · exact .inr h
mutual
theorem dp_same {K : PySem.W.Frag} {H H' : Hp} (e : Same H H') : ∀ {v : V} {d : PyData}, Dp K H v d → Dp K H' v d
  | _, _, .non => .non
  | _, _, .bl b => .bl b
  | _, _, .int i => .int i
  | _, _, .str x => .str x
  | _, _, .lst h hs => .lst (e.seq h) (dpAll_same e hs)
  | _, _, .tup h hs => .tup (Same.seqT e h) (dpAll_same e hs)
theorem dpAll_same {K : PySem.W.Frag} {H H' : Hp} (e : Same H H') : ∀ {vs : List V} {ds : List PyData}, DpAll K H vs ds → DpAll K H' vs ds
  | _, _, .nil => .nil
  | _, _, .cons h hs => .cons (dp_same e h) (dpAll_same e hs)
end
theorem dpAll_len {K : PySem.W.Frag} {H : Hp} : ∀ {vs : List V} {ds : List PyData}, DpAll K H vs ds → vs.length = ds.length
  | _, _, .nil => rfl
  | _, _, .cons _ hs => by rw [List.length_cons, List.length_cons, dpAll_len hs]
theorem dpAll_get {K : PySem.W.Frag} {H : Hp} : ∀ {vs : List V} {ds : List PyData} {i : Nat} {v : V}, DpAll K H vs ds → vs[i]? = some v → ∃ d, ds[i]? = some d ∧ Dp K H v d
  | _, _, i, v, .nil, h => by simp at h
  | _, _, 0, v, .cons h hs, e => ⟨_, rfl, by
    have q := Option.some.inj e
    subst q
    exact h⟩
  | _, _, i + 1, v, .cons h hs, e => dpAll_get (i := i) hs e
theorem dpAll_strs {K : PySem.W.Frag} {H : Hp} : ∀ (zs : List Str), DpAll K H (zs.map V.str) (zs.map PyData.str)
  | [] => .nil
  | z :: r => .cons (.str z) (dpAll_strs r)
/-- the type of a datum -/
def tyD : PyData → String
  | .none => "NoneType"
  | .bool _ => "bool"
  | .int _ => "int"
  | .str _ => "str"
  | .list _ => "list"
  | .tuple _ => "tuple"
  | .dict _ => "dict"
theorem tyx_lst {K : PySem.W.Frag} {H : Hp} {a : Addr} {xs : List V} (h : SqL K H a xs) : TyX K H (.ref a) (.type "list") := by
  rcases h with (h | ⟨o, h⟩) | ⟨o, its, n, h, c, _⟩
  · exact .base (.lst h)
  · exact .base (.frz h)
  · exact .kList h c
theorem tyx_tup {K : PySem.W.Frag} {H : Hp} {a : Addr} {xs : List V} (h : SqT K H a xs) : TyX K H (.ref a) (.type "tuple") := by
  rcases h with (h | ⟨o, h⟩) | ⟨o, its, n, h, c, _⟩
  · exact .base (.tup h)
  · exact .fTuple h
  · exact .kTuple h c
theorem dp_ty {K : PySem.W.Frag} {H : Hp} {v : V} {d : PyData} (h : Dp K H v d) : TyX K H v (.type (tyD d)) := by
  cases h with
  | non => exact .base .non
  | bl b => exact .base (.bl b)
  | int i => exact .base (.int i)
  | str x => exact .base (.str x)
  | lst h _ => exact tyx_lst h
  | tup h _ => exact tyx_tup h
def isStrD : PyData → Bool
  | .str _ => true
  | _ => false
def isTupD : PyData → Bool
  | .tuple _ => true
  | _ => false
def isBoolD : PyData → Bool
  | .bool _ => true
  | _ => false
theorem kit_str {K : PySem.W.Frag} : ∀ d : PyData, PySem.W.kitOne K (.type (tyD d)) (.type "str") = some (isStrD d)
  | .none => kit_ty (show kitB "NoneType" "str" = some false by decide +kernel)
  | .bool _ => kit_ty (show kitB "bool" "str" = some false by decide +kernel)
  | .int _ => kit_ty (show kitB "int" "str" = some false by decide +kernel)
  | .str _ => kit_ty (show kitB "str" "str" = some true by decide +kernel)
  | .list _ => kit_ty (show kitB "list" "str" = some false by decide +kernel)
  | .tuple _ => kit_ty (show kitB "tuple" "str" = some false by decide +kernel)
  | .dict _ => kit_ty (show kitB "dict" "str" = some false by decide +kernel)
theorem kit_tup {K : PySem.W.Frag} : ∀ d : PyData, PySem.W.kitOne K (.type (tyD d)) (.type "tuple") = some (isTupD d)
  | .none => kit_ty (show kitB "NoneType" "tuple" = some false by decide +kernel)
  | .bool _ => kit_ty (show kitB "bool" "tuple" = some false by decide +kernel)
  | .int _ => kit_ty (show kitB "int" "tuple" = some false by decide +kernel)
  | .str _ => kit_ty (show kitB "str" "tuple" = some false by decide +kernel)
  | .list _ => kit_ty (show kitB "list" "tuple" = some false by decide +kernel)
  | .tuple _ => kit_ty (show kitB "tuple" "tuple" = some true by decide +kernel)
  | .dict _ => kit_ty (show kitB "dict" "tuple" = some false by decide +kernel)
theorem kit_bool {K : PySem.W.Frag} : ∀ d : PyData, PySem.W.kitOne K (.type (tyD d)) (.type "bool") = some (isBoolD d)
  | .none => kit_ty (show kitB "NoneType" "bool" = some false by decide +kernel)
  | .bool _ => kit_ty (show kitB "bool" "bool" = some true by decide +kernel)
  | .int _ => kit_ty (show kitB "int" "bool" = some false by decide +kernel)
  | .str _ => kit_ty (show kitB "str" "bool" = some false by decide +kernel)
  | .list _ => kit_ty (show kitB "list" "bool" = some false by decide +kernel)
  | .tuple _ => kit_ty (show kitB "tuple" "bool" = some false by decide +kernel)
  | .dict _ => kit_ty (show kitB "dict" "bool" = some false by decide +kernel)
mutual
/-- texts and sequences of a size that Python's own limits leave alone -/
def smD : PyData → Bool
  | .str z => decide (z.length ≤ 1000)
  | .list ds => decide (ds.length ≤ 1000) && smAll ds
  | .tuple ds => decide (ds.length ≤ 1000) && smAll ds
  | .dict _ => false
  | _ => true
def smAll : List PyData → Bool
  | [] => true
  | d :: r => smD d && smAll r
end
structure OkD (d : PyData) : Prop where
  sh : SeqAt.shaped d = true
  sm : smD d = true
theorem smAll_get : ∀ {ds : List PyData}, smAll ds = true → ∀ d ∈ ds, smD d = true
  | [], _, _, h => by cases h
  | x :: r, h, d, hd => by
    have h' : smD x = true ∧ smAll r = true := by simpa [smAll] using h
    rcases List.mem_cons.mp hd with e | e
    · exact e ▸ h'.1
    · exact smAll_get h'.2 d e
theorem depth_all : ∀ {ds : List PyData}, ∀ d ∈ ds, d.depth ≤ PyData.depthAll ds
  | [], d, h => by cases h
  | x :: r, d, hd => by
    show d.depth ≤ max x.depth (PyData.depthAll r)
    rcases List.mem_cons.mp hd with e | e
    · subst e
      exact Nat.le_max_left _ _
    · exact Nat.le_trans (depth_all d e) (Nat.le_max_right _ _)
theorem OkD.tup {ds : List PyData} (h : OkD (.tuple ds)) : ds.length ≤ 1000 ∧ ∀ d ∈ ds, OkD d := by
  obtain ⟨hs, hm⟩ := h
  have hm' : ds.length ≤ 1000 ∧ smAll ds = true := by simpa [smD] using hm
  refine ⟨hm'.1, fun d hd => ⟨?_, smAll_get hm'.2 d hd⟩⟩
  have h1 := SeqAt.canLay_of_shaped hs
  have h2 := SeqAt.depth_of_shaped hs
  have h3 : PyData.canLayAll0 ds = true := by simpa only [PyData.canLay0] using h1
  have h4 : PyData.depthAll ds + 1 ≤ 64 := h2
  have h5 := depth_all d hd
  show (d.canLay0 && decide (d.depth ≤ 64)) = true
  rw [Bool.and_eq_true]
  exact ⟨PyData.canLay0_of_mem ds d h3 hd, decide_eq_true (by omega)⟩
/-- what the words module reads of the top -/
structure Wds (K : PySem.W.Frag) (mg : Str → Option Value) : Prop where
  len : mg "len" = none
  isi : mg "isinstance" = none
  str : mg "str" = none
  tup : mg "tuple" = none
  all : mg "all" = none
  bool : mg "bool" = none
  set : mg "set" = none
  most : ∃ t, mg "MOST_LETTERS" = some (.int 8 t)
  bar : ∃ a : Addr, mg "BARRED" = some (.ref a) ∧ ∀ H, SqT K H a (barred.map V.str)
theorem flat_strs (l : List Str) : (l.map V.str).all flatV = true := by
  rw [List.all_eq_true]
  intro x hx
  obtain ⟨y, _, rfl⟩ := List.mem_map.mp hx
  rfl
theorem in_strs (z : Str) : ∀ l : List Str, inV (V.str z) (l.map V.str) = l.contains z
  | [] => rfl
  | y :: r => by
    show (eqV (V.str y) (V.str z) || inV (V.str z) (r.map V.str)) = _
    rw [in_strs z r, List.contains_cons]
    congr 1
    show (y == z) = (z == y)
    rw [Bool.eq_iff_iff, beq_iff_eq, beq_iff_eq]
    exact eq_comm
theorem one_lt (c d : Nat) : decide ((⟨#[c]⟩ : Str).cps.toList < (⟨#[d]⟩ : Str).cps.toList) = decide (c < d) := by
  show decide ([c] < [d]) = decide (c < d)
  by_cases h : c < d
  · rw [decide_eq_true h]
    exact decide_eq_true (List.Lex.rel h)
  · rw [decide_eq_false h]
    refine decide_eq_false fun q => ?_
    rcases List.cons_lt_cons_iff.mp q with q | ⟨_, q⟩
    · exact h q
    · exact absurd q (List.not_lt_nil _)
section
variable {P : Program} {w : World} {K : PySem.W.Frag} {mg : Str → Option Value} {base : Heap}
/-- the answer of a question about any object -/
def spAsk (K : PySem.W.Frag) (q : PyData → Bool) : Sp := fun vs H Q _ => ∃ (v : V) (d : PyData), vs = [v] ∧ Dp K H v d ∧ OkD d ∧ ∀ H', Same H H' → Q (.bl (q d)) H'
theorem ok_name {f : Addr} {fd : FuncData} (F : Fun K "is_name" "is_name" sIsName f fd) (T : Wds K mg) : FnOk P w K mg base CX0 1 f fd ["thing"] (spAsk K isNameD) := by
  refine F.ok scIsName (fun vs H Q E h => ?_) (fun cdv A outer s H vs Q E hr h => ?_)
  · obtain ⟨v, d, rfl, _⟩ := h
    rfl
  · obtain ⟨v, d, rfl, hd, hsh, q⟩ := h
    obtain ⟨tm, hm⟩ := T.most
    obtain ⟨aB, hB, hBs⟩ := T.bar
    refine ⟨_, pss_cons (ps_if (PW.pt (pw_or (pt_not (pt_val (pe_callB call_isi (by rfl) T.isi (by decide +kernel) (pa_cons (pv 0) (pa_cons (pe_bltn (v := .ty "str") (by rfl) T.str (by decide +kernel) rfl) pa_nil)))))
        (pw_or1 (pt_not (pt_chain op_le op_le pe_int (pe_callB call_len_str (by rfl) T.len PySem.boot_len (pa_cons (pv 0) pa_nil)) (pe_glob (v := .int 8) (by rfl) hm ⟨_, rfl⟩))))))
        (pss_one (ps_ret pe_bl)) pss_nil)
      (pss_one (ps_ret (pe_and (pe_cmpR op_notIn_seq (pv 0) (pe_glob (v := .ref aB) (by rfl) hB rfl) rfl)
        (pe_one (pe_callB (cr_all rfl) (by rfl) T.all (by decide +kernel) (pa_cons
          (pe_lc (own := [("letter", 1)]) (g := gName 1) (tt := tYes) rfl scIsName.nd (pi_str (pv 0)) (blkOk_by (N := ["thing", "letter"]) (sc := defScope sIsName) (by decide +kernel)) (fun _ _ _ _ _ => pg_name (i := 1) scIsName.nd rfl (Or.inl rfl)) (fun _ _ _ _ _ => pts_nil)
            (fun _ _ _ _ _ => pe_chain op_le_str op_le_str pe_str (pv 1) pe_str)) pa_nil)))))), ?_⟩
    refine ⟨v, rfl, v, .ty "str", _, _, _, rfl, .ty _, dp_ty hd, kit_str d, _, rfl, ?_⟩
    by_cases hstr : isStrD d = true
    · cases d with
      | str z =>
        cases hd
        have hz : z.length ≤ 1000 := of_decide_eq_true hsh.sm
        have hz2 : z.length ≤ sizeLine := Nat.le_of_lt (small1000 hz)
        refine iteF ?_
        refine ⟨_, rfl, _, rfl, hz2, _, _, rfl, rfl, _, rfl, ?_⟩
        have Z : z.length = z.cps.toList.length := (Array.length_toList).symm
        have no : ¬ (1 ≤ z.length ∧ z.length ≤ 8) → isNameD (.str z) = false := fun hn => by
          show nameOk z = false
          unfold nameOk
          by_cases h1 : 1 ≤ z.length
          · have h2 : ¬ z.length ≤ 8 := fun h2 => hn ⟨h1, h2⟩
            simp [h1, h2]
          · simp [h1]
        refine ite2 (fun k1 => ?_) (fun k1 => ?_)
        · have h1 : (1 : Int) ≤ (z.length : Int) := of_decide_eq_true k1
          refine ⟨_, _, rfl, rfl, _, rfl, ite2 (fun k2 => ?_) (fun k2 => ?_)⟩
          · have h2 : ¬ (z.length : Int) ≤ 8 := by simpa using k2
            rw [no (by omega)] at q
            exact q _ (Same.refl _)
          · have h2 : (z.length : Int) ≤ 8 := by simpa using k2
            have en : isNameD (.str z) = (!(barred.contains z) && z.cps.toList.all lowC) := by
              show nameOk z = _
              unfold nameOk
              rw [decide_eq_true (show 1 ≤ z.length by omega), decide_eq_true (show z.length ≤ 8 by omega)]
              rfl
            rw [en] at q
            refine ⟨_, rfl, aB, _, rfl, .inr (hBs _), rfl, flat_strs _, _, rfl, ?_⟩
            show if (!inV (V.str z) (barred.map V.str)) = true then _ else _
            rw [in_strs]
            cases hb : barred.contains z with
            | true =>
              rw [hb] at q
              refine iteF ?_
              exact q _ (Same.refl _)
            | false =>
              rw [hb] at q
              refine iteT ?_
              refine ⟨_, rfl, z, rfl, fun D hD => lc_it walk_str (fun i H1 => Same H H1 ∧ H1 D = some (.lst (((z.cps.toList.take i).map lowC).map V.bl))) ⟨same_upd hD, upd_same⟩ (fun _ _ _ _ => trivial) ?_ ?_⟩
              · rintro i x H1 H2 hi ⟨sm, hl⟩ ⟨rfl, c, hc, rfl⟩
                have hc' : z.cps.toList[i]? = some c := by rw [Array.getElem?_toList]; exact hc
                have ht : ((z.cps.toList.take i).map lowC).map V.bl ++ [V.bl (lowC c)] = ((z.cps.toList.take (i + 1)).map lowC).map V.bl := by
                  rw [List.take_add_one, hc', List.map_append, List.map_append]
                  rfl
                have nx : Same H (upd H2 D (.lst (((z.cps.toList.take (i + 1)).map lowC).map V.bl))) := fun b o e => by
                  rw [upd_ne (ne_of_none e hD)]
                  exact sm _ _ e
                have hsz : (((z.cps.toList.take i).map lowC).map V.bl).length < sizeLine := by
                  rw [List.length_map, List.length_map, List.length_take]
                  exact small1000 (by omega)
                have ea : (!decide ((⟨#[c]⟩ : Str).cps.toList < (("a" : Str)).cps.toList)) = decide (97 ≤ c) := by
                  show (!decide ((⟨#[c]⟩ : Str).cps.toList < (⟨#[97]⟩ : Str).cps.toList)) = _
                  rw [one_lt, ← decide_not]
                  exact decide_eq_decide.mpr (by omega)
                have ez : (!decide ((("z" : Str)).cps.toList < (⟨#[c]⟩ : Str).cps.toList)) = decide (c ≤ 122) := by
                  show (!decide ((⟨#[122]⟩ : Str).cps.toList < (⟨#[c]⟩ : Str).cps.toList)) = _
                  rw [one_lt, ← decide_not]
                  exact decide_eq_decide.mpr (by omega)
                refine ⟨rfl, ?_⟩
                unfold tYes
                refine iteT ?_
                refine ⟨_, rfl, _, _, rfl, rfl, _, rfl, ?_⟩
                rw [ea]
                refine ite2 (fun k => ?_) (fun k => ?_)
                · refine ⟨_, _, rfl, rfl, ?_⟩
                  rw [ez]
                  have el : lowC c = decide (c ≤ 122) := by
                    unfold lowC
                    rw [k]
                    rfl
                  refine ⟨_, hl, hsz, ?_⟩
                  rw [← el, ht]
                  exact ⟨nx, upd_same⟩
                · have el : lowC c = false := by
                    unfold lowC
                    rw [eq_false_of_ne_true k]
                    rfl
                  refine ⟨_, hl, hsz, ?_⟩
                  rw [← el, ht]
                  exact ⟨nx, upd_same⟩
              · rintro H1 ⟨sm, hl⟩
                refine ⟨D, _, rfl, .inl (.inl hl), ?_⟩
                rw [List.take_of_length_le (Nat.le_of_eq (Array.length_toList)), List.all_map]
                exact q _ sm
        · have h1 : ¬ (1 : Int) ≤ (z.length : Int) := by simpa using k1
          refine ⟨_, rfl, iteT ?_⟩
          rw [no (by omega)] at q
          exact q _ (Same.refl _)
      | _ => cases hstr
    · have e : isStrD d = false := by simpa using hstr
      rw [e]
      refine iteT ?_
      refine iteT ?_
      have en : isNameD d = false := by cases d <;> first | rfl | exact absurd rfl hstr
      rw [en] at q
      exact q _ (Same.refl _)
end
end Dr
namespace Dr
open PySem PySem.Spec PyProof.Rows L2
def setObj (w : World) : Obj := { cls := .type "set", dict := none, data := .set #[] 0 (.fresh 0 0 (!w.params.followText "set-order")) }
/-- an entry of a set of texts -/
def TxE (P : Program) (w : World) (e : Int × Value) : Prop := ∃ x t, e.2 = Value.str x t ∧ e.1 = (PySem.strKind P w).hash x
def txE (e : Int × Value) : Str := strOf e.2
/-- the set at a has the members of S; it can be walked -/
def TSet (P : Program) (w : World) (h : Heap) (a : Addr) (S : List Str) : Prop :=
  ∃ o es ep t, h.get? a = some o ∧ o.ExactSet ∧ o.data = .set es ep t ∧ (∀ e ∈ es.toList, TxE P w e) ∧ (es.toList.map txE).Nodup ∧ (∀ k, k ∈ es.toList.map txE ↔ k ∈ S) ∧ es.size ≤ S.length ∧ S.length < 64 ∧ t.fits es.size = true ∧ Ris t.place.toList ∧ (w.params.followText "set-order" = true ∨ t.led = true)
section
variable {P : Program} {w : World} {h h' : Heap} {a : Addr} {S : List Str}
theorem TSet.go (R : TSet P w h a S) (k : ∀ o, h.get? a = some o → h'.get? a = some o) : TSet P w h' a S := by
  obtain ⟨o, es, ep, t, ho, r⟩ := R
  exact ⟨o, es, ep, t, k o ho, r⟩
theorem txE_elems {l : List (Int × Value)} (g : ∀ e ∈ l, TxE P w e) : ElemsOf (PySem.strKind P w) l := fun e he => by
  obtain ⟨x, t, e1, e2⟩ := g e he
  rw [e1]
  exact ⟨⟨x, strKind_is P w x t, e2⟩, rfl⟩
theorem txE_is {e : Int × Value} (g : TxE P w e) (k : Str) : (PySem.strKind P w).is k e.2 = true ↔ txE e = k := by
  obtain ⟨x, t, e1, _⟩ := g
  unfold txE
  rw [e1]
  have q := KeyKind.is_eq_decide (strKind_is P w x t) k
  rw [q, decide_eq_true_eq]
  exact ⟨fun z => z.symm, fun z => (show x = k from z).symm⟩
theorem txE_mem {l : List (Int × Value)} (g : ∀ e ∈ l, TxE P w e) (k : Str) : k ∈ l.map txE ↔ ∃ e ∈ l, (PySem.strKind P w).is k e.2 = true := by
  rw [List.mem_map]
  exact ⟨fun ⟨e, he, q⟩ => ⟨e, he, (txE_is (g e he) k).2 q⟩, fun ⟨e, he, q⟩ => ⟨e, he, (txE_is (g e he) k).1 q⟩⟩
theorem tset_new : TSet P w (h.push (setObj w)) h.objs.size [] :=
  ⟨_, #[], 0, _, Heap.get?_push_size _ rfl, ⟨rfl, rfl, rfl⟩, rfl, fun e he => by simp at he, by simp, fun k => by simp, Nat.le_refl _, by show 0 < 64; decide, rfl, List.Pairwise.nil, by
    show _ ∨ (!w.params.followText "set-order") = true
    cases w.params.followText "set-order" <;> simp⟩
end
section
variable {P : Program} {w : World} {A : Around} {E : Value → Shared → Prop} {s : Shared} {a : Addr} {S : List Str}
theorem put_tail {g : Bool → Sem Unit} (hg : ∀ (b : Bool) (s₁ : Shared) (Q' : Unit → Shared → Prop), Q' () s₁ → wpAny (model P w) A (g b) Q' E s₁) {o : Obj} {es : Array (Int × Value)} {ep : Nat} {t : SetTable}
    (ho : s.heap.get? a = some o) (hex : o.ExactSet) (hd : o.data = .set es ep t) {es1 : Array (Int × Value)} {t2 : SetTable} {S' : List Str} (g1 : ∀ e ∈ es1.toList, TxE P w e) (nd1 : (es1.toList.map txE).Nodup) (m1 : ∀ k, k ∈ es1.toList.map txE ↔ k ∈ S')
    (hb1 : es1.size ≤ S'.length) (hS : S'.length < 64) (hf2 : t2.fits es1.size = true) (hr : Ris t2.place.toList) (hl : w.params.followText "set-order" = true ∨ t2.led = true) {wasDummy : Bool} {R : Option Bool → Shared → Prop}
    (hR : ∀ h', Heap.SameBut a s.heap h' → TSet P w h' a S' → R (some true) { s with heap := h' }) :
    wpAny (model P w) A (do
        storeSet a es1 t2
        if (!wasDummy && t2.tooFull) = true then do
            g (relayAll t2 es1 (SetTable.grown es1.size)).2.2
            storeSet a (relayAll t2 es1 (SetTable.grown es1.size)).1 (relayAll t2 es1 (SetTable.grown es1.size)).2.1
            pure (some true)
          else pure (some true)) R E s := by
  have scan : ∀ {n : Nat}, n ≤ S'.length → n < scanBound := fun q => Nat.lt_of_le_of_lt q (Nat.lt_trans hS (by decide))
  refine wpAny_bind (wpAny_storeSet_of ho hd ?_ (fits_of_scanBound (scan hb1)))
  have ho1 := store_at (es' := es1) (t' := t2) ho hd
  have sb1 := Heap.SameBut.update s.heap a (Obj.putSet es1 t2)
  split
  · have pm := relayAll_perm t2 es1 (SetTable.grown es1.size)
    have f3 := relayAll_fits t2 es1 (SetTable.grown es1.size)
    have r3 := relayAll_ris t2 es1 (SetTable.grown es1.size)
    have l3 := relayAll_led t2 es1 (SetTable.grown es1.size)
    generalize relayAll t2 es1 (SetTable.grown es1.size) = Z at pm f3 r3 l3 ⊢
    obtain ⟨es2, t3, gave⟩ := Z
    dsimp only at pm f3 r3 l3 ⊢
    have hsz : es2.size = es1.size := by simpa using pm.length_eq
    have hb2 : es2.size ≤ S'.length := hsz ▸ hb1
    refine wpAny_bind (hg _ _ _ (wpAny_bind (wpAny_storeSet_of ho1 rfl ?_ (fits_of_scanBound (scan hb2)))))
    have ho2 := store_at (es' := es2) (t' := t3) ho1 rfl
    refine wpAny_pure (hR _ (sb1.trans (Heap.SameBut.update _ a _)) ⟨_, es2, _, t3, ho2, hex, rfl, fun e he => g1 e (pm.mem_iff.mp he), (pm.map txE).nodup_iff.mpr nd1, fun k => (pm.map txE).mem_iff.trans (m1 k), hb2, hS, f3, r3, ?_⟩)
    exact hl.imp_right fun z => l3 ▸ z
  · exact wpAny_pure (hR _ sb1 ⟨_, es1, _, t2, ho1, hex, rfl, g1, nd1, m1, hb1, hS, hf2, hr, hl⟩)
/-- one text is put in -/
theorem tset_put {k : Str} {tk : Tok} {Q : Bool → Shared → Prop} (R : TSet P w s.heap a S) (room : S.length + 1 < 64) (hQ : ∀ b h', Heap.SameBut a s.heap h' → TSet P w h' a (S ++ [k]) → Q b { s with heap := h' }) :
    wpAny (model P w) A (setAddHashed a (.str k tk) ((PySem.strKind P w).hash k)) Q E s := by
  obtain ⟨o, es, ep, t, ho, hex, hd, g, nd, hm, hb, h64, hf, hr, hl⟩ := R
  have hkey : (PySem.strKind P w).is k (.str k tk) = true := strKind_is P w k tk
  have hel : ElemsOf (PySem.strKind P w) es.toList := txE_elems g
  have hbs : es.size < scanBound := Nat.lt_of_le_of_lt hb (Nat.lt_trans h64 (by decide))
  have hlen : (S ++ [k]).length = S.length + 1 := by rw [List.length_append]; rfl
  unfold setAddHashed setAddHashedIn
  refine wpAny_holding (wpAny_bind (wpAny_setState_of ho hd hf ?_))
  dsimp only
  rw [byScan_of (x := .str k tk) rfl hbs hel]
  simp only [↓reduceIte]
  unfold setAddByScan
  refine wpAny_bind (wpAny_bind (wpAny_rule (wpAny_bind (wpAny_setScan_of hkey ho hd hf hel ?_))))
  cases hfi : List.findIdx? (fun e => (PySem.strKind P w).is k e.2) es.toList with
  | some j =>
    dsimp only
    obtain ⟨hj, pj, _⟩ := List.findIdx?_eq_some_iff_getElem.mp hfi
    have hkS : k ∈ S := (hm k).1 ((txE_mem (P := P) (w := w) g k).2 ⟨es.toList[j], List.getElem_mem hj, pj⟩)
    refine wpAny_pure (wpAny_pure (hQ _ s.heap (Heap.SameBut.refl a s.heap) ⟨o, es, ep, t, ho, hex, hd, g, nd, fun i => (hm i).trans ?_, by omega, by omega, hf, hr, hl⟩))
    rw [List.mem_append, List.mem_singleton]
    exact ⟨.inl, fun z => z.elim id fun e => e ▸ hkS⟩
  | none =>
    dsimp only
    have hnk : k ∉ es.toList.map txE := fun z => by
      obtain ⟨e, he, q⟩ := (txE_mem (P := P) (w := w) g k).1 z
      have c := List.findIdx?_eq_none_iff.mp hfi e he
      rw [q] at c
      cases c
    have gaveway : ∀ (b : Bool) {s₁ : Shared} {Q' : Unit → Shared → Prop}, Q' () s₁ → wpAny (model P w) A (match b with | true => rule "set.scan.the-table-gave-way" | false => pure ()) Q' E s₁ :=
      fun b s₁ Q' q => by cases b <;> first | exact wpAny_pure q | exact wpAny_rule q
    have pm := layNew_perm t es ((PySem.strKind P w).hash k) (.str k tk)
    have f1 := layNew_fits t es ((PySem.strKind P w).hash k) (.str k tk)
    have r1 := layNew_ris t es ((PySem.strKind P w).hash k) (.str k tk) hr
    have l1 := layNew_led t es ((PySem.strKind P w).hash k) (.str k tk)
    generalize layNew t es ((PySem.strKind P w).hash k) (.str k tk) = Z at pm f1 r1 l1 ⊢
    obtain ⟨es1, t1, wasDummy, gave⟩ := Z
    dsimp only at pm f1 r1 l1 ⊢
    rw [Array.toList_push] at pm
    have pc : es1.toList.Perm (((PySem.strKind P w).hash k, Value.str k tk) :: es.toList) := pm.trans (List.perm_append_singleton _ _)
    have pk : (es1.toList.map txE).Perm (k :: es.toList.map txE) := pc.map txE
    have g1 : ∀ e ∈ es1.toList, TxE P w e := fun e he => (List.mem_cons.mp (pc.mem_iff.mp he)).elim (fun z => z ▸ ⟨k, tk, rfl, rfl⟩) (g e)
    have nd1 : (es1.toList.map txE).Nodup := pk.nodup_iff.mpr (List.nodup_cons.mpr ⟨hnk, nd⟩)
    have m1 : ∀ i, i ∈ es1.toList.map txE ↔ i ∈ S ++ [k] := fun i => by
      rw [pk.mem_iff, List.mem_cons, hm i, List.mem_append, List.mem_singleton]
      exact Or.comm
    have hsz : es1.size ≤ (S ++ [k]).length := by
      have q : es1.size = es.size + 1 := by simpa using pc.length_eq
      omega
    have h64' : (S ++ [k]).length < 64 := by omega
    have hled : w.params.followText "set-order" = true ∨ t1.led = true := hl.imp_right fun z => l1 ▸ z
    refine wpAny_bind (gaveway _ ?_)
    split
    · refine wpAny_bind ?_
      rw [hashByValue_scannable 8 (x := .str k tk) rfl]
      refine wpAny_pure (put_tail (fun b s₁ Q' q => ?_) ho hex hd g1 nd1 m1 hsz h64' ?_ ?_ ?_ fun h' sb r => ?_)
      · cases b <;> first | exact wpAny_pure q | exact wpAny_rule q
      · first | (split <;> first | exact f1 | exact SetTable.fits_plain_off f1) | exact f1
      · first | (split <;> exact r1) | exact r1
      · first | (split <;> exact hled) | exact hled
      · dsimp only
        exact wpAny_pure (hQ _ h' sb r)
    · refine wpAny_bind (wpAny_pure ?_)
      simp only [↓reduceIte]
      refine put_tail (fun b s₁ Q' q => ?_) ho hex hd g1 nd1 m1 hsz h64' f1 r1 hled fun h' sb r => ?_
      · cases b <;> first | exact wpAny_pure q | exact wpAny_rule q
      · dsimp only
        exact wpAny_pure (hQ _ h' sb r)
end
end Dr
namespace Dr
open PySem PySem.Spec PyProof.Rows L2
section
variable {P : Program} {w : World} {A : Around} {E : Value → Shared → Prop} {s : Shared}
theorem fill_loop {I : Addr} {fp wr : List Addr} {G : Array GenState → Array GenState → Prop} {n : Nat} {Pv : Nat → Value → Prop} {St : Nat → Shared → Prop} {R : Result → Shared → Prop} (W : WalksS P w A.in1 I fp wr G n Pv St) (D : Addr) (hD : D ∉ fp) (xs : List Str) (hn : n = xs.length) (hf : xs.length < 63)
    (hval : ∀ i v, Pv i v → ∃ x t, xs[i]? = some x ∧ v = .str x t) :
    ∀ (k i : Nat) (s : Shared), n - i = k → i ≤ n → St i s → TSet P w s.heap D (xs.take i) → (∀ s', Moved (D :: wr) G s s' → TSet P w s'.heap D xs → R (.ok (.ret .none)) s') →
      codeAny (model P w) A (.builtin "set.update.loop" ⟨[.ref D, .ref I], []⟩) R s := by
  have hDw : D ∉ wr := fun h => hD (W.sub _ h)
  have hsub : ∀ b ∈ wr, b ∈ D :: wr := fun b hb => List.mem_cons_of_mem _ hb
  intro k
  induction k with
  | zero =>
    intro i s hk hi hst hS hR
    obtain rfl : i = n := by omega
    refine codeAny_builtin F.entry_set_update_loop ?_
    rw [Around.under_plainId F.plain_set_update_loop _]
    show wpAny _ A.in1 (pyNext (.ref I) >>= _) _ _ s
    refine wpAny_bind (W.done s _ _ hst fun s' hm => wpAny_pure (hR s' (hm.mono hsub) ?_))
    rw [hn, List.take_length] at hS
    exact hS.go fun o e => hm.heap D o hDw e
  | succ k ih =>
    intro i s hk hi hst hS hR
    have hlt : i < n := by omega
    refine codeAny_builtin F.entry_set_update_loop ?_
    rw [Around.under_plainId F.plain_set_update_loop _]
    show wpAny _ A.in1 (pyNext (.ref I) >>= _) _ _ s
    refine wpAny_bind (W.item i s _ _ hlt hst fun v s' hP hst' hm => ?_)
    obtain ⟨x, t, hx, rfl⟩ := hval i v hP
    have hS' : TSet P w s'.heap D (xs.take i) := hS.go fun o e => hm.heap D o hDw e
    show wpAny _ A.in1 (PySem.holding [Value.str x t] (setAdd D (.str x t)) >>= _) _ _ s'
    refine wpAny_bind (wpAny_holding ?_)
    unfold setAdd
    refine wpAny_holding (wpAny_bind ((PySem.strKind P w).pyHash (k := x) (strKind_is _ _ _ _) ?_))
    have htk : (xs.take i).length = i := by
      rw [List.length_take]
      omega
    refine tset_put (s := { s' with toks := s'.toks + 1 }) hS' (by omega) fun b h' sb hS2 => ?_
    rw [show xs.take i ++ [x] = xs.take (i + 1) by rw [List.take_add_one, hx]; rfl] at hS2
    have other : ∀ {c : Addr} {o : Obj}, c ≠ D → s'.heap.get? c = some o → h'.get? c = some o := fun hc e => (sb.2 _ hc).trans e
    refine wpAny_pure ⟨plainId_quiet F.plain_set_update_loop _, ih (i + 1) _ (by omega) hlt (W.frame _ s' _ _ hst' (Nat.le_succ _) fun c hc o e => other (fun z => hD (z ▸ hc)) e) hS2 fun s3 hm3 hS3 => ?_⟩
    exact hR s3 (Moved.trans W.gtrans ((hm.mono hsub).then_heap (Nat.le_succ _) fun c o hc e => other (fun z => hc (z ▸ List.mem_cons_self)) e) hm3) hS3
set_option maxHeartbeats 8000000 in
/-- set(xs) of a list of texts -/
theorem call_setS {l : Addr} {items : Array Value} {xs : List Str} {Q : Value → Shared → Prop} (hh : A.handled = none) (hl : s.heap.IsList l items) (hi : PyProof.Rows.StrsAre items.toList xs) (hf : xs.length < 63)
    (h : ∀ (h' : Heap) (tk : Nat), TSet P w h' s.heap.objs.size xs → (∀ b o, s.heap.get? b = some o → h'.get? b = some o) → Q (.ref s.heap.objs.size) { s with heap := h', toks := tk }) :
    wpAny (model P w) A (call (.type "set") [.ref l]) Q E s := by
  have hisz : items.size = xs.length := by rw [← StrsAre.len_eq hi, Array.length_toList]
  obtain ⟨c, tl, hmro⟩ := F.called_set.mro
  have hmade := F.called_set.made
  have hsub := F.called_set.sub
  refine wpAny_call (codeAny_of_tree (show wpAny _ _ (callAny (.type "set") _) _ _ _ from wpAny_pure ⟨Code.quiet_builtin _ (by decide +kernel), codeAny_builtin F.entry_type_call ?_⟩))
  rw [Around.under_plain (weight_type_call_type "set" [.ref l] []) rfl]
  have h1 := F.called_set.notType
  have h2 := F.called_set.canCreate
  have hct := F.typeCall_set_1 (.ref l)
  repeat (any_goals (first | assumption | wp_step))
  refine codeAny_mono (code_set_led1 (.ref l) (E := E) (Q₁ := fun obj s₁ => obj = .ref s.heap.objs.size ∧ s₁ = { s with heap := s.heap.push (setObj w) }) ⟨rfl, rfl⟩) fun r s₁ hr => ?_
  cases r with
  | error e => exact hr
  | ok fl =>
    cases fl with
    | next => exact hr.elim
    | brk => exact hr.elim
    | cont => exact hr.elim
    | ret obj =>
      obtain ⟨rfl, rfl⟩ := hr
      have hS : (s.heap.push (setObj w)).get? s.heap.objs.size = some (setObj w) := Heap.get?_push_size _ rfl
      have hT : Shared.TypeIs { s with heap := s.heap.push (setObj w) } (.ref s.heap.objs.size) "set" := ⟨_, hS, rfl⟩
      have hli := F.called_set.init.lookup
      have hbi := F.called_set.init.bind (.ref s.heap.objs.size)
      repeat (any_goals (first | assumption | wp_step))
      refine codeAny_mono (codeAny_call_builtin (R := wants (fun r s₂ => r = .none ∧ ∃ h' tk, s₂ = { s with heap := h', toks := tk } ∧ TSet P w h' s.heap.objs.size xs ∧ (∀ b o, s.heap.get? b = some o → h'.get? b = some o)) E) F.called_set.init.plain F.entry_set_init (check_set_init_1 hT ?_)) fun r₂ s₂ hr₂ => ?_
      · obtain ⟨⟨ocls, odict, odata, oslots⟩, hol, hcl, nl, hdl⟩ := hl
        simp only at hcl hdl
        subst hcl
        subst hdl
        have hol' : (s.heap.push (setObj w)).get? l = some { cls := .type "list", dict := odict, data := .seq items nl, slots := oslots } := Heap.get?_push_of_some _ hol
        have hsls := F.sub_list_set
        have hslf := F.sub_list_frozenset
        have hne : (Value.type "list" == Value.type "dict") = false := by decide
        have hl1 : (s.heap.push (setObj w)).IsList l items := ⟨_, hol', rfl, nl, rfl⟩
        unfold Builtin.«set.__init__» noKeywords Builtin.Frozenset.updateFrom
        generalize hPI : pyIter = PI
        wp_walk
        subst hPI
        refine wpAny_pyIter_list hl1 (wpAny_bind (wpAny_runValue ?_))
        have hlS : l < s.heap.objs.size := Heap.lt_size hol
        have hh3 : A.in1.in1.in1.handled = none := by simp [hh]
        have hz : (s.heap.push (setObj w)).objs.size = s.heap.objs.size + 1 := Heap.size_push ..
        have hneI : l ≠ (s.heap.push (setObj w)).objs.size := by
          rw [hz]
          exact Nat.ne_of_lt (Nat.lt_succ_of_lt hlS)
        have hSf : s.heap.objs.size ∉ [(s.heap.push (setObj w)).objs.size, l] := by
          rw [hz]
          simp only [List.mem_cons, List.not_mem_nil, or_false, not_or]
          exact ⟨Nat.ne_of_lt (Nat.lt_succ_self _), (Nat.ne_of_lt hlS).symm⟩
        have hval : ∀ (i : Nat) (v : Value), items[i]? = some v → ∃ x t, xs[i]? = some x ∧ v = .str x t := fun i v hv => by
          obtain ⟨y, t, e1, e2⟩ := StrsAre.item hi i v (by rw [Array.getElem?_toList]; exact hv)
          exact ⟨y, t, e2, e1⟩
        refine fill_loop ((Walks.list hh3 _ l hneI items).toS) s.heap.objs.size hSf xs hisz hf hval (items.size - 0) 0 _ (by omega) (Nat.zero_le _) ⟨⟨_, Heap.get?_push_size _ rfl, rfl, rfl⟩, (hl1.push _)⟩ ?hS0 ?hR
        case hS0 => exact (tset_new (P := P) (h := s.heap)).go fun o e => Heap.get?_push_of_some _ e
        case hR =>
          intro s' hm hS'
          obtain ⟨h', g2, d', tk', os'⟩ := s'
          obtain rfl : g2 = s.gens := hm.gens
          obtain rfl : d' = s.drawn := hm.drawn
          obtain rfl : os' = s.os := hm.os
          show wpAny _ _ _ _ _ _
          refine wpAny_pure (show wpAny _ _ (ret Value.none) _ _ _ from wpAny_pure ⟨rfl, h', tk', rfl, hS', fun b o e => ?_⟩)
          have hlt : b < s.heap.objs.size := Heap.lt_size e
          refine hm.heap b o ?_ (Heap.get?_push_of_some _ (Heap.get?_push_of_some _ e))
          rw [hz]
          simp only [List.mem_cons, List.not_mem_nil, or_false, not_or]
          exact ⟨Nat.ne_of_lt hlt, Nat.ne_of_lt (Nat.lt_succ_of_lt hlt)⟩
      · cases r₂ with
        | error e => exact hr₂
        | ok fl₂ =>
          cases fl₂ with
          | next => exact hr₂.elim
          | brk => exact hr₂.elim
          | cont => exact hr₂.elim
          | ret r =>
            obtain ⟨rfl, h', tk, rfl, hS', hk'⟩ := hr₂
            repeat (any_goals (first | assumption | wp_step))
            exact h _ _ hS' hk'
/-- sorted(set) -/
theorem sorted_tset {a : Addr} {S : List Str} {Q : Value → Shared → Prop} (R : TSet P w s.heap a S) (hh : A.handled = none)
    (hQ : ∀ s' p (out : Array Value) (c : Nat) (ys : List Str), (∀ b o, s.heap.get? b = some o → s'.heap.get? b = some o) → s'.gens = s.gens → s'.os = s.os → s.heap.objs.size ≤ p → s'.heap.get? p = some (seqObj "list" out c) → PyProof.Rows.StrsAre out.toList ys → ys.Nodup → (∀ k, k ∈ ys ↔ k ∈ S) → sortedS ys = true → ys.length ≤ S.length → Q (.ref p) s') :
    wpAny (model P w) A (call (.builtin "sorted") [.ref a]) Q E s := by
  obtain ⟨o, es, ep, t, ho, hex, hd, g, nd, hm, hb, h64, hf, hr, hl⟩ := R
  refine Calls.call_function_entry kind_sorted plain_sorted entry_sorted (args_sorted1 _) ?_
  unfold Builtin.«sorted»
  refine wpAny_bind (m := checkCount "sorted" 1 1 _) (wpAny_pure (wpAny_bind (collect_set (A := A.in1) hh ⟨o, ho, hex.1, hd⟩ hf (Nat.lt_of_le_of_lt hb (Nat.lt_trans h64 (by decide))) hr hl fun s1 vs k1 hz g1 o1 pm => ?_)))
  have hvl : vs.length ≤ S.length := by
    rw [pm.length_eq, List.length_map, Array.length_toList]
    exact hb
  have hI : StrsAre vs (vs.map strOf) := strsAre_map vs fun v hv => by
    obtain ⟨e, he, rfl⟩ := List.mem_map.mp (pm.mem_iff.mp hv)
    obtain ⟨x, t, q, _⟩ := g e he
    exact ⟨x, t, q⟩
  have pk : (vs.map strOf).Perm (es.toList.map txE) := by
    have q := pm.map strOf
    rw [List.map_map] at q
    exact q
  refine wpAny_bind (wpAny_newList ?_ (by rw [sizeLine_eq]; omega))
  have hoL : (s1.heap.push (seqObj "list" vs.toArray 0)).get? s1.heap.objs.size = some (seqObj "list" vs.toArray 0) := Heap.get?_push_size _ rfl
  refine wpAny_bind (wpAny_holding (wpAny_call_entry slot_list_sort ⟨_, hoL, rfl⟩ entry_list_sort (list_sort_treeK strKind_oneLt hoL hI.keysOf (fun v₁ v₂ rest e => keyKind_strs (by rw [← e]; exact hI)) (by omega) fun st' hp hs => ⟨_, rfl, ?_⟩) (args_list_sort _)))
  obtain ⟨ys, e1, e2, e3⟩ := sorted_out_str hI hp hs
  obtain ⟨c, hc⟩ := sortedHeap_at (vs := vs) (out := (arrOf st').map (·.2)) hoL
  have pn : ys.Perm (es.toList.map txE) := e2.trans pk
  refine wpAny_pure ⟨_, rfl, hQ _ s1.heap.objs.size _ c ys (fun b u e => ?_) g1 o1 hz hc e1 (pn.nodup_iff.mpr nd) (fun k => pn.mem_iff.trans (hm k)) e3 ?_⟩
  · have q := k1 b u e
    have hlt := Heap.lt_size q
    show (sortedHeap (s1.heap.push (seqObj "list" vs.toArray 0)) s1.heap.objs.size vs _).get? b = some u
    rw [sortedHeap_old (Nat.ne_of_lt hlt) (by rw [size_push']; exact Nat.lt_succ_of_lt hlt)]
    exact Heap.get?_push_of_some _ q
  · rw [pn.length_eq, List.length_map, Array.length_toList]
    exact hb
end
/-- the set of texts at a -/
def TSetO (P : Program) (w : World) (a : Addr) (S : List Str) : HO := .ext fun h => TSet P w h a S
section
variable {X : Cx}
theorem tsetO_new {P : Program} {w : World} {H : Hp} {h : Heap} {a : Addr} {S : List Str} (R : TSet P w h a S) : ObjOk P w H h a (TSetO P w a S) := by
  have ⟨o, _, _, _, ho, _⟩ := R
  exact ⟨R, ⟨o, ho⟩, fun h1 h2 p k => TSet.go p k⟩
/-- set(xs), xs a list of texts -/
def rSetS (K : PySem.W.Frag) (P : Program) (w : World) : List V → Hp → VK → Prop := fun vs H Q => ∃ (l : Addr) (xs : List Str), vs = [V.ref l] ∧ SqL K H l (xs.map V.str) ∧ xs.length < 63 ∧ ∀ a, H a = none → Q (.ref a) (upd H a (TSetO P w a xs))
theorem cr_setS (hc : X.calm = true) : CallR X (.type "set") (rSetS X.K X.prog X.w) := by
  intro pins s σ H vs us Q I r h
  obtain ⟨l, xs, rfl, hl, hf, q⟩ := h
  rw [Vals.ref1 r]
  obtain ⟨its, rv, pl, hz⟩ := I.list hl
  refine call_setS (P := X.prog) (w := X.w) (I.ok.hd hc) pl.isList (by simpa using rv.strs) hf fun h' tk R k => ?_
  exact ⟨.ref s.heap.objs.size, upd H s.heap.objs.size (TSetO X.prog X.w s.heap.objs.size xs), I.laid (t' := tk) k (Nat.le_refl _) (tsetO_new R), rfl, q _ (I.hok.fresh (Nat.le_refl _))⟩
/-- sorted(set), a set of texts -/
def rSortTS (P : Program) (w : World) : List V → Hp → VK → Prop := fun vs H Q => ∃ (a : Addr) (S : List Str), vs = [V.ref a] ∧ H a = some (TSetO P w a S) ∧ ∀ (ys : List Str) (p : Addr), ys.Nodup → (∀ k, k ∈ ys ↔ k ∈ S) → sortedS ys = true → ys.length ≤ S.length → H p = none → Q (.ref p) (upd H p (.lst (ys.map V.str)))
theorem cr_sortTS (hc : X.calm = true) : CallR X (.builtin "sorted") (rSortTS X.prog X.w) := by
  intro pins s σ H vs us Q I r h
  obtain ⟨a, S, rfl, ha, q⟩ := h
  have R : TSet X.prog X.w s.heap a S := (I.hok a _ ha).1
  have h64 : S.length < 64 := by
    obtain ⟨_, _, _, _, _, _, _, _, _, _, _, h64, _⟩ := R
    exact h64
  rw [Vals.ref1 r]
  refine sorted_tset R (I.ok.hd hc) fun s' p out c ys k g o hp hg e1 nd hm so hlen => ?_
  have hn : H p = none := I.hok.fresh hp
  have hsz : (ys.map V.str).length ≤ sizeLine := by
    rw [List.length_map, sizeLine_eq]
    omega
  have J : Inv X pins σ (upd H p (.lst (ys.map V.str))) { s with heap := s'.heap, gens := s'.gens, drawn := s'.drawn, toks := s'.toks } :=
    I.call (ch := []) (Un.laid k hp hn) (I.hok.laid k hp ⟨hsz, out.toList, c, vals_of_strs e1, hg⟩) (by rw [g]; exact I.bare) (fun _ z => nomatch z)
  have e : s' = { s with heap := s'.heap, gens := s'.gens, drawn := s'.drawn, toks := s'.toks } := by
    cases s'
    cases s
    cases o
    rfl
  rw [e]
  exact ⟨.ref p, _, J, rfl, q ys p nd hm so hlen hn⟩
end
end Dr
namespace Dr
open PySem PySem.Spec PyProof.Rows L2
section
variable {P : Program} {w : World} {κ : Type} [DecidableEq κ] {knd : KeyKind P w κ} {A : Around} {E : Value → Shared → Prop} {s : Shared}
theorem ofAClass_byv : ∀ (n : Nat) {v : Value}, carriedByValue v = true → ofAClassStatement n v = pure false
  | n, .ref _, h => by cases h
  | 0, .none, _ | 0, .bool _, _ | 0, .int .., _ | 0, .float .., _ | 0, .str .., _ | 0, .bytes .., _ | 0, .ellipsis, _ | 0, .notImplemented, _ | 0, .type _, _ | 0, .builtin _, _ => rfl
  | _ + 1, .none, _ | _ + 1, .bool _, _ | _ + 1, .int .., _ | _ + 1, .float .., _ | _ + 1, .str .., _ | _ + 1, .bytes .., _ | _ + 1, .ellipsis, _ | _ + 1, .notImplemented, _ | _ + 1, .type _, _ | _ + 1, .builtin _, _ => rfl
theorem hashBy_byv : ∀ (n : Nat) {v : Value}, carriedByValue v = true → ∃ b, hashByValue n v = pure b
  | n, .ref _, h => by cases h
  | 0, .none, _ | 0, .bool _, _ | 0, .int .., _ | 0, .float .., _ | 0, .str .., _ | 0, .bytes .., _ | 0, .ellipsis, _ | 0, .notImplemented, _ | 0, .type _, _ | 0, .builtin _, _ => ⟨_, rfl⟩
  | _ + 1, .none, _ | _ + 1, .bool _, _ | _ + 1, .int .., _ | _ + 1, .float .., _ | _ + 1, .str .., _ | _ + 1, .bytes .., _ | _ + 1, .ellipsis, _ | _ + 1, .notImplemented, _ | _ + 1, .type _, _ | _ + 1, .builtin _, _ => ⟨_, rfl⟩
theorem ofAClass_tk {ks : List κ} {b : Addr} {Q : Bool → Shared → Prop} (hk : IsTupleKey knd s.heap ks b) (q : Q false s) : wpAny (model P w) A (ofAClassStatement 8 (.ref b)) Q E s := by
  have ty := hk.typeIs
  obtain ⟨o, its, n, ho, _, hd, hi⟩ := hk
  unfold ofAClassStatement
  refine wpAny_bind (wpAny_typeOf ty ?_)
  dsimp only
  rw [show (("tuple" : String) == "tuple") = true from by decide]
  simp only [if_true, Bool.not_true, Bool.false_eq_true, if_false]
  try refine wpAny_bind (wpAny_pure ?_)
  try simp only [Bool.not_true, Bool.false_eq_true, if_false]
  refine wpAny_bind (show wpAny _ _ (seqItems? (.ref b)) _ _ s from wpAny_seqItems ho hd ?_)
  dsimp only
  refine wpAny_bind (show wpAny _ _ (forIn its _ _) _ _ s from ?_)
  rw [← Array.forIn_toList]
  refine wpAny_forIn_list _ (fun rest r s' => r.1 = none ∧ s' = s ∧ ∀ v ∈ rest, carriedByValue v = true) _ (fun v rest r s' z => ?_) (fun r s' z => ?_) _ _ ⟨rfl, rfl, hi.byValue⟩
  · obtain ⟨hr, rfl, all⟩ := z
    rw [ofAClass_byv _ (all v List.mem_cons_self)]
    refine wpAny_bind (wpAny_pure ?_)
    simp only [Bool.false_eq_true, if_false]
    exact wpAny_pure ⟨rfl, rfl, fun u hu => all u (List.mem_cons_of_mem _ hu)⟩
  · obtain ⟨r1, r2⟩ := r
    obtain ⟨hr, rfl, _⟩ := z
    simp only at hr
    subst hr
    exact wpAny_pure q
theorem hashBy_tk {ks : List κ} {b : Addr} {Q : Bool → Shared → Prop} (hk : IsTupleKey knd s.heap ks b) (q : ∀ z, Q z s) : wpAny (model P w) A (hashByValue 8 (.ref b)) Q E s := by
  have ty := hk.typeIs
  obtain ⟨o, its, n, ho, _, hd, hi⟩ := hk
  unfold hashByValue
  refine wpAny_bind (wpAny_specialOf ty F.slot_tuple_hash.lookup ?_)
  refine wpAny_bind (show wpAny _ _ (seqItems? (.ref b)) _ _ s from wpAny_seqItems ho hd ?_)
  refine wpAny_bind (show wpAny _ _ (forIn its _ _) _ _ s from ?_)
  rw [← Array.forIn_toList]
  refine wpAny_forIn_list _ (fun rest r s' => s' = s ∧ ∀ v ∈ rest, carriedByValue v = true) _ (fun v rest r s' z => ?_) (fun r s' z => ?_) _ _ ⟨rfl, hi.byValue⟩
  · obtain ⟨rfl, all⟩ := z
    obtain ⟨b, e⟩ := hashBy_byv 7 (all v List.mem_cons_self)
    rw [e]
    refine wpAny_bind (wpAny_pure ?_)
    cases b
    · simp only [Bool.not_false, if_true]
      refine wpAny_pure ?_
      exact wpAny_pure (q _)
    · simp only [Bool.not_true, Bool.false_eq_true, if_false]
      exact wpAny_pure ⟨rfl, fun u hu => all u (List.mem_cons_of_mem _ hu)⟩
  · obtain ⟨r1, r2⟩ := r
    obtain ⟨rfl, _⟩ := z
    cases r1
    · exact wpAny_pure (q _)
    · exact wpAny_pure (q _)
/-- a search among such tuples shows nothing -/
theorem unseen_tk {ks : List κ} {b : Addr} {Q : Bool → Shared → Prop} (hk : IsTupleKey knd s.heap ks b) {ys : List Value} (hy : ∀ y ∈ ys, ∃ js c, y = Value.ref c ∧ IsTupleKey knd s.heap js c) (q : Q false s) : wpAny (model P w) A (searchCouldBeSeen (.ref b) ys) Q E s := by
  unfold searchCouldBeSeen
  refine wpAny_bind (wpAny_forIn_list _ (fun rest r s' => r.1 = none ∧ s' = s ∧ ∀ y ∈ rest, y ∈ ys) _ (fun v rest r s' z => ?_) (fun r s' z => ?_) _ _ ⟨rfl, rfl, fun _ h => h⟩)
  · obtain ⟨hr, rfl, all⟩ := z
    obtain ⟨js, c, rfl, hc⟩ := hy v (all v List.mem_cons_self)
    have go : ∀ y ∈ rest, y ∈ ys := fun y h => all y (List.mem_cons_of_mem _ h)
    dsimp only
    by_cases very : (b == c || (carriedByValue (.ref b) && carriedByValue (.ref c))) = true
    · exact wp_if_pos very (wpAny_pure ⟨rfl, rfl, go⟩)
    · refine wp_if_neg very (wpAny_bind (wpAny_eqIsQuiet_tuple hk ?_))
      simp only [Bool.not_true, Bool.false_eq_true, if_false]
      refine wpAny_bind (wpAny_eqIsQuiet_tuple hc ?_)
      simp only [Bool.not_true, Bool.false_eq_true, if_false]
      refine wpAny_bind (ofAClass_tk hk ?_)
      simp only [Bool.false_eq_true, if_false]
      refine wpAny_bind (ofAClass_tk hc ?_)
      simp only [Bool.false_eq_true, if_false]
      exact wpAny_pure ⟨rfl, rfl, go⟩
  · obtain ⟨r1, r2⟩ := r
    obtain ⟨hr, rfl, _⟩ := z
    simp only at hr
    subst hr
    exact wpAny_pure q
/-- an entry: where the tuple stands, and its keys -/
abbrev Ent (κ : Type) := Addr × List κ
def entH (knd : KeyKind P w κ) (e : Ent κ) : Int := tupleKeyHash knd e.2
def entR (knd : KeyKind P w κ) (e : Ent κ) : Int × Value := (entH knd e, Value.ref e.1)
structure USet (knd : KeyKind P w κ) (h : Heap) (a : Addr) (L : List (Ent κ)) (es : Array (Int × Value)) (ep : Nat) (t : SetTable) : Prop where
  at_ : ∃ o, h.get? a = some o ∧ o.ExactSet ∧ o.data = .set es ep t
  has : es.toList = L.map (entR knd)
  tab : TabOk t (L.map (entH knd))
  one : (L.map Prod.snd).Nodup
  tks : ∀ e ∈ L, IsTupleKey knd h e.2 e.1
  led : w.params.followText "set-order" = true ∨ t.led = true
  gap : L.length * 5 < t.mask * 3
  few : L.length ≤ 16
variable {a : Addr} {L : List (Ent κ)} {es : Array (Int × Value)} {ep : Nat} {t : SetTable}
theorem has_len (h : es.toList = L.map (entR knd)) : es.size = L.length := by
  rw [← Array.length_toList, h, List.length_map]
theorem tab_len (T : TabOk t (L.map (entH knd))) : t.place.size = L.length := by rw [T.sz, List.length_map]
theorem fits_of (T : TabOk t (L.map (entH knd))) (h : es.toList = L.map (entR knd)) (g : L.length ≤ t.mask) : t.fits es.size = true := by
  have h1 := tab_len T
  have h2 := has_len h
  have h3 : t.dummies.size = 0 := by rw [T.dm]; rfl
  show (t.place.size == es.size && decide (t.place.size + t.dummies.size ≤ t.mask)) = true
  rw [h1, h2, h3, beq_self_eq_true, Bool.true_and]
  exact decide_eq_true g
theorem USet.fits (U : USet knd s.heap a L es ep t) : t.fits es.size = true := fits_of U.tab U.has (by have := U.gap; omega)
theorem has_get (h : es.toList = L.map (entR knd)) {i : Nat} {e : Ent κ} (g : L[i]? = some e) : es[i]? = some (entR knd e) := by
  rw [← Array.getElem?_toList, h, List.getElem?_map, g]
  rfl
/-- the c-th probe for a hash -/
abbrev prb (t : SetTable) (h : Int) (c : Nat) : SetTable.Probe := nth t.mask (runAt t.mask (SetTable.bits h % (t.mask + 1)) (SetTable.bits h)) c
theorem prb_dummy (t : SetTable) (h : Int) (c : Nat) : (prb t h c).dummy = none := by
  have go : ∀ (n : Nat) (p : SetTable.Probe), p.dummy = none → (nth t.mask p n).dummy = none := fun n => by
    induction n with
    | zero => exact fun _ z => z
    | succ n ih =>
      refine fun p z => ih _ ?_
      unfold adv
      split <;> exact z
  exact go c _ rfl
/-- from the c-th probe on, with the first free slot at the K-th -/
theorem seek_tk (U : USet knd s.heap a L es ep t) {x : Addr} {ks : List κ} (hx : IsTupleKey knd s.heap ks x) (hu : A.units < cLine) {K : Nat} (hK10 : K < 10 * SetTable.turns t.mask)
    (free : way t.mask (tupleKeyHash knd ks) K ∉ t.place.toList) (busy : ∀ c, c < K → way t.mask (tupleKeyHash knd ks) c ∈ t.place.toList) {Q : SetFound → Shared → Prop}
    (qin : ks ∈ L.map Prod.snd → Q (.there none) s) (qout : ks ∉ L.map Prod.snd → Q (.free (way t.mask (tupleKeyHash knd ks) K) false) s) :
    ∀ (f c : Nat) (stand : Option SetTable.Probe), stand.getD (t.probeStart (tupleKeyHash knd ks)) = prb t (tupleKeyHash knd ks) c → c ≤ K → K < f + c →
      (∀ (i : Nat) (e : Ent κ), L[i]? = some e → e.2 = ks → ∃ d, c ≤ d ∧ d < K ∧ t.place.toList[i]? = some (way t.mask (tupleKeyHash knd ks) d)) →
      wpAny (model P w) A (setSearchFrom a (.ref x) (tupleKeyHash knd ks) true f stand) Q E s := by
  obtain ⟨o, ho, hex, hd⟩ := U.at_
  have fit := U.fits
  generalize hh : tupleKeyHash knd ks = h at free busy qout ⊢
  intro f
  induction f with
  | zero => exact fun c _ _ h1 h2 _ => absurd h2 (by omega)
  | succ f ih =>
    intro c stand hst hc hf later
    rw [setSearchFrom_succ]
    refine wpAny_bind (wpAny_setState_of ho hd fit ?_)
    dsimp only
    refine wp_if_neg (by unfold SetTable.gaveWay; rw [mask_odd U.tab.mok]; decide) ?_
    try refine wpAny_bind (wpAny_pure ?_)
    have on : ∀ q, nth t.mask (prb t h c) q = prb t h (c + q) := fun q => (nth_add t.mask c _ q).symm
    have onj : ∀ q, (nth t.mask (prb t h c) q).j = way t.mask h (c + q) := fun q => congrArg SetTable.Probe.j (on q)
    have hashes : ∀ (i : Nat) (e : Ent κ), L[i]? = some e → ((es[i]?.map (·.1)).getD 0) = entH knd e := fun i e g => by
      rw [has_get U.has g]
      rfl
    have skipped : ∀ {n : Nat}, (∀ k' i' : Nat, k' < n → t.place.toList[i']? = some (nth t.mask (prb t h c) k').j → (es[i']?.map (·.1)).getD 0 ≠ h) → ∀ (i : Nat) (e : Ent κ) (d : Nat), L[i]? = some e → e.2 = ks → c ≤ d → t.place.toList[i]? = some (way t.mask h d) → c + n ≤ d := fun {n} no i e d g ek cd at_ => by
      refine Nat.le_of_not_lt fun lt => no (d - c) i (by omega) ?_ ?_
      · rw [onj, show c + (d - c) = d by omega]
        exact at_
      · rw [hashes i e g]
        show tupleKeyHash knd e.2 = h
        rw [ek, hh]
    rcases go_spec t U.tab.ris U.tab.dm (fun i => (es[i]?.map (·.1)).getD 0) h (10 * SetTable.turns t.mask) (K - c) (prb t h c) (prb_dummy t h c) (by omega) (fun q (hq : q < K - c) => by rw [onj]; exact busy _ (by omega)) (by rw [onj, show c + (K - c) = K by omega]; exact free) with ⟨q, i, q1, q2, q3, q4, met⟩ | ⟨q4, met⟩
    · rw [onj] at q2
      have met : t.probe (fun i => (es[i]?.map (·.1)).getD 0) h (stand.getD (t.probeStart h)) = some (.candidate (way t.mask h (c + q)) i (prb t h (c + (q + 1)))) := by
        rw [hst, ← onj, ← on]
        exact met
      rw [met]
      dsimp only
      have il : i < L.length := by
        have h1 := (List.getElem?_eq_some_iff.mp q2).1
        rw [Array.length_toList, tab_len U.tab] at h1
        exact h1
      obtain ⟨e, he⟩ : ∃ e, L[i]? = some e := ⟨_, List.getElem?_eq_getElem il⟩
      have slot : t.slot (way t.mask h (c + q)) = .live i := slot_live U.tab.ris q2
      have after : wpAny (model P w) A (searchRest a (.ref x) h true f es t (way t.mask h (c + q)) i (prb t h (c + (q + 1)))) Q E s := by
        unfold searchRest
        rw [has_get U.has he]
        show wpAny (model P w) A (PySem.holding [Value.ref e.1] (eqBool (Value.ref e.1) (Value.ref x)) >>= _) Q E s
        refine wpAny_bind (wpAny_holding (wpAny_eqBool_tuple hu (U.tks e (List.mem_of_getElem? he)) hx (wpAny_bind (wpAny_setState_of ho hd fit ?_))))
        dsimp only
        by_cases same : e.2 = ks
        · exact wp_if_pos (by rw [decide_eq_true same]; rfl) (wpAny_pure (qin (List.mem_map.mpr ⟨e, List.mem_of_getElem? he, same⟩)))
        · refine wp_if_neg (by rw [decide_eq_false same]; decide) ?_
          try refine wpAny_bind (wpAny_pure ?_)
          rw [sameMem]
          dsimp only
          simp only [if_true, slot, has_get U.has he]
          refine wpAny_bind (wpAny_isSame_ref_self (wpAny_bind (wpAny_pure ?_)))
          simp only [if_true]
          refine wp_if_neg (by rw [decide_eq_false same]; decide) (ih (c + (q + 1)) _ rfl (by omega) (by omega) fun i2 e2 g ek => ?_)
          obtain ⟨d, d1, d2, d3⟩ := later i2 e2 g ek
          have d4 := skipped q4 i2 e2 d g ek d1 d3
          refine ⟨d, ?_, d2, d3⟩
          rcases Nat.lt_or_ge (c + q) d with lt | ge
          · omega
          · have ed : d = c + q := by omega
            rw [ed] at d3
            have s2 := slot_live U.tab.ris d3
            rw [slot] at s2
            injection s2 with s2
            subst s2
            rw [he] at g
            obtain rfl := Option.some.inj g
            exact absurd ek same
      by_cases led : t.led = true
      · refine wp_if_neg (by rw [led]; decide) ?_
        try refine wpAny_bind (wpAny_pure ?_)
        exact after
      · refine wp_if_pos (by rw [eq_false_of_ne_true led]; rfl) (wpAny_bind (unseen_tk (knd := knd) hx (fun y hy => ?_) ?_))
        · obtain ⟨r, hr, rfl⟩ := List.mem_map.mp hy
          have hr : r ∈ es.toList := by
            have z : r ∈ es ∧ r.1 = h := by simpa using hr
            simpa using z.1
          rw [U.has] at hr
          obtain ⟨e2, m2, rfl⟩ := List.mem_map.mp hr
          exact ⟨e2.2, e2.1, rfl, U.tks e2 m2⟩
        · refine wp_if_neg (by decide) ?_
          try refine wpAny_bind (wpAny_pure ?_)
          exact after
    · have met : t.probe (fun i => (es[i]?.map (·.1)).getD 0) h (stand.getD (t.probeStart h)) = some (.empty (way t.mask h K) none) := by
        rw [hst, show way t.mask h K = (nth t.mask (prb t h c) (K - c)).j by rw [onj, show c + (K - c) = K by omega]]
        exact met
      rw [met]
      dsimp only
      refine wpAny_pure (qout fun m => ?_)
      obtain ⟨e, me, ek⟩ := List.mem_map.mp m
      obtain ⟨i, il, ei⟩ := List.getElem_of_mem me
      have g : L[i]? = some e := by rw [List.getElem?_eq_getElem il, ei]
      obtain ⟨d, d1, d2, d3⟩ := later i e g ek
      have := skipped q4 i e d g ek d1 d3
      omega
end
end Dr
namespace Dr
open PySem PySem.Spec PyProof.Rows L2
section
variable {P : Program} {w : World} {κ : Type} [DecidableEq κ] {knd : KeyKind P w κ} {A : Around} {E : Value → Shared → Prop} {s : Shared}
variable {a : Addr} {L : List (Ent κ)} {es : Array (Int × Value)} {ep : Nat} {t : SetTable}
/-- the search that putting in asks for -/
theorem find_tk (U : USet knd s.heap a L es ep t) {x : Addr} {ks : List κ} (hx : IsTupleKey knd s.heap ks x) (hu : A.units < cLine) {Q : SetFound → Shared → Prop} (qin : ks ∈ L.map Prod.snd → Q (.there none) s)
    (qout : ∀ K, ks ∉ L.map Prod.snd → way t.mask (tupleKeyHash knd ks) K ∉ t.place.toList → (∀ c, c < K → way t.mask (tupleKeyHash knd ks) c ∈ t.place.toList) → Q (.free (way t.mask (tupleKeyHash knd ks) K) false) s) :
    wpAny (model P w) A (setSearch a (.ref x) (tupleKeyHash knd ks) true) Q E s := by
  have gap := U.gap
  obtain ⟨K, k1, k2, k3⟩ := U.tab.first (by rw [List.length_map]; omega) (tupleKeyHash knd ks)
  have big : K < 100000 := by
    have ht : SetTable.turns t.mask ≤ 142 := by
      unfold SetTable.turns
      rcases U.tab.mok with e | e | e <;> omega
    omega
  unfold setSearch
  refine seek_tk U hx hu k1 k2 k3 qin (fun no => qout K no k2 k3) 100000 0 none rfl (Nat.zero_le _) (by omega) fun i e g ek => ?_
  have at_ : (L.map (entH knd))[i]? = some (tupleKeyHash knd ks) := by
    rw [List.getElem?_map, g, ← ek]
    rfl
  have il : i < t.place.toList.length := by
    rw [Array.length_toList, tab_len U.tab]
    exact (List.getElem?_eq_some_iff.mp g).1
  obtain ⟨d, d1, d2⟩ := U.tab.before k2 at_ (List.getElem?_eq_getElem il)
  exact ⟨d, Nat.zero_le _, d1, by rw [List.getElem?_eq_getElem il, d2]⟩
theorem isTk_but {h h' : Heap} {ks : List κ} {b : Addr} {o : Obj} (z : IsTupleKey knd h ks b) (ho : h.get? a = some o) (hd : o.data = .set es ep t) (sb : Heap.SameBut a h h') : IsTupleKey knd h' ks b := by
  obtain ⟨o2, its, n, g, hc, hd2, hi⟩ := z
  refine ⟨o2, its, n, ?_, hc, hd2, hi⟩
  by_cases e : b = a
  · subst e
    rw [ho] at g
    obtain rfl := Option.some.inj g
    rw [hd] at hd2
    cases hd2
  · rw [sb.2 b e]
    exact g
theorem isTk_keep {h h' : Heap} {ks : List κ} {b : Addr} (z : IsTupleKey knd h ks b) (k : ∀ o, h.get? b = some o → h'.get? b = some o) : IsTupleKey knd h' ks b := by
  obtain ⟨o, its, n, g, r⟩ := z
  exact ⟨o, its, n, k o g, r⟩
/-- the entries in another order -/
theorem ordered (L : List (Ent κ)) (es : Array (Int × Value)) (order : Array Nat) (hs : es.toList = L.map (entR knd)) (pm : order.toList.Perm (List.range L.length)) :
    ∃ L2 : List (Ent κ), (order.filterMap (es[·]?)).toList = L2.map (entR knd) ∧ L2.Perm L ∧ L2.map (entH knd) = order.toList.map fun i => (es.map (·.1)).getD i 0 := by
  have get : ∀ i, es[i]? = L[i]?.map (entR knd) := fun i => by rw [← Array.getElem?_toList, hs, List.getElem?_map]
  have one : ∀ (l : List Nat), (∀ i ∈ l, i < L.length) → l.filterMap (fun i => es[i]?) = (l.filterMap fun i => L[i]?).map (entR knd) ∧ (l.filterMap fun i => L[i]?).map (entH knd) = l.map fun i => (es.map (·.1)).getD i 0 := fun l => by
    induction l with
    | nil => exact fun _ => ⟨rfl, rfl⟩
    | cons i l ih =>
      intro hl
      obtain ⟨h1, h2⟩ := ih fun j hj => hl j (List.mem_cons_of_mem _ hj)
      have il := hl i List.mem_cons_self
      have hi : L[i]? = some L[i] := List.getElem?_eq_getElem il
      have hi2 : es[i]? = some (entR knd L[i]) := by rw [get, hi]; rfl
      have hi3 : (es.map (·.1)).getD i 0 = entH knd L[i] := by
        rw [Array.getD_eq_getD_getElem?, Array.getElem?_map, hi2]
        rfl
      rw [List.filterMap_cons_some hi2, List.filterMap_cons_some hi, List.map_cons, List.map_cons, List.map_cons, h1, h2, hi3]
      exact ⟨rfl, rfl⟩
  obtain ⟨h1, h2⟩ := one order.toList fun i hi => List.mem_range.mp (pm.mem_iff.mp hi)
  refine ⟨_, by rw [Array.toList_filterMap]; exact h1, ?_, h2⟩
  have all : ∀ n, n ≤ L.length → (List.range n).filterMap (fun i => L[i]?) = L.take n := fun n => by
    induction n with
    | zero => exact fun _ => rfl
    | succ n ih =>
      intro hn
      have nl : n < L.length := hn
      have g : L[n]? = some L[n] := List.getElem?_eq_getElem nl
      rw [List.range_succ, List.filterMap_append, ih (Nat.le_of_succ_le hn), List.take_add_one, g, List.filterMap_cons_some g]
      rfl
  have z := pm.filterMap fun i => L[i]?
  rw [all _ (Nat.le_refl _), List.take_length] at z
  exact z
/-- the table laid anew, with 31 in the place of 7 -/
theorem relay_tk {o : Obj} (ho : s.heap.get? a = some o) (hex : o.ExactSet) (hd : o.data = .set es ep t) (has : es.toList = L.map (entR knd)) (T : TabOk t (L.map (entH knd))) (one : (L.map Prod.snd).Nodup) (tks : ∀ e ∈ L, IsTupleKey knd s.heap e.2 e.1)
    (led : w.params.followText "set-order" = true ∨ t.led = true) (five : L.length = 5) (m7 : t.mask = 7) {Q : Unit → Shared → Prop}
    (q : ∀ h' L' es' ep' t', Heap.SameBut a s.heap h' → USet knd h' a L' es' ep' t' → L'.Perm L → Q () { s with heap := h' }) : wpAny (model P w) A (setRelay a (SetTable.grown 5)) Q E s := by
  have sz := has_len has
  obtain ⟨t', order, r1, r2, r3, r4, r5, _, _⟩ := relaid_ok t (hs := es.map (·.1)) (wanted := SetTable.grown 5) (M := 31) (by rw [size_20]) (.inr (.inl rfl)) (by rw [Array.size_map, sz, five]; decide)
  rw [Array.size_map, sz] at r2
  obtain ⟨L2, e1, e2, e3⟩ := ordered L es order has r2
  rw [← e3] at r3
  have len2 : (order.filterMap (es[·]?)).size = es.size := by rw [has_len e1, e2.length_eq, sz]
  rw [setRelay_eq]
  refine wpAny_bind (wpAny_setState_of ho hd (fits_of T has (by omega)) ?_)
  dsimp only
  refine wp_if_neg (by rw [size_20, sizeLine_eq]; decide) ?_
  try refine wpAny_bind (wpAny_pure ?_)
  rw [r1]
  dsimp only
  refine wpAny_bind (wp_if_neg (by rw [len2]; simp) ?_)
  try refine wpAny_bind (wpAny_pure ?_)
  refine wpAny_pure ?_
  dsimp only
  have sb : Heap.SameBut a s.heap (s.heap.update a (Obj.putSet (order.filterMap (es[·]?)) t')) := Heap.SameBut.update ..
  refine wpAny_storeSet_of ho hd (q _ L2 _ (ep + 1) t' sb ⟨⟨_, store_at ho hd, ⟨hex.1, hex.2.1, hex.2.2⟩, rfl⟩, e1, r3, (e2.map Prod.snd).nodup_iff.mpr one, fun e me => isTk_but (tks e (e2.mem_iff.mp me)) ho hd sb, by rw [r5]; exact led, by rw [e2.length_eq, r4, five]; decide, by rw [e2.length_eq, five]; decide⟩ e2) (by rw [len2, sz, five, sizeLine_eq]; decide)
/-- one is put in -/
theorem put_tk (U : USet knd s.heap a L es ep t) {x : Addr} {ks : List κ} (hx : IsTupleKey knd s.heap ks x) (hu : A.units < cLine) (few : L.length < 16) {Q : Bool → Shared → Prop}
    (q : ∀ b h' L' es' ep' t', Heap.SameBut a s.heap h' → USet knd h' a L' es' ep' t' → (ks ∈ L.map Prod.snd → L' = L) → (ks ∉ L.map Prod.snd → L'.Perm ((x, ks) :: L)) → Q b { s with heap := h' }) : wpAny (model P w) A (setAddHashed a (.ref x) (tupleKeyHash knd ks)) Q E s := by
  obtain ⟨o, ho, hex, hd⟩ := U.at_
  have sz := has_len U.has
  have gap := U.gap
  unfold setAddHashed
  refine wpAny_holding ?_
  rw [show (100000 : Nat) = 99999 + 1 from rfl, setAddHashedIn_succ]
  refine wpAny_bind (wpAny_setState_of ho hd U.fits ?_)
  dsimp only
  refine wp_if_neg (by simp [byScan, Value.scannable]) ?_
  try refine wpAny_bind (wpAny_pure ?_)
  refine wpAny_bind (find_tk U hx hu (fun m => ?_) fun K no k1 k2 => ?_)
  · dsimp only
    exact wpAny_pure (q false s.heap L es ep t (Heap.SameBut.refl a s.heap) U (fun _ => rfl) fun z => absurd m z)
  dsimp only
  refine wpAny_bind (wpAny_setState_of ho hd U.fits ?_)
  dsimp only
  obtain ⟨p1, p2, p3, p4, p5, _, _, _, p9⟩ := U.tab.put k1 k2
  generalize ept : t.put (way t.mask (tupleKeyHash knd ks) K) = pt at p1 p3 p4 p5 p9 ⊢
  obtain ⟨t1, p⟩ := pt
  dsimp only at p1 p3 p4 p5 p9 ⊢
  subst p1
  have ins : (SetTable.insertAt es (SetTable.below t.place (way t.mask (tupleKeyHash knd ks) K)) (tupleKeyHash knd ks, Value.ref x)).toList = (L.take (SetTable.below t.place (way t.mask (tupleKeyHash knd ks) K)) ++ (x, ks) :: L.drop (SetTable.below t.place (way t.mask (tupleKeyHash knd ks) K))).map (entR knd) := by
    rw [SetTable.toList_insertAt, U.has, List.map_append, List.map_cons, List.map_take, List.map_drop]
    rfl
  generalize SetTable.below t.place (way t.mask (tupleKeyHash knd ks) K) = p at p2 p3 ins ⊢
  have pm := put_perm L p ((x, ks) : Ent κ)
  have hm : (L.take p ++ (x, ks) :: L.drop p).map (entH knd) = (L.map (entH knd)).take p ++ tupleKeyHash knd ks :: (L.map (entH knd)).drop p := by
    rw [List.map_append, List.map_cons, List.map_take, List.map_drop]
    rfl
  rw [← hm] at p3
  have one1 : ((L.take p ++ (x, ks) :: L.drop p).map Prod.snd).Nodup := (pm.map Prod.snd).nodup_iff.mpr (by rw [List.map_cons]; exact List.nodup_cons.mpr ⟨no, U.one⟩)
  generalize L.take p ++ (x, ks) :: L.drop p = L1 at pm p3 one1 ins
  have len1 : L1.length = L.length + 1 := pm.length_eq
  have sz1 := has_len ins
  generalize SetTable.insertAt es p (tupleKeyHash knd ks, Value.ref x) = es1 at ins sz1 ⊢
  -- the table is plain no more, or as plain as it was
  have rest : ∀ z : Bool, wpAny (model P w) A (do
      storeSet a es1 (if z = true then t1 else { t1 with plain := false })
      if (!false && (if z = true then t1 else { t1 with plain := false }).tooFull) = true then do
        setRelay a (SetTable.grown (es.size + 1))
        pure true
      else pure true) Q E s := fun z => by
    have T2 : TabOk (if z = true then t1 else { t1 with plain := false }) (L1.map (entH knd)) := by
      cases z
      · exact ⟨p3.ris, p3.dm, p3.sz, p3.mok, p3.bd, p3.reach⟩
      · exact p3
    have m2 : (if z = true then t1 else { t1 with plain := false }).mask = t.mask := by cases z <;> exact p4
    have l2 : (if z = true then t1 else { t1 with plain := false }).led = t.led := by cases z <;> exact p5
    have f2 : (if z = true then t1 else { t1 with plain := false }).fill = L.length + 1 := by
      rw [List.length_map] at p9
      cases z <;> exact p9
    generalize (if z = true then t1 else { t1 with plain := false }) = t2 at T2 m2 l2 f2 ⊢
    refine wpAny_bind (wpAny_storeSet_of ho hd ?_ (by rw [sz1, len1, sizeLine_eq]; omega))
    have sb : Heap.SameBut a s.heap (s.heap.update a (Obj.putSet es1 t2)) := Heap.SameBut.update ..
    have ho1 := store_at (es' := es1) (t' := t2) ho hd
    generalize s.heap.update a (Obj.putSet es1 t2) = h1 at sb ho1 ⊢
    have tks1 : ∀ e ∈ L1, IsTupleKey knd h1 e.2 e.1 := fun e me => by
      rcases List.mem_cons.mp (pm.mem_iff.mp me) with rfl | me
      · exact isTk_but hx ho hd sb
      · exact isTk_but (U.tks e me) ho hd sb
    have led1 : w.params.followText "set-order" = true ∨ t2.led = true := by rw [l2]; exact U.led
    by_cases full : t2.tooFull = true
    · refine wp_if_pos (by rw [full]; rfl) (wpAny_bind ?_)
      have much : (L.length + 1) * 5 ≥ t2.mask * 3 := by
        unfold SetTable.tooFull at full
        rw [decide_eq_true_eq, f2] at full
        exact full
      have four : L.length = 4 ∧ t.mask = 7 := by
        rw [m2] at much
        rcases U.tab.mok with e | e | e <;> omega
      rw [sz, four.1]
      refine relay_tk (s := { s with heap := h1 }) ho1 ⟨hex.1, hex.2.1, hex.2.2⟩ rfl ins T2 one1 tks1 led1 (by rw [len1, four.1]) (by rw [m2]; exact four.2) fun h2 L2 es2 ep2 t3 sb2 U2 pm2 => ?_
      exact wpAny_pure (q true h2 L2 es2 ep2 t3 (sb.trans sb2) U2 (fun z => absurd z no) fun _ => pm2.trans pm)
    · refine wp_if_neg (by rw [eq_false_of_ne_true full]; decide) (wpAny_pure (q true h1 L1 es1 (ep + 1) t2 sb ⟨⟨_, ho1, ⟨hex.1, hex.2.1, hex.2.2⟩, rfl⟩, ins, T2, one1, tks1, led1, ?_, by omega⟩ (fun z => absurd z no) fun _ => pm))
      unfold SetTable.tooFull at full
      rw [decide_eq_true_eq, f2] at full
      omega
  by_cases pl : t1.plain = true
  · first
      | (refine wpAny_bind (wp_if_pos pl (hashBy_tk hx fun z => ?_)); exact rest z)
      | (refine wp_if_pos pl (wpAny_bind (hashBy_tk hx fun z => ?_)); exact rest z)
  · first
      | (refine wpAny_bind (wp_if_neg pl (wpAny_pure ?_)); exact rest true)
      | (refine wp_if_neg pl (wpAny_bind (wpAny_pure ?_)); exact rest true)
end
end Dr
namespace Dr
open PySem PySem.Spec PyProof.Rows L2
section
variable {P : Program} {w : World} {κ : Type} [DecidableEq κ] {knd : KeyKind P w κ} {A : Around} {E : Value → Shared → Prop} {s : Shared}
/-- what the set has of the first i tuples -/
structure Cnt (ks : List (Ent κ)) (i : Nat) (L : List (Ent κ)) : Prop where
  mem : ∀ k, k ∈ L.map Prod.snd ↔ k ∈ (ks.take i).map Prod.snd
  le : L.length ≤ i
  eq : L.length = i ↔ ((ks.take i).map Prod.snd).Nodup
theorem Cnt.nil (ks : List (Ent κ)) : Cnt ks 0 [] := ⟨fun k => by simp, Nat.le_refl _, by simp⟩
theorem Cnt.next {ks L L' : List (Ent κ)} {i : Nat} {e : Ent κ} (c : Cnt ks i L) (he : ks[i]? = some e) (h1 : e.2 ∈ L.map Prod.snd → L' = L) (h2 : e.2 ∉ L.map Prod.snd → L'.Perm (e :: L)) : Cnt ks (i + 1) L' := by
  have et : (ks.take (i + 1)).map Prod.snd = (ks.take i).map Prod.snd ++ [e.2] := by
    rw [List.take_add_one, he, List.map_append]
    rfl
  have nd : ((ks.take (i + 1)).map Prod.snd).Nodup ↔ ((ks.take i).map Prod.snd).Nodup ∧ e.2 ∉ (ks.take i).map Prod.snd := by
    rw [et, List.nodup_append]
    refine ⟨fun z => ⟨z.1, fun m => z.2.2 _ m _ (List.mem_singleton.mpr rfl) rfl⟩, fun z => ⟨z.1, by simp, fun x hx y hy e2 => ?_⟩⟩
    rw [List.mem_singleton.mp hy] at e2
    exact z.2 (e2 ▸ hx)
  by_cases m : e.2 ∈ L.map Prod.snd
  · rw [h1 m]
    refine ⟨fun k => ?_, Nat.le_succ_of_le c.le, ?_⟩
    · rw [et, List.mem_append, List.mem_singleton, c.mem]
      exact ⟨.inl, fun z => z.elim id fun ek => ek ▸ (c.mem _).1 m⟩
    · rw [nd]
      exact ⟨fun z => absurd z (by have := c.le; omega), fun z => absurd ((c.mem _).1 m) z.2⟩
  · have pm := h2 m
    refine ⟨fun k => ?_, by rw [pm.length_eq]; exact Nat.succ_le_succ c.le, ?_⟩
    · rw [(pm.map Prod.snd).mem_iff, et, List.mem_append, List.mem_singleton, List.map_cons, List.mem_cons, c.mem]
      exact Or.comm
    · rw [nd, pm.length_eq, List.length_cons, Nat.succ_inj, c.eq]
      exact ⟨fun z => ⟨z, fun y => m ((c.mem _).2 y)⟩, fun z => z.1⟩
theorem uset_keep {h h' : Heap} {a : Addr} {L : List (Ent κ)} {es : Array (Int × Value)} {ep : Nat} {t : SetTable} (U : USet knd h a L es ep t) (k : ∀ o, h.get? a = some o → h'.get? a = some o) (kt : ∀ e ∈ L, IsTupleKey knd h' e.2 e.1) : USet knd h' a L es ep t := by
  obtain ⟨o, ho, r⟩ := U.at_
  exact ⟨⟨o, k o ho, r⟩, U.has, U.tab, U.one, kt, U.led, U.gap, U.few⟩
theorem uset_new (h : Heap) : USet knd (h.push (setObj w)) h.objs.size [] #[] 0 (.fresh 0 0 (!w.params.followText "set-order")) :=
  ⟨⟨_, Heap.get?_push_size _ rfl, ⟨rfl, rfl, rfl⟩, rfl⟩, rfl, ⟨List.Pairwise.nil, rfl, rfl, .inl rfl, fun x hx => (by cases hx), fun i h j hi => (by simp at hi)⟩, List.nodup_nil, fun e he => (by cases he), by
    show _ ∨ (!w.params.followText "set-order") = true
    cases w.params.followText "set-order" <;> simp, by show 0 * 5 < 7 * 3; decide, Nat.zero_le _⟩
theorem setU_loop {I : Addr} {fp wr : List Addr} {G : Array GenState → Array GenState → Prop} {n : Nat} {Pv : Nat → Value → Prop} {St : Nat → Shared → Prop} {R : Result → Shared → Prop} (W : WalksS P w A.in1 I fp wr G n Pv St) (D : Addr) (hD : D ∉ fp) (ks : List (Ent κ)) (hn : n = ks.length) (hf : ks.length ≤ 16)
    (hval : ∀ i v, Pv i v → ∃ e, ks[i]? = some e ∧ v = .ref e.1) (h0 : Heap) (hk : ∀ e ∈ ks, IsTupleKey knd h0 e.2 e.1) (hD0 : h0.get? D = none) (hw0 : ∀ b ∈ wr, h0.get? b = none) (hu : A.in1.units < cLine) :
    ∀ (k i : Nat) (s : Shared), n - i = k → i ≤ n → St i s → (∀ b o, h0.get? b = some o → s.heap.get? b = some o) → (∃ L es ep t, USet knd s.heap D L es ep t ∧ Cnt ks i L ∧ ∀ e ∈ L, e ∈ ks) →
      (∀ s' L es ep t, Moved (D :: wr) G s s' → USet knd s'.heap D L es ep t → Cnt ks n L → R (.ok (.ret .none)) s') →
      codeAny (model P w) A (.builtin "set.update.loop" ⟨[.ref D, .ref I], []⟩) R s := by
  have hDw : D ∉ wr := fun h => hD (W.sub _ h)
  have hsub : ∀ b ∈ wr, b ∈ D :: wr := fun b hb => List.mem_cons_of_mem _ hb
  have moved : ∀ {s s' : Shared}, Moved wr G s s' → (∀ b o, h0.get? b = some o → s.heap.get? b = some o) → ∀ b o, h0.get? b = some o → s'.heap.get? b = some o := fun hm h1 b o e =>
    hm.heap b o (fun hb => by rw [hw0 b hb] at e; cases e) (h1 b o e)
  intro k
  induction k with
  | zero =>
    intro i s hk1 hi hst h1 ⟨L, es, ep, t, U, c, sub⟩ hR
    obtain rfl : i = n := by omega
    refine codeAny_builtin F.entry_set_update_loop ?_
    rw [Around.under_plainId F.plain_set_update_loop _]
    show wpAny _ A.in1 (pyNext (.ref I) >>= _) _ _ s
    refine wpAny_bind (W.done s _ _ hst fun s' hm => wpAny_pure (hR s' L es ep t (hm.mono hsub) (uset_keep U (fun o e => hm.heap D o hDw e) fun e he => isTk_keep (hk e (sub e he)) fun o g => moved hm h1 _ o g) c))
  | succ k ih =>
    intro i s hk1 hi hst h1 ⟨L, es, ep, t, U, c, sub⟩ hR
    have hlt : i < n := by omega
    refine codeAny_builtin F.entry_set_update_loop ?_
    rw [Around.under_plainId F.plain_set_update_loop _]
    show wpAny _ A.in1 (pyNext (.ref I) >>= _) _ _ s
    refine wpAny_bind (W.item i s _ _ hlt hst fun v s' hP hst' hm => ?_)
    obtain ⟨e, he, rfl⟩ := hval i v hP
    have h2 := moved hm h1
    have U' : USet knd s'.heap D L es ep t := uset_keep U (fun o z => hm.heap D o hDw z) fun e2 m => isTk_keep (hk e2 (sub e2 m)) fun o g => h2 _ o g
    have hx : IsTupleKey knd s'.heap e.2 e.1 := isTk_keep (hk e (List.mem_of_getElem? he)) fun o g => h2 _ o g
    show wpAny _ A.in1 (PySem.holding [Value.ref e.1] (setAdd D (.ref e.1)) >>= _) _ _ s'
    refine wpAny_bind (wpAny_holding ?_)
    unfold setAdd
    refine wpAny_holding (wpAny_bind (wpAny_pyHash_tuple hu hx ?_))
    refine put_tk (s := { s' with toks := s'.toks + (e.2.length + 1) }) U' hx hu (by have := c.le; omega) fun b h' L' es' ep' t' sb U2 e1 e2 => ?_
    have h3 : ∀ b o, h0.get? b = some o → h'.get? b = some o := fun b o g => (sb.2 b fun z => by rw [z, hD0] at g; cases g).trans (h2 b o g)
    have sub' : ∀ y ∈ L', y ∈ ks := fun y hy => by
      by_cases m : e.2 ∈ L.map Prod.snd
      · rw [e1 m] at hy
        exact sub y hy
      · rcases List.mem_cons.mp ((e2 m).mem_iff.mp hy) with rfl | hy
        · exact List.mem_of_getElem? he
        · exact sub y hy
    have other : ∀ {b : Addr} {o : Obj}, b ≠ D → s'.heap.get? b = some o → h'.get? b = some o := fun hb z => (sb.2 _ hb).trans z
    refine wpAny_pure ⟨plainId_quiet F.plain_set_update_loop _, ih (i + 1) _ (by omega) hlt (W.frame _ s' _ _ hst' (Nat.le_add_right _ _) fun b hb o z => other (fun y => hD (y ▸ hb)) z) h3 ⟨L', es', ep', t', U2, c.next he e1 e2, sub'⟩ fun s3 L3 es3 ep3 t3 hm3 U3 c3 => ?_⟩
    exact hR s3 L3 es3 ep3 t3 (Moved.trans W.gtrans ((hm.mono hsub).then_heap (Nat.le_add_right _ _) fun b o hb z => other (fun y => hb (y ▸ List.mem_cons_self)) z) hm3) U3 c3
set_option maxHeartbeats 8000000 in
/-- set(xs) of a tuple of such tuples -/
theorem call_setU {l : Addr} {items : Array Value} (ks : List (Ent κ)) {Q : Value → Shared → Prop} (hh : A.handled = none) (hl : s.heap.IsTuple l items) (hi : items.toList = ks.map fun e => Value.ref e.1) (hk : ∀ e ∈ ks, IsTupleKey knd s.heap e.2 e.1) (hf : ks.length ≤ 16) (hu : A.units + 3 < cLine)
    (h : ∀ (h' : Heap) (tk : Nat) L es ep t, USet knd h' s.heap.objs.size L es ep t → Cnt ks ks.length L → (∀ b o, s.heap.get? b = some o → h'.get? b = some o) → Q (.ref s.heap.objs.size) { s with heap := h', toks := tk }) :
    wpAny (model P w) A (call (.type "set") [.ref l]) Q E s := by
  have hisz : items.size = ks.length := by rw [← Array.length_toList, hi, List.length_map]
  obtain ⟨c, tl, hmro⟩ := F.called_set.mro
  have hmade := F.called_set.made
  have hsub := F.called_set.sub
  refine wpAny_call (codeAny_of_tree (show wpAny _ _ (callAny (.type "set") _) _ _ _ from wpAny_pure ⟨Code.quiet_builtin _ (by decide +kernel), codeAny_builtin F.entry_type_call ?_⟩))
  rw [Around.under_plain (weight_type_call_type "set" [.ref l] []) rfl]
  have h1 := F.called_set.notType
  have h2 := F.called_set.canCreate
  have hct := F.typeCall_set_1 (.ref l)
  repeat (any_goals (first | assumption | wp_step))
  refine codeAny_mono (code_set_led1 (.ref l) (E := E) (Q₁ := fun obj s₁ => obj = .ref s.heap.objs.size ∧ s₁ = { s with heap := s.heap.push (setObj w) }) ⟨rfl, rfl⟩) fun r s₁ hr => ?_
  cases r with
  | error e => exact hr
  | ok fl =>
    cases fl with
    | next => exact hr.elim
    | brk => exact hr.elim
    | cont => exact hr.elim
    | ret obj =>
      obtain ⟨rfl, rfl⟩ := hr
      have hS : (s.heap.push (setObj w)).get? s.heap.objs.size = some (setObj w) := Heap.get?_push_size _ rfl
      have hT : Shared.TypeIs { s with heap := s.heap.push (setObj w) } (.ref s.heap.objs.size) "set" := ⟨_, hS, rfl⟩
      have hli := F.called_set.init.lookup
      have hbi := F.called_set.init.bind (.ref s.heap.objs.size)
      repeat (any_goals (first | assumption | wp_step))
      refine codeAny_mono (codeAny_call_builtin (R := wants (fun r s₂ => r = .none ∧ ∃ h' tk L es ep t, s₂ = { s with heap := h', toks := tk } ∧ USet knd h' s.heap.objs.size L es ep t ∧ Cnt ks ks.length L ∧ (∀ b o, s.heap.get? b = some o → h'.get? b = some o)) E) F.called_set.init.plain F.entry_set_init (check_set_init_1 hT ?_)) fun r₂ s₂ hr₂ => ?_
      · obtain ⟨⟨ocls, odict, odata, oslots⟩, hol, hcl, nl, hdl⟩ := hl
        simp only at hcl hdl
        subst hcl
        subst hdl
        have hol' : (s.heap.push (setObj w)).get? l = some { cls := .type "tuple", dict := odict, data := .seq items nl, slots := oslots } := Heap.get?_push_of_some _ hol
        have hsls := F.sub_tuple_set
        have hslf := F.sub_tuple_frozenset
        have hne : (Value.type "tuple" == Value.type "dict") = false := by decide
        have hl1 : (s.heap.push (setObj w)).IsTuple l items := ⟨_, hol', rfl, nl, rfl⟩
        unfold Builtin.«set.__init__» noKeywords Builtin.Frozenset.updateFrom
        generalize hPI : pyIter = PI
        wp_walk
        subst hPI
        refine wpAny_pyIter_tuple hl1 (wpAny_bind (wpAny_runValue ?_))
        have hlS : l < s.heap.objs.size := Heap.lt_size hol
        have hh3 : A.in1.in1.in1.handled = none := by simp [hh]
        have hz : (s.heap.push (setObj w)).objs.size = s.heap.objs.size + 1 := Heap.size_push ..
        have hneI : l ≠ (s.heap.push (setObj w)).objs.size := by
          rw [hz]
          exact Nat.ne_of_lt (Nat.lt_succ_of_lt hlS)
        have hSf : s.heap.objs.size ∉ [(s.heap.push (setObj w)).objs.size, l] := by
          rw [hz]
          simp only [List.mem_cons, List.not_mem_nil, or_false, not_or]
          exact ⟨Nat.ne_of_lt (Nat.lt_succ_self _), (Nat.ne_of_lt hlS).symm⟩
        have hval : ∀ (i : Nat) (v : Value), items[i]? = some v → ∃ e, ks[i]? = some e ∧ v = .ref e.1 := fun i v hv => by
          rw [← Array.getElem?_toList, hi, List.getElem?_map] at hv
          cases he : ks[i]? with
          | none =>
            rw [he] at hv
            cases hv
          | some e =>
            rw [he] at hv
            exact ⟨e, rfl, (Option.some.inj hv).symm⟩
        have beyond : ∀ b, s.heap.objs.size ≤ b → s.heap.get? b = none := fun b hb => by
          cases g : s.heap.get? b with
          | none => rfl
          | some o => exact absurd (Nat.lt_of_lt_of_le (Heap.lt_size g) hb) (Nat.lt_irrefl _)
        refine setU_loop ((Walks.tuple hh3 _ l hneI items).toS) s.heap.objs.size hSf ks hisz hf hval s.heap hk (beyond _ (Nat.le_refl _)) (fun b hb => beyond b (by rw [List.mem_singleton.mp hb, hz]; exact Nat.le_succ _)) hu (items.size - 0) 0 _ (by omega) (Nat.zero_le _) ⟨⟨_, Heap.get?_push_size _ rfl, rfl, rfl⟩, (hl1.push _)⟩ (fun b o e => Heap.get?_push_of_some _ (Heap.get?_push_of_some _ e)) ?hS0 ?hR
        case hS0 => exact ⟨[], #[], 0, _, uset_keep (uset_new (knd := knd) s.heap) (fun o e => Heap.get?_push_of_some _ e) (fun e he => by cases he), Cnt.nil ks, fun e he => by cases he⟩
        case hR =>
          intro s' L es ep t hm U' c'
          obtain ⟨h', g2, d', tk', os'⟩ := s'
          obtain rfl : g2 = s.gens := hm.gens
          obtain rfl : d' = s.drawn := hm.drawn
          obtain rfl : os' = s.os := hm.os
          show wpAny _ _ _ _ _ _
          rw [hisz] at c'
          refine wpAny_pure (show wpAny _ _ (ret Value.none) _ _ _ from wpAny_pure ⟨rfl, h', tk', L, es, ep, t, rfl, U', c', fun b o e => ?_⟩)
          have hlt : b < s.heap.objs.size := Heap.lt_size e
          refine hm.heap b o ?_ (Heap.get?_push_of_some _ (Heap.get?_push_of_some _ e))
          rw [hz]
          simp only [List.mem_cons, List.not_mem_nil, or_false, not_or]
          exact ⟨Nat.ne_of_lt hlt, Nat.ne_of_lt (Nat.lt_succ_of_lt hlt)⟩
      · cases r₂ with
        | error e => exact hr₂
        | ok fl₂ =>
          cases fl₂ with
          | next => exact hr₂.elim
          | brk => exact hr₂.elim
          | cont => exact hr₂.elim
          | ret r =>
            obtain ⟨rfl, h', tk, L, es, ep, t, rfl, U', c', hk'⟩ := hr₂
            repeat (any_goals (first | assumption | wp_step))
            exact h _ _ _ _ _ _ U' c' hk'
end
section
variable {X : Cx}
theorem keys_of_vals {P : Program} {w : World} : ∀ {k : List Str} {us : List Value}, Vals (k.map V.str) us → ItemsAre (PySem.strKind P w) k us
  | [], _, .nil => .nil
  | n :: k, _, .cons r t => by
    obtain ⟨tk, rfl⟩ := r
    exact .cons (strKind_is P w n tk) (keys_of_vals t)
theorem refs_of_ents : ∀ {ks : List (Ent Str)} {us : List Value}, Vals (ks.map fun e => V.ref e.1) us → us = ks.map fun e => Value.ref e.1
  | [], _, .nil => rfl
  | e :: ks, _, .cons r t => by
    cases r
    rw [refs_of_ents t]
    rfl
/-- len(set(t)), t a tuple of at most 16 tuples of texts -/
def tLenSetU (K : PySem.W.Frag) (ta : TE) : TE := fun σ H Q => ta σ H fun x H1 => ∃ (l : Addr) (ks : List (Ent Str)), x = V.ref l ∧ SqT K H1 l (ks.map fun e => V.ref e.1) ∧ (∀ e ∈ ks, SqT K H1 e.1 (e.2.map V.str)) ∧ ks.length ≤ 16 ∧
  ∀ n : Nat, n ≤ ks.length → (n = ks.length ↔ (ks.map Prod.snd).Nodup) → Q (.int n) H1
theorem pe_lenSetU {a : Expr} {ta : TE} {p p2 q pos : Pos} (hc : X.calm = true) (hu : X.A.units + 64 < cLine) (hg : Gl X "len") (hm : X.mg "len" = none) (hg2 : Gl X "set") (hm2 : X.mg "set" = none) (ha : PE X a ta)
    (na : starEach [a] X.env = (false, eval a X.env) :: starEach [] X.env := by rfl) : PE X (.Call (.Name "len" p) [.Call (.Name "set" p2) [a] [] q] [] pos) (tLenSetU X.K ta) := by
  refine ⟨fun pins s σ H Q I h => ?_⟩
  refine Call_ (ld_blt I hg hm PySem.boot_len (PyProof.Rows.callWith_builtin1 (PyProof.Rows.args_cons ?_ rfl) rfl rfl))
  refine Call_ (ld_blt I hg2 hm2 PyProof.Rows.boot_set (PyProof.Rows.callWith_type1 (PyProof.Rows.args_cons (thn (ha.run pins s σ H _ I h) fun v s1 ⟨x, H1, I1, r1, q1⟩ => PyProof.Rows.args_nil ?_) na) na rfl))
  obtain ⟨l, ks, rfl, hl, hk, hf, q1⟩ := q1
  cases r1
  obtain ⟨its, r, pl, hz⟩ := I1.tuple hl
  refine call_setU (P := X.prog) (w := X.w) (knd := PySem.strKind X.prog X.w) ks (I1.ok.hd hc) pl (by simpa using refs_of_ents r) (fun e he => ?_) hf (by omega) fun h' tk L es ep t U c k => ?_
  · obtain ⟨js, rj, ⟨o, ho, hc2, n, hd⟩, _⟩ := I1.tuple (hk e he)
    exact ⟨o, js.toArray, n, ho, hc2, hd, by simpa using keys_of_vals rj⟩
  · refine PyProof.Rows.args_nil ?_
    obtain ⟨o, ho, hex, hd⟩ := U.at_
    have sz := has_len U.has
    have few := U.few
    have I2 : Inv X pins σ H1 { s1 with heap := h', toks := tk } := I1.kept k
    have ceq := c.eq
    rw [List.take_length] at ceq
    refine call_len_set ho hex hd (fits_of U.tab U.has (by have := U.gap; omega)) (by rw [sz]; omega) ⟨.int L.length, H1, I2.tok _, ⟨_, by rw [sz]⟩, q1 L.length c.le ceq⟩
end
end Dr
namespace Dr
open PySem PySem.Spec PyProof.Rows L2
abbrev sArePairs : Stmt := topS 10
abbrev sIsPair : Stmt := topS 11
theorem scArePairs : FnScope ["thing", "part"] ["thing"] (defScope sArePairs) := ⟨rfl, rfl, rfl, by decide +kernel, rfl, by decide +kernel, by decide +kernel⟩
theorem scIsPair : FnScope ["thing"] ["thing"] (defScope sIsPair) := ⟨rfl, rfl, rfl, by decide +kernel, rfl, by decide +kernel, by decide +kernel⟩
def isPairD : PyData → Bool
  | .tuple [a, b] => isNameD a && isNameD b
  | _ => false
def keysOf : PyData → List Str
  | .tuple [.str a, .str b] => [a, b]
  | _ => []
def arePairsD : PyData → Bool
  | .tuple ds => ds.all isPairD && decide (ds.map keysOf).Nodup
  | _ => false
theorem isPair_of {d : PyData} (h : isPairD d = true) : ∃ a b, d = .tuple [.str a, .str b] ∧ nameOk a = true ∧ nameOk b = true := by
  unfold isPairD at h
  split at h
  · rename_i x y
    rw [Bool.and_eq_true] at h
    cases x <;> first | (cases h.1; done) | skip
    cases y <;> first | (cases h.2; done) | skip
    exact ⟨_, _, rfl, h.1, h.2⟩
  · cases h
theorem acc_nextQ {q : PyData → Bool} {ds : List PyData} {i : Nat} {d : PyData} (h : ds[i]? = some d) : ((ds.take i).map q).map V.bl ++ [V.bl (q d)] = ((ds.take (i + 1)).map q).map V.bl := by
  rw [List.take_add_one, h, List.map_append, List.map_append]
  rfl
/-- where the pairs stand -/
theorem ents_of {K : PySem.W.Frag} {H : Hp} : ∀ {vs : List V} {ds : List PyData}, DpAll K H vs ds → ds.all isPairD = true → ∃ ks : List (Ent Str), vs = ks.map (fun e => V.ref e.1) ∧ (∀ e ∈ ks, SqT K H e.1 (e.2.map V.str)) ∧ ks.map Prod.snd = ds.map keysOf
  | _, _, .nil, _ => ⟨[], rfl, (fun e h => by cases h), rfl⟩
  | v :: vs, d :: ds, .cons h hs, a => by
    have a' : isPairD d = true ∧ ds.all isPairD = true := by simpa using a
    obtain ⟨x, y, rfl, _, _⟩ := isPair_of a'.1
    obtain ⟨ks, e1, e2, e3⟩ := ents_of hs a'.2
    cases h with
    | @tup b ws _ hS hw =>
      cases hw with
      | cons h1 hw =>
        cases hw with
        | cons h2 hw =>
          cases hw
          cases h1
          cases h2
          refine ⟨(b, [x, y]) :: ks, by rw [e1]; rfl, fun e he => ?_, by rw [List.map_cons, List.map_cons, e3]; rfl⟩
          rcases List.mem_cons.mp he with rfl | he
          · exact hS
          · exact e2 e he
section
variable {P : Program} {w : World} {K : PySem.W.Frag} {mg : Str → Option Value} {base : Heap}
theorem ok_isPair {f fN : Addr} {fd fdN : FuncData} (F : Fun K "is_pair" "is_pair" sIsPair f fd) (T : Wds K mg) (GN : FnOk P w K mg base CX0 1 fN fdN ["thing"] (spAsk K isNameD)) (mN : mg "is_name" = some (.ref fN)) (kN : PySem.W.keepIn K (.ref fN) = true) (bN : Binds K fdN ["thing"] []) :
    FnOk P w K mg base CX0 2 f fd ["thing"] (spAsk K isPairD) := by
  refine F.ok scIsPair (fun vs H Q E h => ?_) (fun cdv A outer s H vs Q E hr h => ?_)
  · obtain ⟨v, d, rfl, _⟩ := h
    rfl
  · obtain ⟨v, d, rfl, hd, hok, q⟩ := h
    refine ⟨_, pss_one (ps_ret (pe_and (pe_callB call_isi (by rfl) T.isi (by decide +kernel) (pa_cons (pv 0) (pa_cons (pe_bltn (v := .ty "tuple") (by rfl) T.tup (by decide +kernel) rfl) pa_nil)))
      (pe_and (pe_cmpR op_eq (pe_callB call_len_seq (by rfl) T.len PySem.boot_len (pa_cons (pv 0) pa_nil)) pe_int (nomark _))
      (pe_and (pe_call GN hr (by rfl) mN kN bN .nil pass0 (pa_cons (pe_ix ix_tup (pv 0) pe_int (fun _ _ => rfl)) pa_nil))
        (pe_one (pe_call GN hr (by rfl) mN kN bN .nil pass0 (pa_cons (pe_ix ix_tup (pv 0) pe_int (fun _ _ => rfl)) pa_nil))))))), ?_⟩
    refine ⟨v, rfl, v, .ty "tuple", _, _, _, rfl, .ty _, dp_ty hd, kit_tup d, _, rfl, ?_⟩
    by_cases ht : isTupD d = true
    · cases d with
      | tuple ds =>
        cases hd with
        | @tup a xs _ hS hall =>
          obtain ⟨hlen, hoks⟩ := hok.tup
          have hxl := dpAll_len hall
          refine iteT ⟨_, rfl, a, _, rfl, .inr hS, rfl, _, rfl, ?_⟩
          by_cases two : xs.length = 2
          · rw [decide_eq_true (by rw [two]; rfl)]
            refine iteT ?_
            cases hall with
            | nil => cases two
            | @cons x xs d1 ds h1 hall =>
              cases hall with
              | nil => cases two
              | @cons y xs d2 ds h2 hall =>
                cases hall with
                | cons _ _ => simp at two
                | nil =>
                  have e : isPairD (.tuple [d1, d2]) = (isNameD d1 && isNameD d2) := rfl
                  rw [e] at q
                  refine ⟨_, rfl, a, _, 0, _, rfl, rfl, hS, atI_nat (j := 0) rfl, _, d1, rfl, h1, hoks d1 (by simp), fun H1 s1 => ⟨_, rfl, ?_⟩⟩
                  cases e1 : isNameD d1 with
                  | false =>
                    rw [e1] at q
                    exact iteF (q _ s1)
                  | true =>
                    rw [e1] at q
                    exact iteT ⟨_, rfl, a, _, 1, _, rfl, rfl, Same.seqT s1 hS, atI_nat (j := 1) rfl, _, d2, rfl, dp_same s1 h2, hoks d2 (by simp), fun H2 s2 => q _ (s1.trans s2)⟩
          · rw [decide_eq_false (fun e => two (by have := V.int.inj e; omega))]
            have e : isPairD (.tuple ds) = false := by
              match ds, hxl with
              | [], _ => rfl
              | [_], _ => rfl
              | [_, _], h => exact absurd h two
              | _ :: _ :: _ :: _, _ => rfl
            rw [e] at q
            exact iteF (q _ (Same.refl _))
      | _ => cases ht
    · rw [eq_false_of_ne_true ht]
      have en : isPairD d = false := by cases d <;> first | rfl | exact absurd rfl ht
      rw [en] at q
      exact iteF (q _ (Same.refl _))
def spArePairs (K : PySem.W.Frag) : Sp := fun vs H Q _ => ∃ (v : V) (d : PyData), vs = [v] ∧ Dp K H v d ∧ OkD d ∧ (∀ ds, d = .tuple ds → ds.length ≤ 16) ∧ ∀ H', Same H H' → Q (.bl (arePairsD d)) H'
theorem ok_arePairs {f fP : Addr} {fd fdP : FuncData} (F : Fun K "are_pairs" "are_pairs" sArePairs f fd) (T : Wds K mg) (GP : FnOk P w K mg base CX0 2 fP fdP ["thing"] (spAsk K isPairD)) (mP : mg "is_pair" = some (.ref fP)) (kP : PySem.W.keepIn K (.ref fP) = true) (bP : Binds K fdP ["thing"] []) :
    FnOk P w K mg base CX0 3 f fd ["thing"] (spArePairs K) := by
  refine F.ok scArePairs (fun vs H Q E h => ?_) (fun cdv A outer s H vs Q E hr h => ?_)
  · obtain ⟨v, d, rfl, _⟩ := h
    rfl
  · obtain ⟨v, d, rfl, hd, hok, h16, q⟩ := h
    have hu : (A.deeper (envOfC "are_pairs" (defScope sArePairs) s.heap.objs.size f cdv)).units + 64 < cLine := hr.units
    refine ⟨_, pss_cons (ps_if (PW.pt (pw_or (pt_not (pt_val (pe_callB call_isi (by rfl) T.isi (by decide +kernel) (pa_cons (pv 0) (pa_cons (pe_bltn (v := .ty "tuple") (by rfl) T.tup (by decide +kernel) rfl) pa_nil)))))
        (pw_or1 (pt_not (pt_val (pe_callB (cr_all rfl) (by rfl) T.all (by decide +kernel) (pa_cons
          (pe_lc (own := [("part", 1)]) (g := gName 1) (tt := tYes) rfl scArePairs.nd (pi_tup (pv 0)) (blkOk_by (N := ["thing", "part"]) (sc := defScope sArePairs) (by decide +kernel)) (fun _ _ _ _ _ => pg_name (i := 1) scArePairs.nd rfl (Or.inl rfl)) (fun _ _ _ _ _ => pts_nil)
            (fun _ _ _ _ _ => pe_call GP hr (by rfl) mP kP bP .nil pass0 (pa_cons (pv 1) pa_nil))) pa_nil)))))))
        (pss_one (ps_ret pe_bl)) pss_nil)
      (pss_one (ps_ret (pe_cmpR op_eq (pe_lenSetU rfl hu (by rfl) T.len (by rfl) T.set (pv 0)) (pe_callB call_len_seq (by rfl) T.len PySem.boot_len (pa_cons (pv 0) pa_nil)) (nomark _)))), ?_⟩
    refine ⟨v, rfl, v, .ty "tuple", _, _, _, rfl, .ty _, dp_ty hd, kit_tup d, _, rfl, ?_⟩
    by_cases ht : isTupD d = true
    · cases d with
      | tuple ds =>
        cases hd with
        | @tup a xs _ hS hall =>
          obtain ⟨hlen, hoks⟩ := hok.tup
          have hxl := dpAll_len hall
          have few := h16 ds rfl
          refine iteF ?_
          refine ⟨_, rfl, a, rfl, ⟨_, hS⟩, fun D hD => lc_it walk_tup (fun i H1 => Same H H1 ∧ H1 D = some (.lst (((ds.take i).map isPairD).map V.bl))) ⟨same_upd hD, upd_same⟩ (fun _ _ _ h => Same.seqT h.1 hS) ?_ ?_⟩
          · rintro i x H1 H2 hi ⟨sm, hl⟩ ⟨rfl, hx⟩
            obtain ⟨d', hd', hdp⟩ := dpAll_get hall hx
            refine ⟨rfl, ?_⟩
            unfold tYes
            refine iteT ?_
            refine ⟨_, rfl, _, d', rfl, dp_same sm hdp, hoks d' (List.mem_of_getElem? hd'), fun H3 s3 => ?_⟩
            refine ⟨_, s3 _ _ hl, ?_, ?_⟩
            · rw [List.length_map, List.length_map, List.length_take]
              exact small1000 (by omega)
            · rw [acc_nextQ hd']
              refine ⟨fun c o e => ?_, upd_same⟩
              rw [upd_ne (ne_of_none e hD)]
              exact s3 _ _ (sm _ _ e)
          · rintro H1 ⟨sm, hl⟩
            refine ⟨D, _, rfl, .inl (.inl hl), _, rfl, ?_⟩
            rw [hxl, List.take_of_length_le (Nat.le_refl _), List.all_map]
            show if (!(ds.all isPairD)) = true then _ else _
            by_cases hn : ds.all isPairD = true
            · rw [hn]
              refine iteF ?_
              obtain ⟨ks, e1, e2, e3⟩ := ents_of hall hn
              have hkl : ks.length = ds.length := by rw [← hxl, e1, List.length_map]
              refine ⟨_, rfl, a, ks, rfl, by rw [← e1]; exact Same.seqT sm hS, fun e he => Same.seqT sm (e2 e he), by omega, fun n n1 n2 => ?_⟩
              refine ⟨_, rfl, a, _, rfl, .inr (Same.seqT sm hS), rfl, ?_⟩
              have ed : arePairsD (.tuple ds) = decide ((n : Int) = (xs.length : Int)) := by
                show (ds.all isPairD && decide (ds.map keysOf).Nodup) = _
                rw [hn, Bool.true_and, decide_eq_decide, ← e3, ← n2, hkl, hxl]
                omega
              rw [ed] at q
              have ev : decide (V.int (n : Int) = V.int (xs.length : Int)) = decide ((n : Int) = (xs.length : Int)) := decide_eq_decide.mpr ⟨V.int.inj, fun e => by rw [e]⟩
              rw [← ev] at q
              exact q _ sm
            · have ed : arePairsD (.tuple ds) = false := by
                show (ds.all isPairD && _) = false
                rw [eq_false_of_ne_true hn]
                rfl
              rw [ed] at q
              rw [eq_false_of_ne_true hn]
              exact iteT (q _ sm)
      | _ => cases ht
    · rw [eq_false_of_ne_true ht]
      have en : arePairsD d = false := by cases d <;> first | rfl | exact absurd rfl ht
      rw [en] at q
      exact iteT (iteT (q _ (Same.refl _)))
end
end Dr
namespace Dr
open PySem PySem.Spec PyProof.Rows L2
theorem mro_noRef (C : Addr) : ∀ d : PyData, ∃ l, fastBuiltinMro (tyD d) = some l ∧ l.contains (.ref C) = false
  | .none => ⟨[.type "NoneType", .type "object"], by decide +kernel, by simp⟩
  | .bool _ => ⟨[.type "bool", .type "int", .type "object"], by show fastBuiltinMro "bool" = _; decide +kernel, by simp⟩
  | .int _ => ⟨[.type "int", .type "object"], by show fastBuiltinMro "int" = _; decide +kernel, by simp⟩
  | .str _ => ⟨[.type "str", .type "object"], by show fastBuiltinMro "str" = _; decide +kernel, by simp⟩
  | .list _ => ⟨[.type "list", .type "object"], by show fastBuiltinMro "list" = _; decide +kernel, by simp⟩
  | .tuple _ => ⟨[.type "tuple", .type "object"], by show fastBuiltinMro "tuple" = _; decide +kernel, by simp⟩
  | .dict _ => ⟨[.type "dict", .type "object"], by show fastBuiltinMro "dict" = _; decide +kernel, by simp⟩
theorem sub_D {K : PySem.W.Frag} (C : Addr) (d : PyData) : PySem.W.subIn K (.type (tyD d)) (.ref C) = some false := by
  obtain ⟨l, e, n⟩ := mro_noRef C d
  show (fastBuiltinMro (tyD d)).map (·.contains (.ref C)) = some false
  rw [e]
  show some (l.contains (.ref C)) = some false
  rw [n]
section
variable {X : Cx} {pins : List (Addr × Obj)} {σ : L2.St} {H : Hp} {s : Shared}
theorem looks_D {M : Model} (I : Inv X pins σ H s) {y : V} {u : Value} {d : PyData} (r : RelV y u) (h : Dp X.K H y d) : PySem.W.Looks M s.heap (typeOf u) (.type (tyD d)) := by
  cases h with
  | non => cases (show u = Value.none from r); exact .of_pure rfl
  | bl b => cases (show u = Value.bool b from r); exact .of_pure rfl
  | int i => obtain ⟨t, e⟩ := (show ∃ t, u = Value.int i t from r); cases e; exact .of_pure rfl
  | str x => obtain ⟨t, e⟩ := (show ∃ t, u = Value.str x t from r); cases e; exact .of_pure rfl
  | @lst a xs ds hS _ =>
    cases (show u = Value.ref a from r)
    obtain ⟨its, _, ⟨o, n, ho, hc, _⟩, _⟩ := I.list hS
    exact fun A Q E s' k q => wpAny_typeOf_ref (k _ _ ho) (by rw [hc]; exact q)
  | @tup a xs ds hS _ =>
    cases (show u = Value.ref a from r)
    obtain ⟨its, _, ⟨o, ho, hc, _⟩, _⟩ := I.tuple hS
    exact fun A Q E s' k q => wpAny_typeOf_ref (k _ _ ho) (by rw [hc]; exact q)
/-- the other side of a comparison: an instance of the same class, or a datum -/
def Side (K : PySem.W.Frag) (C : Addr) (H : Hp) (y : V) : Prop := (∃ b dy gs, y = .ref b ∧ H b = some (.ins C dy gs)) ∨ ∃ d, Dp K H y d
theorem side_ty {M : Model} {C : Addr} (I : Inv X pins σ H s) {y : V} {u : Value} (r : RelV y u) (h : Side X.K C H y) : ∃ tb, PySem.W.Looks M s.heap (typeOf u) tb ∧ PySem.W.notFirst X.K C tb = true := by
  rcases h with ⟨b, dy, gs, rfl, hb⟩ | ⟨d, hd⟩
  · cases r
    obtain ⟨mB, J', _⟩ := ins_get I.hok hb
    obtain ⟨od', J', _⟩ := J'.look
    exact ⟨_, J'.type, by simp [PySem.W.notFirst]⟩
  · refine ⟨_, looks_D I r hd, ?_⟩
    unfold PySem.W.notFirst
    rw [sub_D]
    simp
variable {CX : CXT} {C g : Addr} {fd : FuncData} {ps : List Str} {n : Nat} {sp : Sp} {E : XK}
/-- a def called from within a builtin -/
theorem run_in {A : Around} {Q : VK} {us : List Value} {vs : List V} (F : FnOk X.prog X.w X.K X.mg X.base CX n g fd ps sp) (hr : Room n A) (e0 : Env0 X.prog X.w X.K X.mg X.base A X.stack s H) (hb : Binds X.K fd ps []) (hx : Passes CX X E)
    (I : Inv X pins σ H s) (r : Vals vs us) (h : sp vs H Q E) : wpAny (model X.prog X.w) A (call (.ref g) us) (EP X pins σ Q) X.xe s := by
  have hl := F.len _ _ _ _ h
  refine wpAny_call (codeAny_mono (F.run A X.stack s H ⟨us, []⟩ us vs Q E hr e0 (by
    have := hb s us I.kIn (by simpa [← r.length] using hl)
    simpa using this) r h) fun r s' hq => ?_)
  cases r with
  | error e => exact hx pins σ H s e s' I hq
  | ok fl =>
    cases fl with
    | ret u => exact I.after hq
    | next => exact False.elim hq
    | brk => exact False.elim hq
    | cont => exact False.elim hq
def rEqI (K : PySem.W.Frag) (C : Addr) (sp : Sp) (E : XK) : R2 := fun x y H Q => ∃ a dx fs, x = .ref a ∧ H a = some (.ins C dx fs) ∧ Side K C H y ∧ sp [x, y] H Q E
theorem op_eqI (hs : PySem.W.findIn X.K (.ref C) "__eq__" = some (some (.ref g))) (hf : PySem.W.isFn X.K (.ref g) = true) (F : FnOk X.prog X.w X.K X.mg X.base CX n g fd ps sp) (hr : Room n X.A) (hb : Binds X.K fd ps []) (hx : Passes CX X E) :
    OpR X (compareOp .Eq) (rEqI X.K C sp E) := by
  intro pins s σ H x y v u Q I rx ry h
  obtain ⟨a, dx, fs, rfl, ha, hy, q⟩ := h
  cases (show v = Value.ref a from rx)
  obtain ⟨mA, J, _⟩ := ins_get I.hok ha
  obtain ⟨od, J, _⟩ := J.look
  obtain ⟨tb, lk, nf⟩ := side_ty (M := model X.prog X.w) I ry hy
  obtain ⟨m, hF⟩ := I.fr
  refine PySem.W.cmp_K (op := .Eq) (tb := tb) hr.units0 hF I.ok.mod.kin J lk nf hs hf ?_
  refine wpAny_mono (run_in (vs := [V.ref a, y]) (us := [Value.ref a, u]) F hr I.env0 hb hx I (.cons (show L2.RelV (V.ref a) (Value.ref a) from rfl) (.cons ry .nil)) q) (fun w s' z => ?_) fun _ _ x => x
  obtain ⟨z', H', I', rz, qz⟩ := z
  exact SlX.cmpback rz ⟨z', H', I', rz, qz⟩
theorem ifBound_blt {M : Model} {A : Around} {E : Value → Shared → Prop} {K : PySem.W.Frag} {x : Addr} {ox : Obj} {od : Option Obj} {args : List Value} {Q : Option Value → Shared → Prop} (X : K.In s.heap) (I : PySem.W.InstAt s.heap x ox C od) (hs : PySem.W.findIn K (.ref C) "__ne__" = some (some (.builtin "object.__ne__")))
    (h : wpAny M A (call (.builtin "object.__ne__") (.ref x :: args)) (fun v => Q (some v)) E s) : wpAny M A (callSpecialIfBound? (.ref x) "__ne__" args) Q E s := by
  simp only [callSpecialIfBound?, bindSpecialIfBound?]
  refine wpAny_holding (wpAny_bind (wpAny_bind (wpAny_bind (I.type.here ((PySem.W.looks_findIn X hs).here ?_)))))
  refine wpAny_bind (wpAny_askSetting (wpAny_ite ?_))
  have fin : wpAny M A (call (.builtin "object.__ne__") ([.ref x] ++ args) >>= fun v => pure (some v)) Q E s := wpAny_bind (wpAny_mono h (fun v s' h' => wpAny_pure h') fun _ _ h' => h')
  split
  · exact wpAny_bind (wpAny_of_eq (PySem.F.cmp_object.ne.bind _) (wpAny_pure (by exact fin)))
  · exact wpAny_tryCatch (wpAny_bind (wpAny_of_eq (PySem.F.cmp_object.ne.bind _) (wpAny_pure (by exact fin))))
theorem entry_ne {prog : Program} {w : World} {A : Around} {E : Value → Shared → Prop} {K : PySem.W.Frag} {x : Addr} {ox : Obj} {od : Option Obj} {b : Value} {Q : Fin → Shared → Prop} (X : K.In s.heap) (I : PySem.W.InstAt s.heap x ox C od) (hs : PySem.W.findIn K (.ref C) "__eq__" = some (some (.ref g))) (hf : PySem.W.isFn K (.ref g) = true) (hu : A.units < cLine)
    (hcall : wpAny (model prog w) A (call (.ref g) [.ref x, b]) (fun v s' => ∃ b, v = .bool b ∧ Q (.done (.ret (.bool (!b)))) s') E s) : wpAny (model prog w) A (Builtin.«object.__ne__» ⟨[.ref x, b], []⟩) Q E s := by
  unfold Builtin.«object.__ne__»
  repeat (first
    | with_reducible refine wpAny_cRoomFor hu ?_
    | (refine wpAny_bind (m := callSpecialIfBound? (.ref x) (Str.ofString "__eq__") [b])
        (PySem.W.ifBound_K X I hs hf (wpAny_mono hcall (fun r s' hr => by
          obtain ⟨b, rfl, hq⟩ := hr
          repeat (first | exact hq | exact wpAny_pure hq | exact wpAny_truthy_bool hq | (refine wpAny_bind (m := truthy (.bool _)) (wpAny_truthy_bool ?_)) | wp_step)) fun _ _ e => e)))
    | wp_step)
/-- !=, by the text's own == -/
def rNeI (K : PySem.W.Frag) (C : Addr) (sp : Sp) (E : XK) : R2 := fun x y H Q => ∃ a dx fs, x = .ref a ∧ H a = some (.ins C dx fs) ∧ Side K C H y ∧ sp [x, y] H (fun v H' => ∃ b, v = .bl b ∧ Q (.bl (!b)) H') E
theorem op_neI (hs : PySem.W.findIn X.K (.ref C) "__eq__" = some (some (.ref g))) (hf : PySem.W.isFn X.K (.ref g) = true) (hn : PySem.W.findIn X.K (.ref C) "__ne__" = some (some (.builtin "object.__ne__"))) (hm : PySem.W.mroIn X.K C (.type "object") = some true)
    (F : FnOk X.prog X.w X.K X.mg X.base CX n g fd ps sp) (hr : Room (n + 1) X.A) (hb : Binds X.K fd ps []) (hx : Passes CX X E) : OpR X (compareOp .NotEq) (rNeI X.K C sp E) := by
  intro pins s σ H x y v u Q I rx ry h
  obtain ⟨a, dx, fs, rfl, ha, hy, q⟩ := h
  cases (show v = Value.ref a from rx)
  obtain ⟨mA, J, _⟩ := ins_get I.hok ha
  obtain ⟨od, J, _⟩ := J.look
  obtain ⟨tb, lk, nf⟩ := side_ty (M := model X.prog X.w) I ry hy
  have hun := hr.un
  have hr1 : Room n X.A.in1 := hr.in1
  have one : wpAny (model X.prog X.w) X.A (tryCompare (.ref a) "__ne__" u) (fun r s' => ∃ v, r = some v ∧ EP X pins σ Q v s') X.xe s := by
    unfold tryCompare
    refine wpAny_bind (ifBound_blt I.kIn J hn ?_)
    refine wpAny_call (codeAny_call_builtin PySem.F.cmp_object.ne.plain PySem.F.cmpEntry_ne (PySem.W.check_slot PySem.F.cmpKind_ne PySem.F.cmpSplit_ne (J.type.andThen (PySem.W.looks_mroIn I.kIn hm)) (PySem.F.cmpArgs_ne _ _) ?_))
    refine entry_ne I.kIn J hs hf (by show X.A.units + 1 < cLine; omega) ?_
    refine wpAny_mono (run_in (vs := [V.ref a, y]) (us := [Value.ref a, u]) F hr1 I.env0.in1 hb hx I (.cons (show L2.RelV (V.ref a) (Value.ref a) from rfl) (.cons ry .nil)) q) (fun w s' z => ?_) fun _ _ x => x
    obtain ⟨z', H', I', rz, b, rfl, qz⟩ := z
    cases (show w = Value.bool b from rz)
    exact ⟨b, rfl, wpAny_pure ⟨_, rfl, .bl (!b), H', I', rfl, qz⟩⟩
  show wpAny _ _ (richCompare .NotEq (.ref a) u) _ _ _
  unfold richCompare
  simp only [oneThing_ref]
  refine wpAny_holding (wpAny_bind (wpAny_cRoomFor (by omega) ?_))
  refine wpAny_bind (J.type.here (wpAny_bind (lk.here ?_)))
  split
  · rename_i qq
    have e : PySem.W.subIn X.K tb (.ref C) = some false := by
      rcases Bool.or_eq_true_iff.mp nf with e | e
      · rw [beq_iff_eq.mp e] at qq; simp at qq
      · exact beq_iff_eq.mp e
    refine wpAny_bind ((PySem.W.looks_subIn I.kIn e).here ?_)
    simp only [Bool.false_eq_true, if_false]
    refine wpAny_bind (wpAny_mono one (fun r s' z => ?_) fun _ _ e => e)
    obtain ⟨v, rfl, hq⟩ := z
    exact wpAny_pure hq
  · refine wpAny_bind (wpAny_pure ?_)
    simp only [Bool.false_eq_true, if_false]
    refine wpAny_bind (wpAny_mono one (fun r s' z => ?_) fun _ _ e => e)
    obtain ⟨v, rfl, hq⟩ := z
    exact wpAny_pure hq
end
end Dr
namespace Dr
open PySem PySem.Spec PyProof.Rows L2
/-- one clause: its class, its name's slot, its suite's reading -/
structure Cl where
  c : Value
  i : Nat
  ts : Addr → Value → Option Addr → TS
/-- the ends of a suite: the name is gone -/
abbrev gone (i : Nat) (D : Ends) : Ends := { nx := fun x y => D.nx (x.set i none) y, rt := D.rt, bk := fun x y => D.bk (x.set i none) y, ct := fun x y => D.ct (x.set i none) y }
/-- what the clauses ask of what the body raises -/
def wCl (K : PySem.W.Frag) (O : WX) (D : Ends) : List Cl → WX
  | [] => O
  | k :: r => fun cls d σ H => ∃ b, PySem.W.exmOne K cls k.c = some b ∧ (b = true → ∀ a, H a = none → k.ts a cls d (gone k.i D) (σ.set k.i (some (.ref a))) H) ∧ (b = false → wCl K O D r cls d σ H)
inductive ClOk (X : Cx) : List ExceptHandler → List Cl → Prop
  | nil : ClOk X [] []
  | cons {x n : Str} {k : Cl} {s0 : Stmt} {ss : List Stmt} {p1 p2 : Pos} {hs : List ExceptHandler} {l : List Cl} (hi : X.N[k.i]? = some n) (hn : X.env.kindOf n = some .local) (hc : Names X x k.c)
      (su : ∀ (a : Addr) (o : Obj) (cls : Value) (d : Option Addr) (q : List (Addr × Obj)), Zc cls d o → (∃ vs, o.data = .fields vs) → PSs (X.suite a ((a, o) :: q)) (s0 :: ss) (k.ts a cls d)) (r : ClOk X hs l) :
      ClOk X (.ExceptHandler (some (.Name x p1)) (some n) (s0 :: ss) p2 :: hs) (k :: l)
section
variable {X : Cx} {body : List Stmt} {e0 : ExceptHandler} {es : List ExceptHandler} {l : List Cl} {pos : Pos} {tb : WX → TS} {O : WX}
theorem ps_try_cl (h1 : X.stack = X.env :: X.outer) (h2 : X.env.frame = some X.env.locals) (nd : X.N.Nodup) (tk : Takes X O)
    (hb : ∀ (W : WX) (q : List (Addr × Obj)) (xe : Value → Shared → Prop), Takes (X.tr q xe) W → PassesOwn (model X.prog X.w) X.A X.env xe → PSs (X.tr q xe) body (tb W))
    (hk : ClOk X (e0 :: es) l) : PS X (.Try body (e0 :: es) [] [] pos) (fun D σ H => tb (wCl X.K O D l) D σ H) := by
  refine ⟨fun q0 t0 σ0 H0 D I0 hw => ?_⟩
  have okX := I0.ok
  have frX : X.A.frames = some (X.env :: X.outer) := okX.frames.trans (congrArg some h1)
  refine wpAny_Try_except ?_
  have hrun := (hb (wCl X.K O D l) (X.pn ++ q0) (fun e t1 => wpAny (model X.prog X.w) X.A (noteFrame e X.env) (fun _ t2 => wpAny (model X.prog X.w) X.A (setFlight e none) (fun _ t3 => wpAny (model X.prog X.w) X.A (handleBy e X.env (e0 :: es)) (SP X q0 D) X.xe t3) X.xe t2) X.xe t1)
    (fun u t9 raised => ?caught) PassesOwn.looking).run [] t0 σ0 H0 D (I0.toTry _) hw
  case caught =>
    obtain ⟨a, B, tI, q1, σ1, H1, cls, d, rfl, J0, nb, up, sky, na, os, ag, ask⟩ := raised
    have J : Inv X q0 σ1 H1 tI := J0.ofTry okX
    have sky1 : Sky B (X.env :: X.outer) a (Zc cls d) X.env.locals t9.heap := h1 ▸ sky
    show wpAny (model X.prog X.w) X.A (noteFrame (.ref a) X.env) _ _ _
    refine Sky.land Zc.steady frX h2 sky1 fun g3 fl3 up3 => ?_
    have J3 : Inv X q0 σ1 H1 { t9 with heap := g3 } := J.landed nb fl3.1 (up.trans up3) os ag
    obtain ⟨o3, v3, at3, z3, dd3⟩ := fl3.there
    have apart : a ∉ frs (X.env :: X.outer) := fun hm => by
      obtain ⟨_, o', e', hnf⟩ := fl3.2.2.1.mem hm
      rw [at3] at e'
      cases e'
      exact hnf _ dd3
    have nL : a ≠ X.env.locals := fun z => apart (List.mem_filterMap.mpr ⟨X.env, List.mem_cons_self, h2.trans (congrArg some z.symm)⟩)
    have nF : a ∉ X.fs := fun hm => let ⟨e, he, q⟩ := List.mem_filterMap.mp hm; apart (List.mem_filterMap.mpr ⟨e, List.mem_cons_of_mem _ he, q⟩)
    have S3 := J3.suite at3 dd3 na nL nF
    have LT : PySem.W.Looks (model X.prog X.w) g3 (typeOf (.ref a)) cls := fun A Q E s k q => wpAny_typeOf_ref (k _ _ at3) (z3.1 ▸ q)
    have walk : ∀ {hs : List ExceptHandler} {m : List Cl}, ClOk X hs m → wCl X.K O D m cls d σ1 H1 → wpAny (model X.prog X.w) X.A (handleBy (.ref a) X.env hs) (SP X q0 D) X.xe { t9 with heap := g3 } := by
      intro hs m ok
      induction ok with
      | nil =>
        intro ask
        refine wpAny_handleBy_nil ?_
        obtain ⟨_, _, _, oe, vs, T, oT, _, he, hz, hd, hf1, _⟩ := id fl3
        unfold PySem.passOn
        refine wpAny_bind (wpAny_field he hd hf1 ?_)
        rw [if_neg (show ¬ ((Value.ref T == Value.none) = true) by simp)]
        have out : wpAny (model X.prog X.w) X.A (setFlight (.ref a) X.env.frame) (fun _ t4 => wpAny (model X.prog X.w) X.A (throw (.ref a) : Sem Flow) (SP X q0 D) X.xe t4) X.xe { t9 with heap := g3 } := by
          rw [h2]
          exact HandSPX.setFlight_upZ fl3 fun g4 hh4 up4 => wpAny_throw (tk _ _ ⟨a, B, tI, q0, σ1, H1, cls, d, rfl, J, nb, (up.trans up3).trans up4, .inr (.inr (h1.symm ▸ hh4)), na, os, ag, ask⟩)
        first
          | exact wpAny_bind (wpAny_pure (wpAny_bind out))
          | exact wpAny_bind out
      | @cons x n k s0 ss p1 p2 hs2 m2 hi hn hc su r ih =>
        intro ask
        obtain ⟨b, em, yes, no⟩ := ask
        refine wpAny_handleBy_cons (codeAny_handlers_test ?_) (by intro q; cases q)
        have LM := PySem.W.exm_one (M := model X.prog X.w) (J3.kIn) LT em
        have cl : ∀ {Q : Value → Shared → Prop} {E : Value → Shared → Prop}, Q k.c { t9 with heap := g3 } → wpAny (model X.prog X.w) (X.A.mark (some (.ref a))) (eval (.Name x p1) X.env) Q E { t9 with heap := g3 } := fun {Q E} q => by
          rcases hc with ⟨hg, hdbg, hm | ⟨hm, hv, hnn⟩⟩
          · exact ld_glob (X := X.suite a ((a, o3) :: (X.pn ++ q0))) S3 hg hm q hdbg
          · exact ld_blt (X := X.suite a ((a, o3) :: (X.pn ++ q0))) S3 hg hm hv q hnn hdbg
        refine cl (LM.here ?_)
        cases b with
        | false => exact ih (no rfl)
        | true =>
          refine codeAny_handlers_suite_as (HandSPX.lands_againZ fl3 fun g4 fl4 up4 => ?_)
          have J4 : Inv X q0 σ1 H1 { t9 with heap := g4 } := J.landed nb fl4.1 ((up.trans up3).trans up4) os ag
          obtain ⟨o4, v4, at4, z4, dd4⟩ := fl4.there
          have S4 := J4.suite at4 dd4 na nL nF
          refine store_ok (X := X.suite a ((a, o4) :: (X.pn ++ q0))) (v := .ref a) S4 nd hi (.inl hn) rfl (fun t5 S5 => ?_) (.inr hn)
          have close : ∀ {σ6 : L2.St} {H6 : Hp} {t6 : Shared} {Q : Shared → Prop}, Inv (X.suite a ((a, o4) :: (X.pn ++ q0))) [] σ6 H6 t6 → (∀ t7, Inv X q0 (σ6.set k.i none) H6 t7 → Q t7) →
              wpAny (model X.prog X.w) X.A (do bindName X.env n .none; unbindBehindTheSuite X.env n p2) (fun _ t7 => Q t7) X.xe t6 := fun S6 hq => gone_ok (S6.unsuite okX) nd hi hn hq
          refine wpAny_mono ((su a o4 cls d (X.pn ++ q0) z4 ⟨_, dd4⟩).run [] t5 _ H1 _ S5 (yes rfl a na)) (fun fl t6 en => ?_) (fun _ _ z => False.elim z)
          cases fl with
          | next => exact let ⟨_, _, S6, q6⟩ := en; close S6 fun t7 J7 => ⟨_, _, J7, q6⟩
          | brk => exact let ⟨_, _, S6, q6⟩ := en; close S6 fun t7 J7 => ⟨_, _, J7, q6⟩
          | cont => exact let ⟨_, _, S6, q6⟩ := en; close S6 fun t7 J7 => ⟨_, _, J7, q6⟩
          | ret u => exact let ⟨_, _, _, S6, r6, q6⟩ := en; close S6 fun t7 J7 => ⟨_, _, _, J7, r6, q6⟩
    exact walk hk ask
  refine wpAny_mono hrun (fun fl t1 en => ?_) (fun _ _ he => he)
  cases fl with
  | next => exact let ⟨_, _, J, q⟩ := en; wpAny_execs_nil ⟨_, _, J.ofTry okX, q⟩
  | brk => exact let ⟨_, _, J, q⟩ := en; ⟨_, _, J.ofTry okX, q⟩
  | cont => exact let ⟨_, _, J, q⟩ := en; ⟨_, _, J.ofTry okX, q⟩
  | ret u => exact let ⟨_, _, _, J, r, q⟩ := en; ⟨_, _, _, J.ofTry okX, r, q⟩
end
/-- C(e, .., k = v, ..) in a body whose raised exceptions are awaited -/
def tMkKS (C : Addr) (n m : Nat) (sp : Sp) (gV : List V → List V → List V) (E : L2.St → XK) (t tk : TA) : TE := fun σ H Q => t σ H fun vs H1 => tk σ H1 fun zs H2 => vs.length = n ∧ zs.length = m ∧ ∀ x dx, H2 x = none → H2 dx = none → dx ≠ x →
  sp (gV (.ref x :: vs) zs) (upd (upd H2 dx (.own x)) x (.ins C dx [])) (fun v H3 => v = .non ∧ Q (.ref x) H3) (E σ)
section
variable {X : Cx} {CX : CXT} {k n : Nat} {f C : Addr} {fd : FuncData} {ps ks : List Str} {sp : Sp} {E : L2.St → XK} {x : Str} {p pos : Pos} {e : Expr} {es : List Expr} {kws : List Keyword} {t tk : TA} {g : List Value → List Value → List Value} {gV : List V → List V → List V}
theorem pe_mkKS (M : Mk X.K C f) (F : FnOk X.prog X.w X.K X.mg X.base CX k f fd ps sp) (hr : Room (k + 1) X.A) (hg : Gl X x) (hm : X.mg x = some (.ref C)) (hb : KBn X.K fd ps (n + 1) ks g gV) (hx : ∀ σ, PassesAt CX X σ (E σ)) (ha : PA X (e :: es) t) (hk : PK X kws tk)
    (c1 : (backToKw pos (keywordEach kws X.env)).all (·.1.isSome) = true := by rfl) (c2 : (backToKw pos (keywordEach kws X.env)).filterMap (·.1) = ks := by rfl) (c3 : (x == ("__debug__" : Str)) = false := by decide)
    (c4 : starEach (e :: es) X.env = (false, eval e X.env) :: starEach es X.env := by rfl) (c5 : ((backTo pos (starEach (e :: es) X.env)).any (·.1) || (backToKw pos (keywordEach kws X.env)).any (·.1.isNone)) = false := by rfl) :
    PE X (.Call (.Name x p) (e :: es) kws pos) (tMkKS C n ks.length sp gV E t tk) := by
  refine ⟨fun pins s σ H Q I h => wpAny_Call_Name_kw (ld_glob I hg hm ?_ c3)⟩
  refine PySem.W.callWith_KW (h₀ := X.base) I.ok.mod.kin M.kp c1 (thn (ha.run pos pins s σ H _ I h) fun us s1 ⟨vs, H1, I1, r1, q1⟩ => ?_) c5 c4
  refine thn (hk.run pos pins s1 σ H1 _ I1 q1) fun ws s2 ⟨zs, H2, I2, r2, l1, l2, q2⟩ => ⟨I2.kIn, ?_⟩
  rw [c2]
  have hq := q2 (s2.heap.objs.size + 1) s2.heap.objs.size (I2.hok.fresh (Nat.le_succ _)) (I2.hok.fresh (Nat.le_refl _)) (Nat.ne_of_lt (Nat.lt_succ_self _))
  have I3 := Inv.made (C := C) I2
  have rS : Vals (V.ref (s2.heap.objs.size + 1) :: vs) (Value.ref (s2.heap.objs.size + 1) :: us) := .cons rfl r1
  have nS : (Value.ref (s2.heap.objs.size + 1) :: us).length = n + 1 := rS.length.symm.trans (congrArg Nat.succ l1)
  refine wpAny_call (make_map (f := f) I2.kIn M.makes M.init (beq_iff_eq.mp M.fn) (codeAny_mono (F.run _ X.stack _ _ ⟨Value.ref (s2.heap.objs.size + 1) :: us, ks.zip ws⟩ (g (Value.ref (s2.heap.objs.size + 1) :: us) ws) _ _ (E σ) (hr.make C us (ks.zip ws))
    (I3.env0.make C us (ks.zip ws)) (hb.to _ (Value.ref (s2.heap.objs.size + 1) :: us) ws I3.kIn nS (r2.length.symm.trans l2)) (hb.rel rS r2) hq) fun r s' hq' => ?_))
  cases r with
  | error er => exact hx σ pins _ _ er s' I3 hq'
  | ok fl =>
    cases fl with
    | ret u =>
      obtain ⟨v, H', I4, rv, ev, q3⟩ := I3.after hq'
      subst ev
      exact ⟨rv, ⟨V.ref (s2.heap.objs.size + 1), H', I4, rfl, q3⟩⟩
    | next => exact False.elim hq'
    | brk => exact False.elim hq'
    | cont => exact False.elim hq'
end
end Dr
namespace Dr
open PySem PySem.Spec PyProof.Rows L2
abbrev sECa : Stmt := inClass (topS 3) 0
abbrev sCInit : Stmt := inClass (topS 12) 0
abbrev sCEq : Stmt := inClass (topS 12) 1
abbrev psC : List Str := ["self", "methods", "changes", "passes"]
abbrev kwC : List (Str × V) := [("changes", .bl true), ("passes", .bl true)]
theorem scECa : FnScope ["self", "part"] ["self", "part"] (defScope sECa) := ⟨rfl, rfl, rfl, by decide +kernel, rfl, by decide +kernel, by decide +kernel⟩
theorem scCInit : FnScope psC psC (defScope sCInit) := ⟨rfl, rfl, rfl, by decide +kernel, rfl, by decide +kernel, by decide +kernel⟩
theorem scCEq : FnScope ["self", "other"] ["self", "other"] (defScope sCEq) := ⟨rfl, rfl, rfl, by decide +kernel, rfl, by decide +kernel, by decide +kernel⟩
theorem putF_len (f : Str) (v : V) : ∀ fs : List (Str × V), (putF f v fs).length ≤ fs.length + 1
  | [] => Nat.le_refl _
  | (g, u) :: r => by
    have := putF_len f v r
    show (if g = f then (g, v) :: r else (g, u) :: putF f v r).length ≤ _
    split <;> (rw [List.length_cons, List.length_cons]; omega)
/-- what stands of an error's class -/
structure Erc (K : PySem.W.Frag) (mg : Str → Option Value) (x f : Str) (C g : Addr) : Prop where
  oex : OexC K C
  no : PySem.W.findIn K (.ref C) f = some none
  init : PySem.W.findIn K (.ref C) "__init__" = some (some (.ref g))
  tyI : PySem.W.typeIn K (.ref g) = some (.type "function")
  mgC : mg x = some (.ref C)
/-- what stands of the class Callers -/
structure Clr (K : PySem.W.Frag) (mg : Str → Option Value) (C : Addr) : Prop where
  cl : Cls K C
  nM : NoAttr K C "methods"
  nC : NoAttr K C "changes"
  nP : NoAttr K C "passes"
  mgC : mg "Callers" = some (.ref C)
  ha : PySem.W.findIn K (.ref C) "__class__" = some (some (.builtin "object.__class__"))
  hn : PySem.W.specialIn K (.builtin "object.__class__") "__get__" = some (some (.builtin "getset_descriptor.__get__"))
  htk : PySem.W.takesIn K (.builtin "object.__class__") = some true
  hm : PySem.W.mroIn K C (.type "object") = some true
  isC : PySem.W.isClsIn K C = true
  tyC : PySem.W.typeIn K (.ref C) = some (.type "type")
theorem kit_self {K : PySem.W.Frag} (C : Addr) : PySem.W.kitOne K (.ref C) (.ref C) = some true := by
  unfold PySem.W.kitOne
  simp
theorem kit_own {K : PySem.W.Frag} {C : Addr} (h1 : PySem.W.isClsIn K C = true) (h2 : PySem.W.typeIn K (.ref C) = some (.type "type")) (d : PyData) : PySem.W.kitOne K (.type (tyD d)) (.ref C) = some false := by
  unfold PySem.W.kitOne
  have e : ((Value.type (tyD d)) == Value.ref C) = false := rfl
  rw [e]
  unfold PySem.W.kitCls
  unfold PySem.W.isClsIn at h1
  simp only [h1, h2, sub_D]
  simp
/-- the attributes of callers -/
def cF (vm vc vp : V) : List (Str × V) := putF "passes" vp (putF "changes" vc (putF "methods" vm []))
theorem cF_methods {vm vc vp : V} : (cF vm vc vp).lookup ("methods" : Str) = some vm := by
  unfold cF
  rw [lookup_putF, if_neg (by decide +kernel), lookup_putF, if_neg (by decide +kernel), lookup_putF, if_pos rfl]
theorem cF_changes {vm vc vp : V} : (cF vm vc vp).lookup ("changes" : Str) = some vc := by
  unfold cF
  rw [lookup_putF, if_neg (by decide +kernel), lookup_putF, if_pos rfl]
theorem cF_passes {vm vc vp : V} : (cF vm vc vp).lookup ("passes" : Str) = some vp := by
  unfold cF
  rw [lookup_putF, if_pos rfl]
/-- which part is refused -/
def isNonD : PyData → Bool
  | .none => true
  | _ => false
def cErr (dm dc dp : PyData) : Option Str := if (!isNonD dm && !arePairsD dm) = true then some "methods" else if isBoolD dc = false then some "changes" else if isBoolD dp = false then some "passes" else none
def few16 (d : PyData) : Prop := ∀ ds, d = .tuple ds → ds.length ≤ 16
section
variable {P : Program} {w : World} {K : PySem.W.Frag} {mg : Str → Option Value} {base : Heap}
def spExI (C : Addr) (f : Str) : Sp := fun vs H Q _ => ∃ (a : Addr) (y : V), vs = [.ref a, y] ∧ H a = some (exo a C none) ∧ ∀ d, H d = none → d ≠ a → Q .non (upd (upd H d (exd d [(f, y)])) a (exo a C (some d)))
theorem ok_eCa {x : Str} {C f : Addr} {fd : FuncData} (F : Fun K "__init__" "BadCallers.__init__" sECa f fd) (T : Erc K mg x "part" C f) : FnOk P w K mg base CX0 1 f fd ["self", "part"] (spExI C "part") := by
  refine F.ok scECa (fun vs H Q E h => ?_) (fun cdv A outer s H vs Q E hr h => ?_)
  · obtain ⟨a, y, rfl, _⟩ := h
    rfl
  · obtain ⟨a, y, rfl, ha, q⟩ := h
    exact ⟨_, pss_one (ps_ost (pv 0) (pv 1)), y, rfl, .ref a, rfl, a, C, rfl, T.oex, T.no, .inl ⟨ha, fun d nd ne => q d nd ne⟩⟩
/-- what a raise of such an error leaves -/
theorem ex_end {C a : Addr} {H : Hp} {f : Str} {y : V} {Q : XK} (na : H a = none) (q : ∀ d H', Same H H' → H' d = some (.xd [(f, y)]) → Q (.ref C) (some d) H') :
    spExI C f [.ref a, y] (upd H a (exo a C none)) (fun v H2 => v = .non ∧ ∃ (d : Addr) (fs : List (Str × V)), H2 a = some (exo a C (some d)) ∧ H2 d = some (exd d fs) ∧ H d = none ∧ Q (.ref C) (some d) (upd (del H2 a) d (.xd fs))) (fun _ _ _ => False) := by
  refine ⟨a, y, rfl, upd_same, fun d nd ne => ⟨rfl, d, [(f, y)], upd_same, by rw [upd_ne ne, upd_same], by rw [upd_ne ne] at nd; exact nd, q d _ (fun b o e => ?_) upd_same⟩⟩
  have n0 : H d = none := by
    rw [upd_ne ne] at nd
    exact nd
  have h1 : b ≠ d := ne_of_none e n0
  have h2 : b ≠ a := ne_of_none e na
  rw [upd_ne h1, del_ne h2, upd_ne h2, upd_ne h1, upd_ne h2]
  exact e
def errC (H : Hp) (E : XK) (c : Addr) (f : Str) (v : V) : Prop := ∀ d H', Same H H' → H' d = some (.xd [(f, v)]) → E (.ref c) (some d) H'
theorem errC.go {H H1 : Hp} {E : XK} {c : Addr} {f : Str} {v : V} (h : errC H E c f v) (s : Same H H1) : 1 ≤ 1000 ∧ ∀ a, H1 a = none → spExI c f [.ref a, v] (upd H1 a (exo a c none)) (fun v H2 => v = .non ∧ ∃ (d : Addr) (fs : List (Str × V)), H2 a = some (exo a c (some d)) ∧ H2 d = some (exd d fs) ∧ H1 d = none ∧ E (.ref c) (some d) (upd (del H2 a) d (.xd fs))) (fun _ _ _ => False) :=
  ⟨by decide, fun _ na => ex_end na fun d H' s' hd => h d H' (s.trans s') hd⟩
def spCI (K : PySem.W.Frag) (CC CE : Addr) : Sp := fun vs H Q E => ∃ (p dx : Addr) (vm vc vp : V) (dm dc dp : PyData), vs = [.ref p, vm, vc, vp] ∧ H p = some (.ins CC dx []) ∧ (Dp K H vm dm ∧ OkD dm ∧ few16 dm) ∧ Dp K H vc dc ∧ Dp K H vp dp ∧
  (∀ f, cErr dm dc dp = some f → errC H E CE "part" (.str f)) ∧ (cErr dm dc dp = none → ∀ H', (∀ b o, b ≠ p → H b = some o → H' b = some o) → H' p = some (.ins CC dx (cF vm vc vp)) → Q .non H')
theorem ok_ci {CC CE f fA gE : Addr} {fd fdA fdE : FuncData} {prm : Arguments} {dvs : List V} {kws : List (Str × V)} (F : FunD K "__init__" "Callers.__init__" prm (defBody sCInit) (defScope sCInit) dvs kws f fd) (W : Wds K mg) (T : Clr K mg CC)
    (GA : FnOk P w K mg base CX0 3 fA fdA ["thing"] (spArePairs K)) (mA : mg "are_pairs" = some (.ref fA)) (kA : PySem.W.keepIn K (.ref fA) = true) (bA : Binds K fdA ["thing"] [])
    (EC : Erc K mg "BadCallers" "part" CE gE) (GE : FnOk P w K mg base CX0 1 gE fdE ["self", "part"] (spExI CE "part")) (bE : Binds K fdE ["self", "part"] []) :
    FnOk P w K mg base (L2.CX P w) 4 f fd psC (spCI K CC CE) := by
  refine F.ok scCInit (fun vs H Q E h => ?_) (fun cdv A outer s H vs Q E hr h => ?_)
  · obtain ⟨p, dx, vm, vc, vp, dm, dc, dp, rfl, _⟩ := h
    rfl
  · obtain ⟨p, dx, vm, vc, vp, dm, dc, dp, rfl, hp, ⟨hm, okm, fm⟩, hc, hpp, qe, q⟩ := h
    have hr2 : Room 2 _ := hr.mono (by decide)
    refine ⟨_, C8.pss_cut (ps_if (PW.pt (pw_and (pt_cmpR op_notN (pv 1) pe_non (nomark _)) (pw_and1 (pt_not (pt_val (pe_call GA hr (by rfl) mA kA bA .nil pass0 (pa_cons (pv 1) pa_nil)))))))
          (pss_one (ps_raise rfl (takes_of rfl rfl rfl rfl) (pmk_oex EC.oex EC.init EC.tyI GE hr2 bE .nil pass0 (by rfl) EC.mgC (pa_cons pe_str pa_nil)))) pss_nil)
      (pss_cons (ps_if (pt_not (pt_val (pe_callB call_isi (by rfl) W.isi (by decide +kernel) (pa_cons (pv 2) (pa_cons (pe_bltn (v := .ty "bool") (by rfl) W.bool (by decide +kernel) rfl) pa_nil)))))
          (pss_one (ps_raise rfl (takes_of rfl rfl rfl rfl) (pmk_oex EC.oex EC.init EC.tyI GE hr2 bE .nil pass0 (by rfl) EC.mgC (pa_cons pe_str pa_nil)))) pss_nil)
      (pss_cons (ps_if (pt_not (pt_val (pe_callB call_isi (by rfl) W.isi (by decide +kernel) (pa_cons (pv 3) (pa_cons (pe_bltn (v := .ty "bool") (by rfl) W.bool (by decide +kernel) rfl) pa_nil)))))
          (pss_one (ps_raise rfl (takes_of rfl rfl rfl rfl) (pmk_oex EC.oex EC.init EC.tyI GE hr2 bE .nil pass0 (by rfl) EC.mgC (pa_cons pe_str pa_nil)))) pss_nil)
      (pss_cons (ps_fld (pv 0) (pv 1) rfl) (pss_cons (ps_fld (pv 0) (pv 2) rfl) (pss_one (ps_fld (pv 0) (pv 3) rfl)))))), ?_⟩
    have no : ∀ {α : Prop}, (!isNonD dm && !arePairsD dm) = false → cErr dm dc dp = (if isBoolD dc = false then some ("changes" : Str) else if isBoolD dp = false then some ("passes" : Str) else none) := fun {α} h => by
      unfold cErr
      rw [h]
      rfl
    refine ⟨fun σ1 H1 => σ1 = [some (.ref p), some vm, some vc, some vp] ∧ Same H H1 ∧ (!isNonD dm && !arePairsD dm) = false, ?_, fun σ1 H1 hM => ?_⟩
    · refine ⟨_, rfl, rfl, _, rfl, ite2 (fun k => ?_) (fun k => ⟨rfl, Same.refl _, ?_⟩)⟩
      · have hne : isNonD dm = false := by
          cases hm <;> first | rfl | (simp at k; done)
        refine ⟨_, rfl, vm, dm, rfl, hm, okm, fm, fun H1 s1 => ⟨_, rfl, ?_⟩⟩
        cases e : arePairsD dm with
        | false => exact iteT ((qe "methods" (by unfold cErr; rw [hne, e]; rfl)).go s1)
        | true => exact iteF ⟨rfl, s1, by simp⟩
      · have hv : vm = .non := by simpa using k
        subst hv
        cases hm
        rfl
    obtain ⟨rfl, s1, h1⟩ := hM
    have ec := no (α := True) h1
    rw [ec] at qe q
    refine ⟨_, rfl, vc, .ty "bool", _, _, _, rfl, .ty _, dp_ty (dp_same s1 hc), kit_bool dc, _, rfl, ?_⟩
    cases e1 : isBoolD dc with
    | false => exact iteT ((qe "changes" (by rw [e1]; rfl)).go s1)
    | true =>
    rw [e1] at qe q
    refine iteF ⟨_, rfl, vp, .ty "bool", _, _, _, rfl, .ty _, dp_ty (dp_same s1 hpp), kit_bool dp, _, rfl, ?_⟩
    cases e2 : isBoolD dp with
    | false => exact iteT ((qe "passes" (by rw [e2]; rfl)).go s1)
    | true =>
    rw [e2] at q
    have hp1 := s1 _ _ hp
    refine iteF ⟨_, rfl, _, rfl, p, CC, dx, _, rfl, hp1, T.cl, T.nM, (by show 0 < 1000; decide), ?_⟩
    refine ⟨_, rfl, _, rfl, p, CC, dx, _, rfl, upd_same, T.cl, T.nC, ?_, ?_⟩
    · exact Nat.lt_of_le_of_lt (putF_len _ _ _) (by show 1 < 1000; decide)
    refine ⟨_, rfl, _, rfl, p, CC, dx, _, rfl, upd_same, T.cl, T.nP, ?_, ?_⟩
    · exact Nat.lt_of_le_of_lt (Nat.le_trans (putF_len _ _ _) (Nat.succ_le_succ (putF_len _ _ _))) (by show 2 < 1000; decide)
    refine q rfl _ (fun b o e n => ?_) upd_same
    rw [upd_ne e, upd_ne e, upd_ne e]
    exact s1 _ _ n
/-- callers of these parts stand at a -/
def CAt (K : PySem.W.Frag) (CC : Addr) (H : Hp) (a : Addr) (dm dc dp : PyData) : Prop := ∃ dx vm vc vp, H a = some (.ins CC dx (cF vm vc vp)) ∧ Dp K H vm dm ∧ OkD dm ∧ Dp K H vc dc ∧ OkD dc ∧ Dp K H vp dp ∧ OkD dp
theorem CAt.same {CC : Addr} {H H' : Hp} {a : Addr} {dm dc dp : PyData} (h : CAt K CC H a dm dc dp) (s : Same H H') : CAt K CC H' a dm dc dp := by
  obtain ⟨dx, vm, vc, vp, h1, h2, o2, h3, o3, h4, o4⟩ := h
  exact ⟨dx, vm, vc, vp, s _ _ h1, dp_same s h2, o2, dp_same s h3, o3, dp_same s h4, o4⟩
def eqC (dm dc dp dm2 dc2 dp2 : PyData) : Bool := (PyData.eqv dm dm2 && PyData.eqv dc dc2) && PyData.eqv dp dp2
def spCEq (K : PySem.W.Frag) (CC : Addr) : Sp := fun vs H Q _ => ∃ (a : Addr) (dm dc dp : PyData) (y : V), vs = [.ref a, y] ∧ CAt K CC H a dm dc dp ∧
  ((∃ (b : Addr) (dm2 dc2 dp2 : PyData), y = .ref b ∧ CAt K CC H b dm2 dc2 dp2 ∧ Q (.bl (eqC dm dc dp dm2 dc2 dp2)) H) ∨ ∃ e : PyData, Dp K H y e ∧ Q (.bl false) H)
theorem ok_ceq {CC f : Addr} {fd : FuncData} (F : Fun K "__eq__" "Callers.__eq__" sCEq f fd) (W : Wds K mg) (T : Clr K mg CC) : FnOk P w K mg base CX0 1 f fd ["self", "other"] (spCEq K CC) := by
  refine F.ok scCEq (fun vs H Q E h => ?_) (fun cdv A outer s H vs Q E hr h => ?_)
  · obtain ⟨a, dm, dc, dp, y, rfl, _⟩ := h
    rfl
  · obtain ⟨a, dm, dc, dp, y, rfl, ⟨dx, vm, vc, vp, ha, hm, om, hc, oc, hp, op⟩, hy⟩ := h
    have hu : (A.deeper (envOfC "Callers.__eq__" (defScope sCEq) s.heap.objs.size f cdv)).units + 64 < cLine := hr.units
    refine ⟨_, pss_one (ps_ret (pe_and (pe_callB call_isi (by rfl) W.isi (by decide +kernel) (pa_cons (pv 1) (pa_cons (pe_glob (v := .ref CC) (by rfl) T.mgC rfl) pa_nil)))
      (pe_and (pe_cmpR (op_eqD hu) (pe_fld (pv 0) rfl) (pe_fld (pv 1) rfl) (nomark _)) (pe_and (pe_cmpR (op_eqD hu) (pe_fld (pv 0) rfl) (pe_fld (pv 1) rfl) (nomark _))
        (pe_one (pe_cmpR (op_eqD hu) (pe_fld (pv 0) rfl) (pe_fld (pv 1) rfl) (nomark _))))))), ?_⟩
    rcases hy with ⟨b, dm2, dc2, dp2, rfl, ⟨dy, vm2, vc2, vp2, hb, hm2, om2, hc2, oc2, hp2, op2⟩, q⟩ | ⟨e, he, q⟩
    · refine ⟨_, rfl, _, .ref CC, _, _, true, rfl, .own CC, .base (.ins hb T.cl T.ha T.hn T.htk T.hm), kit_self CC, _, rfl, iteT ?_⟩
      refine ⟨_, rfl, a, CC, dx, _, _, rfl, ha, T.cl, T.nM, cF_methods, _, rfl, b, CC, dy, _, _, rfl, hb, T.cl, T.nM, cF_methods, dm, dm2, hm, hm2, om.sh, om2.sh, _, rfl, ?_⟩
      unfold eqC at q
      cases e1 : PyData.eqv dm dm2 with
      | false =>
        rw [e1] at q
        exact iteF q
      | true =>
      rw [e1] at q
      refine iteT ⟨_, rfl, a, CC, dx, _, _, rfl, ha, T.cl, T.nC, cF_changes, _, rfl, b, CC, dy, _, _, rfl, hb, T.cl, T.nC, cF_changes, dc, dc2, hc, hc2, oc.sh, oc2.sh, _, rfl, ?_⟩
      cases e2 : PyData.eqv dc dc2 with
      | false =>
        rw [e2] at q
        exact iteF q
      | true =>
      rw [e2] at q
      exact iteT ⟨_, rfl, a, CC, dx, _, _, rfl, ha, T.cl, T.nP, cF_passes, _, rfl, b, CC, dy, _, _, rfl, hb, T.cl, T.nP, cF_passes, dp, dp2, hp, hp2, op.sh, op2.sh, q⟩
    · exact ⟨_, rfl, y, .ref CC, _, _, false, rfl, .own CC, dp_ty he, kit_own T.isC T.tyC e, _, rfl, iteF q⟩
end
end Dr
namespace Dr
open PySem PySem.Spec PyProof.Rows L2
open SX (S S_len S_cat)
abbrev sNames : Stmt := topS 16
abbrev nNames : List Str := ["_law_bag_here", "_law_many", "_law_letters", "_law_kept", "_law_shift", "_law_spare", "_law_found", "_law_k", "_law_word", "_law_j"]
theorem scNames : FnScope nNames ["_law_bag_here", "_law_many"] (defScope sNames) := ⟨rfl, rfl, rfl, by decide +kernel, rfl, by decide +kernel, by decide +kernel⟩
def letters : List Nat := [97, 98, 99, 100, 101, 102, 103, 104, 105, 106, 107, 108, 109, 110, 111, 112, 113, 114, 115, 116, 117, 118, 119, 120, 121, 122]
theorem az_eq : ("abcdefghijklmnopqrstuvwxyz" : Str) = S letters := by decide +kernel
theorem letters_low : ∀ c ∈ letters, lowC c = true := by decide +kernel
def kept : Str := "marks kind value def return none copy if unless in is mark box once anew early late cls self method"
theorem kept_split : Txt.split kept " " = barred := by decide +kernel
def barL : List (List Nat) := barred.map fun z => z.cps.toList
theorem barL_short : ∀ y ∈ barL, y.length ≤ 6 := by decide +kernel
theorem barL_two : (barL.all fun y => match y.reverse with | a :: b :: r => !(a == b) || !(barL.contains r.reverse) | _ => true) = true := by decide +kernel
theorem bar_mem {cs : List Nat} : barred.contains (S cs) = barL.contains cs := by
  rw [Bool.eq_iff_iff, List.contains_iff_mem, List.contains_iff_mem]
  refine ⟨fun h => List.mem_map.mpr ⟨S cs, h, rfl⟩, fun h => ?_⟩
  obtain ⟨z, hz, e⟩ := List.mem_map.mp h
  have e2 : z = S cs := by rw [← SX.S_tl z, e]
  exact e2 ▸ hz
theorem name_plain {cs : List Nat} (low : cs.all lowC = true) (l1 : 1 ≤ cs.length) (l2 : cs.length ≤ 8) (nb : barL.contains cs = false) : nameOk (S cs) = true := by
  unfold nameOk
  rw [bar_mem, nb, S_len, decide_eq_true l1, decide_eq_true l2]
  exact low
theorem name_more {cs : List Nat} {c : Nat} (low : cs.all lowC = true) (lc : lowC c = true) (b : barL.contains cs = true) : nameOk (S (cs ++ [c] ++ [c])) = true := by
  have hm := List.contains_iff_mem.mp b
  have hl := barL_short cs hm
  refine name_plain (by rw [List.all_append, List.all_append, low, List.all_cons, lc]; rfl) (by simp) (by simp; omega) ?_
  cases h : barL.contains (cs ++ [c] ++ [c]) with
  | false => rfl
  | true =>
    have q := List.all_eq_true.mp barL_two _ (List.contains_iff_mem.mp h)
    rw [List.reverse_append, List.reverse_append] at q
    have e : [c].reverse ++ ([c].reverse ++ cs.reverse) = c :: c :: cs.reverse := rfl
    rw [e] at q
    dsimp only at q
    rw [List.reverse_reverse, b, beq_self_eq_true] at q
    cases q
theorem joinL_nil : ∀ ys : List (List Nat), TL.joinL [] ys = ys.flatten
  | [] => rfl
  | [x] => by simp [TL.joinL]
  | x :: y :: r => by
    have ih := joinL_nil (y :: r)
    simp only [TL.joinL, List.flatten_cons, List.append_nil] at ih ⊢
    simp [ih]
theorem join_signs (cs : List Nat) : Txt.join "" (cs.map fun c => S [c]) = S cs := by
  have e : (cs.map fun c => S [c]) = (cs.map fun c => [c]).map S := by rw [List.map_map]; rfl
  rw [e, show ("" : Str) = S [] from rfl, SX.join_S, joinL_nil]
  congr 2
  induction cs with
  | nil => rfl
  | cons c r ih => rw [List.map_cons, List.flatten_cons, ih (by rw [List.map_map]; rfl)]; rfl
def txts (l : List (List Nat)) : List V := l.map fun cs => V.str (S cs)
theorem letter_at {r : Int} (h0 : 0 ≤ r) (h1 : r < 26) : ∃ c, atI (S letters).cps.toList r = some c ∧ lowC c = true := by
  obtain ⟨j, rfl⟩ : ∃ j : Nat, r = (j : Int) := ⟨r.toNat, by omega⟩
  have hj : j < letters.length := by
    show j < 26
    omega
  exact ⟨letters[j], atI_nat (List.getElem?_eq_getElem hj), letters_low _ (List.getElem_mem hj)⟩
section
variable {P : Program} {w : World} {K : PySem.W.Frag} {mg : Str → Option Value} {base : Heap}
def spNames (K : PySem.W.Frag) : Sp := fun vs H Q _ => ∃ (p : Addr) (m : Nat), vs = [.ref p, .int (m : Int)] ∧ Bag H p ∧ m ≤ 20 ∧
  ∀ H' q zs, Kp p H H' → H q = none → H' q = some (.lst (txts zs)) → zs.length = m → (∀ z ∈ zs, nameOk (S z) = true) → Q (.ref q) H'
theorem ok_names {f fD : Addr} {fd fdD : FuncData} (F : Fun K "_law_names" "_law_names" sNames f fd) (T : Blt mg)
    (GD : FnOk P w K mg base CX0 1 fD fdD ["_law_bag_here", "_law_many"] spDraw) (mD : mg "_law_draw" = some (.ref fD)) (kD : PySem.W.keepIn K (.ref fD) = true) (bD : Binds K fdD ["_law_bag_here", "_law_many"] []) :
    FnOk P w K mg base CX0 2 f fd ["_law_bag_here", "_law_many"] (spNames K) := by
  refine F.ok scNames (fun vs H Q E h => ?_) (fun cdv A outer s H vs Q E hr h => ?_)
  · obtain ⟨p, m, rfl, _⟩ := h
    rfl
  · obtain ⟨p, m, rfl, hB, hm, q⟩ := h
    refine ⟨_, pss_cons (ps_set (i := 2) scNames.nd rfl (.inr rfl) pe_str)
      (pss_cons (ps_set (i := 3) scNames.nd rfl (.inl rfl) pe_str)
      (pss_cons (ps_set (i := 4) scNames.nd rfl (.inl rfl) (pe_call GD hr (by rfl) mD kD bD .nil pass0 (pa_cons (pv 0) (pa_cons pe_int pa_nil))))
      (pss_cons (ps_set (i := 5) scNames.nd rfl (.inl rfl) (pe_ix ix_str (pv 2) (pe_op op_mod (pe_callTy call_int1 (by rfl) T.int (by decide +kernel) (pa_cons (pe_op op_add (pv 4) (pv 1)) pa_nil)) pe_int) (fun _ _ => rfl)))
      (pss_cons (ps_set (i := 6) scNames.nd rfl (.inl rfl) (pe_lst pa_nil))
      (pss_cons (ps_for PassesOwn.never rfl (pi_range1 rfl T.ran (pa_cons (pv 1) pa_nil)) (pg_name (i := 7) scNames.nd rfl (.inl rfl))
        (pss_cons (ps_set (i := 8) scNames.nd rfl (.inl rfl) (pe_join pe_str
            (pe_lc (own := [("_law_j", 9)]) (g := gName 9) (tt := tYes) rfl scNames.nd (pi_range1 rfl T.ran (pa_cons (pe_call GD hr (by rfl) mD kD bD .nil pass0 (pa_cons (pv 0) (pa_cons pe_int pa_nil))) pa_nil)) (blkOk_by (N := nNames) (sc := defScope sNames) (by decide +kernel)) (fun _ _ _ _ _ => pg_name (i := 9) scNames.nd rfl (Or.inl rfl)) (fun _ _ _ _ _ => pts_nil)
              (fun _ _ _ _ _ => pe_ix ix_str (pv 2) (pe_call GD hr (by rfl) mD kD bD .nil pass0 (pa_cons (pv 0) (pa_cons pe_int pa_nil))) (fun _ _ => rfl)))))
        (pss_cons (ps_set (i := 8) scNames.nd rfl (.inl rfl) (pe_op op_add_str (pv 8) (pe_ix ix_str (pv 2) (pe_op op_mod (pe_callTy call_int1 (by rfl) T.int (by decide +kernel) (pa_cons (pe_op op_add (pv 4) (pv 7)) pa_nil)) pe_int) (fun _ _ => rfl))))
        (pss_one (ps_expr (pe_bm PySem.F.plainAttrs_list PySem.F.slot_list_append PySem.F.type_list_append mt_append (pv 6) (pa_cons
          (pe_ifExp (pt_cmpR op_in_seq (pv 8) (pe_split (pv 3) pe_str) rfl) (pe_op op_add_str (pe_op op_add_str (pv 8) (pv 5)) (pv 5)) (pv 8)) pa_nil)))))))
      (pss_one (ps_ret (pv 6)))))))), ?_⟩
    refine ⟨_, rfl, p, 26, rfl, hB, by decide, by decide, fun H1 shift k1 s0 s26 => ?_⟩
    obtain ⟨sp, hsp, lsp⟩ := letter_at (r := (shift + (m : Int)) % 26) (Int.emod_nonneg _ (by decide)) (Int.emod_lt_of_pos _ (by decide))
    refine ⟨_, rfl, _, rfl, _, rfl, shift, (m : Int), rfl, rfl, .inl ⟨_, rfl, _, _, rfl, rfl, (by show (0 : Int) < 26; decide), S letters, _, sp, congrArg V.str az_eq, rfl, by rw [S_len, sizeLine_eq]; decide, hsp, ?_⟩⟩
    refine ⟨Nat.zero_le _, fun g ng => ?_⟩
    have gp : g ≠ p := k1.2.ne ng
    have g0 : H g = none := k1.none gp ng
    have sg := same_upd (o := .lst []) ng
    refine ⟨_, rfl, (m : Int), rfl, by omega, by omega, for_it walk_range (fun i σ H3 => Kp p H H3 ∧ ∃ (zs : List (List Nat)) (y7 y8 : Option V), σ = [some (.ref p), some (.int (m : Int)), some (.str "abcdefghijklmnopqrstuvwxyz"), some (.str kept), some (.int shift), some (.str (S [sp])), some (.ref g), y7, y8, none] ∧ H3 g = some (.lst (txts zs)) ∧ zs.length = i ∧ ∀ z ∈ zs, nameOk (S z) = true)
      ⟨k1.same sg, [], _, _, rfl, upd_same, rfl, fun z hz => by cases hz⟩ (fun _ _ _ _ _ => trivial) ?_ ?_⟩
    · rintro i x σ H3 H4 hi ⟨k3, zs, y7, y8, rfl, hg, hl, hz⟩ ⟨rfl, rfl⟩
      have hi20 : i < 20 := by
        have : i < ((m : Nat) : Int).toNat := hi
        omega
      refine ⟨⟨_, rfl⟩, _, rfl, p, 7, rfl, k3.2, by decide, by decide, fun H4 r k4 r0 r7 => ⟨r, rfl, by omega, by omega, fun D hD => ?_⟩⟩
      have Dp' : D ≠ p := k4.2.ne hD
      have hg4 := k4.1 _ _ gp hg
      refine lc_it walk_range (fun j H5 => Kp p H4 H5 ∧ ∃ cs : List Nat, H5 D = some (.lst (cs.map fun c => V.str (S [c]))) ∧ cs.length = j ∧ cs.all lowC = true) ⟨Kp.of k4.2 (same_upd hD), [], upd_same, rfl, rfl⟩ (fun _ _ _ _ => trivial) ?_ ?_
      · rintro j y H5 H6 hj ⟨k5, cs, hc, lc, low⟩ ⟨rfl, rfl⟩
        have hj7 : j < 7 := by
          have : j < r.toNat := hj
          omega
        refine ⟨rfl, ?_⟩
        unfold tYes
        refine iteT ⟨_, rfl, _, rfl, p, 26, rfl, k5.2, by decide, by decide, fun H7 t k7 t0 t26 => ?_⟩
        obtain ⟨c, hc1, lc1⟩ := letter_at t0 t26
        refine ⟨S letters, _, c, congrArg V.str az_eq, rfl, by rw [S_len, sizeLine_eq]; decide, hc1, ?_⟩
        refine ⟨_, k7.1 _ _ Dp' hc, by rw [List.length_map]; exact small1000 (by omega), ⟨fun b o n e => ?_, ?_⟩, cs ++ [c], ?_, by rw [List.length_append, lc]; rfl, by rw [List.all_append, low, List.all_cons, lc1]; rfl⟩
        · rw [upd_ne (ne_of_none e hD)]
          exact k7.1 _ _ n (k5.1 _ _ n e)
        · obtain ⟨u, v, w2, ns, hp, hb⟩ := k7.2
          exact ⟨u, v, w2, ns, by rw [upd_ne Dp'.symm]; exact hp, hb⟩
        · rw [upd_same, List.map_append]
          rfl
      · rintro H5 ⟨k5, cs, hc, lc, low⟩
        have lc7 : cs.length ≤ 6 := by
          rw [lc]
          omega
        have emap : (cs.map fun c => V.str (S [c])) = (cs.map fun c => S [c]).map V.str := by rw [List.map_map]; rfl
        refine ⟨_, D, cs.map fun c => S [c], rfl, rfl, .inl (SqL.of (by rw [← emap]; exact hc)), ?_, ?_⟩
        · have one : ∀ l : List Nat, ((l.map fun c => S [c]).map (·.length)).sum = l.length := fun l => by
            induction l with
            | nil => rfl
            | cons c r ih =>
              rw [List.map_cons, List.map_cons, List.sum_cons, ih, List.length_cons, S_len]
              show 1 + r.length = _
              omega
          rw [one, List.length_map]
          show cs.length + cs.length * 0 ≤ _
          omega
        rw [join_signs]
        obtain ⟨c, hc1, lc1⟩ := letter_at (r := (shift + (0 + (i : Int))) % 26) (Int.emod_nonneg _ (by decide)) (Int.emod_lt_of_pos _ (by decide))
        have low1 : (cs ++ [c]).all lowC = true := by rw [List.all_append, low, List.all_cons, lc1]; rfl
        have len1 : (cs ++ [c]).length ≤ 7 := by rw [List.length_append]; show cs.length + 1 ≤ 7; omega
        refine ⟨_, rfl, _, rfl, _, rfl, _, rfl, shift, _, rfl, rfl, .inl ⟨_, rfl, _, _, rfl, rfl, (by show (0 : Int) < 26; decide), S letters, _, c, congrArg V.str az_eq, rfl, by rw [S_len, sizeLine_eq]; decide, hc1, ?_⟩⟩
        refine ⟨_, _, rfl, rfl, ?_, ?_⟩
        · rw [S_len, S_len]
          exact Nat.le_of_lt (small1000 (by show cs.length + 1 ≤ 1000; omega))
        rw [S_cat]
        have kk : Kp p H H5 := (k3.trans k4).trans k5
        have hg5 := k5.1 _ _ gp hg4
        refine ⟨_, rfl, .inl ⟨rfl, _, SqL.of hg5⟩, _, rfl, _, rfl, ⟨_, rfl⟩, kept, " ", rfl, rfl, rfl, by rw [sizeLine_eq]; decide +kernel, fun t nt => ?_⟩
        have st := same_upd (o := .lst (barred.map V.str)) nt
        have fin : ∀ ws : List Nat, (txts zs).length < sizeLine ∧ Kp p H (upd (upd H5 t (.lst (barred.map V.str))) g (.lst (txts zs ++ [V.str (S ws)]))) ∧ (upd (upd H5 t (.lst (barred.map V.str))) g (.lst (txts zs ++ [V.str (S ws)]))) g = some (.lst (txts (zs ++ [ws]))) := fun ws => by
          refine ⟨?_, ⟨fun b o n e => ?_, ?_⟩, ?_⟩
          · unfold txts
            rw [List.length_map, hl]
            exact small1000 (by omega)
          · rw [upd_ne (ne_of_none e g0)]
            exact st _ _ (kk.1 _ _ n e)
          · obtain ⟨u, v, w2, ns, hp, hb⟩ := kk.2
            exact ⟨u, v, w2, ns, by rw [upd_ne gp.symm]; exact st _ _ hp, hb⟩
          · rw [upd_same]
            unfold txts
            rw [List.map_append]
            rfl
        have okz : ∀ ws : List Nat, nameOk (S ws) = true → ∀ z ∈ zs ++ [ws], nameOk (S z) = true := fun ws ok z hz2 => by
          rcases List.mem_append.mp hz2 with h | h
          · exact hz z h
          · rw [List.mem_singleton.mp h]
            exact ok
        refine ⟨t, _, rfl, .inl (SqL.of upd_same), rfl, flat_strs _, _, rfl, ?_⟩
        show if inV (V.str (S (cs ++ [c]))) ((Txt.split kept " ").map V.str) = true then _ else _
        rw [in_strs, kept_split, bar_mem]
        cases hb : barL.contains (cs ++ [c]) with
        | true =>
          refine iteT ⟨_, rfl, _, rfl, _, _, rfl, rfl, ?_, _, rfl, _, _, rfl, rfl, ?_, ?_⟩
          · rw [S_len, S_len]
            exact Nat.le_of_lt (small1000 (by show _ + 1 ≤ 1000; omega))
          · rw [S_cat, S_len, S_len, List.length_append]
            exact Nat.le_of_lt (small1000 (by show _ + 1 + 1 ≤ 1000; omega))
          · rw [S_cat, S_cat]
            exact ⟨g, _, _, rfl, rfl, st _ _ hg5, (fin (cs ++ [c] ++ [sp] ++ [sp])).1, (fin (cs ++ [c] ++ [sp] ++ [sp])).2.1, _, _, _, rfl, (fin (cs ++ [c] ++ [sp] ++ [sp])).2.2, by rw [List.length_append, hl]; rfl, okz _ (name_more low1 lsp hb)⟩
        | false => exact iteF ⟨_, rfl, g, _, _, rfl, rfl, st _ _ hg5, (fin (cs ++ [c])).1, (fin (cs ++ [c])).2.1, _, _, _, rfl, (fin (cs ++ [c])).2.2, by rw [List.length_append, hl]; rfl, okz _ (name_plain low1 (by simp) (by omega) hb)⟩
    · rintro σ H3 ⟨k3, zs, y7, y8, rfl, hg, hl, hz⟩
      have hl' : zs.length = m := by
        rw [hl]
        show ((m : Nat) : Int).toNat = m
        omega
      exact ⟨_, rfl, q _ g zs k3 g0 hg hl' hz⟩
end
end Dr
namespace Dr
open PySem PySem.Spec PyProof.Rows L2
open SX (S S_len S_cat)
abbrev sPD : Stmt := topS 17
abbrev sLA : Stmt := topS 18
abbrev nPD : List Str := ["_law_bag_here", "_law_names_here", "_law_found", "_law_k"]
abbrev nLA : List Str := ["_law_thing", "_law_names_here", "_law_k", "_law_pair"]
theorem scPD : FnScope nPD ["_law_bag_here", "_law_names_here"] (defScope sPD) := ⟨rfl, rfl, rfl, by decide +kernel, rfl, by decide +kernel, by decide +kernel⟩
theorem scLA : FnScope nLA ["_law_thing", "_law_names_here"] (defScope sLA) := ⟨rfl, rfl, rfl, by decide +kernel, rfl, by decide +kernel, by decide +kernel⟩
/-- tuples stay -/
def TupE (H H' : Hp) : Prop := ∀ b xs, H b = some (.tup xs) → H' b = some (.tup xs)
theorem TupE.refl (H : Hp) : TupE H H := fun _ _ e => e
theorem TupE.trans {H H1 H2 : Hp} (a : TupE H H1) (b : TupE H1 H2) : TupE H H2 := fun c xs e => b c xs (a c xs e)
theorem TupE.same {H H' : Hp} (s : Same H H') : TupE H H' := fun c xs e => s _ _ e
theorem TupE.kp {p : Addr} {H H' : Hp} (hB : Bag H p) (k : Kp p H H') : TupE H H' := fun c xs e => k.1 _ _ (fun z => by
  obtain ⟨u, v, w, ns, hp, _⟩ := hB
  rw [z, hp] at e
  cases e) e
theorem TupE.grow {H : Hp} {l : Addr} {us ys : List V} (hl : H l = some (.lst us)) : TupE H (upd H l (.lst ys)) := fun c xs e => by
  rw [upd_ne (fun z => by rw [z, hl] at e; cases e)]
  exact e
/-- drawn pairs stand -/
inductive PrsAt (H : Hp) : List Addr → List (Str × Str) → Prop
  | nil : PrsAt H [] []
  | cons {a q as qs} : H a = some (.tup [.str q.1, .str q.2]) → PrsAt H as qs → PrsAt H (a :: as) (q :: qs)
theorem PrsAt.ext {H H' : Hp} (s : TupE H H') {as : List Addr} {qs : List (Str × Str)} (h : PrsAt H as qs) : PrsAt H' as qs := by
  induction h with
  | nil => exact .nil
  | cons h _ ih => exact .cons (s _ _ h) ih
theorem PrsAt.len {H : Hp} {as : List Addr} {qs : List (Str × Str)} (h : PrsAt H as qs) : as.length = qs.length := by
  induction h with
  | nil => rfl
  | cons _ _ ih => rw [List.length_cons, List.length_cons, ih]
theorem PrsAt.snoc {H : Hp} {as : List Addr} {qs : List (Str × Str)} {a : Addr} {q : Str × Str} (h : PrsAt H as qs) (ha : H a = some (.tup [.str q.1, .str q.2])) : PrsAt H (as ++ [a]) (qs ++ [q]) := by
  induction h with
  | nil => exact .cons ha .nil
  | cons h _ ih => exact .cons h ih
def prD (q : Str × Str) : PyData := .tuple [.str q.1, .str q.2]
theorem PrsAt.dp {K : PySem.W.Frag} {H : Hp} {as : List Addr} {qs : List (Str × Str)} (h : PrsAt H as qs) : DpAll K H (as.map V.ref) (qs.map prD) := by
  induction h with
  | nil => exact .nil
  | cons h _ ih => exact .cons (.tup (SqT.of h) (.cons (.str _) (.cons (.str _) .nil))) ih
theorem Kp.seq {K : PySem.W.Frag} {p a : Addr} {H H' : Hp} {xs : List V} (k : Kp p H H') (n : a ≠ p) (h : SqL K H a xs) : SqL K H' a xs := by
  rcases h with (h | ⟨o, h⟩) | h
  · exact .inl (.inl (k.1 _ _ n h))
  · exact .inl (.inr ⟨o, k.1 _ _ n h⟩)
  · exact .inr h
/-- the names stand in a list -/
structure Nms (H : Hp) (u p : Addr) (zs : List (List Nat)) : Prop where
  at_ : H u = some (.lst (txts zs))
  np : u ≠ p
  ne : 4 ≤ zs.length
  le : zs.length ≤ 20
  ok : ∀ z ∈ zs, nameOk (S z) = true
theorem Nms.kp {H H' : Hp} {u p : Addr} {zs : List (List Nat)} (n : Nms H u p zs) (k : Kp p H H') : Nms H' u p zs := ⟨k.1 _ _ n.np n.at_, n.np, n.ne, n.le, n.ok⟩
theorem Nms.same {H H' : Hp} {u p : Addr} {zs : List (List Nat)} (n : Nms H u p zs) (s : Same H H') : Nms H' u p zs := ⟨s _ _ n.at_, n.np, n.ne, n.le, n.ok⟩
theorem nms_at {zs : List (List Nat)} {r : Int} (h0 : 0 ≤ r) (h1 : r < (zs.length : Int)) : ∃ z, z ∈ zs ∧ atI (txts zs) r = some (.str (S z)) := by
  obtain ⟨j, rfl⟩ : ∃ j : Nat, r = (j : Int) := ⟨r.toNat, by omega⟩
  have hj : j < zs.length := by omega
  exact ⟨zs[j], List.getElem_mem hj, atI_nat (by unfold txts; rw [List.getElem?_map, List.getElem?_eq_getElem hj]; rfl)⟩
theorem two_le : 2 ≤ sizeLine := by
  rw [sizeLine_eq]
  decide
theorem txts_len (zs : List (List Nat)) : (txts zs).length = zs.length := List.length_map _
section
variable {P : Program} {w : World} {K : PySem.W.Frag} {mg : Str → Option Value} {base : Heap}
def spPD (K : PySem.W.Frag) : Sp := fun vs H Q _ => ∃ (p u : Addr) (zs : List (List Nat)), vs = [.ref p, .ref u] ∧ Bag H p ∧ Nms H u p zs ∧
  ∀ H' t as qs, Kp p H H' → H t = none → H' t = some (.tup (as.map V.ref)) → PrsAt H' as qs → qs.length ≤ 4 → (∀ q ∈ qs, ∃ a ∈ zs, ∃ b ∈ zs, q = (S a, S b)) → Q (.ref t) H'
theorem ok_pd {f fD : Addr} {fd fdD : FuncData} (F : Fun K "_law_pairs_drawn" "_law_pairs_drawn" sPD f fd) (T : Blt mg) (htu : mg "tuple" = none)
    (GD : FnOk P w K mg base CX0 1 fD fdD ["_law_bag_here", "_law_many"] spDraw) (mD : mg "_law_draw" = some (.ref fD)) (kD : PySem.W.keepIn K (.ref fD) = true) (bD : Binds K fdD ["_law_bag_here", "_law_many"] []) :
    FnOk P w K mg base CX0 2 f fd ["_law_bag_here", "_law_names_here"] (spPD K) := by
  refine F.ok scPD (fun vs H Q E h => ?_) (fun cdv A outer s H vs Q E hr h => ?_)
  · obtain ⟨p, u, zs, rfl, _⟩ := h
    rfl
  · obtain ⟨p, u, zs, rfl, hB, hN, q⟩ := h
    refine ⟨_, pss_cons (ps_set (i := 2) scPD.nd rfl (.inl rfl) (pe_lst pa_nil))
      (pss_cons (ps_for PassesOwn.never rfl (pi_range1 rfl T.ran (pa_cons (pe_call GD hr (by rfl) mD kD bD .nil pass0 (pa_cons (pv 0) (pa_cons pe_int pa_nil))) pa_nil)) (pg_name (i := 3) scPD.nd rfl (.inl rfl))
        (pss_one (ps_expr (pe_bm PySem.F.plainAttrs_list PySem.F.slot_list_append PySem.F.type_list_append mt_append (pv 2) (pa_cons
          (pe_tup (pa_cons (pe_ix ix_list (pv 1) (pe_call GD hr (by rfl) mD kD bD .nil pass0 (pa_cons (pv 0) (pa_cons (pe_callB call_len_seq (by rfl) T.len PySem.boot_len (pa_cons (pv 1) pa_nil)) pa_nil))) (fun _ _ => rfl))
            (pa_cons (pe_ix ix_list (pv 1) (pe_call GD hr (by rfl) mD kD bD .nil pass0 (pa_cons (pv 0) (pa_cons (pe_callB call_len_seq (by rfl) T.len PySem.boot_len (pa_cons (pv 1) pa_nil)) pa_nil))) (fun _ _ => rfl)) pa_nil))) pa_nil)))))
      (pss_one (ps_ret (pe_callTy call_tuple_of (by rfl) htu (by decide +kernel) (pa_cons (pv 2) pa_nil))))), ?_⟩
    refine ⟨Nat.zero_le _, fun g ng => ?_⟩
    have gp := hB.ne ng
    have sg := same_upd (o := .lst []) ng
    have k1 : Kp p H (upd H g (.lst [])) := Kp.of hB sg
    refine ⟨_, rfl, p, 5, rfl, k1.2, by decide, by decide, fun H2 r k2 r0 r5 => ⟨r, rfl, by omega, by omega, for_it walk_range (fun i σ H3 => Kp p H H3 ∧ ∃ (as : List Addr) (qs : List (Str × Str)) (y : Option V), σ = [some (.ref p), some (.ref u), some (.ref g), y] ∧ H3 g = some (.lst (as.map V.ref)) ∧ PrsAt H3 as qs ∧ qs.length = i ∧ ∀ q ∈ qs, ∃ a ∈ zs, ∃ b ∈ zs, q = (S a, S b))
      ⟨k1.trans k2, [], [], _, rfl, k2.1 _ _ gp upd_same, .nil, rfl, fun q hq => by cases hq⟩ (fun _ _ _ _ _ => trivial) ?_ ?_⟩⟩
    · rintro i x σ H3 H4 hi ⟨k3, as, qs, y, rfl, hg, hP, hl, hq⟩ ⟨rfl, rfl⟩
      have hi5 : i < 5 := by
        have : i < r.toNat := hi
        omega
      have hN3 := hN.kp k3
      refine ⟨_, rfl, .inl ⟨rfl, _, SqL.of hg⟩, _, rfl, _, rfl, _, rfl, u, _, rfl, .inl (SqL.of hN3.at_), p, _, rfl, k3.2, by rw [txts_len]; have := hN.ne; omega, by rw [txts_len]; have := hN.le; omega, fun H5 j k5 j0 j1 => ?_⟩
      rw [txts_len] at j1
      obtain ⟨z1, m1, e1⟩ := nms_at j0 j1
      have hN5 := hN3.kp k5
      refine ⟨u, _, _, _, rfl, rfl, SqL.of hN5.at_, e1, ?_⟩
      refine ⟨_, rfl, _, rfl, _, rfl, u, _, rfl, .inl (SqL.of hN5.at_), p, _, rfl, k5.2, by rw [txts_len]; have := hN.ne; omega, by rw [txts_len]; have := hN.le; omega, fun H6 j2 k6 j20 j21 => ?_⟩
      rw [txts_len] at j21
      obtain ⟨z2, m2, e2⟩ := nms_at j20 j21
      have hN6 := hN5.kp k6
      refine ⟨u, _, _, _, rfl, rfl, SqL.of hN6.at_, e2, two_le, fun t nt => ?_⟩
      have st := same_upd (o := .tup [.str (S z1), .str (S z2)]) nt
      have kk := (k3.trans (k5.trans k6)).same st
      have hg6 := st _ _ (k6.1 _ _ gp (k5.1 _ _ gp hg))
      have te : TupE H4 (upd H6 t (.tup [.str (S z1), .str (S z2)])) := (TupE.kp k3.2 (k5.trans k6)).trans (TupE.same st)
      refine ⟨g, _, _, rfl, rfl, hg6, by rw [List.length_map, hP.len, hl]; exact small1000 (by omega), ⟨fun b o n e => ?_, ?_⟩, as ++ [t], qs ++ [(S z1, S z2)], _, rfl, ?_, ?_, by rw [List.length_append, hl]; rfl, fun q hq2 => ?_⟩
      · rw [upd_ne (ne_of_none e ng)]
        exact kk.1 _ _ n e
      · obtain ⟨u', v', w', ns, hp, hb⟩ := kk.2
        exact ⟨u', v', w', ns, by rw [upd_ne gp.symm]; exact hp, hb⟩
      · rw [upd_same, List.map_append]
        rfl
      · exact ((hP.ext te).snoc (q := (S z1, S z2)) upd_same).ext (TupE.grow hg6)
      · rcases List.mem_append.mp hq2 with h | h
        · exact hq q h
        · rw [List.mem_singleton.mp h]
          exact ⟨z1, m1, z2, m2, rfl⟩
    · rintro σ H3 ⟨k3, as, qs, y, rfl, hg, hP, hl, hq⟩
      have hl4 : qs.length ≤ 4 := by
        rw [hl]
        omega
      refine ⟨_, rfl, g, _, rfl, .inl ⟨SqL.of hg, fun t nt => ?_⟩⟩
      have st := same_upd (o := .tup (as.map V.ref)) nt
      exact q _ t as qs (k3.same st) (k3.none (k3.2.ne nt) nt) upd_same (hP.ext (TupE.same st)) hl4 hq
end
end Dr
namespace Dr
open PySem PySem.Spec PyProof.Rows L2
open SX (S S_len S_cat)
structure SmS (z : Str) : Prop where
  ok : PyData.strOk z = true
  sm : z.length ≤ 1000
theorem sms_lit {z : Str} (h : (PyData.strOk z && decide (z.length ≤ 1000)) = true) : SmS z := by
  rw [Bool.and_eq_true] at h
  exact ⟨h.1, of_decide_eq_true h.2⟩
theorem sms_low {cs : List Nat} (h : ∀ c ∈ cs, lowC c = true) (l : cs.length ≤ 1000) : SmS (S cs) := by
  refine ⟨?_, by rw [S_len]; exact l⟩
  unfold PyData.strOk
  rw [← Array.all_toList]
  refine List.all_eq_true.mpr fun c hc => ?_
  have q := h c hc
  unfold lowC at q
  rw [Bool.and_eq_true] at q
  have := of_decide_eq_true q.2
  exact decide_eq_true (by omega)
structure Smn (n : Nat) (d : PyData) : Prop where
  c : d.canLay0 = true
  s : smD d = true
  d : d.depth ≤ n
structure Smns (n : Nat) (ds : List PyData) : Prop where
  c : PyData.canLayAll0 ds = true
  s : smAll ds = true
  d : PyData.depthAll ds ≤ n
theorem smn_nil {n : Nat} : Smns n [] := ⟨rfl, rfl, Nat.zero_le _⟩
theorem smn_cons {n : Nat} {d : PyData} {ds : List PyData} (h : Smn n d) (hs : Smns n ds) : Smns n (d :: ds) := by
  refine ⟨?_, ?_, ?_⟩
  · show (d.canLay0 && PyData.canLayAll0 ds) = true
    rw [h.c, hs.c]
    rfl
  · show (smD d && smAll ds) = true
    rw [h.s, hs.s]
    rfl
  · show max d.depth (PyData.depthAll ds) ≤ n
    have := h.d
    have := hs.d
    omega
theorem smn_tup {n : Nat} {ds : List PyData} (h : Smns n ds) (l : ds.length ≤ 1000) : Smn (n + 1) (.tuple ds) := ⟨h.c, by
  show (decide (ds.length ≤ 1000) && smAll ds) = true
  rw [h.s, decide_eq_true l]
  rfl, Nat.succ_le_succ h.d⟩
theorem smn_lst {n : Nat} {ds : List PyData} (h : Smns n ds) (l : ds.length ≤ 1000) : Smn (n + 1) (.list ds) := ⟨h.c, by
  show (decide (ds.length ≤ 1000) && smAll ds) = true
  rw [h.s, decide_eq_true l]
  rfl, Nat.succ_le_succ h.d⟩
theorem smn_str {n : Nat} {z : Str} (h : SmS z) : Smn n (.str z) := ⟨h.ok, decide_eq_true h.sm, Nat.zero_le _⟩
theorem smn_lit {n : Nat} {z : Str} (h : (PyData.strOk z && decide (z.length ≤ 1000)) = true) : Smn n (.str z) := smn_str (sms_lit h)
theorem smn_int {n : Nat} (i : Int) : Smn n (.int i) := ⟨rfl, rfl, Nat.zero_le _⟩
theorem smn_bl {n : Nat} (b : Bool) : Smn n (.bool b) := ⟨rfl, rfl, Nat.zero_le _⟩
theorem smn_non {n : Nat} : Smn n .none := ⟨rfl, rfl, Nat.zero_le _⟩
theorem Smn.okD {n : Nat} {d : PyData} (h : Smn n d) (hn : n ≤ 60) : OkD d := ⟨by
  show (d.canLay0 && decide (d.depth ≤ 64)) = true
  rw [h.c, decide_eq_true (by have := h.d; omega)]
  rfl, h.s⟩
theorem Smns.all {n : Nat} : ∀ {ds : List PyData}, Smns n ds → ∀ d ∈ ds, Smn n d
  | [], _, _, h => by cases h
  | x :: r, h, d, hd => by
    have h1 : (x.canLay0 && PyData.canLayAll0 r) = true := h.c
    have h2 : (smD x && smAll r) = true := h.s
    have h3 : max x.depth (PyData.depthAll r) ≤ n := h.d
    rw [Bool.and_eq_true] at h1 h2
    rcases List.mem_cons.mp hd with rfl | hd
    · exact ⟨h1.1, h2.1, by omega⟩
    · exact Smns.all ⟨h1.2, h2.2, by omega⟩ d hd
theorem smns_of {n : Nat} : ∀ {ds : List PyData}, (∀ d ∈ ds, Smn n d) → Smns n ds
  | [], _ => smn_nil
  | x :: r, h => smn_cons (h x (List.mem_cons_self ..)) (smns_of fun d hd => h d (List.mem_cons_of_mem _ hd))
theorem Smn.mono {n m : Nat} {d : PyData} (h : Smn n d) (hm : n ≤ m) : Smn m d := ⟨h.c, h.s, Nat.le_trans h.d hm⟩
/-- an element that may be a pair -/
def flatD : PyData → Bool
  | .list _ => false
  | .tuple _ => false
  | .dict _ => false
  | _ => true
def ElOk (zs : List (List Nat)) (e : PyData) : Prop := ∀ es, e = .tuple es → ∀ x ∈ es, flatD x = true ∧ (isNameD x = true ↔ ∃ z ∈ zs, x = .str (S z))
structure AllOk (zs : List (List Nat)) (d : PyData) : Prop where
  sm : Smn 5 d
  few : few16 d
  el : ∀ ds, d = .tuple ds → ∀ e ∈ ds, ElOk zs e
theorem AllOk.ok {zs : List (List Nat)} {d : PyData} (h : AllOk zs d) : OkD d := h.sm.okD (by decide)
theorem eqv_SS (a b : Str) : PyData.eqv (.str a) (.str b) = decide (a = b) := by
  show (a == b) = decide (a = b)
  by_cases h : a = b
  · rw [h, decide_eq_true rfl]
    exact beq_self_eq_true _
  · rw [decide_eq_false h]
    exact beq_eq_false_iff_ne.mpr h
theorem eqv_strL {a : Str} : ∀ {x : PyData}, PyData.eqv (.str a) x = true → x = .str a
  | .str b, h => by
    rw [eqv_SS] at h
    rw [of_decide_eq_true h]
  | .none, h => by cases h
  | .bool _, h => by cases h
  | .int _, h => by cases h
  | .list _, h => by cases h
  | .tuple _, h => by cases h
  | .dict _, h => by cases h
/-- a pair of names is equal to itself alone -/
theorem eqv_pair {z e : PyData} (h : isPairD z = true) : PyData.eqv z e = true ↔ z = e := by
  obtain ⟨a, b, rfl, _, _⟩ := isPair_of h
  refine ⟨fun q => ?_, fun q => ?_⟩
  · match e, q with
    | .tuple [x, y], q =>
      have q1 : (PyData.eqv (.str a) x && (PyData.eqv (.str b) y && true)) = true := q
      rw [Bool.and_true, Bool.and_eq_true] at q1
      rw [eqv_strL q1.1, eqv_strL q1.2]
    | .tuple [], q => cases q
    | .tuple [x], q =>
      have q1 : (PyData.eqv (.str a) x && false) = true := q
      simp at q1
    | .tuple (x :: y :: z :: r), q =>
      have q1 : (PyData.eqv (.str a) x && (PyData.eqv (.str b) y && false)) = true := q
      simp at q1
    | .none, q => cases q
    | .bool _, q => cases q
    | .int _, q => cases q
    | .str _, q => cases q
    | .list _, q => cases q
    | .dict _, q => cases q
  · subst q
    show (PyData.eqv (.str a) (.str a) && (PyData.eqv (.str b) (.str b) && true)) = true
    rw [eqv_SS, eqv_SS, decide_eq_true rfl, decide_eq_true rfl]
    rfl
theorem keys_inj {z e : PyData} (h : isPairD z = true) (h2 : isPairD e = true) (k : keysOf z = keysOf e) : z = e := by
  obtain ⟨a, b, rfl, _, _⟩ := isPair_of h
  obtain ⟨c, d, rfl, _, _⟩ := isPair_of h2
  have k : [a, b] = [c, d] := k
  injection k with k1 k2
  injection k2 with k2 _
  rw [k1, k2]
/-- the first i are pairs, no two equal -/
def okTo (ds : List PyData) (i : Nat) : Prop := (ds.take i).all isPairD = true ∧ ((ds.take i).map keysOf).Nodup
theorem okTo_zero (ds : List PyData) : okTo ds 0 := ⟨rfl, List.nodup_nil⟩
theorem okTo_all {ds : List PyData} (h : okTo ds ds.length) : arePairsD (.tuple ds) = true := by
  unfold okTo at h
  rw [List.take_length] at h
  show (ds.all isPairD && decide (ds.map keysOf).Nodup) = true
  rw [h.1, decide_eq_true h.2]
  rfl
theorem bad_one {ds : List PyData} {i : Nat} {e : PyData} (h : ds[i]? = some e) (n : isPairD e = false) : arePairsD (.tuple ds) = false := by
  show (ds.all isPairD && _) = false
  have q : ds.all isPairD = false := by
    cases q : ds.all isPairD with
    | false => rfl
    | true =>
      rw [List.all_eq_true.mp q e (List.mem_of_getElem? h)] at n
      cases n
  rw [q]
  rfl
theorem bad_two {ds : List PyData} {i : Nat} {e : PyData} (o : okTo ds i) (h : ds[i]? = some e) (m : ((ds.take i).any fun z => PyData.eqv z e) = true) : arePairsD (.tuple ds) = false := by
  obtain ⟨z, hz, q⟩ := List.any_eq_true.mp m
  have ez := (eqv_pair (List.all_eq_true.mp o.1 z hz)).mp q
  subst ez
  show (_ && decide (ds.map keysOf).Nodup) = false
  have nn : ¬ (ds.map keysOf).Nodup := fun nd => by
    have hl := (List.getElem?_eq_some_iff.mp h).1
    have e1 : ds.map keysOf = (ds.take i).map keysOf ++ (ds.drop i).map keysOf := by rw [← List.map_append, List.take_append_drop]
    rw [e1, List.nodup_append] at nd
    refine nd.2.2 _ (List.mem_map.mpr ⟨z, hz, rfl⟩) _ (List.mem_map.mpr ⟨z, ?_, rfl⟩) rfl
    rw [List.drop_eq_getElem_cons hl]
    rw [List.getElem?_eq_getElem hl] at h
    rw [Option.some.inj h]
    exact List.mem_cons_self
  rw [decide_eq_false nn, Bool.and_false]
theorem okTo_next {ds : List PyData} {i : Nat} {e : PyData} (o : okTo ds i) (h : ds[i]? = some e) (p : isPairD e = true) (m : ((ds.take i).any fun z => PyData.eqv z e) = false) : okTo ds (i + 1) := by
  have et : ds.take (i + 1) = ds.take i ++ [e] := by rw [List.take_add_one, h]; rfl
  unfold okTo
  rw [et, List.all_append, List.map_append]
  refine ⟨by rw [o.1, List.all_cons, p]; rfl, List.nodup_append.mpr ⟨o.2, by simp, fun x hx y hy exy => ?_⟩⟩
  obtain ⟨z, hz, rfl⟩ := List.mem_map.mp hx
  obtain ⟨z2, hz2, rfl⟩ := List.mem_map.mp hy
  rw [List.mem_singleton.mp hz2] at exy
  have pz := List.all_eq_true.mp o.1 z hz
  have q := (eqv_pair pz).mpr (keys_inj pz p exy)
  have := List.any_eq_false.mp m z hz
  exact this q
end Dr
namespace Dr
open PySem PySem.Spec PyProof.Rows L2
open SX (S S_len S_cat)
section
variable {X : Cx}
/-- x in t, t a tuple of data -/
def rInT (K : PySem.W.Frag) : R2 := fun x y H Q => ∃ d ds, Dp K H x d ∧ Dp K H y (.tuple ds) ∧ SeqAt.shaped d = true ∧ SeqAt.shaped (.tuple ds) = true ∧ Q (.bl (ds.any fun z => PyData.eqv z d)) H
theorem op_inT (hu : X.A.units + 65 < cLine) : OpR X (compareOp .In) (rInT X.K) := by
  intro pins s σ H x y v u Q I rx ry h
  obtain ⟨d, ds, hd, he, sd, se, q⟩ := h
  obtain ⟨as, r1⟩ := Dp.reads I d x v hd rx
  obtain ⟨bs, r2⟩ := Dp.reads I (.tuple ds) y u he ry
  exact SeqAt.in_tuple_reads r2 r1 (SeqAt.canLay_of_shaped se) (SeqAt.canLay_of_shaped sd) (room_in_shaped sd hu) ⟨.bl _, H, I, rfl, q⟩
end
theorem cut_to (xs : List V) {k : Nat} (h : k ≤ xs.length) : cutV xs none (some (k : Int)) = xs.take k := by
  unfold cutV
  rw [show HT.sIx xs.length xs.length (some (k : Int)) = min k xs.length from HT.sIx_nat xs.length xs.length k, HT.sIx_none, Nat.min_eq_left h]
  simp
/-- t[:k], by what it gives -/
def rHead (K : PySem.W.Frag) : V → Option Int → Option Int → Hp → VK → Prop := fun x lo hi H Q => ∃ (k : Nat) (a : Addr) (xs : List V), lo = none ∧ hi = some (k : Int) ∧ x = .ref a ∧ SqT K H a xs ∧ k ≤ xs.length ∧ ∀ b H', Same H H' → SqT K H' b (xs.take k) → Q (.ref b) H'
theorem sl_head {X : Cx} : SlR X (rHead X.K) := fun pins s σ H x v vl vu lo hi sl Q I rx hs pl pu h => by
  obtain ⟨k, a, xs, rfl, rfl, rfl, hx, hk, q⟩ := h
  refine sl_tupA pins s σ H _ v vl vu _ _ sl Q I rx hs pl pu ⟨a, xs, rfl, hx, fun e => ?_, fun _ p np => q p _ (same_upd np) (.inl (.inl (by rw [upd_same, cut_to xs hk])))⟩
  have e1 := e.2
  rw [show HT.sIx xs.length xs.length (some (k : Int)) = min k xs.length from HT.sIx_nat xs.length xs.length k] at e1
  have e2 : xs.take k = xs := List.take_of_length_le (by omega)
  exact q a H (Same.refl _) (by rw [e2]; exact hx)
theorem dpAll_take {K : PySem.W.Frag} {H : Hp} : ∀ {vs : List V} {ds : List PyData} (k : Nat), DpAll K H vs ds → DpAll K H (vs.take k) (ds.take k)
  | _, _, 0, h => .nil
  | _, _, _ + 1, .nil => .nil
  | _, _, k + 1, .cons h hs => .cons h (dpAll_take k hs)
theorem flat_of {K : PySem.W.Frag} {H : Hp} {x : V} {d : PyData} (h : Dp K H x d) (f : flatD d = true) : flatV x = true := by
  cases h <;> first | rfl | cases f
theorem in_names {K : PySem.W.Frag} {H : Hp} {x : V} {d : PyData} {zs : List (List Nat)} (h : Dp K H x d) (f : flatD d = true) (ok : isNameD d = true ↔ ∃ z ∈ zs, d = .str (S z)) : inV x (txts zs) = isNameD d := by
  have et : txts zs = (zs.map S).map V.str := by unfold txts; rw [List.map_map]; rfl
  cases h with
  | str z =>
    rw [et, in_strs]
    rw [Bool.eq_iff_iff, ok, List.contains_iff_mem, List.mem_map]
    exact ⟨fun ⟨a, m, e⟩ => ⟨a, m, by rw [e]⟩, fun ⟨a, m, e⟩ => ⟨a, m, (PyData.str.inj e).symm⟩⟩
  | non =>
    show inV V.non _ = false
    unfold inV
    rw [List.any_eq_false]
    intro y hy
    obtain ⟨a, _, rfl⟩ := List.mem_map.mp hy
    simp [eqV]
  | bl b =>
    show inV (V.bl b) _ = false
    unfold inV
    rw [List.any_eq_false]
    intro y hy
    obtain ⟨a, _, rfl⟩ := List.mem_map.mp hy
    simp [eqV]
  | int i =>
    show inV (V.int i) _ = false
    unfold inV
    rw [List.any_eq_false]
    intro y hy
    obtain ⟨a, _, rfl⟩ := List.mem_map.mp hy
    simp [eqV]
  | lst _ _ => cases f
  | tup _ _ => cases f
section
variable {P : Program} {w : World} {K : PySem.W.Frag} {mg : Str → Option Value} {base : Heap}
def spLA (K : PySem.W.Frag) : Sp := fun vs H Q _ => ∃ (v : V) (d : PyData) (u p : Addr) (zs : List (List Nat)), vs = [v, .ref u] ∧ Dp K H v d ∧ AllOk zs d ∧ Nms H u p zs ∧ ∀ H', Same H H' → Q (.bl (arePairsD d)) H'
theorem ok_la {f : Addr} {fd : FuncData} (F : Fun K "_law_are_pairs" "_law_are_pairs" sLA f fd) (W : Wds K mg) (T : Blt mg) : FnOk P w K mg base CX0 1 f fd ["_law_thing", "_law_names_here"] (spLA K) := by
  refine F.ok scLA (fun vs H Q E h => ?_) (fun cdv A outer s H vs Q E hr h => ?_)
  · obtain ⟨v, d, u, p, zs, rfl, _⟩ := h
    rfl
  · obtain ⟨v, d, u, p, zs, rfl, hd, hA, hN, q⟩ := h
    have hu : (A.deeper (envOfC "_law_are_pairs" (defScope sLA) s.heap.objs.size f cdv)).units + 65 < cLine := by
      have := hr.un
      omega
    refine ⟨_, pss_cons (ps_if (pt_not (pt_val (pe_callB call_isi (by rfl) W.isi (by decide +kernel) (pa_cons (pv 0) (pa_cons (pe_bltn (v := .ty "tuple") (by rfl) W.tup (by decide +kernel) rfl) pa_nil))))) (pss_one (ps_ret pe_bl)) pss_nil)
      (pss_cons (ps_for PassesOwn.never rfl (pi_range1 rfl T.ran (pa_cons (pe_callB call_len_seq (by rfl) T.len PySem.boot_len (pa_cons (pv 0) pa_nil)) pa_nil)) (pg_name (i := 2) scLA.nd rfl (.inl rfl))
        (pss_cons (ps_set (i := 3) scLA.nd rfl (.inl rfl) (pe_ix ix_tup (pv 0) (pv 2) (fun _ _ => rfl)))
        (pss_cons (ps_if (PW.pt (pw_or (pt_not (pt_val (pe_callB call_isi (by rfl) W.isi (by decide +kernel) (pa_cons (pv 3) (pa_cons (pe_bltn (v := .ty "tuple") (by rfl) W.tup (by decide +kernel) rfl) pa_nil)))))
            (pw_or (pt_cmpR op_ne (pe_callB call_len_seq (by rfl) T.len PySem.boot_len (pa_cons (pv 3) pa_nil)) pe_int (nomark _)) (pw_or1 (pt_cmpR (op_inT hu) (pv 3) (pe_slice sl_head (pv 0) po_none (po_some (pv 2))) rfl)))))
            (pss_one (ps_ret pe_bl)) pss_nil)
        (pss_one (ps_if (PW.pt (pw_or (pt_cmpR op_notIn_seq (pe_ix ix_tup (pv 3) pe_int (fun _ _ => rfl)) (pv 1) rfl) (pw_or1 (pt_cmpR op_notIn_seq (pe_ix ix_tup (pv 3) pe_int (fun _ _ => rfl)) (pv 1) rfl))))
            (pss_one (ps_ret pe_bl)) pss_nil)))))
      (pss_one (ps_ret pe_bl))), ?_⟩
    refine ⟨v, rfl, v, .ty "tuple", _, _, _, rfl, .ty _, dp_ty hd, kit_tup d, _, rfl, ?_⟩
    by_cases ht : isTupD d = true
    case neg =>
      rw [eq_false_of_ne_true ht]
      have en : arePairsD d = false := by cases d <;> first | rfl | exact absurd rfl ht
      rw [en] at q
      exact iteT (q _ (Same.refl _))
    cases d with
    | tuple ds =>
      cases hd with
      | @tup a xs _ hS hall =>
        have hxl := dpAll_len hall
        have few := hA.few ds rfl
        have oks := hA.ok.tup.2
        refine iteF ?_
        refine ⟨_, rfl, a, _, rfl, .inr hS, (xs.length : Int), rfl, by omega, by omega, for_it walk_range (fun i σ H3 => Same H H3 ∧ okTo ds i ∧ ∃ y2 y3, σ = [some (.ref a), some (.ref u), y2, y3]) ⟨Same.refl _, okTo_zero ds, _, _, rfl⟩ (fun _ _ _ _ _ => trivial) ?_ ?_⟩
        · rintro i x σ H3 H4 hi ⟨sm, ho, y2, y3, rfl⟩ ⟨rfl, rfl⟩
          have hi' : i < xs.length := by
            have : i < ((xs.length : Nat) : Int).toNat := hi
            omega
          obtain ⟨e, he, hde⟩ := dpAll_get hall (List.getElem?_eq_getElem hi')
          have hS3 := Same.seqT sm hS
          have hde := dp_same sm hde
          have oke := oks e (List.mem_of_getElem? he)
          have ez : (0 + (i : Int)) = (i : Int) := by omega
          refine ⟨_, rfl, _, rfl, a, xs, _, xs[i], rfl, rfl, hS3, by rw [ez]; exact atI_nat (List.getElem?_eq_getElem hi'), ?_⟩
          refine ⟨_, rfl, xs[i], .ty "tuple", _, _, _, rfl, .ty _, dp_ty hde, kit_tup e, _, rfl, ?_⟩
          have out : arePairsD (.tuple ds) = false → ∀ {H9 : Hp}, Same H H9 → Q (.bl false) H9 := fun z H9 s9 => by
            rw [z] at q
            exact q _ s9
          by_cases het : isTupD e = true
          case neg =>
            rw [eq_false_of_ne_true het]
            exact iteT (iteT (out (bad_one he (by cases e <;> first | rfl | exact absurd rfl het)) sm))
          cases e with
          | tuple es =>
            generalize hxi : xs[i] = xi at hde ⊢
            cases hde with
            | @tup b ys _ hB hys =>
              have hyl := dpAll_len hys
              refine iteF ⟨_, rfl, b, _, rfl, .inr hB, rfl, _, rfl, ?_⟩
              by_cases two : ys.length = 2
              case neg =>
                have en : isPairD (.tuple es) = false := by
                  match es, hyl with
                  | [], _ => rfl
                  | [_], _ => rfl
                  | [_, _], h => exact absurd h two
                  | _ :: _ :: _ :: _, _ => rfl
                rw [decide_eq_false (fun e => two (by have := V.int.inj e; omega))]
                exact iteT (iteT (out (bad_one he en) sm))
              rw [decide_eq_true (by rw [two]; rfl)]
              refine iteF ?_
              refine ⟨_, rfl, _, rfl, _, rfl, _, rfl, i, a, xs, rfl, congrArg some ez, rfl, hS3, by omega, fun c H5 s5 hc => ?_⟩
              have smT : Smn 5 (.tuple (ds.take i)) := by
                have h1 : Smns 4 ds := ⟨hA.sm.c, (by have := hA.sm.s; have z : (decide (ds.length ≤ 1000) && smAll ds) = true := this; rw [Bool.and_eq_true] at z; exact z.2), Nat.le_of_succ_le_succ hA.sm.d⟩
                exact smn_tup (smns_of fun d hd => h1.all d (List.mem_of_mem_take hd)) (by rw [List.length_take]; omega)
              refine ⟨.tuple es, ds.take i, .tup (Same.seqT s5 hB) (dpAll_same s5 hys), .tup hc (dpAll_same (sm.trans s5) (dpAll_take i hall)), oke.sh, (smT.okD (by decide)).sh, _, rfl, ?_⟩
              cases hm : (ds.take i).any fun z => PyData.eqv z (.tuple es) with
              | true => exact iteT (out (bad_two ho he hm) (sm.trans s5))
              | false =>
                refine iteF ?_
                have ele := hA.el ds rfl _ (List.mem_of_getElem? he) es rfl
                have s6 := sm.trans s5
                have hN5 := hN.same s6
                cases hys with
                | nil => cases two
                | @cons x1 ys d1 es h1 hys =>
                  cases hys with
                  | nil => cases two
                  | @cons x2 ys d2 es h2 hys =>
                    cases hys with
                    | cons _ _ => simp at two
                    | nil =>
                      obtain ⟨f1, n1⟩ := ele d1 (by simp)
                      obtain ⟨f2, n2⟩ := ele d2 (by simp)
                      have hB5 := Same.seqT s5 hB
                      have all : (txts zs).all flatV = true := by
                        rw [List.all_eq_true]
                        intro y hy
                        obtain ⟨z, _, rfl⟩ := List.mem_map.mp hy
                        rfl
                      have ep : isPairD (.tuple [d1, d2]) = (isNameD d1 && isNameD d2) := rfl
                      refine ⟨_, rfl, b, _, 0, _, rfl, rfl, hB5, atI_nat (j := 0) rfl, _, rfl, u, _, rfl, .inl (SqL.of hN5.at_), flat_of h1 f1, all, _, rfl, ?_⟩
                      show if (!inV x1 (txts zs)) = true then _ else _
                      rw [in_names h1 f1 n1]
                      cases e1 : isNameD d1 with
                      | false => exact iteT (iteT (out (bad_one he (by rw [ep, e1]; rfl)) s6))
                      | true =>
                        refine iteF ⟨_, rfl, b, _, 1, _, rfl, rfl, hB5, atI_nat (j := 1) rfl, _, rfl, u, _, rfl, .inl (SqL.of hN5.at_), flat_of h2 f2, all, _, rfl, ?_⟩
                        show if (!inV x2 (txts zs)) = true then _ else _
                        rw [in_names h2 f2 n2]
                        cases e2 : isNameD d2 with
                        | false => exact iteT (out (bad_one he (by rw [ep, e1, e2]; rfl)) s6)
                        | true => exact iteF ⟨s6, okTo_next ho he (by rw [ep, e1, e2]; rfl) hm, _, _, rfl⟩
          | _ => cases het
        · rintro σ H3 ⟨sm, ho, y2, y3, rfl⟩
          have el : ((xs.length : Nat) : Int).toNat = ds.length := by omega
          rw [el] at ho
          rw [okTo_all ho] at q
          exact q _ sm
    | _ => cases ht
end
end Dr
namespace Dr
open PySem PySem.Spec PyProof.Rows L2
open SX (S S_len S_cat)
/-- the heap without the bag -/
def hid (p : Addr) (H : Hp) : Hp := fun b => if b = p then none else H b
/-- v is the datum d, and the bag at p is no part of it -/
abbrev Dq (K : PySem.W.Frag) (p : Addr) (H : Hp) (v : V) (d : PyData) : Prop := Dp K (hid p H) v d
abbrev DqAll (K : PySem.W.Frag) (p : Addr) (H : Hp) (vs : List V) (ds : List PyData) : Prop := DpAll K (hid p H) vs ds
theorem hid_sub {p : Addr} {H : Hp} : Same (hid p H) H := fun b o e => by
  unfold hid at e
  split at e
  · cases e
  · exact e
theorem hid_same {p : Addr} {H H' : Hp} (s : Same H H') : Same (hid p H) (hid p H') := fun b o e => by
  unfold hid at e ⊢
  split at e
  · cases e
  · rename_i n
    rw [if_neg n]
    exact s _ _ e
theorem hid_kp {p : Addr} {H H' : Hp} (k : Kp p H H') : Same (hid p H) (hid p H') := fun b o e => by
  unfold hid at e ⊢
  split at e
  · cases e
  · rename_i n
    rw [if_neg n]
    exact k.1 _ _ n e
theorem hid_at {p q : Addr} {H : Hp} {o : HO} (n : q ≠ p) (h : H q = some o) : hid p H q = some o := by
  unfold hid
  rw [if_neg n]
  exact h
theorem Dq.dp {K : PySem.W.Frag} {p : Addr} {H : Hp} {v : V} {d : PyData} (h : Dq K p H v d) : Dp K H v d := dp_same hid_sub h
theorem Dq.same {K : PySem.W.Frag} {p : Addr} {H H' : Hp} {v : V} {d : PyData} (h : Dq K p H v d) (s : Same H H') : Dq K p H' v d := dp_same (hid_same s) h
theorem Dq.kp {K : PySem.W.Frag} {p : Addr} {H H' : Hp} {v : V} {d : PyData} (h : Dq K p H v d) (k : Kp p H H') : Dq K p H' v d := dp_same (hid_kp k) h
/-- what an expression denotes -/
abbrev DP := L2.St → Hp → PyData → Prop
abbrev DPs := L2.St → Hp → List PyData → Prop
def tD (K : PySem.W.Frag) (p : Addr) (P : DP) : TE := fun σ H Q => ∃ d, P σ H d ∧ ∀ v H', Same H H' → Dq K p H' v d → Q v H'
def aD (K : PySem.W.Frag) (p : Addr) (P : DPs) : TA := fun σ H Q => ∃ ds, P σ H ds ∧ ∀ vs H', Same H H' → DqAll K p H' vs ds → Q vs H'
/-- stays as the heap grows -/
def Up {α : Type} (P : L2.St → Hp → α → Prop) : Prop := ∀ σ H H' d, Same H H' → P σ H d → P σ H' d
theorem PE.imp {X : Cx} {e : Expr} {t t' : TE} (h : PE X e t) (i : ∀ σ H Q, t' σ H Q → t σ H Q) : PE X e t' := ⟨fun pins s σ H Q I w => h.run pins s σ H Q I (i σ H Q w)⟩
theorem PA.imp {X : Cx} {es : List Expr} {t t' : TA} (h : PA X es t) (i : ∀ σ H Q, t' σ H Q → t σ H Q) : PA X es t' := ⟨fun pos pins s σ H Q I w => h.run pos pins s σ H Q I (i σ H Q w)⟩
def isD (d : PyData) : DP := fun _ _ x => x = d
def slD (K : PySem.W.Frag) (p : Addr) (i : Nat) : DP := fun σ H d => ∃ v, σ[i]? = some (some v) ∧ Dq K p H v d
def nilD : DPs := fun _ _ ds => ds = []
def consD (P : DP) (Ps : DPs) : DPs := fun σ H ds => ∃ d r, P σ H d ∧ Ps σ H r ∧ ds = d :: r
def tupD (p : Addr) (Ps : DPs) : DP := fun σ H d => ∃ ds, Ps σ H ds ∧ ds.length ≤ 1000 ∧ H p ≠ none ∧ d = .tuple ds
def lstD (p : Addr) (Ps : DPs) : DP := fun σ H d => ∃ ds, Ps σ H ds ∧ ds.length ≤ 1000 ∧ H p ≠ none ∧ d = .list ds
theorem Same.some {H H' : Hp} {p : Addr} (s : Same H H') (h : H p ≠ none) : H' p ≠ none := by
  cases e : H p with
  | none => exact absurd e h
  | some o =>
    rw [s _ _ e]
    exact fun z => by cases z
theorem up_is {d : PyData} : Up (isD d) := fun _ _ _ _ _ h => h
theorem up_sl {K : PySem.W.Frag} {p : Addr} {i : Nat} : Up (slD K p i) := fun _ _ _ _ s ⟨v, e, h⟩ => ⟨v, e, Dq.same h s⟩
theorem up_nil : Up nilD := fun _ _ _ _ _ h => h
theorem up_cons {P : DP} {Ps : DPs} (h : Up P) (hs : Up Ps) : Up (consD P Ps) := fun σ H H' d s ⟨x, r, a, b, e⟩ => ⟨x, r, h σ H H' x s a, hs σ H H' r s b, e⟩
theorem up_tup {p : Addr} {Ps : DPs} (h : Up Ps) : Up (tupD p Ps) := fun σ H H' d s ⟨ds, a, b, c, e⟩ => ⟨ds, h σ H H' ds s a, b, Same.some s c, e⟩
theorem up_lst {p : Addr} {Ps : DPs} (h : Up Ps) : Up (lstD p Ps) := fun σ H H' d s ⟨ds, a, b, c, e⟩ => ⟨ds, h σ H H' ds s a, b, Same.some s c, e⟩
section
variable {X : Cx} {p : Addr}
theorem pd_str {x : Str} {j : Nat} {pos : Pos} : PE X (.Constant (.str x) j pos) (tD X.K p (isD (.str x))) := PE.imp pe_str fun _ H _ ⟨d, e, q⟩ => by
  cases (show d = .str x from e)
  exact q _ H (Same.refl _) (.str x)
theorem pd_int {x : Int} {j : Nat} {pos : Pos} : PE X (.Constant (.int x) j pos) (tD X.K p (isD (.int x))) := PE.imp pe_int fun _ H _ ⟨d, e, q⟩ => by
  cases (show d = .int x from e)
  exact q _ H (Same.refl _) (.int x)
theorem pd_bl {x : Bool} {j : Nat} {pos : Pos} : PE X (.Constant (.bool x) j pos) (tD X.K p (isD (.bool x))) := PE.imp pe_bl fun _ H _ ⟨d, e, q⟩ => by
  cases (show d = .bool x from e)
  exact q _ H (Same.refl _) (.bl x)
theorem pd_non {j : Nat} {pos : Pos} : PE X (.Constant .none j pos) (tD X.K p (isD .none)) := PE.imp pe_non fun _ H _ ⟨d, e, q⟩ => by
  cases (show d = .none from e)
  exact q _ H (Same.refl _) .non
theorem pd_v (i : Nat) {x : Str} {pos : Pos} (h : PE X (.Name x pos) (tVar i)) : PE X (.Name x pos) (tD X.K p (slD X.K p i)) := PE.imp h fun _ H _ ⟨_, ⟨v, e, hd⟩, q⟩ => ⟨v, e, q v H (Same.refl _) hd⟩
theorem pad_nil : PA X [] (aD X.K p nilD) := PA.imp pa_nil fun _ H _ ⟨ds, e, q⟩ => by
  cases (show ds = [] from e)
  exact q [] H (Same.refl _) .nil
theorem pad_cons {e : Expr} {es : List Expr} {P : DP} {Ps : DPs} (h : PE X e (tD X.K p P)) (hs : PA X es (aD X.K p Ps)) (u : Up Ps) (c : starEach (e :: es) X.env = (false, eval e X.env) :: starEach es X.env := by rfl) : PA X (e :: es) (aD X.K p (consD P Ps)) := PA.imp (pa_cons h hs c) fun σ H Q ⟨ds, ⟨d, r, a, b, e⟩, q⟩ => by
  subst e
  exact ⟨d, a, fun v H1 s1 h1 => ⟨r, u _ _ _ _ s1 b, fun vs H2 s2 h2 => q (v :: vs) H2 (s1.trans s2) (.cons (Dq.same h1 s2) h2)⟩⟩
theorem new_ne {p q : Addr} {H : Hp} (h : H p ≠ none) (n : H q = none) : q ≠ p := fun e => h (e ▸ n)
theorem pd_tup {es : List Expr} {k : Nat} {pos : Pos} {Ps : DPs} (h : PA X es (aD X.K p Ps)) : PE X (.Tuple es k pos) (tD X.K p (tupD p Ps)) := PE.imp (pe_tup h) fun σ H Q ⟨d, ⟨ds, a, b, c, e⟩, q⟩ => by
  subst e
  refine ⟨ds, a, fun vs H1 s1 h1 => ⟨by rw [dpAll_len h1]; exact Nat.le_of_lt (small1000 b), fun t nt => q _ _ (s1.trans (same_upd nt)) ?_⟩⟩
  exact .tup (SqT.of (hid_at (new_ne (Same.some s1 c) nt) upd_same)) (dpAll_same (hid_same (same_upd nt)) h1)
theorem pd_lst {es : List Expr} {pos : Pos} {Ps : DPs} (h : PA X es (aD X.K p Ps)) : PE X (.List es pos) (tD X.K p (lstD p Ps)) := PE.imp (pe_lst h) fun σ H Q ⟨d, ⟨ds, a, b, c, e⟩, q⟩ => by
  subst e
  refine ⟨ds, a, fun vs H1 s1 h1 => ⟨by rw [dpAll_len h1]; exact Nat.le_of_lt (small1000 b), fun t nt => q _ _ (s1.trans (same_upd nt)) ?_⟩⟩
  exact .lst (SqL.of (hid_at (new_ne (Same.some s1 c) nt) upd_same)) (dpAll_same (hid_same (same_upd nt)) h1)
/-- a list display, its list known -/
def tL (K : PySem.W.Frag) (p : Addr) (Ps : DPs) : TE := fun σ H Q => ∃ ds, Ps σ H ds ∧ ds.length ≤ 1000 ∧ H p ≠ none ∧ ∀ l xs H', Same H H' → l ≠ p → H l = none → H' l = some (.lst xs) → DqAll K p H' xs ds → Q (.ref l) H'
theorem pd_list {es : List Expr} {pos : Pos} {Ps : DPs} (h : PA X es (aD X.K p Ps)) : PE X (.List es pos) (tL X.K p Ps) := PE.imp (pe_lst h) fun σ H Q ⟨ds, a, b, c, q⟩ =>
  ⟨ds, a, fun vs H1 s1 h1 => ⟨by rw [dpAll_len h1]; exact Nat.le_of_lt (small1000 b), fun t nt => q t vs _ (s1.trans (same_upd nt)) (new_ne (Same.some s1 c) nt) (s1.free nt) upd_same (dpAll_same (hid_same (same_upd nt)) h1)⟩⟩
end
theorem dqAll_mem {K : PySem.W.Frag} {H : Hp} : ∀ {vs : List V} {ds : List PyData} {v : V}, DpAll K H vs ds → v ∈ vs → ∃ d ∈ ds, Dp K H v d
  | _, _, v, .nil, h => by cases h
  | _, _, v, .cons h hs, m => by
    rcases List.mem_cons.mp m with rfl | m
    · exact ⟨_, List.mem_cons_self .., h⟩
    · obtain ⟨d, hd, q⟩ := dqAll_mem hs m
      exact ⟨d, List.mem_cons_of_mem _ hd, q⟩
theorem dpAll_app {K : PySem.W.Frag} {H : Hp} : ∀ {vs us : List V} {ds es : List PyData}, DpAll K H vs ds → DpAll K H us es → DpAll K H (vs ++ us) (ds ++ es)
  | _, _, _, _, .nil, h => h
  | _, _, _, _, .cons h hs, h2 => .cons h (dpAll_app hs h2)
end Dr
namespace Dr
open PySem PySem.Spec PyProof.Rows L2
open SX (S S_len S_cat)
abbrev sMth : Stmt := topS 19
abbrev sTru : Stmt := topS 20
abbrev nMth : List Str := ["_law_bag_here", "_law_names_here", "_law_pairs", "_law_word", "_law_odd"]
theorem scMth : FnScope nMth ["_law_bag_here", "_law_names_here"] (defScope sMth) := ⟨rfl, rfl, rfl, by decide +kernel, rfl, by decide +kernel, by decide +kernel⟩
theorem scTru : FnScope ["_law_bag_here"] ["_law_bag_here"] (defScope sTru) := ⟨rfl, rfl, rfl, by decide +kernel, rfl, by decide +kernel, by decide +kernel⟩
theorem elOk_of {zs : List (List Nat)} {es : List PyData} (hN : ∀ z ∈ zs, nameOk (S z) = true) (h : ∀ x ∈ es, flatD x = true ∧ (isNameD x = true → ∃ z ∈ zs, x = .str (S z))) : ElOk zs (.tuple es) := fun es' e x hx => by
  cases e
  refine ⟨(h x hx).1, (h x hx).2, fun ⟨z, hz, e⟩ => ?_⟩
  rw [e]
  exact hN z hz
theorem elOk_no {zs : List (List Nat)} {e : PyData} (h : isTupD e = false) : ElOk zs e := fun es e1 => by
  subst e1
  cases h
theorem elOk_pr {zs : List (List Nat)} {q : Str × Str} (hN : ∀ z ∈ zs, nameOk (S z) = true) (h : ∃ a ∈ zs, ∃ b ∈ zs, q = (S a, S b)) : ElOk zs (prD q) := by
  obtain ⟨a, ha, b, hb, rfl⟩ := h
  refine elOk_of hN fun x hx => ?_
  rcases List.mem_cons.mp hx with rfl | hx
  · exact ⟨rfl, fun _ => ⟨a, ha, rfl⟩⟩
  · rw [List.mem_singleton.mp hx]
    exact ⟨rfl, fun _ => ⟨b, hb, rfl⟩⟩
theorem low_name {z : List Nat} (h : nameOk (S z) = true) : (∀ c ∈ z, lowC c = true) ∧ z.length ≤ 8 ∧ 1 ≤ z.length := by
  unfold nameOk at h
  rw [Bool.and_eq_true, Bool.and_eq_true, Bool.and_eq_true, S_len] at h
  exact ⟨fun c hc => List.all_eq_true.mp h.2.2 c hc, of_decide_eq_true h.1.2, of_decide_eq_true h.1.1⟩
theorem smn_name {n : Nat} {z : List Nat} (h : nameOk (S z) = true) : Smn n (.str (S z)) := smn_str (sms_low (low_name h).1 (by have := (low_name h).2.1; omega))
theorem smn_pr {zs : List (List Nat)} {q : Str × Str} (hN : ∀ z ∈ zs, nameOk (S z) = true) (h : ∃ a ∈ zs, ∃ b ∈ zs, q = (S a, S b)) : Smn 1 (prD q) := by
  obtain ⟨a, ha, b, hb, rfl⟩ := h
  exact smn_tup (smn_cons (smn_name (hN a ha)) (smn_cons (smn_name (hN b hb)) smn_nil)) (by show 2 ≤ 1000; decide)
/-- pairs, and one thing more -/
theorem allOk_tup {zs : List (List Nat)} {qs : List (Str × Str)} {xs : List PyData} (hN : ∀ z ∈ zs, nameOk (S z) = true) (hq : ∀ q ∈ qs, ∃ a ∈ zs, ∃ b ∈ zs, q = (S a, S b)) (h4 : qs.length ≤ 4) (hx : ∀ x ∈ xs, Smn 4 x ∧ ElOk zs x) (h1 : xs.length ≤ 4) : AllOk zs (.tuple (qs.map prD ++ xs)) := by
  have mem : ∀ d ∈ qs.map prD ++ xs, Smn 4 d ∧ ElOk zs d := fun d hd => by
    rcases List.mem_append.mp hd with h | h
    · obtain ⟨q, m, rfl⟩ := List.mem_map.mp h
      exact ⟨(smn_pr hN (hq q m)).mono (by decide), elOk_pr hN (hq q m)⟩
    · exact hx d h
  have hl : (qs.map prD ++ xs).length ≤ 8 := by
    rw [List.length_append, List.length_map]
    omega
  refine ⟨smn_tup (smns_of fun d hd => (mem d hd).1) (by omega), fun ds e => ?_, fun ds e d hd => ?_⟩
  · cases e
    omega
  · cases e
    exact (mem d hd).2
theorem allOk_flat {zs : List (List Nat)} {d : PyData} (h : Smn 5 d) (n : isTupD d = false) : AllOk zs d :=
  ⟨h, (fun ds e => by subst e; cases n), (fun ds e => by subst e; cases n)⟩
/-- the nine odd things -/
def oddD (z : List Nat) : List PyData := [.bool true, .bool false, .int 0, .str "", .str "cls", .tuple [.str "box", .str (S z)], .tuple [.tuple [.str (S z), .str "method"]], .tuple [.tuple [.str (S z), .none]], .tuple [.int 1, .int 2]]
theorem odd_ok {zs : List (List Nat)} {z : List Nat} (hN : ∀ z ∈ zs, nameOk (S z) = true) (hz : z ∈ zs) : ∀ d ∈ oddD z, AllOk zs d := by
  have one : ∀ e : PyData, Smn 3 e → ElOk zs e → AllOk zs (.tuple [e]) := fun e h1 h2 => allOk_tup (qs := []) (xs := [e]) hN (fun q hq => by cases hq) (by decide) (fun x hx => by rw [List.mem_singleton.mp hx]; exact ⟨h1.mono (by decide), h2⟩) (by show 1 ≤ 4; decide)
  have two : ∀ e e2 : PyData, Smn 3 e → Smn 3 e2 → isTupD e = false → isTupD e2 = false → AllOk zs (.tuple [e, e2]) := fun e e2 h1 h2 n1 n2 => allOk_tup (qs := []) (xs := [e, e2]) hN (fun q hq => by cases hq) (by decide) (fun x hx => by
    rcases List.mem_cons.mp hx with rfl | hx
    · exact ⟨h1.mono (by decide), elOk_no n1⟩
    · rw [List.mem_singleton.mp hx]
      exact ⟨h2.mono (by decide), elOk_no n2⟩) (by show 2 ≤ 4; decide)
  have pair : ∀ x : PyData, flatD x = true → isNameD x = false → ElOk zs (.tuple [.str (S z), x]) := fun x f n => elOk_of hN fun y hy => by
    rcases List.mem_cons.mp hy with rfl | hy
    · exact ⟨rfl, fun _ => ⟨z, hz, rfl⟩⟩
    · rw [List.mem_singleton.mp hy]
      exact ⟨f, fun h => by rw [n] at h; cases h⟩
  have nz := hN z hz
  intro d hd
  rcases List.mem_cons.mp hd with rfl | hd
  · exact allOk_flat (smn_bl _) rfl
  rcases List.mem_cons.mp hd with rfl | hd
  · exact allOk_flat (smn_bl _) rfl
  rcases List.mem_cons.mp hd with rfl | hd
  · exact allOk_flat (smn_int _) rfl
  rcases List.mem_cons.mp hd with rfl | hd
  · exact allOk_flat (smn_lit (by decide +kernel)) rfl
  rcases List.mem_cons.mp hd with rfl | hd
  · exact allOk_flat (smn_lit (by decide +kernel)) rfl
  rcases List.mem_cons.mp hd with rfl | hd
  · exact two _ _ (smn_lit (by decide +kernel)) (smn_name nz) rfl rfl
  rcases List.mem_cons.mp hd with rfl | hd
  · exact one _ (smn_tup (n := 2) (smn_cons (smn_name nz) (smn_cons (smn_lit (by decide +kernel)) smn_nil)) (by show 2 ≤ 1000; decide)) (pair _ rfl (by decide +kernel))
  rcases List.mem_cons.mp hd with rfl | hd
  · exact one _ (smn_tup (n := 2) (smn_cons (smn_name nz) (smn_cons smn_non smn_nil)) (by show 2 ≤ 1000; decide)) (pair _ rfl rfl)
  · rw [List.mem_singleton.mp hd]
    exact two _ _ (smn_int _) (smn_int _) rfl rfl
/-- a name that is too long -/
def longS (a b : List Nat) : List Nat := a ++ (b ++ [97, 97, 97, 97, 97, 97, 97, 97])
theorem long_no {a b : List Nat} (ha : nameOk (S a) = true) : nameOk (S (longS a b)) = false := by
  have h := (low_name ha).2.2
  unfold nameOk
  rw [S_len]
  have e : ¬ (longS a b).length ≤ 8 := by
    unfold longS
    rw [List.length_append, List.length_append]
    show ¬ a.length + (b.length + 8) ≤ 8
    omega
  rw [decide_eq_false e]
  simp
theorem long_join (a b : List Nat) : Txt.join "" [S a, S b, "aaaaaaaa"] = S (longS a b) := by
  have h8 : ("aaaaaaaa" : Str) = S [97, 97, 97, 97, 97, 97, 97, 97] := by decide +kernel
  have e : [S a, S b, S [97, 97, 97, 97, 97, 97, 97, 97]] = [a, b, [97, 97, 97, 97, 97, 97, 97, 97]].map S := rfl
  rw [h8, e, show ("" : Str) = S [] from rfl, SX.join_S, joinL_nil]
  simp [longS]
end Dr
namespace Dr
open PySem PySem.Spec PyProof.Rows L2
open SX (S S_len S_cat)
/-- the i-th name -/
def nmD (p : Addr) (i : Nat) : DP := fun σ H d => ∃ u zs z, σ[1]? = some (some (.ref u)) ∧ Nms H u p zs ∧ zs[i]? = some z ∧ d = .str (S z)
theorem up_nm {p : Addr} {i : Nat} : Up (nmD p i) := fun _ _ _ _ s ⟨u, zs, z, a, b, c, e⟩ => ⟨u, zs, z, a, b.same s, c, e⟩
theorem txts_at {zs : List (List Nat)} {i : Nat} {z : List Nat} (h : zs[i]? = some z) : atI (txts zs) (i : Int) = some (.str (S z)) := atI_nat (by unfold txts; rw [List.getElem?_map, h]; rfl)
theorem pd_nm {X : Cx} {p : Addr} {e : Expr} (i : Nat) (h : PE X e (tOp (rIxL X.K) (tVar 1) (tC (.int (i : Int))))) : PE X e (tD X.K p (nmD p i)) := PE.imp h fun σ H Q ⟨d, ⟨u, zs, z, a, n, g, ed⟩, q⟩ => by
  subst ed
  exact ⟨.ref u, a, u, _, (i : Int), _, rfl, rfl, SqL.of n.at_, txts_at g, q _ H (Same.refl _) (.str _)⟩
theorem TupE.hid {p : Addr} {H : Hp} (hB : Bag H p) : TupE H (hid p H) := fun b xs e => hid_at (fun z => by
  obtain ⟨u, v, w, ns, hp, _⟩ := hB
  rw [z, hp] at e
  cases e) e
section
variable {P : Program} {w : World} {K : PySem.W.Frag} {mg : Str → Option Value} {base : Heap}
def spMth (K : PySem.W.Frag) : Sp := fun vs H Q _ => ∃ (p u : Addr) (zs : List (List Nat)), vs = [.ref p, .ref u] ∧ Bag H p ∧ Nms H u p zs ∧ ∀ H' v d, Kp p H H' → Dq K p H' v d → AllOk zs d → Q v H'
theorem ok_mth {f fD fP : Addr} {fd fdD fdP : FuncData} (F : Fun K "_law_methods" "_law_methods" sMth f fd) (T : Blt mg)
    (GD : FnOk P w K mg base CX0 1 fD fdD ["_law_bag_here", "_law_many"] spDraw) (mD : mg "_law_draw" = some (.ref fD)) (kD : PySem.W.keepIn K (.ref fD) = true) (bD : Binds K fdD ["_law_bag_here", "_law_many"] [])
    (GP : FnOk P w K mg base CX0 2 fP fdP ["_law_bag_here", "_law_names_here"] (spPD K)) (mP : mg "_law_pairs_drawn" = some (.ref fP)) (kP : PySem.W.keepIn K (.ref fP) = true) (bP : Binds K fdP ["_law_bag_here", "_law_names_here"] []) :
    FnOk P w K mg base CX0 3 f fd ["_law_bag_here", "_law_names_here"] (spMth K) := by
  refine F.ok scMth (fun vs H Q E h => ?_) (fun cdv A outer s H vs Q E hr h => ?_)
  · obtain ⟨p, u, zs, rfl, _⟩ := h
    rfl
  · obtain ⟨p, u, zs, rfl, hB, hN, q⟩ := h
    have hr1 : Room 1 _ := hr.mono (by decide)
    refine ⟨_, pss_cons (ps_set (i := 2) scMth.nd rfl (.inl rfl) (pe_call GP hr (by rfl) mP kP bP .nil pass0 (pa_cons (pv 0) (pa_cons (pv 1) pa_nil))))
      (pss_cons (ps_set (i := 3) scMth.nd rfl (.inl rfl) (pe_call GD hr1 (by rfl) mD kD bD .nil pass0 (pa_cons (pv 0) (pa_cons pe_int pa_nil))))
      (pss_cons (ps_if (pt_cmpR op_lt (pv 3) pe_int (nomark _)) (pss_one (ps_ret (pe_ifExp (pt_cmpR op_eq (pv 3) pe_int (nomark _)) pe_non (pv 2)))) pss_nil)
      (pss_cons (ps_if (pt_cmpR op_eq (pv 3) pe_int (nomark _)) (pss_one (ps_ret (pe_callTy call_list_of (by rfl) T.lst (by decide +kernel) (pa_cons (pv 2) pa_nil)))) pss_nil)
      (pss_cons (ps_if (pt_cmpR op_eq (pv 3) pe_int (nomark _)) (pss_one (ps_ret (pe_op op_catA (pv 2) (pe_tup (pa_cons (pe_tup (pa_cons (pe_join pe_str (pe_lst (pa_cons (pe_ix ix_list (pv 1) pe_int (fun _ _ => rfl)) (pa_cons (pe_ix ix_list (pv 1) pe_int (fun _ _ => rfl)) (pa_cons pe_str pa_nil))))) (pa_cons (pe_ix ix_list (pv 1) pe_int (fun _ _ => rfl)) pa_nil))) pa_nil))))) pss_nil)
      (pss_cons (ps_if (pt_cmpR op_eq (pv 3) pe_int (nomark _)) (pss_one (ps_ret (pe_op op_catA (pv 2) (pe_tup (pa_cons (pe_tup (pa_cons (pe_ix ix_list (pv 1) pe_int (fun _ _ => rfl)) (pa_cons (pe_ix ix_list (pv 1) pe_int (fun _ _ => rfl)) (pa_cons (pe_ix ix_list (pv 1) pe_int (fun _ _ => rfl)) pa_nil)))) pa_nil))))) pss_nil)
      (pss_cons (ps_if (pt_cmpR op_eq (pv 3) pe_int (nomark _)) (pss_one (ps_ret (pe_op op_catA (pv 2) (pe_tup (pa_cons (pe_lst (pa_cons (pe_ix ix_list (pv 1) pe_int (fun _ _ => rfl)) (pa_cons (pe_ix ix_list (pv 1) pe_int (fun _ _ => rfl)) pa_nil))) pa_nil))))) pss_nil)
      (pss_cons (ps_set (i := 4) scMth.nd rfl (.inl rfl) (pd_list (p := p) (pad_cons pd_bl (pad_cons pd_bl (pad_cons pd_int (pad_cons pd_str (pad_cons pd_str (pad_cons (pd_tup (pad_cons pd_str (pad_cons (pd_nm 0 (pe_ix ix_list (pv 1) pe_int (fun _ _ => rfl))) pad_nil (by repeat' (first | exact up_nil | exact up_is | exact up_nm | apply up_cons | apply up_tup))) (by repeat' (first | exact up_nil | exact up_is | exact up_nm | apply up_cons | apply up_tup)))) (pad_cons (pd_tup (pad_cons (pd_tup (pad_cons (pd_nm 0 (pe_ix ix_list (pv 1) pe_int (fun _ _ => rfl))) (pad_cons pd_str pad_nil (by repeat' (first | exact up_nil | exact up_is | exact up_nm | apply up_cons | apply up_tup))) (by repeat' (first | exact up_nil | exact up_is | exact up_nm | apply up_cons | apply up_tup)))) pad_nil (by repeat' (first | exact up_nil | exact up_is | exact up_nm | apply up_cons | apply up_tup)))) (pad_cons (pd_tup (pad_cons (pd_tup (pad_cons (pd_nm 0 (pe_ix ix_list (pv 1) pe_int (fun _ _ => rfl))) (pad_cons pd_non pad_nil (by repeat' (first | exact up_nil | exact up_is | exact up_nm | apply up_cons | apply up_tup))) (by repeat' (first | exact up_nil | exact up_is | exact up_nm | apply up_cons | apply up_tup)))) pad_nil (by repeat' (first | exact up_nil | exact up_is | exact up_nm | apply up_cons | apply up_tup)))) (pad_cons (pd_tup (pad_cons pd_int (pad_cons pd_int pad_nil (by repeat' (first | exact up_nil | exact up_is | exact up_nm | apply up_cons | apply up_tup))) (by repeat' (first | exact up_nil | exact up_is | exact up_nm | apply up_cons | apply up_tup)))) pad_nil (by repeat' (first | exact up_nil | exact up_is | exact up_nm | apply up_cons | apply up_tup))) (by repeat' (first | exact up_nil | exact up_is | exact up_nm | apply up_cons | apply up_tup))) (by repeat' (first | exact up_nil | exact up_is | exact up_nm | apply up_cons | apply up_tup))) (by repeat' (first | exact up_nil | exact up_is | exact up_nm | apply up_cons | apply up_tup))) (by repeat' (first | exact up_nil | exact up_is | exact up_nm | apply up_cons | apply up_tup))) (by repeat' (first | exact up_nil | exact up_is | exact up_nm | apply up_cons | apply up_tup))) (by repeat' (first | exact up_nil | exact up_is | exact up_nm | apply up_cons | apply up_tup))) (by repeat' (first | exact up_nil | exact up_is | exact up_nm | apply up_cons | apply up_tup))) (by repeat' (first | exact up_nil | exact up_is | exact up_nm | apply up_cons | apply up_tup)))))
      (pss_one (ps_ret (pe_ix ix_list (pv 4) (pe_call GD hr1 (by rfl) mD kD bD .nil pass0 (pa_cons (pv 0) (pa_cons (pe_callB call_len_seq (by rfl) T.len PySem.boot_len (pa_cons (pv 4) pa_nil)) pa_nil))) (fun _ _ => rfl))))))))))), ?_⟩
    have ok := hN.ok
    refine ⟨_, rfl, _, rfl, p, u, zs, rfl, hB, hN, fun H1 t as qs k1 nt ht hP h4 hq => ?_⟩
    refine ⟨_, rfl, p, 9, rfl, k1.2, by decide, by decide, fun H2 r k2 r0 r9 => ?_⟩
    have tp : t ≠ p := fun e => by
      obtain ⟨a, b, c, ns, hp, _⟩ := k1.2
      rw [e, hp] at ht
      cases ht
    have ht2 := k2.1 _ _ tp ht
    have hP2 := hP.ext (TupE.kp k1.2 k2)
    have kk := k1.trans k2
    have hN2 := hN.kp kk
    have hidT : ∀ {H9 : Hp}, Same H2 H9 → ∀ {B : Bag H9 p}, PrsAt (hid p H9) as qs := fun {H9} s9 {B} => (hP2.ext (TupE.same s9)).ext (TupE.hid B)
    have bag : ∀ {H9 : Hp}, Same H2 H9 → Bag H9 p := fun {H9} s9 => kk.2.same s9
    have lenA : as.length ≤ 4 := by
      rw [hP.len]
      exact h4
    -- what follows pairs
    have more : ∀ {H9 : Hp} {x : Addr} {xs : List V} {ds : List PyData}, Same H2 H9 → x ≠ p → H9 x = some (.tup (as.map V.ref ++ xs)) → DqAll K p H9 xs ds → (∀ d ∈ ds, Smn 4 d ∧ ElOk zs d) → ds.length ≤ 4 → Q (.ref x) H9 := fun {H9 x xs ds} s9 nx hx hd hok hl => by
      refine q H9 (.ref x) (.tuple (qs.map prD ++ ds)) (kk.same s9) (.tup (SqT.of (hid_at nx hx)) (dpAll_app (PrsAt.dp (hidT s9 (B := bag s9))) hd)) (allOk_tup ok hq h4 hok hl)
    have none4 : ∀ {k : Int}, ¬ decide (V.int r = V.int k) = true → r ≠ k := fun {k} h e => h (decide_eq_true (by rw [e]))
    have z4 : 4 ≤ zs.length := hN.ne
    obtain ⟨n0, n1, n2, hz0, hz1, hz2⟩ : ∃ n0 n1 n2, zs[0]? = some n0 ∧ zs[1]? = some n1 ∧ zs[2]? = some n2 := ⟨zs[0], zs[1], zs[2], List.getElem?_eq_getElem _, List.getElem?_eq_getElem _, List.getElem?_eq_getElem _⟩
    have m0 := List.mem_of_getElem? hz0
    have m1 := List.mem_of_getElem? hz1
    have m2 := List.mem_of_getElem? hz2
    have eb : ∀ {k : Int}, decide (V.int r = V.int k) = decide (r = k) := fun {k} => decide_eq_decide.mpr ⟨V.int.inj, fun e => by rw [e]⟩
    have one : ∀ {H9 : Hp} {b : Addr} {x : V} {d : PyData}, Same H2 H9 → b ≠ p → H9 b = some (.tup [x]) → Dq K p H9 x d → Smn 4 d → ElOk zs d → rCatA K (.ref t) (.ref b) H9 Q := fun {H9 b x d} s9 nb hb hx sm el => by
      have mem : ∀ e ∈ [d], Smn 4 e ∧ ElOk zs e := fun e he => by
        rw [List.mem_singleton.mp he]
        exact ⟨sm, el⟩
      refine ⟨t, b, _, _, rfl, rfl, SqT.of (s9 _ _ ht2), SqT.of hb, by rw [List.length_map, sizeLine_eq]; show as.length + 1 ≤ _; omega, fun e => ?_, fun _ e => by (cases e), fun _ _ x9 n9 => ?_⟩
      · exact more (ds := [d]) s9 nb (by rw [e]; exact hb) (.cons hx .nil) mem (by show 1 ≤ 4; decide)
      · have sx := same_upd (o := .tup (as.map V.ref ++ [x])) n9
        exact more (ds := [d]) (s9.trans sx) ((bag s9).ne n9) upd_same (.cons (Dq.same hx sx) .nil) mem (by show 1 ≤ 4; decide)
    refine ⟨_, rfl, _, _, rfl, rfl, _, rfl, ite2 (fun _ => ?_) (fun _ => ?_)⟩
    · refine ⟨_, rfl, rfl, _, rfl, ite2 (fun _ => ?_) (fun _ => ?_)⟩
      · exact q H2 .non .none kk .non (allOk_flat smn_non rfl)
      · refine ⟨_, rfl, ?_⟩
        have := more (xs := []) (ds := []) (Same.refl H2) tp (by rw [List.append_nil]; exact ht2) .nil (fun d hd => by cases hd) (by decide)
        exact this
    refine ⟨_, rfl, rfl, _, rfl, ite2 (fun _ => ?_) (fun _ => ?_)⟩
    · refine ⟨_, rfl, t, _, rfl, .inr (SqT.of ht2), fun l nl => ?_⟩
      have sl := same_upd (o := .lst (as.map V.ref)) nl
      refine q _ (.ref l) (.list (qs.map prD)) (kk.same sl) (.lst (SqL.of (hid_at (kk.2.ne nl) upd_same)) (PrsAt.dp (hidT sl (B := bag sl)))) (allOk_flat ?_ rfl)
      exact smn_lst (n := 4) (smns_of fun d hd => by
        obtain ⟨x, hx, rfl⟩ := List.mem_map.mp hd
        exact (smn_pr ok (hq x hx)).mono (by decide)) (by rw [List.length_map]; omega)
    refine ⟨_, rfl, rfl, _, rfl, ite2 (fun _ => ?_) (fun _ => ?_)⟩
    · refine ⟨_, rfl, ⟨_, rfl⟩, _, rfl, u, _, 0, _, rfl, rfl, SqL.of hN2.at_, txts_at hz0, _, rfl, u, _, 1, _, rfl, rfl, SqL.of hN2.at_, txts_at hz1, (by show 3 ≤ sizeLine; rw [sizeLine_eq]; decide), fun l nl => ?_⟩
      have sl := same_upd (o := .lst [.str (S n0), .str (S n1), .str "aaaaaaaa"]) nl
      refine ⟨_, l, [S n0, S n1, "aaaaaaaa"], rfl, rfl, .inl (SqL.of upd_same), ?_, ?_⟩
      · have l0 := (low_name (ok n0 m0)).2.1
        have l1 := (low_name (ok n1 m1)).2.1
        show (S n0).length + ((S n1).length + (8 + 0)) + 3 * 0 ≤ _
        rw [S_len, S_len]
        omega
      rw [long_join]
      have hN3 := hN2.same sl
      refine ⟨_, rfl, u, _, 1, _, rfl, rfl, SqL.of hN3.at_, txts_at hz1, two_le, fun t1 q1 => ?_⟩
      have s1 := same_upd (o := .tup [.str (S (longS n0 n1)), .str (S n1)]) q1
      refine ⟨Nat.le_trans (show 1 ≤ 2 by decide) two_le, fun t2 q2 => ?_⟩
      have s2 := same_upd (o := .tup [V.ref t1]) q2
      have s9 := (sl.trans s1).trans s2
      have t1p := (bag sl).ne q1
      refine one (d := .tuple [.str (S (longS n0 n1)), .str (S n1)]) s9 ((bag (sl.trans s1)).ne q2) upd_same (.tup (SqT.of (hid_at t1p (s2 _ _ upd_same))) (.cons (.str _) (.cons (.str _) .nil))) ?_ (elOk_of ok fun x hx => ?_)
      · refine smn_tup (n := 3) (smn_cons (smn_str (sms_low (fun c hc => ?_) ?_)) (smn_cons (smn_name (ok n1 m1)) smn_nil)) (by show 2 ≤ 1000; decide)
        · unfold longS at hc
          rcases List.mem_append.mp hc with h | h
          · exact (low_name (ok n0 m0)).1 c h
          · rcases List.mem_append.mp h with h | h
            · exact (low_name (ok n1 m1)).1 c h
            · exact List.all_eq_true.mp (show [97, 97, 97, 97, 97, 97, 97, 97].all lowC = true by decide +kernel) c h
        · have l0 := (low_name (ok n0 m0)).2.1
          have l1 := (low_name (ok n1 m1)).2.1
          unfold longS
          rw [List.length_append, List.length_append]
          show n0.length + (n1.length + 8) ≤ 1000
          omega
      · rcases List.mem_cons.mp hx with rfl | hx
        · exact ⟨rfl, fun h => by rw [show isNameD (.str (S (longS n0 n1))) = nameOk (S (longS n0 n1)) from rfl, long_no (ok n0 m0)] at h; cases h⟩
        · rw [List.mem_singleton.mp hx]
          exact ⟨rfl, fun _ => ⟨n1, m1, rfl⟩⟩
    refine ⟨_, rfl, rfl, _, rfl, ite2 (fun _ => ?_) (fun _ => ?_)⟩
    · refine ⟨_, rfl, _, rfl, u, _, 0, _, rfl, rfl, SqL.of hN2.at_, txts_at hz0, _, rfl, u, _, 1, _, rfl, rfl, SqL.of hN2.at_, txts_at hz1, _, rfl, u, _, 2, _, rfl, rfl, SqL.of hN2.at_, txts_at hz2, (by show 3 ≤ sizeLine; rw [sizeLine_eq]; decide), fun t1 q1 => ?_⟩
      have s1 := same_upd (o := .tup [.str (S n0), .str (S n1), .str (S n2)]) q1
      refine ⟨Nat.le_trans (show 1 ≤ 2 by decide) two_le, fun t2 q2 => ?_⟩
      have s2 := same_upd (o := .tup [V.ref t1]) q2
      have t1p := kk.2.ne q1
      refine one (d := .tuple [.str (S n0), .str (S n1), .str (S n2)]) (s1.trans s2) ((bag s1).ne q2) upd_same (.tup (SqT.of (hid_at t1p (s2 _ _ upd_same))) (.cons (.str _) (.cons (.str _) (.cons (.str _) .nil)))) (smn_tup (n := 3) (smn_cons (smn_name (ok n0 m0)) (smn_cons (smn_name (ok n1 m1)) (smn_cons (smn_name (ok n2 m2)) smn_nil))) (by show 3 ≤ 1000; decide)) (elOk_of ok fun x hx => ?_)
      rcases List.mem_cons.mp hx with rfl | hx
      · exact ⟨rfl, fun _ => ⟨n0, m0, rfl⟩⟩
      rcases List.mem_cons.mp hx with rfl | hx
      · exact ⟨rfl, fun _ => ⟨n1, m1, rfl⟩⟩
      · rw [List.mem_singleton.mp hx]
        exact ⟨rfl, fun _ => ⟨n2, m2, rfl⟩⟩
    refine ⟨_, rfl, rfl, _, rfl, ite2 (fun _ => ?_) (fun _ => ?_)⟩
    · refine ⟨_, rfl, _, rfl, u, _, 0, _, rfl, rfl, SqL.of hN2.at_, txts_at hz0, _, rfl, u, _, 1, _, rfl, rfl, SqL.of hN2.at_, txts_at hz1, two_le, fun t1 q1 => ?_⟩
      have s1 := same_upd (o := .lst [.str (S n0), .str (S n1)]) q1
      refine ⟨Nat.le_trans (show 1 ≤ 2 by decide) two_le, fun t2 q2 => ?_⟩
      have s2 := same_upd (o := .tup [V.ref t1]) q2
      have t1p := kk.2.ne q1
      exact one (d := .list [.str (S n0), .str (S n1)]) (s1.trans s2) ((bag s1).ne q2) upd_same (.lst (SqL.of (hid_at t1p (s2 _ _ upd_same))) (.cons (.str _) (.cons (.str _) .nil))) (smn_lst (n := 3) (smn_cons (smn_name (ok n0 m0)) (smn_cons (smn_name (ok n1 m1)) smn_nil)) (by show 2 ≤ 1000; decide)) (elOk_no rfl)
    -- the odd things
    have some_p : H2 p ≠ none := by
      obtain ⟨a, b, c, ns, hp, _⟩ := kk.2
      rw [hp]
      exact fun e => by cases e
    refine ⟨oddD n0, ⟨_, _, rfl, ⟨_, _, rfl, ⟨_, _, rfl, ⟨_, _, rfl, ⟨_, _, rfl, ⟨_, _, ⟨_, ⟨_, _, rfl, ⟨_, _, ⟨u, zs, n0, rfl, hN2, hz0, rfl⟩, rfl, rfl⟩, rfl⟩, (by show 2 ≤ 1000; decide), some_p, rfl⟩, ⟨_, _, ⟨_, ⟨_, _, ⟨_, ⟨_, _, ⟨u, zs, n0, rfl, hN2, hz0, rfl⟩, ⟨_, _, rfl, rfl, rfl⟩, rfl⟩, (by show 2 ≤ 1000; decide), some_p, rfl⟩, rfl, rfl⟩, (by show 1 ≤ 1000; decide), some_p, rfl⟩, ⟨_, _, ⟨_, ⟨_, _, ⟨_, ⟨_, _, ⟨u, zs, n0, rfl, hN2, hz0, rfl⟩, ⟨_, _, rfl, rfl, rfl⟩, rfl⟩, (by show 2 ≤ 1000; decide), some_p, rfl⟩, rfl, rfl⟩, (by show 1 ≤ 1000; decide), some_p, rfl⟩, ⟨_, _, ⟨_, ⟨_, _, rfl, ⟨_, _, rfl, rfl, rfl⟩, rfl⟩, (by show 2 ≤ 1000; decide), some_p, rfl⟩, rfl, rfl⟩, rfl⟩, rfl⟩, rfl⟩, rfl⟩, rfl⟩, rfl⟩, rfl⟩, rfl⟩, (by show 9 ≤ 1000; decide), some_p, fun l xs H3 s3 lp nl hl hx => ?_⟩
    have hxl : xs.length = 9 := dpAll_len hx
    refine ⟨_, rfl, _, rfl, _, rfl, l, _, rfl, .inl (SqL.of hl), p, _, rfl, bag s3, by rw [hxl]; decide, by rw [hxl]; decide, fun H4 j k4 j0 j1 => ?_⟩
    rw [hxl] at j1
    obtain ⟨i, rfl⟩ : ∃ i : Nat, j = (i : Int) := ⟨j.toNat, by omega⟩
    have hi : i < xs.length := by omega
    obtain ⟨d, hd, hdp⟩ := dpAll_get hx (List.getElem?_eq_getElem hi)
    exact ⟨l, _, _, _, rfl, rfl, SqL.of (k4.1 _ _ lp hl), atI_nat (List.getElem?_eq_getElem hi), q _ _ d ((kk.same s3).trans k4) (Dq.kp hdp k4) (odd_ok ok m0 d (List.mem_of_getElem? hd))⟩
def spTru (K : PySem.W.Frag) : Sp := fun vs H Q _ => ∃ p : Addr, vs = [.ref p] ∧ Bag H p ∧ ∀ H' v d, Kp p H H' → Dq K p H' v d → OkD d → Q v H'
def truD : List PyData := [.bool true, .bool false, .bool true, .bool false, .bool true, .bool false, .none, .int 1, .int 0, .str "True", .tuple []]
theorem tru_ok : ∀ d ∈ truD, OkD d := by
  have h : (truD.all fun d => SeqAt.shaped d && smD d) = true := by decide +kernel
  intro d hd
  have q := List.all_eq_true.mp h d hd
  rw [Bool.and_eq_true] at q
  exact ⟨q.1, q.2⟩
theorem ok_tru {f fD : Addr} {fd fdD : FuncData} (F : Fun K "_law_truth" "_law_truth" sTru f fd)
    (GD : FnOk P w K mg base CX0 1 fD fdD ["_law_bag_here", "_law_many"] spDraw) (mD : mg "_law_draw" = some (.ref fD)) (kD : PySem.W.keepIn K (.ref fD) = true) (bD : Binds K fdD ["_law_bag_here", "_law_many"] []) :
    FnOk P w K mg base CX0 2 f fd ["_law_bag_here"] (spTru K) := by
  refine F.ok scTru (fun vs H Q E h => ?_) (fun cdv A outer s H vs Q E hr h => ?_)
  · obtain ⟨p, rfl, _⟩ := h
    rfl
  · obtain ⟨p, rfl, hB, q⟩ := h
    refine ⟨_, pss_one (ps_ret (pe_ix ix_list (pd_list (p := p) (pad_cons pd_bl (pad_cons pd_bl (pad_cons pd_bl (pad_cons pd_bl (pad_cons pd_bl (pad_cons pd_bl (pad_cons pd_non (pad_cons pd_int (pad_cons pd_int (pad_cons pd_str (pad_cons (pd_tup pad_nil) pad_nil (by repeat' (first | exact up_nil | exact up_is | exact up_nm | apply up_cons | apply up_tup))) (by repeat' (first | exact up_nil | exact up_is | exact up_nm | apply up_cons | apply up_tup))) (by repeat' (first | exact up_nil | exact up_is | exact up_nm | apply up_cons | apply up_tup))) (by repeat' (first | exact up_nil | exact up_is | exact up_nm | apply up_cons | apply up_tup))) (by repeat' (first | exact up_nil | exact up_is | exact up_nm | apply up_cons | apply up_tup))) (by repeat' (first | exact up_nil | exact up_is | exact up_nm | apply up_cons | apply up_tup))) (by repeat' (first | exact up_nil | exact up_is | exact up_nm | apply up_cons | apply up_tup))) (by repeat' (first | exact up_nil | exact up_is | exact up_nm | apply up_cons | apply up_tup))) (by repeat' (first | exact up_nil | exact up_is | exact up_nm | apply up_cons | apply up_tup))) (by repeat' (first | exact up_nil | exact up_is | exact up_nm | apply up_cons | apply up_tup))) (by repeat' (first | exact up_nil | exact up_is | exact up_nm | apply up_cons | apply up_tup)))) (pe_call GD hr (by rfl) mD kD bD .nil pass0 (pa_cons (pv 0) (pa_cons pe_int pa_nil))) (fun _ _ => rfl))), ?_⟩
    have some_p : H p ≠ none := by
      obtain ⟨a, b, c, ns, hp, _⟩ := hB
      rw [hp]
      exact fun e => by cases e
    refine ⟨truD, ⟨_, _, rfl, ⟨_, _, rfl, ⟨_, _, rfl, ⟨_, _, rfl, ⟨_, _, rfl, ⟨_, _, rfl, ⟨_, _, rfl, ⟨_, _, rfl, ⟨_, _, rfl, ⟨_, _, rfl, ⟨_, _, ⟨_, rfl, (by show 0 ≤ 1000; decide), some_p, rfl⟩, rfl, rfl⟩, rfl⟩, rfl⟩, rfl⟩, rfl⟩, rfl⟩, rfl⟩, rfl⟩, rfl⟩, rfl⟩, rfl⟩, (by show 11 ≤ 1000; decide), some_p, fun l xs H3 s3 lp nl hl hx => ?_⟩
    have hxl : xs.length = 11 := dpAll_len hx
    refine ⟨_, rfl, p, _, rfl, hB.same s3, by decide, by decide, fun H4 j k4 j0 j1 => ?_⟩
    obtain ⟨i, rfl⟩ : ∃ i : Nat, j = (i : Int) := ⟨j.toNat, by omega⟩
    have hi : i < xs.length := by omega
    obtain ⟨d, hd, hdp⟩ := dpAll_get hx (List.getElem?_eq_getElem hi)
    exact ⟨l, _, _, _, rfl, rfl, SqL.of (k4.1 _ _ lp hl), atI_nat (List.getElem?_eq_getElem hi), q _ _ d ((Kp.of hB s3).trans k4) (Dq.kp hdp k4) (tru_ok d (List.mem_of_getElem? hd))⟩
end
end Dr
namespace Dr
open PySem PySem.Spec PyProof.Rows L2
/-- isinstance(e, c), e the exception that the suite holds, with attributes -/
def rIsX (K : PySem.W.Frag) (cls : Value) (d : Option Addr) (a : Addr) : List V → Hp → VK → Prop := fun xs H Q => ∃ (D dd : Addr) (fs : List (Str × V)) (c : V) (cv : Value) (b : Bool), cls = .ref D ∧ d = some dd ∧ H dd = some (.xd fs) ∧ xs = [.ref a, c] ∧ (∀ u, RelV c u → u = cv) ∧ ExcC K D ∧ PySem.W.kitOne K (.ref D) cv = some b ∧ Q (.bl b) H
theorem call_isX {X : Cx} {a : Addr} {cls : Value} {d : Option Addr} {oe : Obj} {pn : List (Addr × Obj)} (hz : Zc cls d oe) (hf : ∃ vs, oe.data = .fields vs) : CallR (X.suite a ((a, oe) :: pn)) (.builtin "isinstance") (rIsX X.K cls d a) := by
  intro pins s σ H xs us Q I r h
  obtain ⟨D, dd, fs, c, cv, b, rfl, rfl, ea, rfl, hcv, C, e, q⟩ := h
  obtain ⟨u1, u2, rfl, r1, r2⟩ := vals2 r
  cases r1
  obtain rfl := hcv _ r2
  obtain ⟨ha, _⟩ := I.pin (a, oe) (List.mem_append_left _ List.mem_cons_self)
  obtain ⟨vs, hd⟩ := hf
  have hx : ObjOk X.prog X.w H s.heap dd (.xd fs) := I.hok dd _ ea
  obtain ⟨mA, hns, hr⟩ := hx
  obtain ⟨od, ho, hl⟩ := lookIn_ns hns
  have J : PySem.W.InstAt s.heap a oe D (some od) := ⟨ha, hz.1, by unfold PySem.W.notCls; rw [hd] <;> rfl, by rw [hz.2]; exact ho⟩
  have hcl : (PySem.W.clsIn X.K D).isSome = true := by
    obtain ⟨cd, hc, _⟩ := PySem.W.any_some C.hd
    rw [hc]
    rfl
  exact PySem.W.kia_one (PySem.W.kitx_exc hcl C.hg C.hk C.hs C.ha C.hn C.ht C.hm) I.kIn J e (fun z => nomatch z) fun tk => ⟨.bl b, H, I.kept (t' := tk) fun _ _ z => z, rfl, q⟩
abbrev sMade : Stmt := topS 21
abbrev sDue : Stmt := topS 22
theorem scMade : FnScope ["_law_parts", "e"] ["_law_parts"] (defScope sMade) := ⟨rfl, rfl, rfl, by decide +kernel, rfl, by decide +kernel, by decide +kernel⟩
theorem scDue : FnScope ["_law_parts", "_law_names_here"] ["_law_parts", "_law_names_here"] (defScope sDue) := ⟨rfl, rfl, rfl, by decide +kernel, rfl, by decide +kernel, by decide +kernel⟩
abbrev FC (K : PySem.W.Frag) (f : Addr) (fd : FuncData) : Prop := FunD K "__init__" "Callers.__init__" (defArgs sCInit) (defBody sCInit) (defScope sCInit) [.non] kwC f fd
/-- what the except clause needs -/
structure Exm (K : PySem.W.Frag) (mg : Str → Option Value) (CE CP CB : Addr) : Prop where
  gE : mg "BadCallers" = some (.ref CE)
  gP : mg "PartError" = some (.ref CP)
  gB : mg "BadWorld" = some (.ref CB)
  xE : XfC K CE
  cE : ExcC K CE
  fE : PySem.W.findIn K (.ref CE) "part" = some none
  eEE : PySem.W.exmOne K (.ref CE) (.ref CE) = some true
  kP : PySem.W.kitOne K (.ref CE) (.ref CP) = some true
  kB : PySem.W.kitOne K (.ref CE) (.ref CB) = some false
/-- the three parts stand in a tuple -/
structure Pts (K : PySem.W.Frag) (H : Hp) (t : Addr) (dm dc dp : PyData) : Prop where
  ex : ∃ vm vc vp, H t = some (.tup [vm, vc, vp]) ∧ Dp K H vm dm ∧ Dp K H vc dc ∧ Dp K H vp dp
  om : OkD dm
  oc : OkD dc
  op : OkD dp
  few : few16 dm
theorem Pts.same {K : PySem.W.Frag} {H H' : Hp} {t : Addr} {dm dc dp : PyData} (h : Pts K H t dm dc dp) (s : Same H H') : Pts K H' t dm dc dp := by
  obtain ⟨vm, vc, vp, h1, h2, h3, h4⟩ := h.ex
  exact ⟨⟨vm, vc, vp, s _ _ h1, dp_same s h2, dp_same s h3, dp_same s h4⟩, h.om, h.oc, h.op, h.few⟩
theorem Pts.dp {K : PySem.W.Frag} {H : Hp} {t : Addr} {dm dc dp : PyData} (h : Pts K H t dm dc dp) : Dp K H (.ref t) (.tuple [dm, dc, dp]) := by
  obtain ⟨vm, vc, vp, h1, h2, h3, h4⟩ := h.ex
  exact .tup (SqT.of h1) (.cons h2 (.cons h3 (.cons h4 .nil)))
section
variable {P : Program} {w : World} {K : PySem.W.Frag} {mg : Str → Option Value} {base : Heap}
theorem bind_cc {f : Addr} {fd : FuncData} (F : FC K f fd) : KBn K fd psC 2 ["changes", "passes"] (fun us ws => us ++ ws) (fun vs zs => vs ++ zs) := by
  obtain ⟨its, mv, h⟩ := F.kbinds (ps := psC) 2 ["changes", "passes"] [] (fun us _ _ ws => us ++ ws) (by simp) (by simp) (fun q hq => by cases hq) (fun r1 _ _ r4 => r1.append r4)
    (fun T D doc pm an cdv ct us its mv ws l1 l2 l3 l4 => match us, its, mv, ws, l1, l2, l3, l4 with | [_, _], [_], [], [_, _], _, _, _, _ => ⟨_, rfl, rfl⟩)
  exact h
theorem bind_c0 {f : Addr} {fd : FuncData} (F : FC K f fd) : ∃ ds, Vals [V.non, .bl true, .bl true] ds ∧ Binds K fd psC ds :=
  F.binds (ps := psC) 1 0 (by simp) rfl (fun T D doc pm an cdv ct us its ks l1 l2 l3 => match us, its, ks, l1, l2, l3 with | [_], [_], [_, _], _, _, _ => ⟨_, rfl, ⟨_, _, _, _, _, _, rfl, rfl, ⟨_, _, _, _, _, _, rfl, rfl, rfl⟩⟩⟩) (by simp)
end
end Dr
namespace Dr
open PySem PySem.Spec PyProof.Rows L2
section
variable {P : Program} {w : World} {K : PySem.W.Frag} {mg : Str → Option Value} {base : Heap}
/-- new callers of the parts in the tuple at t, or the refusal -/
theorem made_at {CC CE x dx : Addr} {H : Hp} {vm vc vp : V} {dm dc dp : PyData} {Q : VK} {E : XK} (hx : H x = none) (hdx : H dx = none) (hm : Dp K H vm dm) (om : OkD dm) (fm : few16 dm) (hc : Dp K H vc dc) (oc : OkD dc) (hp : Dp K H vp dp) (op : OkD dp)
    (qe : ∀ f, cErr dm dc dp = some f → errC H E CE "part" (.str f)) (q : cErr dm dc dp = none → ∀ H3, Same H H3 → CAt K CC H3 x dm dc dp → Q .non H3) : spCI K CC CE [.ref x, vm, vc, vp] (upd (upd H dx (.own x)) x (.ins CC dx [])) Q E := by
  have s1 : Same H (upd (upd H dx (.own x)) x (.ins CC dx [])) := fun b o e => by
    rw [upd_ne (ne_of_none e hx), upd_ne (ne_of_none e hdx)]
    exact e
  refine ⟨x, dx, vm, vc, vp, dm, dc, dp, rfl, upd_same, ⟨dp_same s1 hm, om, fm⟩, dp_same s1 hc, dp_same s1 hp, fun f e d H' s' hd => qe f e d H' (s1.trans s') hd, fun e H3 h1 h2 => ?_⟩
  have s3 : Same H H3 := fun b o g => h1 b o (ne_of_none g hx) (s1 _ _ g)
  exact q e H3 s3 ⟨dx, vm, vc, vp, h2, dp_same s3 hm, om, dp_same s3 hc, oc, dp_same s3 hp, op⟩
def spMade (K : PySem.W.Frag) (CC : Addr) : Sp := fun vs H Q _ => ∃ (t : Addr) (dm dc dp : PyData), vs = [.ref t] ∧ Pts K H t dm dc dp ∧ (∀ f H', cErr dm dc dp = some f → Same H H' → Q (.str f) H') ∧ (cErr dm dc dp = none → ∀ H' x, Same H H' → H x = none → CAt K CC H' x dm dc dp → Q (.ref x) H')
theorem ok_made {CC CE CP CB f fI : Addr} {fd fdI : FuncData} (F : Fun K "_law_made" "_law_made" sMade f fd) (W : Wds K mg) (TC : Clr K mg CC) (X2 : Exm K mg CE CP CB) (FI : FC K fI fdI) (M : Mk K CC fI)
    (GI : FnOk P w K mg base (L2.CX P w) 4 fI fdI psC (spCI K CC CE)) : FnOk P w K mg base CX0 6 f fd ["_law_parts"] (spMade K CC) := by
  have bC := bind_cc FI
  refine F.ok scMade (fun vs H Q E h => ?_) (fun cdv A outer s H vs Q E hr h => ?_)
  · obtain ⟨t, dm, dc, dp, rfl, _⟩ := h
    rfl
  · obtain ⟨t, dm, dc, dp, rfl, hT, qe, q⟩ := h
    refine ⟨_, pss_cons (ps_try_cl (tb := fun W => tRet (tMkKS CC 1 2 (spCI K CC CE) (fun vs zs => vs ++ zs) (WE W) (tCons (tOp (rIxT K) (tVar 0) (tC (.int 0))) tNil) (tCons (tOp (rIxT K) (tVar 0) (tC (.int 1))) (tCons (tOp (rIxT K) (tVar 0) (tC (.int 2))) tNil)))) (O := fun _ _ _ _ => False) rfl rfl scMade.nd takes0
            (fun W q xe tk _ => pss_one (ps_ret (pe_mkKS M GI (hr.mono (by decide)) (by rfl) TC.mgC bC (fun σ => passAt tk σ) (pa_cons (pe_ix ix_tup (pv 0) pe_int (fun _ _ => rfl)) pa_nil) (pk_cons (pe_ix ix_tup (pv 0) pe_int (fun _ _ => rfl)) (pk_cons (pe_ix ix_tup (pv 0) pe_int (fun _ _ => rfl)) pk_nil)))))
            (.cons (k := ⟨.ref CE, 1, _⟩) rfl rfl ⟨rfl, by decide, .inl X2.gE⟩
                (fun a o cls d q hz hf => pss_one (ps_if (PW.pt (pw_and (pt_val (pe_callB (call_isX hz hf) (by rfl) W.isi (by decide +kernel) (pa_cons (pv 1) (pa_cons (pe_glob (v := .ref CP) (by rfl) X2.gP rfl) pa_nil)))) (pw_and1 (pt_not (pt_val (pe_callB (call_isX hz hf) (by rfl) W.isi (by decide +kernel) (pa_cons (pv 1) (pa_cons (pe_glob (v := .ref CB) (by rfl) X2.gB rfl) pa_nil))))))))
                  (pss_one (ps_ret (pe_xf X2.xE X2.fE hz hf (pv 1)))) pss_nil)) .nil))
      (pss_one (ps_ret pe_non)), ?_⟩
    obtain ⟨vm, vc, vp, h1, h2, h3, h4⟩ := hT.ex
    refine ⟨_, rfl, t, _, 0, _, rfl, rfl, SqT.of h1, atI_nat (j := 0) rfl, _, rfl, t, _, 1, _, rfl, rfl, SqT.of h1, atI_nat (j := 1) rfl, _, rfl, t, _, 2, _, rfl, rfl, SqT.of h1, atI_nat (j := 2) rfl, rfl, rfl, fun x dx hx hdx _ => ?_⟩
    refine made_at hx hdx h2 hT.om hT.few h3 hT.oc h4 hT.op (fun f e d H2 s2 hd => ?_) (fun e H3 s3 hC => ⟨rfl, q e H3 x s3 hx hC⟩)
    have done := qe f H2 e s2
    exact ⟨true, X2.eEE, fun _ a ne => ⟨_, rfl, CE, d, [("part", .str f)], .ref CP, .ref CP, true, rfl, rfl, hd, rfl, (fun u r => r), X2.cE, X2.kP, _, rfl, iteT ⟨_, rfl, CE, d, [("part", .str f)], .ref CB, .ref CB, false, rfl, rfl, hd, rfl, (fun u r => r), X2.cE, X2.kB, _, rfl, iteT ⟨_, rfl, rfl, rfl, d, _, _, rfl, hd, rfl, done⟩⟩⟩, fun h => by cases h⟩
def dueV : Option Str → V
  | some f => .str f
  | none => .non
def spDue (K : PySem.W.Frag) : Sp := fun vs H Q _ => ∃ (t u p : Addr) (zs : List (List Nat)) (dm dc dp : PyData), vs = [.ref t, .ref u] ∧ Pts K H t dm dc dp ∧ AllOk zs dm ∧ Nms H u p zs ∧ ∀ H', Same H H' → Q (dueV (cErr dm dc dp)) H'
theorem ok_due {f fA : Addr} {fd fdA : FuncData} (F : Fun K "_law_due" "_law_due" sDue f fd) (W : Wds K mg)
    (GA : FnOk P w K mg base CX0 1 fA fdA ["_law_thing", "_law_names_here"] (spLA K)) (mA : mg "_law_are_pairs" = some (.ref fA)) (kA : PySem.W.keepIn K (.ref fA) = true) (bA : Binds K fdA ["_law_thing", "_law_names_here"] []) :
    FnOk P w K mg base CX0 2 f fd ["_law_parts", "_law_names_here"] (spDue K) := by
  refine F.ok scDue (fun vs H Q E h => ?_) (fun cdv A outer s H vs Q E hr h => ?_)
  · obtain ⟨t, u, p, zs, dm, dc, dp, rfl, _⟩ := h
    rfl
  · obtain ⟨t, u, p, zs, dm, dc, dp, rfl, hT, hA, hN, q⟩ := h
    refine ⟨_, C8.pss_cut (ps_if (PW.pt (pw_and (pt_cmpR op_notN (pe_ix ix_tup (pv 0) pe_int (fun _ _ => rfl)) pe_non (nomark _)) (pw_and1 (pt_not (pt_val (pe_call GA hr (by rfl) mA kA bA .nil pass0 (pa_cons (pe_ix ix_tup (pv 0) pe_int (fun _ _ => rfl)) (pa_cons (pv 1) pa_nil)))))))) (pss_one (ps_ret pe_str)) pss_nil)
      (pss_cons (ps_if (pt_not (pt_val (pe_callB call_isi (by rfl) W.isi (by decide +kernel) (pa_cons (pe_ix ix_tup (pv 0) pe_int (fun _ _ => rfl)) (pa_cons (pe_bltn (v := .ty "bool") (by rfl) W.bool (by decide +kernel) rfl) pa_nil))))) (pss_one (ps_ret pe_str)) pss_nil)
      (pss_one (ps_ret (pe_ifExp (pt_val (pe_callB call_isi (by rfl) W.isi (by decide +kernel) (pa_cons (pe_ix ix_tup (pv 0) pe_int (fun _ _ => rfl)) (pa_cons (pe_bltn (v := .ty "bool") (by rfl) W.bool (by decide +kernel) rfl) pa_nil)))) pe_non pe_str)))), ?_⟩
    obtain ⟨vm, vc, vp, h1, h2, h3, h4⟩ := hT.ex
    have ec : (!isNonD dm && !arePairsD dm) = false → cErr dm dc dp = (if isBoolD dc = false then some ("changes" : Str) else if isBoolD dp = false then some ("passes" : Str) else none) := fun h => by
      unfold cErr
      rw [h]
      rfl
    refine ⟨fun σ1 H1 => σ1 = [some (.ref t), some (.ref u)] ∧ Same H H1 ∧ (!isNonD dm && !arePairsD dm) = false, ?_, fun σ1 H1 hM => ?_⟩
    · refine ⟨_, rfl, t, _, 0, _, rfl, rfl, SqT.of h1, atI_nat (j := 0) rfl, rfl, _, rfl, ite2 (fun k => ?_) (fun k => ⟨rfl, Same.refl _, ?_⟩)⟩
      · have hne : isNonD dm = false := by
          cases h2 <;> first | rfl | (simp at k; done)
        refine ⟨_, rfl, t, _, 0, _, rfl, rfl, SqT.of h1, atI_nat (j := 0) rfl, _, rfl, _, dm, u, p, zs, rfl, h2, hA, hN, fun H1 s1 => ⟨_, rfl, ?_⟩⟩
        cases e : arePairsD dm with
        | false =>
          have z := q H1 s1
          rw [show cErr dm dc dp = some "methods" by unfold cErr; rw [hne, e]; rfl] at z
          exact iteT z
        | true => exact iteF ⟨rfl, s1, by simp⟩
      · have hv : vm = .non := by simpa using k
        subst hv
        cases h2
        rfl
    obtain ⟨rfl, s1, h0⟩ := hM
    rw [ec h0] at q
    have h1' := s1 _ _ h1
    refine ⟨_, rfl, t, _, 1, _, rfl, rfl, SqT.of h1', atI_nat (j := 1) rfl, vc, .ty "bool", _, _, _, rfl, .ty _, dp_ty (dp_same s1 h3), kit_bool dc, _, rfl, ?_⟩
    cases e1 : isBoolD dc with
    | false =>
      rw [e1] at q
      exact iteT (q _ s1)
    | true =>
      rw [e1] at q
      refine iteF ⟨_, rfl, t, _, 2, _, rfl, rfl, SqT.of h1', atI_nat (j := 2) rfl, vp, .ty "bool", _, _, _, rfl, .ty _, dp_ty (dp_same s1 h4), kit_bool dp, _, rfl, ?_⟩
      cases e2 : isBoolD dp with
      | false =>
        rw [e2] at q
        exact iteF (q _ s1)
      | true =>
        rw [e2] at q
        exact iteT (q _ s1)
end
end Dr
namespace Dr
open PySem PySem.Spec PyProof.Rows L2
open SX (S S_len S_cat)
/-- the heap without its lists -/
def noL (H : Hp) : Hp := fun b => match H b with
  | some (.lst _) => none
  | o => o
/-- all but lists stays -/
def StE (H H' : Hp) : Prop := ∀ b o, H b = some o → (∀ xs, o ≠ .lst xs) → H' b = some o
theorem noL_sub {H : Hp} : Same (noL H) H := fun b o e => by
  unfold noL at e
  split at e
  · cases e
  · exact e
theorem noL_at {H : Hp} {b : Addr} {o : HO} (h : H b = some o) (n : ∀ xs, o ≠ .lst xs) : noL H b = some o := by
  unfold noL
  split
  · rename_i xs e
    rw [e] at h
    exact absurd (Option.some.inj h).symm (n xs)
  · exact h
theorem noL_ste {H H' : Hp} (s : StE H H') : Same (noL H) (noL H') := fun b o e => by
  have h := noL_sub _ _ e
  have n : ∀ xs, o ≠ .lst xs := fun xs eo => by
    subst eo
    unfold noL at e
    rw [h] at e
    cases e
  exact noL_at (s b o h n) n
theorem StE.same {H H' : Hp} (s : Same H H') : StE H H' := fun b o e _ => s b o e
theorem StE.trans {H H1 H2 : Hp} (a : StE H H1) (b : StE H1 H2) : StE H H2 := fun c o e n => b c o (a c o e n) n
theorem StE.kp {p : Addr} {H H' : Hp} (hB : Bag H p) (k : Kp p H H') : StE H H' := fun b o e n => k.1 _ _ (fun z => by
  obtain ⟨u, v, w, ns, hp, _⟩ := hB
  rw [z, hp] at e
  exact n _ (Option.some.inj e).symm) e
theorem StE.grow {H : Hp} {l : Addr} {us ys : List V} (hl : H l = some (.lst us)) : StE H (upd H l (.lst ys)) := fun b o e n => by
  rw [upd_ne (fun z => by rw [z, hl] at e; exact n _ (Option.some.inj e).symm)]
  exact e
mutual
/-- no list in it -/
def nlD : PyData → Bool
  | .list _ => false
  | .tuple ds => nlAll ds
  | _ => true
def nlAll : List PyData → Bool
  | [] => true
  | d :: r => nlD d && nlAll r
end
theorem seqT_noL {K : PySem.W.Frag} {H : Hp} {a : Addr} {xs : List V} (h : SqT K H a xs) : SqT K (noL H) a xs := by
  rcases h with (h | ⟨o, h⟩) | h
  · exact .inl (.inl (noL_at h fun _ e => by cases e))
  · exact .inl (.inr ⟨o, noL_at h fun _ e => by cases e⟩)
  · exact .inr h
mutual
theorem dp_noL {K : PySem.W.Frag} {H : Hp} : ∀ {v : V} {d : PyData}, Dp K H v d → nlD d = true → Dp K (noL H) v d
  | _, _, .non, _ => .non
  | _, _, .bl b, _ => .bl b
  | _, _, .int i, _ => .int i
  | _, _, .str x, _ => .str x
  | _, _, .lst _ _, h => by cases h
  | _, _, .tup h hs, n => .tup (seqT_noL h) (dpAll_noL hs n)
theorem dpAll_noL {K : PySem.W.Frag} {H : Hp} : ∀ {vs : List V} {ds : List PyData}, DpAll K H vs ds → nlAll ds = true → DpAll K (noL H) vs ds
  | _, _, .nil, _ => .nil
  | _, _, .cons h hs, n => by
    have n' : (nlD _ && nlAll _) = true := n
    rw [Bool.and_eq_true] at n'
    exact .cons (dp_noL h n'.1) (dpAll_noL hs n'.2)
end
theorem nl_pairs : ∀ {ds : List PyData}, ds.all isPairD = true → nlAll ds = true
  | [], _ => rfl
  | d :: r, h => by
    have h' : isPairD d = true ∧ r.all isPairD = true := by simpa using h
    obtain ⟨a, b, rfl, _, _⟩ := isPair_of h'.1
    show (nlD (.tuple [.str a, .str b]) && nlAll r) = true
    rw [nl_pairs h'.2]
    rfl
theorem cErr_none {dm dc dp : PyData} (h : cErr dm dc dp = none) : (isNonD dm = true ∨ arePairsD dm = true) ∧ isBoolD dc = true ∧ isBoolD dp = true := by
  unfold cErr at h
  cases h1 : isNonD dm <;> cases h2 : arePairsD dm <;> cases h3 : isBoolD dc <;> cases h4 : isBoolD dp <;> simp [h1, h2, h3, h4] at h ⊢
theorem nl_made {dm dc dp : PyData} (h : cErr dm dc dp = none) : nlD dm = true ∧ nlD dc = true ∧ nlD dp = true := by
  obtain ⟨h1, h2, h3⟩ := cErr_none h
  refine ⟨?_, ?_, ?_⟩
  · rcases h1 with h1 | h1
    · cases dm <;> first | rfl | cases h1
    · cases dm with
      | tuple ds =>
        have q : (ds.all isPairD && decide (ds.map keysOf).Nodup) = true := h1
        rw [Bool.and_eq_true] at q
        exact nl_pairs q.1
      | _ => cases h1
  · cases dc <;> first | rfl | cases h2
  · cases dp <;> first | rfl | cases h3
/-- one entry of the list of made callers: a tuple of the parts and the callers -/
def Ent2 (K : PySem.W.Frag) (CC : Addr) (H : Hp) (e : Addr) : Prop := ∃ (t x : Addr) (dm dc dp : PyData), noL H e = some (.tup [.ref t, .ref x]) ∧ Pts K (noL H) t dm dc dp ∧ CAt K CC (noL H) x dm dc dp ∧ cErr dm dc dp = none
theorem Ent2.ste {K : PySem.W.Frag} {CC : Addr} {H H' : Hp} {e : Addr} (h : Ent2 K CC H e) (s : StE H H') : Ent2 K CC H' e := by
  obtain ⟨t, x, dm, dc, dp, h1, h2, h3, h4⟩ := h
  have z := noL_ste s
  exact ⟨t, x, dm, dc, dp, z _ _ h1, h2.same z, h3.same z, h4⟩
theorem ent_mk {K : PySem.W.Frag} {CC : Addr} {H : Hp} {e t x : Addr} {dm dc dp : PyData} (he : H e = some (.tup [.ref t, .ref x])) (hT : Pts K H t dm dc dp) (hC : CAt K CC H x dm dc dp) (h0 : cErr dm dc dp = none) : Ent2 K CC H e := by
  obtain ⟨n1, n2, n3⟩ := nl_made h0
  obtain ⟨vm, vc, vp, a1, a2, a3, a4⟩ := hT.ex
  obtain ⟨dx, um, uc, up, b1, b2, o2, b3, o3, b4, o4⟩ := hC
  exact ⟨t, x, dm, dc, dp, noL_at he (fun _ z => by cases z), ⟨⟨vm, vc, vp, noL_at a1 (fun _ z => by cases z), dp_noL a2 n1, dp_noL a3 n2, dp_noL a4 n3⟩, hT.om, hT.oc, hT.op, hT.few⟩, ⟨dx, um, uc, up, noL_at b1 (fun _ z => by cases z), dp_noL b2 n1, o2, dp_noL b3 n2, o3, dp_noL b4 n3, o4⟩, h0⟩
/-- the entry, read in the heap itself -/
theorem Ent2.get {K : PySem.W.Frag} {CC : Addr} {H : Hp} {e : Addr} (h : Ent2 K CC H e) : ∃ (t x : Addr) (dm dc dp : PyData), H e = some (.tup [.ref t, .ref x]) ∧ Pts K H t dm dc dp ∧ CAt K CC H x dm dc dp ∧ cErr dm dc dp = none := by
  obtain ⟨t, x, dm, dc, dp, h1, h2, h3, h4⟩ := h
  exact ⟨t, x, dm, dc, dp, noL_sub _ _ h1, h2.same noL_sub, h3.same noL_sub, h4⟩
theorem call_repr_bl {X : Cx} : CallR X (.builtin "repr") (fun xs H Q => ∃ b : Bool, xs = [.bl b] ∧ Q (.str (if b then "True" else "False")) H) := by
  intro pins s σ H xs us Q I r h
  obtain ⟨b, rfl, q⟩ := h
  obtain ⟨u, rfl, ru⟩ := vals1 r
  cases ru
  exact PySem.P.repr_of_bool ⟨.str _, H, I.tok _, ⟨_, rfl⟩, q⟩
theorem eqvR {d : PyData} (h : OkD d) : PyData.eqv d d = true := SeqAt.eqv_refl_plain _ (PyData.plain_of_canLay0 _ (SeqAt.canLay_of_shaped h.sh))
theorem eqC_tup (a b c d e f : PyData) : PyData.eqv (.tuple [a, b, c]) (.tuple [d, e, f]) = eqC a b c d e f := by
  show (PyData.eqv a d && (PyData.eqv b e && (PyData.eqv c f && true))) = ((PyData.eqv a d && PyData.eqv b e) && PyData.eqv c f)
  rw [Bool.and_true, Bool.and_assoc]
theorem bl_of {d : PyData} (h : isBoolD d = true) : ∃ b, d = .bool b := by
  cases d <;> first | exact ⟨_, rfl⟩ | cases h
end Dr
namespace Dr
open PySem PySem.Spec PyProof.Rows L2
open SX (S S_len S_cat)
abbrev sLaw : Stmt := topS 23
abbrev nLaw : List Str := ["_law_script", "_law_bag_here", "_law_names_here", "_law_made_here", "_law_k", "_law_parts", "_law_due_here", "_law_actual", "_law_one", "_law_other", "_law_plain"]
theorem scLaw : FnScope nLaw ["_law_script"] (defScope sLaw) := ⟨rfl, rfl, rfl, by decide +kernel, rfl, by decide +kernel, by decide +kernel⟩
theorem depth_pairs : ∀ {ds : List PyData}, ds.all isPairD = true → PyData.depthAll ds ≤ 1
  | [], _ => Nat.zero_le _
  | d :: r, h => by
    have h' : isPairD d = true ∧ r.all isPairD = true := by simpa using h
    obtain ⟨a, b, rfl, _, _⟩ := isPair_of h'.1
    have := depth_pairs h'.2
    show max (max 0 (max 0 0) + 1) (PyData.depthAll r) ≤ 1
    omega
theorem sh_parts {dm dc dp : PyData} (h : cErr dm dc dp = none) (om : OkD dm) : SeqAt.shaped (.tuple [dm, dc, dp]) = true := by
  obtain ⟨h1, h2, h3⟩ := cErr_none h
  obtain ⟨b1, rfl⟩ := bl_of h2
  obtain ⟨b2, rfl⟩ := bl_of h3
  have hm : Smn 4 dm := ⟨SeqAt.canLay_of_shaped om.sh, om.sm, by
    rcases h1 with h1 | h1
    · cases dm <;> first | exact Nat.zero_le _ | cases h1
    · cases dm with
      | tuple ds =>
        have q : (ds.all isPairD && decide (ds.map keysOf).Nodup) = true := h1
        rw [Bool.and_eq_true] at q
        have := depth_pairs q.1
        show PyData.depthAll ds + 1 ≤ 4
        omega
      | _ => cases h1⟩
  exact ((smn_tup (n := 4) (smn_cons hm (smn_cons (smn_bl b1) (smn_cons (smn_bl b2) smn_nil))) (by show 3 ≤ 1000; decide)).okD (by decide)).sh
theorem eqC_refl {dm dc dp : PyData} (a : OkD dm) (b : OkD dc) (c : OkD dp) : eqC dm dc dp dm dc dp = true := by
  unfold eqC
  rw [eqvR a, eqvR b, eqvR c]
  rfl
theorem ok_bl (b : Bool) : OkD (.bool b) := ⟨rfl, rfl⟩
/-- what == of callers needs -/
structure CEq (K : PySem.W.Frag) (CC g : Addr) : Prop where
  eq : PySem.W.findIn K (.ref CC) "__eq__" = some (some (.ref g))
  fn : PySem.W.isFn K (.ref g) = true
  ne : PySem.W.findIn K (.ref CC) "__ne__" = some (some (.builtin "object.__ne__"))
section
variable {P : Program} {w : World} {K : PySem.W.Frag} {mg : Str → Option Value} {base : Heap}
def spLaw (K : PySem.W.Frag) : Sp := fun vs H Q _ => ∃ (a : Addr) (ns : List Int), vs = [.ref a] ∧ SqL K H a (ns.map V.int) ∧ ns.length ≤ 63 ∧ ∀ H', Q (.bl true) H'
theorem ok_law {CC CE f fB fN fM fT fU fA fI fE : Addr} {fd fdB fdN fdM fdT fdU fdA fdI fdE : FuncData} (F : Fun K "law" "law" sLaw f fd) (W : Wds K mg) (T : Blt mg) (hrep : mg "repr" = none) (TC : Clr K mg CC) (EQ : CEq K CC fE)
    (GB : FnOk P w K mg base CX0 1 fB fdB ["_law_script"] (spBag K)) (mB : mg "_law_bag" = some (.ref fB)) (kB : PySem.W.keepIn K (.ref fB) = true) (bB : Binds K fdB ["_law_script"] [])
    (GN : FnOk P w K mg base CX0 2 fN fdN ["_law_bag_here", "_law_many"] (spNames K)) (mN : mg "_law_names" = some (.ref fN)) (kN : PySem.W.keepIn K (.ref fN) = true) (bN : Binds K fdN ["_law_bag_here", "_law_many"] [])
    (GM : FnOk P w K mg base CX0 3 fM fdM ["_law_bag_here", "_law_names_here"] (spMth K)) (mM : mg "_law_methods" = some (.ref fM)) (kM : PySem.W.keepIn K (.ref fM) = true) (bM : Binds K fdM ["_law_bag_here", "_law_names_here"] [])
    (GT : FnOk P w K mg base CX0 2 fT fdT ["_law_bag_here"] (spTru K)) (mT : mg "_law_truth" = some (.ref fT)) (kT : PySem.W.keepIn K (.ref fT) = true) (bT : Binds K fdT ["_law_bag_here"] [])
    (GU : FnOk P w K mg base CX0 2 fU fdU ["_law_parts", "_law_names_here"] (spDue K)) (mU : mg "_law_due" = some (.ref fU)) (kU : PySem.W.keepIn K (.ref fU) = true) (bU : Binds K fdU ["_law_parts", "_law_names_here"] [])
    (GA : FnOk P w K mg base CX0 6 fA fdA ["_law_parts"] (spMade K CC)) (mA : mg "_law_made" = some (.ref fA)) (kA : PySem.W.keepIn K (.ref fA) = true) (bA : Binds K fdA ["_law_parts"] [])
    (FI : FC K fI fdI) (M : Mk K CC fI) (GI : FnOk P w K mg base (L2.CX P w) 4 fI fdI psC (spCI K CC CE)) (GE : FnOk P w K mg base CX0 1 fE fdE ["self", "other"] (spCEq K CC)) (bE : Binds K fdE ["self", "other"] []) :
    FnOk P w K mg base CX0 7 f fd ["_law_script"] (spLaw K) := by
  have bC := bind_cc FI
  obtain ⟨ds0, vs0, b0⟩ := bind_c0 FI
  refine F.ok scLaw (fun vs H Q E h => ?_) (fun cdv A outer s H vs Q E hr h => ?_)
  · obtain ⟨a, ns, rfl, _⟩ := h
    rfl
  · obtain ⟨a, ns, rfl, hS, hlen, q⟩ := h
    have hu : (A.deeper (envOfC "law" (defScope sLaw) s.heap.objs.size f cdv)).units + 64 < cLine := hr.units
    have hr1 : Room 1 _ := hr.mono (by decide)
    have hr2 : Room 2 _ := hr.mono (by decide)
    have hr3 : Room 3 _ := hr.mono (by decide)
    have hr5 : Room 5 _ := hr.mono (by decide)
    have hr6 : Room 6 _ := hr.mono (by decide)
    refine ⟨_, pss_cons (ps_set (i := 1) scLaw.nd rfl (.inl rfl) (pe_call GB hr1 (by rfl) mB kB bB .nil pass0 (pa_cons (pv 0) pa_nil)))
      (pss_cons (ps_set (i := 2) scLaw.nd rfl (.inl rfl) (pe_call GN hr2 (by rfl) mN kN bN .nil pass0 (pa_cons (pv 1) (pa_cons pe_int pa_nil))))
      (pss_cons (ps_set (i := 3) scLaw.nd rfl (.inl rfl) (pe_lst pa_nil))
      (pss_cons (ps_for PassesOwn.never rfl (pi_range1 rfl T.ran (pa_cons pe_int pa_nil)) (pg_name (i := 4) scLaw.nd rfl (.inl rfl))
        (pss_cons (ps_set (i := 5) scLaw.nd rfl (.inl rfl) (pe_tup (pa_cons (pe_call GM hr3 (by rfl) mM kM bM .nil pass0 (pa_cons (pv 1) (pa_cons (pv 2) pa_nil))) (pa_cons (pe_call GT hr2 (by rfl) mT kT bT .nil pass0 (pa_cons (pv 1) pa_nil)) (pa_cons (pe_call GT hr2 (by rfl) mT kT bT .nil pass0 (pa_cons (pv 1) pa_nil)) pa_nil)))))
        (pss_cons (ps_set (i := 6) scLaw.nd rfl (.inl rfl) (pe_call GU hr2 (by rfl) mU kU bU .nil pass0 (pa_cons (pv 5) (pa_cons (pv 2) pa_nil))))
        (pss_cons (ps_set (i := 7) scLaw.nd rfl (.inl rfl) (pe_call GA hr6 (by rfl) mA kA bA .nil pass0 (pa_cons (pv 5) pa_nil)))
        (pss_cons (ps_if (pt_cmpR op_notN (pv 6) pe_non (nomark _))
            (pss_cons (ps_if (PW.pt (pw_or (pt_not (pt_val (pe_callB call_isi (by rfl) W.isi (by decide +kernel) (pa_cons (pv 7) (pa_cons (pe_bltn (v := .ty "str") (by rfl) W.str (by decide +kernel) rfl) pa_nil))))) (pw_or1 (pt_cmpR op_ne (pv 7) (pv 6) (nomark _))))) (pss_one (ps_ret pe_bl)) pss_nil)
            (pss_one ps_continue)) pss_nil)
        (pss_cons (ps_if (PW.pt (pw_or (pt_not (pt_val (pe_callB call_isi (by rfl) W.isi (by decide +kernel) (pa_cons (pv 7) (pa_cons (pe_glob (v := .ref CC) (by rfl) TC.mgC rfl) pa_nil))))) (pw_or1 (pt_cmpR (op_neD hu) (pe_fld (pv 7) rfl) (pe_ix ix_tup (pv 5) pe_int (fun _ _ => rfl)) (nomark _))))) (pss_one (ps_ret pe_bl)) pss_nil)
        (pss_cons (ps_if (PW.pt (pw_or (pt_cmpR op_ne (pe_callB call_repr_bl (by rfl) hrep (by decide +kernel) (pa_cons (pe_fld (pv 7) rfl) pa_nil)) (pe_callB call_repr_bl (by rfl) hrep (by decide +kernel) (pa_cons (pe_ix ix_tup (pv 5) pe_int (fun _ _ => rfl)) pa_nil)) (nomark _))
              (pw_or1 (pt_cmpR op_ne (pe_callB call_repr_bl (by rfl) hrep (by decide +kernel) (pa_cons (pe_fld (pv 7) rfl) pa_nil)) (pe_callB call_repr_bl (by rfl) hrep (by decide +kernel) (pa_cons (pe_ix ix_tup (pv 5) pe_int (fun _ _ => rfl)) pa_nil)) (nomark _))))) (pss_one (ps_ret pe_bl)) pss_nil)
        (pss_cons (ps_if (pt_cmpR op_ne (pe_callB call_isi (by rfl) W.isi (by decide +kernel) (pa_cons (pe_ix ix_tup (pv 5) pe_int (fun _ _ => rfl)) (pa_cons (pe_bltn (v := .ty "tuple") (by rfl) W.tup (by decide +kernel) rfl) pa_nil))) (pe_callB call_isi (by rfl) W.isi (by decide +kernel) (pa_cons (pe_fld (pv 7) rfl) (pa_cons (pe_bltn (v := .ty "tuple") (by rfl) W.tup (by decide +kernel) rfl) pa_nil))) (nomark _)) (pss_one (ps_ret pe_bl)) pss_nil)
        (pss_one (ps_expr (pe_bm PySem.F.plainAttrs_list PySem.F.slot_list_append PySem.F.type_list_append mt_append (pv 3) (pa_cons (pe_tup (pa_cons (pv 5) (pa_cons (pv 7) pa_nil))) pa_nil))))))))))))
      (pss_cons (ps_for PassesOwn.never rfl (pi_list (pv 3)) (pg_name (i := 8) scLaw.nd rfl (.inl rfl))
        (pss_cons (ps_for PassesOwn.never rfl (pi_list (pv 3)) (pg_name (i := 9) scLaw.nd rfl (.inl rfl))
          (pss_one (ps_if (PW.pt (pw_or (pt_cmpR op_ne (pe_cmpR (op_eqI EQ.eq EQ.fn GE hr1 bE pass0) (pe_ix ix_tup (pv 8) pe_int (fun _ _ => rfl)) (pe_ix ix_tup (pv 9) pe_int (fun _ _ => rfl)) (nomark _)) (pe_cmpR (op_eqD hu) (pe_ix ix_tup (pv 8) pe_int (fun _ _ => rfl)) (pe_ix ix_tup (pv 9) pe_int (fun _ _ => rfl)) (nomark _)) (nomark _))
            (pw_or1 (pt_cmpR op_eq (pe_cmpR (op_neI EQ.eq EQ.fn EQ.ne TC.hm GE hr2 bE pass0) (pe_ix ix_tup (pv 8) pe_int (fun _ _ => rfl)) (pe_ix ix_tup (pv 9) pe_int (fun _ _ => rfl)) (nomark _)) (pe_cmpR (op_eqD hu) (pe_ix ix_tup (pv 8) pe_int (fun _ _ => rfl)) (pe_ix ix_tup (pv 9) pe_int (fun _ _ => rfl)) (nomark _)) (nomark _))))) (pss_one (ps_ret pe_bl)) pss_nil)))
        (pss_cons (ps_if (PW.pt (pw_or (pt_cmpR (op_neI EQ.eq EQ.fn EQ.ne TC.hm GE hr2 bE pass0) (pe_ix ix_tup (pv 8) pe_int (fun _ _ => rfl)) (pe_makeK M GI hr5 (by rfl) TC.mgC bC (passes_call takes0 (fun _ _ _ _ h => h)) (pa_cons (pe_ix ix_tup (pe_ix ix_tup (pv 8) pe_int (fun _ _ => rfl)) pe_int (fun _ _ => rfl)) pa_nil) (pk_cons (pe_ix ix_tup (pe_ix ix_tup (pv 8) pe_int (fun _ _ => rfl)) pe_int (fun _ _ => rfl)) (pk_cons (pe_ix ix_tup (pe_ix ix_tup (pv 8) pe_int (fun _ _ => rfl)) pe_int (fun _ _ => rfl)) pk_nil))) (nomark _))
            (pw_or1 (pt_cmpR (op_eqI EQ.eq EQ.fn GE hr1 bE pass0) (pe_ix ix_tup (pv 8) pe_int (fun _ _ => rfl)) (pe_ix ix_tup (pv 8) pe_int (fun _ _ => rfl)) (nomark _))))) (pss_one (ps_ret pe_bl)) pss_nil)
        (pss_cons (ps_if (pt_cmpR (op_eqI EQ.eq EQ.fn GE hr1 bE pass0) (pe_ix ix_tup (pv 8) pe_int (fun _ _ => rfl)) (pe_makeK M GI hr5 (by rfl) TC.mgC bC (passes_call takes0 (fun _ _ _ _ h => h)) (pa_cons (pe_ix ix_tup (pe_ix ix_tup (pv 8) pe_int (fun _ _ => rfl)) pe_int (fun _ _ => rfl)) pa_nil) (pk_cons (pe_not (pe_ix ix_tup (pe_ix ix_tup (pv 8) pe_int (fun _ _ => rfl)) pe_int (fun _ _ => rfl))) (pk_cons (pe_ix ix_tup (pe_ix ix_tup (pv 8) pe_int (fun _ _ => rfl)) pe_int (fun _ _ => rfl)) pk_nil))) (nomark _)) (pss_one (ps_ret pe_bl)) pss_nil)
        (pss_one (ps_if (pt_cmpR (op_eqI EQ.eq EQ.fn GE hr1 bE pass0) (pe_ix ix_tup (pv 8) pe_int (fun _ _ => rfl)) (pe_makeK M GI hr5 (by rfl) TC.mgC bC (passes_call takes0 (fun _ _ _ _ h => h)) (pa_cons (pe_ix ix_tup (pe_ix ix_tup (pv 8) pe_int (fun _ _ => rfl)) pe_int (fun _ _ => rfl)) pa_nil) (pk_cons (pe_ix ix_tup (pe_ix ix_tup (pv 8) pe_int (fun _ _ => rfl)) pe_int (fun _ _ => rfl)) (pk_cons (pe_not (pe_ix ix_tup (pe_ix ix_tup (pv 8) pe_int (fun _ _ => rfl)) pe_int (fun _ _ => rfl))) pk_nil))) (nomark _)) (pss_one (ps_ret pe_bl)) pss_nil))))))
      (pss_cons (ps_set (i := 10) scLaw.nd rfl (.inl rfl) (pe_make0 M GI hr5 (by rfl) TC.mgC b0 vs0 (passes_call takes0 (fun _ _ _ _ h => h))))
      (pss_one (ps_ret (pe_and (pe_cmpR op_isN (pe_fld (pv 10) rfl) pe_non (nomark _)) (pe_and (pe_cmpR op_is_bl (pe_fld (pv 10) rfl) pe_bl (nomark _)) (pe_one (pe_cmpR op_is_bl (pe_fld (pv 10) rfl) pe_bl (nomark _)))))))))))), ?_⟩
    refine ⟨_, rfl, a, ns, rfl, hS, hlen, fun H1 p s1 np hB => ?_⟩
    refine ⟨_, rfl, p, 4, rfl, hB, by decide, fun H2 u zs k2 nu hU zl hok => ?_⟩
    have up : u ≠ p := hB.ne nu
    have hN2 : Nms H2 u p zs := ⟨hU, up, by omega, by omega, hok⟩
    refine ⟨Nat.zero_le _, fun g ng => ?_⟩
    have gp := k2.2.ne ng
    have sg := same_upd (o := .lst []) ng
    have gu : u ≠ g := ne_of_none hU ng
    refine ⟨4, rfl, by decide, by decide, for_it walk_range (fun i σ H3 => Bag H3 p ∧ Nms H3 u p zs ∧ (∃ (es : List Addr), H3 g = some (.lst (es.map V.ref)) ∧ es.length ≤ i ∧ ∀ e ∈ es, Ent2 K CC H3 e) ∧ ∃ y4 y5 y6 y7, σ = [some (.ref a), some (.ref p), some (.ref u), some (.ref g), y4, y5, y6, y7, none, none, none])
      ⟨k2.2.same sg, hN2.same sg, ⟨[], upd_same, Nat.le_refl _, fun e he => by cases he⟩, _, _, _, _, rfl⟩ (fun _ _ _ _ _ => trivial) ?_ ?_⟩
    · rintro i x σ H3 H4 hi ⟨hB3, hN3, ⟨es, hg, hel, hes⟩, y4, y5, y6, y7, rfl⟩ ⟨rfl, rfl⟩
      have hi4 : i < 4 := hi
      refine ⟨_, rfl, _, rfl, p, u, zs, rfl, hB3, hN3, fun H5 vm dm k5 hm aok => ?_⟩
      refine ⟨_, rfl, p, rfl, k5.2, fun H6 vc dc k6 hc okc => ?_⟩
      refine ⟨_, rfl, p, rfl, k6.2, fun H7 vp dp k7 hp okp => ?_⟩
      refine ⟨by show 3 ≤ sizeLine; rw [sizeLine_eq]; decide, fun t nt => ?_⟩
      have st := same_upd (o := .tup [vm, vc, vp]) nt
      have hT : Pts K (upd H7 t (.tup [vm, vc, vp])) t dm dc dp := ⟨⟨vm, vc, vp, upd_same, dp_same st (Dq.kp (Dq.kp hm k6) k7).dp, dp_same st (Dq.kp hc k7).dp, dp_same st hp.dp⟩, aok.ok, okc, okp, aok.few⟩
      have kk := (k5.trans k6).trans k7
      have ste : StE H4 (upd H7 t (.tup [vm, vc, vp])) := (StE.kp hB3 kk).trans (StE.same st)
      have hN8 := (hN3.kp kk).same st
      have hB8 := kk.2.same st
      have hg8 := st _ _ (kk.1 _ _ gp hg)
      generalize (upd H7 t (.tup [vm, vc, vp])) = H8 at hT ste hN8 hB8 hg8 ⊢
      refine ⟨_, rfl, _, rfl, t, u, p, zs, dm, dc, dp, rfl, hT, aok, hN8, fun H9 s9 => ?_⟩
      have hT9 := hT.same s9
      refine ⟨_, rfl, t, dm, dc, dp, rfl, hT9, fun f HA ef sA => ?_, fun ef HA x sA nx hC => ?_⟩
      · have sN := s9.trans sA
        rw [ef]
        refine ⟨_, rfl, rfl, _, rfl, ite2 (fun _ => ?_) (fun k => absurd (show (!decide (dueV (some f) = V.non)) = true from by simp [dueV]) k)⟩
        refine ⟨.str f, rfl, .str f, .ty "str", _, _, _, rfl, .ty _, dp_ty (.str f), kit_str (.str f), _, rfl, iteF ⟨_, rfl, _, rfl, rfl, _, rfl, ite2 (fun k => absurd k (by simp [dueV])) (fun _ => ?_)⟩⟩
        exact ⟨hB8.same sN, hN8.same sN, ⟨es, sN _ _ hg8, Nat.le_succ_of_le hel, fun e he => (hes e he).ste (ste.trans (StE.same sN))⟩, _, _, _, _, rfl⟩
      rw [ef]
      have sN := s9.trans sA
      have hTA := hT9.same sA
      obtain ⟨_, eb1, eb2⟩ := cErr_none ef
      obtain ⟨b1, rfl⟩ := bl_of eb1
      obtain ⟨b2, rfl⟩ := bl_of eb2
      obtain ⟨wm, wc, wp, a1, a2, a3, a4⟩ := hTA.ex
      have hC0 := hC
      obtain ⟨dx, um, uc, upp, c1, c2, o2, c3, o3, c4, o4⟩ := hC
      cases a3
      cases a4
      cases c3
      cases c4
      refine ⟨_, rfl, rfl, _, rfl, iteF ?_⟩
      refine ⟨_, rfl, _, .ref CC, _, _, true, rfl, .own CC, .base (.ins c1 TC.cl TC.ha TC.hn TC.htk TC.hm), kit_self CC, _, rfl, iteF ?_⟩
      refine ⟨_, rfl, x, CC, dx, _, _, rfl, c1, TC.cl, TC.nM, cF_methods, _, rfl, t, _, 0, _, rfl, rfl, SqT.of a1, atI_nat (j := 0) rfl, dm, dm, c2, a2, o2.sh, o2.sh, _, rfl, ?_⟩
      rw [eqvR o2]
      refine iteF ?_
      refine ⟨_, rfl, x, CC, dx, _, _, rfl, c1, TC.cl, TC.nC, cF_changes, b1, rfl, _, rfl, t, _, 1, _, rfl, rfl, SqT.of a1, atI_nat (j := 1) rfl, b1, rfl, rfl, _, rfl, ite2 (fun k => absurd k (by simp)) (fun _ => ?_)⟩
      refine ⟨_, rfl, x, CC, dx, _, _, rfl, c1, TC.cl, TC.nP, cF_passes, b2, rfl, _, rfl, t, _, 2, _, rfl, rfl, SqT.of a1, atI_nat (j := 2) rfl, b2, rfl, rfl, _, rfl, ite2 (fun k => absurd k (by simp)) (fun _ => ?_)⟩
      refine ⟨_, rfl, t, _, 0, _, rfl, rfl, SqT.of a1, atI_nat (j := 0) rfl, wm, .ty "tuple", _, _, _, rfl, .ty _, dp_ty a2, kit_tup dm, _, rfl, x, CC, dx, _, _, rfl, c1, TC.cl, TC.nM, cF_methods, um, .ty "tuple", _, _, _, rfl, .ty _, dp_ty c2, kit_tup dm, rfl, _, rfl, ite2 (fun k => absurd k (by simp)) (fun _ => ?_)⟩
      have hgA := sN _ _ hg8
      refine ⟨_, rfl, .inl ⟨rfl, _, SqL.of hgA⟩, _, rfl, _, rfl, two_le, fun e ne => ?_⟩
      have se := same_upd (o := .tup [V.ref t, V.ref x]) ne
      have hgE := se _ _ hgA
      have sE := sN.trans se
      have hBE := hB8.same sE
      have hNE := hN8.same sE
      refine ⟨g, _, _, rfl, rfl, hgE, by rw [List.length_map]; exact small1000 (by omega), ?_, ?_, ⟨es ++ [e], ?_, by rw [List.length_append]; exact Nat.succ_le_succ hel, fun e2 he2 => ?_⟩, _, _, _, _, rfl⟩
      · obtain ⟨u', v', w', ns', hp', hb'⟩ := hBE
        exact ⟨u', v', w', ns', by rw [upd_ne gp.symm]; exact hp', hb'⟩
      · exact ⟨by rw [upd_ne gu]; exact hNE.at_, hNE.np, hNE.ne, hNE.le, hNE.ok⟩
      · rw [upd_same, List.map_append]
        rfl
      · rcases List.mem_append.mp he2 with h | h
        · exact (hes e2 h).ste ((ste.trans (StE.same sE)).trans (StE.grow hgE))
        · rw [List.mem_singleton.mp h]
          exact (ent_mk upd_same (hTA.same se) (hC0.same se) ef).ste (StE.grow hgE)
    rintro σ H3 ⟨hB3, hN3, ⟨es, hg, hel, hes⟩, y4, y5, y6, y7, rfl⟩
    have fin : ∀ e ∈ es, ∃ (t x : Addr) (dm : PyData) (b1 b2 : Bool), H3 e = some (.tup [.ref t, .ref x]) ∧ Pts K H3 t dm (.bool b1) (.bool b2) ∧ CAt K CC H3 x dm (.bool b1) (.bool b2) ∧ cErr dm (.bool b1) (.bool b2) = none := fun e he => by
      obtain ⟨t, x, dm, dc, dp, h1, h2, h3, h4⟩ := (hes e he).get
      obtain ⟨_, eb1, eb2⟩ := cErr_none h4
      obtain ⟨b1, rfl⟩ := bl_of eb1
      obtain ⟨b2, rfl⟩ := bl_of eb2
      exact ⟨t, x, dm, b1, b2, h1, h2, h3, h4⟩
    have at_ : ∀ (i : Nat) (v : V), (es.map V.ref)[i]? = some v → ∃ e ∈ es, v = .ref e := fun i v hv => by
      rw [List.getElem?_map] at hv
      cases he : es[i]? with
      | none =>
        rw [he] at hv
        cases hv
      | some e =>
        rw [he] at hv
        exact ⟨e, List.mem_of_getElem? he, (Option.some.inj hv).symm⟩
    refine ⟨_, rfl, g, rfl, ⟨_, SqL.of hg⟩, for_it (walk_list (xs := es.map V.ref)) (fun i σ H4 => Same H3 H4 ∧ ∃ y8 y9, σ = [some (.ref a), some (.ref p), some (.ref u), some (.ref g), y4, y5, y6, y7, y8, y9, none]) ⟨Same.refl _, _, _, rfl⟩ (fun _ _ _ _ h => SqL.of (h.1 _ _ hg)) ?_ ?_⟩
    · rintro i v σ H4 H4' hi ⟨s4, y8, y9, rfl⟩ ⟨rfl, hv⟩
      obtain ⟨e, he, rfl⟩ := at_ i v hv
      obtain ⟨t, x, dm, b1, b2, h1, h2, h3, ef⟩ := fin e he
      -- every pair
      refine ⟨_, rfl, g, rfl, ⟨_, SqL.of (s4 _ _ hg)⟩, for_it (walk_list (xs := es.map V.ref)) (fun i σ H5 => Same H3 H5 ∧ ∃ y9, σ = [some (.ref a), some (.ref p), some (.ref u), some (.ref g), y4, y5, y6, y7, some (.ref e), y9, none]) ⟨s4, _, rfl⟩ (fun _ _ _ _ h => SqL.of (h.1 _ _ hg)) ?_ ?_⟩
      · rintro j v2 σ H5 H5' hj ⟨s5, y9, rfl⟩ ⟨rfl, hv2⟩
        obtain ⟨e2, he2, rfl⟩ := at_ j v2 hv2
        obtain ⟨t2, x2, dm2, b3, b4, h12, h22, h32, ef2⟩ := fin e2 he2
        have k1 := s5 _ _ h1
        have k12 := s5 _ _ h12
        have k2 := h2.same s5
        have k22 := h22.same s5
        have k3 := h3.same s5
        have k32 := h32.same s5
        obtain ⟨dx, um, uc, upp, c1, _⟩ := id k3
        obtain ⟨dx2, um2, uc2, upp2, c12, _⟩ := id k32
        have eqd := eqC_tup dm (.bool b1) (.bool b2) dm2 (.bool b3) (.bool b4)
        refine ⟨_, rfl, e, _, 1, _, rfl, rfl, SqT.of k1, atI_nat (j := 1) rfl, _, rfl, e2, _, 1, _, rfl, rfl, SqT.of k12, atI_nat (j := 1) rfl, x, dx, _, rfl, c1, .inl ⟨x2, dx2, _, rfl, c12⟩, x, _, _, _, .ref x2, rfl, k3, .inl ⟨x2, _, _, _, rfl, k32, ?_⟩⟩
        refine ⟨_, rfl, e, _, 0, _, rfl, rfl, SqT.of k1, atI_nat (j := 0) rfl, _, rfl, e2, _, 0, _, rfl, rfl, SqT.of k12, atI_nat (j := 0) rfl, _, _, k2.dp, k22.dp, sh_parts ef h2.om, sh_parts ef2 h22.om, ?_⟩
        refine ⟨rfl, _, rfl, ite2 (fun k => absurd k (by rw [eqd]; simp)) (fun _ => ?_)⟩
        refine ⟨_, rfl, e, _, 1, _, rfl, rfl, SqT.of k1, atI_nat (j := 1) rfl, _, rfl, e2, _, 1, _, rfl, rfl, SqT.of k12, atI_nat (j := 1) rfl, x, dx, _, rfl, c1, .inl ⟨x2, dx2, _, rfl, c12⟩, x, _, _, _, .ref x2, rfl, k3, .inl ⟨x2, _, _, _, rfl, k32, _, rfl, ?_⟩⟩
        refine ⟨_, rfl, e, _, 0, _, rfl, rfl, SqT.of k1, atI_nat (j := 0) rfl, _, rfl, e2, _, 0, _, rfl, rfl, SqT.of k12, atI_nat (j := 0) rfl, _, _, k2.dp, k22.dp, sh_parts ef h2.om, sh_parts ef2 h22.om, ?_⟩
        refine ⟨rfl, _, rfl, ite2 (fun k => absurd k (by rw [eqd]; cases eqC dm (.bool b1) (.bool b2) dm2 (.bool b3) (.bool b4) <;> simp)) (fun _ => ?_)⟩
        exact ⟨s5, _, rfl⟩
      rintro σ H5 ⟨s5, y9, rfl⟩
      have k1 := s5 _ _ h1
      have k2 := h2.same s5
      have k3 := h3.same s5
      obtain ⟨vm, vc, vp, a1, a2, a3, a4⟩ := k2.ex
      cases a3
      cases a4
      obtain ⟨dx, um, uc, upp, c1, _⟩ := id k3
      -- the same again
      have dif : ∀ b : Bool, PyData.eqv (.bool b) (.bool !b) = false := fun b => by
        show (b == !b) = false
        cases b <;> rfl
      refine ⟨_, rfl, e, _, 1, _, rfl, rfl, SqT.of k1, atI_nat (j := 1) rfl, _, rfl, e, _, 0, _, rfl, rfl, SqT.of k1, atI_nat (j := 0) rfl, t, _, 0, _, rfl, rfl, SqT.of a1, atI_nat (j := 0) rfl, _, rfl, e, _, 0, _, rfl, rfl, SqT.of k1, atI_nat (j := 0) rfl, t, _, 1, _, rfl, rfl, SqT.of a1, atI_nat (j := 1) rfl, _, rfl, e, _, 0, _, rfl, rfl, SqT.of k1, atI_nat (j := 0) rfl, t, _, 2, _, rfl, rfl, SqT.of a1, atI_nat (j := 2) rfl, rfl, rfl, fun x9 d9 n9 m9 _ => ?_⟩
      refine made_at n9 m9 a2 k2.om k2.few (.bl b1) (ok_bl b1) (.bl b2) (ok_bl b2) (fun f e2 => by rw [ef] at e2; cases e2) (fun _ H6 s6 hC6 => ⟨rfl, ?_⟩)
      obtain ⟨dx6, _, _, _, c6, _⟩ := id hC6
      refine ⟨x, dx, _, rfl, s6 _ _ c1, .inl ⟨x9, dx6, _, rfl, c6⟩, x, _, _, _, .ref x9, rfl, k3.same s6, .inl ⟨x9, _, _, _, rfl, hC6, _, rfl, ?_⟩⟩
      rw [eqC_refl k2.om (ok_bl b1) (ok_bl b2)]
      refine ⟨_, rfl, iteF ?_⟩
      have l1 := s6 _ _ k1
      refine ⟨_, rfl, e, _, 1, _, rfl, rfl, SqT.of l1, atI_nat (j := 1) rfl, _, rfl, e, _, 0, _, rfl, rfl, SqT.of l1, atI_nat (j := 0) rfl, x, dx, _, rfl, s6 _ _ c1, .inr ⟨_, (k2.same s6).dp⟩, x, _, _, _, .ref t, rfl, k3.same s6, .inr ⟨_, (k2.same s6).dp, ?_⟩⟩
      refine ⟨_, rfl, iteF ?_⟩
      -- changes turned
      have a16 := s6 _ _ a1
      refine ⟨_, rfl, e, _, 1, _, rfl, rfl, SqT.of l1, atI_nat (j := 1) rfl, _, rfl, e, _, 0, _, rfl, rfl, SqT.of l1, atI_nat (j := 0) rfl, t, _, 0, _, rfl, rfl, SqT.of a16, atI_nat (j := 0) rfl, _, rfl, e, _, 0, _, rfl, rfl, SqT.of l1, atI_nat (j := 0) rfl, t, _, 1, _, rfl, rfl, SqT.of a16, atI_nat (j := 1) rfl, b1, rfl, _, rfl, e, _, 0, _, rfl, rfl, SqT.of l1, atI_nat (j := 0) rfl, t, _, 2, _, rfl, rfl, SqT.of a16, atI_nat (j := 2) rfl, rfl, rfl, fun x7 d7 n7 m7 _ => ?_⟩
      refine made_at n7 m7 (dp_same s6 a2) k2.om k2.few (.bl (!b1)) (ok_bl (!b1)) (.bl b2) (ok_bl b2) (fun f e2 => by rw [show cErr dm (.bool !b1) (.bool b2) = none from ef] at e2; cases e2) (fun _ H7 s7 hC7 => ⟨rfl, ?_⟩)
      obtain ⟨dx7, _, _, _, c7, _⟩ := id hC7
      have s67 := s6.trans s7
      refine ⟨x, dx, _, rfl, s67 _ _ c1, .inl ⟨x7, dx7, _, rfl, c7⟩, x, _, _, _, .ref x7, rfl, k3.same s67, .inl ⟨x7, _, _, _, rfl, hC7, ?_⟩⟩
      rw [show eqC dm (.bool b1) (.bool b2) dm (.bool !b1) (.bool b2) = false by unfold eqC; rw [dif, Bool.and_false, Bool.false_and]]
      refine ⟨_, rfl, iteF ?_⟩
      -- passes turned
      have l2 := s67 _ _ k1
      have a17 := s67 _ _ a1
      refine ⟨_, rfl, e, _, 1, _, rfl, rfl, SqT.of l2, atI_nat (j := 1) rfl, _, rfl, e, _, 0, _, rfl, rfl, SqT.of l2, atI_nat (j := 0) rfl, t, _, 0, _, rfl, rfl, SqT.of a17, atI_nat (j := 0) rfl, _, rfl, e, _, 0, _, rfl, rfl, SqT.of l2, atI_nat (j := 0) rfl, t, _, 1, _, rfl, rfl, SqT.of a17, atI_nat (j := 1) rfl, _, rfl, e, _, 0, _, rfl, rfl, SqT.of l2, atI_nat (j := 0) rfl, t, _, 2, _, rfl, rfl, SqT.of a17, atI_nat (j := 2) rfl, b2, rfl, rfl, rfl, fun x8 d8 n8 m8 _ => ?_⟩
      refine made_at n8 m8 (dp_same s67 a2) k2.om k2.few (.bl b1) (ok_bl b1) (.bl (!b2)) (ok_bl (!b2)) (fun f e2 => by rw [show cErr dm (.bool b1) (.bool !b2) = none from ef] at e2; cases e2) (fun _ H8 s8 hC8 => ⟨rfl, ?_⟩)
      obtain ⟨dx8, _, _, _, c8, _⟩ := id hC8
      have s68 := s67.trans s8
      refine ⟨x, dx, _, rfl, s68 _ _ c1, .inl ⟨x8, dx8, _, rfl, c8⟩, x, _, _, _, .ref x8, rfl, k3.same s68, .inl ⟨x8, _, _, _, rfl, hC8, ?_⟩⟩
      rw [show eqC dm (.bool b1) (.bool b2) dm (.bool b1) (.bool !b2) = false by unfold eqC; rw [dif, Bool.and_false]]
      exact ⟨_, rfl, iteF ⟨s5.trans s68, _, _, rfl⟩⟩
    rintro σ H4 ⟨s4, y8, y9, rfl⟩
    refine fun x dx n1 n2 _ => made_at (dm := .none) (dc := .bool true) (dp := .bool true) n1 n2 .non ⟨rfl, rfl⟩ (fun ds e => by cases e) (.bl true) (ok_bl true) (.bl true) (ok_bl true) (fun f e2 => by cases e2) (fun _ H5 s5 hC => ⟨rfl, ?_⟩)
    obtain ⟨dx5, um, uc, upp, c1, c2, _, c3, _, c4, _⟩ := hC
    cases c2
    cases c3
    cases c4
    refine ⟨_, rfl, x, CC, dx5, _, _, rfl, c1, TC.cl, TC.nM, cF_methods, rfl, _, rfl, iteT ?_⟩
    refine ⟨_, rfl, x, CC, dx5, _, _, rfl, c1, TC.cl, TC.nC, cF_changes, true, true, rfl, rfl, _, rfl, iteT ?_⟩
    exact ⟨_, rfl, x, CC, dx5, _, _, rfl, c1, TC.cl, TC.nP, cF_passes, true, true, rfl, rfl, q _⟩
end
end Dr
namespace Dr
open PySem PySem.Spec PyProof.Rows L2
open SX (S S_len S_cat)
/-- values that are these texts -/
def strsB : List Value → List Str → Bool
  | [], [] => true
  | .str x _ :: us, z :: zs => (x == z) && strsB us zs
  | _, _ => false
theorem strsB_vals : ∀ {us : List Value} {zs : List Str}, strsB us zs = true → Vals (zs.map V.str) us
  | [], [], _ => .nil
  | .str x t :: us, z :: zs, h => by
    have h' : ((x == z) && strsB us zs) = true := h
    rw [Bool.and_eq_true, beq_iff_eq] at h'
    obtain ⟨rfl, h2⟩ := h'
    exact .cons ⟨t, rfl⟩ (strsB_vals h2)
  | [], _ :: _, h => by cases h
  | .str _ _ :: _, [], h => by cases h
theorem strsB_len : ∀ {us : List Value} {zs : List Str}, strsB us zs = true → us.length = zs.length := fun h => by
  have := (strsB_vals h).length
  rw [List.length_map] at this
  exact this.symm
theorem fm_of {K : PySem.W.Frag} {a : Addr} {dd : Option Addr} {its : Array Value} {n : Nat} {sl : Array (Option Value)} {zs : List Str} (l : K.lookup a = some ⟨.type "tuple", dd, .seq its n, sl⟩) (h : strsB its.toList zs = true) (hz : zs.length ≤ 1000) : ∀ H : Hp, SqT K H a (zs.map V.str) := fun H =>
  .inr ⟨_, its, n, l, rfl, rfl, by
    have := strsB_len h
    rw [Array.length_toList] at this
    rw [this]
    exact Nat.le_of_lt (small1000 hz), strsB_vals h⟩
theorem exm_val {K : PySem.W.Frag} {T S : Addr} {b : Bool} (h1 : PySem.W.subIn K (.ref S) (.type "BaseException") = some true) (h2 : PySem.W.isClsIn K S = true) (h3 : PySem.W.typeIn K (.ref S) = some (.type "type")) (h4 : PySem.W.subIn K (.ref T) (.ref S) = some b) :
    PySem.W.exmOne K (.ref T) (.ref S) = some b := by
  have e1 : (PySem.W.subIn K (.ref S) (.type "BaseException") == some true) = true := by rw [h1] <;> rfl
  have e2 : ((PySem.W.clsIn K S).isSome && PySem.W.typeIn K (.ref S) == some (.type "type")) = true := by
    have h2' : (PySem.W.clsIn K S).isSome = true := h2
    rw [h2', h3] <;> rfl
  show (if (PySem.W.subIn K (.ref S) (.type "BaseException") == some true) = true then (if ((PySem.W.clsIn K S).isSome && PySem.W.typeIn K (.ref S) == some (.type "type")) = true then PySem.W.subIn K (.ref T) (.ref S) else none) else none) = some b
  rw [if_pos e1, if_pos e2]
  exact h4
theorem kit_cls {K : PySem.W.Frag} {T C : Addr} {b : Bool} (ne : (Value.ref T == Value.ref C) = false) (h1 : PySem.W.isClsIn K C = true) (h2 : PySem.W.typeIn K (.ref C) = some (.type "type")) (h3 : PySem.W.subIn K (.ref T) (.ref C) = some b) : PySem.W.kitOne K (.ref T) (.ref C) = some b := by
  unfold PySem.W.kitOne
  rw [ne]
  unfold PySem.W.kitCls
  unfold PySem.W.isClsIn at h1
  simp only [h1, h2, h3]
  simp
theorem all_mk {l : PySem.W.OpenLaw} {w : World} {K : PySem.W.Frag} {h : Heap} {mg : Str → Option Value} {fa CC CE CP CB TD D gE aB fci fcq fnm fap fip fbg fdr fns fpd fla fmt ftr fma fdu flw : Addr} (X : K.In h) (G : h.Ns mainGlobals mg) (hfa : mg "law" = some (.ref fa))
    {odnm annm odap anap odip anip odbg anbg oddr andr odns anns odpd anpd odla anla odmt anmt odtr antr odma anma oddu andu odlw anlw odci anci odcq ancq odxE anxE ddTD ddaB : Option Addr} {slnm slap slip slbg sldr slns slpd slla slmt sltr slma sldu sllw slci slcq slxE ssTD ssaB : Array (Option Value)} {ocnm dcnm pmnm cdnm ctnm kVnm ocap dcap pmap cdap ctap kVap ocip dcip pmip cdip ctip kVip ocbg dcbg pmbg cdbg ctbg kVbg ocdr dcdr pmdr cddr ctdr kVdr ocns dcns pmns cdns ctns kVns ocpd dcpd pmpd cdpd ctpd kVpd ocla dcla pmla cdla ctla kVla ocmt dcmt pmmt cdmt ctmt kVmt octr dctr pmtr cdtr cttr kVtr ocma dcma pmma cdma ctma kVma ocdu dcdu pmdu cddu ctdu kVdu oclw dclw pmlw cdlw ctlw kVlw occi dcci pmci cdci ctci occq dccq pmcq cdcq ctcq kVcq ocxE dcxE pmxE cdxE ctxE kVxE : Value} {tl : Tok} {nmE qE : Str} {NE BAE : Addr} {bsE subE : List Value} {snE : List Str} {abE : Bool} {colE : Option Bool} {ddE : Option Addr} {u0E u1E u2E u3E u5E : Option Value} {nnTD nnaB : Nat} {itaB : Array Value}
    (anm : PySem.W.nsIn K mainGlobals "is_name" = some (some (.ref fnm)))
    (lnm : K.lookup fnm = some ⟨ocnm, odnm, .func (PySem.W.fnOf "is_name" "is_name" (defArgs sIsName) (defBody sIsName) (defScope sIsName) .none kVnm dcnm pmnm annm cdnm ctnm), slnm⟩)
    (cnm : PySem.W.codeIn K cdnm "is_name" = true)
    (knm : PySem.W.keepIn K (.ref fnm) = true)
    (aap : PySem.W.nsIn K mainGlobals "are_pairs" = some (some (.ref fap)))
    (lap : K.lookup fap = some ⟨ocap, odap, .func (PySem.W.fnOf "are_pairs" "are_pairs" (defArgs sArePairs) (defBody sArePairs) (defScope sArePairs) .none kVap dcap pmap anap cdap ctap), slap⟩)
    (cap : PySem.W.codeIn K cdap "are_pairs" = true)
    (kap : PySem.W.keepIn K (.ref fap) = true)
    (aip : PySem.W.nsIn K mainGlobals "is_pair" = some (some (.ref fip)))
    (lip : K.lookup fip = some ⟨ocip, odip, .func (PySem.W.fnOf "is_pair" "is_pair" (defArgs sIsPair) (defBody sIsPair) (defScope sIsPair) .none kVip dcip pmip anip cdip ctip), slip⟩)
    (cip : PySem.W.codeIn K cdip "is_pair" = true)
    (kip : PySem.W.keepIn K (.ref fip) = true)
    (abg : PySem.W.nsIn K mainGlobals "_law_bag" = some (some (.ref fbg)))
    (lbg : K.lookup fbg = some ⟨ocbg, odbg, .func (PySem.W.fnOf "_law_bag" "_law_bag" (defArgs sBag) (defBody sBag) (defScope sBag) .none kVbg dcbg pmbg anbg cdbg ctbg), slbg⟩)
    (cbg : PySem.W.codeIn K cdbg "_law_bag" = true)
    (kbg : PySem.W.keepIn K (.ref fbg) = true)
    (adr : PySem.W.nsIn K mainGlobals "_law_draw" = some (some (.ref fdr)))
    (ldr : K.lookup fdr = some ⟨ocdr, oddr, .func (PySem.W.fnOf "_law_draw" "_law_draw" (defArgs sDraw) (defBody sDraw) (defScope sDraw) .none kVdr dcdr pmdr andr cddr ctdr), sldr⟩)
    (cdr : PySem.W.codeIn K cddr "_law_draw" = true)
    (kdr : PySem.W.keepIn K (.ref fdr) = true)
    (ans : PySem.W.nsIn K mainGlobals "_law_names" = some (some (.ref fns)))
    (lns : K.lookup fns = some ⟨ocns, odns, .func (PySem.W.fnOf "_law_names" "_law_names" (defArgs sNames) (defBody sNames) (defScope sNames) .none kVns dcns pmns anns cdns ctns), slns⟩)
    (cns : PySem.W.codeIn K cdns "_law_names" = true)
    (kns : PySem.W.keepIn K (.ref fns) = true)
    (apd : PySem.W.nsIn K mainGlobals "_law_pairs_drawn" = some (some (.ref fpd)))
    (lpd : K.lookup fpd = some ⟨ocpd, odpd, .func (PySem.W.fnOf "_law_pairs_drawn" "_law_pairs_drawn" (defArgs sPD) (defBody sPD) (defScope sPD) .none kVpd dcpd pmpd anpd cdpd ctpd), slpd⟩)
    (cpd : PySem.W.codeIn K cdpd "_law_pairs_drawn" = true)
    (kpd : PySem.W.keepIn K (.ref fpd) = true)
    (ala : PySem.W.nsIn K mainGlobals "_law_are_pairs" = some (some (.ref fla)))
    (lla : K.lookup fla = some ⟨ocla, odla, .func (PySem.W.fnOf "_law_are_pairs" "_law_are_pairs" (defArgs sLA) (defBody sLA) (defScope sLA) .none kVla dcla pmla anla cdla ctla), slla⟩)
    (cla : PySem.W.codeIn K cdla "_law_are_pairs" = true)
    (kla : PySem.W.keepIn K (.ref fla) = true)
    (amt : PySem.W.nsIn K mainGlobals "_law_methods" = some (some (.ref fmt)))
    (lmt : K.lookup fmt = some ⟨ocmt, odmt, .func (PySem.W.fnOf "_law_methods" "_law_methods" (defArgs sMth) (defBody sMth) (defScope sMth) .none kVmt dcmt pmmt anmt cdmt ctmt), slmt⟩)
    (cmt : PySem.W.codeIn K cdmt "_law_methods" = true)
    (kmt : PySem.W.keepIn K (.ref fmt) = true)
    (atr : PySem.W.nsIn K mainGlobals "_law_truth" = some (some (.ref ftr)))
    (ltr : K.lookup ftr = some ⟨octr, odtr, .func (PySem.W.fnOf "_law_truth" "_law_truth" (defArgs sTru) (defBody sTru) (defScope sTru) .none kVtr dctr pmtr antr cdtr cttr), sltr⟩)
    (ctr : PySem.W.codeIn K cdtr "_law_truth" = true)
    (ktr : PySem.W.keepIn K (.ref ftr) = true)
    (ama : PySem.W.nsIn K mainGlobals "_law_made" = some (some (.ref fma)))
    (lma : K.lookup fma = some ⟨ocma, odma, .func (PySem.W.fnOf "_law_made" "_law_made" (defArgs sMade) (defBody sMade) (defScope sMade) .none kVma dcma pmma anma cdma ctma), slma⟩)
    (cma : PySem.W.codeIn K cdma "_law_made" = true)
    (kma : PySem.W.keepIn K (.ref fma) = true)
    (adu : PySem.W.nsIn K mainGlobals "_law_due" = some (some (.ref fdu)))
    (ldu : K.lookup fdu = some ⟨ocdu, oddu, .func (PySem.W.fnOf "_law_due" "_law_due" (defArgs sDue) (defBody sDue) (defScope sDue) .none kVdu dcdu pmdu andu cddu ctdu), sldu⟩)
    (cdu : PySem.W.codeIn K cddu "_law_due" = true)
    (kdu : PySem.W.keepIn K (.ref fdu) = true)
    (alw : PySem.W.nsIn K mainGlobals "law" = some (some (.ref flw)))
    (llw : K.lookup flw = some ⟨oclw, odlw, .func (PySem.W.fnOf "law" "law" (defArgs sLaw) (defBody sLaw) (defScope sLaw) .none kVlw dclw pmlw anlw cdlw ctlw), sllw⟩)
    (clw : PySem.W.codeIn K cdlw "law" = true)
    (klw : PySem.W.keepIn K (.ref flw) = true)
    (aCC : PySem.W.nsIn K mainGlobals "Callers" = some (some (.ref CC)))
    (Cpg : PySem.W.plainGet K CC Str.empty = true)
    (Chd : PySem.W.hasDictIn K CC = true)
    (Cpo : PySem.W.plainOver K CC = true)
    (Csa : PySem.W.findIn K (.ref CC) "__setattr__" = some (some (.builtin "object.__setattr__")))
    (Cmk : PySem.W.makesIn K CC = true)
    (Ckc : PySem.W.keepIn K (.ref CC) = true)
    (Cn0 : PySem.W.findIn K (.ref CC) "methods" = some none)
    (Cn1 : PySem.W.findIn K (.ref CC) "changes" = some none)
    (Cn2 : PySem.W.findIn K (.ref CC) "passes" = some none)
    (Cha : PySem.W.findIn K (.ref CC) "__class__" = some (some (.builtin "object.__class__")))
    (hn : PySem.W.specialIn K (.builtin "object.__class__") "__get__" = some (some (.builtin "getset_descriptor.__get__")))
    (htk : PySem.W.takesIn K (.builtin "object.__class__") = some true)
    (Chm : PySem.W.mroIn K CC (.type "object") = some true)
    (CisC : PySem.W.isClsIn K CC = true)
    (CtyC : PySem.W.typeIn K (.ref CC) = some (.type "type"))
    (Cne : PySem.W.findIn K (.ref CC) "__ne__" = some (some (.builtin "object.__ne__")))
    (aci : PySem.W.findIn K (.ref CC) "__init__" = some (some (.ref fci)))
    (ici : PySem.W.isFn K (.ref fci) = true)
    (lci : K.lookup fci = some ⟨occi, odci, .func (PySem.W.fnOf "__init__" "Callers.__init__" (defArgs sCInit) (defBody sCInit) (defScope sCInit) (.ref TD) (.ref D) dcci pmci anci cdci ctci), slci⟩)
    (cci : PySem.W.codeIn K cdci "Callers.__init__" = true)
    (kci : PySem.W.keepIn K (.ref fci) = true)
    (tTD : K.lookup TD = some ⟨.type "tuple", ddTD, .seq #[.none] nnTD, ssTD⟩)
    (dK1 : PySem.W.nsIn K D "changes" = some (some (.bool true)))
    (dK2 : PySem.W.nsIn K D "passes" = some (some (.bool true)))
    (acq : PySem.W.findIn K (.ref CC) "__eq__" = some (some (.ref fcq)))
    (icq : PySem.W.isFn K (.ref fcq) = true)
    (lcq : K.lookup fcq = some ⟨occq, odcq, .func (PySem.W.fnOf "__eq__" "Callers.__eq__" (defArgs sCEq) (defBody sCEq) (defScope sCEq) .none kVcq dccq pmcq ancq cdcq ctcq), slcq⟩)
    (ccq : PySem.W.codeIn K cdcq "Callers.__eq__" = true)
    (kcq : PySem.W.keepIn K (.ref fcq) = true)
    (aCE : PySem.W.nsIn K mainGlobals "BadCallers" = some (some (.ref CE)))
    (xLE : K.lookup CE = some (excClassObj nmE qE CE NE bsE [.ref BAE, .type "ValueError", .type "Exception", .type "BaseException", .type "object"] true snE subE abE colE ddE u0E u1E u2E u3E u5E "ValueError.__new__"))
    (saE : PySem.W.findIn K (.ref CE) "__setattr__" = some (some (.builtin "object.__setattr__")))
    (nfE : PySem.W.findIn K (.ref CE) "part" = some none)
    (aiE : PySem.W.findIn K (.ref CE) "__init__" = some (some (.ref gE)))
    (tiE : PySem.W.typeIn K (.ref gE) = some (.type "function"))
    (liE : K.lookup gE = some ⟨ocxE, odxE, .func (PySem.W.fnOf "__init__" "BadCallers.__init__" (defArgs sECa) (defBody sECa) (defScope sECa) .none kVxE dcxE pmxE anxE cdxE ctxE), slxE⟩)
    (ciE : PySem.W.codeIn K cdxE "BadCallers.__init__" = true)
    (kiE : PySem.W.keepIn K (.ref gE) = true)
    (kCE : PySem.W.keepIn K (.ref CE) = true)
    (eCE : PySem.W.subIn K (.ref CE) (.type "BaseException") = some true)
    (tCE : PySem.W.typeIn K (.ref CE) = some (.type "type"))
    (iCE : PySem.W.isClsIn K CE = true)
    (gatE : PySem.W.findIn K (.ref CE) "__getattribute__" = some (some (.builtin "BaseException.__getattribute__")))
    (ggE : PySem.W.findIn K (.ref CE) "__getattr__" = some none)
    (hdE : PySem.W.hasDictIn K CE = true)
    (haE : PySem.W.findIn K (.ref CE) "__class__" = some (some (.builtin "object.__class__")))
    (hmE : PySem.W.mroIn K CE (.type "object") = some true)
    (sEE : PySem.W.subIn K (.ref CE) (.ref CE) = some true)
    (aCP : PySem.W.nsIn K mainGlobals "PartError" = some (some (.ref CP)))
    (iCP : PySem.W.isClsIn K CP = true)
    (tCP : PySem.W.typeIn K (.ref CP) = some (.type "type"))
    (sEP : PySem.W.subIn K (.ref CE) (.ref CP) = some true)
    (aCB : PySem.W.nsIn K mainGlobals "BadWorld" = some (some (.ref CB)))
    (iCB : PySem.W.isClsIn K CB = true)
    (tCB : PySem.W.typeIn K (.ref CB) = some (.type "type"))
    (sEB : PySem.W.subIn K (.ref CE) (.ref CB) = some false)
    (gB : PySem.W.nsIn K mainGlobals "BARRED" = some (some (.ref aB)))
    (gL : PySem.W.nsIn K mainGlobals "MOST_LETTERS" = some (some (.int 8 tl)))
    (taB : K.lookup aB = some ⟨.type "tuple", ddaB, .seq itaB nnaB, ssaB⟩)
    (vaB : strsB itaB.toList barred = true)
    (qEP : (Value.ref CE == Value.ref CP) = false)
    (qEB : (Value.ref CE == Value.ref CB) = false)
    (z_len : PySem.W.nsIn K mainGlobals "len" = some none)
    (z_isinstance : PySem.W.nsIn K mainGlobals "isinstance" = some none)
    (z_str : PySem.W.nsIn K mainGlobals "str" = some none)
    (z_tuple : PySem.W.nsIn K mainGlobals "tuple" = some none)
    (z_all : PySem.W.nsIn K mainGlobals "all" = some none)
    (z_bool : PySem.W.nsIn K mainGlobals "bool" = some none)
    (z_set : PySem.W.nsIn K mainGlobals "set" = some none)
    (z_int : PySem.W.nsIn K mainGlobals "int" = some none)
    (z_list : PySem.W.nsIn K mainGlobals "list" = some none)
    (z_range : PySem.W.nsIn K mainGlobals "range" = some none)
    (z_repr : PySem.W.nsIn K mainGlobals "repr" = some none) :
    ∃ fd : FuncData, (∀ (s : Shared) (v : Value), BindsTo s fd ⟨[v], []⟩ [("_law_script", v)]) ∧ ∀ base : Heap, K.In base → base.Ns mainGlobals mg → FnOk l.prog w K mg base CX0 7 fa fd ["_law_script"] (spLaw K) := by
  have e := hfa.symm.trans (PySem.W.mg_of X G alw)
  cases e
  have g : ∀ {n : Str} {v : Value}, PySem.W.nsIn K mainGlobals n = some (some v) → mg n = some v := fun h => PySem.W.mg_of X G h
  have z : ∀ {n : Str}, PySem.W.nsIn K mainGlobals n = some none → mg n = none := fun h => PySem.W.mg_none_of X G h
  have Fnm := fun_mk (st := sIsName) lnm cnm knm
  have bnm := Fnm.binds (ps := ["thing"]) fun _ _ _ _ _ _ us hl => match us, hl with | [_], _ => rfl
  have Fap := fun_mk (st := sArePairs) lap cap kap
  have bap := Fap.binds (ps := ["thing"]) fun _ _ _ _ _ _ us hl => match us, hl with | [_], _ => rfl
  have Fip := fun_mk (st := sIsPair) lip cip kip
  have bip := Fip.binds (ps := ["thing"]) fun _ _ _ _ _ _ us hl => match us, hl with | [_], _ => rfl
  have Fbg := fun_mk (st := sBag) lbg cbg kbg
  have bbg := Fbg.binds (ps := ["_law_script"]) fun _ _ _ _ _ _ us hl => match us, hl with | [_], _ => rfl
  have Fdr := fun_mk (st := sDraw) ldr cdr kdr
  have bdr := Fdr.binds (ps := ["_law_bag_here", "_law_many"]) fun _ _ _ _ _ _ us hl => match us, hl with | [_, _], _ => rfl
  have Fns := fun_mk (st := sNames) lns cns kns
  have bns := Fns.binds (ps := ["_law_bag_here", "_law_many"]) fun _ _ _ _ _ _ us hl => match us, hl with | [_, _], _ => rfl
  have Fpd := fun_mk (st := sPD) lpd cpd kpd
  have bpd := Fpd.binds (ps := ["_law_bag_here", "_law_names_here"]) fun _ _ _ _ _ _ us hl => match us, hl with | [_, _], _ => rfl
  have Fla := fun_mk (st := sLA) lla cla kla
  have bla := Fla.binds (ps := ["_law_thing", "_law_names_here"]) fun _ _ _ _ _ _ us hl => match us, hl with | [_, _], _ => rfl
  have Fmt := fun_mk (st := sMth) lmt cmt kmt
  have bmt := Fmt.binds (ps := ["_law_bag_here", "_law_names_here"]) fun _ _ _ _ _ _ us hl => match us, hl with | [_, _], _ => rfl
  have Ftr := fun_mk (st := sTru) ltr ctr ktr
  have btr := Ftr.binds (ps := ["_law_bag_here"]) fun _ _ _ _ _ _ us hl => match us, hl with | [_], _ => rfl
  have Fma := fun_mk (st := sMade) lma cma kma
  have bma := Fma.binds (ps := ["_law_parts"]) fun _ _ _ _ _ _ us hl => match us, hl with | [_], _ => rfl
  have Fdu := fun_mk (st := sDue) ldu cdu kdu
  have bdu := Fdu.binds (ps := ["_law_parts", "_law_names_here"]) fun _ _ _ _ _ _ us hl => match us, hl with | [_, _], _ => rfl
  have Flw := fun_mk (st := sLaw) llw clw klw
  have Fci : FC K fci _ := ⟨⟨_, _, _, _, _, _, _, _, _, _, rfl, lci, cci, .inr ⟨by simp, TD, _, [.none], nnTD, rfl, tTD, rfl, .cons rfl .nil⟩, .inr ⟨D, rfl, fun q hq => by
    rcases List.mem_cons.mp hq with rfl | hq
    · exact ⟨_, dK1, rfl⟩
    · rcases List.mem_cons.mp hq with rfl | hq
      · exact ⟨_, dK2, rfl⟩
      · cases hq⟩⟩, kci⟩
  have FxE := fun_mk (st := sECa) liE ciE kiE
  have bxE := FxE.binds (ps := ["self", "part"]) fun _ _ _ _ _ _ us hl => match us, hl with | [_, _], _ => rfl
  have EE : Erc K mg "BadCallers" "part" CE gE := ⟨⟨⟨nmE, qE, NE, bsE, _, snE, subE, abE, colE, ddE, u0E, u1E, u2E, u3E, u5E, xLE, rfl⟩, saE, eCE, tCE, kCE⟩, nfE, aiE, tiE, g aCE⟩
  have W : Wds K mg := ⟨z z_len, z z_isinstance, z z_str, z z_tuple, z z_all, z z_bool, z z_set, ⟨_, g gL⟩, ⟨aB, g gB, fm_of taB vaB (by decide)⟩⟩
  have T : Blt mg := ⟨z z_len, z z_int, z z_list, z z_range⟩
  have TC : Clr K mg CC := ⟨⟨Cpg, Chd, Cpo, Csa⟩, Cn0, Cn1, Cn2, g aCC, Cha, hn, htk, Chm, CisC, CtyC⟩
  have EQ : CEq K CC fcq := ⟨acq, icq, Cne⟩
  have M : Mk K CC fci := ⟨Cmk, aci, ici, Ckc⟩
  have X2 : Exm K mg CE CP CB := ⟨g aCE, g aCP, g aCB, ⟨gatE, ggE, eCE, hdE⟩, ⟨gatE, ggE, eCE, hdE, haE, hn, htk, hmE⟩, nfE, exm_val eCE iCE tCE sEE, kit_cls qEP iCP tCP sEP, kit_cls qEB iCB tCB sEB⟩
  refine ⟨PySem.W.fnOf "law" "law" (defArgs sLaw) (defBody sLaw) (defScope sLaw) .none kVlw dclw pmlw anlw cdlw ctlw, fun s v => .of_eq rfl, fun base _ _ => ?_⟩
  have Gnm := ok_name (P := l.prog) (w := w) (base := base) Fnm W
  have Gip := ok_isPair Fip W Gnm (g anm) knm bnm
  have Gap := ok_arePairs Fap W Gip (g aip) kip bip
  have GxE := ok_eCa (P := l.prog) (w := w) (base := base) FxE EE
  have Gci := ok_ci Fci W TC Gap (g aap) kap bap EE GxE bxE
  have Fcq := fun_mk (st := sCEq) lcq ccq kcq
  have bcq := Fcq.binds (ps := ["self", "other"]) fun _ _ _ _ _ _ us hl => match us, hl with | [_, _], _ => rfl
  have Gcq := ok_ceq (P := l.prog) (w := w) (base := base) Fcq W TC
  have Gbg := ok_bag (P := l.prog) (w := w) (base := base) Fbg T
  have Gdr := ok_draw (P := l.prog) (w := w) (base := base) Fdr T
  have Gns := ok_names Fns T Gdr (g adr) kdr bdr
  have Gpd := ok_pd Fpd T (z z_tuple) Gdr (g adr) kdr bdr
  have Gla := ok_la (P := l.prog) (w := w) (base := base) Fla W T
  have Gmt := ok_mth Fmt T Gdr (g adr) kdr bdr Gpd (g apd) kpd bpd
  have Gtr := ok_tru Ftr Gdr (g adr) kdr bdr
  have Gma := ok_made Fma W TC X2 Fci M Gci
  have Gdu := ok_due Fdu W Gla (g ala) kla bla
  exact ok_law Flw W T (z z_repr) TC EQ Gbg (g abg) kbg bbg Gns (g ans) kns bns Gmt (g amt) kmt bmt Gtr (g atr) ktr btr Gdu (g adu) kdu bdu Gma (g ama) kma bma Fci M Gci Gcq bcq
theorem walk {l : PySem.W.OpenLaw} {q : Program} {loose : List Str} {XP : (Str → Option Value) → Heap → Prop} {YP : World → Heap → Prop} {d : DefRec} {K : Params → PySem.W.Frag} (hn : l.most = some 63) (hdf : d.params.defaults = [])
    (hY : ∀ (w : World) (h : Heap), YP w h → (K w.params).In h)
    (F : ∀ (w : World) (mg : Str → Option Value) (fa : Addr) (h : Heap), (K w.params).In h → h.Ns mainGlobals mg → mg d.name = some (.ref fa) →
      ∃ fd : FuncData, (∀ (s : Shared) (u : Value), BindsTo s fd ⟨[u], []⟩ [("_law_script", u)]) ∧ ∀ base : Heap, (K w.params).In base → base.Ns mainGlobals mg → FnOk l.prog w (K w.params) mg base CX0 7 fa fd ["_law_script"] (spLaw (K w.params))) :
    PySem.W.WalkO q loose XP YP l.row.toRowW d [] (fun f vs => PySem.call f vs) :=
  L2.walk_of (n := 63) (k := 7) (x := "_law_script") (CX := fun _ => CX0) (sp := fun w => spLaw (K w.params)) hn (by decide) hdf ⟨rfl, by decide, by decide⟩ hY F (fun _ _ a ns hl _ hS => ⟨a, ns, rfl, hS, hl, fun _ => rfl⟩) fun _ _ _ _ _ z => z
end Dr
open PySem PySem.W PyProof.Rows in
set_option maxRecDepth 100000 in
set_option maxHeartbeats 0 in
theorem PySem.Challenge.cw_oncedefaults_k38_callers_made_holds : PySem.Challenge.rw_oncedefaults_k38_callers_made.Holds := by
  w_on; o_law; k_head; (case hw => w_witness2)
  k_fill
  refine Dr.walk (l := PySem.Challenge.rw_oncedefaults_k38_callers_made) rfl rfl (fun w h Y => PySem.W.kIn_of Y) ?F
  case F =>
    intro w mg fa h KX G hmg
    refine' Dr.all_mk KX G hmg ?anm ?lnm ?cnm ?knm ?aap ?lap ?cap ?kap ?aip ?lip ?cip ?kip ?abg ?lbg ?cbg ?kbg ?adr ?ldr ?cdr ?kdr ?ans ?lns ?cns ?kns ?apd ?lpd ?cpd ?kpd ?ala ?lla ?cla ?kla ?amt ?lmt ?cmt ?kmt ?atr ?ltr ?ctr ?ktr ?ama ?lma ?cma ?kma ?adu ?ldu ?cdu ?kdu ?alw ?llw ?clw ?klw ?aCC ?Cpg ?Chd ?Cpo ?Csa ?Cmk ?Ckc ?Cn0 ?Cn1 ?Cn2 ?Cha ?hn ?htk ?Chm ?CisC ?CtyC ?Cne ?aci ?ici ?lci ?cci ?kci ?tTD ?dK1 ?dK2 ?acq ?icq ?lcq ?ccq ?kcq ?aCE ?xLE ?saE ?nfE ?aiE ?tiE ?liE ?ciE ?kiE ?kCE ?eCE ?tCE ?iCE ?gatE ?ggE ?hdE ?haE ?hmE ?sEE ?aCP ?iCP ?tCP ?sEP ?aCB ?iCB ?tCB ?sEB ?gB ?gL ?taB ?vaB ?qEP ?qEB ?z_len ?z_isinstance ?z_str ?z_tuple ?z_all ?z_bool ?z_set ?z_int ?z_list ?z_range ?z_repr
    (case anm => k_is)
    (case lnm => k_is)
    (case cnm => k_is)
    (case knm => k_is)
    (case aap => k_is)
    (case lap => k_is)
    (case cap => k_is)
    (case kap => k_is)
    (case aip => k_is)
    (case lip => k_is)
    (case cip => k_is)
    (case kip => k_is)
    (case abg => k_is)
    (case lbg => k_is)
    (case cbg => k_is)
    (case kbg => k_is)
    (case adr => k_is)
    (case ldr => k_is)
    (case cdr => k_is)
    (case kdr => k_is)
    (case ans => k_is)
    (case lns => k_is)
    (case cns => k_is)
    (case kns => k_is)
    (case apd => k_is)
    (case lpd => k_is)
    (case cpd => k_is)
    (case kpd => k_is)
    (case ala => k_is)
    (case lla => k_is)
    (case cla => k_is)
    (case kla => k_is)
    (case amt => k_is)
    (case lmt => k_is)
    (case cmt => k_is)
    (case kmt => k_is)
    (case atr => k_is)
    (case ltr => k_is)
    (case ctr => k_is)
    (case ktr => k_is)
    (case ama => k_is)
    (case lma => k_is)
    (case cma => k_is)
    (case kma => k_is)
    (case adu => k_is)
    (case ldu => k_is)
    (case cdu => k_is)
    (case kdu => k_is)
    (case alw => k_is)
    (case llw => k_is)
    (case clw => k_is)
    (case klw => k_is)
    (case aCC => k_is)
    (case Cpg => k_is)
    (case Chd => k_is)
    (case Cpo => k_is)
    (case Csa => k_is)
    (case Cmk => k_is)
    (case Ckc => k_is)
    (case Cn0 => k_is)
    (case Cn1 => k_is)
    (case Cn2 => k_is)
    (case Cha => k_is)
    (case hn => k_is)
    (case htk => k_is)
    (case Chm => k_is)
    (case CisC => k_is)
    (case CtyC => k_is)
    (case Cne => k_is)
    (case aci => k_is)
    (case ici => k_is)
    (case lci => k_is)
    (case cci => k_is)
    (case kci => k_is)
    (case dK1 => k_is)
    (case dK2 => k_is)
    (case acq => k_is)
    (case icq => k_is)
    (case lcq => k_is)
    (case ccq => k_is)
    (case kcq => k_is)
    (case aCE => k_is)
    (case xLE => k_is)
    (case saE => k_is)
    (case nfE => k_is)
    (case aiE => k_is)
    (case tiE => k_is)
    (case liE => k_is)
    (case ciE => k_is)
    (case kiE => k_is)
    (case kCE => k_is)
    (case eCE => k_is)
    (case tCE => k_is)
    (case iCE => k_is)
    (case gatE => k_is)
    (case ggE => k_is)
    (case hdE => k_is)
    (case haE => k_is)
    (case hmE => k_is)
    (case sEE => (first | rfl | k_is))
    (case aCP => k_is)
    (case iCP => k_is)
    (case tCP => k_is)
    (case sEP => k_is)
    (case aCB => k_is)
    (case iCB => k_is)
    (case tCB => k_is)
    (case sEB => k_is)
    (case gB => k_is)
    (case gL => k_is)
    (case qEP => (first | rfl | decide +kernel))
    (case qEB => (first | rfl | decide +kernel))
    (case z_len => k_is)
    (case z_isinstance => k_is)
    (case z_str => k_is)
    (case z_tuple => k_is)
    (case z_all => k_is)
    (case z_bool => k_is)
    (case z_set => k_is)
    (case z_int => k_is)
    (case z_list => k_is)
    (case z_range => k_is)
    (case z_repr => k_is)
    (case tTD => k_is)
    (case taB => k_is)
    (case vaB => decide +kernel)
