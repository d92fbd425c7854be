import PyProof.Rows.All
import Wide.All
import OpenK.AllK
import Wide.FinOn
import HandS.ForMost
import HandS.Defaults
import HandS.MakeKwOnly
import HandS.TupAny
import HandS.IsInst
import HandS.Zip
import HandS.Flow
import HandS.Walk
import HandS.Codes
import HandS.ForExc
import HandS.TryMany
import HandS.ExcInit
import HandS.ExcField
import HandS.CallSlots
import PySem.Challenge.RW_oncedefaults_k02_parameters_refused
set_option Elab.async false
set_option maxRecDepth 100000
set_option maxHeartbeats 4000000
set_option linter.all false
namespace Dr
open PySem PySem.Spec PyProof.Rows L2
def topS (i : Nat) : Stmt := PySem.Challenge.pw_oncedefaults_k02_parameters_refused.main.body.getD i (.Pass ⟨0, 0, 0, 0⟩)
abbrev sBag : Stmt := topS 23
abbrev sTake : Stmt := topS 24
abbrev sOf : Stmt := topS 25
theorem scBag : FnScope ["_law_script", "_law_at", "_law_cell", "_law_blend", "_law_k", "_law_each"] ["_law_script", "_law_at"] (defScope sBag) := ⟨rfl, rfl, rfl, by decide +kernel, rfl, by decide +kernel, by decide +kernel⟩
theorem scTake : FnScope ["_law_bag_here", "_law_many", "_law_digit"] ["_law_bag_here", "_law_many"] (defScope sTake) := ⟨rfl, rfl, rfl, by decide +kernel, rfl, by decide +kernel, by decide +kernel⟩
theorem scOf : FnScope ["_law_bag_here", "_law_some"] ["_law_bag_here", "_law_some"] (defScope sOf) := ⟨rfl, rfl, rfl, by decide +kernel, rfl, by decide +kernel, by decide +kernel⟩
/-- the built-in names that the draws use are the built-in ones -/
structure Blt (mg : Str → Option Value) : Prop where
  len : mg "len" = none
  int : mg "int" = none
  abs : mg "abs" = none
  enum : mg "enumerate" = none
theorem same_upd {H : Hp} {p : Addr} {o : HO} (h : H p = none) : Same H (upd H p o) := fun b x e => by
  rw [upd_ne (ne_of_none e h)]
  exact e
/-- a bag stands at p -/
def Bag (H : Hp) (p : Addr) : Prop := ∃ u v : Int, H p = some (.lst [.int u, .int v]) ∧ 0 ≤ u ∧ 0 ≤ v ∧ v < 2147483648
/-- all but the bag is as it was, the bag is a bag -/
def Kp (p : Addr) (H H' : Hp) : Prop := (∀ b o, b ≠ p → H b = some o → H' b = some o) ∧ Bag H' p
theorem Kp.refl {p : Addr} {H : Hp} (h : Bag H p) : Kp p H H := ⟨fun _ _ _ e => e, h⟩
theorem Kp.trans {p : Addr} {H H1 H2 : Hp} (a : Kp p H H1) (b : Kp p H1 H2) : Kp p H H2 := ⟨fun c o n e => b.1 c o n (a.1 c o n e), b.2⟩
theorem Bag.same {p : Addr} {H H' : Hp} (b : Bag H p) (s : Same H H') : Bag H' p := by
  obtain ⟨u, v, e, q⟩ := b
  exact ⟨u, v, s _ _ e, q⟩
theorem Kp.same {p : Addr} {H H1 H2 : Hp} (a : Kp p H H1) (s : Same H1 H2) : Kp p H H2 := ⟨fun c o n e => s c o (a.1 c o n e), a.2.same s⟩
theorem Kp.of {p : Addr} {H H' : Hp} (b : Bag H p) (s : Same H H') : Kp p H H' := (Kp.refl b).same s
section
variable {P : Program} {w : World} {K : PySem.W.Frag} {mg : Str → Option Value} {base : Heap}
def spBag (K : PySem.W.Frag) : Sp := fun vs H Q _ => ∃ (a : Addr) (ns : List Int) (i : Int), vs = [.ref a, .int i] ∧ SqL K H a (ns.map V.int) ∧ ns.length ≤ 63 ∧ 0 ≤ i ∧ i ≤ 100 ∧
  ∀ H' p, Same H H' → H p = none → Bag H' p → Q (.ref p) H'
theorem bag_turn {b e k : Int} (k0 : 0 ≤ k) (hb : 0 ≤ b) (hb2 : b < 2147483648) : 0 ≤ (b * 44017 + e % 2147483563 + 59 * k) % 2147483399 ∧ (b * 44017 + e % 2147483563 + 59 * k) % 2147483399 < 2147483648 := by
  omega
theorem ok_bag {f : Addr} {fd : FuncData} (F : Fun K "_law_bag" "_law_bag" sBag f fd) (T : Blt mg) : FnOk P w K mg base CX0 1 f fd ["_law_script", "_law_at"] (spBag K) := by
  refine F.ok scBag (fun vs H Q E h => ?_) (fun cdv A outer s H vs Q E hr h => ?_)
  · obtain ⟨a, ns, i, rfl, _⟩ := h
    rfl
  · obtain ⟨a, ns, i, rfl, hS, hlen, hi0, hi1, q⟩ := h
    refine ⟨_, C8.pss_cut (ps_set (i := 2) scBag.nd rfl (.inl rfl) (pe_ifExp (pt_cmpR op_lt (pv 1) (pe_callB call_len_seq (by rfl) T.len PySem.boot_len (pa_cons (pv 0) pa_nil)) (nomark _)) (pe_ix ix_list (pv 0) (pv 1) (fun _ _ => rfl)) pe_int))
      (pss_cons (ps_set (i := 3) scBag.nd rfl (.inl rfl) (pe_op op_add (pe_op op_mul pe_int (pv 1)) pe_int))
      (pss_cons (ps_for PassesOwn.never rfl (pi_enum (by rfl) T.enum (pa_cons (pe_slice sl_list (pv 0) po_none (po_some pe_int)) pa_nil))
          (pg_tup rfl (pgs_cons (pg_name (i := 4) scBag.nd rfl (.inl rfl)) (pgs_cons (pg_name (i := 5) scBag.nd rfl (.inl rfl)) pgs_nil)))
        (pss_one (ps_set (i := 3) scBag.nd rfl (.inl rfl) (pe_op op_mod (pe_callTy call_int1 (by rfl) T.int (by decide +kernel) (pa_cons
          (pe_op op_add (pe_op op_add (pe_op op_mul (pv 3) pe_int) (pe_op op_mod (pe_callTy call_int1 (by rfl) T.int (by decide +kernel) (pa_cons (pv 5) pa_nil)) pe_int)) (pe_op op_mul pe_int (pv 4))) pa_nil)) pe_int))))
      (pss_one (ps_ret (pe_lst (pa_cons (pe_ifExp (pt_cmpR op_ge (pe_callB call_abs (by rfl) T.abs (by decide +kernel) (pa_cons (pv 2) pa_nil)) (pe_op op_pow pe_int pe_int) (nomark _)) (pe_callB call_abs (by rfl) T.abs (by decide +kernel) (pa_cons (pv 2) pa_nil)) pe_int) (pa_cons (pv 3) pa_nil))))))), ?_⟩
    refine ⟨fun σ' H' => H' = H ∧ ∃ c : Int, σ' = [some (.ref a), some (.int i), some (.int c), none, none, none], ?_, fun σ' H' hM => ?_⟩
    · refine ⟨_, rfl, _, rfl, a, _, rfl, .inl hS, _, _, rfl, rfl, _, rfl, ite2 (fun hlt => ?_) (fun _ => ⟨rfl, 0, rfl⟩)⟩
      have hl : i < (ns.map V.int).length := of_decide_eq_true hlt
      rw [List.length_map] at hl
      obtain ⟨j, rfl⟩ : ∃ j : Nat, i = (j : Int) := ⟨i.toNat, by omega⟩
      have hj : j < ns.length := by omega
      exact ⟨_, rfl, _, rfl, a, _, _, _, rfl, rfl, hS, atI_nat (by rw [List.getElem?_map, List.getElem?_eq_getElem hj]; rfl), rfl, _, rfl⟩
    · obtain ⟨rfl, c, rfl⟩ := hM
      -- the blend
      refine ⟨.int i, rfl, _, i, rfl, rfl, .inl ⟨by decide, by decide⟩, _, _, rfl, rfl, ?_⟩
      -- the loop over a copy
      refine ⟨.ref a, rfl, 63, rfl, a, ns.map V.int, rfl, hS, fun l nl => ?_⟩
      have s1 : Same H' (upd H' l (.lst (cutV (ns.map V.int) none (some 63)))) := same_upd nl
      have ecut : cutV (ns.map V.int) none (some 63) = ns.map V.int := by
        unfold cutV
        rw [show HT.sIx (ns.map V.int).length (ns.map V.int).length (some 63) = min 63 (ns.map V.int).length from HT.sIx_nat _ _ 63, HT.sIx_none]
        rw [List.drop_zero, List.take_of_length_le]
        rw [List.length_map]
        omega
      rw [ecut] at s1 ⊢
      refine ⟨l, ns.map V.int, rfl, .inl (.inl upd_same), for_it walk_enum (fun _ σ H1 => Same H' H1 ∧ H1 l = some (.lst (ns.map V.int)) ∧ ∃ (b : Int) (x y : Option V), σ = [some (.ref a), some (.int i), some (.int c), some (.int b), x, y] ∧ 0 ≤ b ∧ b < 2147483648)
        ⟨s1, upd_same, _, _, _, rfl, by omega, by omega⟩ (fun n σ H1 _ h => .inl (.inl h.2.1)) ?_ ?_⟩
      · rintro n y σ H1 H2 hn ⟨sm, hl, b, x5, x6, rfl, b0, b1⟩ ⟨T', x, e, rfl, nT, rfl, e1, e2⟩
        rw [List.length_map] at hn
        obtain rfl := Option.some.inj e1
        have e2 := (show (ns.map V.int)[n]? = some _ from e2)
        rw [List.getElem?_map, List.getElem?_eq_getElem hn] at e2
        obtain rfl := Option.some.inj e2
        have sT : Same H1 (upd H1 T' (.tup [.int (n : Int), .int ns[n]])) := same_upd nT
        refine ⟨T', _, rfl, .inl (.inl upd_same), rfl, _, _, rfl, _, _, rfl, rfl, ?_⟩
        refine ⟨_, rfl, b, _, rfl, rfl, .inr ⟨by decide, by decide⟩, _, rfl, .inl ⟨_, rfl, _, _, rfl, rfl, (by show (0 : Int) < 2147483563; decide), _, _, rfl, rfl, _, rfl, _, _, rfl, rfl, .inl ⟨by decide, by decide⟩, _, _, rfl, rfl, .inl ⟨_, rfl, _, _, rfl, rfl, (by show (0 : Int) < 2147483399; decide), ?_⟩⟩⟩
        have hb := bag_turn (b := b) (e := ns[n]) (k := (n : Int)) (by omega) b0 b1
        exact ⟨sm.trans sT, sT _ _ hl, _, _, _, rfl, hb.1, hb.2⟩
      · rintro σ H1 ⟨sm, hl, b, x5, x6, rfl, b0, b1⟩
        refine ⟨_, rfl, _, rfl, _, _, rfl, rfl, ⟨by decide, by decide, by decide⟩, _, _, rfl, rfl, _, rfl, ite2 (fun hge => ?_) (fun _ => ?_)⟩
        · refine ⟨_, rfl, _, rfl, _, rfl, by show 2 ≤ sizeLine; decide, fun p np => q _ _ (sm.trans (same_upd np)) (sm.free np) ⟨_, b, upd_same, ?_, b0, b1⟩⟩
          split <;> omega
        · refine ⟨_, rfl, by show 2 ≤ sizeLine; decide, fun p np => q _ _ (sm.trans (same_upd np)) (sm.free np) ⟨0, b, upd_same, by omega, b0, b1⟩⟩
def spTake : Sp := fun vs H Q _ => ∃ (p : Addr) (m : Int), vs = [.ref p, .int m] ∧ Bag H p ∧ 1 ≤ m ∧ m < 1073741824 ∧ ∀ H' r, Kp p H H' → 0 ≤ r → r < m → Q (.int r) H'
theorem kp_upd {p : Addr} {H : Hp} {u v : Int} (h0 : 0 ≤ u) (h1 : 0 ≤ v) (h2 : v < 2147483648) : Kp p H (upd H p (.lst [.int u, .int v])) := ⟨fun b o n e => by
  rw [upd_ne n]
  exact e, u, v, upd_same, h0, h1, h2⟩
theorem ok_take {f : Addr} {fd : FuncData} (F : Fun K "_law_take" "_law_take" sTake f fd) (T : Blt mg) : FnOk P w K mg base CX0 1 f fd ["_law_bag_here", "_law_many"] spTake := by
  refine F.ok scTake (fun vs H Q E h => ?_) (fun cdv A outer s H vs Q E hr h => ?_)
  · obtain ⟨p, m, rfl, _⟩ := h
    rfl
  · obtain ⟨p, m, rfl, ⟨u, v, hp, u0, v0, v1⟩, m0, m1, q⟩ := h
    refine ⟨_, pss_cons (ps_if (pt_cmpR op_gt (pe_ix ix_list (pv 0) pe_int (fun _ _ => rfl)) pe_int (nomark _))
        (pss_cons (ps_set (i := 2) scTake.nd rfl (.inl rfl) (pe_op op_modN (pe_callTy call_int1 (by rfl) T.int (by decide +kernel) (pa_cons (pe_ix ix_list (pv 0) pe_int (fun _ _ => rfl)) pa_nil)) (pv 1)))
        (pss_cons (ps_asg (pe_op op_fdivN (pe_ix ix_list (pv 0) pe_int (fun _ _ => rfl)) (pv 1)) (pg_sub (pv 0) pe_int set_list))
        (pss_one (ps_ret (pv 2))))) pss_nil)
      (pss_cons (ps_asg (pe_op op_mod (pe_callTy call_int1 (by rfl) T.int (by decide +kernel) (pa_cons (pe_op op_add (pe_op op_mul (pe_ix ix_list (pv 0) pe_int (fun _ _ => rfl)) pe_int) pe_int) pa_nil)) pe_int) (pg_sub (pv 0) pe_int set_list))
      (pss_one (ps_ret (pe_op op_modN (pe_op op_fdiv (pe_op op_mod (pe_callTy call_int1 (by rfl) T.int (by decide +kernel) (pa_cons (pe_op op_mul (pe_op op_fdiv (pe_ix ix_list (pv 0) pe_int (fun _ _ => rfl)) pe_int) pe_int) pa_nil)) pe_int) pe_int) (pv 1))))), ?_⟩
    have g0 : atI [V.int u, V.int v] 0 = some (.int u) := atI_nat (j := 0) rfl
    have g1 : atI [V.int u, V.int v] 1 = some (.int v) := atI_nat (j := 1) rfl
    refine ⟨.ref p, rfl, p, _, 0, _, rfl, rfl, SqL.of hp, g0, _, _, rfl, rfl, _, rfl, ite2 (fun hpos => ?_) (fun _ => ?_)⟩
    · have hu : 0 < u := of_decide_eq_true hpos
      refine ⟨.ref p, rfl, p, _, 0, _, rfl, rfl, SqL.of hp, g0, .inl ⟨u, rfl, _, rfl, u, m, rfl, rfl, by omega, ?_⟩⟩
      refine ⟨.ref p, rfl, p, _, 0, _, rfl, rfl, SqL.of hp, g0, _, rfl, u, m, rfl, rfl, ⟨by omega, by omega⟩, ?_⟩
      refine ⟨.ref p, rfl, p, _, 0, 0, rfl, rfl, hp, rfl, ?_⟩
      refine ⟨_, rfl, ?_⟩
      have e1 : u.fdiv m = u / m := Int.fdiv_eq_ediv_of_nonneg _ (by omega)
      have e2 : u.fmod m = u % m := Int.fmod_eq_emod_of_nonneg _ (by omega)
      exact q _ _ (kp_upd (by rw [e1]; exact Int.ediv_nonneg (by omega) (by omega)) v0 v1) (by rw [e2]; exact Int.emod_nonneg _ (by omega)) (by rw [e2]; exact Int.emod_lt_of_pos _ (by omega))
    · refine ⟨.ref p, rfl, p, _, 1, _, rfl, rfl, SqL.of hp, g1, v, _, rfl, rfl, .inr ⟨by decide, by decide⟩, _, _, rfl, rfl, .inl ⟨_, rfl, _, _, rfl, rfl, (by show (0 : Int) < 2147483629; decide), ?_⟩⟩
      refine ⟨.ref p, rfl, p, _, 1, 1, rfl, rfl, hp, rfl, ?_⟩
      have hv : 0 ≤ (v * 48271 + 90001) % 2147483629 ∧ (v * 48271 + 90001) % 2147483629 < 2147483648 := by omega
      have hz : (upd H p (.lst [V.int u, V.int ((v * 48271 + 90001) % 2147483629)])) p = some (.lst [V.int u, V.int ((v * 48271 + 90001) % 2147483629)]) := upd_same
      have g2 : atI [V.int u, V.int ((v * 48271 + 90001) % 2147483629)] 1 = some (.int ((v * 48271 + 90001) % 2147483629)) := atI_nat (j := 1) rfl
      refine ⟨.ref p, rfl, p, _, 1, _, rfl, rfl, SqL.of hz, g2, _, _, rfl, rfl, ⟨by decide, by decide⟩, _, _, rfl, rfl, .inr ⟨by decide, by decide⟩, .inl ⟨_, rfl, _, _, rfl, rfl, (by show (0 : Int) < 2147483647; decide), _, _, rfl, rfl, ⟨by decide, by decide⟩, .int m, rfl, _, m, rfl, rfl, by omega, ?_⟩⟩
      have e2 : ∀ y : Int, y.fmod m = y % m := fun y => Int.fmod_eq_emod_of_nonneg _ (by omega)
      exact q _ _ (kp_upd u0 hv.1 hv.2) (by rw [e2]; exact Int.emod_nonneg _ (by omega)) (by rw [e2]; exact Int.emod_lt_of_pos _ (by omega))
end
end Dr
namespace Dr
open PySem PySem.Spec PyProof.Rows L2
abbrev sIsName : Stmt := topS 7
abbrev sIsOwner : Stmt := topS 8
abbrev sIsAsc : Stmt := topS 9
abbrev sIsItems : Stmt := topS 10
theorem scIsName : FnScope ["thing", "letter"] ["thing"] (defScope sIsName) := ⟨rfl, rfl, rfl, by decide +kernel, rfl, by decide +kernel, by decide +kernel⟩
theorem scIsOwner : FnScope ["thing"] ["thing"] (defScope sIsOwner) := ⟨rfl, rfl, rfl, by decide +kernel, rfl, by decide +kernel, by decide +kernel⟩
theorem scIsAsc : FnScope ["words", "low", "high"] ["words"] (defScope sIsAsc) := ⟨rfl, rfl, rfl, by decide +kernel, rfl, by decide +kernel, by decide +kernel⟩
theorem scIsItems : FnScope ["thing", "part"] ["thing"] (defScope sIsItems) := ⟨rfl, rfl, rfl, by decide +kernel, rfl, by decide +kernel, by decide +kernel⟩
def barred : List Str := ["marks", "kind", "value", "def", "return", "none", "copy", "if", "unless", "in", "is", "mark", "box", "once", "anew", "early", "late", "cls", "self", "method"]
def lowC (c : Nat) : Bool := decide (97 ≤ c) && decide (c ≤ 122)
def nameOk (z : Str) : Bool := (decide (1 ≤ z.length) && decide (z.length ≤ 8)) && (!(barred.contains z) && z.cps.toList.all lowC)
def isNameD : PyData → Bool
  | .str z => nameOk z
  | _ => false
def isOwnerD : PyData → Bool
  | .str z => z == "cls" || nameOk z
  | _ => false
def ltS (a b : Str) : Bool := decide (a.cps.toList < b.cps.toList)
def ascS : List Str → Bool
  | a :: b :: r => ltS a b && ascS (b :: r)
  | _ => true
def strsOf : List PyData → Option (List Str)
  | [] => some []
  | .str z :: r => (strsOf r).map (z :: ·)
  | _ :: _ => none
def isItemsD : PyData → Bool
  | .tuple ds => ds.all isNameD && (match strsOf ds with | some zs => ascS zs | none => false)
  | _ => false
theorem Same.seqT {K : PySem.W.Frag} {H H' : Hp} {a : Addr} {xs : List V} (e : Same H H') (h : SqT K H a xs) : SqT K H' a xs := by
  rcases h with (h | ⟨o, h⟩) | h
  · exact .inl (.inl (e _ _ h))
  · exact .inl (.inr ⟨o, e _ _ h⟩)
  · exact .inr h
mutual
theorem dp_same {K : PySem.W.Frag} {H H' : Hp} (e : Same H H') : ∀ {v : V} {d : PyData}, Dp K H v d → Dp K H' v d
  | _, _, .non => .non
  | _, _, .bl b => .bl b
  | _, _, .int i => .int i
  | _, _, .str x => .str x
  | _, _, .lst h hs => .lst (e.seq h) (dpAll_same e hs)
  | _, _, .tup h hs => .tup (Same.seqT e h) (dpAll_same e hs)
theorem dpAll_same {K : PySem.W.Frag} {H H' : Hp} (e : Same H H') : ∀ {vs : List V} {ds : List PyData}, DpAll K H vs ds → DpAll K H' vs ds
  | _, _, .nil => .nil
  | _, _, .cons h hs => .cons (dp_same e h) (dpAll_same e hs)
end
theorem dpAll_len {K : PySem.W.Frag} {H : Hp} : ∀ {vs : List V} {ds : List PyData}, DpAll K H vs ds → vs.length = ds.length
  | _, _, .nil => rfl
  | _, _, .cons _ hs => by rw [List.length_cons, List.length_cons, dpAll_len hs]
theorem dpAll_get {K : PySem.W.Frag} {H : Hp} : ∀ {vs : List V} {ds : List PyData} {i : Nat} {v : V}, DpAll K H vs ds → vs[i]? = some v → ∃ d, ds[i]? = some d ∧ Dp K H v d
  | _, _, i, v, .nil, h => by simp at h
  | _, _, 0, v, .cons h hs, e => ⟨_, rfl, by
    have q := Option.some.inj e
    subst q
    exact h⟩
  | _, _, i + 1, v, .cons h hs, e => dpAll_get (i := i) hs e
theorem dpAll_strs {K : PySem.W.Frag} {H : Hp} : ∀ (zs : List Str), DpAll K H (zs.map V.str) (zs.map PyData.str)
  | [] => .nil
  | z :: r => .cons (.str z) (dpAll_strs r)
/-- the type of a datum -/
def tyD : PyData → String
  | .none => "NoneType"
  | .bool _ => "bool"
  | .int _ => "int"
  | .str _ => "str"
  | .list _ => "list"
  | .tuple _ => "tuple"
  | .dict _ => "dict"
theorem tyx_lst {K : PySem.W.Frag} {H : Hp} {a : Addr} {xs : List V} (h : SqL K H a xs) : TyX K H (.ref a) (.type "list") := by
  rcases h with (h | ⟨o, h⟩) | ⟨o, its, n, h, c, _⟩
  · exact .base (.lst h)
  · exact .base (.frz h)
  · exact .kList h c
theorem tyx_tup {K : PySem.W.Frag} {H : Hp} {a : Addr} {xs : List V} (h : SqT K H a xs) : TyX K H (.ref a) (.type "tuple") := by
  rcases h with (h | ⟨o, h⟩) | ⟨o, its, n, h, c, _⟩
  · exact .base (.tup h)
  · exact .fTuple h
  · exact .kTuple h c
theorem dp_ty {K : PySem.W.Frag} {H : Hp} {v : V} {d : PyData} (h : Dp K H v d) : TyX K H v (.type (tyD d)) := by
  cases h with
  | non => exact .base .non
  | bl b => exact .base (.bl b)
  | int i => exact .base (.int i)
  | str x => exact .base (.str x)
  | lst h _ => exact tyx_lst h
  | tup h _ => exact tyx_tup h
def isStrD : PyData → Bool
  | .str _ => true
  | _ => false
def isTupD : PyData → Bool
  | .tuple _ => true
  | _ => false
def isBoolD : PyData → Bool
  | .bool _ => true
  | _ => false
theorem kit_str {K : PySem.W.Frag} : ∀ d : PyData, PySem.W.kitOne K (.type (tyD d)) (.type "str") = some (isStrD d)
  | .none => kit_ty (show kitB "NoneType" "str" = some false by decide +kernel)
  | .bool _ => kit_ty (show kitB "bool" "str" = some false by decide +kernel)
  | .int _ => kit_ty (show kitB "int" "str" = some false by decide +kernel)
  | .str _ => kit_ty (show kitB "str" "str" = some true by decide +kernel)
  | .list _ => kit_ty (show kitB "list" "str" = some false by decide +kernel)
  | .tuple _ => kit_ty (show kitB "tuple" "str" = some false by decide +kernel)
  | .dict _ => kit_ty (show kitB "dict" "str" = some false by decide +kernel)
theorem kit_tup {K : PySem.W.Frag} : ∀ d : PyData, PySem.W.kitOne K (.type (tyD d)) (.type "tuple") = some (isTupD d)
  | .none => kit_ty (show kitB "NoneType" "tuple" = some false by decide +kernel)
  | .bool _ => kit_ty (show kitB "bool" "tuple" = some false by decide +kernel)
  | .int _ => kit_ty (show kitB "int" "tuple" = some false by decide +kernel)
  | .str _ => kit_ty (show kitB "str" "tuple" = some false by decide +kernel)
  | .list _ => kit_ty (show kitB "list" "tuple" = some false by decide +kernel)
  | .tuple _ => kit_ty (show kitB "tuple" "tuple" = some true by decide +kernel)
  | .dict _ => kit_ty (show kitB "dict" "tuple" = some false by decide +kernel)
theorem kit_bool {K : PySem.W.Frag} : ∀ d : PyData, PySem.W.kitOne K (.type (tyD d)) (.type "bool") = some (isBoolD d)
  | .none => kit_ty (show kitB "NoneType" "bool" = some false by decide +kernel)
  | .bool _ => kit_ty (show kitB "bool" "bool" = some true by decide +kernel)
  | .int _ => kit_ty (show kitB "int" "bool" = some false by decide +kernel)
  | .str _ => kit_ty (show kitB "str" "bool" = some false by decide +kernel)
  | .list _ => kit_ty (show kitB "list" "bool" = some false by decide +kernel)
  | .tuple _ => kit_ty (show kitB "tuple" "bool" = some false by decide +kernel)
  | .dict _ => kit_ty (show kitB "dict" "bool" = some false by decide +kernel)
mutual
/-- texts and sequences of a size that Python's own limits leave alone -/
def smD : PyData → Bool
  | .str z => decide (z.length ≤ 1000)
  | .list ds => decide (ds.length ≤ 1000) && smAll ds
  | .tuple ds => decide (ds.length ≤ 1000) && smAll ds
  | .dict _ => false
  | _ => true
def smAll : List PyData → Bool
  | [] => true
  | d :: r => smD d && smAll r
end
structure OkD (d : PyData) : Prop where
  sh : SeqAt.shaped d = true
  sm : smD d = true
theorem smAll_get : ∀ {ds : List PyData}, smAll ds = true → ∀ d ∈ ds, smD d = true
  | [], _, _, h => by cases h
  | x :: r, h, d, hd => by
    have h' : smD x = true ∧ smAll r = true := by simpa [smAll] using h
    rcases List.mem_cons.mp hd with e | e
    · exact e ▸ h'.1
    · exact smAll_get h'.2 d e
theorem depth_all : ∀ {ds : List PyData}, ∀ d ∈ ds, d.depth ≤ PyData.depthAll ds
  | [], d, h => by cases h
  | x :: r, d, hd => by
    show d.depth ≤ max x.depth (PyData.depthAll r)
    rcases List.mem_cons.mp hd with e | e
    · subst e
      exact Nat.le_max_left _ _
    · exact Nat.le_trans (depth_all d e) (Nat.le_max_right _ _)
theorem OkD.tup {ds : List PyData} (h : OkD (.tuple ds)) : ds.length ≤ 1000 ∧ ∀ d ∈ ds, OkD d := by
  obtain ⟨hs, hm⟩ := h
  have hm' : ds.length ≤ 1000 ∧ smAll ds = true := by simpa [smD] using hm
  refine ⟨hm'.1, fun d hd => ⟨?_, smAll_get hm'.2 d hd⟩⟩
  have h1 := SeqAt.canLay_of_shaped hs
  have h2 := SeqAt.depth_of_shaped hs
  have h3 : PyData.canLayAll0 ds = true := by simpa only [PyData.canLay0] using h1
  have h4 : PyData.depthAll ds + 1 ≤ 64 := h2
  have h5 := depth_all d hd
  show (d.canLay0 && decide (d.depth ≤ 64)) = true
  rw [Bool.and_eq_true]
  exact ⟨PyData.canLay0_of_mem ds d h3 hd, decide_eq_true (by omega)⟩
/-- what the words module reads of the top -/
structure Wds (K : PySem.W.Frag) (mg : Str → Option Value) : Prop where
  len : mg "len" = none
  isi : mg "isinstance" = none
  str : mg "str" = none
  tup : mg "tuple" = none
  all : mg "all" = none
  zip : mg "zip" = none
  most : ∃ t, mg "MOST_LETTERS" = some (.int 8 t)
  bar : ∃ a : Addr, mg "BARRED" = some (.ref a) ∧ ∀ H, SqT K H a (barred.map V.str)
theorem flat_strs (l : List Str) : (l.map V.str).all flatV = true := by
  rw [List.all_eq_true]
  intro x hx
  obtain ⟨y, _, rfl⟩ := List.mem_map.mp hx
  rfl
theorem in_strs (z : Str) : ∀ l : List Str, inV (V.str z) (l.map V.str) = l.contains z
  | [] => rfl
  | y :: r => by
    show (eqV (V.str y) (V.str z) || inV (V.str z) (r.map V.str)) = _
    rw [in_strs z r, List.contains_cons]
    congr 1
    show (y == z) = (z == y)
    rw [Bool.eq_iff_iff, beq_iff_eq, beq_iff_eq]
    exact eq_comm
theorem one_lt (c d : Nat) : decide ((⟨#[c]⟩ : Str).cps.toList < (⟨#[d]⟩ : Str).cps.toList) = decide (c < d) := by
  show decide ([c] < [d]) = decide (c < d)
  by_cases h : c < d
  · rw [decide_eq_true h]
    exact decide_eq_true (List.Lex.rel h)
  · rw [decide_eq_false h]
    refine decide_eq_false fun q => ?_
    rcases List.cons_lt_cons_iff.mp q with q | ⟨_, q⟩
    · exact h q
    · exact absurd q (List.not_lt_nil _)
section
variable {P : Program} {w : World} {K : PySem.W.Frag} {mg : Str → Option Value} {base : Heap}
/-- the answer of a question about any object -/
def spAsk (K : PySem.W.Frag) (q : PyData → Bool) : Sp := fun vs H Q _ => ∃ (v : V) (d : PyData), vs = [v] ∧ Dp K H v d ∧ OkD d ∧ ∀ H', Same H H' → Q (.bl (q d)) H'
theorem ok_name {f : Addr} {fd : FuncData} (F : Fun K "is_name" "is_name" sIsName f fd) (T : Wds K mg) : FnOk P w K mg base CX0 1 f fd ["thing"] (spAsk K isNameD) := by
  refine F.ok scIsName (fun vs H Q E h => ?_) (fun cdv A outer s H vs Q E hr h => ?_)
  · obtain ⟨v, d, rfl, _⟩ := h
    rfl
  · obtain ⟨v, d, rfl, hd, hsh, q⟩ := h
    obtain ⟨tm, hm⟩ := T.most
    obtain ⟨aB, hB, hBs⟩ := T.bar
    refine ⟨_, pss_cons (ps_if (PW.pt (pw_or (pt_not (pt_val (pe_callB call_isi (by rfl) T.isi (by decide +kernel) (pa_cons (pv 0) (pa_cons (pe_bltn (v := .ty "str") (by rfl) T.str (by decide +kernel) rfl) pa_nil)))))
        (pw_or1 (pt_not (pt_chain op_le op_le pe_int (pe_callB call_len_str (by rfl) T.len PySem.boot_len (pa_cons (pv 0) pa_nil)) (pe_glob (v := .int 8) (by rfl) hm ⟨_, rfl⟩))))))
        (pss_one (ps_ret pe_bl)) pss_nil)
      (pss_one (ps_ret (pe_and (pe_cmpR op_notIn_seq (pv 0) (pe_glob (v := .ref aB) (by rfl) hB rfl) rfl)
        (pe_one (pe_callB (cr_all rfl) (by rfl) T.all (by decide +kernel) (pa_cons
          (pe_lc (own := [("letter", 1)]) (g := gName 1) (tt := tYes) rfl scIsName.nd (pi_str (pv 0)) (blkOk_by (N := ["thing", "letter"]) (sc := defScope sIsName) (by decide +kernel)) (fun _ _ _ _ _ => pg_name (i := 1) scIsName.nd rfl (Or.inl rfl)) (fun _ _ _ _ _ => pts_nil)
            (fun _ _ _ _ _ => pe_chain op_le_str op_le_str pe_str (pv 1) pe_str)) pa_nil)))))), ?_⟩
    refine ⟨v, rfl, v, .ty "str", _, _, _, rfl, .ty _, dp_ty hd, kit_str d, _, rfl, ?_⟩
    by_cases hstr : isStrD d = true
    · cases d with
      | str z =>
        cases hd
        have hz : z.length ≤ 1000 := of_decide_eq_true hsh.sm
        have hz2 : z.length ≤ sizeLine := Nat.le_of_lt (small1000 hz)
        refine iteF ?_
        refine ⟨_, rfl, _, rfl, hz2, _, _, rfl, rfl, _, rfl, ?_⟩
        have Z : z.length = z.cps.toList.length := (Array.length_toList).symm
        have no : ¬ (1 ≤ z.length ∧ z.length ≤ 8) → isNameD (.str z) = false := fun hn => by
          show nameOk z = false
          unfold nameOk
          by_cases h1 : 1 ≤ z.length
          · have h2 : ¬ z.length ≤ 8 := fun h2 => hn ⟨h1, h2⟩
            simp [h1, h2]
          · simp [h1]
        refine ite2 (fun k1 => ?_) (fun k1 => ?_)
        · have h1 : (1 : Int) ≤ (z.length : Int) := of_decide_eq_true k1
          refine ⟨_, _, rfl, rfl, _, rfl, ite2 (fun k2 => ?_) (fun k2 => ?_)⟩
          · have h2 : ¬ (z.length : Int) ≤ 8 := by simpa using k2
            rw [no (by omega)] at q
            exact q _ (Same.refl _)
          · have h2 : (z.length : Int) ≤ 8 := by simpa using k2
            have en : isNameD (.str z) = (!(barred.contains z) && z.cps.toList.all lowC) := by
              show nameOk z = _
              unfold nameOk
              rw [decide_eq_true (show 1 ≤ z.length by omega), decide_eq_true (show z.length ≤ 8 by omega)]
              rfl
            rw [en] at q
            refine ⟨_, rfl, aB, _, rfl, .inr (hBs _), rfl, flat_strs _, _, rfl, ?_⟩
            show if (!inV (V.str z) (barred.map V.str)) = true then _ else _
            rw [in_strs]
            cases hb : barred.contains z with
            | true =>
              rw [hb] at q
              refine iteF ?_
              exact q _ (Same.refl _)
            | false =>
              rw [hb] at q
              refine iteT ?_
              refine ⟨_, rfl, z, rfl, fun D hD => lc_it walk_str (fun i H1 => Same H H1 ∧ H1 D = some (.lst (((z.cps.toList.take i).map lowC).map V.bl))) ⟨same_upd hD, upd_same⟩ (fun _ _ _ _ => trivial) ?_ ?_⟩
              · rintro i x H1 H2 hi ⟨sm, hl⟩ ⟨rfl, c, hc, rfl⟩
                have hc' : z.cps.toList[i]? = some c := by rw [Array.getElem?_toList]; exact hc
                have ht : ((z.cps.toList.take i).map lowC).map V.bl ++ [V.bl (lowC c)] = ((z.cps.toList.take (i + 1)).map lowC).map V.bl := by
                  rw [List.take_add_one, hc', List.map_append, List.map_append]
                  rfl
                have nx : Same H (upd H2 D (.lst (((z.cps.toList.take (i + 1)).map lowC).map V.bl))) := fun b o e => by
                  rw [upd_ne (ne_of_none e hD)]
                  exact sm _ _ e
                have hsz : (((z.cps.toList.take i).map lowC).map V.bl).length < sizeLine := by
                  rw [List.length_map, List.length_map, List.length_take]
                  exact small1000 (by omega)
                have ea : (!decide ((⟨#[c]⟩ : Str).cps.toList < (("a" : Str)).cps.toList)) = decide (97 ≤ c) := by
                  show (!decide ((⟨#[c]⟩ : Str).cps.toList < (⟨#[97]⟩ : Str).cps.toList)) = _
                  rw [one_lt, ← decide_not]
                  exact decide_eq_decide.mpr (by omega)
                have ez : (!decide ((("z" : Str)).cps.toList < (⟨#[c]⟩ : Str).cps.toList)) = decide (c ≤ 122) := by
                  show (!decide ((⟨#[122]⟩ : Str).cps.toList < (⟨#[c]⟩ : Str).cps.toList)) = _
                  rw [one_lt, ← decide_not]
                  exact decide_eq_decide.mpr (by omega)
                refine ⟨rfl, ?_⟩
                unfold tYes
                refine iteT ?_
                refine ⟨_, rfl, _, _, rfl, rfl, _, rfl, ?_⟩
                rw [ea]
                refine ite2 (fun k => ?_) (fun k => ?_)
                · refine ⟨_, _, rfl, rfl, ?_⟩
                  rw [ez]
                  have el : lowC c = decide (c ≤ 122) := by
                    unfold lowC
                    rw [k]
                    rfl
                  refine ⟨_, hl, hsz, ?_⟩
                  rw [← el, ht]
                  exact ⟨nx, upd_same⟩
                · have el : lowC c = false := by
                    unfold lowC
                    rw [eq_false_of_ne_true k]
                    rfl
                  refine ⟨_, hl, hsz, ?_⟩
                  rw [← el, ht]
                  exact ⟨nx, upd_same⟩
              · rintro H1 ⟨sm, hl⟩
                refine ⟨D, _, rfl, .inl (.inl hl), ?_⟩
                rw [List.take_of_length_le (Nat.le_of_eq (Array.length_toList)), List.all_map]
                exact q _ sm
        · have h1 : ¬ (1 : Int) ≤ (z.length : Int) := by simpa using k1
          refine ⟨_, rfl, iteT ?_⟩
          rw [no (by omega)] at q
          exact q _ (Same.refl _)
      | _ => cases hstr
    · have e : isStrD d = false := by simpa using hstr
      rw [e]
      refine iteT ?_
      refine iteT ?_
      have en : isNameD d = false := by cases d <;> first | rfl | exact absurd rfl hstr
      rw [en] at q
      exact q _ (Same.refl _)
end
end Dr
namespace Dr
open PySem PySem.Spec PyProof.Rows L2
def isClsD : PyData → Bool
  | .str z => z == "cls"
  | _ => false
theorem eqv_cls : ∀ d : PyData, PyData.eqv d (.str "cls") = isClsD d
  | .none => rfl | .bool _ => rfl | .int _ => rfl | .str _ => rfl | .list _ => rfl | .tuple _ => rfl | .dict _ => rfl
theorem walk_zipT {K : PySem.W.Frag} {a b : Addr} {xs ys : List V} {n : Nat} (hn : n = min xs.length ys.length) : Walk (RZ.ItzT K a b) n (fun H => SqT K H a xs ∧ SqT K H b ys) (YPair (fun i => xs[i]?) (fun i => ys[i]?)) := by
  subst hn
  refine ⟨fun i _ hi q => ?_, fun _ q => ⟨xs, ys, q.1, q.2, by omega⟩, fun i H v H' _ q y => ?_⟩
  · have h1 : i < xs.length := by omega
    have h2 : i < ys.length := by omega
    exact ⟨xs, ys, xs[i], ys[i], q.1, q.2, by simp [h1], by simp [h2]⟩
  · obtain ⟨T, x, z, h1, h2, h3, h4, h5⟩ := y
    exact ⟨T, x, z, h1, h2, h3, h4 xs q.1, h5 ys q.2⟩
/-- neighbours in order -/
def pairsLt (zs : List Str) : List Bool := (zs.zip (zs.drop 1)).map fun p => ltS p.1 p.2
theorem pairs_all : ∀ zs : List Str, (pairsLt zs).all id = ascS zs
  | [] => rfl
  | [_] => rfl
  | a :: b :: r => by
    show (ltS a b && (pairsLt (b :: r)).all id) = (ltS a b && ascS (b :: r))
    rw [pairs_all (b :: r)]
theorem cutT1 (xs : List V) : cutV xs (some 1) none = xs.drop 1 := by
  unfold cutV
  rw [show HT.sIx xs.length 0 (some 1) = min 1 xs.length from HT.sIx_nat xs.length 0 1, HT.sIx_none]
  cases xs with
  | nil => rfl
  | cons x r =>
    rw [show min 1 (x :: r).length = 1 by
      rw [List.length_cons]
      omega]
    show (List.take ((x :: r).length - 1) r) = r
    rw [List.length_cons, Nat.add_sub_cancel]
    exact List.take_length
/-- t[1:] of a tuple -/
theorem tail_of {K : PySem.W.Frag} {H : Hp} {a : Addr} {xs : List V} {Q : VK} (h : SqT K H a xs) (q : ∀ b H', Same H H' → SqT K H' b (xs.drop 1) → Q (.ref b) H') : rSlA K (.ref a) (some 1) none H Q := by
  refine ⟨a, xs, rfl, h, fun e => ?_, fun _ p np => q p _ (same_upd np) (.inl (.inl (by rw [upd_same, cutT1])))⟩
  have e1 : min 1 xs.length = 0 := by
    rw [show HT.sIx xs.length 0 (some 1) = min 1 xs.length from HT.sIx_nat xs.length 0 1] at e
    exact e.1
  have e2 : xs = [] := List.eq_nil_of_length_eq_zero (by omega)
  subst e2
  exact q a H (Same.refl _) h
/-- t[1:], by what it gives -/
def rTail (K : PySem.W.Frag) : V → Option Int → Option Int → Hp → VK → Prop := fun x lo hi H Q => lo = some 1 ∧ hi = none ∧ ∃ a xs, x = .ref a ∧ SqT K H a xs ∧ ∀ b H', Same H H' → SqT K H' b (xs.drop 1) → Q (.ref b) H'
theorem sl_tail {X : Cx} : SlR X (rTail X.K) := fun pins s σ H x v vl vu lo hi sl Q I rx hs pl pu h => by
  obtain ⟨rfl, rfl, a, xs, rfl, hx, q⟩ := h
  exact sl_tupA pins s σ H _ v vl vu _ _ sl Q I rx hs pl pu (tail_of hx q)
theorem strs_of_all : ∀ {ds : List PyData}, ds.all isNameD = true → ∃ zs : List Str, ds = zs.map PyData.str
  | [], _ => ⟨[], rfl⟩
  | .str z :: r, h => by
    have h' : isNameD (.str z) = true ∧ r.all isNameD = true := by simpa using h
    obtain ⟨zs, e⟩ := strs_of_all h'.2
    exact ⟨z :: zs, by rw [e]; rfl⟩
  | .none :: _, h => by simp [isNameD] at h
  | .bool _ :: _, h => by simp [isNameD] at h
  | .int _ :: _, h => by simp [isNameD] at h
  | .list _ :: _, h => by simp [isNameD] at h
  | .tuple _ :: _, h => by simp [isNameD] at h
  | .dict _ :: _, h => by simp [isNameD] at h
theorem strsOf_map : ∀ zs : List Str, strsOf (zs.map PyData.str) = some zs
  | [] => rfl
  | z :: r => by
    show (strsOf (r.map PyData.str)).map (z :: ·) = _
    rw [strsOf_map r]
    rfl
theorem vals_strs {K : PySem.W.Frag} {H : Hp} : ∀ {zs : List Str} {vs : List V}, DpAll K H vs (zs.map PyData.str) → vs = zs.map V.str
  | [], _, .nil => rfl
  | z :: r, _, .cons h hs => by
    cases h
    rw [vals_strs hs]
    rfl
theorem acc_next {f : PyData → Bool} {ds : List PyData} {i : Nat} {d : PyData} (h : ds[i]? = some d) : ((ds.take i).map f).map V.bl ++ [V.bl (f d)] = ((ds.take (i + 1)).map f).map V.bl := by
  rw [List.take_add_one, h, List.map_append, List.map_append]
  rfl
section
variable {P : Program} {w : World} {K : PySem.W.Frag} {mg : Str → Option Value} {base : Heap}
theorem ok_owner {f fN : Addr} {fd fdN : FuncData} (F : Fun K "is_owner" "is_owner" sIsOwner f fd) (GN : FnOk P w K mg base CX0 1 fN fdN ["thing"] (spAsk K isNameD)) (mN : mg "is_name" = some (.ref fN)) (kN : PySem.W.keepIn K (.ref fN) = true) (bN : Binds K fdN ["thing"] []) :
    FnOk P w K mg base CX0 2 f fd ["thing"] (spAsk K isOwnerD) := by
  refine F.ok scIsOwner (fun vs H Q E h => ?_) (fun cdv A outer s H vs Q E hr h => ?_)
  · obtain ⟨v, d, rfl, _⟩ := h
    rfl
  · obtain ⟨v, d, rfl, hd, hok, q⟩ := h
    have hu : (A.deeper (envOfC "is_owner" (defScope sIsOwner) s.heap.objs.size f cdv)).units + 64 < cLine := hr.units
    refine ⟨_, pss_one (ps_ret (pe_or (pe_cmpR (op_eqD hu) (pv 0) pe_str (nomark _)) (pe_one (pe_call GN hr (by rfl) mN kN bN .nil pass0 (pa_cons (pv 0) pa_nil))))), ?_⟩
    refine ⟨v, rfl, d, .str "cls", hd, .str _, hok.sh, (by decide +kernel), _, rfl, ?_⟩
    rw [eqv_cls]
    have hq : ∀ b : Bool, isClsD d = b → isOwnerD d = (b || isNameD d) := fun b e => by
      subst e
      cases d <;> rfl
    refine ite2 (fun k => ?_) (fun k => ?_)
    · rw [hq _ k] at q
      exact q _ (Same.refl _)
    · rw [hq _ (eq_false_of_ne_true k)] at q
      exact ⟨v, rfl, v, d, rfl, hd, hok, q⟩
def spAsc (K : PySem.W.Frag) : Sp := fun vs H Q _ => ∃ (a : Addr) (zs : List Str), vs = [.ref a] ∧ SqT K H a (zs.map V.str) ∧ zs.length ≤ 1000 ∧ ∀ H', Same H H' → Q (.bl (ascS zs)) H'
theorem ok_asc {f : Addr} {fd : FuncData} (F : Fun K "is_ascending" "is_ascending" sIsAsc f fd) (T : Wds K mg) : FnOk P w K mg base CX0 1 f fd ["words"] (spAsc K) := by
  refine F.ok scIsAsc (fun vs H Q E h => ?_) (fun cdv A outer s H vs Q E hr h => ?_)
  · obtain ⟨a, zs, rfl, _⟩ := h
    rfl
  · obtain ⟨a, zs, rfl, hS, hlen, q⟩ := h
    refine ⟨_, pss_one (ps_ret (pe_callB (cr_all rfl) (by rfl) T.all (by decide +kernel) (pa_cons
          (pe_lc (own := [("low", 1), ("high", 2)]) (g := gTup K 2 (gCons (gName 1) (gCons (gName 2) gNil))) (tt := tYes) rfl scIsAsc.nd (RZ.pi_zipA (by rfl) T.zip (pa_cons (pv 0) (pa_cons (pe_slice sl_tail (pv 0) (po_some pe_int) po_none) pa_nil)))
            (blkOk_by (N := ["words", "low", "high"]) (sc := defScope sIsAsc) (by decide +kernel)) (fun _ _ _ _ _ => pg_tup rfl (pgs_cons (pg_name (i := 1) scIsAsc.nd rfl (Or.inl rfl)) (pgs_cons (pg_name (i := 2) scIsAsc.nd rfl (Or.inl rfl)) pgs_nil))) (fun _ _ _ _ _ => pts_nil)
            (fun _ _ _ _ _ => pe_cmpR op_lt_str (pv 1) (pv 2) (nomark _))) pa_nil))), ?_⟩
    refine ⟨_, rfl, _, rfl, 1, rfl, rfl, rfl, a, _, rfl, hS, fun b H1 s1 hb => ?_⟩
    rw [← List.map_drop] at hb
    refine ⟨a, b, zs.map V.str, (zs.drop 1).map V.str, rfl, .inr ⟨Same.seqT s1 hS, hb, fun D hD => ?_⟩⟩
    have hz : (zs.zip (zs.drop 1)).length = zs.length - 1 := by
      rw [List.length_zip, List.length_drop]
      omega
    refine lc_it (walk_zipT (n := (zs.zip (zs.drop 1)).length) (by rw [List.length_map, List.length_map, List.length_zip])) (fun i H2 => Same H1 H2 ∧ H2 D = some (.lst (((pairsLt zs).take i).map V.bl))) ⟨same_upd hD, upd_same⟩ (fun _ _ _ h => ⟨Same.seqT (s1.trans h.1) hS, Same.seqT h.1 hb⟩) ?_ ?_
    · rintro i v H2 H3 hi ⟨sm, hl⟩ ⟨T', x, y, rfl, nT, rfl, e1, e2⟩
      have hi1 : i < zs.length := by omega
      have hi2 : i < (zs.drop 1).length := by rw [List.length_drop]; omega
      have e1 := (show (zs.map V.str)[i]? = some x from e1)
      have e2 := (show ((zs.drop 1).map V.str)[i]? = some y from e2)
      rw [List.getElem?_map, List.getElem?_eq_getElem hi1] at e1
      rw [List.getElem?_map, List.getElem?_eq_getElem hi2] at e2
      obtain rfl := Option.some.inj e1
      obtain rfl := Option.some.inj e2
      have nD : D ≠ T' := ne_of_none hl nT
      have hg : (pairsLt zs)[i]? = some (ltS zs[i] (zs.drop 1)[i]) := by
        unfold pairsLt
        rw [List.getElem?_map, List.getElem?_eq_getElem hi, List.getElem_zip]
        rfl
      refine ⟨T', _, rfl, .inl (.inl upd_same), rfl, _, _, rfl, _, _, rfl, rfl, rfl, ?_⟩
      unfold tYes
      refine iteT ?_
      refine ⟨_, rfl, _, rfl, _, _, rfl, rfl, _, (by rw [upd_ne nD]; exact hl), ?_, fun c o e => ?_, ?_⟩
      · rw [List.length_map, List.length_take]
        exact small1000 (by omega)
      · rw [upd_ne (ne_of_none e hD), upd_ne (ne_of_none (sm _ _ e) nT)]
        exact sm _ _ e
      · rw [upd_same, List.take_add_one, hg, List.map_append]
        rfl
    · rintro H2 ⟨sm, hl⟩
      refine ⟨D, _, rfl, .inl (.inl hl), ?_⟩
      rw [List.take_of_length_le (by unfold pairsLt; rw [List.length_map]; exact Nat.le_refl _), pairs_all]
      exact q _ (s1.trans sm)
theorem ok_items {f fN fA : Addr} {fd fdN fdA : FuncData} (F : Fun K "is_items" "is_items" sIsItems f fd) (T : Wds K mg) (GN : FnOk P w K mg base CX0 1 fN fdN ["thing"] (spAsk K isNameD)) (mN : mg "is_name" = some (.ref fN)) (kN : PySem.W.keepIn K (.ref fN) = true) (bN : Binds K fdN ["thing"] [])
    (GA : FnOk P w K mg base CX0 1 fA fdA ["words"] (spAsc K)) (mA : mg "is_ascending" = some (.ref fA)) (kA : PySem.W.keepIn K (.ref fA) = true) (bA : Binds K fdA ["words"] []) :
    FnOk P w K mg base CX0 2 f fd ["thing"] (spAsk K isItemsD) := by
  refine F.ok scIsItems (fun vs H Q E h => ?_) (fun cdv A outer s H vs Q E hr h => ?_)
  · obtain ⟨v, d, rfl, _⟩ := h
    rfl
  · obtain ⟨v, d, rfl, hd, hok, q⟩ := h
    refine ⟨_, pss_one (ps_ret (pe_and (pe_callB call_isi (by rfl) T.isi (by decide +kernel) (pa_cons (pv 0) (pa_cons (pe_bltn (v := .ty "tuple") (by rfl) T.tup (by decide +kernel) rfl) pa_nil)))
      (pe_and (pe_callB (cr_all rfl) (by rfl) T.all (by decide +kernel) (pa_cons
          (pe_lc (own := [("part", 1)]) (g := gName 1) (tt := tYes) rfl scIsItems.nd (pi_tup (pv 0)) (blkOk_by (N := ["thing", "part"]) (sc := defScope sIsItems) (by decide +kernel)) (fun _ _ _ _ _ => pg_name (i := 1) scIsItems.nd rfl (Or.inl rfl)) (fun _ _ _ _ _ => pts_nil)
            (fun _ _ _ _ _ => pe_call GN hr (by rfl) mN kN bN .nil pass0 (pa_cons (pv 1) pa_nil))) pa_nil))
        (pe_one (pe_call GA hr (by rfl) mA kA bA .nil pass0 (pa_cons (pv 0) pa_nil)))))), ?_⟩
    refine ⟨v, rfl, v, .ty "tuple", _, _, _, rfl, .ty _, dp_ty hd, kit_tup d, _, rfl, ?_⟩
    by_cases ht : isTupD d = true
    · cases d with
      | tuple ds =>
        cases hd with
        | @tup a xs _ hS hall =>
          obtain ⟨hlen, hoks⟩ := hok.tup
          have hxl := dpAll_len hall
          refine iteT ?_
          refine ⟨_, rfl, a, rfl, ⟨_, hS⟩, fun D hD => lc_it walk_tup (fun i H1 => Same H H1 ∧ H1 D = some (.lst (((ds.take i).map isNameD).map V.bl))) ⟨same_upd hD, upd_same⟩ (fun _ _ _ h => Same.seqT h.1 hS) ?_ ?_⟩
          · rintro i x H1 H2 hi ⟨sm, hl⟩ ⟨rfl, hx⟩
            obtain ⟨d', hd', hdp⟩ := dpAll_get hall hx
            refine ⟨rfl, ?_⟩
            unfold tYes
            refine iteT ?_
            refine ⟨_, rfl, _, d', rfl, dp_same sm hdp, hoks d' (List.mem_of_getElem? hd'), fun H3 s3 => ?_⟩
            refine ⟨_, s3 _ _ hl, ?_, ?_⟩
            · rw [List.length_map, List.length_map, List.length_take]
              exact small1000 (by omega)
            · rw [acc_next hd']
              refine ⟨fun c o e => ?_, upd_same⟩
              rw [upd_ne (ne_of_none e hD)]
              exact s3 _ _ (sm _ _ e)
          · rintro H1 ⟨sm, hl⟩
            refine ⟨D, _, rfl, .inl (.inl hl), _, rfl, ?_⟩
            rw [hxl, List.take_of_length_le (Nat.le_refl _), List.all_map]
            show if ds.all isNameD = true then _ else _
            refine ite2 (fun hn => ?_) (fun hn => ?_)
            · obtain ⟨zs, rfl⟩ := strs_of_all hn
              have e := vals_strs hall
              subst e
              have ed : isItemsD (.tuple (zs.map PyData.str)) = ascS zs := by
                show ((zs.map PyData.str).all isNameD && (match strsOf (zs.map PyData.str) with | some zs => ascS zs | none => false)) = _
                rw [hn, strsOf_map]
                rfl
              rw [ed] at q
              rw [List.length_map] at hlen
              exact ⟨_, rfl, a, zs, rfl, Same.seqT sm hS, hlen, fun H2 s2 => q _ (sm.trans s2)⟩
            · have ed : isItemsD (.tuple ds) = false := by
                show (ds.all isNameD && _) = false
                rw [eq_false_of_ne_true hn]
                rfl
              rw [ed] at q
              exact q _ sm
      | _ => cases ht
    · have e : isTupD d = false := eq_false_of_ne_true ht
      rw [e]
      refine iteF ?_
      have en : isItemsD d = false := by cases d <;> first | rfl | exact absurd rfl ht
      rw [en] at q
      exact q _ (Same.refl _)
end
end Dr
namespace Dr
open PySem PySem.Spec PyProof.Rows L2
abbrev sFormOf : Stmt := topS 16
abbrev sIsSort : Stmt := topS 17
abbrev sHasForm : Stmt := topS 18
abbrev sIsDef : Stmt := topS 19
theorem scFormOf : FnScope ["thing", "forms", "form"] ["thing", "forms"] (defScope sFormOf) := ⟨rfl, rfl, rfl, by decide +kernel, rfl, by decide +kernel, by decide +kernel⟩
theorem scIsSort : FnScope ["part", "sort"] ["part", "sort"] (defScope sIsSort) := ⟨rfl, rfl, rfl, by decide +kernel, rfl, by decide +kernel, by decide +kernel⟩
theorem scHasForm : FnScope ["thing", "forms", "form", "part", "sort"] ["thing", "forms"] (defScope sHasForm) := ⟨rfl, rfl, rfl, by decide +kernel, rfl, by decide +kernel, by decide +kernel⟩
theorem scIsDef : FnScope ["thing", "holds"] ["thing", "holds"] (defScope sIsDef) := ⟨rfl, rfl, rfl, by decide +kernel, rfl, by decide +kernel, by decide +kernel⟩
abbrev Form := List Str
def fits (d : PyData) (f : Form) : Bool := match d, f with
  | .tuple (x :: r), w :: q => (r.length == q.length) && PyData.eqv x (.str w)
  | _, _ => false
def formOf (d : PyData) (fs : List Form) : Option Form := fs.find? (fits d)
def sorted2 (S : PyData → Str → Bool) : List PyData → List Str → List Bool
  | d :: r, z :: q => S d z :: sorted2 S r q
  | _, _ => []
def tailD : PyData → List PyData
  | .tuple ds => ds.drop 1
  | _ => []
def hasForm (S : PyData → Str → Bool) (d : PyData) (fs : List Form) : Bool := match formOf d fs with
  | none => false
  | some f => (sorted2 S (tailD d) (f.drop 1)).all id
/-- a tuple of forms of the written part -/
def FmAt (K : PySem.W.Frag) (b : Addr) (f : Form) : Prop := ∀ H, SqT K H b (f.map V.str)
structure Fms (K : PySem.W.Frag) (a : Addr) (fs : List Form) : Prop where
  ex : ∃ as : List Addr, (∀ H, SqT K H a (as.map V.ref)) ∧ Paired (FmAt K) as fs
theorem paired_get {α β : Type} {R : α → β → Prop} : ∀ {xs : List α} {ys : List β} {i : Nat} {x : α}, Paired R xs ys → xs[i]? = some x → ∃ y, ys[i]? = some y ∧ R x y
  | _, _, i, x, .nil, h => by simp at h
  | _, _, 0, x, .cons r _, h => ⟨_, rfl, by
    have q := Option.some.inj h
    subst q
    exact r⟩
  | _, _, i + 1, x, .cons _ rs, h => paired_get (i := i) rs h
theorem fits_not {d : PyData} {f : Form} (h : isTupD d = false) : fits d f = false := by
  cases d <;> first | rfl | cases h
theorem formOf_not {d : PyData} {fs : List Form} (h : isTupD d = false) : formOf d fs = none := by
  unfold formOf
  rw [List.find?_eq_none]
  intro f _
  rw [fits_not h]
  exact Bool.false_ne_true
theorem formOf_next {d : PyData} {fs : List Form} {i : Nat} {f : Form} (h : fs[i]? = some f) (n : formOf d (fs.take i) = none) : (fits d f = true → formOf d fs = some f) ∧ (fits d f = false → formOf d (fs.take (i + 1)) = none) := by
  unfold formOf at n ⊢
  refine ⟨fun e => ?_, fun e => ?_⟩
  · have hs : fs = fs.take i ++ (f :: fs.drop (i + 1)) := by
      obtain ⟨hi, rfl⟩ := List.getElem?_eq_some_iff.mp h
      rw [← List.drop_eq_getElem_cons hi, List.take_append_drop]
    rw [hs, List.find?_append, n, List.find?_cons, e]
    rfl
  · rw [List.take_add_one, h, List.find?_append, n, Option.none_or]
    show List.find? (fits d) [f] = none
    rw [List.find?_cons, e]
    rfl
section
variable {P : Program} {w : World} {K : PySem.W.Frag} {mg : Str → Option Value} {base : Heap}
def spFormOf (K : PySem.W.Frag) : Sp := fun vs H Q _ => ∃ (v : V) (d : PyData) (a : Addr) (fs : List Form), vs = [v, .ref a] ∧ Dp K H v d ∧ OkD d ∧ Fms K a fs ∧ (∀ f ∈ fs, 1 ≤ f.length ∧ ∀ z ∈ f, SeqAt.shaped (.str z) = true) ∧ (formOf d fs = none → Q .non H) ∧ ∀ f b, f ∈ fs → formOf d fs = some f → FmAt K b f → Q (.ref b) H
theorem ok_formOf {f : Addr} {fd : FuncData} (F : Fun K "form_of" "form_of" sFormOf f fd) (T : Wds K mg) : FnOk P w K mg base CX0 1 f fd ["thing", "forms"] (spFormOf K) := by
  refine F.ok scFormOf (fun vs H Q E h => ?_) (fun cdv A outer s H vs Q E hr h => ?_)
  · obtain ⟨v, d, a, fs, rfl, _⟩ := h
    rfl
  · obtain ⟨v, d, a, fs, rfl, hd, hok, hF, h1, q0, q1⟩ := h
    have hu : (A.deeper (envOfC "form_of" (defScope sFormOf) s.heap.objs.size f cdv)).units + 64 < cLine := hr.units
    refine ⟨_, pss_cons (ps_if (pt_not (pt_val (pe_callB call_isi (by rfl) T.isi (by decide +kernel) (pa_cons (pv 0) (pa_cons (pe_bltn (v := .ty "tuple") (by rfl) T.tup (by decide +kernel) rfl) pa_nil))))) (pss_one (ps_ret pe_non)) pss_nil)
      (pss_cons (ps_for PassesOwn.never rfl (pi_tup (pv 1)) (pg_name (i := 2) scFormOf.nd rfl (.inl rfl))
        (pss_one (ps_if (PW.pt (pw_and (pt_cmpR op_eq (pe_callB call_len_seq (by rfl) T.len PySem.boot_len (pa_cons (pv 0) pa_nil)) (pe_callB call_len_seq (by rfl) T.len PySem.boot_len (pa_cons (pv 2) pa_nil)) (nomark _))
            (pw_and1 (pt_cmpR (op_eqD hu) (pe_ix ix_tup (pv 0) pe_int (fun _ _ => rfl)) (pe_ix ix_tup (pv 2) pe_int (fun _ _ => rfl)) (nomark _)))))
          (pss_one (ps_ret (pv 2))) pss_nil)))
      (pss_one (ps_ret pe_non))), ?_⟩
    refine ⟨v, rfl, v, .ty "tuple", _, _, _, rfl, .ty _, dp_ty hd, kit_tup d, _, rfl, ?_⟩
    by_cases ht : isTupD d = true
    · rw [ht]
      refine iteF ?_
      obtain ⟨as, hS, hP⟩ := hF.ex
      refine ⟨_, rfl, a, rfl, ⟨_, hS _⟩, for_it walk_tup (fun i σ H' => H' = H ∧ (∃ y, σ = [some v, some (.ref a), y]) ∧ formOf d (fs.take i) = none) ⟨rfl, ⟨_, rfl⟩, rfl⟩ (fun _ _ _ _ _ => hS _) ?_ ?_⟩
      · rintro i x σ H1 H2 hi ⟨rfl, ⟨y, rfl⟩, hn⟩ ⟨rfl, hx⟩
        rw [List.getElem?_map] at hx
        cases hb : as[i]? with
        | none =>
          rw [hb] at hx
          cases hx
        | some b =>
          rw [hb] at hx
          obtain rfl := Option.some.inj hx
          obtain ⟨fm, hfm, hat⟩ := paired_get hP hb
          have hmem : fm ∈ fs := List.mem_of_getElem? hfm
          obtain ⟨hl1, hsh1⟩ := h1 fm hmem
          have hnx := formOf_next hfm hn
          cases d with
          | tuple ds =>
            cases hd with
            | @tup va xs _ hSd hall =>
              have hxl := dpAll_len hall
              refine ⟨_, rfl, va, _, rfl, .inr hSd, _, rfl, b, _, rfl, .inr (hat _), rfl, _, rfl, ?_⟩
              refine ite2 (fun k => ?_) (fun k => ?_)
              · have e1 : (xs.length : Int) = ((fm.map V.str).length : Int) := V.int.inj (of_decide_eq_true k)
                rw [List.length_map] at e1
                cases fm with
                | nil => exact absurd hl1 (by decide)
                | cons z zs =>
                  rw [List.length_cons] at e1
                  cases hall with
                  | nil =>
                    rw [List.length_nil] at e1
                    omega
                  | @cons x0 xr d0 dr hp0 hpr =>
                    have hok0 : OkD d0 := (hok.tup).2 d0 (List.mem_cons_self ..)
                    have el : (dr.length == zs.length) = true := by
                      rw [beq_iff_eq]
                      have := dpAll_len hpr
                      rw [List.length_cons] at e1
                      omega
                    refine ⟨_, rfl, va, _, 0, x0, rfl, rfl, hSd, atI_nat (j := 0) rfl, _, rfl, b, _, 0, .str z, rfl, rfl, hat _, atI_nat (j := 0) rfl, d0, .str z, hp0, .str z, hok0.sh, ?_, _, rfl, ?_⟩
                    · exact hsh1 z (List.mem_cons_self ..)
                    · have ef : fits (.tuple (d0 :: dr)) (z :: zs) = PyData.eqv d0 (.str z) := by
                        show ((dr.length == zs.length) && PyData.eqv d0 (.str z)) = _
                        rw [el]
                        rfl
                      refine ite2 (fun k => ?_) (fun k => ?_)
                      · exact ⟨_, rfl, q1 _ b hmem (hnx.1 (ef.trans k)) hat⟩
                      · exact ⟨rfl, ⟨_, rfl⟩, hnx.2 (ef.trans (eq_false_of_ne_true k))⟩
              · refine ⟨rfl, ⟨_, rfl⟩, hnx.2 ?_⟩
                have e1 : ¬ (xs.length : Int) = ((fm.map V.str).length : Int) := fun e => k (decide_eq_true (by rw [e]))
                rw [List.length_map] at e1
                cases fm with
                | nil => exact absurd hl1 (by decide)
                | cons z zs =>
                  cases ds with
                  | nil => rfl
                  | cons d0 dr =>
                    show ((dr.length == zs.length) && PyData.eqv d0 (.str z)) = false
                    rw [List.length_cons] at e1 hxl
                    rw [show (dr.length == zs.length) = false from beq_eq_false_iff_ne.mpr (by omega)]
                    rfl
          | _ => cases ht
      · rintro σ H1 ⟨rfl, ⟨y, rfl⟩, hn⟩
        have hl : fs.length = (as.map V.ref).length := by
          rw [List.length_map, hP.length]
        rw [← hl, List.take_length] at hn
        exact q0 hn
    · rw [eq_false_of_ne_true ht]
      exact iteT (q0 (formOf_not (eq_false_of_ne_true ht)))
/-- a question about a part and its sort, for sorts that ok allows -/
def spSort (K : PySem.W.Frag) (S : PyData → Str → Bool) (ok : Str → Prop) : Sp := fun vs H Q _ => ∃ (v : V) (d : PyData) (z : Str), vs = [v, .str z] ∧ Dp K H v d ∧ OkD d ∧ ok z ∧ ∀ H', Same H H' → Q (.bl (S d z)) H'
structure FmOk (ok : Str → Prop) (fs : List Form) : Prop where
  len : ∀ f ∈ fs, 1 ≤ f.length ∧ ∀ z ∈ f, SeqAt.shaped (.str z) = true
  tl : ∀ f ∈ fs, ∀ z ∈ f.drop 1, ok z
def spHas (K : PySem.W.Frag) (S : PyData → Str → Bool) (ok : Str → Prop) : Sp := fun vs H Q _ => ∃ (v : V) (d : PyData) (a : Addr) (fs : List Form), vs = [v, .ref a] ∧ Dp K H v d ∧ OkD d ∧ Fms K a fs ∧ FmOk ok fs ∧ ∀ H', Same H H' → Q (.bl (hasForm S d fs)) H'
theorem sorted2_len {S : PyData → Str → Bool} : ∀ (ds : List PyData) (zs : List Str), (sorted2 S ds zs).length = min ds.length zs.length
  | [], _ => by simp [sorted2]
  | _ :: _, [] => by simp [sorted2]
  | _ :: r, _ :: q => by
    show (sorted2 S r q).length + 1 = _
    rw [sorted2_len r q, List.length_cons, List.length_cons]
    omega
theorem sorted2_get {S : PyData → Str → Bool} : ∀ {ds : List PyData} {zs : List Str} {i : Nat} {d : PyData} {z : Str}, ds[i]? = some d → zs[i]? = some z → (sorted2 S ds zs)[i]? = some (S d z)
  | [], _, i, d, z, h, _ => by simp at h
  | _ :: _, [], i, d, z, _, h => by simp at h
  | x :: r, y :: q, 0, d, z, h, h2 => by
    obtain rfl := Option.some.inj h
    obtain rfl := Option.some.inj h2
    rfl
  | x :: r, y :: q, i + 1, d, z, h, h2 => sorted2_get (ds := r) (zs := q) (i := i) h h2
theorem dpAll_drop1 {K : PySem.W.Frag} {H : Hp} {vs : List V} {ds : List PyData} (h : DpAll K H vs ds) : DpAll K H (vs.drop 1) (ds.drop 1) := by
  cases h with
  | nil => exact .nil
  | cons _ hs => exact hs
theorem ok_hasForm {S : PyData → Str → Bool} {ok : Str → Prop} {k : Nat} {f fF fS : Addr} {fd fdF fdS : FuncData} (F : Fun K "has_form" "has_form" sHasForm f fd) (T : Wds K mg)
    (GF : FnOk P w K mg base CX0 1 fF fdF ["thing", "forms"] (spFormOf K)) (mF : mg "form_of" = some (.ref fF)) (kF : PySem.W.keepIn K (.ref fF) = true) (bF : Binds K fdF ["thing", "forms"] [])
    (GS : FnOk P w K mg base CX0 (k + 1) fS fdS ["part", "sort"] (spSort K S ok)) (mS : mg "is_of_sort" = some (.ref fS)) (kS : PySem.W.keepIn K (.ref fS) = true) (bS : Binds K fdS ["part", "sort"] []) :
    FnOk P w K mg base CX0 (k + 2) f fd ["thing", "forms"] (spHas K S ok) := by
  refine F.ok scHasForm (fun vs H Q E h => ?_) (fun cdv A outer s H vs Q E hr h => ?_)
  · obtain ⟨v, d, a, fs, rfl, _⟩ := h
    rfl
  · obtain ⟨v, d, a, fs, rfl, hd, hok, hF, hfs, q⟩ := h
    refine ⟨_, pss_cons (ps_set (i := 2) scHasForm.nd rfl (.inl rfl) (pe_call GF (hr.mono (by omega)) (by rfl) mF kF bF .nil pass0 (pa_cons (pv 0) (pa_cons (pv 1) pa_nil))))
      (pss_cons (ps_if (pt_cmpR op_isN (pv 2) pe_non (nomark _)) (pss_one (ps_ret pe_bl)) pss_nil)
      (pss_one (ps_ret (pe_callB (cr_all rfl) (by rfl) T.all (by decide +kernel) (pa_cons
          (pe_lc (own := [("part", 3), ("sort", 4)]) (g := gTup K 2 (gCons (gName 3) (gCons (gName 4) gNil))) (tt := tYes) rfl scHasForm.nd (RZ.pi_zipA (by rfl) T.zip (pa_cons (pe_slice sl_tail (pv 0) (po_some pe_int) po_none) (pa_cons (pe_slice sl_tail (pv 2) (po_some pe_int) po_none) pa_nil)))
            (blkOk_by (N := ["thing", "forms", "form", "part", "sort"]) (sc := defScope sHasForm) (by decide +kernel)) (fun _ _ _ _ _ => pg_tup rfl (pgs_cons (pg_name (i := 3) scHasForm.nd rfl (Or.inl rfl)) (pgs_cons (pg_name (i := 4) scHasForm.nd rfl (Or.inl rfl)) pgs_nil))) (fun _ _ _ _ _ => pts_nil)
            (fun _ _ _ _ _ => pe_call GS hr (by rfl) mS kS bS .nil pass0 (pa_cons (pv 3) (pa_cons (pv 4) pa_nil)))) pa_nil))))), ?_⟩
    refine ⟨v, rfl, .ref a, rfl, v, d, a, fs, rfl, hd, hok, hF, hfs.len, fun hn => ?_, fun fm b hmem hf hat => ?_⟩
    · refine ⟨_, rfl, rfl, _, rfl, ?_⟩
      refine iteT ?_
      have e : hasForm S d fs = false := by
        unfold hasForm
        rw [hn]
      rw [e] at q
      exact q _ (Same.refl _)
    · refine ⟨_, rfl, rfl, _, rfl, ?_⟩
      refine iteF ?_
      have e : hasForm S d fs = (sorted2 S (tailD d) (fm.drop 1)).all id := by
        unfold hasForm
        rw [hf]
      rw [e] at q
      cases ht : isTupD d with
      | false =>
        rw [formOf_not ht] at hf
        cases hf
      | true =>
        cases d with
        | tuple ds =>
          cases hd with
          | @tup va xs _ hSd hall =>
            obtain ⟨hlen, hoks⟩ := hok.tup
            have hall1 := dpAll_drop1 hall
            have hxl := dpAll_len hall1
            refine ⟨_, rfl, 1, rfl, rfl, rfl, va, xs, rfl, hSd, fun b1 H1 s1 hb1 => ?_⟩
            refine ⟨_, rfl, 1, rfl, rfl, rfl, b, _, rfl, hat _, fun b2 H2 s2 hb2 => ?_⟩
            rw [← List.map_drop] at hb2
            have hb1' := Same.seqT s2 hb1
            have s12 := s1.trans s2
            refine ⟨b1, b2, xs.drop 1, (fm.drop 1).map V.str, rfl, .inr ⟨hb1', hb2, fun D hD => ?_⟩⟩
            have hls := sorted2_len (S := S) (ds.drop 1) (fm.drop 1)
            refine lc_it (walk_zipT (n := (sorted2 S (ds.drop 1) (fm.drop 1)).length) (by rw [hls, List.length_map, hxl])) (fun i H3 => Same H2 H3 ∧ H3 D = some (.lst (((sorted2 S (ds.drop 1) (fm.drop 1)).take i).map V.bl))) ⟨same_upd hD, upd_same⟩ (fun _ _ _ h => ⟨Same.seqT h.1 hb1', Same.seqT h.1 hb2⟩) ?_ ?_
            · rintro i y H3 H4 hi ⟨sm, hl⟩ ⟨T', x, u, rfl, nT, rfl, e1, e2⟩
              have e1 := (show (xs.drop 1)[i]? = some x from e1)
              have e2 := (show ((fm.drop 1).map V.str)[i]? = some u from e2)
              obtain ⟨d', hd', hdp⟩ := dpAll_get hall1 e1
              rw [List.getElem?_map] at e2
              cases hz : (fm.drop 1)[i]? with
              | none =>
                rw [hz] at e2
                cases e2
              | some z =>
                rw [hz] at e2
                obtain rfl := Option.some.inj e2
                have nD : D ≠ T' := ne_of_none hl nT
                have sT : Same H3 (upd H3 T' (.tup [x, .str z])) := same_upd nT
                refine ⟨T', _, rfl, .inl (.inl upd_same), rfl, _, _, rfl, _, _, rfl, rfl, rfl, ?_⟩
                unfold tYes
                refine iteT ?_
                refine ⟨_, rfl, _, rfl, x, d', z, rfl, dp_same (s12.trans (sm.trans sT)) hdp, hoks d' (List.mem_of_mem_drop (List.mem_of_getElem? hd')), hfs.tl fm hmem z (List.mem_of_getElem? hz), fun H5 s5 => ?_⟩
                refine ⟨_, s5 _ _ (sT _ _ hl), ?_, fun c o e => ?_, ?_⟩
                · rw [List.length_map, List.length_take]
                  have : (ds.drop 1).length ≤ 1000 := by
                    rw [List.length_drop]
                    omega
                  exact small1000 (by omega)
                · rw [upd_ne (ne_of_none e hD)]
                  exact s5 _ _ (sT _ _ (sm _ _ e))
                · rw [upd_same, List.take_add_one, sorted2_get hd' hz, List.map_append]
                  rfl
            · rintro H3 ⟨sm, hl⟩
              refine ⟨D, _, rfl, .inl (.inl hl), ?_⟩
              rw [List.take_of_length_le (Nat.le_refl _)]
              exact q _ (s12.trans sm)
        | _ => cases ht
end
end Dr
namespace Dr
open PySem PySem.Spec PyProof.Rows L2
def S0 (d : PyData) (z : Str) : Bool := if z = "items" then isItemsD d else if z = "owner" then isOwnerD d else isNameD d
def ok0 (z : Str) : Prop := z ≠ "test" ∧ z ≠ "plain"
def markForms : List Form := [["mark", "item"]]
def boxForms : List Form := [["once", "items"], ["early", "kind", "value"], ["anew", "items"], ["late", "owner", "value"]]
def isDefD (d : PyData) (h : Str) : Bool := if h = "mark" then hasForm S0 d markForms else hasForm S0 d boxForms
instance (z : Str) : Decidable (ok0 z) := by
  unfold ok0
  exact inferInstance
def fmOkB (fs : List Form) : Bool := fs.all fun f => (decide (1 ≤ f.length) && f.all fun z => SeqAt.shaped (.str z)) && (f.drop 1).all fun z => decide (ok0 z)
theorem fmOk_by {fs : List Form} (h : fmOkB fs = true) : FmOk ok0 fs := by
  have q := List.all_eq_true.mp h
  refine ⟨fun f hf => ?_, fun f hf z hz => ?_⟩
  · have := q f hf
    rw [Bool.and_eq_true, Bool.and_eq_true] at this
    exact ⟨of_decide_eq_true this.1.1, fun z hz => List.all_eq_true.mp this.1.2 z hz⟩
  · have := q f hf
    rw [Bool.and_eq_true] at this
    exact of_decide_eq_true (List.all_eq_true.mp this.2 z hz)
theorem mark_ok : FmOk ok0 markForms := fmOk_by (by decide +kernel)
theorem box_ok : FmOk ok0 boxForms := fmOk_by (by decide +kernel)
section
variable {P : Program} {w : World} {K : PySem.W.Frag} {mg : Str → Option Value} {base : Heap}
theorem ok_sort0 {f fI fO fN : Addr} {fd fdI fdO fdN : FuncData} (F : Fun K "is_of_sort" "is_of_sort" sIsSort f fd)
    (GI : FnOk P w K mg base CX0 2 fI fdI ["thing"] (spAsk K isItemsD)) (mI : mg "is_items" = some (.ref fI)) (kI : PySem.W.keepIn K (.ref fI) = true) (bI : Binds K fdI ["thing"] [])
    (GO : FnOk P w K mg base CX0 2 fO fdO ["thing"] (spAsk K isOwnerD)) (mO : mg "is_owner" = some (.ref fO)) (kO : PySem.W.keepIn K (.ref fO) = true) (bO : Binds K fdO ["thing"] [])
    (GN : FnOk P w K mg base CX0 1 fN fdN ["thing"] (spAsk K isNameD)) (mN : mg "is_name" = some (.ref fN)) (kN : PySem.W.keepIn K (.ref fN) = true) (bN : Binds K fdN ["thing"] []) :
    FnOk P w K mg base CX0 3 f fd ["part", "sort"] (spSort K S0 ok0) := by
  refine F.ok scIsSort (fun vs H Q E h => ?_) (fun cdv A outer s H vs Q E hr h => ?_)
  · obtain ⟨v, d, z, rfl, _⟩ := h
    rfl
  · obtain ⟨v, d, z, rfl, hd, hok, ⟨n1, n2⟩, q⟩ := h
    refine ⟨_, pss_cons (ps_if (pt_cmpR op_eq (pv 1) pe_str (nomark _)) (pss_one (ps_ret (pe_call GI hr (by rfl) mI kI bI .nil pass0 (pa_cons (pv 0) pa_nil)))) pss_nil)
      (pss_cons (ps_if (pt_cmpR op_eq (pv 1) pe_str (nomark _)) (pss_one (ps_ret (pe_call GO hr (by rfl) mO kO bO .nil pass0 (pa_cons (pv 0) pa_nil)))) pss_nil)
      (pss_cons (ps_if (pt_cmpR op_eq (pv 1) pe_str (nomark _)) (pss_one ps_never) pss_nil)
      (pss_cons (ps_if (pt_cmpR op_eq (pv 1) pe_str (nomark _)) (pss_one ps_never) pss_nil)
      (pss_one (ps_ret (pe_call GN (hr.mono (by decide)) (by rfl) mN kN bN .nil pass0 (pa_cons (pv 0) pa_nil))))))), ?_⟩
    have inj : ∀ {a b : Str}, decide (V.str a = V.str b) = true → a = b := fun h => V.str.inj (of_decide_eq_true h)
    have ninj : ∀ {a b : Str}, ¬ decide (V.str a = V.str b) = true → a ≠ b := fun h e => h (decide_eq_true (by rw [e]))
    refine ⟨_, rfl, rfl, _, rfl, ite2 (fun k => ?_) (fun k => ?_)⟩
    · have e : S0 d z = isItemsD d := if_pos (inj k)
      rw [e] at q
      exact ⟨v, rfl, v, d, rfl, hd, hok, q⟩
    · have k1 := ninj k
      refine ⟨_, rfl, rfl, _, rfl, ite2 (fun k => ?_) (fun k => ?_)⟩
      · have e : S0 d z = isOwnerD d := by
          unfold S0
          rw [if_neg k1, if_pos (inj k)]
        rw [e] at q
        exact ⟨v, rfl, v, d, rfl, hd, hok, q⟩
      · have k2 := ninj k
        have e : S0 d z = isNameD d := by
          unfold S0
          rw [if_neg k1, if_neg k2]
        rw [e] at q
        refine ⟨_, rfl, rfl, _, rfl, ite2 (fun k => absurd (inj k) n1) (fun _ => ?_)⟩
        refine ⟨_, rfl, rfl, _, rfl, ite2 (fun k => absurd (inj k) n2) (fun _ => ?_)⟩
        exact ⟨v, rfl, v, d, rfl, hd, hok, q⟩
def spDef (K : PySem.W.Frag) : Sp := fun vs H Q _ => ∃ (v : V) (d : PyData) (h : Str), vs = [v, .str h] ∧ Dp K H v d ∧ OkD d ∧ ∀ H', Same H H' → Q (.bl (isDefD d h)) H'
structure FmT (K : PySem.W.Frag) (mg : Str → Option Value) : Prop where
  mark : ∃ a : Addr, mg "MARK_DEFAULTS" = some (.ref a) ∧ Fms K a markForms
  box : ∃ a : Addr, mg "BOX_DEFAULTS" = some (.ref a) ∧ Fms K a boxForms
theorem ok_def {k : Nat} {f fH : Addr} {fd fdH : FuncData} (F : Fun K "is_default" "is_default" sIsDef f fd) (T : FmT K mg)
    (GH : FnOk P w K mg base CX0 (k + 1) fH fdH ["thing", "forms"] (spHas K S0 ok0)) (mH : mg "has_form" = some (.ref fH)) (kH : PySem.W.keepIn K (.ref fH) = true) (bH : Binds K fdH ["thing", "forms"] []) :
    FnOk P w K mg base CX0 (k + 2) f fd ["thing", "holds"] (spDef K) := by
  refine F.ok scIsDef (fun vs H Q E h => ?_) (fun cdv A outer s H vs Q E hr h => ?_)
  · obtain ⟨v, d, z, rfl, _⟩ := h
    rfl
  · obtain ⟨v, d, z, rfl, hd, hok, q⟩ := h
    obtain ⟨aM, mM, FM⟩ := T.mark
    obtain ⟨aB, mB, FB⟩ := T.box
    refine ⟨_, pss_cons (ps_if (pt_cmpR op_eq (pv 1) pe_str (nomark _)) (pss_one (ps_ret (pe_call GH hr (by rfl) mH kH bH .nil pass0 (pa_cons (pv 0) (pa_cons (pe_glob (v := .ref aM) (by rfl) mM rfl) pa_nil))))) pss_nil)
      (pss_one (ps_ret (pe_call GH hr (by rfl) mH kH bH .nil pass0 (pa_cons (pv 0) (pa_cons (pe_glob (v := .ref aB) (by rfl) mB rfl) pa_nil))))), ?_⟩
    refine ⟨_, rfl, rfl, _, rfl, ite2 (fun k => ?_) (fun k => ?_)⟩
    · have e : isDefD d z = hasForm S0 d markForms := if_pos (V.str.inj (of_decide_eq_true k))
      rw [e] at q
      exact ⟨v, rfl, v, d, aM, markForms, rfl, hd, hok, FM, mark_ok, q⟩
    · have e : isDefD d z = hasForm S0 d boxForms := if_neg fun e => k (decide_eq_true (by rw [e]))
      rw [e] at q
      exact ⟨v, rfl, v, d, aB, boxForms, rfl, hd, hok, FB, box_ok, q⟩
end
end Dr
namespace Dr
open PySem PySem.Spec PyProof.Rows L2
open SX (S S_len S_cat)
abbrev sNames : Stmt := topS 26
theorem scNames : FnScope ["_law_bag_here", "_law_many", "_law_left", "_law_stem", "_law_one", "_law_turn", "_law_at", "_law_found", "_law_two"] ["_law_bag_here", "_law_many"] (defScope sNames) := ⟨rfl, rfl, rfl, by decide +kernel, rfl, by decide +kernel, by decide +kernel⟩
def gjqz : List Nat := [103, 106, 113, 122]
def letters : List Nat := [97, 98, 99, 100, 101, 102, 103, 104, 105, 106, 107, 108, 109, 110, 111, 112, 113, 114, 115, 116, 117, 118, 119, 120, 121, 122]
theorem az_eq : ("abcdefghijklmnopqrstuvwxyz" : Str) = S letters := by decide +kernel
theorem gjqz_eq : ("gjqz" : Str) = S gjqz := by decide +kernel
def twos (i : Nat) : List (List Nat) := (gjqz.take i).flatMap fun a => letters.map fun b => [a, b]
theorem twos_next {i c : Nat} (h : gjqz[i]? = some c) : twos (i + 1) = twos i ++ letters.map fun b => [c, b] := by
  unfold twos
  rw [List.take_add_one, h, List.flatMap_append]
  simp
theorem twos_len : (twos 4).length = 104 := by decide +kernel
theorem twos_nodup : (twos 4).Nodup := by decide +kernel
theorem twos_ok : ∀ t ∈ twos 4, t.length = 2 ∧ t.all lowC = true ∧ t.any (gjqz.contains ·) = true := by
  have h : (twos 4).all (fun t => decide (t.length = 2) && t.all lowC && t.any (gjqz.contains ·)) = true := by decide +kernel
  intro t ht
  have q := List.all_eq_true.mp h t ht
  rw [Bool.and_eq_true, Bool.and_eq_true] at q
  exact ⟨of_decide_eq_true q.1.1, q.1.2, q.2⟩
theorem letters_low : ∀ c ∈ letters, lowC c = true := by decide +kernel
/-- a drawn name -/
structure GoodN (cs : List Nat) : Prop where
  low : cs.all lowC = true
  lo : 2 ≤ cs.length
  hi : cs.length ≤ 8
  odd : cs.any (gjqz.contains ·) = true
theorem barred_even : barred.all (fun z => !(z.cps.toList.any (gjqz.contains ·))) = true := by decide +kernel
theorem good_name {cs : List Nat} (low : cs.all lowC = true) (lo : 1 ≤ cs.length) (hi : cs.length ≤ 8) (odd : cs.any (gjqz.contains ·) = true) : nameOk (S cs) = true := by
  have hb : barred.contains (S cs) = false := by
    cases h : barred.contains (S cs) with
    | false => rfl
    | true =>
      have hm : S cs ∈ barred := by simpa using h
      have q := List.all_eq_true.mp barred_even _ hm
      have e : (S cs).cps.toList = cs := rfl
      rw [e, odd] at q
      cases q
  unfold nameOk
  rw [hb, S_len, decide_eq_true lo, decide_eq_true hi]
  exact low
theorem GoodN.ok {cs : List Nat} (g : GoodN cs) : nameOk (S cs) = true := good_name g.low (by have := g.lo; omega) g.hi g.odd
/-- the stem around a pair of letters -/
def mkN (stem : List Nat) (at_ : Nat) (two : List Nat) : List Nat := stem.take at_ ++ two ++ stem.drop at_
theorem mkN_len {stem two : List Nat} {a : Nat} : (mkN stem a two).length = stem.length + two.length := by
  unfold mkN
  rw [List.length_append, List.length_append, List.length_take, List.length_drop]
  omega
theorem mkN_good {stem two : List Nat} {a : Nat} (hs : stem.all lowC = true) (hl : stem.length ≤ 6) (ht : two ∈ twos 4) : GoodN (mkN stem a two) := by
  obtain ⟨t1, t2, t3⟩ := twos_ok two ht
  refine ⟨?_, by rw [mkN_len]; omega, by rw [mkN_len]; omega, ?_⟩
  · unfold mkN
    rw [List.all_append, List.all_append, t2]
    have h1 : (stem.take a).all lowC = true := List.all_eq_true.mpr fun x hx => List.all_eq_true.mp hs x (List.mem_of_mem_take hx)
    have h2 : (stem.drop a).all lowC = true := List.all_eq_true.mpr fun x hx => List.all_eq_true.mp hs x (List.mem_of_mem_drop hx)
    rw [h1, h2]
    rfl
  · unfold mkN
    rw [List.any_append, List.any_append, t3]
    simp
theorem mkN_inj {stem t u : List Nat} {a : Nat} (hl : t.length = u.length) (h : mkN stem a t = mkN stem a u) : t = u := by
  unfold mkN at h
  rw [List.append_assoc, List.append_assoc] at h
  have h2 := List.append_cancel_left h
  exact (List.append_inj h2 hl).1
section
variable {P : Program} {w : World} {K : PySem.W.Frag} {mg : Str → Option Value} {base : Heap}
theorem Kp.seq {p a : Addr} {H H' : Hp} {xs : List V} (k : Kp p H H') (n : a ≠ p) (h : SqL K H a xs) : SqL K H' a xs := by
  rcases h with (h | ⟨o, h⟩) | h
  · exact .inl (.inl (k.1 _ _ n h))
  · exact .inl (.inr ⟨o, k.1 _ _ n h⟩)
  · exact .inr h
/-- one of a list or of a text's signs -/
def spOf (K : PySem.W.Frag) : Sp := fun vs H Q _ => ∃ (p : Addr) (x : V), vs = [.ref p, x] ∧ Bag H p ∧
  ((∃ (a : Addr) (xs : List V), x = .ref a ∧ a ≠ p ∧ SqL K H a xs ∧ 1 ≤ xs.length ∧ xs.length ≤ 1000 ∧ ∀ H' y, Kp p H H' → y ∈ xs → Q y H') ∨
    ∃ cs : List Nat, x = .str (S cs) ∧ 1 ≤ cs.length ∧ cs.length ≤ 1000 ∧ ∀ H' c, Kp p H H' → c ∈ cs → Q (.str (S [c])) H')
theorem ok_of {f fT : Addr} {fd fdT : FuncData} (F : Fun K "_law_of" "_law_of" sOf f fd) (T : Blt mg) (GT : FnOk P w K mg base CX0 1 fT fdT ["_law_bag_here", "_law_many"] spTake) (mT : mg "_law_take" = some (.ref fT)) (kT : PySem.W.keepIn K (.ref fT) = true) (bT : Binds K fdT ["_law_bag_here", "_law_many"] []) :
    FnOk P w K mg base CX0 2 f fd ["_law_bag_here", "_law_some"] (spOf K) := by
  refine F.ok scOf (fun vs H Q E h => ?_) (fun cdv A outer s H vs Q E hr h => ?_)
  · obtain ⟨p, x, rfl, _⟩ := h
    rfl
  · obtain ⟨p, x, rfl, hB, h⟩ := h
    refine ⟨_, pss_one (ps_ret (pe_ix ix_seq (pv 1) (pe_call GT hr (by rfl) mT kT bT .nil pass0 (pa_cons (pv 0) (pa_cons (pe_callB call_len (by rfl) T.len PySem.boot_len (pa_cons (pv 1) pa_nil)) pa_nil))) (fun _ _ => rfl))), ?_⟩
    rcases h with ⟨a, xs, rfl, na, hS, h1, h2, q⟩ | ⟨cs, rfl, h1, h2, q⟩
    · refine ⟨_, rfl, _, rfl, _, rfl, _, xs.length, rfl, .inl ⟨xs, hS, rfl⟩, p, _, rfl, hB, by omega, by omega, fun H' r k r0 r1 => ?_⟩
      obtain ⟨j, rfl⟩ : ∃ j : Nat, r = (j : Int) := ⟨r.toNat, by omega⟩
      have hj : j < xs.length := by omega
      exact .inl ⟨a, xs, _, xs[j], rfl, rfl, k.seq na hS, atI_nat (List.getElem?_eq_getElem hj), q _ _ k (List.getElem_mem hj)⟩
    · have hz : (S cs).length ≤ sizeLine := by
        rw [S_len]
        exact Nat.le_of_lt (small1000 h2)
      refine ⟨_, rfl, _, rfl, _, rfl, _, (S cs).length, rfl, ⟨hz, rfl⟩, p, _, rfl, hB, by rw [S_len]; omega, by rw [S_len]; omega, fun H' r k r0 r1 => ?_⟩
      rw [S_len] at r1
      obtain ⟨j, rfl⟩ : ∃ j : Nat, r = (j : Int) := ⟨r.toNat, by omega⟩
      have hj : j < cs.length := by omega
      exact .inr (.inr ⟨S cs, _, cs[j], rfl, rfl, hz, atI_nat (List.getElem?_eq_getElem hj), q _ _ k (List.getElem_mem hj)⟩)
end
end Dr
namespace Dr
open PySem PySem.Spec PyProof.Rows L2
open SX (S S_len S_cat)
section
variable {P : Program} {w : World} {K : PySem.W.Frag} {mg : Str → Option Value} {base : Heap}
def txts (l : List (List Nat)) : List V := l.map fun cs => V.str (S cs)
def spNames (K : PySem.W.Frag) : Sp := fun vs H Q _ => ∃ (p : Addr) (m : Nat), vs = [.ref p, .int (m : Int)] ∧ Bag H p ∧ m ≤ 20 ∧
  ∀ H' q zs, Kp p H H' → H q = none → H' q = some (.lst (txts zs)) → zs.length = m → zs.Nodup → (∀ z ∈ zs, GoodN z) → Q (.ref q) H'
theorem seqIx {n j : Nat} (h : j < n) : seqIndex? (j : Int) n = some j := by
  refine (ixN_seq (n := n) (i := (j : Int)) (j := j) ?_).1
  unfold ixN
  rw [if_pos (by omega), if_pos (by omega)]
  simp
theorem erase_perm {α : Type} : ∀ {l : List α} {k : Nat} {y : α}, l[k]? = some y → (y :: l.eraseIdx k).Perm l
  | [], k, y, h => by simp at h
  | a :: r, 0, y, h => by
    obtain rfl := Option.some.inj h
    exact .refl _
  | a :: r, k + 1, y, h => by
    have ih := erase_perm (l := r) (k := k) (y := y) h
    exact (List.Perm.swap a y _).trans (.cons a ih)
theorem map_er {α β : Type} (f : α → β) : ∀ (l : List α) (k : Nat), (l.map f).eraseIdx k = (l.eraseIdx k).map f
  | [], _ => rfl
  | a :: r, 0 => rfl
  | a :: r, k + 1 => congrArg (f a :: ·) (map_er f r k)
theorem txts_erase (l : List (List Nat)) (k : Nat) : (txts l).eraseIdx k = txts (l.eraseIdx k) := map_er _ l k
theorem txts_app (l r : List (List Nat)) : txts l ++ txts r = txts (l ++ r) := by
  unfold txts
  rw [List.map_append]
theorem ok_names {f fT fO : Addr} {fd fdT fdO : FuncData} (F : Fun K "_law_names" "_law_names" sNames f fd) (T : Blt mg) (hra : mg "range" = none)
    (GT : FnOk P w K mg base CX0 1 fT fdT ["_law_bag_here", "_law_many"] spTake) (mT : mg "_law_take" = some (.ref fT)) (kT : PySem.W.keepIn K (.ref fT) = true) (bT : Binds K fdT ["_law_bag_here", "_law_many"] [])
    (GO : FnOk P w K mg base CX0 2 fO fdO ["_law_bag_here", "_law_some"] (spOf K)) (mO : mg "_law_of" = some (.ref fO)) (kO : PySem.W.keepIn K (.ref fO) = true) (bO : Binds K fdO ["_law_bag_here", "_law_some"] []) :
    FnOk P w K mg base CX0 3 f fd ["_law_bag_here", "_law_many"] (spNames K) := by
  refine F.ok scNames (fun vs H Q E h => ?_) (fun cdv A outer s H vs Q E hr h => ?_)
  · obtain ⟨p, m, rfl, _⟩ := h
    rfl
  · obtain ⟨p, m, rfl, hB, hm, q⟩ := h
    have hr1 : Room 1 _ := hr.mono (by decide)
    refine ⟨_, pss_cons (ps_par (i := 2) (j := 3) (by rfl) scNames.nd rfl rfl (by decide) rfl rfl (pa_cons (pe_lst pa_nil) (pa_cons pe_str pa_nil)) (by rfl))
      (pss_cons (ps_for PassesOwn.never rfl (pi_str pe_str) (pg_name (i := 4) scNames.nd rfl (.inr rfl)) (pss_one (ps_expr (pe_bm PySem.F.plainAttrs_list PySem.F.slot_list_extend PySem.F.type_list_extend mt_extend (pv 2) (pa_cons
          (pe_lc (own := [("_law_two", 8)]) (g := gName 8) (tt := tYes) rfl scNames.nd (pi_str pe_str) (blkOk_by (N := ["_law_bag_here", "_law_many", "_law_left", "_law_stem", "_law_one", "_law_turn", "_law_at", "_law_found", "_law_two"]) (sc := defScope sNames) (by decide +kernel)) (fun _ _ _ _ _ => pg_name (i := 8) scNames.nd rfl (Or.inl rfl)) (fun _ _ _ _ _ => pts_nil)
            (fun _ _ _ _ _ => pe_op op_add_str (pv 4) (pv 8))) pa_nil)))))
      (pss_cons (ps_for PassesOwn.never rfl (pi_range1 rfl hra (pa_cons (pe_call GT hr1 (by rfl) mT kT bT .nil pass0 (pa_cons (pv 0) (pa_cons pe_int pa_nil))) pa_nil)) (pg_name (i := 5) scNames.nd rfl (.inl rfl))
          (pss_one (ps_set (i := 3) scNames.nd rfl (.inl rfl) (pe_op op_add_str (pv 3) (pe_call GO hr (by rfl) mO kO bO .nil pass0 (pa_cons (pv 0) (pa_cons pe_str pa_nil)))))))
      (pss_cons (ps_par (i := 6) (j := 7) (by rfl) scNames.nd rfl rfl (by decide) rfl rfl (pa_cons (pe_call GT hr1 (by rfl) mT kT bT .nil pass0 (pa_cons (pv 0) (pa_cons (pe_op op_add (pe_callB call_len_str (by rfl) T.len PySem.boot_len (pa_cons (pv 3) pa_nil)) pe_int) pa_nil))) (pa_cons (pe_lst pa_nil) pa_nil)) (by rfl))
      (pss_cons (ps_for PassesOwn.never rfl (pi_range1 rfl hra (pa_cons (pv 1) pa_nil)) (pg_name (i := 5) scNames.nd rfl (.inl rfl))
          (pss_one (ps_expr (pe_bm PySem.F.plainAttrs_list PySem.F.slot_list_append PySem.F.type_list_append mt_append (pv 7) (pa_cons
            (pe_op op_add_str (pe_op op_add_str (pe_slice C8.sl_txt (pv 3) po_none (po_some (pv 6)))
              (pe_bm PySem.F.plainAttrs_list PySem.F.slot_list_pop PySem.F.type_list_pop mt_popAt (pv 2) (pa_cons (pe_call GT hr1 (by rfl) mT kT bT .nil pass0 (pa_cons (pv 0) (pa_cons (pe_callB call_len_seq (by rfl) T.len PySem.boot_len (pa_cons (pv 2) pa_nil)) pa_nil))) pa_nil)))
              (pe_slice C8.sl_txt (pv 3) (po_some (pv 6)) po_none)) pa_nil)))))
      (pss_one (ps_ret (pv 7))))))), ?_⟩
    refine ⟨Nat.zero_le _, fun l nl => ?_⟩
    have nlp : l ≠ p := fun e => by
      obtain ⟨u, v, hp, _⟩ := hB
      rw [e, hp] at nl
      cases nl
    refine ⟨_, _, rfl, ?_⟩
    -- the pairs of letters
    refine ⟨_, rfl, for_it walk_str (fun i σ H1 => Same H H1 ∧ H1 l = some (.lst (txts (twos i))) ∧ ∃ y, σ = [some (.ref p), some (.int (m : Int)), some (.ref l), some (.str ""), y, none, none, none, none]) ⟨same_upd nl, upd_same, _, rfl⟩ (fun _ _ _ _ _ => trivial) ?_ ?_⟩
    · rintro i x σ H1 H2 hi ⟨sm, hl, y, rfl⟩ ⟨rfl, c, hc, rfl⟩
      rw [gjqz_eq] at hc hi
      have hc' : gjqz[i]? = some c := by
        rw [← hc]
        simp
      have hi' : i < 4 := by simpa [gjqz] using hi
      refine ⟨_, rfl, .inl ⟨rfl, _, SqL.of hl⟩, _, rfl, fun D hD => lc_it walk_str (fun j H3 => Same H2 H3 ∧ H3 D = some (.lst (txts ((letters.take j).map fun b => [c, b])))) ⟨same_upd hD, upd_same⟩ (fun _ _ _ _ => trivial) ?_ ?_⟩
      · rintro j x H3 H4 hj ⟨sm3, hD3⟩ ⟨rfl, b, hb, rfl⟩
        rw [az_eq] at hb
        have hb' : letters[j]? = some b := by
          rw [← hb]
          simp
        refine ⟨rfl, ?_⟩
        unfold tYes
        refine iteT ?_
        refine ⟨_, rfl, _, rfl, S [c], S [b], rfl, rfl, by show 1 + 1 ≤ sizeLine; decide, ?_⟩
        refine ⟨_, hD3, ?_, fun a o e => ?_, ?_⟩
        · unfold txts
          rw [List.length_map, List.length_map, List.length_take]
          exact small1000 (by have : letters.length = 26 := rfl; omega)
        · rw [upd_ne (ne_of_none e hD)]
          exact sm3 _ _ e
        · rw [upd_same, S_cat, List.take_add_one, hb']
          unfold txts
          rw [List.map_append, List.map_append]
          rfl
      · rintro H3 ⟨sm3, hD3⟩
        rw [az_eq] at hD3
        have e26 : letters.take (S letters).cps.size = letters := rfl
        rw [e26] at hD3
        have hl3 := sm3 _ _ hl
        have nlD : l ≠ D := ne_of_none hl hD
        refine ⟨l, D, _, _, rfl, rfl, hl3, hD3, ?_, ?_⟩
        · unfold txts
          rw [List.length_map, List.length_map, List.length_map]
          have h1 : (twos i).length ≤ 104 := by
            have hcase : i = 0 ∨ i = 1 ∨ i = 2 ∨ i = 3 := by omega
            rcases hcase with e | e | e | e <;> (rw [e]; decide +kernel)
          have h2 : letters.length = 26 := rfl
          exact Nat.le_of_lt (small1000 (by omega))
        · refine ⟨fun a o e => ?_, ?_, _, rfl⟩
          · rw [upd_ne (ne_of_none e nl)]
            exact sm3 _ _ (sm _ _ e)
          · rw [upd_same, txts_app, twos_next hc']
    · rintro σ H1 ⟨sm, hl, y, rfl⟩
      rw [gjqz_eq] at hl
      have e4 : twos (S gjqz).cps.size = twos 4 := rfl
      rw [e4] at hl
      have k1 : Kp p H H1 := Kp.of hB sm
      -- the stem
      refine ⟨_, rfl, p, 7, rfl, k1.2, by decide, by decide, fun H2 r k2 r0 r7 => ⟨r, rfl, by omega, by omega, for_it walk_range (fun i σ H3 => Kp p H H3 ∧ H3 l = some (.lst (txts (twos 4))) ∧ ∃ (stem : List Nat) (y5 : Option V), σ = [some (.ref p), some (.int (m : Int)), some (.ref l), some (.str (S stem)), y, y5, none, none, none] ∧ stem.all lowC = true ∧ stem.length ≤ i) ⟨k1.trans k2, k2.1 _ _ nlp hl, [], none, rfl, rfl, Nat.le_refl _⟩ (fun _ _ _ _ _ => trivial) ?_ ?_⟩⟩
      · rintro i x σ H3 H4 hi ⟨k3, hl3, stem, y5, rfl, hlow, hlen⟩ ⟨rfl, rfl⟩
        refine ⟨_, rfl, _, rfl, p, _, rfl, k3.2, .inr ⟨letters, congrArg V.str az_eq, by decide, by decide, fun H5 c k5 hc => ?_⟩⟩
        refine ⟨_, _, rfl, rfl, ?_, ?_⟩
        · rw [S_len, S_len]
          exact Nat.le_of_lt (small1000 (by show stem.length + 1 ≤ 1000; omega))
        · refine ⟨k3.trans k5, k5.1 _ _ nlp hl3, stem ++ [c], _, by rw [← S_cat]; rfl, ?_, by rw [List.length_append]; show stem.length + 1 ≤ i + 1; omega⟩
          rw [List.all_append, hlow, List.all_cons, letters_low c hc]
          rfl
      · rintro σ H3 ⟨k3, hl3, stem, y5, rfl, hlow, hlen⟩
        have hlen6 : stem.length ≤ 6 := by omega
        refine ⟨_, rfl, _, rfl, _, rfl, ?_, _, _, rfl, rfl, p, _, rfl, k3.2, by omega, by rw [S_len]; omega, fun H4 at_ k4 a0 a1 => ?_⟩
        · rw [S_len]
          exact Nat.le_of_lt (small1000 (by omega))
        refine ⟨Nat.zero_le _, fun g ng => ⟨_, _, rfl, ?_⟩⟩
        have hl4 := k4.1 _ _ nlp hl3
        have k04 := k3.trans k4
        have nlg : l ≠ g := ne_of_none hl4 ng
        have ngp : g ≠ p := fun e => by
          obtain ⟨u, v, hp, _⟩ := k04.2
          rw [e, hp] at ng
          cases ng
        have sg : Same H4 (upd H4 g (.lst [])) := same_upd ng
        -- the names
        refine ⟨_, rfl, (m : Int), rfl, by omega, by omega, for_it walk_range (fun i σ H5 => Kp p H H5 ∧ H5 g = H5 g ∧ ∃ (ws L : List (List Nat)) (y5 : Option V), H5 l = some (.lst (txts L)) ∧ H5 g = some (.lst (txts (ws.map (mkN stem at_.toNat)))) ∧ ws.length = i ∧ L.length + i = 104 ∧ (ws ++ L).Nodup ∧ (∀ t ∈ ws ++ L, t ∈ twos 4) ∧
          σ = [some (.ref p), some (.int (m : Int)), some (.ref l), some (.str (S stem)), y, y5, some (.int at_), some (.ref g), none]) ⟨k04.same sg, rfl, [], twos 4, _, sg _ _ hl4, upd_same, rfl, twos_len, twos_nodup, fun t h => h, rfl⟩ (fun _ _ _ _ _ => trivial) ?_ ?_⟩
        · rintro i x σ H5 H6 hi ⟨k5, _, ws, L, y5, hL, hG, hw, hLl, hnd, hall, rfl⟩ ⟨rfl, rfl⟩
          have hi20 : i < 20 := by
            have : i < ((m : Nat) : Int).toNat := hi
            omega
          have hsz : (S stem).length ≤ sizeLine := by
            rw [S_len]
            exact Nat.le_of_lt (small1000 (by omega))
          have hLen : (txts L).length = L.length := by
            unfold txts
            rw [List.length_map]
          refine ⟨_, rfl, .inl ⟨rfl, _, SqL.of hG⟩, ?_⟩
          refine ⟨_, rfl, _, rfl, at_, rfl, S stem, rfl, hsz, ?_⟩
          refine ⟨_, rfl, .inl ⟨rfl, _, SqL.of hL⟩, _, rfl, _, rfl, l, _, rfl, .inl (SqL.of hL), p, _, rfl, k5.2, by rw [hLen]; omega, by rw [hLen]; omega, fun H7 kk k7 kk0 kk1 => ?_⟩
          rw [hLen] at kk1
          obtain ⟨j, rfl⟩ : ∃ j : Nat, kk = (j : Int) := ⟨kk.toNat, by omega⟩
          have hj : j < L.length := by omega
          have hget : L[j]? = some L[j] := List.getElem?_eq_getElem hj
          have hL7 := k7.1 _ _ nlp hL
          have hG7 := k7.1 _ _ ngp hG
          have htwo : L[j] ∈ twos 4 := hall _ (List.mem_append_right _ (List.getElem_mem hj))
          have ht2 := (twos_ok _ htwo).1
          refine ⟨l, _, _, j, .str (S L[j]), rfl, rfl, hL7, by omega, by omega, seqIx (by rw [hLen]; exact hj), by unfold txts; rw [List.getElem?_map, hget]; rfl, ?_⟩
          have e1 : Txt.slice (S stem) none (some at_) = S (stem.take at_.toNat) := SX.slice_to a0
          have e2 : Txt.slice (S stem) (some at_) none = S (stem.drop at_.toNat) := SX.slice_from a0
          refine ⟨_, _, congrArg V.str e1, rfl, ?_, ?_⟩
          · rw [S_len, S_len, List.length_take]
            exact Nat.le_of_lt (small1000 (by omega))
          refine ⟨_, rfl, _, rfl, at_, rfl, S stem, rfl, hsz, ?_⟩
          refine ⟨_, _, rfl, congrArg V.str e2, ?_, ?_⟩
          · rw [S_cat, S_len, S_len, List.length_append, List.length_take, List.length_drop]
            exact Nat.le_of_lt (small1000 (by omega))
          refine ⟨g, _, _, rfl, rfl, (by rw [upd_ne nlg.symm]; exact hG7), ?_, ?_⟩
          · unfold txts
            rw [List.length_map, List.length_map, hw]
            exact small1000 (by omega)
          · rw [S_cat, S_cat]
            have hperm : ((ws ++ [L[j]]) ++ L.eraseIdx j).Perm (ws ++ L) := by
              rw [List.append_assoc]
              exact (erase_perm hget).append_left ws
            refine ⟨⟨fun a o na e => ?_, ?_⟩, rfl, ws ++ [L[j]], L.eraseIdx j, _, ?_, ?_, by rw [List.length_append, hw]; rfl, ?_, hperm.nodup_iff.mpr hnd, fun t h => hall t (hperm.mem_iff.mp h), rfl⟩
            · have e5 := k7.1 _ _ na (k5.1 _ _ na e)
              have ag : a ≠ g := fun z => by
                subst z
                have := (k04.1 _ _ na e).symm.trans ng
                cases this
              have al : a ≠ l := fun z => by
                subst z
                rw [nl] at e
                cases e
              rw [upd_ne ag, upd_ne al]
              exact e5
            · obtain ⟨u, v, hp, hb⟩ := k7.2
              refine ⟨u, v, ?_, hb⟩
              rw [upd_ne ngp.symm, upd_ne nlp.symm]
              exact hp
            · rw [upd_ne nlg, upd_same, txts_erase]
            · rw [upd_same, List.map_append, ← txts_app]
              unfold mkN
              rfl
            · rw [List.length_eraseIdx_of_lt hj]
              omega
        · rintro σ H5 ⟨k5, _, ws, L, y5, hL, hG, hw, hLl, hnd, hall, rfl⟩
          have hw' : ws.length = m := by
            rw [hw]
            show ((m : Nat) : Int).toNat = m
            omega
          have ng0 : H g = none := by
            cases e : H g with
            | none => rfl
            | some o =>
              have := (k04.1 _ _ ngp e).symm.trans ng
              cases this
          refine ⟨_, rfl, q _ g _ k5 ng0 hG (by rw [List.length_map]; exact hw') ?_ ?_⟩
          · have hnd1 : ws.Nodup := (List.nodup_append.mp hnd).1
            refine List.pairwise_map.mpr (hnd1.imp_of_mem fun {t u} ht hu ne e => ne ?_)
            have t2 := (twos_ok t (hall t (List.mem_append_left _ ht))).1
            have u2 := (twos_ok u (hall u (List.mem_append_left _ hu))).1
            exact mkN_inj (t2.trans u2.symm) e
          · intro z hz
            obtain ⟨t, ht, rfl⟩ := List.mem_map.mp hz
            exact mkN_good hlow hlen6 (hall t (List.mem_append_left _ ht))
end
end Dr
namespace Dr
open PySem PySem.Spec PyProof.Rows L2
open SX (S S_len S_cat)
theorem ltCps_tri : ∀ a b : List Nat, ltCps b a = false → a ≠ b → ltCps a b = true
  | [], [], _, n => absurd rfl n
  | [], _ :: _, _, _ => rfl
  | _ :: _, [], h, _ => by cases h
  | x :: r, y :: t, h, n => by
    have h' : ¬ y < x ∧ ((y == x) = true → ltCps t r = false) := by
      have q : (decide (y < x) || (y == x && ltCps t r)) = false := h
      rw [Bool.or_eq_false_iff] at q
      refine ⟨of_decide_eq_false q.1, fun e => ?_⟩
      have q2 := q.2
      rw [e] at q2
      exact q2
    show (decide (x < y) || (x == y && ltCps r t)) = true
    by_cases e : x = y
    · subst e
      have ih := ltCps_tri r t (h'.2 (beq_self_eq_true _)) (fun z => n (by rw [z]))
      rw [ih]
      simp
    · rw [decide_eq_true (show x < y by omega)]
      rfl
theorem asc_of : ∀ ys : List Str, sortedS ys = true → ys.Nodup → ascS ys = true
  | [], _, _ => rfl
  | [_], _, _ => rfl
  | x :: y :: r, h, n => by
    have h' : (!ltCps y.cps.toList x.cps.toList) = true ∧ risingS y r = true := by
      have q : (!ltCps y.cps.toList x.cps.toList && risingS y r) = true := h
      rw [Bool.and_eq_true] at q
      exact q
    have hne : x.cps.toList ≠ y.cps.toList := fun e => by
      have : x = y := by
        rw [← SX.S_tl x, ← SX.S_tl y, e]
      rw [List.nodup_cons] at n
      exact n.1 (by rw [this]; exact List.mem_cons_self ..)
    have hlt : ltS x y = true := by
      unfold ltS
      rw [← ltCps_eq]
      exact ltCps_tri _ _ (by simpa using h'.1) hne
    show (ltS x y && ascS (y :: r)) = true
    rw [hlt, asc_of (y :: r) h'.2 (List.nodup_cons.mp n).2]
    rfl
/-- a drawn default: none, a mark, items, a seat -/
inductive Df where
  | non
  | mk (o : List Nat)
  | its (w : Str) (zs : List Str)
  | seat (w o : Str) (x : List Nat)
def Df.data : Df → PyData
  | .non => .none
  | .mk o => .tuple [.str "mark", .str (S o)]
  | .its w zs => .tuple [.str w, .tuple (zs.map PyData.str)]
  | .seat w o x => .tuple [.str w, .str o, .str (S x)]
def DfAt (H : Hp) (v : V) : Df → Prop
  | .non => v = .non
  | .mk o => ∃ t, v = .ref t ∧ H t = some (.tup [.str "mark", .str (S o)])
  | .its w zs => ∃ t u, v = .ref t ∧ H t = some (.tup [.str w, .ref u]) ∧ H u = some (.tup (zs.map V.str))
  | .seat w o x => ∃ t, v = .ref t ∧ H t = some (.tup [.str w, .str o, .str (S x)])
structure SmS (z : Str) : Prop where
  ok : PyData.strOk z = true
  sm : z.length ≤ 1000
structure ItsOk (zs : List Str) : Prop where
  nm : ∀ z ∈ zs, nameOk z = true
  sm : ∀ z ∈ zs, SmS z
  asc : ascS zs = true
  len : zs.length ≤ 20
def Df.ok (hs : Str) : Df → Prop
  | .non => True
  | .mk o => hs = "mark" ∧ GoodN o
  | .its w zs => hs = "box" ∧ (w = "once" ∨ w = "anew") ∧ ItsOk zs
  | .seat w o x => hs = "box" ∧ ((w = "early" ∧ ∃ oc, o = S oc ∧ GoodN oc) ∨ (w = "late" ∧ (o = "cls" ∨ ∃ oc, o = S oc ∧ GoodN oc))) ∧ GoodN x
theorem sms_good {cs : List Nat} (g : GoodN cs) : SmS (S cs) := by
  refine ⟨?_, by rw [S_len]; have := g.hi; omega⟩
  unfold PyData.strOk
  rw [← Array.all_toList]
  refine List.all_eq_true.mpr fun c hc => ?_
  have q := List.all_eq_true.mp g.low c hc
  unfold lowC at q
  rw [Bool.and_eq_true] at q
  have := of_decide_eq_true q.2
  exact decide_eq_true (by omega)
theorem okD_sms {z : Str} (h : SmS z) : OkD (.str z) := by
  refine ⟨?_, decide_eq_true h.sm⟩
  show (PyData.strOk z && decide (0 ≤ 64)) = true
  rw [h.ok]
  rfl
theorem canAll_strs : ∀ {zs : List Str}, (∀ z ∈ zs, SmS z) → PyData.canLayAll0 (zs.map PyData.str) = true ∧ smAll (zs.map PyData.str) = true ∧ PyData.depthAll (zs.map PyData.str) = 0
  | [], _ => ⟨rfl, rfl, rfl⟩
  | z :: r, h => by
    have ih := canAll_strs (zs := r) fun x hx => h x (List.mem_cons_of_mem _ hx)
    have hz := h z (List.mem_cons_self ..)
    refine ⟨?_, ?_, ?_⟩
    · show (PyData.strOk z && PyData.canLayAll0 (r.map PyData.str)) = true
      rw [hz.ok, ih.1]
      rfl
    · show (decide (z.length ≤ 1000) && smAll (r.map PyData.str)) = true
      rw [decide_eq_true hz.sm, ih.2.1]
      rfl
    · show max 0 (PyData.depthAll (r.map PyData.str)) = 0
      rw [ih.2.2]
      rfl
theorem okD_strs {zs : List Str} (h : ∀ z ∈ zs, SmS z) (hl : zs.length ≤ 1000) : OkD (.tuple (zs.map PyData.str)) := by
  obtain ⟨h1, h2, h3⟩ := canAll_strs h
  refine ⟨?_, ?_⟩
  · show (PyData.canLayAll0 (zs.map PyData.str) && decide (PyData.depthAll (zs.map PyData.str) + 1 ≤ 64)) = true
    rw [h1, h3]
    rfl
  · show (decide ((zs.map PyData.str).length ≤ 1000) && smAll (zs.map PyData.str)) = true
    rw [h2, List.length_map, decide_eq_true hl]
    rfl
theorem sms_lit {z : Str} (h : (PyData.strOk z && decide (z.length ≤ 1000)) = true) : SmS z := by
  rw [Bool.and_eq_true] at h
  exact ⟨h.1, of_decide_eq_true h.2⟩
theorem Df.okD {hs : Str} : ∀ {f : Df}, f.ok hs → OkD f.data
  | .non, _ => ⟨rfl, rfl⟩
  | .mk o, h => okD_strs (zs := ["mark", S o]) (fun z hz => by
      rcases List.mem_cons.mp hz with e | hz
      · exact e ▸ sms_lit (by decide +kernel)
      · rcases List.mem_cons.mp hz with e | hz
        · exact e ▸ sms_good h.2
        · cases hz) (by show 2 ≤ 1000; decide)
  | .its w zs, h => by
    obtain ⟨_, hw, hz⟩ := h
    have hw' : SmS w := by
      rcases hw with e | e <;> (rw [e]; exact sms_lit (by decide +kernel))
    have q := okD_strs hz.sm (by have := hz.len; omega)
    refine ⟨?_, ?_⟩
    · have h1 := SeqAt.canLay_of_shaped q.sh
      have h3 := (canAll_strs hz.sm).2.2
      show ((PyData.strOk w && (PyData.canLay0 (.tuple (zs.map PyData.str)) && true)) && decide (max 0 (max (PyData.depthAll (zs.map PyData.str) + 1) 0) + 1 ≤ 64)) = true
      rw [hw'.ok, h1, h3]
      rfl
    · show (decide (2 ≤ 1000) && (decide (w.length ≤ 1000) && (smD (.tuple (zs.map PyData.str)) && true))) = true
      rw [decide_eq_true hw'.sm, q.sm]
      rfl
  | .seat w o x, h => by
    obtain ⟨_, hw, hx⟩ := h
    have hw' : SmS w := by
      rcases hw with ⟨e, _⟩ | ⟨e, _⟩ <;> (rw [e]; exact sms_lit (by decide +kernel))
    have ho : SmS o := by
      rcases hw with ⟨_, oc, e, g⟩ | ⟨_, e | ⟨oc, e, g⟩⟩
      · rw [e]; exact sms_good g
      · rw [e]; exact sms_lit (by decide +kernel)
      · rw [e]; exact sms_good g
    exact okD_strs (zs := [w, o, S x]) (fun z hz => by
      rcases List.mem_cons.mp hz with e | hz
      · exact e ▸ hw'
      · rcases List.mem_cons.mp hz with e | hz
        · exact e ▸ ho
        · rcases List.mem_cons.mp hz with e | hz
          · exact e ▸ sms_good hx
          · cases hz) (by show 3 ≤ 1000; decide)
theorem DfAt.dp {K : PySem.W.Frag} {H : Hp} {v : V} : ∀ {f : Df}, DfAt H v f → Dp K H v f.data
  | .non, h => by
    obtain rfl := h
    exact .non
  | .mk o, ⟨t, e, h⟩ => by
    subst e
    exact .tup (.inl (.inl h)) (.cons (.str _) (.cons (.str _) .nil))
  | .its w zs, ⟨t, u, e, h, h2⟩ => by
    subst e
    exact .tup (.inl (.inl h)) (.cons (.str _) (.cons (.tup (.inl (.inl h2)) (dpAll_strs zs)) .nil))
  | .seat w o x, ⟨t, e, h⟩ => by
    subst e
    exact .tup (.inl (.inl h)) (.cons (.str _) (.cons (.str _) (.cons (.str _) .nil)))
theorem items_ok {zs : List Str} (h : ItsOk zs) : isItemsD (.tuple (zs.map PyData.str)) = true := by
  show ((zs.map PyData.str).all isNameD && (match strsOf (zs.map PyData.str) with | some zs => ascS zs | none => false)) = true
  rw [strsOf_map]
  have e : (zs.map PyData.str).all isNameD = true := by
    rw [List.all_map]
    exact List.all_eq_true.mpr fun z hz => h.nm z hz
  rw [e]
  exact h.asc
def hitF (n : Nat) (w : Str) (f : Form) : Bool := match f with
  | w' :: q => (n == q.length) && (w == w')
  | [] => false
theorem form_hd {n : Nat} {w : Str} {ds : List PyData} {fs : List Form} {f : Form} (hn : ds.length = n) (h : fs.find? (hitF n w) = some f) : formOf (.tuple (.str w :: ds)) fs = some f := by
  unfold formOf
  subst hn
  have e : fits (.tuple (.str w :: ds)) = hitF ds.length w := by
    funext f
    cases f <;> rfl
  rw [e]
  exact h
theorem S0_item (d : PyData) : S0 d "item" = isNameD d := by
  unfold S0
  rw [if_neg (by decide +kernel), if_neg (by decide +kernel)]
theorem S0_kind (d : PyData) : S0 d "kind" = isNameD d := by
  unfold S0
  rw [if_neg (by decide +kernel), if_neg (by decide +kernel)]
theorem S0_value (d : PyData) : S0 d "value" = isNameD d := by
  unfold S0
  rw [if_neg (by decide +kernel), if_neg (by decide +kernel)]
theorem S0_items (d : PyData) : S0 d "items" = isItemsD d := if_pos rfl
theorem S0_owner (d : PyData) : S0 d "owner" = isOwnerD d := by
  unfold S0
  rw [if_neg (by decide +kernel), if_pos rfl]
theorem has1 {d d1 : PyData} {w s1 : Str} {fs : List Form} (h : formOf (.tuple [.str w, d1]) fs = some [w, s1]) : hasForm S0 (.tuple [.str w, d1]) fs = S0 d1 s1 := by
  unfold hasForm
  rw [h]
  show (S0 d1 s1 && true) = _
  rw [Bool.and_true]
theorem has2 {d1 d2 : PyData} {w s1 s2 : Str} {fs : List Form} (h : formOf (.tuple [.str w, d1, d2]) fs = some [w, s1, s2]) : hasForm S0 (.tuple [.str w, d1, d2]) fs = (S0 d1 s1 && S0 d2 s2) := by
  unfold hasForm
  rw [h]
  show (S0 d1 s1 && (S0 d2 s2 && true)) = _
  rw [Bool.and_true]
theorem isDef_box (d : PyData) : isDefD d "box" = hasForm S0 d boxForms := if_neg (by decide +kernel)
theorem isDef_mark (d : PyData) : isDefD d "mark" = hasForm S0 d markForms := if_pos rfl
theorem Df.isDef {hs : Str} : ∀ {f : Df}, f.ok hs → f.data = .none ∨ isDefD f.data hs = true
  | .non, _ => .inl rfl
  | .mk o, h => .inr (by
    obtain ⟨rfl, g⟩ := h
    rw [isDef_mark]
    show hasForm S0 (.tuple [.str "mark", .str (S o)]) markForms = true
    rw [has1 (d := .none) (s1 := "item") (form_hd (n := 1) rfl (by decide +kernel)), S0_item]
    exact g.ok)
  | .its w zs, h => .inr (by
    obtain ⟨rfl, hw, hz⟩ := h
    rw [isDef_box]
    show hasForm S0 (.tuple [.str w, .tuple (zs.map PyData.str)]) boxForms = true
    have e := items_ok hz
    rcases hw with rfl | rfl <;> (rw [has1 (d := .none) (s1 := "items") (form_hd (n := 1) rfl (by decide +kernel)), S0_items]; exact e))
  | .seat w o x, h => .inr (by
    obtain ⟨rfl, hw, hx⟩ := h
    rw [isDef_box]
    show hasForm S0 (.tuple [.str w, .str o, .str (S x)]) boxForms = true
    rcases hw with ⟨rfl, oc, rfl, g⟩ | ⟨rfl, ho⟩
    · rw [has2 (s1 := "kind") (s2 := "value") (form_hd (n := 2) rfl (by decide +kernel)), S0_kind, S0_value]
      show (nameOk (S oc) && nameOk (S x)) = true
      rw [g.ok, hx.ok]
      rfl
    · rw [has2 (s1 := "owner") (s2 := "value") (form_hd (n := 2) rfl (by decide +kernel)), S0_owner, S0_value]
      have ho' : isOwnerD (.str o) = true := by
        rcases ho with rfl | ⟨oc, rfl, g⟩
        · rfl
        · show ((S oc) == ("cls" : Str) || nameOk (S oc)) = true
          rw [g.ok, Bool.or_true]
      show (isOwnerD (.str o) && nameOk (S x)) = true
      rw [ho', hx.ok]
      rfl)
end Dr
namespace Dr
open PySem PySem.Spec PyProof.Rows L2
open SX (S S_len S_cat)
/-- values that are these texts -/
def strsB : List Value → List Str → Bool
  | [], [] => true
  | .str x _ :: us, z :: zs => (x == z) && strsB us zs
  | _, _ => false
theorem strsB_vals : ∀ {us : List Value} {zs : List Str}, strsB us zs = true → Vals (zs.map V.str) us
  | [], [], _ => .nil
  | .str x t :: us, z :: zs, h => by
    have h' : ((x == z) && strsB us zs) = true := h
    rw [Bool.and_eq_true, beq_iff_eq] at h'
    obtain ⟨rfl, h2⟩ := h'
    exact .cons ⟨t, rfl⟩ (strsB_vals h2)
  | [], _ :: _, h => by cases h
  | .str _ _ :: _, [], h => by cases h
theorem strsB_len : ∀ {us : List Value} {zs : List Str}, strsB us zs = true → us.length = zs.length := fun h => by
  have := (strsB_vals h).length
  rw [List.length_map] at this
  exact this.symm
theorem fm_of {K : PySem.W.Frag} {a : Addr} {dd : Option Addr} {its : Array Value} {n : Nat} {sl : Array (Option Value)} {zs : List Str} (l : K.lookup a = some ⟨.type "tuple", dd, .seq its n, sl⟩) (h : strsB its.toList zs = true) (hz : zs.length ≤ 1000) : FmAt K a zs := fun H =>
  .inr ⟨_, its, n, l, rfl, rfl, by
    have := strsB_len h
    rw [Array.length_toList] at this
    rw [this]
    exact Nat.le_of_lt (small1000 hz), strsB_vals h⟩
theorem fms_of {K : PySem.W.Frag} {a : Addr} {dd : Option Addr} {n : Nat} {sl : Array (Option Value)} {as : List Addr} {fs : List Form} (l : K.lookup a = some ⟨.type "tuple", dd, .seq (as.map Value.ref).toArray n, sl⟩) (h : as.length ≤ 1000) (p : Paired (FmAt K) as fs) : Fms K a fs := by
  refine ⟨as, fun H => .inr ⟨_, _, n, l, rfl, rfl, ?_, ?_⟩, p⟩
  · show (as.map Value.ref).toArray.size ≤ sizeLine
    rw [List.size_toArray, List.length_map]
    exact Nat.le_of_lt (small1000 h)
  · show Vals (as.map V.ref) (as.map Value.ref)
    clear l h p
    induction as with
    | nil => exact .nil
    | cons b r ih => exact .cons rfl ih
theorem txts_S (ys : List (List Nat)) : txts ys = (ys.map S).map V.str := by
  unfold txts
  rw [List.map_map]
  rfl
theorem txts_mem {zs : List (List Nat)} {y : V} (h : y ∈ txts zs) : ∃ z ∈ zs, y = V.str (S z) := by
  obtain ⟨z, hz, e⟩ := List.mem_map.mp h
  exact ⟨z, hz, e.symm⟩
theorem txts_len {zs : List (List Nat)} : (txts zs).length = zs.length := by
  unfold txts
  rw [List.length_map]
theorem bag_ne {H : Hp} {p q : Addr} (h : Bag H p) (n : H q = none) : q ≠ p := fun e => by
  obtain ⟨u, v, hp, _⟩ := h
  rw [e, hp] at n
  cases n
theorem kp_new {p D : Addr} {H H3 : Hp} {o : HO} (k : Kp p H H3) (n : H D = none) (np : D ≠ p) : Kp p H (upd H3 D o) := by
  refine ⟨fun b x nb e => ?_, ?_⟩
  · rw [upd_ne (ne_of_none e n)]
    exact k.1 b x nb e
  · obtain ⟨u, v, hp, h⟩ := k.2
    refine ⟨u, v, ?_, h⟩
    rw [upd_ne np.symm]
    exact hp
theorem two_le : 2 ≤ sizeLine := by decide
theorem three_le : 3 ≤ sizeLine := by decide
end Dr
namespace Dr
open PySem PySem.Spec PyProof.Rows L2
/-- one clause: its class, its name's slot, its suite's reading -/
structure Cl where
  c : Value
  i : Nat
  ts : Addr → Value → Option Addr → TS
/-- the ends of a suite: the name is gone -/
abbrev gone (i : Nat) (D : Ends) : Ends := { nx := fun x y => D.nx (x.set i none) y, rt := D.rt, bk := fun x y => D.bk (x.set i none) y, ct := fun x y => D.ct (x.set i none) y }
/-- what the clauses ask of what the body raises -/
def wCl (K : PySem.W.Frag) (O : WX) (D : Ends) : List Cl → WX
  | [] => O
  | k :: r => fun cls d σ H => ∃ b, PySem.W.exmOne K cls k.c = some b ∧ (b = true → ∀ a, H a = none → k.ts a cls d (gone k.i D) (σ.set k.i (some (.ref a))) H) ∧ (b = false → wCl K O D r cls d σ H)
inductive ClOk (X : Cx) : List ExceptHandler → List Cl → Prop
  | nil : ClOk X [] []
  | cons {x n : Str} {k : Cl} {s0 : Stmt} {ss : List Stmt} {p1 p2 : Pos} {hs : List ExceptHandler} {l : List Cl} (hi : X.N[k.i]? = some n) (hn : X.env.kindOf n = some .local) (hc : Names X x k.c)
      (su : ∀ (a : Addr) (o : Obj) (cls : Value) (d : Option Addr) (q : List (Addr × Obj)), Zc cls d o → (∃ vs, o.data = .fields vs) → PSs (X.suite a ((a, o) :: q)) (s0 :: ss) (k.ts a cls d)) (r : ClOk X hs l) :
      ClOk X (.ExceptHandler (some (.Name x p1)) (some n) (s0 :: ss) p2 :: hs) (k :: l)
section
variable {X : Cx} {body : List Stmt} {e0 : ExceptHandler} {es : List ExceptHandler} {l : List Cl} {pos : Pos} {tb : WX → TS} {O : WX}
theorem ps_try_cl (h1 : X.stack = X.env :: X.outer) (h2 : X.env.frame = some X.env.locals) (nd : X.N.Nodup) (tk : Takes X O)
    (hb : ∀ (W : WX) (q : List (Addr × Obj)) (xe : Value → Shared → Prop), Takes (X.tr q xe) W → PassesOwn (model X.prog X.w) X.A X.env xe → PSs (X.tr q xe) body (tb W))
    (hk : ClOk X (e0 :: es) l) : PS X (.Try body (e0 :: es) [] [] pos) (fun D σ H => tb (wCl X.K O D l) D σ H) := by
  refine ⟨fun q0 t0 σ0 H0 D I0 hw => ?_⟩
  have okX := I0.ok
  have frX : X.A.frames = some (X.env :: X.outer) := okX.frames.trans (congrArg some h1)
  refine wpAny_Try_except ?_
  have hrun := (hb (wCl X.K O D l) (X.pn ++ q0) (fun e t1 => wpAny (model X.prog X.w) X.A (noteFrame e X.env) (fun _ t2 => wpAny (model X.prog X.w) X.A (setFlight e none) (fun _ t3 => wpAny (model X.prog X.w) X.A (handleBy e X.env (e0 :: es)) (SP X q0 D) X.xe t3) X.xe t2) X.xe t1)
    (fun u t9 raised => ?caught) PassesOwn.looking).run [] t0 σ0 H0 D (I0.toTry _) hw
  case caught =>
    obtain ⟨a, B, tI, q1, σ1, H1, cls, d, rfl, J0, nb, up, sky, na, os, ag, ask⟩ := raised
    have J : Inv X q0 σ1 H1 tI := J0.ofTry okX
    have sky1 : Sky B (X.env :: X.outer) a (Zc cls d) X.env.locals t9.heap := h1 ▸ sky
    show wpAny (model X.prog X.w) X.A (noteFrame (.ref a) X.env) _ _ _
    refine Sky.land Zc.steady frX h2 sky1 fun g3 fl3 up3 => ?_
    have J3 : Inv X q0 σ1 H1 { t9 with heap := g3 } := J.landed nb fl3.1 (up.trans up3) os ag
    obtain ⟨o3, v3, at3, z3, dd3⟩ := fl3.there
    have apart : a ∉ frs (X.env :: X.outer) := fun hm => by
      obtain ⟨_, o', e', hnf⟩ := fl3.2.2.1.mem hm
      rw [at3] at e'
      cases e'
      exact hnf _ dd3
    have nL : a ≠ X.env.locals := fun z => apart (List.mem_filterMap.mpr ⟨X.env, List.mem_cons_self, h2.trans (congrArg some z.symm)⟩)
    have nF : a ∉ X.fs := fun hm => let ⟨e, he, q⟩ := List.mem_filterMap.mp hm; apart (List.mem_filterMap.mpr ⟨e, List.mem_cons_of_mem _ he, q⟩)
    have S3 := J3.suite at3 dd3 na nL nF
    have LT : PySem.W.Looks (model X.prog X.w) g3 (typeOf (.ref a)) cls := fun A Q E s k q => wpAny_typeOf_ref (k _ _ at3) (z3.1 ▸ q)
    have walk : ∀ {hs : List ExceptHandler} {m : List Cl}, ClOk X hs m → wCl X.K O D m cls d σ1 H1 → wpAny (model X.prog X.w) X.A (handleBy (.ref a) X.env hs) (SP X q0 D) X.xe { t9 with heap := g3 } := by
      intro hs m ok
      induction ok with
      | nil =>
        intro ask
        refine wpAny_handleBy_nil ?_
        obtain ⟨_, _, _, oe, vs, T, oT, _, he, hz, hd, hf1, _⟩ := id fl3
        unfold PySem.passOn
        refine wpAny_bind (wpAny_field he hd hf1 ?_)
        rw [if_neg (show ¬ ((Value.ref T == Value.none) = true) by simp)]
        have out : wpAny (model X.prog X.w) X.A (setFlight (.ref a) X.env.frame) (fun _ t4 => wpAny (model X.prog X.w) X.A (throw (.ref a) : Sem Flow) (SP X q0 D) X.xe t4) X.xe { t9 with heap := g3 } := by
          rw [h2]
          exact HandSPX.setFlight_upZ fl3 fun g4 hh4 up4 => wpAny_throw (tk _ _ ⟨a, B, tI, q0, σ1, H1, cls, d, rfl, J, nb, (up.trans up3).trans up4, .inr (.inr (h1.symm ▸ hh4)), na, os, ag, ask⟩)
        first
          | exact wpAny_bind (wpAny_pure (wpAny_bind out))
          | exact wpAny_bind out
      | @cons x n k s0 ss p1 p2 hs2 m2 hi hn hc su r ih =>
        intro ask
        obtain ⟨b, em, yes, no⟩ := ask
        refine wpAny_handleBy_cons (codeAny_handlers_test ?_) (by intro q; cases q)
        have LM := PySem.W.exm_one (M := model X.prog X.w) (J3.kIn) LT em
        have cl : ∀ {Q : Value → Shared → Prop} {E : Value → Shared → Prop}, Q k.c { t9 with heap := g3 } → wpAny (model X.prog X.w) (X.A.mark (some (.ref a))) (eval (.Name x p1) X.env) Q E { t9 with heap := g3 } := fun {Q E} q => by
          rcases hc with ⟨hg, hdbg, hm | ⟨hm, hv, hnn⟩⟩
          · exact ld_glob (X := X.suite a ((a, o3) :: (X.pn ++ q0))) S3 hg hm q hdbg
          · exact ld_blt (X := X.suite a ((a, o3) :: (X.pn ++ q0))) S3 hg hm hv q hnn hdbg
        refine cl (LM.here ?_)
        cases b with
        | false => exact ih (no rfl)
        | true =>
          refine codeAny_handlers_suite_as (HandSPX.lands_againZ fl3 fun g4 fl4 up4 => ?_)
          have J4 : Inv X q0 σ1 H1 { t9 with heap := g4 } := J.landed nb fl4.1 ((up.trans up3).trans up4) os ag
          obtain ⟨o4, v4, at4, z4, dd4⟩ := fl4.there
          have S4 := J4.suite at4 dd4 na nL nF
          refine store_ok (X := X.suite a ((a, o4) :: (X.pn ++ q0))) (v := .ref a) S4 nd hi (.inl hn) rfl (fun t5 S5 => ?_) (.inr hn)
          have close : ∀ {σ6 : L2.St} {H6 : Hp} {t6 : Shared} {Q : Shared → Prop}, Inv (X.suite a ((a, o4) :: (X.pn ++ q0))) [] σ6 H6 t6 → (∀ t7, Inv X q0 (σ6.set k.i none) H6 t7 → Q t7) →
              wpAny (model X.prog X.w) X.A (do bindName X.env n .none; unbindBehindTheSuite X.env n p2) (fun _ t7 => Q t7) X.xe t6 := fun S6 hq => gone_ok (S6.unsuite okX) nd hi hn hq
          refine wpAny_mono ((su a o4 cls d (X.pn ++ q0) z4 ⟨_, dd4⟩).run [] t5 _ H1 _ S5 (yes rfl a na)) (fun fl t6 en => ?_) (fun _ _ z => False.elim z)
          cases fl with
          | next => exact let ⟨_, _, S6, q6⟩ := en; close S6 fun t7 J7 => ⟨_, _, J7, q6⟩
          | brk => exact let ⟨_, _, S6, q6⟩ := en; close S6 fun t7 J7 => ⟨_, _, J7, q6⟩
          | cont => exact let ⟨_, _, S6, q6⟩ := en; close S6 fun t7 J7 => ⟨_, _, J7, q6⟩
          | ret u => exact let ⟨_, _, _, S6, r6, q6⟩ := en; close S6 fun t7 J7 => ⟨_, _, _, J7, r6, q6⟩
    exact walk hk ask
  refine wpAny_mono hrun (fun fl t1 en => ?_) (fun _ _ he => he)
  cases fl with
  | next => exact let ⟨_, _, J, q⟩ := en; wpAny_execs_nil ⟨_, _, J.ofTry okX, q⟩
  | brk => exact let ⟨_, _, J, q⟩ := en; ⟨_, _, J.ofTry okX, q⟩
  | cont => exact let ⟨_, _, J, q⟩ := en; ⟨_, _, J.ofTry okX, q⟩
  | ret u => exact let ⟨_, _, _, J, r, q⟩ := en; ⟨_, _, _, J.ofTry okX, r, q⟩
end
/-- C(e, .., k = v, ..) in a body whose raised exceptions are awaited -/
def tMkKS (C : Addr) (n m : Nat) (sp : Sp) (gV : List V → List V → List V) (E : L2.St → XK) (t tk : TA) : TE := fun σ H Q => t σ H fun vs H1 => tk σ H1 fun zs H2 => vs.length = n ∧ zs.length = m ∧ ∀ x dx, H2 x = none → H2 dx = none → dx ≠ x →
  sp (gV (.ref x :: vs) zs) (upd (upd H2 dx (.own x)) x (.ins C dx [])) (fun v H3 => v = .non ∧ Q (.ref x) H3) (E σ)
section
variable {X : Cx} {CX : CXT} {k n : Nat} {f C : Addr} {fd : FuncData} {ps ks : List Str} {sp : Sp} {E : L2.St → XK} {x : Str} {p pos : Pos} {e : Expr} {es : List Expr} {kws : List Keyword} {t tk : TA} {g : List Value → List Value → List Value} {gV : List V → List V → List V}
theorem pe_mkKS (M : Mk X.K C f) (F : FnOk X.prog X.w X.K X.mg X.base CX k f fd ps sp) (hr : Room (k + 1) X.A) (hg : Gl X x) (hm : X.mg x = some (.ref C)) (hb : KBn X.K fd ps (n + 1) ks g gV) (hx : ∀ σ, PassesAt CX X σ (E σ)) (ha : PA X (e :: es) t) (hk : PK X kws tk)
    (c1 : (backToKw pos (keywordEach kws X.env)).all (·.1.isSome) = true := by rfl) (c2 : (backToKw pos (keywordEach kws X.env)).filterMap (·.1) = ks := by rfl) (c3 : (x == ("__debug__" : Str)) = false := by decide)
    (c4 : starEach (e :: es) X.env = (false, eval e X.env) :: starEach es X.env := by rfl) (c5 : ((backTo pos (starEach (e :: es) X.env)).any (·.1) || (backToKw pos (keywordEach kws X.env)).any (·.1.isNone)) = false := by rfl) :
    PE X (.Call (.Name x p) (e :: es) kws pos) (tMkKS C n ks.length sp gV E t tk) := by
  refine ⟨fun pins s σ H Q I h => wpAny_Call_Name_kw (ld_glob I hg hm ?_ c3)⟩
  refine PySem.W.callWith_KW (h₀ := X.base) I.ok.mod.kin M.kp c1 (thn (ha.run pos pins s σ H _ I h) fun us s1 ⟨vs, H1, I1, r1, q1⟩ => ?_) c5 c4
  refine thn (hk.run pos pins s1 σ H1 _ I1 q1) fun ws s2 ⟨zs, H2, I2, r2, l1, l2, q2⟩ => ⟨I2.kIn, ?_⟩
  rw [c2]
  have hq := q2 (s2.heap.objs.size + 1) s2.heap.objs.size (I2.hok.fresh (Nat.le_succ _)) (I2.hok.fresh (Nat.le_refl _)) (Nat.ne_of_lt (Nat.lt_succ_self _))
  have I3 := Inv.made (C := C) I2
  have rS : Vals (V.ref (s2.heap.objs.size + 1) :: vs) (Value.ref (s2.heap.objs.size + 1) :: us) := .cons rfl r1
  have nS : (Value.ref (s2.heap.objs.size + 1) :: us).length = n + 1 := rS.length.symm.trans (congrArg Nat.succ l1)
  refine wpAny_call (make_map (f := f) I2.kIn M.makes M.init (beq_iff_eq.mp M.fn) (codeAny_mono (F.run _ X.stack _ _ ⟨Value.ref (s2.heap.objs.size + 1) :: us, ks.zip ws⟩ (g (Value.ref (s2.heap.objs.size + 1) :: us) ws) _ _ (E σ) (hr.make C us (ks.zip ws))
    (I3.env0.make C us (ks.zip ws)) (hb.to _ (Value.ref (s2.heap.objs.size + 1) :: us) ws I3.kIn nS (r2.length.symm.trans l2)) (hb.rel rS r2) hq) fun r s' hq' => ?_))
  cases r with
  | error er => exact hx σ pins _ _ er s' I3 hq'
  | ok fl =>
    cases fl with
    | ret u =>
      obtain ⟨v, H', I4, rv, ev, q3⟩ := I3.after hq'
      subst ev
      exact ⟨rv, ⟨V.ref (s2.heap.objs.size + 1), H', I4, rfl, q3⟩⟩
    | next => exact False.elim hq'
    | brk => exact False.elim hq'
    | cont => exact False.elim hq'
end
end Dr
namespace Dr
open PySem PySem.Spec PyProof.Rows L2
open SX (S S_len S_cat)
/-- the heap without the bag -/
def hid (p : Addr) (H : Hp) : Hp := fun b => if b = p then none else H b
/-- v is the datum d, and the bag at p is no part of it -/
abbrev Dq (K : PySem.W.Frag) (p : Addr) (H : Hp) (v : V) (d : PyData) : Prop := Dp K (hid p H) v d
abbrev DqAll (K : PySem.W.Frag) (p : Addr) (H : Hp) (vs : List V) (ds : List PyData) : Prop := DpAll K (hid p H) vs ds
theorem hid_sub {p : Addr} {H : Hp} : Same (hid p H) H := fun b o e => by
  unfold hid at e
  split at e
  · cases e
  · exact e
theorem hid_same {p : Addr} {H H' : Hp} (s : Same H H') : Same (hid p H) (hid p H') := fun b o e => by
  unfold hid at e ⊢
  split at e
  · cases e
  · rename_i n
    rw [if_neg n]
    exact s _ _ e
theorem hid_kp {p : Addr} {H H' : Hp} (k : Kp p H H') : Same (hid p H) (hid p H') := fun b o e => by
  unfold hid at e ⊢
  split at e
  · cases e
  · rename_i n
    rw [if_neg n]
    exact k.1 _ _ n e
theorem hid_at {p q : Addr} {H : Hp} {o : HO} (n : q ≠ p) (h : H q = some o) : hid p H q = some o := by
  unfold hid
  rw [if_neg n]
  exact h
theorem Dq.dp {K : PySem.W.Frag} {p : Addr} {H : Hp} {v : V} {d : PyData} (h : Dq K p H v d) : Dp K H v d := dp_same hid_sub h
theorem Dq.same {K : PySem.W.Frag} {p : Addr} {H H' : Hp} {v : V} {d : PyData} (h : Dq K p H v d) (s : Same H H') : Dq K p H' v d := dp_same (hid_same s) h
theorem Dq.kp {K : PySem.W.Frag} {p : Addr} {H H' : Hp} {v : V} {d : PyData} (h : Dq K p H v d) (k : Kp p H H') : Dq K p H' v d := dp_same (hid_kp k) h
/-- what an expression denotes -/
abbrev DP := L2.St → Hp → PyData → Prop
abbrev DPs := L2.St → Hp → List PyData → Prop
def tD (K : PySem.W.Frag) (p : Addr) (P : DP) : TE := fun σ H Q => ∃ d, P σ H d ∧ ∀ v H', Same H H' → Dq K p H' v d → Q v H'
def aD (K : PySem.W.Frag) (p : Addr) (P : DPs) : TA := fun σ H Q => ∃ ds, P σ H ds ∧ ∀ vs H', Same H H' → DqAll K p H' vs ds → Q vs H'
/-- stays as the heap grows -/
def Up {α : Type} (P : L2.St → Hp → α → Prop) : Prop := ∀ σ H H' d, Same H H' → P σ H d → P σ H' d
theorem PE.imp {X : Cx} {e : Expr} {t t' : TE} (h : PE X e t) (i : ∀ σ H Q, t' σ H Q → t σ H Q) : PE X e t' := ⟨fun pins s σ H Q I w => h.run pins s σ H Q I (i σ H Q w)⟩
theorem PA.imp {X : Cx} {es : List Expr} {t t' : TA} (h : PA X es t) (i : ∀ σ H Q, t' σ H Q → t σ H Q) : PA X es t' := ⟨fun pos pins s σ H Q I w => h.run pos pins s σ H Q I (i σ H Q w)⟩
def isD (d : PyData) : DP := fun _ _ x => x = d
def slD (K : PySem.W.Frag) (p : Addr) (i : Nat) : DP := fun σ H d => ∃ v, σ[i]? = some (some v) ∧ Dq K p H v d
def nilD : DPs := fun _ _ ds => ds = []
def consD (P : DP) (Ps : DPs) : DPs := fun σ H ds => ∃ d r, P σ H d ∧ Ps σ H r ∧ ds = d :: r
def tupD (p : Addr) (Ps : DPs) : DP := fun σ H d => ∃ ds, Ps σ H ds ∧ ds.length ≤ 1000 ∧ H p ≠ none ∧ d = .tuple ds
def lstD (p : Addr) (Ps : DPs) : DP := fun σ H d => ∃ ds, Ps σ H ds ∧ ds.length ≤ 1000 ∧ H p ≠ none ∧ d = .list ds
theorem Same.some {H H' : Hp} {p : Addr} (s : Same H H') (h : H p ≠ none) : H' p ≠ none := by
  cases e : H p with
  | none => exact absurd e h
  | some o =>
    rw [s _ _ e]
    exact fun z => by cases z
theorem up_is {d : PyData} : Up (isD d) := fun _ _ _ _ _ h => h
theorem up_sl {K : PySem.W.Frag} {p : Addr} {i : Nat} : Up (slD K p i) := fun _ _ _ _ s ⟨v, e, h⟩ => ⟨v, e, Dq.same h s⟩
theorem up_nil : Up nilD := fun _ _ _ _ _ h => h
theorem up_cons {P : DP} {Ps : DPs} (h : Up P) (hs : Up Ps) : Up (consD P Ps) := fun σ H H' d s ⟨x, r, a, b, e⟩ => ⟨x, r, h σ H H' x s a, hs σ H H' r s b, e⟩
theorem up_tup {p : Addr} {Ps : DPs} (h : Up Ps) : Up (tupD p Ps) := fun σ H H' d s ⟨ds, a, b, c, e⟩ => ⟨ds, h σ H H' ds s a, b, Same.some s c, e⟩
theorem up_lst {p : Addr} {Ps : DPs} (h : Up Ps) : Up (lstD p Ps) := fun σ H H' d s ⟨ds, a, b, c, e⟩ => ⟨ds, h σ H H' ds s a, b, Same.some s c, e⟩
section
variable {X : Cx} {p : Addr}
theorem pd_str {x : Str} {j : Nat} {pos : Pos} : PE X (.Constant (.str x) j pos) (tD X.K p (isD (.str x))) := PE.imp pe_str fun _ H _ ⟨d, e, q⟩ => by
  cases (show d = .str x from e)
  exact q _ H (Same.refl _) (.str x)
theorem pd_int {x : Int} {j : Nat} {pos : Pos} : PE X (.Constant (.int x) j pos) (tD X.K p (isD (.int x))) := PE.imp pe_int fun _ H _ ⟨d, e, q⟩ => by
  cases (show d = .int x from e)
  exact q _ H (Same.refl _) (.int x)
theorem pd_bl {x : Bool} {j : Nat} {pos : Pos} : PE X (.Constant (.bool x) j pos) (tD X.K p (isD (.bool x))) := PE.imp pe_bl fun _ H _ ⟨d, e, q⟩ => by
  cases (show d = .bool x from e)
  exact q _ H (Same.refl _) (.bl x)
theorem pd_non {j : Nat} {pos : Pos} : PE X (.Constant .none j pos) (tD X.K p (isD .none)) := PE.imp pe_non fun _ H _ ⟨d, e, q⟩ => by
  cases (show d = .none from e)
  exact q _ H (Same.refl _) .non
theorem pd_v (i : Nat) {x : Str} {pos : Pos} (h : PE X (.Name x pos) (tVar i)) : PE X (.Name x pos) (tD X.K p (slD X.K p i)) := PE.imp h fun _ H _ ⟨_, ⟨v, e, hd⟩, q⟩ => ⟨v, e, q v H (Same.refl _) hd⟩
theorem pad_nil : PA X [] (aD X.K p nilD) := PA.imp pa_nil fun _ H _ ⟨ds, e, q⟩ => by
  cases (show ds = [] from e)
  exact q [] H (Same.refl _) .nil
theorem pad_cons {e : Expr} {es : List Expr} {P : DP} {Ps : DPs} (h : PE X e (tD X.K p P)) (hs : PA X es (aD X.K p Ps)) (u : Up Ps) (c : starEach (e :: es) X.env = (false, eval e X.env) :: starEach es X.env := by rfl) : PA X (e :: es) (aD X.K p (consD P Ps)) := PA.imp (pa_cons h hs c) fun σ H Q ⟨ds, ⟨d, r, a, b, e⟩, q⟩ => by
  subst e
  exact ⟨d, a, fun v H1 s1 h1 => ⟨r, u _ _ _ _ s1 b, fun vs H2 s2 h2 => q (v :: vs) H2 (s1.trans s2) (.cons (Dq.same h1 s2) h2)⟩⟩
theorem new_ne {p q : Addr} {H : Hp} (h : H p ≠ none) (n : H q = none) : q ≠ p := fun e => h (e ▸ n)
theorem pd_tup {es : List Expr} {k : Nat} {pos : Pos} {Ps : DPs} (h : PA X es (aD X.K p Ps)) : PE X (.Tuple es k pos) (tD X.K p (tupD p Ps)) := PE.imp (pe_tup h) fun σ H Q ⟨d, ⟨ds, a, b, c, e⟩, q⟩ => by
  subst e
  refine ⟨ds, a, fun vs H1 s1 h1 => ⟨by rw [dpAll_len h1]; exact Nat.le_of_lt (small1000 b), fun t nt => q _ _ (s1.trans (same_upd nt)) ?_⟩⟩
  exact .tup (SqT.of (hid_at (new_ne (Same.some s1 c) nt) upd_same)) (dpAll_same (hid_same (same_upd nt)) h1)
theorem pd_lst {es : List Expr} {pos : Pos} {Ps : DPs} (h : PA X es (aD X.K p Ps)) : PE X (.List es pos) (tD X.K p (lstD p Ps)) := PE.imp (pe_lst h) fun σ H Q ⟨d, ⟨ds, a, b, c, e⟩, q⟩ => by
  subst e
  refine ⟨ds, a, fun vs H1 s1 h1 => ⟨by rw [dpAll_len h1]; exact Nat.le_of_lt (small1000 b), fun t nt => q _ _ (s1.trans (same_upd nt)) ?_⟩⟩
  exact .lst (SqL.of (hid_at (new_ne (Same.some s1 c) nt) upd_same)) (dpAll_same (hid_same (same_upd nt)) h1)
/-- a list display, its list known -/
def tL (K : PySem.W.Frag) (p : Addr) (Ps : DPs) : TE := fun σ H Q => ∃ ds, Ps σ H ds ∧ ds.length ≤ 1000 ∧ H p ≠ none ∧ ∀ l xs H', Same H H' → l ≠ p → H l = none → H' l = some (.lst xs) → DqAll K p H' xs ds → Q (.ref l) H'
theorem pd_list {es : List Expr} {pos : Pos} {Ps : DPs} (h : PA X es (aD X.K p Ps)) : PE X (.List es pos) (tL X.K p Ps) := PE.imp (pe_lst h) fun σ H Q ⟨ds, a, b, c, q⟩ =>
  ⟨ds, a, fun vs H1 s1 h1 => ⟨by rw [dpAll_len h1]; exact Nat.le_of_lt (small1000 b), fun t nt => q t vs _ (s1.trans (same_upd nt)) (new_ne (Same.some s1 c) nt) (s1.free nt) upd_same (dpAll_same (hid_same (same_upd nt)) h1)⟩⟩
end
theorem dqAll_mem {K : PySem.W.Frag} {H : Hp} : ∀ {vs : List V} {ds : List PyData} {v : V}, DpAll K H vs ds → v ∈ vs → ∃ d ∈ ds, Dp K H v d
  | _, _, v, .nil, h => by cases h
  | _, _, v, .cons h hs, m => by
    rcases List.mem_cons.mp m with rfl | m
    · exact ⟨_, List.mem_cons_self .., h⟩
    · obtain ⟨d, hd, q⟩ := dqAll_mem hs m
      exact ⟨d, List.mem_cons_of_mem _ hd, q⟩
theorem dpAll_app {K : PySem.W.Frag} {H : Hp} : ∀ {vs us : List V} {ds es : List PyData}, DpAll K H vs ds → DpAll K H us es → DpAll K H (vs ++ us) (ds ++ es)
  | _, _, _, _, .nil, h => h
  | _, _, _, _, .cons h hs, h2 => .cons h (dpAll_app hs h2)
end Dr
namespace Dr
open PySem PySem.Spec PyProof.Rows L2
open SX (S S_len S_cat)
abbrev sXN : Stmt := inClass (topS 2) 0
abbrev sXP : Stmt := inClass (topS 3) 0
abbrev sPInit : Stmt := inClass (topS 21) 0
theorem scXN : FnScope ["self", "name"] ["self", "name"] (defScope sXN) := ⟨rfl, rfl, rfl, by decide +kernel, rfl, by decide +kernel, by decide +kernel⟩
theorem scXP : FnScope ["self", "part"] ["self", "part"] (defScope sXP) := ⟨rfl, rfl, rfl, by decide +kernel, rfl, by decide +kernel, by decide +kernel⟩
theorem scPInit : FnScope ["self", "name", "holds", "default", "named"] ["self", "name", "holds", "default", "named"] (defScope sPInit) := ⟨rfl, rfl, rfl, by decide +kernel, rfl, by decide +kernel, by decide +kernel⟩
def isHoldsD : PyData → Bool
  | .str z => z == "mark" || z == "box"
  | _ => false
def strD : PyData → Str
  | .str z => z
  | _ => ""
def isNonD : PyData → Bool
  | .none => true
  | _ => false
def eqS (w : Str) : PyData → Bool
  | .str z => z == w
  | _ => false
theorem eqv_str (w : Str) : ∀ d : PyData, PyData.eqv d (.str w) = eqS w d
  | .none => rfl | .bool _ => rfl | .int _ => rfl | .str _ => rfl | .list _ => rfl | .tuple _ => rfl | .dict _ => rfl
/-- the first part that is not as it must be -/
def faultOf (dn dh dd da : PyData) : Option Nat :=
  if isNameD dn = false then some 0 else if isHoldsD dh = false then some 1 else if (isNonD dd || isDefD dd (strD dh)) = false then some 2 else if isBoolD da = false then some 3 else none
def partOf : Nat → Str
  | 1 => "holds"
  | 2 => "default"
  | _ => "named"
theorem dp_non {K : PySem.W.Frag} {H : Hp} {v : V} {d : PyData} (h : Dp K H v d) : decide (v = .non) = isNonD d := by
  cases h <;> rfl
theorem dp_strv {K : PySem.W.Frag} {H : Hp} {v : V} {z : Str} (h : Dp K H v (.str z)) : v = .str z := by
  cases h
  rfl
/-- what stands of an error's class -/
structure Erc (K : PySem.W.Frag) (mg : Str → Option Value) (x f : Str) (C g : Addr) : Prop where
  oex : OexC K C
  no : PySem.W.findIn K (.ref C) f = some none
  init : PySem.W.findIn K (.ref C) "__init__" = some (some (.ref g))
  tyI : PySem.W.typeIn K (.ref g) = some (.type "function")
  mgC : mg x = some (.ref C)
section
variable {P : Program} {w : World} {K : PySem.W.Frag} {mg : Str → Option Value} {base : Heap}
def spExI (C : Addr) (f : Str) : Sp := fun vs H Q _ => ∃ (a : Addr) (y : V), vs = [.ref a, y] ∧ H a = some (exo a C none) ∧ ∀ d, H d = none → d ≠ a → Q .non (upd (upd H d (exd d [(f, y)])) a (exo a C (some d)))
theorem ok_exN {x : Str} {C f : Addr} {fd : FuncData} (F : Fun K "__init__" "BadName.__init__" sXN f fd) (T : Erc K mg x "name" C f) : FnOk P w K mg base CX0 1 f fd ["self", "name"] (spExI C "name") := by
  refine F.ok scXN (fun vs H Q E h => ?_) (fun cdv A outer s H vs Q E hr h => ?_)
  · obtain ⟨a, y, rfl, _⟩ := h
    rfl
  · obtain ⟨a, y, rfl, ha, q⟩ := h
    exact ⟨_, pss_one (ps_ost (pv 0) (pv 1)), y, rfl, .ref a, rfl, a, C, rfl, T.oex, T.no, .inl ⟨ha, fun d nd ne => q d nd ne⟩⟩
theorem ok_exP {x : Str} {C f : Addr} {fd : FuncData} (F : Fun K "__init__" "BadParam.__init__" sXP f fd) (T : Erc K mg x "part" C f) : FnOk P w K mg base CX0 1 f fd ["self", "part"] (spExI C "part") := by
  refine F.ok scXP (fun vs H Q E h => ?_) (fun cdv A outer s H vs Q E hr h => ?_)
  · obtain ⟨a, y, rfl, _⟩ := h
    rfl
  · obtain ⟨a, y, rfl, ha, q⟩ := h
    exact ⟨_, pss_one (ps_ost (pv 0) (pv 1)), y, rfl, .ref a, rfl, a, C, rfl, T.oex, T.no, .inl ⟨ha, fun d nd ne => q d nd ne⟩⟩
/-- what a raise of such an error leaves -/
theorem ex_end {C a : Addr} {H : Hp} {f : Str} {y : V} {Q : XK} (na : H a = none) (q : ∀ d H', Same H H' → H' d = some (.xd [(f, y)]) → Q (.ref C) (some d) H') :
    spExI C f [.ref a, y] (upd H a (exo a C none)) (fun v H2 => v = .non ∧ ∃ (d : Addr) (fs : List (Str × V)), H2 a = some (exo a C (some d)) ∧ H2 d = some (exd d fs) ∧ H d = none ∧ Q (.ref C) (some d) (upd (del H2 a) d (.xd fs))) (fun _ _ _ => False) := by
  refine ⟨a, y, rfl, upd_same, fun d nd ne => ⟨rfl, d, [(f, y)], upd_same, by rw [upd_ne ne, upd_same], by rw [upd_ne ne] at nd; exact nd, q d _ (fun b o e => ?_) upd_same⟩⟩
  have n0 : H d = none := by
    rw [upd_ne ne] at nd
    exact nd
  have h1 : b ≠ d := ne_of_none e n0
  have h2 : b ≠ a := ne_of_none e na
  rw [upd_ne h1, del_ne h2, upd_ne h2, upd_ne h1, upd_ne h2]
  exact e
def spPIx (K : PySem.W.Frag) (CN CP C : Addr) : Sp := fun vs H _ E => ∃ (p dx : Addr) (vn vh vd va : V) (dn dh dd da : PyData) (k : Nat), vs = [.ref p, vn, vh, vd, va] ∧ H p = some (.ins C dx []) ∧
  (Dp K H vn dn ∧ OkD dn) ∧ (Dp K H vh dh ∧ OkD dh) ∧ (Dp K H vd dd ∧ OkD dd) ∧ (Dp K H va da ∧ OkD da) ∧ faultOf dn dh dd da = some k ∧
  (k = 0 → ∀ d H', Same H H' → H' d = some (.xd [("name", vn)]) → E (.ref CN) (some d) H') ∧ (k ≠ 0 → ∀ d H', Same H H' → H' d = some (.xd [("part", .str (partOf k))]) → E (.ref CP) (some d) H')
theorem ok_pix {kD : Nat} {C CN CP f fN fD gN gP : Addr} {fd fdN fdD fdXN fdXP : FuncData} {prm : Arguments} {dvs : List V} {kws : List (Str × V)} (F : FunD K "__init__" "Param.__init__" prm (defBody sPInit) (defScope sPInit) dvs kws f fd) (W : Wds K mg) (hbo : mg "bool" = none)
    (GN : FnOk P w K mg base CX0 1 fN fdN ["thing"] (spAsk K isNameD)) (mN : mg "is_name" = some (.ref fN)) (kN : PySem.W.keepIn K (.ref fN) = true) (bN : Binds K fdN ["thing"] [])
    (GD : FnOk P w K mg base CX0 (kD + 1) fD fdD ["thing", "holds"] (spDef K)) (mD : mg "is_default" = some (.ref fD)) (kkD : PySem.W.keepIn K (.ref fD) = true) (bD : Binds K fdD ["thing", "holds"] [])
    (TN : Erc K mg "BadName" "name" CN gN) (GXN : FnOk P w K mg base CX0 1 gN fdXN ["self", "name"] (spExI CN "name")) (bXN : Binds K fdXN ["self", "name"] [])
    (TP : Erc K mg "BadParam" "part" CP gP) (GXP : FnOk P w K mg base CX0 1 gP fdXP ["self", "part"] (spExI CP "part")) (bXP : Binds K fdXP ["self", "part"] []) (h1 : 1 ≤ kD) :
    FnOk P w K mg base (L2.CX P w) (kD + 2) f fd ["self", "name", "holds", "default", "named"] (spPIx K CN CP C) := by
  refine F.ok scPInit (fun vs H Q E h => ?_) (fun cdv A outer s H vs Q E hr h => ?_)
  · obtain ⟨p, dx, vn, vh, vd, va, dn, dh, dd, da, k, rfl, _⟩ := h
    rfl
  · obtain ⟨p, dx, vn, vh, vd, va, dn, dh, dd, da, k, rfl, hp, ⟨hn, okn⟩, ⟨hh, okh⟩, ⟨hd, okd⟩, ⟨ha, oka⟩, hk, q0, q1⟩ := h
    have hu : (A.deeper (envOfC "Param.__init__" (defScope sPInit) s.heap.objs.size f cdv)).units + 64 < cLine := hr.units
    have hr2 : Room 2 _ := hr.mono (by omega)
    refine ⟨_, pss_cons (ps_if (pt_not (pt_val (pe_call GN (hr.mono (by omega)) (by rfl) mN kN bN .nil pass0 (pa_cons (pv 1) pa_nil)))) (pss_one (ps_raise rfl (takes_of rfl rfl rfl rfl) (pmk_oex TN.oex TN.init TN.tyI GXN hr2 bXN .nil pass0 (by rfl) TN.mgC (pa_cons (pv 1) pa_nil)))) pss_nil)
      (C8.pss_cut (ps_if (PW.pt (pw_and (pt_cmpR (op_neD hu) (pv 2) pe_str (nomark _)) (pw_and1 (pt_cmpR (op_neD hu) (pv 2) pe_str (nomark _))))) (pss_one (ps_raise rfl (takes_of rfl rfl rfl rfl) (pmk_oex TP.oex TP.init TP.tyI GXP hr2 bXP .nil pass0 (by rfl) TP.mgC (pa_cons pe_str pa_nil)))) pss_nil)
      (C8.pss_cut (ps_if (PW.pt (pw_and (pt_cmpR op_notN (pv 3) pe_non (nomark _)) (pw_and1 (pt_not (pt_val (pe_call GD hr (by rfl) mD kkD bD .nil pass0 (pa_cons (pv 3) (pa_cons (pv 2) pa_nil)))))))) (pss_one (ps_raise rfl (takes_of rfl rfl rfl rfl) (pmk_oex TP.oex TP.init TP.tyI GXP hr2 bXP .nil pass0 (by rfl) TP.mgC (pa_cons pe_str pa_nil)))) pss_nil)
      (pss_cons (ps_if (pt_not (pt_val (pe_callB call_isi (by rfl) W.isi (by decide +kernel) (pa_cons (pv 4) (pa_cons (pe_bltn (v := .ty "bool") (by rfl) hbo (by decide +kernel) rfl) pa_nil))))) (pss_one (ps_raise rfl (takes_of rfl rfl rfl rfl) (pmk_oex TP.oex TP.init TP.tyI GXP hr2 bXP .nil pass0 (by rfl) TP.mgC (pa_cons pe_str pa_nil)))) pss_nil)
      (pss_cons ps_never (pss_cons ps_never (pss_cons ps_never (pss_one ps_never))))))), ?_⟩
    have part : ∀ {σ : L2.St} {H1 : Hp} {j : Nat} {x : Str}, Same H H1 → k = j → j ≠ 0 → partOf j = x → 1 ≤ 1000 ∧ ∀ a, H1 a = none → spExI CP "part" [.ref a, .str x] (upd H1 a (exo a CP none)) (fun v H2 => v = .non ∧ ∃ (d : Addr) (fs : List (Str × V)), H2 a = some (exo a CP (some d)) ∧ H2 d = some (exd d fs) ∧ H1 d = none ∧ E (.ref CP) (some d) (upd (del H2 a) d (.xd fs))) (fun _ _ _ => False) := fun {σ H1 j x} s e n ex => by
      refine ⟨by decide, fun a na => ex_end na fun d H' s' hd => q1 (by omega) d H' (s.trans s') ?_⟩
      rw [e, ex]
      exact hd
    refine ⟨_, rfl, vn, dn, rfl, hn, okn, fun H1 s1 => ⟨_, rfl, ?_⟩⟩
    cases e0 : isNameD dn with
    | false =>
      refine iteT ?_
      have k0 : k = 0 := by
        unfold faultOf at hk
        rw [if_pos e0] at hk
        exact (Option.some.inj hk).symm
      exact ⟨vn, rfl, by show 1 ≤ 1000; decide, fun a na => ex_end na fun d H' s' hd => q0 k0 d H' (s1.trans s') hd⟩
    | true =>
      have f0 : ¬ isNameD dn = false := by rw [e0]; simp
      refine iteF ?_
      -- what it holds
      refine ⟨fun σ' H' => σ' = [some (.ref p), some vn, some vh, some vd, some va] ∧ H' = H1 ∧ isHoldsD dh = true, ?_, fun σ' H' hM => ?_⟩
      · have ih : isHoldsD dh = (eqS "mark" dh || eqS "box" dh) := by cases dh <;> rfl
        refine ⟨vh, rfl, dh, .str "mark", dp_same s1 hh, .str _, okh.sh, (by decide +kernel), _, rfl, ?_⟩
        rw [eqv_str]
        cases em : eqS "mark" dh with
        | true => exact iteF ⟨rfl, rfl, by rw [ih, em]; rfl⟩
        | false =>
          refine iteT ⟨vh, rfl, dh, .str "box", dp_same s1 hh, .str _, okh.sh, (by decide +kernel), _, rfl, ?_⟩
          rw [eqv_str]
          cases eb : eqS "box" dh with
          | true => exact iteF ⟨rfl, rfl, by rw [ih, em, eb]; rfl⟩
          | false =>
            have k1 : k = 1 := by
              unfold faultOf at hk
              rw [if_neg f0, if_pos (by rw [ih, em, eb]; rfl)] at hk
              exact (Option.some.inj hk).symm
            exact iteT (part (σ := []) s1 k1 (by decide) rfl)
      obtain ⟨rfl, rfl, ehh⟩ := hM
      have f1 : ¬ isHoldsD dh = false := by rw [ehh]; simp
      obtain ⟨z, rfl⟩ : ∃ z, dh = .str z := by
        cases dh with
        | str z => exact ⟨z, rfl⟩
        | _ => cases ehh
      obtain rfl := dp_strv hh
      -- its default
      refine ⟨fun σ' H2 => σ' = [some (.ref p), some vn, some (.str z), some vd, some va] ∧ Same H' H2 ∧ (isNonD dd || isDefD dd z) = true, ?_, fun σ' H2 hM => ?_⟩
      · refine ⟨vd, rfl, rfl, _, rfl, ?_⟩
        rw [dp_non hd]
        cases en : isNonD dd with
        | true => exact iteF ⟨rfl, Same.refl _, rfl⟩
        | false =>
          refine iteT ⟨vd, rfl, .str z, rfl, vd, dd, z, rfl, dp_same s1 hd, okd, fun H2 s2 => ⟨_, rfl, ?_⟩⟩
          cases ed : isDefD dd z with
          | true => exact iteF ⟨rfl, s2, rfl⟩
          | false =>
            have k2 : k = 2 := by
              unfold faultOf at hk
              rw [if_neg f0, if_neg f1, if_pos (show (isNonD dd || isDefD dd (strD (.str z))) = false by rw [en]; exact ed)] at hk
              exact (Option.some.inj hk).symm
            exact iteT (part (σ := []) (s1.trans s2) k2 (by decide) rfl)
      obtain ⟨rfl, s2, edd⟩ := hM
      have f2 : ¬ (isNonD dd || isDefD dd (strD (.str z))) = false := by
        show ¬ (isNonD dd || isDefD dd z) = false
        rw [edd]
        simp
      -- named or not
      refine ⟨va, rfl, va, .ty "bool", _, _, _, rfl, .ty _, dp_ty (dp_same (s1.trans s2) ha), kit_bool _, _, rfl, ?_⟩
      cases eb : isBoolD da with
      | false =>
        have k3 : k = 3 := by
          unfold faultOf at hk
          rw [if_neg f0, if_neg f1, if_neg f2, if_pos eb] at hk
          exact (Option.some.inj hk).symm
        exact iteT (part (σ := []) (s1.trans s2) k3 (by decide) rfl)
      | true =>
        unfold faultOf at hk
        rw [if_neg f0, if_neg f1, if_neg f2, if_neg (by rw [eb]; simp)] at hk
        cases hk
end
end Dr
namespace Dr
open PySem PySem.Spec PyProof.Rows L2
open SX (S S_len S_cat)
abbrev sWN : Stmt := topS 27
theorem scWN : FnScope ["_law_bag_here", "_law_name", "_law_words", "_law_listed"] ["_law_bag_here", "_law_name"] (defScope sWN) := ⟨rfl, rfl, rfl, by decide +kernel, rfl, by decide +kernel, by decide +kernel⟩
/-- a datum of small depth -/
structure Sml (d : PyData) : Prop where
  ok : OkD d
  dp : d.depth ≤ 3
theorem sml_str {z : Str} (h : SmS z) : Sml (.str z) := ⟨okD_sms h, by show 0 ≤ 3; decide⟩
theorem sml_int (i : Int) : Sml (.int i) := ⟨⟨rfl, rfl⟩, by show 0 ≤ 3; decide⟩
theorem sml_bl (b : Bool) : Sml (.bool b) := ⟨⟨rfl, rfl⟩, by show 0 ≤ 3; decide⟩
theorem sml_non : Sml .none := ⟨⟨rfl, rfl⟩, by show 0 ≤ 3; decide⟩
def words20 : List Str := barred
theorem words_sms : ∀ z ∈ barred, SmS z := by
  have h : barred.all (fun z => PyData.strOk z && decide (z.length ≤ 1000)) = true := by decide +kernel
  exact fun z hz => sms_lit (List.all_eq_true.mp h z hz)
theorem name_barred {z : Str} (h : z ∈ barred) : nameOk z = false := by
  unfold nameOk
  rw [show barred.contains z = true by simpa using h]
  simp
theorem name_not {cs : List Nat} (h : cs.all lowC = false) : nameOk (S cs) = false := by
  unfold nameOk
  rw [show (S cs).cps.toList = cs from rfl, h]
  simp
theorem name_long {cs : List Nat} (h : 8 < cs.length) : nameOk (S cs) = false := by
  unfold nameOk
  rw [S_len, decide_eq_false (show ¬ cs.length ≤ 8 by omega)]
  simp
theorem sms_codes {cs : List Nat} (h : ∀ c ∈ cs, c < 128) (hl : cs.length ≤ 1000) : SmS (S cs) := by
  refine ⟨?_, by rw [S_len]; exact hl⟩
  unfold PyData.strOk
  rw [← Array.all_toList]
  exact List.all_eq_true.mpr fun c hc => decide_eq_true (by have := h c hc; omega)
theorem low_lt {cs : List Nat} (h : cs.all lowC = true) : ∀ c ∈ cs, c < 128 := fun c hc => by
  have q := List.all_eq_true.mp h c hc
  unfold lowC at q
  rw [Bool.and_eq_true] at q
  have := of_decide_eq_true q.2
  omega
theorem up_low (c : Nat) (h : lowC c = true) : lowC (up1 c) = false ∧ up1 c < 128 := by
  unfold lowC at h
  rw [Bool.and_eq_true] at h
  have h1 := of_decide_eq_true h.1
  have h2 := of_decide_eq_true h.2
  unfold up1
  rw [if_pos ⟨h1, h2⟩]
  refine ⟨?_, by omega⟩
  unfold lowC
  rw [decide_eq_false (show ¬ 97 ≤ c - 32 by omega)]
  rfl
section
variable {P : Program} {w : World} {K : PySem.W.Frag} {mg : Str → Option Value} {base : Heap}
def spWN (K : PySem.W.Frag) : Sp := fun vs H Q _ => ∃ (p : Addr) (cs : List Nat), vs = [.ref p, .str (S cs)] ∧ Bag H p ∧ GoodN cs ∧ ∀ H' v d, Kp p H H' → Dq K p H' v d → Sml d → isNameD d = false → Q v H'
theorem ok_wn {f fO : Addr} {fd fdO : FuncData} (F : Fun K "_law_wrong_name" "_law_wrong_name" sWN f fd) (GO : FnOk P w K mg base CX0 2 fO fdO ["_law_bag_here", "_law_some"] (spOf K)) (mO : mg "_law_of" = some (.ref fO)) (kO : PySem.W.keepIn K (.ref fO) = true) (bO : Binds K fdO ["_law_bag_here", "_law_some"] []) :
    FnOk P w K mg base CX0 3 f fd ["_law_bag_here", "_law_name"] (spWN K) := by
  refine F.ok scWN (fun vs H Q E h => ?_) (fun cdv A outer s H vs Q E hr h => ?_)
  · obtain ⟨p, cs, rfl, _⟩ := h
    rfl
  · obtain ⟨p, cs, rfl, hB, hg, q⟩ := h
    refine ⟨_, pss_cons (ps_set (i := 2) scWN.nd rfl (.inl rfl) (pe_lst (pa_cons pe_str (pa_cons pe_str (pa_cons pe_str (pa_cons pe_str (pa_cons pe_str (pa_cons pe_str (pa_cons pe_str (pa_cons pe_str (pa_cons pe_str (pa_cons pe_str (pa_cons pe_str (pa_cons pe_str (pa_cons pe_str (pa_cons pe_str (pa_cons pe_str (pa_cons pe_str (pa_cons pe_str (pa_cons pe_str (pa_cons pe_str (pa_cons pe_str pa_nil))))))))))))))))))))))
      (pss_cons (ps_set (i := 3) scWN.nd rfl (.inl rfl) (pe_lst (pa_cons pe_str (pa_cons (pe_upper (pv 1)) (pa_cons (pe_op op_add_str (pv 1) pe_str) (pa_cons (pe_op op_add_str (pe_slice C8.sl_txt (pv 1) po_none (po_some pe_int)) pe_str) (pa_cons (pe_op op_add_str (pe_slice C8.sl_txt (pv 1) po_none (po_some pe_int)) pe_str)
        (pa_cons (pe_op op_add_str pe_str (pe_slice C8.sl_txt (pv 1) po_none (po_some pe_int))) (pa_cons pe_int (pa_cons pe_non (pa_cons pe_bl (pa_cons (pe_lst (pa_cons (pv 1) pa_nil)) (pa_cons (pe_tup (pa_cons (pv 1) pa_nil))
        (pa_cons (pe_call GO hr (by rfl) mO kO bO .nil pass0 (pa_cons (pv 0) (pa_cons (pv 2) pa_nil))) (pa_cons (pe_call GO hr (by rfl) mO kO bO .nil pass0 (pa_cons (pv 0) (pa_cons (pv 2) pa_nil))) pa_nil)))))))))))))))
      (pss_one (ps_ret (pe_call GO hr (by rfl) mO kO bO .nil pass0 (pa_cons (pv 0) (pa_cons (pv 3) pa_nil)))))), ?_⟩
    refine ⟨by show 20 ≤ sizeLine; decide, fun lw nw => ?_⟩
    have hlw : (upd H lw (.lst (barred.map V.str))) lw = some (.lst (barred.map V.str)) := upd_same
    have sw := same_upd (o := .lst (barred.map V.str)) nw
    have pw := bag_ne hB nw
    have hlo := hg.lo
    have hhi := hg.hi
    have hz : (S cs).length ≤ sizeLine := by
      rw [S_len]
      exact Nat.le_of_lt (small1000 (by omega))
    have h128 := low_lt hg.low
    have es : Txt.slice (S cs) none (some 3) = S (cs.take 3) := SX.slice_to (by decide)
    have eu : Txt.upper (S cs) = S (cs.map up1) := SX.upper_S (List.all_eq_true.mpr fun c hc => decide_eq_true (h128 c hc))
    have e8 : ("aaaaaaaa" : Str) = S [97, 97, 97, 97, 97, 97, 97, 97] := by decide +kernel
    have e49 : ("1" : Str) = S [49] := by decide +kernel
    have e32 : (" " : Str) = S [32] := by decide +kernel
    have bd : ∀ n : Nat, n ≤ 900 → n ≤ sizeLine := fun n h => Nat.le_of_lt (small1000 (by omega))
    have t3 : (cs.take 3).length ≤ 3 := by
      rw [List.length_take]
      omega
    refine ⟨_, rfl, ⟨_, rfl⟩, S cs, rfl, rfl, by rw [S_len]; exact Nat.le_trans (show cs.length ≤ 1000 by omega) (by decide), ?_⟩
    refine ⟨_, rfl, S cs, S [97, 97, 97, 97, 97, 97, 97, 97], rfl, congrArg V.str e8, by rw [S_len, S_len]; exact bd _ (by show cs.length + 8 ≤ 900; omega), ?_⟩
    refine ⟨_, rfl, 3, rfl, S cs, rfl, hz, S (cs.take 3), S [49], congrArg V.str es, congrArg V.str e49, by rw [S_len, S_len]; exact bd _ (by show (cs.take 3).length + 1 ≤ 900; omega), ?_⟩
    refine ⟨_, rfl, 3, rfl, S cs, rfl, hz, S (cs.take 3), S [32], congrArg V.str es, congrArg V.str e32, by rw [S_len, S_len]; exact bd _ (by show (cs.take 3).length + 1 ≤ 900; omega), ?_⟩
    refine ⟨_, rfl, 3, rfl, S cs, rfl, hz, S [32], S (cs.take 3), congrArg V.str e32, congrArg V.str es, by rw [S_len, S_len]; exact bd _ (by show 1 + (cs.take 3).length ≤ 900; omega), ?_⟩
    refine ⟨_, rfl, by show 1 ≤ sizeLine; decide, fun l1 n1 => ⟨_, rfl, by show 1 ≤ sizeLine; decide, fun t1 m1 => ?_⟩⟩
    have s1 := same_upd (o := .lst [.str (S cs)]) n1
    have s2 := same_upd (o := .tup [.str (S cs)]) m1
    have k0 : Kp p H _ := ((Kp.of hB sw).same s1).same s2
    have p1 := bag_ne (Kp.of hB sw).2 n1
    have p2 := bag_ne ((Kp.of hB sw).same s1).2 m1
    have hl1 := s2 _ _ (upd_same (H := upd H lw (.lst (barred.map V.str))) (a := l1) (o := .lst [.str (S cs)]))
    have ht1 := upd_same (H := upd (upd H lw (.lst (barred.map V.str))) l1 (.lst [.str (S cs)])) (a := t1) (o := .tup [.str (S cs)])
    have hw1 := s2 _ _ (s1 _ _ hlw)
    refine ⟨_, rfl, _, rfl, p, .ref lw, rfl, k0.2, .inl ⟨lw, _, rfl, pw, SqL.of hw1, (by show 1 ≤ 20; decide), (by show 20 ≤ 1000; decide), fun H1 y1 k1 hy1 => ?_⟩⟩
    obtain ⟨w1, hm1, rfl⟩ := List.mem_map.mp hy1
    refine ⟨_, rfl, _, rfl, p, .ref lw, rfl, k1.2, .inl ⟨lw, _, rfl, pw, SqL.of (k1.1 _ _ pw hw1), (by show 1 ≤ 20; decide), (by show 20 ≤ 1000; decide), fun H2 y2 k2 hy2 => ?_⟩⟩
    obtain ⟨w2, hm2, rfl⟩ := List.mem_map.mp hy2
    refine ⟨by show 13 ≤ sizeLine; decide, fun l nl => ?_⟩
    have k12 := k1.trans k2
    have sl := same_upd (o := .lst [.str "", .str (Txt.upper (S cs)), .str (S cs ++ S [97, 97, 97, 97, 97, 97, 97, 97]), .str (S (cs.take 3) ++ S [49]), .str (S (cs.take 3) ++ S [32]), .str (S [32] ++ S (cs.take 3)), .int 5, .non, .bl true, .ref l1, .ref t1, .str w1, .str w2]) nl
    refine ⟨_, rfl, _, rfl, p, .ref l, rfl, (k12.same sl).2, .inl ⟨l, _, rfl, bag_ne k12.2 nl, SqL.of upd_same, (by show 1 ≤ 13; decide), (by show 13 ≤ 1000; decide), fun H3 y k3 hy => ?_⟩⟩
    have kk := (k12.same sl).trans k3
    have kf : Kp p H H3 := k0.trans kk
    have ol := kk.1 _ _ p1 hl1
    have ot := kk.1 _ _ p2 ht1
    have smN := sms_good hg
    have str : ∀ {xs : List Nat}, (∀ c ∈ xs, c < 128) → xs.length ≤ 1000 → xs.all lowC = false ∨ 8 < xs.length → Q (V.str (S xs)) H3 := fun {xs} h1 h2 h3 => q H3 _ (.str (S xs)) kf (.str _) (sml_str (sms_codes h1 h2)) (by
      show nameOk (S xs) = false
      rcases h3 with h3 | h3
      · exact name_not h3
      · exact name_long h3)
    have tk : ∀ c ∈ cs.take 3, c < 128 := fun c hc => h128 c (List.mem_of_mem_take hc)
    have app : ∀ {xs ys : List Nat}, (∀ c ∈ xs, c < 128) → (∀ c ∈ ys, c < 128) → ∀ c ∈ xs ++ ys, c < 128 := fun hx hy c hc => by
      rcases List.mem_append.mp hc with h | h
      · exact hx c h
      · exact hy c h
    have odd : ∀ {xs ys : List Nat} {c : Nat}, lowC c = false → c ∈ xs ++ ys → (xs ++ ys).all lowC = false := fun {xs ys c} h m => by
      cases e : (xs ++ ys).all lowC with
      | false => rfl
      | true =>
        rw [List.all_eq_true.mp e c m] at h
        cases h
    rcases List.mem_cons.mp hy with rfl | hy
    · exact q H3 _ (.str "") kf (.str _) (sml_str (sms_lit (by decide +kernel))) (by decide +kernel)
    rcases List.mem_cons.mp hy with rfl | hy
    · rw [eu]
      refine str (fun c hc => ?_) (by rw [List.length_map]; omega) (.inl ?_)
      · obtain ⟨b, hb, rfl⟩ := List.mem_map.mp hc
        exact (up_low b (List.all_eq_true.mp hg.low b hb)).2
      · cases cs with
        | nil => exact absurd hlo (by decide)
        | cons c r =>
          show (lowC (up1 c) && _) = false
          rw [(up_low c (List.all_eq_true.mp hg.low c (List.mem_cons_self ..))).1]
          rfl
    rcases List.mem_cons.mp hy with rfl | hy
    · rw [S_cat]
      exact str (app h128 (by decide)) (by rw [List.length_append]; show cs.length + 8 ≤ 1000; omega) (.inr (by rw [List.length_append]; show 8 < cs.length + 8; omega))
    rcases List.mem_cons.mp hy with rfl | hy
    · rw [S_cat]
      exact str (app tk (by decide)) (by rw [List.length_append]; show (cs.take 3).length + 1 ≤ 1000; omega) (.inl (odd (c := 49) (by decide) (List.mem_append_right _ (List.mem_cons_self ..))))
    rcases List.mem_cons.mp hy with rfl | hy
    · rw [S_cat]
      exact str (app tk (by decide)) (by rw [List.length_append]; show (cs.take 3).length + 1 ≤ 1000; omega) (.inl (odd (c := 32) (by decide) (List.mem_append_right _ (List.mem_cons_self ..))))
    rcases List.mem_cons.mp hy with rfl | hy
    · rw [S_cat]
      exact str (app (by decide) tk) (by rw [List.length_append]; show 1 + (cs.take 3).length ≤ 1000; omega) (.inl (odd (c := 32) (by decide) (List.mem_append_left _ (List.mem_cons_self ..))))
    rcases List.mem_cons.mp hy with rfl | hy
    · exact q H3 _ (.int 5) kf (.int _) (sml_int _) rfl
    rcases List.mem_cons.mp hy with rfl | hy
    · exact q H3 _ .none kf .non sml_non rfl
    rcases List.mem_cons.mp hy with rfl | hy
    · exact q H3 _ (.bool true) kf (.bl _) (sml_bl _) rfl
    rcases List.mem_cons.mp hy with rfl | hy
    · refine q H3 _ (.list [.str (S cs)]) kf (.lst (SqL.of (hid_at p1 ol)) (.cons (.str _) .nil)) ⟨⟨?_, ?_⟩, by show 1 ≤ 3; decide⟩ rfl
      · show ((PyData.strOk (S cs) && true) && decide (1 ≤ 64)) = true
        rw [smN.ok]
        rfl
      · show (decide (1 ≤ 1000) && (decide ((S cs).length ≤ 1000) && true)) = true
        rw [decide_eq_true smN.sm]
        rfl
    rcases List.mem_cons.mp hy with rfl | hy
    · refine q H3 _ (.tuple [.str (S cs)]) kf (.tup (SqT.of (hid_at p2 ot)) (.cons (.str _) .nil)) ⟨⟨?_, ?_⟩, by show 1 ≤ 3; decide⟩ rfl
      · show ((PyData.strOk (S cs) && true) && decide (1 ≤ 64)) = true
        rw [smN.ok]
        rfl
      · show (decide (1 ≤ 1000) && (decide ((S cs).length ≤ 1000) && true)) = true
        rw [decide_eq_true smN.sm]
        rfl
    rcases List.mem_cons.mp hy with rfl | hy
    · exact q H3 _ (.str w1) kf (.str _) (sml_str (words_sms _ hm1)) (name_barred hm1)
    rcases List.mem_cons.mp hy with rfl | hy
    · exact q H3 _ (.str w2) kf (.str _) (sml_str (words_sms _ hm2)) (name_barred hm2)
    cases hy
end
end Dr
namespace Dr
open PySem PySem.Spec PyProof.Rows L2
open SX (S S_len S_cat)
structure Smn (n : Nat) (d : PyData) : Prop where
  c : d.canLay0 = true
  s : smD d = true
  d : d.depth ≤ n
structure Smns (n : Nat) (ds : List PyData) : Prop where
  c : PyData.canLayAll0 ds = true
  s : smAll ds = true
  d : PyData.depthAll ds ≤ n
theorem smn_nil {n : Nat} : Smns n [] := ⟨rfl, rfl, Nat.zero_le _⟩
theorem smn_cons {n : Nat} {d : PyData} {ds : List PyData} (h : Smn n d) (hs : Smns n ds) : Smns n (d :: ds) := by
  refine ⟨?_, ?_, ?_⟩
  · show (d.canLay0 && PyData.canLayAll0 ds) = true
    rw [h.c, hs.c]
    rfl
  · show (smD d && smAll ds) = true
    rw [h.s, hs.s]
    rfl
  · show max d.depth (PyData.depthAll ds) ≤ n
    have := h.d
    have := hs.d
    omega
theorem smn_tup {n : Nat} {ds : List PyData} (h : Smns n ds) (l : ds.length ≤ 1000) : Smn (n + 1) (.tuple ds) := ⟨h.c, by
  show (decide (ds.length ≤ 1000) && smAll ds) = true
  rw [h.s, decide_eq_true l]
  rfl, Nat.succ_le_succ h.d⟩
theorem smn_lst {n : Nat} {ds : List PyData} (h : Smns n ds) (l : ds.length ≤ 1000) : Smn (n + 1) (.list ds) := ⟨h.c, by
  show (decide (ds.length ≤ 1000) && smAll ds) = true
  rw [h.s, decide_eq_true l]
  rfl, Nat.succ_le_succ h.d⟩
theorem smn_str {n : Nat} {z : Str} (h : SmS z) : Smn n (.str z) := ⟨h.ok, decide_eq_true h.sm, Nat.zero_le _⟩
theorem smn_lit {n : Nat} {z : Str} (h : (PyData.strOk z && decide (z.length ≤ 1000)) = true) : Smn n (.str z) := smn_str (sms_lit h)
theorem smn_int {n : Nat} (i : Int) : Smn n (.int i) := ⟨rfl, rfl, Nat.zero_le _⟩
theorem smn_bl {n : Nat} (b : Bool) : Smn n (.bool b) := ⟨rfl, rfl, Nat.zero_le _⟩
theorem Smn.sml {d : PyData} (h : Smn 3 d) : Sml d := ⟨⟨by
  show (d.canLay0 && decide (d.depth ≤ 64)) = true
  rw [h.c, decide_eq_true (by have := h.d; omega)]
  rfl, h.s⟩, h.d⟩
theorem nf_not {d : PyData} {fs : List Form} (h : isTupD d = false) : hasForm S0 d fs = false := by
  unfold hasForm
  rw [formOf_not h]
theorem nf_nil {fs : List Form} : hasForm S0 (.tuple []) fs = false := by
  have e : formOf (.tuple []) fs = none := by
    unfold formOf
    rw [List.find?_eq_none]
    intro f _
    cases f <;> exact Bool.false_ne_true
  unfold hasForm
  rw [e]
theorem nf_head {x : PyData} {r : List PyData} {fs : List Form} (h : ∀ w, PyData.eqv x (.str w) = false) : hasForm S0 (.tuple (x :: r)) fs = false := by
  have e : formOf (.tuple (x :: r)) fs = none := by
    unfold formOf
    rw [List.find?_eq_none]
    intro f _
    cases f with
    | nil => exact Bool.false_ne_true
    | cons w q =>
      show ¬ ((r.length == q.length) && PyData.eqv x (.str w)) = true
      rw [h w, Bool.and_false]
      exact Bool.false_ne_true
  unfold hasForm
  rw [e]
theorem nf_hit {n : Nat} {w : Str} {ds : List PyData} {fs : List Form} (hn : ds.length = n) (h : fs.find? (hitF n w) = none) : hasForm S0 (.tuple (.str w :: ds)) fs = false := by
  have e : formOf (.tuple (.str w :: ds)) fs = none := by
    unfold formOf
    subst hn
    have e : fits (.tuple (.str w :: ds)) = hitF ds.length w := by
      funext f
      cases f <;> rfl
    rw [e]
    exact h
  unfold hasForm
  rw [e]
theorem nf_items {w : Str} {d : PyData} (hw : w = "once" ∨ w = "anew") (h : isItemsD d = false) : hasForm S0 (.tuple [.str w, d]) boxForms = false := by
  rcases hw with rfl | rfl <;> (rw [has1 (d := .none) (s1 := "items") (form_hd (n := 1) rfl (by decide +kernel)), S0_items]; exact h)
theorem nf_early {d1 d2 : PyData} (h : isNameD d1 = false ∨ isNameD d2 = false) : hasForm S0 (.tuple [.str "early", d1, d2]) boxForms = false := by
  rw [has2 (s1 := "kind") (s2 := "value") (form_hd (n := 2) rfl (by decide +kernel)), S0_kind, S0_value]
  rcases h with h | h <;> (rw [h]; simp)
theorem nf_late {d1 d2 : PyData} (h : isOwnerD d1 = false ∨ isNameD d2 = false) : hasForm S0 (.tuple [.str "late", d1, d2]) boxForms = false := by
  rw [has2 (s1 := "owner") (s2 := "value") (form_hd (n := 2) rfl (by decide +kernel)), S0_owner, S0_value]
  rcases h with h | h <;> (rw [h]; simp)
theorem nf_mark {d : PyData} (h : isNameD d = false) : hasForm S0 (.tuple [.str "mark", d]) markForms = false := by
  rw [has1 (d := .none) (s1 := "item") (form_hd (n := 1) rfl (by decide +kernel)), S0_item]
  exact h
theorem nfw {n : Nat} {w : Str} {ds : List PyData} (hw : w = "once" ∨ w = "anew") (hn : ds.length = n) : hasForm S0 (.tuple (.str w :: ds)) markForms = false := by
  refine nf_hit rfl ?_
  rcases hw with rfl | rfl <;> (show List.find? (hitF ds.length _) [_] = none; rw [List.find?_cons, show ∀ k, hitF k _ ["mark", "item"] = false from fun k => ?_]; rfl)
  all_goals (show ((k == 1) && _) = false; rw [show (_ == ("mark" : Str)) = false by decide +kernel, Bool.and_false])
/-- a default that is refused -/
structure Bad (hs : Str) (d : PyData) : Prop where
  no : hasForm S0 d (if hs = "mark" then markForms else boxForms) = false
  sm : Sml d
  ne : isNonD d = false
theorem nfb0 {w : Str} (hw : w = "once" ∨ w = "anew") : hasForm S0 (.tuple [.str w]) boxForms = false := by
  rcases hw with rfl | rfl <;> exact nf_hit (n := 0) rfl (by decide +kernel)
theorem nfb2 {w : Str} {ds : List PyData} (hw : w = "once" ∨ w = "anew") (hn : ds.length = 2) : hasForm S0 (.tuple (.str w :: ds)) boxForms = false := by
  rcases hw with rfl | rfl <;> exact nf_hit (n := 2) hn (by decide +kernel)
theorem ltCps_asym : ∀ a b : List Nat, ltCps a b = true → ltCps b a = false
  | [], [], h => by cases h
  | [], _ :: _, _ => rfl
  | _ :: _, [], h => by cases h
  | x :: r, y :: t, h => by
    have q : (decide (x < y) || (x == y && ltCps r t)) = true := h
    show (decide (y < x) || (y == x && ltCps t r)) = false
    rcases Bool.or_eq_true_iff.mp q with q | q
    · have := of_decide_eq_true q
      rw [decide_eq_false (show ¬ y < x by omega), show (y == x) = false from beq_eq_false_iff_ne.mpr (by omega)]
      rfl
    · rw [Bool.and_eq_true, beq_iff_eq] at q
      obtain ⟨rfl, q2⟩ := q
      rw [decide_eq_false (Nat.lt_irrefl x), ltCps_asym r t q2]
      simp
theorem ltS_asym {a b : Str} (h : ltS a b = true) : ltS b a = false := by
  unfold ltS at h ⊢
  rw [← ltCps_eq] at h ⊢
  exact ltCps_asym _ _ h
theorem ltS_irr (a : Str) : ltS a a = false := by
  cases h : ltS a a with
  | false => rfl
  | true => exact (ltS_asym h).symm.trans h ▸ rfl
def wd1 (w : Str) (o t : List Nat) : List PyData := [(.int 5 : PyData), .bool true, .str (S o), .tuple [], .tuple [(.str "twice" : PyData), .tuple [(.str (S o) : PyData)]], .list [(.str w : PyData), .tuple [(.str (S o) : PyData)]], .tuple [(.tuple [(.str (S o) : PyData)] : PyData), .str w], .tuple [(.str w : PyData)], .tuple [(.str w : PyData), .tuple [(.str (S o) : PyData)], .tuple [(.str (S t) : PyData)]]]
def wd2 (w : Str) (o t : List Nat) : List PyData := [(.tuple [(.str w : PyData), .list [(.str (S o) : PyData)]] : PyData), .tuple [(.str w : PyData), .str (S o)], .tuple [(.str w : PyData), .tuple [(.str (S t) : PyData), .str (S o)]], .tuple [(.str w : PyData), .tuple [(.str (S o) : PyData), .str (S o)]], .tuple [(.str w : PyData), .tuple [(.str "def" : PyData)]], .tuple [(.str w : PyData), .tuple [(.int 5 : PyData)]]]
def wd3 (w : Str) (o t : List Nat) : List PyData := [(.tuple [(.str "early" : PyData), .str (S o)] : PyData), .tuple [(.str "early" : PyData), .str "cls", .str (S o)], .tuple [(.str "early" : PyData), .str (S o), .str "cls"], .tuple [(.str "early" : PyData), .str (S o), .str (S t), .str (S t)], .tuple [(.str "late" : PyData), .str (S o)]]
def wd4 (w : Str) (o t : List Nat) : List PyData := [(.tuple [(.str "late" : PyData), .str "def", .str (S t)] : PyData), .tuple [(.str "late" : PyData), .str "cls", .str "cls"], .tuple [(.str "late" : PyData), .str (S o), .tuple [(.str (S t) : PyData)]], .tuple [(.str "late" : PyData), .int 1, .str (S t)], .tuple [(.int 0 : PyData), .str (S o)]]
def wd5 (w : Str) (o t : List Nat) : List PyData := [(.tuple [(.str "once" : PyData), .tuple [(.str (S o) : PyData)]] : PyData), .tuple [(.str "anew" : PyData), .tuple []], .tuple [(.str "early" : PyData), .str (S o), .str (S t)], .tuple [(.str "late" : PyData), .str "cls", .str (S t)], .tuple [(.str "mark" : PyData), .tuple [(.str (S o) : PyData)]]]
def wd6 (w : Str) (o t : List Nat) : List PyData := [(.tuple [(.str "mark" : PyData)] : PyData), .tuple [(.str "mark" : PyData), .str (S o), .str (S t)], .tuple [(.str "mark" : PyData), .str "cls"], .list [(.str "mark" : PyData), .str (S o)]]
def wd7 (w : Str) (o t : List Nat) : List PyData := [(.tuple [(.str "mark" : PyData), .str (S o)] : PyData), .tuple [(.str "mark" : PyData), .str (S t)]]
section
variable {w : Str} {o t : List Nat} (hw' : w = "once" ∨ w = "anew") (go : GoodN o) (gt : GoodN t) (lt : ltS (S o) (S t) = true)
include hw' go gt lt in
theorem bad_mark1 : ∀ d ∈ wd1 w o t, Bad "mark" d := by
  have hw := hw'
  have ho := sms_good go
  have ht := sms_good gt
  have hws : SmS w := by
    rcases hw with rfl | rfl <;> exact sms_lit (by decide +kernel)
  intro d hd
  rcases List.mem_cons.mp hd with rfl | hd
  · exact ⟨by rw [if_pos rfl]; exact (nf_not rfl), (show Smn 3 _ from (smn_int _)).sml, rfl⟩
  rcases List.mem_cons.mp hd with rfl | hd
  · exact ⟨by rw [if_pos rfl]; exact (nf_not rfl), (show Smn 3 _ from (smn_bl _)).sml, rfl⟩
  rcases List.mem_cons.mp hd with rfl | hd
  · exact ⟨by rw [if_pos rfl]; exact (nf_not rfl), (show Smn 3 _ from (smn_str ho)).sml, rfl⟩
  rcases List.mem_cons.mp hd with rfl | hd
  · exact ⟨by rw [if_pos rfl]; exact nf_nil, (show Smn 3 _ from (smn_tup smn_nil (by show 0 ≤ 1000; decide))).sml, rfl⟩
  rcases List.mem_cons.mp hd with rfl | hd
  · exact ⟨by rw [if_pos rfl]; exact (nf_hit (n := 1) rfl (by decide +kernel)), (show Smn 3 _ from (smn_tup (smn_cons (smn_lit (by decide +kernel)) (smn_cons (smn_tup (smn_cons (smn_str ho) smn_nil) (by show 1 ≤ 1000; decide)) smn_nil)) (by show 2 ≤ 1000; decide))).sml, rfl⟩
  rcases List.mem_cons.mp hd with rfl | hd
  · exact ⟨by rw [if_pos rfl]; exact (nf_not rfl), (show Smn 3 _ from (smn_lst (smn_cons (smn_str hws) (smn_cons (smn_tup (smn_cons (smn_str ho) smn_nil) (by show 1 ≤ 1000; decide)) smn_nil)) (by show 2 ≤ 1000; decide))).sml, rfl⟩
  rcases List.mem_cons.mp hd with rfl | hd
  · exact ⟨by rw [if_pos rfl]; exact (nf_head (fun _ => rfl)), (show Smn 3 _ from (smn_tup (smn_cons (smn_tup (smn_cons (smn_str ho) smn_nil) (by show 1 ≤ 1000; decide)) (smn_cons (smn_str hws) smn_nil)) (by show 2 ≤ 1000; decide))).sml, rfl⟩
  rcases List.mem_cons.mp hd with rfl | hd
  · exact ⟨by rw [if_pos rfl]; exact (nfw hw rfl), (show Smn 3 _ from (smn_tup (smn_cons (smn_str hws) smn_nil) (by show 1 ≤ 1000; decide))).sml, rfl⟩
  rcases List.mem_cons.mp hd with rfl | hd
  · exact ⟨by rw [if_pos rfl]; exact (nfw hw rfl), (show Smn 3 _ from (smn_tup (smn_cons (smn_str hws) (smn_cons (smn_tup (smn_cons (smn_str ho) smn_nil) (by show 1 ≤ 1000; decide)) (smn_cons (smn_tup (smn_cons (smn_str ht) smn_nil) (by show 1 ≤ 1000; decide)) smn_nil))) (by show 3 ≤ 1000; decide))).sml, rfl⟩
  cases hd
include hw' go gt lt in
theorem bad_mark2 : ∀ d ∈ wd2 w o t, Bad "mark" d := by
  have hw := hw'
  have ho := sms_good go
  have ht := sms_good gt
  have hws : SmS w := by
    rcases hw with rfl | rfl <;> exact sms_lit (by decide +kernel)
  intro d hd
  rcases List.mem_cons.mp hd with rfl | hd
  · exact ⟨by rw [if_pos rfl]; exact (nfw hw rfl), (show Smn 3 _ from (smn_tup (smn_cons (smn_str hws) (smn_cons (smn_lst (smn_cons (smn_str ho) smn_nil) (by show 1 ≤ 1000; decide)) smn_nil)) (by show 2 ≤ 1000; decide))).sml, rfl⟩
  rcases List.mem_cons.mp hd with rfl | hd
  · exact ⟨by rw [if_pos rfl]; exact (nfw hw rfl), (show Smn 3 _ from (smn_tup (smn_cons (smn_str hws) (smn_cons (smn_str ho) smn_nil)) (by show 2 ≤ 1000; decide))).sml, rfl⟩
  rcases List.mem_cons.mp hd with rfl | hd
  · exact ⟨by rw [if_pos rfl]; exact (nfw hw rfl), (show Smn 3 _ from (smn_tup (smn_cons (smn_str hws) (smn_cons (smn_tup (smn_cons (smn_str ht) (smn_cons (smn_str ho) smn_nil)) (by show 2 ≤ 1000; decide)) smn_nil)) (by show 2 ≤ 1000; decide))).sml, rfl⟩
  rcases List.mem_cons.mp hd with rfl | hd
  · exact ⟨by rw [if_pos rfl]; exact (nfw hw rfl), (show Smn 3 _ from (smn_tup (smn_cons (smn_str hws) (smn_cons (smn_tup (smn_cons (smn_str ho) (smn_cons (smn_str ho) smn_nil)) (by show 2 ≤ 1000; decide)) smn_nil)) (by show 2 ≤ 1000; decide))).sml, rfl⟩
  rcases List.mem_cons.mp hd with rfl | hd
  · exact ⟨by rw [if_pos rfl]; exact (nfw hw rfl), (show Smn 3 _ from (smn_tup (smn_cons (smn_str hws) (smn_cons (smn_tup (smn_cons (smn_lit (by decide +kernel)) smn_nil) (by show 1 ≤ 1000; decide)) smn_nil)) (by show 2 ≤ 1000; decide))).sml, rfl⟩
  rcases List.mem_cons.mp hd with rfl | hd
  · exact ⟨by rw [if_pos rfl]; exact (nfw hw rfl), (show Smn 3 _ from (smn_tup (smn_cons (smn_str hws) (smn_cons (smn_tup (smn_cons (smn_int _) smn_nil) (by show 1 ≤ 1000; decide)) smn_nil)) (by show 2 ≤ 1000; decide))).sml, rfl⟩
  cases hd
include hw' go gt lt in
theorem bad_mark3 : ∀ d ∈ wd3 w o t, Bad "mark" d := by
  have hw := hw'
  have ho := sms_good go
  have ht := sms_good gt
  have hws : SmS w := by
    rcases hw with rfl | rfl <;> exact sms_lit (by decide +kernel)
  intro d hd
  rcases List.mem_cons.mp hd with rfl | hd
  · exact ⟨by rw [if_pos rfl]; exact (nf_hit (n := 1) rfl (by decide +kernel)), (show Smn 3 _ from (smn_tup (smn_cons (smn_lit (by decide +kernel)) (smn_cons (smn_str ho) smn_nil)) (by show 2 ≤ 1000; decide))).sml, rfl⟩
  rcases List.mem_cons.mp hd with rfl | hd
  · exact ⟨by rw [if_pos rfl]; exact (nf_hit (n := 2) rfl (by decide +kernel)), (show Smn 3 _ from (smn_tup (smn_cons (smn_lit (by decide +kernel)) (smn_cons (smn_lit (by decide +kernel)) (smn_cons (smn_str ho) smn_nil))) (by show 3 ≤ 1000; decide))).sml, rfl⟩
  rcases List.mem_cons.mp hd with rfl | hd
  · exact ⟨by rw [if_pos rfl]; exact (nf_hit (n := 2) rfl (by decide +kernel)), (show Smn 3 _ from (smn_tup (smn_cons (smn_lit (by decide +kernel)) (smn_cons (smn_str ho) (smn_cons (smn_lit (by decide +kernel)) smn_nil))) (by show 3 ≤ 1000; decide))).sml, rfl⟩
  rcases List.mem_cons.mp hd with rfl | hd
  · exact ⟨by rw [if_pos rfl]; exact (nf_hit (n := 3) rfl (by decide +kernel)), (show Smn 3 _ from (smn_tup (smn_cons (smn_lit (by decide +kernel)) (smn_cons (smn_str ho) (smn_cons (smn_str ht) (smn_cons (smn_str ht) smn_nil)))) (by show 4 ≤ 1000; decide))).sml, rfl⟩
  rcases List.mem_cons.mp hd with rfl | hd
  · exact ⟨by rw [if_pos rfl]; exact (nf_hit (n := 1) rfl (by decide +kernel)), (show Smn 3 _ from (smn_tup (smn_cons (smn_lit (by decide +kernel)) (smn_cons (smn_str ho) smn_nil)) (by show 2 ≤ 1000; decide))).sml, rfl⟩
  cases hd
include hw' go gt lt in
theorem bad_mark4 : ∀ d ∈ wd4 w o t, Bad "mark" d := by
  have hw := hw'
  have ho := sms_good go
  have ht := sms_good gt
  have hws : SmS w := by
    rcases hw with rfl | rfl <;> exact sms_lit (by decide +kernel)
  intro d hd
  rcases List.mem_cons.mp hd with rfl | hd
  · exact ⟨by rw [if_pos rfl]; exact (nf_hit (n := 2) rfl (by decide +kernel)), (show Smn 3 _ from (smn_tup (smn_cons (smn_lit (by decide +kernel)) (smn_cons (smn_lit (by decide +kernel)) (smn_cons (smn_str ht) smn_nil))) (by show 3 ≤ 1000; decide))).sml, rfl⟩
  rcases List.mem_cons.mp hd with rfl | hd
  · exact ⟨by rw [if_pos rfl]; exact (nf_hit (n := 2) rfl (by decide +kernel)), (show Smn 3 _ from (smn_tup (smn_cons (smn_lit (by decide +kernel)) (smn_cons (smn_lit (by decide +kernel)) (smn_cons (smn_lit (by decide +kernel)) smn_nil))) (by show 3 ≤ 1000; decide))).sml, rfl⟩
  rcases List.mem_cons.mp hd with rfl | hd
  · exact ⟨by rw [if_pos rfl]; exact (nf_hit (n := 2) rfl (by decide +kernel)), (show Smn 3 _ from (smn_tup (smn_cons (smn_lit (by decide +kernel)) (smn_cons (smn_str ho) (smn_cons (smn_tup (smn_cons (smn_str ht) smn_nil) (by show 1 ≤ 1000; decide)) smn_nil))) (by show 3 ≤ 1000; decide))).sml, rfl⟩
  rcases List.mem_cons.mp hd with rfl | hd
  · exact ⟨by rw [if_pos rfl]; exact (nf_hit (n := 2) rfl (by decide +kernel)), (show Smn 3 _ from (smn_tup (smn_cons (smn_lit (by decide +kernel)) (smn_cons (smn_int _) (smn_cons (smn_str ht) smn_nil))) (by show 3 ≤ 1000; decide))).sml, rfl⟩
  rcases List.mem_cons.mp hd with rfl | hd
  · exact ⟨by rw [if_pos rfl]; exact (nf_head (fun _ => rfl)), (show Smn 3 _ from (smn_tup (smn_cons (smn_int _) (smn_cons (smn_str ho) smn_nil)) (by show 2 ≤ 1000; decide))).sml, rfl⟩
  cases hd
include hw' go gt lt in
theorem bad_mark5 : ∀ d ∈ wd5 w o t, Bad "mark" d := by
  have hw := hw'
  have ho := sms_good go
  have ht := sms_good gt
  have hws : SmS w := by
    rcases hw with rfl | rfl <;> exact sms_lit (by decide +kernel)
  intro d hd
  rcases List.mem_cons.mp hd with rfl | hd
  · exact ⟨by rw [if_pos rfl]; exact (nf_hit (n := 1) rfl (by decide +kernel)), (show Smn 3 _ from (smn_tup (smn_cons (smn_lit (by decide +kernel)) (smn_cons (smn_tup (smn_cons (smn_str ho) smn_nil) (by show 1 ≤ 1000; decide)) smn_nil)) (by show 2 ≤ 1000; decide))).sml, rfl⟩
  rcases List.mem_cons.mp hd with rfl | hd
  · exact ⟨by rw [if_pos rfl]; exact (nf_hit (n := 1) rfl (by decide +kernel)), (show Smn 3 _ from (smn_tup (smn_cons (smn_lit (by decide +kernel)) (smn_cons (smn_tup smn_nil (by show 0 ≤ 1000; decide)) smn_nil)) (by show 2 ≤ 1000; decide))).sml, rfl⟩
  rcases List.mem_cons.mp hd with rfl | hd
  · exact ⟨by rw [if_pos rfl]; exact (nf_hit (n := 2) rfl (by decide +kernel)), (show Smn 3 _ from (smn_tup (smn_cons (smn_lit (by decide +kernel)) (smn_cons (smn_str ho) (smn_cons (smn_str ht) smn_nil))) (by show 3 ≤ 1000; decide))).sml, rfl⟩
  rcases List.mem_cons.mp hd with rfl | hd
  · exact ⟨by rw [if_pos rfl]; exact (nf_hit (n := 2) rfl (by decide +kernel)), (show Smn 3 _ from (smn_tup (smn_cons (smn_lit (by decide +kernel)) (smn_cons (smn_lit (by decide +kernel)) (smn_cons (smn_str ht) smn_nil))) (by show 3 ≤ 1000; decide))).sml, rfl⟩
  rcases List.mem_cons.mp hd with rfl | hd
  · exact ⟨by rw [if_pos rfl]; exact (nf_mark rfl), (show Smn 3 _ from (smn_tup (smn_cons (smn_lit (by decide +kernel)) (smn_cons (smn_tup (smn_cons (smn_str ho) smn_nil) (by show 1 ≤ 1000; decide)) smn_nil)) (by show 2 ≤ 1000; decide))).sml, rfl⟩
  cases hd
include hw' go gt lt in
theorem bad_mark6 : ∀ d ∈ wd6 w o t, Bad "mark" d := by
  have hw := hw'
  have ho := sms_good go
  have ht := sms_good gt
  have hws : SmS w := by
    rcases hw with rfl | rfl <;> exact sms_lit (by decide +kernel)
  intro d hd
  rcases List.mem_cons.mp hd with rfl | hd
  · exact ⟨by rw [if_pos rfl]; exact (nf_hit (n := 0) rfl (by decide +kernel)), (show Smn 3 _ from (smn_tup (smn_cons (smn_lit (by decide +kernel)) smn_nil) (by show 1 ≤ 1000; decide))).sml, rfl⟩
  rcases List.mem_cons.mp hd with rfl | hd
  · exact ⟨by rw [if_pos rfl]; exact (nf_hit (n := 2) rfl (by decide +kernel)), (show Smn 3 _ from (smn_tup (smn_cons (smn_lit (by decide +kernel)) (smn_cons (smn_str ho) (smn_cons (smn_str ht) smn_nil))) (by show 3 ≤ 1000; decide))).sml, rfl⟩
  rcases List.mem_cons.mp hd with rfl | hd
  · exact ⟨by rw [if_pos rfl]; exact (nf_mark (by decide +kernel)), (show Smn 3 _ from (smn_tup (smn_cons (smn_lit (by decide +kernel)) (smn_cons (smn_lit (by decide +kernel)) smn_nil)) (by show 2 ≤ 1000; decide))).sml, rfl⟩
  rcases List.mem_cons.mp hd with rfl | hd
  · exact ⟨by rw [if_pos rfl]; exact (nf_not rfl), (show Smn 3 _ from (smn_lst (smn_cons (smn_lit (by decide +kernel)) (smn_cons (smn_str ho) smn_nil)) (by show 2 ≤ 1000; decide))).sml, rfl⟩
  cases hd
include hw' go gt lt in
theorem bad_box1 : ∀ d ∈ wd1 w o t, Bad "box" d := by
  have hw := hw'
  have ho := sms_good go
  have ht := sms_good gt
  have hws : SmS w := by
    rcases hw with rfl | rfl <;> exact sms_lit (by decide +kernel)
  intro d hd
  rcases List.mem_cons.mp hd with rfl | hd
  · exact ⟨by rw [if_neg (by decide +kernel)]; exact (nf_not rfl), (show Smn 3 _ from (smn_int _)).sml, rfl⟩
  rcases List.mem_cons.mp hd with rfl | hd
  · exact ⟨by rw [if_neg (by decide +kernel)]; exact (nf_not rfl), (show Smn 3 _ from (smn_bl _)).sml, rfl⟩
  rcases List.mem_cons.mp hd with rfl | hd
  · exact ⟨by rw [if_neg (by decide +kernel)]; exact (nf_not rfl), (show Smn 3 _ from (smn_str ho)).sml, rfl⟩
  rcases List.mem_cons.mp hd with rfl | hd
  · exact ⟨by rw [if_neg (by decide +kernel)]; exact nf_nil, (show Smn 3 _ from (smn_tup smn_nil (by show 0 ≤ 1000; decide))).sml, rfl⟩
  rcases List.mem_cons.mp hd with rfl | hd
  · exact ⟨by rw [if_neg (by decide +kernel)]; exact (nf_hit (n := 1) rfl (by decide +kernel)), (show Smn 3 _ from (smn_tup (smn_cons (smn_lit (by decide +kernel)) (smn_cons (smn_tup (smn_cons (smn_str ho) smn_nil) (by show 1 ≤ 1000; decide)) smn_nil)) (by show 2 ≤ 1000; decide))).sml, rfl⟩
  rcases List.mem_cons.mp hd with rfl | hd
  · exact ⟨by rw [if_neg (by decide +kernel)]; exact (nf_not rfl), (show Smn 3 _ from (smn_lst (smn_cons (smn_str hws) (smn_cons (smn_tup (smn_cons (smn_str ho) smn_nil) (by show 1 ≤ 1000; decide)) smn_nil)) (by show 2 ≤ 1000; decide))).sml, rfl⟩
  rcases List.mem_cons.mp hd with rfl | hd
  · exact ⟨by rw [if_neg (by decide +kernel)]; exact (nf_head (fun _ => rfl)), (show Smn 3 _ from (smn_tup (smn_cons (smn_tup (smn_cons (smn_str ho) smn_nil) (by show 1 ≤ 1000; decide)) (smn_cons (smn_str hws) smn_nil)) (by show 2 ≤ 1000; decide))).sml, rfl⟩
  rcases List.mem_cons.mp hd with rfl | hd
  · exact ⟨by rw [if_neg (by decide +kernel)]; exact (nfb0 hw), (show Smn 3 _ from (smn_tup (smn_cons (smn_str hws) smn_nil) (by show 1 ≤ 1000; decide))).sml, rfl⟩
  rcases List.mem_cons.mp hd with rfl | hd
  · exact ⟨by rw [if_neg (by decide +kernel)]; exact (nfb2 hw rfl), (show Smn 3 _ from (smn_tup (smn_cons (smn_str hws) (smn_cons (smn_tup (smn_cons (smn_str ho) smn_nil) (by show 1 ≤ 1000; decide)) (smn_cons (smn_tup (smn_cons (smn_str ht) smn_nil) (by show 1 ≤ 1000; decide)) smn_nil))) (by show 3 ≤ 1000; decide))).sml, rfl⟩
  cases hd
include hw' go gt lt in
theorem bad_box2 : ∀ d ∈ wd2 w o t, Bad "box" d := by
  have hw := hw'
  have ho := sms_good go
  have ht := sms_good gt
  have hws : SmS w := by
    rcases hw with rfl | rfl <;> exact sms_lit (by decide +kernel)
  have it1 : isItemsD (.tuple [.str (S t), .str (S o)]) = false := by
    show ([PyData.str (S t), PyData.str (S o)].all isNameD && (ltS (S t) (S o) && true)) = false
    rw [ltS_asym lt]
    simp
  have it2 : isItemsD (.tuple [.str (S o), .str (S o)]) = false := by
    show ([PyData.str (S o), PyData.str (S o)].all isNameD && (ltS (S o) (S o) && true)) = false
    rw [ltS_irr]
    simp
  intro d hd
  rcases List.mem_cons.mp hd with rfl | hd
  · exact ⟨by rw [if_neg (by decide +kernel)]; exact (nf_items hw rfl), (show Smn 3 _ from (smn_tup (smn_cons (smn_str hws) (smn_cons (smn_lst (smn_cons (smn_str ho) smn_nil) (by show 1 ≤ 1000; decide)) smn_nil)) (by show 2 ≤ 1000; decide))).sml, rfl⟩
  rcases List.mem_cons.mp hd with rfl | hd
  · exact ⟨by rw [if_neg (by decide +kernel)]; exact (nf_items hw rfl), (show Smn 3 _ from (smn_tup (smn_cons (smn_str hws) (smn_cons (smn_str ho) smn_nil)) (by show 2 ≤ 1000; decide))).sml, rfl⟩
  rcases List.mem_cons.mp hd with rfl | hd
  · exact ⟨by rw [if_neg (by decide +kernel)]; exact (nf_items hw it1), (show Smn 3 _ from (smn_tup (smn_cons (smn_str hws) (smn_cons (smn_tup (smn_cons (smn_str ht) (smn_cons (smn_str ho) smn_nil)) (by show 2 ≤ 1000; decide)) smn_nil)) (by show 2 ≤ 1000; decide))).sml, rfl⟩
  rcases List.mem_cons.mp hd with rfl | hd
  · exact ⟨by rw [if_neg (by decide +kernel)]; exact (nf_items hw it2), (show Smn 3 _ from (smn_tup (smn_cons (smn_str hws) (smn_cons (smn_tup (smn_cons (smn_str ho) (smn_cons (smn_str ho) smn_nil)) (by show 2 ≤ 1000; decide)) smn_nil)) (by show 2 ≤ 1000; decide))).sml, rfl⟩
  rcases List.mem_cons.mp hd with rfl | hd
  · exact ⟨by rw [if_neg (by decide +kernel)]; exact (nf_items hw (by decide +kernel)), (show Smn 3 _ from (smn_tup (smn_cons (smn_str hws) (smn_cons (smn_tup (smn_cons (smn_lit (by decide +kernel)) smn_nil) (by show 1 ≤ 1000; decide)) smn_nil)) (by show 2 ≤ 1000; decide))).sml, rfl⟩
  rcases List.mem_cons.mp hd with rfl | hd
  · exact ⟨by rw [if_neg (by decide +kernel)]; exact (nf_items hw rfl), (show Smn 3 _ from (smn_tup (smn_cons (smn_str hws) (smn_cons (smn_tup (smn_cons (smn_int _) smn_nil) (by show 1 ≤ 1000; decide)) smn_nil)) (by show 2 ≤ 1000; decide))).sml, rfl⟩
  cases hd
include hw' go gt lt in
theorem bad_box3 : ∀ d ∈ wd3 w o t, Bad "box" d := by
  have hw := hw'
  have ho := sms_good go
  have ht := sms_good gt
  have hws : SmS w := by
    rcases hw with rfl | rfl <;> exact sms_lit (by decide +kernel)
  intro d hd
  rcases List.mem_cons.mp hd with rfl | hd
  · exact ⟨by rw [if_neg (by decide +kernel)]; exact (nf_hit (n := 1) rfl (by decide +kernel)), (show Smn 3 _ from (smn_tup (smn_cons (smn_lit (by decide +kernel)) (smn_cons (smn_str ho) smn_nil)) (by show 2 ≤ 1000; decide))).sml, rfl⟩
  rcases List.mem_cons.mp hd with rfl | hd
  · exact ⟨by rw [if_neg (by decide +kernel)]; exact (nf_early (.inl (by decide +kernel))), (show Smn 3 _ from (smn_tup (smn_cons (smn_lit (by decide +kernel)) (smn_cons (smn_lit (by decide +kernel)) (smn_cons (smn_str ho) smn_nil))) (by show 3 ≤ 1000; decide))).sml, rfl⟩
  rcases List.mem_cons.mp hd with rfl | hd
  · exact ⟨by rw [if_neg (by decide +kernel)]; exact (nf_early (.inr (by decide +kernel))), (show Smn 3 _ from (smn_tup (smn_cons (smn_lit (by decide +kernel)) (smn_cons (smn_str ho) (smn_cons (smn_lit (by decide +kernel)) smn_nil))) (by show 3 ≤ 1000; decide))).sml, rfl⟩
  rcases List.mem_cons.mp hd with rfl | hd
  · exact ⟨by rw [if_neg (by decide +kernel)]; exact (nf_hit (n := 3) rfl (by decide +kernel)), (show Smn 3 _ from (smn_tup (smn_cons (smn_lit (by decide +kernel)) (smn_cons (smn_str ho) (smn_cons (smn_str ht) (smn_cons (smn_str ht) smn_nil)))) (by show 4 ≤ 1000; decide))).sml, rfl⟩
  rcases List.mem_cons.mp hd with rfl | hd
  · exact ⟨by rw [if_neg (by decide +kernel)]; exact (nf_hit (n := 1) rfl (by decide +kernel)), (show Smn 3 _ from (smn_tup (smn_cons (smn_lit (by decide +kernel)) (smn_cons (smn_str ho) smn_nil)) (by show 2 ≤ 1000; decide))).sml, rfl⟩
  cases hd
include hw' go gt lt in
theorem bad_box4 : ∀ d ∈ wd4 w o t, Bad "box" d := by
  have hw := hw'
  have ho := sms_good go
  have ht := sms_good gt
  have hws : SmS w := by
    rcases hw with rfl | rfl <;> exact sms_lit (by decide +kernel)
  intro d hd
  rcases List.mem_cons.mp hd with rfl | hd
  · exact ⟨by rw [if_neg (by decide +kernel)]; exact (nf_late (.inl (by decide +kernel))), (show Smn 3 _ from (smn_tup (smn_cons (smn_lit (by decide +kernel)) (smn_cons (smn_lit (by decide +kernel)) (smn_cons (smn_str ht) smn_nil))) (by show 3 ≤ 1000; decide))).sml, rfl⟩
  rcases List.mem_cons.mp hd with rfl | hd
  · exact ⟨by rw [if_neg (by decide +kernel)]; exact (nf_late (.inr (by decide +kernel))), (show Smn 3 _ from (smn_tup (smn_cons (smn_lit (by decide +kernel)) (smn_cons (smn_lit (by decide +kernel)) (smn_cons (smn_lit (by decide +kernel)) smn_nil))) (by show 3 ≤ 1000; decide))).sml, rfl⟩
  rcases List.mem_cons.mp hd with rfl | hd
  · exact ⟨by rw [if_neg (by decide +kernel)]; exact (nf_late (.inr rfl)), (show Smn 3 _ from (smn_tup (smn_cons (smn_lit (by decide +kernel)) (smn_cons (smn_str ho) (smn_cons (smn_tup (smn_cons (smn_str ht) smn_nil) (by show 1 ≤ 1000; decide)) smn_nil))) (by show 3 ≤ 1000; decide))).sml, rfl⟩
  rcases List.mem_cons.mp hd with rfl | hd
  · exact ⟨by rw [if_neg (by decide +kernel)]; exact (nf_late (.inl rfl)), (show Smn 3 _ from (smn_tup (smn_cons (smn_lit (by decide +kernel)) (smn_cons (smn_int _) (smn_cons (smn_str ht) smn_nil))) (by show 3 ≤ 1000; decide))).sml, rfl⟩
  rcases List.mem_cons.mp hd with rfl | hd
  · exact ⟨by rw [if_neg (by decide +kernel)]; exact (nf_head (fun _ => rfl)), (show Smn 3 _ from (smn_tup (smn_cons (smn_int _) (smn_cons (smn_str ho) smn_nil)) (by show 2 ≤ 1000; decide))).sml, rfl⟩
  cases hd
include hw' go gt lt in
theorem bad_box7 : ∀ d ∈ wd7 w o t, Bad "box" d := by
  have hw := hw'
  have ho := sms_good go
  have ht := sms_good gt
  have hws : SmS w := by
    rcases hw with rfl | rfl <;> exact sms_lit (by decide +kernel)
  intro d hd
  rcases List.mem_cons.mp hd with rfl | hd
  · exact ⟨by rw [if_neg (by decide +kernel)]; exact (nf_hit (n := 1) rfl (by decide +kernel)), (show Smn 3 _ from (smn_tup (smn_cons (smn_lit (by decide +kernel)) (smn_cons (smn_str ho) smn_nil)) (by show 2 ≤ 1000; decide))).sml, rfl⟩
  rcases List.mem_cons.mp hd with rfl | hd
  · exact ⟨by rw [if_neg (by decide +kernel)]; exact (nf_hit (n := 1) rfl (by decide +kernel)), (show Smn 3 _ from (smn_tup (smn_cons (smn_lit (by decide +kernel)) (smn_cons (smn_str ht) smn_nil)) (by show 2 ≤ 1000; decide))).sml, rfl⟩
  cases hd
end
end Dr
set_option maxHeartbeats 8000000
namespace Dr
open PySem PySem.Spec PyProof.Rows L2
open SX (S S_len S_cat)
abbrev sWD : Stmt := topS 28
theorem scWD : FnScope ["_law_bag_here", "_law_sort", "_law_one", "_law_two", "_law_word", "_law_listed"] ["_law_bag_here", "_law_sort", "_law_one", "_law_two"] (defScope sWD) := ⟨rfl, rfl, rfl, by decide +kernel, rfl, by decide +kernel, by decide +kernel⟩
theorem dpAll_rep {K : PySem.W.Frag} {H : Hp} {vs : List V} {ds : List PyData} (h : DpAll K H vs ds) : ∀ k : Nat, DpAll K H (List.replicate k vs).flatten (List.replicate k ds).flatten
  | 0 => .nil
  | k + 1 => dpAll_app h (dpAll_rep h k)
theorem rep_len {α : Type} (xs : List α) : ∀ k : Nat, (List.replicate k xs).flatten.length = k * xs.length
  | 0 => by simp
  | k + 1 => by
    show (xs ++ (List.replicate k xs).flatten).length = _
    rw [List.length_append, rep_len xs k, Nat.succ_mul, Nat.add_comm]
theorem mem_rep {α : Type} {x : α} {xs : List α} : ∀ {k : Nat}, x ∈ (List.replicate k xs).flatten → x ∈ xs
  | 0, h => by cases h
  | k + 1, h => by
    rcases List.mem_append.mp (show x ∈ xs ++ (List.replicate k xs).flatten from h) with h | h
    · exact h
    · exact mem_rep h
section
variable {P : Program} {w : World} {K : PySem.W.Frag} {mg : Str → Option Value} {base : Heap}
/-- a list of wrong defaults stands at l -/
structure LsAt (K : PySem.W.Frag) (p : Addr) (H0 H : Hp) (l : Addr) (hs : Str) (n : Nat) : Prop where
  kp : Kp p H0 H
  np : l ≠ p
  ex : ∃ (xs : List V) (ds : List PyData), H l = some (.lst xs) ∧ DqAll K p H xs ds ∧ xs.length = n ∧ ∀ d ∈ ds, Bad hs d
theorem LsAt.add {p l q : Addr} {H0 H H2 : Hp} {hs : Str} {n : Nat} {xs2 : List V} {ds2 : List PyData} (h : LsAt K p H0 H l hs n) (s : Same H H2) (h2 : DqAll K p H2 xs2 ds2) (b : ∀ d ∈ ds2, Bad hs d) (nq : H2 q = none) :
    ∀ xs, H l = some (.lst xs) → LsAt K p H0 (upd H2 q (.lst (xs ++ xs2))) q hs (n + xs2.length) := fun xs hl => by
  obtain ⟨ys, ds, hy, hd, hn, hb⟩ := h.ex
  rw [hl] at hy
  cases hy
  have k2 := h.kp.same s
  have sq := same_upd (o := .lst (xs ++ xs2)) nq
  refine ⟨k2.same sq, bag_ne k2.2 nq, _, ds ++ ds2, upd_same, dpAll_same (hid_same sq) (dpAll_app (dpAll_same (hid_same s) hd) h2), by rw [List.length_append, hn], fun d hd => ?_⟩
  rcases List.mem_append.mp hd with h | h
  · exact hb d h
  · exact b d h
def spWD (K : PySem.W.Frag) : Sp := fun vs H Q _ => ∃ (p : Addr) (hs : Str) (o t : List Nat), vs = [.ref p, .str hs, .str (S o), .str (S t)] ∧ Bag H p ∧ (hs = "mark" ∨ hs = "box") ∧ GoodN o ∧ GoodN t ∧ ltS (S o) (S t) = true ∧ ∀ H' v d, Kp p H H' → Dq K p H' v d → Bad hs d → Q v H'
theorem ok_wd {f fO : Addr} {fd fdO : FuncData} (F : Fun K "_law_wrong_default" "_law_wrong_default" sWD f fd) (GO : FnOk P w K mg base CX0 2 fO fdO ["_law_bag_here", "_law_some"] (spOf K)) (mO : mg "_law_of" = some (.ref fO)) (kO : PySem.W.keepIn K (.ref fO) = true) (bO : Binds K fdO ["_law_bag_here", "_law_some"] []) :
    FnOk P w K mg base CX0 3 f fd ["_law_bag_here", "_law_sort", "_law_one", "_law_two"] (spWD K) := by
  refine F.ok scWD (fun vs H Q E h => ?_) (fun cdv A outer s H vs Q E hr h => ?_)
  · obtain ⟨p, hs, o, t, rfl, _⟩ := h
    rfl
  · obtain ⟨p, hs, o, t, rfl, hB, hhs, go, gt, lt, q⟩ := h
    refine ⟨_, pss_cons (ps_set (i := 4) scWD.nd rfl (.inl rfl) (pe_call GO hr (by rfl) mO kO bO .nil pass0 (pa_cons (pv 0) (pa_cons (pe_lst (pa_cons pe_str (pa_cons pe_str pa_nil))) pa_nil))))
      (pss_cons (ps_set (i := 5) scWD.nd rfl (.inl rfl) (pd_list (p := p) (pad_cons pd_int (pad_cons pd_bl (pad_cons (pd_v 2 (pv 2)) (pad_cons (pd_tup pad_nil) (pad_cons (pd_tup (pad_cons pd_str (pad_cons (pd_tup (pad_cons (pd_v 2 (pv 2)) pad_nil up_nil)) pad_nil up_nil) (up_cons (up_tup (up_cons up_sl up_nil)) up_nil))) (pad_cons (pd_lst (pad_cons (pd_v 4 (pv 4)) (pad_cons (pd_tup (pad_cons (pd_v 2 (pv 2)) pad_nil up_nil)) pad_nil up_nil) (up_cons (up_tup (up_cons up_sl up_nil)) up_nil))) (pad_cons (pd_tup (pad_cons (pd_tup (pad_cons (pd_v 2 (pv 2)) pad_nil up_nil)) (pad_cons (pd_v 4 (pv 4)) pad_nil up_nil) (up_cons up_sl up_nil))) (pad_cons (pd_tup (pad_cons (pd_v 4 (pv 4)) pad_nil up_nil)) (pad_cons (pd_tup (pad_cons (pd_v 4 (pv 4)) (pad_cons (pd_tup (pad_cons (pd_v 2 (pv 2)) pad_nil up_nil)) (pad_cons (pd_tup (pad_cons (pd_v 3 (pv 3)) pad_nil up_nil)) pad_nil up_nil) (up_cons (up_tup (up_cons up_sl up_nil)) up_nil)) (up_cons (up_tup (up_cons up_sl up_nil)) (up_cons (up_tup (up_cons up_sl up_nil)) up_nil)))) pad_nil up_nil) (up_cons (up_tup (up_cons up_sl (up_cons (up_tup (up_cons up_sl up_nil)) (up_cons (up_tup (up_cons up_sl up_nil)) up_nil)))) up_nil)) (up_cons (up_tup (up_cons up_sl up_nil)) (up_cons (up_tup (up_cons up_sl (up_cons (up_tup (up_cons up_sl up_nil)) (up_cons (up_tup (up_cons up_sl up_nil)) up_nil)))) up_nil))) (up_cons (up_tup (up_cons (up_tup (up_cons up_sl up_nil)) (up_cons up_sl up_nil))) (up_cons (up_tup (up_cons up_sl up_nil)) (up_cons (up_tup (up_cons up_sl (up_cons (up_tup (up_cons up_sl up_nil)) (up_cons (up_tup (up_cons up_sl up_nil)) up_nil)))) up_nil)))) (up_cons (up_lst (up_cons up_sl (up_cons (up_tup (up_cons up_sl up_nil)) up_nil))) (up_cons (up_tup (up_cons (up_tup (up_cons up_sl up_nil)) (up_cons up_sl up_nil))) (up_cons (up_tup (up_cons up_sl up_nil)) (up_cons (up_tup (up_cons up_sl (up_cons (up_tup (up_cons up_sl up_nil)) (up_cons (up_tup (up_cons up_sl up_nil)) up_nil)))) up_nil))))) (up_cons (up_tup (up_cons up_is (up_cons (up_tup (up_cons up_sl up_nil)) up_nil))) (up_cons (up_lst (up_cons up_sl (up_cons (up_tup (up_cons up_sl up_nil)) up_nil))) (up_cons (up_tup (up_cons (up_tup (up_cons up_sl up_nil)) (up_cons up_sl up_nil))) (up_cons (up_tup (up_cons up_sl up_nil)) (up_cons (up_tup (up_cons up_sl (up_cons (up_tup (up_cons up_sl up_nil)) (up_cons (up_tup (up_cons up_sl up_nil)) up_nil)))) up_nil)))))) (up_cons (up_tup up_nil) (up_cons (up_tup (up_cons up_is (up_cons (up_tup (up_cons up_sl up_nil)) up_nil))) (up_cons (up_lst (up_cons up_sl (up_cons (up_tup (up_cons up_sl up_nil)) up_nil))) (up_cons (up_tup (up_cons (up_tup (up_cons up_sl up_nil)) (up_cons up_sl up_nil))) (up_cons (up_tup (up_cons up_sl up_nil)) (up_cons (up_tup (up_cons up_sl (up_cons (up_tup (up_cons up_sl up_nil)) (up_cons (up_tup (up_cons up_sl up_nil)) up_nil)))) up_nil))))))) (up_cons up_sl (up_cons (up_tup up_nil) (up_cons (up_tup (up_cons up_is (up_cons (up_tup (up_cons up_sl up_nil)) up_nil))) (up_cons (up_lst (up_cons up_sl (up_cons (up_tup (up_cons up_sl up_nil)) up_nil))) (up_cons (up_tup (up_cons (up_tup (up_cons up_sl up_nil)) (up_cons up_sl up_nil))) (up_cons (up_tup (up_cons up_sl up_nil)) (up_cons (up_tup (up_cons up_sl (up_cons (up_tup (up_cons up_sl up_nil)) (up_cons (up_tup (up_cons up_sl up_nil)) up_nil)))) up_nil)))))))) (up_cons up_is (up_cons up_sl (up_cons (up_tup up_nil) (up_cons (up_tup (up_cons up_is (up_cons (up_tup (up_cons up_sl up_nil)) up_nil))) (up_cons (up_lst (up_cons up_sl (up_cons (up_tup (up_cons up_sl up_nil)) up_nil))) (up_cons (up_tup (up_cons (up_tup (up_cons up_sl up_nil)) (up_cons up_sl up_nil))) (up_cons (up_tup (up_cons up_sl up_nil)) (up_cons (up_tup (up_cons up_sl (up_cons (up_tup (up_cons up_sl up_nil)) (up_cons (up_tup (up_cons up_sl up_nil)) up_nil)))) up_nil)))))))))))
      (pss_cons (ps_set (i := 5) scWD.nd rfl (.inl rfl) (pe_op op_cat (pv 5) (pd_list (p := p) (pad_cons (pd_tup (pad_cons (pd_v 4 (pv 4)) (pad_cons (pd_lst (pad_cons (pd_v 2 (pv 2)) pad_nil up_nil)) pad_nil up_nil) (up_cons (up_lst (up_cons up_sl up_nil)) up_nil))) (pad_cons (pd_tup (pad_cons (pd_v 4 (pv 4)) (pad_cons (pd_v 2 (pv 2)) pad_nil up_nil) (up_cons up_sl up_nil))) (pad_cons (pd_tup (pad_cons (pd_v 4 (pv 4)) (pad_cons (pd_tup (pad_cons (pd_v 3 (pv 3)) (pad_cons (pd_v 2 (pv 2)) pad_nil up_nil) (up_cons up_sl up_nil))) pad_nil up_nil) (up_cons (up_tup (up_cons up_sl (up_cons up_sl up_nil))) up_nil))) (pad_cons (pd_tup (pad_cons (pd_v 4 (pv 4)) (pad_cons (pd_tup (pad_cons (pd_v 2 (pv 2)) (pad_cons (pd_v 2 (pv 2)) pad_nil up_nil) (up_cons up_sl up_nil))) pad_nil up_nil) (up_cons (up_tup (up_cons up_sl (up_cons up_sl up_nil))) up_nil))) (pad_cons (pd_tup (pad_cons (pd_v 4 (pv 4)) (pad_cons (pd_tup (pad_cons pd_str pad_nil up_nil)) pad_nil up_nil) (up_cons (up_tup (up_cons up_is up_nil)) up_nil))) (pad_cons (pd_tup (pad_cons (pd_v 4 (pv 4)) (pad_cons (pd_tup (pad_cons pd_int pad_nil up_nil)) pad_nil up_nil) (up_cons (up_tup (up_cons up_is up_nil)) up_nil))) pad_nil up_nil) (up_cons (up_tup (up_cons up_sl (up_cons (up_tup (up_cons up_is up_nil)) up_nil))) up_nil)) (up_cons (up_tup (up_cons up_sl (up_cons (up_tup (up_cons up_is up_nil)) up_nil))) (up_cons (up_tup (up_cons up_sl (up_cons (up_tup (up_cons up_is up_nil)) up_nil))) up_nil))) (up_cons (up_tup (up_cons up_sl (up_cons (up_tup (up_cons up_sl (up_cons up_sl up_nil))) up_nil))) (up_cons (up_tup (up_cons up_sl (up_cons (up_tup (up_cons up_is up_nil)) up_nil))) (up_cons (up_tup (up_cons up_sl (up_cons (up_tup (up_cons up_is up_nil)) up_nil))) up_nil)))) (up_cons (up_tup (up_cons up_sl (up_cons (up_tup (up_cons up_sl (up_cons up_sl up_nil))) up_nil))) (up_cons (up_tup (up_cons up_sl (up_cons (up_tup (up_cons up_sl (up_cons up_sl up_nil))) up_nil))) (up_cons (up_tup (up_cons up_sl (up_cons (up_tup (up_cons up_is up_nil)) up_nil))) (up_cons (up_tup (up_cons up_sl (up_cons (up_tup (up_cons up_is up_nil)) up_nil))) up_nil))))) (up_cons (up_tup (up_cons up_sl (up_cons up_sl up_nil))) (up_cons (up_tup (up_cons up_sl (up_cons (up_tup (up_cons up_sl (up_cons up_sl up_nil))) up_nil))) (up_cons (up_tup (up_cons up_sl (up_cons (up_tup (up_cons up_sl (up_cons up_sl up_nil))) up_nil))) (up_cons (up_tup (up_cons up_sl (up_cons (up_tup (up_cons up_is up_nil)) up_nil))) (up_cons (up_tup (up_cons up_sl (up_cons (up_tup (up_cons up_is up_nil)) up_nil))) up_nil)))))))))
      (pss_cons (ps_set (i := 5) scWD.nd rfl (.inl rfl) (pe_op op_cat (pv 5) (pd_list (p := p) (pad_cons (pd_tup (pad_cons pd_str (pad_cons (pd_v 2 (pv 2)) pad_nil up_nil) (up_cons up_sl up_nil))) (pad_cons (pd_tup (pad_cons pd_str (pad_cons pd_str (pad_cons (pd_v 2 (pv 2)) pad_nil up_nil) (up_cons up_sl up_nil)) (up_cons up_is (up_cons up_sl up_nil)))) (pad_cons (pd_tup (pad_cons pd_str (pad_cons (pd_v 2 (pv 2)) (pad_cons pd_str pad_nil up_nil) (up_cons up_is up_nil)) (up_cons up_sl (up_cons up_is up_nil)))) (pad_cons (pd_tup (pad_cons pd_str (pad_cons (pd_v 2 (pv 2)) (pad_cons (pd_v 3 (pv 3)) (pad_cons (pd_v 3 (pv 3)) pad_nil up_nil) (up_cons up_sl up_nil)) (up_cons up_sl (up_cons up_sl up_nil))) (up_cons up_sl (up_cons up_sl (up_cons up_sl up_nil))))) (pad_cons (pd_tup (pad_cons pd_str (pad_cons (pd_v 2 (pv 2)) pad_nil up_nil) (up_cons up_sl up_nil))) pad_nil up_nil) (up_cons (up_tup (up_cons up_is (up_cons up_sl up_nil))) up_nil)) (up_cons (up_tup (up_cons up_is (up_cons up_sl (up_cons up_sl (up_cons up_sl up_nil))))) (up_cons (up_tup (up_cons up_is (up_cons up_sl up_nil))) up_nil))) (up_cons (up_tup (up_cons up_is (up_cons up_sl (up_cons up_is up_nil)))) (up_cons (up_tup (up_cons up_is (up_cons up_sl (up_cons up_sl (up_cons up_sl up_nil))))) (up_cons (up_tup (up_cons up_is (up_cons up_sl up_nil))) up_nil)))) (up_cons (up_tup (up_cons up_is (up_cons up_is (up_cons up_sl up_nil)))) (up_cons (up_tup (up_cons up_is (up_cons up_sl (up_cons up_is up_nil)))) (up_cons (up_tup (up_cons up_is (up_cons up_sl (up_cons up_sl (up_cons up_sl up_nil))))) (up_cons (up_tup (up_cons up_is (up_cons up_sl up_nil))) up_nil))))))))
      (pss_cons (ps_set (i := 5) scWD.nd rfl (.inl rfl) (pe_op op_cat (pv 5) (pd_list (p := p) (pad_cons (pd_tup (pad_cons pd_str (pad_cons pd_str (pad_cons (pd_v 3 (pv 3)) pad_nil up_nil) (up_cons up_sl up_nil)) (up_cons up_is (up_cons up_sl up_nil)))) (pad_cons (pd_tup (pad_cons pd_str (pad_cons pd_str (pad_cons pd_str pad_nil up_nil) (up_cons up_is up_nil)) (up_cons up_is (up_cons up_is up_nil)))) (pad_cons (pd_tup (pad_cons pd_str (pad_cons (pd_v 2 (pv 2)) (pad_cons (pd_tup (pad_cons (pd_v 3 (pv 3)) pad_nil up_nil)) pad_nil up_nil) (up_cons (up_tup (up_cons up_sl up_nil)) up_nil)) (up_cons up_sl (up_cons (up_tup (up_cons up_sl up_nil)) up_nil)))) (pad_cons (pd_tup (pad_cons pd_str (pad_cons pd_int (pad_cons (pd_v 3 (pv 3)) pad_nil up_nil) (up_cons up_sl up_nil)) (up_cons up_is (up_cons up_sl up_nil)))) (pad_cons (pd_tup (pad_cons pd_int (pad_cons (pd_v 2 (pv 2)) pad_nil up_nil) (up_cons up_sl up_nil))) pad_nil up_nil) (up_cons (up_tup (up_cons up_is (up_cons up_sl up_nil))) up_nil)) (up_cons (up_tup (up_cons up_is (up_cons up_is (up_cons up_sl up_nil)))) (up_cons (up_tup (up_cons up_is (up_cons up_sl up_nil))) up_nil))) (up_cons (up_tup (up_cons up_is (up_cons up_sl (up_cons (up_tup (up_cons up_sl up_nil)) up_nil)))) (up_cons (up_tup (up_cons up_is (up_cons up_is (up_cons up_sl up_nil)))) (up_cons (up_tup (up_cons up_is (up_cons up_sl up_nil))) up_nil)))) (up_cons (up_tup (up_cons up_is (up_cons up_is (up_cons up_is up_nil)))) (up_cons (up_tup (up_cons up_is (up_cons up_sl (up_cons (up_tup (up_cons up_sl up_nil)) up_nil)))) (up_cons (up_tup (up_cons up_is (up_cons up_is (up_cons up_sl up_nil)))) (up_cons (up_tup (up_cons up_is (up_cons up_sl up_nil))) up_nil))))))))
      (C8.pss_cut (ps_if (pt_cmpR op_eq (pv 1) pe_str (nomark _))
        (pss_cons (ps_set (i := 5) scWD.nd rfl (.inl rfl) (pe_op op_cat (pv 5) (pe_op op_rep (pd_list (p := p) (pad_cons (pd_tup (pad_cons pd_str (pad_cons (pd_tup (pad_cons (pd_v 2 (pv 2)) pad_nil up_nil)) pad_nil up_nil) (up_cons (up_tup (up_cons up_sl up_nil)) up_nil))) (pad_cons (pd_tup (pad_cons pd_str (pad_cons (pd_tup pad_nil) pad_nil up_nil) (up_cons (up_tup up_nil) up_nil))) (pad_cons (pd_tup (pad_cons pd_str (pad_cons (pd_v 2 (pv 2)) (pad_cons (pd_v 3 (pv 3)) pad_nil up_nil) (up_cons up_sl up_nil)) (up_cons up_sl (up_cons up_sl up_nil)))) (pad_cons (pd_tup (pad_cons pd_str (pad_cons pd_str (pad_cons (pd_v 3 (pv 3)) pad_nil up_nil) (up_cons up_sl up_nil)) (up_cons up_is (up_cons up_sl up_nil)))) (pad_cons (pd_tup (pad_cons pd_str (pad_cons (pd_tup (pad_cons (pd_v 2 (pv 2)) pad_nil up_nil)) pad_nil up_nil) (up_cons (up_tup (up_cons up_sl up_nil)) up_nil))) pad_nil up_nil) (up_cons (up_tup (up_cons up_is (up_cons (up_tup (up_cons up_sl up_nil)) up_nil))) up_nil)) (up_cons (up_tup (up_cons up_is (up_cons up_is (up_cons up_sl up_nil)))) (up_cons (up_tup (up_cons up_is (up_cons (up_tup (up_cons up_sl up_nil)) up_nil))) up_nil))) (up_cons (up_tup (up_cons up_is (up_cons up_sl (up_cons up_sl up_nil)))) (up_cons (up_tup (up_cons up_is (up_cons up_is (up_cons up_sl up_nil)))) (up_cons (up_tup (up_cons up_is (up_cons (up_tup (up_cons up_sl up_nil)) up_nil))) up_nil)))) (up_cons (up_tup (up_cons up_is (up_cons (up_tup up_nil) up_nil))) (up_cons (up_tup (up_cons up_is (up_cons up_sl (up_cons up_sl up_nil)))) (up_cons (up_tup (up_cons up_is (up_cons up_is (up_cons up_sl up_nil)))) (up_cons (up_tup (up_cons up_is (up_cons (up_tup (up_cons up_sl up_nil)) up_nil))) up_nil)))))) pe_int)))
        (pss_one (ps_set (i := 5) scWD.nd rfl (.inl rfl) (pe_op op_cat (pv 5) (pe_op op_rep (pd_list (p := p) (pad_cons (pd_tup (pad_cons pd_str pad_nil up_nil)) (pad_cons (pd_tup (pad_cons pd_str (pad_cons (pd_v 2 (pv 2)) (pad_cons (pd_v 3 (pv 3)) pad_nil up_nil) (up_cons up_sl up_nil)) (up_cons up_sl (up_cons up_sl up_nil)))) (pad_cons (pd_tup (pad_cons pd_str (pad_cons pd_str pad_nil up_nil) (up_cons up_is up_nil))) (pad_cons (pd_lst (pad_cons pd_str (pad_cons (pd_v 2 (pv 2)) pad_nil up_nil) (up_cons up_sl up_nil))) pad_nil up_nil) (up_cons (up_lst (up_cons up_is (up_cons up_sl up_nil))) up_nil)) (up_cons (up_tup (up_cons up_is (up_cons up_is up_nil))) (up_cons (up_lst (up_cons up_is (up_cons up_sl up_nil))) up_nil))) (up_cons (up_tup (up_cons up_is (up_cons up_sl (up_cons up_sl up_nil)))) (up_cons (up_tup (up_cons up_is (up_cons up_is up_nil))) (up_cons (up_lst (up_cons up_is (up_cons up_sl up_nil))) up_nil))))) pe_int)))))
        (pss_one (ps_set (i := 5) scWD.nd rfl (.inl rfl) (pe_op op_cat (pv 5) (pe_op op_rep (pd_list (p := p) (pad_cons (pd_tup (pad_cons pd_str (pad_cons (pd_v 2 (pv 2)) pad_nil up_nil) (up_cons up_sl up_nil))) (pad_cons (pd_tup (pad_cons pd_str (pad_cons (pd_v 3 (pv 3)) pad_nil up_nil) (up_cons up_sl up_nil))) pad_nil up_nil) (up_cons (up_tup (up_cons up_is (up_cons up_sl up_nil))) up_nil))) pe_int)))))
      (pss_one (ps_ret (pe_call GO hr (by rfl) mO kO bO .nil pass0 (pa_cons (pv 0) (pa_cons (pv 5) pa_nil)))))))))), ?_⟩
    refine ⟨_, rfl, two_le, fun lw nw => ⟨p, .ref lw, rfl, (Kp.of hB (same_upd nw)).2, .inl ⟨lw, _, rfl, bag_ne hB nw, SqL.of upd_same, (by show 1 ≤ 2; decide), (by show 2 ≤ 1000; decide), fun H1 y k1 hy => ?_⟩⟩⟩
    have k01 := (Kp.of hB (same_upd (o := .lst [.str "once", .str "anew"]) nw)).trans k1
    obtain ⟨wd, rfl, hw⟩ : ∃ wd : Str, y = .str wd ∧ (wd = "once" ∨ wd = "anew") := by
      rcases List.mem_cons.mp hy with rfl | hy
      · exact ⟨_, rfl, .inl rfl⟩
      · rcases List.mem_cons.mp hy with rfl | hy
        · exact ⟨_, rfl, .inr rfl⟩
        · cases hy
    have bagNe : ∀ {H : Hp}, Bag H p → H p ≠ none := fun b e => by
      obtain ⟨u, v, hp, _⟩ := b
      rw [hp] at e
      cases e
    have hpn := bagNe k01.2
    refine ⟨wd1 wd o t, ⟨_, _, rfl, ⟨_, _, rfl, ⟨_, _, ⟨_, rfl, .str _⟩, ⟨_, _, ⟨_, rfl, by show 0 ≤ 1000; decide, hpn, rfl⟩, ⟨_, _, ⟨_, ⟨_, _, rfl, ⟨_, _, ⟨_, ⟨_, _, ⟨_, rfl, .str _⟩, rfl, rfl⟩, by show 1 ≤ 1000; decide, hpn, rfl⟩, rfl, rfl⟩, rfl⟩, by show 2 ≤ 1000; decide, hpn, rfl⟩, ⟨_, _, ⟨_, ⟨_, _, ⟨_, rfl, .str _⟩, ⟨_, _, ⟨_, ⟨_, _, ⟨_, rfl, .str _⟩, rfl, rfl⟩, by show 1 ≤ 1000; decide, hpn, rfl⟩, rfl, rfl⟩, rfl⟩, by show 2 ≤ 1000; decide, hpn, rfl⟩, ⟨_, _, ⟨_, ⟨_, _, ⟨_, ⟨_, _, ⟨_, rfl, .str _⟩, rfl, rfl⟩, by show 1 ≤ 1000; decide, hpn, rfl⟩, ⟨_, _, ⟨_, rfl, .str _⟩, rfl, rfl⟩, rfl⟩, by show 2 ≤ 1000; decide, hpn, rfl⟩, ⟨_, _, ⟨_, ⟨_, _, ⟨_, rfl, .str _⟩, rfl, rfl⟩, by show 1 ≤ 1000; decide, hpn, rfl⟩, ⟨_, _, ⟨_, ⟨_, _, ⟨_, rfl, .str _⟩, ⟨_, _, ⟨_, ⟨_, _, ⟨_, rfl, .str _⟩, rfl, rfl⟩, by show 1 ≤ 1000; decide, hpn, rfl⟩, ⟨_, _, ⟨_, ⟨_, _, ⟨_, rfl, .str _⟩, rfl, rfl⟩, by show 1 ≤ 1000; decide, hpn, rfl⟩, rfl, rfl⟩, rfl⟩, rfl⟩, by show 3 ≤ 1000; decide, hpn, rfl⟩, rfl, rfl⟩, rfl⟩, rfl⟩, rfl⟩, rfl⟩, rfl⟩, rfl⟩, rfl⟩, rfl⟩, by show 9 ≤ 1000; decide, hpn, fun l1 xs1 H2 s2 np1 nl1 hl1 hd1 => ?_⟩
    have b1 : ∀ d ∈ wd1 wd o t, Bad hs d := by
      rcases hhs with rfl | rfl
      · exact bad_mark1 hw go gt lt
      · exact bad_box1 hw go gt lt
    have b2 : ∀ d ∈ wd2 wd o t, Bad hs d := by
      rcases hhs with rfl | rfl
      · exact bad_mark2 hw go gt lt
      · exact bad_box2 hw go gt lt
    have b3 : ∀ d ∈ wd3 wd o t, Bad hs d := by
      rcases hhs with rfl | rfl
      · exact bad_mark3 hw go gt lt
      · exact bad_box3 hw go gt lt
    have b4 : ∀ d ∈ wd4 wd o t, Bad hs d := by
      rcases hhs with rfl | rfl
      · exact bad_mark4 hw go gt lt
      · exact bad_box4 hw go gt lt
    have LA : LsAt K p H H2 l1 hs 9 := ⟨k01.same s2, np1, xs1, wd1 wd o t, hl1, hd1, dpAll_len hd1, b1⟩
    obtain ⟨ys, es, hy, hdy, hny, _⟩ := LA.ex
    have hpn := bagNe LA.kp.2
    refine ⟨_, rfl, wd2 wd o t, ⟨_, _, ⟨_, ⟨_, _, ⟨_, rfl, .str _⟩, ⟨_, _, ⟨_, ⟨_, _, ⟨_, rfl, .str _⟩, rfl, rfl⟩, by show 1 ≤ 1000; decide, hpn, rfl⟩, rfl, rfl⟩, rfl⟩, by show 2 ≤ 1000; decide, hpn, rfl⟩, ⟨_, _, ⟨_, ⟨_, _, ⟨_, rfl, .str _⟩, ⟨_, _, ⟨_, rfl, .str _⟩, rfl, rfl⟩, rfl⟩, by show 2 ≤ 1000; decide, hpn, rfl⟩, ⟨_, _, ⟨_, ⟨_, _, ⟨_, rfl, .str _⟩, ⟨_, _, ⟨_, ⟨_, _, ⟨_, rfl, .str _⟩, ⟨_, _, ⟨_, rfl, .str _⟩, rfl, rfl⟩, rfl⟩, by show 2 ≤ 1000; decide, hpn, rfl⟩, rfl, rfl⟩, rfl⟩, by show 2 ≤ 1000; decide, hpn, rfl⟩, ⟨_, _, ⟨_, ⟨_, _, ⟨_, rfl, .str _⟩, ⟨_, _, ⟨_, ⟨_, _, ⟨_, rfl, .str _⟩, ⟨_, _, ⟨_, rfl, .str _⟩, rfl, rfl⟩, rfl⟩, by show 2 ≤ 1000; decide, hpn, rfl⟩, rfl, rfl⟩, rfl⟩, by show 2 ≤ 1000; decide, hpn, rfl⟩, ⟨_, _, ⟨_, ⟨_, _, ⟨_, rfl, .str _⟩, ⟨_, _, ⟨_, ⟨_, _, rfl, rfl, rfl⟩, by show 1 ≤ 1000; decide, hpn, rfl⟩, rfl, rfl⟩, rfl⟩, by show 2 ≤ 1000; decide, hpn, rfl⟩, ⟨_, _, ⟨_, ⟨_, _, ⟨_, rfl, .str _⟩, ⟨_, _, ⟨_, ⟨_, _, rfl, rfl, rfl⟩, by show 1 ≤ 1000; decide, hpn, rfl⟩, rfl, rfl⟩, rfl⟩, by show 2 ≤ 1000; decide, hpn, rfl⟩, rfl, rfl⟩, rfl⟩, rfl⟩, rfl⟩, rfl⟩, rfl⟩, by show 6 ≤ 1000; decide, hpn, fun lb zs Hb sb nb nlb hlb hdb => ?_⟩
    have hzl := dpAll_len hdb
    have hzn : zs.length = 6 := hzl
    refine ⟨_, _, _, _, rfl, rfl, sb _ _ hy, hlb, by rw [hny, hzn]; decide, fun q1 nq1 => ?_⟩
    have LA := LA.add sb hdb b2 nq1 ys hy
    rw [hzn] at LA
    obtain ⟨ys, es, hy, hdy, hny, _⟩ := LA.ex
    have hpn := bagNe LA.kp.2
    refine ⟨_, rfl, wd3 wd o t, ⟨_, _, ⟨_, ⟨_, _, rfl, ⟨_, _, ⟨_, rfl, .str _⟩, rfl, rfl⟩, rfl⟩, by show 2 ≤ 1000; decide, hpn, rfl⟩, ⟨_, _, ⟨_, ⟨_, _, rfl, ⟨_, _, rfl, ⟨_, _, ⟨_, rfl, .str _⟩, rfl, rfl⟩, rfl⟩, rfl⟩, by show 3 ≤ 1000; decide, hpn, rfl⟩, ⟨_, _, ⟨_, ⟨_, _, rfl, ⟨_, _, ⟨_, rfl, .str _⟩, ⟨_, _, rfl, rfl, rfl⟩, rfl⟩, rfl⟩, by show 3 ≤ 1000; decide, hpn, rfl⟩, ⟨_, _, ⟨_, ⟨_, _, rfl, ⟨_, _, ⟨_, rfl, .str _⟩, ⟨_, _, ⟨_, rfl, .str _⟩, ⟨_, _, ⟨_, rfl, .str _⟩, rfl, rfl⟩, rfl⟩, rfl⟩, rfl⟩, by show 4 ≤ 1000; decide, hpn, rfl⟩, ⟨_, _, ⟨_, ⟨_, _, rfl, ⟨_, _, ⟨_, rfl, .str _⟩, rfl, rfl⟩, rfl⟩, by show 2 ≤ 1000; decide, hpn, rfl⟩, rfl, rfl⟩, rfl⟩, rfl⟩, rfl⟩, rfl⟩, by show 5 ≤ 1000; decide, hpn, fun lb zs Hb sb nb nlb hlb hdb => ?_⟩
    have hzl := dpAll_len hdb
    have hzn : zs.length = 5 := hzl
    refine ⟨_, _, _, _, rfl, rfl, sb _ _ hy, hlb, by rw [hny, hzn]; decide, fun q1 nq1 => ?_⟩
    have LA := LA.add sb hdb b3 nq1 ys hy
    rw [hzn] at LA
    obtain ⟨ys, es, hy, hdy, hny, _⟩ := LA.ex
    have hpn := bagNe LA.kp.2
    refine ⟨_, rfl, wd4 wd o t, ⟨_, _, ⟨_, ⟨_, _, rfl, ⟨_, _, rfl, ⟨_, _, ⟨_, rfl, .str _⟩, rfl, rfl⟩, rfl⟩, rfl⟩, by show 3 ≤ 1000; decide, hpn, rfl⟩, ⟨_, _, ⟨_, ⟨_, _, rfl, ⟨_, _, rfl, ⟨_, _, rfl, rfl, rfl⟩, rfl⟩, rfl⟩, by show 3 ≤ 1000; decide, hpn, rfl⟩, ⟨_, _, ⟨_, ⟨_, _, rfl, ⟨_, _, ⟨_, rfl, .str _⟩, ⟨_, _, ⟨_, ⟨_, _, ⟨_, rfl, .str _⟩, rfl, rfl⟩, by show 1 ≤ 1000; decide, hpn, rfl⟩, rfl, rfl⟩, rfl⟩, rfl⟩, by show 3 ≤ 1000; decide, hpn, rfl⟩, ⟨_, _, ⟨_, ⟨_, _, rfl, ⟨_, _, rfl, ⟨_, _, ⟨_, rfl, .str _⟩, rfl, rfl⟩, rfl⟩, rfl⟩, by show 3 ≤ 1000; decide, hpn, rfl⟩, ⟨_, _, ⟨_, ⟨_, _, rfl, ⟨_, _, ⟨_, rfl, .str _⟩, rfl, rfl⟩, rfl⟩, by show 2 ≤ 1000; decide, hpn, rfl⟩, rfl, rfl⟩, rfl⟩, rfl⟩, rfl⟩, rfl⟩, by show 5 ≤ 1000; decide, hpn, fun lb zs Hb sb nb nlb hlb hdb => ?_⟩
    have hzl := dpAll_len hdb
    have hzn : zs.length = 5 := hzl
    refine ⟨_, _, _, _, rfl, rfl, sb _ _ hy, hlb, by rw [hny, hzn]; decide, fun q1 nq1 => ?_⟩
    have LA := LA.add sb hdb b4 nq1 ys hy
    rw [hzn] at LA
    refine ⟨fun σ' H' => ∃ (l : Addr) (n : Nat), σ' = [some (.ref p), some (.str hs), some (.str (S o)), some (.str (S t)), some (.str wd), some (.ref l)] ∧ LsAt K p H H' l hs n ∧ 1 ≤ n ∧ n ≤ 100, ?_, fun σ' H' hM => ?_⟩
    · refine ⟨_, rfl, rfl, _, rfl, ite2 (fun k => ?_) (fun k => ?_)⟩
      · obtain rfl : hs = "mark" := V.str.inj (of_decide_eq_true k)
        obtain ⟨ys, es, hy, hdy, hny, _⟩ := LA.ex
        have hpn := bagNe LA.kp.2
        refine ⟨_, rfl, wd5 wd o t, ⟨_, _, ⟨_, ⟨_, _, rfl, ⟨_, _, ⟨_, ⟨_, _, ⟨_, rfl, .str _⟩, rfl, rfl⟩, by show 1 ≤ 1000; decide, hpn, rfl⟩, rfl, rfl⟩, rfl⟩, by show 2 ≤ 1000; decide, hpn, rfl⟩, ⟨_, _, ⟨_, ⟨_, _, rfl, ⟨_, _, ⟨_, rfl, by show 0 ≤ 1000; decide, hpn, rfl⟩, rfl, rfl⟩, rfl⟩, by show 2 ≤ 1000; decide, hpn, rfl⟩, ⟨_, _, ⟨_, ⟨_, _, rfl, ⟨_, _, ⟨_, rfl, .str _⟩, ⟨_, _, ⟨_, rfl, .str _⟩, rfl, rfl⟩, rfl⟩, rfl⟩, by show 3 ≤ 1000; decide, hpn, rfl⟩, ⟨_, _, ⟨_, ⟨_, _, rfl, ⟨_, _, rfl, ⟨_, _, ⟨_, rfl, .str _⟩, rfl, rfl⟩, rfl⟩, rfl⟩, by show 3 ≤ 1000; decide, hpn, rfl⟩, ⟨_, _, ⟨_, ⟨_, _, rfl, ⟨_, _, ⟨_, ⟨_, _, ⟨_, rfl, .str _⟩, rfl, rfl⟩, by show 1 ≤ 1000; decide, hpn, rfl⟩, rfl, rfl⟩, rfl⟩, by show 2 ≤ 1000; decide, hpn, rfl⟩, rfl, rfl⟩, rfl⟩, rfl⟩, rfl⟩, rfl⟩, by show 5 ≤ 1000; decide, hpn, fun lb zs Hb sb nb nlb hlb hdb => ?_⟩
        have hzl := dpAll_len hdb
        have hzn : zs.length = 5 := hzl
        refine ⟨lb, 3, zs, rfl, rfl, hlb, by decide, by decide, by rw [hzn]; decide, fun rr nr => ?_⟩
        have sr := same_upd (o := .lst (List.replicate 3 zs).flatten) nr
        have hrl : (List.replicate 3 zs).flatten.length = 15 := by rw [rep_len, hzn]
        refine ⟨_, _, _, _, rfl, rfl, sr _ _ (sb _ _ hy), upd_same, (by show ys.length + (List.replicate 3 zs).flatten.length ≤ sizeLine; rw [hny, hrl]; decide), fun q1 nq1 => ?_⟩
        have LA := LA.add (sb.trans sr) (dpAll_rep (dpAll_same (hid_same sr) hdb) 3) (fun d hd => (bad_mark5 hw go gt lt) d (mem_rep hd)) nq1 ys hy
        rw [hrl] at LA
        obtain ⟨ys, es, hy, hdy, hny, _⟩ := LA.ex
        have hpn := bagNe LA.kp.2
        refine ⟨_, rfl, wd6 wd o t, ⟨_, _, ⟨_, ⟨_, _, rfl, rfl, rfl⟩, by show 1 ≤ 1000; decide, hpn, rfl⟩, ⟨_, _, ⟨_, ⟨_, _, rfl, ⟨_, _, ⟨_, rfl, .str _⟩, ⟨_, _, ⟨_, rfl, .str _⟩, rfl, rfl⟩, rfl⟩, rfl⟩, by show 3 ≤ 1000; decide, hpn, rfl⟩, ⟨_, _, ⟨_, ⟨_, _, rfl, ⟨_, _, rfl, rfl, rfl⟩, rfl⟩, by show 2 ≤ 1000; decide, hpn, rfl⟩, ⟨_, _, ⟨_, ⟨_, _, rfl, ⟨_, _, ⟨_, rfl, .str _⟩, rfl, rfl⟩, rfl⟩, by show 2 ≤ 1000; decide, hpn, rfl⟩, rfl, rfl⟩, rfl⟩, rfl⟩, rfl⟩, by show 4 ≤ 1000; decide, hpn, fun lb zs Hb sb nb nlb hlb hdb => ?_⟩
        have hzl := dpAll_len hdb
        have hzn : zs.length = 4 := hzl
        refine ⟨lb, 3, zs, rfl, rfl, hlb, by decide, by decide, by rw [hzn]; decide, fun rr nr => ?_⟩
        have sr := same_upd (o := .lst (List.replicate 3 zs).flatten) nr
        have hrl : (List.replicate 3 zs).flatten.length = 12 := by rw [rep_len, hzn]
        refine ⟨_, _, _, _, rfl, rfl, sr _ _ (sb _ _ hy), upd_same, (by show ys.length + (List.replicate 3 zs).flatten.length ≤ sizeLine; rw [hny, hrl]; decide), fun q1 nq1 => ?_⟩
        have LA := LA.add (sb.trans sr) (dpAll_rep (dpAll_same (hid_same sr) hdb) 3) (fun d hd => (bad_mark6 hw go gt lt) d (mem_rep hd)) nq1 ys hy
        rw [hrl] at LA
        exact ⟨_, _, rfl, LA, by decide, by decide⟩
      · obtain rfl : hs = "box" := by
          rcases hhs with e | e
          · exact absurd (decide_eq_true (by rw [e])) k
          · exact e
        obtain ⟨ys, es, hy, hdy, hny, _⟩ := LA.ex
        have hpn := bagNe LA.kp.2
        refine ⟨_, rfl, wd7 wd o t, ⟨_, _, ⟨_, ⟨_, _, rfl, ⟨_, _, ⟨_, rfl, .str _⟩, rfl, rfl⟩, rfl⟩, by show 2 ≤ 1000; decide, hpn, rfl⟩, ⟨_, _, ⟨_, ⟨_, _, rfl, ⟨_, _, ⟨_, rfl, .str _⟩, rfl, rfl⟩, rfl⟩, by show 2 ≤ 1000; decide, hpn, rfl⟩, rfl, rfl⟩, rfl⟩, by show 2 ≤ 1000; decide, hpn, fun lb zs Hb sb nb nlb hlb hdb => ?_⟩
        have hzl := dpAll_len hdb
        have hzn : zs.length = 2 := hzl
        refine ⟨lb, 5, zs, rfl, rfl, hlb, by decide, by decide, by rw [hzn]; decide, fun rr nr => ?_⟩
        have sr := same_upd (o := .lst (List.replicate 5 zs).flatten) nr
        have hrl : (List.replicate 5 zs).flatten.length = 10 := by rw [rep_len, hzn]
        refine ⟨_, _, _, _, rfl, rfl, sr _ _ (sb _ _ hy), upd_same, (by show ys.length + (List.replicate 5 zs).flatten.length ≤ sizeLine; rw [hny, hrl]; decide), fun q1 nq1 => ?_⟩
        have LA := LA.add (sb.trans sr) (dpAll_rep (dpAll_same (hid_same sr) hdb) 5) (fun d hd => (bad_box7 hw go gt lt) d (mem_rep hd)) nq1 ys hy
        rw [hrl] at LA
        exact ⟨_, _, rfl, LA, by decide, by decide⟩
    · obtain ⟨l, n, rfl, LA, n1, n2⟩ := hM
      obtain ⟨ys, es, hy, hdy, hny, hb⟩ := LA.ex
      refine ⟨_, rfl, _, rfl, p, .ref l, rfl, LA.kp.2, .inl ⟨l, ys, rfl, LA.np, SqL.of hy, by omega, by omega, fun H9 y k9 hy9 => ?_⟩⟩
      obtain ⟨d, hd, hdp⟩ := dqAll_mem hdy hy9
      exact q H9 y d (LA.kp.trans k9) (Dq.kp hdp k9) (hb d hd)
end
end Dr
set_option maxHeartbeats 8000000
namespace Dr
open PySem PySem.Spec PyProof.Rows L2
open SX (S S_len S_cat)
abbrev sLaw : Stmt := topS 29
abbrev nLaw : List Str := ["_law_script", "_law_at", "_law_bag_here", "_law_names_here", "_law_turn", "_law_name", "_law_sort", "_law_worth", "_law_only", "_law_faults", "_law_due", "_law_told", "e", "_law_fields"]
theorem scLaw : FnScope nLaw ["_law_script"] (defScope sLaw) := ⟨rfl, rfl, rfl, by decide +kernel, rfl, by decide +kernel, by decide +kernel⟩
abbrev psP : List Str := ["self", "name", "holds", "default", "named"]
abbrev kwP : List (Str × V) := [("holds", .str "box"), ("default", .non), ("named", .bl false)]
abbrev FP (K : PySem.W.Frag) (f : Addr) (fd : FuncData) : Prop := FunD K "__init__" "Param.__init__" (defArgs sPInit) (defBody sPInit) (defScope sPInit) [] kwP f fd
theorem bind_hdn {K : PySem.W.Frag} {f : Addr} {fd : FuncData} (F : FP K f fd) : KBn K fd psP 2 ["holds", "default", "named"] (fun us ws => us ++ ws) (fun vs zs => vs ++ zs) := by
  obtain ⟨mv, h⟩ := F.kbinds0 (ps := psP) 2 ["holds", "default", "named"] [] (fun us _ ws => us ++ ws) (by simp) (fun q hq => by cases hq) (fun r1 _ r3 => r1.append r3)
    (fun D doc pm an cdv ct us mv ws l1 l2 l3 => match us, mv, ws, l1, l2, l3 with | [_, _], [], [_, _, _], _, _, _ => rfl)
  exact h
structure BltL (mg : Str → Option Value) : Prop where
  range : mg "range" = none
  max : mg "max" = none
  min : mg "min" = none
  bool : mg "bool" = none
  sorted : mg "sorted" = none
/-- a value that is a small datum -/
structure Dat (K : PySem.W.Frag) (p : Addr) (H : Hp) (v : V) (d : PyData) : Prop where
  q : Dq K p H v d
  s : Sml d
theorem Dat.kp {K : PySem.W.Frag} {p : Addr} {H H' : Hp} {v : V} {d : PyData} (h : Dat K p H v d) (k : Kp p H H') : Dat K p H' v d := ⟨Dq.kp h.q k, h.s⟩
theorem Dat.same {K : PySem.W.Frag} {p : Addr} {H H' : Hp} {v : V} {d : PyData} (h : Dat K p H v d) (k : Same H H') : Dat K p H' v d := ⟨Dq.same h.q k, h.s⟩
theorem Kp.sameN {p : Addr} {H H1 H2 : Hp} (n : H p = none) (s : Same H H1) (k : Kp p H1 H2) : Same H H2 := fun b o e => k.1 _ _ (ne_of_none e n) (s _ _ e)
theorem Df.depth {hs : Str} : ∀ {f : Df}, f.ok hs → f.data.depth ≤ 2
  | .non, _ => by decide
  | .mk o, _ => by show 1 ≤ 2; decide
  | .its w zs, h => by
    show max 0 (max (PyData.depthAll (zs.map PyData.str) + 1) 0) + 1 ≤ 2
    rw [(canAll_strs h.2.2.sm).2.2]
    decide
  | .seat w o x, _ => by show 1 ≤ 2; decide
/-- what is due, by the parts from the back -/
def g3 (da : PyData) : Option Nat := if isBoolD da = false then some 3 else none
def g2 (dd da : PyData) (h : Str) : Option Nat := if (isNonD dd || isDefD dd h) = false then some 2 else g3 da
def g1 (dh dd da : PyData) : Option Nat := if isHoldsD dh = false then some 1 else g2 dd da (strD dh)
theorem fault_g (dn dh dd da : PyData) : faultOf dn dh dd da = if isNameD dn = false then some 0 else g1 dh dd da := rfl
def enc : Option Nat → Int → Prop
  | some k, n => n = k ∧ k ≤ 3
  | none, n => n = 9
/-- the slots and the heap between the faults -/
def Stg (K : PySem.W.Frag) (p qn fa : Addr) (c0 c1 c2 c3 c4 : Option V) (Hb : Hp) (zs : List Str) (f1 f2 : Int) (R : PyData → PyData → PyData → PyData → Int → Prop) (σ' : L2.St) (H' : Hp) : Prop :=
  Kp p Hb H' ∧ H' qn = some (.lst (zs.map V.str)) ∧ H' fa = some (.lst [.int f1, .int f2]) ∧ ∃ vn dn vh dh vd dd va da due y11 y12 y13, σ' = [c0, c1, c2, c3, c4, some vn, some vh, some vd, some va, some (.ref fa), some (.int due), y11, y12, y13] ∧
    Dat K p H' vn dn ∧ Dat K p H' vh dh ∧ Dat K p H' vd dd ∧ Dat K p H' va da ∧ R dn dh dd da due
abbrev inF (k f1 f2 : Int) : Bool := inV (.int k) [.int f1, .int f2]
theorem some_in {f1 f2 : Int} (h0 : 0 ≤ f1) (h1 : f1 < 4) (c0 : inF 0 f1 f2 = false) (c1 : inF 1 f1 f2 = false) (c2 : inF 2 f1 f2 = false) (c3 : inF 3 f1 f2 = false) : False := by
  have key : ∀ k : Int, inF k f1 f2 = false → f1 ≠ k := fun k c e => by
    have q : (f1 == k || (f2 == k || false)) = false := c
    rw [e, beq_self_eq_true, Bool.true_or] at q
    cases q
  have := key 0 c0
  have := key 1 c1
  have := key 2 c2
  have := key 3 c3
  omega
theorem Sml.smn {d : PyData} (h : Sml d) : Smn 3 d := ⟨SeqAt.canLay_of_shaped h.ok.sh, h.ok.sm, h.dp⟩
theorem Smn.okD {n : Nat} {d : PyData} (h : Smn n d) (hn : n ≤ 64) : OkD d := ⟨by
  show (d.canLay0 && decide (d.depth ≤ 64)) = true
  rw [h.c, decide_eq_true (by have := h.d; omega)]
  rfl, h.s⟩
/-- the part of a fault -/
def partD (k : Nat) (d : PyData) : PyData := if k = 0 then d else .str (partOf k)
def partV (k : Nat) (v : V) : V := if k = 0 then v else .str (partOf k)
def oneOf (k : Nat) : Int := if k = 0 then 0 else 1
def toldD (k : Nat) (d : PyData) : PyData := .tuple [.int (oneOf k), .list [partD k d]]
theorem part_sms {k : Nat} : SmS (partOf k) := by
  match k with
  | 0 => exact sms_lit (by decide +kernel)
  | 1 => exact sms_lit (by decide +kernel)
  | 2 => exact sms_lit (by decide +kernel)
  | _ + 3 => exact (sms_lit (z := "named") (by decide +kernel))
theorem part_sml {k : Nat} {d : PyData} (h : Sml d) : Sml (partD k d) := by
  unfold partD
  split
  · exact h
  · exact sml_str part_sms
theorem told_ok {k : Nat} {d : PyData} (h : Sml d) : OkD (toldD k d) := (smn_tup (n := 4) (smn_cons (smn_int _) (smn_cons (smn_lst (n := 3) (smn_cons (part_sml h).smn smn_nil) (by show 1 ≤ 1000; decide)) smn_nil)) (by show 2 ≤ 1000; decide)).okD (by decide)
theorem told_refl {k : Nat} {d : PyData} (h : Sml d) : PyData.eqv (toldD k d) (toldD k d) = true := SeqAt.eqv_refl _ (SeqAt.canLay_of_shaped (told_ok h).sh)
theorem part_dp {K : PySem.W.Frag} {H : Hp} {k : Nat} {v : V} {d : PyData} (h : Dp K H v d) : Dp K H (partV k v) (partD k d) := by
  unfold partV partD
  split
  · exact h
  · exact .str _
theorem told_dp {K : PySem.W.Frag} {H : Hp} {k : Nat} {t l : Addr} {v : V} {d : PyData} (ht : SqT K H t [.int (oneOf k), .ref l]) (hl : SqL K H l [partV k v]) (h : Dp K H v d) : Dp K H (.ref t) (toldD k d) :=
  .tup ht (.cons (.int _) (.cons (.lst hl (.cons (part_dp h) .nil)) .nil))
/-- what the except clauses need -/
structure Exc2 (K : PySem.W.Frag) (mg : Str → Option Value) (CN CP : Addr) : Prop where
  mN : mg "BadName" = some (.ref CN)
  mP : mg "BadParam" = some (.ref CP)
  xN : XfC K CN
  xP : XfC K CP
  nN : PySem.W.findIn K (.ref CN) "name" = some none
  nP : PySem.W.findIn K (.ref CP) "part" = some none
  NN : PySem.W.exmOne K (.ref CN) (.ref CN) = some true
  PN : PySem.W.exmOne K (.ref CP) (.ref CN) = some false
  PP : PySem.W.exmOne K (.ref CP) (.ref CP) = some true
section
variable {P : Program} {w : World} {K : PySem.W.Frag} {mg : Str → Option Value} {base : Heap}
def spLaw (K : PySem.W.Frag) : Sp := fun vs H Q _ => ∃ (a : Addr) (ns : List Int), vs = [.ref a] ∧ SqL K H a (ns.map V.int) ∧ ns.length ≤ 63 ∧ ∀ H', Q (.bl true) H'
theorem ok_law {kI : Nat} {C CN CP f fB fT fO fN fW fD fI : Addr} {fd fdB fdT fdO fdN fdW fdD fdI : FuncData} (F : Fun K "law" "law" sLaw f fd) (W : Wds K mg) (B : Blt mg) (L : BltL mg) (M : Mk K C fI) (mC : mg "Param" = some (.ref C)) (FI : FP K fI fdI) (X2 : Exc2 K mg CN CP)
    (GI : FnOk P w K mg base (L2.CX P w) kI fI fdI psP (spPIx K CN CP C))
    (GB : FnOk P w K mg base CX0 1 fB fdB ["_law_script", "_law_at"] (spBag K)) (mB : mg "_law_bag" = some (.ref fB)) (kB : PySem.W.keepIn K (.ref fB) = true) (bB : Binds K fdB ["_law_script", "_law_at"] [])
    (GT : FnOk P w K mg base CX0 1 fT fdT ["_law_bag_here", "_law_many"] spTake) (mT : mg "_law_take" = some (.ref fT)) (kT : PySem.W.keepIn K (.ref fT) = true) (bT : Binds K fdT ["_law_bag_here", "_law_many"] [])
    (GO : FnOk P w K mg base CX0 2 fO fdO ["_law_bag_here", "_law_some"] (spOf K)) (mO : mg "_law_of" = some (.ref fO)) (kO : PySem.W.keepIn K (.ref fO) = true) (bO : Binds K fdO ["_law_bag_here", "_law_some"] [])
    (GN : FnOk P w K mg base CX0 3 fN fdN ["_law_bag_here", "_law_many"] (spNames K)) (mN : mg "_law_names" = some (.ref fN)) (kN : PySem.W.keepIn K (.ref fN) = true) (bN : Binds K fdN ["_law_bag_here", "_law_many"] [])
    (GW : FnOk P w K mg base CX0 3 fW fdW ["_law_bag_here", "_law_name"] (spWN K)) (mW : mg "_law_wrong_name" = some (.ref fW)) (kW : PySem.W.keepIn K (.ref fW) = true) (bW : Binds K fdW ["_law_bag_here", "_law_name"] [])
    (GD : FnOk P w K mg base CX0 3 fD fdD ["_law_bag_here", "_law_sort", "_law_one", "_law_two"] (spWD K)) (mD : mg "_law_wrong_default" = some (.ref fD)) (kD : PySem.W.keepIn K (.ref fD) = true) (bD : Binds K fdD ["_law_bag_here", "_law_sort", "_law_one", "_law_two"] [])
    (h3 : 3 ≤ kI) : FnOk P w K mg base CX0 (kI + 2) f fd ["_law_script"] (spLaw K) := by
  refine F.ok scLaw (fun vs H Q E h => ?_) (fun cdv A outer s H vs Q E hr h => ?_)
  · obtain ⟨a, ns, rfl, _⟩ := h
    rfl
  · obtain ⟨a, ns, rfl, hS, hlen, q⟩ := h
    have hu : (A.deeper (envOfC "law" (defScope sLaw) s.heap.objs.size f cdv)).units + 64 < cLine := hr.units
    have hr1 : Room 1 _ := hr.mono (by omega)
    have hr2 : Room 2 _ := hr.mono (by omega)
    have hr3 : Room 3 _ := hr.mono (by omega)
    have bA := bind_hdn FI
    refine ⟨_, pss_cons (ps_for PassesOwn.never rfl (pi_range1 rfl L.range (pa_cons (pe_callB (call_max2 rfl) (by rfl) L.max (by decide +kernel) (pa_cons pe_int (pa_cons (pe_callB (call_min2 rfl) (by rfl) L.min (by decide +kernel) (pa_cons pe_int (pa_cons (pe_callB call_len_seq (by rfl) W.len PySem.boot_len (pa_cons (pv 0) pa_nil)) pa_nil))) pa_nil))) pa_nil)) (pg_name (i := 1) scLaw.nd rfl (.inl rfl))
      (pss_cons (ps_set (i := 2) scLaw.nd rfl (.inl rfl) (pe_call GB hr1 (by rfl) mB kB bB .nil pass0 (pa_cons (pv 0) (pa_cons (pv 1) pa_nil))))
      (pss_cons (ps_set (i := 3) scLaw.nd rfl (.inl rfl) (pe_callB cr_sortedS (by rfl) L.sorted (by decide +kernel) (pa_cons (pe_call GN hr3 (by rfl) mN kN bN .nil pass0 (pa_cons (pv 2) (pa_cons pe_int pa_nil))) pa_nil)))
      (pss_one (ps_for PassesOwn.never rfl (pi_range1 rfl L.range (pa_cons pe_int pa_nil)) (pg_name (i := 4) scLaw.nd rfl (.inl rfl))
        (pss_cons (ps_asg (pe_tup (pa_cons (pe_ix ix_list (pv 3) pe_int (fun _ _ => rfl)) (pa_cons (pe_call GO hr2 (by rfl) mO kO bO .nil pass0 (pa_cons (pv 2) (pa_cons (pe_lst (pa_cons pe_str (pa_cons pe_str pa_nil))) pa_nil))) (pa_cons pe_non (pa_cons (pe_cmpR op_eq (pe_call GT hr1 (by rfl) mT kT bT .nil pass0 (pa_cons (pv 2) (pa_cons pe_int pa_nil))) pe_int (nomark _)) pa_nil)))))
            (pg_tup rfl (pgs_cons (pg_name (i := 5) scLaw.nd rfl (.inl rfl)) (pgs_cons (pg_name (i := 6) scLaw.nd rfl (.inl rfl)) (pgs_cons (pg_name (i := 7) scLaw.nd rfl (.inl rfl)) (pgs_cons (pg_name (i := 8) scLaw.nd rfl (.inl rfl)) pgs_nil))))))
        (C8.pss_cut (ps_if (pt_cmpR op_eq (pe_call GT hr1 (by rfl) mT kT bT .nil pass0 (pa_cons (pv 2) (pa_cons pe_int pa_nil))) pe_int (nomark _))
            (pss_one (ps_set (i := 7) scLaw.nd rfl (.inl rfl) (pe_ifExp (pt_cmpR op_eq (pv 6) pe_str (nomark _)) (pe_tup (pa_cons pe_str (pa_cons (pe_ix ix_list (pv 3) pe_int (fun _ _ => rfl)) pa_nil)))
              (pe_tup (pa_cons pe_str (pa_cons (pe_tup (pa_cons (pe_ix ix_list (pv 3) pe_int (fun _ _ => rfl)) (pa_cons (pe_ix ix_list (pv 3) pe_int (fun _ _ => rfl)) pa_nil))) pa_nil)))))) pss_nil)
        (pss_cons (ps_set (i := 9) scLaw.nd rfl (.inl rfl) (pe_lst (pa_cons (pe_call GT hr1 (by rfl) mT kT bT .nil pass0 (pa_cons (pv 2) (pa_cons pe_int pa_nil))) (pa_cons (pe_call GT hr1 (by rfl) mT kT bT .nil pass0 (pa_cons (pv 2) (pa_cons pe_int pa_nil))) pa_nil))))
        (pss_cons (ps_set (i := 10) scLaw.nd rfl (.inl rfl) pe_int)
        (C8.pss_cut (ps_if (pt_cmpR op_in_seq pe_int (pv 9) rfl) (pss_one (ps_par (i := 8) (j := 10) (by rfl) scLaw.nd rfl rfl (by decide) rfl rfl (pa_cons (pe_call GO hr2 (by rfl) mO kO bO .nil pass0 (pa_cons (pv 2) (pa_cons (pe_lst (pa_cons pe_int (pa_cons pe_int (pa_cons pe_non (pa_cons pe_str (pa_cons (pe_tup pa_nil) (pa_cons pe_str pa_nil))))))) pa_nil))) (pa_cons pe_int pa_nil)) (by rfl))) pss_nil)
        (C8.pss_cut (ps_if (pt_cmpR op_in_seq pe_int (pv 9) rfl) (pss_one (ps_par (i := 7) (j := 10) (by rfl) scLaw.nd rfl rfl (by decide) rfl rfl (pa_cons (pe_call GD hr3 (by rfl) mD kD bD .nil pass0 (pa_cons (pv 2) (pa_cons (pv 6) (pa_cons (pe_ix ix_list (pv 3) pe_int (fun _ _ => rfl)) (pa_cons (pe_ix ix_list (pv 3) pe_int (fun _ _ => rfl)) pa_nil))))) (pa_cons pe_int pa_nil)) (by rfl))) pss_nil)
        (C8.pss_cut (ps_if (pt_cmpR op_in_seq pe_int (pv 9) rfl) (pss_one (ps_par (i := 6) (j := 10) (by rfl) scLaw.nd rfl rfl (by decide) rfl rfl (pa_cons (pe_call GO hr2 (by rfl) mO kO bO .nil pass0 (pa_cons (pv 2) (pa_cons (pe_lst (pa_cons pe_str (pa_cons pe_str (pa_cons pe_str (pa_cons pe_str (pa_cons pe_non (pa_cons pe_bl (pa_cons pe_int (pa_cons (pe_tup (pa_cons pe_str pa_nil)) (pa_cons (pe_lst (pa_cons pe_str pa_nil)) pa_nil)))))))))) pa_nil))) (pa_cons pe_int pa_nil)) (by rfl))) pss_nil)
        (C8.pss_cut (ps_if (pt_cmpR op_in_seq pe_int (pv 9) rfl) (pss_one (ps_par (i := 5) (j := 10) (by rfl) scLaw.nd rfl rfl (by decide) rfl rfl (pa_cons (pe_call GW hr3 (by rfl) mW kW bW .nil pass0 (pa_cons (pv 2) (pa_cons (pe_ix ix_list (pv 3) pe_int (fun _ _ => rfl)) pa_nil))) (pa_cons pe_int pa_nil)) (by rfl))) pss_nil)
        (pss_cons (ps_set (i := 11) scLaw.nd rfl (.inl rfl) pe_non)
        (C8.pss_cut (ps_try_cl (tb := fun W => tDrop (tMkKS C 1 3 (spPIx K CN CP C) (fun vs zs => vs ++ zs) (WE W) (tCons (tVar 5) tNil) (tCons (tVar 6) (tCons (tVar 7) (tCons (tVar 8) tNil))))) (O := fun _ _ _ _ => False) rfl rfl scLaw.nd takes0
            (fun W q xe tk _ => pss_one (ps_expr (pe_mkKS M GI hr (by rfl) mC bA (fun σ => passAt tk σ) (pa_cons (pv 5) pa_nil) (pk_cons (pv 6) (pk_cons (pv 7) (pk_cons (pv 8) pk_nil))))))
            (.cons (k := ⟨.ref CN, 12, fun a cls d => tAsg (tTup (tCons (tC (.int 0)) (tCons (tLst (tCons (tXf a cls d CN "name" (tVar 12)) tNil)) tNil))) (gName 11)⟩) rfl rfl ⟨rfl, by decide, .inl X2.mN⟩
                (fun a o cls d q hz hf => pss_one (ps_set (i := 11) scLaw.nd rfl (.inl rfl) (pe_tup (pa_cons pe_int (pa_cons (pe_lst (pa_cons (pe_xf X2.xN X2.nN hz hf (pv 12)) pa_nil)) pa_nil)))))
              (.cons (k := ⟨.ref CP, 12, fun a cls d => tAsg (tTup (tCons (tC (.int 1)) (tCons (tLst (tCons (tXf a cls d CP "part" (tVar 12)) tNil)) tNil))) (gName 11)⟩) rfl rfl ⟨rfl, by decide, .inl X2.mP⟩
                (fun a o cls d q hz hf => pss_one (ps_set (i := 11) scLaw.nd rfl (.inl rfl) (pe_tup (pa_cons pe_int (pa_cons (pe_lst (pa_cons (pe_xf X2.xP X2.nP hz hf (pv 12)) pa_nil)) pa_nil))))) .nil)))
        (C8.pss_cut (ps_set (i := 13) scLaw.nd rfl (.inl rfl) (pe_ix ix_list (pe_lst (pa_cons (pe_lst (pa_cons (pv 5) pa_nil)) (pa_cons (pe_lst (pa_cons pe_str pa_nil)) (pa_cons (pe_lst (pa_cons pe_str pa_nil)) (pa_cons (pe_lst (pa_cons pe_str pa_nil)) pa_nil))))) (pv 10) (fun _ _ => rfl)))
        (pss_cons (ps_if (pt_cmpR (op_neD hu) (pv 11) (pe_tup (pa_cons (pe_callB (call_min2 rfl) (by rfl) L.min (by decide +kernel) (pa_cons pe_int (pa_cons (pv 10) pa_nil))) (pa_cons (pv 13) pa_nil))) (nomark _)) (pss_one (ps_ret pe_bl)) pss_nil)
        (pss_one (ps_if (PW.pt (pw_and (pt_cmpR op_eq (pv 10) pe_int (nomark _)) (pw_and1 (pt_cmpR op_ne (pe_callB call_isi (by rfl) W.isi (by decide +kernel) (pa_cons (pe_ix ix_list (pe_ix ix_tup (pv 11) pe_int (fun _ _ => rfl)) pe_int (fun _ _ => rfl)) (pa_cons (pe_bltn (v := .ty "bool") (by rfl) L.bool (by decide +kernel) rfl) pa_nil)))
            (pe_callB call_isi (by rfl) W.isi (by decide +kernel) (pa_cons (pv 5) (pa_cons (pe_bltn (v := .ty "bool") (by rfl) L.bool (by decide +kernel) rfl) pa_nil))) (nomark _))))) (pss_one (ps_ret pe_bl)) pss_nil)))))))))))))))))))
      (pss_one (ps_ret pe_bl)), ?_⟩
    have hJ : ∀ n : Nat, 1 ≤ (if (if ((n : Nat) : Int) < 6 then ((n : Nat) : Int) else 6) > 1 then (if ((n : Nat) : Int) < 6 then ((n : Nat) : Int) else 6) else 1) ∧ (if (if ((n : Nat) : Int) < 6 then ((n : Nat) : Int) else 6) > 1 then (if ((n : Nat) : Int) < 6 then ((n : Nat) : Int) else 6) else 1) ≤ 6 := fun n => by
      split <;> split <;> omega
    refine ⟨_, rfl, a, _, rfl, .inl hS, _, _, rfl, _, _, rfl, _, rfl, ?_, ?_, ?_⟩
    · have := (hJ (ns.map V.int).length).1
      show -(2 ^ 62) ≤ _
      omega
    · have := (hJ (ns.map V.int).length).2
      show _ < 2 ^ 62
      omega
    have hJ2 := (hJ (ns.map V.int).length).2
    refine for_it walk_range (fun i σ H' => Same H H' ∧ ∃ y1 y2 y3 y4 y5 y6 y7 y8 y9 y10 y11 y12 y13 : Option V, σ = [some (.ref a), y1, y2, y3, y4, y5, y6, y7, y8, y9, y10, y11, y12, y13]) ⟨Same.refl _, none, none, none, none, none, none, none, none, none, none, none, none, none, rfl⟩ (fun _ _ _ _ _ => trivial) ?_ (fun σ H1 ⟨_, y1, y2, y3, y4, y5, y6, y7, y8, y9, y10, y11, y12, y13, e⟩ => q _)
    rintro i x σ Hs Ht hi ⟨sm0, y1, y2, y3, y4, y5, y6, y7, y8, y9, y10, y11, y12, y13, rfl⟩ ⟨rfl, rfl⟩
    have hi6 : i < 6 := by
      have : i < Int.toNat _ := hi
      omega
    -- the bag, the names in order
    refine ⟨_, rfl, _, rfl, a, ns, _, rfl, sm0.seq hS, hlen, by omega, by omega, fun Hb p sb np hB => ?_⟩
    refine ⟨_, rfl, p, 3, rfl, hB, by decide, fun Hc q0 zs kc nq hq hl3 hnd hgood => ?_⟩
    have nq0p := bag_ne hB nq
    rw [txts_S] at hq
    refine ⟨q0, zs.map S, rfl, SqL.of hq, by rw [List.length_map]; omega, fun qs qn hperm hsrt nqn => ?_⟩
    have kq : Kp p Hb (upd Hc qn (.lst (qs.map V.str))) := kc.same (same_upd nqn)
    have nqp := bag_ne kc.2 nqn
    have hqn : (upd Hc qn (.lst (qs.map V.str))) qn = some (.lst (qs.map V.str)) := upd_same
    have hql : qs.length = 3 := by rw [hperm.length_eq, List.length_map, hl3]
    have hqs : ∀ z ∈ qs, ∃ cs, z = S cs ∧ GoodN cs := fun z hz => by
      obtain ⟨cs, hc, e⟩ := List.mem_map.mp (hperm.mem_iff.mp hz)
      exact ⟨cs, e.symm, hgood cs hc⟩
    have hasc : ascS qs = true := asc_of qs hsrt (hperm.nodup_iff.mpr (List.pairwise_map.mpr (hnd.imp fun {a b} n e => n (SX.S_inj e))))
    obtain ⟨c0, c1, c2, rfl, g0, gg1, gg2, lt12⟩ : ∃ c0 c1 c2, qs = [S c0, S c1, S c2] ∧ GoodN c0 ∧ GoodN c1 ∧ GoodN c2 ∧ ltS (S c1) (S c2) = true := by
      match qs, hql, hqs, hasc with
      | [x, y, z], _, hqs, hasc =>
        obtain ⟨c0, rfl, g0⟩ := hqs x (by simp)
        obtain ⟨c1, rfl, g1⟩ := hqs y (by simp)
        obtain ⟨c2, rfl, g2⟩ := hqs z (by simp)
        have h' : (ltS (S c0) (S c1) && (ltS (S c1) (S c2) && true)) = true := hasc
        rw [Bool.and_eq_true, Bool.and_eq_true] at h'
        exact ⟨c0, c1, c2, rfl, g0, g1, g2, h'.2.1⟩
    -- six parameters
    refine ⟨6, rfl, by decide, by decide, for_it walk_range (fun j σ H' => Kp p Hb H' ∧ H' qn = some (.lst ([S c0, S c1, S c2].map V.str)) ∧ ∃ y4 y5 y6 y7 y8 y9 y10 y11 y12 y13 : Option V, σ = [some (.ref a), some (.int (0 + (i : Int))), some (.ref p), some (.ref qn), y4, y5, y6, y7, y8, y9, y10, y11, y12, y13]) ⟨kq, hqn, _, _, _, _, _, _, _, _, _, _, rfl⟩ (fun _ _ _ _ _ => trivial) ?_ (fun σ H1 ⟨k1, _, y4, y5, y6, y7, y8, y9, y10, y11, y12, y13, e⟩ => ⟨sm0.trans (Kp.sameN np sb k1), _, _, _, _, _, _, _, _, _, _, _, _, _, e⟩)⟩
    rintro j x σ H0 H0' hj ⟨k0, hq0, y4, y5, y6, y7, y8, y9, y10, y11, y12, y13, rfl⟩ ⟨rfl, rfl⟩
    have sq : ∀ {H' : Hp}, H' qn = some (.lst ([S c0, S c1, S c2].map V.str)) → SqL K H' qn [.str (S c0), .str (S c1), .str (S c2)] := fun h => SqL.of h
    refine ⟨_, rfl, qn, _, 0, .str (S c0), rfl, rfl, sq hq0, atI_nat (j := 0) rfl, _, rfl, two_le, fun l nl => ⟨p, .ref l, rfl, (k0.same (same_upd nl)).2, .inl ⟨l, _, rfl, bag_ne k0.2 nl, SqL.of upd_same, (by show 1 ≤ 2; decide), (by show 2 ≤ 1000; decide), fun H1 y k1 hy => ?_⟩⟩⟩
    obtain ⟨hs, rfl, hhs⟩ : ∃ hs : Str, y = .str hs ∧ (hs = "mark" ∨ hs = "box") := by
      rcases List.mem_cons.mp hy with rfl | hy
      · exact ⟨_, rfl, .inl rfl⟩
      · rcases List.mem_cons.mp hy with rfl | hy
        · exact ⟨_, rfl, .inr rfl⟩
        · cases hy
    have k01 := (k0.same (same_upd (o := .lst [.str "mark", .str "box"]) nl)).trans k1
    have hq1 : H1 qn = some (.lst ([S c0, S c1, S c2].map V.str)) := k1.1 _ _ nqp (same_upd nl _ _ hq0)
    refine ⟨_, rfl, p, 2, rfl, k01.2, by decide, by decide, fun H2 r k2 r0 r2 => ⟨rfl, ?_⟩⟩
    generalize decide (V.int r = V.int 0) = nd
    refine ⟨by show 4 ≤ sizeLine; decide, fun t nt => ⟨t, _, rfl, SqT.of upd_same, rfl, _, _, rfl, _, _, rfl, _, _, rfl, _, _, rfl, rfl, ?_⟩⟩
    have st := same_upd (o := .tup [.str (S c0), .str hs, .non, .bl nd]) nt
    have k02 := (k01.trans k2).same st
    have hq2 := st _ _ (k2.1 _ _ nqp hq1)
    generalize (upd H2 t (.tup [.str (S c0), .str hs, .non, .bl nd])) = H2' at k02 hq2 ⊢
    -- a default or none
    refine ⟨fun σ' H' => Kp p Hb H' ∧ H' qn = some (.lst ([S c0, S c1, S c2].map V.str)) ∧ ∃ vd dd, σ' = [some (.ref a), some (.int (0 + (i : Int))), some (.ref p), some (.ref qn), some (.int (0 + (j : Int))), some (.str (S c0)), some (.str hs), some vd, some (.bl nd), y9, y10, y11, y12, y13] ∧ Dat K p H' vd dd ∧ (isNonD dd || isDefD dd hs) = true, ?_, fun σ' H' hM => ?_⟩
    · refine ⟨_, rfl, p, 2, rfl, k02.2, by decide, by decide, fun H3 r k3 r0 r2 => ⟨rfl, _, rfl, ?_⟩⟩
      have k03 := k02.trans k3
      have hq3 := k3.1 _ _ nqp hq2
      refine ite2 (fun _ => ?_) (fun _ => ⟨k03, hq3, .non, .none, rfl, ⟨.non, sml_non⟩, rfl⟩)
      refine ⟨_, rfl, rfl, _, rfl, ite2 (fun k => ?_) (fun k => ?_)⟩
      · have em : hs = "mark" := V.str.inj (of_decide_eq_true k)
        refine ⟨_, rfl, qn, _, 1, .str (S c1), rfl, rfl, sq hq3, atI_nat (j := 1) rfl, two_le, fun t1 n1 => ?_⟩
        have s1 := same_upd (o := .tup [.str "mark", .str (S c1)]) n1
        have ok : (Df.mk c1).ok hs := ⟨em, gg1⟩
        refine ⟨k03.same s1, s1 _ _ hq3, .ref t1, (Df.mk c1).data, rfl, ⟨.tup (SqT.of (hid_at (bag_ne k03.2 n1) upd_same)) (.cons (.str _) (.cons (.str _) .nil)), ⟨Df.okD ok, by have := Df.depth ok; omega⟩⟩, ?_⟩
        rcases Df.isDef ok with e | e
        · cases e
        · rw [e, Bool.or_true]
      · have eb : hs = "box" := by
          rcases hhs with e | e
          · exact absurd (decide_eq_true (by rw [e])) k
          · exact e
        refine ⟨_, rfl, qn, _, 1, .str (S c1), rfl, rfl, sq hq3, atI_nat (j := 1) rfl, _, rfl, qn, _, 2, .str (S c2), rfl, rfl, sq hq3, atI_nat (j := 2) rfl, two_le, fun u nu => ⟨two_le, fun t1 n1 => ?_⟩⟩
        have s1 := same_upd (o := .tup [.str (S c1), .str (S c2)]) nu
        have s2 := same_upd (o := .tup [.str "once", .ref u]) n1
        have hits : ItsOk [S c1, S c2] := by
          refine ⟨fun z hz => ?_, fun z hz => ?_, ?_, by show 2 ≤ 20; decide⟩
          · rcases List.mem_cons.mp hz with rfl | hz
            · exact gg1.ok
            · rcases List.mem_cons.mp hz with rfl | hz
              · exact gg2.ok
              · cases hz
          · rcases List.mem_cons.mp hz with rfl | hz
            · exact sms_good gg1
            · rcases List.mem_cons.mp hz with rfl | hz
              · exact sms_good gg2
              · cases hz
          · show (ltS (S c1) (S c2) && true) = true
            rw [lt12]
            rfl
        have ok : (Df.its "once" [S c1, S c2]).ok hs := ⟨eb, .inl rfl, hits⟩
        have npu := bag_ne k03.2 nu
        refine ⟨(k03.same s1).same s2, s2 _ _ (s1 _ _ hq3), .ref t1, (Df.its "once" [S c1, S c2]).data, rfl, ⟨.tup (SqT.of (hid_at (bag_ne (k03.same s1).2 n1) upd_same)) (.cons (.str _) (.cons (.tup (SqT.of (hid_at npu (s2 _ _ upd_same))) (.cons (.str _) (.cons (.str _) .nil))) .nil)), ⟨Df.okD ok, by have := Df.depth ok; omega⟩⟩, ?_⟩
        rcases Df.isDef ok with e | e
        · cases e
        · rw [e, Bool.or_true]
    obtain ⟨k3, hq3, vd, dd, rfl, Dd, hdd⟩ := hM
    -- the faults
    refine ⟨_, rfl, p, 4, rfl, k3.2, by decide, by decide, fun H4 f1 k4 a0 a1 => ⟨_, rfl, p, 8, rfl, k4.2, by decide, by decide, fun H5 f2 k5 b0 b1 => ⟨two_le, fun fa nfa => ?_⟩⟩⟩
    have k45 := k4.trans k5
    have sfa := same_upd (o := .lst [.int f1, .int f2]) nfa
    have nfp := bag_ne k45.2 nfa
    have kk := k45.same sfa
    have k6 := k3.trans kk
    have hq6 := kk.1 _ _ nqp hq3
    have hfa := upd_same (H := H5) (a := fa) (o := .lst [.int f1, .int f2])
    have Dd6 := Dd.kp kk
    generalize (upd H5 fa (.lst [.int f1, .int f2])) = H6 at k6 hq6 hfa Dd6 ⊢
    clear kk
    have DN : ∀ {H' : Hp}, Dat K p H' (.str (S c0)) (.str (S c0)) := ⟨.str _, sml_str (sms_good g0)⟩
    have DH : ∀ {H' : Hp}, Dat K p H' (.str hs) (.str hs) := ⟨.str _, sml_str (by rcases hhs with rfl | rfl <;> exact sms_lit (by decide +kernel))⟩
    have SEQ : ∀ {H' : Hp}, H' fa = some (.lst [.int f1, .int f2]) → SqL K H' fa [.int f1, .int f2] := fun h => SqL.of h
    -- named
    refine ⟨Stg K p qn fa (some (.ref a)) (some (.int (0 + (i : Int)))) (some (.ref p)) (some (.ref qn)) (some (.int (0 + (j : Int)))) Hb [S c0, S c1, S c2] f1 f2 (fun dn dh dd da due => dn = .str (S c0) ∧ dh = .str hs ∧ (isNonD dd || isDefD dd hs) = true ∧ enc (g3 da) due ∧ (g3 da = none → inF 3 f1 f2 = false)), ?_, fun σ' H' hM => ?_⟩
    · refine ⟨_, rfl, fa, _, rfl, .inl (SEQ hfa), rfl, rfl, _, rfl, ite2 (fun k => ?_) (fun k => ?_)⟩
      · refine ⟨_, rfl, by show 0 ≤ sizeLine; decide, fun t0 nt0 => ⟨by show 6 ≤ sizeLine; decide, fun l nl => ?_⟩⟩
        have s0 := same_upd (o := .tup []) nt0
        have sl := same_upd (o := .lst [.int 0, .int 1, .non, .str "", .ref t0, .str "yes"]) nl
        have k61 := (k6.same s0).same sl
        refine ⟨p, .ref l, rfl, k61.2, .inl ⟨l, _, rfl, bag_ne (k6.same s0).2 nl, SqL.of upd_same, by show 1 ≤ 6; decide, by show 6 ≤ 1000; decide, fun H7 y k7 hy => ?_⟩⟩
        have kk := ((Kp.of k6.2 s0).same sl).trans k7
        have e0 : H7 t0 = some (.tup []) := k7.1 _ _ (bag_ne k6.2 nt0) (sl _ _ upd_same)
        have hy' : ∃ da, Dat K p H7 y da ∧ isBoolD da = false := by
          rcases List.mem_cons.mp hy with rfl | hy
          · exact ⟨.int 0, ⟨.int _, sml_int _⟩, rfl⟩
          rcases List.mem_cons.mp hy with rfl | hy
          · exact ⟨.int 1, ⟨.int _, sml_int _⟩, rfl⟩
          rcases List.mem_cons.mp hy with rfl | hy
          · exact ⟨.none, ⟨.non, sml_non⟩, rfl⟩
          rcases List.mem_cons.mp hy with rfl | hy
          · exact ⟨.str "", ⟨.str _, sml_str (sms_lit (by decide +kernel))⟩, rfl⟩
          rcases List.mem_cons.mp hy with rfl | hy
          · exact ⟨.tuple [], ⟨.tup (SqT.of (hid_at (bag_ne k6.2 nt0) e0)) .nil, (smn_tup (n := 2) smn_nil (by decide)).sml⟩, rfl⟩
          rcases List.mem_cons.mp hy with rfl | hy
          · exact ⟨.str "yes", ⟨.str _, sml_str (sms_lit (by decide +kernel))⟩, rfl⟩
          cases hy
        obtain ⟨da, hda, eda⟩ := hy'
        refine ⟨_, _, rfl, k6.trans kk, kk.1 _ _ nqp hq6, kk.1 _ _ nfp hfa, _, _, _, _, _, _, _, da, 3, _, _, _, rfl, DN, DH, Dd6.kp kk, hda, rfl, rfl, hdd, ?_⟩
        unfold g3
        rw [if_pos eda]
        exact ⟨⟨rfl, by decide⟩, fun h => by cases h⟩
      · refine ⟨k6, hq6, hfa, _, _, _, _, _, _, _, .bool nd, 9, _, _, _, rfl, DN, DH, Dd6, ⟨.bl _, sml_bl _⟩, rfl, rfl, hdd, ?_⟩
        exact ⟨rfl, fun _ => by simpa using k⟩
    clear hfa hq6 k6 Dd6
    obtain ⟨k6, hq6, hfa, vn, dn, vh, dh, vd, dd, va, da, due, y11, y12, y13, rfl, Dn, Dh, Dd, Da, rfl, rfl, hdd, r1, r2⟩ := hM
    -- its default
    refine ⟨Stg K p qn fa (some (.ref a)) (some (.int (0 + (i : Int)))) (some (.ref p)) (some (.ref qn)) (some (.int (0 + (j : Int)))) Hb [S c0, S c1, S c2] f1 f2 (fun dn dh dd da due => dn = .str (S c0) ∧ dh = .str hs ∧ enc (g2 dd da hs) due ∧ (g2 dd da hs = none → inF 3 f1 f2 = false ∧ inF 2 f1 f2 = false)), ?_, fun σ' H' hM => ?_⟩
    · refine ⟨_, rfl, fa, _, rfl, .inl (SEQ hfa), rfl, rfl, _, rfl, ite2 (fun k => ?_) (fun k => ?_)⟩
      · obtain rfl := dp_strv Dh.q.dp
        refine ⟨_, rfl, _, rfl, _, rfl, qn, _, 1, .str (S c1), rfl, rfl, sq hq6, atI_nat (j := 1) rfl, _, rfl, qn, _, 2, .str (S c2), rfl, rfl, sq hq6, atI_nat (j := 2) rfl, p, hs, c1, c2, rfl, k6.2, hhs, gg1, gg2, lt12, fun H7 y d k7 hd bad => ⟨_, _, rfl, k6.trans k7, k7.1 _ _ nqp hq6, k7.1 _ _ nfp hfa, _, _, _, _, _, d, _, _, 2, _, _, _, rfl, Dn.kp k7, Dh.kp k7, ⟨hd, bad.sm⟩, Da.kp k7, rfl, rfl, ?_⟩⟩
        have ed : isDefD d hs = false := by
          have b0 := bad.no
          rcases hhs with rfl | rfl
          · rw [isDef_mark]
            rwa [if_pos rfl] at b0
          · rw [isDef_box]
            rwa [if_neg (by decide +kernel)] at b0
        unfold g2
        rw [if_pos (by rw [bad.ne, ed]; rfl)]
        exact ⟨⟨rfl, by decide⟩, fun h => by cases h⟩
      · refine ⟨k6, hq6, hfa, _, _, _, _, _, _, _, _, _, _, _, _, rfl, Dn, Dh, Dd, Da, rfl, rfl, ?_⟩
        unfold g2
        rw [if_neg (by rw [hdd]; simp)]
        exact ⟨r1, fun h => ⟨r2 h, by simpa using k⟩⟩
    clear r1 r2 hdd Da Dd Dh Dn hfa hq6 k6
    obtain ⟨k6, hq6, hfa, vn, dn, vh, dh, vd, dd, va, da, due, y11, y12, y13, rfl, Dn, Dh, Dd, Da, rfl, rfl, r1, r2⟩ := hM
    -- what it holds
    refine ⟨Stg K p qn fa (some (.ref a)) (some (.int (0 + (i : Int)))) (some (.ref p)) (some (.ref qn)) (some (.int (0 + (j : Int)))) Hb [S c0, S c1, S c2] f1 f2 (fun dn dh dd da due => dn = .str (S c0) ∧ enc (g1 dh dd da) due ∧ (g1 dh dd da = none → inF 3 f1 f2 = false ∧ inF 2 f1 f2 = false ∧ inF 1 f1 f2 = false)), ?_, fun σ' H' hM => ?_⟩
    · refine ⟨_, rfl, fa, _, rfl, .inl (SEQ hfa), rfl, rfl, _, rfl, ite2 (fun k => ?_) (fun k => ?_)⟩
      · refine ⟨_, rfl, by show 1 ≤ sizeLine; decide, fun t0 nt0 => ⟨by show 1 ≤ sizeLine; decide, fun t1 nt1 => ⟨by show 9 ≤ sizeLine; decide, fun l nl => ?_⟩⟩⟩
        have s0 := same_upd (o := .tup [.str "box"]) nt0
        have s1 := same_upd (o := .lst [.str "mark"]) nt1
        have sl := same_upd (o := .lst [.str "", .str "marks", .str "boxes", .str "Box", .non, .bl true, .int 1, .ref t0, .ref t1]) nl
        have k61 := (k6.same s0).same s1
        refine ⟨p, .ref l, rfl, (k61.same sl).2, .inl ⟨l, _, rfl, bag_ne k61.2 nl, SqL.of upd_same, by show 1 ≤ 9; decide, by show 9 ≤ 1000; decide, fun H7 y k7 hy => ?_⟩⟩
        have kk := (((Kp.of k6.2 s0).same s1).same sl).trans k7
        have e0 : H7 t0 = some (.tup [.str "box"]) := k7.1 _ _ (bag_ne k6.2 nt0) (sl _ _ (s1 _ _ upd_same))
        have e1 : H7 t1 = some (.lst [.str "mark"]) := k7.1 _ _ (bag_ne (k6.same s0).2 nt1) (sl _ _ upd_same)
        have hy' : ∃ dh, Dat K p H7 y dh ∧ isHoldsD dh = false := by
          rcases List.mem_cons.mp hy with rfl | hy
          · exact ⟨.str "", ⟨.str _, sml_str (sms_lit (by decide +kernel))⟩, by decide +kernel⟩
          rcases List.mem_cons.mp hy with rfl | hy
          · exact ⟨.str "marks", ⟨.str _, sml_str (sms_lit (by decide +kernel))⟩, by decide +kernel⟩
          rcases List.mem_cons.mp hy with rfl | hy
          · exact ⟨.str "boxes", ⟨.str _, sml_str (sms_lit (by decide +kernel))⟩, by decide +kernel⟩
          rcases List.mem_cons.mp hy with rfl | hy
          · exact ⟨.str "Box", ⟨.str _, sml_str (sms_lit (by decide +kernel))⟩, by decide +kernel⟩
          rcases List.mem_cons.mp hy with rfl | hy
          · exact ⟨.none, ⟨.non, sml_non⟩, rfl⟩
          rcases List.mem_cons.mp hy with rfl | hy
          · exact ⟨.bool true, ⟨.bl _, sml_bl _⟩, rfl⟩
          rcases List.mem_cons.mp hy with rfl | hy
          · exact ⟨.int 1, ⟨.int _, sml_int _⟩, rfl⟩
          rcases List.mem_cons.mp hy with rfl | hy
          · exact ⟨.tuple [.str "box"], ⟨.tup (SqT.of (hid_at (bag_ne k6.2 nt0) e0)) (.cons (.str _) .nil), (smn_tup (n := 2) (smn_cons (smn_lit (by decide +kernel)) smn_nil) (by decide)).sml⟩, rfl⟩
          rcases List.mem_cons.mp hy with rfl | hy
          · exact ⟨.list [.str "mark"], ⟨.lst (SqL.of (hid_at (bag_ne (k6.same s0).2 nt1) e1)) (.cons (.str _) .nil), (smn_lst (n := 2) (smn_cons (smn_lit (by decide +kernel)) smn_nil) (by decide)).sml⟩, rfl⟩
          cases hy
        obtain ⟨dx, hdx, edx⟩ := hy'
        refine ⟨_, _, rfl, k6.trans kk, kk.1 _ _ nqp hq6, kk.1 _ _ nfp hfa, _, _, _, dx, _, _, _, _, 1, _, _, _, rfl, Dn.kp kk, hdx, Dd.kp kk, Da.kp kk, rfl, ?_⟩
        unfold g1
        rw [if_pos edx]
        exact ⟨⟨rfl, by decide⟩, fun h => by cases h⟩
      · refine ⟨k6, hq6, hfa, _, _, _, _, _, _, _, _, _, _, _, _, rfl, Dn, Dh, Dd, Da, rfl, ?_⟩
        have eh : isHoldsD (.str hs) = true := by rcases hhs with rfl | rfl <;> rfl
        unfold g1
        rw [if_neg (by rw [eh]; simp)]
        exact ⟨r1, fun h => ⟨(r2 h).1, (r2 h).2, by simpa using k⟩⟩
    clear r1 r2 Da Dd Dh Dn hfa hq6 k6
    obtain ⟨k6, hq6, hfa, vn, dn, vh, dh, vd, dd, va, da, due, y11, y12, y13, rfl, Dn, Dh, Dd, Da, rfl, r1, r2⟩ := hM
    -- its name
    refine ⟨Stg K p qn fa (some (.ref a)) (some (.int (0 + (i : Int)))) (some (.ref p)) (some (.ref qn)) (some (.int (0 + (j : Int)))) Hb [S c0, S c1, S c2] f1 f2 (fun dn dh dd da due => ∃ k : Nat, faultOf dn dh dd da = some k ∧ due = k ∧ k ≤ 3), ?_, fun σ' H' hM => ?_⟩
    · refine ⟨_, rfl, fa, _, rfl, .inl (SEQ hfa), rfl, rfl, _, rfl, ite2 (fun k => ?_) (fun k => ?_)⟩
      · refine ⟨_, rfl, _, rfl, qn, _, 0, .str (S c0), rfl, rfl, sq hq6, atI_nat (j := 0) rfl, p, c0, rfl, k6.2, g0, fun H7 y d k7 hd sm nm => ⟨_, _, rfl, k6.trans k7, k7.1 _ _ nqp hq6, k7.1 _ _ nfp hfa, _, d, _, _, _, _, _, _, 0, _, _, _, rfl, ⟨hd, sm⟩, Dh.kp k7, Dd.kp k7, Da.kp k7, 0, ?_, rfl, by decide⟩⟩
        rw [fault_g, if_pos nm]
      · refine ⟨k6, hq6, hfa, _, _, _, _, _, _, _, _, _, _, _, _, rfl, Dn, Dh, Dd, Da, ?_⟩
        have en : isNameD (.str (S c0)) = true := g0.ok
        show ∃ k : Nat, faultOf (.str (S c0)) dh dd da = some k ∧ due = k ∧ k ≤ 3
        rw [fault_g, if_neg (by rw [en]; simp)]
        cases eg : g1 dh dd da with
        | none =>
          rw [eg] at r2
          obtain ⟨z3, z2, z1⟩ := r2 rfl
          exact (some_in a0 a1 (by simpa using k) z1 z2 z3).elim
        | some k9 =>
          rw [eg] at r1
          exact ⟨k9, rfl, r1.1, r1.2⟩
    clear r1 r2 Da Dd Dh Dn hfa hq6 k6
    obtain ⟨k6, hq6, hfa, vn, dn, vh, dh, vd, dd, va, da, due, y11, y12, y13, rfl, Dn, Dh, Dd, Da, k, hk, rfl, hk3⟩ := hM
    refine ⟨fun σ' H' => Kp p Hb H' ∧ H' qn = some (.lst ([S c0, S c1, S c2].map V.str)) ∧ ∃ t l y12 y13, σ' = [some (.ref a), some (.int (0 + (i : Int))), some (.ref p), some (.ref qn), some (.int (0 + (j : Int))), some vn, some vh, some vd, some va, some (.ref fa), some (.int (k : Nat)), some (.ref t), y12, y13] ∧ Dat K p H' vn dn ∧ H' t = some (.tup [.int (oneOf k), .ref l]) ∧ H' l = some (.lst [partV k vn]), ?_, fun σ' H' hM => ?_⟩
    · refine ⟨_, rfl, _, rfl, _, rfl, _, rfl, rfl, rfl, fun x dx hx hdx nxd => ?_⟩
      have nx0 : (upd H' dx (.own x)) x = none := by
        rw [upd_ne nxd.symm]
        exact hx
      have sx : Same H' (upd (upd H' dx (.own x)) x (.ins C dx [])) := (same_upd hdx).trans (same_upd nx0)
      have ex : (upd (upd H' dx (.own x)) x (.ins C dx [])) x = some (.ins C dx []) := upd_same
      generalize (upd (upd H' dx (.own x)) x (.ins C dx [])) = HX at sx ex ⊢
      refine ⟨x, dx, vn, vh, vd, va, dn, dh, dd, da, k, rfl, ex, ⟨Dq.dp (Dq.same Dn.q sx), Dn.s.ok⟩, ⟨Dq.dp (Dq.same Dh.q sx), Dh.s.ok⟩, ⟨Dq.dp (Dq.same Dd.q sx), Dd.s.ok⟩, ⟨Dq.dp (Dq.same Da.q sx), Da.s.ok⟩, hk, fun k0 d H2 s2 hd => ?_, fun k1 d H2 s2 hd => ?_⟩
      · refine ⟨true, X2.NN, fun _ e ne => ?_, fun h => by cases h⟩
        subst k0
        refine ⟨_, rfl, rfl, rfl, d, _, vn, rfl, hd, rfl, by show 1 ≤ sizeLine; decide, fun l nl => ⟨by show 2 ≤ sizeLine; decide, fun t nt => ?_⟩⟩
        have sl := same_upd (o := .lst [vn]) nl
        have st := same_upd (o := .tup [.int 0, .ref l]) nt
        have ss := ((sx.trans s2).trans sl).trans st
        exact ⟨k6.same ss, ss _ _ hq6, t, l, _, _, rfl, Dn.same ss, upd_same, st _ _ upd_same⟩
      · refine ⟨false, X2.PN, fun h => (by cases h), fun _ => ⟨true, X2.PP, fun _ e ne => ?_, fun h => by cases h⟩⟩
        refine ⟨_, rfl, rfl, rfl, d, _, .str (partOf k), rfl, hd, rfl, by show 1 ≤ sizeLine; decide, fun l nl => ⟨by show 2 ≤ sizeLine; decide, fun t nt => ?_⟩⟩
        have sl := same_upd (o := .lst [.str (partOf k)]) nl
        have st := same_upd (o := .tup [.int 1, .ref l]) nt
        have ss := ((sx.trans s2).trans sl).trans st
        have eo : oneOf k = 1 := if_neg k1
        have ep : partV k vn = .str (partOf k) := if_neg k1
        refine ⟨k6.same ss, ss _ _ hq6, t, l, _, _, rfl, Dn.same ss, ?_, ?_⟩
        · rw [eo]
          exact upd_same
        · rw [ep]
          exact st _ _ upd_same
    clear Dn hfa hq6 k6
    obtain ⟨k6, hq6, t, l, y12, y13, rfl, Dn, ht, hl⟩ := hM
    -- what must be told
    refine ⟨fun σ' H' => Kp p Hb H' ∧ H' qn = some (.lst ([S c0, S c1, S c2].map V.str)) ∧ ∃ m, σ' = [some (.ref a), some (.int (0 + (i : Int))), some (.ref p), some (.ref qn), some (.int (0 + (j : Int))), some vn, some vh, some vd, some va, some (.ref fa), some (.int (k : Nat)), some (.ref t), y12, some (.ref m)] ∧ Dat K p H' vn dn ∧ H' t = some (.tup [.int (oneOf k), .ref l]) ∧ H' l = some (.lst [partV k vn]) ∧ H' m = some (.lst [partV k vn]), ?_, fun σ' H' hM => ?_⟩
    · refine ⟨_, rfl, by show 1 ≤ sizeLine; decide, fun l0 n0 => ⟨by show 1 ≤ sizeLine; decide, fun l1 n1 => ⟨by show 1 ≤ sizeLine; decide, fun l2 n2 => ⟨by show 1 ≤ sizeLine; decide, fun l3 n3 => ⟨by show 4 ≤ sizeLine; decide, fun l4 n4 => ?_⟩⟩⟩⟩⟩
      have s0 := same_upd (o := .lst [vn]) n0
      have s1 := same_upd (o := .lst [.str "holds"]) n1
      have s2 := same_upd (o := .lst [.str "default"]) n2
      have s3 := same_upd (o := .lst [.str "named"]) n3
      have s4 := same_upd (o := .lst [.ref l0, .ref l1, .ref l2, .ref l3]) n4
      have ss := (((s0.trans s1).trans s2).trans s3).trans s4
      have h0 := s4 _ _ (s3 _ _ (s2 _ _ (s1 _ _ (upd_same (H := H') (a := l0) (o := .lst [vn])))))
      have h1 := s4 _ _ (s3 _ _ (s2 _ _ (upd_same (H := upd H' l0 (.lst [vn])) (a := l1) (o := .lst [.str "holds"]))))
      have h2 := s4 _ _ (s3 _ _ (upd_same (H := upd (upd H' l0 (.lst [vn])) l1 (.lst [.str "holds"])) (a := l2) (o := .lst [.str "default"])))
      have h3 := s4 _ _ (upd_same (H := upd (upd (upd H' l0 (.lst [vn])) l1 (.lst [.str "holds"])) l2 (.lst [.str "default"])) (a := l3) (o := .lst [.str "named"]))
      have hcase : k = 0 ∨ k = 1 ∨ k = 2 ∨ k = 3 := by omega
      rcases hcase with rfl | rfl | rfl | rfl
      · exact ⟨_, rfl, l4, _, _, .ref l0, rfl, rfl, SqL.of upd_same, atI_nat (j := 0) rfl, k6.same ss, ss _ _ hq6, l0, rfl, Dn.same ss, ss _ _ ht, ss _ _ hl, h0⟩
      · exact ⟨_, rfl, l4, _, _, .ref l1, rfl, rfl, SqL.of upd_same, atI_nat (j := 1) rfl, k6.same ss, ss _ _ hq6, l1, rfl, Dn.same ss, ss _ _ ht, ss _ _ hl, h1⟩
      · exact ⟨_, rfl, l4, _, _, .ref l2, rfl, rfl, SqL.of upd_same, atI_nat (j := 2) rfl, k6.same ss, ss _ _ hq6, l2, rfl, Dn.same ss, ss _ _ ht, ss _ _ hl, h2⟩
      · exact ⟨_, rfl, l4, _, _, .ref l3, rfl, rfl, SqL.of upd_same, atI_nat (j := 3) rfl, k6.same ss, ss _ _ hq6, l3, rfl, Dn.same ss, ss _ _ ht, ss _ _ hl, h3⟩
    clear Dn ht hl hq6 k6
    obtain ⟨k6, hq6, m, rfl, Dn, ht, hl, hm⟩ := hM
    have emin : (if ((k : Nat) : Int) < 1 then ((k : Nat) : Int) else 1) = oneOf k := by
      unfold oneOf
      split <;> split <;> omega
    refine ⟨_, rfl, _, rfl, 1, (k : Nat), rfl, _, rfl, two_le, fun t2 nt2 => ?_⟩
    rw [emin]
    have s2 := same_upd (o := .tup [.int (oneOf k), .ref m]) nt2
    have k7 := k6.same s2
    have hq7 := s2 _ _ hq6
    have Dn7 := Dn.same s2
    have ht7 := s2 _ _ ht
    have hl7 := s2 _ _ hl
    have hm7 := s2 _ _ hm
    have hn7 := upd_same (H := H') (a := t2) (o := .tup [.int (oneOf k), .ref m])
    generalize (upd H' t2 (.tup [.int (oneOf k), .ref m])) = H7 at k7 hq7 Dn7 ht7 hl7 hm7 hn7 ⊢
    have ok := told_ok (k := k) Dn.s
    refine ⟨toldD k dn, toldD k dn, told_dp (SqT.of ht7) (SqL.of hl7) Dn7.q.dp, told_dp (SqT.of hn7) (SqL.of hm7) Dn7.q.dp, ok.sh, ok.sh, _, rfl, ?_⟩
    rw [told_refl Dn.s]
    refine iteF ?_
    refine ⟨_, rfl, rfl, _, rfl, ite2 (fun e0 => ?_) (fun _ => ⟨k7, hq7, _, _, _, _, _, _, _, _, _, _, rfl⟩)⟩
    have ek : k = 0 := by
      have z := V.int.inj (of_decide_eq_true e0)
      omega
    subst ek
    refine ⟨_, rfl, t, _, 1, .ref l, rfl, rfl, SqT.of ht7, atI_nat (j := 1) rfl, l, _, 0, vn, rfl, rfl, SqL.of hl7, atI_nat (j := 0) rfl, vn, .ty "bool", _, _, _, rfl, .ty _, dp_ty Dn7.q.dp, kit_bool _, _, rfl, vn, .ty "bool", _, _, _, rfl, .ty _, dp_ty Dn7.q.dp, kit_bool _, rfl, _, rfl, ?_⟩
    rw [decide_eq_true rfl]
    exact iteF ⟨k7, hq7, _, _, _, _, _, _, _, _, _, _, rfl⟩
end
end Dr
namespace Dr
open PySem PySem.Spec PyProof.Rows L2
open SX (S S_len S_cat)
theorem exm_val {K : PySem.W.Frag} {T S : Addr} {b : Bool} (h1 : PySem.W.subIn K (.ref S) (.type "BaseException") = some true) (h2 : PySem.W.isClsIn K S = true) (h3 : PySem.W.typeIn K (.ref S) = some (.type "type")) (h4 : PySem.W.subIn K (.ref T) (.ref S) = some b) :
    PySem.W.exmOne K (.ref T) (.ref S) = some b := by
  have e1 : (PySem.W.subIn K (.ref S) (.type "BaseException") == some true) = true := by rw [h1] <;> rfl
  have e2 : ((PySem.W.clsIn K S).isSome && PySem.W.typeIn K (.ref S) == some (.type "type")) = true := by
    have h2' : (PySem.W.clsIn K S).isSome = true := h2
    rw [h2', h3] <;> rfl
  show (if (PySem.W.subIn K (.ref S) (.type "BaseException") == some true) = true then (if ((PySem.W.clsIn K S).isSome && PySem.W.typeIn K (.ref S) == some (.type "type")) = true then PySem.W.subIn K (.ref T) (.ref S) else none) else none) = some b
  rw [if_pos e1, if_pos e2]
  exact h4
theorem all_mk {l : PySem.W.OpenLaw} {w : World} {K : PySem.W.Frag} {h : Heap} {mg : Str → Option Value} {fa C CN CP gN gP D aB aM aX m1 x1 x2 x3 x4 fnm fow fas fit ffo fso fhf fdf fbg ftk fof fns fwn fwd flw fpi : Addr} (X : K.In h) (G : h.Ns mainGlobals mg) (hfa : mg "law" = some (.ref fa))
    {odnm annm odow anow odas anas odit anit odfo anfo odso anso odhf anhf oddf andf odbg anbg odtk antk odof anof odns anns odwn anwn odwd anwd odlw anlw odpi anpi odxN anxN odxP anxP ddaB ddaM ddaX ddm1 ddx1 ddx2 ddx3 ddx4 : Option Addr} {slnm slow slas slit slfo slso slhf sldf slbg sltk slof slns slwn slwd sllw slpi slxN slxP ssaB ssaM ssaX ssm1 ssx1 ssx2 ssx3 ssx4 : Array (Option Value)} {ocnm dcnm pmnm cdnm ctnm kVnm ocow dcow pmow cdow ctow kVow ocas dcas pmas cdas ctas kVas ocit dcit pmit cdit ctit kVit ocfo dcfo pmfo cdfo ctfo kVfo ocso dcso pmso cdso ctso kVso ochf dchf pmhf cdhf cthf kVhf ocdf dcdf pmdf cddf ctdf kVdf ocbg dcbg pmbg cdbg ctbg kVbg octk dctk pmtk cdtk cttk kVtk ocof dcof pmof cdof ctof kVof ocns dcns pmns cdns ctns kVns ocwn dcwn pmwn cdwn ctwn kVwn ocwd dcwd pmwd cdwd ctwd kVwd oclw dclw pmlw cdlw ctlw kVlw ocpi dcpi pmpi cdpi ctpi ocxN dcxN pmxN cdxN ctxN kVxN ocxP dcxP pmxP cdxP ctxP kVxP : Value} {th tl : Tok} {nmN qN nmP qP : Str} {NN NP BAN BAP : Addr} {bsN bsP : List Value} {snN snP : List Str} {subN subP : List Value} {abN abP : Bool} {colN colP : Option Bool} {ddN ddP : Option Addr} {u0N u1N u2N u3N u5N u0P u1P u2P u3P u5P : Option Value} {itaB itm1 itx1 itx2 itx3 itx4 : Array Value} {nnaB nnaM nnaX nnm1 nnx1 nnx2 nnx3 nnx4 : Nat}
    (anm : PySem.W.nsIn K mainGlobals "is_name" = some (some (.ref fnm)))
    (lnm : K.lookup fnm = some ⟨ocnm, odnm, .func (PySem.W.fnOf "is_name" "is_name" (defArgs sIsName) (defBody sIsName) (defScope sIsName) .none kVnm dcnm pmnm annm cdnm ctnm), slnm⟩)
    (cnm : PySem.W.codeIn K cdnm "is_name" = true)
    (knm : PySem.W.keepIn K (.ref fnm) = true)
    (aow : PySem.W.nsIn K mainGlobals "is_owner" = some (some (.ref fow)))
    (low : K.lookup fow = some ⟨ocow, odow, .func (PySem.W.fnOf "is_owner" "is_owner" (defArgs sIsOwner) (defBody sIsOwner) (defScope sIsOwner) .none kVow dcow pmow anow cdow ctow), slow⟩)
    (cow : PySem.W.codeIn K cdow "is_owner" = true)
    (kow : PySem.W.keepIn K (.ref fow) = true)
    (aas : PySem.W.nsIn K mainGlobals "is_ascending" = some (some (.ref fas)))
    (las : K.lookup fas = some ⟨ocas, odas, .func (PySem.W.fnOf "is_ascending" "is_ascending" (defArgs sIsAsc) (defBody sIsAsc) (defScope sIsAsc) .none kVas dcas pmas anas cdas ctas), slas⟩)
    (cas : PySem.W.codeIn K cdas "is_ascending" = true)
    (kas : PySem.W.keepIn K (.ref fas) = true)
    (ait : PySem.W.nsIn K mainGlobals "is_items" = some (some (.ref fit)))
    (lit : K.lookup fit = some ⟨ocit, odit, .func (PySem.W.fnOf "is_items" "is_items" (defArgs sIsItems) (defBody sIsItems) (defScope sIsItems) .none kVit dcit pmit anit cdit ctit), slit⟩)
    (cit : PySem.W.codeIn K cdit "is_items" = true)
    (kit : PySem.W.keepIn K (.ref fit) = true)
    (afo : PySem.W.nsIn K mainGlobals "form_of" = some (some (.ref ffo)))
    (lfo : K.lookup ffo = some ⟨ocfo, odfo, .func (PySem.W.fnOf "form_of" "form_of" (defArgs sFormOf) (defBody sFormOf) (defScope sFormOf) .none kVfo dcfo pmfo anfo cdfo ctfo), slfo⟩)
    (cfo : PySem.W.codeIn K cdfo "form_of" = true)
    (kfo : PySem.W.keepIn K (.ref ffo) = true)
    (aso : PySem.W.nsIn K mainGlobals "is_of_sort" = some (some (.ref fso)))
    (lso : K.lookup fso = some ⟨ocso, odso, .func (PySem.W.fnOf "is_of_sort" "is_of_sort" (defArgs sIsSort) (defBody sIsSort) (defScope sIsSort) .none kVso dcso pmso anso cdso ctso), slso⟩)
    (cso : PySem.W.codeIn K cdso "is_of_sort" = true)
    (kso : PySem.W.keepIn K (.ref fso) = true)
    (ahf : PySem.W.nsIn K mainGlobals "has_form" = some (some (.ref fhf)))
    (lhf : K.lookup fhf = some ⟨ochf, odhf, .func (PySem.W.fnOf "has_form" "has_form" (defArgs sHasForm) (defBody sHasForm) (defScope sHasForm) .none kVhf dchf pmhf anhf cdhf cthf), slhf⟩)
    (chf : PySem.W.codeIn K cdhf "has_form" = true)
    (khf : PySem.W.keepIn K (.ref fhf) = true)
    (adf : PySem.W.nsIn K mainGlobals "is_default" = some (some (.ref fdf)))
    (ldf : K.lookup fdf = some ⟨ocdf, oddf, .func (PySem.W.fnOf "is_default" "is_default" (defArgs sIsDef) (defBody sIsDef) (defScope sIsDef) .none kVdf dcdf pmdf andf cddf ctdf), sldf⟩)
    (cdf : PySem.W.codeIn K cddf "is_default" = true)
    (kdf : PySem.W.keepIn K (.ref fdf) = true)
    (abg : PySem.W.nsIn K mainGlobals "_law_bag" = some (some (.ref fbg)))
    (lbg : K.lookup fbg = some ⟨ocbg, odbg, .func (PySem.W.fnOf "_law_bag" "_law_bag" (defArgs sBag) (defBody sBag) (defScope sBag) .none kVbg dcbg pmbg anbg cdbg ctbg), slbg⟩)
    (cbg : PySem.W.codeIn K cdbg "_law_bag" = true)
    (kbg : PySem.W.keepIn K (.ref fbg) = true)
    (atk : PySem.W.nsIn K mainGlobals "_law_take" = some (some (.ref ftk)))
    (ltk : K.lookup ftk = some ⟨octk, odtk, .func (PySem.W.fnOf "_law_take" "_law_take" (defArgs sTake) (defBody sTake) (defScope sTake) .none kVtk dctk pmtk antk cdtk cttk), sltk⟩)
    (ctk : PySem.W.codeIn K cdtk "_law_take" = true)
    (ktk : PySem.W.keepIn K (.ref ftk) = true)
    (aof : PySem.W.nsIn K mainGlobals "_law_of" = some (some (.ref fof)))
    (lof : K.lookup fof = some ⟨ocof, odof, .func (PySem.W.fnOf "_law_of" "_law_of" (defArgs sOf) (defBody sOf) (defScope sOf) .none kVof dcof pmof anof cdof ctof), slof⟩)
    (cof : PySem.W.codeIn K cdof "_law_of" = true)
    (kof : PySem.W.keepIn K (.ref fof) = true)
    (ans : PySem.W.nsIn K mainGlobals "_law_names" = some (some (.ref fns)))
    (lns : K.lookup fns = some ⟨ocns, odns, .func (PySem.W.fnOf "_law_names" "_law_names" (defArgs sNames) (defBody sNames) (defScope sNames) .none kVns dcns pmns anns cdns ctns), slns⟩)
    (cns : PySem.W.codeIn K cdns "_law_names" = true)
    (kns : PySem.W.keepIn K (.ref fns) = true)
    (awn : PySem.W.nsIn K mainGlobals "_law_wrong_name" = some (some (.ref fwn)))
    (lwn : K.lookup fwn = some ⟨ocwn, odwn, .func (PySem.W.fnOf "_law_wrong_name" "_law_wrong_name" (defArgs sWN) (defBody sWN) (defScope sWN) .none kVwn dcwn pmwn anwn cdwn ctwn), slwn⟩)
    (cwn : PySem.W.codeIn K cdwn "_law_wrong_name" = true)
    (kwn : PySem.W.keepIn K (.ref fwn) = true)
    (awd : PySem.W.nsIn K mainGlobals "_law_wrong_default" = some (some (.ref fwd)))
    (lwd : K.lookup fwd = some ⟨ocwd, odwd, .func (PySem.W.fnOf "_law_wrong_default" "_law_wrong_default" (defArgs sWD) (defBody sWD) (defScope sWD) .none kVwd dcwd pmwd anwd cdwd ctwd), slwd⟩)
    (cwd : PySem.W.codeIn K cdwd "_law_wrong_default" = true)
    (kwd : PySem.W.keepIn K (.ref fwd) = true)
    (alw : PySem.W.nsIn K mainGlobals "law" = some (some (.ref flw)))
    (llw : K.lookup flw = some ⟨oclw, odlw, .func (PySem.W.fnOf "law" "law" (defArgs sLaw) (defBody sLaw) (defScope sLaw) .none kVlw dclw pmlw anlw cdlw ctlw), sllw⟩)
    (clw : PySem.W.codeIn K cdlw "law" = true)
    (klw : PySem.W.keepIn K (.ref flw) = true)
    (aC : PySem.W.nsIn K mainGlobals "Param" = some (some (.ref C)))
    (api : PySem.W.findIn K (.ref C) "__init__" = some (some (.ref fpi)))
    (ipi : PySem.W.isFn K (.ref fpi) = true)
    (lpi : K.lookup fpi = some ⟨ocpi, odpi, .func (PySem.W.fnOf "__init__" "Param.__init__" (defArgs sPInit) (defBody sPInit) (defScope sPInit) .none (.ref D) dcpi pmpi anpi cdpi ctpi), slpi⟩)
    (cpi : PySem.W.codeIn K cdpi "Param.__init__" = true)
    (kpi : PySem.W.keepIn K (.ref fpi) = true)
    (dh : PySem.W.nsIn K D "holds" = some (some (.str "box" th)))
    (dd0 : PySem.W.nsIn K D "default" = some (some .none))
    (dn : PySem.W.nsIn K D "named" = some (some (.bool false)))
    (gB : PySem.W.nsIn K mainGlobals "BARRED" = some (some (.ref aB)))
    (gM : PySem.W.nsIn K mainGlobals "MARK_DEFAULTS" = some (some (.ref aM)))
    (gX : PySem.W.nsIn K mainGlobals "BOX_DEFAULTS" = some (some (.ref aX)))
    (gL : PySem.W.nsIn K mainGlobals "MOST_LETTERS" = some (some (.int 8 tl)))
    (taB : K.lookup aB = some ⟨.type "tuple", ddaB, .seq itaB nnaB, ssaB⟩)
    (taM : K.lookup aM = some ⟨.type "tuple", ddaM, .seq #[.ref m1] nnaM, ssaM⟩)
    (taX : K.lookup aX = some ⟨.type "tuple", ddaX, .seq #[.ref x1, .ref x2, .ref x3, .ref x4] nnaX, ssaX⟩)
    (tm1 : K.lookup m1 = some ⟨.type "tuple", ddm1, .seq itm1 nnm1, ssm1⟩)
    (tx1 : K.lookup x1 = some ⟨.type "tuple", ddx1, .seq itx1 nnx1, ssx1⟩)
    (tx2 : K.lookup x2 = some ⟨.type "tuple", ddx2, .seq itx2 nnx2, ssx2⟩)
    (tx3 : K.lookup x3 = some ⟨.type "tuple", ddx3, .seq itx3 nnx3, ssx3⟩)
    (tx4 : K.lookup x4 = some ⟨.type "tuple", ddx4, .seq itx4 nnx4, ssx4⟩)
    (vaB : strsB itaB.toList barred = true)
    (vm1 : strsB itm1.toList ["mark", "item"] = true)
    (vx1 : strsB itx1.toList ["once", "items"] = true)
    (vx2 : strsB itx2.toList ["early", "kind", "value"] = true)
    (vx3 : strsB itx3.toList ["anew", "items"] = true)
    (vx4 : strsB itx4.toList ["late", "owner", "value"] = true)
    (mk : PySem.W.makesIn K C = true)
    (kc : PySem.W.keepIn K (.ref C) = true)
    (aCN : PySem.W.nsIn K mainGlobals "BadName" = some (some (.ref CN)))
    (xLN : K.lookup CN = some (excClassObj nmN qN CN NN bsN [.ref BAN, .type "ValueError", .type "Exception", .type "BaseException", .type "object"] true snN subN abN colN ddN u0N u1N u2N u3N u5N "ValueError.__new__"))
    (saN : PySem.W.findIn K (.ref CN) "__setattr__" = some (some (.builtin "object.__setattr__")))
    (gaN : PySem.W.findIn K (.ref CN) "__getattribute__" = some (some (.builtin "BaseException.__getattribute__")))
    (ggN : PySem.W.findIn K (.ref CN) "__getattr__" = some none)
    (nfN : PySem.W.findIn K (.ref CN) "name" = some none)
    (aiN : PySem.W.findIn K (.ref CN) "__init__" = some (some (.ref gN)))
    (tiN : PySem.W.typeIn K (.ref gN) = some (.type "function"))
    (liN : K.lookup gN = some ⟨ocxN, odxN, .func (PySem.W.fnOf "__init__" "BadName.__init__" (defArgs sXN) (defBody sXN) (defScope sXN) .none kVxN dcxN pmxN anxN cdxN ctxN), slxN⟩)
    (ciN : PySem.W.codeIn K cdxN "BadName.__init__" = true)
    (kiN : PySem.W.keepIn K (.ref gN) = true)
    (kCN : PySem.W.keepIn K (.ref CN) = true)
    (eCN : PySem.W.subIn K (.ref CN) (.type "BaseException") = some true)
    (tCN : PySem.W.typeIn K (.ref CN) = some (.type "type"))
    (hCN : PySem.W.hasDictIn K CN = true)
    (iCN : PySem.W.isClsIn K CN = true)
    (aCP : PySem.W.nsIn K mainGlobals "BadParam" = some (some (.ref CP)))
    (xLP : K.lookup CP = some (excClassObj nmP qP CP NP bsP [.ref BAP, .type "ValueError", .type "Exception", .type "BaseException", .type "object"] true snP subP abP colP ddP u0P u1P u2P u3P u5P "ValueError.__new__"))
    (saP : PySem.W.findIn K (.ref CP) "__setattr__" = some (some (.builtin "object.__setattr__")))
    (gaP : PySem.W.findIn K (.ref CP) "__getattribute__" = some (some (.builtin "BaseException.__getattribute__")))
    (ggP : PySem.W.findIn K (.ref CP) "__getattr__" = some none)
    (nfP : PySem.W.findIn K (.ref CP) "part" = some none)
    (aiP : PySem.W.findIn K (.ref CP) "__init__" = some (some (.ref gP)))
    (tiP : PySem.W.typeIn K (.ref gP) = some (.type "function"))
    (liP : K.lookup gP = some ⟨ocxP, odxP, .func (PySem.W.fnOf "__init__" "BadParam.__init__" (defArgs sXP) (defBody sXP) (defScope sXP) .none kVxP dcxP pmxP anxP cdxP ctxP), slxP⟩)
    (ciP : PySem.W.codeIn K cdxP "BadParam.__init__" = true)
    (kiP : PySem.W.keepIn K (.ref gP) = true)
    (kCP : PySem.W.keepIn K (.ref CP) = true)
    (eCP : PySem.W.subIn K (.ref CP) (.type "BaseException") = some true)
    (tCP : PySem.W.typeIn K (.ref CP) = some (.type "type"))
    (hCP : PySem.W.hasDictIn K CP = true)
    (iCP : PySem.W.isClsIn K CP = true)
    (sNN : PySem.W.subIn K (.ref CN) (.ref CN) = some true)
    (sPN : PySem.W.subIn K (.ref CP) (.ref CN) = some false)
    (sPP : PySem.W.subIn K (.ref CP) (.ref CP) = some true)
    (z_len : PySem.W.nsIn K mainGlobals "len" = some none)
    (z_isinstance : PySem.W.nsIn K mainGlobals "isinstance" = some none)
    (z_str : PySem.W.nsIn K mainGlobals "str" = some none)
    (z_tuple : PySem.W.nsIn K mainGlobals "tuple" = some none)
    (z_all : PySem.W.nsIn K mainGlobals "all" = some none)
    (z_zip : PySem.W.nsIn K mainGlobals "zip" = some none)
    (z_int : PySem.W.nsIn K mainGlobals "int" = some none)
    (z_abs : PySem.W.nsIn K mainGlobals "abs" = some none)
    (z_enumerate : PySem.W.nsIn K mainGlobals "enumerate" = some none)
    (z_range : PySem.W.nsIn K mainGlobals "range" = some none)
    (z_sorted : PySem.W.nsIn K mainGlobals "sorted" = some none)
    (z_max : PySem.W.nsIn K mainGlobals "max" = some none)
    (z_min : PySem.W.nsIn K mainGlobals "min" = some none)
    (z_bool : PySem.W.nsIn K mainGlobals "bool" = some none) :
    ∃ fd : FuncData, (∀ (s : Shared) (v : Value), BindsTo s fd ⟨[v], []⟩ [("_law_script", v)]) ∧ ∀ base : Heap, K.In base → base.Ns mainGlobals mg → FnOk l.prog w K mg base CX0 8 fa fd ["_law_script"] (spLaw K) := by
  have e := hfa.symm.trans (PySem.W.mg_of X G alw)
  cases e
  have g : ∀ {n : Str} {v : Value}, PySem.W.nsIn K mainGlobals n = some (some v) → mg n = some v := fun h => PySem.W.mg_of X G h
  have z : ∀ {n : Str}, PySem.W.nsIn K mainGlobals n = some none → mg n = none := fun h => PySem.W.mg_none_of X G h
  have Fnm := fun_mk (st := sIsName) lnm cnm knm
  have bnm := Fnm.binds (ps := ["thing"]) fun _ _ _ _ _ _ us hl => match us, hl with | [_], _ => rfl
  have Fow := fun_mk (st := sIsOwner) low cow kow
  have bow := Fow.binds (ps := ["thing"]) fun _ _ _ _ _ _ us hl => match us, hl with | [_], _ => rfl
  have Fas := fun_mk (st := sIsAsc) las cas kas
  have bas := Fas.binds (ps := ["words"]) fun _ _ _ _ _ _ us hl => match us, hl with | [_], _ => rfl
  have Fit := fun_mk (st := sIsItems) lit cit kit
  have bit := Fit.binds (ps := ["thing"]) fun _ _ _ _ _ _ us hl => match us, hl with | [_], _ => rfl
  have Ffo := fun_mk (st := sFormOf) lfo cfo kfo
  have bfo := Ffo.binds (ps := ["thing", "forms"]) fun _ _ _ _ _ _ us hl => match us, hl with | [_, _], _ => rfl
  have Fso := fun_mk (st := sIsSort) lso cso kso
  have bso := Fso.binds (ps := ["part", "sort"]) fun _ _ _ _ _ _ us hl => match us, hl with | [_, _], _ => rfl
  have Fhf := fun_mk (st := sHasForm) lhf chf khf
  have bhf := Fhf.binds (ps := ["thing", "forms"]) fun _ _ _ _ _ _ us hl => match us, hl with | [_, _], _ => rfl
  have Fdf := fun_mk (st := sIsDef) ldf cdf kdf
  have bdf := Fdf.binds (ps := ["thing", "holds"]) fun _ _ _ _ _ _ us hl => match us, hl with | [_, _], _ => rfl
  have Fbg := fun_mk (st := sBag) lbg cbg kbg
  have bbg := Fbg.binds (ps := ["_law_script", "_law_at"]) fun _ _ _ _ _ _ us hl => match us, hl with | [_, _], _ => rfl
  have Ftk := fun_mk (st := sTake) ltk ctk ktk
  have btk := Ftk.binds (ps := ["_law_bag_here", "_law_many"]) fun _ _ _ _ _ _ us hl => match us, hl with | [_, _], _ => rfl
  have Fof := fun_mk (st := sOf) lof cof kof
  have bof := Fof.binds (ps := ["_law_bag_here", "_law_some"]) fun _ _ _ _ _ _ us hl => match us, hl with | [_, _], _ => rfl
  have Fns := fun_mk (st := sNames) lns cns kns
  have bns := Fns.binds (ps := ["_law_bag_here", "_law_many"]) fun _ _ _ _ _ _ us hl => match us, hl with | [_, _], _ => rfl
  have Fwn := fun_mk (st := sWN) lwn cwn kwn
  have bwn := Fwn.binds (ps := ["_law_bag_here", "_law_name"]) fun _ _ _ _ _ _ us hl => match us, hl with | [_, _], _ => rfl
  have Fwd := fun_mk (st := sWD) lwd cwd kwd
  have bwd := Fwd.binds (ps := ["_law_bag_here", "_law_sort", "_law_one", "_law_two"]) fun _ _ _ _ _ _ us hl => match us, hl with | [_, _, _, _], _ => rfl
  have Flw := fun_mk (st := sLaw) llw clw klw
  have Fpi : FP K fpi _ := ⟨⟨_, _, _, _, _, _, _, _, _, _, rfl, lpi, cpi, .inl ⟨rfl, rfl⟩, .inr ⟨D, rfl, fun q hq => by
    rcases List.mem_cons.mp hq with rfl | hq
    · exact ⟨_, dh, ⟨_, rfl⟩⟩
    · rcases List.mem_cons.mp hq with rfl | hq
      · exact ⟨_, dd0, rfl⟩
      · rcases List.mem_cons.mp hq with rfl | hq
        · exact ⟨_, dn, rfl⟩
        · cases hq⟩⟩, kpi⟩
  have FxN := fun_mk (st := sXN) liN ciN kiN
  have bxN := FxN.binds (ps := ["self", "name"]) fun _ _ _ _ _ _ us hl => match us, hl with | [_, _], _ => rfl
  have FxP := fun_mk (st := sXP) liP ciP kiP
  have bxP := FxP.binds (ps := ["self", "part"]) fun _ _ _ _ _ _ us hl => match us, hl with | [_, _], _ => rfl
  have EN : Erc K mg "BadName" "name" CN gN := ⟨⟨⟨nmN, qN, NN, bsN, _, snN, subN, abN, colN, ddN, u0N, u1N, u2N, u3N, u5N, xLN, rfl⟩, saN, eCN, tCN, kCN⟩, nfN, aiN, tiN, g aCN⟩
  have EP : Erc K mg "BadParam" "part" CP gP := ⟨⟨⟨nmP, qP, NP, bsP, _, snP, subP, abP, colP, ddP, u0P, u1P, u2P, u3P, u5P, xLP, rfl⟩, saP, eCP, tCP, kCP⟩, nfP, aiP, tiP, g aCP⟩
  have X2 : Exc2 K mg CN CP := ⟨g aCN, g aCP, ⟨gaN, ggN, eCN, hCN⟩, ⟨gaP, ggP, eCP, hCP⟩, nfN, nfP, exm_val eCN iCN tCN sNN, exm_val eCN iCN tCN sPN, exm_val eCP iCP tCP sPP⟩
  have W : Wds K mg := ⟨z z_len, z z_isinstance, z z_str, z z_tuple, z z_all, z z_zip, ⟨_, g gL⟩, ⟨aB, g gB, fm_of taB vaB (by decide)⟩⟩
  have B : Blt mg := ⟨z z_len, z z_int, z z_abs, z z_enumerate⟩
  have L : BltL mg := ⟨z z_range, z z_max, z z_min, z z_bool, z z_sorted⟩
  have FT : FmT K mg := ⟨⟨aM, g gM, fms_of (as := [m1]) taM (by show 1 ≤ 1000; decide) (.cons (fm_of tm1 vm1 (by decide)) .nil)⟩, ⟨aX, g gX, fms_of (as := [x1, x2, x3, x4]) taX (by show 4 ≤ 1000; decide) (.cons (fm_of tx1 vx1 (by decide)) (.cons (fm_of tx2 vx2 (by decide)) (.cons (fm_of tx3 vx3 (by decide)) (.cons (fm_of tx4 vx4 (by decide)) .nil))))⟩⟩
  refine ⟨PySem.W.fnOf "law" "law" (defArgs sLaw) (defBody sLaw) (defScope sLaw) .none kVlw dclw pmlw anlw cdlw ctlw, fun s v => .of_eq rfl, fun base _ _ => ?_⟩
  have Gnm := ok_name (P := l.prog) (w := w) (base := base) Fnm W
  have Gow := ok_owner Fow Gnm (g anm) knm bnm
  have Gas := ok_asc (P := l.prog) (w := w) (base := base) Fas W
  have Git := ok_items Fit W Gnm (g anm) knm bnm Gas (g aas) kas bas
  have Gfo := ok_formOf (P := l.prog) (w := w) (base := base) Ffo W
  have Gso := ok_sort0 Fso Git (g ait) kit bit Gow (g aow) kow bow Gnm (g anm) knm bnm
  have Ghf := ok_hasForm (k := 2) Fhf W Gfo (g afo) kfo bfo Gso (g aso) kso bso
  have Gdf := ok_def (k := 3) Fdf FT Ghf (g ahf) khf bhf
  have GxN := ok_exN (P := l.prog) (w := w) (base := base) FxN EN
  have GxP := ok_exP (P := l.prog) (w := w) (base := base) FxP EP
  have Gpi := ok_pix (C := C) (kD := 4) Fpi W (z z_bool) Gnm (g anm) knm bnm Gdf (g adf) kdf bdf EN GxN bxN EP GxP bxP (by decide)
  have Gbg := ok_bag (P := l.prog) (w := w) (base := base) Fbg B
  have Gtk := ok_take (P := l.prog) (w := w) (base := base) Ftk B
  have Gof := ok_of Fof B Gtk (g atk) ktk btk
  have Gns := ok_names Fns B (z z_range) Gtk (g atk) ktk btk Gof (g aof) kof bof
  have Gwn := ok_wn Fwn Gof (g aof) kof bof
  have Gwd := ok_wd Fwd Gof (g aof) kof bof
  have M : Mk K C fpi := ⟨mk, api, ipi, kc⟩
  exact ok_law (kI := 6) Flw W B L M (g aC) Fpi X2 Gpi Gbg (g abg) kbg bbg Gtk (g atk) ktk btk Gof (g aof) kof bof Gns (g ans) kns bns Gwn (g awn) kwn bwn Gwd (g awd) kwd bwd (by decide)
theorem walk {l : PySem.W.OpenLaw} {q : Program} {loose : List Str} {XP : (Str → Option Value) → Heap → Prop} {YP : World → Heap → Prop} {d : DefRec} {K : Params → PySem.W.Frag} (hn : l.most = some 63) (hdf : d.params.defaults = [])
    (hY : ∀ (w : World) (h : Heap), YP w h → (K w.params).In h)
    (F : ∀ (w : World) (mg : Str → Option Value) (fa : Addr) (h : Heap), (K w.params).In h → h.Ns mainGlobals mg → mg d.name = some (.ref fa) →
      ∃ fd : FuncData, (∀ (s : Shared) (u : Value), BindsTo s fd ⟨[u], []⟩ [("_law_script", u)]) ∧ ∀ base : Heap, (K w.params).In base → base.Ns mainGlobals mg → FnOk l.prog w (K w.params) mg base CX0 8 fa fd ["_law_script"] (spLaw (K w.params))) :
    PySem.W.WalkO q loose XP YP l.row.toRowW d [] (fun f vs => PySem.call f vs) :=
  L2.walk_of (n := 63) (k := 8) (x := "_law_script") (CX := fun _ => CX0) (sp := fun w => spLaw (K w.params)) hn (by decide) hdf ⟨rfl, by decide, by decide⟩ hY F (fun _ _ a ns hl _ hS => ⟨a, ns, rfl, hS, hl, fun _ => rfl⟩) fun _ _ _ _ _ z => z
end Dr
open PySem PySem.W PyProof.Rows in
set_option maxRecDepth 100000 in
set_option maxHeartbeats 0 in
theorem PySem.Challenge.cw_oncedefaults_k02_parameters_refused_holds : PySem.Challenge.rw_oncedefaults_k02_parameters_refused.Holds := by
  w_on; o_law; k_head; (case hw => w_witness2)
  k_fill
  refine Dr.walk (l := PySem.Challenge.rw_oncedefaults_k02_parameters_refused) rfl rfl (fun w h Y => PySem.W.kIn_of Y) ?F
  case F =>
    intro w mg fa h KX G hmg
    refine' Dr.all_mk KX G hmg ?anm ?lnm ?cnm ?knm ?aow ?low ?cow ?kow ?aas ?las ?cas ?kas ?ait ?lit ?cit ?kit ?afo ?lfo ?cfo ?kfo ?aso ?lso ?cso ?kso ?ahf ?lhf ?chf ?khf ?adf ?ldf ?cdf ?kdf ?abg ?lbg ?cbg ?kbg ?atk ?ltk ?ctk ?ktk ?aof ?lof ?cof ?kof ?ans ?lns ?cns ?kns ?awn ?lwn ?cwn ?kwn ?awd ?lwd ?cwd ?kwd ?alw ?llw ?clw ?klw ?aC ?api ?ipi ?lpi ?cpi ?kpi ?dh ?dd0 ?dn ?gB ?gM ?gX ?gL ?taB ?taM ?taX ?tm1 ?tx1 ?tx2 ?tx3 ?tx4 ?vaB ?vm1 ?vx1 ?vx2 ?vx3 ?vx4 ?mk ?kc ?aCN ?xLN ?saN ?gaN ?ggN ?nfN ?aiN ?tiN ?liN ?ciN ?kiN ?kCN ?eCN ?tCN ?hCN ?iCN ?aCP ?xLP ?saP ?gaP ?ggP ?nfP ?aiP ?tiP ?liP ?ciP ?kiP ?kCP ?eCP ?tCP ?hCP ?iCP ?sNN ?sPN ?sPP ?z_len ?z_isinstance ?z_str ?z_tuple ?z_all ?z_zip ?z_int ?z_abs ?z_enumerate ?z_range ?z_sorted ?z_max ?z_min ?z_bool
    (case anm => k_is)
    (case lnm => k_is)
    (case cnm => k_is)
    (case knm => k_is)
    (case aow => k_is)
    (case low => k_is)
    (case cow => k_is)
    (case kow => k_is)
    (case aas => k_is)
    (case las => k_is)
    (case cas => k_is)
    (case kas => k_is)
    (case ait => k_is)
    (case lit => k_is)
    (case cit => k_is)
    (case kit => k_is)
    (case afo => k_is)
    (case lfo => k_is)
    (case cfo => k_is)
    (case kfo => k_is)
    (case aso => k_is)
    (case lso => k_is)
    (case cso => k_is)
    (case kso => k_is)
    (case ahf => k_is)
    (case lhf => k_is)
    (case chf => k_is)
    (case khf => k_is)
    (case adf => k_is)
    (case ldf => k_is)
    (case cdf => k_is)
    (case kdf => k_is)
    (case abg => k_is)
    (case lbg => k_is)
    (case cbg => k_is)
    (case kbg => k_is)
    (case atk => k_is)
    (case ltk => k_is)
    (case ctk => k_is)
    (case ktk => k_is)
    (case aof => k_is)
    (case lof => k_is)
    (case cof => k_is)
    (case kof => k_is)
    (case ans => k_is)
    (case lns => k_is)
    (case cns => k_is)
    (case kns => k_is)
    (case awn => k_is)
    (case lwn => k_is)
    (case cwn => k_is)
    (case kwn => k_is)
    (case awd => k_is)
    (case lwd => k_is)
    (case cwd => k_is)
    (case kwd => k_is)
    (case alw => k_is)
    (case llw => k_is)
    (case clw => k_is)
    (case klw => k_is)
    (case aC => k_is)
    (case api => k_is)
    (case ipi => k_is)
    (case lpi => k_is)
    (case cpi => k_is)
    (case kpi => k_is)
    (case dh => k_is)
    (case dd0 => k_is)
    (case dn => k_is)
    (case gB => k_is)
    (case gM => k_is)
    (case gX => k_is)
    (case gL => k_is)
    (case taB => k_is)
    (case taM => k_is)
    (case taX => k_is)
    (case tm1 => k_is)
    (case tx1 => k_is)
    (case tx2 => k_is)
    (case tx3 => k_is)
    (case tx4 => k_is)
    (case vaB => decide +kernel)
    (case vm1 => decide +kernel)
    (case vx1 => decide +kernel)
    (case vx2 => decide +kernel)
    (case vx3 => decide +kernel)
    (case vx4 => decide +kernel)
    (case mk => k_is)
    (case kc => k_is)
    (case aCN => k_is)
    (case xLN => k_is)
    (case saN => k_is)
    (case gaN => k_is)
    (case ggN => k_is)
    (case nfN => k_is)
    (case aiN => k_is)
    (case tiN => k_is)
    (case liN => k_is)
    (case ciN => k_is)
    (case kiN => k_is)
    (case kCN => k_is)
    (case eCN => k_is)
    (case tCN => k_is)
    (case hCN => k_is)
    (case iCN => k_is)
    (case aCP => k_is)
    (case xLP => k_is)
    (case saP => k_is)
    (case gaP => k_is)
    (case ggP => k_is)
    (case nfP => k_is)
    (case aiP => k_is)
    (case tiP => k_is)
    (case liP => k_is)
    (case ciP => k_is)
    (case kiP => k_is)
    (case kCP => k_is)
    (case eCP => k_is)
    (case tCP => k_is)
    (case hCP => k_is)
    (case iCP => k_is)
    (case sNN => (first | rfl | k_is))
    (case sPN => k_is)
    (case sPP => (first | rfl | k_is))
    (case z_len => k_is)
    (case z_isinstance => k_is)
    (case z_str => k_is)
    (case z_tuple => k_is)
    (case z_all => k_is)
    (case z_zip => k_is)
    (case z_int => k_is)
    (case z_abs => k_is)
    (case z_enumerate => k_is)
    (case z_range => k_is)
    (case z_sorted => k_is)
    (case z_max => k_is)
    (case z_min => k_is)
    (case z_bool => k_is)
