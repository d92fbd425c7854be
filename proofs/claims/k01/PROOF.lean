import PyProof.Rows.All
import Wide.All
import OpenK.AllK
import Wide.FinOn
import HandS.ForMost
import HandS.Defaults
import HandS.MakeKwOnly
import HandS.TupAny
import HandS.IsInst
import HandS.Zip
import HandS.Flow
import HandS.Walk
import HandS.Codes
import HandS.SlotsOwn
import HandS.More
import HandS.TupLe
import PySem.Challenge.RW_oncedefaults_k01_parameters_made
set_option Elab.async false
set_option maxRecDepth 100000
set_option maxHeartbeats 4000000
set_option linter.all false
namespace Dr
open PySem PySem.Spec PyProof.Rows L2
def topS (i : Nat) : Stmt := PySem.Challenge.pw_oncedefaults_k01_parameters_made.main.body.getD i (.Pass ⟨0, 0, 0, 0⟩)
abbrev sBag : Stmt := topS 23
abbrev sTake : Stmt := topS 24
abbrev sOf : Stmt := topS 25
theorem scBag : FnScope ["_law_script", "_law_at", "_law_cell", "_law_blend", "_law_k", "_law_each"] ["_law_script", "_law_at"] (defScope sBag) := ⟨rfl, rfl, rfl, by decide +kernel, rfl, by decide +kernel, by decide +kernel⟩
theorem scTake : FnScope ["_law_bag_here", "_law_many", "_law_digit"] ["_law_bag_here", "_law_many"] (defScope sTake) := ⟨rfl, rfl, rfl, by decide +kernel, rfl, by decide +kernel, by decide +kernel⟩
theorem scOf : FnScope ["_law_bag_here", "_law_some"] ["_law_bag_here", "_law_some"] (defScope sOf) := ⟨rfl, rfl, rfl, by decide +kernel, rfl, by decide +kernel, by decide +kernel⟩
/-- the built-in names that the draws use are the built-in ones -/
structure Blt (mg : Str → Option Value) : Prop where
  len : mg "len" = none
  int : mg "int" = none
  abs : mg "abs" = none
  enum : mg "enumerate" = none
theorem same_upd {H : Hp} {p : Addr} {o : HO} (h : H p = none) : Same H (upd H p o) := fun b x e => by
  rw [upd_ne (ne_of_none e h)]
  exact e
/-- a bag stands at p -/
def Bag (H : Hp) (p : Addr) : Prop := ∃ u v : Int, H p = some (.lst [.int u, .int v]) ∧ 0 ≤ u ∧ 0 ≤ v ∧ v < 2147483648
/-- all but the bag is as it was, the bag is a bag -/
def Kp (p : Addr) (H H' : Hp) : Prop := (∀ b o, b ≠ p → H b = some o → H' b = some o) ∧ Bag H' p
theorem Kp.refl {p : Addr} {H : Hp} (h : Bag H p) : Kp p H H := ⟨fun _ _ _ e => e, h⟩
theorem Kp.trans {p : Addr} {H H1 H2 : Hp} (a : Kp p H H1) (b : Kp p H1 H2) : Kp p H H2 := ⟨fun c o n e => b.1 c o n (a.1 c o n e), b.2⟩
theorem Bag.same {p : Addr} {H H' : Hp} (b : Bag H p) (s : Same H H') : Bag H' p := by
  obtain ⟨u, v, e, q⟩ := b
  exact ⟨u, v, s _ _ e, q⟩
theorem Kp.same {p : Addr} {H H1 H2 : Hp} (a : Kp p H H1) (s : Same H1 H2) : Kp p H H2 := ⟨fun c o n e => s c o (a.1 c o n e), a.2.same s⟩
theorem Kp.of {p : Addr} {H H' : Hp} (b : Bag H p) (s : Same H H') : Kp p H H' := (Kp.refl b).same s
section
variable {P : Program} {w : World} {K : PySem.W.Frag} {mg : Str → Option Value} {base : Heap}
def spBag (K : PySem.W.Frag) : Sp := fun vs H Q _ => ∃ (a : Addr) (ns : List Int) (i : Int), vs = [.ref a, .int i] ∧ SqL K H a (ns.map V.int) ∧ ns.length ≤ 63 ∧ 0 ≤ i ∧ i ≤ 100 ∧
  ∀ H' p, Same H H' → H p = none → Bag H' p → Q (.ref p) H'
theorem bag_turn {b e k : Int} (k0 : 0 ≤ k) (hb : 0 ≤ b) (hb2 : b < 2147483648) : 0 ≤ (b * 44017 + e % 2147483563 + 59 * k) % 2147483399 ∧ (b * 44017 + e % 2147483563 + 59 * k) % 2147483399 < 2147483648 := by
  omega
theorem ok_bag {f : Addr} {fd : FuncData} (F : Fun K "_law_bag" "_law_bag" sBag f fd) (T : Blt mg) : FnOk P w K mg base CX0 1 f fd ["_law_script", "_law_at"] (spBag K) := by
  refine F.ok scBag (fun vs H Q E h => ?_) (fun cdv A outer s H vs Q E hr h => ?_)
  · obtain ⟨a, ns, i, rfl, _⟩ := h
    rfl
  · obtain ⟨a, ns, i, rfl, hS, hlen, hi0, hi1, q⟩ := h
    refine ⟨_, C8.pss_cut (ps_set (i := 2) scBag.nd rfl (.inl rfl) (pe_ifExp (pt_cmpR op_lt (pv 1) (pe_callB call_len_seq (by rfl) T.len PySem.boot_len (pa_cons (pv 0) pa_nil)) (nomark _)) (pe_ix ix_list (pv 0) (pv 1) (fun _ _ => rfl)) pe_int))
      (pss_cons (ps_set (i := 3) scBag.nd rfl (.inl rfl) (pe_op op_add (pe_op op_mul pe_int (pv 1)) pe_int))
      (pss_cons (ps_for PassesOwn.never rfl (pi_enum (by rfl) T.enum (pa_cons (pe_slice sl_list (pv 0) po_none (po_some pe_int)) pa_nil))
          (pg_tup rfl (pgs_cons (pg_name (i := 4) scBag.nd rfl (.inl rfl)) (pgs_cons (pg_name (i := 5) scBag.nd rfl (.inl rfl)) pgs_nil)))
        (pss_one (ps_set (i := 3) scBag.nd rfl (.inl rfl) (pe_op op_mod (pe_callTy call_int1 (by rfl) T.int (by decide +kernel) (pa_cons
          (pe_op op_add (pe_op op_add (pe_op op_mul (pv 3) pe_int) (pe_op op_mod (pe_callTy call_int1 (by rfl) T.int (by decide +kernel) (pa_cons (pv 5) pa_nil)) pe_int)) (pe_op op_mul pe_int (pv 4))) pa_nil)) pe_int))))
      (pss_one (ps_ret (pe_lst (pa_cons (pe_ifExp (pt_cmpR op_ge (pe_callB call_abs (by rfl) T.abs (by decide +kernel) (pa_cons (pv 2) pa_nil)) (pe_op op_pow pe_int pe_int) (nomark _)) (pe_callB call_abs (by rfl) T.abs (by decide +kernel) (pa_cons (pv 2) pa_nil)) pe_int) (pa_cons (pv 3) pa_nil))))))), ?_⟩
    refine ⟨fun σ' H' => H' = H ∧ ∃ c : Int, σ' = [some (.ref a), some (.int i), some (.int c), none, none, none], ?_, fun σ' H' hM => ?_⟩
    · refine ⟨_, rfl, _, rfl, a, _, rfl, .inl hS, _, _, rfl, rfl, _, rfl, ite2 (fun hlt => ?_) (fun _ => ⟨rfl, 0, rfl⟩)⟩
      have hl : i < (ns.map V.int).length := of_decide_eq_true hlt
      rw [List.length_map] at hl
      obtain ⟨j, rfl⟩ : ∃ j : Nat, i = (j : Int) := ⟨i.toNat, by omega⟩
      have hj : j < ns.length := by omega
      exact ⟨_, rfl, _, rfl, a, _, _, _, rfl, rfl, hS, atI_nat (by rw [List.getElem?_map, List.getElem?_eq_getElem hj]; rfl), rfl, _, rfl⟩
    · obtain ⟨rfl, c, rfl⟩ := hM
      -- the blend
      refine ⟨.int i, rfl, _, i, rfl, rfl, .inl ⟨by decide, by decide⟩, _, _, rfl, rfl, ?_⟩
      -- the loop over a copy
      refine ⟨.ref a, rfl, 63, rfl, a, ns.map V.int, rfl, hS, fun l nl => ?_⟩
      have s1 : Same H' (upd H' l (.lst (cutV (ns.map V.int) none (some 63)))) := same_upd nl
      have ecut : cutV (ns.map V.int) none (some 63) = ns.map V.int := by
        unfold cutV
        rw [show HT.sIx (ns.map V.int).length (ns.map V.int).length (some 63) = min 63 (ns.map V.int).length from HT.sIx_nat _ _ 63, HT.sIx_none]
        rw [List.drop_zero, List.take_of_length_le]
        rw [List.length_map]
        omega
      rw [ecut] at s1 ⊢
      refine ⟨l, ns.map V.int, rfl, .inl (.inl upd_same), for_it walk_enum (fun _ σ H1 => Same H' H1 ∧ H1 l = some (.lst (ns.map V.int)) ∧ ∃ (b : Int) (x y : Option V), σ = [some (.ref a), some (.int i), some (.int c), some (.int b), x, y] ∧ 0 ≤ b ∧ b < 2147483648)
        ⟨s1, upd_same, _, _, _, rfl, by omega, by omega⟩ (fun n σ H1 _ h => .inl (.inl h.2.1)) ?_ ?_⟩
      · rintro n y σ H1 H2 hn ⟨sm, hl, b, x5, x6, rfl, b0, b1⟩ ⟨T', x, e, rfl, nT, rfl, e1, e2⟩
        rw [List.length_map] at hn
        obtain rfl := Option.some.inj e1
        have e2 := (show (ns.map V.int)[n]? = some _ from e2)
        rw [List.getElem?_map, List.getElem?_eq_getElem hn] at e2
        obtain rfl := Option.some.inj e2
        have sT : Same H1 (upd H1 T' (.tup [.int (n : Int), .int ns[n]])) := same_upd nT
        refine ⟨T', _, rfl, .inl (.inl upd_same), rfl, _, _, rfl, _, _, rfl, rfl, ?_⟩
        refine ⟨_, rfl, b, _, rfl, rfl, .inr ⟨by decide, by decide⟩, _, rfl, .inl ⟨_, rfl, _, _, rfl, rfl, (by show (0 : Int) < 2147483563; decide), _, _, rfl, rfl, _, rfl, _, _, rfl, rfl, .inl ⟨by decide, by decide⟩, _, _, rfl, rfl, .inl ⟨_, rfl, _, _, rfl, rfl, (by show (0 : Int) < 2147483399; decide), ?_⟩⟩⟩
        have hb := bag_turn (b := b) (e := ns[n]) (k := (n : Int)) (by omega) b0 b1
        exact ⟨sm.trans sT, sT _ _ hl, _, _, _, rfl, hb.1, hb.2⟩
      · rintro σ H1 ⟨sm, hl, b, x5, x6, rfl, b0, b1⟩
        refine ⟨_, rfl, _, rfl, _, _, rfl, rfl, ⟨by decide, by decide, by decide⟩, _, _, rfl, rfl, _, rfl, ite2 (fun hge => ?_) (fun _ => ?_)⟩
        · refine ⟨_, rfl, _, rfl, _, rfl, by show 2 ≤ sizeLine; decide, fun p np => q _ _ (sm.trans (same_upd np)) (sm.free np) ⟨_, b, upd_same, ?_, b0, b1⟩⟩
          split <;> omega
        · refine ⟨_, rfl, by show 2 ≤ sizeLine; decide, fun p np => q _ _ (sm.trans (same_upd np)) (sm.free np) ⟨0, b, upd_same, by omega, b0, b1⟩⟩
def spTake : Sp := fun vs H Q _ => ∃ (p : Addr) (m : Int), vs = [.ref p, .int m] ∧ Bag H p ∧ 1 ≤ m ∧ m < 1073741824 ∧ ∀ H' r, Kp p H H' → 0 ≤ r → r < m → Q (.int r) H'
theorem kp_upd {p : Addr} {H : Hp} {u v : Int} (h0 : 0 ≤ u) (h1 : 0 ≤ v) (h2 : v < 2147483648) : Kp p H (upd H p (.lst [.int u, .int v])) := ⟨fun b o n e => by
  rw [upd_ne n]
  exact e, u, v, upd_same, h0, h1, h2⟩
theorem ok_take {f : Addr} {fd : FuncData} (F : Fun K "_law_take" "_law_take" sTake f fd) (T : Blt mg) : FnOk P w K mg base CX0 1 f fd ["_law_bag_here", "_law_many"] spTake := by
  refine F.ok scTake (fun vs H Q E h => ?_) (fun cdv A outer s H vs Q E hr h => ?_)
  · obtain ⟨p, m, rfl, _⟩ := h
    rfl
  · obtain ⟨p, m, rfl, ⟨u, v, hp, u0, v0, v1⟩, m0, m1, q⟩ := h
    refine ⟨_, pss_cons (ps_if (pt_cmpR op_gt (pe_ix ix_list (pv 0) pe_int (fun _ _ => rfl)) pe_int (nomark _))
        (pss_cons (ps_set (i := 2) scTake.nd rfl (.inl rfl) (pe_op op_modN (pe_callTy call_int1 (by rfl) T.int (by decide +kernel) (pa_cons (pe_ix ix_list (pv 0) pe_int (fun _ _ => rfl)) pa_nil)) (pv 1)))
        (pss_cons (ps_asg (pe_op op_fdivN (pe_ix ix_list (pv 0) pe_int (fun _ _ => rfl)) (pv 1)) (pg_sub (pv 0) pe_int set_list))
        (pss_one (ps_ret (pv 2))))) pss_nil)
      (pss_cons (ps_asg (pe_op op_mod (pe_callTy call_int1 (by rfl) T.int (by decide +kernel) (pa_cons (pe_op op_add (pe_op op_mul (pe_ix ix_list (pv 0) pe_int (fun _ _ => rfl)) pe_int) pe_int) pa_nil)) pe_int) (pg_sub (pv 0) pe_int set_list))
      (pss_one (ps_ret (pe_op op_modN (pe_op op_fdiv (pe_op op_mod (pe_callTy call_int1 (by rfl) T.int (by decide +kernel) (pa_cons (pe_op op_mul (pe_op op_fdiv (pe_ix ix_list (pv 0) pe_int (fun _ _ => rfl)) pe_int) pe_int) pa_nil)) pe_int) pe_int) (pv 1))))), ?_⟩
    have g0 : atI [V.int u, V.int v] 0 = some (.int u) := atI_nat (j := 0) rfl
    have g1 : atI [V.int u, V.int v] 1 = some (.int v) := atI_nat (j := 1) rfl
    refine ⟨.ref p, rfl, p, _, 0, _, rfl, rfl, SqL.of hp, g0, _, _, rfl, rfl, _, rfl, ite2 (fun hpos => ?_) (fun _ => ?_)⟩
    · have hu : 0 < u := of_decide_eq_true hpos
      refine ⟨.ref p, rfl, p, _, 0, _, rfl, rfl, SqL.of hp, g0, .inl ⟨u, rfl, _, rfl, u, m, rfl, rfl, by omega, ?_⟩⟩
      refine ⟨.ref p, rfl, p, _, 0, _, rfl, rfl, SqL.of hp, g0, _, rfl, u, m, rfl, rfl, ⟨by omega, by omega⟩, ?_⟩
      refine ⟨.ref p, rfl, p, _, 0, 0, rfl, rfl, hp, rfl, ?_⟩
      refine ⟨_, rfl, ?_⟩
      have e1 : u.fdiv m = u / m := Int.fdiv_eq_ediv_of_nonneg _ (by omega)
      have e2 : u.fmod m = u % m := Int.fmod_eq_emod_of_nonneg _ (by omega)
      exact q _ _ (kp_upd (by rw [e1]; exact Int.ediv_nonneg (by omega) (by omega)) v0 v1) (by rw [e2]; exact Int.emod_nonneg _ (by omega)) (by rw [e2]; exact Int.emod_lt_of_pos _ (by omega))
    · refine ⟨.ref p, rfl, p, _, 1, _, rfl, rfl, SqL.of hp, g1, v, _, rfl, rfl, .inr ⟨by decide, by decide⟩, _, _, rfl, rfl, .inl ⟨_, rfl, _, _, rfl, rfl, (by show (0 : Int) < 2147483629; decide), ?_⟩⟩
      refine ⟨.ref p, rfl, p, _, 1, 1, rfl, rfl, hp, rfl, ?_⟩
      have hv : 0 ≤ (v * 48271 + 90001) % 2147483629 ∧ (v * 48271 + 90001) % 2147483629 < 2147483648 := by omega
      have hz : (upd H p (.lst [V.int u, V.int ((v * 48271 + 90001) % 2147483629)])) p = some (.lst [V.int u, V.int ((v * 48271 + 90001) % 2147483629)]) := upd_same
      have g2 : atI [V.int u, V.int ((v * 48271 + 90001) % 2147483629)] 1 = some (.int ((v * 48271 + 90001) % 2147483629)) := atI_nat (j := 1) rfl
      refine ⟨.ref p, rfl, p, _, 1, _, rfl, rfl, SqL.of hz, g2, _, _, rfl, rfl, ⟨by decide, by decide⟩, _, _, rfl, rfl, .inr ⟨by decide, by decide⟩, .inl ⟨_, rfl, _, _, rfl, rfl, (by show (0 : Int) < 2147483647; decide), _, _, rfl, rfl, ⟨by decide, by decide⟩, .int m, rfl, _, m, rfl, rfl, by omega, ?_⟩⟩
      have e2 : ∀ y : Int, y.fmod m = y % m := fun y => Int.fmod_eq_emod_of_nonneg _ (by omega)
      exact q _ _ (kp_upd u0 hv.1 hv.2) (by rw [e2]; exact Int.emod_nonneg _ (by omega)) (by rw [e2]; exact Int.emod_lt_of_pos _ (by omega))
end
end Dr
namespace Dr
open PySem PySem.Spec PyProof.Rows L2
abbrev sIsName : Stmt := topS 7
abbrev sIsOwner : Stmt := topS 8
abbrev sIsAsc : Stmt := topS 9
abbrev sIsItems : Stmt := topS 10
theorem scIsName : FnScope ["thing", "letter"] ["thing"] (defScope sIsName) := ⟨rfl, rfl, rfl, by decide +kernel, rfl, by decide +kernel, by decide +kernel⟩
theorem scIsOwner : FnScope ["thing"] ["thing"] (defScope sIsOwner) := ⟨rfl, rfl, rfl, by decide +kernel, rfl, by decide +kernel, by decide +kernel⟩
theorem scIsAsc : FnScope ["words", "low", "high"] ["words"] (defScope sIsAsc) := ⟨rfl, rfl, rfl, by decide +kernel, rfl, by decide +kernel, by decide +kernel⟩
theorem scIsItems : FnScope ["thing", "part"] ["thing"] (defScope sIsItems) := ⟨rfl, rfl, rfl, by decide +kernel, rfl, by decide +kernel, by decide +kernel⟩
def barred : List Str := ["marks", "kind", "value", "def", "return", "none", "copy", "if", "unless", "in", "is", "mark", "box", "once", "anew", "early", "late", "cls", "self", "method"]
def lowC (c : Nat) : Bool := decide (97 ≤ c) && decide (c ≤ 122)
def nameOk (z : Str) : Bool := (decide (1 ≤ z.length) && decide (z.length ≤ 8)) && (!(barred.contains z) && z.cps.toList.all lowC)
def isNameD : PyData → Bool
  | .str z => nameOk z
  | _ => false
def isOwnerD : PyData → Bool
  | .str z => z == "cls" || nameOk z
  | _ => false
def ltS (a b : Str) : Bool := decide (a.cps.toList < b.cps.toList)
def ascS : List Str → Bool
  | a :: b :: r => ltS a b && ascS (b :: r)
  | _ => true
def strsOf : List PyData → Option (List Str)
  | [] => some []
  | .str z :: r => (strsOf r).map (z :: ·)
  | _ :: _ => none
def isItemsD : PyData → Bool
  | .tuple ds => ds.all isNameD && (match strsOf ds with | some zs => ascS zs | none => false)
  | _ => false
theorem Same.seqT {K : PySem.W.Frag} {H H' : Hp} {a : Addr} {xs : List V} (e : Same H H') (h : SqT K H a xs) : SqT K H' a xs := by
  rcases h with (h | ⟨o, h⟩) | h
  · exact .inl (.inl (e _ _ h))
  · exact .inl (.inr ⟨o, e _ _ h⟩)
  · exact .inr h
mutual
theorem dp_same {K : PySem.W.Frag} {H H' : Hp} (e : Same H H') : ∀ {v : V} {d : PyData}, Dp K H v d → Dp K H' v d
  | _, _, .non => .non
  | _, _, .bl b => .bl b
  | _, _, .int i => .int i
  | _, _, .str x => .str x
  | _, _, .lst h hs => .lst (e.seq h) (dpAll_same e hs)
  | _, _, .tup h hs => .tup (Same.seqT e h) (dpAll_same e hs)
theorem dpAll_same {K : PySem.W.Frag} {H H' : Hp} (e : Same H H') : ∀ {vs : List V} {ds : List PyData}, DpAll K H vs ds → DpAll K H' vs ds
  | _, _, .nil => .nil
  | _, _, .cons h hs => .cons (dp_same e h) (dpAll_same e hs)
end
theorem dpAll_len {K : PySem.W.Frag} {H : Hp} : ∀ {vs : List V} {ds : List PyData}, DpAll K H vs ds → vs.length = ds.length
  | _, _, .nil => rfl
  | _, _, .cons _ hs => by rw [List.length_cons, List.length_cons, dpAll_len hs]
theorem dpAll_get {K : PySem.W.Frag} {H : Hp} : ∀ {vs : List V} {ds : List PyData} {i : Nat} {v : V}, DpAll K H vs ds → vs[i]? = some v → ∃ d, ds[i]? = some d ∧ Dp K H v d
  | _, _, i, v, .nil, h => by simp at h
  | _, _, 0, v, .cons h hs, e => ⟨_, rfl, by
    have q := Option.some.inj e
    subst q
    exact h⟩
  | _, _, i + 1, v, .cons h hs, e => dpAll_get (i := i) hs e
theorem dpAll_strs {K : PySem.W.Frag} {H : Hp} : ∀ (zs : List Str), DpAll K H (zs.map V.str) (zs.map PyData.str)
  | [] => .nil
  | z :: r => .cons (.str z) (dpAll_strs r)
/-- the type of a datum -/
def tyD : PyData → String
  | .none => "NoneType"
  | .bool _ => "bool"
  | .int _ => "int"
  | .str _ => "str"
  | .list _ => "list"
  | .tuple _ => "tuple"
  | .dict _ => "dict"
theorem tyx_lst {K : PySem.W.Frag} {H : Hp} {a : Addr} {xs : List V} (h : SqL K H a xs) : TyX K H (.ref a) (.type "list") := by
  rcases h with (h | ⟨o, h⟩) | ⟨o, its, n, h, c, _⟩
  · exact .base (.lst h)
  · exact .base (.frz h)
  · exact .kList h c
theorem tyx_tup {K : PySem.W.Frag} {H : Hp} {a : Addr} {xs : List V} (h : SqT K H a xs) : TyX K H (.ref a) (.type "tuple") := by
  rcases h with (h | ⟨o, h⟩) | ⟨o, its, n, h, c, _⟩
  · exact .base (.tup h)
  · exact .fTuple h
  · exact .kTuple h c
theorem dp_ty {K : PySem.W.Frag} {H : Hp} {v : V} {d : PyData} (h : Dp K H v d) : TyX K H v (.type (tyD d)) := by
  cases h with
  | non => exact .base .non
  | bl b => exact .base (.bl b)
  | int i => exact .base (.int i)
  | str x => exact .base (.str x)
  | lst h _ => exact tyx_lst h
  | tup h _ => exact tyx_tup h
def isStrD : PyData → Bool
  | .str _ => true
  | _ => false
def isTupD : PyData → Bool
  | .tuple _ => true
  | _ => false
def isBoolD : PyData → Bool
  | .bool _ => true
  | _ => false
theorem kit_str {K : PySem.W.Frag} : ∀ d : PyData, PySem.W.kitOne K (.type (tyD d)) (.type "str") = some (isStrD d)
  | .none => kit_ty (show kitB "NoneType" "str" = some false by decide +kernel)
  | .bool _ => kit_ty (show kitB "bool" "str" = some false by decide +kernel)
  | .int _ => kit_ty (show kitB "int" "str" = some false by decide +kernel)
  | .str _ => kit_ty (show kitB "str" "str" = some true by decide +kernel)
  | .list _ => kit_ty (show kitB "list" "str" = some false by decide +kernel)
  | .tuple _ => kit_ty (show kitB "tuple" "str" = some false by decide +kernel)
  | .dict _ => kit_ty (show kitB "dict" "str" = some false by decide +kernel)
theorem kit_tup {K : PySem.W.Frag} : ∀ d : PyData, PySem.W.kitOne K (.type (tyD d)) (.type "tuple") = some (isTupD d)
  | .none => kit_ty (show kitB "NoneType" "tuple" = some false by decide +kernel)
  | .bool _ => kit_ty (show kitB "bool" "tuple" = some false by decide +kernel)
  | .int _ => kit_ty (show kitB "int" "tuple" = some false by decide +kernel)
  | .str _ => kit_ty (show kitB "str" "tuple" = some false by decide +kernel)
  | .list _ => kit_ty (show kitB "list" "tuple" = some false by decide +kernel)
  | .tuple _ => kit_ty (show kitB "tuple" "tuple" = some true by decide +kernel)
  | .dict _ => kit_ty (show kitB "dict" "tuple" = some false by decide +kernel)
theorem kit_bool {K : PySem.W.Frag} : ∀ d : PyData, PySem.W.kitOne K (.type (tyD d)) (.type "bool") = some (isBoolD d)
  | .none => kit_ty (show kitB "NoneType" "bool" = some false by decide +kernel)
  | .bool _ => kit_ty (show kitB "bool" "bool" = some true by decide +kernel)
  | .int _ => kit_ty (show kitB "int" "bool" = some false by decide +kernel)
  | .str _ => kit_ty (show kitB "str" "bool" = some false by decide +kernel)
  | .list _ => kit_ty (show kitB "list" "bool" = some false by decide +kernel)
  | .tuple _ => kit_ty (show kitB "tuple" "bool" = some false by decide +kernel)
  | .dict _ => kit_ty (show kitB "dict" "bool" = some false by decide +kernel)
mutual
/-- texts and sequences of a size that Python's own limits leave alone -/
def smD : PyData → Bool
  | .str z => decide (z.length ≤ 1000)
  | .list ds => decide (ds.length ≤ 1000) && smAll ds
  | .tuple ds => decide (ds.length ≤ 1000) && smAll ds
  | .dict _ => false
  | _ => true
def smAll : List PyData → Bool
  | [] => true
  | d :: r => smD d && smAll r
end
structure OkD (d : PyData) : Prop where
  sh : SeqAt.shaped d = true
  sm : smD d = true
theorem smAll_get : ∀ {ds : List PyData}, smAll ds = true → ∀ d ∈ ds, smD d = true
  | [], _, _, h => by cases h
  | x :: r, h, d, hd => by
    have h' : smD x = true ∧ smAll r = true := by simpa [smAll] using h
    rcases List.mem_cons.mp hd with e | e
    · exact e ▸ h'.1
    · exact smAll_get h'.2 d e
theorem depth_all : ∀ {ds : List PyData}, ∀ d ∈ ds, d.depth ≤ PyData.depthAll ds
  | [], d, h => by cases h
  | x :: r, d, hd => by
    show d.depth ≤ max x.depth (PyData.depthAll r)
    rcases List.mem_cons.mp hd with e | e
    · subst e
      exact Nat.le_max_left _ _
    · exact Nat.le_trans (depth_all d e) (Nat.le_max_right _ _)
theorem OkD.tup {ds : List PyData} (h : OkD (.tuple ds)) : ds.length ≤ 1000 ∧ ∀ d ∈ ds, OkD d := by
  obtain ⟨hs, hm⟩ := h
  have hm' : ds.length ≤ 1000 ∧ smAll ds = true := by simpa [smD] using hm
  refine ⟨hm'.1, fun d hd => ⟨?_, smAll_get hm'.2 d hd⟩⟩
  have h1 := SeqAt.canLay_of_shaped hs
  have h2 := SeqAt.depth_of_shaped hs
  have h3 : PyData.canLayAll0 ds = true := by simpa only [PyData.canLay0] using h1
  have h4 : PyData.depthAll ds + 1 ≤ 64 := h2
  have h5 := depth_all d hd
  show (d.canLay0 && decide (d.depth ≤ 64)) = true
  rw [Bool.and_eq_true]
  exact ⟨PyData.canLay0_of_mem ds d h3 hd, decide_eq_true (by omega)⟩
/-- what the words module reads of the top -/
structure Wds (K : PySem.W.Frag) (mg : Str → Option Value) : Prop where
  len : mg "len" = none
  isi : mg "isinstance" = none
  str : mg "str" = none
  tup : mg "tuple" = none
  all : mg "all" = none
  zip : mg "zip" = none
  most : ∃ t, mg "MOST_LETTERS" = some (.int 8 t)
  bar : ∃ a : Addr, mg "BARRED" = some (.ref a) ∧ ∀ H, SqT K H a (barred.map V.str)
theorem flat_strs (l : List Str) : (l.map V.str).all flatV = true := by
  rw [List.all_eq_true]
  intro x hx
  obtain ⟨y, _, rfl⟩ := List.mem_map.mp hx
  rfl
theorem in_strs (z : Str) : ∀ l : List Str, inV (V.str z) (l.map V.str) = l.contains z
  | [] => rfl
  | y :: r => by
    show (eqV (V.str y) (V.str z) || inV (V.str z) (r.map V.str)) = _
    rw [in_strs z r, List.contains_cons]
    congr 1
    show (y == z) = (z == y)
    rw [Bool.eq_iff_iff, beq_iff_eq, beq_iff_eq]
    exact eq_comm
theorem one_lt (c d : Nat) : decide ((⟨#[c]⟩ : Str).cps.toList < (⟨#[d]⟩ : Str).cps.toList) = decide (c < d) := by
  show decide ([c] < [d]) = decide (c < d)
  by_cases h : c < d
  · rw [decide_eq_true h]
    exact decide_eq_true (List.Lex.rel h)
  · rw [decide_eq_false h]
    refine decide_eq_false fun q => ?_
    rcases List.cons_lt_cons_iff.mp q with q | ⟨_, q⟩
    · exact h q
    · exact absurd q (List.not_lt_nil _)
section
variable {P : Program} {w : World} {K : PySem.W.Frag} {mg : Str → Option Value} {base : Heap}
/-- the answer of a question about any object -/
def spAsk (K : PySem.W.Frag) (q : PyData → Bool) : Sp := fun vs H Q _ => ∃ (v : V) (d : PyData), vs = [v] ∧ Dp K H v d ∧ OkD d ∧ ∀ H', Same H H' → Q (.bl (q d)) H'
theorem ok_name {f : Addr} {fd : FuncData} (F : Fun K "is_name" "is_name" sIsName f fd) (T : Wds K mg) : FnOk P w K mg base CX0 1 f fd ["thing"] (spAsk K isNameD) := by
  refine F.ok scIsName (fun vs H Q E h => ?_) (fun cdv A outer s H vs Q E hr h => ?_)
  · obtain ⟨v, d, rfl, _⟩ := h
    rfl
  · obtain ⟨v, d, rfl, hd, hsh, q⟩ := h
    obtain ⟨tm, hm⟩ := T.most
    obtain ⟨aB, hB, hBs⟩ := T.bar
    refine ⟨_, pss_cons (ps_if (PW.pt (pw_or (pt_not (pt_val (pe_callB call_isi (by rfl) T.isi (by decide +kernel) (pa_cons (pv 0) (pa_cons (pe_bltn (v := .ty "str") (by rfl) T.str (by decide +kernel) rfl) pa_nil)))))
        (pw_or1 (pt_not (pt_chain op_le op_le pe_int (pe_callB call_len_str (by rfl) T.len PySem.boot_len (pa_cons (pv 0) pa_nil)) (pe_glob (v := .int 8) (by rfl) hm ⟨_, rfl⟩))))))
        (pss_one (ps_ret pe_bl)) pss_nil)
      (pss_one (ps_ret (pe_and (pe_cmpR op_notIn_seq (pv 0) (pe_glob (v := .ref aB) (by rfl) hB rfl) rfl)
        (pe_one (pe_callB (cr_all rfl) (by rfl) T.all (by decide +kernel) (pa_cons
          (pe_lc (own := [("letter", 1)]) (g := gName 1) (tt := tYes) rfl scIsName.nd (pi_str (pv 0)) (blkOk_by (N := ["thing", "letter"]) (sc := defScope sIsName) (by decide +kernel)) (fun _ _ _ _ _ => pg_name (i := 1) scIsName.nd rfl (Or.inl rfl)) (fun _ _ _ _ _ => pts_nil)
            (fun _ _ _ _ _ => pe_chain op_le_str op_le_str pe_str (pv 1) pe_str)) pa_nil)))))), ?_⟩
    refine ⟨v, rfl, v, .ty "str", _, _, _, rfl, .ty _, dp_ty hd, kit_str d, _, rfl, ?_⟩
    by_cases hstr : isStrD d = true
    · cases d with
      | str z =>
        cases hd
        have hz : z.length ≤ 1000 := of_decide_eq_true hsh.sm
        have hz2 : z.length ≤ sizeLine := Nat.le_of_lt (small1000 hz)
        refine iteF ?_
        refine ⟨_, rfl, _, rfl, hz2, _, _, rfl, rfl, _, rfl, ?_⟩
        have Z : z.length = z.cps.toList.length := (Array.length_toList).symm
        have no : ¬ (1 ≤ z.length ∧ z.length ≤ 8) → isNameD (.str z) = false := fun hn => by
          show nameOk z = false
          unfold nameOk
          by_cases h1 : 1 ≤ z.length
          · have h2 : ¬ z.length ≤ 8 := fun h2 => hn ⟨h1, h2⟩
            simp [h1, h2]
          · simp [h1]
        refine ite2 (fun k1 => ?_) (fun k1 => ?_)
        · have h1 : (1 : Int) ≤ (z.length : Int) := of_decide_eq_true k1
          refine ⟨_, _, rfl, rfl, _, rfl, ite2 (fun k2 => ?_) (fun k2 => ?_)⟩
          · have h2 : ¬ (z.length : Int) ≤ 8 := by simpa using k2
            rw [no (by omega)] at q
            exact q _ (Same.refl _)
          · have h2 : (z.length : Int) ≤ 8 := by simpa using k2
            have en : isNameD (.str z) = (!(barred.contains z) && z.cps.toList.all lowC) := by
              show nameOk z = _
              unfold nameOk
              rw [decide_eq_true (show 1 ≤ z.length by omega), decide_eq_true (show z.length ≤ 8 by omega)]
              rfl
            rw [en] at q
            refine ⟨_, rfl, aB, _, rfl, .inr (hBs _), rfl, flat_strs _, _, rfl, ?_⟩
            show if (!inV (V.str z) (barred.map V.str)) = true then _ else _
            rw [in_strs]
            cases hb : barred.contains z with
            | true =>
              rw [hb] at q
              refine iteF ?_
              exact q _ (Same.refl _)
            | false =>
              rw [hb] at q
              refine iteT ?_
              refine ⟨_, rfl, z, rfl, fun D hD => lc_it walk_str (fun i H1 => Same H H1 ∧ H1 D = some (.lst (((z.cps.toList.take i).map lowC).map V.bl))) ⟨same_upd hD, upd_same⟩ (fun _ _ _ _ => trivial) ?_ ?_⟩
              · rintro i x H1 H2 hi ⟨sm, hl⟩ ⟨rfl, c, hc, rfl⟩
                have hc' : z.cps.toList[i]? = some c := by rw [Array.getElem?_toList]; exact hc
                have ht : ((z.cps.toList.take i).map lowC).map V.bl ++ [V.bl (lowC c)] = ((z.cps.toList.take (i + 1)).map lowC).map V.bl := by
                  rw [List.take_add_one, hc', List.map_append, List.map_append]
                  rfl
                have nx : Same H (upd H2 D (.lst (((z.cps.toList.take (i + 1)).map lowC).map V.bl))) := fun b o e => by
                  rw [upd_ne (ne_of_none e hD)]
                  exact sm _ _ e
                have hsz : (((z.cps.toList.take i).map lowC).map V.bl).length < sizeLine := by
                  rw [List.length_map, List.length_map, List.length_take]
                  exact small1000 (by omega)
                have ea : (!decide ((⟨#[c]⟩ : Str).cps.toList < (("a" : Str)).cps.toList)) = decide (97 ≤ c) := by
                  show (!decide ((⟨#[c]⟩ : Str).cps.toList < (⟨#[97]⟩ : Str).cps.toList)) = _
                  rw [one_lt, ← decide_not]
                  exact decide_eq_decide.mpr (by omega)
                have ez : (!decide ((("z" : Str)).cps.toList < (⟨#[c]⟩ : Str).cps.toList)) = decide (c ≤ 122) := by
                  show (!decide ((⟨#[122]⟩ : Str).cps.toList < (⟨#[c]⟩ : Str).cps.toList)) = _
                  rw [one_lt, ← decide_not]
                  exact decide_eq_decide.mpr (by omega)
                refine ⟨rfl, ?_⟩
                unfold tYes
                refine iteT ?_
                refine ⟨_, rfl, _, _, rfl, rfl, _, rfl, ?_⟩
                rw [ea]
                refine ite2 (fun k => ?_) (fun k => ?_)
                · refine ⟨_, _, rfl, rfl, ?_⟩
                  rw [ez]
                  have el : lowC c = decide (c ≤ 122) := by
                    unfold lowC
                    rw [k]
                    rfl
                  refine ⟨_, hl, hsz, ?_⟩
                  rw [← el, ht]
                  exact ⟨nx, upd_same⟩
                · have el : lowC c = false := by
                    unfold lowC
                    rw [eq_false_of_ne_true k]
                    rfl
                  refine ⟨_, hl, hsz, ?_⟩
                  rw [← el, ht]
                  exact ⟨nx, upd_same⟩
              · rintro H1 ⟨sm, hl⟩
                refine ⟨D, _, rfl, .inl (.inl hl), ?_⟩
                rw [List.take_of_length_le (Nat.le_of_eq (Array.length_toList)), List.all_map]
                exact q _ sm
        · have h1 : ¬ (1 : Int) ≤ (z.length : Int) := by simpa using k1
          refine ⟨_, rfl, iteT ?_⟩
          rw [no (by omega)] at q
          exact q _ (Same.refl _)
      | _ => cases hstr
    · have e : isStrD d = false := by simpa using hstr
      rw [e]
      refine iteT ?_
      refine iteT ?_
      have en : isNameD d = false := by cases d <;> first | rfl | exact absurd rfl hstr
      rw [en] at q
      exact q _ (Same.refl _)
end
end Dr
namespace Dr
open PySem PySem.Spec PyProof.Rows L2
def isClsD : PyData → Bool
  | .str z => z == "cls"
  | _ => false
theorem eqv_cls : ∀ d : PyData, PyData.eqv d (.str "cls") = isClsD d
  | .none => rfl | .bool _ => rfl | .int _ => rfl | .str _ => rfl | .list _ => rfl | .tuple _ => rfl | .dict _ => rfl
theorem walk_zipT {K : PySem.W.Frag} {a b : Addr} {xs ys : List V} {n : Nat} (hn : n = min xs.length ys.length) : Walk (RZ.ItzT K a b) n (fun H => SqT K H a xs ∧ SqT K H b ys) (YPair (fun i => xs[i]?) (fun i => ys[i]?)) := by
  subst hn
  refine ⟨fun i _ hi q => ?_, fun _ q => ⟨xs, ys, q.1, q.2, by omega⟩, fun i H v H' _ q y => ?_⟩
  · have h1 : i < xs.length := by omega
    have h2 : i < ys.length := by omega
    exact ⟨xs, ys, xs[i], ys[i], q.1, q.2, by simp [h1], by simp [h2]⟩
  · obtain ⟨T, x, z, h1, h2, h3, h4, h5⟩ := y
    exact ⟨T, x, z, h1, h2, h3, h4 xs q.1, h5 ys q.2⟩
/-- neighbours in order -/
def pairsLt (zs : List Str) : List Bool := (zs.zip (zs.drop 1)).map fun p => ltS p.1 p.2
theorem pairs_all : ∀ zs : List Str, (pairsLt zs).all id = ascS zs
  | [] => rfl
  | [_] => rfl
  | a :: b :: r => by
    show (ltS a b && (pairsLt (b :: r)).all id) = (ltS a b && ascS (b :: r))
    rw [pairs_all (b :: r)]
theorem cutT1 (xs : List V) : cutV xs (some 1) none = xs.drop 1 := by
  unfold cutV
  rw [show HT.sIx xs.length 0 (some 1) = min 1 xs.length from HT.sIx_nat xs.length 0 1, HT.sIx_none]
  cases xs with
  | nil => rfl
  | cons x r =>
    rw [show min 1 (x :: r).length = 1 by
      rw [List.length_cons]
      omega]
    show (List.take ((x :: r).length - 1) r) = r
    rw [List.length_cons, Nat.add_sub_cancel]
    exact List.take_length
/-- t[1:] of a tuple -/
theorem tail_of {K : PySem.W.Frag} {H : Hp} {a : Addr} {xs : List V} {Q : VK} (h : SqT K H a xs) (q : ∀ b H', Same H H' → SqT K H' b (xs.drop 1) → Q (.ref b) H') : rSlA K (.ref a) (some 1) none H Q := by
  refine ⟨a, xs, rfl, h, fun e => ?_, fun _ p np => q p _ (same_upd np) (.inl (.inl (by rw [upd_same, cutT1])))⟩
  have e1 : min 1 xs.length = 0 := by
    rw [show HT.sIx xs.length 0 (some 1) = min 1 xs.length from HT.sIx_nat xs.length 0 1] at e
    exact e.1
  have e2 : xs = [] := List.eq_nil_of_length_eq_zero (by omega)
  subst e2
  exact q a H (Same.refl _) h
/-- t[1:], by what it gives -/
def rTail (K : PySem.W.Frag) : V → Option Int → Option Int → Hp → VK → Prop := fun x lo hi H Q => lo = some 1 ∧ hi = none ∧ ∃ a xs, x = .ref a ∧ SqT K H a xs ∧ ∀ b H', Same H H' → SqT K H' b (xs.drop 1) → Q (.ref b) H'
theorem sl_tail {X : Cx} : SlR X (rTail X.K) := fun pins s σ H x v vl vu lo hi sl Q I rx hs pl pu h => by
  obtain ⟨rfl, rfl, a, xs, rfl, hx, q⟩ := h
  exact sl_tupA pins s σ H _ v vl vu _ _ sl Q I rx hs pl pu (tail_of hx q)
theorem strs_of_all : ∀ {ds : List PyData}, ds.all isNameD = true → ∃ zs : List Str, ds = zs.map PyData.str
  | [], _ => ⟨[], rfl⟩
  | .str z :: r, h => by
    have h' : isNameD (.str z) = true ∧ r.all isNameD = true := by simpa using h
    obtain ⟨zs, e⟩ := strs_of_all h'.2
    exact ⟨z :: zs, by rw [e]; rfl⟩
  | .none :: _, h => by simp [isNameD] at h
  | .bool _ :: _, h => by simp [isNameD] at h
  | .int _ :: _, h => by simp [isNameD] at h
  | .list _ :: _, h => by simp [isNameD] at h
  | .tuple _ :: _, h => by simp [isNameD] at h
  | .dict _ :: _, h => by simp [isNameD] at h
theorem strsOf_map : ∀ zs : List Str, strsOf (zs.map PyData.str) = some zs
  | [] => rfl
  | z :: r => by
    show (strsOf (r.map PyData.str)).map (z :: ·) = _
    rw [strsOf_map r]
    rfl
theorem vals_strs {K : PySem.W.Frag} {H : Hp} : ∀ {zs : List Str} {vs : List V}, DpAll K H vs (zs.map PyData.str) → vs = zs.map V.str
  | [], _, .nil => rfl
  | z :: r, _, .cons h hs => by
    cases h
    rw [vals_strs hs]
    rfl
theorem acc_next {f : PyData → Bool} {ds : List PyData} {i : Nat} {d : PyData} (h : ds[i]? = some d) : ((ds.take i).map f).map V.bl ++ [V.bl (f d)] = ((ds.take (i + 1)).map f).map V.bl := by
  rw [List.take_add_one, h, List.map_append, List.map_append]
  rfl
section
variable {P : Program} {w : World} {K : PySem.W.Frag} {mg : Str → Option Value} {base : Heap}
theorem ok_owner {f fN : Addr} {fd fdN : FuncData} (F : Fun K "is_owner" "is_owner" sIsOwner f fd) (GN : FnOk P w K mg base CX0 1 fN fdN ["thing"] (spAsk K isNameD)) (mN : mg "is_name" = some (.ref fN)) (kN : PySem.W.keepIn K (.ref fN) = true) (bN : Binds K fdN ["thing"] []) :
    FnOk P w K mg base CX0 2 f fd ["thing"] (spAsk K isOwnerD) := by
  refine F.ok scIsOwner (fun vs H Q E h => ?_) (fun cdv A outer s H vs Q E hr h => ?_)
  · obtain ⟨v, d, rfl, _⟩ := h
    rfl
  · obtain ⟨v, d, rfl, hd, hok, q⟩ := h
    have hu : (A.deeper (envOfC "is_owner" (defScope sIsOwner) s.heap.objs.size f cdv)).units + 64 < cLine := hr.units
    refine ⟨_, pss_one (ps_ret (pe_or (pe_cmpR (op_eqD hu) (pv 0) pe_str (nomark _)) (pe_one (pe_call GN hr (by rfl) mN kN bN .nil pass0 (pa_cons (pv 0) pa_nil))))), ?_⟩
    refine ⟨v, rfl, d, .str "cls", hd, .str _, hok.sh, (by decide +kernel), _, rfl, ?_⟩
    rw [eqv_cls]
    have hq : ∀ b : Bool, isClsD d = b → isOwnerD d = (b || isNameD d) := fun b e => by
      subst e
      cases d <;> rfl
    refine ite2 (fun k => ?_) (fun k => ?_)
    · rw [hq _ k] at q
      exact q _ (Same.refl _)
    · rw [hq _ (eq_false_of_ne_true k)] at q
      exact ⟨v, rfl, v, d, rfl, hd, hok, q⟩
def spAsc (K : PySem.W.Frag) : Sp := fun vs H Q _ => ∃ (a : Addr) (zs : List Str), vs = [.ref a] ∧ SqT K H a (zs.map V.str) ∧ zs.length ≤ 1000 ∧ ∀ H', Same H H' → Q (.bl (ascS zs)) H'
theorem ok_asc {f : Addr} {fd : FuncData} (F : Fun K "is_ascending" "is_ascending" sIsAsc f fd) (T : Wds K mg) : FnOk P w K mg base CX0 1 f fd ["words"] (spAsc K) := by
  refine F.ok scIsAsc (fun vs H Q E h => ?_) (fun cdv A outer s H vs Q E hr h => ?_)
  · obtain ⟨a, zs, rfl, _⟩ := h
    rfl
  · obtain ⟨a, zs, rfl, hS, hlen, q⟩ := h
    refine ⟨_, pss_one (ps_ret (pe_callB (cr_all rfl) (by rfl) T.all (by decide +kernel) (pa_cons
          (pe_lc (own := [("low", 1), ("high", 2)]) (g := gTup K 2 (gCons (gName 1) (gCons (gName 2) gNil))) (tt := tYes) rfl scIsAsc.nd (RZ.pi_zipA (by rfl) T.zip (pa_cons (pv 0) (pa_cons (pe_slice sl_tail (pv 0) (po_some pe_int) po_none) pa_nil)))
            (blkOk_by (N := ["words", "low", "high"]) (sc := defScope sIsAsc) (by decide +kernel)) (fun _ _ _ _ _ => pg_tup rfl (pgs_cons (pg_name (i := 1) scIsAsc.nd rfl (Or.inl rfl)) (pgs_cons (pg_name (i := 2) scIsAsc.nd rfl (Or.inl rfl)) pgs_nil))) (fun _ _ _ _ _ => pts_nil)
            (fun _ _ _ _ _ => pe_cmpR op_lt_str (pv 1) (pv 2) (nomark _))) pa_nil))), ?_⟩
    refine ⟨_, rfl, _, rfl, 1, rfl, rfl, rfl, a, _, rfl, hS, fun b H1 s1 hb => ?_⟩
    rw [← List.map_drop] at hb
    refine ⟨a, b, zs.map V.str, (zs.drop 1).map V.str, rfl, .inr ⟨Same.seqT s1 hS, hb, fun D hD => ?_⟩⟩
    have hz : (zs.zip (zs.drop 1)).length = zs.length - 1 := by
      rw [List.length_zip, List.length_drop]
      omega
    refine lc_it (walk_zipT (n := (zs.zip (zs.drop 1)).length) (by rw [List.length_map, List.length_map, List.length_zip])) (fun i H2 => Same H1 H2 ∧ H2 D = some (.lst (((pairsLt zs).take i).map V.bl))) ⟨same_upd hD, upd_same⟩ (fun _ _ _ h => ⟨Same.seqT (s1.trans h.1) hS, Same.seqT h.1 hb⟩) ?_ ?_
    · rintro i v H2 H3 hi ⟨sm, hl⟩ ⟨T', x, y, rfl, nT, rfl, e1, e2⟩
      have hi1 : i < zs.length := by omega
      have hi2 : i < (zs.drop 1).length := by rw [List.length_drop]; omega
      have e1 := (show (zs.map V.str)[i]? = some x from e1)
      have e2 := (show ((zs.drop 1).map V.str)[i]? = some y from e2)
      rw [List.getElem?_map, List.getElem?_eq_getElem hi1] at e1
      rw [List.getElem?_map, List.getElem?_eq_getElem hi2] at e2
      obtain rfl := Option.some.inj e1
      obtain rfl := Option.some.inj e2
      have nD : D ≠ T' := ne_of_none hl nT
      have hg : (pairsLt zs)[i]? = some (ltS zs[i] (zs.drop 1)[i]) := by
        unfold pairsLt
        rw [List.getElem?_map, List.getElem?_eq_getElem hi, List.getElem_zip]
        rfl
      refine ⟨T', _, rfl, .inl (.inl upd_same), rfl, _, _, rfl, _, _, rfl, rfl, rfl, ?_⟩
      unfold tYes
      refine iteT ?_
      refine ⟨_, rfl, _, rfl, _, _, rfl, rfl, _, (by rw [upd_ne nD]; exact hl), ?_, fun c o e => ?_, ?_⟩
      · rw [List.length_map, List.length_take]
        exact small1000 (by omega)
      · rw [upd_ne (ne_of_none e hD), upd_ne (ne_of_none (sm _ _ e) nT)]
        exact sm _ _ e
      · rw [upd_same, List.take_add_one, hg, List.map_append]
        rfl
    · rintro H2 ⟨sm, hl⟩
      refine ⟨D, _, rfl, .inl (.inl hl), ?_⟩
      rw [List.take_of_length_le (by unfold pairsLt; rw [List.length_map]; exact Nat.le_refl _), pairs_all]
      exact q _ (s1.trans sm)
theorem ok_items {f fN fA : Addr} {fd fdN fdA : FuncData} (F : Fun K "is_items" "is_items" sIsItems f fd) (T : Wds K mg) (GN : FnOk P w K mg base CX0 1 fN fdN ["thing"] (spAsk K isNameD)) (mN : mg "is_name" = some (.ref fN)) (kN : PySem.W.keepIn K (.ref fN) = true) (bN : Binds K fdN ["thing"] [])
    (GA : FnOk P w K mg base CX0 1 fA fdA ["words"] (spAsc K)) (mA : mg "is_ascending" = some (.ref fA)) (kA : PySem.W.keepIn K (.ref fA) = true) (bA : Binds K fdA ["words"] []) :
    FnOk P w K mg base CX0 2 f fd ["thing"] (spAsk K isItemsD) := by
  refine F.ok scIsItems (fun vs H Q E h => ?_) (fun cdv A outer s H vs Q E hr h => ?_)
  · obtain ⟨v, d, rfl, _⟩ := h
    rfl
  · obtain ⟨v, d, rfl, hd, hok, q⟩ := h
    refine ⟨_, pss_one (ps_ret (pe_and (pe_callB call_isi (by rfl) T.isi (by decide +kernel) (pa_cons (pv 0) (pa_cons (pe_bltn (v := .ty "tuple") (by rfl) T.tup (by decide +kernel) rfl) pa_nil)))
      (pe_and (pe_callB (cr_all rfl) (by rfl) T.all (by decide +kernel) (pa_cons
          (pe_lc (own := [("part", 1)]) (g := gName 1) (tt := tYes) rfl scIsItems.nd (pi_tup (pv 0)) (blkOk_by (N := ["thing", "part"]) (sc := defScope sIsItems) (by decide +kernel)) (fun _ _ _ _ _ => pg_name (i := 1) scIsItems.nd rfl (Or.inl rfl)) (fun _ _ _ _ _ => pts_nil)
            (fun _ _ _ _ _ => pe_call GN hr (by rfl) mN kN bN .nil pass0 (pa_cons (pv 1) pa_nil))) pa_nil))
        (pe_one (pe_call GA hr (by rfl) mA kA bA .nil pass0 (pa_cons (pv 0) pa_nil)))))), ?_⟩
    refine ⟨v, rfl, v, .ty "tuple", _, _, _, rfl, .ty _, dp_ty hd, kit_tup d, _, rfl, ?_⟩
    by_cases ht : isTupD d = true
    · cases d with
      | tuple ds =>
        cases hd with
        | @tup a xs _ hS hall =>
          obtain ⟨hlen, hoks⟩ := hok.tup
          have hxl := dpAll_len hall
          refine iteT ?_
          refine ⟨_, rfl, a, rfl, ⟨_, hS⟩, fun D hD => lc_it walk_tup (fun i H1 => Same H H1 ∧ H1 D = some (.lst (((ds.take i).map isNameD).map V.bl))) ⟨same_upd hD, upd_same⟩ (fun _ _ _ h => Same.seqT h.1 hS) ?_ ?_⟩
          · rintro i x H1 H2 hi ⟨sm, hl⟩ ⟨rfl, hx⟩
            obtain ⟨d', hd', hdp⟩ := dpAll_get hall hx
            refine ⟨rfl, ?_⟩
            unfold tYes
            refine iteT ?_
            refine ⟨_, rfl, _, d', rfl, dp_same sm hdp, hoks d' (List.mem_of_getElem? hd'), fun H3 s3 => ?_⟩
            refine ⟨_, s3 _ _ hl, ?_, ?_⟩
            · rw [List.length_map, List.length_map, List.length_take]
              exact small1000 (by omega)
            · rw [acc_next hd']
              refine ⟨fun c o e => ?_, upd_same⟩
              rw [upd_ne (ne_of_none e hD)]
              exact s3 _ _ (sm _ _ e)
          · rintro H1 ⟨sm, hl⟩
            refine ⟨D, _, rfl, .inl (.inl hl), _, rfl, ?_⟩
            rw [hxl, List.take_of_length_le (Nat.le_refl _), List.all_map]
            show if ds.all isNameD = true then _ else _
            refine ite2 (fun hn => ?_) (fun hn => ?_)
            · obtain ⟨zs, rfl⟩ := strs_of_all hn
              have e := vals_strs hall
              subst e
              have ed : isItemsD (.tuple (zs.map PyData.str)) = ascS zs := by
                show ((zs.map PyData.str).all isNameD && (match strsOf (zs.map PyData.str) with | some zs => ascS zs | none => false)) = _
                rw [hn, strsOf_map]
                rfl
              rw [ed] at q
              rw [List.length_map] at hlen
              exact ⟨_, rfl, a, zs, rfl, Same.seqT sm hS, hlen, fun H2 s2 => q _ (sm.trans s2)⟩
            · have ed : isItemsD (.tuple ds) = false := by
                show (ds.all isNameD && _) = false
                rw [eq_false_of_ne_true hn]
                rfl
              rw [ed] at q
              exact q _ sm
      | _ => cases ht
    · have e : isTupD d = false := eq_false_of_ne_true ht
      rw [e]
      refine iteF ?_
      have en : isItemsD d = false := by cases d <;> first | rfl | exact absurd rfl ht
      rw [en] at q
      exact q _ (Same.refl _)
end
end Dr
namespace Dr
open PySem PySem.Spec PyProof.Rows L2
abbrev sFormOf : Stmt := topS 16
abbrev sIsSort : Stmt := topS 17
abbrev sHasForm : Stmt := topS 18
abbrev sIsDef : Stmt := topS 19
theorem scFormOf : FnScope ["thing", "forms", "form"] ["thing", "forms"] (defScope sFormOf) := ⟨rfl, rfl, rfl, by decide +kernel, rfl, by decide +kernel, by decide +kernel⟩
theorem scIsSort : FnScope ["part", "sort"] ["part", "sort"] (defScope sIsSort) := ⟨rfl, rfl, rfl, by decide +kernel, rfl, by decide +kernel, by decide +kernel⟩
theorem scHasForm : FnScope ["thing", "forms", "form", "part", "sort"] ["thing", "forms"] (defScope sHasForm) := ⟨rfl, rfl, rfl, by decide +kernel, rfl, by decide +kernel, by decide +kernel⟩
theorem scIsDef : FnScope ["thing", "holds"] ["thing", "holds"] (defScope sIsDef) := ⟨rfl, rfl, rfl, by decide +kernel, rfl, by decide +kernel, by decide +kernel⟩
abbrev Form := List Str
def fits (d : PyData) (f : Form) : Bool := match d, f with
  | .tuple (x :: r), w :: q => (r.length == q.length) && PyData.eqv x (.str w)
  | _, _ => false
def formOf (d : PyData) (fs : List Form) : Option Form := fs.find? (fits d)
def sorted2 (S : PyData → Str → Bool) : List PyData → List Str → List Bool
  | d :: r, z :: q => S d z :: sorted2 S r q
  | _, _ => []
def tailD : PyData → List PyData
  | .tuple ds => ds.drop 1
  | _ => []
def hasForm (S : PyData → Str → Bool) (d : PyData) (fs : List Form) : Bool := match formOf d fs with
  | none => false
  | some f => (sorted2 S (tailD d) (f.drop 1)).all id
/-- a tuple of forms of the written part -/
def FmAt (K : PySem.W.Frag) (b : Addr) (f : Form) : Prop := ∀ H, SqT K H b (f.map V.str)
structure Fms (K : PySem.W.Frag) (a : Addr) (fs : List Form) : Prop where
  ex : ∃ as : List Addr, (∀ H, SqT K H a (as.map V.ref)) ∧ Paired (FmAt K) as fs
theorem paired_get {α β : Type} {R : α → β → Prop} : ∀ {xs : List α} {ys : List β} {i : Nat} {x : α}, Paired R xs ys → xs[i]? = some x → ∃ y, ys[i]? = some y ∧ R x y
  | _, _, i, x, .nil, h => by simp at h
  | _, _, 0, x, .cons r _, h => ⟨_, rfl, by
    have q := Option.some.inj h
    subst q
    exact r⟩
  | _, _, i + 1, x, .cons _ rs, h => paired_get (i := i) rs h
theorem fits_not {d : PyData} {f : Form} (h : isTupD d = false) : fits d f = false := by
  cases d <;> first | rfl | cases h
theorem formOf_not {d : PyData} {fs : List Form} (h : isTupD d = false) : formOf d fs = none := by
  unfold formOf
  rw [List.find?_eq_none]
  intro f _
  rw [fits_not h]
  exact Bool.false_ne_true
theorem formOf_next {d : PyData} {fs : List Form} {i : Nat} {f : Form} (h : fs[i]? = some f) (n : formOf d (fs.take i) = none) : (fits d f = true → formOf d fs = some f) ∧ (fits d f = false → formOf d (fs.take (i + 1)) = none) := by
  unfold formOf at n ⊢
  refine ⟨fun e => ?_, fun e => ?_⟩
  · have hs : fs = fs.take i ++ (f :: fs.drop (i + 1)) := by
      obtain ⟨hi, rfl⟩ := List.getElem?_eq_some_iff.mp h
      rw [← List.drop_eq_getElem_cons hi, List.take_append_drop]
    rw [hs, List.find?_append, n, List.find?_cons, e]
    rfl
  · rw [List.take_add_one, h, List.find?_append, n, Option.none_or]
    show List.find? (fits d) [f] = none
    rw [List.find?_cons, e]
    rfl
section
variable {P : Program} {w : World} {K : PySem.W.Frag} {mg : Str → Option Value} {base : Heap}
def spFormOf (K : PySem.W.Frag) : Sp := fun vs H Q _ => ∃ (v : V) (d : PyData) (a : Addr) (fs : List Form), vs = [v, .ref a] ∧ Dp K H v d ∧ OkD d ∧ Fms K a fs ∧ (∀ f ∈ fs, 1 ≤ f.length ∧ ∀ z ∈ f, SeqAt.shaped (.str z) = true) ∧ (formOf d fs = none → Q .non H) ∧ ∀ f b, f ∈ fs → formOf d fs = some f → FmAt K b f → Q (.ref b) H
theorem ok_formOf {f : Addr} {fd : FuncData} (F : Fun K "form_of" "form_of" sFormOf f fd) (T : Wds K mg) : FnOk P w K mg base CX0 1 f fd ["thing", "forms"] (spFormOf K) := by
  refine F.ok scFormOf (fun vs H Q E h => ?_) (fun cdv A outer s H vs Q E hr h => ?_)
  · obtain ⟨v, d, a, fs, rfl, _⟩ := h
    rfl
  · obtain ⟨v, d, a, fs, rfl, hd, hok, hF, h1, q0, q1⟩ := h
    have hu : (A.deeper (envOfC "form_of" (defScope sFormOf) s.heap.objs.size f cdv)).units + 64 < cLine := hr.units
    refine ⟨_, pss_cons (ps_if (pt_not (pt_val (pe_callB call_isi (by rfl) T.isi (by decide +kernel) (pa_cons (pv 0) (pa_cons (pe_bltn (v := .ty "tuple") (by rfl) T.tup (by decide +kernel) rfl) pa_nil))))) (pss_one (ps_ret pe_non)) pss_nil)
      (pss_cons (ps_for PassesOwn.never rfl (pi_tup (pv 1)) (pg_name (i := 2) scFormOf.nd rfl (.inl rfl))
        (pss_one (ps_if (PW.pt (pw_and (pt_cmpR op_eq (pe_callB call_len_seq (by rfl) T.len PySem.boot_len (pa_cons (pv 0) pa_nil)) (pe_callB call_len_seq (by rfl) T.len PySem.boot_len (pa_cons (pv 2) pa_nil)) (nomark _))
            (pw_and1 (pt_cmpR (op_eqD hu) (pe_ix ix_tup (pv 0) pe_int (fun _ _ => rfl)) (pe_ix ix_tup (pv 2) pe_int (fun _ _ => rfl)) (nomark _)))))
          (pss_one (ps_ret (pv 2))) pss_nil)))
      (pss_one (ps_ret pe_non))), ?_⟩
    refine ⟨v, rfl, v, .ty "tuple", _, _, _, rfl, .ty _, dp_ty hd, kit_tup d, _, rfl, ?_⟩
    by_cases ht : isTupD d = true
    · rw [ht]
      refine iteF ?_
      obtain ⟨as, hS, hP⟩ := hF.ex
      refine ⟨_, rfl, a, rfl, ⟨_, hS _⟩, for_it walk_tup (fun i σ H' => H' = H ∧ (∃ y, σ = [some v, some (.ref a), y]) ∧ formOf d (fs.take i) = none) ⟨rfl, ⟨_, rfl⟩, rfl⟩ (fun _ _ _ _ _ => hS _) ?_ ?_⟩
      · rintro i x σ H1 H2 hi ⟨rfl, ⟨y, rfl⟩, hn⟩ ⟨rfl, hx⟩
        rw [List.getElem?_map] at hx
        cases hb : as[i]? with
        | none =>
          rw [hb] at hx
          cases hx
        | some b =>
          rw [hb] at hx
          obtain rfl := Option.some.inj hx
          obtain ⟨fm, hfm, hat⟩ := paired_get hP hb
          have hmem : fm ∈ fs := List.mem_of_getElem? hfm
          obtain ⟨hl1, hsh1⟩ := h1 fm hmem
          have hnx := formOf_next hfm hn
          cases d with
          | tuple ds =>
            cases hd with
            | @tup va xs _ hSd hall =>
              have hxl := dpAll_len hall
              refine ⟨_, rfl, va, _, rfl, .inr hSd, _, rfl, b, _, rfl, .inr (hat _), rfl, _, rfl, ?_⟩
              refine ite2 (fun k => ?_) (fun k => ?_)
              · have e1 : (xs.length : Int) = ((fm.map V.str).length : Int) := V.int.inj (of_decide_eq_true k)
                rw [List.length_map] at e1
                cases fm with
                | nil => exact absurd hl1 (by decide)
                | cons z zs =>
                  rw [List.length_cons] at e1
                  cases hall with
                  | nil =>
                    rw [List.length_nil] at e1
                    omega
                  | @cons x0 xr d0 dr hp0 hpr =>
                    have hok0 : OkD d0 := (hok.tup).2 d0 (List.mem_cons_self ..)
                    have el : (dr.length == zs.length) = true := by
                      rw [beq_iff_eq]
                      have := dpAll_len hpr
                      rw [List.length_cons] at e1
                      omega
                    refine ⟨_, rfl, va, _, 0, x0, rfl, rfl, hSd, atI_nat (j := 0) rfl, _, rfl, b, _, 0, .str z, rfl, rfl, hat _, atI_nat (j := 0) rfl, d0, .str z, hp0, .str z, hok0.sh, ?_, _, rfl, ?_⟩
                    · exact hsh1 z (List.mem_cons_self ..)
                    · have ef : fits (.tuple (d0 :: dr)) (z :: zs) = PyData.eqv d0 (.str z) := by
                        show ((dr.length == zs.length) && PyData.eqv d0 (.str z)) = _
                        rw [el]
                        rfl
                      refine ite2 (fun k => ?_) (fun k => ?_)
                      · exact ⟨_, rfl, q1 _ b hmem (hnx.1 (ef.trans k)) hat⟩
                      · exact ⟨rfl, ⟨_, rfl⟩, hnx.2 (ef.trans (eq_false_of_ne_true k))⟩
              · refine ⟨rfl, ⟨_, rfl⟩, hnx.2 ?_⟩
                have e1 : ¬ (xs.length : Int) = ((fm.map V.str).length : Int) := fun e => k (decide_eq_true (by rw [e]))
                rw [List.length_map] at e1
                cases fm with
                | nil => exact absurd hl1 (by decide)
                | cons z zs =>
                  cases ds with
                  | nil => rfl
                  | cons d0 dr =>
                    show ((dr.length == zs.length) && PyData.eqv d0 (.str z)) = false
                    rw [List.length_cons] at e1 hxl
                    rw [show (dr.length == zs.length) = false from beq_eq_false_iff_ne.mpr (by omega)]
                    rfl
          | _ => cases ht
      · rintro σ H1 ⟨rfl, ⟨y, rfl⟩, hn⟩
        have hl : fs.length = (as.map V.ref).length := by
          rw [List.length_map, hP.length]
        rw [← hl, List.take_length] at hn
        exact q0 hn
    · rw [eq_false_of_ne_true ht]
      exact iteT (q0 (formOf_not (eq_false_of_ne_true ht)))
/-- a question about a part and its sort, for sorts that ok allows -/
def spSort (K : PySem.W.Frag) (S : PyData → Str → Bool) (ok : Str → Prop) : Sp := fun vs H Q _ => ∃ (v : V) (d : PyData) (z : Str), vs = [v, .str z] ∧ Dp K H v d ∧ OkD d ∧ ok z ∧ ∀ H', Same H H' → Q (.bl (S d z)) H'
structure FmOk (ok : Str → Prop) (fs : List Form) : Prop where
  len : ∀ f ∈ fs, 1 ≤ f.length ∧ ∀ z ∈ f, SeqAt.shaped (.str z) = true
  tl : ∀ f ∈ fs, ∀ z ∈ f.drop 1, ok z
def spHas (K : PySem.W.Frag) (S : PyData → Str → Bool) (ok : Str → Prop) : Sp := fun vs H Q _ => ∃ (v : V) (d : PyData) (a : Addr) (fs : List Form), vs = [v, .ref a] ∧ Dp K H v d ∧ OkD d ∧ Fms K a fs ∧ FmOk ok fs ∧ ∀ H', Same H H' → Q (.bl (hasForm S d fs)) H'
theorem sorted2_len {S : PyData → Str → Bool} : ∀ (ds : List PyData) (zs : List Str), (sorted2 S ds zs).length = min ds.length zs.length
  | [], _ => by simp [sorted2]
  | _ :: _, [] => by simp [sorted2]
  | _ :: r, _ :: q => by
    show (sorted2 S r q).length + 1 = _
    rw [sorted2_len r q, List.length_cons, List.length_cons]
    omega
theorem sorted2_get {S : PyData → Str → Bool} : ∀ {ds : List PyData} {zs : List Str} {i : Nat} {d : PyData} {z : Str}, ds[i]? = some d → zs[i]? = some z → (sorted2 S ds zs)[i]? = some (S d z)
  | [], _, i, d, z, h, _ => by simp at h
  | _ :: _, [], i, d, z, _, h => by simp at h
  | x :: r, y :: q, 0, d, z, h, h2 => by
    obtain rfl := Option.some.inj h
    obtain rfl := Option.some.inj h2
    rfl
  | x :: r, y :: q, i + 1, d, z, h, h2 => sorted2_get (ds := r) (zs := q) (i := i) h h2
theorem dpAll_drop1 {K : PySem.W.Frag} {H : Hp} {vs : List V} {ds : List PyData} (h : DpAll K H vs ds) : DpAll K H (vs.drop 1) (ds.drop 1) := by
  cases h with
  | nil => exact .nil
  | cons _ hs => exact hs
theorem ok_hasForm {S : PyData → Str → Bool} {ok : Str → Prop} {k : Nat} {f fF fS : Addr} {fd fdF fdS : FuncData} (F : Fun K "has_form" "has_form" sHasForm f fd) (T : Wds K mg)
    (GF : FnOk P w K mg base CX0 1 fF fdF ["thing", "forms"] (spFormOf K)) (mF : mg "form_of" = some (.ref fF)) (kF : PySem.W.keepIn K (.ref fF) = true) (bF : Binds K fdF ["thing", "forms"] [])
    (GS : FnOk P w K mg base CX0 (k + 1) fS fdS ["part", "sort"] (spSort K S ok)) (mS : mg "is_of_sort" = some (.ref fS)) (kS : PySem.W.keepIn K (.ref fS) = true) (bS : Binds K fdS ["part", "sort"] []) :
    FnOk P w K mg base CX0 (k + 2) f fd ["thing", "forms"] (spHas K S ok) := by
  refine F.ok scHasForm (fun vs H Q E h => ?_) (fun cdv A outer s H vs Q E hr h => ?_)
  · obtain ⟨v, d, a, fs, rfl, _⟩ := h
    rfl
  · obtain ⟨v, d, a, fs, rfl, hd, hok, hF, hfs, q⟩ := h
    refine ⟨_, pss_cons (ps_set (i := 2) scHasForm.nd rfl (.inl rfl) (pe_call GF (hr.mono (by omega)) (by rfl) mF kF bF .nil pass0 (pa_cons (pv 0) (pa_cons (pv 1) pa_nil))))
      (pss_cons (ps_if (pt_cmpR op_isN (pv 2) pe_non (nomark _)) (pss_one (ps_ret pe_bl)) pss_nil)
      (pss_one (ps_ret (pe_callB (cr_all rfl) (by rfl) T.all (by decide +kernel) (pa_cons
          (pe_lc (own := [("part", 3), ("sort", 4)]) (g := gTup K 2 (gCons (gName 3) (gCons (gName 4) gNil))) (tt := tYes) rfl scHasForm.nd (RZ.pi_zipA (by rfl) T.zip (pa_cons (pe_slice sl_tail (pv 0) (po_some pe_int) po_none) (pa_cons (pe_slice sl_tail (pv 2) (po_some pe_int) po_none) pa_nil)))
            (blkOk_by (N := ["thing", "forms", "form", "part", "sort"]) (sc := defScope sHasForm) (by decide +kernel)) (fun _ _ _ _ _ => pg_tup rfl (pgs_cons (pg_name (i := 3) scHasForm.nd rfl (Or.inl rfl)) (pgs_cons (pg_name (i := 4) scHasForm.nd rfl (Or.inl rfl)) pgs_nil))) (fun _ _ _ _ _ => pts_nil)
            (fun _ _ _ _ _ => pe_call GS hr (by rfl) mS kS bS .nil pass0 (pa_cons (pv 3) (pa_cons (pv 4) pa_nil)))) pa_nil))))), ?_⟩
    refine ⟨v, rfl, .ref a, rfl, v, d, a, fs, rfl, hd, hok, hF, hfs.len, fun hn => ?_, fun fm b hmem hf hat => ?_⟩
    · refine ⟨_, rfl, rfl, _, rfl, ?_⟩
      refine iteT ?_
      have e : hasForm S d fs = false := by
        unfold hasForm
        rw [hn]
      rw [e] at q
      exact q _ (Same.refl _)
    · refine ⟨_, rfl, rfl, _, rfl, ?_⟩
      refine iteF ?_
      have e : hasForm S d fs = (sorted2 S (tailD d) (fm.drop 1)).all id := by
        unfold hasForm
        rw [hf]
      rw [e] at q
      cases ht : isTupD d with
      | false =>
        rw [formOf_not ht] at hf
        cases hf
      | true =>
        cases d with
        | tuple ds =>
          cases hd with
          | @tup va xs _ hSd hall =>
            obtain ⟨hlen, hoks⟩ := hok.tup
            have hall1 := dpAll_drop1 hall
            have hxl := dpAll_len hall1
            refine ⟨_, rfl, 1, rfl, rfl, rfl, va, xs, rfl, hSd, fun b1 H1 s1 hb1 => ?_⟩
            refine ⟨_, rfl, 1, rfl, rfl, rfl, b, _, rfl, hat _, fun b2 H2 s2 hb2 => ?_⟩
            rw [← List.map_drop] at hb2
            have hb1' := Same.seqT s2 hb1
            have s12 := s1.trans s2
            refine ⟨b1, b2, xs.drop 1, (fm.drop 1).map V.str, rfl, .inr ⟨hb1', hb2, fun D hD => ?_⟩⟩
            have hls := sorted2_len (S := S) (ds.drop 1) (fm.drop 1)
            refine lc_it (walk_zipT (n := (sorted2 S (ds.drop 1) (fm.drop 1)).length) (by rw [hls, List.length_map, hxl])) (fun i H3 => Same H2 H3 ∧ H3 D = some (.lst (((sorted2 S (ds.drop 1) (fm.drop 1)).take i).map V.bl))) ⟨same_upd hD, upd_same⟩ (fun _ _ _ h => ⟨Same.seqT h.1 hb1', Same.seqT h.1 hb2⟩) ?_ ?_
            · rintro i y H3 H4 hi ⟨sm, hl⟩ ⟨T', x, u, rfl, nT, rfl, e1, e2⟩
              have e1 := (show (xs.drop 1)[i]? = some x from e1)
              have e2 := (show ((fm.drop 1).map V.str)[i]? = some u from e2)
              obtain ⟨d', hd', hdp⟩ := dpAll_get hall1 e1
              rw [List.getElem?_map] at e2
              cases hz : (fm.drop 1)[i]? with
              | none =>
                rw [hz] at e2
                cases e2
              | some z =>
                rw [hz] at e2
                obtain rfl := Option.some.inj e2
                have nD : D ≠ T' := ne_of_none hl nT
                have sT : Same H3 (upd H3 T' (.tup [x, .str z])) := same_upd nT
                refine ⟨T', _, rfl, .inl (.inl upd_same), rfl, _, _, rfl, _, _, rfl, rfl, rfl, ?_⟩
                unfold tYes
                refine iteT ?_
                refine ⟨_, rfl, _, rfl, x, d', z, rfl, dp_same (s12.trans (sm.trans sT)) hdp, hoks d' (List.mem_of_mem_drop (List.mem_of_getElem? hd')), hfs.tl fm hmem z (List.mem_of_getElem? hz), fun H5 s5 => ?_⟩
                refine ⟨_, s5 _ _ (sT _ _ hl), ?_, fun c o e => ?_, ?_⟩
                · rw [List.length_map, List.length_take]
                  have : (ds.drop 1).length ≤ 1000 := by
                    rw [List.length_drop]
                    omega
                  exact small1000 (by omega)
                · rw [upd_ne (ne_of_none e hD)]
                  exact s5 _ _ (sT _ _ (sm _ _ e))
                · rw [upd_same, List.take_add_one, sorted2_get hd' hz, List.map_append]
                  rfl
            · rintro H3 ⟨sm, hl⟩
              refine ⟨D, _, rfl, .inl (.inl hl), ?_⟩
              rw [List.take_of_length_le (Nat.le_refl _)]
              exact q _ (s12.trans sm)
        | _ => cases ht
end
end Dr
namespace Dr
open PySem PySem.Spec PyProof.Rows L2
def S0 (d : PyData) (z : Str) : Bool := if z = "items" then isItemsD d else if z = "owner" then isOwnerD d else isNameD d
def ok0 (z : Str) : Prop := z ≠ "test" ∧ z ≠ "plain"
def markForms : List Form := [["mark", "item"]]
def boxForms : List Form := [["once", "items"], ["early", "kind", "value"], ["anew", "items"], ["late", "owner", "value"]]
def isDefD (d : PyData) (h : Str) : Bool := if h = "mark" then hasForm S0 d markForms else hasForm S0 d boxForms
instance (z : Str) : Decidable (ok0 z) := by
  unfold ok0
  exact inferInstance
def fmOkB (fs : List Form) : Bool := fs.all fun f => (decide (1 ≤ f.length) && f.all fun z => SeqAt.shaped (.str z)) && (f.drop 1).all fun z => decide (ok0 z)
theorem fmOk_by {fs : List Form} (h : fmOkB fs = true) : FmOk ok0 fs := by
  have q := List.all_eq_true.mp h
  refine ⟨fun f hf => ?_, fun f hf z hz => ?_⟩
  · have := q f hf
    rw [Bool.and_eq_true, Bool.and_eq_true] at this
    exact ⟨of_decide_eq_true this.1.1, fun z hz => List.all_eq_true.mp this.1.2 z hz⟩
  · have := q f hf
    rw [Bool.and_eq_true] at this
    exact of_decide_eq_true (List.all_eq_true.mp this.2 z hz)
theorem mark_ok : FmOk ok0 markForms := fmOk_by (by decide +kernel)
theorem box_ok : FmOk ok0 boxForms := fmOk_by (by decide +kernel)
section
variable {P : Program} {w : World} {K : PySem.W.Frag} {mg : Str → Option Value} {base : Heap}
theorem ok_sort0 {f fI fO fN : Addr} {fd fdI fdO fdN : FuncData} (F : Fun K "is_of_sort" "is_of_sort" sIsSort f fd)
    (GI : FnOk P w K mg base CX0 2 fI fdI ["thing"] (spAsk K isItemsD)) (mI : mg "is_items" = some (.ref fI)) (kI : PySem.W.keepIn K (.ref fI) = true) (bI : Binds K fdI ["thing"] [])
    (GO : FnOk P w K mg base CX0 2 fO fdO ["thing"] (spAsk K isOwnerD)) (mO : mg "is_owner" = some (.ref fO)) (kO : PySem.W.keepIn K (.ref fO) = true) (bO : Binds K fdO ["thing"] [])
    (GN : FnOk P w K mg base CX0 1 fN fdN ["thing"] (spAsk K isNameD)) (mN : mg "is_name" = some (.ref fN)) (kN : PySem.W.keepIn K (.ref fN) = true) (bN : Binds K fdN ["thing"] []) :
    FnOk P w K mg base CX0 3 f fd ["part", "sort"] (spSort K S0 ok0) := by
  refine F.ok scIsSort (fun vs H Q E h => ?_) (fun cdv A outer s H vs Q E hr h => ?_)
  · obtain ⟨v, d, z, rfl, _⟩ := h
    rfl
  · obtain ⟨v, d, z, rfl, hd, hok, ⟨n1, n2⟩, q⟩ := h
    refine ⟨_, pss_cons (ps_if (pt_cmpR op_eq (pv 1) pe_str (nomark _)) (pss_one (ps_ret (pe_call GI hr (by rfl) mI kI bI .nil pass0 (pa_cons (pv 0) pa_nil)))) pss_nil)
      (pss_cons (ps_if (pt_cmpR op_eq (pv 1) pe_str (nomark _)) (pss_one (ps_ret (pe_call GO hr (by rfl) mO kO bO .nil pass0 (pa_cons (pv 0) pa_nil)))) pss_nil)
      (pss_cons (ps_if (pt_cmpR op_eq (pv 1) pe_str (nomark _)) (pss_one ps_never) pss_nil)
      (pss_cons (ps_if (pt_cmpR op_eq (pv 1) pe_str (nomark _)) (pss_one ps_never) pss_nil)
      (pss_one (ps_ret (pe_call GN (hr.mono (by decide)) (by rfl) mN kN bN .nil pass0 (pa_cons (pv 0) pa_nil))))))), ?_⟩
    have inj : ∀ {a b : Str}, decide (V.str a = V.str b) = true → a = b := fun h => V.str.inj (of_decide_eq_true h)
    have ninj : ∀ {a b : Str}, ¬ decide (V.str a = V.str b) = true → a ≠ b := fun h e => h (decide_eq_true (by rw [e]))
    refine ⟨_, rfl, rfl, _, rfl, ite2 (fun k => ?_) (fun k => ?_)⟩
    · have e : S0 d z = isItemsD d := if_pos (inj k)
      rw [e] at q
      exact ⟨v, rfl, v, d, rfl, hd, hok, q⟩
    · have k1 := ninj k
      refine ⟨_, rfl, rfl, _, rfl, ite2 (fun k => ?_) (fun k => ?_)⟩
      · have e : S0 d z = isOwnerD d := by
          unfold S0
          rw [if_neg k1, if_pos (inj k)]
        rw [e] at q
        exact ⟨v, rfl, v, d, rfl, hd, hok, q⟩
      · have k2 := ninj k
        have e : S0 d z = isNameD d := by
          unfold S0
          rw [if_neg k1, if_neg k2]
        rw [e] at q
        refine ⟨_, rfl, rfl, _, rfl, ite2 (fun k => absurd (inj k) n1) (fun _ => ?_)⟩
        refine ⟨_, rfl, rfl, _, rfl, ite2 (fun k => absurd (inj k) n2) (fun _ => ?_)⟩
        exact ⟨v, rfl, v, d, rfl, hd, hok, q⟩
def spDef (K : PySem.W.Frag) : Sp := fun vs H Q _ => ∃ (v : V) (d : PyData) (h : Str), vs = [v, .str h] ∧ Dp K H v d ∧ OkD d ∧ ∀ H', Same H H' → Q (.bl (isDefD d h)) H'
structure FmT (K : PySem.W.Frag) (mg : Str → Option Value) : Prop where
  mark : ∃ a : Addr, mg "MARK_DEFAULTS" = some (.ref a) ∧ Fms K a markForms
  box : ∃ a : Addr, mg "BOX_DEFAULTS" = some (.ref a) ∧ Fms K a boxForms
theorem ok_def {k : Nat} {f fH : Addr} {fd fdH : FuncData} (F : Fun K "is_default" "is_default" sIsDef f fd) (T : FmT K mg)
    (GH : FnOk P w K mg base CX0 (k + 1) fH fdH ["thing", "forms"] (spHas K S0 ok0)) (mH : mg "has_form" = some (.ref fH)) (kH : PySem.W.keepIn K (.ref fH) = true) (bH : Binds K fdH ["thing", "forms"] []) :
    FnOk P w K mg base CX0 (k + 2) f fd ["thing", "holds"] (spDef K) := by
  refine F.ok scIsDef (fun vs H Q E h => ?_) (fun cdv A outer s H vs Q E hr h => ?_)
  · obtain ⟨v, d, z, rfl, _⟩ := h
    rfl
  · obtain ⟨v, d, z, rfl, hd, hok, q⟩ := h
    obtain ⟨aM, mM, FM⟩ := T.mark
    obtain ⟨aB, mB, FB⟩ := T.box
    refine ⟨_, pss_cons (ps_if (pt_cmpR op_eq (pv 1) pe_str (nomark _)) (pss_one (ps_ret (pe_call GH hr (by rfl) mH kH bH .nil pass0 (pa_cons (pv 0) (pa_cons (pe_glob (v := .ref aM) (by rfl) mM rfl) pa_nil))))) pss_nil)
      (pss_one (ps_ret (pe_call GH hr (by rfl) mH kH bH .nil pass0 (pa_cons (pv 0) (pa_cons (pe_glob (v := .ref aB) (by rfl) mB rfl) pa_nil))))), ?_⟩
    refine ⟨_, rfl, rfl, _, rfl, ite2 (fun k => ?_) (fun k => ?_)⟩
    · have e : isDefD d z = hasForm S0 d markForms := if_pos (V.str.inj (of_decide_eq_true k))
      rw [e] at q
      exact ⟨v, rfl, v, d, aM, markForms, rfl, hd, hok, FM, mark_ok, q⟩
    · have e : isDefD d z = hasForm S0 d boxForms := if_neg fun e => k (decide_eq_true (by rw [e]))
      rw [e] at q
      exact ⟨v, rfl, v, d, aB, boxForms, rfl, hd, hok, FB, box_ok, q⟩
end
end Dr
namespace Dr
open PySem PySem.Spec PyProof.Rows L2
theorem mro_noRef (C : Addr) : ∀ d : PyData, ∃ l, fastBuiltinMro (tyD d) = some l ∧ l.contains (.ref C) = false
  | .none => ⟨[.type "NoneType", .type "object"], by decide +kernel, by simp⟩
  | .bool _ => ⟨[.type "bool", .type "int", .type "object"], by show fastBuiltinMro "bool" = _; decide +kernel, by simp⟩
  | .int _ => ⟨[.type "int", .type "object"], by show fastBuiltinMro "int" = _; decide +kernel, by simp⟩
  | .str _ => ⟨[.type "str", .type "object"], by show fastBuiltinMro "str" = _; decide +kernel, by simp⟩
  | .list _ => ⟨[.type "list", .type "object"], by show fastBuiltinMro "list" = _; decide +kernel, by simp⟩
  | .tuple _ => ⟨[.type "tuple", .type "object"], by show fastBuiltinMro "tuple" = _; decide +kernel, by simp⟩
  | .dict _ => ⟨[.type "dict", .type "object"], by show fastBuiltinMro "dict" = _; decide +kernel, by simp⟩
theorem sub_D {K : PySem.W.Frag} (C : Addr) (d : PyData) : PySem.W.subIn K (.type (tyD d)) (.ref C) = some false := by
  obtain ⟨l, e, n⟩ := mro_noRef C d
  show (fastBuiltinMro (tyD d)).map (·.contains (.ref C)) = some false
  rw [e]
  show some (l.contains (.ref C)) = some false
  rw [n]
section
variable {X : Cx} {pins : List (Addr × Obj)} {σ : L2.St} {H : Hp} {s : Shared}
theorem looks_D {M : Model} (I : Inv X pins σ H s) {y : V} {u : Value} {d : PyData} (r : RelV y u) (h : Dp X.K H y d) : PySem.W.Looks M s.heap (typeOf u) (.type (tyD d)) := by
  cases h with
  | non => cases (show u = Value.none from r); exact .of_pure rfl
  | bl b => cases (show u = Value.bool b from r); exact .of_pure rfl
  | int i => obtain ⟨t, e⟩ := (show ∃ t, u = Value.int i t from r); cases e; exact .of_pure rfl
  | str x => obtain ⟨t, e⟩ := (show ∃ t, u = Value.str x t from r); cases e; exact .of_pure rfl
  | @lst a xs ds hS _ =>
    cases (show u = Value.ref a from r)
    obtain ⟨its, _, ⟨o, n, ho, hc, _⟩, _⟩ := I.list hS
    exact fun A Q E s' k q => wpAny_typeOf_ref (k _ _ ho) (by rw [hc]; exact q)
  | @tup a xs ds hS _ =>
    cases (show u = Value.ref a from r)
    obtain ⟨its, _, ⟨o, ho, hc, _⟩, _⟩ := I.tuple hS
    exact fun A Q E s' k q => wpAny_typeOf_ref (k _ _ ho) (by rw [hc]; exact q)
/-- the other side of a comparison: an instance of the same class, or a datum -/
def Side (K : PySem.W.Frag) (C : Addr) (H : Hp) (y : V) : Prop := (∃ b dy gs, y = .ref b ∧ H b = some (.ins C dy gs)) ∨ ∃ d, Dp K H y d
theorem side_ty {M : Model} {C : Addr} (I : Inv X pins σ H s) {y : V} {u : Value} (r : RelV y u) (h : Side X.K C H y) : ∃ tb, PySem.W.Looks M s.heap (typeOf u) tb ∧ PySem.W.notFirst X.K C tb = true := by
  rcases h with ⟨b, dy, gs, rfl, hb⟩ | ⟨d, hd⟩
  · cases r
    obtain ⟨mB, J', _⟩ := ins_get I.hok hb
    obtain ⟨od', J', _⟩ := J'.look
    exact ⟨_, J'.type, by simp [PySem.W.notFirst]⟩
  · refine ⟨_, looks_D I r hd, ?_⟩
    unfold PySem.W.notFirst
    rw [sub_D]
    simp
variable {CX : CXT} {C g : Addr} {fd : FuncData} {ps : List Str} {n : Nat} {sp : Sp} {E : XK}
/-- a def called from within a builtin -/
theorem run_in {A : Around} {Q : VK} {us : List Value} {vs : List V} (F : FnOk X.prog X.w X.K X.mg X.base CX n g fd ps sp) (hr : Room n A) (e0 : Env0 X.prog X.w X.K X.mg X.base A X.stack s H) (hb : Binds X.K fd ps []) (hx : Passes CX X E)
    (I : Inv X pins σ H s) (r : Vals vs us) (h : sp vs H Q E) : wpAny (model X.prog X.w) A (call (.ref g) us) (EP X pins σ Q) X.xe s := by
  have hl := F.len _ _ _ _ h
  refine wpAny_call (codeAny_mono (F.run A X.stack s H ⟨us, []⟩ us vs Q E hr e0 (by
    have := hb s us I.kIn (by simpa [← r.length] using hl)
    simpa using this) r h) fun r s' hq => ?_)
  cases r with
  | error e => exact hx pins σ H s e s' I hq
  | ok fl =>
    cases fl with
    | ret u => exact I.after hq
    | next => exact False.elim hq
    | brk => exact False.elim hq
    | cont => exact False.elim hq
def rEqI (K : PySem.W.Frag) (C : Addr) (sp : Sp) (E : XK) : R2 := fun x y H Q => ∃ a dx fs, x = .ref a ∧ H a = some (.ins C dx fs) ∧ Side K C H y ∧ sp [x, y] H Q E
theorem op_eqI (hs : PySem.W.findIn X.K (.ref C) "__eq__" = some (some (.ref g))) (hf : PySem.W.isFn X.K (.ref g) = true) (F : FnOk X.prog X.w X.K X.mg X.base CX n g fd ps sp) (hr : Room n X.A) (hb : Binds X.K fd ps []) (hx : Passes CX X E) :
    OpR X (compareOp .Eq) (rEqI X.K C sp E) := by
  intro pins s σ H x y v u Q I rx ry h
  obtain ⟨a, dx, fs, rfl, ha, hy, q⟩ := h
  cases (show v = Value.ref a from rx)
  obtain ⟨mA, J, _⟩ := ins_get I.hok ha
  obtain ⟨od, J, _⟩ := J.look
  obtain ⟨tb, lk, nf⟩ := side_ty (M := model X.prog X.w) I ry hy
  obtain ⟨m, hF⟩ := I.fr
  refine PySem.W.cmp_K (op := .Eq) (tb := tb) hr.units0 hF I.ok.mod.kin J lk nf hs hf ?_
  refine wpAny_mono (run_in (vs := [V.ref a, y]) (us := [Value.ref a, u]) F hr I.env0 hb hx I (.cons (show L2.RelV (V.ref a) (Value.ref a) from rfl) (.cons ry .nil)) q) (fun w s' z => ?_) fun _ _ x => x
  obtain ⟨z', H', I', rz, qz⟩ := z
  exact SlX.cmpback rz ⟨z', H', I', rz, qz⟩
theorem ifBound_blt {M : Model} {A : Around} {E : Value → Shared → Prop} {K : PySem.W.Frag} {x : Addr} {ox : Obj} {od : Option Obj} {args : List Value} {Q : Option Value → Shared → Prop} (X : K.In s.heap) (I : PySem.W.InstAt s.heap x ox C od) (hs : PySem.W.findIn K (.ref C) "__ne__" = some (some (.builtin "object.__ne__")))
    (h : wpAny M A (call (.builtin "object.__ne__") (.ref x :: args)) (fun v => Q (some v)) E s) : wpAny M A (callSpecialIfBound? (.ref x) "__ne__" args) Q E s := by
  simp only [callSpecialIfBound?, bindSpecialIfBound?]
  refine wpAny_holding (wpAny_bind (wpAny_bind (wpAny_bind (I.type.here ((PySem.W.looks_findIn X hs).here ?_)))))
  refine wpAny_bind (wpAny_askSetting (wpAny_ite ?_))
  have fin : wpAny M A (call (.builtin "object.__ne__") ([.ref x] ++ args) >>= fun v => pure (some v)) Q E s := wpAny_bind (wpAny_mono h (fun v s' h' => wpAny_pure h') fun _ _ h' => h')
  split
  · exact wpAny_bind (wpAny_of_eq (PySem.F.cmp_object.ne.bind _) (wpAny_pure (by exact fin)))
  · exact wpAny_tryCatch (wpAny_bind (wpAny_of_eq (PySem.F.cmp_object.ne.bind _) (wpAny_pure (by exact fin))))
theorem entry_ne {prog : Program} {w : World} {A : Around} {E : Value → Shared → Prop} {K : PySem.W.Frag} {x : Addr} {ox : Obj} {od : Option Obj} {b : Value} {Q : Fin → Shared → Prop} (X : K.In s.heap) (I : PySem.W.InstAt s.heap x ox C od) (hs : PySem.W.findIn K (.ref C) "__eq__" = some (some (.ref g))) (hf : PySem.W.isFn K (.ref g) = true) (hu : A.units < cLine)
    (hcall : wpAny (model prog w) A (call (.ref g) [.ref x, b]) (fun v s' => ∃ b, v = .bool b ∧ Q (.done (.ret (.bool (!b)))) s') E s) : wpAny (model prog w) A (Builtin.«object.__ne__» ⟨[.ref x, b], []⟩) Q E s := by
  unfold Builtin.«object.__ne__»
  repeat (first
    | with_reducible refine wpAny_cRoomFor hu ?_
    | (refine wpAny_bind (m := callSpecialIfBound? (.ref x) (Str.ofString "__eq__") [b])
        (PySem.W.ifBound_K X I hs hf (wpAny_mono hcall (fun r s' hr => by
          obtain ⟨b, rfl, hq⟩ := hr
          repeat (first | exact hq | exact wpAny_pure hq | exact wpAny_truthy_bool hq | (refine wpAny_bind (m := truthy (.bool _)) (wpAny_truthy_bool ?_)) | wp_step)) fun _ _ e => e)))
    | wp_step)
/-- !=, by the text's own == -/
def rNeI (K : PySem.W.Frag) (C : Addr) (sp : Sp) (E : XK) : R2 := fun x y H Q => ∃ a dx fs, x = .ref a ∧ H a = some (.ins C dx fs) ∧ Side K C H y ∧ sp [x, y] H (fun v H' => ∃ b, v = .bl b ∧ Q (.bl (!b)) H') E
theorem op_neI (hs : PySem.W.findIn X.K (.ref C) "__eq__" = some (some (.ref g))) (hf : PySem.W.isFn X.K (.ref g) = true) (hn : PySem.W.findIn X.K (.ref C) "__ne__" = some (some (.builtin "object.__ne__"))) (hm : PySem.W.mroIn X.K C (.type "object") = some true)
    (F : FnOk X.prog X.w X.K X.mg X.base CX n g fd ps sp) (hr : Room (n + 1) X.A) (hb : Binds X.K fd ps []) (hx : Passes CX X E) : OpR X (compareOp .NotEq) (rNeI X.K C sp E) := by
  intro pins s σ H x y v u Q I rx ry h
  obtain ⟨a, dx, fs, rfl, ha, hy, q⟩ := h
  cases (show v = Value.ref a from rx)
  obtain ⟨mA, J, _⟩ := ins_get I.hok ha
  obtain ⟨od, J, _⟩ := J.look
  obtain ⟨tb, lk, nf⟩ := side_ty (M := model X.prog X.w) I ry hy
  have hun := hr.un
  have hr1 : Room n X.A.in1 := hr.in1
  have one : wpAny (model X.prog X.w) X.A (tryCompare (.ref a) "__ne__" u) (fun r s' => ∃ v, r = some v ∧ EP X pins σ Q v s') X.xe s := by
    unfold tryCompare
    refine wpAny_bind (ifBound_blt I.kIn J hn ?_)
    refine wpAny_call (codeAny_call_builtin PySem.F.cmp_object.ne.plain PySem.F.cmpEntry_ne (PySem.W.check_slot PySem.F.cmpKind_ne PySem.F.cmpSplit_ne (J.type.andThen (PySem.W.looks_mroIn I.kIn hm)) (PySem.F.cmpArgs_ne _ _) ?_))
    refine entry_ne I.kIn J hs hf (by show X.A.units + 1 < cLine; omega) ?_
    refine wpAny_mono (run_in (vs := [V.ref a, y]) (us := [Value.ref a, u]) F hr1 I.env0.in1 hb hx I (.cons (show L2.RelV (V.ref a) (Value.ref a) from rfl) (.cons ry .nil)) q) (fun w s' z => ?_) fun _ _ x => x
    obtain ⟨z', H', I', rz, b, rfl, qz⟩ := z
    cases (show w = Value.bool b from rz)
    exact ⟨b, rfl, wpAny_pure ⟨_, rfl, .bl (!b), H', I', rfl, qz⟩⟩
  show wpAny _ _ (richCompare .NotEq (.ref a) u) _ _ _
  unfold richCompare
  simp only [oneThing_ref]
  refine wpAny_holding (wpAny_bind (wpAny_cRoomFor (by omega) ?_))
  refine wpAny_bind (J.type.here (wpAny_bind (lk.here ?_)))
  split
  · rename_i qq
    have e : PySem.W.subIn X.K tb (.ref C) = some false := by
      rcases Bool.or_eq_true_iff.mp nf with e | e
      · rw [beq_iff_eq.mp e] at qq; simp at qq
      · exact beq_iff_eq.mp e
    refine wpAny_bind ((PySem.W.looks_subIn I.kIn e).here ?_)
    simp only [Bool.false_eq_true, if_false]
    refine wpAny_bind (wpAny_mono one (fun r s' z => ?_) fun _ _ e => e)
    obtain ⟨v, rfl, hq⟩ := z
    exact wpAny_pure hq
  · refine wpAny_bind (wpAny_pure ?_)
    simp only [Bool.false_eq_true, if_false]
    refine wpAny_bind (wpAny_mono one (fun r s' z => ?_) fun _ _ e => e)
    obtain ⟨v, rfl, hq⟩ := z
    exact wpAny_pure hq
end
end Dr
namespace Dr
open PySem PySem.Spec PyProof.Rows L2
abbrev sPInit : Stmt := inClass (topS 21) 0
abbrev sPEq : Stmt := inClass (topS 21) 1
theorem scPInit : FnScope ["self", "name", "holds", "default", "named"] ["self", "name", "holds", "default", "named"] (defScope sPInit) := ⟨rfl, rfl, rfl, by decide +kernel, rfl, by decide +kernel, by decide +kernel⟩
theorem scPEq : FnScope ["self", "other"] ["self", "other"] (defScope sPEq) := ⟨rfl, rfl, rfl, by decide +kernel, rfl, by decide +kernel, by decide +kernel⟩
/-- the attributes of a parameter -/
def pF (nm hs : Str) (v : V) (nd : Bool) : List (Str × V) := putF "named" (.bl nd) (putF "default" v (putF "holds" (.str hs) (putF "name" (.str nm) [])))
theorem pF_name {nm hs : Str} {v : V} {nd : Bool} : (pF nm hs v nd).lookup ("name" : Str) = some (.str nm) := by
  unfold pF
  rw [lookup_putF, if_neg (by decide +kernel), lookup_putF, if_neg (by decide +kernel), lookup_putF, if_neg (by decide +kernel), lookup_putF, if_pos rfl]
theorem pF_holds {nm hs : Str} {v : V} {nd : Bool} : (pF nm hs v nd).lookup ("holds" : Str) = some (.str hs) := by
  unfold pF
  rw [lookup_putF, if_neg (by decide +kernel), lookup_putF, if_neg (by decide +kernel), lookup_putF, if_pos rfl]
theorem pF_default {nm hs : Str} {v : V} {nd : Bool} : (pF nm hs v nd).lookup ("default" : Str) = some v := by
  unfold pF
  rw [lookup_putF, if_neg (by decide +kernel), lookup_putF, if_pos rfl]
theorem pF_named {nm hs : Str} {v : V} {nd : Bool} : (pF nm hs v nd).lookup ("named" : Str) = some (.bl nd) := by
  unfold pF
  rw [lookup_putF, if_pos rfl]
theorem putF_len (f : Str) (v : V) : ∀ fs : List (Str × V), (putF f v fs).length ≤ fs.length + 1
  | [] => Nat.le_refl _
  | (g, u) :: r => by
    show (if g = f then (g, v) :: r else (g, u) :: putF f v r).length ≤ _
    split
    · rw [List.length_cons, List.length_cons]
      omega
    · rw [List.length_cons, List.length_cons]
      have := putF_len f v r
      omega
/-- what stands of the class Param -/
structure Prm (K : PySem.W.Frag) (mg : Str → Option Value) (C : Addr) : Prop where
  cl : Cls K C
  nN : NoAttr K C "name"
  nH : NoAttr K C "holds"
  nD : NoAttr K C "default"
  nA : NoAttr K C "named"
  mgC : mg "Param" = some (.ref C)
  ha : PySem.W.findIn K (.ref C) "__class__" = some (some (.builtin "object.__class__"))
  hn : PySem.W.specialIn K (.builtin "object.__class__") "__get__" = some (some (.builtin "getset_descriptor.__get__"))
  htk : PySem.W.takesIn K (.builtin "object.__class__") = some true
  hm : PySem.W.mroIn K C (.type "object") = some true
  isC : PySem.W.isClsIn K C = true
  tyC : PySem.W.typeIn K (.ref C) = some (.type "type")
theorem kit_self {K : PySem.W.Frag} (C : Addr) : PySem.W.kitOne K (.ref C) (.ref C) = some true := by
  unfold PySem.W.kitOne
  simp
theorem kit_own {K : PySem.W.Frag} {C : Addr} (h1 : PySem.W.isClsIn K C = true) (h2 : PySem.W.typeIn K (.ref C) = some (.type "type")) (d : PyData) : PySem.W.kitOne K (.type (tyD d)) (.ref C) = some false := by
  unfold PySem.W.kitOne
  have e : ((Value.type (tyD d)) == Value.ref C) = false := rfl
  rw [e]
  unfold PySem.W.kitCls
  unfold PySem.W.isClsIn at h1
  simp only [h1, h2, sub_D]
  simp
section
variable {P : Program} {w : World} {K : PySem.W.Frag} {mg : Str → Option Value} {base : Heap}
/-- a default that goes with what the parameter holds -/
def DflOk (K : PySem.W.Frag) (H : Hp) (v : V) (d : PyData) (hs : Str) : Prop := Dp K H v d ∧ OkD d ∧ (v = .non ∨ isDefD d hs = true)
def spPInit (K : PySem.W.Frag) (C : Addr) : Sp := fun vs H Q _ => ∃ (p dx : Addr) (nm hs : Str) (v : V) (d : PyData) (nd : Bool), vs = [.ref p, .str nm, .str hs, v, .bl nd] ∧ H p = some (.ins C dx []) ∧ nameOk nm = true ∧ OkD (.str nm) ∧ (hs = "mark" ∨ hs = "box") ∧ DflOk K H v d hs ∧
  ∀ H', (∀ b o, b ≠ p → H b = some o → H' b = some o) → H' p = some (.ins C dx (pF nm hs v nd)) → Q .non H'
theorem ok_pinit {kD : Nat} {C f fN fD : Addr} {fd fdN fdD : FuncData} {prm : Arguments} {dvs : List V} {kws : List (Str × V)} (F : FunD K "__init__" "Param.__init__" prm (defBody sPInit) (defScope sPInit) dvs kws f fd) (W : Wds K mg) (T : Prm K mg C) (hbo : mg "bool" = none)
    (GN : FnOk P w K mg base CX0 1 fN fdN ["thing"] (spAsk K isNameD)) (mN : mg "is_name" = some (.ref fN)) (kN : PySem.W.keepIn K (.ref fN) = true) (bN : Binds K fdN ["thing"] [])
    (GD : FnOk P w K mg base CX0 (kD + 1) fD fdD ["thing", "holds"] (spDef K)) (mD : mg "is_default" = some (.ref fD)) (kkD : PySem.W.keepIn K (.ref fD) = true) (bD : Binds K fdD ["thing", "holds"] []) :
    FnOk P w K mg base CX0 (kD + 2) f fd ["self", "name", "holds", "default", "named"] (spPInit K C) := by
  refine F.ok scPInit (fun vs H Q E h => ?_) (fun cdv A outer s H vs Q E hr h => ?_)
  · obtain ⟨p, dx, nm, hs, v, d, nd, rfl, _⟩ := h
    rfl
  · obtain ⟨p, dx, nm, hs, v, d, nd, rfl, hp, hnm, hok, hhs, ⟨hd, hokd, hdf⟩, q⟩ := h
    refine ⟨_, pss_cons (ps_if (pt_not (pt_val (pe_call GN (hr.mono (by omega)) (by rfl) mN kN bN .nil pass0 (pa_cons (pv 1) pa_nil)))) (pss_one ps_never) pss_nil)
      (C8.pss_cut (ps_if (PW.pt (pw_and (pt_cmpR op_ne (pv 2) pe_str (nomark _)) (pw_and1 (pt_cmpR op_ne (pv 2) pe_str (nomark _))))) (pss_one ps_never) pss_nil)
      (C8.pss_cut (ps_if (PW.pt (pw_and (pt_cmpR op_notN (pv 3) pe_non (nomark _)) (pw_and1 (pt_not (pt_val (pe_call GD hr (by rfl) mD kkD bD .nil pass0 (pa_cons (pv 3) (pa_cons (pv 2) pa_nil)))))))) (pss_one ps_never) pss_nil)
      (pss_cons (ps_if (pt_not (pt_val (pe_callB call_isi (by rfl) W.isi (by decide +kernel) (pa_cons (pv 4) (pa_cons (pe_bltn (v := .ty "bool") (by rfl) hbo (by decide +kernel) rfl) pa_nil))))) (pss_one ps_never) pss_nil)
      (pss_cons (ps_fld (pv 0) (pv 1) rfl) (pss_cons (ps_fld (pv 0) (pv 2) rfl) (pss_cons (ps_fld (pv 0) (pv 3) rfl) (pss_one (ps_fld (pv 0) (pv 4) rfl)))))))), ?_⟩
    refine ⟨_, rfl, _, .str nm, rfl, .str nm, hok, fun H1 s1 => ?_⟩
    refine ⟨_, rfl, ?_⟩
    show if (!nameOk nm) = true then _ else _
    rw [hnm]
    refine iteF ?_
    refine ⟨fun σ' H' => σ' = [some (.ref p), some (.str nm), some (.str hs), some v, some (.bl nd)] ∧ H' = H1, ?_, fun σ' H' hM => ?_⟩
    · refine ⟨_, rfl, rfl, _, rfl, ?_⟩
      rcases hhs with e | e
      · refine ite2 (fun k => absurd k ?_) (fun _ => ⟨rfl, rfl⟩)
        rw [e]
        simp
      · refine ite2 (fun _ => ?_) (fun _ => ⟨rfl, rfl⟩)
        refine ⟨_, rfl, rfl, _, rfl, ite2 (fun k => absurd k ?_) (fun _ => ⟨rfl, rfl⟩)⟩
        rw [e]
        simp
    obtain ⟨rfl, rfl⟩ := hM
    refine ⟨fun σ' H2 => σ' = [some (.ref p), some (.str nm), some (.str hs), some v, some (.bl nd)] ∧ Same H' H2, ?_, fun σ' H2 hM => ?_⟩
    · refine ⟨_, rfl, rfl, _, rfl, ite2 (fun k => ?_) (fun _ => ⟨rfl, Same.refl _⟩)⟩
      rcases hdf with e | e
      · rw [e] at k
        simp at k
      · refine ⟨_, rfl, _, rfl, v, d, hs, rfl, dp_same s1 hd, hokd, fun H2 s2 => ⟨_, rfl, ?_⟩⟩
        refine ite2 (fun k2 => absurd k2 ?_) (fun _ => ⟨rfl, s2⟩)
        rw [e]
        simp
    obtain ⟨rfl, s2⟩ := hM
    refine ⟨_, rfl, .bl nd, .ty "bool", _, _, _, rfl, .ty _, dp_ty (.bl nd), kit_bool _, _, rfl, ?_⟩
    refine iteF ?_
    have hp2 := s2 _ _ (s1 _ _ hp)
    refine ⟨_, rfl, _, rfl, p, C, dx, _, rfl, hp2, T.cl, T.nN, (by show 0 < 1000; decide), ?_⟩
    refine ⟨_, rfl, _, rfl, p, C, dx, _, rfl, upd_same, T.cl, T.nH, ?_, ?_⟩
    · exact Nat.lt_of_le_of_lt (putF_len _ _ _) (by show 1 < 1000; decide)
    refine ⟨_, rfl, _, rfl, p, C, dx, _, rfl, upd_same, T.cl, T.nD, ?_, ?_⟩
    · exact Nat.lt_of_le_of_lt (Nat.le_trans (putF_len _ _ _) (Nat.succ_le_succ (putF_len _ _ _))) (by show 2 < 1000; decide)
    refine ⟨_, rfl, _, rfl, p, C, dx, _, rfl, upd_same, T.cl, T.nA, ?_, ?_⟩
    · exact Nat.lt_of_le_of_lt (Nat.le_trans (putF_len _ _ _) (Nat.succ_le_succ (Nat.le_trans (putF_len _ _ _) (Nat.succ_le_succ (putF_len _ _ _))))) (by show 3 < 1000; decide)
    refine q _ (fun b o n e => ?_) upd_same
    rw [upd_ne n, upd_ne n, upd_ne n, upd_ne n]
    exact s2 _ _ (s1 _ _ e)
/-- a parameter stands at a -/
def ParAt (C : Addr) (H : Hp) (a : Addr) (nm hs : Str) (v : V) (nd : Bool) : Prop := ∃ dx, H a = some (.ins C dx (pF nm hs v nd))
def spPEq (K : PySem.W.Frag) (C : Addr) : Sp := fun vs H Q _ => ∃ (a : Addr) (nm hs : Str) (v : V) (d : PyData) (nd : Bool) (y : V), vs = [.ref a, y] ∧ ParAt C H a nm hs v nd ∧ Dp K H v d ∧ OkD d ∧
  ((∃ (b : Addr) (nm2 hs2 : Str) (v2 : V) (d2 : PyData) (nd2 : Bool), y = .ref b ∧ ParAt C H b nm2 hs2 v2 nd2 ∧ Dp K H v2 d2 ∧ OkD d2 ∧ Q (.bl (((decide (nm = nm2) && decide (hs = hs2)) && PyData.eqv d d2) && decide (nd = nd2))) H) ∨
    ∃ e : PyData, Dp K H y e ∧ Q (.bl false) H)
theorem ok_peq {C f : Addr} {fd : FuncData} (F : Fun K "__eq__" "Param.__eq__" sPEq f fd) (W : Wds K mg) (T : Prm K mg C) : FnOk P w K mg base CX0 1 f fd ["self", "other"] (spPEq K C) := by
  refine F.ok scPEq (fun vs H Q E h => ?_) (fun cdv A outer s H vs Q E hr h => ?_)
  · obtain ⟨a, nm, hs, v, d, nd, y, rfl, _⟩ := h
    rfl
  · obtain ⟨a, nm, hs, v, d, nd, y, rfl, ⟨dx, ha⟩, hd, hok, hy⟩ := h
    have hu : (A.deeper (envOfC "Param.__eq__" (defScope sPEq) s.heap.objs.size f cdv)).units + 64 < cLine := hr.units
    refine ⟨_, pss_one (ps_ret (pe_and (pe_callB call_isi (by rfl) W.isi (by decide +kernel) (pa_cons (pv 1) (pa_cons (pe_glob (v := .ref C) (by rfl) T.mgC rfl) pa_nil)))
      (pe_and (pe_cmpR op_eq (pe_fld (pv 0) rfl) (pe_fld (pv 1) rfl) (nomark _)) (pe_and (pe_cmpR op_eq (pe_fld (pv 0) rfl) (pe_fld (pv 1) rfl) (nomark _))
        (pe_and (pe_cmpR (op_eqD hu) (pe_fld (pv 0) rfl) (pe_fld (pv 1) rfl) (nomark _)) (pe_one (pe_cmpR op_eq (pe_fld (pv 0) rfl) (pe_fld (pv 1) rfl) (nomark _)))))))), ?_⟩
    rcases hy with ⟨b, nm2, hs2, v2, d2, nd2, rfl, ⟨dy, hb⟩, hd2, hok2, q⟩ | ⟨e, he, q⟩
    · refine ⟨_, rfl, _, .ref C, _, _, true, rfl, .own C, .base (.ins hb T.cl T.ha T.hn T.htk T.hm), kit_self C, _, rfl, iteT ?_⟩
      have ds : ∀ {x z : Str}, decide (V.str x = V.str z) = decide (x = z) := fun {x z} => decide_eq_decide.mpr ⟨fun e => V.str.inj e, fun e => by rw [e]⟩
      have db : ∀ {x z : Bool}, decide (V.bl x = V.bl z) = decide (x = z) := fun {x z} => decide_eq_decide.mpr ⟨fun e => V.bl.inj e, fun e => by rw [e]⟩
      refine ⟨_, rfl, a, C, dx, _, _, rfl, ha, T.cl, T.nN, pF_name, _, rfl, b, C, dy, _, _, rfl, hb, T.cl, T.nN, pF_name, rfl, _, rfl, ?_⟩
      rw [ds]
      refine ite2 (fun k1 => ?_) (fun k1 => ?_)
      · rw [k1] at q
        refine ⟨_, rfl, a, C, dx, _, _, rfl, ha, T.cl, T.nH, pF_holds, _, rfl, b, C, dy, _, _, rfl, hb, T.cl, T.nH, pF_holds, rfl, _, rfl, ?_⟩
        rw [ds]
        refine ite2 (fun k2 => ?_) (fun k2 => ?_)
        · rw [k2] at q
          refine ⟨_, rfl, a, C, dx, _, _, rfl, ha, T.cl, T.nD, pF_default, _, rfl, b, C, dy, _, _, rfl, hb, T.cl, T.nD, pF_default, d, d2, hd, hd2, hok.sh, hok2.sh, _, rfl, ?_⟩
          refine ite2 (fun k3 => ?_) (fun k3 => ?_)
          · rw [k3] at q
            refine ⟨_, rfl, a, C, dx, _, _, rfl, ha, T.cl, T.nA, pF_named, _, rfl, b, C, dy, _, _, rfl, hb, T.cl, T.nA, pF_named, rfl, ?_⟩
            show Q (V.bl (decide (V.bl nd = V.bl nd2))) _
            rw [db]
            exact q
          · rw [eq_false_of_ne_true k3] at q
            exact q
        · rw [eq_false_of_ne_true k2] at q
          exact q
      · rw [eq_false_of_ne_true k1] at q
        exact q
    · refine ⟨_, rfl, y, .ref C, _, _, false, rfl, .own C, dp_ty he, kit_own T.isC T.tyC e, _, rfl, iteF q⟩
end
end Dr
namespace Dr
open PySem PySem.Spec PyProof.Rows L2
open SX (S S_len S_cat)
abbrev sNames : Stmt := topS 26
theorem scNames : FnScope ["_law_bag_here", "_law_many", "_law_left", "_law_stem", "_law_one", "_law_turn", "_law_at", "_law_found", "_law_two"] ["_law_bag_here", "_law_many"] (defScope sNames) := ⟨rfl, rfl, rfl, by decide +kernel, rfl, by decide +kernel, by decide +kernel⟩
def gjqz : List Nat := [103, 106, 113, 122]
def letters : List Nat := [97, 98, 99, 100, 101, 102, 103, 104, 105, 106, 107, 108, 109, 110, 111, 112, 113, 114, 115, 116, 117, 118, 119, 120, 121, 122]
theorem az_eq : ("abcdefghijklmnopqrstuvwxyz" : Str) = S letters := by decide +kernel
theorem gjqz_eq : ("gjqz" : Str) = S gjqz := by decide +kernel
def twos (i : Nat) : List (List Nat) := (gjqz.take i).flatMap fun a => letters.map fun b => [a, b]
theorem twos_next {i c : Nat} (h : gjqz[i]? = some c) : twos (i + 1) = twos i ++ letters.map fun b => [c, b] := by
  unfold twos
  rw [List.take_add_one, h, List.flatMap_append]
  simp
theorem twos_len : (twos 4).length = 104 := by decide +kernel
theorem twos_nodup : (twos 4).Nodup := by decide +kernel
theorem twos_ok : ∀ t ∈ twos 4, t.length = 2 ∧ t.all lowC = true ∧ t.any (gjqz.contains ·) = true := by
  have h : (twos 4).all (fun t => decide (t.length = 2) && t.all lowC && t.any (gjqz.contains ·)) = true := by decide +kernel
  intro t ht
  have q := List.all_eq_true.mp h t ht
  rw [Bool.and_eq_true, Bool.and_eq_true] at q
  exact ⟨of_decide_eq_true q.1.1, q.1.2, q.2⟩
theorem letters_low : ∀ c ∈ letters, lowC c = true := by decide +kernel
/-- a drawn name -/
structure GoodN (cs : List Nat) : Prop where
  low : cs.all lowC = true
  lo : 2 ≤ cs.length
  hi : cs.length ≤ 8
  odd : cs.any (gjqz.contains ·) = true
theorem barred_even : barred.all (fun z => !(z.cps.toList.any (gjqz.contains ·))) = true := by decide +kernel
theorem good_name {cs : List Nat} (low : cs.all lowC = true) (lo : 1 ≤ cs.length) (hi : cs.length ≤ 8) (odd : cs.any (gjqz.contains ·) = true) : nameOk (S cs) = true := by
  have hb : barred.contains (S cs) = false := by
    cases h : barred.contains (S cs) with
    | false => rfl
    | true =>
      have hm : S cs ∈ barred := by simpa using h
      have q := List.all_eq_true.mp barred_even _ hm
      have e : (S cs).cps.toList = cs := rfl
      rw [e, odd] at q
      cases q
  unfold nameOk
  rw [hb, S_len, decide_eq_true lo, decide_eq_true hi]
  exact low
theorem GoodN.ok {cs : List Nat} (g : GoodN cs) : nameOk (S cs) = true := good_name g.low (by have := g.lo; omega) g.hi g.odd
/-- the stem around a pair of letters -/
def mkN (stem : List Nat) (at_ : Nat) (two : List Nat) : List Nat := stem.take at_ ++ two ++ stem.drop at_
theorem mkN_len {stem two : List Nat} {a : Nat} : (mkN stem a two).length = stem.length + two.length := by
  unfold mkN
  rw [List.length_append, List.length_append, List.length_take, List.length_drop]
  omega
theorem mkN_good {stem two : List Nat} {a : Nat} (hs : stem.all lowC = true) (hl : stem.length ≤ 6) (ht : two ∈ twos 4) : GoodN (mkN stem a two) := by
  obtain ⟨t1, t2, t3⟩ := twos_ok two ht
  refine ⟨?_, by rw [mkN_len]; omega, by rw [mkN_len]; omega, ?_⟩
  · unfold mkN
    rw [List.all_append, List.all_append, t2]
    have h1 : (stem.take a).all lowC = true := List.all_eq_true.mpr fun x hx => List.all_eq_true.mp hs x (List.mem_of_mem_take hx)
    have h2 : (stem.drop a).all lowC = true := List.all_eq_true.mpr fun x hx => List.all_eq_true.mp hs x (List.mem_of_mem_drop hx)
    rw [h1, h2]
    rfl
  · unfold mkN
    rw [List.any_append, List.any_append, t3]
    simp
theorem mkN_inj {stem t u : List Nat} {a : Nat} (hl : t.length = u.length) (h : mkN stem a t = mkN stem a u) : t = u := by
  unfold mkN at h
  rw [List.append_assoc, List.append_assoc] at h
  have h2 := List.append_cancel_left h
  exact (List.append_inj h2 hl).1
section
variable {P : Program} {w : World} {K : PySem.W.Frag} {mg : Str → Option Value} {base : Heap}
theorem Kp.seq {p a : Addr} {H H' : Hp} {xs : List V} (k : Kp p H H') (n : a ≠ p) (h : SqL K H a xs) : SqL K H' a xs := by
  rcases h with (h | ⟨o, h⟩) | h
  · exact .inl (.inl (k.1 _ _ n h))
  · exact .inl (.inr ⟨o, k.1 _ _ n h⟩)
  · exact .inr h
/-- one of a list or of a text's signs -/
def spOf (K : PySem.W.Frag) : Sp := fun vs H Q _ => ∃ (p : Addr) (x : V), vs = [.ref p, x] ∧ Bag H p ∧
  ((∃ (a : Addr) (xs : List V), x = .ref a ∧ a ≠ p ∧ SqL K H a xs ∧ 1 ≤ xs.length ∧ xs.length ≤ 1000 ∧ ∀ H' y, Kp p H H' → y ∈ xs → Q y H') ∨
    ∃ cs : List Nat, x = .str (S cs) ∧ 1 ≤ cs.length ∧ cs.length ≤ 1000 ∧ ∀ H' c, Kp p H H' → c ∈ cs → Q (.str (S [c])) H')
theorem ok_of {f fT : Addr} {fd fdT : FuncData} (F : Fun K "_law_of" "_law_of" sOf f fd) (T : Blt mg) (GT : FnOk P w K mg base CX0 1 fT fdT ["_law_bag_here", "_law_many"] spTake) (mT : mg "_law_take" = some (.ref fT)) (kT : PySem.W.keepIn K (.ref fT) = true) (bT : Binds K fdT ["_law_bag_here", "_law_many"] []) :
    FnOk P w K mg base CX0 2 f fd ["_law_bag_here", "_law_some"] (spOf K) := by
  refine F.ok scOf (fun vs H Q E h => ?_) (fun cdv A outer s H vs Q E hr h => ?_)
  · obtain ⟨p, x, rfl, _⟩ := h
    rfl
  · obtain ⟨p, x, rfl, hB, h⟩ := h
    refine ⟨_, pss_one (ps_ret (pe_ix ix_seq (pv 1) (pe_call GT hr (by rfl) mT kT bT .nil pass0 (pa_cons (pv 0) (pa_cons (pe_callB call_len (by rfl) T.len PySem.boot_len (pa_cons (pv 1) pa_nil)) pa_nil))) (fun _ _ => rfl))), ?_⟩
    rcases h with ⟨a, xs, rfl, na, hS, h1, h2, q⟩ | ⟨cs, rfl, h1, h2, q⟩
    · refine ⟨_, rfl, _, rfl, _, rfl, _, xs.length, rfl, .inl ⟨xs, hS, rfl⟩, p, _, rfl, hB, by omega, by omega, fun H' r k r0 r1 => ?_⟩
      obtain ⟨j, rfl⟩ : ∃ j : Nat, r = (j : Int) := ⟨r.toNat, by omega⟩
      have hj : j < xs.length := by omega
      exact .inl ⟨a, xs, _, xs[j], rfl, rfl, k.seq na hS, atI_nat (List.getElem?_eq_getElem hj), q _ _ k (List.getElem_mem hj)⟩
    · have hz : (S cs).length ≤ sizeLine := by
        rw [S_len]
        exact Nat.le_of_lt (small1000 h2)
      refine ⟨_, rfl, _, rfl, _, rfl, _, (S cs).length, rfl, ⟨hz, rfl⟩, p, _, rfl, hB, by rw [S_len]; omega, by rw [S_len]; omega, fun H' r k r0 r1 => ?_⟩
      rw [S_len] at r1
      obtain ⟨j, rfl⟩ : ∃ j : Nat, r = (j : Int) := ⟨r.toNat, by omega⟩
      have hj : j < cs.length := by omega
      exact .inr (.inr ⟨S cs, _, cs[j], rfl, rfl, hz, atI_nat (List.getElem?_eq_getElem hj), q _ _ k (List.getElem_mem hj)⟩)
end
end Dr
namespace Dr
open PySem PySem.Spec PyProof.Rows L2
open SX (S S_len S_cat)
section
variable {P : Program} {w : World} {K : PySem.W.Frag} {mg : Str → Option Value} {base : Heap}
def txts (l : List (List Nat)) : List V := l.map fun cs => V.str (S cs)
def spNames (K : PySem.W.Frag) : Sp := fun vs H Q _ => ∃ (p : Addr) (m : Nat), vs = [.ref p, .int (m : Int)] ∧ Bag H p ∧ m ≤ 20 ∧
  ∀ H' q zs, Kp p H H' → H q = none → H' q = some (.lst (txts zs)) → zs.length = m → zs.Nodup → (∀ z ∈ zs, GoodN z) → Q (.ref q) H'
theorem seqIx {n j : Nat} (h : j < n) : seqIndex? (j : Int) n = some j := by
  refine (ixN_seq (n := n) (i := (j : Int)) (j := j) ?_).1
  unfold ixN
  rw [if_pos (by omega), if_pos (by omega)]
  simp
theorem erase_perm {α : Type} : ∀ {l : List α} {k : Nat} {y : α}, l[k]? = some y → (y :: l.eraseIdx k).Perm l
  | [], k, y, h => by simp at h
  | a :: r, 0, y, h => by
    obtain rfl := Option.some.inj h
    exact .refl _
  | a :: r, k + 1, y, h => by
    have ih := erase_perm (l := r) (k := k) (y := y) h
    exact (List.Perm.swap a y _).trans (.cons a ih)
theorem map_er {α β : Type} (f : α → β) : ∀ (l : List α) (k : Nat), (l.map f).eraseIdx k = (l.eraseIdx k).map f
  | [], _ => rfl
  | a :: r, 0 => rfl
  | a :: r, k + 1 => congrArg (f a :: ·) (map_er f r k)
theorem txts_erase (l : List (List Nat)) (k : Nat) : (txts l).eraseIdx k = txts (l.eraseIdx k) := map_er _ l k
theorem txts_app (l r : List (List Nat)) : txts l ++ txts r = txts (l ++ r) := by
  unfold txts
  rw [List.map_append]
theorem ok_names {f fT fO : Addr} {fd fdT fdO : FuncData} (F : Fun K "_law_names" "_law_names" sNames f fd) (T : Blt mg) (hra : mg "range" = none)
    (GT : FnOk P w K mg base CX0 1 fT fdT ["_law_bag_here", "_law_many"] spTake) (mT : mg "_law_take" = some (.ref fT)) (kT : PySem.W.keepIn K (.ref fT) = true) (bT : Binds K fdT ["_law_bag_here", "_law_many"] [])
    (GO : FnOk P w K mg base CX0 2 fO fdO ["_law_bag_here", "_law_some"] (spOf K)) (mO : mg "_law_of" = some (.ref fO)) (kO : PySem.W.keepIn K (.ref fO) = true) (bO : Binds K fdO ["_law_bag_here", "_law_some"] []) :
    FnOk P w K mg base CX0 3 f fd ["_law_bag_here", "_law_many"] (spNames K) := by
  refine F.ok scNames (fun vs H Q E h => ?_) (fun cdv A outer s H vs Q E hr h => ?_)
  · obtain ⟨p, m, rfl, _⟩ := h
    rfl
  · obtain ⟨p, m, rfl, hB, hm, q⟩ := h
    have hr1 : Room 1 _ := hr.mono (by decide)
    refine ⟨_, pss_cons (ps_par (i := 2) (j := 3) (by rfl) scNames.nd rfl rfl (by decide) rfl rfl (pa_cons (pe_lst pa_nil) (pa_cons pe_str pa_nil)) (by rfl))
      (pss_cons (ps_for PassesOwn.never rfl (pi_str pe_str) (pg_name (i := 4) scNames.nd rfl (.inr rfl)) (pss_one (ps_expr (pe_bm PySem.F.plainAttrs_list PySem.F.slot_list_extend PySem.F.type_list_extend mt_extend (pv 2) (pa_cons
          (pe_lc (own := [("_law_two", 8)]) (g := gName 8) (tt := tYes) rfl scNames.nd (pi_str pe_str) (blkOk_by (N := ["_law_bag_here", "_law_many", "_law_left", "_law_stem", "_law_one", "_law_turn", "_law_at", "_law_found", "_law_two"]) (sc := defScope sNames) (by decide +kernel)) (fun _ _ _ _ _ => pg_name (i := 8) scNames.nd rfl (Or.inl rfl)) (fun _ _ _ _ _ => pts_nil)
            (fun _ _ _ _ _ => pe_op op_add_str (pv 4) (pv 8))) pa_nil)))))
      (pss_cons (ps_for PassesOwn.never rfl (pi_range1 rfl hra (pa_cons (pe_call GT hr1 (by rfl) mT kT bT .nil pass0 (pa_cons (pv 0) (pa_cons pe_int pa_nil))) pa_nil)) (pg_name (i := 5) scNames.nd rfl (.inl rfl))
          (pss_one (ps_set (i := 3) scNames.nd rfl (.inl rfl) (pe_op op_add_str (pv 3) (pe_call GO hr (by rfl) mO kO bO .nil pass0 (pa_cons (pv 0) (pa_cons pe_str pa_nil)))))))
      (pss_cons (ps_par (i := 6) (j := 7) (by rfl) scNames.nd rfl rfl (by decide) rfl rfl (pa_cons (pe_call GT hr1 (by rfl) mT kT bT .nil pass0 (pa_cons (pv 0) (pa_cons (pe_op op_add (pe_callB call_len_str (by rfl) T.len PySem.boot_len (pa_cons (pv 3) pa_nil)) pe_int) pa_nil))) (pa_cons (pe_lst pa_nil) pa_nil)) (by rfl))
      (pss_cons (ps_for PassesOwn.never rfl (pi_range1 rfl hra (pa_cons (pv 1) pa_nil)) (pg_name (i := 5) scNames.nd rfl (.inl rfl))
          (pss_one (ps_expr (pe_bm PySem.F.plainAttrs_list PySem.F.slot_list_append PySem.F.type_list_append mt_append (pv 7) (pa_cons
            (pe_op op_add_str (pe_op op_add_str (pe_slice C8.sl_txt (pv 3) po_none (po_some (pv 6)))
              (pe_bm PySem.F.plainAttrs_list PySem.F.slot_list_pop PySem.F.type_list_pop mt_popAt (pv 2) (pa_cons (pe_call GT hr1 (by rfl) mT kT bT .nil pass0 (pa_cons (pv 0) (pa_cons (pe_callB call_len_seq (by rfl) T.len PySem.boot_len (pa_cons (pv 2) pa_nil)) pa_nil))) pa_nil)))
              (pe_slice C8.sl_txt (pv 3) (po_some (pv 6)) po_none)) pa_nil)))))
      (pss_one (ps_ret (pv 7))))))), ?_⟩
    refine ⟨Nat.zero_le _, fun l nl => ?_⟩
    have nlp : l ≠ p := fun e => by
      obtain ⟨u, v, hp, _⟩ := hB
      rw [e, hp] at nl
      cases nl
    refine ⟨_, _, rfl, ?_⟩
    -- the pairs of letters
    refine ⟨_, rfl, for_it walk_str (fun i σ H1 => Same H H1 ∧ H1 l = some (.lst (txts (twos i))) ∧ ∃ y, σ = [some (.ref p), some (.int (m : Int)), some (.ref l), some (.str ""), y, none, none, none, none]) ⟨same_upd nl, upd_same, _, rfl⟩ (fun _ _ _ _ _ => trivial) ?_ ?_⟩
    · rintro i x σ H1 H2 hi ⟨sm, hl, y, rfl⟩ ⟨rfl, c, hc, rfl⟩
      rw [gjqz_eq] at hc hi
      have hc' : gjqz[i]? = some c := by
        rw [← hc]
        simp
      have hi' : i < 4 := by simpa [gjqz] using hi
      refine ⟨_, rfl, .inl ⟨rfl, _, SqL.of hl⟩, _, rfl, fun D hD => lc_it walk_str (fun j H3 => Same H2 H3 ∧ H3 D = some (.lst (txts ((letters.take j).map fun b => [c, b])))) ⟨same_upd hD, upd_same⟩ (fun _ _ _ _ => trivial) ?_ ?_⟩
      · rintro j x H3 H4 hj ⟨sm3, hD3⟩ ⟨rfl, b, hb, rfl⟩
        rw [az_eq] at hb
        have hb' : letters[j]? = some b := by
          rw [← hb]
          simp
        refine ⟨rfl, ?_⟩
        unfold tYes
        refine iteT ?_
        refine ⟨_, rfl, _, rfl, S [c], S [b], rfl, rfl, by show 1 + 1 ≤ sizeLine; decide, ?_⟩
        refine ⟨_, hD3, ?_, fun a o e => ?_, ?_⟩
        · unfold txts
          rw [List.length_map, List.length_map, List.length_take]
          exact small1000 (by have : letters.length = 26 := rfl; omega)
        · rw [upd_ne (ne_of_none e hD)]
          exact sm3 _ _ e
        · rw [upd_same, S_cat, List.take_add_one, hb']
          unfold txts
          rw [List.map_append, List.map_append]
          rfl
      · rintro H3 ⟨sm3, hD3⟩
        rw [az_eq] at hD3
        have e26 : letters.take (S letters).cps.size = letters := rfl
        rw [e26] at hD3
        have hl3 := sm3 _ _ hl
        have nlD : l ≠ D := ne_of_none hl hD
        refine ⟨l, D, _, _, rfl, rfl, hl3, hD3, ?_, ?_⟩
        · unfold txts
          rw [List.length_map, List.length_map, List.length_map]
          have h1 : (twos i).length ≤ 104 := by
            have hcase : i = 0 ∨ i = 1 ∨ i = 2 ∨ i = 3 := by omega
            rcases hcase with e | e | e | e <;> (rw [e]; decide +kernel)
          have h2 : letters.length = 26 := rfl
          exact Nat.le_of_lt (small1000 (by omega))
        · refine ⟨fun a o e => ?_, ?_, _, rfl⟩
          · rw [upd_ne (ne_of_none e nl)]
            exact sm3 _ _ (sm _ _ e)
          · rw [upd_same, txts_app, twos_next hc']
    · rintro σ H1 ⟨sm, hl, y, rfl⟩
      rw [gjqz_eq] at hl
      have e4 : twos (S gjqz).cps.size = twos 4 := rfl
      rw [e4] at hl
      have k1 : Kp p H H1 := Kp.of hB sm
      -- the stem
      refine ⟨_, rfl, p, 7, rfl, k1.2, by decide, by decide, fun H2 r k2 r0 r7 => ⟨r, rfl, by omega, by omega, for_it walk_range (fun i σ H3 => Kp p H H3 ∧ H3 l = some (.lst (txts (twos 4))) ∧ ∃ (stem : List Nat) (y5 : Option V), σ = [some (.ref p), some (.int (m : Int)), some (.ref l), some (.str (S stem)), y, y5, none, none, none] ∧ stem.all lowC = true ∧ stem.length ≤ i) ⟨k1.trans k2, k2.1 _ _ nlp hl, [], none, rfl, rfl, Nat.le_refl _⟩ (fun _ _ _ _ _ => trivial) ?_ ?_⟩⟩
      · rintro i x σ H3 H4 hi ⟨k3, hl3, stem, y5, rfl, hlow, hlen⟩ ⟨rfl, rfl⟩
        refine ⟨_, rfl, _, rfl, p, _, rfl, k3.2, .inr ⟨letters, congrArg V.str az_eq, by decide, by decide, fun H5 c k5 hc => ?_⟩⟩
        refine ⟨_, _, rfl, rfl, ?_, ?_⟩
        · rw [S_len, S_len]
          exact Nat.le_of_lt (small1000 (by show stem.length + 1 ≤ 1000; omega))
        · refine ⟨k3.trans k5, k5.1 _ _ nlp hl3, stem ++ [c], _, by rw [← S_cat]; rfl, ?_, by rw [List.length_append]; show stem.length + 1 ≤ i + 1; omega⟩
          rw [List.all_append, hlow, List.all_cons, letters_low c hc]
          rfl
      · rintro σ H3 ⟨k3, hl3, stem, y5, rfl, hlow, hlen⟩
        have hlen6 : stem.length ≤ 6 := by omega
        refine ⟨_, rfl, _, rfl, _, rfl, ?_, _, _, rfl, rfl, p, _, rfl, k3.2, by omega, by rw [S_len]; omega, fun H4 at_ k4 a0 a1 => ?_⟩
        · rw [S_len]
          exact Nat.le_of_lt (small1000 (by omega))
        refine ⟨Nat.zero_le _, fun g ng => ⟨_, _, rfl, ?_⟩⟩
        have hl4 := k4.1 _ _ nlp hl3
        have k04 := k3.trans k4
        have nlg : l ≠ g := ne_of_none hl4 ng
        have ngp : g ≠ p := fun e => by
          obtain ⟨u, v, hp, _⟩ := k04.2
          rw [e, hp] at ng
          cases ng
        have sg : Same H4 (upd H4 g (.lst [])) := same_upd ng
        -- the names
        refine ⟨_, rfl, (m : Int), rfl, by omega, by omega, for_it walk_range (fun i σ H5 => Kp p H H5 ∧ H5 g = H5 g ∧ ∃ (ws L : List (List Nat)) (y5 : Option V), H5 l = some (.lst (txts L)) ∧ H5 g = some (.lst (txts (ws.map (mkN stem at_.toNat)))) ∧ ws.length = i ∧ L.length + i = 104 ∧ (ws ++ L).Nodup ∧ (∀ t ∈ ws ++ L, t ∈ twos 4) ∧
          σ = [some (.ref p), some (.int (m : Int)), some (.ref l), some (.str (S stem)), y, y5, some (.int at_), some (.ref g), none]) ⟨k04.same sg, rfl, [], twos 4, _, sg _ _ hl4, upd_same, rfl, twos_len, twos_nodup, fun t h => h, rfl⟩ (fun _ _ _ _ _ => trivial) ?_ ?_⟩
        · rintro i x σ H5 H6 hi ⟨k5, _, ws, L, y5, hL, hG, hw, hLl, hnd, hall, rfl⟩ ⟨rfl, rfl⟩
          have hi20 : i < 20 := by
            have : i < ((m : Nat) : Int).toNat := hi
            omega
          have hsz : (S stem).length ≤ sizeLine := by
            rw [S_len]
            exact Nat.le_of_lt (small1000 (by omega))
          have hLen : (txts L).length = L.length := by
            unfold txts
            rw [List.length_map]
          refine ⟨_, rfl, .inl ⟨rfl, _, SqL.of hG⟩, ?_⟩
          refine ⟨_, rfl, _, rfl, at_, rfl, S stem, rfl, hsz, ?_⟩
          refine ⟨_, rfl, .inl ⟨rfl, _, SqL.of hL⟩, _, rfl, _, rfl, l, _, rfl, .inl (SqL.of hL), p, _, rfl, k5.2, by rw [hLen]; omega, by rw [hLen]; omega, fun H7 kk k7 kk0 kk1 => ?_⟩
          rw [hLen] at kk1
          obtain ⟨j, rfl⟩ : ∃ j : Nat, kk = (j : Int) := ⟨kk.toNat, by omega⟩
          have hj : j < L.length := by omega
          have hget : L[j]? = some L[j] := List.getElem?_eq_getElem hj
          have hL7 := k7.1 _ _ nlp hL
          have hG7 := k7.1 _ _ ngp hG
          have htwo : L[j] ∈ twos 4 := hall _ (List.mem_append_right _ (List.getElem_mem hj))
          have ht2 := (twos_ok _ htwo).1
          refine ⟨l, _, _, j, .str (S L[j]), rfl, rfl, hL7, by omega, by omega, seqIx (by rw [hLen]; exact hj), by unfold txts; rw [List.getElem?_map, hget]; rfl, ?_⟩
          have e1 : Txt.slice (S stem) none (some at_) = S (stem.take at_.toNat) := SX.slice_to a0
          have e2 : Txt.slice (S stem) (some at_) none = S (stem.drop at_.toNat) := SX.slice_from a0
          refine ⟨_, _, congrArg V.str e1, rfl, ?_, ?_⟩
          · rw [S_len, S_len, List.length_take]
            exact Nat.le_of_lt (small1000 (by omega))
          refine ⟨_, rfl, _, rfl, at_, rfl, S stem, rfl, hsz, ?_⟩
          refine ⟨_, _, rfl, congrArg V.str e2, ?_, ?_⟩
          · rw [S_cat, S_len, S_len, List.length_append, List.length_take, List.length_drop]
            exact Nat.le_of_lt (small1000 (by omega))
          refine ⟨g, _, _, rfl, rfl, (by rw [upd_ne nlg.symm]; exact hG7), ?_, ?_⟩
          · unfold txts
            rw [List.length_map, List.length_map, hw]
            exact small1000 (by omega)
          · rw [S_cat, S_cat]
            have hperm : ((ws ++ [L[j]]) ++ L.eraseIdx j).Perm (ws ++ L) := by
              rw [List.append_assoc]
              exact (erase_perm hget).append_left ws
            refine ⟨⟨fun a o na e => ?_, ?_⟩, rfl, ws ++ [L[j]], L.eraseIdx j, _, ?_, ?_, by rw [List.length_append, hw]; rfl, ?_, hperm.nodup_iff.mpr hnd, fun t h => hall t (hperm.mem_iff.mp h), rfl⟩
            · have e5 := k7.1 _ _ na (k5.1 _ _ na e)
              have ag : a ≠ g := fun z => by
                subst z
                have := (k04.1 _ _ na e).symm.trans ng
                cases this
              have al : a ≠ l := fun z => by
                subst z
                rw [nl] at e
                cases e
              rw [upd_ne ag, upd_ne al]
              exact e5
            · obtain ⟨u, v, hp, hb⟩ := k7.2
              refine ⟨u, v, ?_, hb⟩
              rw [upd_ne ngp.symm, upd_ne nlp.symm]
              exact hp
            · rw [upd_ne nlg, upd_same, txts_erase]
            · rw [upd_same, List.map_append, ← txts_app]
              unfold mkN
              rfl
            · rw [List.length_eraseIdx_of_lt hj]
              omega
        · rintro σ H5 ⟨k5, _, ws, L, y5, hL, hG, hw, hLl, hnd, hall, rfl⟩
          have hw' : ws.length = m := by
            rw [hw]
            show ((m : Nat) : Int).toNat = m
            omega
          have ng0 : H g = none := by
            cases e : H g with
            | none => rfl
            | some o =>
              have := (k04.1 _ _ ngp e).symm.trans ng
              cases this
          refine ⟨_, rfl, q _ g _ k5 ng0 hG (by rw [List.length_map]; exact hw') ?_ ?_⟩
          · have hnd1 : ws.Nodup := (List.nodup_append.mp hnd).1
            refine List.pairwise_map.mpr (hnd1.imp_of_mem fun {t u} ht hu ne e => ne ?_)
            have t2 := (twos_ok t (hall t (List.mem_append_left _ ht))).1
            have u2 := (twos_ok u (hall u (List.mem_append_left _ hu))).1
            exact mkN_inj (t2.trans u2.symm) e
          · intro z hz
            obtain ⟨t, ht, rfl⟩ := List.mem_map.mp hz
            exact mkN_good hlow hlen6 (hall t (List.mem_append_left _ ht))
end
end Dr
namespace Dr
open PySem PySem.Spec PyProof.Rows L2
open SX (S S_len S_cat)
abbrev sDefault : Stmt := topS 27
theorem scDefault : FnScope ["_law_bag_here", "_law_sort", "_law_names_here", "_law_items", "_law_owner", "_law_listed", "_law_one"] ["_law_bag_here", "_law_sort", "_law_names_here"] (defScope sDefault) := ⟨rfl, rfl, rfl, by decide +kernel, rfl, by decide +kernel, by decide +kernel⟩
theorem ltCps_tri : ∀ a b : List Nat, ltCps b a = false → a ≠ b → ltCps a b = true
  | [], [], _, n => absurd rfl n
  | [], _ :: _, _, _ => rfl
  | _ :: _, [], h, _ => by cases h
  | x :: r, y :: t, h, n => by
    have h' : ¬ y < x ∧ ((y == x) = true → ltCps t r = false) := by
      have q : (decide (y < x) || (y == x && ltCps t r)) = false := h
      rw [Bool.or_eq_false_iff] at q
      refine ⟨of_decide_eq_false q.1, fun e => ?_⟩
      have q2 := q.2
      rw [e] at q2
      exact q2
    show (decide (x < y) || (x == y && ltCps r t)) = true
    by_cases e : x = y
    · subst e
      have ih := ltCps_tri r t (h'.2 (beq_self_eq_true _)) (fun z => n (by rw [z]))
      rw [ih]
      simp
    · rw [decide_eq_true (show x < y by omega)]
      rfl
theorem asc_of : ∀ ys : List Str, sortedS ys = true → ys.Nodup → ascS ys = true
  | [], _, _ => rfl
  | [_], _, _ => rfl
  | x :: y :: r, h, n => by
    have h' : (!ltCps y.cps.toList x.cps.toList) = true ∧ risingS y r = true := by
      have q : (!ltCps y.cps.toList x.cps.toList && risingS y r) = true := h
      rw [Bool.and_eq_true] at q
      exact q
    have hne : x.cps.toList ≠ y.cps.toList := fun e => by
      have : x = y := by
        rw [← SX.S_tl x, ← SX.S_tl y, e]
      rw [List.nodup_cons] at n
      exact n.1 (by rw [this]; exact List.mem_cons_self ..)
    have hlt : ltS x y = true := by
      unfold ltS
      rw [← ltCps_eq]
      exact ltCps_tri _ _ (by simpa using h'.1) hne
    show (ltS x y && ascS (y :: r)) = true
    rw [hlt, asc_of (y :: r) h'.2 (List.nodup_cons.mp n).2]
    rfl
/-- a drawn default: none, a mark, items, a seat -/
inductive Df where
  | non
  | mk (o : List Nat)
  | its (w : Str) (zs : List Str)
  | seat (w o : Str) (x : List Nat)
def Df.data : Df → PyData
  | .non => .none
  | .mk o => .tuple [.str "mark", .str (S o)]
  | .its w zs => .tuple [.str w, .tuple (zs.map PyData.str)]
  | .seat w o x => .tuple [.str w, .str o, .str (S x)]
def DfAt (H : Hp) (v : V) : Df → Prop
  | .non => v = .non
  | .mk o => ∃ t, v = .ref t ∧ H t = some (.tup [.str "mark", .str (S o)])
  | .its w zs => ∃ t u, v = .ref t ∧ H t = some (.tup [.str w, .ref u]) ∧ H u = some (.tup (zs.map V.str))
  | .seat w o x => ∃ t, v = .ref t ∧ H t = some (.tup [.str w, .str o, .str (S x)])
structure SmS (z : Str) : Prop where
  ok : PyData.strOk z = true
  sm : z.length ≤ 1000
structure ItsOk (zs : List Str) : Prop where
  nm : ∀ z ∈ zs, nameOk z = true
  sm : ∀ z ∈ zs, SmS z
  asc : ascS zs = true
  len : zs.length ≤ 20
def Df.ok (hs : Str) : Df → Prop
  | .non => True
  | .mk o => hs = "mark" ∧ GoodN o
  | .its w zs => hs = "box" ∧ (w = "once" ∨ w = "anew") ∧ ItsOk zs
  | .seat w o x => hs = "box" ∧ ((w = "early" ∧ ∃ oc, o = S oc ∧ GoodN oc) ∨ (w = "late" ∧ (o = "cls" ∨ ∃ oc, o = S oc ∧ GoodN oc))) ∧ GoodN x
theorem sms_good {cs : List Nat} (g : GoodN cs) : SmS (S cs) := by
  refine ⟨?_, by rw [S_len]; have := g.hi; omega⟩
  unfold PyData.strOk
  rw [← Array.all_toList]
  refine List.all_eq_true.mpr fun c hc => ?_
  have q := List.all_eq_true.mp g.low c hc
  unfold lowC at q
  rw [Bool.and_eq_true] at q
  have := of_decide_eq_true q.2
  exact decide_eq_true (by omega)
theorem okD_sms {z : Str} (h : SmS z) : OkD (.str z) := by
  refine ⟨?_, decide_eq_true h.sm⟩
  show (PyData.strOk z && decide (0 ≤ 64)) = true
  rw [h.ok]
  rfl
theorem canAll_strs : ∀ {zs : List Str}, (∀ z ∈ zs, SmS z) → PyData.canLayAll0 (zs.map PyData.str) = true ∧ smAll (zs.map PyData.str) = true ∧ PyData.depthAll (zs.map PyData.str) = 0
  | [], _ => ⟨rfl, rfl, rfl⟩
  | z :: r, h => by
    have ih := canAll_strs (zs := r) fun x hx => h x (List.mem_cons_of_mem _ hx)
    have hz := h z (List.mem_cons_self ..)
    refine ⟨?_, ?_, ?_⟩
    · show (PyData.strOk z && PyData.canLayAll0 (r.map PyData.str)) = true
      rw [hz.ok, ih.1]
      rfl
    · show (decide (z.length ≤ 1000) && smAll (r.map PyData.str)) = true
      rw [decide_eq_true hz.sm, ih.2.1]
      rfl
    · show max 0 (PyData.depthAll (r.map PyData.str)) = 0
      rw [ih.2.2]
      rfl
theorem okD_strs {zs : List Str} (h : ∀ z ∈ zs, SmS z) (hl : zs.length ≤ 1000) : OkD (.tuple (zs.map PyData.str)) := by
  obtain ⟨h1, h2, h3⟩ := canAll_strs h
  refine ⟨?_, ?_⟩
  · show (PyData.canLayAll0 (zs.map PyData.str) && decide (PyData.depthAll (zs.map PyData.str) + 1 ≤ 64)) = true
    rw [h1, h3]
    rfl
  · show (decide ((zs.map PyData.str).length ≤ 1000) && smAll (zs.map PyData.str)) = true
    rw [h2, List.length_map, decide_eq_true hl]
    rfl
theorem sms_lit {z : Str} (h : (PyData.strOk z && decide (z.length ≤ 1000)) = true) : SmS z := by
  rw [Bool.and_eq_true] at h
  exact ⟨h.1, of_decide_eq_true h.2⟩
theorem Df.okD {hs : Str} : ∀ {f : Df}, f.ok hs → OkD f.data
  | .non, _ => ⟨rfl, rfl⟩
  | .mk o, h => okD_strs (zs := ["mark", S o]) (fun z hz => by
      rcases List.mem_cons.mp hz with e | hz
      · exact e ▸ sms_lit (by decide +kernel)
      · rcases List.mem_cons.mp hz with e | hz
        · exact e ▸ sms_good h.2
        · cases hz) (by show 2 ≤ 1000; decide)
  | .its w zs, h => by
    obtain ⟨_, hw, hz⟩ := h
    have hw' : SmS w := by
      rcases hw with e | e <;> (rw [e]; exact sms_lit (by decide +kernel))
    have q := okD_strs hz.sm (by have := hz.len; omega)
    refine ⟨?_, ?_⟩
    · have h1 := SeqAt.canLay_of_shaped q.sh
      have h3 := (canAll_strs hz.sm).2.2
      show ((PyData.strOk w && (PyData.canLay0 (.tuple (zs.map PyData.str)) && true)) && decide (max 0 (max (PyData.depthAll (zs.map PyData.str) + 1) 0) + 1 ≤ 64)) = true
      rw [hw'.ok, h1, h3]
      rfl
    · show (decide (2 ≤ 1000) && (decide (w.length ≤ 1000) && (smD (.tuple (zs.map PyData.str)) && true))) = true
      rw [decide_eq_true hw'.sm, q.sm]
      rfl
  | .seat w o x, h => by
    obtain ⟨_, hw, hx⟩ := h
    have hw' : SmS w := by
      rcases hw with ⟨e, _⟩ | ⟨e, _⟩ <;> (rw [e]; exact sms_lit (by decide +kernel))
    have ho : SmS o := by
      rcases hw with ⟨_, oc, e, g⟩ | ⟨_, e | ⟨oc, e, g⟩⟩
      · rw [e]; exact sms_good g
      · rw [e]; exact sms_lit (by decide +kernel)
      · rw [e]; exact sms_good g
    exact okD_strs (zs := [w, o, S x]) (fun z hz => by
      rcases List.mem_cons.mp hz with e | hz
      · exact e ▸ hw'
      · rcases List.mem_cons.mp hz with e | hz
        · exact e ▸ ho
        · rcases List.mem_cons.mp hz with e | hz
          · exact e ▸ sms_good hx
          · cases hz) (by show 3 ≤ 1000; decide)
theorem DfAt.dp {K : PySem.W.Frag} {H : Hp} {v : V} : ∀ {f : Df}, DfAt H v f → Dp K H v f.data
  | .non, h => by
    obtain rfl := h
    exact .non
  | .mk o, ⟨t, e, h⟩ => by
    subst e
    exact .tup (.inl (.inl h)) (.cons (.str _) (.cons (.str _) .nil))
  | .its w zs, ⟨t, u, e, h, h2⟩ => by
    subst e
    exact .tup (.inl (.inl h)) (.cons (.str _) (.cons (.tup (.inl (.inl h2)) (dpAll_strs zs)) .nil))
  | .seat w o x, ⟨t, e, h⟩ => by
    subst e
    exact .tup (.inl (.inl h)) (.cons (.str _) (.cons (.str _) (.cons (.str _) .nil)))
theorem items_ok {zs : List Str} (h : ItsOk zs) : isItemsD (.tuple (zs.map PyData.str)) = true := by
  show ((zs.map PyData.str).all isNameD && (match strsOf (zs.map PyData.str) with | some zs => ascS zs | none => false)) = true
  rw [strsOf_map]
  have e : (zs.map PyData.str).all isNameD = true := by
    rw [List.all_map]
    exact List.all_eq_true.mpr fun z hz => h.nm z hz
  rw [e]
  exact h.asc
def hitF (n : Nat) (w : Str) (f : Form) : Bool := match f with
  | w' :: q => (n == q.length) && (w == w')
  | [] => false
theorem form_hd {n : Nat} {w : Str} {ds : List PyData} {fs : List Form} {f : Form} (hn : ds.length = n) (h : fs.find? (hitF n w) = some f) : formOf (.tuple (.str w :: ds)) fs = some f := by
  unfold formOf
  subst hn
  have e : fits (.tuple (.str w :: ds)) = hitF ds.length w := by
    funext f
    cases f <;> rfl
  rw [e]
  exact h
theorem S0_item (d : PyData) : S0 d "item" = isNameD d := by
  unfold S0
  rw [if_neg (by decide +kernel), if_neg (by decide +kernel)]
theorem S0_kind (d : PyData) : S0 d "kind" = isNameD d := by
  unfold S0
  rw [if_neg (by decide +kernel), if_neg (by decide +kernel)]
theorem S0_value (d : PyData) : S0 d "value" = isNameD d := by
  unfold S0
  rw [if_neg (by decide +kernel), if_neg (by decide +kernel)]
theorem S0_items (d : PyData) : S0 d "items" = isItemsD d := if_pos rfl
theorem S0_owner (d : PyData) : S0 d "owner" = isOwnerD d := by
  unfold S0
  rw [if_neg (by decide +kernel), if_pos rfl]
theorem has1 {d d1 : PyData} {w s1 : Str} {fs : List Form} (h : formOf (.tuple [.str w, d1]) fs = some [w, s1]) : hasForm S0 (.tuple [.str w, d1]) fs = S0 d1 s1 := by
  unfold hasForm
  rw [h]
  show (S0 d1 s1 && true) = _
  rw [Bool.and_true]
theorem has2 {d1 d2 : PyData} {w s1 s2 : Str} {fs : List Form} (h : formOf (.tuple [.str w, d1, d2]) fs = some [w, s1, s2]) : hasForm S0 (.tuple [.str w, d1, d2]) fs = (S0 d1 s1 && S0 d2 s2) := by
  unfold hasForm
  rw [h]
  show (S0 d1 s1 && (S0 d2 s2 && true)) = _
  rw [Bool.and_true]
theorem isDef_box (d : PyData) : isDefD d "box" = hasForm S0 d boxForms := if_neg (by decide +kernel)
theorem isDef_mark (d : PyData) : isDefD d "mark" = hasForm S0 d markForms := if_pos rfl
theorem Df.isDef {hs : Str} : ∀ {f : Df}, f.ok hs → f.data = .none ∨ isDefD f.data hs = true
  | .non, _ => .inl rfl
  | .mk o, h => .inr (by
    obtain ⟨rfl, g⟩ := h
    rw [isDef_mark]
    show hasForm S0 (.tuple [.str "mark", .str (S o)]) markForms = true
    rw [has1 (d := .none) (s1 := "item") (form_hd (n := 1) rfl (by decide +kernel)), S0_item]
    exact g.ok)
  | .its w zs, h => .inr (by
    obtain ⟨rfl, hw, hz⟩ := h
    rw [isDef_box]
    show hasForm S0 (.tuple [.str w, .tuple (zs.map PyData.str)]) boxForms = true
    have e := items_ok hz
    rcases hw with rfl | rfl <;> (rw [has1 (d := .none) (s1 := "items") (form_hd (n := 1) rfl (by decide +kernel)), S0_items]; exact e))
  | .seat w o x, h => .inr (by
    obtain ⟨rfl, hw, hx⟩ := h
    rw [isDef_box]
    show hasForm S0 (.tuple [.str w, .str o, .str (S x)]) boxForms = true
    rcases hw with ⟨rfl, oc, rfl, g⟩ | ⟨rfl, ho⟩
    · rw [has2 (s1 := "kind") (s2 := "value") (form_hd (n := 2) rfl (by decide +kernel)), S0_kind, S0_value]
      show (nameOk (S oc) && nameOk (S x)) = true
      rw [g.ok, hx.ok]
      rfl
    · rw [has2 (s1 := "owner") (s2 := "value") (form_hd (n := 2) rfl (by decide +kernel)), S0_owner, S0_value]
      have ho' : isOwnerD (.str o) = true := by
        rcases ho with rfl | ⟨oc, rfl, g⟩
        · rfl
        · show ((S oc) == ("cls" : Str) || nameOk (S oc)) = true
          rw [g.ok, Bool.or_true]
      show (isOwnerD (.str o) && nameOk (S x)) = true
      rw [ho', hx.ok]
      rfl)
end Dr
namespace Dr
open PySem PySem.Spec PyProof.Rows L2
open SX (S S_len S_cat)
theorem txts_S (ys : List (List Nat)) : txts ys = (ys.map S).map V.str := by
  unfold txts
  rw [List.map_map]
  rfl
theorem its_of {zs ys : List (List Nat)} {qs : List Str} (hsub : ys.Sublist zs) (hl : zs.length ≤ 20) (hnd : zs.Nodup) (hg : ∀ z ∈ zs, GoodN z) (hp : qs.Perm (ys.map S)) (hs : sortedS qs = true) : ItsOk qs := by
  have hm : ∀ z ∈ qs, ∃ cs, z = S cs ∧ GoodN cs := fun z hz => by
    obtain ⟨cs, hc, e⟩ := List.mem_map.mp (hp.mem_iff.mp hz)
    exact ⟨cs, e.symm, hg cs (hsub.subset hc)⟩
  refine ⟨fun z hz => ?_, fun z hz => ?_, asc_of qs hs (hp.nodup_iff.mpr ?_), ?_⟩
  · obtain ⟨cs, rfl, g⟩ := hm z hz
    exact g.ok
  · obtain ⟨cs, rfl, g⟩ := hm z hz
    exact sms_good g
  · exact List.pairwise_map.mpr ((hsub.nodup hnd).imp fun {a b} n e => n (SX.S_inj e))
  · rw [hp.length_eq, List.length_map]
    exact Nat.le_trans hsub.length_le hl
section
variable {P : Program} {w : World} {K : PySem.W.Frag} {mg : Str → Option Value} {base : Heap}
def spDefault : Sp := fun vs H Q _ => ∃ (p an : Addr) (hs : Str) (zs : List (List Nat)), vs = [.ref p, .str hs, .ref an] ∧ Bag H p ∧ an ≠ p ∧ H an = some (.lst (txts zs)) ∧ 1 ≤ zs.length ∧ zs.length ≤ 20 ∧ zs.Nodup ∧ (∀ z ∈ zs, GoodN z) ∧ (hs = "mark" ∨ hs = "box") ∧
  ∀ H' v f, Kp p H H' → DfAt H' v f → f.ok hs → Q v H'
structure BltS (mg : Str → Option Value) : Prop where
  tup : mg "tuple" = none
  srt : mg "sorted" = none
theorem txts_mem {zs : List (List Nat)} {y : V} (h : y ∈ txts zs) : ∃ z ∈ zs, y = V.str (S z) := by
  obtain ⟨z, hz, e⟩ := List.mem_map.mp h
  exact ⟨z, hz, e.symm⟩
theorem txts_len {zs : List (List Nat)} : (txts zs).length = zs.length := by
  unfold txts
  rw [List.length_map]
theorem bag_ne {H : Hp} {p q : Addr} (h : Bag H p) (n : H q = none) : q ≠ p := fun e => by
  obtain ⟨u, v, hp, _⟩ := h
  rw [e, hp] at n
  cases n
theorem kp_new {p D : Addr} {H H3 : Hp} {o : HO} (k : Kp p H H3) (n : H D = none) (np : D ≠ p) : Kp p H (upd H3 D o) := by
  refine ⟨fun b x nb e => ?_, ?_⟩
  · rw [upd_ne (ne_of_none e n)]
    exact k.1 b x nb e
  · obtain ⟨u, v, hp, h⟩ := k.2
    refine ⟨u, v, ?_, h⟩
    rw [upd_ne np.symm]
    exact hp
theorem two_le : 2 ≤ sizeLine := by decide
theorem three_le : 3 ≤ sizeLine := by decide
theorem ok_default {f fT fO : Addr} {fd fdT fdO : FuncData} (F : Fun K "_law_default" "_law_default" sDefault f fd) (B : BltS mg)
    (GT : FnOk P w K mg base CX0 1 fT fdT ["_law_bag_here", "_law_many"] spTake) (mT : mg "_law_take" = some (.ref fT)) (kT : PySem.W.keepIn K (.ref fT) = true) (bT : Binds K fdT ["_law_bag_here", "_law_many"] [])
    (GO : FnOk P w K mg base CX0 2 fO fdO ["_law_bag_here", "_law_some"] (spOf K)) (mO : mg "_law_of" = some (.ref fO)) (kO : PySem.W.keepIn K (.ref fO) = true) (bO : Binds K fdO ["_law_bag_here", "_law_some"] []) :
    FnOk P w K mg base CX0 3 f fd ["_law_bag_here", "_law_sort", "_law_names_here"] spDefault := by
  refine F.ok scDefault (fun vs H Q E h => ?_) (fun cdv A outer s H vs Q E hr h => ?_)
  · obtain ⟨p, an, hs, zs, rfl, _⟩ := h
    rfl
  · obtain ⟨p, an, hs, zs, rfl, hB, nap, hN, hl1, hl2, hnd, hg, hhs, q⟩ := h
    have hr1 : Room 1 _ := hr.mono (by decide)
    refine ⟨_, pss_cons (ps_set (i := 3) scDefault.nd rfl (.inl rfl) (pe_callTy call_tuple_of (by rfl) B.tup (by decide +kernel) (pa_cons (pe_callB cr_sortedS (by rfl) B.srt (by decide +kernel) (pa_cons
        (pe_lc (own := [("_law_one", 6)]) (g := gName 6) (tt := _) rfl scDefault.nd (pi_list (pv 2)) (blkOk_by (N := ["_law_bag_here", "_law_sort", "_law_names_here", "_law_items", "_law_owner", "_law_listed", "_law_one"]) (sc := defScope sDefault) (by decide +kernel)) (fun _ _ _ _ _ => pg_name (i := 6) scDefault.nd rfl (Or.inl rfl))
          (fun _ _ _ _ _ => pts_one (pt_cmpR op_eq (pe_call GT hr1 (by rfl) mT kT bT .nil pass0 (pa_cons (pv 0) (pa_cons pe_int pa_nil))) pe_int (nomark _))) (fun _ _ _ _ _ => pv 6)) pa_nil)) pa_nil)))
      (pss_cons (ps_set (i := 4) scDefault.nd rfl (.inl rfl) (pe_call GO hr (by rfl) mO kO bO .nil pass0 (pa_cons (pv 0) (pa_cons (pv 2) pa_nil))))
      (pss_cons (ps_if (pt_cmpR op_eq (pv 1) pe_str (nomark _)) (pss_one (ps_ret (pe_call GO hr (by rfl) mO kO bO .nil pass0 (pa_cons (pv 0) (pa_cons (pe_lst (pa_cons pe_non (pa_cons (pe_tup (pa_cons pe_str (pa_cons (pv 4) pa_nil))) pa_nil))) pa_nil))))) pss_nil)
      (pss_cons (ps_set (i := 5) scDefault.nd rfl (.inl rfl) (pe_lst (pa_cons pe_non (pa_cons (pe_tup (pa_cons pe_str (pa_cons (pv 3) pa_nil))) (pa_cons (pe_tup (pa_cons pe_str (pa_cons (pv 3) pa_nil)))
          (pa_cons (pe_tup (pa_cons pe_str (pa_cons (pv 4) (pa_cons (pe_call GO hr (by rfl) mO kO bO .nil pass0 (pa_cons (pv 0) (pa_cons (pv 2) pa_nil))) pa_nil)))) pa_nil))))))
      (pss_cons (ps_set (i := 5) scDefault.nd rfl (.inl rfl) (pe_op op_cat (pv 5) (pe_lst (pa_cons (pe_tup (pa_cons pe_str (pa_cons (pv 4) (pa_cons (pe_call GO hr (by rfl) mO kO bO .nil pass0 (pa_cons (pv 0) (pa_cons (pv 2) pa_nil))) pa_nil))))
          (pa_cons (pe_tup (pa_cons pe_str (pa_cons pe_str (pa_cons (pe_call GO hr (by rfl) mO kO bO .nil pass0 (pa_cons (pv 0) (pa_cons (pv 2) pa_nil))) pa_nil)))) pa_nil)))))
      (pss_one (ps_ret (pe_call GO hr (by rfl) mO kO bO .nil pass0 (pa_cons (pv 0) (pa_cons (pv 5) pa_nil))))))))), ?_⟩
    have hlN : (txts zs).length = zs.length := txts_len
    -- the items
    refine ⟨_, rfl, an, rfl, ⟨_, SqL.of hN⟩, fun D nD => ?_⟩
    have nDp := bag_ne hB nD
    refine lc_list (K := K) (a := an) (xs := txts zs) (fun i H1 => Kp p H H1 ∧ ∃ ys : List (List Nat), H1 D = some (.lst (txts ys)) ∧ ys.Sublist (zs.take i)) ⟨Kp.of hB (same_upd nD), [], upd_same, .refl _⟩ (fun i H1 _ h => SqL.of (h.1.1 _ _ nap hN)) ?_ ?_
    · rintro i x H1 hx ⟨k1, ys, hD1, hsub⟩
      have hx' := hx
      unfold txts at hx'
      rw [List.getElem?_map] at hx'
      cases hz : zs[i]? with
      | none =>
        rw [hz] at hx'
        cases hx'
      | some z =>
        rw [hz] at hx'
        obtain rfl := Option.some.inj hx'
        have hi := (List.getElem?_eq_some_iff.mp hz).1
        refine ⟨rfl, _, rfl, p, 2, rfl, k1.2, by decide, by decide, fun H3 r k3 r0 r2 => ⟨rfl, _, rfl, ite2 (fun _ => ?_) (fun _ => ?_)⟩⟩
        · refine ⟨_, rfl, _, k3.1 _ _ nDp hD1, ?_, kp_new (k1.trans k3) nD nDp, ys ++ [z], ?_, ?_⟩
          · rw [txts_len]
            have := hsub.length_le
            rw [List.length_take] at this
            exact small1000 (by omega)
          · rw [upd_same, ← txts_app]
            rfl
          · rw [List.take_add_one, hz]
            exact hsub.append (.refl _)
        · refine ⟨k1.trans k3, ys, k3.1 _ _ nDp hD1, ?_⟩
          rw [List.take_add_one, hz]
          exact hsub.trans (List.sublist_append_left _ _)
    · rintro H1 ⟨k1, ys, hD1, hsub⟩
      rw [hlN, List.take_length] at hsub
      rw [txts_S] at hD1
      refine ⟨D, ys.map S, rfl, SqL.of hD1, ?_, fun qs a2 hperm hsrt na2 => ?_⟩
      · rw [List.length_map]
        have := hsub.length_le
        omega
      refine ⟨a2, _, rfl, .inl ⟨SqL.of upd_same, fun u nu => ?_⟩⟩
      have hits := its_of hsub hl2 hnd hg hperm hsrt
      have k2 : Kp p H (upd (upd H1 a2 (.lst (qs.map V.str))) u (.tup (qs.map V.str))) := (k1.same (same_upd na2)).same (same_upd nu)
      have hu2 : (upd (upd H1 a2 (.lst (qs.map V.str))) u (.tup (qs.map V.str))) u = some (.tup (qs.map V.str)) := upd_same
      have nup : u ≠ p := bag_ne (k1.same (same_upd na2)).2 nu
      generalize (upd (upd H1 a2 (.lst (qs.map V.str))) u (.tup (qs.map V.str))) = H2 at k2 hu2 ⊢
      have oneOf : ∀ (H' : Hp) (Q' : VK), Kp p H H' → (∀ H'' z, Kp p H' H'' → z ∈ zs → Q' (.str (S z)) H'') → spOf K [.ref p, .ref an] H' Q' E := fun H' Q' k h =>
        ⟨p, .ref an, rfl, k.2, .inl ⟨an, _, rfl, nap, SqL.of (k.1 _ _ nap hN), by rw [hlN]; exact hl1, by rw [hlN]; omega, fun H'' y k' hy => by
          obtain ⟨z, hz, rfl⟩ := txts_mem hy
          exact h H'' z k' hz⟩⟩
      refine ⟨_, rfl, _, rfl, oneOf _ _ k2 fun H3 o k3 ho => ?_⟩
      have k03 := k2.trans k3
      refine ⟨_, rfl, rfl, _, rfl, ite2 (fun k => ?_) (fun k => ?_)⟩
      · have em : hs = "mark" := V.str.inj (of_decide_eq_true k)
        refine ⟨_, rfl, _, rfl, two_le, fun t nt => ⟨two_le, fun l nl => ⟨p, .ref l, rfl, ((k03.same (same_upd nt)).same (same_upd nl)).2, .inl ⟨l, _, rfl, bag_ne (k03.same (same_upd nt)).2 nl, SqL.of upd_same, (by show 1 ≤ 2; decide), (by show 2 ≤ 1000; decide), fun H4 y k4 hy => ?_⟩⟩⟩⟩
        have ntp : t ≠ p := bag_ne k03.2 nt
        have k04 := ((k03.same (same_upd nt)).same (same_upd nl)).trans k4
        have ht : H4 t = some (.tup [.str "mark", .str (S o)]) := k4.1 _ _ ntp (same_upd nl _ _ upd_same)
        rcases List.mem_cons.mp hy with rfl | hy
        · exact q _ _ .non k04 rfl trivial
        · rcases List.mem_cons.mp hy with rfl | hy
          · exact q _ _ (.mk o) k04 ⟨t, rfl, ht⟩ ⟨em, hg o ho⟩
          · cases hy
      · have eb : hs = "box" := by
          rcases hhs with e | e
          · exact absurd (decide_eq_true (by rw [e])) k
          · exact e
        have hu3 := k3.1 _ _ nup hu2
        refine ⟨_, rfl, two_le, fun t1 n1 => ⟨_, rfl, two_le, fun t2 n2 => ⟨_, rfl, _, rfl, _, rfl, ?_⟩⟩⟩
        have s1 := same_upd (o := .tup [.str "once", .ref u]) n1
        have s2 := same_upd (o := .tup [.str "anew", .ref u]) n2
        have kA := (k03.same s1).same s2
        have p1 := bag_ne k03.2 n1
        have p2 := bag_ne (k03.same s1).2 n2
        have g1 := s2 _ _ (upd_same (H := H3) (a := t1) (o := .tup [.str "once", .ref u]))
        have g2 : (upd (upd H3 t1 (.tup [.str "once", .ref u])) t2 (.tup [.str "anew", .ref u])) t2 = some (.tup [.str "anew", .ref u]) := upd_same
        have gu := s2 _ _ (s1 _ _ hu3)
        refine oneOf _ _ kA fun H4 x3 k4 hx3 => ⟨three_le, fun t3 n3 => ⟨(by show 4 ≤ sizeLine; decide), fun l1 nl1 => ?_⟩⟩
        have s3 := same_upd (o := .tup [.str "early", .str (S o), .str (S x3)]) n3
        have sl1 := same_upd (o := .lst [.non, .ref t1, .ref t2, .ref t3]) nl1
        have kB := ((kA.trans k4).same s3).same sl1
        have p3 := bag_ne (kA.trans k4).2 n3
        have pl1 := bag_ne ((kA.trans k4).same s3).2 nl1
        have h1 := sl1 _ _ (s3 _ _ (k4.1 _ _ p1 g1))
        have h2 := sl1 _ _ (s3 _ _ (k4.1 _ _ p2 g2))
        have hu4 := sl1 _ _ (s3 _ _ (k4.1 _ _ nup gu))
        have h3 := sl1 _ _ (upd_same (H := H4) (a := t3) (o := .tup [.str "early", .str (S o), .str (S x3)]))
        have hl := upd_same (H := upd H4 t3 (.tup [.str "early", .str (S o), .str (S x3)])) (a := l1) (o := .lst [.non, .ref t1, .ref t2, .ref t3])
        refine ⟨_, rfl, _, rfl, _, rfl, _, rfl, ?_⟩
        refine oneOf _ _ kB fun H5 x4 k5 hx4 => ⟨three_le, fun t4 n4 => ⟨_, rfl, _, rfl, ?_⟩⟩
        have s4 := same_upd (o := .tup [.str "late", .str (S o), .str (S x4)]) n4
        have kC := (kB.trans k5).same s4
        have p4 := bag_ne (kB.trans k5).2 n4
        have h4 := upd_same (H := H5) (a := t4) (o := .tup [.str "late", .str (S o), .str (S x4)])
        refine oneOf _ _ kC fun H6 x5 k6 hx5 => ⟨three_le, fun t5 n5 => ⟨two_le, fun l2 nl2 => ?_⟩⟩
        have s5 := same_upd (o := .tup [.str "late", .str "cls", .str (S x5)]) n5
        have sl2 := same_upd (o := .lst [.ref t4, .ref t5]) nl2
        have kD := ((kC.trans k6).same s5).same sl2
        have p5 := bag_ne (kC.trans k6).2 n5
        have pl2 := bag_ne ((kC.trans k6).same s5).2 nl2
        have up : ∀ (b : Addr) (oo : HO), b ≠ p → (upd (upd H4 t3 (.tup [.str "early", .str (S o), .str (S x3)])) l1 (.lst [.non, .ref t1, .ref t2, .ref t3])) b = some oo → (upd (upd H6 t5 (.tup [.str "late", .str "cls", .str (S x5)])) l2 (.lst [.ref t4, .ref t5])) b = some oo := fun b o nb e => sl2 _ _ (s5 _ _ (k6.1 _ _ nb (s4 _ _ (k5.1 _ _ nb e))))
        have h1' := up _ _ p1 h1
        have h2' := up _ _ p2 h2
        have h3' := up _ _ p3 h3
        have hu' := up _ _ nup hu4
        have hl' := up _ _ pl1 hl
        have h4' := sl2 _ _ (s5 _ _ (k6.1 _ _ p4 h4))
        have h5' := sl2 _ _ (upd_same (H := H6) (a := t5) (o := .tup [.str "late", .str "cls", .str (S x5)]))
        have hl2 := upd_same (H := upd H6 t5 (.tup [.str "late", .str "cls", .str (S x5)])) (a := l2) (o := .lst [.ref t4, .ref t5])
        generalize (upd (upd H6 t5 (.tup [.str "late", .str "cls", .str (S x5)])) l2 (.lst [.ref t4, .ref t5])) = H7 at h1' h2' h3' hu' hl' h4' h5' hl2 kD ⊢
        refine ⟨_, _, _, _, rfl, rfl, hl', hl2, by show 4 + 2 ≤ sizeLine; decide, fun l3 nl3 => ?_⟩
        have sl3 := same_upd (o := .lst ([V.non, .ref t1, .ref t2, .ref t3] ++ [.ref t4, .ref t5])) nl3
        have kE := kD.same sl3
        refine ⟨_, rfl, _, rfl, p, .ref l3, rfl, kE.2, .inl ⟨l3, _, rfl, bag_ne kD.2 nl3, SqL.of upd_same, (by show 1 ≤ 6; decide), (by show 6 ≤ 1000; decide), fun H8 y k8 hy => ?_⟩⟩
        have kF := kE.trans k8
        have fin : ∀ b o, b ≠ p → H7 b = some o → H8 b = some o := fun b o nb e => k8.1 _ _ nb (sl3 _ _ e)
        rcases List.mem_cons.mp hy with rfl | hy
        · exact q _ _ .non kF rfl trivial
        · rcases List.mem_cons.mp hy with rfl | hy
          · exact q _ _ (.its "once" qs) kF ⟨t1, u, rfl, fin _ _ p1 h1', fin _ _ nup hu'⟩ ⟨eb, .inl rfl, hits⟩
          · rcases List.mem_cons.mp hy with rfl | hy
            · exact q _ _ (.its "anew" qs) kF ⟨t2, u, rfl, fin _ _ p2 h2', fin _ _ nup hu'⟩ ⟨eb, .inr rfl, hits⟩
            · rcases List.mem_cons.mp hy with rfl | hy
              · exact q _ _ (.seat "early" (S o) x3) kF ⟨t3, rfl, fin _ _ p3 h3'⟩ ⟨eb, .inl ⟨rfl, o, rfl, hg o ho⟩, hg x3 hx3⟩
              · rcases List.mem_cons.mp hy with rfl | hy
                · exact q _ _ (.seat "late" (S o) x4) kF ⟨t4, rfl, fin _ _ p4 h4'⟩ ⟨eb, .inr ⟨rfl, .inr ⟨o, rfl, hg o ho⟩⟩, hg x4 hx4⟩
                · rcases List.mem_cons.mp hy with rfl | hy
                  · exact q _ _ (.seat "late" "cls" x5) kF ⟨t5, rfl, fin _ _ p5 h5'⟩ ⟨eb, .inr ⟨rfl, .inl rfl⟩, hg x5 hx5⟩
                  · cases hy
end
end Dr
namespace Dr
open PySem PySem.Spec PyProof.Rows L2
open SX (S S_len S_cat)
abbrev sOthers : Stmt := topS 28
theorem scOthers : FnScope ["_law_name", "_law_sort", "_law_worth", "_law_only", "_law_listed", "_law_word"] ["_law_name", "_law_sort", "_law_worth", "_law_only"] (defScope sOthers) := ⟨rfl, rfl, rfl, by decide +kernel, rfl, by decide +kernel, by decide +kernel⟩
abbrev psP : List Str := ["self", "name", "holds", "default", "named"]
abbrev kwP : List (Str × V) := [("holds", .str "box"), ("default", .non), ("named", .bl false)]
abbrev FP (K : PySem.W.Frag) (f : Addr) (fd : FuncData) : Prop := FunD K "__init__" "Param.__init__" (defArgs sPInit) (defBody sPInit) (defScope sPInit) [] kwP f fd
section
variable {P : Program} {w : World} {K : PySem.W.Frag} {mg : Str → Option Value} {base : Heap}
/-- Param(name, holds=, default=, named=) -/
theorem bind_hdn {f : Addr} {fd : FuncData} (F : FP K f fd) : KBn K fd psP 2 ["holds", "default", "named"] (fun us ws => us ++ ws) (fun vs zs => vs ++ zs) := by
  obtain ⟨mv, h⟩ := F.kbinds0 (ps := psP) 2 ["holds", "default", "named"] [] (fun us _ ws => us ++ ws) (by simp) (fun q hq => by cases hq) (fun r1 _ r3 => r1.append r3)
    (fun D doc pm an cdv ct us mv ws l1 l2 l3 => match us, mv, ws, l1, l2, l3 with | [_, _], [], [_, _, _], _, _, _ => rfl)
  exact h
theorem bind_ndh {f : Addr} {fd : FuncData} (F : FP K f fd) : KBn K fd psP 2 ["named", "default", "holds"] (fun us ws => us ++ ws.reverse) (fun vs zs => vs ++ zs.reverse) := by
  obtain ⟨mv, h⟩ := F.kbinds0 (ps := psP) 2 ["named", "default", "holds"] [] (fun us _ ws => us ++ ws.reverse) (by simp) (fun q hq => by cases hq) (fun r1 _ r3 => r1.append r3.reverse)
    (fun D doc pm an cdv ct us mv ws l1 l2 l3 => match us, mv, ws, l1, l2, l3 with | [_, _], [], [_, _, _], _, _, _ => rfl)
  exact h
theorem bind_hn {f : Addr} {fd : FuncData} (F : FP K f fd) : ∃ mv : List Value, KBn K fd psP 2 ["holds", "named"] (fun us ws => us ++ (ws.take 1 ++ (mv ++ ws.drop 1))) (fun vs zs => vs ++ (zs.take 1 ++ ([V.non] ++ zs.drop 1))) := by
  exact F.kbinds0 (ps := psP) 2 ["holds", "named"] [("default", .non)] (fun us mv ws => us ++ (ws.take 1 ++ (mv ++ ws.drop 1))) (by simp) (fun q hq => by
      rcases List.mem_cons.mp hq with e | hq
      · rw [e]; simp
      · cases hq) (fun r1 r2 r3 => r1.append ((r3.take 1).append (r2.append (r3.drop 1))))
    (fun D doc pm an cdv ct us mv ws l1 l2 l3 => match us, mv, ws, l1, l2, l3 with | [_, _], [_], [_, _], _, _, _ => ⟨_, _, _, _, _, _, rfl, rfl, rfl⟩)
theorem bind_0 {f : Addr} {fd : FuncData} (F : FP K f fd) : ∃ ds, Vals [V.str "box", .non, .bl false] ds ∧ Binds K fd psP ds :=
  F.binds0 (ps := psP) 2 (by simp) rfl (fun D doc pm an cdv ct us ks l1 l2 => match us, ks, l1, l2 with | [_, _], [_, _, _], _, _ => ⟨_, _, _, _, _, _, rfl, rfl, ⟨_, _, _, _, _, _, rfl, rfl, ⟨_, _, _, _, _, _, rfl, rfl, rfl⟩⟩⟩)
/-- a new parameter -/
theorem par_made {C x dx : Addr} {H : Hp} {nm hs : Str} {v : V} {d : PyData} {nd : Bool} {Q : VK} {E : XK} (hx : H x = none) (hdx : H dx = none) (hnm : nameOk nm = true) (hok : OkD (.str nm)) (hhs : hs = "mark" ∨ hs = "box") (hd : DflOk K H v d hs)
    (q : ∀ H3, Same H H3 → ParAt C H3 x nm hs v nd → Q .non H3) : spPInit K C [.ref x, .str nm, .str hs, v, .bl nd] (upd (upd H dx (.own x)) x (.ins C dx [])) Q E := by
  have s1 : Same H (upd (upd H dx (.own x)) x (.ins C dx [])) := fun b o e => by
    rw [upd_ne (ne_of_none e hx), upd_ne (ne_of_none e hdx)]
    exact e
  refine ⟨x, dx, nm, hs, v, d, nd, rfl, upd_same, hnm, hok, hhs, ⟨dp_same s1 hd.1, hd.2.1, hd.2.2⟩, fun H3 h1 h2 => q H3 (fun b o e => h1 b o (ne_of_none e hx) (s1 _ _ e)) ⟨dx, h2⟩⟩
theorem dflOk_of {H : Hp} {v : V} {f : Df} {hs : Str} (h : DfAt H v f) (ok : f.ok hs) : DflOk K H v f.data hs := by
  refine ⟨h.dp, Df.okD ok, ?_⟩
  rcases Df.isDef ok with e | e
  · cases f with
    | non => exact .inl h
    | mk o => cases e
    | its w zs => cases e
    | seat w o x => cases e
  · exact .inr e
theorem dflOk_none {H : Hp} {hs : Str} : DflOk K H .non .none hs := ⟨.non, ⟨rfl, rfl⟩, .inl rfl⟩
theorem DfAt.same {H H' : Hp} {v : V} (s : Same H H') : ∀ {f : Df}, DfAt H v f → DfAt H' v f
  | .non, h => h
  | .mk _, ⟨t, e, h⟩ => ⟨t, e, s _ _ h⟩
  | .its _ _, ⟨t, u, e, h, h2⟩ => ⟨t, u, e, s _ _ h, s _ _ h2⟩
  | .seat _ _ _, ⟨t, e, h⟩ => ⟨t, e, s _ _ h⟩
/-- another parameter, that differs in one part -/
def OtherAt (C : Addr) (H : Hp) (b : V) (nm hs : Str) (d : PyData) (nd : Bool) : Prop := ∃ (a : Addr) (nm2 hs2 : Str) (v2 : V) (f2 : Df) (nd2 : Bool), b = .ref a ∧ ParAt C H a nm2 hs2 v2 nd2 ∧ DfAt H v2 f2 ∧ OkD f2.data ∧
  (((decide (nm = nm2) && decide (hs = hs2)) && PyData.eqv d f2.data) && decide (nd = nd2)) = false
theorem OtherAt.same {C : Addr} {H H' : Hp} {b : V} {nm hs : Str} {d : PyData} {nd : Bool} (s : Same H H') (h : OtherAt C H b nm hs d nd) : OtherAt C H' b nm hs d nd := by
  obtain ⟨a, nm2, hs2, v2, f2, nd2, e, ⟨dx, hp⟩, hd, hr⟩ := h
  exact ⟨a, nm2, hs2, v2, f2, nd2, e, ⟨dx, s _ _ hp⟩, hd.same s, hr⟩
theorem DfAt.updL {H : Hp} {v : V} {l : Addr} {xs ys : List V} (hl : H l = some (.lst xs)) : ∀ {f : Df}, DfAt H v f → DfAt (upd H l (.lst ys)) v f
  | .non, h => h
  | .mk _, ⟨t, e, h⟩ => ⟨t, e, by rw [upd_ne (ne_of h hl (by intro q; cases q))]; exact h⟩
  | .its _ _, ⟨t, u, e, h, h2⟩ => ⟨t, u, e, by rw [upd_ne (ne_of h hl (by intro q; cases q))]; exact h, by rw [upd_ne (ne_of h2 hl (by intro q; cases q))]; exact h2⟩
  | .seat _ _ _, ⟨t, e, h⟩ => ⟨t, e, by rw [upd_ne (ne_of h hl (by intro q; cases q))]; exact h⟩
theorem ParAt.updL {C : Addr} {H : Hp} {a l : Addr} {nm hs : Str} {v : V} {nd : Bool} {xs ys : List V} (hl : H l = some (.lst xs)) (h : ParAt C H a nm hs v nd) : ParAt C (upd H l (.lst ys)) a nm hs v nd := by
  obtain ⟨dx, h⟩ := h
  exact ⟨dx, by rw [upd_ne (ne_of h hl (by intro q; cases q))]; exact h⟩
theorem OtherAt.updL {C : Addr} {H : Hp} {b : V} {nm hs : Str} {d : PyData} {nd : Bool} {l : Addr} {xs ys : List V} (hl : H l = some (.lst xs)) (h : OtherAt C H b nm hs d nd) : OtherAt C (upd H l (.lst ys)) b nm hs d nd := by
  obtain ⟨a, nm2, hs2, v2, f2, nd2, e, hp, hd, hr⟩ := h
  exact ⟨a, nm2, hs2, v2, f2, nd2, e, hp.updL hl, hd.updL hl, hr⟩
/-- the list of the others while it grows -/
structure Grow (C : Addr) (H H' : Hp) (l : Addr) (bs : List V) (nm hs : Str) (d : PyData) (nd : Bool) : Prop where
  sm : Same H H'
  new : H l = none
  at_ : H' l = some (.lst bs)
  all : ∀ b ∈ bs, OtherAt C H' b nm hs d nd
theorem Grow.same {C : Addr} {H H' H2 : Hp} {l : Addr} {bs : List V} {nm hs : Str} {d : PyData} {nd : Bool} (g : Grow C H H' l bs nm hs d nd) (s : Same H' H2) : Grow C H H2 l bs nm hs d nd :=
  ⟨g.sm.trans s, g.new, s _ _ g.at_, fun b hb => (g.all b hb).same s⟩
theorem Grow.app {C : Addr} {H H' H2 : Hp} {l : Addr} {bs : List V} {nm hs : Str} {d : PyData} {nd : Bool} {b : V} (g : Grow C H H' l bs nm hs d nd) (s : Same H' H2) (o : OtherAt C H2 b nm hs d nd) : Grow C H (upd H2 l (.lst (bs ++ [b]))) l (bs ++ [b]) nm hs d nd := by
  have hl := s _ _ g.at_
  refine ⟨fun a x e => ?_, g.new, upd_same, fun y hy => ?_⟩
  · rw [upd_ne (ne_of_none e g.new)]
    exact s _ _ (g.sm _ _ e)
  · rcases List.mem_append.mp hy with h | h
    · exact ((g.all y h).same s).updL hl
    · rcases List.mem_cons.mp h with rfl | h
      · exact o.updL hl
      · cases h
def spOthers (C : Addr) : Sp := fun vs H Q _ => ∃ (cs : List Nat) (hs : Str) (v : V) (f : Df) (nd : Bool), vs = [.str (S cs), .str hs, v, .bl nd] ∧ GoodN cs ∧ (hs = "mark" ∨ hs = "box") ∧ DfAt H v f ∧ f.ok hs ∧
  ∀ H' q bs, Same H H' → H q = none → H' q = some (.lst bs) → bs.length ≤ 10 → (∀ b ∈ bs, OtherAt C H' b (S cs) hs f.data nd) → Q (.ref q) H'
/-- the name, changed at its end -/
def bent (cs : List Nat) : List Nat := if 7 < cs.length then cs.take (cs.length - 1) ++ (if cs.drop (cs.length - 1) = [122] then [113] else [122]) else cs ++ [113]
theorem bent_ne {cs : List Nat} : cs ≠ bent cs := fun e => by
  unfold bent at e
  by_cases h : 7 < cs.length
  · rw [if_pos h] at e
    have e2 : cs.drop (cs.length - 1) = (if cs.drop (cs.length - 1) = [122] then [113] else [122]) := by
      have q : cs.take (cs.length - 1) ++ cs.drop (cs.length - 1) = cs.take (cs.length - 1) ++ (if cs.drop (cs.length - 1) = [122] then [113] else [122]) := by
        rw [List.take_append_drop]
        exact e
      exact List.append_cancel_left q
    by_cases h2 : cs.drop (cs.length - 1) = [122]
    · rw [if_pos h2, h2] at e2
      cases e2
    · rw [if_neg h2] at e2
      exact h2 e2
  · rw [if_neg h] at e
    have := congrArg List.length e
    rw [List.length_append] at this
    simp at this
theorem bent_good {cs : List Nat} (g : GoodN cs) : GoodN (bent cs) := by
  have hlo := g.lo
  have hhi := g.hi
  unfold bent
  by_cases h : 7 < cs.length
  · rw [if_pos h]
    have hl : (cs.take (cs.length - 1)).all lowC = true := List.all_eq_true.mpr fun x hx => List.all_eq_true.mp g.low x (List.mem_of_mem_take hx)
    by_cases h2 : cs.drop (cs.length - 1) = [122]
    · rw [if_pos h2]
      refine ⟨?_, ?_, ?_, ?_⟩
      · rw [List.all_append, hl]
        rfl
      · rw [List.length_append, List.length_take]
        show 2 ≤ min (cs.length - 1) cs.length + 1
        omega
      · rw [List.length_append, List.length_take]
        show min (cs.length - 1) cs.length + 1 ≤ 8
        omega
      · rw [List.any_append]
        exact Bool.or_eq_true_iff.mpr (.inr rfl)
    · rw [if_neg h2]
      refine ⟨?_, ?_, ?_, ?_⟩
      · rw [List.all_append, hl]
        rfl
      · rw [List.length_append, List.length_take]
        show 2 ≤ min (cs.length - 1) cs.length + 1
        omega
      · rw [List.length_append, List.length_take]
        show min (cs.length - 1) cs.length + 1 ≤ 8
        omega
      · rw [List.any_append]
        exact Bool.or_eq_true_iff.mpr (.inr rfl)
  · rw [if_neg h]
    refine ⟨?_, ?_, ?_, ?_⟩
    · rw [List.all_append, g.low]
      rfl
    · rw [List.length_append]
      omega
    · rw [List.length_append]
      show cs.length + 1 ≤ 8
      omega
    · rw [List.any_append]
      exact Bool.or_eq_true_iff.mpr (.inr rfl)
end
end Dr
namespace Dr
open PySem PySem.Spec PyProof.Rows L2
open SX (S S_len S_cat)
section
variable {P : Program} {w : World} {K : PySem.W.Frag} {mg : Str → Option Value} {base : Heap}
theorem ok_others {kI : Nat} {C f fI : Addr} {fd fdI : FuncData} (F : Fun K "_law_others" "_law_others" sOthers f fd) (T : Prm K mg C) (hlen : mg "len" = none) (M : Mk K C fI) (FI : FP K fI fdI)
    (GI : FnOk P w K mg base CX0 kI fI fdI psP (spPInit K C)) : FnOk P w K mg base CX0 (kI + 2) f fd ["_law_name", "_law_sort", "_law_worth", "_law_only"] (spOthers C) := by
  refine F.ok scOthers (fun vs H Q E h => ?_) (fun cdv A outer s H vs Q E hr h => ?_)
  · obtain ⟨cs, hs, v, f, nd, rfl, _⟩ := h
    rfl
  · obtain ⟨cs, hs, v, f, nd, rfl, hg, hhs, hf, hfok, q⟩ := h
    have bA := bind_hdn FI
    obtain ⟨mvE, bE⟩ := bind_hn FI
    refine ⟨_, C8.pss_cut (ps_set (i := 4) scOthers.nd rfl (.inl rfl) (pe_lst (pa_cons (pe_makeK M GI hr (by rfl) T.mgC bA pass0
        (pa_cons (pe_ifExp (pt_cmpR op_gt (pe_callB call_len_str (by rfl) hlen PySem.boot_len (pa_cons (pv 0) pa_nil)) pe_int (nomark _))
          (pe_op op_add_str (pe_slice C8.sl_txt (pv 0) po_none (po_some (pe_un un_neg pe_int))) (pe_ifExp (pt_cmpR op_ne (pe_slice C8.sl_txt (pv 0) (po_some (pe_un un_neg pe_int)) po_none) pe_str (nomark _)) pe_str pe_str))
          (pe_op op_add_str (pv 0) pe_str)) pa_nil)
        (pk_cons (pv 1) (pk_cons (pv 2) (pk_cons (pv 3) pk_nil)))) pa_nil)))
      (C8.pss_cut (ps_expr (pe_bm PySem.F.plainAttrs_list PySem.F.slot_list_append PySem.F.type_list_append mt_append (pv 4) (pa_cons (pe_makeK M GI hr (by rfl) T.mgC bA pass0 (pa_cons (pv 0) pa_nil) (pk_cons (pv 1) (pk_cons (pv 2) (pk_cons (pe_not (pv 3)) pk_nil)))) pa_nil)))
      (C8.pss_cut (ps_if (pt_cmpR op_notN (pv 2) pe_non (nomark _))
        (pss_cons (ps_expr (pe_bm PySem.F.plainAttrs_list PySem.F.slot_list_append PySem.F.type_list_append mt_append (pv 4) (pa_cons (pe_makeK M GI hr (by rfl) T.mgC bE pass0 (pa_cons (pv 0) pa_nil) (pk_cons (pv 1) (pk_cons (pv 3) pk_nil))) pa_nil)))
        (pss_one (ps_if (pt_cmpR op_in_seq (pe_ix ix_tup (pv 2) pe_int (fun _ _ => rfl)) (pe_lst (pa_cons pe_str (pa_cons pe_str pa_nil))) rfl)
          (pss_cons (ps_set (i := 5) scOthers.nd rfl (.inl rfl) (pe_ifExp (pt_cmpR op_eq (pe_ix ix_tup (pv 2) pe_int (fun _ _ => rfl)) pe_str (nomark _)) pe_str pe_str))
          (pss_one (ps_expr (pe_bm PySem.F.plainAttrs_list PySem.F.slot_list_append PySem.F.type_list_append mt_append (pv 4) (pa_cons (pe_makeK M GI hr (by rfl) T.mgC bA pass0 (pa_cons (pv 0) pa_nil)
            (pk_cons (pv 1) (pk_cons (pe_tup (pa_cons (pv 5) (pa_cons (pe_ix ix_tup (pv 2) pe_int (fun _ _ => rfl)) pa_nil))) (pk_cons (pv 3) pk_nil)))) pa_nil))))) pss_nil)))
        (pss_one (ps_expr (pe_bm PySem.F.plainAttrs_list PySem.F.slot_list_append PySem.F.type_list_append mt_append (pv 4) (pa_cons (pe_makeK M GI hr (by rfl) T.mgC bE pass0 (pa_cons (pv 0) pa_nil)
          (pk_cons (pe_ifExp (pt_cmpR op_eq (pv 1) pe_str (nomark _)) pe_str pe_str) (pk_cons (pv 3) pk_nil))) pa_nil)))))
      (pss_one (ps_ret (pv 4))))), ?_⟩
    have hok : OkD (.str (S cs)) := okD_sms (sms_good hg)
    have hz : (S cs).length ≤ sizeLine := by
      rw [S_len]
      have := hg.hi
      exact Nat.le_of_lt (small1000 (by omega))
    -- the first: another name
    refine ⟨fun σ' H' => ∃ l b, σ' = [some (.str (S cs)), some (.str hs), some v, some (.bl nd), some (.ref l), none] ∧ Grow C H H' l [b] (S cs) hs f.data nd, ?_, fun σ' H' hM => ?_⟩
    · have hlo := hg.lo
      have hne : cs ≠ [] := fun e => by
        rw [e] at hlo
        exact absurd hlo (by decide)
      refine ⟨_, rfl, S cs, rfl, hz, _, _, rfl, rfl, _, rfl, ite2 (fun k => ?_) (fun k => ?_)⟩
      · have h7 : 7 < cs.length := by
          have := of_decide_eq_true k
          rw [S_len] at this
          omega
        have e1 := SX.slice_butlast hne
        have e2 := SX.slice_last hne
        refine ⟨_, rfl, 1, rfl, -1, rfl, S cs, rfl, hz, _, rfl, 1, rfl, -1, rfl, S cs, rfl, hz, rfl, _, rfl, ite2 (fun k2 => ?_) (fun k2 => ?_)⟩
        · have h2 : cs.drop (cs.length - 1) ≠ [122] := fun e => by
            rw [e] at e2
            rw [e2] at k2
            exact absurd k2 (by decide +kernel)
          refine ⟨S (cs.take (cs.length - 1)), S [122], congrArg V.str e1, congrArg V.str (by decide +kernel), ?_, ?_⟩
          · rw [S_len, S_len, List.length_take]
            have := hg.hi
            exact Nat.le_of_lt (small1000 (by show min (cs.length - 1) cs.length + 1 ≤ 1000; omega))
          rw [S_cat, show cs.take (cs.length - 1) ++ [122] = bent cs by unfold bent; rw [if_pos h7, if_neg h2]]
          refine ⟨_, rfl, _, rfl, _, rfl, rfl, rfl, fun x dx hx hdx ne => par_made hx hdx (bent_good hg).ok (okD_sms (sms_good (bent_good hg))) hhs (dflOk_of hf hfok) fun H3 s3 hp3 => ⟨rfl, by show 1 ≤ sizeLine; decide, fun l nl => ⟨l, .ref x, rfl, s3.trans (same_upd nl), s3.free nl, upd_same, fun b hb => ?_⟩⟩⟩
          rcases List.mem_cons.mp hb with rfl | hb
          · obtain ⟨dy, hp3⟩ := hp3
            exact ⟨x, S (bent cs), hs, v, f, nd, rfl, ⟨dy, same_upd nl _ _ hp3⟩, (hf.same s3).same (same_upd nl), Df.okD hfok, by rw [decide_eq_false (fun e => bent_ne (SX.S_inj e))]; rfl⟩
          · cases hb
        · have h2 : cs.drop (cs.length - 1) = [122] := by
            have e : Txt.slice (S cs) (some (-1)) none = ("z" : Str) := by simpa using k2
            rw [e2] at e
            exact SX.S_inj (e.trans (show ("z" : Str) = S [122] by decide +kernel))
          refine ⟨S (cs.take (cs.length - 1)), S [113], congrArg V.str e1, congrArg V.str (by decide +kernel), ?_, ?_⟩
          · rw [S_len, S_len, List.length_take]
            have := hg.hi
            exact Nat.le_of_lt (small1000 (by show min (cs.length - 1) cs.length + 1 ≤ 1000; omega))
          rw [S_cat, show cs.take (cs.length - 1) ++ [113] = bent cs by unfold bent; rw [if_pos h7, if_pos h2]]
          refine ⟨_, rfl, _, rfl, _, rfl, rfl, rfl, fun x dx hx hdx ne => par_made hx hdx (bent_good hg).ok (okD_sms (sms_good (bent_good hg))) hhs (dflOk_of hf hfok) fun H3 s3 hp3 => ⟨rfl, by show 1 ≤ sizeLine; decide, fun l nl => ⟨l, .ref x, rfl, s3.trans (same_upd nl), s3.free nl, upd_same, fun b hb => ?_⟩⟩⟩
          rcases List.mem_cons.mp hb with rfl | hb
          · obtain ⟨dy, hp3⟩ := hp3
            exact ⟨x, S (bent cs), hs, v, f, nd, rfl, ⟨dy, same_upd nl _ _ hp3⟩, (hf.same s3).same (same_upd nl), Df.okD hfok, by rw [decide_eq_false (fun e => bent_ne (SX.S_inj e))]; rfl⟩
          · cases hb
      · have h7 : ¬ 7 < cs.length := fun h => k (decide_eq_true (by rw [S_len]; omega))
        refine ⟨_, rfl, S cs, S [113], rfl, congrArg V.str (by decide +kernel), ?_, ?_⟩
        · rw [S_len, S_len]
          have := hg.hi
          exact Nat.le_of_lt (small1000 (by show cs.length + 1 ≤ 1000; omega))
        rw [S_cat, show cs ++ [113] = bent cs by unfold bent; rw [if_neg h7]]
        refine ⟨_, rfl, _, rfl, _, rfl, rfl, rfl, fun x dx hx hdx ne => par_made hx hdx (bent_good hg).ok (okD_sms (sms_good (bent_good hg))) hhs (dflOk_of hf hfok) fun H3 s3 hp3 => ⟨rfl, by show 1 ≤ sizeLine; decide, fun l nl => ⟨l, .ref x, rfl, s3.trans (same_upd nl), s3.free nl, upd_same, fun b hb => ?_⟩⟩⟩
        rcases List.mem_cons.mp hb with rfl | hb
        · obtain ⟨dy, hp3⟩ := hp3
          exact ⟨x, S (bent cs), hs, v, f, nd, rfl, ⟨dy, same_upd nl _ _ hp3⟩, (hf.same s3).same (same_upd nl), Df.okD hfok, by rw [decide_eq_false (fun e => bent_ne (SX.S_inj e))]; rfl⟩
        · cases hb
    obtain ⟨l, b1, rfl, g1⟩ := hM
    -- the second: named or not
    refine ⟨fun σ' H2 => ∃ b2, σ' = [some (.str (S cs)), some (.str hs), some v, some (.bl nd), some (.ref l), none] ∧ Grow C H H2 l [b1, b2] (S cs) hs f.data nd, ?_, fun σ' H2 hM => ?_⟩
    · refine ⟨_, rfl, .inl ⟨rfl, _, SqL.of g1.at_⟩, _, rfl, _, rfl, _, rfl, _, rfl, nd, rfl, rfl, rfl, fun x dx hx hdx ne => par_made hx hdx hg.ok hok hhs (dflOk_of (hf.same g1.sm) hfok) fun H3 s3 hp3 => ⟨rfl, l, _, _, rfl, rfl, s3 _ _ g1.at_, by show 1 < sizeLine; decide, .ref x, rfl, g1.app s3 ⟨x, S cs, hs, v, f, !nd, rfl, hp3, (hf.same g1.sm).same s3, Df.okD hfok, ?_⟩⟩⟩
      cases nd <;> simp
    obtain ⟨b2, rfl, g2⟩ := hM
    refine ⟨fun σ' H3 => ∃ bs y, σ' = [some (.str (S cs)), some (.str hs), some v, some (.bl nd), some (.ref l), y] ∧ Grow C H H3 l bs (S cs) hs f.data nd ∧ bs.length ≤ 10, ?_, fun σ' H3 hM => ?_⟩
    · cases f with
      | non =>
        obtain rfl := hf
        refine ⟨_, rfl, rfl, _, rfl, ite2 (fun k => absurd k (by simp)) (fun _ => ?_)⟩
        refine ⟨_, rfl, .inl ⟨rfl, _, SqL.of g2.at_⟩, _, rfl, _, rfl, rfl, _, rfl, ite2 (fun k => ?_) (fun k => ?_)⟩
        · have em : hs = "mark" := V.str.inj (of_decide_eq_true k)
          exact ⟨_, rfl, rfl, rfl, fun x dx hx hdx ne => par_made hx hdx hg.ok hok (.inr rfl) dflOk_none fun H3 s3 hp3 => ⟨rfl, l, _, _, rfl, rfl, s3 _ _ g2.at_, by show 2 < sizeLine; decide, _, none, rfl, g2.app s3 ⟨x, S cs, "box", .non, .non, nd, rfl, hp3, rfl, ⟨rfl, rfl⟩, by rw [em, decide_eq_false (show ¬ (("mark" : Str) = "box") by decide +kernel)]; simp⟩, by show 3 ≤ 10; decide⟩⟩
        · have em : hs = "box" := by
            rcases hhs with e | e
            · exact absurd (decide_eq_true (by rw [e])) k
            · exact e
          exact ⟨_, rfl, rfl, rfl, fun x dx hx hdx ne => par_made hx hdx hg.ok hok (.inl rfl) dflOk_none fun H3 s3 hp3 => ⟨rfl, l, _, _, rfl, rfl, s3 _ _ g2.at_, by show 2 < sizeLine; decide, _, none, rfl, g2.app s3 ⟨x, S cs, "mark", .non, .non, nd, rfl, hp3, rfl, ⟨rfl, rfl⟩, by rw [em, decide_eq_false (show ¬ (("box" : Str) = "mark") by decide +kernel)]; simp⟩, by show 3 ≤ 10; decide⟩⟩
      | mk o =>
        obtain ⟨t, rfl, ht⟩ := hf
        refine ⟨_, rfl, rfl, _, rfl, ite2 (fun _ => ?_) (fun k => absurd (by simp) k)⟩
        refine ⟨_, rfl, .inl ⟨rfl, _, SqL.of g2.at_⟩, _, rfl, _, rfl, _, rfl, rfl, rfl, fun x dx hx hdx ne => par_made hx hdx hg.ok hok hhs dflOk_none fun H3 s3 hp3 => ⟨rfl, l, _, _, rfl, rfl, s3 _ _ g2.at_, by show 2 < sizeLine; decide, ?_⟩⟩
        have g3 := g2.app s3 (b := .ref x) ⟨x, S cs, hs, .non, .non, nd, rfl, hp3, rfl, ⟨rfl, rfl⟩, by rw [show PyData.eqv (.mk o : Df).data Df.non.data = false from rfl]; simp⟩
        have ht4 : (upd H3 l (.lst ([b1, b2] ++ [.ref x]))) t = _ := g3.sm _ _ ht
        refine ⟨_, rfl, t, _, 0, _, rfl, rfl, SqT.of ht4, atI_nat (j := 0) rfl, two_le, fun m nm => ⟨m, _, rfl, .inl (SqL.of upd_same), rfl, rfl, _, rfl, ?_⟩⟩
        have g4 := g3.same (same_upd (o := .lst [.str "once", .str "anew"]) nm)
        refine ite2 (fun k => absurd k ?_) (fun _ => ⟨_, none, rfl, g4, by show 3 ≤ 10; decide⟩)
        decide +kernel
      | its w zs =>
        obtain ⟨t, u, rfl, ht, hu⟩ := hf
        refine ⟨_, rfl, rfl, _, rfl, ite2 (fun _ => ?_) (fun k => absurd (by simp) k)⟩
        refine ⟨_, rfl, .inl ⟨rfl, _, SqL.of g2.at_⟩, _, rfl, _, rfl, _, rfl, rfl, rfl, fun x dx hx hdx ne => par_made hx hdx hg.ok hok hhs dflOk_none fun H3 s3 hp3 => ⟨rfl, l, _, _, rfl, rfl, s3 _ _ g2.at_, by show 2 < sizeLine; decide, ?_⟩⟩
        have g3 := g2.app s3 (b := .ref x) ⟨x, S cs, hs, .non, .non, nd, rfl, hp3, rfl, ⟨rfl, rfl⟩, by rw [show PyData.eqv (.its w zs : Df).data Df.non.data = false from rfl]; simp⟩
        have ht4 : (upd H3 l (.lst ([b1, b2] ++ [.ref x]))) t = _ := g3.sm _ _ ht
        refine ⟨_, rfl, t, _, 0, _, rfl, rfl, SqT.of ht4, atI_nat (j := 0) rfl, two_le, fun m nm => ⟨m, _, rfl, .inl (SqL.of upd_same), rfl, rfl, _, rfl, ?_⟩⟩
        have g4 := g3.same (same_upd (o := .lst [.str "once", .str "anew"]) nm)
        obtain ⟨ehs, hw, hzs⟩ := hfok
        have ht5 := same_upd (o := .lst [.str "once", .str "anew"]) nm _ _ ht4
        have hu5 := g4.sm _ _ hu
        generalize (upd (upd H3 l (.lst ([b1, b2] ++ [.ref x]))) m (.lst [.str "once", .str "anew"])) = H4 at g4 ht5 hu5 ⊢
        refine ite2 (fun _ => ?_) (fun k => absurd ?_ k)
        · refine ⟨_, rfl, t, _, 0, _, rfl, rfl, SqT.of ht5, atI_nat (j := 0) rfl, rfl, _, rfl, ?_⟩
          rcases hw with rfl | rfl
          · refine ite2 (fun _ => ?_) (fun k => absurd (by simp) k)
            refine ⟨_, rfl, .inl ⟨rfl, _, SqL.of g4.at_⟩, _, rfl, _, rfl, _, rfl, _, rfl, t, _, 1, _, rfl, rfl, SqT.of ht5, atI_nat (j := 1) rfl, two_le, fun t2 nt2 => ⟨_, rfl, rfl, rfl, fun x2 dx2 hx2 hdx2 ne2 => ?_⟩⟩
            have s5 := same_upd (o := .tup [.str "anew", .ref u]) nt2
            have hD : DfAt (upd H4 t2 (.tup [.str "anew", .ref u])) (.ref t2) (.its "anew" zs) := ⟨t2, u, rfl, upd_same, s5 _ _ hu5⟩
            have hK : Df.ok hs (.its "anew" zs) := ⟨ehs, .inr rfl, hzs⟩
            have g5 := g4.same s5
            refine par_made hx2 hdx2 hg.ok hok hhs (dflOk_of hD hK) fun H6 s6 hp6 => ⟨rfl, l, _, _, rfl, rfl, s6 _ _ g5.at_, by show 3 < sizeLine; decide, _, some (.str "anew"), rfl, g5.app s6 ⟨x2, S cs, hs, .ref t2, .its "anew" zs, nd, rfl, hp6, hD.same s6, Df.okD hK, ?_⟩, by show 4 ≤ 10; decide⟩
            have e : PyData.eqv (Df.its "once" zs).data (Df.its "anew" zs).data = false := by
              show ((("once" : Str) == ("anew" : Str)) && PyData.eqvAll [PyData.tuple (zs.map PyData.str)] [PyData.tuple (zs.map PyData.str)]) = false
              rw [show (("once" : Str) == ("anew" : Str)) = false by decide +kernel]
              rfl
            rw [e]
            simp
          · refine ite2 (fun k => absurd k (by decide +kernel)) (fun _ => ?_)
            refine ⟨_, rfl, .inl ⟨rfl, _, SqL.of g4.at_⟩, _, rfl, _, rfl, _, rfl, _, rfl, t, _, 1, _, rfl, rfl, SqT.of ht5, atI_nat (j := 1) rfl, two_le, fun t2 nt2 => ⟨_, rfl, rfl, rfl, fun x2 dx2 hx2 hdx2 ne2 => ?_⟩⟩
            have s5 := same_upd (o := .tup [.str "once", .ref u]) nt2
            have hD : DfAt (upd H4 t2 (.tup [.str "once", .ref u])) (.ref t2) (.its "once" zs) := ⟨t2, u, rfl, upd_same, s5 _ _ hu5⟩
            have hK : Df.ok hs (.its "once" zs) := ⟨ehs, .inl rfl, hzs⟩
            have g5 := g4.same s5
            refine par_made hx2 hdx2 hg.ok hok hhs (dflOk_of hD hK) fun H6 s6 hp6 => ⟨rfl, l, _, _, rfl, rfl, s6 _ _ g5.at_, by show 3 < sizeLine; decide, _, some (.str "once"), rfl, g5.app s6 ⟨x2, S cs, hs, .ref t2, .its "once" zs, nd, rfl, hp6, hD.same s6, Df.okD hK, ?_⟩, by show 4 ≤ 10; decide⟩
            have e : PyData.eqv (Df.its "anew" zs).data (Df.its "once" zs).data = false := by
              show ((("anew" : Str) == ("once" : Str)) && PyData.eqvAll [PyData.tuple (zs.map PyData.str)] [PyData.tuple (zs.map PyData.str)]) = false
              rw [show (("anew" : Str) == ("once" : Str)) = false by decide +kernel]
              rfl
            rw [e]
            simp
        · rcases hw with rfl | rfl <;> decide +kernel
      | seat w o y0 =>
        obtain ⟨t, rfl, ht⟩ := hf
        refine ⟨_, rfl, rfl, _, rfl, ite2 (fun _ => ?_) (fun k => absurd (by simp) k)⟩
        refine ⟨_, rfl, .inl ⟨rfl, _, SqL.of g2.at_⟩, _, rfl, _, rfl, _, rfl, rfl, rfl, fun x dx hx hdx ne => par_made hx hdx hg.ok hok hhs dflOk_none fun H3 s3 hp3 => ⟨rfl, l, _, _, rfl, rfl, s3 _ _ g2.at_, by show 2 < sizeLine; decide, ?_⟩⟩
        have g3 := g2.app s3 (b := .ref x) ⟨x, S cs, hs, .non, .non, nd, rfl, hp3, rfl, ⟨rfl, rfl⟩, by rw [show PyData.eqv (.seat w o y0 : Df).data Df.non.data = false from rfl]; simp⟩
        have ht4 : (upd H3 l (.lst ([b1, b2] ++ [.ref x]))) t = _ := g3.sm _ _ ht
        refine ⟨_, rfl, t, _, 0, _, rfl, rfl, SqT.of ht4, atI_nat (j := 0) rfl, two_le, fun m nm => ⟨m, _, rfl, .inl (SqL.of upd_same), rfl, rfl, _, rfl, ?_⟩⟩
        have g4 := g3.same (same_upd (o := .lst [.str "once", .str "anew"]) nm)
        refine ite2 (fun k => absurd k ?_) (fun _ => ⟨_, none, rfl, g4, by show 3 ≤ 10; decide⟩)
        rcases hfok.2.1 with ⟨e, _⟩ | ⟨e, _⟩ <;> (rw [e]; decide +kernel)
    obtain ⟨bs, y, rfl, g3, hbl⟩ := hM
    exact ⟨_, rfl, q _ l bs g3.sm g3.new g3.at_ hbl g3.all⟩
end
end Dr
namespace Dr
open PySem PySem.Spec PyProof.Rows L2
open SX (S S_len S_cat)
abbrev sLaw : Stmt := topS 29
theorem scLaw : FnScope ["_law_script", "_law_at", "_law_bag_here", "_law_names_here", "_law_sort", "_law_worth", "_law_only", "_law_one", "_law_bare", "_law_other"] ["_law_script"] (defScope sLaw) := ⟨rfl, rfl, rfl, by decide +kernel, rfl, by decide +kernel, by decide +kernel⟩
theorem Df.depth {hs : Str} : ∀ {f : Df}, f.ok hs → f.data.depth ≤ 2
  | .non, _ => by decide
  | .mk o, _ => by show 1 ≤ 2; decide
  | .its w zs, h => by
    show max 0 (max (PyData.depthAll (zs.map PyData.str) + 1) 0) + 1 ≤ 2
    rw [(canAll_strs h.2.2.sm).2.2]
    decide
  | .seat w o x, _ => by show 1 ≤ 2; decide
theorem DfAt.kp {p : Addr} {H H' : Hp} {v : V} (b : Bag H p) (k : Kp p H H') : ∀ {f : Df}, DfAt H v f → DfAt H' v f := by
  obtain ⟨u0, v0, hp, _⟩ := b
  have key : ∀ {t : Addr} {xs : List V}, H t = some (.tup xs) → H' t = some (.tup xs) := fun {t xs} h => k.1 _ _ (fun e => by rw [e, hp] at h; cases h) h
  intro f h
  cases f with
  | non => exact h
  | mk o => exact let ⟨t, e, h⟩ := h; ⟨t, e, key h⟩
  | its w zs => exact let ⟨t, u, e, h, h2⟩ := h; ⟨t, u, e, key h, key h2⟩
  | seat w o x => exact let ⟨t, e, h⟩ := h; ⟨t, e, key h⟩
theorem Kp.sameN {p : Addr} {H H1 H2 : Hp} (n : H p = none) (s : Same H H1) (k : Kp p H1 H2) : Same H H2 := fun b o e => k.1 _ _ (ne_of_none e n) (s _ _ e)
theorem ParAt.same {C : Addr} {H H' : Hp} {a : Addr} {nm hs : Str} {v : V} {nd : Bool} (s : Same H H') (h : ParAt C H a nm hs v nd) : ParAt C H' a nm hs v nd := by
  obtain ⟨dx, h⟩ := h
  exact ⟨dx, s _ _ h⟩
/-- the four parts of a parameter, as a list's data -/
def partsD (nm hs : Str) (d : PyData) (nd : Bool) : List PyData := [.str nm, .str hs, d, .bool nd]
theorem parts_ok {cs : List Nat} {hs : Str} {f : Df} {nd : Bool} (g : GoodN cs) (hh : hs = "mark" ∨ hs = "box") (ok : f.ok hs) : SeqAt.shaped (.list (partsD (S cs) hs f.data nd)) = true ∧ SeqAt.shaped (.tuple (partsD (S cs) hs f.data nd)) = true := by
  have h1 := (sms_good g).ok
  have h2 : PyData.strOk hs = true := by
    rcases hh with rfl | rfl <;> decide +kernel
  have h3 := SeqAt.canLay_of_shaped (Df.okD ok).sh
  have h4 := Df.depth ok
  have hc : PyData.canLayAll0 (partsD (S cs) hs f.data nd) = true := by
    show (PyData.strOk (S cs) && (PyData.strOk hs && (f.data.canLay0 && true))) = true
    rw [h1, h2, h3]
    rfl
  have hd : PyData.depthAll (partsD (S cs) hs f.data nd) + 1 ≤ 64 := by
    show max 0 (max 0 (max f.data.depth (max 0 0))) + 1 ≤ 64
    omega
  have e : (PyData.canLayAll0 (partsD (S cs) hs f.data nd) && decide (PyData.depthAll (partsD (S cs) hs f.data nd) + 1 ≤ 64)) = true := by
    rw [hc, decide_eq_true hd]
    rfl
  exact ⟨e, e⟩
theorem dp_parts {K : PySem.W.Frag} {H : Hp} {cs : List Nat} {hs : Str} {v : V} {f : Df} {nd : Bool} (h : DfAt H v f) : DpAll K H [.str (S cs), .str hs, v, .bl nd] (partsD (S cs) hs f.data nd) := .cons (.str _) (.cons (.str _) (.cons h.dp (.cons (.bl _) .nil)))
section
variable {P : Program} {w : World} {K : PySem.W.Frag} {mg : Str → Option Value} {base : Heap}
structure BltL (mg : Str → Option Value) : Prop where
  range : mg "range" = none
  max : mg "max" = none
  min : mg "min" = none
  bool : mg "bool" = none
structure EqT (K : PySem.W.Frag) (C g : Addr) : Prop where
  eq : PySem.W.findIn K (.ref C) "__eq__" = some (some (.ref g))
  fn : PySem.W.isFn K (.ref g) = true
  ne : PySem.W.findIn K (.ref C) "__ne__" = some (some (.builtin "object.__ne__"))
def spLaw (K : PySem.W.Frag) : Sp := fun vs H Q _ => ∃ (a : Addr) (ns : List Int), vs = [.ref a] ∧ SqL K H a (ns.map V.int) ∧ ns.length ≤ 63 ∧ ∀ H', Q (.bl true) H'
theorem ok_law {kI : Nat} {C f fB fT fO fN fD fX fI fE : Addr} {fd fdB fdT fdO fdN fdD fdX fdI fdE : FuncData} (F : Fun K "law" "law" sLaw f fd) (T : Prm K mg C) (W : Wds K mg) (B : Blt mg) (L : BltL mg) (M : Mk K C fI) (FI : FP K fI fdI) (EQ : EqT K C fE)
    (GI : FnOk P w K mg base CX0 kI fI fdI psP (spPInit K C)) (GE : FnOk P w K mg base CX0 1 fE fdE ["self", "other"] (spPEq K C)) (bE : Binds K fdE ["self", "other"] [])
    (GB : FnOk P w K mg base CX0 1 fB fdB ["_law_script", "_law_at"] (spBag K)) (mB : mg "_law_bag" = some (.ref fB)) (kB : PySem.W.keepIn K (.ref fB) = true) (bB : Binds K fdB ["_law_script", "_law_at"] [])
    (GT : FnOk P w K mg base CX0 1 fT fdT ["_law_bag_here", "_law_many"] spTake) (mT : mg "_law_take" = some (.ref fT)) (kT : PySem.W.keepIn K (.ref fT) = true) (bT : Binds K fdT ["_law_bag_here", "_law_many"] [])
    (GO : FnOk P w K mg base CX0 2 fO fdO ["_law_bag_here", "_law_some"] (spOf K)) (mO : mg "_law_of" = some (.ref fO)) (kO : PySem.W.keepIn K (.ref fO) = true) (bO : Binds K fdO ["_law_bag_here", "_law_some"] [])
    (GN : FnOk P w K mg base CX0 3 fN fdN ["_law_bag_here", "_law_many"] (spNames K)) (mN : mg "_law_names" = some (.ref fN)) (kN : PySem.W.keepIn K (.ref fN) = true) (bN : Binds K fdN ["_law_bag_here", "_law_many"] [])
    (GD : FnOk P w K mg base CX0 3 fD fdD ["_law_bag_here", "_law_sort", "_law_names_here"] spDefault) (mD : mg "_law_default" = some (.ref fD)) (kD : PySem.W.keepIn K (.ref fD) = true) (bD : Binds K fdD ["_law_bag_here", "_law_sort", "_law_names_here"] [])
    (GX : FnOk P w K mg base CX0 (kI + 2) fX fdX ["_law_name", "_law_sort", "_law_worth", "_law_only"] (spOthers C)) (mX : mg "_law_others" = some (.ref fX)) (kX : PySem.W.keepIn K (.ref fX) = true) (bX : Binds K fdX ["_law_name", "_law_sort", "_law_worth", "_law_only"] [])
    (h3 : 3 ≤ kI) : FnOk P w K mg base CX0 (kI + 3) f fd ["_law_script"] (spLaw K) := by
  refine F.ok scLaw (fun vs H Q E h => ?_) (fun cdv A outer s H vs Q E hr h => ?_)
  · obtain ⟨a, ns, rfl, _⟩ := h
    rfl
  · obtain ⟨a, ns, rfl, hS, hlen, q⟩ := h
    have hu : (A.deeper (envOfC "law" (defScope sLaw) s.heap.objs.size f cdv)).units + 64 < cLine := hr.units
    have hr1 : Room 1 _ := hr.mono (by omega)
    have hr2 : Room 2 _ := hr.mono (by omega)
    have hr3 : Room 3 _ := hr.mono (by omega)
    have hrI : Room (kI + 1) _ := hr.mono (by omega)
    have bA := bind_hdn FI
    have bC := bind_ndh FI
    obtain ⟨ds0, vds0, b0⟩ := bind_0 FI
    refine ⟨_, pss_cons (ps_for PassesOwn.never rfl (pi_range1 rfl L.range (pa_cons (pe_callB (call_max2 rfl) (by rfl) L.max (by decide +kernel) (pa_cons pe_int (pa_cons (pe_callB (call_min2 rfl) (by rfl) L.min (by decide +kernel) (pa_cons pe_int (pa_cons (pe_callB call_len_seq (by rfl) W.len PySem.boot_len (pa_cons (pv 0) pa_nil)) pa_nil))) pa_nil))) pa_nil)) (pg_name (i := 1) scLaw.nd rfl (.inl rfl))
      (pss_cons (ps_set (i := 2) scLaw.nd rfl (.inl rfl) (pe_call GB hr1 (by rfl) mB kB bB .nil pass0 (pa_cons (pv 0) (pa_cons (pv 1) pa_nil))))
      (pss_cons (ps_par (i := 3) (j := 4) (by rfl) scLaw.nd rfl rfl (by decide) rfl rfl (pa_cons (pe_call GN hr3 (by rfl) mN kN bN .nil pass0 (pa_cons (pv 2) (pa_cons pe_int pa_nil))) (pa_cons (pe_call GO hr2 (by rfl) mO kO bO .nil pass0 (pa_cons (pv 2) (pa_cons (pe_lst (pa_cons pe_str (pa_cons pe_str pa_nil))) pa_nil))) pa_nil)) (by rfl))
      (pss_cons (ps_par (i := 5) (j := 6) (by rfl) scLaw.nd rfl rfl (by decide) rfl rfl (pa_cons (pe_call GD hr3 (by rfl) mD kD bD .nil pass0 (pa_cons (pv 2) (pa_cons (pv 4) (pa_cons (pv 3) pa_nil)))) (pa_cons (pe_cmpR op_eq (pe_call GT hr1 (by rfl) mT kT bT .nil pass0 (pa_cons (pv 2) (pa_cons pe_int pa_nil))) pe_int (nomark _)) pa_nil)) (by rfl))
      (pss_cons (ps_set (i := 7) scLaw.nd rfl (.inl rfl) (pe_makeK M GI hrI (by rfl) T.mgC bA pass0 (pa_cons (pe_ix ix_list (pv 3) pe_int (fun _ _ => rfl)) pa_nil) (pk_cons (pv 4) (pk_cons (pv 5) (pk_cons (pv 6) pk_nil)))))
      (pss_cons (ps_if (pt_cmpR (op_neD hu) (pe_lst (pa_cons (pe_fld (pv 7) rfl) (pa_cons (pe_fld (pv 7) rfl) (pa_cons (pe_fld (pv 7) rfl) (pa_cons (pe_fld (pv 7) rfl) pa_nil))))) (pe_lst (pa_cons (pe_ix ix_list (pv 3) pe_int (fun _ _ => rfl)) (pa_cons (pv 4) (pa_cons (pv 5) (pa_cons (pv 6) pa_nil))))) (nomark _)) (pss_one (ps_ret pe_bl)) pss_nil)
      (pss_cons (ps_if (pt_not (pt_val (pe_callB call_isi (by rfl) W.isi (by decide +kernel) (pa_cons (pe_fld (pv 7) rfl) (pa_cons (pe_bltn (v := .ty "bool") (by rfl) L.bool (by decide +kernel) rfl) pa_nil))))) (pss_one (ps_ret pe_bl)) pss_nil)
      (pss_cons (ps_set (i := 8) scLaw.nd rfl (.inl rfl) (pe_make M GI hrI (by rfl) T.mgC b0 vds0 pass0 (pa_cons (pe_ix ix_list (pv 3) pe_int (fun _ _ => rfl)) pa_nil)))
      (pss_cons (ps_if (PW.pt (pw_or (pt_cmpR (op_neD hu) (pe_lst (pa_cons (pe_fld (pv 8) rfl) (pa_cons (pe_fld (pv 8) rfl) pa_nil))) (pe_lst (pa_cons (pe_ix ix_list (pv 3) pe_int (fun _ _ => rfl)) (pa_cons pe_str pa_nil))) (nomark _))
          (pw_or (pt_cmpR op_notN (pe_fld (pv 8) rfl) pe_non (nomark _)) (pw_or1 (pt_cmpR op_isnot_bl (pe_fld (pv 8) rfl) pe_bl (nomark _)))))) (pss_one (ps_ret pe_bl)) pss_nil)
      (pss_cons (ps_if (pt_not (pt_cmpR (op_eqI EQ.eq EQ.fn GE hr1 bE pass0) (pv 7) (pe_makeK M GI hrI (by rfl) T.mgC bC pass0 (pa_cons (pe_ix ix_list (pv 3) pe_int (fun _ _ => rfl)) pa_nil) (pk_cons (pv 6) (pk_cons (pv 5) (pk_cons (pv 4) pk_nil)))) (nomark _))) (pss_one (ps_ret pe_bl)) pss_nil)
      (pss_cons (ps_if (PW.pt (pw_or (pt_cmpR (op_eqI EQ.eq EQ.fn GE hr1 bE pass0) (pv 8) (pv 7) (nomark _)) (pw_or (pt_cmpR (op_eqI EQ.eq EQ.fn GE hr1 bE pass0) (pv 7) (pe_ix ix_list (pv 3) pe_int (fun _ _ => rfl)) (nomark _))
          (pw_or1 (pt_cmpR (op_eqI EQ.eq EQ.fn GE hr1 bE pass0) (pv 7) (pe_tup (pa_cons (pe_ix ix_list (pv 3) pe_int (fun _ _ => rfl)) (pa_cons (pv 4) (pa_cons (pv 5) (pa_cons (pv 6) pa_nil))))) (nomark _)))))) (pss_one (ps_ret pe_bl)) pss_nil)
      (pss_one (ps_for PassesOwn.never rfl (pi_list (pe_call GX hr (by rfl) mX kX bX .nil pass0 (pa_cons (pe_ix ix_list (pv 3) pe_int (fun _ _ => rfl)) (pa_cons (pv 4) (pa_cons (pv 5) (pa_cons (pv 6) pa_nil)))))) (pg_name (i := 9) scLaw.nd rfl (.inl rfl))
        (pss_one (ps_if (PW.pt (pw_or (pt_cmpR (op_eqI EQ.eq EQ.fn GE hr1 bE pass0) (pv 7) (pv 9) (nomark _)) (pw_or1 (pt_not (pt_cmpR (op_neI EQ.eq EQ.fn EQ.ne T.hm GE hr2 bE pass0) (pv 7) (pv 9) (nomark _)))))) (pss_one (ps_ret pe_bl)) pss_nil)))))))))))))))
      (pss_one (ps_ret pe_bl)), ?_⟩
    have hJ : ∀ n : Nat, 1 ≤ (if (if ((n : Nat) : Int) < 6 then ((n : Nat) : Int) else 6) > 1 then (if ((n : Nat) : Int) < 6 then ((n : Nat) : Int) else 6) else 1) ∧ (if (if ((n : Nat) : Int) < 6 then ((n : Nat) : Int) else 6) > 1 then (if ((n : Nat) : Int) < 6 then ((n : Nat) : Int) else 6) else 1) ≤ 6 := fun n => by
      split <;> split <;> omega
    refine ⟨_, rfl, a, _, rfl, .inl hS, _, _, rfl, _, _, rfl, _, rfl, ?_, ?_, ?_⟩
    · have := (hJ (ns.map V.int).length).1
      show -(2 ^ 62) ≤ _
      omega
    · have := (hJ (ns.map V.int).length).2
      show _ < 2 ^ 62
      omega
    have hJ2 := (hJ (ns.map V.int).length).2
    refine for_it walk_range (fun i σ H' => Same H H' ∧ ∃ y1 y2 y3 y4 y5 y6 y7 y8 y9 : Option V, σ = [some (.ref a), y1, y2, y3, y4, y5, y6, y7, y8, y9]) ⟨Same.refl _, none, none, none, none, none, none, none, none, none, rfl⟩ (fun _ _ _ _ _ => trivial) ?_ (fun σ H1 ⟨_, y1, y2, y3, y4, y5, y6, y7, y8, y9, e⟩ => q _)
    rintro i x σ Hs Ht hi ⟨sm0, y1, y2, y3, y4, y5, y6, y7, y8, y9, rfl⟩ ⟨rfl, rfl⟩
    have hi6 : i < 6 := by
      have : i < Int.toNat _ := hi
      omega
    -- the bag, the names, the sort
    refine ⟨_, rfl, _, rfl, a, ns, _, rfl, sm0.seq hS, hlen, by omega, by omega, fun Hb p sb np hB => ?_⟩
    refine ⟨_, rfl, p, 4, rfl, hB, by decide, fun Hc qn zs kc nq hq hl4 hnd hgood => ?_⟩
    have nqp := bag_ne hB nq
    refine ⟨_, rfl, two_le, fun l nl => ⟨p, .ref l, rfl, (kc.same (same_upd nl)).2, .inl ⟨l, _, rfl, bag_ne kc.2 nl, SqL.of upd_same, (by show 1 ≤ 2; decide), (by show 2 ≤ 1000; decide), fun Hd y kd hy => ?_⟩⟩⟩
    obtain ⟨hs, rfl, hhs⟩ : ∃ hs : Str, y = .str hs ∧ (hs = "mark" ∨ hs = "box") := by
      rcases List.mem_cons.mp hy with rfl | hy
      · exact ⟨_, rfl, .inl rfl⟩
      · rcases List.mem_cons.mp hy with rfl | hy
        · exact ⟨_, rfl, .inr rfl⟩
        · cases hy
    refine ⟨_, _, rfl, ?_⟩
    have kbd := (kc.same (same_upd (o := .lst [.str "mark", .str "box"]) nl)).trans kd
    have hqd : Hd qn = some (.lst (txts zs)) := kd.1 _ _ nqp (same_upd nl _ _ hq)
    -- the default, named or not
    refine ⟨_, rfl, _, rfl, _, rfl, p, qn, hs, zs, rfl, kd.2, nqp, hqd, by omega, by omega, hnd, hgood, hhs, fun He v f ke hf hfok => ?_⟩
    refine ⟨_, rfl, p, 2, rfl, ke.2, by decide, by decide, fun Hg r kg r0 r2 => ⟨rfl, ?_⟩⟩
    refine ⟨_, _, rfl, ?_⟩
    generalize decide (V.int r = V.int 0) = nd
    have hfg := hf.kp ke.2 kg
    have hqg : Hg qn = some (.lst (txts zs)) := kg.1 _ _ nqp (ke.1 _ _ nqp hqd)
    have sg : Same H Hg := sm0.trans (Kp.sameN np sb ((kbd.trans ke).trans kg))
    obtain ⟨z0, z1, z2, z3, rfl⟩ : ∃ z0 z1 z2 z3, zs = [z0, z1, z2, z3] := by
      match zs, hl4 with
      | [a, b, c, d], _ => exact ⟨a, b, c, d, rfl⟩
    have g0 : GoodN z0 := hgood z0 (by simp)
    have g1 : GoodN z1 := hgood z1 (by simp)
    have n01 : z1 ≠ z0 := fun e => by
      rw [e] at hnd
      simp at hnd
    have k0 : OkD (.str (S z0)) := okD_sms (sms_good g0)
    have k1 : OkD (.str (S z1)) := okD_sms (sms_good g1)
    have hok := Df.okD hfok
    -- the parameter
    refine ⟨_, rfl, qn, _, 0, .str (S z0), rfl, rfl, SqL.of hqg, atI_nat (j := 0) rfl, _, rfl, _, rfl, _, rfl, rfl, rfl, fun x dx hx hdx ne => par_made hx hdx g0.ok k0 hhs (dflOk_of hfg hfok) fun Hh sh hp => ⟨rfl, ?_⟩⟩
    have hqh := sh _ _ hqg
    have hfh := hfg.same sh
    obtain ⟨dp, hpx⟩ := id hp
    refine ⟨_, rfl, x, C, dp, _, _, rfl, hpx, T.cl, T.nN, pF_name, _, rfl, x, C, dp, _, _, rfl, hpx, T.cl, T.nH, pF_holds, _, rfl, x, C, dp, _, _, rfl, hpx, T.cl, T.nD, pF_default, _, rfl, x, C, dp, _, _, rfl, hpx, T.cl, T.nA, pF_named, (by show 4 ≤ sizeLine; decide), fun l1 nl1 => ?_⟩
    refine ⟨_, rfl, qn, _, 0, .str (S z0), rfl, rfl, SqL.of (same_upd nl1 _ _ hqh), atI_nat (j := 0) rfl, _, rfl, _, rfl, _, rfl, (by show 4 ≤ sizeLine; decide), fun l2 nl2 => ?_⟩
    have s12 := (same_upd (o := .lst [.str (S z0), .str hs, v, .bl nd]) nl1).trans (same_upd (o := .lst [.str (S z0), .str hs, v, .bl nd]) nl2)
    have hok2 := parts_ok (nd := nd) g0 hhs hfok
    refine ⟨.list (partsD (S z0) hs f.data nd), .list (partsD (S z0) hs f.data nd), .lst (SqL.of (same_upd nl2 _ _ upd_same)) (dp_parts (hfh.same s12)), .lst (SqL.of upd_same) (dp_parts (hfh.same s12)), hok2.1, hok2.1, _, rfl, ?_⟩
    rw [SeqAt.eqv_refl _ (SeqAt.canLay_of_shaped hok2.1)]
    refine iteF ?_
    have hp2 := hp.same s12
    have hq2 := s12 _ _ hqh
    have hf2 := hfh.same s12
    have sg2 := (sg.trans sh).trans s12
    generalize (upd (upd Hh l1 (.lst [.str (S z0), .str hs, v, .bl nd])) l2 (.lst [.str (S z0), .str hs, v, .bl nd])) = H2 at hp2 hq2 hf2 sg2 ⊢
    obtain ⟨dp2, hpx2⟩ := id hp2
    refine ⟨_, rfl, x, C, dp2, _, _, rfl, hpx2, T.cl, T.nA, pF_named, .bl nd, .ty "bool", _, _, _, rfl, .ty _, dp_ty (.bl nd), kit_bool _, _, rfl, ?_⟩
    refine iteF ?_
    -- the bare one
    refine ⟨_, rfl, qn, _, 1, .str (S z1), rfl, rfl, SqL.of hq2, atI_nat (j := 1) rfl, fun xb db hxb hdb neb => par_made (nm := S z1) (hs := "box") (v := .non) (d := .none) (nd := false) hxb hdb g1.ok k1 (.inr rfl) dflOk_none fun H3 s3 hb => ⟨rfl, ?_⟩⟩
    have hp3 := hp2.same s3
    have hq3 := s3 _ _ hq2
    have hf3 := hf2.same s3
    obtain ⟨de, hbx⟩ := id hb
    refine ⟨_, rfl, xb, C, de, _, _, rfl, hbx, T.cl, T.nN, pF_name, _, rfl, xb, C, de, _, _, rfl, hbx, T.cl, T.nH, pF_holds, two_le, fun l3 nl3 => ?_⟩
    refine ⟨_, rfl, qn, _, 1, .str (S z1), rfl, rfl, SqL.of (same_upd nl3 _ _ hq3), atI_nat (j := 1) rfl, two_le, fun l4 nl4 => ?_⟩
    have s34 := (same_upd (o := .lst [.str (S z1), .str "box"]) nl3).trans (same_upd (o := .lst [.str (S z1), .str "box"]) nl4)
    have hsh2 : SeqAt.shaped (.list [.str (S z1), .str "box"]) = true := by
      show ((PyData.strOk (S z1) && (PyData.strOk "box" && true)) && decide (max 0 (max 0 0) + 1 ≤ 64)) = true
      rw [(sms_good g1).ok, show PyData.strOk ("box" : Str) = true by decide +kernel]
      rfl
    refine ⟨.list [.str (S z1), .str "box"], .list [.str (S z1), .str "box"], .lst (SqL.of (same_upd nl4 _ _ upd_same)) (.cons (.str _) (.cons (.str _) .nil)), .lst (SqL.of upd_same) (.cons (.str _) (.cons (.str _) .nil)), hsh2, hsh2, _, rfl, ?_⟩
    rw [SeqAt.eqv_refl _ (SeqAt.canLay_of_shaped hsh2)]
    refine iteF ?_
    have hp4 := hp3.same s34
    have hq4 := s34 _ _ hq3
    have hf4 := hf3.same s34
    have hb4 := hb.same s34
    have sg4 := (sg2.trans s3).trans s34
    generalize (upd (upd H3 l3 (.lst [.str (S z1), .str "box"])) l4 (.lst [.str (S z1), .str "box"])) = H4 at hp4 hq4 hf4 hb4 sg4 ⊢
    obtain ⟨de4, hbx4⟩ := id hb4
    refine ⟨_, rfl, xb, C, de4, _, _, rfl, hbx4, T.cl, T.nD, pF_default, rfl, _, rfl, ?_⟩
    refine ite2 (fun k => absurd k (by simp)) (fun _ => ?_)
    refine ⟨_, rfl, xb, C, de4, _, _, rfl, hbx4, T.cl, T.nA, pF_named, _, _, rfl, rfl, _, rfl, ?_⟩
    refine ite2 (fun k => absurd k (by simp)) (fun _ => ?_)
    -- the same again
    refine ⟨_, rfl, _, rfl, qn, _, 0, .str (S z0), rfl, rfl, SqL.of hq4, atI_nat (j := 0) rfl, _, rfl, _, rfl, _, rfl, rfl, rfl, fun x5 d5 hx5 hd5 ne5 => par_made (nm := S z0) (hs := hs) (v := v) (d := f.data) (nd := nd) hx5 hd5 g0.ok k0 hhs (dflOk_of hf4 hfok) fun H5 s5 hp5 => ⟨rfl, ?_⟩⟩
    have hpo := hp4.same s5
    have hq5 := s5 _ _ hq4
    have hf5 := hf4.same s5
    have hb5 := hb4.same s5
    have sg5 := sg4.trans s5
    obtain ⟨dpo, hpox⟩ := id hpo
    obtain ⟨dp5, hp5x⟩ := id hp5
    obtain ⟨de5, hb5x⟩ := id hb5
    refine ⟨x, dpo, _, rfl, hpox, .inl ⟨x5, dp5, _, rfl, hp5x⟩, x, S z0, hs, v, f.data, nd, _, rfl, hpo, hf5.dp, hok, .inl ⟨x5, S z0, hs, v, f.data, nd, rfl, hp5, hf5.dp, hok, _, rfl, ?_⟩⟩
    rw [decide_eq_true rfl, decide_eq_true rfl, decide_eq_true rfl, SeqAt.eqv_refl _ (SeqAt.canLay_of_shaped hok.sh)]
    refine iteF ?_
    -- what it does not equal
    refine ⟨_, rfl, _, rfl, xb, de5, _, rfl, hb5x, .inl ⟨x, dpo, _, rfl, hpox⟩, xb, S z1, "box", .non, .none, false, _, rfl, hb5, .non, ⟨rfl, rfl⟩, .inl ⟨x, S z0, hs, v, f.data, nd, rfl, hpo, hf5.dp, hok, _, rfl, ?_⟩⟩
    rw [decide_eq_false (show ¬ S z1 = S z0 from fun e => n01 (SX.S_inj e))]
    refine iteF ?_
    refine ⟨_, rfl, _, rfl, qn, _, 0, .str (S z0), rfl, rfl, SqL.of hq5, atI_nat (j := 0) rfl, x, dpo, _, rfl, hpox, .inr ⟨_, .str (S z0)⟩, x, S z0, hs, v, f.data, nd, _, rfl, hpo, hf5.dp, hok, .inr ⟨_, .str (S z0), _, rfl, ?_⟩⟩
    refine iteF ?_
    refine ⟨_, rfl, _, rfl, qn, _, 0, .str (S z0), rfl, rfl, SqL.of hq5, atI_nat (j := 0) rfl, _, rfl, _, rfl, _, rfl, (by show 4 ≤ sizeLine; decide), fun t6 nt6 => ?_⟩
    have s6 := same_upd (o := .tup [.str (S z0), .str hs, v, .bl nd]) nt6
    have hp6 := hpo.same s6
    have hf6 := hf5.same s6
    have hq6 := s6 _ _ hq5
    have sg6 := sg5.trans s6
    have ht6 := upd_same (H := H5) (a := t6) (o := .tup [.str (S z0), .str hs, v, .bl nd])
    generalize (upd H5 t6 (.tup [.str (S z0), .str hs, v, .bl nd])) = H6 at hp6 hf6 hq6 sg6 ht6 ⊢
    obtain ⟨dp6, hp6x⟩ := id hp6
    refine ⟨x, dp6, _, rfl, hp6x, .inr ⟨_, .tup (SqT.of ht6) (dp_parts hf6)⟩, x, S z0, hs, v, f.data, nd, _, rfl, hp6, hf6.dp, hok, .inr ⟨_, .tup (SqT.of ht6) (dp_parts hf6), _, rfl, ?_⟩⟩
    refine iteF ?_
    -- the others
    refine ⟨_, rfl, qn, _, 0, .str (S z0), rfl, rfl, SqL.of hq6, atI_nat (j := 0) rfl, _, rfl, _, rfl, _, rfl, z0, hs, v, f, nd, rfl, g0, hhs, hf6, hfok, fun H7 qo bs s7 nqo hqo hbl hall => ?_⟩
    have hp7 := hp6.same s7
    have hf7 := hf6.same s7
    obtain ⟨dp7, hp7x⟩ := id hp7
    refine ⟨qo, rfl, ⟨_, SqL.of hqo⟩, for_list (K := K) (a := qo) (xs := bs) (fun _ σ H' => H' = H7 ∧ ∃ y, σ = [some (.ref a), some (.int (0 + (i : Int))), some (.ref p), some (.ref qn), some (.str hs), some v, some (.bl nd), some (.ref x), some (.ref xb), y]) ⟨rfl, _, rfl⟩ (fun _ _ _ _ h => by rw [h.1]; exact SqL.of hqo) ?_ ?_⟩
    · rintro j b σ H8 hj ⟨rfl, y, rfl⟩
      obtain ⟨b', nm2, hs2, v2, f2, nd2, rfl, hb8, hd8, hok8, hr8⟩ := hall b (List.mem_of_getElem? hj)
      obtain ⟨db8, hb8x⟩ := id hb8
      refine ⟨_, rfl, _, rfl, x, dp7, _, rfl, hp7x, .inl ⟨b', db8, _, rfl, hb8x⟩, x, S z0, hs, v, f.data, nd, _, rfl, hp7, hf7.dp, hok, .inl ⟨b', nm2, hs2, v2, f2.data, nd2, rfl, hb8, hd8.dp, hok8, _, rfl, ?_⟩⟩
      rw [hr8]
      refine iteF ?_
      refine ⟨_, rfl, _, rfl, x, dp7, _, rfl, hp7x, .inl ⟨b', db8, _, rfl, hb8x⟩, x, S z0, hs, v, f.data, nd, _, rfl, hp7, hf7.dp, hok, .inl ⟨b', nm2, hs2, v2, f2.data, nd2, rfl, hb8, hd8.dp, hok8, _, rfl, _, rfl, ?_⟩⟩
      rw [hr8]
      refine iteF ?_
      exact ⟨rfl, _, rfl⟩
    · rintro σ H8 ⟨rfl, y, rfl⟩
      exact ⟨sg6.trans s7, _, _, _, _, _, _, _, _, _, rfl⟩
end
end Dr
namespace Dr
open PySem PySem.Spec PyProof.Rows L2
open SX (S S_len S_cat)
/-- values that are these texts -/
def strsB : List Value → List Str → Bool
  | [], [] => true
  | .str x _ :: us, z :: zs => (x == z) && strsB us zs
  | _, _ => false
theorem strsB_vals : ∀ {us : List Value} {zs : List Str}, strsB us zs = true → Vals (zs.map V.str) us
  | [], [], _ => .nil
  | .str x t :: us, z :: zs, h => by
    have h' : ((x == z) && strsB us zs) = true := h
    rw [Bool.and_eq_true, beq_iff_eq] at h'
    obtain ⟨rfl, h2⟩ := h'
    exact .cons ⟨t, rfl⟩ (strsB_vals h2)
  | [], _ :: _, h => by cases h
  | .str _ _ :: _, [], h => by cases h
theorem strsB_len : ∀ {us : List Value} {zs : List Str}, strsB us zs = true → us.length = zs.length := fun h => by
  have := (strsB_vals h).length
  rw [List.length_map] at this
  exact this.symm
theorem fm_of {K : PySem.W.Frag} {a : Addr} {dd : Option Addr} {its : Array Value} {n : Nat} {sl : Array (Option Value)} {zs : List Str} (l : K.lookup a = some ⟨.type "tuple", dd, .seq its n, sl⟩) (h : strsB its.toList zs = true) (hz : zs.length ≤ 1000) : FmAt K a zs := fun H =>
  .inr ⟨_, its, n, l, rfl, rfl, by
    have := strsB_len h
    rw [Array.length_toList] at this
    rw [this]
    exact Nat.le_of_lt (small1000 hz), strsB_vals h⟩
theorem fms_of {K : PySem.W.Frag} {a : Addr} {dd : Option Addr} {n : Nat} {sl : Array (Option Value)} {as : List Addr} {fs : List Form} (l : K.lookup a = some ⟨.type "tuple", dd, .seq (as.map Value.ref).toArray n, sl⟩) (h : as.length ≤ 1000) (p : Paired (FmAt K) as fs) : Fms K a fs := by
  refine ⟨as, fun H => .inr ⟨_, _, n, l, rfl, rfl, ?_, ?_⟩, p⟩
  · show (as.map Value.ref).toArray.size ≤ sizeLine
    rw [List.size_toArray, List.length_map]
    exact Nat.le_of_lt (small1000 h)
  · show Vals (as.map V.ref) (as.map Value.ref)
    clear l h p
    induction as with
    | nil => exact .nil
    | cons b r ih => exact .cons rfl ih
theorem all_mk {l : PySem.W.OpenLaw} {w : World} {K : PySem.W.Frag} {h : Heap} {mg : Str → Option Value} {fa C D aB aM aX m1 x1 x2 x3 x4 fnm fow fas fit ffo fso fhf fdf fbg ftk fof fns fdd fot flw fpi fpe : Addr} (X : K.In h) (G : h.Ns mainGlobals mg) (hfa : mg "law" = some (.ref fa))
    {odnm annm odow anow odas anas odit anit odfo anfo odso anso odhf anhf oddf andf odbg anbg odtk antk odof anof odns anns oddd andd odot anot odlw anlw odpi anpi odpe anpe ddaB ddaM ddaX ddm1 ddx1 ddx2 ddx3 ddx4 : Option Addr} {slnm slow slas slit slfo slso slhf sldf slbg sltk slof slns sldd slot sllw slpi slpe ssaB ssaM ssaX ssm1 ssx1 ssx2 ssx3 ssx4 : Array (Option Value)} {ocnm dcnm pmnm cdnm ctnm kVnm ocow dcow pmow cdow ctow kVow ocas dcas pmas cdas ctas kVas ocit dcit pmit cdit ctit kVit ocfo dcfo pmfo cdfo ctfo kVfo ocso dcso pmso cdso ctso kVso ochf dchf pmhf cdhf cthf kVhf ocdf dcdf pmdf cddf ctdf kVdf ocbg dcbg pmbg cdbg ctbg kVbg octk dctk pmtk cdtk cttk kVtk ocof dcof pmof cdof ctof kVof ocns dcns pmns cdns ctns kVns ocdd dcdd pmdd cddd ctdd kVdd ocot dcot pmot cdot ctot kVot oclw dclw pmlw cdlw ctlw kVlw ocpi dcpi pmpi cdpi ctpi ocpe dcpe pmpe cdpe ctpe kVpe : Value} {th tl : Tok} {itaB itm1 itx1 itx2 itx3 itx4 : Array Value} {nnaB nnaM nnaX nnm1 nnx1 nnx2 nnx3 nnx4 : Nat}
    (anm : PySem.W.nsIn K mainGlobals "is_name" = some (some (.ref fnm)))
    (lnm : K.lookup fnm = some ⟨ocnm, odnm, .func (PySem.W.fnOf "is_name" "is_name" (defArgs sIsName) (defBody sIsName) (defScope sIsName) .none kVnm dcnm pmnm annm cdnm ctnm), slnm⟩)
    (cnm : PySem.W.codeIn K cdnm "is_name" = true)
    (knm : PySem.W.keepIn K (.ref fnm) = true)
    (aow : PySem.W.nsIn K mainGlobals "is_owner" = some (some (.ref fow)))
    (low : K.lookup fow = some ⟨ocow, odow, .func (PySem.W.fnOf "is_owner" "is_owner" (defArgs sIsOwner) (defBody sIsOwner) (defScope sIsOwner) .none kVow dcow pmow anow cdow ctow), slow⟩)
    (cow : PySem.W.codeIn K cdow "is_owner" = true)
    (kow : PySem.W.keepIn K (.ref fow) = true)
    (aas : PySem.W.nsIn K mainGlobals "is_ascending" = some (some (.ref fas)))
    (las : K.lookup fas = some ⟨ocas, odas, .func (PySem.W.fnOf "is_ascending" "is_ascending" (defArgs sIsAsc) (defBody sIsAsc) (defScope sIsAsc) .none kVas dcas pmas anas cdas ctas), slas⟩)
    (cas : PySem.W.codeIn K cdas "is_ascending" = true)
    (kas : PySem.W.keepIn K (.ref fas) = true)
    (ait : PySem.W.nsIn K mainGlobals "is_items" = some (some (.ref fit)))
    (lit : K.lookup fit = some ⟨ocit, odit, .func (PySem.W.fnOf "is_items" "is_items" (defArgs sIsItems) (defBody sIsItems) (defScope sIsItems) .none kVit dcit pmit anit cdit ctit), slit⟩)
    (cit : PySem.W.codeIn K cdit "is_items" = true)
    (kit : PySem.W.keepIn K (.ref fit) = true)
    (afo : PySem.W.nsIn K mainGlobals "form_of" = some (some (.ref ffo)))
    (lfo : K.lookup ffo = some ⟨ocfo, odfo, .func (PySem.W.fnOf "form_of" "form_of" (defArgs sFormOf) (defBody sFormOf) (defScope sFormOf) .none kVfo dcfo pmfo anfo cdfo ctfo), slfo⟩)
    (cfo : PySem.W.codeIn K cdfo "form_of" = true)
    (kfo : PySem.W.keepIn K (.ref ffo) = true)
    (aso : PySem.W.nsIn K mainGlobals "is_of_sort" = some (some (.ref fso)))
    (lso : K.lookup fso = some ⟨ocso, odso, .func (PySem.W.fnOf "is_of_sort" "is_of_sort" (defArgs sIsSort) (defBody sIsSort) (defScope sIsSort) .none kVso dcso pmso anso cdso ctso), slso⟩)
    (cso : PySem.W.codeIn K cdso "is_of_sort" = true)
    (kso : PySem.W.keepIn K (.ref fso) = true)
    (ahf : PySem.W.nsIn K mainGlobals "has_form" = some (some (.ref fhf)))
    (lhf : K.lookup fhf = some ⟨ochf, odhf, .func (PySem.W.fnOf "has_form" "has_form" (defArgs sHasForm) (defBody sHasForm) (defScope sHasForm) .none kVhf dchf pmhf anhf cdhf cthf), slhf⟩)
    (chf : PySem.W.codeIn K cdhf "has_form" = true)
    (khf : PySem.W.keepIn K (.ref fhf) = true)
    (adf : PySem.W.nsIn K mainGlobals "is_default" = some (some (.ref fdf)))
    (ldf : K.lookup fdf = some ⟨ocdf, oddf, .func (PySem.W.fnOf "is_default" "is_default" (defArgs sIsDef) (defBody sIsDef) (defScope sIsDef) .none kVdf dcdf pmdf andf cddf ctdf), sldf⟩)
    (cdf : PySem.W.codeIn K cddf "is_default" = true)
    (kdf : PySem.W.keepIn K (.ref fdf) = true)
    (abg : PySem.W.nsIn K mainGlobals "_law_bag" = some (some (.ref fbg)))
    (lbg : K.lookup fbg = some ⟨ocbg, odbg, .func (PySem.W.fnOf "_law_bag" "_law_bag" (defArgs sBag) (defBody sBag) (defScope sBag) .none kVbg dcbg pmbg anbg cdbg ctbg), slbg⟩)
    (cbg : PySem.W.codeIn K cdbg "_law_bag" = true)
    (kbg : PySem.W.keepIn K (.ref fbg) = true)
    (atk : PySem.W.nsIn K mainGlobals "_law_take" = some (some (.ref ftk)))
    (ltk : K.lookup ftk = some ⟨octk, odtk, .func (PySem.W.fnOf "_law_take" "_law_take" (defArgs sTake) (defBody sTake) (defScope sTake) .none kVtk dctk pmtk antk cdtk cttk), sltk⟩)
    (ctk : PySem.W.codeIn K cdtk "_law_take" = true)
    (ktk : PySem.W.keepIn K (.ref ftk) = true)
    (aof : PySem.W.nsIn K mainGlobals "_law_of" = some (some (.ref fof)))
    (lof : K.lookup fof = some ⟨ocof, odof, .func (PySem.W.fnOf "_law_of" "_law_of" (defArgs sOf) (defBody sOf) (defScope sOf) .none kVof dcof pmof anof cdof ctof), slof⟩)
    (cof : PySem.W.codeIn K cdof "_law_of" = true)
    (kof : PySem.W.keepIn K (.ref fof) = true)
    (ans : PySem.W.nsIn K mainGlobals "_law_names" = some (some (.ref fns)))
    (lns : K.lookup fns = some ⟨ocns, odns, .func (PySem.W.fnOf "_law_names" "_law_names" (defArgs sNames) (defBody sNames) (defScope sNames) .none kVns dcns pmns anns cdns ctns), slns⟩)
    (cns : PySem.W.codeIn K cdns "_law_names" = true)
    (kns : PySem.W.keepIn K (.ref fns) = true)
    (add : PySem.W.nsIn K mainGlobals "_law_default" = some (some (.ref fdd)))
    (ldd : K.lookup fdd = some ⟨ocdd, oddd, .func (PySem.W.fnOf "_law_default" "_law_default" (defArgs sDefault) (defBody sDefault) (defScope sDefault) .none kVdd dcdd pmdd andd cddd ctdd), sldd⟩)
    (cdd : PySem.W.codeIn K cddd "_law_default" = true)
    (kdd : PySem.W.keepIn K (.ref fdd) = true)
    (aot : PySem.W.nsIn K mainGlobals "_law_others" = some (some (.ref fot)))
    (lot : K.lookup fot = some ⟨ocot, odot, .func (PySem.W.fnOf "_law_others" "_law_others" (defArgs sOthers) (defBody sOthers) (defScope sOthers) .none kVot dcot pmot anot cdot ctot), slot⟩)
    (cot : PySem.W.codeIn K cdot "_law_others" = true)
    (kot : PySem.W.keepIn K (.ref fot) = true)
    (alw : PySem.W.nsIn K mainGlobals "law" = some (some (.ref flw)))
    (llw : K.lookup flw = some ⟨oclw, odlw, .func (PySem.W.fnOf "law" "law" (defArgs sLaw) (defBody sLaw) (defScope sLaw) .none kVlw dclw pmlw anlw cdlw ctlw), sllw⟩)
    (clw : PySem.W.codeIn K cdlw "law" = true)
    (klw : PySem.W.keepIn K (.ref flw) = true)
    (aC : PySem.W.nsIn K mainGlobals "Param" = some (some (.ref C)))
    (api : PySem.W.findIn K (.ref C) "__init__" = some (some (.ref fpi)))
    (ipi : PySem.W.isFn K (.ref fpi) = true)
    (lpi : K.lookup fpi = some ⟨ocpi, odpi, .func (PySem.W.fnOf "__init__" "Param.__init__" (defArgs sPInit) (defBody sPInit) (defScope sPInit) .none (.ref D) dcpi pmpi anpi cdpi ctpi), slpi⟩)
    (cpi : PySem.W.codeIn K cdpi "Param.__init__" = true)
    (kpi : PySem.W.keepIn K (.ref fpi) = true)
    (ape : PySem.W.findIn K (.ref C) "__eq__" = some (some (.ref fpe)))
    (ipe : PySem.W.isFn K (.ref fpe) = true)
    (lpe : K.lookup fpe = some ⟨ocpe, odpe, .func (PySem.W.fnOf "__eq__" "Param.__eq__" (defArgs sPEq) (defBody sPEq) (defScope sPEq) .none kVpe dcpe pmpe anpe cdpe ctpe), slpe⟩)
    (cpe : PySem.W.codeIn K cdpe "Param.__eq__" = true)
    (kpe : PySem.W.keepIn K (.ref fpe) = true)
    (dh : PySem.W.nsIn K D "holds" = some (some (.str "box" th)))
    (dd0 : PySem.W.nsIn K D "default" = some (some .none))
    (dn : PySem.W.nsIn K D "named" = some (some (.bool false)))
    (gB : PySem.W.nsIn K mainGlobals "BARRED" = some (some (.ref aB)))
    (gM : PySem.W.nsIn K mainGlobals "MARK_DEFAULTS" = some (some (.ref aM)))
    (gX : PySem.W.nsIn K mainGlobals "BOX_DEFAULTS" = some (some (.ref aX)))
    (gL : PySem.W.nsIn K mainGlobals "MOST_LETTERS" = some (some (.int 8 tl)))
    (taB : K.lookup aB = some ⟨.type "tuple", ddaB, .seq itaB nnaB, ssaB⟩)
    (taM : K.lookup aM = some ⟨.type "tuple", ddaM, .seq #[.ref m1] nnaM, ssaM⟩)
    (taX : K.lookup aX = some ⟨.type "tuple", ddaX, .seq #[.ref x1, .ref x2, .ref x3, .ref x4] nnaX, ssaX⟩)
    (tm1 : K.lookup m1 = some ⟨.type "tuple", ddm1, .seq itm1 nnm1, ssm1⟩)
    (tx1 : K.lookup x1 = some ⟨.type "tuple", ddx1, .seq itx1 nnx1, ssx1⟩)
    (tx2 : K.lookup x2 = some ⟨.type "tuple", ddx2, .seq itx2 nnx2, ssx2⟩)
    (tx3 : K.lookup x3 = some ⟨.type "tuple", ddx3, .seq itx3 nnx3, ssx3⟩)
    (tx4 : K.lookup x4 = some ⟨.type "tuple", ddx4, .seq itx4 nnx4, ssx4⟩)
    (vaB : strsB itaB.toList barred = true)
    (vm1 : strsB itm1.toList ["mark", "item"] = true)
    (vx1 : strsB itx1.toList ["once", "items"] = true)
    (vx2 : strsB itx2.toList ["early", "kind", "value"] = true)
    (vx3 : strsB itx3.toList ["anew", "items"] = true)
    (vx4 : strsB itx4.toList ["late", "owner", "value"] = true)
    (pg : PySem.W.plainGet K C Str.empty = true)
    (hd : PySem.W.hasDictIn K C = true)
    (po : PySem.W.plainOver K C = true)
    (sa : PySem.W.findIn K (.ref C) "__setattr__" = some (some (.builtin "object.__setattr__")))
    (mk : PySem.W.makesIn K C = true)
    (kc : PySem.W.keepIn K (.ref C) = true)
    (nN : PySem.W.findIn K (.ref C) "name" = some none)
    (nH : PySem.W.findIn K (.ref C) "holds" = some none)
    (nD : PySem.W.findIn K (.ref C) "default" = some none)
    (nA : PySem.W.findIn K (.ref C) "named" = some none)
    (ha : PySem.W.findIn K (.ref C) "__class__" = some (some (.builtin "object.__class__")))
    (hn : PySem.W.specialIn K (.builtin "object.__class__") "__get__" = some (some (.builtin "getset_descriptor.__get__")))
    (htk : PySem.W.takesIn K (.builtin "object.__class__") = some true)
    (hm : PySem.W.mroIn K C (.type "object") = some true)
    (isC : PySem.W.isClsIn K C = true)
    (tyC : PySem.W.typeIn K (.ref C) = some (.type "type"))
    (ne : PySem.W.findIn K (.ref C) "__ne__" = some (some (.builtin "object.__ne__")))
    (z_len : PySem.W.nsIn K mainGlobals "len" = some none)
    (z_isinstance : PySem.W.nsIn K mainGlobals "isinstance" = some none)
    (z_str : PySem.W.nsIn K mainGlobals "str" = some none)
    (z_tuple : PySem.W.nsIn K mainGlobals "tuple" = some none)
    (z_all : PySem.W.nsIn K mainGlobals "all" = some none)
    (z_zip : PySem.W.nsIn K mainGlobals "zip" = some none)
    (z_int : PySem.W.nsIn K mainGlobals "int" = some none)
    (z_abs : PySem.W.nsIn K mainGlobals "abs" = some none)
    (z_enumerate : PySem.W.nsIn K mainGlobals "enumerate" = some none)
    (z_range : PySem.W.nsIn K mainGlobals "range" = some none)
    (z_sorted : PySem.W.nsIn K mainGlobals "sorted" = some none)
    (z_max : PySem.W.nsIn K mainGlobals "max" = some none)
    (z_min : PySem.W.nsIn K mainGlobals "min" = some none)
    (z_bool : PySem.W.nsIn K mainGlobals "bool" = some none) :
    ∃ fd : FuncData, (∀ (s : Shared) (v : Value), BindsTo s fd ⟨[v], []⟩ [("_law_script", v)]) ∧ ∀ base : Heap, K.In base → base.Ns mainGlobals mg → FnOk l.prog w K mg base CX0 9 fa fd ["_law_script"] (spLaw K) := by
  have e := hfa.symm.trans (PySem.W.mg_of X G alw)
  cases e
  have g : ∀ {n : Str} {v : Value}, PySem.W.nsIn K mainGlobals n = some (some v) → mg n = some v := fun h => PySem.W.mg_of X G h
  have z : ∀ {n : Str}, PySem.W.nsIn K mainGlobals n = some none → mg n = none := fun h => PySem.W.mg_none_of X G h
  have Fnm := fun_mk (st := sIsName) lnm cnm knm
  have bnm := Fnm.binds (ps := ["thing"]) fun _ _ _ _ _ _ us hl => match us, hl with | [_], _ => rfl
  have Fow := fun_mk (st := sIsOwner) low cow kow
  have bow := Fow.binds (ps := ["thing"]) fun _ _ _ _ _ _ us hl => match us, hl with | [_], _ => rfl
  have Fas := fun_mk (st := sIsAsc) las cas kas
  have bas := Fas.binds (ps := ["words"]) fun _ _ _ _ _ _ us hl => match us, hl with | [_], _ => rfl
  have Fit := fun_mk (st := sIsItems) lit cit kit
  have bit := Fit.binds (ps := ["thing"]) fun _ _ _ _ _ _ us hl => match us, hl with | [_], _ => rfl
  have Ffo := fun_mk (st := sFormOf) lfo cfo kfo
  have bfo := Ffo.binds (ps := ["thing", "forms"]) fun _ _ _ _ _ _ us hl => match us, hl with | [_, _], _ => rfl
  have Fso := fun_mk (st := sIsSort) lso cso kso
  have bso := Fso.binds (ps := ["part", "sort"]) fun _ _ _ _ _ _ us hl => match us, hl with | [_, _], _ => rfl
  have Fhf := fun_mk (st := sHasForm) lhf chf khf
  have bhf := Fhf.binds (ps := ["thing", "forms"]) fun _ _ _ _ _ _ us hl => match us, hl with | [_, _], _ => rfl
  have Fdf := fun_mk (st := sIsDef) ldf cdf kdf
  have bdf := Fdf.binds (ps := ["thing", "holds"]) fun _ _ _ _ _ _ us hl => match us, hl with | [_, _], _ => rfl
  have Fbg := fun_mk (st := sBag) lbg cbg kbg
  have bbg := Fbg.binds (ps := ["_law_script", "_law_at"]) fun _ _ _ _ _ _ us hl => match us, hl with | [_, _], _ => rfl
  have Ftk := fun_mk (st := sTake) ltk ctk ktk
  have btk := Ftk.binds (ps := ["_law_bag_here", "_law_many"]) fun _ _ _ _ _ _ us hl => match us, hl with | [_, _], _ => rfl
  have Fof := fun_mk (st := sOf) lof cof kof
  have bof := Fof.binds (ps := ["_law_bag_here", "_law_some"]) fun _ _ _ _ _ _ us hl => match us, hl with | [_, _], _ => rfl
  have Fns := fun_mk (st := sNames) lns cns kns
  have bns := Fns.binds (ps := ["_law_bag_here", "_law_many"]) fun _ _ _ _ _ _ us hl => match us, hl with | [_, _], _ => rfl
  have Fdd := fun_mk (st := sDefault) ldd cdd kdd
  have bdd := Fdd.binds (ps := ["_law_bag_here", "_law_sort", "_law_names_here"]) fun _ _ _ _ _ _ us hl => match us, hl with | [_, _, _], _ => rfl
  have Fot := fun_mk (st := sOthers) lot cot kot
  have bot := Fot.binds (ps := ["_law_name", "_law_sort", "_law_worth", "_law_only"]) fun _ _ _ _ _ _ us hl => match us, hl with | [_, _, _, _], _ => rfl
  have Flw := fun_mk (st := sLaw) llw clw klw
  have Fpe := fun_mk (st := sPEq) lpe cpe kpe
  have bpe := Fpe.binds (ps := ["self", "other"]) fun _ _ _ _ _ _ us hl => match us, hl with | [_, _], _ => rfl
  have Fpi : FP K fpi _ := ⟨⟨_, _, _, _, _, _, _, _, _, _, rfl, lpi, cpi, .inl ⟨rfl, rfl⟩, .inr ⟨D, rfl, fun q hq => by
    rcases List.mem_cons.mp hq with rfl | hq
    · exact ⟨_, dh, ⟨_, rfl⟩⟩
    · rcases List.mem_cons.mp hq with rfl | hq
      · exact ⟨_, dd0, rfl⟩
      · rcases List.mem_cons.mp hq with rfl | hq
        · exact ⟨_, dn, rfl⟩
        · cases hq⟩⟩, kpi⟩
  have T : Prm K mg C := ⟨⟨pg, hd, po, sa⟩, nN, nH, nD, nA, g aC, ha, hn, htk, hm, isC, tyC⟩
  have W : Wds K mg := ⟨z z_len, z z_isinstance, z z_str, z z_tuple, z z_all, z z_zip, ⟨_, g gL⟩, ⟨aB, g gB, fm_of taB vaB (by decide)⟩⟩
  have B : Blt mg := ⟨z z_len, z z_int, z z_abs, z z_enumerate⟩
  have L : BltL mg := ⟨z z_range, z z_max, z z_min, z z_bool⟩
  have BS : BltS mg := ⟨z z_tuple, z z_sorted⟩
  have FT : FmT K mg := ⟨⟨aM, g gM, fms_of (as := [m1]) taM (by show 1 ≤ 1000; decide) (.cons (fm_of tm1 vm1 (by decide)) .nil)⟩, ⟨aX, g gX, fms_of (as := [x1, x2, x3, x4]) taX (by show 4 ≤ 1000; decide) (.cons (fm_of tx1 vx1 (by decide)) (.cons (fm_of tx2 vx2 (by decide)) (.cons (fm_of tx3 vx3 (by decide)) (.cons (fm_of tx4 vx4 (by decide)) .nil))))⟩⟩
  refine ⟨PySem.W.fnOf "law" "law" (defArgs sLaw) (defBody sLaw) (defScope sLaw) .none kVlw dclw pmlw anlw cdlw ctlw, fun s v => .of_eq rfl, fun base _ _ => ?_⟩
  have Gnm := ok_name (P := l.prog) (w := w) (base := base) Fnm W
  have Gow := ok_owner Fow Gnm (g anm) knm bnm
  have Gas := ok_asc (P := l.prog) (w := w) (base := base) Fas W
  have Git := ok_items Fit W Gnm (g anm) knm bnm Gas (g aas) kas bas
  have Gfo := ok_formOf (P := l.prog) (w := w) (base := base) Ffo W
  have Gso := ok_sort0 Fso Git (g ait) kit bit Gow (g aow) kow bow Gnm (g anm) knm bnm
  have Ghf := ok_hasForm (k := 2) Fhf W Gfo (g afo) kfo bfo Gso (g aso) kso bso
  have Gdf := ok_def (k := 3) Fdf FT Ghf (g ahf) khf bhf
  have Gpi := ok_pinit (kD := 4) Fpi W T (z z_bool) Gnm (g anm) knm bnm Gdf (g adf) kdf bdf
  have Gpe := ok_peq (P := l.prog) (w := w) (base := base) Fpe W T
  have Gbg := ok_bag (P := l.prog) (w := w) (base := base) Fbg B
  have Gtk := ok_take (P := l.prog) (w := w) (base := base) Ftk B
  have Gof := ok_of Fof B Gtk (g atk) ktk btk
  have Gns := ok_names Fns B (z z_range) Gtk (g atk) ktk btk Gof (g aof) kof bof
  have Gdd := ok_default Fdd BS Gtk (g atk) ktk btk Gof (g aof) kof bof
  have M : Mk K C fpi := ⟨mk, api, ipi, kc⟩
  have Got := ok_others (kI := 6) Fot T (z z_len) M Fpi Gpi
  exact ok_law (kI := 6) Flw T W B L M Fpi ⟨ape, ipe, ne⟩ Gpi Gpe bpe Gbg (g abg) kbg bbg Gtk (g atk) ktk btk Gof (g aof) kof bof Gns (g ans) kns bns Gdd (g add) kdd bdd Got (g aot) kot bot (by decide)
theorem walk {l : PySem.W.OpenLaw} {q : Program} {loose : List Str} {XP : (Str → Option Value) → Heap → Prop} {YP : World → Heap → Prop} {d : DefRec} {K : Params → PySem.W.Frag} (hn : l.most = some 63) (hdf : d.params.defaults = [])
    (hY : ∀ (w : World) (h : Heap), YP w h → (K w.params).In h)
    (F : ∀ (w : World) (mg : Str → Option Value) (fa : Addr) (h : Heap), (K w.params).In h → h.Ns mainGlobals mg → mg d.name = some (.ref fa) →
      ∃ fd : FuncData, (∀ (s : Shared) (u : Value), BindsTo s fd ⟨[u], []⟩ [("_law_script", u)]) ∧ ∀ base : Heap, (K w.params).In base → base.Ns mainGlobals mg → FnOk l.prog w (K w.params) mg base CX0 9 fa fd ["_law_script"] (spLaw (K w.params))) :
    PySem.W.WalkO q loose XP YP l.row.toRowW d [] (fun f vs => PySem.call f vs) :=
  L2.walk_of (n := 63) (k := 9) (x := "_law_script") (CX := fun _ => CX0) (sp := fun w => spLaw (K w.params)) hn (by decide) hdf ⟨rfl, by decide, by decide⟩ hY F (fun _ _ a ns hl _ hS => ⟨a, ns, rfl, hS, hl, fun _ => rfl⟩) fun _ _ _ _ _ z => z
end Dr
open PySem PySem.W PyProof.Rows in
set_option maxRecDepth 100000 in
set_option maxHeartbeats 0 in
theorem PySem.Challenge.cw_oncedefaults_k01_parameters_made_holds : PySem.Challenge.rw_oncedefaults_k01_parameters_made.Holds := by
  w_on; o_law; k_head; (case hw => w_witness2)
  k_fill
  refine Dr.walk (l := PySem.Challenge.rw_oncedefaults_k01_parameters_made) rfl rfl (fun w h Y => PySem.W.kIn_of Y) ?F
  case F =>
    intro w mg fa h KX G hmg
    refine' Dr.all_mk KX G hmg ?anm ?lnm ?cnm ?knm ?aow ?low ?cow ?kow ?aas ?las ?cas ?kas ?ait ?lit ?cit ?kit ?afo ?lfo ?cfo ?kfo ?aso ?lso ?cso ?kso ?ahf ?lhf ?chf ?khf ?adf ?ldf ?cdf ?kdf ?abg ?lbg ?cbg ?kbg ?atk ?ltk ?ctk ?ktk ?aof ?lof ?cof ?kof ?ans ?lns ?cns ?kns ?add ?ldd ?cdd ?kdd ?aot ?lot ?cot ?kot ?alw ?llw ?clw ?klw ?aC ?api ?ipi ?lpi ?cpi ?kpi ?ape ?ipe ?lpe ?cpe ?kpe ?dh ?dd0 ?dn ?gB ?gM ?gX ?gL ?taB ?taM ?taX ?tm1 ?tx1 ?tx2 ?tx3 ?tx4 ?vaB ?vm1 ?vx1 ?vx2 ?vx3 ?vx4 ?pg ?hd ?po ?sa ?mk ?kc ?nN ?nH ?nD ?nA ?ha ?hn ?htk ?hm ?isC ?tyC ?ne ?z_len ?z_isinstance ?z_str ?z_tuple ?z_all ?z_zip ?z_int ?z_abs ?z_enumerate ?z_range ?z_sorted ?z_max ?z_min ?z_bool
    (case anm => k_is)
    (case lnm => k_is)
    (case cnm => k_is)
    (case knm => k_is)
    (case aow => k_is)
    (case low => k_is)
    (case cow => k_is)
    (case kow => k_is)
    (case aas => k_is)
    (case las => k_is)
    (case cas => k_is)
    (case kas => k_is)
    (case ait => k_is)
    (case lit => k_is)
    (case cit => k_is)
    (case kit => k_is)
    (case afo => k_is)
    (case lfo => k_is)
    (case cfo => k_is)
    (case kfo => k_is)
    (case aso => k_is)
    (case lso => k_is)
    (case cso => k_is)
    (case kso => k_is)
    (case ahf => k_is)
    (case lhf => k_is)
    (case chf => k_is)
    (case khf => k_is)
    (case adf => k_is)
    (case ldf => k_is)
    (case cdf => k_is)
    (case kdf => k_is)
    (case abg => k_is)
    (case lbg => k_is)
    (case cbg => k_is)
    (case kbg => k_is)
    (case atk => k_is)
    (case ltk => k_is)
    (case ctk => k_is)
    (case ktk => k_is)
    (case aof => k_is)
    (case lof => k_is)
    (case cof => k_is)
    (case kof => k_is)
    (case ans => k_is)
    (case lns => k_is)
    (case cns => k_is)
    (case kns => k_is)
    (case add => k_is)
    (case ldd => k_is)
    (case cdd => k_is)
    (case kdd => k_is)
    (case aot => k_is)
    (case lot => k_is)
    (case cot => k_is)
    (case kot => k_is)
    (case alw => k_is)
    (case llw => k_is)
    (case clw => k_is)
    (case klw => k_is)
    (case aC => k_is)
    (case api => k_is)
    (case ipi => k_is)
    (case lpi => k_is)
    (case cpi => k_is)
    (case kpi => k_is)
    (case ape => k_is)
    (case ipe => k_is)
    (case lpe => k_is)
    (case cpe => k_is)
    (case kpe => k_is)
    (case dh => k_is)
    (case dd0 => k_is)
    (case dn => k_is)
    (case gB => k_is)
    (case gM => k_is)
    (case gX => k_is)
    (case gL => k_is)
    (case taB => k_is)
    (case taM => k_is)
    (case taX => k_is)
    (case tm1 => k_is)
    (case tx1 => k_is)
    (case tx2 => k_is)
    (case tx3 => k_is)
    (case tx4 => k_is)
    (case vaB => decide +kernel)
    (case vm1 => decide +kernel)
    (case vx1 => decide +kernel)
    (case vx2 => decide +kernel)
    (case vx3 => decide +kernel)
    (case vx4 => decide +kernel)
    (case pg => k_is)
    (case hd => k_is)
    (case po => k_is)
    (case sa => k_is)
    (case mk => k_is)
    (case kc => k_is)
    (case nN => k_is)
    (case nH => k_is)
    (case nD => k_is)
    (case nA => k_is)
    (case ha => k_is)
    (case hn => k_is)
    (case htk => k_is)
    (case hm => k_is)
    (case isC => k_is)
    (case tyC => k_is)
    (case ne => k_is)
    (case z_len => k_is)
    (case z_isinstance => k_is)
    (case z_str => k_is)
    (case z_tuple => k_is)
    (case z_all => k_is)
    (case z_zip => k_is)
    (case z_int => k_is)
    (case z_abs => k_is)
    (case z_enumerate => k_is)
    (case z_range => k_is)
    (case z_sorted => k_is)
    (case z_max => k_is)
    (case z_min => k_is)
    (case z_bool => k_is)
