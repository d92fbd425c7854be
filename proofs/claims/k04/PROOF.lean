import PyProof.Rows.All
import Wide.All
import OpenK.AllK
import Wide.FinOn
import HandS.ForMost
import HandS.Defaults
import HandS.MakeKwOnly
import HandS.TupAny
import HandS.IsInst
import HandS.Zip
import HandS.Flow
import HandS.Walk
import HandS.Codes
import HandS.SlotsOwn
import HandS.More
import HandS.ForExc
import HandS.TryMany
import HandS.ExcInit
import HandS.ExcField
import HandS.CallSlots
import HandS.Star
import HandS.ClsMeth
import HandS.ExcOwn
import KE.GoesMore
import PySem.Challenge.RW_oncedefaults_k04_methods_refused
set_option Elab.async false
set_option maxRecDepth 100000
set_option maxHeartbeats 4000000
set_option linter.all false
namespace Dr
open PySem PySem.Spec PyProof.Rows L2
def topS (i : Nat) : Stmt := PySem.Challenge.pw_oncedefaults_k04_methods_refused.main.body.getD i (.Pass ⟨0, 0, 0, 0⟩)
abbrev sBag : Stmt := topS 37
abbrev sTake : Stmt := topS 38
abbrev sOf : Stmt := topS 39
theorem scBag : FnScope ["_law_script", "_law_at", "_law_cell", "_law_blend", "_law_k", "_law_each"] ["_law_script", "_law_at"] (defScope sBag) := ⟨rfl, rfl, rfl, by decide +kernel, rfl, by decide +kernel, by decide +kernel⟩
theorem scTake : FnScope ["_law_bag_here", "_law_many", "_law_digit"] ["_law_bag_here", "_law_many"] (defScope sTake) := ⟨rfl, rfl, rfl, by decide +kernel, rfl, by decide +kernel, by decide +kernel⟩
theorem scOf : FnScope ["_law_bag_here", "_law_some"] ["_law_bag_here", "_law_some"] (defScope sOf) := ⟨rfl, rfl, rfl, by decide +kernel, rfl, by decide +kernel, by decide +kernel⟩
/-- the built-in names that the draws use are the built-in ones -/
structure Blt (mg : Str → Option Value) : Prop where
  len : mg "len" = none
  int : mg "int" = none
  abs : mg "abs" = none
  enum : mg "enumerate" = none
theorem same_upd {H : Hp} {p : Addr} {o : HO} (h : H p = none) : Same H (upd H p o) := fun b x e => by
  rw [upd_ne (ne_of_none e h)]
  exact e
/-- a bag stands at p -/
def Bag (H : Hp) (p : Addr) : Prop := ∃ u v : Int, H p = some (.lst [.int u, .int v]) ∧ 0 ≤ u ∧ 0 ≤ v ∧ v < 2147483648
/-- all but the bag is as it was, the bag is a bag -/
def Kp (p : Addr) (H H' : Hp) : Prop := (∀ b o, b ≠ p → H b = some o → H' b = some o) ∧ Bag H' p
theorem Kp.refl {p : Addr} {H : Hp} (h : Bag H p) : Kp p H H := ⟨fun _ _ _ e => e, h⟩
theorem Kp.trans {p : Addr} {H H1 H2 : Hp} (a : Kp p H H1) (b : Kp p H1 H2) : Kp p H H2 := ⟨fun c o n e => b.1 c o n (a.1 c o n e), b.2⟩
theorem Bag.same {p : Addr} {H H' : Hp} (b : Bag H p) (s : Same H H') : Bag H' p := by
  obtain ⟨u, v, e, q⟩ := b
  exact ⟨u, v, s _ _ e, q⟩
theorem Kp.same {p : Addr} {H H1 H2 : Hp} (a : Kp p H H1) (s : Same H1 H2) : Kp p H H2 := ⟨fun c o n e => s c o (a.1 c o n e), a.2.same s⟩
theorem Kp.of {p : Addr} {H H' : Hp} (b : Bag H p) (s : Same H H') : Kp p H H' := (Kp.refl b).same s
section
variable {P : Program} {w : World} {K : PySem.W.Frag} {mg : Str → Option Value} {base : Heap}
def spBag (K : PySem.W.Frag) : Sp := fun vs H Q _ => ∃ (a : Addr) (ns : List Int) (i : Int), vs = [.ref a, .int i] ∧ SqL K H a (ns.map V.int) ∧ ns.length ≤ 63 ∧ 0 ≤ i ∧ i ≤ 100 ∧
  ∀ H' p, Same H H' → H p = none → Bag H' p → Q (.ref p) H'
theorem bag_turn {b e k : Int} (k0 : 0 ≤ k) (hb : 0 ≤ b) (hb2 : b < 2147483648) : 0 ≤ (b * 44017 + e % 2147483563 + 59 * k) % 2147483399 ∧ (b * 44017 + e % 2147483563 + 59 * k) % 2147483399 < 2147483648 := by
  omega
theorem ok_bag {f : Addr} {fd : FuncData} (F : Fun K "_law_bag" "_law_bag" sBag f fd) (T : Blt mg) : FnOk P w K mg base CX0 1 f fd ["_law_script", "_law_at"] (spBag K) := by
  refine F.ok scBag (fun vs H Q E h => ?_) (fun cdv A outer s H vs Q E hr h => ?_)
  · obtain ⟨a, ns, i, rfl, _⟩ := h
    rfl
  · obtain ⟨a, ns, i, rfl, hS, hlen, hi0, hi1, q⟩ := h
    refine ⟨_, C8.pss_cut (ps_set (i := 2) scBag.nd rfl (.inl rfl) (pe_ifExp (pt_cmpR op_lt (pv 1) (pe_callB call_len_seq (by rfl) T.len PySem.boot_len (pa_cons (pv 0) pa_nil)) (nomark _)) (pe_ix ix_list (pv 0) (pv 1) (fun _ _ => rfl)) pe_int))
      (pss_cons (ps_set (i := 3) scBag.nd rfl (.inl rfl) (pe_op op_add (pe_op op_mul pe_int (pv 1)) pe_int))
      (pss_cons (ps_for PassesOwn.never rfl (pi_enum (by rfl) T.enum (pa_cons (pe_slice sl_list (pv 0) po_none (po_some pe_int)) pa_nil))
          (pg_tup rfl (pgs_cons (pg_name (i := 4) scBag.nd rfl (.inl rfl)) (pgs_cons (pg_name (i := 5) scBag.nd rfl (.inl rfl)) pgs_nil)))
        (pss_one (ps_set (i := 3) scBag.nd rfl (.inl rfl) (pe_op op_mod (pe_callTy call_int1 (by rfl) T.int (by decide +kernel) (pa_cons
          (pe_op op_add (pe_op op_add (pe_op op_mul (pv 3) pe_int) (pe_op op_mod (pe_callTy call_int1 (by rfl) T.int (by decide +kernel) (pa_cons (pv 5) pa_nil)) pe_int)) (pe_op op_mul pe_int (pv 4))) pa_nil)) pe_int))))
      (pss_one (ps_ret (pe_lst (pa_cons (pe_ifExp (pt_cmpR op_ge (pe_callB call_abs (by rfl) T.abs (by decide +kernel) (pa_cons (pv 2) pa_nil)) (pe_op op_pow pe_int pe_int) (nomark _)) (pe_callB call_abs (by rfl) T.abs (by decide +kernel) (pa_cons (pv 2) pa_nil)) pe_int) (pa_cons (pv 3) pa_nil))))))), ?_⟩
    refine ⟨fun σ' H' => H' = H ∧ ∃ c : Int, σ' = [some (.ref a), some (.int i), some (.int c), none, none, none], ?_, fun σ' H' hM => ?_⟩
    · refine ⟨_, rfl, _, rfl, a, _, rfl, .inl hS, _, _, rfl, rfl, _, rfl, ite2 (fun hlt => ?_) (fun _ => ⟨rfl, 0, rfl⟩)⟩
      have hl : i < (ns.map V.int).length := of_decide_eq_true hlt
      rw [List.length_map] at hl
      obtain ⟨j, rfl⟩ : ∃ j : Nat, i = (j : Int) := ⟨i.toNat, by omega⟩
      have hj : j < ns.length := by omega
      exact ⟨_, rfl, _, rfl, a, _, _, _, rfl, rfl, hS, atI_nat (by rw [List.getElem?_map, List.getElem?_eq_getElem hj]; rfl), rfl, _, rfl⟩
    · obtain ⟨rfl, c, rfl⟩ := hM
      -- the blend
      refine ⟨.int i, rfl, _, i, rfl, rfl, .inl ⟨by decide, by decide⟩, _, _, rfl, rfl, ?_⟩
      -- the loop over a copy
      refine ⟨.ref a, rfl, 63, rfl, a, ns.map V.int, rfl, hS, fun l nl => ?_⟩
      have s1 : Same H' (upd H' l (.lst (cutV (ns.map V.int) none (some 63)))) := same_upd nl
      have ecut : cutV (ns.map V.int) none (some 63) = ns.map V.int := by
        unfold cutV
        rw [show HT.sIx (ns.map V.int).length (ns.map V.int).length (some 63) = min 63 (ns.map V.int).length from HT.sIx_nat _ _ 63, HT.sIx_none]
        rw [List.drop_zero, List.take_of_length_le]
        rw [List.length_map]
        omega
      rw [ecut] at s1 ⊢
      refine ⟨l, ns.map V.int, rfl, .inl (.inl upd_same), for_it walk_enum (fun _ σ H1 => Same H' H1 ∧ H1 l = some (.lst (ns.map V.int)) ∧ ∃ (b : Int) (x y : Option V), σ = [some (.ref a), some (.int i), some (.int c), some (.int b), x, y] ∧ 0 ≤ b ∧ b < 2147483648)
        ⟨s1, upd_same, _, _, _, rfl, by omega, by omega⟩ (fun n σ H1 _ h => .inl (.inl h.2.1)) ?_ ?_⟩
      · rintro n y σ H1 H2 hn ⟨sm, hl, b, x5, x6, rfl, b0, b1⟩ ⟨T', x, e, rfl, nT, rfl, e1, e2⟩
        rw [List.length_map] at hn
        obtain rfl := Option.some.inj e1
        have e2 := (show (ns.map V.int)[n]? = some _ from e2)
        rw [List.getElem?_map, List.getElem?_eq_getElem hn] at e2
        obtain rfl := Option.some.inj e2
        have sT : Same H1 (upd H1 T' (.tup [.int (n : Int), .int ns[n]])) := same_upd nT
        refine ⟨T', _, rfl, .inl (.inl upd_same), rfl, _, _, rfl, _, _, rfl, rfl, ?_⟩
        refine ⟨_, rfl, b, _, rfl, rfl, .inr ⟨by decide, by decide⟩, _, rfl, .inl ⟨_, rfl, _, _, rfl, rfl, (by show (0 : Int) < 2147483563; decide), _, _, rfl, rfl, _, rfl, _, _, rfl, rfl, .inl ⟨by decide, by decide⟩, _, _, rfl, rfl, .inl ⟨_, rfl, _, _, rfl, rfl, (by show (0 : Int) < 2147483399; decide), ?_⟩⟩⟩
        have hb := bag_turn (b := b) (e := ns[n]) (k := (n : Int)) (by omega) b0 b1
        exact ⟨sm.trans sT, sT _ _ hl, _, _, _, rfl, hb.1, hb.2⟩
      · rintro σ H1 ⟨sm, hl, b, x5, x6, rfl, b0, b1⟩
        refine ⟨_, rfl, _, rfl, _, _, rfl, rfl, ⟨by decide, by decide, by decide⟩, _, _, rfl, rfl, _, rfl, ite2 (fun hge => ?_) (fun _ => ?_)⟩
        · refine ⟨_, rfl, _, rfl, _, rfl, by show 2 ≤ sizeLine; decide, fun p np => q _ _ (sm.trans (same_upd np)) (sm.free np) ⟨_, b, upd_same, ?_, b0, b1⟩⟩
          split <;> omega
        · refine ⟨_, rfl, by show 2 ≤ sizeLine; decide, fun p np => q _ _ (sm.trans (same_upd np)) (sm.free np) ⟨0, b, upd_same, by omega, b0, b1⟩⟩
def spTake : Sp := fun vs H Q _ => ∃ (p : Addr) (m : Int), vs = [.ref p, .int m] ∧ Bag H p ∧ 1 ≤ m ∧ m < 1073741824 ∧ ∀ H' r, Kp p H H' → 0 ≤ r → r < m → Q (.int r) H'
theorem kp_upd {p : Addr} {H : Hp} {u v : Int} (h0 : 0 ≤ u) (h1 : 0 ≤ v) (h2 : v < 2147483648) : Kp p H (upd H p (.lst [.int u, .int v])) := ⟨fun b o n e => by
  rw [upd_ne n]
  exact e, u, v, upd_same, h0, h1, h2⟩
theorem ok_take {f : Addr} {fd : FuncData} (F : Fun K "_law_take" "_law_take" sTake f fd) (T : Blt mg) : FnOk P w K mg base CX0 1 f fd ["_law_bag_here", "_law_many"] spTake := by
  refine F.ok scTake (fun vs H Q E h => ?_) (fun cdv A outer s H vs Q E hr h => ?_)
  · obtain ⟨p, m, rfl, _⟩ := h
    rfl
  · obtain ⟨p, m, rfl, ⟨u, v, hp, u0, v0, v1⟩, m0, m1, q⟩ := h
    refine ⟨_, pss_cons (ps_if (pt_cmpR op_gt (pe_ix ix_list (pv 0) pe_int (fun _ _ => rfl)) pe_int (nomark _))
        (pss_cons (ps_set (i := 2) scTake.nd rfl (.inl rfl) (pe_op op_modN (pe_callTy call_int1 (by rfl) T.int (by decide +kernel) (pa_cons (pe_ix ix_list (pv 0) pe_int (fun _ _ => rfl)) pa_nil)) (pv 1)))
        (pss_cons (ps_asg (pe_op op_fdivN (pe_ix ix_list (pv 0) pe_int (fun _ _ => rfl)) (pv 1)) (pg_sub (pv 0) pe_int set_list))
        (pss_one (ps_ret (pv 2))))) pss_nil)
      (pss_cons (ps_asg (pe_op op_mod (pe_callTy call_int1 (by rfl) T.int (by decide +kernel) (pa_cons (pe_op op_add (pe_op op_mul (pe_ix ix_list (pv 0) pe_int (fun _ _ => rfl)) pe_int) pe_int) pa_nil)) pe_int) (pg_sub (pv 0) pe_int set_list))
      (pss_one (ps_ret (pe_op op_modN (pe_op op_fdiv (pe_op op_mod (pe_callTy call_int1 (by rfl) T.int (by decide +kernel) (pa_cons (pe_op op_mul (pe_op op_fdiv (pe_ix ix_list (pv 0) pe_int (fun _ _ => rfl)) pe_int) pe_int) pa_nil)) pe_int) pe_int) (pv 1))))), ?_⟩
    have g0 : atI [V.int u, V.int v] 0 = some (.int u) := atI_nat (j := 0) rfl
    have g1 : atI [V.int u, V.int v] 1 = some (.int v) := atI_nat (j := 1) rfl
    refine ⟨.ref p, rfl, p, _, 0, _, rfl, rfl, SqL.of hp, g0, _, _, rfl, rfl, _, rfl, ite2 (fun hpos => ?_) (fun _ => ?_)⟩
    · have hu : 0 < u := of_decide_eq_true hpos
      refine ⟨.ref p, rfl, p, _, 0, _, rfl, rfl, SqL.of hp, g0, .inl ⟨u, rfl, _, rfl, u, m, rfl, rfl, by omega, ?_⟩⟩
      refine ⟨.ref p, rfl, p, _, 0, _, rfl, rfl, SqL.of hp, g0, _, rfl, u, m, rfl, rfl, ⟨by omega, by omega⟩, ?_⟩
      refine ⟨.ref p, rfl, p, _, 0, 0, rfl, rfl, hp, rfl, ?_⟩
      refine ⟨_, rfl, ?_⟩
      have e1 : u.fdiv m = u / m := Int.fdiv_eq_ediv_of_nonneg _ (by omega)
      have e2 : u.fmod m = u % m := Int.fmod_eq_emod_of_nonneg _ (by omega)
      exact q _ _ (kp_upd (by rw [e1]; exact Int.ediv_nonneg (by omega) (by omega)) v0 v1) (by rw [e2]; exact Int.emod_nonneg _ (by omega)) (by rw [e2]; exact Int.emod_lt_of_pos _ (by omega))
    · refine ⟨.ref p, rfl, p, _, 1, _, rfl, rfl, SqL.of hp, g1, v, _, rfl, rfl, .inr ⟨by decide, by decide⟩, _, _, rfl, rfl, .inl ⟨_, rfl, _, _, rfl, rfl, (by show (0 : Int) < 2147483629; decide), ?_⟩⟩
      refine ⟨.ref p, rfl, p, _, 1, 1, rfl, rfl, hp, rfl, ?_⟩
      have hv : 0 ≤ (v * 48271 + 90001) % 2147483629 ∧ (v * 48271 + 90001) % 2147483629 < 2147483648 := by omega
      have hz : (upd H p (.lst [V.int u, V.int ((v * 48271 + 90001) % 2147483629)])) p = some (.lst [V.int u, V.int ((v * 48271 + 90001) % 2147483629)]) := upd_same
      have g2 : atI [V.int u, V.int ((v * 48271 + 90001) % 2147483629)] 1 = some (.int ((v * 48271 + 90001) % 2147483629)) := atI_nat (j := 1) rfl
      refine ⟨.ref p, rfl, p, _, 1, _, rfl, rfl, SqL.of hz, g2, _, _, rfl, rfl, ⟨by decide, by decide⟩, _, _, rfl, rfl, .inr ⟨by decide, by decide⟩, .inl ⟨_, rfl, _, _, rfl, rfl, (by show (0 : Int) < 2147483647; decide), _, _, rfl, rfl, ⟨by decide, by decide⟩, .int m, rfl, _, m, rfl, rfl, by omega, ?_⟩⟩
      have e2 : ∀ y : Int, y.fmod m = y % m := fun y => Int.fmod_eq_emod_of_nonneg _ (by omega)
      exact q _ _ (kp_upd u0 hv.1 hv.2) (by rw [e2]; exact Int.emod_nonneg _ (by omega)) (by rw [e2]; exact Int.emod_lt_of_pos _ (by omega))
end
end Dr
namespace Dr
open PySem PySem.Spec PyProof.Rows L2
abbrev sIsName : Stmt := topS 11
abbrev sIsOwner : Stmt := topS 12
abbrev sIsAsc : Stmt := topS 13
abbrev sIsItems : Stmt := topS 14
theorem scIsName : FnScope ["thing", "letter"] ["thing"] (defScope sIsName) := ⟨rfl, rfl, rfl, by decide +kernel, rfl, by decide +kernel, by decide +kernel⟩
theorem scIsOwner : FnScope ["thing"] ["thing"] (defScope sIsOwner) := ⟨rfl, rfl, rfl, by decide +kernel, rfl, by decide +kernel, by decide +kernel⟩
theorem scIsAsc : FnScope ["words", "low", "high"] ["words"] (defScope sIsAsc) := ⟨rfl, rfl, rfl, by decide +kernel, rfl, by decide +kernel, by decide +kernel⟩
theorem scIsItems : FnScope ["thing", "part"] ["thing"] (defScope sIsItems) := ⟨rfl, rfl, rfl, by decide +kernel, rfl, by decide +kernel, by decide +kernel⟩
def barred : List Str := ["marks", "kind", "value", "def", "return", "none", "copy", "if", "unless", "in", "is", "mark", "box", "once", "anew", "early", "late", "cls", "self", "method"]
def lowC (c : Nat) : Bool := decide (97 ≤ c) && decide (c ≤ 122)
def nameOk (z : Str) : Bool := (decide (1 ≤ z.length) && decide (z.length ≤ 8)) && (!(barred.contains z) && z.cps.toList.all lowC)
def isNameD : PyData → Bool
  | .str z => nameOk z
  | _ => false
def isOwnerD : PyData → Bool
  | .str z => z == "cls" || nameOk z
  | _ => false
def ltS (a b : Str) : Bool := decide (a.cps.toList < b.cps.toList)
def ascS : List Str → Bool
  | a :: b :: r => ltS a b && ascS (b :: r)
  | _ => true
def strsOf : List PyData → Option (List Str)
  | [] => some []
  | .str z :: r => (strsOf r).map (z :: ·)
  | _ :: _ => none
def isItemsD : PyData → Bool
  | .tuple ds => ds.all isNameD && (match strsOf ds with | some zs => ascS zs | none => false)
  | _ => false
theorem Same.seqT {K : PySem.W.Frag} {H H' : Hp} {a : Addr} {xs : List V} (e : Same H H') (h : SqT K H a xs) : SqT K H' a xs := by
  rcases h with (h | ⟨o, h⟩) | h
  · exact .inl (.inl (e _ _ h))
  · exact .inl (.inr ⟨o, e _ _ h⟩)
  · exact .inr h
mutual
theorem dp_same {K : PySem.W.Frag} {H H' : Hp} (e : Same H H') : ∀ {v : V} {d : PyData}, Dp K H v d → Dp K H' v d
  | _, _, .non => .non
  | _, _, .bl b => .bl b
  | _, _, .int i => .int i
  | _, _, .str x => .str x
  | _, _, .lst h hs => .lst (e.seq h) (dpAll_same e hs)
  | _, _, .tup h hs => .tup (Same.seqT e h) (dpAll_same e hs)
theorem dpAll_same {K : PySem.W.Frag} {H H' : Hp} (e : Same H H') : ∀ {vs : List V} {ds : List PyData}, DpAll K H vs ds → DpAll K H' vs ds
  | _, _, .nil => .nil
  | _, _, .cons h hs => .cons (dp_same e h) (dpAll_same e hs)
end
theorem dpAll_len {K : PySem.W.Frag} {H : Hp} : ∀ {vs : List V} {ds : List PyData}, DpAll K H vs ds → vs.length = ds.length
  | _, _, .nil => rfl
  | _, _, .cons _ hs => by rw [List.length_cons, List.length_cons, dpAll_len hs]
theorem dpAll_get {K : PySem.W.Frag} {H : Hp} : ∀ {vs : List V} {ds : List PyData} {i : Nat} {v : V}, DpAll K H vs ds → vs[i]? = some v → ∃ d, ds[i]? = some d ∧ Dp K H v d
  | _, _, i, v, .nil, h => by simp at h
  | _, _, 0, v, .cons h hs, e => ⟨_, rfl, by
    have q := Option.some.inj e
    subst q
    exact h⟩
  | _, _, i + 1, v, .cons h hs, e => dpAll_get (i := i) hs e
theorem dpAll_strs {K : PySem.W.Frag} {H : Hp} : ∀ (zs : List Str), DpAll K H (zs.map V.str) (zs.map PyData.str)
  | [] => .nil
  | z :: r => .cons (.str z) (dpAll_strs r)
/-- the type of a datum -/
def tyD : PyData → String
  | .none => "NoneType"
  | .bool _ => "bool"
  | .int _ => "int"
  | .str _ => "str"
  | .list _ => "list"
  | .tuple _ => "tuple"
  | .dict _ => "dict"
theorem tyx_lst {K : PySem.W.Frag} {H : Hp} {a : Addr} {xs : List V} (h : SqL K H a xs) : TyX K H (.ref a) (.type "list") := by
  rcases h with (h | ⟨o, h⟩) | ⟨o, its, n, h, c, _⟩
  · exact .base (.lst h)
  · exact .base (.frz h)
  · exact .kList h c
theorem tyx_tup {K : PySem.W.Frag} {H : Hp} {a : Addr} {xs : List V} (h : SqT K H a xs) : TyX K H (.ref a) (.type "tuple") := by
  rcases h with (h | ⟨o, h⟩) | ⟨o, its, n, h, c, _⟩
  · exact .base (.tup h)
  · exact .fTuple h
  · exact .kTuple h c
theorem dp_ty {K : PySem.W.Frag} {H : Hp} {v : V} {d : PyData} (h : Dp K H v d) : TyX K H v (.type (tyD d)) := by
  cases h with
  | non => exact .base .non
  | bl b => exact .base (.bl b)
  | int i => exact .base (.int i)
  | str x => exact .base (.str x)
  | lst h _ => exact tyx_lst h
  | tup h _ => exact tyx_tup h
def isStrD : PyData → Bool
  | .str _ => true
  | _ => false
def isTupD : PyData → Bool
  | .tuple _ => true
  | _ => false
def isBoolD : PyData → Bool
  | .bool _ => true
  | _ => false
theorem kit_str {K : PySem.W.Frag} : ∀ d : PyData, PySem.W.kitOne K (.type (tyD d)) (.type "str") = some (isStrD d)
  | .none => kit_ty (show kitB "NoneType" "str" = some false by decide +kernel)
  | .bool _ => kit_ty (show kitB "bool" "str" = some false by decide +kernel)
  | .int _ => kit_ty (show kitB "int" "str" = some false by decide +kernel)
  | .str _ => kit_ty (show kitB "str" "str" = some true by decide +kernel)
  | .list _ => kit_ty (show kitB "list" "str" = some false by decide +kernel)
  | .tuple _ => kit_ty (show kitB "tuple" "str" = some false by decide +kernel)
  | .dict _ => kit_ty (show kitB "dict" "str" = some false by decide +kernel)
theorem kit_tup {K : PySem.W.Frag} : ∀ d : PyData, PySem.W.kitOne K (.type (tyD d)) (.type "tuple") = some (isTupD d)
  | .none => kit_ty (show kitB "NoneType" "tuple" = some false by decide +kernel)
  | .bool _ => kit_ty (show kitB "bool" "tuple" = some false by decide +kernel)
  | .int _ => kit_ty (show kitB "int" "tuple" = some false by decide +kernel)
  | .str _ => kit_ty (show kitB "str" "tuple" = some false by decide +kernel)
  | .list _ => kit_ty (show kitB "list" "tuple" = some false by decide +kernel)
  | .tuple _ => kit_ty (show kitB "tuple" "tuple" = some true by decide +kernel)
  | .dict _ => kit_ty (show kitB "dict" "tuple" = some false by decide +kernel)
theorem kit_bool {K : PySem.W.Frag} : ∀ d : PyData, PySem.W.kitOne K (.type (tyD d)) (.type "bool") = some (isBoolD d)
  | .none => kit_ty (show kitB "NoneType" "bool" = some false by decide +kernel)
  | .bool _ => kit_ty (show kitB "bool" "bool" = some true by decide +kernel)
  | .int _ => kit_ty (show kitB "int" "bool" = some false by decide +kernel)
  | .str _ => kit_ty (show kitB "str" "bool" = some false by decide +kernel)
  | .list _ => kit_ty (show kitB "list" "bool" = some false by decide +kernel)
  | .tuple _ => kit_ty (show kitB "tuple" "bool" = some false by decide +kernel)
  | .dict _ => kit_ty (show kitB "dict" "bool" = some false by decide +kernel)
mutual
/-- texts and sequences of a size that Python's own limits leave alone -/
def smD : PyData → Bool
  | .str z => decide (z.length ≤ 1000)
  | .list ds => decide (ds.length ≤ 1000) && smAll ds
  | .tuple ds => decide (ds.length ≤ 1000) && smAll ds
  | .dict _ => false
  | _ => true
def smAll : List PyData → Bool
  | [] => true
  | d :: r => smD d && smAll r
end
structure OkD (d : PyData) : Prop where
  sh : SeqAt.shaped d = true
  sm : smD d = true
theorem smAll_get : ∀ {ds : List PyData}, smAll ds = true → ∀ d ∈ ds, smD d = true
  | [], _, _, h => by cases h
  | x :: r, h, d, hd => by
    have h' : smD x = true ∧ smAll r = true := by simpa [smAll] using h
    rcases List.mem_cons.mp hd with e | e
    · exact e ▸ h'.1
    · exact smAll_get h'.2 d e
theorem depth_all : ∀ {ds : List PyData}, ∀ d ∈ ds, d.depth ≤ PyData.depthAll ds
  | [], d, h => by cases h
  | x :: r, d, hd => by
    show d.depth ≤ max x.depth (PyData.depthAll r)
    rcases List.mem_cons.mp hd with e | e
    · subst e
      exact Nat.le_max_left _ _
    · exact Nat.le_trans (depth_all d e) (Nat.le_max_right _ _)
theorem OkD.tup {ds : List PyData} (h : OkD (.tuple ds)) : ds.length ≤ 1000 ∧ ∀ d ∈ ds, OkD d := by
  obtain ⟨hs, hm⟩ := h
  have hm' : ds.length ≤ 1000 ∧ smAll ds = true := by simpa [smD] using hm
  refine ⟨hm'.1, fun d hd => ⟨?_, smAll_get hm'.2 d hd⟩⟩
  have h1 := SeqAt.canLay_of_shaped hs
  have h2 := SeqAt.depth_of_shaped hs
  have h3 : PyData.canLayAll0 ds = true := by simpa only [PyData.canLay0] using h1
  have h4 : PyData.depthAll ds + 1 ≤ 64 := h2
  have h5 := depth_all d hd
  show (d.canLay0 && decide (d.depth ≤ 64)) = true
  rw [Bool.and_eq_true]
  exact ⟨PyData.canLay0_of_mem ds d h3 hd, decide_eq_true (by omega)⟩
/-- what the words module reads of the top -/
structure Wds (K : PySem.W.Frag) (mg : Str → Option Value) : Prop where
  len : mg "len" = none
  isi : mg "isinstance" = none
  str : mg "str" = none
  tup : mg "tuple" = none
  all : mg "all" = none
  zip : mg "zip" = none
  most : ∃ t, mg "MOST_LETTERS" = some (.int 8 t)
  bar : ∃ a : Addr, mg "BARRED" = some (.ref a) ∧ ∀ H, SqT K H a (barred.map V.str)
theorem flat_strs (l : List Str) : (l.map V.str).all flatV = true := by
  rw [List.all_eq_true]
  intro x hx
  obtain ⟨y, _, rfl⟩ := List.mem_map.mp hx
  rfl
theorem in_strs (z : Str) : ∀ l : List Str, inV (V.str z) (l.map V.str) = l.contains z
  | [] => rfl
  | y :: r => by
    show (eqV (V.str y) (V.str z) || inV (V.str z) (r.map V.str)) = _
    rw [in_strs z r, List.contains_cons]
    congr 1
    show (y == z) = (z == y)
    rw [Bool.eq_iff_iff, beq_iff_eq, beq_iff_eq]
    exact eq_comm
theorem one_lt (c d : Nat) : decide ((⟨#[c]⟩ : Str).cps.toList < (⟨#[d]⟩ : Str).cps.toList) = decide (c < d) := by
  show decide ([c] < [d]) = decide (c < d)
  by_cases h : c < d
  · rw [decide_eq_true h]
    exact decide_eq_true (List.Lex.rel h)
  · rw [decide_eq_false h]
    refine decide_eq_false fun q => ?_
    rcases List.cons_lt_cons_iff.mp q with q | ⟨_, q⟩
    · exact h q
    · exact absurd q (List.not_lt_nil _)
section
variable {P : Program} {w : World} {K : PySem.W.Frag} {mg : Str → Option Value} {base : Heap}
/-- the answer of a question about any object -/
def spAsk (K : PySem.W.Frag) (q : PyData → Bool) : Sp := fun vs H Q _ => ∃ (v : V) (d : PyData), vs = [v] ∧ Dp K H v d ∧ OkD d ∧ ∀ H', Same H H' → Q (.bl (q d)) H'
theorem ok_name {f : Addr} {fd : FuncData} (F : Fun K "is_name" "is_name" sIsName f fd) (T : Wds K mg) : FnOk P w K mg base CX0 1 f fd ["thing"] (spAsk K isNameD) := by
  refine F.ok scIsName (fun vs H Q E h => ?_) (fun cdv A outer s H vs Q E hr h => ?_)
  · obtain ⟨v, d, rfl, _⟩ := h
    rfl
  · obtain ⟨v, d, rfl, hd, hsh, q⟩ := h
    obtain ⟨tm, hm⟩ := T.most
    obtain ⟨aB, hB, hBs⟩ := T.bar
    refine ⟨_, pss_cons (ps_if (PW.pt (pw_or (pt_not (pt_val (pe_callB call_isi (by rfl) T.isi (by decide +kernel) (pa_cons (pv 0) (pa_cons (pe_bltn (v := .ty "str") (by rfl) T.str (by decide +kernel) rfl) pa_nil)))))
        (pw_or1 (pt_not (pt_chain op_le op_le pe_int (pe_callB call_len_str (by rfl) T.len PySem.boot_len (pa_cons (pv 0) pa_nil)) (pe_glob (v := .int 8) (by rfl) hm ⟨_, rfl⟩))))))
        (pss_one (ps_ret pe_bl)) pss_nil)
      (pss_one (ps_ret (pe_and (pe_cmpR op_notIn_seq (pv 0) (pe_glob (v := .ref aB) (by rfl) hB rfl) rfl)
        (pe_one (pe_callB (cr_all rfl) (by rfl) T.all (by decide +kernel) (pa_cons
          (pe_lc (own := [("letter", 1)]) (g := gName 1) (tt := tYes) rfl scIsName.nd (pi_str (pv 0)) (blkOk_by (N := ["thing", "letter"]) (sc := defScope sIsName) (by decide +kernel)) (fun _ _ _ _ _ => pg_name (i := 1) scIsName.nd rfl (Or.inl rfl)) (fun _ _ _ _ _ => pts_nil)
            (fun _ _ _ _ _ => pe_chain op_le_str op_le_str pe_str (pv 1) pe_str)) pa_nil)))))), ?_⟩
    refine ⟨v, rfl, v, .ty "str", _, _, _, rfl, .ty _, dp_ty hd, kit_str d, _, rfl, ?_⟩
    by_cases hstr : isStrD d = true
    · cases d with
      | str z =>
        cases hd
        have hz : z.length ≤ 1000 := of_decide_eq_true hsh.sm
        have hz2 : z.length ≤ sizeLine := Nat.le_of_lt (small1000 hz)
        refine iteF ?_
        refine ⟨_, rfl, _, rfl, hz2, _, _, rfl, rfl, _, rfl, ?_⟩
        have Z : z.length = z.cps.toList.length := (Array.length_toList).symm
        have no : ¬ (1 ≤ z.length ∧ z.length ≤ 8) → isNameD (.str z) = false := fun hn => by
          show nameOk z = false
          unfold nameOk
          by_cases h1 : 1 ≤ z.length
          · have h2 : ¬ z.length ≤ 8 := fun h2 => hn ⟨h1, h2⟩
            simp [h1, h2]
          · simp [h1]
        refine ite2 (fun k1 => ?_) (fun k1 => ?_)
        · have h1 : (1 : Int) ≤ (z.length : Int) := of_decide_eq_true k1
          refine ⟨_, _, rfl, rfl, _, rfl, ite2 (fun k2 => ?_) (fun k2 => ?_)⟩
          · have h2 : ¬ (z.length : Int) ≤ 8 := by simpa using k2
            rw [no (by omega)] at q
            exact q _ (Same.refl _)
          · have h2 : (z.length : Int) ≤ 8 := by simpa using k2
            have en : isNameD (.str z) = (!(barred.contains z) && z.cps.toList.all lowC) := by
              show nameOk z = _
              unfold nameOk
              rw [decide_eq_true (show 1 ≤ z.length by omega), decide_eq_true (show z.length ≤ 8 by omega)]
              rfl
            rw [en] at q
            refine ⟨_, rfl, aB, _, rfl, .inr (hBs _), rfl, flat_strs _, _, rfl, ?_⟩
            show if (!inV (V.str z) (barred.map V.str)) = true then _ else _
            rw [in_strs]
            cases hb : barred.contains z with
            | true =>
              rw [hb] at q
              refine iteF ?_
              exact q _ (Same.refl _)
            | false =>
              rw [hb] at q
              refine iteT ?_
              refine ⟨_, rfl, z, rfl, fun D hD => lc_it walk_str (fun i H1 => Same H H1 ∧ H1 D = some (.lst (((z.cps.toList.take i).map lowC).map V.bl))) ⟨same_upd hD, upd_same⟩ (fun _ _ _ _ => trivial) ?_ ?_⟩
              · rintro i x H1 H2 hi ⟨sm, hl⟩ ⟨rfl, c, hc, rfl⟩
                have hc' : z.cps.toList[i]? = some c := by rw [Array.getElem?_toList]; exact hc
                have ht : ((z.cps.toList.take i).map lowC).map V.bl ++ [V.bl (lowC c)] = ((z.cps.toList.take (i + 1)).map lowC).map V.bl := by
                  rw [List.take_add_one, hc', List.map_append, List.map_append]
                  rfl
                have nx : Same H (upd H2 D (.lst (((z.cps.toList.take (i + 1)).map lowC).map V.bl))) := fun b o e => by
                  rw [upd_ne (ne_of_none e hD)]
                  exact sm _ _ e
                have hsz : (((z.cps.toList.take i).map lowC).map V.bl).length < sizeLine := by
                  rw [List.length_map, List.length_map, List.length_take]
                  exact small1000 (by omega)
                have ea : (!decide ((⟨#[c]⟩ : Str).cps.toList < (("a" : Str)).cps.toList)) = decide (97 ≤ c) := by
                  show (!decide ((⟨#[c]⟩ : Str).cps.toList < (⟨#[97]⟩ : Str).cps.toList)) = _
                  rw [one_lt, ← decide_not]
                  exact decide_eq_decide.mpr (by omega)
                have ez : (!decide ((("z" : Str)).cps.toList < (⟨#[c]⟩ : Str).cps.toList)) = decide (c ≤ 122) := by
                  show (!decide ((⟨#[122]⟩ : Str).cps.toList < (⟨#[c]⟩ : Str).cps.toList)) = _
                  rw [one_lt, ← decide_not]
                  exact decide_eq_decide.mpr (by omega)
                refine ⟨rfl, ?_⟩
                unfold tYes
                refine iteT ?_
                refine ⟨_, rfl, _, _, rfl, rfl, _, rfl, ?_⟩
                rw [ea]
                refine ite2 (fun k => ?_) (fun k => ?_)
                · refine ⟨_, _, rfl, rfl, ?_⟩
                  rw [ez]
                  have el : lowC c = decide (c ≤ 122) := by
                    unfold lowC
                    rw [k]
                    rfl
                  refine ⟨_, hl, hsz, ?_⟩
                  rw [← el, ht]
                  exact ⟨nx, upd_same⟩
                · have el : lowC c = false := by
                    unfold lowC
                    rw [eq_false_of_ne_true k]
                    rfl
                  refine ⟨_, hl, hsz, ?_⟩
                  rw [← el, ht]
                  exact ⟨nx, upd_same⟩
              · rintro H1 ⟨sm, hl⟩
                refine ⟨D, _, rfl, .inl (.inl hl), ?_⟩
                rw [List.take_of_length_le (Nat.le_of_eq (Array.length_toList)), List.all_map]
                exact q _ sm
        · have h1 : ¬ (1 : Int) ≤ (z.length : Int) := by simpa using k1
          refine ⟨_, rfl, iteT ?_⟩
          rw [no (by omega)] at q
          exact q _ (Same.refl _)
      | _ => cases hstr
    · have e : isStrD d = false := by simpa using hstr
      rw [e]
      refine iteT ?_
      refine iteT ?_
      have en : isNameD d = false := by cases d <;> first | rfl | exact absurd rfl hstr
      rw [en] at q
      exact q _ (Same.refl _)
end
end Dr
namespace Dr
open PySem PySem.Spec PyProof.Rows L2
def isClsD : PyData → Bool
  | .str z => z == "cls"
  | _ => false
theorem eqv_cls : ∀ d : PyData, PyData.eqv d (.str "cls") = isClsD d
  | .none => rfl | .bool _ => rfl | .int _ => rfl | .str _ => rfl | .list _ => rfl | .tuple _ => rfl | .dict _ => rfl
theorem walk_zipT {K : PySem.W.Frag} {a b : Addr} {xs ys : List V} {n : Nat} (hn : n = min xs.length ys.length) : Walk (RZ.ItzT K a b) n (fun H => SqT K H a xs ∧ SqT K H b ys) (YPair (fun i => xs[i]?) (fun i => ys[i]?)) := by
  subst hn
  refine ⟨fun i _ hi q => ?_, fun _ q => ⟨xs, ys, q.1, q.2, by omega⟩, fun i H v H' _ q y => ?_⟩
  · have h1 : i < xs.length := by omega
    have h2 : i < ys.length := by omega
    exact ⟨xs, ys, xs[i], ys[i], q.1, q.2, by simp [h1], by simp [h2]⟩
  · obtain ⟨T, x, z, h1, h2, h3, h4, h5⟩ := y
    exact ⟨T, x, z, h1, h2, h3, h4 xs q.1, h5 ys q.2⟩
/-- neighbours in order -/
def pairsLt (zs : List Str) : List Bool := (zs.zip (zs.drop 1)).map fun p => ltS p.1 p.2
theorem pairs_all : ∀ zs : List Str, (pairsLt zs).all id = ascS zs
  | [] => rfl
  | [_] => rfl
  | a :: b :: r => by
    show (ltS a b && (pairsLt (b :: r)).all id) = (ltS a b && ascS (b :: r))
    rw [pairs_all (b :: r)]
theorem cutT1 (xs : List V) : cutV xs (some 1) none = xs.drop 1 := by
  unfold cutV
  rw [show HT.sIx xs.length 0 (some 1) = min 1 xs.length from HT.sIx_nat xs.length 0 1, HT.sIx_none]
  cases xs with
  | nil => rfl
  | cons x r =>
    rw [show min 1 (x :: r).length = 1 by
      rw [List.length_cons]
      omega]
    show (List.take ((x :: r).length - 1) r) = r
    rw [List.length_cons, Nat.add_sub_cancel]
    exact List.take_length
/-- t[1:] of a tuple -/
theorem tail_of {K : PySem.W.Frag} {H : Hp} {a : Addr} {xs : List V} {Q : VK} (h : SqT K H a xs) (q : ∀ b H', Same H H' → SqT K H' b (xs.drop 1) → Q (.ref b) H') : rSlA K (.ref a) (some 1) none H Q := by
  refine ⟨a, xs, rfl, h, fun e => ?_, fun _ p np => q p _ (same_upd np) (.inl (.inl (by rw [upd_same, cutT1])))⟩
  have e1 : min 1 xs.length = 0 := by
    rw [show HT.sIx xs.length 0 (some 1) = min 1 xs.length from HT.sIx_nat xs.length 0 1] at e
    exact e.1
  have e2 : xs = [] := List.eq_nil_of_length_eq_zero (by omega)
  subst e2
  exact q a H (Same.refl _) h
/-- t[1:], by what it gives -/
def rTail (K : PySem.W.Frag) : V → Option Int → Option Int → Hp → VK → Prop := fun x lo hi H Q => lo = some 1 ∧ hi = none ∧ ∃ a xs, x = .ref a ∧ SqT K H a xs ∧ ∀ b H', Same H H' → SqT K H' b (xs.drop 1) → Q (.ref b) H'
theorem sl_tail {X : Cx} : SlR X (rTail X.K) := fun pins s σ H x v vl vu lo hi sl Q I rx hs pl pu h => by
  obtain ⟨rfl, rfl, a, xs, rfl, hx, q⟩ := h
  exact sl_tupA pins s σ H _ v vl vu _ _ sl Q I rx hs pl pu (tail_of hx q)
theorem strs_of_all : ∀ {ds : List PyData}, ds.all isNameD = true → ∃ zs : List Str, ds = zs.map PyData.str
  | [], _ => ⟨[], rfl⟩
  | .str z :: r, h => by
    have h' : isNameD (.str z) = true ∧ r.all isNameD = true := by simpa using h
    obtain ⟨zs, e⟩ := strs_of_all h'.2
    exact ⟨z :: zs, by rw [e]; rfl⟩
  | .none :: _, h => by simp [isNameD] at h
  | .bool _ :: _, h => by simp [isNameD] at h
  | .int _ :: _, h => by simp [isNameD] at h
  | .list _ :: _, h => by simp [isNameD] at h
  | .tuple _ :: _, h => by simp [isNameD] at h
  | .dict _ :: _, h => by simp [isNameD] at h
theorem strsOf_map : ∀ zs : List Str, strsOf (zs.map PyData.str) = some zs
  | [] => rfl
  | z :: r => by
    show (strsOf (r.map PyData.str)).map (z :: ·) = _
    rw [strsOf_map r]
    rfl
theorem vals_strs {K : PySem.W.Frag} {H : Hp} : ∀ {zs : List Str} {vs : List V}, DpAll K H vs (zs.map PyData.str) → vs = zs.map V.str
  | [], _, .nil => rfl
  | z :: r, _, .cons h hs => by
    cases h
    rw [vals_strs hs]
    rfl
theorem acc_next {f : PyData → Bool} {ds : List PyData} {i : Nat} {d : PyData} (h : ds[i]? = some d) : ((ds.take i).map f).map V.bl ++ [V.bl (f d)] = ((ds.take (i + 1)).map f).map V.bl := by
  rw [List.take_add_one, h, List.map_append, List.map_append]
  rfl
section
variable {P : Program} {w : World} {K : PySem.W.Frag} {mg : Str → Option Value} {base : Heap}
theorem ok_owner {f fN : Addr} {fd fdN : FuncData} (F : Fun K "is_owner" "is_owner" sIsOwner f fd) (GN : FnOk P w K mg base CX0 1 fN fdN ["thing"] (spAsk K isNameD)) (mN : mg "is_name" = some (.ref fN)) (kN : PySem.W.keepIn K (.ref fN) = true) (bN : Binds K fdN ["thing"] []) :
    FnOk P w K mg base CX0 2 f fd ["thing"] (spAsk K isOwnerD) := by
  refine F.ok scIsOwner (fun vs H Q E h => ?_) (fun cdv A outer s H vs Q E hr h => ?_)
  · obtain ⟨v, d, rfl, _⟩ := h
    rfl
  · obtain ⟨v, d, rfl, hd, hok, q⟩ := h
    have hu : (A.deeper (envOfC "is_owner" (defScope sIsOwner) s.heap.objs.size f cdv)).units + 64 < cLine := hr.units
    refine ⟨_, pss_one (ps_ret (pe_or (pe_cmpR (op_eqD hu) (pv 0) pe_str (nomark _)) (pe_one (pe_call GN hr (by rfl) mN kN bN .nil pass0 (pa_cons (pv 0) pa_nil))))), ?_⟩
    refine ⟨v, rfl, d, .str "cls", hd, .str _, hok.sh, (by decide +kernel), _, rfl, ?_⟩
    rw [eqv_cls]
    have hq : ∀ b : Bool, isClsD d = b → isOwnerD d = (b || isNameD d) := fun b e => by
      subst e
      cases d <;> rfl
    refine ite2 (fun k => ?_) (fun k => ?_)
    · rw [hq _ k] at q
      exact q _ (Same.refl _)
    · rw [hq _ (eq_false_of_ne_true k)] at q
      exact ⟨v, rfl, v, d, rfl, hd, hok, q⟩
def spAsc (K : PySem.W.Frag) : Sp := fun vs H Q _ => ∃ (a : Addr) (zs : List Str), vs = [.ref a] ∧ SqT K H a (zs.map V.str) ∧ zs.length ≤ 1000 ∧ ∀ H', Same H H' → Q (.bl (ascS zs)) H'
theorem ok_asc {f : Addr} {fd : FuncData} (F : Fun K "is_ascending" "is_ascending" sIsAsc f fd) (T : Wds K mg) : FnOk P w K mg base CX0 1 f fd ["words"] (spAsc K) := by
  refine F.ok scIsAsc (fun vs H Q E h => ?_) (fun cdv A outer s H vs Q E hr h => ?_)
  · obtain ⟨a, zs, rfl, _⟩ := h
    rfl
  · obtain ⟨a, zs, rfl, hS, hlen, q⟩ := h
    refine ⟨_, pss_one (ps_ret (pe_callB (cr_all rfl) (by rfl) T.all (by decide +kernel) (pa_cons
          (pe_lc (own := [("low", 1), ("high", 2)]) (g := gTup K 2 (gCons (gName 1) (gCons (gName 2) gNil))) (tt := tYes) rfl scIsAsc.nd (RZ.pi_zipA (by rfl) T.zip (pa_cons (pv 0) (pa_cons (pe_slice sl_tail (pv 0) (po_some pe_int) po_none) pa_nil)))
            (blkOk_by (N := ["words", "low", "high"]) (sc := defScope sIsAsc) (by decide +kernel)) (fun _ _ _ _ _ => pg_tup rfl (pgs_cons (pg_name (i := 1) scIsAsc.nd rfl (Or.inl rfl)) (pgs_cons (pg_name (i := 2) scIsAsc.nd rfl (Or.inl rfl)) pgs_nil))) (fun _ _ _ _ _ => pts_nil)
            (fun _ _ _ _ _ => pe_cmpR op_lt_str (pv 1) (pv 2) (nomark _))) pa_nil))), ?_⟩
    refine ⟨_, rfl, _, rfl, 1, rfl, rfl, rfl, a, _, rfl, hS, fun b H1 s1 hb => ?_⟩
    rw [← List.map_drop] at hb
    refine ⟨a, b, zs.map V.str, (zs.drop 1).map V.str, rfl, .inr ⟨Same.seqT s1 hS, hb, fun D hD => ?_⟩⟩
    have hz : (zs.zip (zs.drop 1)).length = zs.length - 1 := by
      rw [List.length_zip, List.length_drop]
      omega
    refine lc_it (walk_zipT (n := (zs.zip (zs.drop 1)).length) (by rw [List.length_map, List.length_map, List.length_zip])) (fun i H2 => Same H1 H2 ∧ H2 D = some (.lst (((pairsLt zs).take i).map V.bl))) ⟨same_upd hD, upd_same⟩ (fun _ _ _ h => ⟨Same.seqT (s1.trans h.1) hS, Same.seqT h.1 hb⟩) ?_ ?_
    · rintro i v H2 H3 hi ⟨sm, hl⟩ ⟨T', x, y, rfl, nT, rfl, e1, e2⟩
      have hi1 : i < zs.length := by omega
      have hi2 : i < (zs.drop 1).length := by rw [List.length_drop]; omega
      have e1 := (show (zs.map V.str)[i]? = some x from e1)
      have e2 := (show ((zs.drop 1).map V.str)[i]? = some y from e2)
      rw [List.getElem?_map, List.getElem?_eq_getElem hi1] at e1
      rw [List.getElem?_map, List.getElem?_eq_getElem hi2] at e2
      obtain rfl := Option.some.inj e1
      obtain rfl := Option.some.inj e2
      have nD : D ≠ T' := ne_of_none hl nT
      have hg : (pairsLt zs)[i]? = some (ltS zs[i] (zs.drop 1)[i]) := by
        unfold pairsLt
        rw [List.getElem?_map, List.getElem?_eq_getElem hi, List.getElem_zip]
        rfl
      refine ⟨T', _, rfl, .inl (.inl upd_same), rfl, _, _, rfl, _, _, rfl, rfl, rfl, ?_⟩
      unfold tYes
      refine iteT ?_
      refine ⟨_, rfl, _, rfl, _, _, rfl, rfl, _, (by rw [upd_ne nD]; exact hl), ?_, fun c o e => ?_, ?_⟩
      · rw [List.length_map, List.length_take]
        exact small1000 (by omega)
      · rw [upd_ne (ne_of_none e hD), upd_ne (ne_of_none (sm _ _ e) nT)]
        exact sm _ _ e
      · rw [upd_same, List.take_add_one, hg, List.map_append]
        rfl
    · rintro H2 ⟨sm, hl⟩
      refine ⟨D, _, rfl, .inl (.inl hl), ?_⟩
      rw [List.take_of_length_le (by unfold pairsLt; rw [List.length_map]; exact Nat.le_refl _), pairs_all]
      exact q _ (s1.trans sm)
theorem ok_items {f fN fA : Addr} {fd fdN fdA : FuncData} (F : Fun K "is_items" "is_items" sIsItems f fd) (T : Wds K mg) (GN : FnOk P w K mg base CX0 1 fN fdN ["thing"] (spAsk K isNameD)) (mN : mg "is_name" = some (.ref fN)) (kN : PySem.W.keepIn K (.ref fN) = true) (bN : Binds K fdN ["thing"] [])
    (GA : FnOk P w K mg base CX0 1 fA fdA ["words"] (spAsc K)) (mA : mg "is_ascending" = some (.ref fA)) (kA : PySem.W.keepIn K (.ref fA) = true) (bA : Binds K fdA ["words"] []) :
    FnOk P w K mg base CX0 2 f fd ["thing"] (spAsk K isItemsD) := by
  refine F.ok scIsItems (fun vs H Q E h => ?_) (fun cdv A outer s H vs Q E hr h => ?_)
  · obtain ⟨v, d, rfl, _⟩ := h
    rfl
  · obtain ⟨v, d, rfl, hd, hok, q⟩ := h
    refine ⟨_, pss_one (ps_ret (pe_and (pe_callB call_isi (by rfl) T.isi (by decide +kernel) (pa_cons (pv 0) (pa_cons (pe_bltn (v := .ty "tuple") (by rfl) T.tup (by decide +kernel) rfl) pa_nil)))
      (pe_and (pe_callB (cr_all rfl) (by rfl) T.all (by decide +kernel) (pa_cons
          (pe_lc (own := [("part", 1)]) (g := gName 1) (tt := tYes) rfl scIsItems.nd (pi_tup (pv 0)) (blkOk_by (N := ["thing", "part"]) (sc := defScope sIsItems) (by decide +kernel)) (fun _ _ _ _ _ => pg_name (i := 1) scIsItems.nd rfl (Or.inl rfl)) (fun _ _ _ _ _ => pts_nil)
            (fun _ _ _ _ _ => pe_call GN hr (by rfl) mN kN bN .nil pass0 (pa_cons (pv 1) pa_nil))) pa_nil))
        (pe_one (pe_call GA hr (by rfl) mA kA bA .nil pass0 (pa_cons (pv 0) pa_nil)))))), ?_⟩
    refine ⟨v, rfl, v, .ty "tuple", _, _, _, rfl, .ty _, dp_ty hd, kit_tup d, _, rfl, ?_⟩
    by_cases ht : isTupD d = true
    · cases d with
      | tuple ds =>
        cases hd with
        | @tup a xs _ hS hall =>
          obtain ⟨hlen, hoks⟩ := hok.tup
          have hxl := dpAll_len hall
          refine iteT ?_
          refine ⟨_, rfl, a, rfl, ⟨_, hS⟩, fun D hD => lc_it walk_tup (fun i H1 => Same H H1 ∧ H1 D = some (.lst (((ds.take i).map isNameD).map V.bl))) ⟨same_upd hD, upd_same⟩ (fun _ _ _ h => Same.seqT h.1 hS) ?_ ?_⟩
          · rintro i x H1 H2 hi ⟨sm, hl⟩ ⟨rfl, hx⟩
            obtain ⟨d', hd', hdp⟩ := dpAll_get hall hx
            refine ⟨rfl, ?_⟩
            unfold tYes
            refine iteT ?_
            refine ⟨_, rfl, _, d', rfl, dp_same sm hdp, hoks d' (List.mem_of_getElem? hd'), fun H3 s3 => ?_⟩
            refine ⟨_, s3 _ _ hl, ?_, ?_⟩
            · rw [List.length_map, List.length_map, List.length_take]
              exact small1000 (by omega)
            · rw [acc_next hd']
              refine ⟨fun c o e => ?_, upd_same⟩
              rw [upd_ne (ne_of_none e hD)]
              exact s3 _ _ (sm _ _ e)
          · rintro H1 ⟨sm, hl⟩
            refine ⟨D, _, rfl, .inl (.inl hl), _, rfl, ?_⟩
            rw [hxl, List.take_of_length_le (Nat.le_refl _), List.all_map]
            show if ds.all isNameD = true then _ else _
            refine ite2 (fun hn => ?_) (fun hn => ?_)
            · obtain ⟨zs, rfl⟩ := strs_of_all hn
              have e := vals_strs hall
              subst e
              have ed : isItemsD (.tuple (zs.map PyData.str)) = ascS zs := by
                show ((zs.map PyData.str).all isNameD && (match strsOf (zs.map PyData.str) with | some zs => ascS zs | none => false)) = _
                rw [hn, strsOf_map]
                rfl
              rw [ed] at q
              rw [List.length_map] at hlen
              exact ⟨_, rfl, a, zs, rfl, Same.seqT sm hS, hlen, fun H2 s2 => q _ (sm.trans s2)⟩
            · have ed : isItemsD (.tuple ds) = false := by
                show (ds.all isNameD && _) = false
                rw [eq_false_of_ne_true hn]
                rfl
              rw [ed] at q
              exact q _ sm
      | _ => cases ht
    · have e : isTupD d = false := eq_false_of_ne_true ht
      rw [e]
      refine iteF ?_
      have en : isItemsD d = false := by cases d <;> first | rfl | exact absurd rfl ht
      rw [en] at q
      exact q _ (Same.refl _)
end
end Dr
namespace Dr
open PySem PySem.Spec PyProof.Rows L2
abbrev sFormOf : Stmt := topS 24
abbrev sIsSort : Stmt := topS 25
abbrev sHasForm : Stmt := topS 26
abbrev sIsDef : Stmt := topS 27
theorem scFormOf : FnScope ["thing", "forms", "form"] ["thing", "forms"] (defScope sFormOf) := ⟨rfl, rfl, rfl, by decide +kernel, rfl, by decide +kernel, by decide +kernel⟩
theorem scIsSort : FnScope ["part", "sort"] ["part", "sort"] (defScope sIsSort) := ⟨rfl, rfl, rfl, by decide +kernel, rfl, by decide +kernel, by decide +kernel⟩
theorem scHasForm : FnScope ["thing", "forms", "form", "part", "sort"] ["thing", "forms"] (defScope sHasForm) := ⟨rfl, rfl, rfl, by decide +kernel, rfl, by decide +kernel, by decide +kernel⟩
theorem scIsDef : FnScope ["thing", "holds"] ["thing", "holds"] (defScope sIsDef) := ⟨rfl, rfl, rfl, by decide +kernel, rfl, by decide +kernel, by decide +kernel⟩
abbrev Form := List Str
def fits (d : PyData) (f : Form) : Bool := match d, f with
  | .tuple (x :: r), w :: q => (r.length == q.length) && PyData.eqv x (.str w)
  | _, _ => false
def formOf (d : PyData) (fs : List Form) : Option Form := fs.find? (fits d)
def sorted2 (S : PyData → Str → Bool) : List PyData → List Str → List Bool
  | d :: r, z :: q => S d z :: sorted2 S r q
  | _, _ => []
def tailD : PyData → List PyData
  | .tuple ds => ds.drop 1
  | _ => []
def hasForm (S : PyData → Str → Bool) (d : PyData) (fs : List Form) : Bool := match formOf d fs with
  | none => false
  | some f => (sorted2 S (tailD d) (f.drop 1)).all id
/-- a tuple of forms of the written part -/
def FmAt (K : PySem.W.Frag) (b : Addr) (f : Form) : Prop := ∀ H, SqT K H b (f.map V.str)
structure Fms (K : PySem.W.Frag) (a : Addr) (fs : List Form) : Prop where
  ex : ∃ as : List Addr, (∀ H, SqT K H a (as.map V.ref)) ∧ Paired (FmAt K) as fs
theorem paired_get {α β : Type} {R : α → β → Prop} : ∀ {xs : List α} {ys : List β} {i : Nat} {x : α}, Paired R xs ys → xs[i]? = some x → ∃ y, ys[i]? = some y ∧ R x y
  | _, _, i, x, .nil, h => by simp at h
  | _, _, 0, x, .cons r _, h => ⟨_, rfl, by
    have q := Option.some.inj h
    subst q
    exact r⟩
  | _, _, i + 1, x, .cons _ rs, h => paired_get (i := i) rs h
theorem fits_not {d : PyData} {f : Form} (h : isTupD d = false) : fits d f = false := by
  cases d <;> first | rfl | cases h
theorem formOf_not {d : PyData} {fs : List Form} (h : isTupD d = false) : formOf d fs = none := by
  unfold formOf
  rw [List.find?_eq_none]
  intro f _
  rw [fits_not h]
  exact Bool.false_ne_true
theorem formOf_next {d : PyData} {fs : List Form} {i : Nat} {f : Form} (h : fs[i]? = some f) (n : formOf d (fs.take i) = none) : (fits d f = true → formOf d fs = some f) ∧ (fits d f = false → formOf d (fs.take (i + 1)) = none) := by
  unfold formOf at n ⊢
  refine ⟨fun e => ?_, fun e => ?_⟩
  · have hs : fs = fs.take i ++ (f :: fs.drop (i + 1)) := by
      obtain ⟨hi, rfl⟩ := List.getElem?_eq_some_iff.mp h
      rw [← List.drop_eq_getElem_cons hi, List.take_append_drop]
    rw [hs, List.find?_append, n, List.find?_cons, e]
    rfl
  · rw [List.take_add_one, h, List.find?_append, n, Option.none_or]
    show List.find? (fits d) [f] = none
    rw [List.find?_cons, e]
    rfl
section
variable {P : Program} {w : World} {K : PySem.W.Frag} {mg : Str → Option Value} {base : Heap}
def spFormOf (K : PySem.W.Frag) : Sp := fun vs H Q _ => ∃ (v : V) (d : PyData) (a : Addr) (fs : List Form), vs = [v, .ref a] ∧ Dp K H v d ∧ OkD d ∧ Fms K a fs ∧ (∀ f ∈ fs, 1 ≤ f.length ∧ ∀ z ∈ f, SeqAt.shaped (.str z) = true) ∧ (formOf d fs = none → Q .non H) ∧ ∀ f b, f ∈ fs → formOf d fs = some f → FmAt K b f → Q (.ref b) H
theorem ok_formOf {f : Addr} {fd : FuncData} (F : Fun K "form_of" "form_of" sFormOf f fd) (T : Wds K mg) : FnOk P w K mg base CX0 1 f fd ["thing", "forms"] (spFormOf K) := by
  refine F.ok scFormOf (fun vs H Q E h => ?_) (fun cdv A outer s H vs Q E hr h => ?_)
  · obtain ⟨v, d, a, fs, rfl, _⟩ := h
    rfl
  · obtain ⟨v, d, a, fs, rfl, hd, hok, hF, h1, q0, q1⟩ := h
    have hu : (A.deeper (envOfC "form_of" (defScope sFormOf) s.heap.objs.size f cdv)).units + 64 < cLine := hr.units
    refine ⟨_, pss_cons (ps_if (pt_not (pt_val (pe_callB call_isi (by rfl) T.isi (by decide +kernel) (pa_cons (pv 0) (pa_cons (pe_bltn (v := .ty "tuple") (by rfl) T.tup (by decide +kernel) rfl) pa_nil))))) (pss_one (ps_ret pe_non)) pss_nil)
      (pss_cons (ps_for PassesOwn.never rfl (pi_tup (pv 1)) (pg_name (i := 2) scFormOf.nd rfl (.inl rfl))
        (pss_one (ps_if (PW.pt (pw_and (pt_cmpR op_eq (pe_callB call_len_seq (by rfl) T.len PySem.boot_len (pa_cons (pv 0) pa_nil)) (pe_callB call_len_seq (by rfl) T.len PySem.boot_len (pa_cons (pv 2) pa_nil)) (nomark _))
            (pw_and1 (pt_cmpR (op_eqD hu) (pe_ix ix_tup (pv 0) pe_int (fun _ _ => rfl)) (pe_ix ix_tup (pv 2) pe_int (fun _ _ => rfl)) (nomark _)))))
          (pss_one (ps_ret (pv 2))) pss_nil)))
      (pss_one (ps_ret pe_non))), ?_⟩
    refine ⟨v, rfl, v, .ty "tuple", _, _, _, rfl, .ty _, dp_ty hd, kit_tup d, _, rfl, ?_⟩
    by_cases ht : isTupD d = true
    · rw [ht]
      refine iteF ?_
      obtain ⟨as, hS, hP⟩ := hF.ex
      refine ⟨_, rfl, a, rfl, ⟨_, hS _⟩, for_it walk_tup (fun i σ H' => H' = H ∧ (∃ y, σ = [some v, some (.ref a), y]) ∧ formOf d (fs.take i) = none) ⟨rfl, ⟨_, rfl⟩, rfl⟩ (fun _ _ _ _ _ => hS _) ?_ ?_⟩
      · rintro i x σ H1 H2 hi ⟨rfl, ⟨y, rfl⟩, hn⟩ ⟨rfl, hx⟩
        rw [List.getElem?_map] at hx
        cases hb : as[i]? with
        | none =>
          rw [hb] at hx
          cases hx
        | some b =>
          rw [hb] at hx
          obtain rfl := Option.some.inj hx
          obtain ⟨fm, hfm, hat⟩ := paired_get hP hb
          have hmem : fm ∈ fs := List.mem_of_getElem? hfm
          obtain ⟨hl1, hsh1⟩ := h1 fm hmem
          have hnx := formOf_next hfm hn
          cases d with
          | tuple ds =>
            cases hd with
            | @tup va xs _ hSd hall =>
              have hxl := dpAll_len hall
              refine ⟨_, rfl, va, _, rfl, .inr hSd, _, rfl, b, _, rfl, .inr (hat _), rfl, _, rfl, ?_⟩
              refine ite2 (fun k => ?_) (fun k => ?_)
              · have e1 : (xs.length : Int) = ((fm.map V.str).length : Int) := V.int.inj (of_decide_eq_true k)
                rw [List.length_map] at e1
                cases fm with
                | nil => exact absurd hl1 (by decide)
                | cons z zs =>
                  rw [List.length_cons] at e1
                  cases hall with
                  | nil =>
                    rw [List.length_nil] at e1
                    omega
                  | @cons x0 xr d0 dr hp0 hpr =>
                    have hok0 : OkD d0 := (hok.tup).2 d0 (List.mem_cons_self ..)
                    have el : (dr.length == zs.length) = true := by
                      rw [beq_iff_eq]
                      have := dpAll_len hpr
                      rw [List.length_cons] at e1
                      omega
                    refine ⟨_, rfl, va, _, 0, x0, rfl, rfl, hSd, atI_nat (j := 0) rfl, _, rfl, b, _, 0, .str z, rfl, rfl, hat _, atI_nat (j := 0) rfl, d0, .str z, hp0, .str z, hok0.sh, ?_, _, rfl, ?_⟩
                    · exact hsh1 z (List.mem_cons_self ..)
                    · have ef : fits (.tuple (d0 :: dr)) (z :: zs) = PyData.eqv d0 (.str z) := by
                        show ((dr.length == zs.length) && PyData.eqv d0 (.str z)) = _
                        rw [el]
                        rfl
                      refine ite2 (fun k => ?_) (fun k => ?_)
                      · exact ⟨_, rfl, q1 _ b hmem (hnx.1 (ef.trans k)) hat⟩
                      · exact ⟨rfl, ⟨_, rfl⟩, hnx.2 (ef.trans (eq_false_of_ne_true k))⟩
              · refine ⟨rfl, ⟨_, rfl⟩, hnx.2 ?_⟩
                have e1 : ¬ (xs.length : Int) = ((fm.map V.str).length : Int) := fun e => k (decide_eq_true (by rw [e]))
                rw [List.length_map] at e1
                cases fm with
                | nil => exact absurd hl1 (by decide)
                | cons z zs =>
                  cases ds with
                  | nil => rfl
                  | cons d0 dr =>
                    show ((dr.length == zs.length) && PyData.eqv d0 (.str z)) = false
                    rw [List.length_cons] at e1 hxl
                    rw [show (dr.length == zs.length) = false from beq_eq_false_iff_ne.mpr (by omega)]
                    rfl
          | _ => cases ht
      · rintro σ H1 ⟨rfl, ⟨y, rfl⟩, hn⟩
        have hl : fs.length = (as.map V.ref).length := by
          rw [List.length_map, hP.length]
        rw [← hl, List.take_length] at hn
        exact q0 hn
    · rw [eq_false_of_ne_true ht]
      exact iteT (q0 (formOf_not (eq_false_of_ne_true ht)))
/-- a question about a part and its sort, for sorts that ok allows -/
def spSort (K : PySem.W.Frag) (S : PyData → Str → Bool) (ok : Str → Prop) : Sp := fun vs H Q _ => ∃ (v : V) (d : PyData) (z : Str), vs = [v, .str z] ∧ Dp K H v d ∧ OkD d ∧ ok z ∧ ∀ H', Same H H' → Q (.bl (S d z)) H'
structure FmOk (ok : Str → Prop) (fs : List Form) : Prop where
  len : ∀ f ∈ fs, 1 ≤ f.length ∧ ∀ z ∈ f, SeqAt.shaped (.str z) = true
  tl : ∀ f ∈ fs, ∀ z ∈ f.drop 1, ok z
structure FmOkD (ok : Str → Prop) (d : PyData) (fs : List Form) : Prop where
  len : ∀ f ∈ fs, 1 ≤ f.length ∧ ∀ z ∈ f, SeqAt.shaped (.str z) = true
  tl : ∀ f, formOf d fs = some f → ∀ z ∈ f.drop 1, ok z
theorem FmOk.toD {ok : Str → Prop} {d : PyData} {fs : List Form} (h : FmOk ok fs) : FmOkD ok d fs := ⟨h.len, fun f e => h.tl f (List.mem_of_find?_eq_some e)⟩
def spHas (K : PySem.W.Frag) (S : PyData → Str → Bool) (ok : Str → Prop) : Sp := fun vs H Q _ => ∃ (v : V) (d : PyData) (a : Addr) (fs : List Form), vs = [v, .ref a] ∧ Dp K H v d ∧ OkD d ∧ Fms K a fs ∧ FmOkD ok d fs ∧ ∀ H', Same H H' → Q (.bl (hasForm S d fs)) H'
theorem sorted2_len {S : PyData → Str → Bool} : ∀ (ds : List PyData) (zs : List Str), (sorted2 S ds zs).length = min ds.length zs.length
  | [], _ => by simp [sorted2]
  | _ :: _, [] => by simp [sorted2]
  | _ :: r, _ :: q => by
    show (sorted2 S r q).length + 1 = _
    rw [sorted2_len r q, List.length_cons, List.length_cons]
    omega
theorem sorted2_get {S : PyData → Str → Bool} : ∀ {ds : List PyData} {zs : List Str} {i : Nat} {d : PyData} {z : Str}, ds[i]? = some d → zs[i]? = some z → (sorted2 S ds zs)[i]? = some (S d z)
  | [], _, i, d, z, h, _ => by simp at h
  | _ :: _, [], i, d, z, _, h => by simp at h
  | x :: r, y :: q, 0, d, z, h, h2 => by
    obtain rfl := Option.some.inj h
    obtain rfl := Option.some.inj h2
    rfl
  | x :: r, y :: q, i + 1, d, z, h, h2 => sorted2_get (ds := r) (zs := q) (i := i) h h2
theorem dpAll_drop1 {K : PySem.W.Frag} {H : Hp} {vs : List V} {ds : List PyData} (h : DpAll K H vs ds) : DpAll K H (vs.drop 1) (ds.drop 1) := by
  cases h with
  | nil => exact .nil
  | cons _ hs => exact hs
theorem ok_hasForm {S : PyData → Str → Bool} {ok : Str → Prop} {k : Nat} {f fF fS : Addr} {fd fdF fdS : FuncData} (F : Fun K "has_form" "has_form" sHasForm f fd) (T : Wds K mg)
    (GF : FnOk P w K mg base CX0 1 fF fdF ["thing", "forms"] (spFormOf K)) (mF : mg "form_of" = some (.ref fF)) (kF : PySem.W.keepIn K (.ref fF) = true) (bF : Binds K fdF ["thing", "forms"] [])
    (GS : FnOk P w K mg base CX0 (k + 1) fS fdS ["part", "sort"] (spSort K S ok)) (mS : mg "is_of_sort" = some (.ref fS)) (kS : PySem.W.keepIn K (.ref fS) = true) (bS : Binds K fdS ["part", "sort"] []) :
    FnOk P w K mg base CX0 (k + 2) f fd ["thing", "forms"] (spHas K S ok) := by
  refine F.ok scHasForm (fun vs H Q E h => ?_) (fun cdv A outer s H vs Q E hr h => ?_)
  · obtain ⟨v, d, a, fs, rfl, _⟩ := h
    rfl
  · obtain ⟨v, d, a, fs, rfl, hd, hok, hF, hfs, q⟩ := h
    refine ⟨_, pss_cons (ps_set (i := 2) scHasForm.nd rfl (.inl rfl) (pe_call GF (hr.mono (by omega)) (by rfl) mF kF bF .nil pass0 (pa_cons (pv 0) (pa_cons (pv 1) pa_nil))))
      (pss_cons (ps_if (pt_cmpR op_isN (pv 2) pe_non (nomark _)) (pss_one (ps_ret pe_bl)) pss_nil)
      (pss_one (ps_ret (pe_callB (cr_all rfl) (by rfl) T.all (by decide +kernel) (pa_cons
          (pe_lc (own := [("part", 3), ("sort", 4)]) (g := gTup K 2 (gCons (gName 3) (gCons (gName 4) gNil))) (tt := tYes) rfl scHasForm.nd (RZ.pi_zipA (by rfl) T.zip (pa_cons (pe_slice sl_tail (pv 0) (po_some pe_int) po_none) (pa_cons (pe_slice sl_tail (pv 2) (po_some pe_int) po_none) pa_nil)))
            (blkOk_by (N := ["thing", "forms", "form", "part", "sort"]) (sc := defScope sHasForm) (by decide +kernel)) (fun _ _ _ _ _ => pg_tup rfl (pgs_cons (pg_name (i := 3) scHasForm.nd rfl (Or.inl rfl)) (pgs_cons (pg_name (i := 4) scHasForm.nd rfl (Or.inl rfl)) pgs_nil))) (fun _ _ _ _ _ => pts_nil)
            (fun _ _ _ _ _ => pe_call GS hr (by rfl) mS kS bS .nil pass0 (pa_cons (pv 3) (pa_cons (pv 4) pa_nil)))) pa_nil))))), ?_⟩
    refine ⟨v, rfl, .ref a, rfl, v, d, a, fs, rfl, hd, hok, hF, hfs.len, fun hn => ?_, fun fm b hmem hf hat => ?_⟩
    · refine ⟨_, rfl, rfl, _, rfl, ?_⟩
      refine iteT ?_
      have e : hasForm S d fs = false := by
        unfold hasForm
        rw [hn]
      rw [e] at q
      exact q _ (Same.refl _)
    · refine ⟨_, rfl, rfl, _, rfl, ?_⟩
      refine iteF ?_
      have e : hasForm S d fs = (sorted2 S (tailD d) (fm.drop 1)).all id := by
        unfold hasForm
        rw [hf]
      rw [e] at q
      cases ht : isTupD d with
      | false =>
        rw [formOf_not ht] at hf
        cases hf
      | true =>
        cases d with
        | tuple ds =>
          cases hd with
          | @tup va xs _ hSd hall =>
            obtain ⟨hlen, hoks⟩ := hok.tup
            have hall1 := dpAll_drop1 hall
            have hxl := dpAll_len hall1
            refine ⟨_, rfl, 1, rfl, rfl, rfl, va, xs, rfl, hSd, fun b1 H1 s1 hb1 => ?_⟩
            refine ⟨_, rfl, 1, rfl, rfl, rfl, b, _, rfl, hat _, fun b2 H2 s2 hb2 => ?_⟩
            rw [← List.map_drop] at hb2
            have hb1' := Same.seqT s2 hb1
            have s12 := s1.trans s2
            refine ⟨b1, b2, xs.drop 1, (fm.drop 1).map V.str, rfl, .inr ⟨hb1', hb2, fun D hD => ?_⟩⟩
            have hls := sorted2_len (S := S) (ds.drop 1) (fm.drop 1)
            refine lc_it (walk_zipT (n := (sorted2 S (ds.drop 1) (fm.drop 1)).length) (by rw [hls, List.length_map, hxl])) (fun i H3 => Same H2 H3 ∧ H3 D = some (.lst (((sorted2 S (ds.drop 1) (fm.drop 1)).take i).map V.bl))) ⟨same_upd hD, upd_same⟩ (fun _ _ _ h => ⟨Same.seqT h.1 hb1', Same.seqT h.1 hb2⟩) ?_ ?_
            · rintro i y H3 H4 hi ⟨sm, hl⟩ ⟨T', x, u, rfl, nT, rfl, e1, e2⟩
              have e1 := (show (xs.drop 1)[i]? = some x from e1)
              have e2 := (show ((fm.drop 1).map V.str)[i]? = some u from e2)
              obtain ⟨d', hd', hdp⟩ := dpAll_get hall1 e1
              rw [List.getElem?_map] at e2
              cases hz : (fm.drop 1)[i]? with
              | none =>
                rw [hz] at e2
                cases e2
              | some z =>
                rw [hz] at e2
                obtain rfl := Option.some.inj e2
                have nD : D ≠ T' := ne_of_none hl nT
                have sT : Same H3 (upd H3 T' (.tup [x, .str z])) := same_upd nT
                refine ⟨T', _, rfl, .inl (.inl upd_same), rfl, _, _, rfl, _, _, rfl, rfl, rfl, ?_⟩
                unfold tYes
                refine iteT ?_
                refine ⟨_, rfl, _, rfl, x, d', z, rfl, dp_same (s12.trans (sm.trans sT)) hdp, hoks d' (List.mem_of_mem_drop (List.mem_of_getElem? hd')), hfs.tl fm hf z (List.mem_of_getElem? hz), fun H5 s5 => ?_⟩
                refine ⟨_, s5 _ _ (sT _ _ hl), ?_, fun c o e => ?_, ?_⟩
                · rw [List.length_map, List.length_take]
                  have : (ds.drop 1).length ≤ 1000 := by
                    rw [List.length_drop]
                    omega
                  exact small1000 (by omega)
                · rw [upd_ne (ne_of_none e hD)]
                  exact s5 _ _ (sT _ _ (sm _ _ e))
                · rw [upd_same, List.take_add_one, sorted2_get hd' hz, List.map_append]
                  rfl
            · rintro H3 ⟨sm, hl⟩
              refine ⟨D, _, rfl, .inl (.inl hl), ?_⟩
              rw [List.take_of_length_le (Nat.le_refl _)]
              exact q _ (s12.trans sm)
        | _ => cases ht
end
end Dr
namespace Dr
open PySem PySem.Spec PyProof.Rows L2
def S0 (d : PyData) (z : Str) : Bool := if z = "items" then isItemsD d else if z = "owner" then isOwnerD d else isNameD d
def ok0 (z : Str) : Prop := z ≠ "test" ∧ z ≠ "plain"
def markForms : List Form := [["mark", "item"]]
def boxForms : List Form := [["once", "items"], ["early", "kind", "value"], ["anew", "items"], ["late", "owner", "value"]]
def isDefD (d : PyData) (h : Str) : Bool := if h = "mark" then hasForm S0 d markForms else hasForm S0 d boxForms
instance (z : Str) : Decidable (ok0 z) := by
  unfold ok0
  exact inferInstance
def fmOkB (fs : List Form) : Bool := fs.all fun f => (decide (1 ≤ f.length) && f.all fun z => SeqAt.shaped (.str z)) && (f.drop 1).all fun z => decide (ok0 z)
theorem fmOk_by {fs : List Form} (h : fmOkB fs = true) : FmOk ok0 fs := by
  have q := List.all_eq_true.mp h
  refine ⟨fun f hf => ?_, fun f hf z hz => ?_⟩
  · have := q f hf
    rw [Bool.and_eq_true, Bool.and_eq_true] at this
    exact ⟨of_decide_eq_true this.1.1, fun z hz => List.all_eq_true.mp this.1.2 z hz⟩
  · have := q f hf
    rw [Bool.and_eq_true] at this
    exact of_decide_eq_true (List.all_eq_true.mp this.2 z hz)
theorem mark_ok : FmOk ok0 markForms := fmOk_by (by decide +kernel)
theorem box_ok : FmOk ok0 boxForms := fmOk_by (by decide +kernel)
section
variable {P : Program} {w : World} {K : PySem.W.Frag} {mg : Str → Option Value} {base : Heap}
theorem ok_sort0 {f fI fO fN : Addr} {fd fdI fdO fdN : FuncData} (F : Fun K "is_of_sort" "is_of_sort" sIsSort f fd)
    (GI : FnOk P w K mg base CX0 2 fI fdI ["thing"] (spAsk K isItemsD)) (mI : mg "is_items" = some (.ref fI)) (kI : PySem.W.keepIn K (.ref fI) = true) (bI : Binds K fdI ["thing"] [])
    (GO : FnOk P w K mg base CX0 2 fO fdO ["thing"] (spAsk K isOwnerD)) (mO : mg "is_owner" = some (.ref fO)) (kO : PySem.W.keepIn K (.ref fO) = true) (bO : Binds K fdO ["thing"] [])
    (GN : FnOk P w K mg base CX0 1 fN fdN ["thing"] (spAsk K isNameD)) (mN : mg "is_name" = some (.ref fN)) (kN : PySem.W.keepIn K (.ref fN) = true) (bN : Binds K fdN ["thing"] []) :
    FnOk P w K mg base CX0 3 f fd ["part", "sort"] (spSort K S0 ok0) := by
  refine F.ok scIsSort (fun vs H Q E h => ?_) (fun cdv A outer s H vs Q E hr h => ?_)
  · obtain ⟨v, d, z, rfl, _⟩ := h
    rfl
  · obtain ⟨v, d, z, rfl, hd, hok, ⟨n1, n2⟩, q⟩ := h
    refine ⟨_, pss_cons (ps_if (pt_cmpR op_eq (pv 1) pe_str (nomark _)) (pss_one (ps_ret (pe_call GI hr (by rfl) mI kI bI .nil pass0 (pa_cons (pv 0) pa_nil)))) pss_nil)
      (pss_cons (ps_if (pt_cmpR op_eq (pv 1) pe_str (nomark _)) (pss_one (ps_ret (pe_call GO hr (by rfl) mO kO bO .nil pass0 (pa_cons (pv 0) pa_nil)))) pss_nil)
      (pss_cons (ps_if (pt_cmpR op_eq (pv 1) pe_str (nomark _)) (pss_one ps_never) pss_nil)
      (pss_cons (ps_if (pt_cmpR op_eq (pv 1) pe_str (nomark _)) (pss_one ps_never) pss_nil)
      (pss_one (ps_ret (pe_call GN (hr.mono (by decide)) (by rfl) mN kN bN .nil pass0 (pa_cons (pv 0) pa_nil))))))), ?_⟩
    have inj : ∀ {a b : Str}, decide (V.str a = V.str b) = true → a = b := fun h => V.str.inj (of_decide_eq_true h)
    have ninj : ∀ {a b : Str}, ¬ decide (V.str a = V.str b) = true → a ≠ b := fun h e => h (decide_eq_true (by rw [e]))
    refine ⟨_, rfl, rfl, _, rfl, ite2 (fun k => ?_) (fun k => ?_)⟩
    · have e : S0 d z = isItemsD d := if_pos (inj k)
      rw [e] at q
      exact ⟨v, rfl, v, d, rfl, hd, hok, q⟩
    · have k1 := ninj k
      refine ⟨_, rfl, rfl, _, rfl, ite2 (fun k => ?_) (fun k => ?_)⟩
      · have e : S0 d z = isOwnerD d := by
          unfold S0
          rw [if_neg k1, if_pos (inj k)]
        rw [e] at q
        exact ⟨v, rfl, v, d, rfl, hd, hok, q⟩
      · have k2 := ninj k
        have e : S0 d z = isNameD d := by
          unfold S0
          rw [if_neg k1, if_neg k2]
        rw [e] at q
        refine ⟨_, rfl, rfl, _, rfl, ite2 (fun k => absurd (inj k) n1) (fun _ => ?_)⟩
        refine ⟨_, rfl, rfl, _, rfl, ite2 (fun k => absurd (inj k) n2) (fun _ => ?_)⟩
        exact ⟨v, rfl, v, d, rfl, hd, hok, q⟩
def spDef (K : PySem.W.Frag) : Sp := fun vs H Q _ => ∃ (v : V) (d : PyData) (h : Str), vs = [v, .str h] ∧ Dp K H v d ∧ OkD d ∧ ∀ H', Same H H' → Q (.bl (isDefD d h)) H'
structure FmT (K : PySem.W.Frag) (mg : Str → Option Value) : Prop where
  mark : ∃ a : Addr, mg "MARK_DEFAULTS" = some (.ref a) ∧ Fms K a markForms
  box : ∃ a : Addr, mg "BOX_DEFAULTS" = some (.ref a) ∧ Fms K a boxForms
theorem ok_def {k : Nat} {f fH : Addr} {fd fdH : FuncData} (F : Fun K "is_default" "is_default" sIsDef f fd) (T : FmT K mg)
    (GH : FnOk P w K mg base CX0 (k + 1) fH fdH ["thing", "forms"] (spHas K S0 ok0)) (mH : mg "has_form" = some (.ref fH)) (kH : PySem.W.keepIn K (.ref fH) = true) (bH : Binds K fdH ["thing", "forms"] []) :
    FnOk P w K mg base CX0 (k + 2) f fd ["thing", "holds"] (spDef K) := by
  refine F.ok scIsDef (fun vs H Q E h => ?_) (fun cdv A outer s H vs Q E hr h => ?_)
  · obtain ⟨v, d, z, rfl, _⟩ := h
    rfl
  · obtain ⟨v, d, z, rfl, hd, hok, q⟩ := h
    obtain ⟨aM, mM, FM⟩ := T.mark
    obtain ⟨aB, mB, FB⟩ := T.box
    refine ⟨_, pss_cons (ps_if (pt_cmpR op_eq (pv 1) pe_str (nomark _)) (pss_one (ps_ret (pe_call GH hr (by rfl) mH kH bH .nil pass0 (pa_cons (pv 0) (pa_cons (pe_glob (v := .ref aM) (by rfl) mM rfl) pa_nil))))) pss_nil)
      (pss_one (ps_ret (pe_call GH hr (by rfl) mH kH bH .nil pass0 (pa_cons (pv 0) (pa_cons (pe_glob (v := .ref aB) (by rfl) mB rfl) pa_nil))))), ?_⟩
    refine ⟨_, rfl, rfl, _, rfl, ite2 (fun k => ?_) (fun k => ?_)⟩
    · have e : isDefD d z = hasForm S0 d markForms := if_pos (V.str.inj (of_decide_eq_true k))
      rw [e] at q
      exact ⟨v, rfl, v, d, aM, markForms, rfl, hd, hok, FM, mark_ok.toD, q⟩
    · have e : isDefD d z = hasForm S0 d boxForms := if_neg fun e => k (decide_eq_true (by rw [e]))
      rw [e] at q
      exact ⟨v, rfl, v, d, aB, boxForms, rfl, hd, hok, FB, box_ok.toD, q⟩
end
end Dr
namespace Dr
open PySem PySem.Spec PyProof.Rows L2
theorem mro_noRef (C : Addr) : ∀ d : PyData, ∃ l, fastBuiltinMro (tyD d) = some l ∧ l.contains (.ref C) = false
  | .none => ⟨[.type "NoneType", .type "object"], by decide +kernel, by simp⟩
  | .bool _ => ⟨[.type "bool", .type "int", .type "object"], by show fastBuiltinMro "bool" = _; decide +kernel, by simp⟩
  | .int _ => ⟨[.type "int", .type "object"], by show fastBuiltinMro "int" = _; decide +kernel, by simp⟩
  | .str _ => ⟨[.type "str", .type "object"], by show fastBuiltinMro "str" = _; decide +kernel, by simp⟩
  | .list _ => ⟨[.type "list", .type "object"], by show fastBuiltinMro "list" = _; decide +kernel, by simp⟩
  | .tuple _ => ⟨[.type "tuple", .type "object"], by show fastBuiltinMro "tuple" = _; decide +kernel, by simp⟩
  | .dict _ => ⟨[.type "dict", .type "object"], by show fastBuiltinMro "dict" = _; decide +kernel, by simp⟩
theorem sub_D {K : PySem.W.Frag} (C : Addr) (d : PyData) : PySem.W.subIn K (.type (tyD d)) (.ref C) = some false := by
  obtain ⟨l, e, n⟩ := mro_noRef C d
  show (fastBuiltinMro (tyD d)).map (·.contains (.ref C)) = some false
  rw [e]
  show some (l.contains (.ref C)) = some false
  rw [n]
section
variable {X : Cx} {pins : List (Addr × Obj)} {σ : L2.St} {H : Hp} {s : Shared}
theorem looks_D {M : Model} (I : Inv X pins σ H s) {y : V} {u : Value} {d : PyData} (r : RelV y u) (h : Dp X.K H y d) : PySem.W.Looks M s.heap (typeOf u) (.type (tyD d)) := by
  cases h with
  | non => cases (show u = Value.none from r); exact .of_pure rfl
  | bl b => cases (show u = Value.bool b from r); exact .of_pure rfl
  | int i => obtain ⟨t, e⟩ := (show ∃ t, u = Value.int i t from r); cases e; exact .of_pure rfl
  | str x => obtain ⟨t, e⟩ := (show ∃ t, u = Value.str x t from r); cases e; exact .of_pure rfl
  | @lst a xs ds hS _ =>
    cases (show u = Value.ref a from r)
    obtain ⟨its, _, ⟨o, n, ho, hc, _⟩, _⟩ := I.list hS
    exact fun A Q E s' k q => wpAny_typeOf_ref (k _ _ ho) (by rw [hc]; exact q)
  | @tup a xs ds hS _ =>
    cases (show u = Value.ref a from r)
    obtain ⟨its, _, ⟨o, ho, hc, _⟩, _⟩ := I.tuple hS
    exact fun A Q E s' k q => wpAny_typeOf_ref (k _ _ ho) (by rw [hc]; exact q)
/-- the other side of a comparison: an instance of the same class, or a datum -/
def Side (K : PySem.W.Frag) (C : Addr) (H : Hp) (y : V) : Prop := (∃ b dy gs, y = .ref b ∧ H b = some (.ins C dy gs)) ∨ ∃ d, Dp K H y d
theorem side_ty {M : Model} {C : Addr} (I : Inv X pins σ H s) {y : V} {u : Value} (r : RelV y u) (h : Side X.K C H y) : ∃ tb, PySem.W.Looks M s.heap (typeOf u) tb ∧ PySem.W.notFirst X.K C tb = true := by
  rcases h with ⟨b, dy, gs, rfl, hb⟩ | ⟨d, hd⟩
  · cases r
    obtain ⟨mB, J', _⟩ := ins_get I.hok hb
    obtain ⟨od', J', _⟩ := J'.look
    exact ⟨_, J'.type, by simp [PySem.W.notFirst]⟩
  · refine ⟨_, looks_D I r hd, ?_⟩
    unfold PySem.W.notFirst
    rw [sub_D]
    simp
variable {CX : CXT} {C g : Addr} {fd : FuncData} {ps : List Str} {n : Nat} {sp : Sp} {E : XK}
/-- a def called from within a builtin -/
theorem run_in {A : Around} {Q : VK} {us : List Value} {vs : List V} (F : FnOk X.prog X.w X.K X.mg X.base CX n g fd ps sp) (hr : Room n A) (e0 : Env0 X.prog X.w X.K X.mg X.base A X.stack s H) (hb : Binds X.K fd ps []) (hx : Passes CX X E)
    (I : Inv X pins σ H s) (r : Vals vs us) (h : sp vs H Q E) : wpAny (model X.prog X.w) A (call (.ref g) us) (EP X pins σ Q) X.xe s := by
  have hl := F.len _ _ _ _ h
  refine wpAny_call (codeAny_mono (F.run A X.stack s H ⟨us, []⟩ us vs Q E hr e0 (by
    have := hb s us I.kIn (by simpa [← r.length] using hl)
    simpa using this) r h) fun r s' hq => ?_)
  cases r with
  | error e => exact hx pins σ H s e s' I hq
  | ok fl =>
    cases fl with
    | ret u => exact I.after hq
    | next => exact False.elim hq
    | brk => exact False.elim hq
    | cont => exact False.elim hq
def rEqI (K : PySem.W.Frag) (C : Addr) (sp : Sp) (E : XK) : R2 := fun x y H Q => ∃ a dx fs, x = .ref a ∧ H a = some (.ins C dx fs) ∧ Side K C H y ∧ sp [x, y] H Q E
theorem op_eqI (hs : PySem.W.findIn X.K (.ref C) "__eq__" = some (some (.ref g))) (hf : PySem.W.isFn X.K (.ref g) = true) (F : FnOk X.prog X.w X.K X.mg X.base CX n g fd ps sp) (hr : Room n X.A) (hb : Binds X.K fd ps []) (hx : Passes CX X E) :
    OpR X (compareOp .Eq) (rEqI X.K C sp E) := by
  intro pins s σ H x y v u Q I rx ry h
  obtain ⟨a, dx, fs, rfl, ha, hy, q⟩ := h
  cases (show v = Value.ref a from rx)
  obtain ⟨mA, J, _⟩ := ins_get I.hok ha
  obtain ⟨od, J, _⟩ := J.look
  obtain ⟨tb, lk, nf⟩ := side_ty (M := model X.prog X.w) I ry hy
  obtain ⟨m, hF⟩ := I.fr
  refine PySem.W.cmp_K (op := .Eq) (tb := tb) hr.units0 hF I.ok.mod.kin J lk nf hs hf ?_
  refine wpAny_mono (run_in (vs := [V.ref a, y]) (us := [Value.ref a, u]) F hr I.env0 hb hx I (.cons (show L2.RelV (V.ref a) (Value.ref a) from rfl) (.cons ry .nil)) q) (fun w s' z => ?_) fun _ _ x => x
  obtain ⟨z', H', I', rz, qz⟩ := z
  exact SlX.cmpback rz ⟨z', H', I', rz, qz⟩
theorem ifBound_blt {M : Model} {A : Around} {E : Value → Shared → Prop} {K : PySem.W.Frag} {x : Addr} {ox : Obj} {od : Option Obj} {args : List Value} {Q : Option Value → Shared → Prop} (X : K.In s.heap) (I : PySem.W.InstAt s.heap x ox C od) (hs : PySem.W.findIn K (.ref C) "__ne__" = some (some (.builtin "object.__ne__")))
    (h : wpAny M A (call (.builtin "object.__ne__") (.ref x :: args)) (fun v => Q (some v)) E s) : wpAny M A (callSpecialIfBound? (.ref x) "__ne__" args) Q E s := by
  simp only [callSpecialIfBound?, bindSpecialIfBound?]
  refine wpAny_holding (wpAny_bind (wpAny_bind (wpAny_bind (I.type.here ((PySem.W.looks_findIn X hs).here ?_)))))
  refine wpAny_bind (wpAny_askSetting (wpAny_ite ?_))
  have fin : wpAny M A (call (.builtin "object.__ne__") ([.ref x] ++ args) >>= fun v => pure (some v)) Q E s := wpAny_bind (wpAny_mono h (fun v s' h' => wpAny_pure h') fun _ _ h' => h')
  split
  · exact wpAny_bind (wpAny_of_eq (PySem.F.cmp_object.ne.bind _) (wpAny_pure (by exact fin)))
  · exact wpAny_tryCatch (wpAny_bind (wpAny_of_eq (PySem.F.cmp_object.ne.bind _) (wpAny_pure (by exact fin))))
theorem entry_ne {prog : Program} {w : World} {A : Around} {E : Value → Shared → Prop} {K : PySem.W.Frag} {x : Addr} {ox : Obj} {od : Option Obj} {b : Value} {Q : Fin → Shared → Prop} (X : K.In s.heap) (I : PySem.W.InstAt s.heap x ox C od) (hs : PySem.W.findIn K (.ref C) "__eq__" = some (some (.ref g))) (hf : PySem.W.isFn K (.ref g) = true) (hu : A.units < cLine)
    (hcall : wpAny (model prog w) A (call (.ref g) [.ref x, b]) (fun v s' => ∃ b, v = .bool b ∧ Q (.done (.ret (.bool (!b)))) s') E s) : wpAny (model prog w) A (Builtin.«object.__ne__» ⟨[.ref x, b], []⟩) Q E s := by
  unfold Builtin.«object.__ne__»
  repeat (first
    | with_reducible refine wpAny_cRoomFor hu ?_
    | (refine wpAny_bind (m := callSpecialIfBound? (.ref x) (Str.ofString "__eq__") [b])
        (PySem.W.ifBound_K X I hs hf (wpAny_mono hcall (fun r s' hr => by
          obtain ⟨b, rfl, hq⟩ := hr
          repeat (first | exact hq | exact wpAny_pure hq | exact wpAny_truthy_bool hq | (refine wpAny_bind (m := truthy (.bool _)) (wpAny_truthy_bool ?_)) | wp_step)) fun _ _ e => e)))
    | wp_step)
/-- !=, by the text's own == -/
def rNeI (K : PySem.W.Frag) (C : Addr) (sp : Sp) (E : XK) : R2 := fun x y H Q => ∃ a dx fs, x = .ref a ∧ H a = some (.ins C dx fs) ∧ Side K C H y ∧ sp [x, y] H (fun v H' => ∃ b, v = .bl b ∧ Q (.bl (!b)) H') E
theorem op_neI (hs : PySem.W.findIn X.K (.ref C) "__eq__" = some (some (.ref g))) (hf : PySem.W.isFn X.K (.ref g) = true) (hn : PySem.W.findIn X.K (.ref C) "__ne__" = some (some (.builtin "object.__ne__"))) (hm : PySem.W.mroIn X.K C (.type "object") = some true)
    (F : FnOk X.prog X.w X.K X.mg X.base CX n g fd ps sp) (hr : Room (n + 1) X.A) (hb : Binds X.K fd ps []) (hx : Passes CX X E) : OpR X (compareOp .NotEq) (rNeI X.K C sp E) := by
  intro pins s σ H x y v u Q I rx ry h
  obtain ⟨a, dx, fs, rfl, ha, hy, q⟩ := h
  cases (show v = Value.ref a from rx)
  obtain ⟨mA, J, _⟩ := ins_get I.hok ha
  obtain ⟨od, J, _⟩ := J.look
  obtain ⟨tb, lk, nf⟩ := side_ty (M := model X.prog X.w) I ry hy
  have hun := hr.un
  have hr1 : Room n X.A.in1 := hr.in1
  have one : wpAny (model X.prog X.w) X.A (tryCompare (.ref a) "__ne__" u) (fun r s' => ∃ v, r = some v ∧ EP X pins σ Q v s') X.xe s := by
    unfold tryCompare
    refine wpAny_bind (ifBound_blt I.kIn J hn ?_)
    refine wpAny_call (codeAny_call_builtin PySem.F.cmp_object.ne.plain PySem.F.cmpEntry_ne (PySem.W.check_slot PySem.F.cmpKind_ne PySem.F.cmpSplit_ne (J.type.andThen (PySem.W.looks_mroIn I.kIn hm)) (PySem.F.cmpArgs_ne _ _) ?_))
    refine entry_ne I.kIn J hs hf (by show X.A.units + 1 < cLine; omega) ?_
    refine wpAny_mono (run_in (vs := [V.ref a, y]) (us := [Value.ref a, u]) F hr1 I.env0.in1 hb hx I (.cons (show L2.RelV (V.ref a) (Value.ref a) from rfl) (.cons ry .nil)) q) (fun w s' z => ?_) fun _ _ x => x
    obtain ⟨z', H', I', rz, b, rfl, qz⟩ := z
    cases (show w = Value.bool b from rz)
    exact ⟨b, rfl, wpAny_pure ⟨_, rfl, .bl (!b), H', I', rfl, qz⟩⟩
  show wpAny _ _ (richCompare .NotEq (.ref a) u) _ _ _
  unfold richCompare
  simp only [oneThing_ref]
  refine wpAny_holding (wpAny_bind (wpAny_cRoomFor (by omega) ?_))
  refine wpAny_bind (J.type.here (wpAny_bind (lk.here ?_)))
  split
  · rename_i qq
    have e : PySem.W.subIn X.K tb (.ref C) = some false := by
      rcases Bool.or_eq_true_iff.mp nf with e | e
      · rw [beq_iff_eq.mp e] at qq; simp at qq
      · exact beq_iff_eq.mp e
    refine wpAny_bind ((PySem.W.looks_subIn I.kIn e).here ?_)
    simp only [Bool.false_eq_true, if_false]
    refine wpAny_bind (wpAny_mono one (fun r s' z => ?_) fun _ _ e => e)
    obtain ⟨v, rfl, hq⟩ := z
    exact wpAny_pure hq
  · refine wpAny_bind (wpAny_pure ?_)
    simp only [Bool.false_eq_true, if_false]
    refine wpAny_bind (wpAny_mono one (fun r s' z => ?_) fun _ _ e => e)
    obtain ⟨v, rfl, hq⟩ := z
    exact wpAny_pure hq
end
end Dr
namespace Dr
open PySem PySem.Spec PyProof.Rows L2
abbrev sPInit : Stmt := inClass (topS 33) 0
abbrev sPEq : Stmt := inClass (topS 33) 1
theorem scPInit : FnScope ["self", "name", "holds", "default", "named"] ["self", "name", "holds", "default", "named"] (defScope sPInit) := ⟨rfl, rfl, rfl, by decide +kernel, rfl, by decide +kernel, by decide +kernel⟩
theorem scPEq : FnScope ["self", "other"] ["self", "other"] (defScope sPEq) := ⟨rfl, rfl, rfl, by decide +kernel, rfl, by decide +kernel, by decide +kernel⟩
/-- the attributes of a parameter -/
def pF (nm hs : Str) (v : V) (nd : Bool) : List (Str × V) := putF "named" (.bl nd) (putF "default" v (putF "holds" (.str hs) (putF "name" (.str nm) [])))
theorem pF_name {nm hs : Str} {v : V} {nd : Bool} : (pF nm hs v nd).lookup ("name" : Str) = some (.str nm) := by
  unfold pF
  rw [lookup_putF, if_neg (by decide +kernel), lookup_putF, if_neg (by decide +kernel), lookup_putF, if_neg (by decide +kernel), lookup_putF, if_pos rfl]
theorem pF_holds {nm hs : Str} {v : V} {nd : Bool} : (pF nm hs v nd).lookup ("holds" : Str) = some (.str hs) := by
  unfold pF
  rw [lookup_putF, if_neg (by decide +kernel), lookup_putF, if_neg (by decide +kernel), lookup_putF, if_pos rfl]
theorem pF_default {nm hs : Str} {v : V} {nd : Bool} : (pF nm hs v nd).lookup ("default" : Str) = some v := by
  unfold pF
  rw [lookup_putF, if_neg (by decide +kernel), lookup_putF, if_pos rfl]
theorem pF_named {nm hs : Str} {v : V} {nd : Bool} : (pF nm hs v nd).lookup ("named" : Str) = some (.bl nd) := by
  unfold pF
  rw [lookup_putF, if_pos rfl]
theorem putF_len (f : Str) (v : V) : ∀ fs : List (Str × V), (putF f v fs).length ≤ fs.length + 1
  | [] => Nat.le_refl _
  | (g, u) :: r => by
    show (if g = f then (g, v) :: r else (g, u) :: putF f v r).length ≤ _
    split
    · rw [List.length_cons, List.length_cons]
      omega
    · rw [List.length_cons, List.length_cons]
      have := putF_len f v r
      omega
/-- what stands of the class Param -/
structure Prm (K : PySem.W.Frag) (mg : Str → Option Value) (C : Addr) : Prop where
  cl : Cls K C
  nN : NoAttr K C "name"
  nH : NoAttr K C "holds"
  nD : NoAttr K C "default"
  nA : NoAttr K C "named"
  mgC : mg "Param" = some (.ref C)
  ha : PySem.W.findIn K (.ref C) "__class__" = some (some (.builtin "object.__class__"))
  hn : PySem.W.specialIn K (.builtin "object.__class__") "__get__" = some (some (.builtin "getset_descriptor.__get__"))
  htk : PySem.W.takesIn K (.builtin "object.__class__") = some true
  hm : PySem.W.mroIn K C (.type "object") = some true
  isC : PySem.W.isClsIn K C = true
  tyC : PySem.W.typeIn K (.ref C) = some (.type "type")
theorem kit_self {K : PySem.W.Frag} (C : Addr) : PySem.W.kitOne K (.ref C) (.ref C) = some true := by
  unfold PySem.W.kitOne
  simp
theorem kit_own {K : PySem.W.Frag} {C : Addr} (h1 : PySem.W.isClsIn K C = true) (h2 : PySem.W.typeIn K (.ref C) = some (.type "type")) (d : PyData) : PySem.W.kitOne K (.type (tyD d)) (.ref C) = some false := by
  unfold PySem.W.kitOne
  have e : ((Value.type (tyD d)) == Value.ref C) = false := rfl
  rw [e]
  unfold PySem.W.kitCls
  unfold PySem.W.isClsIn at h1
  simp only [h1, h2, sub_D]
  simp
section
variable {P : Program} {w : World} {K : PySem.W.Frag} {mg : Str → Option Value} {base : Heap}
/-- a default that goes with what the parameter holds -/
def DflOk (K : PySem.W.Frag) (H : Hp) (v : V) (d : PyData) (hs : Str) : Prop := Dp K H v d ∧ OkD d ∧ (v = .non ∨ isDefD d hs = true)
def spPInit (K : PySem.W.Frag) (C : Addr) : Sp := fun vs H Q _ => ∃ (p dx : Addr) (nm hs : Str) (v : V) (d : PyData) (nd : Bool), vs = [.ref p, .str nm, .str hs, v, .bl nd] ∧ H p = some (.ins C dx []) ∧ nameOk nm = true ∧ OkD (.str nm) ∧ (hs = "mark" ∨ hs = "box") ∧ DflOk K H v d hs ∧
  ∀ H', (∀ b o, b ≠ p → H b = some o → H' b = some o) → H' p = some (.ins C dx (pF nm hs v nd)) → Q .non H'
theorem ok_pinit {kD : Nat} {C f fN fD : Addr} {fd fdN fdD : FuncData} {prm : Arguments} {dvs : List V} {kws : List (Str × V)} (F : FunD K "__init__" "Param.__init__" prm (defBody sPInit) (defScope sPInit) dvs kws f fd) (W : Wds K mg) (T : Prm K mg C) (hbo : mg "bool" = none)
    (GN : FnOk P w K mg base CX0 1 fN fdN ["thing"] (spAsk K isNameD)) (mN : mg "is_name" = some (.ref fN)) (kN : PySem.W.keepIn K (.ref fN) = true) (bN : Binds K fdN ["thing"] [])
    (GD : FnOk P w K mg base CX0 (kD + 1) fD fdD ["thing", "holds"] (spDef K)) (mD : mg "is_default" = some (.ref fD)) (kkD : PySem.W.keepIn K (.ref fD) = true) (bD : Binds K fdD ["thing", "holds"] []) :
    FnOk P w K mg base CX0 (kD + 2) f fd ["self", "name", "holds", "default", "named"] (spPInit K C) := by
  refine F.ok scPInit (fun vs H Q E h => ?_) (fun cdv A outer s H vs Q E hr h => ?_)
  · obtain ⟨p, dx, nm, hs, v, d, nd, rfl, _⟩ := h
    rfl
  · obtain ⟨p, dx, nm, hs, v, d, nd, rfl, hp, hnm, hok, hhs, ⟨hd, hokd, hdf⟩, q⟩ := h
    refine ⟨_, pss_cons (ps_if (pt_not (pt_val (pe_call GN (hr.mono (by omega)) (by rfl) mN kN bN .nil pass0 (pa_cons (pv 1) pa_nil)))) (pss_one ps_never) pss_nil)
      (C8.pss_cut (ps_if (PW.pt (pw_and (pt_cmpR op_ne (pv 2) pe_str (nomark _)) (pw_and1 (pt_cmpR op_ne (pv 2) pe_str (nomark _))))) (pss_one ps_never) pss_nil)
      (C8.pss_cut (ps_if (PW.pt (pw_and (pt_cmpR op_notN (pv 3) pe_non (nomark _)) (pw_and1 (pt_not (pt_val (pe_call GD hr (by rfl) mD kkD bD .nil pass0 (pa_cons (pv 3) (pa_cons (pv 2) pa_nil)))))))) (pss_one ps_never) pss_nil)
      (pss_cons (ps_if (pt_not (pt_val (pe_callB call_isi (by rfl) W.isi (by decide +kernel) (pa_cons (pv 4) (pa_cons (pe_bltn (v := .ty "bool") (by rfl) hbo (by decide +kernel) rfl) pa_nil))))) (pss_one ps_never) pss_nil)
      (pss_cons (ps_fld (pv 0) (pv 1) rfl) (pss_cons (ps_fld (pv 0) (pv 2) rfl) (pss_cons (ps_fld (pv 0) (pv 3) rfl) (pss_one (ps_fld (pv 0) (pv 4) rfl)))))))), ?_⟩
    refine ⟨_, rfl, _, .str nm, rfl, .str nm, hok, fun H1 s1 => ?_⟩
    refine ⟨_, rfl, ?_⟩
    show if (!nameOk nm) = true then _ else _
    rw [hnm]
    refine iteF ?_
    refine ⟨fun σ' H' => σ' = [some (.ref p), some (.str nm), some (.str hs), some v, some (.bl nd)] ∧ H' = H1, ?_, fun σ' H' hM => ?_⟩
    · refine ⟨_, rfl, rfl, _, rfl, ?_⟩
      rcases hhs with e | e
      · refine ite2 (fun k => absurd k ?_) (fun _ => ⟨rfl, rfl⟩)
        rw [e]
        simp
      · refine ite2 (fun _ => ?_) (fun _ => ⟨rfl, rfl⟩)
        refine ⟨_, rfl, rfl, _, rfl, ite2 (fun k => absurd k ?_) (fun _ => ⟨rfl, rfl⟩)⟩
        rw [e]
        simp
    obtain ⟨rfl, rfl⟩ := hM
    refine ⟨fun σ' H2 => σ' = [some (.ref p), some (.str nm), some (.str hs), some v, some (.bl nd)] ∧ Same H' H2, ?_, fun σ' H2 hM => ?_⟩
    · refine ⟨_, rfl, rfl, _, rfl, ite2 (fun k => ?_) (fun _ => ⟨rfl, Same.refl _⟩)⟩
      rcases hdf with e | e
      · rw [e] at k
        simp at k
      · refine ⟨_, rfl, _, rfl, v, d, hs, rfl, dp_same s1 hd, hokd, fun H2 s2 => ⟨_, rfl, ?_⟩⟩
        refine ite2 (fun k2 => absurd k2 ?_) (fun _ => ⟨rfl, s2⟩)
        rw [e]
        simp
    obtain ⟨rfl, s2⟩ := hM
    refine ⟨_, rfl, .bl nd, .ty "bool", _, _, _, rfl, .ty _, dp_ty (.bl nd), kit_bool _, _, rfl, ?_⟩
    refine iteF ?_
    have hp2 := s2 _ _ (s1 _ _ hp)
    refine ⟨_, rfl, _, rfl, p, C, dx, _, rfl, hp2, T.cl, T.nN, (by show 0 < 1000; decide), ?_⟩
    refine ⟨_, rfl, _, rfl, p, C, dx, _, rfl, upd_same, T.cl, T.nH, ?_, ?_⟩
    · exact Nat.lt_of_le_of_lt (putF_len _ _ _) (by show 1 < 1000; decide)
    refine ⟨_, rfl, _, rfl, p, C, dx, _, rfl, upd_same, T.cl, T.nD, ?_, ?_⟩
    · exact Nat.lt_of_le_of_lt (Nat.le_trans (putF_len _ _ _) (Nat.succ_le_succ (putF_len _ _ _))) (by show 2 < 1000; decide)
    refine ⟨_, rfl, _, rfl, p, C, dx, _, rfl, upd_same, T.cl, T.nA, ?_, ?_⟩
    · exact Nat.lt_of_le_of_lt (Nat.le_trans (putF_len _ _ _) (Nat.succ_le_succ (Nat.le_trans (putF_len _ _ _) (Nat.succ_le_succ (putF_len _ _ _))))) (by show 3 < 1000; decide)
    refine q _ (fun b o n e => ?_) upd_same
    rw [upd_ne n, upd_ne n, upd_ne n, upd_ne n]
    exact s2 _ _ (s1 _ _ e)
/-- a parameter stands at a -/
def ParAt (C : Addr) (H : Hp) (a : Addr) (nm hs : Str) (v : V) (nd : Bool) : Prop := ∃ dx, H a = some (.ins C dx (pF nm hs v nd))
def spPEq (K : PySem.W.Frag) (C : Addr) : Sp := fun vs H Q _ => ∃ (a : Addr) (nm hs : Str) (v : V) (d : PyData) (nd : Bool) (y : V), vs = [.ref a, y] ∧ ParAt C H a nm hs v nd ∧ Dp K H v d ∧ OkD d ∧
  ((∃ (b : Addr) (nm2 hs2 : Str) (v2 : V) (d2 : PyData) (nd2 : Bool), y = .ref b ∧ ParAt C H b nm2 hs2 v2 nd2 ∧ Dp K H v2 d2 ∧ OkD d2 ∧ Q (.bl (((decide (nm = nm2) && decide (hs = hs2)) && PyData.eqv d d2) && decide (nd = nd2))) H) ∨
    ∃ e : PyData, Dp K H y e ∧ Q (.bl false) H)
theorem ok_peq {C f : Addr} {fd : FuncData} (F : Fun K "__eq__" "Param.__eq__" sPEq f fd) (W : Wds K mg) (T : Prm K mg C) : FnOk P w K mg base CX0 1 f fd ["self", "other"] (spPEq K C) := by
  refine F.ok scPEq (fun vs H Q E h => ?_) (fun cdv A outer s H vs Q E hr h => ?_)
  · obtain ⟨a, nm, hs, v, d, nd, y, rfl, _⟩ := h
    rfl
  · obtain ⟨a, nm, hs, v, d, nd, y, rfl, ⟨dx, ha⟩, hd, hok, hy⟩ := h
    have hu : (A.deeper (envOfC "Param.__eq__" (defScope sPEq) s.heap.objs.size f cdv)).units + 64 < cLine := hr.units
    refine ⟨_, pss_one (ps_ret (pe_and (pe_callB call_isi (by rfl) W.isi (by decide +kernel) (pa_cons (pv 1) (pa_cons (pe_glob (v := .ref C) (by rfl) T.mgC rfl) pa_nil)))
      (pe_and (pe_cmpR op_eq (pe_fld (pv 0) rfl) (pe_fld (pv 1) rfl) (nomark _)) (pe_and (pe_cmpR op_eq (pe_fld (pv 0) rfl) (pe_fld (pv 1) rfl) (nomark _))
        (pe_and (pe_cmpR (op_eqD hu) (pe_fld (pv 0) rfl) (pe_fld (pv 1) rfl) (nomark _)) (pe_one (pe_cmpR op_eq (pe_fld (pv 0) rfl) (pe_fld (pv 1) rfl) (nomark _)))))))), ?_⟩
    rcases hy with ⟨b, nm2, hs2, v2, d2, nd2, rfl, ⟨dy, hb⟩, hd2, hok2, q⟩ | ⟨e, he, q⟩
    · refine ⟨_, rfl, _, .ref C, _, _, true, rfl, .own C, .base (.ins hb T.cl T.ha T.hn T.htk T.hm), kit_self C, _, rfl, iteT ?_⟩
      have ds : ∀ {x z : Str}, decide (V.str x = V.str z) = decide (x = z) := fun {x z} => decide_eq_decide.mpr ⟨fun e => V.str.inj e, fun e => by rw [e]⟩
      have db : ∀ {x z : Bool}, decide (V.bl x = V.bl z) = decide (x = z) := fun {x z} => decide_eq_decide.mpr ⟨fun e => V.bl.inj e, fun e => by rw [e]⟩
      refine ⟨_, rfl, a, C, dx, _, _, rfl, ha, T.cl, T.nN, pF_name, _, rfl, b, C, dy, _, _, rfl, hb, T.cl, T.nN, pF_name, rfl, _, rfl, ?_⟩
      rw [ds]
      refine ite2 (fun k1 => ?_) (fun k1 => ?_)
      · rw [k1] at q
        refine ⟨_, rfl, a, C, dx, _, _, rfl, ha, T.cl, T.nH, pF_holds, _, rfl, b, C, dy, _, _, rfl, hb, T.cl, T.nH, pF_holds, rfl, _, rfl, ?_⟩
        rw [ds]
        refine ite2 (fun k2 => ?_) (fun k2 => ?_)
        · rw [k2] at q
          refine ⟨_, rfl, a, C, dx, _, _, rfl, ha, T.cl, T.nD, pF_default, _, rfl, b, C, dy, _, _, rfl, hb, T.cl, T.nD, pF_default, d, d2, hd, hd2, hok.sh, hok2.sh, _, rfl, ?_⟩
          refine ite2 (fun k3 => ?_) (fun k3 => ?_)
          · rw [k3] at q
            refine ⟨_, rfl, a, C, dx, _, _, rfl, ha, T.cl, T.nA, pF_named, _, rfl, b, C, dy, _, _, rfl, hb, T.cl, T.nA, pF_named, rfl, ?_⟩
            show Q (V.bl (decide (V.bl nd = V.bl nd2))) _
            rw [db]
            exact q
          · rw [eq_false_of_ne_true k3] at q
            exact q
        · rw [eq_false_of_ne_true k2] at q
          exact q
      · rw [eq_false_of_ne_true k1] at q
        exact q
    · refine ⟨_, rfl, y, .ref C, _, _, false, rfl, .own C, dp_ty he, kit_own T.isC T.tyC e, _, rfl, iteF q⟩
end
end Dr
namespace Dr
open PySem PySem.Spec PyProof.Rows L2
open SX (S S_len S_cat)
abbrev sNames : Stmt := topS 40
theorem scNames : FnScope ["_law_bag_here", "_law_many", "_law_left", "_law_stem", "_law_one", "_law_turn", "_law_at", "_law_found", "_law_two"] ["_law_bag_here", "_law_many"] (defScope sNames) := ⟨rfl, rfl, rfl, by decide +kernel, rfl, by decide +kernel, by decide +kernel⟩
def gjqz : List Nat := [103, 106, 113, 122]
def letters : List Nat := [97, 98, 99, 100, 101, 102, 103, 104, 105, 106, 107, 108, 109, 110, 111, 112, 113, 114, 115, 116, 117, 118, 119, 120, 121, 122]
theorem az_eq : ("abcdefghijklmnopqrstuvwxyz" : Str) = S letters := by decide +kernel
theorem gjqz_eq : ("gjqz" : Str) = S gjqz := by decide +kernel
def twos (i : Nat) : List (List Nat) := (gjqz.take i).flatMap fun a => letters.map fun b => [a, b]
theorem twos_next {i c : Nat} (h : gjqz[i]? = some c) : twos (i + 1) = twos i ++ letters.map fun b => [c, b] := by
  unfold twos
  rw [List.take_add_one, h, List.flatMap_append]
  simp
theorem twos_len : (twos 4).length = 104 := by decide +kernel
theorem twos_nodup : (twos 4).Nodup := by decide +kernel
theorem twos_ok : ∀ t ∈ twos 4, t.length = 2 ∧ t.all lowC = true ∧ t.any (gjqz.contains ·) = true := by
  have h : (twos 4).all (fun t => decide (t.length = 2) && t.all lowC && t.any (gjqz.contains ·)) = true := by decide +kernel
  intro t ht
  have q := List.all_eq_true.mp h t ht
  rw [Bool.and_eq_true, Bool.and_eq_true] at q
  exact ⟨of_decide_eq_true q.1.1, q.1.2, q.2⟩
theorem letters_low : ∀ c ∈ letters, lowC c = true := by decide +kernel
/-- a drawn name -/
structure GoodN (cs : List Nat) : Prop where
  low : cs.all lowC = true
  lo : 2 ≤ cs.length
  hi : cs.length ≤ 8
  odd : cs.any (gjqz.contains ·) = true
theorem barred_even : barred.all (fun z => !(z.cps.toList.any (gjqz.contains ·))) = true := by decide +kernel
theorem good_name {cs : List Nat} (low : cs.all lowC = true) (lo : 1 ≤ cs.length) (hi : cs.length ≤ 8) (odd : cs.any (gjqz.contains ·) = true) : nameOk (S cs) = true := by
  have hb : barred.contains (S cs) = false := by
    cases h : barred.contains (S cs) with
    | false => rfl
    | true =>
      have hm : S cs ∈ barred := by simpa using h
      have q := List.all_eq_true.mp barred_even _ hm
      have e : (S cs).cps.toList = cs := rfl
      rw [e, odd] at q
      cases q
  unfold nameOk
  rw [hb, S_len, decide_eq_true lo, decide_eq_true hi]
  exact low
theorem GoodN.ok {cs : List Nat} (g : GoodN cs) : nameOk (S cs) = true := good_name g.low (by have := g.lo; omega) g.hi g.odd
/-- the stem around a pair of letters -/
def mkN (stem : List Nat) (at_ : Nat) (two : List Nat) : List Nat := stem.take at_ ++ two ++ stem.drop at_
theorem mkN_len {stem two : List Nat} {a : Nat} : (mkN stem a two).length = stem.length + two.length := by
  unfold mkN
  rw [List.length_append, List.length_append, List.length_take, List.length_drop]
  omega
theorem mkN_good {stem two : List Nat} {a : Nat} (hs : stem.all lowC = true) (hl : stem.length ≤ 6) (ht : two ∈ twos 4) : GoodN (mkN stem a two) := by
  obtain ⟨t1, t2, t3⟩ := twos_ok two ht
  refine ⟨?_, by rw [mkN_len]; omega, by rw [mkN_len]; omega, ?_⟩
  · unfold mkN
    rw [List.all_append, List.all_append, t2]
    have h1 : (stem.take a).all lowC = true := List.all_eq_true.mpr fun x hx => List.all_eq_true.mp hs x (List.mem_of_mem_take hx)
    have h2 : (stem.drop a).all lowC = true := List.all_eq_true.mpr fun x hx => List.all_eq_true.mp hs x (List.mem_of_mem_drop hx)
    rw [h1, h2]
    rfl
  · unfold mkN
    rw [List.any_append, List.any_append, t3]
    simp
theorem mkN_inj {stem t u : List Nat} {a : Nat} (hl : t.length = u.length) (h : mkN stem a t = mkN stem a u) : t = u := by
  unfold mkN at h
  rw [List.append_assoc, List.append_assoc] at h
  have h2 := List.append_cancel_left h
  exact (List.append_inj h2 hl).1
section
variable {P : Program} {w : World} {K : PySem.W.Frag} {mg : Str → Option Value} {base : Heap}
theorem Kp.seq {p a : Addr} {H H' : Hp} {xs : List V} (k : Kp p H H') (n : a ≠ p) (h : SqL K H a xs) : SqL K H' a xs := by
  rcases h with (h | ⟨o, h⟩) | h
  · exact .inl (.inl (k.1 _ _ n h))
  · exact .inl (.inr ⟨o, k.1 _ _ n h⟩)
  · exact .inr h
/-- one of a list or of a text's signs -/
def spOf (K : PySem.W.Frag) : Sp := fun vs H Q _ => ∃ (p : Addr) (x : V), vs = [.ref p, x] ∧ Bag H p ∧
  ((∃ (a : Addr) (xs : List V), x = .ref a ∧ a ≠ p ∧ SqL K H a xs ∧ 1 ≤ xs.length ∧ xs.length ≤ 1000 ∧ ∀ H' y, Kp p H H' → y ∈ xs → Q y H') ∨
    ∃ cs : List Nat, x = .str (S cs) ∧ 1 ≤ cs.length ∧ cs.length ≤ 1000 ∧ ∀ H' c, Kp p H H' → c ∈ cs → Q (.str (S [c])) H')
theorem ok_of {f fT : Addr} {fd fdT : FuncData} (F : Fun K "_law_of" "_law_of" sOf f fd) (T : Blt mg) (GT : FnOk P w K mg base CX0 1 fT fdT ["_law_bag_here", "_law_many"] spTake) (mT : mg "_law_take" = some (.ref fT)) (kT : PySem.W.keepIn K (.ref fT) = true) (bT : Binds K fdT ["_law_bag_here", "_law_many"] []) :
    FnOk P w K mg base CX0 2 f fd ["_law_bag_here", "_law_some"] (spOf K) := by
  refine F.ok scOf (fun vs H Q E h => ?_) (fun cdv A outer s H vs Q E hr h => ?_)
  · obtain ⟨p, x, rfl, _⟩ := h
    rfl
  · obtain ⟨p, x, rfl, hB, h⟩ := h
    refine ⟨_, pss_one (ps_ret (pe_ix ix_seq (pv 1) (pe_call GT hr (by rfl) mT kT bT .nil pass0 (pa_cons (pv 0) (pa_cons (pe_callB call_len (by rfl) T.len PySem.boot_len (pa_cons (pv 1) pa_nil)) pa_nil))) (fun _ _ => rfl))), ?_⟩
    rcases h with ⟨a, xs, rfl, na, hS, h1, h2, q⟩ | ⟨cs, rfl, h1, h2, q⟩
    · refine ⟨_, rfl, _, rfl, _, rfl, _, xs.length, rfl, .inl ⟨xs, hS, rfl⟩, p, _, rfl, hB, by omega, by omega, fun H' r k r0 r1 => ?_⟩
      obtain ⟨j, rfl⟩ : ∃ j : Nat, r = (j : Int) := ⟨r.toNat, by omega⟩
      have hj : j < xs.length := by omega
      exact .inl ⟨a, xs, _, xs[j], rfl, rfl, k.seq na hS, atI_nat (List.getElem?_eq_getElem hj), q _ _ k (List.getElem_mem hj)⟩
    · have hz : (S cs).length ≤ sizeLine := by
        rw [S_len]
        exact Nat.le_of_lt (small1000 h2)
      refine ⟨_, rfl, _, rfl, _, rfl, _, (S cs).length, rfl, ⟨hz, rfl⟩, p, _, rfl, hB, by rw [S_len]; omega, by rw [S_len]; omega, fun H' r k r0 r1 => ?_⟩
      rw [S_len] at r1
      obtain ⟨j, rfl⟩ : ∃ j : Nat, r = (j : Int) := ⟨r.toNat, by omega⟩
      have hj : j < cs.length := by omega
      exact .inr (.inr ⟨S cs, _, cs[j], rfl, rfl, hz, atI_nat (List.getElem?_eq_getElem hj), q _ _ k (List.getElem_mem hj)⟩)
end
end Dr
namespace Dr
open PySem PySem.Spec PyProof.Rows L2
open SX (S S_len S_cat)
section
variable {P : Program} {w : World} {K : PySem.W.Frag} {mg : Str → Option Value} {base : Heap}
def txts (l : List (List Nat)) : List V := l.map fun cs => V.str (S cs)
def spNames (K : PySem.W.Frag) : Sp := fun vs H Q _ => ∃ (p : Addr) (m : Nat), vs = [.ref p, .int (m : Int)] ∧ Bag H p ∧ m ≤ 20 ∧
  ∀ H' q zs, Kp p H H' → H q = none → H' q = some (.lst (txts zs)) → zs.length = m → zs.Nodup → (∀ z ∈ zs, GoodN z) → Q (.ref q) H'
theorem seqIx {n j : Nat} (h : j < n) : seqIndex? (j : Int) n = some j := by
  refine (ixN_seq (n := n) (i := (j : Int)) (j := j) ?_).1
  unfold ixN
  rw [if_pos (by omega), if_pos (by omega)]
  simp
theorem erase_perm {α : Type} : ∀ {l : List α} {k : Nat} {y : α}, l[k]? = some y → (y :: l.eraseIdx k).Perm l
  | [], k, y, h => by simp at h
  | a :: r, 0, y, h => by
    obtain rfl := Option.some.inj h
    exact .refl _
  | a :: r, k + 1, y, h => by
    have ih := erase_perm (l := r) (k := k) (y := y) h
    exact (List.Perm.swap a y _).trans (.cons a ih)
theorem map_er {α β : Type} (f : α → β) : ∀ (l : List α) (k : Nat), (l.map f).eraseIdx k = (l.eraseIdx k).map f
  | [], _ => rfl
  | a :: r, 0 => rfl
  | a :: r, k + 1 => congrArg (f a :: ·) (map_er f r k)
theorem txts_erase (l : List (List Nat)) (k : Nat) : (txts l).eraseIdx k = txts (l.eraseIdx k) := map_er _ l k
theorem txts_app (l r : List (List Nat)) : txts l ++ txts r = txts (l ++ r) := by
  unfold txts
  rw [List.map_append]
theorem ok_names {f fT fO : Addr} {fd fdT fdO : FuncData} (F : Fun K "_law_names" "_law_names" sNames f fd) (T : Blt mg) (hra : mg "range" = none)
    (GT : FnOk P w K mg base CX0 1 fT fdT ["_law_bag_here", "_law_many"] spTake) (mT : mg "_law_take" = some (.ref fT)) (kT : PySem.W.keepIn K (.ref fT) = true) (bT : Binds K fdT ["_law_bag_here", "_law_many"] [])
    (GO : FnOk P w K mg base CX0 2 fO fdO ["_law_bag_here", "_law_some"] (spOf K)) (mO : mg "_law_of" = some (.ref fO)) (kO : PySem.W.keepIn K (.ref fO) = true) (bO : Binds K fdO ["_law_bag_here", "_law_some"] []) :
    FnOk P w K mg base CX0 3 f fd ["_law_bag_here", "_law_many"] (spNames K) := by
  refine F.ok scNames (fun vs H Q E h => ?_) (fun cdv A outer s H vs Q E hr h => ?_)
  · obtain ⟨p, m, rfl, _⟩ := h
    rfl
  · obtain ⟨p, m, rfl, hB, hm, q⟩ := h
    have hr1 : Room 1 _ := hr.mono (by decide)
    refine ⟨_, pss_cons (ps_par (i := 2) (j := 3) (by rfl) scNames.nd rfl rfl (by decide) rfl rfl (pa_cons (pe_lst pa_nil) (pa_cons pe_str pa_nil)) (by rfl))
      (pss_cons (ps_for PassesOwn.never rfl (pi_str pe_str) (pg_name (i := 4) scNames.nd rfl (.inr rfl)) (pss_one (ps_expr (pe_bm PySem.F.plainAttrs_list PySem.F.slot_list_extend PySem.F.type_list_extend mt_extend (pv 2) (pa_cons
          (pe_lc (own := [("_law_two", 8)]) (g := gName 8) (tt := tYes) rfl scNames.nd (pi_str pe_str) (blkOk_by (N := ["_law_bag_here", "_law_many", "_law_left", "_law_stem", "_law_one", "_law_turn", "_law_at", "_law_found", "_law_two"]) (sc := defScope sNames) (by decide +kernel)) (fun _ _ _ _ _ => pg_name (i := 8) scNames.nd rfl (Or.inl rfl)) (fun _ _ _ _ _ => pts_nil)
            (fun _ _ _ _ _ => pe_op op_add_str (pv 4) (pv 8))) pa_nil)))))
      (pss_cons (ps_for PassesOwn.never rfl (pi_range1 rfl hra (pa_cons (pe_call GT hr1 (by rfl) mT kT bT .nil pass0 (pa_cons (pv 0) (pa_cons pe_int pa_nil))) pa_nil)) (pg_name (i := 5) scNames.nd rfl (.inl rfl))
          (pss_one (ps_set (i := 3) scNames.nd rfl (.inl rfl) (pe_op op_add_str (pv 3) (pe_call GO hr (by rfl) mO kO bO .nil pass0 (pa_cons (pv 0) (pa_cons pe_str pa_nil)))))))
      (pss_cons (ps_par (i := 6) (j := 7) (by rfl) scNames.nd rfl rfl (by decide) rfl rfl (pa_cons (pe_call GT hr1 (by rfl) mT kT bT .nil pass0 (pa_cons (pv 0) (pa_cons (pe_op op_add (pe_callB call_len_str (by rfl) T.len PySem.boot_len (pa_cons (pv 3) pa_nil)) pe_int) pa_nil))) (pa_cons (pe_lst pa_nil) pa_nil)) (by rfl))
      (pss_cons (ps_for PassesOwn.never rfl (pi_range1 rfl hra (pa_cons (pv 1) pa_nil)) (pg_name (i := 5) scNames.nd rfl (.inl rfl))
          (pss_one (ps_expr (pe_bm PySem.F.plainAttrs_list PySem.F.slot_list_append PySem.F.type_list_append mt_append (pv 7) (pa_cons
            (pe_op op_add_str (pe_op op_add_str (pe_slice C8.sl_txt (pv 3) po_none (po_some (pv 6)))
              (pe_bm PySem.F.plainAttrs_list PySem.F.slot_list_pop PySem.F.type_list_pop mt_popAt (pv 2) (pa_cons (pe_call GT hr1 (by rfl) mT kT bT .nil pass0 (pa_cons (pv 0) (pa_cons (pe_callB call_len_seq (by rfl) T.len PySem.boot_len (pa_cons (pv 2) pa_nil)) pa_nil))) pa_nil)))
              (pe_slice C8.sl_txt (pv 3) (po_some (pv 6)) po_none)) pa_nil)))))
      (pss_one (ps_ret (pv 7))))))), ?_⟩
    refine ⟨Nat.zero_le _, fun l nl => ?_⟩
    have nlp : l ≠ p := fun e => by
      obtain ⟨u, v, hp, _⟩ := hB
      rw [e, hp] at nl
      cases nl
    refine ⟨_, _, rfl, ?_⟩
    -- the pairs of letters
    refine ⟨_, rfl, for_it walk_str (fun i σ H1 => Same H H1 ∧ H1 l = some (.lst (txts (twos i))) ∧ ∃ y, σ = [some (.ref p), some (.int (m : Int)), some (.ref l), some (.str ""), y, none, none, none, none]) ⟨same_upd nl, upd_same, _, rfl⟩ (fun _ _ _ _ _ => trivial) ?_ ?_⟩
    · rintro i x σ H1 H2 hi ⟨sm, hl, y, rfl⟩ ⟨rfl, c, hc, rfl⟩
      rw [gjqz_eq] at hc hi
      have hc' : gjqz[i]? = some c := by
        rw [← hc]
        simp
      have hi' : i < 4 := by simpa [gjqz] using hi
      refine ⟨_, rfl, .inl ⟨rfl, _, SqL.of hl⟩, _, rfl, fun D hD => lc_it walk_str (fun j H3 => Same H2 H3 ∧ H3 D = some (.lst (txts ((letters.take j).map fun b => [c, b])))) ⟨same_upd hD, upd_same⟩ (fun _ _ _ _ => trivial) ?_ ?_⟩
      · rintro j x H3 H4 hj ⟨sm3, hD3⟩ ⟨rfl, b, hb, rfl⟩
        rw [az_eq] at hb
        have hb' : letters[j]? = some b := by
          rw [← hb]
          simp
        refine ⟨rfl, ?_⟩
        unfold tYes
        refine iteT ?_
        refine ⟨_, rfl, _, rfl, S [c], S [b], rfl, rfl, by show 1 + 1 ≤ sizeLine; decide, ?_⟩
        refine ⟨_, hD3, ?_, fun a o e => ?_, ?_⟩
        · unfold txts
          rw [List.length_map, List.length_map, List.length_take]
          exact small1000 (by have : letters.length = 26 := rfl; omega)
        · rw [upd_ne (ne_of_none e hD)]
          exact sm3 _ _ e
        · rw [upd_same, S_cat, List.take_add_one, hb']
          unfold txts
          rw [List.map_append, List.map_append]
          rfl
      · rintro H3 ⟨sm3, hD3⟩
        rw [az_eq] at hD3
        have e26 : letters.take (S letters).cps.size = letters := rfl
        rw [e26] at hD3
        have hl3 := sm3 _ _ hl
        have nlD : l ≠ D := ne_of_none hl hD
        refine ⟨l, D, _, _, rfl, rfl, hl3, hD3, ?_, ?_⟩
        · unfold txts
          rw [List.length_map, List.length_map, List.length_map]
          have h1 : (twos i).length ≤ 104 := by
            have hcase : i = 0 ∨ i = 1 ∨ i = 2 ∨ i = 3 := by omega
            rcases hcase with e | e | e | e <;> (rw [e]; decide +kernel)
          have h2 : letters.length = 26 := rfl
          exact Nat.le_of_lt (small1000 (by omega))
        · refine ⟨fun a o e => ?_, ?_, _, rfl⟩
          · rw [upd_ne (ne_of_none e nl)]
            exact sm3 _ _ (sm _ _ e)
          · rw [upd_same, txts_app, twos_next hc']
    · rintro σ H1 ⟨sm, hl, y, rfl⟩
      rw [gjqz_eq] at hl
      have e4 : twos (S gjqz).cps.size = twos 4 := rfl
      rw [e4] at hl
      have k1 : Kp p H H1 := Kp.of hB sm
      -- the stem
      refine ⟨_, rfl, p, 7, rfl, k1.2, by decide, by decide, fun H2 r k2 r0 r7 => ⟨r, rfl, by omega, by omega, for_it walk_range (fun i σ H3 => Kp p H H3 ∧ H3 l = some (.lst (txts (twos 4))) ∧ ∃ (stem : List Nat) (y5 : Option V), σ = [some (.ref p), some (.int (m : Int)), some (.ref l), some (.str (S stem)), y, y5, none, none, none] ∧ stem.all lowC = true ∧ stem.length ≤ i) ⟨k1.trans k2, k2.1 _ _ nlp hl, [], none, rfl, rfl, Nat.le_refl _⟩ (fun _ _ _ _ _ => trivial) ?_ ?_⟩⟩
      · rintro i x σ H3 H4 hi ⟨k3, hl3, stem, y5, rfl, hlow, hlen⟩ ⟨rfl, rfl⟩
        refine ⟨_, rfl, _, rfl, p, _, rfl, k3.2, .inr ⟨letters, congrArg V.str az_eq, by decide, by decide, fun H5 c k5 hc => ?_⟩⟩
        refine ⟨_, _, rfl, rfl, ?_, ?_⟩
        · rw [S_len, S_len]
          exact Nat.le_of_lt (small1000 (by show stem.length + 1 ≤ 1000; omega))
        · refine ⟨k3.trans k5, k5.1 _ _ nlp hl3, stem ++ [c], _, by rw [← S_cat]; rfl, ?_, by rw [List.length_append]; show stem.length + 1 ≤ i + 1; omega⟩
          rw [List.all_append, hlow, List.all_cons, letters_low c hc]
          rfl
      · rintro σ H3 ⟨k3, hl3, stem, y5, rfl, hlow, hlen⟩
        have hlen6 : stem.length ≤ 6 := by omega
        refine ⟨_, rfl, _, rfl, _, rfl, ?_, _, _, rfl, rfl, p, _, rfl, k3.2, by omega, by rw [S_len]; omega, fun H4 at_ k4 a0 a1 => ?_⟩
        · rw [S_len]
          exact Nat.le_of_lt (small1000 (by omega))
        refine ⟨Nat.zero_le _, fun g ng => ⟨_, _, rfl, ?_⟩⟩
        have hl4 := k4.1 _ _ nlp hl3
        have k04 := k3.trans k4
        have nlg : l ≠ g := ne_of_none hl4 ng
        have ngp : g ≠ p := fun e => by
          obtain ⟨u, v, hp, _⟩ := k04.2
          rw [e, hp] at ng
          cases ng
        have sg : Same H4 (upd H4 g (.lst [])) := same_upd ng
        -- the names
        refine ⟨_, rfl, (m : Int), rfl, by omega, by omega, for_it walk_range (fun i σ H5 => Kp p H H5 ∧ H5 g = H5 g ∧ ∃ (ws L : List (List Nat)) (y5 : Option V), H5 l = some (.lst (txts L)) ∧ H5 g = some (.lst (txts (ws.map (mkN stem at_.toNat)))) ∧ ws.length = i ∧ L.length + i = 104 ∧ (ws ++ L).Nodup ∧ (∀ t ∈ ws ++ L, t ∈ twos 4) ∧
          σ = [some (.ref p), some (.int (m : Int)), some (.ref l), some (.str (S stem)), y, y5, some (.int at_), some (.ref g), none]) ⟨k04.same sg, rfl, [], twos 4, _, sg _ _ hl4, upd_same, rfl, twos_len, twos_nodup, fun t h => h, rfl⟩ (fun _ _ _ _ _ => trivial) ?_ ?_⟩
        · rintro i x σ H5 H6 hi ⟨k5, _, ws, L, y5, hL, hG, hw, hLl, hnd, hall, rfl⟩ ⟨rfl, rfl⟩
          have hi20 : i < 20 := by
            have : i < ((m : Nat) : Int).toNat := hi
            omega
          have hsz : (S stem).length ≤ sizeLine := by
            rw [S_len]
            exact Nat.le_of_lt (small1000 (by omega))
          have hLen : (txts L).length = L.length := by
            unfold txts
            rw [List.length_map]
          refine ⟨_, rfl, .inl ⟨rfl, _, SqL.of hG⟩, ?_⟩
          refine ⟨_, rfl, _, rfl, at_, rfl, S stem, rfl, hsz, ?_⟩
          refine ⟨_, rfl, .inl ⟨rfl, _, SqL.of hL⟩, _, rfl, _, rfl, l, _, rfl, .inl (SqL.of hL), p, _, rfl, k5.2, by rw [hLen]; omega, by rw [hLen]; omega, fun H7 kk k7 kk0 kk1 => ?_⟩
          rw [hLen] at kk1
          obtain ⟨j, rfl⟩ : ∃ j : Nat, kk = (j : Int) := ⟨kk.toNat, by omega⟩
          have hj : j < L.length := by omega
          have hget : L[j]? = some L[j] := List.getElem?_eq_getElem hj
          have hL7 := k7.1 _ _ nlp hL
          have hG7 := k7.1 _ _ ngp hG
          have htwo : L[j] ∈ twos 4 := hall _ (List.mem_append_right _ (List.getElem_mem hj))
          have ht2 := (twos_ok _ htwo).1
          refine ⟨l, _, _, j, .str (S L[j]), rfl, rfl, hL7, by omega, by omega, seqIx (by rw [hLen]; exact hj), by unfold txts; rw [List.getElem?_map, hget]; rfl, ?_⟩
          have e1 : Txt.slice (S stem) none (some at_) = S (stem.take at_.toNat) := SX.slice_to a0
          have e2 : Txt.slice (S stem) (some at_) none = S (stem.drop at_.toNat) := SX.slice_from a0
          refine ⟨_, _, congrArg V.str e1, rfl, ?_, ?_⟩
          · rw [S_len, S_len, List.length_take]
            exact Nat.le_of_lt (small1000 (by omega))
          refine ⟨_, rfl, _, rfl, at_, rfl, S stem, rfl, hsz, ?_⟩
          refine ⟨_, _, rfl, congrArg V.str e2, ?_, ?_⟩
          · rw [S_cat, S_len, S_len, List.length_append, List.length_take, List.length_drop]
            exact Nat.le_of_lt (small1000 (by omega))
          refine ⟨g, _, _, rfl, rfl, (by rw [upd_ne nlg.symm]; exact hG7), ?_, ?_⟩
          · unfold txts
            rw [List.length_map, List.length_map, hw]
            exact small1000 (by omega)
          · rw [S_cat, S_cat]
            have hperm : ((ws ++ [L[j]]) ++ L.eraseIdx j).Perm (ws ++ L) := by
              rw [List.append_assoc]
              exact (erase_perm hget).append_left ws
            refine ⟨⟨fun a o na e => ?_, ?_⟩, rfl, ws ++ [L[j]], L.eraseIdx j, _, ?_, ?_, by rw [List.length_append, hw]; rfl, ?_, hperm.nodup_iff.mpr hnd, fun t h => hall t (hperm.mem_iff.mp h), rfl⟩
            · have e5 := k7.1 _ _ na (k5.1 _ _ na e)
              have ag : a ≠ g := fun z => by
                subst z
                have := (k04.1 _ _ na e).symm.trans ng
                cases this
              have al : a ≠ l := fun z => by
                subst z
                rw [nl] at e
                cases e
              rw [upd_ne ag, upd_ne al]
              exact e5
            · obtain ⟨u, v, hp, hb⟩ := k7.2
              refine ⟨u, v, ?_, hb⟩
              rw [upd_ne ngp.symm, upd_ne nlp.symm]
              exact hp
            · rw [upd_ne nlg, upd_same, txts_erase]
            · rw [upd_same, List.map_append, ← txts_app]
              unfold mkN
              rfl
            · rw [List.length_eraseIdx_of_lt hj]
              omega
        · rintro σ H5 ⟨k5, _, ws, L, y5, hL, hG, hw, hLl, hnd, hall, rfl⟩
          have hw' : ws.length = m := by
            rw [hw]
            show ((m : Nat) : Int).toNat = m
            omega
          have ng0 : H g = none := by
            cases e : H g with
            | none => rfl
            | some o =>
              have := (k04.1 _ _ ngp e).symm.trans ng
              cases this
          refine ⟨_, rfl, q _ g _ k5 ng0 hG (by rw [List.length_map]; exact hw') ?_ ?_⟩
          · have hnd1 : ws.Nodup := (List.nodup_append.mp hnd).1
            refine List.pairwise_map.mpr (hnd1.imp_of_mem fun {t u} ht hu ne e => ne ?_)
            have t2 := (twos_ok t (hall t (List.mem_append_left _ ht))).1
            have u2 := (twos_ok u (hall u (List.mem_append_left _ hu))).1
            exact mkN_inj (t2.trans u2.symm) e
          · intro z hz
            obtain ⟨t, ht, rfl⟩ := List.mem_map.mp hz
            exact mkN_good hlow hlen6 (hall t (List.mem_append_left _ ht))
end
end Dr
namespace Dr
open PySem PySem.Spec PyProof.Rows L2
/-- one clause: its class, its name's slot, its suite's reading -/
structure Cl where
  c : Value
  i : Nat
  ts : Addr → Value → Option Addr → TS
/-- the ends of a suite: the name is gone -/
abbrev gone (i : Nat) (D : Ends) : Ends := { nx := fun x y => D.nx (x.set i none) y, rt := D.rt, bk := fun x y => D.bk (x.set i none) y, ct := fun x y => D.ct (x.set i none) y }
/-- what the clauses ask of what the body raises -/
def wCl (K : PySem.W.Frag) (O : WX) (D : Ends) : List Cl → WX
  | [] => O
  | k :: r => fun cls d σ H => ∃ b, PySem.W.exmOne K cls k.c = some b ∧ (b = true → ∀ a, H a = none → k.ts a cls d (gone k.i D) (σ.set k.i (some (.ref a))) H) ∧ (b = false → wCl K O D r cls d σ H)
inductive ClOk (X : Cx) : List ExceptHandler → List Cl → Prop
  | nil : ClOk X [] []
  | cons {x n : Str} {k : Cl} {s0 : Stmt} {ss : List Stmt} {p1 p2 : Pos} {hs : List ExceptHandler} {l : List Cl} (hi : X.N[k.i]? = some n) (hn : X.env.kindOf n = some .local) (hc : Names X x k.c)
      (su : ∀ (a : Addr) (o : Obj) (cls : Value) (d : Option Addr) (q : List (Addr × Obj)), Zc cls d o → (∃ vs, o.data = .fields vs) → PSs (X.suite a ((a, o) :: q)) (s0 :: ss) (k.ts a cls d)) (r : ClOk X hs l) :
      ClOk X (.ExceptHandler (some (.Name x p1)) (some n) (s0 :: ss) p2 :: hs) (k :: l)
section
variable {X : Cx} {body : List Stmt} {e0 : ExceptHandler} {es : List ExceptHandler} {l : List Cl} {pos : Pos} {tb : WX → TS} {O : WX}
theorem ps_try_cl (h1 : X.stack = X.env :: X.outer) (h2 : X.env.frame = some X.env.locals) (nd : X.N.Nodup) (tk : Takes X O)
    (hb : ∀ (W : WX) (q : List (Addr × Obj)) (xe : Value → Shared → Prop), Takes (X.tr q xe) W → PassesOwn (model X.prog X.w) X.A X.env xe → PSs (X.tr q xe) body (tb W))
    (hk : ClOk X (e0 :: es) l) : PS X (.Try body (e0 :: es) [] [] pos) (fun D σ H => tb (wCl X.K O D l) D σ H) := by
  refine ⟨fun q0 t0 σ0 H0 D I0 hw => ?_⟩
  have okX := I0.ok
  have frX : X.A.frames = some (X.env :: X.outer) := okX.frames.trans (congrArg some h1)
  refine wpAny_Try_except ?_
  have hrun := (hb (wCl X.K O D l) (X.pn ++ q0) (fun e t1 => wpAny (model X.prog X.w) X.A (noteFrame e X.env) (fun _ t2 => wpAny (model X.prog X.w) X.A (setFlight e none) (fun _ t3 => wpAny (model X.prog X.w) X.A (handleBy e X.env (e0 :: es)) (SP X q0 D) X.xe t3) X.xe t2) X.xe t1)
    (fun u t9 raised => ?caught) PassesOwn.looking).run [] t0 σ0 H0 D (I0.toTry _) hw
  case caught =>
    obtain ⟨a, B, tI, q1, σ1, H1, cls, d, rfl, J0, nb, up, sky, na, os, ag, ask⟩ := raised
    have J : Inv X q0 σ1 H1 tI := J0.ofTry okX
    have sky1 : Sky B (X.env :: X.outer) a (Zc cls d) X.env.locals t9.heap := h1 ▸ sky
    show wpAny (model X.prog X.w) X.A (noteFrame (.ref a) X.env) _ _ _
    refine Sky.land Zc.steady frX h2 sky1 fun g3 fl3 up3 => ?_
    have J3 : Inv X q0 σ1 H1 { t9 with heap := g3 } := J.landed nb fl3.1 (up.trans up3) os ag
    obtain ⟨o3, v3, at3, z3, dd3⟩ := fl3.there
    have apart : a ∉ frs (X.env :: X.outer) := fun hm => by
      obtain ⟨_, o', e', hnf⟩ := fl3.2.2.1.mem hm
      rw [at3] at e'
      cases e'
      exact hnf _ dd3
    have nL : a ≠ X.env.locals := fun z => apart (List.mem_filterMap.mpr ⟨X.env, List.mem_cons_self, h2.trans (congrArg some z.symm)⟩)
    have nF : a ∉ X.fs := fun hm => let ⟨e, he, q⟩ := List.mem_filterMap.mp hm; apart (List.mem_filterMap.mpr ⟨e, List.mem_cons_of_mem _ he, q⟩)
    have S3 := J3.suite at3 dd3 na nL nF
    have LT : PySem.W.Looks (model X.prog X.w) g3 (typeOf (.ref a)) cls := fun A Q E s k q => wpAny_typeOf_ref (k _ _ at3) (z3.1 ▸ q)
    have walk : ∀ {hs : List ExceptHandler} {m : List Cl}, ClOk X hs m → wCl X.K O D m cls d σ1 H1 → wpAny (model X.prog X.w) X.A (handleBy (.ref a) X.env hs) (SP X q0 D) X.xe { t9 with heap := g3 } := by
      intro hs m ok
      induction ok with
      | nil =>
        intro ask
        refine wpAny_handleBy_nil ?_
        obtain ⟨_, _, _, oe, vs, T, oT, _, he, hz, hd, hf1, _⟩ := id fl3
        unfold PySem.passOn
        refine wpAny_bind (wpAny_field he hd hf1 ?_)
        rw [if_neg (show ¬ ((Value.ref T == Value.none) = true) by simp)]
        have out : wpAny (model X.prog X.w) X.A (setFlight (.ref a) X.env.frame) (fun _ t4 => wpAny (model X.prog X.w) X.A (throw (.ref a) : Sem Flow) (SP X q0 D) X.xe t4) X.xe { t9 with heap := g3 } := by
          rw [h2]
          exact HandSPX.setFlight_upZ fl3 fun g4 hh4 up4 => wpAny_throw (tk _ _ ⟨a, B, tI, q0, σ1, H1, cls, d, rfl, J, nb, (up.trans up3).trans up4, .inr (.inr (h1.symm ▸ hh4)), na, os, ag, ask⟩)
        first
          | exact wpAny_bind (wpAny_pure (wpAny_bind out))
          | exact wpAny_bind out
      | @cons x n k s0 ss p1 p2 hs2 m2 hi hn hc su r ih =>
        intro ask
        obtain ⟨b, em, yes, no⟩ := ask
        refine wpAny_handleBy_cons (codeAny_handlers_test ?_) (by intro q; cases q)
        have LM := PySem.W.exm_one (M := model X.prog X.w) (J3.kIn) LT em
        have cl : ∀ {Q : Value → Shared → Prop} {E : Value → Shared → Prop}, Q k.c { t9 with heap := g3 } → wpAny (model X.prog X.w) (X.A.mark (some (.ref a))) (eval (.Name x p1) X.env) Q E { t9 with heap := g3 } := fun {Q E} q => by
          rcases hc with ⟨hg, hdbg, hm | ⟨hm, hv, hnn⟩⟩
          · exact ld_glob (X := X.suite a ((a, o3) :: (X.pn ++ q0))) S3 hg hm q hdbg
          · exact ld_blt (X := X.suite a ((a, o3) :: (X.pn ++ q0))) S3 hg hm hv q hnn hdbg
        refine cl (LM.here ?_)
        cases b with
        | false => exact ih (no rfl)
        | true =>
          refine codeAny_handlers_suite_as (HandSPX.lands_againZ fl3 fun g4 fl4 up4 => ?_)
          have J4 : Inv X q0 σ1 H1 { t9 with heap := g4 } := J.landed nb fl4.1 ((up.trans up3).trans up4) os ag
          obtain ⟨o4, v4, at4, z4, dd4⟩ := fl4.there
          have S4 := J4.suite at4 dd4 na nL nF
          refine store_ok (X := X.suite a ((a, o4) :: (X.pn ++ q0))) (v := .ref a) S4 nd hi (.inl hn) rfl (fun t5 S5 => ?_) (.inr hn)
          have close : ∀ {σ6 : L2.St} {H6 : Hp} {t6 : Shared} {Q : Shared → Prop}, Inv (X.suite a ((a, o4) :: (X.pn ++ q0))) [] σ6 H6 t6 → (∀ t7, Inv X q0 (σ6.set k.i none) H6 t7 → Q t7) →
              wpAny (model X.prog X.w) X.A (do bindName X.env n .none; unbindBehindTheSuite X.env n p2) (fun _ t7 => Q t7) X.xe t6 := fun S6 hq => gone_ok (S6.unsuite okX) nd hi hn hq
          refine wpAny_mono ((su a o4 cls d (X.pn ++ q0) z4 ⟨_, dd4⟩).run [] t5 _ H1 _ S5 (yes rfl a na)) (fun fl t6 en => ?_) (fun _ _ z => False.elim z)
          cases fl with
          | next => exact let ⟨_, _, S6, q6⟩ := en; close S6 fun t7 J7 => ⟨_, _, J7, q6⟩
          | brk => exact let ⟨_, _, S6, q6⟩ := en; close S6 fun t7 J7 => ⟨_, _, J7, q6⟩
          | cont => exact let ⟨_, _, S6, q6⟩ := en; close S6 fun t7 J7 => ⟨_, _, J7, q6⟩
          | ret u => exact let ⟨_, _, _, S6, r6, q6⟩ := en; close S6 fun t7 J7 => ⟨_, _, _, J7, r6, q6⟩
    exact walk hk ask
  refine wpAny_mono hrun (fun fl t1 en => ?_) (fun _ _ he => he)
  cases fl with
  | next => exact let ⟨_, _, J, q⟩ := en; wpAny_execs_nil ⟨_, _, J.ofTry okX, q⟩
  | brk => exact let ⟨_, _, J, q⟩ := en; ⟨_, _, J.ofTry okX, q⟩
  | cont => exact let ⟨_, _, J, q⟩ := en; ⟨_, _, J.ofTry okX, q⟩
  | ret u => exact let ⟨_, _, _, J, r, q⟩ := en; ⟨_, _, _, J.ofTry okX, r, q⟩
end
/-- C(e, .., k = v, ..) in a body whose raised exceptions are awaited -/
def tMkKS (C : Addr) (n m : Nat) (sp : Sp) (gV : List V → List V → List V) (E : L2.St → XK) (t tk : TA) : TE := fun σ H Q => t σ H fun vs H1 => tk σ H1 fun zs H2 => vs.length = n ∧ zs.length = m ∧ ∀ x dx, H2 x = none → H2 dx = none → dx ≠ x →
  sp (gV (.ref x :: vs) zs) (upd (upd H2 dx (.own x)) x (.ins C dx [])) (fun v H3 => v = .non ∧ Q (.ref x) H3) (E σ)
section
variable {X : Cx} {CX : CXT} {k n : Nat} {f C : Addr} {fd : FuncData} {ps ks : List Str} {sp : Sp} {E : L2.St → XK} {x : Str} {p pos : Pos} {e : Expr} {es : List Expr} {kws : List Keyword} {t tk : TA} {g : List Value → List Value → List Value} {gV : List V → List V → List V}
theorem pe_mkKS (M : Mk X.K C f) (F : FnOk X.prog X.w X.K X.mg X.base CX k f fd ps sp) (hr : Room (k + 1) X.A) (hg : Gl X x) (hm : X.mg x = some (.ref C)) (hb : KBn X.K fd ps (n + 1) ks g gV) (hx : ∀ σ, PassesAt CX X σ (E σ)) (ha : PA X (e :: es) t) (hk : PK X kws tk)
    (c1 : (backToKw pos (keywordEach kws X.env)).all (·.1.isSome) = true := by rfl) (c2 : (backToKw pos (keywordEach kws X.env)).filterMap (·.1) = ks := by rfl) (c3 : (x == ("__debug__" : Str)) = false := by decide)
    (c4 : starEach (e :: es) X.env = (false, eval e X.env) :: starEach es X.env := by rfl) (c5 : ((backTo pos (starEach (e :: es) X.env)).any (·.1) || (backToKw pos (keywordEach kws X.env)).any (·.1.isNone)) = false := by rfl) :
    PE X (.Call (.Name x p) (e :: es) kws pos) (tMkKS C n ks.length sp gV E t tk) := by
  refine ⟨fun pins s σ H Q I h => wpAny_Call_Name_kw (ld_glob I hg hm ?_ c3)⟩
  refine PySem.W.callWith_KW (h₀ := X.base) I.ok.mod.kin M.kp c1 (thn (ha.run pos pins s σ H _ I h) fun us s1 ⟨vs, H1, I1, r1, q1⟩ => ?_) c5 c4
  refine thn (hk.run pos pins s1 σ H1 _ I1 q1) fun ws s2 ⟨zs, H2, I2, r2, l1, l2, q2⟩ => ⟨I2.kIn, ?_⟩
  rw [c2]
  have hq := q2 (s2.heap.objs.size + 1) s2.heap.objs.size (I2.hok.fresh (Nat.le_succ _)) (I2.hok.fresh (Nat.le_refl _)) (Nat.ne_of_lt (Nat.lt_succ_self _))
  have I3 := Inv.made (C := C) I2
  have rS : Vals (V.ref (s2.heap.objs.size + 1) :: vs) (Value.ref (s2.heap.objs.size + 1) :: us) := .cons rfl r1
  have nS : (Value.ref (s2.heap.objs.size + 1) :: us).length = n + 1 := rS.length.symm.trans (congrArg Nat.succ l1)
  refine wpAny_call (make_map (f := f) I2.kIn M.makes M.init (beq_iff_eq.mp M.fn) (codeAny_mono (F.run _ X.stack _ _ ⟨Value.ref (s2.heap.objs.size + 1) :: us, ks.zip ws⟩ (g (Value.ref (s2.heap.objs.size + 1) :: us) ws) _ _ (E σ) (hr.make C us (ks.zip ws))
    (I3.env0.make C us (ks.zip ws)) (hb.to _ (Value.ref (s2.heap.objs.size + 1) :: us) ws I3.kIn nS (r2.length.symm.trans l2)) (hb.rel rS r2) hq) fun r s' hq' => ?_))
  cases r with
  | error er => exact hx σ pins _ _ er s' I3 hq'
  | ok fl =>
    cases fl with
    | ret u =>
      obtain ⟨v, H', I4, rv, ev, q3⟩ := I3.after hq'
      subst ev
      exact ⟨rv, ⟨V.ref (s2.heap.objs.size + 1), H', I4, rfl, q3⟩⟩
    | next => exact False.elim hq'
    | brk => exact False.elim hq'
    | cont => exact False.elim hq'
end
end Dr
namespace Dr
open PySem PySem.Spec PyProof.Rows L2
open SX (S S_len S_cat)
/-- the heap without the bag -/
def hid (p : Addr) (H : Hp) : Hp := fun b => if b = p then none else H b
/-- v is the datum d, and the bag at p is no part of it -/
abbrev Dq (K : PySem.W.Frag) (p : Addr) (H : Hp) (v : V) (d : PyData) : Prop := Dp K (hid p H) v d
abbrev DqAll (K : PySem.W.Frag) (p : Addr) (H : Hp) (vs : List V) (ds : List PyData) : Prop := DpAll K (hid p H) vs ds
theorem hid_sub {p : Addr} {H : Hp} : Same (hid p H) H := fun b o e => by
  unfold hid at e
  split at e
  · cases e
  · exact e
theorem hid_same {p : Addr} {H H' : Hp} (s : Same H H') : Same (hid p H) (hid p H') := fun b o e => by
  unfold hid at e ⊢
  split at e
  · cases e
  · rename_i n
    rw [if_neg n]
    exact s _ _ e
theorem hid_kp {p : Addr} {H H' : Hp} (k : Kp p H H') : Same (hid p H) (hid p H') := fun b o e => by
  unfold hid at e ⊢
  split at e
  · cases e
  · rename_i n
    rw [if_neg n]
    exact k.1 _ _ n e
theorem hid_at {p q : Addr} {H : Hp} {o : HO} (n : q ≠ p) (h : H q = some o) : hid p H q = some o := by
  unfold hid
  rw [if_neg n]
  exact h
theorem Dq.dp {K : PySem.W.Frag} {p : Addr} {H : Hp} {v : V} {d : PyData} (h : Dq K p H v d) : Dp K H v d := dp_same hid_sub h
theorem Dq.same {K : PySem.W.Frag} {p : Addr} {H H' : Hp} {v : V} {d : PyData} (h : Dq K p H v d) (s : Same H H') : Dq K p H' v d := dp_same (hid_same s) h
theorem Dq.kp {K : PySem.W.Frag} {p : Addr} {H H' : Hp} {v : V} {d : PyData} (h : Dq K p H v d) (k : Kp p H H') : Dq K p H' v d := dp_same (hid_kp k) h
/-- what an expression denotes -/
abbrev DP := L2.St → Hp → PyData → Prop
abbrev DPs := L2.St → Hp → List PyData → Prop
def tD (K : PySem.W.Frag) (p : Addr) (P : DP) : TE := fun σ H Q => ∃ d, P σ H d ∧ ∀ v H', Same H H' → Dq K p H' v d → Q v H'
def aD (K : PySem.W.Frag) (p : Addr) (P : DPs) : TA := fun σ H Q => ∃ ds, P σ H ds ∧ ∀ vs H', Same H H' → DqAll K p H' vs ds → Q vs H'
/-- stays as the heap grows -/
def Up {α : Type} (P : L2.St → Hp → α → Prop) : Prop := ∀ σ H H' d, Same H H' → P σ H d → P σ H' d
theorem PE.imp {X : Cx} {e : Expr} {t t' : TE} (h : PE X e t) (i : ∀ σ H Q, t' σ H Q → t σ H Q) : PE X e t' := ⟨fun pins s σ H Q I w => h.run pins s σ H Q I (i σ H Q w)⟩
theorem PA.imp {X : Cx} {es : List Expr} {t t' : TA} (h : PA X es t) (i : ∀ σ H Q, t' σ H Q → t σ H Q) : PA X es t' := ⟨fun pos pins s σ H Q I w => h.run pos pins s σ H Q I (i σ H Q w)⟩
def isD (d : PyData) : DP := fun _ _ x => x = d
def slD (K : PySem.W.Frag) (p : Addr) (i : Nat) : DP := fun σ H d => ∃ v, σ[i]? = some (some v) ∧ Dq K p H v d
def nilD : DPs := fun _ _ ds => ds = []
def consD (P : DP) (Ps : DPs) : DPs := fun σ H ds => ∃ d r, P σ H d ∧ Ps σ H r ∧ ds = d :: r
def tupD (p : Addr) (Ps : DPs) : DP := fun σ H d => ∃ ds, Ps σ H ds ∧ ds.length ≤ 1000 ∧ H p ≠ none ∧ d = .tuple ds
def lstD (p : Addr) (Ps : DPs) : DP := fun σ H d => ∃ ds, Ps σ H ds ∧ ds.length ≤ 1000 ∧ H p ≠ none ∧ d = .list ds
theorem Same.some {H H' : Hp} {p : Addr} (s : Same H H') (h : H p ≠ none) : H' p ≠ none := by
  cases e : H p with
  | none => exact absurd e h
  | some o =>
    rw [s _ _ e]
    exact fun z => by cases z
theorem up_is {d : PyData} : Up (isD d) := fun _ _ _ _ _ h => h
theorem up_sl {K : PySem.W.Frag} {p : Addr} {i : Nat} : Up (slD K p i) := fun _ _ _ _ s ⟨v, e, h⟩ => ⟨v, e, Dq.same h s⟩
theorem up_nil : Up nilD := fun _ _ _ _ _ h => h
theorem up_cons {P : DP} {Ps : DPs} (h : Up P) (hs : Up Ps) : Up (consD P Ps) := fun σ H H' d s ⟨x, r, a, b, e⟩ => ⟨x, r, h σ H H' x s a, hs σ H H' r s b, e⟩
theorem up_tup {p : Addr} {Ps : DPs} (h : Up Ps) : Up (tupD p Ps) := fun σ H H' d s ⟨ds, a, b, c, e⟩ => ⟨ds, h σ H H' ds s a, b, Same.some s c, e⟩
theorem up_lst {p : Addr} {Ps : DPs} (h : Up Ps) : Up (lstD p Ps) := fun σ H H' d s ⟨ds, a, b, c, e⟩ => ⟨ds, h σ H H' ds s a, b, Same.some s c, e⟩
section
variable {X : Cx} {p : Addr}
theorem pd_str {x : Str} {j : Nat} {pos : Pos} : PE X (.Constant (.str x) j pos) (tD X.K p (isD (.str x))) := PE.imp pe_str fun _ H _ ⟨d, e, q⟩ => by
  cases (show d = .str x from e)
  exact q _ H (Same.refl _) (.str x)
theorem pd_int {x : Int} {j : Nat} {pos : Pos} : PE X (.Constant (.int x) j pos) (tD X.K p (isD (.int x))) := PE.imp pe_int fun _ H _ ⟨d, e, q⟩ => by
  cases (show d = .int x from e)
  exact q _ H (Same.refl _) (.int x)
theorem pd_bl {x : Bool} {j : Nat} {pos : Pos} : PE X (.Constant (.bool x) j pos) (tD X.K p (isD (.bool x))) := PE.imp pe_bl fun _ H _ ⟨d, e, q⟩ => by
  cases (show d = .bool x from e)
  exact q _ H (Same.refl _) (.bl x)
theorem pd_non {j : Nat} {pos : Pos} : PE X (.Constant .none j pos) (tD X.K p (isD .none)) := PE.imp pe_non fun _ H _ ⟨d, e, q⟩ => by
  cases (show d = .none from e)
  exact q _ H (Same.refl _) .non
theorem pd_v (i : Nat) {x : Str} {pos : Pos} (h : PE X (.Name x pos) (tVar i)) : PE X (.Name x pos) (tD X.K p (slD X.K p i)) := PE.imp h fun _ H _ ⟨_, ⟨v, e, hd⟩, q⟩ => ⟨v, e, q v H (Same.refl _) hd⟩
theorem pad_nil : PA X [] (aD X.K p nilD) := PA.imp pa_nil fun _ H _ ⟨ds, e, q⟩ => by
  cases (show ds = [] from e)
  exact q [] H (Same.refl _) .nil
theorem pad_cons {e : Expr} {es : List Expr} {P : DP} {Ps : DPs} (h : PE X e (tD X.K p P)) (hs : PA X es (aD X.K p Ps)) (u : Up Ps) (c : starEach (e :: es) X.env = (false, eval e X.env) :: starEach es X.env := by rfl) : PA X (e :: es) (aD X.K p (consD P Ps)) := PA.imp (pa_cons h hs c) fun σ H Q ⟨ds, ⟨d, r, a, b, e⟩, q⟩ => by
  subst e
  exact ⟨d, a, fun v H1 s1 h1 => ⟨r, u _ _ _ _ s1 b, fun vs H2 s2 h2 => q (v :: vs) H2 (s1.trans s2) (.cons (Dq.same h1 s2) h2)⟩⟩
theorem new_ne {p q : Addr} {H : Hp} (h : H p ≠ none) (n : H q = none) : q ≠ p := fun e => h (e ▸ n)
theorem pd_tup {es : List Expr} {k : Nat} {pos : Pos} {Ps : DPs} (h : PA X es (aD X.K p Ps)) : PE X (.Tuple es k pos) (tD X.K p (tupD p Ps)) := PE.imp (pe_tup h) fun σ H Q ⟨d, ⟨ds, a, b, c, e⟩, q⟩ => by
  subst e
  refine ⟨ds, a, fun vs H1 s1 h1 => ⟨by rw [dpAll_len h1]; exact Nat.le_of_lt (small1000 b), fun t nt => q _ _ (s1.trans (same_upd nt)) ?_⟩⟩
  exact .tup (SqT.of (hid_at (new_ne (Same.some s1 c) nt) upd_same)) (dpAll_same (hid_same (same_upd nt)) h1)
theorem pd_lst {es : List Expr} {pos : Pos} {Ps : DPs} (h : PA X es (aD X.K p Ps)) : PE X (.List es pos) (tD X.K p (lstD p Ps)) := PE.imp (pe_lst h) fun σ H Q ⟨d, ⟨ds, a, b, c, e⟩, q⟩ => by
  subst e
  refine ⟨ds, a, fun vs H1 s1 h1 => ⟨by rw [dpAll_len h1]; exact Nat.le_of_lt (small1000 b), fun t nt => q _ _ (s1.trans (same_upd nt)) ?_⟩⟩
  exact .lst (SqL.of (hid_at (new_ne (Same.some s1 c) nt) upd_same)) (dpAll_same (hid_same (same_upd nt)) h1)
/-- a list display, its list known -/
def tL (K : PySem.W.Frag) (p : Addr) (Ps : DPs) : TE := fun σ H Q => ∃ ds, Ps σ H ds ∧ ds.length ≤ 1000 ∧ H p ≠ none ∧ ∀ l xs H', Same H H' → l ≠ p → H l = none → H' l = some (.lst xs) → DqAll K p H' xs ds → Q (.ref l) H'
theorem pd_list {es : List Expr} {pos : Pos} {Ps : DPs} (h : PA X es (aD X.K p Ps)) : PE X (.List es pos) (tL X.K p Ps) := PE.imp (pe_lst h) fun σ H Q ⟨ds, a, b, c, q⟩ =>
  ⟨ds, a, fun vs H1 s1 h1 => ⟨by rw [dpAll_len h1]; exact Nat.le_of_lt (small1000 b), fun t nt => q t vs _ (s1.trans (same_upd nt)) (new_ne (Same.some s1 c) nt) (s1.free nt) upd_same (dpAll_same (hid_same (same_upd nt)) h1)⟩⟩
end
theorem dqAll_mem {K : PySem.W.Frag} {H : Hp} : ∀ {vs : List V} {ds : List PyData} {v : V}, DpAll K H vs ds → v ∈ vs → ∃ d ∈ ds, Dp K H v d
  | _, _, v, .nil, h => by cases h
  | _, _, v, .cons h hs, m => by
    rcases List.mem_cons.mp m with rfl | m
    · exact ⟨_, List.mem_cons_self .., h⟩
    · obtain ⟨d, hd, q⟩ := dqAll_mem hs m
      exact ⟨d, List.mem_cons_of_mem _ hd, q⟩
theorem dpAll_app {K : PySem.W.Frag} {H : Hp} : ∀ {vs us : List V} {ds es : List PyData}, DpAll K H vs ds → DpAll K H us es → DpAll K H (vs ++ us) (ds ++ es)
  | _, _, _, _, .nil, h => h
  | _, _, _, _, .cons h hs, h2 => .cons h (dpAll_app hs h2)
end Dr
namespace Dr
open PySem PySem.Spec PyProof.Rows L2
def testForms : List Form := [["in", "item", "used"], ["equal", "used", "used"], ["is", "used", "used"]]
def plainForms : List Form := [["new", "assigned", "items"], ["name", "assigned", "used"], ["copy", "assigned", "used"], ["get", "assigned", "owner", "value"], ["set", "owner", "value", "used"], ["add", "used", "items"], ["drop", "used", "items"], ["grow", "owner", "value", "items"], ["shrink", "owner", "value", "items"]]
def branchForms : List Form := [["if", "test", "plain"], ["unless", "test", "plain"]]
def rowForms : List Form := plainForms ++ branchForms
def resultForms : List Form := [["none"], ["box", "used"], ["copy", "used"], ["test", "test"]]
def makingForms : List Form := [["once", "items"], ["early", "kind", "value"]]
theorem test_ok : FmOk ok0 testForms := fmOk_by (by decide +kernel)
theorem plain_ok : FmOk ok0 plainForms := fmOk_by (by decide +kernel)
theorem making_ok : FmOk ok0 makingForms := fmOk_by (by decide +kernel)
def S1 (d : PyData) (z : Str) : Bool := if z = "test" then hasForm S0 d testForms else if z = "plain" then hasForm S0 d plainForms else S0 d z
def okA (_ : Str) : Prop := True
def fmLenB (fs : List Form) : Bool := fs.all fun f => decide (1 ≤ f.length) && f.all fun z => SeqAt.shaped (.str z)
theorem fmAll_by {fs : List Form} (h : fmLenB fs = true) : FmOk okA fs := by
  have q := List.all_eq_true.mp h
  refine ⟨fun f hf => ?_, fun f hf z hz => trivial⟩
  have := q f hf
  rw [Bool.and_eq_true] at this
  exact ⟨of_decide_eq_true this.1, fun z hz => List.all_eq_true.mp this.2 z hz⟩
theorem row_ok : FmOk okA rowForms := fmAll_by (by decide +kernel)
theorem branch_ok : FmOk okA branchForms := fmAll_by (by decide +kernel)
theorem result_ok : FmOk okA resultForms := fmAll_by (by decide +kernel)
/-- a module's name of forms -/
structure FmG (K : PySem.W.Frag) (mg : Str → Option Value) (x : Str) (fs : List Form) : Prop where
  ex : ∃ a, mg x = some (.ref a) ∧ Fms K a fs
section
variable {P : Program} {w : World} {K : PySem.W.Frag} {mg : Str → Option Value} {base : Heap}
theorem ok_sort1 {k : Nat} {f fI fO fN fH : Addr} {fd fdI fdO fdN fdH : FuncData} (F : Fun K "is_of_sort" "is_of_sort" sIsSort f fd) (TT : FmG K mg "TESTS" testForms) (TP : FmG K mg "PLAIN_ROWS" plainForms)
    (GI : FnOk P w K mg base CX0 2 fI fdI ["thing"] (spAsk K isItemsD)) (mI : mg "is_items" = some (.ref fI)) (kI : PySem.W.keepIn K (.ref fI) = true) (bI : Binds K fdI ["thing"] [])
    (GO : FnOk P w K mg base CX0 2 fO fdO ["thing"] (spAsk K isOwnerD)) (mO : mg "is_owner" = some (.ref fO)) (kO : PySem.W.keepIn K (.ref fO) = true) (bO : Binds K fdO ["thing"] [])
    (GN : FnOk P w K mg base CX0 1 fN fdN ["thing"] (spAsk K isNameD)) (mN : mg "is_name" = some (.ref fN)) (kN : PySem.W.keepIn K (.ref fN) = true) (bN : Binds K fdN ["thing"] [])
    (GH : FnOk P w K mg base CX0 k fH fdH ["thing", "forms"] (spHas K S0 ok0)) (mH : mg "has_form" = some (.ref fH)) (kH : PySem.W.keepIn K (.ref fH) = true) (bH : Binds K fdH ["thing", "forms"] []) (hk : 2 ≤ k) :
    FnOk P w K mg base CX0 (k + 1) f fd ["part", "sort"] (spSort K S1 okA) := by
  obtain ⟨aT, mT, fT⟩ := TT.ex
  obtain ⟨aP, mP, fP⟩ := TP.ex
  refine F.ok scIsSort (fun vs H Q E h => ?_) (fun cdv A outer s H vs Q E hr h => ?_)
  · obtain ⟨v, d, z, rfl, _⟩ := h
    rfl
  · obtain ⟨v, d, z, rfl, hd, hok, _, q⟩ := h
    have hr2 : Room 2 _ := hr.mono (by omega)
    refine ⟨_, pss_cons (ps_if (pt_cmpR op_eq (pv 1) pe_str (nomark _)) (pss_one (ps_ret (pe_call GI hr2 (by rfl) mI kI bI .nil pass0 (pa_cons (pv 0) pa_nil)))) pss_nil)
      (pss_cons (ps_if (pt_cmpR op_eq (pv 1) pe_str (nomark _)) (pss_one (ps_ret (pe_call GO hr2 (by rfl) mO kO bO .nil pass0 (pa_cons (pv 0) pa_nil)))) pss_nil)
      (pss_cons (ps_if (pt_cmpR op_eq (pv 1) pe_str (nomark _)) (pss_one (ps_ret (pe_call GH hr (by rfl) mH kH bH .nil pass0 (pa_cons (pv 0) (pa_cons (pe_glob (v := .ref aT) (by rfl) mT rfl) pa_nil))))) pss_nil)
      (pss_cons (ps_if (pt_cmpR op_eq (pv 1) pe_str (nomark _)) (pss_one (ps_ret (pe_call GH hr (by rfl) mH kH bH .nil pass0 (pa_cons (pv 0) (pa_cons (pe_glob (v := .ref aP) (by rfl) mP rfl) pa_nil))))) pss_nil)
      (pss_one (ps_ret (pe_call GN (hr.mono (by omega)) (by rfl) mN kN bN .nil pass0 (pa_cons (pv 0) pa_nil))))))), ?_⟩
    have inj : ∀ {a b : Str}, decide (V.str a = V.str b) = true → a = b := fun h => V.str.inj (of_decide_eq_true h)
    have ninj : ∀ {a b : Str}, ¬ decide (V.str a = V.str b) = true → a ≠ b := fun h e => h (decide_eq_true (by rw [e]))
    refine ⟨_, rfl, rfl, _, rfl, ite2 (fun k => ?_) (fun k => ?_)⟩
    · obtain rfl := inj k
      have e : S1 d "items" = isItemsD d := by
        unfold S1
        rw [if_neg (by decide +kernel), if_neg (by decide +kernel)]
        exact if_pos rfl
      rw [e] at q
      exact ⟨v, rfl, v, d, rfl, hd, hok, q⟩
    · have k1 := ninj k
      refine ⟨_, rfl, rfl, _, rfl, ite2 (fun k => ?_) (fun k => ?_)⟩
      · obtain rfl := inj k
        have e : S1 d "owner" = isOwnerD d := by
          unfold S1
          rw [if_neg (by decide +kernel), if_neg (by decide +kernel)]
          unfold S0
          rw [if_neg (by decide +kernel), if_pos rfl]
        rw [e] at q
        exact ⟨v, rfl, v, d, rfl, hd, hok, q⟩
      · have k2 := ninj k
        refine ⟨_, rfl, rfl, _, rfl, ite2 (fun k => ?_) (fun k => ?_)⟩
        · obtain rfl := inj k
          have e : S1 d "test" = hasForm S0 d testForms := if_pos rfl
          rw [e] at q
          exact ⟨v, rfl, v, d, aT, testForms, rfl, hd, hok, fT, test_ok.toD, q⟩
        · have k3 := ninj k
          refine ⟨_, rfl, rfl, _, rfl, ite2 (fun k => ?_) (fun k => ?_)⟩
          · obtain rfl := inj k
            have e : S1 d "plain" = hasForm S0 d plainForms := by
              unfold S1
              rw [if_neg (by decide +kernel), if_pos rfl]
            rw [e] at q
            exact ⟨v, rfl, v, d, aP, plainForms, rfl, hd, hok, fP, plain_ok.toD, q⟩
          · have k4 := ninj k
            have e : S1 d z = isNameD d := by
              unfold S1 S0
              rw [if_neg k3, if_neg k4, if_neg k1, if_neg k2]
            rw [e] at q
            exact ⟨v, rfl, v, d, rfl, hd, hok, q⟩
end
end Dr
namespace Dr
open PySem PySem.Spec PyProof.Rows L2
/-- what a def does that is called with keywords -/
abbrev SpK := List V → List V → Hp → VK → XK → Prop
def FnK (P : Program) (w : World) (K : PySem.W.Frag) (mg : Str → Option Value) (base : Heap) (CX : CXT) (k : Nat) (f : Addr) (ks : List Str) (sp : SpK) : Prop :=
  ∀ (A : Around) (outer : List Env) (s : Shared) (H : Hp) (us ws : List Value) (vs zs : List V) (Q : VK) (E : XK), Room k A → Env0 P w K mg base A outer s H → Vals vs us → Vals zs ws → zs.length = ks.length → sp vs zs H Q E →
    codeAny (model P w) A (.call (.ref f) ⟨us, ks.zip ws⟩) (CR CX outer P w H s Q E) s
section
variable {P : Program} {w : World} {K : PySem.W.Frag} {mg : Str → Option Value} {base : Heap} {CX : CXT} {k n : Nat} {f : Addr} {fd : FuncData} {ps ks : List Str} {sp : Sp} {spk spk' : SpK} {g : List Value → List Value → List Value} {gV : List V → List V → List V}
theorem FnK.of (F : FnOk P w K mg base CX k f fd ps sp) (hb : KBn K fd ps n ks g gV) : FnK P w K mg base CX k f ks (fun vs zs H Q E => vs.length = n ∧ sp (gV vs zs) H Q E) := fun A outer s H us ws vs zs Q E hr e0 r1 r2 l2 ⟨l1, h⟩ =>
  F.run A outer s H ⟨us, ks.zip ws⟩ (g us ws) _ Q E hr e0 (hb.to s us ws (e0.mod.kin.keeps fun b o e => (e0.bs b o e).1) (r1.length.symm.trans l1) (r2.length.symm.trans l2)) (hb.rel r1 r2) h
theorem FnK.imp (F : FnK P w K mg base CX k f ks spk) (i : ∀ vs zs H Q E, spk' vs zs H Q E → spk vs zs H Q E) : FnK P w K mg base CX k f ks spk' := fun A outer s H us ws vs zs Q E hr e0 r1 r2 l2 h => F A outer s H us ws vs zs Q E hr e0 r1 r2 l2 (i _ _ _ _ _ h)
theorem FnK.mono {j : Nat} (F : FnK P w K mg base CX j f ks spk) (h : j ≤ k) : FnK P w K mg base CX k f ks spk := fun A outer s H us ws vs zs Q E hr => F A outer s H us ws vs zs Q E (hr.mono h)
end
section
variable {CX : CXT} {P : Program} {w : World} {K : PySem.W.Frag} {mg : Str → Option Value} {base : Heap} {k n : Nat} {f : Addr} {name qual : Str} {params : Arguments} {body : List Stmt} {scope : Scope} {dV kV doc pm cdv ct oc : Value} {an od : Option Addr}
  {osl : Array (Option Value)} {N ps ks : List Str} {sp : Sp} {g : {α : Type} → List α → List α → List α}
/-- def f(a, .., *v, k = d, ..) -/
theorem fn_starK {pv : Str} (lk : K.lookup f = some ⟨oc, od, .func (PySem.W.fnOf name qual params body scope dV kV doc pm an cdv ct), osl⟩) (hcd : PySem.W.codeIn K cdv qual = true) (S : FnScope N (ps ++ [pv]) scope) (hCX : StX.CXUp CX)
    (hg : ∀ {α : Type} (xs ys : List α), xs.length = n → ys.length = ks.length → (g xs ys).length = ps.length) (hr0 : ∀ {vs zs : List V} {us ws : List Value}, Vals vs us → Vals zs ws → Vals (g vs zs) (g us ws))
    (hb : ∀ us rest ws : List Value, us.length = n → ws.length = ks.length → ∀ {M : Model} {A : Around} {E : Value → Shared → Prop} {s : Shared} {Q : List (Str × Value) → Shared → Prop}, K.In s.heap → wpAny M A (newTuple rest) (fun t s' => Q (ps.zip (g us ws) ++ [(pv, t)]) s') E s →
      wpAny M A (bindArgs (PySem.W.fnOf name qual params body scope dV kV doc pm an cdv ct) ⟨us ++ rest, ks.zip ws⟩) Q E s)
    (hbody : ∀ (A : Around) (outer : List Env) (s : Shared) (H : Hp) (vs : List V) (Q : VK) (E : XK), Room k (A.deeper (envOfC qual scope s.heap.objs.size f cdv)) → sp vs H Q E →
      ∃ t, PSs (cxOf CX P w K mg base N qual scope f cdv A outer s H E) body t ∧ t { nx := fun _ H' => Q .non H', rt := Q } (start N vs) H) :
    FnK P w K mg base CX (k + 1) f ks (fun vs zs H Q E => ∃ xs rest, vs = xs ++ rest ∧ xs.length = n ∧ rest.length ≤ sizeLine ∧ ∀ p, H p = Option.none → sp (g xs zs ++ [V.ref p]) (upd H p (.tup rest)) Q E) := by
  intro A outer s H us ws vs zs Q E hr e0 r rz lz hsp
  obtain ⟨xs, rest, ev, hl, hz, hq⟩ := hsp
  subst ev
  obtain ⟨u1, u2, eu, r1, r2⟩ := StX.vals_split r
  subst eu
  have hn : H s.heap.objs.size = Option.none := e0.hok.fresh (Nat.le_refl _)
  have hl1 : u1.length = n := by rw [← r1.length]; exact hl
  have hlw : ws.length = ks.length := by rw [← rz.length]; exact lz
  have hl2 : u2.length ≤ sizeLine := by rw [← r2.length]; exact hz
  have KX : K.In s.heap := e0.mod.kin.keeps fun b o e => (e0.bs b o e).1
  refine StX.run_bnd lk hcd S hr e0 (G := fun ys H2 => ∃ p, H p = Option.none ∧ ys = g xs zs ++ [V.ref p] ∧ H2 = upd H p (.tup rest)) (fun A' Ex Q' h => ?_) fun s2 H2 ys ⟨p, hp, ex, eH⟩ hr' => ?_
  · refine hb u1 u2 ws hl1 hlw KX (wpAny_newTuple ?_ hl2)
    have new : ObjOk P w (upd H s.heap.objs.size (.tup rest)) (s.heap.push ({ cls := .type "tuple", data := .seq u2.toArray } : Obj)) s.heap.objs.size (.tup rest) := ⟨hz, u2, r2, ⟨_, Heap.get?_push_size _ rfl, rfl, _, rfl⟩⟩
    have un := StX.un_laid (fs := frs outer) (s := s) (o := ({ cls := .type "tuple", data := .seq u2.toArray } : Obj)) (u := .tup rest) hn
    have z := h _ _ (g xs zs ++ [V.ref s.heap.objs.size]) (g u1 ws ++ [Value.ref s.heap.objs.size]) (StX.env0_laid e0 new) un rfl (fun e s' => hCX outer s H _ _ E e s' un (fun b o q => Heap.get?_push_of_some _ q) rfl) ((hr0 r1 rz).append (.cons rfl .nil))
      (by rw [List.length_append, List.length_append, hg xs zs hl lz] <;> rfl) ⟨_, hn, rfl, rfl⟩
    rw [List.zip_append (hg u1 ws hl1 hlw).symm] at z
    exact z
  · subst ex eH
    exact hbody A outer s2 _ _ Q E hr' (hq p hp)
end
section
variable {M : Model} {A : Around} {E : Value → Shared → Prop} {s : Shared} {K : PySem.W.Frag} {env : Env} {pos : Pos} {f : Value} {first : List Value} {Q : Value → Shared → Prop} {e : Expr} {rest : List Expr} {kws : List Keyword}
theorem ks_callK {P : Heap → Prop} {args : List (Bool × Sem Value)} {keywords : List (Option Str × Sem Value)} (hst : args.any (·.1) = true)
    (hk : ∀ h, P h → ∃ k, (k = Keeper.frame ∨ k = Keeper.machine ∨ k = Keeper.boundFrame) ∧ PySem.W.Looks M h (keeperOf f) k)
    (h : wpAny M A (evalArgs f true args keywords) (fun a s₁ => P s₁.heap ∧ wpAny M A (call f (first ++ a.pos) a.kw) Q E s₁) E s) : wpAny M A (callWith pos f first args keywords) Q E s := by
  unfold callWith
  refine wpAny_bind (wpAny_holding (wpAny_mono h (fun a s₁ h₁ => wpAny_bind (wpAny_standAt ?_)) fun _ _ x => x))
  obtain ⟨k, hk', L⟩ := hk _ h₁.1
  simp only [hst, Bool.true_or]
  refine wpAny_bind (L.here ?_)
  have tail : ∀ {t : Sem Value}, wpAny M A t Q E s₁ → wpAny M A (t >>= fun r => holding [r] point >>= fun _ => pure r) Q E s₁ :=
    fun ht => wpAny_bind (wpAny_mono ht (fun r s₂ hr => wpAny_bind (wpAny_holding (wpAny_point (wpAny_pure hr)))) fun _ _ x => x)
  have marked (mk : Value) : wpAny M A (callMarked mk f (first ++ a.pos) a.kw) Q E s₁ := by unfold callMarked; exact Calls.wpAny_keep h₁.2
  rcases hk' with rfl | rfl | rfl <;> dsimp only <;> first | exact tail (marked _) | exact tail (wpAny_operating h₁.2)
theorem callWith_SKW (hk : PySem.W.keepIn K f = true) (hall : (backToKw pos (keywordEach kws env)).all (·.1.isSome) = true)
    (h : wpAny M A (spliced (backTo pos (starEach (e :: rest) env))) (fun vs s₁ => wpAny M A (evalAll ((backToKw pos (keywordEach kws env)).map (·.2)))
      (fun ks s₂ => K.In s₂.heap ∧ wpAny M A (call f (first ++ vs) (((backToKw pos (keywordEach kws env)).filterMap (·.1)).zip ks)) Q E s₂) E s₁) E s)
    (hst : (backTo pos (starEach (e :: rest) env)).any (·.1) = true) (he : starEach (e :: rest) env = (false, eval e env) :: starEach rest env) :
    wpAny M A (callWith pos f first (backTo pos (starEach (e :: rest) env)) (backToKw pos (keywordEach kws env))) Q E s :=
  ks_callK hst (PySem.W.keeps_K hk) (evalArgs_kw2 hall h he)
theorem callWith_MKW {q g : Addr} {self : Value} (hf : PySem.W.fnIn K g = true) (hall : (backToKw pos (keywordEach kws env)).all (·.1.isSome) = true)
    (h : wpAny M A (spliced (backTo pos (starEach (e :: rest) env))) (fun vs s₁ => wpAny M A (evalAll ((backToKw pos (keywordEach kws env)).map (·.2)))
      (fun ks s₂ => PySem.W.MethP K q g self s₂.heap ∧ wpAny M A (call (.ref q) (first ++ vs) (((backToKw pos (keywordEach kws env)).filterMap (·.1)).zip ks)) Q E s₂) E s₁) E s)
    (hpl : ((backTo pos (starEach (e :: rest) env)).any (·.1) || (backToKw pos (keywordEach kws env)).any (·.1.isNone)) = false) (he : starEach (e :: rest) env = (false, eval e env) :: starEach rest env) :
    wpAny M A (callWith pos (.ref q) first (backTo pos (starEach (e :: rest) env)) (backToKw pos (keywordEach kws env))) Q E s :=
  PySem.W.callWith_of hpl (PySem.W.keeps_M hf) (evalArgs_kw2 hall h he)
end
section
variable {X : Cx} {pins : List (Addr × Obj)} {σ : L2.St} {H : Hp} {s : Shared} {CX : CXT} {k : Nat} {f C g : Addr} {ks : List Str} {sp : SpK} {E : XK} {Q : VK} {us ws : List Value} {vs zs : List V}
theorem run_fnK (F : FnK X.prog X.w X.K X.mg X.base CX k f ks sp) (hr : Room k X.A) (hx : PassesAt CX X σ E) (I : Inv X pins σ H s) (r : Vals vs us) (rz : Vals zs ws) (lz : zs.length = ks.length) (h : sp vs zs H Q E) :
    codeAny (model X.prog X.w) X.A (.call (.ref f) ⟨us, ks.zip ws⟩) (fun r s' => match r with | .ok (.ret v) => EP X pins σ Q v s' | .ok _ => False | .error e => X.xe e s') s := by
  refine codeAny_mono (F X.A X.stack s H us ws vs zs Q E hr I.env0 r rz lz h) fun r s' hq => ?_
  cases r with
  | error e => exact hx pins H s e s' I hq
  | ok fl =>
    cases fl with
    | ret u => exact I.after hq
    | next => exact False.elim hq
    | brk => exact False.elim hq
    | cont => exact False.elim hq
/-- C(..) with keywords, C's __init__ told by FnK -/
theorem run_makeSK (M : Mk X.K C f) (F : FnK X.prog X.w X.K X.mg X.base CX k f ks sp) (hr : Room (k + 1) X.A) (hx : PassesAt CX X σ E) (I : Inv X pins σ H s) (r : Vals vs us) (rz : Vals zs ws) (lz : zs.length = ks.length)
    (h : ∀ x dx, H x = none → H dx = none → dx ≠ x → sp (.ref x :: vs) zs (upd (upd H dx (.own x)) x (.ins C dx [])) (fun v H3 => v = .non ∧ Q (.ref x) H3) E) :
    wpAny (model X.prog X.w) X.A (call (.ref C) us (ks.zip ws)) (EP X pins σ Q) X.xe s := by
  have hq := h (s.heap.objs.size + 1) s.heap.objs.size (I.hok.fresh (Nat.le_succ _)) (I.hok.fresh (Nat.le_refl _)) (Nat.ne_of_lt (Nat.lt_succ_self _))
  have I2 := Inv.made (C := C) I
  refine wpAny_call (make_map (f := f) I.kIn M.makes M.init (beq_iff_eq.mp M.fn) (codeAny_mono (F _ X.stack _ _ (Value.ref (s.heap.objs.size + 1) :: us) ws (V.ref (s.heap.objs.size + 1) :: vs) zs _ E (hr.make C us (ks.zip ws))
    (I2.env0.make C us (ks.zip ws)) (.cons rfl r) rz lz hq) fun r s' hq' => ?_))
  cases r with
  | error e => exact hx pins _ _ e s' I2 hq'
  | ok fl =>
    cases fl with
    | ret u =>
      obtain ⟨v, H', I3, rv, ev, q3⟩ := I2.after hq'
      subst ev
      exact ⟨rv, ⟨V.ref (s.heap.objs.size + 1), H', I3, rfl, q3⟩⟩
    | next => exact False.elim hq'
    | brk => exact False.elim hq'
    | cont => exact False.elim hq'
end
/-- cls(e, *y, k = v, ..): a new instance of the class that a local name holds -/
def tMkSK (C : Addr) (m : Nat) (sp : SpK) (E : L2.St → XK) (tf : TE) (t tk : TA) : TE := fun σ H Q => tf σ H fun y H0 => y = .ref C ∧ t σ H0 fun vs H1 => tk σ H1 fun zs H2 => zs.length = m ∧ ∀ x dx, H2 x = none → H2 dx = none → dx ≠ x →
  sp (.ref x :: vs) zs (upd (upd H2 dx (.own x)) x (.ins C dx [])) (fun v H3 => v = .non ∧ Q (.ref x) H3) (E σ)
/-- C.m(e, .., k = v, ..), C a class of the module, m a classmethod -/
def tCMethK (C : Addr) (m : Nat) (sp : SpK) (E : L2.St → XK) (ta : TE) (t tk : TA) : TE := fun σ H Q => ta σ H fun x H1 => x = .ref C ∧ t σ H1 fun vs H2 => tk σ H2 fun zs H3 => zs.length = m ∧ sp (.ref C :: vs) zs H3 Q (E σ)
section
variable {X : Cx} {CX : CXT} {k : Nat} {f C g p : Addr} {mc : Value} {ks : List Str} {sp : SpK} {E : L2.St → XK} {x m : Str} {np pos apos : Pos} {e o : Expr} {es : List Expr} {kws : List Keyword} {tf ta : TE} {t tk : TA} {pl : Sem Bool}
theorem pe_clsSK (M : Mk X.K C f) (F : FnK X.prog X.w X.K X.mg X.base CX k f ks sp) (hr : Room (k + 1) X.A) (hf : PE X (.Name x np) tf) (hx : ∀ σ, PassesAt CX X σ (E σ)) (ha : PA X (e :: es) t) (hkw : PK X kws tk)
    (hall : (backToKw pos (keywordEach kws X.env)).all (·.1.isSome) = true := by rfl) (hks : (backToKw pos (keywordEach kws X.env)).filterMap (·.1) = ks := by rfl)
    (he : starEach (e :: es) X.env = (false, eval e X.env) :: starEach es X.env := by rfl) (hst : (backTo pos (starEach (e :: es) X.env)).any (·.1) = true := by rfl) :
    PE X (.Call (.Name x np) (e :: es) kws pos) (tMkSK C ks.length sp E tf t tk) := by
  refine ⟨fun pins s σ H Q I h => ?_⟩
  refine wpAny_Call_Name_kw (thn (hf.run pins s σ H _ I h) fun u s0 ⟨y, H0, I0, ry, ey, q0⟩ => ?_)
  subst ey
  obtain rfl : u = Value.ref C := ry
  refine callWith_SKW (K := X.K) M.kp hall (thn (ha.run pos pins s0 σ H0 _ I0 q0) fun us s1 ⟨vs, H1, I1, r, q1⟩ => ?_) hst he
  refine thn (hkw.run pos pins s1 σ H1 _ I1 q1) fun ws s2 ⟨zs, H2, I2, rz, lz, q2⟩ => ⟨I2.kIn, ?_⟩
  rw [hks]
  exact run_makeSK M F hr (hx σ) I2 r rz lz q2
theorem pe_cmethK (he : PE X o ta) (r : ClX.CRead X.K C mc) (c : ClX.CMet X.K C mc m p g) (F : FnK X.prog X.w X.K X.mg X.base CX k g ks sp) (hr : Room k X.A) (hx : ∀ σ, PassesAt CX X σ (E σ)) (ha : PA X (e :: es) t) (hkw : PK X kws tk)
    (hall : (backToKw pos (keywordEach kws X.env)).all (·.1.isSome) = true := by rfl) (hks : (backToKw pos (keywordEach kws X.env)).filterMap (·.1) = ks := by rfl)
    (hst : starEach (e :: es) X.env = (false, eval e X.env) :: starEach es X.env := by rfl) (hpl : ((backTo pos (starEach (e :: es) X.env)).any (·.1) || (backToKw pos (keywordEach kws X.env)).any (·.1.isNone)) = false := by rfl)
    (ht : eval (.Call (.Attribute o m apos) (e :: es) kws pos) X.env = (do
      let ov ← eval o X.env
      standAt apos.atName
      let (f, first) ← holding [ov] (getMethod ov m pl)
      callWith pos f first (backTo pos (starEach (e :: es) X.env)) (backToKw pos (keywordEach kws X.env))) := by rfl) :
    PE X (.Call (.Attribute o m apos) (e :: es) kws pos) (tCMethK C ks.length sp E ta t tk) := by
  refine ⟨fun pins s σ H Q I h => ?_⟩
  refine PySem.W.methodCall_KW (pl := pl) (thn (he.run pins s σ H _ I h) fun u s1 ⟨x, H1, I1, rx, ex, q⟩ => ?_) ht
  subst ex
  obtain rfl : u = Value.ref C := rx
  refine ClX.getmethcm_ok I1 r c fun s2 I2 => ?_
  refine callWith_MKW (K := X.K) (self := .ref C) c.fi hall (thn (ha.run pos _ s2 σ H1 _ I2 q) fun us s3 ⟨vs, H2, I3, rv, q2⟩ => ?_) hpl hst
  refine thn (hkw.run pos _ s3 σ H2 _ I3 q2) fun ws s4 ⟨zs, H3, I4, rz, lz, q3⟩ => ⟨⟨ClX.pin_at I4, I4.kIn⟩, ?_⟩
  rw [hks]
  have z : wpAny (model X.prog X.w) X.A (call (.ref s1.heap.objs.size) us (ks.zip ws)) (EP X ((s1.heap.objs.size, PySem.W.methodObj (.ref g) (.ref C)) :: pins) σ Q) X.xe s4 :=
    wpAny_call (PySem.W.method_call (ClX.pin_at I4) (run_fnK (us := .ref C :: us) (vs := .ref C :: vs) F hr (hx σ) I4 (.cons rfl rv) rz lz q3))
  exact thn z fun _ _ y => ClX.unpinE y
end
end Dr
namespace Dr
open PySem PySem.Spec PyProof.Rows L2
abbrev sAgain : Stmt := topS 15
theorem scAgain : FnScope ["names", "taken", "at", "name"] ["names", "taken"] (defScope sAgain) := ⟨rfl, rfl, rfl, by decide +kernel, rfl, by decide +kernel, by decide +kernel⟩
/-- the name at j is new -/
def NewAt (us zs : List Str) (j : Nat) : Prop := ∀ y, zs[j]? = some y → y ∉ us ∧ y ∉ zs.take j
theorem cut_take (xs : List V) (i : Nat) (hi : i ≤ xs.length) : cutV xs none (some (i : Int)) = xs.take i := by
  unfold cutV
  rw [show HT.sIx xs.length xs.length (some (i : Int)) = min i xs.length from HT.sIx_nat _ _ i, HT.sIx_none]
  rw [List.drop_zero, Nat.min_eq_left hi]
  simp
section
variable {P : Program} {w : World} {K : PySem.W.Frag} {mg : Str → Option Value} {base : Heap}
def spAgain (K : PySem.W.Frag) : Sp := fun vs H Q _ => ∃ (a t : Addr) (zs us : List Str), vs = [.ref a, .ref t] ∧ SqL K H a (zs.map V.str) ∧ (SqL K H t (us.map V.str) ∨ SqT K H t (us.map V.str)) ∧ zs.length ≤ 1000 ∧
  (∀ H', Same H H' → (∀ j, NewAt us zs j) → Q .non H') ∧ ∀ H' i z, Same H H' → zs[i]? = some z → (z ∈ us ∨ z ∈ zs.take i) → (∀ j, j < i → NewAt us zs j) → Q (.str z) H'
theorem Same.seqE {H H' : Hp} {a : Addr} {xs : List V} (s : Same H H') (h : SqL K H a xs ∨ SqT K H a xs) : SqL K H' a xs ∨ SqT K H' a xs := h.imp (fun h => s.seq h) (fun h => Same.seqT s h)
theorem ok_again {f : Addr} {fd : FuncData} (F : Fun K "first_again" "first_again" sAgain f fd) (hen : mg "enumerate" = none) : FnOk P w K mg base CX0 1 f fd ["names", "taken"] (spAgain K) := by
  refine F.ok scAgain (fun vs H Q E h => ?_) (fun cdv A outer s H vs Q E hr h => ?_)
  · obtain ⟨a, t, zs, us, rfl, _⟩ := h
    rfl
  · obtain ⟨a, t, zs, us, rfl, hS, hT, hz, q0, q1⟩ := h
    refine ⟨_, pss_cons (ps_for PassesOwn.never rfl (pi_enum (by rfl) hen (pa_cons (pv 0) pa_nil)) (pg_tup rfl (pgs_cons (pg_name (i := 2) scAgain.nd rfl (.inl rfl)) (pgs_cons (pg_name (i := 3) scAgain.nd rfl (.inl rfl)) pgs_nil)))
        (pss_one (ps_if (PW.pt (pw_or (pt_cmpR op_in_seq (pv 3) (pv 1) rfl) (pw_or1 (pt_cmpR op_in_seq (pv 3) (pe_slice sl_list (pv 0) po_none (po_some (pv 2))) rfl)))) (pss_one (ps_ret (pv 3))) pss_nil)))
      (pss_one (ps_ret pe_non)), ?_⟩
    refine ⟨_, rfl, a, zs.map V.str, rfl, hS, for_it walk_enum (fun i σ H1 => Same H H1 ∧ (∃ x y : Option V, σ = [some (.ref a), some (.ref t), x, y]) ∧ ∀ j, j < i → NewAt us zs j) ⟨Same.refl _, ⟨_, _, rfl⟩, fun j h => absurd h (Nat.not_lt_zero j)⟩ (fun n σ H1 _ h => h.1.seq hS) ?_ ?_⟩
    · rintro n y σ H1 H2 hn ⟨sm, ⟨x5, x6, rfl⟩, hall⟩ ⟨T', x, e, rfl, nT, rfl, e1, e2⟩
      rw [List.length_map] at hn
      obtain rfl := Option.some.inj e1
      have e2 := (show (zs.map V.str)[n]? = some _ from e2)
      rw [List.getElem?_map, List.getElem?_eq_getElem hn] at e2
      obtain rfl := Option.some.inj e2
      have hg : zs[n]? = some zs[n] := List.getElem?_eq_getElem hn
      have sT : Same H1 (upd H1 T' (.tup [.int (n : Int), .str zs[n]])) := same_upd nT
      have s2 := sm.trans sT
      refine ⟨T', _, rfl, .inl (.inl upd_same), rfl, _, _, rfl, _, _, rfl, rfl, ?_⟩
      have fresh : zs[n] ∉ us → zs[n] ∉ zs.take n → ∀ j, j < n + 1 → NewAt us zs j := fun h1 h2 j hj y hy => by
        by_cases e : j < n
        · exact hall j e y hy
        · obtain rfl : j = n := by omega
          rw [hg] at hy
          obtain rfl := Option.some.inj hy
          exact ⟨h1, h2⟩
      refine ⟨_, rfl, _, rfl, t, _, rfl, Same.seqE s2 hT, rfl, flat_strs _, _, rfl, ?_⟩
      rw [show inV (V.str zs[n]) (us.map V.str) = us.contains zs[n] from in_strs _ _]
      refine ite2 (fun k => ?_) (fun k => ?_)
      · exact ⟨_, rfl, q1 _ n _ s2 hg (.inl (by simpa using k)) hall⟩
      · refine ⟨_, rfl, _, rfl, _, rfl, (n : Int), rfl, a, zs.map V.str, rfl, s2.seq hS, fun l nl => ?_⟩
        rw [cut_take _ n (by rw [List.length_map]; omega), ← List.map_take]
        have sl := same_upd (o := .lst ((zs.take n).map V.str)) nl
        refine ⟨l, _, rfl, .inl (SqL.of upd_same), rfl, flat_strs _, _, rfl, ?_⟩
        rw [show inV (V.str zs[n]) ((zs.take n).map V.str) = (zs.take n).contains zs[n] from in_strs _ _]
        refine ite2 (fun k2 => ?_) (fun k2 => ?_)
        · exact ⟨_, rfl, q1 _ n _ (s2.trans sl) hg (.inr (by simpa using k2)) hall⟩
        · exact ⟨s2.trans sl, ⟨_, _, rfl⟩, fresh (by simpa using k) (by simpa using k2)⟩
    · rintro σ H1 ⟨sm, ⟨x5, x6, rfl⟩, hall⟩
      refine q0 _ sm fun j y hy => ?_
      have hj : j < zs.length := (List.getElem?_eq_some_iff.mp hy).1
      exact hall j (by rw [List.length_map]; exact hj) y hy
end
end Dr
namespace Dr
open PySem PySem.Spec PyProof.Rows L2
abbrev sParts : Stmt := topS 28
theorem scParts : FnScope ["thing", "forms", "form", "found", "part", "sort"] ["thing", "forms"] (defScope sParts) := ⟨rfl, rfl, rfl, by decide +kernel, rfl, by decide +kernel, by decide +kernel⟩
/-- pairs of a sort and a part stand at ts -/
def PtsAt (H : Hp) (ts : List Addr) (zs : List Str) (vs : List V) : Prop := ∀ (i : Nat) (t : Addr), ts[i]? = some t → ∃ z v, zs[i]? = some z ∧ vs[i]? = some v ∧ H t = some (.tup [.str z, v])
theorem PtsAt.same {H H' : Hp} {ts : List Addr} {zs : List Str} {vs : List V} (h : PtsAt H ts zs vs) (s : Same H H') : PtsAt H' ts zs vs := fun i t e => by
  obtain ⟨z, v, e1, e2, e3⟩ := h i t e
  exact ⟨z, v, e1, e2, s _ _ e3⟩
theorem PtsAt.nil {H : Hp} {zs : List Str} {vs : List V} : PtsAt H [] zs vs := fun i t e => by simp at e
theorem PtsAt.snoc {H : Hp} {ts : List Addr} {zs : List Str} {vs : List V} {t : Addr} {z : Str} {v : V} {n : Nat} (h : PtsAt H ts zs vs) (hn : ts.length = n) (e1 : zs[n]? = some z) (e2 : vs[n]? = some v) (e3 : H t = some (.tup [.str z, v])) : PtsAt H (ts ++ [t]) zs vs := fun i u e => by
  by_cases hi : i < ts.length
  · rw [List.getElem?_append_left hi] at e
    exact h i u e
  · rw [List.getElem?_append_right (by omega)] at e
    have : i - ts.length = 0 := by
      by_cases h0 : i - ts.length = 0
      · exact h0
      · rw [List.getElem?_eq_none (by show 1 ≤ _; omega)] at e
        cases e
    rw [this] at e
    obtain rfl := Option.some.inj e
    obtain rfl : i = n := by omega
    exact ⟨z, v, e1, e2, e3⟩
theorem PtsAt.grow {H : Hp} {ts : List Addr} {zs : List Str} {vs us ys : List V} {l : Addr} (h : PtsAt H ts zs vs) (hl : H l = some (.lst us)) : PtsAt (upd H l (.lst ys)) ts zs vs := fun i t e => by
  obtain ⟨z, v, e1, e2, e3⟩ := h i t e
  refine ⟨z, v, e1, e2, ?_⟩
  rw [upd_ne (fun z => by rw [z, hl] at e3; cases e3)]
  exact e3
theorem sqT_grow {K : PySem.W.Frag} {H : Hp} {a l : Addr} {xs us ys : List V} (h : SqT K H a xs) (hl : H l = some (.lst us)) : SqT K (upd H l (.lst ys)) a xs := by
  rcases h with (h | ⟨o, h⟩) | h
  · refine .inl (.inl ?_)
    rw [upd_ne (fun z => by rw [z, hl] at h; cases h)]
    exact h
  · refine .inl (.inr ⟨o, ?_⟩)
    rw [upd_ne (fun z => by rw [z, hl] at h; cases h)]
    exact h
  · exact .inr h
theorem same_grow {H H2 : Hp} {l : Addr} {o : HO} (s : Same H H2) (nl : H l = none) : Same H (upd H2 l o) := fun b x e => by
  rw [upd_ne (ne_of_none e nl)]
  exact s _ _ e
theorem two_le : 2 ≤ sizeLine := by decide
section
variable {P : Program} {w : World} {K : PySem.W.Frag} {mg : Str → Option Value} {base : Heap}
def spParts (K : PySem.W.Frag) : Sp := fun vs H Q _ => ∃ (va a : Addr) (xs : List V) (ds : List PyData) (fs : List Form) (fm : Form), vs = [.ref va, .ref a] ∧ SqT K H va xs ∧ DpAll K H xs ds ∧ OkD (.tuple ds) ∧ Fms K a fs ∧ (∀ f ∈ fs, 1 ≤ f.length ∧ ∀ z ∈ f, SeqAt.shaped (.str z) = true) ∧ formOf (.tuple ds) fs = some fm ∧ (∀ z ∈ fm.drop 1, ok0 z) ∧
  ∀ H' l ts, Same H H' → H l = none → H' l = some (.lst (ts.map V.ref)) → ts.length = min (xs.drop 1).length (fm.drop 1).length → PtsAt H' ts (fm.drop 1) (xs.drop 1) → Q (.ref l) H'
theorem ok_parts {f fF : Addr} {fd fdF : FuncData} (F : Fun K "parts_of" "parts_of" sParts f fd) (T : Wds K mg)
    (GF : FnOk P w K mg base CX0 1 fF fdF ["thing", "forms"] (spFormOf K)) (mF : mg "form_of" = some (.ref fF)) (kF : PySem.W.keepIn K (.ref fF) = true) (bF : Binds K fdF ["thing", "forms"] []) :
    FnOk P w K mg base CX0 2 f fd ["thing", "forms"] (spParts K) := by
  refine F.ok scParts (fun vs H Q E h => ?_) (fun cdv A outer s H vs Q E hr h => ?_)
  · obtain ⟨va, a, xs, ds, fs, fm, rfl, _⟩ := h
    rfl
  · obtain ⟨va, a, xs, ds, fs, fm, rfl, hS, hD, hok, hF, hlen, hfm, hok0, q⟩ := h
    refine ⟨_, pss_cons (ps_set (i := 2) scParts.nd rfl (.inl rfl) (pe_call GF hr (by rfl) mF kF bF .nil pass0 (pa_cons (pv 0) (pa_cons (pv 1) pa_nil))))
      (pss_cons (ps_set (i := 3) scParts.nd rfl (.inl rfl) (pe_lst pa_nil))
      (pss_cons (ps_for PassesOwn.never rfl (RZ.pi_zipA (by rfl) T.zip (pa_cons (pe_slice sl_tail (pv 0) (po_some pe_int) po_none) (pa_cons (pe_slice sl_tail (pv 2) (po_some pe_int) po_none) pa_nil)))
          (pg_tup rfl (pgs_cons (pg_name (i := 4) scParts.nd rfl (.inl rfl)) (pgs_cons (pg_name (i := 5) scParts.nd rfl (.inl rfl)) pgs_nil)))
        (pss_one (ps_if (pt_cmpR op_eq (pv 5) pe_str (nomark _)) (pss_one ps_never) (pss_one (ps_if (pt_cmpR op_eq (pv 5) pe_str (nomark _)) (pss_one ps_never)
          (pss_one (ps_expr (pe_bm PySem.F.plainAttrs_list PySem.F.slot_list_append PySem.F.type_list_append mt_append (pv 3) (pa_cons (pe_tup (pa_cons (pv 5) (pa_cons (pv 4) pa_nil))) pa_nil)))))))))
      (pss_one (ps_ret (pv 3))))), ?_⟩
    refine ⟨_, rfl, _, rfl, .ref va, .tuple ds, a, fs, rfl, .tup hS hD, hok, hF, hlen, fun hn => absurd (hfm.symm.trans hn) (by simp), fun fm' b hmem hf hat => ?_⟩
    rw [hfm] at hf
    obtain rfl := Option.some.inj hf
    obtain ⟨hlen1, hoks⟩ := hok.tup
    have hxl := dpAll_len hD
    refine ⟨Nat.zero_le _, fun l nl => ?_⟩
    have sl := same_upd (o := .lst []) nl
    refine ⟨_, rfl, 1, rfl, rfl, rfl, va, xs, rfl, Same.seqT sl hS, fun b1 H1 s1 hb1 => ?_⟩
    refine ⟨_, rfl, 1, rfl, rfl, rfl, b, _, rfl, hat _, fun b2 H2 s2 hb2 => ?_⟩
    rw [← List.map_drop] at hb2
    have hb1' := Same.seqT s2 hb1
    have s12 := (sl.trans s1).trans s2
    have hl2 : H2 l = some (.lst []) := s2 _ _ (s1 _ _ upd_same)
    refine ⟨b1, b2, xs.drop 1, (fm.drop 1).map V.str, rfl, .inr ⟨hb1', hb2, ?_⟩⟩
    refine for_it (walk_zipT rfl) (fun i σ H3 => Same H H3 ∧ (∃ x y, σ = [some (.ref va), some (.ref a), some (.ref b), some (.ref l), x, y]) ∧ SqT K H3 b1 (xs.drop 1) ∧ SqT K H3 b2 ((fm.drop 1).map V.str) ∧ ∃ ts, H3 l = some (.lst (ts.map V.ref)) ∧ ts.length = i ∧ PtsAt H3 ts (fm.drop 1) (xs.drop 1)) ⟨s12, ⟨_, _, rfl⟩, hb1', hb2, [], hl2, rfl, PtsAt.nil⟩ (fun _ _ _ _ h => ⟨h.2.2.1, h.2.2.2.1⟩) ?_ ?_
    · rintro i y σ H3 H4 hi ⟨sm, ⟨x5, x6, rfl⟩, hB1, hB2, ts, hl, hts, hp⟩ ⟨T', x, u, rfl, nT, rfl, e1, e2⟩
      have e1 := (show (xs.drop 1)[i]? = some x from e1)
      have e2 := (show ((fm.drop 1).map V.str)[i]? = some u from e2)
      rw [List.getElem?_map] at e2
      cases hz : (fm.drop 1)[i]? with
      | none =>
        rw [hz] at e2
        cases e2
      | some z =>
        rw [hz] at e2
        obtain rfl := Option.some.inj e2
        have hok := hok0 z (List.mem_of_getElem? hz)
        have sT : Same H3 (upd H3 T' (.tup [x, .str z])) := same_upd nT
        have inj : ∀ {a b : Str}, decide (V.str a = V.str b) = true → a = b := fun h => V.str.inj (of_decide_eq_true h)
        refine ⟨T', _, rfl, .inl (.inl upd_same), rfl, _, _, rfl, _, _, rfl, rfl, ?_⟩
        refine ⟨_, rfl, rfl, _, rfl, ite2 (fun k => absurd (inj k) hok.1) (fun _ => ?_)⟩
        refine ⟨_, rfl, rfl, _, rfl, ite2 (fun k => absurd (inj k) hok.2) (fun _ => ?_)⟩
        have hlT := sT _ _ hl
        have hi2 : i < (xs.drop 1).length := (List.getElem?_eq_some_iff.mp e1).1
        refine ⟨_, rfl, .inl ⟨rfl, _, SqL.of hlT⟩, _, rfl, _, rfl, two_le, fun t nt => ?_⟩
        have st := same_upd (o := .tup [.str z, x]) nt
        have tl : t ≠ l := fun e => by
          rw [e, hlT] at nt
          cases nt
        refine ⟨l, _, _, rfl, rfl, st _ _ hlT, ?_, ?_⟩
        · rw [List.length_map, hts]
          rw [List.length_drop] at hi2
          exact small1000 (by omega)
        · refine ⟨same_grow ((sm.trans sT).trans st) nl, ⟨_, _, rfl⟩, sqT_grow (Same.seqT st (Same.seqT sT hB1)) (st _ _ hlT), sqT_grow (Same.seqT st (Same.seqT sT hB2)) (st _ _ hlT), ts ++ [t], ?_, by rw [List.length_append, hts]; rfl, ?_⟩
          · rw [upd_same, List.map_append]
            rfl
          · refine PtsAt.snoc (((hp.same sT).same st).grow (st _ _ hlT)) hts hz e1 ?_
            rw [upd_ne tl]
            exact upd_same
    · rintro σ H3 ⟨sm, ⟨x5, x6, rfl⟩, hB1, hB2, ts, hl, hts, hp⟩
      refine ⟨_, rfl, q _ l ts sm nl hl ?_ hp⟩
      rw [hts]
      simp
end
end Dr
namespace Dr
open PySem PySem.Spec PyProof.Rows L2
abbrev sUses : Stmt := topS 31
theorem scUses : FnScope ["parts", "usable", "sort", "part"] ["parts", "usable"] (defScope sUses) := ⟨rfl, rfl, rfl, by decide +kernel, rfl, by decide +kernel, by decide +kernel⟩
def usedsB (us : List Str) : List Str → List V → List Bool
  | z :: zs, v :: vs => if z = "used" then inV v (us.map V.str) :: usedsB us zs vs else usedsB us zs vs
  | _, _ => []
theorem usedsB_app (us : List Str) (z : Str) (v : V) : ∀ (zs : List Str) (vs : List V), zs.length = vs.length → usedsB us (zs ++ [z]) (vs ++ [v]) = usedsB us zs vs ++ (if z = "used" then [inV v (us.map V.str)] else [])
  | [], [], _ => by
    show (if z = "used" then inV v (us.map V.str) :: [] else []) = _
    split <;> rfl
  | x :: zs, y :: vs, h => by
    have ih := usedsB_app us z v zs vs (by simpa using h)
    show (if x = "used" then _ :: usedsB us (zs ++ [z]) (vs ++ [v]) else usedsB us (zs ++ [z]) (vs ++ [v])) = (if x = "used" then inV y (us.map V.str) :: usedsB us zs vs else usedsB us zs vs) ++ _
    rw [ih]
    split <;> simp
  | [], _ :: _, h => by simp at h
  | _ :: _, [], h => by simp at h
theorem usedsB_take {us zs : List Str} {vs : List V} {i : Nat} {z : Str} {v : V} (h1 : zs[i]? = some z) (h2 : vs[i]? = some v) : usedsB us (zs.take (i + 1)) (vs.take (i + 1)) = usedsB us (zs.take i) (vs.take i) ++ (if z = "used" then [inV v (us.map V.str)] else []) := by
  have l1 := (List.getElem?_eq_some_iff.mp h1).1
  have l2 := (List.getElem?_eq_some_iff.mp h2).1
  rw [List.take_add_one, h1, List.take_add_one, h2]
  exact usedsB_app us z v _ _ (by rw [List.length_take, List.length_take]; omega)
theorem usedsB_len (us : List Str) : ∀ (zs : List Str) (vs : List V), (usedsB us zs vs).length ≤ zs.length
  | [], _ => Nat.zero_le _
  | _ :: _, [] => Nat.zero_le _
  | z :: zs, v :: vs => by
    have ih := usedsB_len us zs vs
    show (if z = "used" then inV v (us.map V.str) :: usedsB us zs vs else usedsB us zs vs).length ≤ _
    split
    · rw [List.length_cons, List.length_cons]
      omega
    · rw [List.length_cons]
      omega
def usesB (us zs : List Str) (vs : List V) : Bool := (usedsB us zs vs).all id
section
variable {P : Program} {w : World} {K : PySem.W.Frag} {mg : Str → Option Value} {base : Heap}
def spUses (K : PySem.W.Frag) : Sp := fun vs H Q _ => ∃ (a u : Addr) (ts : List Addr) (zs us : List Str) (ps : List V), vs = [.ref a, .ref u] ∧ SqL K H a (ts.map V.ref) ∧ SqL K H u (us.map V.str) ∧ PtsAt H ts zs ps ∧ ts.length = zs.length ∧ ts.length = ps.length ∧ ts.length ≤ 1000 ∧ (∀ (i : Nat) (v : V), zs[i]? = some "used" → ps[i]? = some v → flatV v = true) ∧ ∀ H', Same H H' → Q (.bl (usesB us zs ps)) H'
theorem ok_uses {f : Addr} {fd : FuncData} (F : Fun K "uses_only" "uses_only" sUses f fd) (T : Wds K mg) : FnOk P w K mg base CX0 1 f fd ["parts", "usable"] (spUses K) := by
  refine F.ok scUses (fun vs H Q E h => ?_) (fun cdv A outer s H vs Q E hr h => ?_)
  · obtain ⟨a, u, ts, zs, us, ps, rfl, _⟩ := h
    rfl
  · obtain ⟨a, u, ts, zs, us, ps, rfl, hS, hU, hP, l1, l2, l3, hfl, q⟩ := h
    refine ⟨_, pss_one (ps_ret (pe_callB (cr_all rfl) (by rfl) T.all (by decide +kernel) (pa_cons
          (pe_lc (own := [("sort", 2), ("part", 3)]) (g := gTup K 2 (gCons (gName 2) (gCons (gName 3) gNil))) rfl scUses.nd (pi_list (pv 0))
            (blkOk_by (N := ["parts", "usable", "sort", "part"]) (sc := defScope sUses) (by decide +kernel)) (fun _ _ _ _ _ => pg_tup rfl (pgs_cons (pg_name (i := 2) scUses.nd rfl (Or.inl rfl)) (pgs_cons (pg_name (i := 3) scUses.nd rfl (Or.inl rfl)) pgs_nil))) (fun _ _ _ _ _ => pts_one (pt_cmpR op_eq (pv 2) pe_str (nomark _)))
            (fun _ _ _ _ _ => pe_cmpR (show OpR _ _ (rIn K false) from op_in_seq) (pv 3) (pv 1) rfl)) pa_nil))), ?_⟩
    refine ⟨_, rfl, a, rfl, ⟨_, hS⟩, fun D hD => ?_⟩
    refine lc_it walk_list (fun i H3 => Same H H3 ∧ H3 D = some (.lst ((usedsB us (zs.take i) (ps.take i)).map V.bl))) ⟨same_upd hD, upd_same⟩ (fun _ _ _ h => h.1.seq hS) ?_ ?_
    · rintro i y H3 H4 hi ⟨sm, hl⟩ ⟨rfl, e1⟩
      rw [List.getElem?_map] at e1
      cases ht : ts[i]? with
      | none =>
        rw [ht] at e1
        cases e1
      | some t =>
        rw [ht] at e1
        obtain rfl := Option.some.inj e1
        obtain ⟨z, v, hz, hv, hT⟩ := hP i t ht
        refine ⟨t, _, rfl, SqT.of (sm _ _ hT), rfl, _, _, rfl, _, _, rfl, rfl, rfl, ?_⟩
        have hi' : i < ts.length := (List.getElem?_eq_some_iff.mp ht).1
        refine ⟨_, rfl, rfl, _, rfl, ?_⟩
        by_cases hu : z = "used"
        · subst hu
          rw [decide_eq_true rfl]
          refine iteT ?_
          refine ⟨_, rfl, _, rfl, u, _, rfl, .inl (sm.seq hU), hfl i v hz hv, flat_strs _, ?_⟩
          refine ⟨_, hl, ?_, same_grow sm hD, ?_⟩
          · rw [List.length_map]
            have := usedsB_len us (zs.take i) (ps.take i)
            rw [List.length_take] at this
            exact small1000 (by omega)
          · rw [upd_same, usedsB_take hz hv, if_pos rfl, List.map_append]
            rfl
        · rw [decide_eq_false (fun e => hu (V.str.inj e))]
          refine iteF ⟨sm, ?_⟩
          rw [hl, usedsB_take hz hv, if_neg hu, List.append_nil]
    · rintro H3 ⟨sm, hl⟩
      rw [List.length_map, l1, List.take_length, ← l1, l2, List.take_length] at hl
      exact ⟨D, _, rfl, .inl (.inl hl), q _ sm⟩
end
end Dr
namespace Dr
open PySem PySem.Spec PyProof.Rows L2
open Sem (wp)
open AutoSeq1 (wpAny_loadPart')
theorem meets_enumerate_newT (l : Addr) (items : Array Value) (n : Nat) (dct : Option Addr) (sl : Array (Option Value)) :
    Meets (Builtin.«enumerate.__new__» ⟨[.type "enumerate", .ref l], []⟩) (fun _ R s => s.heap.get? l = some { cls := .type "tuple", dict := dct, data := .seq items n, slots := sl } ∧
      R (.ok (.ret (.ref (s.heap.push { cls := .type "tuple_iterator", data := .fields #[.ref l, .int 0 0] }).objs.size)))
        { s with heap := (s.heap.push { cls := .type "tuple_iterator", data := .fields #[.ref l, .int 0 0] }).push { cls := .type "enumerate", data := .fields #[.none, .bool false, .ref s.heap.objs.size, rawInt 0, .none, .none] } }) :=
  .of_wp fun prog w A R s h => by
    obtain ⟨hp, g, d, tk, os⟩ := s; obtain ⟨hl, h⟩ := h
    have hsub := sub_enumerate
    have hL : Heap.IsTuple (Shared.heap ⟨hp, g, d, tk, os⟩) l items := ⟨_, hl, rfl, n, rfl⟩
    wp_walk using wpAny_loadPart' hl
    refine wpAny_stack_any fun st => wpAny_pure ?_
    split
    · rename_i c _ _ _ _ _
      cases (c == Value.type "enumerate")
      · wp_walk using wpAny_loadPart' hl, wpAny_pyIter_tuple hL
        exact ⟨_, rfl, h⟩
      · wp_walk using wpAny_loadPart' hl, wpAny_pyIter_tuple hL
        exact ⟨_, rfl, h⟩
    · wp_walk using wpAny_loadPart' hl, wpAny_pyIter_tuple hL
      exact ⟨_, rfl, h⟩
section
variable {prog : Program} {w : World} {A : Around} {E : Value → Shared → Prop} {s : Shared}
theorem call_enumerate_tup {l : Addr} {items : Array Value} {Q : Value → Shared → Prop} (hL : s.heap.IsTuple l items)
    (h : ∀ h', IsEnum h' (s.heap.objs.size + 1) s.heap.objs.size 0 .none → h'.IsTupleIter s.heap.objs.size l 0 → h'.objs.size = s.heap.objs.size + 2 →
      (∀ b o, s.heap.get? b = some o → h'.get? b = some o) → Q (.ref (s.heap.objs.size + 1)) { s with heap := h' }) :
    wpAny (model prog w) A (call (.type "enumerate") [.ref l]) Q E s := by
  obtain ⟨⟨c, dct, dt, sl⟩, hl, hc, n, hd⟩ := hL
  replace hc : c = .type "tuple" := hc
  replace hd : dt = .seq items n := hd
  subst hc hd
  refine callType_new F.called_enumerate (by decide) (F.typeCall_enumerate_1 _) (F.newCall_enumerate_1 _) (fun obj => F.args_object_init_2 obj _) F.entry_enumerate_new
    (meets_enumerate_newT l items n dct sl) ⟨hl, ?_⟩
  have hz : (s.heap.push { cls := .type "tuple_iterator", data := .fields #[.ref l, .int 0 0] }).objs.size = s.heap.objs.size + 1 := Heap.size_push ..
  show _ ∧ _
  rw [hz]
  have he : IsEnum ((s.heap.push { cls := .type "tuple_iterator", data := .fields #[.ref l, .int 0 0] }).push
      { cls := .type "enumerate", data := .fields #[.none, .bool false, .ref s.heap.objs.size, rawInt 0, .none, .none] }) (s.heap.objs.size + 1) s.heap.objs.size 0 .none := by
    have := Heap.get?_push_size (s.heap.push { cls := .type "tuple_iterator", data := .fields #[.ref l, .int 0 0] })
      (o := { cls := .type "enumerate", data := .fields #[.none, .bool false, .ref s.heap.objs.size, rawInt 0, .none, .none] }) rfl
    rw [hz] at this; exact this
  refine ⟨⟨_, he, rfl⟩, h _ he ⟨_, Heap.get?_push_of_some _ (Heap.get?_push_size _ rfl), rfl, rfl⟩ (by rw [Heap.size_push, hz]) fun b o x => Heap.get?_push_of_some _ (Heap.get?_push_of_some _ x)⟩
end
theorem pyNext_enumT_end {prog : Program} {w : World} {A : Around} {E : Value → Shared → Prop} {s : Shared} {e it l : Addr} {i : Nat} {items : Array Value} {old : Value} {Q : Option Value → Shared → Prop} (hh : A.handled = none)
    (he : IsEnum s.heap e it i old) (hit : s.heap.IsTupleIter it l i) (hl : s.heap.IsTuple l items) (hx : items[i]? = none)
    (hQ : ∀ h', Heap.ExtBut it s.heap h' → Q none { s with heap := h' }) : wpAny (model prog w) A (pyNext (.ref e)) Q E s := by
  have hT : s.TypeIs (.ref e) "enumerate" := ⟨_, he, rfl⟩
  unfold pyNext
  refine wpAny_bind (wpAny_attempt (wpAny_callSpecial?_slot (name := Str.ofString "__next__") hT F.slot_enumerate_next
    (wpAny_call_entry F.slot_enumerate_next hT F.entry_enumerate_next ?_ (F.args_enumerate_next_1 _))))
  show wpAny _ _ (field (.ref e) 2 >>= _) _ _ _
  refine wpAny_bind (wpAny_field he rfl (x := .ref it) rfl ?_)
  refine wpAny_bind (wpAny_nextOf_tuple_end hh hit hl hx fun h' x he' hx' => ?_)
  obtain ⟨o, ho, hc⟩ := hx'
  refine wpAny_bind (wpAny_isInstance (T := "StopIteration") (b := true) ⟨o, ho, hc⟩ isSubtype_stop ?_)
  exact wpAny_pure (hQ _ he')
/-- the tuple at a, each item in a new pair -/
def IteT (K : PySem.W.Frag) (a : Addr) : It :=
  ⟨fun i H => ∃ (xs : List V) (x : V), SqT K H a xs ∧ xs[i]? = some x, fun i H v H' => ∃ T x, v = .ref T ∧ H T = none ∧ H' = upd H T (.tup [.int (i : Nat), x]) ∧ ∀ xs, SqT K H a xs → xs[i]? = some x, fun i H => ∃ xs : List V, SqT K H a xs ∧ xs.length ≤ i⟩
theorem turn_enumT {P : Program} {w : World} {K : PySem.W.Frag} {elts : List Expr} {kk : Nat} {tpos : Pos} (a e it : Addr) :
    Turn P w K (.Tuple elts kk tpos) (IteT K a) [e, it] e (fun i h => (∃ old, IsEnum h e it ((i : Nat) : Int) old) ∧ h.IsTupleIter it a i ∧ e ≠ it ∧ e ∉ [it, a] ∧ a ≠ it) where
  mem := by simp
  obj := fun i h st b hb => by
    obtain ⟨⟨old, he⟩, ⟨o, ho, hc, hd⟩, _⟩ := st
    have e' : b = e ∨ b = it := by simpa using hb
    rcases e' with z | z
    · rw [z]; exact ⟨_, he, fun v q => nomatch q⟩
    · rw [z]; exact ⟨o, ho, fun v q => by rw [hd] at q; cases q⟩
  keep := fun i h h' st k => let ⟨⟨old, he⟩, hi, hne⟩ := st; ⟨⟨old, k e (by simp) _ he⟩, hi.at fun o q => k it (by simp) o q, hne⟩
  item := by
    intro X hP hw hK hc i pins s σ H E I hf st hg
    subst hP hw hK
    obtain ⟨⟨old, he⟩, hit, hne, hef, hai⟩ := st
    obtain ⟨xs, x, hq, hx⟩ := hg
    obtain ⟨its, rv, p, hz⟩ := I.tuple hq
    obtain ⟨u, hu, ru⟩ := rv.get hx
    have hel : e < s.heap.objs.size := Heap.lt_size he
    have hil : it < s.heap.objs.size := by obtain ⟨_, q, _⟩ := hit; exact Heap.lt_size q
    have hlt : i < its.toArray.size := by
      rw [List.size_toArray]
      exact (List.getElem?_eq_some_iff.mp hu).1
    refine wpAny_pyNext_enum_itemD (Draws.tuple (prog := X.prog) (w := X.w) (A := X.A.in1) (I.ok.hd hc) it a hai its.toArray) he ⟨hit, p⟩ hlt hne hef fun x' h' tk hP ho hst' hT hsz hk => ?_
    have hxu : x' = u := by
      have hP' : its.toArray[i]? = some x' := hP
      have : its.toArray[i]? = some u := by simpa using hu
      rw [this] at hP'
      exact (Option.some.inj hP').symm
    subst hxu
    refine ⟨_, rfl, wpAny_letOwnedTupleGo_enum (s := { s with heap := h', toks := tk + 1 }) ho fun h'' he' sb => ?_⟩
    have hT2 : h''.get? s.heap.objs.size = some { cls := .type "tuple", data := .seq #[.int i tk, x'] } := (sb.2 _ (Nat.ne_of_gt hel)).trans hT
    have new : ObjOk X.prog X.w (upd H s.heap.objs.size (.tup [.int (i : Nat), x])) h'' s.heap.objs.size (.tup [.int (i : Nat), x]) :=
      ⟨by show 2 ≤ sizeLine; decide, [.int i tk, x'], .cons ⟨_, rfl⟩ (.cons ru .nil), ⟨_, hT2, rfl, _, rfl⟩⟩
    have I1 : Inv X pins σ (upd H s.heap.objs.size (.tup [.int (i : Nat), x])) { s with heap := h'', toks := tk + 1 } :=
      I.turnedNew (ch := [e, it]) (fun b ob hb q => (sb.2 b (fun z => hb (by simp [z]))).trans (hk b ob (fun z => hb (by simp [z])) (fun z => hb (by simp [z])) q)) hf (Nat.le_refl _) new
    refine ⟨.ref s.heap.objs.size, _, I1, rfl, ⟨_, x, rfl, I.hok.fresh (Nat.le_refl _), rfl, fun ys hy => by rw [I.tuple_inj hy hq]; exact hx⟩, ⟨⟨x', ?_⟩, hst'.1.at fun o q => (sb.2 it (Ne.symm hne)).trans q, hne, hef, hai⟩, fun b hb => ?_⟩
    · have e1 : ((i + 1 : Nat) : Int) = (i : Int) + 1 := by omega
      rw [e1]; exact he'
    · have hb' : b < s.heap.objs.size := by
        have e' : b = e ∨ b = it := by simpa using hb
        rcases e' with z | z
        · rw [z]; exact hel
        · rw [z]; exact hil
      rw [upd_ne (Nat.ne_of_lt hb')]
      exact (hf b hb).1
  done := by
    intro X hP hw hK hc i pins s σ H E I hf st hg
    subst hP hw hK
    obtain ⟨⟨old, he⟩, hit, hne, hef, hai⟩ := st
    obtain ⟨xs, hq, hx⟩ := hg
    obtain ⟨its, rv, p, hz⟩ := I.tuple hq
    obtain ⟨f0, f1, f2, f3, f4, f5⟩ := hf it (by simp)
    have hl := rv.length
    exact pyNext_enumT_end (I.ok.hd hc) he hit p (by simp; omega) fun h' eb => ⟨rfl, I.turned (t' := s.toks) (fun b o hb q => eb b o hb q) f0 f1 f3 f4 f5⟩
  self := fun A i s Q E st h => let ⟨⟨_, he⟩, _⟩ := st; wpAny_pyIter_enum he h
def iEnumT (K : PySem.W.Frag) (ta : TA) : TI := fun σ H R => ta σ H fun vs H1 => ∃ a xs, vs = [.ref a] ∧ SqT K H1 a xs ∧ R (IteT K a) H1
theorem pi_enumT {X : Cx} {e : Expr} {ta : TA} {p pos tpos : Pos} {elts : List Expr} {kk : Nat} (hg : Gl X "enumerate") (hm : X.mg "enumerate" = none) (ha : PA X [e] ta) (hs : starEach [e] X.env = [(false, eval e X.env)] := by rfl) :
    PI X (.Tuple elts kk tpos) (.Call (.Name "enumerate" p) [e] [] pos) (iEnumT X.K ta) := by
  refine ⟨fun pins s σ H R I h => ?_⟩
  refine Call_ (ld_blt I hg hm boot_enumerate (PyProof.Rows.callWith_type1 (thn (ha.run pos pins s σ H _ I h) fun us s1 ⟨vs, H1, I1, r1, q1⟩ => ?_) hs rfl))
  obtain ⟨a, xs, ex, hq, q⟩ := q1
  subst ex
  cases r1 with
  | cons r rr =>
    cases rr
    cases r
    obtain ⟨its, rv, p', hz⟩ := I1.tuple hq
    have hal : a < s1.heap.objs.size := by
      obtain ⟨o, ho, _⟩ := p'
      exact Heap.lt_size ho
    refine call_enumerate_tup p' fun h' he hit hsz hk => wpAny_pyIter_enum he ?_
    have I2 : Inv X pins σ H1 { s1 with heap := h' } := I1.kept (t' := s1.toks) hk
    refine ⟨s1.heap.objs.size + 1, [s1.heap.objs.size + 1, s1.heap.objs.size], _, _, H1, rfl, I2, turn_enumT a (s1.heap.objs.size + 1) s1.heap.objs.size, ⟨⟨.none, he⟩, hit, Nat.succ_ne_self _, fun hm => ?_, Nat.ne_of_lt hal⟩, fun b hb => ?_, q⟩
    · have e' : s1.heap.objs.size + 1 = s1.heap.objs.size ∨ s1.heap.objs.size + 1 = a := by simpa using hm
      rcases e' with z | z
      · exact Nat.succ_ne_self _ z
      · exact Nat.ne_of_gt (Nat.lt_succ_of_lt hal) z
    · have e' : b = s1.heap.objs.size + 1 ∨ b = s1.heap.objs.size := by simpa using hb
      have hle : s1.heap.objs.size ≤ b := by
        rcases e' with z | z
        · rw [z]; exact Nat.le_add_right _ _
        · rw [z]; exact Nat.le_refl _
      exact I1.fpOk hle (I1.hok.fresh hle)
theorem walk_enumT {K : PySem.W.Frag} {a : Addr} {xs : List V} : Walk (IteT K a) xs.length (fun H => SqT K H a xs) (YPair (fun i => some (.int (i : Nat))) (fun i => xs[i]?)) := by
  refine ⟨fun i _ hi q => ⟨xs, xs[i], q, by simp [hi]⟩, fun _ q => ⟨xs, q, Nat.le_refl _⟩, fun i H v H' _ q y => ?_⟩
  obtain ⟨T, x, h1, h2, h3, h4⟩ := y
  exact ⟨T, .int (i : Nat), x, h1, h2, h3, rfl, h4 xs q⟩
end Dr
namespace Dr
open PySem PySem.Spec PyProof.Rows L2
abbrev sKeeps : Stmt := topS 30
abbrev nKeeps : List Str := ["row", "fixed", "usable", "parts", "assigned", "sort", "part", "name"]
theorem scKeeps : FnScope nKeeps ["row", "fixed", "usable"] (defScope sKeeps) := ⟨rfl, rfl, rfl, by decide +kernel, rfl, by decide +kernel, by decide +kernel⟩
section
variable {P : Program} {w : World} {K : PySem.W.Frag} {mg : Str → Option Value} {base : Heap}
/-- a row that is given: its tuple, its data, its form -/
structure RowAt (K : PySem.W.Frag) (H : Hp) (va : Addr) (xs : List V) (ds : List PyData) (fm : Form) : Prop where
  at_ : SqT K H va xs
  dp : DpAll K H xs ds
  ok : OkD (.tuple ds)
  form : formOf (.tuple ds) rowForms = some fm
  br : formOf (.tuple ds) branchForms = none
  sorts : ∀ z ∈ fm.drop 1, ok0 z ∧ z ≠ "assigned"
  used : ∀ (i : Nat) (v : V), (fm.drop 1)[i]? = some "used" → (xs.drop 1)[i]? = some v → flatV v = true
  len : xs.length = fm.length
theorem RowAt.same {H H' : Hp} {va : Addr} {xs : List V} {ds : List PyData} {fm : Form} (h : RowAt K H va xs ds fm) (s : Same H H') : RowAt K H' va xs ds fm := ⟨Same.seqT s h.at_, dpAll_same s h.dp, h.ok, h.form, h.br, h.sorts, h.used, h.len⟩
def spKeeps (K : PySem.W.Frag) : Sp := fun vs H Q _ => ∃ (va aF u : Addr) (xs : List V) (ds : List PyData) (fm : Form) (fx us : List Str), vs = [.ref va, .ref aF, .ref u] ∧ RowAt K H va xs ds fm ∧ SqL K H aF (fx.map V.str) ∧ SqL K H u (us.map V.str) ∧ ∀ H', Same H H' → Q (.bl (usesB us (fm.drop 1) (xs.drop 1))) H'
/-- none of the parts is assigned -/
theorem PtsAt.no {H : Hp} {ts : List Addr} {zs : List Str} {vs : List V} (h : PtsAt H ts zs vs) (n : ∀ z ∈ zs, z ≠ "assigned") {i : Nat} {t : Addr} (e : ts[i]? = some t) : ∃ z v, H t = some (.tup [.str z, v]) ∧ z ≠ "assigned" := by
  obtain ⟨z, v, e1, _, e3⟩ := h i t e
  exact ⟨z, v, e3, n z (List.mem_of_getElem? e1)⟩
theorem ok_keeps {f fP fF fU : Addr} {fd fdP fdF fdU : FuncData} (F : Fun K "keeps_to" "keeps_to" sKeeps f fd) (T : Wds K mg) (hany : mg "any" = none) (TR : FmG K mg "ROWS" rowForms) (TB : FmG K mg "BRANCHES" branchForms)
    (GP : FnOk P w K mg base CX0 2 fP fdP ["thing", "forms"] (spParts K)) (mP : mg "parts_of" = some (.ref fP)) (kP : PySem.W.keepIn K (.ref fP) = true) (bP : Binds K fdP ["thing", "forms"] [])
    (GF : FnOk P w K mg base CX0 1 fF fdF ["thing", "forms"] (spFormOf K)) (mF : mg "form_of" = some (.ref fF)) (kF : PySem.W.keepIn K (.ref fF) = true) (bF : Binds K fdF ["thing", "forms"] [])
    (GU : FnOk P w K mg base CX0 1 fU fdU ["parts", "usable"] (spUses K)) (mU : mg "uses_only" = some (.ref fU)) (kU : PySem.W.keepIn K (.ref fU) = true) (bU : Binds K fdU ["parts", "usable"] []) :
    FnOk P w K mg base CX0 3 f fd ["row", "fixed", "usable"] (spKeeps K) := by
  obtain ⟨aR, mR, fR⟩ := TR.ex
  obtain ⟨aB, mB, fB⟩ := TB.ex
  refine F.ok scKeeps (fun vs H Q E h => ?_) (fun cdv A outer s H vs Q E hr h => ?_)
  · obtain ⟨va, aF, u, xs, ds, fm, fx, us, rfl, _⟩ := h
    rfl
  · obtain ⟨va, aF, u, xs, ds, fm, fx, us, rfl, hR, hX, hU, q⟩ := h
    have hr1 : Room 1 _ := hr.mono (by decide)
    refine ⟨_, pss_cons (ps_set (i := 3) scKeeps.nd rfl (.inl rfl) (pe_call GP hr (by rfl) mP kP bP .nil pass0 (pa_cons (pv 0) (pa_cons (pe_glob (v := .ref aR) (by rfl) mR rfl) pa_nil))))
      (pss_cons (ps_setLc (i := 4) (own := [("sort", 5), ("part", 6)]) (g := gTup K 2 (gCons (gName 5) (gCons (gName 6) gNil))) rfl scKeeps.nd rfl rfl (sw_true rfl rfl rfl (by decide +kernel))
            (pi_list (pv 3)) (blkOk_by (N := nKeeps) (sc := defScope sKeeps) (by decide +kernel)) (fun _ _ _ _ _ => pg_tup rfl (pgs_cons (pg_name (i := 5) scKeeps.nd rfl (Or.inl rfl)) (pgs_cons (pg_name (i := 6) scKeeps.nd rfl (Or.inl rfl)) pgs_nil))) (fun _ _ _ _ _ => pts_one (pt_cmpR op_eq (pv 5) pe_str (nomark _)))
            (fun _ _ _ _ _ => pv 6))
      (pss_cons (ps_if (PW.pt (pw_and (pt_cmpR op_notN (pe_call GF hr1 (by rfl) mF kF bF .nil pass0 (pa_cons (pv 0) (pa_cons (pe_glob (v := .ref aB) (by rfl) mB rfl) pa_nil))) pe_non (nomark _))
          (pw_and1 (pt_not (pt_val (pe_callB (cr_all rfl) (by rfl) T.all (by decide +kernel) (pa_cons
            (pe_lc (own := [("name", 7)]) (g := gName 7) (tt := tYes) rfl scKeeps.nd (pi_list (pv 4)) (blkOk_by (N := nKeeps) (sc := defScope sKeeps) (by decide +kernel)) (fun _ _ _ _ _ => pg_name (i := 7) scKeeps.nd rfl (Or.inl rfl)) (fun _ _ _ _ _ => pts_nil)
              (fun _ _ _ _ _ => pe_cmpR (show OpR _ _ (rIn K false) from op_in_seq) (pv 7) (pv 2) rfl)) pa_nil))))))) (pss_one (ps_ret pe_bl)) pss_nil)
      (pss_one (ps_ret (pe_and (pe_call GU hr1 (by rfl) mU kU bU .nil pass0 (pa_cons (pv 3) (pa_cons (pv 2) pa_nil)))
        (pe_one (pe_not (pe_callB (cr_any rfl) (by rfl) hany (by decide +kernel) (pa_cons
            (pe_lc (own := [("name", 7)]) (g := gName 7) (tt := tYes) rfl scKeeps.nd (pi_list (pv 4)) (blkOk_by (N := nKeeps) (sc := defScope sKeeps) (by decide +kernel)) (fun _ _ _ _ _ => pg_name (i := 7) scKeeps.nd rfl (Or.inl rfl)) (fun _ _ _ _ _ => pts_nil)
              (fun _ _ _ _ _ => pe_cmpR (show OpR _ _ (rIn K false) from op_in_seq) (pv 7) (pv 1) rfl)) pa_nil))))))))), ?_⟩
    have hds := dpAll_len hR.dp
    have hdl := (hR.ok.tup).1
    refine ⟨_, rfl, va, aR, xs, ds, rowForms, fm, rfl, hR.at_, hR.dp, hR.ok, fR, row_ok.len, hR.form, fun z hz => (hR.sorts z hz).1, fun H1 l ts s1 nl hl lts hp => ?_⟩
    have lx : (xs.drop 1).length = (fm.drop 1).length := by
      rw [List.length_drop, List.length_drop, hR.len]
    refine ⟨_, rfl, l, rfl, ⟨_, SqL.of hl⟩, fun D hD => ?_⟩
    refine lc_it walk_list (fun i H3 => Same H1 H3 ∧ H3 D = some (.lst [])) ⟨same_upd hD, upd_same⟩ (fun _ _ _ h => h.1.seq (SqL.of hl)) ?_ ?_
    · rintro i y H3 H4 hi ⟨sm, hl3⟩ ⟨rfl, e1⟩
      rw [List.getElem?_map] at e1
      cases ht : ts[i]? with
      | none =>
        rw [ht] at e1
        cases e1
      | some t =>
        rw [ht] at e1
        obtain rfl := Option.some.inj e1
        obtain ⟨z, v, hT, hz⟩ := hp.no (fun z hz => (hR.sorts z hz).2) ht
        refine ⟨t, _, rfl, SqT.of (sm _ _ hT), rfl, _, _, rfl, _, _, rfl, rfl, rfl, ?_⟩
        refine ⟨_, rfl, rfl, _, rfl, ?_⟩
        rw [decide_eq_false (fun e => hz (V.str.inj e))]
        exact iteF ⟨sm, hl3⟩
    rintro H3 ⟨sm, hl3⟩
    have s3 := s1.trans sm
    refine ⟨_, rfl, .ref va, .tuple ds, aB, branchForms, rfl, .tup (Same.seqT s3 hR.at_) (dpAll_same s3 hR.dp), hR.ok, fB, branch_ok.len, fun _ => ⟨rfl, _, rfl, ?_⟩, fun f b _ hf => absurd (hR.br.symm.trans hf) (by simp)⟩
    refine iteF ?_
    refine ⟨_, rfl, _, rfl, l, u, ts, fm.drop 1, us, xs.drop 1, rfl, SqL.of (sm _ _ hl), s3.seq hU, hp.same sm, by rw [lts, lx, Nat.min_self], by rw [lts, lx, Nat.min_self, ← lx], ?_, hR.used, fun H5 s5 => ⟨_, rfl, ?_⟩⟩
    · rw [lts, lx, Nat.min_self, ← lx, List.length_drop, hds]
      omega
    · have s35 := s3.trans s5
      refine ite2 (fun k => ?_) (fun k => ?_)
      · refine ⟨_, rfl, D, rfl, ⟨_, SqL.of (s5 _ _ hl3)⟩, fun D2 hD2 => ?_⟩
        refine lc_it (walk_list (xs := [])) (fun i H6 => Same H5 H6 ∧ H6 D2 = some (.lst [])) ⟨same_upd hD2, upd_same⟩ (fun _ _ _ h => h.1.seq (SqL.of (s5 _ _ hl3))) (fun i _ _ _ hi => absurd hi (Nat.not_lt_zero _)) ?_
        rintro H6 ⟨s6, hl6⟩
        have q' := q _ (s35.trans s6)
        rw [k] at q'
        exact ⟨D2, [], rfl, .inl (.inl hl6), _, rfl, q'⟩
      · have q' := q _ s35
        rw [eq_false_of_ne_true k] at q'
        exact q'
end
end Dr
namespace Dr
open PySem PySem.Spec PyProof.Rows L2
abbrev sFirst : Stmt := topS 29
abbrev nFirst : List Str := ["params", "rows", "returns", "fixed", "usable", "at", "row", "param", "sort", "part"]
theorem scFirst : FnScope nFirst ["params", "rows", "returns"] (defScope sFirst) := ⟨rfl, rfl, rfl, by decide +kernel, rfl, by decide +kernel, by decide +kernel⟩
/-- a parameter's name, what it holds, its default, named or not -/
structure Pi where
  nm : Str
  hs : Str
  v : V
  nd : Bool
def PsAt (C : Addr) (H : Hp) (as : List Addr) (is : List Pi) : Prop := as.length = is.length ∧ ∀ (i : Nat) (a : Addr), as[i]? = some a → ∃ p, is[i]? = some p ∧ ParAt C H a p.nm p.hs p.v p.nd
theorem PsAt.same {C : Addr} {H H' : Hp} {as : List Addr} {is : List Pi} (h : PsAt C H as is) (s : Same H H') : PsAt C H' as is := ⟨h.1, fun i a e => by
  obtain ⟨p, e1, dx, e2⟩ := h.2 i a e
  exact ⟨p, e1, dx, s _ _ e2⟩⟩
def holding (w : Str) (is : List Pi) : List Str := (is.filter fun p => decide (p.hs = w)).map Pi.nm
theorem holding_next {w : Str} {is : List Pi} {i : Nat} {p : Pi} (h : is[i]? = some p) : holding w (is.take (i + 1)) = holding w (is.take i) ++ (if p.hs = w then [p.nm] else []) := by
  unfold holding
  rw [List.take_add_one, h, List.filter_append, List.map_append]
  show _ ++ List.map Pi.nm (List.filter _ [p]) = _
  by_cases e : p.hs = w
  · rw [List.filter_cons, if_pos (decide_eq_true e), if_pos e]
    rfl
  · rw [List.filter_cons, if_neg (by simpa using e), if_neg e]
    rfl
theorem holding_len (w : Str) (is : List Pi) : (holding w is).length ≤ is.length := by
  unfold holding
  rw [List.length_map]
  exact List.length_filter_le ..
def RowOk (K : PySem.W.Frag) (H : Hp) (us : List Str) (x : V) (b : Bool) : Prop := ∃ va xs ds fm, x = .ref va ∧ RowAt K H va xs ds fm ∧ hasForm S1 (.tuple ds) rowForms = true ∧ usesB us (fm.drop 1) (xs.drop 1) = b
section
variable {P : Program} {w : World} {K : PySem.W.Frag} {mg : Str → Option Value} {base : Heap}
def spFirst (K : PySem.W.Frag) (C : Addr) : Sp := fun vs H Q _ => ∃ (tP tR tX : Addr) (as : List Addr) (is : List Pi) (rows : List V) (bs : Nat → Bool), vs = [.ref tP, .ref tR, .ref tX] ∧ SqT K H tP (as.map V.ref) ∧ PsAt C H as is ∧ as.length ≤ 100 ∧ SqT K H tR rows ∧ rows.length ≤ 100 ∧
  (∀ (i : Nat) (x : V), rows[i]? = some x → RowOk K H (holding "box" is) x (bs i)) ∧ SqT K H tX [.str "none"] ∧ (∀ H', Same H H' → (∀ i, i < rows.length → bs i = true) → Q .non H') ∧ ∀ H' (i : Nat), Same H H' → i < rows.length → bs i = false → (∀ j, j < i → bs j = true) → Q (.int i) H'
theorem ok_first {kH : Nat} {C f fH fK fP fU : Addr} {fd fdH fdK fdP fdU : FuncData} (F : Fun K "first_bad_row" "first_bad_row" sFirst f fd) (W : Wds K mg) (T : Prm K mg C) (hen : mg "enumerate" = none) (TR : FmG K mg "ROWS" rowForms) (TX : FmG K mg "RESULTS" resultForms)
    (GH : FnOk P w K mg base CX0 kH fH fdH ["thing", "forms"] (spHas K S1 okA)) (mH : mg "has_form" = some (.ref fH)) (kkH : PySem.W.keepIn K (.ref fH) = true) (bH : Binds K fdH ["thing", "forms"] [])
    (GK : FnOk P w K mg base CX0 3 fK fdK ["row", "fixed", "usable"] (spKeeps K)) (mK : mg "keeps_to" = some (.ref fK)) (kK : PySem.W.keepIn K (.ref fK) = true) (bK : Binds K fdK ["row", "fixed", "usable"] [])
    (GP : FnOk P w K mg base CX0 2 fP fdP ["thing", "forms"] (spParts K)) (mP : mg "parts_of" = some (.ref fP)) (kP : PySem.W.keepIn K (.ref fP) = true) (bP : Binds K fdP ["thing", "forms"] [])
    (GU : FnOk P w K mg base CX0 1 fU fdU ["parts", "usable"] (spUses K)) (mU : mg "uses_only" = some (.ref fU)) (kU : PySem.W.keepIn K (.ref fU) = true) (bU : Binds K fdU ["parts", "usable"] []) (h3 : 3 ≤ kH) :
    FnOk P w K mg base CX0 (kH + 1) f fd ["params", "rows", "returns"] (spFirst K C) := by
  obtain ⟨aR, mR, fR⟩ := TR.ex
  obtain ⟨aX, mX, fX⟩ := TX.ex
  refine F.ok scFirst (fun vs H Q E h => ?_) (fun cdv A outer s H vs Q E hr h => ?_)
  · obtain ⟨tP, tR, tX, as, is, rows, bs, rfl, _⟩ := h
    rfl
  · obtain ⟨tP, tR, tX, as, is, rows, bs, rfl, hP, hps, las, hRs, lrs, hrow, hX, q0, q1⟩ := h
    have hr1 : Room 1 _ := hr.mono (by omega)
    have hr2 : Room 2 _ := hr.mono (by omega)
    have hr3 : Room 3 _ := hr.mono (by omega)
    refine ⟨_, pss_cons (ps_setLc (i := 3) (own := [("param", 7)]) (g := gName 7) rfl scFirst.nd rfl rfl (sw_true rfl rfl rfl (by decide +kernel)) (pi_tup (pv 0)) (blkOk_by (N := nFirst) (sc := defScope sFirst) (by decide +kernel)) (fun _ _ _ _ _ => pg_name (i := 7) scFirst.nd rfl (Or.inl rfl))
          (fun _ _ _ _ _ => pts_one (pt_cmpR op_eq (show PE _ _ (tFld K (tVar 7) "holds") from pe_fld (pv 7) rfl) pe_str (nomark _))) (fun _ _ _ _ _ => (show PE _ _ (tFld K (tVar 7) "name") from pe_fld (pv 7) rfl)))
      (pss_cons (ps_setLc (i := 4) (own := [("param", 7)]) (g := gName 7) rfl scFirst.nd rfl rfl (sw_true rfl rfl rfl (by decide +kernel)) (pi_tup (pv 0)) (blkOk_by (N := nFirst) (sc := defScope sFirst) (by decide +kernel)) (fun _ _ _ _ _ => pg_name (i := 7) scFirst.nd rfl (Or.inl rfl))
          (fun _ _ _ _ _ => pts_one (pt_cmpR op_eq (show PE _ _ (tFld K (tVar 7) "holds") from pe_fld (pv 7) rfl) pe_str (nomark _))) (fun _ _ _ _ _ => (show PE _ _ (tFld K (tVar 7) "name") from pe_fld (pv 7) rfl)))
      (pss_cons (ps_for PassesOwn.never rfl (pi_enumT (by rfl) hen (pa_cons (pv 1) pa_nil)) (pg_tup rfl (pgs_cons (pg_name (i := 5) scFirst.nd rfl (.inl rfl)) (pgs_cons (pg_name (i := 6) scFirst.nd rfl (.inl rfl)) pgs_nil)))
        (pss_cons (ps_if (PW.pt (pw_or (pt_not (pt_val (pe_call GH hr (by rfl) mH kkH bH .nil pass0 (pa_cons (pv 6) (pa_cons (pe_glob (v := .ref aR) (by rfl) mR rfl) pa_nil)))))
            (pw_or1 (pt_not (pt_val (pe_call GK hr3 (by rfl) mK kK bK .nil pass0 (pa_cons (pv 6) (pa_cons (pv 3) (pa_cons (pv 4) pa_nil))))))))) (pss_one (ps_ret (pv 5))) pss_nil)
          (pss_one (ps_set (i := 4) scFirst.nd rfl (.inl rfl) (pe_op op_cat (pv 4)
            (pe_lc (own := [("sort", 8), ("part", 9)]) (g := gTup K 2 (gCons (gName 8) (gCons (gName 9) gNil))) rfl scFirst.nd (pi_list (pe_call GP hr2 (by rfl) mP kP bP .nil pass0 (pa_cons (pv 6) (pa_cons (pe_glob (v := .ref aR) (by rfl) mR rfl) pa_nil)))) (blkOk_by (N := nFirst) (sc := defScope sFirst) (by decide +kernel))
              (fun _ _ _ _ _ => pg_tup rfl (pgs_cons (pg_name (i := 8) scFirst.nd rfl (Or.inl rfl)) (pgs_cons (pg_name (i := 9) scFirst.nd rfl (Or.inl rfl)) pgs_nil))) (fun _ _ _ _ _ => pts_one (pt_cmpR op_eq (pv 8) pe_str (nomark _))) (fun _ _ _ _ _ => pv 9)))))))
      (pss_cons (ps_if (PW.pt (pw_or (pt_not (pt_val (pe_call GH hr (by rfl) mH kkH bH .nil pass0 (pa_cons (pv 2) (pa_cons (pe_glob (v := .ref aX) (by rfl) mX rfl) pa_nil)))))
            (pw_or1 (pt_not (pt_val (pe_call GU hr1 (by rfl) mU kU bU .nil pass0 (pa_cons (pe_call GP hr2 (by rfl) mP kP bP .nil pass0 (pa_cons (pv 2) (pa_cons (pe_glob (v := .ref aX) (by rfl) mX rfl) pa_nil))) (pa_cons (pv 4) pa_nil)))))))) (pss_one (ps_ret (pe_callB call_len_seq (by rfl) W.len PySem.boot_len (pa_cons (pv 1) pa_nil)))) pss_nil)
      (pss_one (ps_ret pe_non))))), ?_⟩
    have sH0 : Same H H := Same.refl _
    refine ⟨_, rfl, tP, rfl, ⟨_, Same.seqT sH0 hP⟩, fun D3 hD3 => ?_⟩
    refine lc_it walk_tup (fun i H3 => Same H H3 ∧ H3 D3 = some (.lst ((holding "mark" (is.take i)).map V.str))) ⟨same_upd hD3, upd_same⟩ (fun _ _ _ h => Same.seqT (sH0.trans h.1) hP) ?_ ?_
    · rintro i y H3 H4 hi ⟨sm, hl⟩ ⟨rfl, e1⟩
      rw [List.getElem?_map] at e1
      cases ha : as[i]? with
      | none =>
        rw [ha] at e1
        cases e1
      | some a =>
        rw [ha] at e1
        obtain rfl := Option.some.inj e1
        obtain ⟨p, hp, dx, hat⟩ := hps.2 i a ha
        have hat := sm _ _ (sH0 _ _ hat)
        refine ⟨rfl, _, rfl, a, C, dx, _, _, rfl, hat, T.cl, T.nH, pF_holds, rfl, _, rfl, ?_⟩
        by_cases hw : p.hs = "mark"
        · rw [decide_eq_true (by rw [hw])]
          refine iteT ⟨_, rfl, a, C, dx, _, _, rfl, hat, T.cl, T.nN, pF_name, _, hl, ?_, same_grow sm hD3, ?_⟩
          · rw [List.length_map]
            have h1 := holding_len "mark" (is.take i)
            rw [List.length_take] at h1
            have h2 := hps.1
            exact small1000 (by omega)
          · rw [upd_same, holding_next hp, if_pos hw, List.map_append]
            rfl
        · rw [decide_eq_false (fun e => hw (V.str.inj e))]
          refine iteF ⟨sm, ?_⟩
          rw [hl, holding_next hp, if_neg hw, List.append_nil]
    rintro H3 ⟨sm3, hl3⟩
    rw [List.length_map, hps.1, List.take_length] at hl3
    have sH3 := sH0.trans sm3
    refine ⟨_, rfl, tP, rfl, ⟨_, Same.seqT sH3 hP⟩, fun D4 hD4 => ?_⟩
    refine lc_it walk_tup (fun i G3 => Same H3 G3 ∧ G3 D4 = some (.lst ((holding "box" (is.take i)).map V.str))) ⟨same_upd hD4, upd_same⟩ (fun _ _ _ h => Same.seqT (sH3.trans h.1) hP) ?_ ?_
    · rintro i y G3 G4 hi ⟨sm, hl⟩ ⟨rfl, e1⟩
      rw [List.getElem?_map] at e1
      cases ha : as[i]? with
      | none =>
        rw [ha] at e1
        cases e1
      | some a =>
        rw [ha] at e1
        obtain rfl := Option.some.inj e1
        obtain ⟨p, hp, dx, hat⟩ := hps.2 i a ha
        have hat := sm _ _ (sH3 _ _ hat)
        refine ⟨rfl, _, rfl, a, C, dx, _, _, rfl, hat, T.cl, T.nH, pF_holds, rfl, _, rfl, ?_⟩
        by_cases hw : p.hs = "box"
        · rw [decide_eq_true (by rw [hw])]
          refine iteT ⟨_, rfl, a, C, dx, _, _, rfl, hat, T.cl, T.nN, pF_name, _, hl, ?_, same_grow sm hD4, ?_⟩
          · rw [List.length_map]
            have h1 := holding_len "box" (is.take i)
            rw [List.length_take] at h1
            have h2 := hps.1
            exact small1000 (by omega)
          · rw [upd_same, holding_next hp, if_pos hw, List.map_append]
            rfl
        · rw [decide_eq_false (fun e => hw (V.str.inj e))]
          refine iteF ⟨sm, ?_⟩
          rw [hl, holding_next hp, if_neg hw, List.append_nil]
    rintro H4 ⟨sm4, hl4⟩
    rw [List.length_map, hps.1, List.take_length] at hl4
    have sH4 := sH3.trans sm4
    have hl34 := sm4 _ _ hl3
    refine ⟨_, rfl, tR, rows, rfl, Same.seqT sH4 hRs, for_it walk_enumT (fun i σ H5 => Same H H5 ∧ H5 D3 = some (.lst ((holding "mark" is).map V.str)) ∧ (∃ u x y, σ = [some (.ref tP), some (.ref tR), some (.ref tX), some (.ref D3), some (.ref u), x, y, none, none, none] ∧ H5 u = some (.lst ((holding "box" is).map V.str))) ∧ ∀ j, j < i → bs j = true)
      ⟨sH4, hl34, ⟨D4, _, _, rfl, hl4⟩, fun j hj => absurd hj (Nat.not_lt_zero j)⟩ (fun _ _ _ _ h => Same.seqT h.1 hRs) ?_ ?_⟩
    · rintro n y σ H5 H6 hn ⟨sm, hF, ⟨u, x5, x6, rfl, hu⟩, hall⟩ ⟨T', x, e, rfl, nT, rfl, e1, e2⟩
      obtain rfl := Option.some.inj e1
      obtain ⟨va, xs, ds, fm, rfl, hRow, hhas, hub⟩ := hrow n _ e2
      have sT : Same H5 (upd H5 T' (.tup [.int (n : Int), .ref va])) := same_upd nT
      refine ⟨T', _, rfl, .inl (.inl upd_same), rfl, _, _, rfl, _, _, rfl, rfl, ?_⟩
      have s1 := sm.trans sT
      have hR1 := hRow.same s1
      refine ⟨_, rfl, .ref va, .tuple ds, aR, rowForms, rfl, .tup hR1.at_ hR1.dp, hR1.ok, fR, row_ok.toD, fun H7 s7 => ⟨_, rfl, ?_⟩⟩
      rw [hhas]
      refine iteF ?_
      have s17 := s1.trans s7
      refine ⟨_, rfl, _, rfl, _, rfl, va, D3, u, xs, ds, fm, holding "mark" is, holding "box" is, rfl, hRow.same s17, SqL.of (s7 _ _ (sT _ _ hF)), SqL.of (s7 _ _ (sT _ _ hu)), fun H8 s8 => ⟨_, rfl, ?_⟩⟩
      rw [hub]
      have s18 := s17.trans s8
      cases hb : bs n with
      | false => exact iteT ⟨_, rfl, q1 _ n s18 hn hb hall⟩
      | true =>
        refine iteF ?_
        have hR8 := hRow.same s18
        refine ⟨_, rfl, _, rfl, va, aR, xs, ds, rowForms, fm, rfl, hR8.at_, hR8.dp, hR8.ok, fR, row_ok.len, hR8.form, fun z hz => (hR8.sorts z hz).1, fun H9 l ts s9 nl hl lts hp => ?_⟩
        refine ⟨l, rfl, ⟨_, SqL.of hl⟩, fun D hD => ?_⟩
        refine lc_it walk_list (fun i H3 => Same H9 H3 ∧ H3 D = some (.lst [])) ⟨same_upd hD, upd_same⟩ (fun _ _ _ h => h.1.seq (SqL.of hl)) ?_ ?_
        · rintro i y H3 H4 hi ⟨sm, hl3⟩ ⟨rfl, e1⟩
          rw [List.getElem?_map] at e1
          cases ht : ts[i]? with
          | none =>
            rw [ht] at e1
            cases e1
          | some t =>
            rw [ht] at e1
            obtain rfl := Option.some.inj e1
            obtain ⟨z, v, hT, hz⟩ := hp.no (fun z hz => (hRow.sorts z hz).2) ht
            refine ⟨t, _, rfl, SqT.of (sm _ _ hT), rfl, _, _, rfl, _, _, rfl, rfl, rfl, ?_⟩
            refine ⟨_, rfl, rfl, _, rfl, ?_⟩
            rw [decide_eq_false (fun e => hz (V.str.inj e))]
            exact iteF ⟨sm, hl3⟩
        rintro Ha ⟨sa, hla⟩
        have kk := ((sT.trans s7).trans s8).trans (s9.trans sa)
        refine ⟨u, D, _, [], rfl, rfl, kk _ _ hu, hla, ?_, fun p np => ?_⟩
        · rw [List.length_map]
          have h1 := holding_len "box" is
          have h2 := hps.1
          exact Nat.le_of_lt (small1000 (by show (holding "box" is).length + 0 ≤ 1000; omega))
        · rw [List.append_nil]
          have sp := same_upd (o := .lst ((holding "box" is).map V.str)) np
          refine ⟨(sm.trans kk).trans sp, sp _ _ (kk _ _ hF), ⟨p, _, _, rfl, upd_same⟩, fun j hj => ?_⟩
          by_cases e : j < n
          · exact hall j e
          · obtain rfl : j = n := by omega
            exact hb
    · rintro σ H5 ⟨sm, hF, ⟨u, x5, x6, rfl, hu⟩, hall⟩
      have okN : OkD (.tuple [.str "none"]) := ⟨by decide +kernel, by decide +kernel⟩
      have hX5 := Same.seqT sm hX
      refine ⟨_, rfl, .ref tX, .tuple [.str "none"], aX, resultForms, rfl, .tup hX5 (.cons (.str _) .nil), okN, fX, result_ok.toD, fun H6 s6 => ⟨_, rfl, ?_⟩⟩
      rw [show hasForm S1 (.tuple [.str "none"]) resultForms = true by decide +kernel]
      refine iteF ?_
      refine ⟨_, rfl, tX, aX, [.str "none"], [.str "none"], resultForms, ["none"], rfl, Same.seqT s6 hX5, .cons (.str _) .nil, okN, fX, result_ok.len, by decide +kernel, (fun z hz => by cases hz), fun H7 l ts s7 nl hl lts hp => ?_⟩
      have lts0 : ts = [] := List.eq_nil_of_length_eq_zero (by rw [lts]; rfl)
      subst lts0
      refine ⟨_, rfl, l, u, [], [], holding "box" is, [], rfl, SqL.of hl, SqL.of (s7 _ _ (s6 _ _ hu)), PtsAt.nil, rfl, rfl, Nat.zero_le _, (fun i v h => by simp at h), fun H8 s8 => ⟨_, rfl, ?_⟩⟩
      refine iteF ?_
      exact q0 _ (((sm.trans s6).trans s7).trans s8) hall
end
end Dr
namespace Dr
open PySem PySem.Spec PyProof.Rows L2
abbrev sENm : Stmt := inClass (topS 2) 0
theorem scENm : FnScope ["self", "name"] ["self", "name"] (defScope sENm) := ⟨rfl, rfl, rfl, by decide +kernel, rfl, by decide +kernel, by decide +kernel⟩
abbrev sERw : Stmt := inClass (topS 4) 0
theorem scERw : FnScope ["self", "at"] ["self", "at"] (defScope sERw) := ⟨rfl, rfl, rfl, by decide +kernel, rfl, by decide +kernel, by decide +kernel⟩
abbrev sEOr : Stmt := inClass (topS 5) 0
theorem scEOr : FnScope ["self", "name"] ["self", "name"] (defScope sEOr) := ⟨rfl, rfl, rfl, by decide +kernel, rfl, by decide +kernel, by decide +kernel⟩
abbrev sETw : Stmt := inClass (topS 6) 0
theorem scETw : FnScope ["self", "name"] ["self", "name"] (defScope sETw) := ⟨rfl, rfl, rfl, by decide +kernel, rfl, by decide +kernel, by decide +kernel⟩
abbrev sETm : Stmt := inClass (topS 7) 0
theorem scETm : FnScope ["self", "what"] ["self", "what"] (defScope sETm) := ⟨rfl, rfl, rfl, by decide +kernel, rfl, by decide +kernel, by decide +kernel⟩
abbrev sOrder : Stmt := topS 35
theorem scOrder : FnScope ["params", "before", "param"] ["params"] (defScope sOrder) := ⟨rfl, rfl, rfl, by decide +kernel, rfl, by decide +kernel, by decide +kernel⟩
/-- what stands of an error's class -/
structure Erc (K : PySem.W.Frag) (mg : Str → Option Value) (x f : Str) (C g : Addr) : Prop where
  oex : OexC K C
  no : PySem.W.findIn K (.ref C) f = some none
  init : PySem.W.findIn K (.ref C) "__init__" = some (some (.ref g))
  tyI : PySem.W.typeIn K (.ref g) = some (.type "function")
  mgC : mg x = some (.ref C)
section
variable {P : Program} {w : World} {K : PySem.W.Frag} {mg : Str → Option Value} {base : Heap}
def spExI (C : Addr) (f : Str) : Sp := fun vs H Q _ => ∃ (a : Addr) (y : V), vs = [.ref a, y] ∧ H a = some (exo a C none) ∧ ∀ d, H d = none → d ≠ a → Q .non (upd (upd H d (exd d [(f, y)])) a (exo a C (some d)))
theorem ok_eNm {x : Str} {C f : Addr} {fd : FuncData} (F : Fun K "__init__" "BadName.__init__" sENm f fd) (T : Erc K mg x "name" C f) : FnOk P w K mg base CX0 1 f fd ["self", "name"] (spExI C "name") := by
  refine F.ok scENm (fun vs H Q E h => ?_) (fun cdv A outer s H vs Q E hr h => ?_)
  · obtain ⟨a, y, rfl, _⟩ := h
    rfl
  · obtain ⟨a, y, rfl, ha, q⟩ := h
    exact ⟨_, pss_one (ps_ost (pv 0) (pv 1)), y, rfl, .ref a, rfl, a, C, rfl, T.oex, T.no, .inl ⟨ha, fun d nd ne => q d nd ne⟩⟩
theorem ok_eRw {x : Str} {C f : Addr} {fd : FuncData} (F : Fun K "__init__" "BadRow.__init__" sERw f fd) (T : Erc K mg x "at" C f) : FnOk P w K mg base CX0 1 f fd ["self", "at"] (spExI C "at") := by
  refine F.ok scERw (fun vs H Q E h => ?_) (fun cdv A outer s H vs Q E hr h => ?_)
  · obtain ⟨a, y, rfl, _⟩ := h
    rfl
  · obtain ⟨a, y, rfl, ha, q⟩ := h
    exact ⟨_, pss_one (ps_ost (pv 0) (pv 1)), y, rfl, .ref a, rfl, a, C, rfl, T.oex, T.no, .inl ⟨ha, fun d nd ne => q d nd ne⟩⟩
theorem ok_eOr {x : Str} {C f : Addr} {fd : FuncData} (F : Fun K "__init__" "BadOrder.__init__" sEOr f fd) (T : Erc K mg x "name" C f) : FnOk P w K mg base CX0 1 f fd ["self", "name"] (spExI C "name") := by
  refine F.ok scEOr (fun vs H Q E h => ?_) (fun cdv A outer s H vs Q E hr h => ?_)
  · obtain ⟨a, y, rfl, _⟩ := h
    rfl
  · obtain ⟨a, y, rfl, ha, q⟩ := h
    exact ⟨_, pss_one (ps_ost (pv 0) (pv 1)), y, rfl, .ref a, rfl, a, C, rfl, T.oex, T.no, .inl ⟨ha, fun d nd ne => q d nd ne⟩⟩
theorem ok_eTw {x : Str} {C f : Addr} {fd : FuncData} (F : Fun K "__init__" "Twice.__init__" sETw f fd) (T : Erc K mg x "name" C f) : FnOk P w K mg base CX0 1 f fd ["self", "name"] (spExI C "name") := by
  refine F.ok scETw (fun vs H Q E h => ?_) (fun cdv A outer s H vs Q E hr h => ?_)
  · obtain ⟨a, y, rfl, _⟩ := h
    rfl
  · obtain ⟨a, y, rfl, ha, q⟩ := h
    exact ⟨_, pss_one (ps_ost (pv 0) (pv 1)), y, rfl, .ref a, rfl, a, C, rfl, T.oex, T.no, .inl ⟨ha, fun d nd ne => q d nd ne⟩⟩
theorem ok_eTm {x : Str} {C f : Addr} {fd : FuncData} (F : Fun K "__init__" "TooMany.__init__" sETm f fd) (T : Erc K mg x "what" C f) : FnOk P w K mg base CX0 1 f fd ["self", "what"] (spExI C "what") := by
  refine F.ok scETm (fun vs H Q E h => ?_) (fun cdv A outer s H vs Q E hr h => ?_)
  · obtain ⟨a, y, rfl, _⟩ := h
    rfl
  · obtain ⟨a, y, rfl, ha, q⟩ := h
    exact ⟨_, pss_one (ps_ost (pv 0) (pv 1)), y, rfl, .ref a, rfl, a, C, rfl, T.oex, T.no, .inl ⟨ha, fun d nd ne => q d nd ne⟩⟩
/-- what a raise of such an error leaves -/
theorem ex_end {C a : Addr} {H : Hp} {f : Str} {y : V} {Q : XK} (na : H a = none) (q : ∀ d H', Same H H' → H' d = some (.xd [(f, y)]) → Q (.ref C) (some d) H') :
    spExI C f [.ref a, y] (upd H a (exo a C none)) (fun v H2 => v = .non ∧ ∃ (d : Addr) (fs : List (Str × V)), H2 a = some (exo a C (some d)) ∧ H2 d = some (exd d fs) ∧ H d = none ∧ Q (.ref C) (some d) (upd (del H2 a) d (.xd fs))) (fun _ _ _ => False) := by
  refine ⟨a, y, rfl, upd_same, fun d nd ne => ⟨rfl, d, [(f, y)], upd_same, by rw [upd_ne ne, upd_same], by rw [upd_ne ne] at nd; exact nd, q d _ (fun b o e => ?_) upd_same⟩⟩
  have n0 : H d = none := by
    rw [upd_ne ne] at nd
    exact nd
  have h1 : b ≠ d := ne_of_none e n0
  have h2 : b ≠ a := ne_of_none e na
  rw [upd_ne h1, del_ne h2, upd_ne h2, upd_ne h1, upd_ne h2]
  exact e
/-- q stands wrong behind p -/
def badPair (p q : Pi) : Bool := !q.nd && (p.nd || (decide (p.v ≠ .non) && decide (q.v = .non)))
def spOrder (K : PySem.W.Frag) (C CO : Addr) : Sp := fun vs H Q E => ∃ (tP : Addr) (as : List Addr) (is : List Pi), vs = [.ref tP] ∧ SqT K H tP (as.map V.ref) ∧ PsAt C H as is ∧ as.length ≤ 100 ∧
  (∀ H', Same H H' → (∀ (i : Nat) p q, is[i]? = some p → is[i + 1]? = some q → badPair p q = false) → Q .non H') ∧
  ∀ (i : Nat) p q, is[i]? = some p → is[i + 1]? = some q → badPair p q = true → (∀ (j : Nat) p q, j < i → is[j]? = some p → is[j + 1]? = some q → badPair p q = false) → ∀ d H', Same H H' → H' d = some (.xd [("name", .str q.nm)]) → E (.ref CO) (some d) H'
theorem ok_order {C CO f gO : Addr} {fd fdO : FuncData} (F : Fun K "check_order" "check_order" sOrder f fd) (W : Wds K mg) (T : Prm K mg C) (TO : Erc K mg "BadOrder" "name" CO gO)
    (GO : FnOk P w K mg base CX0 1 gO fdO ["self", "name"] (spExI CO "name")) (bO : Binds K fdO ["self", "name"] []) : FnOk P w K mg base (L2.CX P w) 3 f fd ["params"] (spOrder K C CO) := by
  refine F.okX scOrder (fun vs H Q E h => ?_) (fun cdv A outer s H vs Q E hr h => ?_)
  · obtain ⟨tP, as, is, rfl, _⟩ := h
    rfl
  · obtain ⟨tP, as, is, rfl, hP, hps, las, q0, q1⟩ := h
    refine ⟨_, pss_one (ps_for (passes_of rfl) rfl (RZ.pi_zipA (by rfl) W.zip (pa_cons (pv 0) (pa_cons (pe_slice sl_tail (pv 0) (po_some pe_int) po_none) pa_nil)))
        (pg_tup rfl (pgs_cons (pg_name (i := 1) scOrder.nd rfl (.inl rfl)) (pgs_cons (pg_name (i := 2) scOrder.nd rfl (.inl rfl)) pgs_nil)))
        (pss_one (ps_if (PW.pt (pw_and (pt_not (pt_val (pe_fld (pv 2) rfl))) (pw_and1 (PW.pt (pw_or (pt_val (pe_fld (pv 1) rfl)) (pw_or1 (PW.pt (pw_and (pt_cmpR op_notN (pe_fld (pv 1) rfl) pe_non (nomark _)) (pw_and1 (pt_cmpR op_isN (pe_fld (pv 2) rfl) pe_non (nomark _)))))))))))
          (pss_one (ps_raise rfl (takes_of rfl rfl rfl rfl) (pmk_oex TO.oex TO.init TO.tyI GO hr bO .nil pass0 (by rfl) TO.mgC (pa_cons (pe_fld (pv 2) rfl) pa_nil)))) pss_nil))), ?_⟩
    refine ⟨_, rfl, _, rfl, 1, rfl, rfl, rfl, tP, _, rfl, hP, fun b1 H1 s1 hb1 => ⟨tP, b1, as.map V.ref, (as.map V.ref).drop 1, rfl, .inr ⟨Same.seqT s1 hP, hb1, ?_⟩⟩⟩
    refine for_it (walk_zipT rfl) (fun i σ H3 => Same H1 H3 ∧ (∃ x y, σ = [some (.ref tP), x, y]) ∧ ∀ (j : Nat) p q, j < i → is[j]? = some p → is[j + 1]? = some q → badPair p q = false) ⟨Same.refl _, ⟨_, _, rfl⟩, fun j p q h => absurd h (Nat.not_lt_zero j)⟩ (fun _ _ _ _ h => ⟨Same.seqT (s1.trans h.1) hP, Same.seqT h.1 hb1⟩) ?_ ?_
    · rintro i y σ H3 H4 hi ⟨sm, ⟨x5, x6, rfl⟩, hall⟩ ⟨T', x, u, rfl, nT, rfl, e1, e2⟩
      have e1 := (show (as.map V.ref)[i]? = some x from e1)
      have e2 := (show ((as.map V.ref).drop 1)[i]? = some u from e2)
      rw [List.getElem?_drop, Nat.add_comm] at e2
      rw [List.getElem?_map] at e1 e2
      cases ha : as[i]? with
      | none =>
        rw [ha] at e1
        cases e1
      | some a =>
        cases hb : as[i + 1]? with
        | none =>
          rw [hb] at e2
          cases e2
        | some b =>
          rw [ha] at e1
          rw [hb] at e2
          obtain rfl := Option.some.inj e1
          obtain rfl := Option.some.inj e2
          obtain ⟨p, hp, dx, hA⟩ := hps.2 i a ha
          obtain ⟨q, hq, dy, hB⟩ := hps.2 (i + 1) b hb
          have sT := same_upd (o := .tup [.ref a, .ref b]) nT
          have ss := (s1.trans sm).trans sT
          have hA := ss _ _ hA
          have hB := ss _ _ hB
          have next : badPair p q = false → ∀ (j : Nat) p q, j < i + 1 → is[j]? = some p → is[j + 1]? = some q → badPair p q = false := fun h j p' q' hj h1 h2 => by
            by_cases e : j < i
            · exact hall j p' q' e h1 h2
            · obtain rfl : j = i := by omega
              rw [hp] at h1
              rw [hq] at h2
              obtain rfl := Option.some.inj h1
              obtain rfl := Option.some.inj h2
              exact h
          have bad : badPair p q = true → _ := fun h => q1 i p q hp hq h hall
          refine ⟨T', _, rfl, .inl (.inl upd_same), rfl, _, _, rfl, _, _, rfl, rfl, ?_⟩
          have raise : badPair p q = true → ∀ (H9 : Hp), H9 = upd H3 T' (.tup [.ref a, .ref b]) → 1 ≤ 1000 ∧ ∀ z, H9 z = none → spExI CO "name" [.ref z, .str q.nm] (upd H9 z (exo z CO none)) (fun v H2 => v = .non ∧ ∃ (d : Addr) (fs : List (Str × V)), H2 z = some (exo z CO (some d)) ∧ H2 d = some (exd d fs) ∧ H9 d = none ∧ E (.ref CO) (some d) (upd (del H2 z) d (.xd fs))) (fun _ _ _ => False) := fun h H9 e => by
            subst e
            exact ⟨by decide, fun z nz => ex_end nz fun d H' s' hd => bad h d H' (ss.trans s') hd⟩
          have ebp : badPair p q = (!q.nd && (p.nd || (decide (p.v ≠ .non) && decide (q.v = .non)))) := rfl
          refine ⟨_, rfl, b, C, dy, _, _, rfl, hB, T.cl, T.nA, pF_named, _, rfl, ?_⟩
          cases hqn : q.nd with
          | true =>
            refine iteF ⟨sm.trans sT, ⟨_, _, rfl⟩, next ?_⟩
            rw [ebp, hqn]
            rfl
          | false =>
            refine iteT ?_
            refine ⟨_, rfl, a, C, dx, _, _, rfl, hA, T.cl, T.nA, pF_named, _, rfl, ?_⟩
            cases hpn : p.nd with
            | true =>
              refine iteT ⟨_, rfl, b, C, dy, _, _, rfl, hB, T.cl, T.nN, pF_name, raise ?_ _ rfl⟩
              rw [ebp, hqn, hpn]
              rfl
            | false =>
              refine iteF ⟨_, rfl, a, C, dx, _, _, rfl, hA, T.cl, T.nD, pF_default, rfl, _, rfl, ?_⟩
              by_cases hv : p.v = .non
              · rw [decide_eq_true hv]
                refine iteF ⟨sm.trans sT, ⟨_, _, rfl⟩, next ?_⟩
                rw [ebp, hqn, hpn, decide_eq_false (fun h => h hv)]
                rfl
              · rw [decide_eq_false hv]
                refine iteT ⟨_, rfl, b, C, dy, _, _, rfl, hB, T.cl, T.nD, pF_default, rfl, _, rfl, ?_⟩
                by_cases hw : q.v = .non
                · rw [decide_eq_true hw]
                  refine iteT ⟨_, rfl, b, C, dy, _, _, rfl, hB, T.cl, T.nN, pF_name, raise ?_ _ rfl⟩
                  rw [ebp, hqn, hpn, decide_eq_true hv, decide_eq_true hw]
                  rfl
                · rw [decide_eq_false hw]
                  refine iteF ⟨sm.trans sT, ⟨_, _, rfl⟩, next ?_⟩
                  rw [ebp, hqn, hpn, decide_eq_false hw, Bool.and_false]
                  rfl
    · rintro σ H3 ⟨sm, ⟨x5, x6, rfl⟩, hall⟩
      refine q0 _ (s1.trans sm) fun i p q h1 h2 => hall i p q ?_ h1 h2
      have l1 := (List.getElem?_eq_some_iff.mp h2).1
      have l2 := hps.1
      show i < min (as.map V.ref).length ((as.map V.ref).drop 1).length
      rw [List.length_drop, List.length_map]
      omega
end
end Dr
namespace Dr
open PySem PySem.Spec PyProof.Rows L2
abbrev sMI : Stmt := inClass (topS 34) 3
abbrev sMOf : Stmt := inClass (topS 34) 4
abbrev nMI : List Str := ["self", "name", "rows", "returns", "params", "again", "at", "param"]
abbrev psMI : List Str := (["self", "name", "rows", "returns"] : List Str) ++ (["params"] : List Str)
theorem scMI : FnScope nMI psMI (defScope sMI) := ⟨rfl, rfl, rfl, by decide +kernel, rfl, by decide +kernel, by decide +kernel⟩
theorem scMOf : FnScope ["cls", "name", "params", "rows", "returns"] ["cls", "name", "params", "rows", "returns"] (defScope sMOf) := ⟨rfl, rfl, rfl, by decide +kernel, rfl, by decide +kernel, by decide +kernel⟩
/-- what stands of the class Method -/
structure Mtd (K : PySem.W.Frag) (mg : Str → Option Value) (C : Addr) (mc : Value) : Prop where
  cl : Cls K C
  nN : NoAttr K C "name"
  nP : NoAttr K C "params"
  nR : NoAttr K C "rows"
  nX : NoAttr K C "returns"
  mgC : mg "Method" = some (.ref C)
  rd : ClX.CRead K C mc
  k1 : ∃ u, ClX.CVal K C mc "MOST_PARAMS" (.int 4) u
  k2 : ∃ u, ClX.CVal K C mc "MOST_BOXES" (.int 2) u
  k3 : ∃ u, ClX.CVal K C mc "MOST_ROWS" (.int 8) u
def mF (vn vp vr vx : V) : List (Str × V) := putF "returns" vx (putF "rows" vr (putF "params" vp (putF "name" vn [])))
section
variable {P : Program} {w : World} {K : PySem.W.Frag} {mg : Str → Option Value} {base : Heap}
def errC (H : Hp) (E : XK) (c : Addr) (f : Str) (v : V) : Prop := ∀ d H', Same H H' → H' d = some (.xd [(f, v)]) → E (.ref c) (some d) H'
structure MErr where
  nm : Addr
  tw : Addr
  od : Addr
  tm : Addr
  rw : Addr
/-- what a method's making asks of its caller, case by case -/
def spMI (K : PySem.W.Frag) (CM CP : Addr) (x : MErr) : Sp := fun vs H Q E => ∃ (p dx tX tP : Addr) (vn vr : V) (dn dr : PyData) (as : List Addr) (is : List Pi), vs = [.ref p, vn, vr, .ref tX, .ref tP] ∧ H p = some (.ins CM dx []) ∧ (Dp K H vn dn ∧ OkD dn) ∧ Dp K H vr dr ∧ SqT K H tP (as.map V.ref) ∧ PsAt CP H as is ∧ as.length ≤ 100 ∧ SqT K H tX [.str "none"] ∧
  ((isNameD dn = false ∧ errC H E x.nm "name" vn) ∨ (isNameD dn = true ∧
    ((∃ (i : Nat) (z : Str), (is.map Pi.nm)[i]? = some z ∧ z ∈ (is.map Pi.nm).take i ∧ (∀ j, j < i → NewAt [] (is.map Pi.nm) j) ∧ errC H E x.tw "name" (.str z)) ∨ ((∀ j, NewAt [] (is.map Pi.nm) j) ∧
      ((∃ (i : Nat) (a b : Pi), is[i]? = some a ∧ is[i + 1]? = some b ∧ badPair a b = true ∧ (∀ (j : Nat) p q, j < i → is[j]? = some p → is[j + 1]? = some q → badPair p q = false) ∧ errC H E x.od "name" (.str b.nm)) ∨ ((∀ (i : Nat) p q, is[i]? = some p → is[i + 1]? = some q → badPair p q = false) ∧
        ((4 < as.length ∧ errC H E x.tm "what" (.str "params")) ∨ (as.length ≤ 4 ∧
          ((2 < (holding "box" is).length ∧ errC H E x.tm "what" (.str "boxes")) ∨ ((holding "box" is).length ≤ 2 ∧
            ((isTupD dr = false ∧ errC H E x.rw "at" (.int (-1))) ∨ (isTupD dr = true ∧ ∃ (tR : Addr) (rows : List V) (bs : Nat → Bool), vr = .ref tR ∧ SqT K H tR rows ∧ rows.length ≤ 100 ∧ (∀ (i : Nat) (y : V), rows[i]? = some y → RowOk K H (holding "box" is) y (bs i)) ∧
              ((∃ i : Nat, i < rows.length ∧ bs i = false ∧ (∀ j, j < i → bs j = true) ∧ errC H E x.rw "at" (.int i)) ∨ ((∀ i, i < rows.length → bs i = true) ∧
                ((8 < rows.length ∧ errC H E x.tm "what" (.str "rows")) ∨ (rows.length ≤ 8 ∧ ∀ H', (∀ b o, b ≠ p → H b = some o → H' b = some o) → H' p = some (.ins CM dx (mF vn (.ref tP) vr (.ref tX))) → Q .non H'))))))))))))))))
theorem errC.go {H H1 : Hp} {E : XK} {c : Addr} {f : Str} {v : V} (h : errC H E c f v) (s : Same H H1) : 1 ≤ 1000 ∧ ∀ a, H1 a = none → spExI c f [.ref a, v] (upd H1 a (exo a c none)) (fun v H2 => v = .non ∧ ∃ (d : Addr) (fs : List (Str × V)), H2 a = some (exo a c (some d)) ∧ H2 d = some (exd d fs) ∧ H1 d = none ∧ E (.ref c) (some d) (upd (del H2 a) d (.xd fs))) (fun _ _ _ => False) :=
  ⟨by decide, fun _ na => ex_end na fun d H' s' hd => h d H' (s.trans s') hd⟩
theorem RowOk.same {H H' : Hp} {us : List Str} {x : V} {b : Bool} (h : RowOk K H us x b) (s : Same H H') : RowOk K H' us x b := by
  obtain ⟨va, xs, ds, fm, e, hR, hh, hu⟩ := h
  exact ⟨va, xs, ds, fm, e, hR.same s, hh, hu⟩
abbrev FM (K : PySem.W.Frag) (kws : List (Str × V)) (f : Addr) (fd : FuncData) : Prop := FunD K "__init__" "Method.__init__" (defArgs sMI) (defBody sMI) (defScope sMI) [] kws f fd
theorem ok_mi {kB : Nat} {CM CP f fN fA fO fB gN gT gO gM gR : Addr} {mc : Value} {fd fdN fdA fdO fdB fdGN fdGT fdGM fdGR : FuncData} {kws : List (Str × V)} {x : MErr} (F : FM K kws f fd) (W : Wds K mg) (hany : mg "any" = none) (T : Prm K mg CP) (TM : Mtd K mg CM mc)
    (GN : FnOk P w K mg base CX0 1 fN fdN ["thing"] (spAsk K isNameD)) (mN : mg "is_name" = some (.ref fN)) (kN : PySem.W.keepIn K (.ref fN) = true) (bN : Binds K fdN ["thing"] [])
    (GA : FnOk P w K mg base CX0 1 fA fdA ["names", "taken"] (spAgain K)) (mA : mg "first_again" = some (.ref fA)) (kA : PySem.W.keepIn K (.ref fA) = true) (bA : Binds K fdA ["names", "taken"] [])
    (GO : FnOk P w K mg base (L2.CX P w) 3 fO fdO ["params"] (spOrder K CP x.od)) (mO : mg "check_order" = some (.ref fO)) (kO : PySem.W.keepIn K (.ref fO) = true) (bO : Binds K fdO ["params"] [])
    (GB : FnOk P w K mg base CX0 kB fB fdB ["params", "rows", "returns"] (spFirst K CP)) (mB : mg "first_bad_row" = some (.ref fB)) (kkB : PySem.W.keepIn K (.ref fB) = true) (bB : Binds K fdB ["params", "rows", "returns"] [])
    (EN : Erc K mg "BadName" "name" x.nm gN) (GEN : FnOk P w K mg base CX0 1 gN fdGN ["self", "name"] (spExI x.nm "name")) (bEN : Binds K fdGN ["self", "name"] [])
    (ET : Erc K mg "Twice" "name" x.tw gT) (GET : FnOk P w K mg base CX0 1 gT fdGT ["self", "name"] (spExI x.tw "name")) (bET : Binds K fdGT ["self", "name"] [])
    (EM : Erc K mg "TooMany" "what" x.tm gM) (GEM : FnOk P w K mg base CX0 1 gM fdGM ["self", "what"] (spExI x.tm "what")) (bEM : Binds K fdGM ["self", "what"] [])
    (ER : Erc K mg "BadRow" "at" x.rw gR) (GER : FnOk P w K mg base CX0 1 gR fdGR ["self", "at"] (spExI x.rw "at")) (bER : Binds K fdGR ["self", "at"] []) (h3 : 3 ≤ kB) :
    FnK P w K mg base (L2.CX P w) (kB + 1) f ["rows", "returns"] (fun vs zs H Q E => ∃ xs rest, vs = xs ++ rest ∧ xs.length = 2 ∧ rest.length ≤ sizeLine ∧ ∀ p, H p = Option.none → spMI K CM CP x ((xs ++ zs) ++ [V.ref p]) (upd H p (.tup rest)) Q E) := by
  obtain ⟨oc, od, dV, kV, doc, pm, an, cdv, ct, osl, rfl, lk, hcd, hD, hK⟩ := F.ex
  refine fn_starK (n := 2) (ps := ["self", "name", "rows", "returns"]) (pv := "params") (g := fun xs ys => xs ++ ys) (sp := spMI K CM CP x) lk hcd scMI StX.cxUp (fun xs ys h1 h2 => by rw [List.length_append, h1, h2]; rfl) (fun r1 r2 => r1.append r2) (fun us rest ws h1 h2 M A E s Q KX h => ?_) (fun A outer s H vs Q E hr h => ?_)
  · match us, ws, h1, h2 with
    | [a, b], [c, d], _, _ =>
      rcases hD with ⟨_, rfl⟩ | ⟨e, _⟩
      · have e : bindArgs (PySem.W.fnOf "__init__" "Method.__init__" (defArgs sMI) (defBody sMI) (defScope sMI) .none kV doc pm an cdv ct) ⟨[a, b] ++ rest, (["rows", "returns"] : List Str).zip [c, d]⟩ = (newTuple rest >>= fun t => pure ((["self", "name", "rows", "returns"] : List Str).zip ([a, b] ++ [c, d]) ++ [(("params" : Str), t)])) := by
          cases rest <;> rfl
        rw [e]
        exact wpAny_bind (wpAny_mono h (fun t s' q => wpAny_pure q) (fun _ _ z => z))
      · exact absurd rfl e
  · obtain ⟨p, dx, tX, tP, vn, vr, dn, dr, as, is, rfl, hp, ⟨hn, okn⟩, hvr, hP, hps, las, hX, h⟩ := h
    have hr1 : Room 1 _ := hr.mono (by omega)
    have hr2 : Room 2 _ := hr.mono (by omega)
    have hr3 : Room 3 _ := hr.mono (by omega)
    refine ⟨_, pss_cons (ps_if (pt_not (pt_val (pe_call GN hr1 (by rfl) mN kN bN .nil pass0 (pa_cons (pv 1) pa_nil)))) (pss_one (ps_raise rfl (takes_of rfl rfl rfl rfl) (pmk_oex EN.oex EN.init EN.tyI GEN hr2 bEN .nil pass0 (by rfl) EN.mgC (pa_cons (pv 1) pa_nil)))) pss_nil)
      (pss_cons (ps_set (i := 5) scMI.nd rfl (.inl rfl) (pe_call GA hr1 (by rfl) mA kA bA .nil pass0 (pa_cons
          (pe_lc (own := [("param", 7)]) (g := gName 7) (tt := tYes) rfl scMI.nd (pi_tup (pv 4)) (blkOk_by (N := nMI) (sc := defScope sMI) (by decide +kernel)) (fun _ _ _ _ _ => pg_name (i := 7) scMI.nd rfl (Or.inl rfl)) (fun _ _ _ _ _ => pts_nil) (fun _ _ _ _ _ => (show PE _ _ (tFld K (tVar 7) "name") from pe_fld (pv 7) rfl)))
          (pa_cons (pe_tup pa_nil) pa_nil))))
      (pss_cons (ps_if (pt_cmpR op_notN (pv 5) pe_non (nomark _)) (pss_one (ps_raise rfl (takes_of rfl rfl rfl rfl) (pmk_oex ET.oex ET.init ET.tyI GET hr2 bET .nil pass0 (by rfl) ET.mgC (pa_cons (pv 5) pa_nil)))) pss_nil)
      (pss_cons (ps_expr (pe_call GO hr3 (by rfl) mO kO bO .nil (passes_call (takes_of rfl rfl rfl rfl) (fun _ _ _ _ h => h)) (pa_cons (pv 4) pa_nil)))
      (pss_cons (ps_if (pt_cmpR op_gt (pe_callB call_len_seq (by rfl) W.len PySem.boot_len (pa_cons (pv 4) pa_nil)) (ClX.pe_cval (pe_glob (v := .ref CM) (by rfl) TM.mgC rfl)) (nomark _)) (pss_one (ps_raise rfl (takes_of rfl rfl rfl rfl) (pmk_oex EM.oex EM.init EM.tyI GEM hr2 bEM .nil pass0 (by rfl) EM.mgC (pa_cons pe_str pa_nil)))) pss_nil)
      (pss_cons (ps_if (pt_cmpR op_gt (pe_callB call_len_seq (by rfl) W.len PySem.boot_len (pa_cons
            (pe_lc (own := [("param", 7)]) (g := gName 7) rfl scMI.nd (pi_tup (pv 4)) (blkOk_by (N := nMI) (sc := defScope sMI) (by decide +kernel)) (fun _ _ _ _ _ => pg_name (i := 7) scMI.nd rfl (Or.inl rfl)) (fun _ _ _ _ _ => pts_one (pt_cmpR op_eq (show PE _ _ (tFld K (tVar 7) "holds") from pe_fld (pv 7) rfl) pe_str (nomark _))) (fun _ _ _ _ _ => pv 7)) pa_nil))
            (ClX.pe_cval (pe_glob (v := .ref CM) (by rfl) TM.mgC rfl)) (nomark _)) (pss_one (ps_raise rfl (takes_of rfl rfl rfl rfl) (pmk_oex EM.oex EM.init EM.tyI GEM hr2 bEM .nil pass0 (by rfl) EM.mgC (pa_cons pe_str pa_nil)))) pss_nil)
      (pss_cons (ps_if (pt_not (pt_val (pe_callB call_isi (by rfl) W.isi (by decide +kernel) (pa_cons (pv 2) (pa_cons (pe_bltn (v := .ty "tuple") (by rfl) W.tup (by decide +kernel) rfl) pa_nil))))) (pss_one (ps_raise rfl (takes_of rfl rfl rfl rfl) (pmk_oex ER.oex ER.init ER.tyI GER hr2 bER .nil pass0 (by rfl) ER.mgC (pa_cons (pe_un un_neg pe_int) pa_nil)))) pss_nil)
      (pss_cons (ps_set (i := 6) scMI.nd rfl (.inl rfl) (pe_call GB hr (by rfl) mB kkB bB .nil pass0 (pa_cons (pv 4) (pa_cons (pv 2) (pa_cons (pv 3) pa_nil)))))
      (pss_cons (ps_if (pt_cmpR op_notN (pv 6) pe_non (nomark _)) (pss_one (ps_raise rfl (takes_of rfl rfl rfl rfl) (pmk_oex ER.oex ER.init ER.tyI GER hr2 bER .nil pass0 (by rfl) ER.mgC (pa_cons (pv 6) pa_nil)))) pss_nil)
      (pss_cons (ps_if (pt_cmpR op_gt (pe_callB call_len_seq (by rfl) W.len PySem.boot_len (pa_cons (pv 2) pa_nil)) (ClX.pe_cval (pe_glob (v := .ref CM) (by rfl) TM.mgC rfl)) (nomark _)) (pss_one (ps_raise rfl (takes_of rfl rfl rfl rfl) (pmk_oex EM.oex EM.init EM.tyI GEM hr2 bEM .nil pass0 (by rfl) EM.mgC (pa_cons pe_str pa_nil)))) pss_nil)
      (pss_cons (ps_fld (pv 0) (pv 1) rfl) (pss_cons (ps_fld (pv 0) (pv 4) rfl) (pss_cons (ps_fld (pv 0) (pv 2) rfl) (pss_one (ps_fld (pv 0) (pv 3) rfl)))))))))))))), ?_⟩
    refine ⟨_, rfl, vn, dn, rfl, hn, okn, fun H1 s1 => ⟨_, rfl, ?_⟩⟩
    rcases h with ⟨e0, c0⟩ | ⟨e0, h⟩
    · rw [e0]
      exact iteT ⟨_, rfl, c0.go s1⟩
    rw [e0]
    refine iteF ?_
    -- the names
    refine ⟨_, rfl, tP, rfl, ⟨_, Same.seqT s1 hP⟩, fun D hD => ?_⟩
    refine lc_it walk_tup (fun i H3 => Same H1 H3 ∧ H3 D = some (.lst (((is.map Pi.nm).take i).map V.str))) ⟨same_upd hD, upd_same⟩ (fun _ _ _ h => Same.seqT (s1.trans h.1) hP) ?_ ?_
    · rintro i y H3 H4 hi ⟨sm, hl⟩ ⟨rfl, e1⟩
      rw [List.getElem?_map] at e1
      cases ha : as[i]? with
      | none =>
        rw [ha] at e1
        cases e1
      | some a =>
        rw [ha] at e1
        obtain rfl := Option.some.inj e1
        obtain ⟨q, hq, dy, hat⟩ := hps.2 i a ha
        have hat := sm _ _ (s1 _ _ hat)
        refine ⟨rfl, ?_⟩
        unfold tYes
        refine iteT ⟨_, rfl, a, CP, dy, _, _, rfl, hat, T.cl, T.nN, pF_name, _, hl, ?_, same_grow sm hD, ?_⟩
        · rw [List.length_map, List.length_take, List.length_map]
          have := hps.1
          exact small1000 (by omega)
        · rw [upd_same, List.take_add_one, List.getElem?_map, hq, List.map_append]
          rfl
    rintro H2 ⟨sm2, hl2⟩
    rw [List.length_map, hps.1, List.take_of_length_le (by rw [List.length_map]; exact Nat.le_refl _)] at hl2
    refine ⟨by show 0 ≤ sizeLine; decide, fun t nt => ?_⟩
    have st := same_upd (o := .tup []) nt
    have s2 := (s1.trans sm2).trans st
    have hlen : (is.map Pi.nm).length ≤ 1000 := by
      rw [List.length_map, ← hps.1]
      omega
    rcases h with ⟨i, z, hz, hin, hall, c1⟩ | ⟨hnew, h⟩
    · refine ⟨D, t, is.map Pi.nm, [], rfl, SqL.of (st _ _ hl2), .inr (SqT.of upd_same), hlen, fun H3 s3 hn => absurd hin (hn i z hz).2, fun H3 j y s3 hy hin2 hall2 => ?_⟩
      have hij : i = j := by
        rcases Nat.lt_trichotomy i j with h | h | h
        · exact absurd hin (hall2 i h z hz).2
        · exact h
        · rcases hin2 with h2 | h2
          · cases h2
          · exact absurd h2 (hall j h y hy).2
      subst hij
      rw [hz] at hy
      obtain rfl := Option.some.inj hy
      exact ⟨_, rfl, rfl, _, rfl, iteT ⟨_, rfl, c1.go (s2.trans s3)⟩⟩
    refine ⟨D, t, is.map Pi.nm, [], rfl, SqL.of (st _ _ hl2), .inr (SqT.of upd_same), hlen, fun H3 s3 _ => ?_, fun H3 j y s3 hy hin2 hall2 => ?_⟩
    case refine_2 =>
      rcases hin2 with h2 | h2
      · cases h2
      · exact absurd h2 (hnew j y hy).2
    refine ⟨_, rfl, rfl, _, rfl, iteF ?_⟩
    have s3 := s2.trans s3
    -- the order
    rcases h with ⟨i, a, b, h1, h2, hb, hall, c2⟩ | ⟨hord, h⟩
    · refine ⟨_, rfl, tP, as, is, rfl, Same.seqT s3 hP, hps.same s3, las, fun H4 s4 hn => absurd hb (by rw [hn i a b h1 h2]; simp), fun j p' q' g1 g2 gb gall d H4 s4 hd => ?_⟩
      have hij : i = j := by
        rcases Nat.lt_trichotomy i j with h | h | h
        · exact absurd hb (by rw [gall i a b h h1 h2]; simp)
        · exact h
        · exact absurd gb (by rw [hall j p' q' h g1 g2]; simp)
      subst hij
      rw [h2] at g2
      obtain rfl := Option.some.inj g2
      exact c2 d H4 (s3.trans s4) hd
    refine ⟨_, rfl, tP, as, is, rfl, Same.seqT s3 hP, hps.same s3, las, fun H4 s4 _ => ?_, fun j p' q' g1 g2 gb gall d H4 s4 hd => absurd gb (by rw [hord j p' q' g1 g2]; simp)⟩
    have s4 := s3.trans s4
    -- how many
    obtain ⟨u4, hu4⟩ := TM.k1
    obtain ⟨u2, hu2⟩ := TM.k2
    obtain ⟨u8, hu8⟩ := TM.k3
    refine ⟨_, rfl, tP, _, rfl, .inr (Same.seqT s4 hP), CM, mc, .int 4, u4, rfl, TM.rd, hu4, _, _, rfl, rfl, _, rfl, ?_⟩
    rw [List.length_map]
    rcases h with ⟨hlt, c3⟩ | ⟨hle, h⟩
    · rw [decide_eq_true (show (as.length : Int) > 4 by omega)]
      exact iteT (c3.go s4)
    rw [decide_eq_false (show ¬ (as.length : Int) > 4 by omega)]
    refine iteF ?_
    -- the boxes
    refine ⟨_, rfl, tP, rfl, ⟨_, Same.seqT s4 hP⟩, fun D2 hD2 => ?_⟩
    refine lc_it walk_tup (fun i H5 => Same H4 H5 ∧ ∃ vs, H5 D2 = some (.lst vs) ∧ vs.length = (holding "box" (is.take i)).length) ⟨same_upd hD2, [], upd_same, rfl⟩ (fun _ _ _ h => Same.seqT (s4.trans h.1) hP) ?_ ?_
    · rintro i y H5 H6 hi ⟨sm, vs, hl, hvl⟩ ⟨rfl, e1⟩
      rw [List.getElem?_map] at e1
      cases ha : as[i]? with
      | none =>
        rw [ha] at e1
        cases e1
      | some a =>
        rw [ha] at e1
        obtain rfl := Option.some.inj e1
        obtain ⟨q, hq, dy, hat⟩ := hps.2 i a ha
        have hat := sm _ _ (s4 _ _ hat)
        refine ⟨rfl, _, rfl, a, CP, dy, _, _, rfl, hat, T.cl, T.nH, pF_holds, rfl, _, rfl, ?_⟩
        by_cases hw : q.hs = "box"
        · rw [decide_eq_true (by rw [hw])]
          refine iteT ⟨_, rfl, _, hl, ?_, same_grow sm hD2, _, upd_same, ?_⟩
          · have g1 := holding_len "box" (is.take i)
            rw [List.length_take] at g1
            have := hps.1
            exact small1000 (by omega)
          · rw [holding_next hq, if_pos hw, List.length_append, List.length_append, hvl]
            rfl
        · rw [decide_eq_false (fun e => hw (V.str.inj e))]
          refine iteF ⟨sm, vs, hl, ?_⟩
          rw [holding_next hq, if_neg hw, List.append_nil, hvl]
    rintro H5 ⟨sm5, vs5, hl5, hvl5⟩
    rw [List.length_map, hps.1, List.take_length] at hvl5
    have s5 := s4.trans sm5
    refine ⟨D2, _, rfl, .inl (SqL.of hl5), CM, mc, .int 2, u2, rfl, TM.rd, hu2, _, _, rfl, rfl, _, rfl, ?_⟩
    rw [hvl5]
    rcases h with ⟨hlt, c3⟩ | ⟨hle2, h⟩
    · rw [decide_eq_true (show ((holding "box" is).length : Int) > 2 by omega)]
      exact iteT (c3.go s5)
    rw [decide_eq_false (show ¬ ((holding "box" is).length : Int) > 2 by omega)]
    refine iteF ?_
    -- a tuple of rows
    refine ⟨_, rfl, vr, .ty "tuple", _, _, _, rfl, .ty _, dp_ty (dp_same s5 hvr), kit_tup dr, _, rfl, ?_⟩
    rcases h with ⟨ht, c4⟩ | ⟨ht, tR, rows, bs, rfl, hRs, lrs, hrow, h⟩
    · rw [ht]
      exact iteT ⟨1, rfl, c4.go s5⟩
    rw [ht]
    refine iteF ?_
    -- the rows
    rcases h with ⟨i, hi, hb, hall, c5⟩ | ⟨hgood, h⟩
    · refine ⟨_, rfl, _, rfl, _, rfl, tP, tR, tX, as, is, rows, bs, rfl, Same.seqT s5 hP, hps.same s5, las, Same.seqT s5 hRs, lrs, fun j y e => (hrow j y e).same s5, Same.seqT s5 hX, fun H6 s6 hn => absurd (hn i hi) (by rw [hb]; simp), fun H6 j s6 hj gb gall => ?_⟩
      have hij : i = j := by
        rcases Nat.lt_trichotomy i j with h | h | h
        · exact absurd (gall i h) (by rw [hb]; simp)
        · exact h
        · exact absurd (hall j h) (by rw [gb]; simp)
      subst hij
      exact ⟨_, rfl, rfl, _, rfl, iteT ⟨_, rfl, c5.go (s5.trans s6)⟩⟩
    refine ⟨_, rfl, _, rfl, _, rfl, tP, tR, tX, as, is, rows, bs, rfl, Same.seqT s5 hP, hps.same s5, las, Same.seqT s5 hRs, lrs, fun j y e => (hrow j y e).same s5, Same.seqT s5 hX, fun H6 s6 _ => ?_, fun H6 j s6 hj gb _ => absurd (hgood j hj) (by rw [gb]; simp)⟩
    refine ⟨_, rfl, rfl, _, rfl, iteF ?_⟩
    have s6 := s5.trans s6
    refine ⟨_, rfl, tR, _, rfl, .inr (Same.seqT s6 hRs), CM, mc, .int 8, u8, rfl, TM.rd, hu8, _, _, rfl, rfl, _, rfl, ?_⟩
    rcases h with ⟨hlt, c3⟩ | ⟨hle8, q⟩
    · rw [decide_eq_true (show (rows.length : Int) > 8 by omega)]
      exact iteT (c3.go s6)
    rw [decide_eq_false (show ¬ (rows.length : Int) > 8 by omega)]
    refine iteF ?_
    have hp6 := s6 _ _ hp
    refine ⟨_, rfl, _, rfl, p, CM, dx, _, rfl, hp6, TM.cl, TM.nN, (by show 0 < 1000; decide), ?_⟩
    refine ⟨_, rfl, _, rfl, p, CM, dx, _, rfl, upd_same, TM.cl, TM.nP, ?_, ?_⟩
    · exact Nat.lt_of_le_of_lt (putF_len _ _ _) (by show 1 < 1000; decide)
    refine ⟨_, rfl, _, rfl, p, CM, dx, _, rfl, upd_same, TM.cl, TM.nR, ?_, ?_⟩
    · exact Nat.lt_of_le_of_lt (Nat.le_trans (putF_len _ _ _) (Nat.succ_le_succ (putF_len _ _ _))) (by show 2 < 1000; decide)
    refine ⟨_, rfl, _, rfl, p, CM, dx, _, rfl, upd_same, TM.cl, TM.nX, ?_, ?_⟩
    · exact Nat.lt_of_le_of_lt (Nat.le_trans (putF_len _ _ _) (Nat.succ_le_succ (Nat.le_trans (putF_len _ _ _) (Nat.succ_le_succ (putF_len _ _ _))))) (by show 3 < 1000; decide)
    refine q _ (fun b o n e => ?_) upd_same
    rw [upd_ne n, upd_ne n, upd_ne n, upd_ne n]
    exact s6 _ _ e
end
end Dr
namespace Dr
open PySem PySem.Spec PyProof.Rows L2
abbrev psMOf : List Str := ["cls", "name", "params", "rows", "returns"]
abbrev kwMOf (aE aX : Addr) : List (Str × V) := [("rows", .ref aE), ("returns", .ref aX)]
abbrev FMOf (K : PySem.W.Frag) (aE aX : Addr) (f : Addr) (fd : FuncData) : Prop := FunD K "of" "Method.of" (defArgs sMOf) (defBody sMOf) (defScope sMOf) [] (kwMOf aE aX) f fd
/-- Method.of(name, params, rows = r) -/
theorem bind_of {K : PySem.W.Frag} {aE aX f : Addr} {fd : FuncData} (F : FMOf K aE aX f fd) : ∃ mv : List Value, KBn K fd psMOf 3 ["rows"] (fun us ws => us ++ (ws ++ mv)) (fun vs zs => vs ++ (zs ++ [V.ref aX])) := by
  exact F.kbinds0 (ps := psMOf) 3 ["rows"] [("returns", .ref aX)] (fun us mv ws => us ++ (ws ++ mv)) (by simp) (fun q hq => by
      rcases List.mem_cons.mp hq with e | hq
      · rw [e]; simp
      · cases hq) (fun r1 r2 r3 => r1.append (r3.append r2))
    (fun D doc pm an cdv ct us mv ws l1 l2 l3 => match us, mv, ws, l1, l2, l3 with | [_, _, _], [_], [_], _, _, _ => ⟨_, _, _, _, _, _, rfl, rfl, rfl⟩)
section
variable {P : Program} {w : World} {K : PySem.W.Frag} {mg : Str → Option Value} {base : Heap}
def spMOf (K : PySem.W.Frag) (CM CP : Addr) (x : MErr) : Sp := fun vs H Q E => ∃ (vn : V) (aL : Addr) (vr : V) (tX : Addr) (as : List Addr), vs = [.ref CM, vn, .ref aL, vr, .ref tX] ∧ (SqT K H aL (as.map V.ref) ∨ SqL K H aL (as.map V.ref)) ∧ as.length ≤ 100 ∧
  ∀ p dx tP H1, Same H H1 → H1 p = some (.ins CM dx []) → H1 tP = some (.tup (as.map V.ref)) → H p = none → spMI K CM CP x [.ref p, vn, vr, .ref tX, .ref tP] H1 (fun v H3 => v = .non ∧ Q (.ref p) H3) E
theorem ok_mof {k : Nat} {CM CP f fI aE aX : Addr} {fd : FuncData} {x : MErr} (F : FMOf K aE aX f fd) (M : Mk K CM fI)
    (GI : FnK P w K mg base (L2.CX P w) k fI ["rows", "returns"] (fun vs zs H Q E => ∃ xs rest, vs = xs ++ rest ∧ xs.length = 2 ∧ rest.length ≤ sizeLine ∧ ∀ p, H p = Option.none → spMI K CM CP x ((xs ++ zs) ++ [V.ref p]) (upd H p (.tup rest)) Q E)) :
    FnOk P w K mg base (L2.CX P w) (k + 2) f fd psMOf (spMOf K CM CP x) := by
  refine F.ok scMOf (fun vs H Q E h => ?_) (fun cdv A outer s H vs Q E hr h => ?_)
  · obtain ⟨vn, aL, vr, tX, as, rfl, _⟩ := h
    rfl
  · obtain ⟨vn, aL, vr, tX, as, rfl, hL, las, q⟩ := h
    refine ⟨_, pss_one (ps_ret (pe_clsSK M GI hr (pv 0) (fun σ => passAt (takes_of rfl rfl rfl rfl) σ) (pa_cons (pv 1) (StX.pa_star (pv 2) pa_nil)) (pk_cons (pv 3) (pk_cons (pv 4) pk_nil)))), ?_⟩
    refine ⟨_, rfl, rfl, _, rfl, _, rfl, aL, as.map V.ref, rfl, hL, _, rfl, _, rfl, rfl, fun p dx hp hdx ne => ?_⟩
    refine ⟨[.ref p, vn], as.map V.ref, ?_, rfl, ?_, fun tP hT => ?_⟩
    · show [V.ref p, vn] ++ (as.map V.ref ++ []) = _
      rw [List.append_nil]
    · rw [List.length_map]
      exact Nat.le_of_lt (small1000 (by omega))
    · have hp2 : (upd H dx (.own p)) p = none := by
        rw [upd_ne ne.symm]
        exact hp
      have s1 : Same H (upd (upd H dx (.own p)) p (.ins CM dx [])) := (same_upd hdx).trans (same_upd hp2)
      have sT := same_upd (o := .tup (as.map V.ref)) hT
      exact q p dx tP _ (s1.trans sT) (sT _ _ upd_same) upd_same hp
end
end Dr
namespace Dr
open PySem PySem.Spec PyProof.Rows L2
open SX (S S_len S_cat)
theorem ltCps_tri : ∀ a b : List Nat, ltCps b a = false → a ≠ b → ltCps a b = true
  | [], [], _, n => absurd rfl n
  | [], _ :: _, _, _ => rfl
  | _ :: _, [], h, _ => by cases h
  | x :: r, y :: t, h, n => by
    have h' : ¬ y < x ∧ ((y == x) = true → ltCps t r = false) := by
      have q : (decide (y < x) || (y == x && ltCps t r)) = false := h
      rw [Bool.or_eq_false_iff] at q
      refine ⟨of_decide_eq_false q.1, fun e => ?_⟩
      have q2 := q.2
      rw [e] at q2
      exact q2
    show (decide (x < y) || (x == y && ltCps r t)) = true
    by_cases e : x = y
    · subst e
      have ih := ltCps_tri r t (h'.2 (beq_self_eq_true _)) (fun z => n (by rw [z]))
      rw [ih]
      simp
    · rw [decide_eq_true (show x < y by omega)]
      rfl
theorem asc_of : ∀ ys : List Str, sortedS ys = true → ys.Nodup → ascS ys = true
  | [], _, _ => rfl
  | [_], _, _ => rfl
  | x :: y :: r, h, n => by
    have h' : (!ltCps y.cps.toList x.cps.toList) = true ∧ risingS y r = true := by
      have q : (!ltCps y.cps.toList x.cps.toList && risingS y r) = true := h
      rw [Bool.and_eq_true] at q
      exact q
    have hne : x.cps.toList ≠ y.cps.toList := fun e => by
      have : x = y := by
        rw [← SX.S_tl x, ← SX.S_tl y, e]
      rw [List.nodup_cons] at n
      exact n.1 (by rw [this]; exact List.mem_cons_self ..)
    have hlt : ltS x y = true := by
      unfold ltS
      rw [← ltCps_eq]
      exact ltCps_tri _ _ (by simpa using h'.1) hne
    show (ltS x y && ascS (y :: r)) = true
    rw [hlt, asc_of (y :: r) h'.2 (List.nodup_cons.mp n).2]
    rfl
/-- a drawn default: none, a mark, items, a seat -/
inductive Df where
  | non
  | mk (o : List Nat)
  | its (w : Str) (zs : List Str)
  | seat (w o : Str) (x : List Nat)
def Df.data : Df → PyData
  | .non => .none
  | .mk o => .tuple [.str "mark", .str (S o)]
  | .its w zs => .tuple [.str w, .tuple (zs.map PyData.str)]
  | .seat w o x => .tuple [.str w, .str o, .str (S x)]
def DfAt (H : Hp) (v : V) : Df → Prop
  | .non => v = .non
  | .mk o => ∃ t, v = .ref t ∧ H t = some (.tup [.str "mark", .str (S o)])
  | .its w zs => ∃ t u, v = .ref t ∧ H t = some (.tup [.str w, .ref u]) ∧ H u = some (.tup (zs.map V.str))
  | .seat w o x => ∃ t, v = .ref t ∧ H t = some (.tup [.str w, .str o, .str (S x)])
structure SmS (z : Str) : Prop where
  ok : PyData.strOk z = true
  sm : z.length ≤ 1000
structure ItsOk (zs : List Str) : Prop where
  nm : ∀ z ∈ zs, nameOk z = true
  sm : ∀ z ∈ zs, SmS z
  asc : ascS zs = true
  len : zs.length ≤ 20
def Df.ok (hs : Str) : Df → Prop
  | .non => True
  | .mk o => hs = "mark" ∧ GoodN o
  | .its w zs => hs = "box" ∧ (w = "once" ∨ w = "anew") ∧ ItsOk zs
  | .seat w o x => hs = "box" ∧ ((w = "early" ∧ ∃ oc, o = S oc ∧ GoodN oc) ∨ (w = "late" ∧ (o = "cls" ∨ ∃ oc, o = S oc ∧ GoodN oc))) ∧ GoodN x
theorem sms_good {cs : List Nat} (g : GoodN cs) : SmS (S cs) := by
  refine ⟨?_, by rw [S_len]; have := g.hi; omega⟩
  unfold PyData.strOk
  rw [← Array.all_toList]
  refine List.all_eq_true.mpr fun c hc => ?_
  have q := List.all_eq_true.mp g.low c hc
  unfold lowC at q
  rw [Bool.and_eq_true] at q
  have := of_decide_eq_true q.2
  exact decide_eq_true (by omega)
theorem okD_sms {z : Str} (h : SmS z) : OkD (.str z) := by
  refine ⟨?_, decide_eq_true h.sm⟩
  show (PyData.strOk z && decide (0 ≤ 64)) = true
  rw [h.ok]
  rfl
theorem canAll_strs : ∀ {zs : List Str}, (∀ z ∈ zs, SmS z) → PyData.canLayAll0 (zs.map PyData.str) = true ∧ smAll (zs.map PyData.str) = true ∧ PyData.depthAll (zs.map PyData.str) = 0
  | [], _ => ⟨rfl, rfl, rfl⟩
  | z :: r, h => by
    have ih := canAll_strs (zs := r) fun x hx => h x (List.mem_cons_of_mem _ hx)
    have hz := h z (List.mem_cons_self ..)
    refine ⟨?_, ?_, ?_⟩
    · show (PyData.strOk z && PyData.canLayAll0 (r.map PyData.str)) = true
      rw [hz.ok, ih.1]
      rfl
    · show (decide (z.length ≤ 1000) && smAll (r.map PyData.str)) = true
      rw [decide_eq_true hz.sm, ih.2.1]
      rfl
    · show max 0 (PyData.depthAll (r.map PyData.str)) = 0
      rw [ih.2.2]
      rfl
theorem okD_strs {zs : List Str} (h : ∀ z ∈ zs, SmS z) (hl : zs.length ≤ 1000) : OkD (.tuple (zs.map PyData.str)) := by
  obtain ⟨h1, h2, h3⟩ := canAll_strs h
  refine ⟨?_, ?_⟩
  · show (PyData.canLayAll0 (zs.map PyData.str) && decide (PyData.depthAll (zs.map PyData.str) + 1 ≤ 64)) = true
    rw [h1, h3]
    rfl
  · show (decide ((zs.map PyData.str).length ≤ 1000) && smAll (zs.map PyData.str)) = true
    rw [h2, List.length_map, decide_eq_true hl]
    rfl
theorem sms_lit {z : Str} (h : (PyData.strOk z && decide (z.length ≤ 1000)) = true) : SmS z := by
  rw [Bool.and_eq_true] at h
  exact ⟨h.1, of_decide_eq_true h.2⟩
theorem Df.okD {hs : Str} : ∀ {f : Df}, f.ok hs → OkD f.data
  | .non, _ => ⟨rfl, rfl⟩
  | .mk o, h => okD_strs (zs := ["mark", S o]) (fun z hz => by
      rcases List.mem_cons.mp hz with e | hz
      · exact e ▸ sms_lit (by decide +kernel)
      · rcases List.mem_cons.mp hz with e | hz
        · exact e ▸ sms_good h.2
        · cases hz) (by show 2 ≤ 1000; decide)
  | .its w zs, h => by
    obtain ⟨_, hw, hz⟩ := h
    have hw' : SmS w := by
      rcases hw with e | e <;> (rw [e]; exact sms_lit (by decide +kernel))
    have q := okD_strs hz.sm (by have := hz.len; omega)
    refine ⟨?_, ?_⟩
    · have h1 := SeqAt.canLay_of_shaped q.sh
      have h3 := (canAll_strs hz.sm).2.2
      show ((PyData.strOk w && (PyData.canLay0 (.tuple (zs.map PyData.str)) && true)) && decide (max 0 (max (PyData.depthAll (zs.map PyData.str) + 1) 0) + 1 ≤ 64)) = true
      rw [hw'.ok, h1, h3]
      rfl
    · show (decide (2 ≤ 1000) && (decide (w.length ≤ 1000) && (smD (.tuple (zs.map PyData.str)) && true))) = true
      rw [decide_eq_true hw'.sm, q.sm]
      rfl
  | .seat w o x, h => by
    obtain ⟨_, hw, hx⟩ := h
    have hw' : SmS w := by
      rcases hw with ⟨e, _⟩ | ⟨e, _⟩ <;> (rw [e]; exact sms_lit (by decide +kernel))
    have ho : SmS o := by
      rcases hw with ⟨_, oc, e, g⟩ | ⟨_, e | ⟨oc, e, g⟩⟩
      · rw [e]; exact sms_good g
      · rw [e]; exact sms_lit (by decide +kernel)
      · rw [e]; exact sms_good g
    exact okD_strs (zs := [w, o, S x]) (fun z hz => by
      rcases List.mem_cons.mp hz with e | hz
      · exact e ▸ hw'
      · rcases List.mem_cons.mp hz with e | hz
        · exact e ▸ ho
        · rcases List.mem_cons.mp hz with e | hz
          · exact e ▸ sms_good hx
          · cases hz) (by show 3 ≤ 1000; decide)
theorem DfAt.dp {K : PySem.W.Frag} {H : Hp} {v : V} : ∀ {f : Df}, DfAt H v f → Dp K H v f.data
  | .non, h => by
    obtain rfl := h
    exact .non
  | .mk o, ⟨t, e, h⟩ => by
    subst e
    exact .tup (.inl (.inl h)) (.cons (.str _) (.cons (.str _) .nil))
  | .its w zs, ⟨t, u, e, h, h2⟩ => by
    subst e
    exact .tup (.inl (.inl h)) (.cons (.str _) (.cons (.tup (.inl (.inl h2)) (dpAll_strs zs)) .nil))
  | .seat w o x, ⟨t, e, h⟩ => by
    subst e
    exact .tup (.inl (.inl h)) (.cons (.str _) (.cons (.str _) (.cons (.str _) .nil)))
theorem items_ok {zs : List Str} (h : ItsOk zs) : isItemsD (.tuple (zs.map PyData.str)) = true := by
  show ((zs.map PyData.str).all isNameD && (match strsOf (zs.map PyData.str) with | some zs => ascS zs | none => false)) = true
  rw [strsOf_map]
  have e : (zs.map PyData.str).all isNameD = true := by
    rw [List.all_map]
    exact List.all_eq_true.mpr fun z hz => h.nm z hz
  rw [e]
  exact h.asc
def hitF (n : Nat) (w : Str) (f : Form) : Bool := match f with
  | w' :: q => (n == q.length) && (w == w')
  | [] => false
theorem form_hd {n : Nat} {w : Str} {ds : List PyData} {fs : List Form} {f : Form} (hn : ds.length = n) (h : fs.find? (hitF n w) = some f) : formOf (.tuple (.str w :: ds)) fs = some f := by
  unfold formOf
  subst hn
  have e : fits (.tuple (.str w :: ds)) = hitF ds.length w := by
    funext f
    cases f <;> rfl
  rw [e]
  exact h
theorem S0_item (d : PyData) : S0 d "item" = isNameD d := by
  unfold S0
  rw [if_neg (by decide +kernel), if_neg (by decide +kernel)]
theorem S0_kind (d : PyData) : S0 d "kind" = isNameD d := by
  unfold S0
  rw [if_neg (by decide +kernel), if_neg (by decide +kernel)]
theorem S0_value (d : PyData) : S0 d "value" = isNameD d := by
  unfold S0
  rw [if_neg (by decide +kernel), if_neg (by decide +kernel)]
theorem S0_items (d : PyData) : S0 d "items" = isItemsD d := if_pos rfl
theorem S0_owner (d : PyData) : S0 d "owner" = isOwnerD d := by
  unfold S0
  rw [if_neg (by decide +kernel), if_pos rfl]
theorem has1 {d d1 : PyData} {w s1 : Str} {fs : List Form} (h : formOf (.tuple [.str w, d1]) fs = some [w, s1]) : hasForm S0 (.tuple [.str w, d1]) fs = S0 d1 s1 := by
  unfold hasForm
  rw [h]
  show (S0 d1 s1 && true) = _
  rw [Bool.and_true]
theorem has2 {d1 d2 : PyData} {w s1 s2 : Str} {fs : List Form} (h : formOf (.tuple [.str w, d1, d2]) fs = some [w, s1, s2]) : hasForm S0 (.tuple [.str w, d1, d2]) fs = (S0 d1 s1 && S0 d2 s2) := by
  unfold hasForm
  rw [h]
  show (S0 d1 s1 && (S0 d2 s2 && true)) = _
  rw [Bool.and_true]
theorem isDef_box (d : PyData) : isDefD d "box" = hasForm S0 d boxForms := if_neg (by decide +kernel)
theorem isDef_mark (d : PyData) : isDefD d "mark" = hasForm S0 d markForms := if_pos rfl
theorem Df.isDef {hs : Str} : ∀ {f : Df}, f.ok hs → f.data = .none ∨ isDefD f.data hs = true
  | .non, _ => .inl rfl
  | .mk o, h => .inr (by
    obtain ⟨rfl, g⟩ := h
    rw [isDef_mark]
    show hasForm S0 (.tuple [.str "mark", .str (S o)]) markForms = true
    rw [has1 (d := .none) (s1 := "item") (form_hd (n := 1) rfl (by decide +kernel)), S0_item]
    exact g.ok)
  | .its w zs, h => .inr (by
    obtain ⟨rfl, hw, hz⟩ := h
    rw [isDef_box]
    show hasForm S0 (.tuple [.str w, .tuple (zs.map PyData.str)]) boxForms = true
    have e := items_ok hz
    rcases hw with rfl | rfl <;> (rw [has1 (d := .none) (s1 := "items") (form_hd (n := 1) rfl (by decide +kernel)), S0_items]; exact e))
  | .seat w o x, h => .inr (by
    obtain ⟨rfl, hw, hx⟩ := h
    rw [isDef_box]
    show hasForm S0 (.tuple [.str w, .str o, .str (S x)]) boxForms = true
    rcases hw with ⟨rfl, oc, rfl, g⟩ | ⟨rfl, ho⟩
    · rw [has2 (s1 := "kind") (s2 := "value") (form_hd (n := 2) rfl (by decide +kernel)), S0_kind, S0_value]
      show (nameOk (S oc) && nameOk (S x)) = true
      rw [g.ok, hx.ok]
      rfl
    · rw [has2 (s1 := "owner") (s2 := "value") (form_hd (n := 2) rfl (by decide +kernel)), S0_owner, S0_value]
      have ho' : isOwnerD (.str o) = true := by
        rcases ho with rfl | ⟨oc, rfl, g⟩
        · rfl
        · show ((S oc) == ("cls" : Str) || nameOk (S oc)) = true
          rw [g.ok, Bool.or_true]
      show (isOwnerD (.str o) && nameOk (S x)) = true
      rw [ho', hx.ok]
      rfl)
end Dr
namespace Dr
open PySem PySem.Spec PyProof.Rows L2
open SX (S S_len S_cat)
abbrev sLP : Stmt := topS 41
theorem scLP : FnScope ["_law_bag_here", "_law_names_here", "_law_faults", "_law_listed", "_law_turn"] ["_law_bag_here", "_law_names_here", "_law_faults"] (defScope sLP) := ⟨rfl, rfl, rfl, by decide +kernel, rfl, by decide +kernel, by decide +kernel⟩
/-- tuples stay -/
def TupE (H H' : Hp) : Prop := ∀ b xs, H b = some (.tup xs) → H' b = some (.tup xs)
theorem TupE.trans {H H1 H2 : Hp} (a : TupE H H1) (b : TupE H1 H2) : TupE H H2 := fun c xs e => b c xs (a c xs e)
theorem TupE.same {H H' : Hp} (s : Same H H') : TupE H H' := fun c xs e => s _ _ e
theorem TupE.kp {p : Addr} {H H' : Hp} (hB : Bag H p) (k : Kp p H H') : TupE H H' := fun c xs e => k.1 _ _ (fun z => by
  obtain ⟨u, v, hp, _⟩ := hB
  rw [z, hp] at e
  cases e) e
theorem TupE.grow {H : Hp} {l : Addr} {us ys : List V} (hl : H l = some (.lst us)) : TupE H (upd H l (.lst ys)) := fun c xs e => by
  rw [upd_ne (fun z => by rw [z, hl] at e; cases e)]
  exact e
/-- a drawn default stands: none, a mark, an empty box made once -/
def DfV (H : Hp) (v : V) (hs : Str) : Prop := v = .non ∨ (hs = "mark" ∧ ∃ t c, v = .ref t ∧ GoodN c ∧ H t = some (.tup [.str "mark", .str (S c)])) ∨ (hs = "box" ∧ ∃ t e, v = .ref t ∧ H t = some (.tup [.str "once", .ref e]) ∧ H e = some (.tup []))
theorem DfV.ext {H H' : Hp} {v : V} {hs : Str} (h : DfV H v hs) (s : TupE H H') : DfV H' v hs := by
  rcases h with h | ⟨a, t, c, b, g, e⟩ | ⟨a, t, e, b, e1, e2⟩
  · exact .inl h
  · exact .inr (.inl ⟨a, t, c, b, g, s _ _ e⟩)
  · exact .inr (.inr ⟨a, t, e, b, s _ _ e1, s _ _ e2⟩)
/-- a row (name, holds, default, named) stands at t -/
structure RowT (H : Hp) (t : Addr) (r : Pi) : Prop where
  at_ : H t = some (.tup [.str r.nm, .str r.hs, r.v, .bl r.nd])
  nm : ∃ cs, r.nm = S cs ∧ GoodN cs
  hs : r.hs = "mark" ∨ r.hs = "box"
  df : DfV H r.v r.hs
theorem RowT.ext {H H' : Hp} {t : Addr} {r : Pi} (h : RowT H t r) (s : TupE H H') : RowT H' t r := ⟨s _ _ h.at_, h.nm, h.hs, h.df.ext s⟩
def RowsT (H : Hp) (ts : List Addr) (is : List Pi) : Prop := ts.length = is.length ∧ ∀ (i : Nat) (t : Addr), ts[i]? = some t → ∃ r, is[i]? = some r ∧ RowT H t r
theorem RowsT.ext {H H' : Hp} {ts : List Addr} {is : List Pi} (h : RowsT H ts is) (s : TupE H H') : RowsT H' ts is := ⟨h.1, fun i t e => let ⟨r, a, b⟩ := h.2 i t e; ⟨r, a, b.ext s⟩⟩
theorem RowsT.snoc {H : Hp} {ts : List Addr} {is : List Pi} {t : Addr} {r : Pi} (h : RowsT H ts is) (ht : RowT H t r) : RowsT H (ts ++ [t]) (is ++ [r]) := ⟨by rw [List.length_append, List.length_append, h.1]; rfl, fun i u e => by
  by_cases hi : i < ts.length
  · rw [List.getElem?_append_left hi] at e
    obtain ⟨q, a, b⟩ := h.2 i u e
    exact ⟨q, by rw [List.getElem?_append_left (by have := h.1; omega)]; exact a, b⟩
  · rw [List.getElem?_append_right (by omega)] at e
    have h0 : i - ts.length = 0 := by
      by_cases h0 : i - ts.length = 0
      · exact h0
      · rw [List.getElem?_eq_none (by show 1 ≤ _; omega)] at e
        cases e
    rw [h0] at e
    obtain rfl := Option.some.inj e
    have := h.1
    exact ⟨r, by rw [List.getElem?_append_right (by omega), show i - is.length = 0 by omega]; rfl, ht⟩⟩
/-- the rows is stand in the list at l, which is new -/
structure LsR (p l : Addr) (H0 H : Hp) (is : List Pi) : Prop where
  kp : Kp p H0 H
  nl : H0 l = none
  np : l ≠ p
  ex : ∃ ts : List Addr, H l = some (.lst (ts.map V.ref)) ∧ RowsT H ts is
theorem LsR.go {p l : Addr} {H0 H H' : Hp} {is : List Pi} (h : LsR p l H0 H is) (k : Kp p H H') : LsR p l H0 H' is := by
  obtain ⟨ts, e1, e2⟩ := h.ex
  exact ⟨h.kp.trans k, h.nl, h.np, ts, k.1 _ _ h.np e1, e2.ext (TupE.kp h.kp.2 k)⟩
theorem LsR.go2 {p l : Addr} {H0 H H' : Hp} {is : List Pi} (h : LsR p l H0 H is) (k : Same H H') : LsR p l H0 H' is := h.go (Kp.of h.kp.2 k)
/-- one row more -/
theorem LsR.add {p l t : Addr} {H0 H : Hp} {is : List Pi} {r : Pi} (h : LsR p l H0 H is) (nt : H t = none) (nm : ∃ cs, r.nm = S cs ∧ GoodN cs) (hs : r.hs = "mark" ∨ r.hs = "box") (df : DfV H r.v r.hs) (hl : is.length ≤ 900) :
    ∃ ts, (upd H t (.tup [.str r.nm, .str r.hs, r.v, .bl r.nd])) l = some (.lst ts) ∧ ts.length < sizeLine ∧ LsR p l H0 (upd (upd H t (.tup [.str r.nm, .str r.hs, r.v, .bl r.nd])) l (.lst (ts ++ [V.ref t]))) (is ++ [r]) := by
  obtain ⟨ts, e1, e2⟩ := h.ex
  have st := same_upd (o := .tup [.str r.nm, .str r.hs, r.v, .bl r.nd]) nt
  have h1 := st _ _ e1
  refine ⟨ts.map V.ref, h1, ?_, ?_⟩
  · rw [List.length_map, e2.1]
    exact small1000 (by omega)
  · have g := TupE.grow (ys := ts.map V.ref ++ [V.ref t]) h1
    refine ⟨⟨fun b o nb e => ?_, ?_⟩, h.nl, h.np, ts ++ [t], ?_, (e2.ext ((TupE.same st).trans g)).snoc ⟨g _ _ upd_same, nm, hs, df.ext ((TupE.same st).trans g)⟩⟩
    · rw [upd_ne (ne_of_none e h.nl)]
      exact st _ _ (h.kp.1 _ _ nb e)
    · obtain ⟨u, v, hp, hb⟩ := h.kp.2
      refine ⟨u, v, ?_, hb⟩
      rw [upd_ne h.np.symm]
      exact st _ _ hp
    · rw [upd_same, List.map_append]
      rfl
def row (c : List Nat) (hs : Str) (v : V) (nd : Bool) : Pi := ⟨S c, hs, v, nd⟩
end Dr
namespace Dr
open PySem PySem.Spec PyProof.Rows L2
open SX (S S_len S_cat)
abbrev inF (k f1 f2 : Int) : Bool := inV (.int k) [.int f1, .int f2]
theorem bag_ne {H : Hp} {p l : Addr} (hB : Bag H p) (nl : H l = none) : l ≠ p := fun e => by
  obtain ⟨u, v, hp, _⟩ := hB
  rw [e, hp] at nl
  cases nl
def nA (qs : List (List Nat)) (i : Nat) : List Nat := qs.getD i []
theorem nA_at {qs : List (List Nat)} (h : qs.length = 16) {i : Nat} (hi : i < 16) : (txts qs)[i]? = some (.str (S (nA qs i))) := by
  unfold txts nA
  rw [List.getElem?_map, List.getD_eq_getElem?_getD, List.getElem?_eq_getElem (by omega)]
  rfl
theorem nA_good {qs : List (List Nat)} (h : qs.length = 16) (g : ∀ c ∈ qs, GoodN c) {i : Nat} (hi : i < 16) : GoodN (nA qs i) := by
  unfold nA
  rw [List.getD_eq_getElem?_getD, List.getElem?_eq_getElem (by omega)]
  exact g _ (List.getElem_mem _)
def basis (qs : List (List Nat)) : List Pi := [row (nA qs 0) "mark" .non false, row (nA qs 1) "box" .non false]
def LP1 (qs : List (List Nat)) (b : Bool) (l : List Pi) : Prop := if b = true then ∃ c hs, (c = nA qs 0 ∨ c = nA qs 1) ∧ l = [row c hs .non false] else l = []
def LP2 (qs : List (List Nat)) (b : Bool) (l : List Pi) : Prop := if b = true then (∃ v, l = [row (nA qs 2) "mark" .non true, row (nA qs 3) "mark" v false]) ∨ (∃ t hs, l = [row (nA qs 2) "mark" (.ref t) false, row (nA qs 3) hs .non false]) else l = []
def LP3 (qs : List (List Nat)) (b : Bool) (l : List Pi) : Prop := if b = true then ∃ m, 3 ≤ m ∧ m ≤ 4 ∧ l = (List.range m).map (fun i => row (nA qs (9 + i)) "mark" .non true) else l = []
def LP4 (qs : List (List Nat)) (b : Bool) (l : List Pi) : Prop := if b = true then ∃ v w, l = [row (nA qs 14) "box" v true, row (nA qs 15) "box" w true] else l = []
def F4 (qs : List (List Nat)) : Nat → List Pi → Prop
  | 0, l => l = []
  | 1, l => ∃ v, l = [row (nA qs 14) "box" v true]
  | _ + 2, l => ∃ v w, l = [row (nA qs 14) "box" v true, row (nA qs 15) "box" w true]
section
variable {P : Program} {w : World} {K : PySem.W.Frag} {mg : Str → Option Value} {base : Heap}
def spLP (K : PySem.W.Frag) : Sp := fun vs H Q _ => ∃ (p q fa : Addr) (qs : List (List Nat)) (f1 f2 : Int), vs = [.ref p, .ref q, .ref fa] ∧ Bag H p ∧ q ≠ p ∧ fa ≠ p ∧ H q = some (.lst (txts qs)) ∧ qs.length = 16 ∧ (∀ c ∈ qs, GoodN c) ∧ H fa = some (.lst [.int f1, .int f2]) ∧
  ∀ H' l l1 l2 l3 l4, LsR p l H H' (basis qs ++ l1 ++ l2 ++ l3 ++ l4) → LP1 qs (inF 1 f1 f2) l1 → LP2 qs (inF 2 f1 f2) l2 → LP3 qs (inF 3 f1 f2) l3 → LP4 qs (inF 4 f1 f2) l4 → Q (.ref l) H'
theorem ok_lp {f fT fO : Addr} {fd fdT fdO : FuncData} (F : Fun K "_law_params" "_law_params" sLP f fd) (hra : mg "range" = none)
    (GT : FnOk P w K mg base CX0 1 fT fdT ["_law_bag_here", "_law_many"] spTake) (mT : mg "_law_take" = some (.ref fT)) (kT : PySem.W.keepIn K (.ref fT) = true) (bT : Binds K fdT ["_law_bag_here", "_law_many"] [])
    (GO : FnOk P w K mg base CX0 2 fO fdO ["_law_bag_here", "_law_some"] (spOf K)) (mO : mg "_law_of" = some (.ref fO)) (kO : PySem.W.keepIn K (.ref fO) = true) (bO : Binds K fdO ["_law_bag_here", "_law_some"] []) :
    FnOk P w K mg base CX0 3 f fd ["_law_bag_here", "_law_names_here", "_law_faults"] (spLP K) := by
  refine F.ok scLP (fun vs H Q E h => ?_) (fun cdv A outer s H vs Q E hr h => ?_)
  · obtain ⟨p, q, fa, qs, f1, f2, rfl, _⟩ := h
    rfl
  · obtain ⟨p, q, fa, qs, f1, f2, rfl, hB, nqp, nfp, hq, hl16, hgood, hfa, fin⟩ := h
    have hr1 : Room 1 _ := hr.mono (by decide)
    have hr2 : Room 2 _ := hr.mono (by decide)
    refine ⟨_, pss_cons (ps_set (i := 3) scLP.nd rfl (.inl rfl) (pe_lst (pa_cons (pe_tup (pa_cons (pe_ix ix_list (pv 1) pe_int (fun _ _ => rfl)) (pa_cons pe_str (pa_cons pe_non (pa_cons pe_bl pa_nil))))) (pa_cons (pe_tup (pa_cons (pe_ix ix_list (pv 1) pe_int (fun _ _ => rfl)) (pa_cons pe_str (pa_cons pe_non (pa_cons pe_bl pa_nil))))) pa_nil))))
      (C8.pss_cut (ps_if (pt_cmpR op_in_seq pe_int (pv 2) rfl) (pss_one (ps_expr (pe_bm PySem.F.plainAttrs_list PySem.F.slot_list_append PySem.F.type_list_append mt_append (pv 3) (pa_cons (pe_tup (pa_cons (pe_call GO hr2 (by rfl) mO kO bO .nil pass0 (pa_cons (pv 0) (pa_cons (pe_slice sl_list (pv 1) po_none (po_some pe_int)) pa_nil))) (pa_cons (pe_call GO hr2 (by rfl) mO kO bO .nil pass0 (pa_cons (pv 0) (pa_cons (pe_lst (pa_cons pe_str (pa_cons pe_str pa_nil))) pa_nil))) (pa_cons pe_non (pa_cons pe_bl pa_nil))))) pa_nil)))) pss_nil)
      (C8.pss_cut (ps_if (pt_cmpR op_in_seq pe_int (pv 2) rfl) (pss_one (ps_if (pt_cmpR op_eq (pe_call GT hr1 (by rfl) mT kT bT .nil pass0 (pa_cons (pv 0) (pa_cons pe_int pa_nil))) pe_int (nomark _)) (pss_cons (ps_expr (pe_bm PySem.F.plainAttrs_list PySem.F.slot_list_append PySem.F.type_list_append mt_append (pv 3) (pa_cons (pe_tup (pa_cons (pe_ix ix_list (pv 1) pe_int (fun _ _ => rfl)) (pa_cons pe_str (pa_cons pe_non (pa_cons pe_bl pa_nil))))) pa_nil))) (pss_one (ps_expr (pe_bm PySem.F.plainAttrs_list PySem.F.slot_list_append PySem.F.type_list_append mt_append (pv 3) (pa_cons (pe_tup (pa_cons (pe_ix ix_list (pv 1) pe_int (fun _ _ => rfl)) (pa_cons pe_str (pa_cons (pe_call GO hr2 (by rfl) mO kO bO .nil pass0 (pa_cons (pv 0) (pa_cons (pe_lst (pa_cons pe_non (pa_cons (pe_tup (pa_cons pe_str (pa_cons (pe_ix ix_list (pv 1) pe_int (fun _ _ => rfl)) pa_nil))) pa_nil))) pa_nil))) (pa_cons pe_bl pa_nil))))) pa_nil))))) (pss_cons (ps_expr (pe_bm PySem.F.plainAttrs_list PySem.F.slot_list_append PySem.F.type_list_append mt_append (pv 3) (pa_cons (pe_tup (pa_cons (pe_ix ix_list (pv 1) pe_int (fun _ _ => rfl)) (pa_cons pe_str (pa_cons (pe_tup (pa_cons pe_str (pa_cons (pe_ix ix_list (pv 1) pe_int (fun _ _ => rfl)) pa_nil))) (pa_cons pe_bl pa_nil))))) pa_nil))) (pss_one (ps_expr (pe_bm PySem.F.plainAttrs_list PySem.F.slot_list_append PySem.F.type_list_append mt_append (pv 3) (pa_cons (pe_tup (pa_cons (pe_ix ix_list (pv 1) pe_int (fun _ _ => rfl)) (pa_cons (pe_call GO hr2 (by rfl) mO kO bO .nil pass0 (pa_cons (pv 0) (pa_cons (pe_lst (pa_cons pe_str (pa_cons pe_str pa_nil))) pa_nil))) (pa_cons pe_non (pa_cons pe_bl pa_nil))))) pa_nil))))))) pss_nil)
      (C8.pss_cut (ps_if (pt_cmpR op_in_seq pe_int (pv 2) rfl) (pss_one (ps_for PassesOwn.never rfl (pi_range1 rfl hra (pa_cons (pe_op op_add pe_int (pe_call GT hr1 (by rfl) mT kT bT .nil pass0 (pa_cons (pv 0) (pa_cons pe_int pa_nil)))) pa_nil)) (pg_name (i := 4) scLP.nd rfl (.inl rfl)) (pss_one (ps_expr (pe_bm PySem.F.plainAttrs_list PySem.F.slot_list_append PySem.F.type_list_append mt_append (pv 3) (pa_cons (pe_tup (pa_cons (pe_ix ix_list (pv 1) (pe_op op_add pe_int (pv 4)) (fun _ _ => rfl)) (pa_cons pe_str (pa_cons pe_non (pa_cons pe_bl pa_nil))))) pa_nil)))))) pss_nil)
      (C8.pss_cut (ps_if (pt_cmpR op_in_seq pe_int (pv 2) rfl) (pss_one (ps_for PassesOwn.never rfl (pi_range1 rfl hra (pa_cons pe_int pa_nil)) (pg_name (i := 4) scLP.nd rfl (.inl rfl)) (pss_one (ps_expr (pe_bm PySem.F.plainAttrs_list PySem.F.slot_list_append PySem.F.type_list_append mt_append (pv 3) (pa_cons (pe_tup (pa_cons (pe_ix ix_list (pv 1) (pe_op op_add pe_int (pv 4)) (fun _ _ => rfl)) (pa_cons pe_str (pa_cons (pe_call GO hr2 (by rfl) mO kO bO .nil pass0 (pa_cons (pv 0) (pa_cons (pe_lst (pa_cons pe_non (pa_cons (pe_tup (pa_cons pe_str (pa_cons (pe_tup pa_nil) pa_nil))) pa_nil))) pa_nil))) (pa_cons pe_bl pa_nil))))) pa_nil)))))) pss_nil)
      (pss_one (ps_ret (pv 3))))))), ?_⟩
    have at_ : ∀ {i : Nat}, i < 16 → atI (txts qs) ((i : Nat) : Int) = some (.str (S (nA qs i))) := fun hi => atI_nat (nA_at hl16 hi)
    have gd : ∀ {i : Nat}, i < 16 → ∃ cs, S (nA qs i) = S cs ∧ GoodN cs := fun hi => ⟨_, rfl, nA_good hl16 hgood hi⟩
    have SQ : ∀ {H' : Hp}, H' q = some (.lst (txts qs)) → SqL K H' q (txts qs) := fun h => SqL.of h
    refine ⟨_, rfl, q, _, 0, .str (S (nA qs 0)), rfl, rfl, SQ hq, at_ (by decide), by show 4 ≤ sizeLine; decide, fun t0 n0 => ?_⟩
    have s0 := same_upd (o := .tup [.str (S (nA qs 0)), .str "mark", .non, .bl false]) n0
    refine ⟨_, rfl, q, _, 1, .str (S (nA qs 1)), rfl, rfl, SQ (s0 _ _ hq), at_ (by decide), by show 4 ≤ sizeLine; decide, fun t1 n1 => ⟨two_le, fun l nl => ?_⟩⟩
    have s1 := same_upd (o := .tup [.str (S (nA qs 1)), .str "box", .non, .bl false]) n1
    have sl := same_upd (o := .lst [.ref t0, .ref t1]) nl
    have s01 := (s0.trans s1).trans sl
    have L0 : LsR p l H _ (basis qs) := ⟨Kp.of hB s01, (s0.trans s1).free nl, bag_ne (Kp.of hB (s0.trans s1)).2 nl, [t0, t1], upd_same, rfl, fun i t e => by
      match i, e with
      | 0, e =>
        obtain rfl := Option.some.inj e
        exact ⟨_, rfl, sl _ _ (s1 _ _ upd_same), gd (by decide), .inl rfl, .inl rfl⟩
      | 1, e =>
        obtain rfl := Option.some.inj e
        exact ⟨_, rfl, sl _ _ upd_same, gd (by decide), .inr rfl, .inl rfl⟩
      | _ + 2, e => simp at e⟩
    generalize (upd (upd (upd H t0 (.tup [.str (S (nA qs 0)), .str "mark", .non, .bl false])) t1 (.tup [.str (S (nA qs 1)), .str "box", .non, .bl false])) l (.lst [.ref t0, .ref t1])) = H1 at L0 ⊢
    have NQ : ∀ {H' : Hp} {is : List Pi}, LsR p l H H' is → H' q = some (.lst (txts qs)) := fun L => L.kp.1 _ _ nqp hq
    have NF : ∀ {H' : Hp} {is : List Pi}, LsR p l H H' is → H' fa = some (.lst [.int f1, .int f2]) := fun L => L.kp.1 _ _ nfp hfa
    have pick : ∀ {y : V}, y ∈ [V.str "mark", .str "box"] → ∃ hs : Str, y = .str hs ∧ (hs = "mark" ∨ hs = "box") := fun hy => by
      rcases List.mem_cons.mp hy with rfl | hy
      · exact ⟨_, rfl, .inl rfl⟩
      · rcases List.mem_cons.mp hy with rfl | hy
        · exact ⟨_, rfl, .inr rfl⟩
        · cases hy
    -- a name twice
    refine ⟨fun σ' H' => σ' = [some (.ref p), some (.ref q), some (.ref fa), some (.ref l), none] ∧ ∃ l1, LsR p l H H' (basis qs ++ l1) ∧ LP1 qs (inF 1 f1 f2) l1, ?_, fun σ' H' hM => ?_⟩
    · refine ⟨_, rfl, fa, _, rfl, .inl (SqL.of (NF L0)), rfl, rfl, _, rfl, ite2 (fun (k : inF 1 f1 f2 = true) => ?_) (fun (k : ¬ inF 1 f1 f2 = true) => ⟨rfl, [], by rw [List.append_nil]; exact L0, by unfold LP1; rw [if_neg k]⟩)⟩
      obtain ⟨ts, hl, _⟩ := L0.ex
      refine ⟨_, rfl, .inl ⟨rfl, _, SqL.of hl⟩, _, rfl, _, rfl, 2, rfl, q, _, rfl, SQ (NQ L0), fun lq nlq => ?_⟩
      have ec : cutV (txts qs) none (some 2) = (txts qs).take 2 := cut_take _ 2 (by unfold txts; rw [List.length_map]; omega)
      rw [ec]
      have sq := same_upd (o := .lst ((txts qs).take 2)) nlq
      have L1 := L0.go2 sq
      refine ⟨p, .ref lq, rfl, L1.kp.2, .inl ⟨lq, _, rfl, bag_ne L0.kp.2 nlq, SqL.of upd_same, ?_, ?_, fun H2 y k2 hy => ?_⟩⟩
      · unfold txts
        rw [List.length_take, List.length_map]
        omega
      · unfold txts
        rw [List.length_take, List.length_map]
        omega
      obtain ⟨c, rfl, hc⟩ : ∃ c, y = .str (S c) ∧ (c = nA qs 0 ∨ c = nA qs 1) := by
        obtain ⟨i, hi, e⟩ := List.getElem_of_mem hy
        have hi2 : i < 2 := by
          have := hi
          rw [List.length_take] at this
          omega
        have e2 : (txts qs)[i]? = some y := by
          rw [List.getElem_take] at e
          rw [← e]
          exact List.getElem?_eq_getElem _
        rw [nA_at hl16 (show i < 16 by omega)] at e2
        obtain rfl := Option.some.inj e2
        refine ⟨_, rfl, ?_⟩
        have : i = 0 ∨ i = 1 := by omega
        rcases this with rfl | rfl
        · exact .inl rfl
        · exact .inr rfl
      have L2 := L1.go k2
      refine ⟨_, rfl, two_le, fun lm nlm => ?_⟩
      have sm := same_upd (o := .lst [.str "mark", .str "box"]) nlm
      have L3 := L2.go2 sm
      refine ⟨p, .ref lm, rfl, L3.kp.2, .inl ⟨lm, _, rfl, bag_ne L2.kp.2 nlm, SqL.of upd_same, (by show 1 ≤ 2; decide), (by show 2 ≤ 1000; decide), fun H3 y3 k3 hy3 => ?_⟩⟩
      obtain ⟨hs, rfl, hhs⟩ := pick hy3
      have L4 := L3.go k3
      refine ⟨by show 4 ≤ sizeLine; decide, fun t nt => ?_⟩
      obtain ⟨ts4, g1, g2, g3⟩ := L4.add (r := row c hs .non false) nt (by rcases hc with rfl | rfl <;> exact gd (by decide)) hhs (.inl rfl) (by show 2 ≤ 900; decide)
      exact ⟨l, ts4, _, rfl, rfl, g1, g2, rfl, [row c hs .non false], g3, by unfold LP1; rw [if_pos k]; exact ⟨c, hs, hc, rfl⟩⟩
    obtain ⟨rfl, l1, L1, P1⟩ := hM
    have n1 : l1.length ≤ 1 := by
      unfold LP1 at P1
      split at P1
      · obtain ⟨c, hs, _, rfl⟩ := P1
        exact Nat.le_refl _
      · rw [P1]
        exact Nat.zero_le _
    -- out of order
    refine ⟨fun σ' H' => σ' = [some (.ref p), some (.ref q), some (.ref fa), some (.ref l), none] ∧ ∃ l2, LsR p l H H' (basis qs ++ l1 ++ l2) ∧ LP2 qs (inF 2 f1 f2) l2, ?_, fun σ' H' hM => ?_⟩
    · refine ⟨_, rfl, fa, _, rfl, .inl (SqL.of (NF L1)), rfl, rfl, _, rfl, ite2 (fun (k : inF 2 f1 f2 = true) => ?_) (fun (k : ¬ inF 2 f1 f2 = true) => ⟨rfl, [], by rw [List.append_nil]; exact L1, by unfold LP2; rw [if_neg k]⟩)⟩
      refine ⟨_, rfl, p, 2, rfl, L1.kp.2, by decide, by decide, fun H2 r k2 r0 r2 => ⟨rfl, _, rfl, ite2 (fun _ => ?_) (fun _ => ?_)⟩⟩
      · have L2 := L1.go k2
        obtain ⟨ts, hl, _⟩ := L2.ex
        refine ⟨_, rfl, .inl ⟨rfl, _, SqL.of hl⟩, _, rfl, q, _, 2, .str (S (nA qs 2)), rfl, rfl, SQ (NQ L2), at_ (by decide), by show 4 ≤ sizeLine; decide, fun t nt => ?_⟩
        obtain ⟨ts4, g1, g2, L3⟩ := L2.add (r := row (nA qs 2) "mark" .non true) nt (gd (by decide)) (.inl rfl) (.inl rfl) (by rw [List.length_append]; show 2 + l1.length ≤ 900; omega)
        refine ⟨l, ts4, _, rfl, rfl, g1, g2, ?_⟩
        obtain ⟨ts, hl, _⟩ := L3.ex
        refine ⟨_, rfl, .inl ⟨rfl, _, SqL.of hl⟩, _, rfl, q, _, 3, .str (S (nA qs 3)), rfl, rfl, SQ (NQ L3), at_ (by decide), _, rfl, _, rfl, q, _, 8, .str (S (nA qs 8)), rfl, rfl, SQ (NQ L3), at_ (by decide), two_le, fun tm ntm => ⟨two_le, fun lo nlo => ?_⟩⟩
        have s1 := same_upd (o := .tup [.str "mark", .str (S (nA qs 8))]) ntm
        have s2 := same_upd (o := .lst [.non, .ref tm]) nlo
        have L4 := (L3.go2 s1).go2 s2
        refine ⟨p, .ref lo, rfl, L4.kp.2, .inl ⟨lo, _, rfl, bag_ne (L3.go2 s1).kp.2 nlo, SqL.of upd_same, (by show 1 ≤ 2; decide), (by show 2 ≤ 1000; decide), fun H5 y k5 hy => ?_⟩⟩
        have L5 := L4.go k5
        have ht : H5 tm = some (.tup [.str "mark", .str (S (nA qs 8))]) := k5.1 _ _ (bag_ne L3.kp.2 ntm) (s2 _ _ upd_same)
        have dfv : DfV H5 y "mark" := by
          rcases List.mem_cons.mp hy with rfl | hy
          · exact .inl rfl
          · rcases List.mem_cons.mp hy with rfl | hy
            · exact .inr (.inl ⟨rfl, tm, _, rfl, nA_good hl16 hgood (by decide), ht⟩)
            · cases hy
        refine ⟨by show 4 ≤ sizeLine; decide, fun t nt => ?_⟩
        obtain ⟨ts4, g1, g2, L6⟩ := L5.add (r := row (nA qs 3) "mark" y false) nt (gd (by decide)) (.inl rfl) dfv (by rw [List.length_append, List.length_append]; show 2 + l1.length + 1 ≤ 900; omega)
        refine ⟨l, ts4, _, rfl, rfl, g1, g2, rfl, [row (nA qs 2) "mark" .non true, row (nA qs 3) "mark" y false], ?_, by unfold LP2; rw [if_pos k]; exact .inl ⟨y, rfl⟩⟩
        rw [List.append_assoc] at L6
        exact L6
      · have L2 := L1.go k2
        obtain ⟨ts, hl, _⟩ := L2.ex
        refine ⟨_, rfl, .inl ⟨rfl, _, SqL.of hl⟩, _, rfl, q, _, 2, .str (S (nA qs 2)), rfl, rfl, SQ (NQ L2), at_ (by decide), _, rfl, q, _, 8, .str (S (nA qs 8)), rfl, rfl, SQ (NQ L2), at_ (by decide), two_le, fun tm ntm => ?_⟩
        have s1 := same_upd (o := .tup [.str "mark", .str (S (nA qs 8))]) ntm
        have L3 := L2.go2 s1
        have htm := upd_same (H := H2) (a := tm) (o := .tup [.str "mark", .str (S (nA qs 8))])
        refine ⟨by show 4 ≤ sizeLine; decide, fun t nt => ?_⟩
        obtain ⟨ts4, g1, g2, L4⟩ := L3.add (r := row (nA qs 2) "mark" (.ref tm) false) nt (gd (by decide)) (.inl rfl) (.inr (.inl ⟨rfl, tm, _, rfl, nA_good hl16 hgood (by decide), htm⟩)) (by rw [List.length_append]; show 2 + l1.length ≤ 900; omega)
        refine ⟨l, ts4, _, rfl, rfl, g1, g2, ?_⟩
        obtain ⟨ts, hl, _⟩ := L4.ex
        refine ⟨_, rfl, .inl ⟨rfl, _, SqL.of hl⟩, _, rfl, q, _, 3, .str (S (nA qs 3)), rfl, rfl, SQ (NQ L4), at_ (by decide), _, rfl, two_le, fun lm nlm => ?_⟩
        have sm := same_upd (o := .lst [.str "mark", .str "box"]) nlm
        have L5 := L4.go2 sm
        refine ⟨p, .ref lm, rfl, L5.kp.2, .inl ⟨lm, _, rfl, bag_ne L4.kp.2 nlm, SqL.of upd_same, (by show 1 ≤ 2; decide), (by show 2 ≤ 1000; decide), fun H3 y3 k3 hy3 => ?_⟩⟩
        obtain ⟨hs, rfl, hhs⟩ := pick hy3
        have L6 := L5.go k3
        refine ⟨by show 4 ≤ sizeLine; decide, fun t2 nt2 => ?_⟩
        obtain ⟨ts5, g1, g2, L7⟩ := L6.add (r := row (nA qs 3) hs .non false) nt2 (gd (by decide)) hhs (.inl rfl) (by rw [List.length_append, List.length_append]; show 2 + l1.length + 1 ≤ 900; omega)
        refine ⟨l, ts5, _, rfl, rfl, g1, g2, rfl, [row (nA qs 2) "mark" (.ref tm) false, row (nA qs 3) hs .non false], ?_, by unfold LP2; rw [if_pos k]; exact .inr ⟨tm, hs, rfl⟩⟩
        rw [List.append_assoc] at L7
        exact L7
    obtain ⟨rfl, l2, L2, P2⟩ := hM
    have n2 : l2.length ≤ 2 := by
      unfold LP2 at P2
      split at P2
      · rcases P2 with ⟨v, rfl⟩ | ⟨t, hs, rfl⟩ <;> exact Nat.le_refl _
      · rw [P2]
        exact Nat.zero_le _
    have B0 : (basis qs).length = 2 := rfl
    -- too many
    refine ⟨fun σ' H' => (∃ y4, σ' = [some (.ref p), some (.ref q), some (.ref fa), some (.ref l), y4]) ∧ ∃ l3, LsR p l H H' (basis qs ++ l1 ++ l2 ++ l3) ∧ LP3 qs (inF 3 f1 f2) l3, ?_, fun σ' H' hM => ?_⟩
    · refine ⟨_, rfl, fa, _, rfl, .inl (SqL.of (NF L2)), rfl, rfl, _, rfl, ite2 (fun (k : inF 3 f1 f2 = true) => ?_) (fun (k : ¬ inF 3 f1 f2 = true) => ⟨⟨_, rfl⟩, [], by rw [List.append_nil]; exact L2, by unfold LP3; rw [if_neg k]⟩)⟩
      refine ⟨_, rfl, p, 2, rfl, L2.kp.2, by decide, by decide, fun H2 r k2 r0 r2 => ⟨3, r, rfl, rfl, 3 + r, rfl, by omega, by omega, ?_⟩⟩
      refine for_it walk_range (fun i σ H3 => (∃ y4, σ = [some (.ref p), some (.ref q), some (.ref fa), some (.ref l), y4]) ∧ LsR p l H H3 (basis qs ++ l1 ++ l2 ++ (List.range i).map (fun i => row (nA qs (9 + i)) "mark" .non true))) ⟨⟨_, rfl⟩, by simpa using L2.go k2⟩ (fun _ _ _ _ _ => trivial) ?_ ?_
      · rintro i x σ H3 H4 hi ⟨⟨y4, rfl⟩, L⟩ ⟨rfl, rfl⟩
        have hi4 : i < 4 := by
          have : i < Int.toNat (3 + r) := hi
          omega
        obtain ⟨ts, hl, _⟩ := L.ex
        refine ⟨_, rfl, .inl ⟨rfl, _, SqL.of hl⟩, _, rfl, _, rfl, 9, 0 + (i : Int), rfl, rfl, q, _, 9 + (0 + (i : Int)), .str (S (nA qs (9 + i))), rfl, rfl, SQ (NQ L), ?_, by show 4 ≤ sizeLine; decide, fun t nt => ?_⟩
        · rw [show (9 + (0 + (i : Int))) = ((9 + i : Nat) : Int) by omega]
          exact at_ (by omega)
        obtain ⟨ts4, g1, g2, L3⟩ := L.add (r := row (nA qs (9 + i)) "mark" .non true) nt (gd (by omega)) (.inl rfl) (.inl rfl) (by
          rw [List.length_append, List.length_append, List.length_append, List.length_map, List.length_range]
          omega)
        refine ⟨l, ts4, _, rfl, rfl, g1, g2, ⟨_, rfl⟩, ?_⟩
        rw [List.range_succ, List.map_append, ← List.append_assoc]
        exact L3
      · rintro σ H3 ⟨⟨y4, rfl⟩, L⟩
        refine ⟨⟨_, rfl⟩, _, L, ?_⟩
        unfold LP3
        rw [if_pos k]
        exact ⟨_, by omega, by omega, rfl⟩
    obtain ⟨⟨y4, rfl⟩, l3, L3, P3⟩ := hM
    have n3 : l3.length ≤ 4 := by
      unfold LP3 at P3
      split at P3
      · obtain ⟨m, _, h, rfl⟩ := P3
        rw [List.length_map, List.length_range]
        exact h
      · rw [P3]
        exact Nat.zero_le _
    -- three boxes
    refine ⟨fun σ' H' => (∃ y4, σ' = [some (.ref p), some (.ref q), some (.ref fa), some (.ref l), y4]) ∧ ∃ l4, LsR p l H H' (basis qs ++ l1 ++ l2 ++ l3 ++ l4) ∧ LP4 qs (inF 4 f1 f2) l4, ?_, fun σ' H' hM => ?_⟩
    · refine ⟨_, rfl, fa, _, rfl, .inl (SqL.of (NF L3)), rfl, rfl, _, rfl, ite2 (fun (k : inF 4 f1 f2 = true) => ?_) (fun (k : ¬ inF 4 f1 f2 = true) => ⟨⟨_, rfl⟩, [], by rw [List.append_nil]; exact L3, by unfold LP4; rw [if_neg k]⟩)⟩
      refine ⟨2, rfl, by decide, by decide, ?_⟩
      refine for_it walk_range (fun i σ H3 => (∃ y4, σ = [some (.ref p), some (.ref q), some (.ref fa), some (.ref l), y4]) ∧ ∃ l4, LsR p l H H3 (basis qs ++ l1 ++ l2 ++ l3 ++ l4) ∧ F4 qs i l4) ⟨⟨_, rfl⟩, [], by rw [List.append_nil]; exact L3, rfl⟩ (fun _ _ _ _ _ => trivial) ?_ ?_
      · rintro i x σ H3 H4 hi ⟨⟨y4, rfl⟩, l4, L, hF⟩ ⟨rfl, rfl⟩
        have hi2 : i < 2 := hi
        have n4 : l4.length ≤ 2 := by
          match i, hF with
          | 0, h => rw [show l4 = [] from h]; exact Nat.zero_le _
          | 1, ⟨v, h⟩ => rw [h]; show 1 ≤ 2; decide
          | _ + 2, ⟨v, w, h⟩ => rw [h]; exact Nat.le_refl _
        obtain ⟨ts, hl, _⟩ := L.ex
        refine ⟨_, rfl, .inl ⟨rfl, _, SqL.of hl⟩, _, rfl, _, rfl, 14, 0 + (i : Int), rfl, rfl, q, _, 14 + (0 + (i : Int)), .str (S (nA qs (14 + i))), rfl, rfl, SQ (NQ L), ?_, _, rfl, by show 0 ≤ sizeLine; decide, fun te nte => ⟨two_le, fun to nto => ⟨two_le, fun lo nlo => ?_⟩⟩⟩
        · rw [show (14 + (0 + (i : Int))) = ((14 + i : Nat) : Int) by omega]
          exact at_ (by omega)
        have s0 := same_upd (o := .tup []) nte
        have s1 := same_upd (o := .tup [.str "once", .ref te]) nto
        have s2 := same_upd (o := .lst [.non, .ref to]) nlo
        have La := (L.go2 s0).go2 s1
        have L4 := La.go2 s2
        refine ⟨p, .ref lo, rfl, L4.kp.2, .inl ⟨lo, _, rfl, bag_ne La.kp.2 nlo, SqL.of upd_same, (by show 1 ≤ 2; decide), (by show 2 ≤ 1000; decide), fun H5 y k5 hy => ?_⟩⟩
        have L5 := L4.go k5
        have he : H5 te = some (.tup []) := k5.1 _ _ (bag_ne L.kp.2 nte) (s2 _ _ (s1 _ _ upd_same))
        have ht : H5 to = some (.tup [.str "once", .ref te]) := k5.1 _ _ (bag_ne (L.go2 s0).kp.2 nto) (s2 _ _ upd_same)
        have dfv : DfV H5 y "box" := by
          rcases List.mem_cons.mp hy with rfl | hy
          · exact .inl rfl
          · rcases List.mem_cons.mp hy with rfl | hy
            · exact .inr (.inr ⟨rfl, to, te, rfl, ht, he⟩)
            · cases hy
        refine ⟨by show 4 ≤ sizeLine; decide, fun t nt => ?_⟩
        obtain ⟨ts4, g1, g2, L6⟩ := L5.add (r := row (nA qs (14 + i)) "box" y true) nt (gd (by omega)) (.inr rfl) dfv (by
          rw [List.length_append, List.length_append, List.length_append, List.length_append]
          omega)
        refine ⟨l, ts4, _, rfl, rfl, g1, g2, ⟨_, rfl⟩, l4 ++ [row (nA qs (14 + i)) "box" y true], ?_, ?_⟩
        · rw [← List.append_assoc]
          exact L6
        · match i, hF, hi2 with
          | 0, h, _ =>
            rw [show l4 = [] from h]
            exact ⟨y, rfl⟩
          | 1, ⟨v, h⟩, _ =>
            rw [h]
            exact ⟨v, y, rfl⟩
          | _ + 2, _, h => omega
      · rintro σ H3 ⟨⟨y4, rfl⟩, l4, L, hF⟩
        refine ⟨⟨_, rfl⟩, l4, L, ?_⟩
        unfold LP4
        rw [if_pos k]
        exact hF
    obtain ⟨⟨y4, rfl⟩, l4, L4, P4⟩ := hM
    exact ⟨_, rfl, fin _ l l1 l2 l3 l4 L4 P1 P2 P3 P4⟩
end
end Dr
namespace Dr
open PySem PySem.Spec PyProof.Rows L2
open SX (S S_len S_cat)
abbrev sDue : Stmt := topS 42
abbrev nDue : List Str := ["_law_names_here", "_law_params_here", "_law_faults", "_law_name", "_law_at", "_law_seen", "_law_one"]
theorem scDue : FnScope nDue ["_law_names_here", "_law_params_here", "_law_faults", "_law_name", "_law_at"] (defScope sDue) := ⟨rfl, rfl, rfl, by decide +kernel, rfl, by decide +kernel, by decide +kernel⟩
/-- which fault is told first; R: what is told -/
def DueC (f1 f2 at_ : Int) (n3 : Str) (vn : V) (is : List Pi) (R : Int → V → Prop) : Prop :=
  (inF 0 f1 f2 = true ∧ R 0 vn) ∨ (inF 0 f1 f2 = false ∧
    ((∃ (i : Nat) (z : Str), (is.map Pi.nm)[i]? = some z ∧ z ∈ (is.map Pi.nm).take i ∧ (∀ j, j < i → NewAt [] (is.map Pi.nm) j) ∧ R 1 (.str z)) ∨ ((∀ j, NewAt [] (is.map Pi.nm) j) ∧
      ((inF 2 f1 f2 = true ∧ R 2 (.str n3)) ∨ (inF 2 f1 f2 = false ∧
        ((4 < is.length ∧ R 3 (.str "params")) ∨ (is.length ≤ 4 ∧
          ((2 < (holding "box" is).length ∧ R 3 (.str "boxes")) ∨ ((holding "box" is).length ≤ 2 ∧
            ((inF 5 f1 f2 = true ∧ R 4 (.int (-1))) ∨ (inF 5 f1 f2 = false ∧
              ((inF 6 f1 f2 = true ∧ R 4 (.int at_)) ∨ (inF 6 f1 f2 = false ∧ R 3 (.str "rows"))))))))))))))
section
variable {P : Program} {w : World} {K : PySem.W.Frag} {mg : Str → Option Value} {base : Heap}
def spDue (K : PySem.W.Frag) : Sp := fun vs H Q _ => ∃ (q lp fa : Addr) (vn : V) (at_ f1 f2 : Int) (qs : List (List Nat)) (ts : List Addr) (is : List Pi), vs = [.ref q, .ref lp, .ref fa, vn, .int at_] ∧ H q = some (.lst (txts qs)) ∧ qs.length = 16 ∧ H fa = some (.lst [.int f1, .int f2]) ∧ H lp = some (.lst (ts.map V.ref)) ∧ RowsT H ts is ∧ is.length ≤ 100 ∧
  DueC f1 f2 at_ (S (nA qs 3)) vn is (fun k v => ∀ H' t, Same H H' → H' t = some (.tup [.int k, v]) → Q (.ref t) H')
theorem ok_due {f : Addr} {fd : FuncData} (F : Fun K "_law_due" "_law_due" sDue f fd) (T : Blt mg) : FnOk P w K mg base CX0 1 f fd ["_law_names_here", "_law_params_here", "_law_faults", "_law_name", "_law_at"] (spDue K) := by
  refine F.ok scDue (fun vs H Q E h => ?_) (fun cdv A outer s H vs Q E hr h => ?_)
  · obtain ⟨q, lp, fa, vn, at_, f1, f2, qs, ts, is, rfl, _⟩ := h
    rfl
  · obtain ⟨q, lp, fa, vn, at_, f1, f2, qs, ts, is, rfl, hq, hq16, hfa, hlp, hR, hil, h⟩ := h
    refine ⟨_, pss_cons (ps_set (i := 5) scDue.nd rfl (.inl rfl) (pe_lst pa_nil))
      (pss_cons (ps_if (pt_cmpR op_in_seq pe_int (pv 2) rfl) (pss_one (ps_ret (pe_tup (pa_cons pe_int (pa_cons (pv 3) pa_nil))))) pss_nil)
      (pss_cons (ps_for PassesOwn.never rfl (pi_list (pv 1)) (pg_name (i := 6) scDue.nd rfl (.inl rfl))
        (pss_cons (ps_if (pt_cmpR op_in_seq (pe_ix ix_tup (pv 6) pe_int (fun _ _ => rfl)) (pv 5) rfl) (pss_one (ps_ret (pe_tup (pa_cons pe_int (pa_cons (pe_ix ix_tup (pv 6) pe_int (fun _ _ => rfl)) pa_nil))))) pss_nil)
          (pss_one (ps_expr (pe_bm PySem.F.plainAttrs_list PySem.F.slot_list_append PySem.F.type_list_append mt_append (pv 5) (pa_cons (pe_ix ix_tup (pv 6) pe_int (fun _ _ => rfl)) pa_nil))))))
      (pss_cons (ps_if (pt_cmpR op_in_seq pe_int (pv 2) rfl) (pss_one (ps_ret (pe_tup (pa_cons pe_int (pa_cons (pe_ix ix_list (pv 0) pe_int (fun _ _ => rfl)) pa_nil))))) pss_nil)
      (pss_cons (ps_if (pt_cmpR op_gt (pe_callB call_len_seq (by rfl) T.len PySem.boot_len (pa_cons (pv 1) pa_nil)) pe_int (nomark _)) (pss_one (ps_ret (pe_tup (pa_cons pe_int (pa_cons pe_str pa_nil))))) pss_nil)
      (pss_cons (ps_if (pt_cmpR op_gt (pe_callB call_len_seq (by rfl) T.len PySem.boot_len (pa_cons
            (pe_lc (own := [("_law_one", 6)]) (g := gName 6) rfl scDue.nd (pi_list (pv 1)) (blkOk_by (N := nDue) (sc := defScope sDue) (by decide +kernel)) (fun _ _ _ _ _ => pg_name (i := 6) scDue.nd rfl (Or.inl rfl))
              (fun _ _ _ _ _ => pts_one (pt_cmpR op_eq (pe_ix (show IxR _ (rIxT K) from ix_tup) (pv 6) pe_int (fun _ _ => rfl)) pe_str (nomark _))) (fun _ _ _ _ _ => pv 6)) pa_nil)) pe_int (nomark _)) (pss_one (ps_ret (pe_tup (pa_cons pe_int (pa_cons pe_str pa_nil))))) pss_nil)
      (pss_cons (ps_if (pt_cmpR op_in_seq pe_int (pv 2) rfl) (pss_one (ps_ret (pe_tup (pa_cons pe_int (pa_cons (pe_un un_neg pe_int) pa_nil))))) pss_nil)
      (pss_one (ps_ret (pe_ifExp (pt_cmpR op_in_seq pe_int (pv 2) rfl) (pe_tup (pa_cons pe_int (pa_cons (pv 4) pa_nil))) (pe_tup (pa_cons pe_int (pa_cons pe_str pa_nil)))))))))))), ?_⟩
    refine ⟨by show 0 ≤ sizeLine; decide, fun ls nls => ?_⟩
    have s0 := same_upd (o := .lst []) nls
    have hlp0 := s0 _ _ hlp
    have hfa0 := s0 _ _ hfa
    refine ⟨_, rfl, fa, _, rfl, .inl (SqL.of hfa0), rfl, rfl, _, rfl, ?_⟩
    rcases h with ⟨e0, c0⟩ | ⟨e0, h⟩
    · refine ite2 (fun _ => ?_) (fun (k : ¬ inF 0 f1 f2 = true) => absurd e0 k)
      exact ⟨_, rfl, two_le, fun t nt => c0 _ t (s0.trans (same_upd nt)) upd_same⟩
    refine ite2 (fun (k : inF 0 f1 f2 = true) => absurd k (by rw [e0]; simp)) (fun _ => ?_)
    -- a name twice
    refine ⟨_, rfl, lp, rfl, ⟨_, SqL.of hlp0⟩, for_it (walk_list (xs := ts.map V.ref)) (fun i σ H3 => Same H H3 ∧ (∃ y6, σ = [some (.ref q), some (.ref lp), some (.ref fa), some vn, some (.int at_), some (.ref ls), y6]) ∧ H3 ls = some (.lst (((is.map Pi.nm).take i).map V.str)) ∧ ∀ j, j < i → NewAt [] (is.map Pi.nm) j) ⟨s0, ⟨_, rfl⟩, upd_same, fun j hj => absurd hj (Nat.not_lt_zero j)⟩ (fun _ _ _ _ h => SqL.of (h.1 _ _ hlp)) ?_ ?_⟩
    · rintro i y σ H3 H4 hi ⟨sm, ⟨y6, rfl⟩, hs, hnew⟩ ⟨rfl, e1⟩
      rw [List.getElem?_map] at e1
      cases ht : ts[i]? with
      | none =>
        rw [ht] at e1
        cases e1
      | some t =>
        rw [ht] at e1
        obtain rfl := Option.some.inj e1
        obtain ⟨r, hr1, hT⟩ := hR.2 i t ht
        have hat := sm _ _ hT.at_
        have hz : (is.map Pi.nm)[i]? = some r.nm := by
          rw [List.getElem?_map, hr1]
          rfl
        refine ⟨_, rfl, t, _, 0, .str r.nm, rfl, rfl, SqT.of hat, atI_nat (j := 0) rfl, _, rfl, ls, _, rfl, .inl (SqL.of hs), rfl, flat_strs _, _, rfl, ?_⟩
        rw [show inV (V.str r.nm) (((is.map Pi.nm).take i).map V.str) = ((is.map Pi.nm).take i).contains r.nm from in_strs _ _]
        refine ite2 (fun k => ?_) (fun k => ?_)
        · have hin : r.nm ∈ (is.map Pi.nm).take i := by simpa using k
          rcases h with ⟨j, z, hj, hjin, hall, c1⟩ | ⟨hn, _⟩
          · have hij : j = i := by
              rcases Nat.lt_trichotomy j i with h | h | h
              · exact absurd hjin (hnew j h z hj).2
              · exact h
              · exact absurd hin (hall i h _ hz).2
            subst hij
            rw [hz] at hj
            obtain rfl := Option.some.inj hj
            exact ⟨_, rfl, t, _, 0, .str r.nm, rfl, rfl, SqT.of hat, atI_nat (j := 0) rfl, two_le, fun t2 nt2 => c1 _ t2 (sm.trans (same_upd nt2)) upd_same⟩
          · exact absurd hin (hn i _ hz).2
        · have hnin : r.nm ∉ (is.map Pi.nm).take i := by simpa using k
          have hlt : ((is.map Pi.nm).take i).length ≤ 100 := by
            rw [List.length_take, List.length_map]
            omega
          refine ⟨_, rfl, .inl ⟨rfl, _, SqL.of hs⟩, _, rfl, t, _, 0, .str r.nm, rfl, rfl, SqT.of hat, atI_nat (j := 0) rfl, ls, _, _, rfl, rfl, hs, ?_, same_grow sm nls, ⟨_, rfl⟩, ?_, fun j hj => ?_⟩
          · rw [List.length_map]
            exact small1000 (by omega)
          · rw [upd_same, List.take_add_one, hz, List.map_append]
            rfl
          · by_cases e : j < i
            · exact hnew j e
            · obtain rfl : j = i := by omega
              intro y hy
              rw [hz] at hy
              obtain rfl := Option.some.inj hy
              exact ⟨List.not_mem_nil, hnin⟩
    rintro σ H3 ⟨sm, ⟨y6, rfl⟩, hs, hnew⟩
    rcases h with ⟨j, z, hj, hjin, hall, c1⟩ | ⟨_, h⟩
    · have hjl : j < (ts.map V.ref).length := by
        have := (List.getElem?_eq_some_iff.mp hj).1
        rw [List.length_map] at this ⊢
        have := hR.1
        omega
      exact absurd hjin (hnew j hjl z hj).2
    have hfa3 := sm _ _ hfa
    refine ⟨_, rfl, fa, _, rfl, .inl (SqL.of hfa3), rfl, rfl, _, rfl, ?_⟩
    rcases h with ⟨e2, c2⟩ | ⟨e2, h⟩
    · refine ite2 (fun _ => ?_) (fun (k : ¬ inF 2 f1 f2 = true) => absurd e2 k)
      exact ⟨_, rfl, q, _, 3, .str (S (nA qs 3)), rfl, rfl, SqL.of (sm _ _ hq), atI_nat (nA_at hq16 (by decide)), two_le, fun t nt => c2 _ t (sm.trans (same_upd nt)) upd_same⟩
    refine ite2 (fun (k : inF 2 f1 f2 = true) => absurd k (by rw [e2]; simp)) (fun _ => ?_)
    refine ⟨_, rfl, lp, _, rfl, .inl (SqL.of (sm _ _ hlp)), _, _, rfl, rfl, _, rfl, ?_⟩
    rw [List.length_map, hR.1]
    rcases h with ⟨hlt, c3⟩ | ⟨hle, h⟩
    · rw [decide_eq_true (show (is.length : Int) > 4 by omega)]
      exact iteT ⟨two_le, fun t nt => c3 _ t (sm.trans (same_upd nt)) upd_same⟩
    rw [decide_eq_false (show ¬ (is.length : Int) > 4 by omega)]
    refine iteF ?_
    refine ⟨_, rfl, lp, rfl, ⟨_, SqL.of (sm _ _ hlp)⟩, fun D2 hD2 => ?_⟩
    refine lc_it (walk_list (xs := ts.map V.ref)) (fun i H5 => Same H3 H5 ∧ ∃ vs, H5 D2 = some (.lst vs) ∧ vs.length = (holding "box" (is.take i)).length) ⟨same_upd hD2, [], upd_same, rfl⟩ (fun _ _ _ h => SqL.of (h.1 _ _ (sm _ _ hlp))) ?_ ?_
    · rintro i y H5 H6 hi ⟨sm5, vs, hl, hvl⟩ ⟨rfl, e1⟩
      rw [List.getElem?_map] at e1
      cases ht : ts[i]? with
      | none =>
        rw [ht] at e1
        cases e1
      | some t =>
        rw [ht] at e1
        obtain rfl := Option.some.inj e1
        obtain ⟨r, hr1, hT⟩ := hR.2 i t ht
        have hat := sm5 _ _ (sm _ _ hT.at_)
        refine ⟨rfl, _, rfl, t, _, 1, .str r.hs, rfl, rfl, SqT.of hat, atI_nat (j := 1) rfl, rfl, _, rfl, ?_⟩
        by_cases hw : r.hs = "box"
        · rw [decide_eq_true (by rw [hw])]
          refine iteT ⟨_, rfl, _, hl, ?_, same_grow sm5 hD2, _, upd_same, ?_⟩
          · have g1 := holding_len "box" (is.take i)
            rw [List.length_take] at g1
            exact small1000 (by omega)
          · rw [holding_next hr1, if_pos hw, List.length_append, List.length_append, hvl]
            rfl
        · rw [decide_eq_false (fun e => hw (V.str.inj e))]
          refine iteF ⟨sm5, vs, hl, ?_⟩
          rw [holding_next hr1, if_neg hw, List.append_nil, hvl]
    rintro H5 ⟨sm5, vs5, hl5, hvl5⟩
    rw [List.length_map, hR.1, List.take_length] at hvl5
    have s5 := sm.trans sm5
    refine ⟨D2, _, rfl, .inl (SqL.of hl5), _, _, rfl, rfl, _, rfl, ?_⟩
    rw [hvl5]
    rcases h with ⟨hlt, c3⟩ | ⟨hle2, h⟩
    · rw [decide_eq_true (show ((holding "box" is).length : Int) > 2 by omega)]
      exact iteT ⟨two_le, fun t nt => c3 _ t (s5.trans (same_upd nt)) upd_same⟩
    rw [decide_eq_false (show ¬ ((holding "box" is).length : Int) > 2 by omega)]
    refine iteF ?_
    have hfa5 := s5 _ _ hfa
    refine ⟨_, rfl, fa, _, rfl, .inl (SqL.of hfa5), rfl, rfl, _, rfl, ?_⟩
    rcases h with ⟨e5, c4⟩ | ⟨e5, h⟩
    · refine ite2 (fun _ => ?_) (fun (k : ¬ inF 5 f1 f2 = true) => absurd e5 k)
      exact ⟨1, rfl, two_le, fun t nt => c4 _ t (s5.trans (same_upd nt)) upd_same⟩
    refine ite2 (fun (k : inF 5 f1 f2 = true) => absurd k (by rw [e5]; simp)) (fun _ => ?_)
    refine ⟨_, rfl, fa, _, rfl, .inl (SqL.of hfa5), rfl, rfl, _, rfl, ?_⟩
    rcases h with ⟨e6, c4⟩ | ⟨e6, c3⟩
    · refine ite2 (fun _ => ?_) (fun (k : ¬ inF 6 f1 f2 = true) => absurd e6 k)
      exact ⟨_, rfl, two_le, fun t nt => c4 _ t (s5.trans (same_upd nt)) upd_same⟩
    refine ite2 (fun (k : inF 6 f1 f2 = true) => absurd k (by rw [e6]; simp)) (fun _ => ?_)
    exact ⟨two_le, fun t nt => c3 _ t (s5.trans (same_upd nt)) upd_same⟩
end
end Dr
namespace Dr
open PySem PySem.Spec PyProof.Rows L2
open SX (S S_len S_cat)
abbrev sTold : Stmt := topS 43
abbrev nTold : List Str := ["_law_name", "_law_params_here", "_law_listed", "_law_made", "e", "_law_one"]
theorem scTold : FnScope nTold ["_law_name", "_law_params_here", "_law_listed"] (defScope sTold) := ⟨rfl, rfl, rfl, by decide +kernel, rfl, by decide +kernel, by decide +kernel⟩
/-- what the except clauses need -/
structure Exm (K : PySem.W.Frag) (mg : Str → Option Value) (x : MErr) : Prop where
  gN : mg "BadName" = some (.ref x.nm)
  xN : XfC K x.nm
  fN : PySem.W.findIn K (.ref x.nm) "name" = some none
  gT : mg "Twice" = some (.ref x.tw)
  xT : XfC K x.tw
  fT : PySem.W.findIn K (.ref x.tw) "name" = some none
  gO : mg "BadOrder" = some (.ref x.od)
  xO : XfC K x.od
  fO : PySem.W.findIn K (.ref x.od) "name" = some none
  gM : mg "TooMany" = some (.ref x.tm)
  xM : XfC K x.tm
  fM : PySem.W.findIn K (.ref x.tm) "what" = some none
  gR : mg "BadRow" = some (.ref x.rw)
  xR : XfC K x.rw
  fR : PySem.W.findIn K (.ref x.rw) "at" = some none
  eNN : PySem.W.exmOne K (.ref x.nm) (.ref x.nm) = some true
  eTN : PySem.W.exmOne K (.ref x.tw) (.ref x.nm) = some false
  eTT : PySem.W.exmOne K (.ref x.tw) (.ref x.tw) = some true
  eON : PySem.W.exmOne K (.ref x.od) (.ref x.nm) = some false
  eOT : PySem.W.exmOne K (.ref x.od) (.ref x.tw) = some false
  eOO : PySem.W.exmOne K (.ref x.od) (.ref x.od) = some true
  eMN : PySem.W.exmOne K (.ref x.tm) (.ref x.nm) = some false
  eMT : PySem.W.exmOne K (.ref x.tm) (.ref x.tw) = some false
  eMO : PySem.W.exmOne K (.ref x.tm) (.ref x.od) = some false
  eMM : PySem.W.exmOne K (.ref x.tm) (.ref x.tm) = some true
  eRN : PySem.W.exmOne K (.ref x.rw) (.ref x.nm) = some false
  eRT : PySem.W.exmOne K (.ref x.rw) (.ref x.tw) = some false
  eRO : PySem.W.exmOne K (.ref x.rw) (.ref x.od) = some false
  eRM : PySem.W.exmOne K (.ref x.rw) (.ref x.tm) = some false
  eRR : PySem.W.exmOne K (.ref x.rw) (.ref x.rw) = some true
abbrev psP : List Str := ["self", "name", "holds", "default", "named"]
abbrev kwP : List (Str × V) := [("holds", .str "box"), ("default", .non), ("named", .bl false)]
abbrev FP (K : PySem.W.Frag) (f : Addr) (fd : FuncData) : Prop := FunD K "__init__" "Param.__init__" (defArgs sPInit) (defBody sPInit) (defScope sPInit) [] kwP f fd
theorem bind_hdn {K : PySem.W.Frag} {f : Addr} {fd : FuncData} (F : FP K f fd) : KBn K fd psP 2 ["holds", "default", "named"] (fun us ws => us ++ ws) (fun vs zs => vs ++ zs) := by
  obtain ⟨mv, h⟩ := F.kbinds0 (ps := psP) 2 ["holds", "default", "named"] [] (fun us _ ws => us ++ ws) (by simp) (fun q hq => by cases hq) (fun r1 _ r3 => r1.append r3)
    (fun D doc pm an cdv ct us mv ws l1 l2 l3 => match us, mv, ws, l1, l2, l3 with | [_, _], [], [_, _, _], _, _, _ => rfl)
  exact h
theorem okN {c : List Nat} (g : GoodN c) : OkD (.str (S c)) := okD_sms (sms_good g)
/-- a drawn default's datum -/
theorem DfV.dat {K : PySem.W.Frag} {H : Hp} {v : V} {hs : Str} (h : DfV H v hs) (hh : hs = "mark" ∨ hs = "box") : ∃ d, DflOk K H v d hs := by
  rcases h with rfl | ⟨rfl, t, c, rfl, g, e⟩ | ⟨rfl, t, e, rfl, e1, e2⟩
  · exact ⟨.none, .non, ⟨rfl, rfl⟩, .inl rfl⟩
  · have ok : (Df.mk c).ok "mark" := ⟨rfl, g⟩
    refine ⟨(Df.mk c).data, .tup (SqT.of e) (.cons (.str _) (.cons (.str _) .nil)), Df.okD ok, .inr ?_⟩
    rcases Df.isDef ok with z | z
    · cases z
    · exact z
  · have hits : ItsOk [] := ⟨fun z hz => absurd hz List.not_mem_nil, fun z hz => absurd hz List.not_mem_nil, rfl, Nat.zero_le _⟩
    have ok : (Df.its "once" []).ok "box" := ⟨rfl, .inl rfl, hits⟩
    refine ⟨(Df.its "once" []).data, .tup (SqT.of e1) (.cons (.str _) (.cons (.tup (SqT.of e2) .nil) .nil)), Df.okD ok, .inr ?_⟩
    rcases Df.isDef ok with z | z
    · cases z
    · exact z
/-- which error is told first; R: what is told -/
def ToldC (K : PySem.W.Frag) (H : Hp) (vn : V) (dn : PyData) (vr : V) (dr : PyData) (is : List Pi) (R : Int → V → Prop) : Prop :=
  (isNameD dn = false ∧ R 0 vn) ∨ (isNameD dn = true ∧
    ((∃ (i : Nat) (z : Str), (is.map Pi.nm)[i]? = some z ∧ z ∈ (is.map Pi.nm).take i ∧ (∀ j, j < i → NewAt [] (is.map Pi.nm) j) ∧ R 1 (.str z)) ∨ ((∀ j, NewAt [] (is.map Pi.nm) j) ∧
      ((∃ (i : Nat) (a b : Pi), is[i]? = some a ∧ is[i + 1]? = some b ∧ badPair a b = true ∧ (∀ (j : Nat) p q, j < i → is[j]? = some p → is[j + 1]? = some q → badPair p q = false) ∧ R 2 (.str b.nm)) ∨ ((∀ (i : Nat) p q, is[i]? = some p → is[i + 1]? = some q → badPair p q = false) ∧
        ((4 < is.length ∧ R 3 (.str "params")) ∨ (is.length ≤ 4 ∧
          ((2 < (holding "box" is).length ∧ R 3 (.str "boxes")) ∨ ((holding "box" is).length ≤ 2 ∧
            ((isTupD dr = false ∧ R 4 (.int (-1))) ∨ (isTupD dr = true ∧ ∃ (tR : Addr) (rows : List V) (bs : Nat → Bool), vr = .ref tR ∧ SqT K H tR rows ∧ rows.length ≤ 100 ∧ (∀ (i : Nat) (y : V), rows[i]? = some y → RowOk K H (holding "box" is) y (bs i)) ∧
              ((∃ i : Nat, i < rows.length ∧ bs i = false ∧ (∀ j, j < i → bs j = true) ∧ R 4 (.int i)) ∨ ((∀ i, i < rows.length → bs i = true) ∧ 8 < rows.length ∧ R 3 (.str "rows"))))))))))))))
section
variable {P : Program} {w : World} {K : PySem.W.Frag} {mg : Str → Option Value} {base : Heap}
def spTold (K : PySem.W.Frag) : Sp := fun vs H Q _ => ∃ (vn : V) (lp : Addr) (vr : V) (dn dr : PyData) (ts : List Addr) (is : List Pi), vs = [vn, .ref lp, vr] ∧ (Dp K H vn dn ∧ OkD dn) ∧ Dp K H vr dr ∧ H lp = some (.lst (ts.map V.ref)) ∧ RowsT H ts is ∧ is.length ≤ 100 ∧
  ToldC K H vn dn vr dr is (fun k v => ∀ H' t, Same H H' → H' t = some (.tup [.int k, v]) → Q (.ref t) H')
theorem ok_told {kI kO : Nat} {CM CP f fI fO aE aX p : Addr} {mc : Value} {fd fdI fdO : FuncData} {x : MErr} (F : Fun K "_law_told" "_law_told" sTold f fd) (T : Prm K mg CP) (TM : Mtd K mg CM mc) (X2 : Exm K mg x) (M : Mk K CP fI) (FI : FP K fI fdI) (FO : FMOf K aE aX fO fdO) (c : ClX.CMet K CM mc "of" p fO) (hX : ∀ H, SqT K H aX [.str "none"])
    (GI : FnOk P w K mg base CX0 kI fI fdI psP (spPInit K CP)) (GO : FnOk P w K mg base (L2.CX P w) kO fO fdO psMOf (spMOf K CM CP x)) (h1 : kI + 1 ≤ kO) : FnOk P w K mg base CX0 (kO + 1) f fd ["_law_name", "_law_params_here", "_law_listed"] (spTold K) := by
  obtain ⟨mv, bO⟩ := bind_of FO
  have GK := FnK.of GO bO
  have bA := bind_hdn FI
  refine F.ok scTold (fun vs H Q E h => ?_) (fun cdv A outer s H vs Q E hr h => ?_)
  · obtain ⟨vn, lp, vr, dn, dr, ts, is, rfl, _⟩ := h
    rfl
  · obtain ⟨vn, lp, vr, dn, dr, ts, is, rfl, ⟨hn, okn⟩, hvr, hlp, hR, hil, h⟩ := h
    have hrI : Room (kI + 1) _ := hr.mono h1
    refine ⟨_, pss_cons (ps_setLc (i := 3) (own := [("_law_one", 5)]) (g := gName 5) (tt := tYes) rfl scTold.nd rfl rfl (sw_true rfl rfl rfl (by decide +kernel)) (pi_list (pv 1)) (blkOk_by (N := nTold) (sc := defScope sTold) (by decide +kernel)) (fun _ _ _ _ _ => pg_name (i := 5) scTold.nd rfl (Or.inl rfl)) (fun _ _ _ _ _ => pts_nil)
          (fun _ _ _ _ _ => (pe_makeK M GI hrI (by rfl) T.mgC bA pass0 (pa_cons (pe_ix (show IxR _ (rIxT K) from ix_tup) (pv 5) pe_int (fun _ _ => rfl)) pa_nil) (pk_cons (pe_ix (show IxR _ (rIxT K) from ix_tup) (pv 5) pe_int (fun _ _ => rfl)) (pk_cons (pe_ix (show IxR _ (rIxT K) from ix_tup) (pv 5) pe_int (fun _ _ => rfl)) (pk_cons (pe_ix (show IxR _ (rIxT K) from ix_tup) (pv 5) pe_int (fun _ _ => rfl)) pk_nil))))))
      (pss_cons (ps_try_cl (tb := fun W => tDrop (tCMethK CM 1 (fun vs zs H Q E => vs.length = 3 ∧ spMOf K CM CP x (vs ++ (zs ++ [V.ref aX])) H Q E) (WE W) (tC (.ref CM)) (tCons (tVar 0) (tCons (tVar 3) tNil)) (tCons (tVar 2) tNil))) (O := fun _ _ _ _ => False) rfl rfl scTold.nd takes0
            (fun W q xe tk _ => pss_one (ps_expr (pe_cmethK (pe_glob (v := .ref CM) (by rfl) TM.mgC rfl) TM.rd c GK hr (fun σ => passAt tk σ) (pa_cons (pv 0) (pa_cons (pv 3) pa_nil)) (pk_cons (pv 2) pk_nil))))
            (.cons (k := ⟨.ref x.nm, 4, fun a cls d => tRet (tTup (tCons (tC (.int 0)) (tCons (tXf a cls d x.nm "name" (tVar 4)) tNil)))⟩) rfl rfl ⟨rfl, by decide, .inl X2.gN⟩
                (fun a o cls d q hz hf => pss_one (ps_ret (pe_tup (pa_cons pe_int (pa_cons (pe_xf X2.xN X2.fN hz hf (pv 4)) pa_nil))))) (.cons (k := ⟨.ref x.tw, 4, fun a cls d => tRet (tTup (tCons (tC (.int 1)) (tCons (tXf a cls d x.tw "name" (tVar 4)) tNil)))⟩) rfl rfl ⟨rfl, by decide, .inl X2.gT⟩
                (fun a o cls d q hz hf => pss_one (ps_ret (pe_tup (pa_cons pe_int (pa_cons (pe_xf X2.xT X2.fT hz hf (pv 4)) pa_nil))))) (.cons (k := ⟨.ref x.od, 4, fun a cls d => tRet (tTup (tCons (tC (.int 2)) (tCons (tXf a cls d x.od "name" (tVar 4)) tNil)))⟩) rfl rfl ⟨rfl, by decide, .inl X2.gO⟩
                (fun a o cls d q hz hf => pss_one (ps_ret (pe_tup (pa_cons pe_int (pa_cons (pe_xf X2.xO X2.fO hz hf (pv 4)) pa_nil))))) (.cons (k := ⟨.ref x.tm, 4, fun a cls d => tRet (tTup (tCons (tC (.int 3)) (tCons (tXf a cls d x.tm "what" (tVar 4)) tNil)))⟩) rfl rfl ⟨rfl, by decide, .inl X2.gM⟩
                (fun a o cls d q hz hf => pss_one (ps_ret (pe_tup (pa_cons pe_int (pa_cons (pe_xf X2.xM X2.fM hz hf (pv 4)) pa_nil))))) (.cons (k := ⟨.ref x.rw, 4, fun a cls d => tRet (tTup (tCons (tC (.int 4)) (tCons (tXf a cls d x.rw "at" (tVar 4)) tNil)))⟩) rfl rfl ⟨rfl, by decide, .inl X2.gR⟩
                (fun a o cls d q hz hf => pss_one (ps_ret (pe_tup (pa_cons pe_int (pa_cons (pe_xf X2.xR X2.fR hz hf (pv 4)) pa_nil))))) .nil))))))
      (pss_one (ps_ret pe_non))), ?_⟩
    refine ⟨_, rfl, lp, rfl, ⟨_, SqL.of hlp⟩, fun D hD => ?_⟩
    refine lc_it (walk_list (xs := ts.map V.ref)) (fun i H3 => Same H H3 ∧ ∃ as : List Addr, H3 D = some (.lst (as.map V.ref)) ∧ as.length = i ∧ PsAt CP H3 as (is.take i)) ⟨same_upd hD, [], upd_same, rfl, by simp, fun i a e => by simp at e⟩ (fun _ _ _ h => SqL.of (h.1 _ _ hlp)) ?_ ?_
    · rintro i y H3 H4 hi ⟨sm, as, hl, has, hps⟩ ⟨rfl, e1⟩
      rw [List.getElem?_map] at e1
      cases ht : ts[i]? with
      | none =>
        rw [ht] at e1
        cases e1
      | some t =>
        rw [ht] at e1
        obtain rfl := Option.some.inj e1
        obtain ⟨r, hr1, hT⟩ := hR.2 i t ht
        have hat := sm _ _ hT.at_
        have hi1 : i < is.length := (List.getElem?_eq_some_iff.mp hr1).1
        obtain ⟨cs, ecs, gcs⟩ := hT.nm
        obtain ⟨d, hd⟩ := (hT.df.ext (TupE.same sm)).dat hT.hs
        refine ⟨rfl, ?_⟩
        unfold tYes
        refine iteT ?_
        refine ⟨_, rfl, t, _, 0, .str r.nm, rfl, rfl, SqT.of hat, atI_nat (j := 0) rfl, _, rfl, t, _, 1, .str r.hs, rfl, rfl, SqT.of hat, atI_nat (j := 1) rfl, _, rfl, t, _, 2, r.v, rfl, rfl, SqT.of hat, atI_nat (j := 2) rfl, _, rfl, t, _, 3, .bl r.nd, rfl, rfl, SqT.of hat, atI_nat (j := 3) rfl, rfl, rfl, fun z dx hz hdx ne => ?_⟩
        have hz2 : (upd H4 dx (.own z)) z = none := by
          rw [upd_ne ne.symm]
          exact hz
        have s2 : Same H4 (upd (upd H4 dx (.own z)) z (.ins CP dx [])) := (same_upd hdx).trans (same_upd hz2)
        refine ⟨z, dx, r.nm, r.hs, r.v, d, r.nd, rfl, upd_same, by rw [ecs]; exact gcs.ok, by rw [ecs]; exact okN gcs, hT.hs, ⟨dp_same s2 hd.1, hd.2⟩, fun H' hk hz' => ⟨rfl, ?_⟩⟩
        have s3 : Same H4 H' := fun b o e => hk _ _ (ne_of_none e hz) (s2 _ _ e)
        have hl' := s3 _ _ hl
        refine ⟨_, hl', ?_, same_grow (sm.trans s3) hD, as ++ [z], by rw [upd_same, List.map_append]; rfl, by rw [List.length_append, has]; rfl, ?_, ?_⟩
        · rw [List.length_map, has]
          exact small1000 (by omega)
        · rw [List.length_append, has, List.length_take]
          show i + 1 = _
          omega
        · intro j a ha
          have gr : ∀ {b : Addr} {C : Addr} {e : Addr} {fs : List (Str × V)}, H' b = some (.ins C e fs) → (upd H' D (.lst (as.map V.ref ++ [V.ref z]))) b = some (.ins C e fs) := fun h => by
            rw [upd_ne (fun q => by rw [q, hl'] at h; cases h)]
            exact h
          by_cases hj : j < as.length
          · rw [List.getElem?_append_left hj] at ha
            obtain ⟨p2, e2, dx2, h2⟩ := hps.2 j a ha
            refine ⟨p2, ?_, dx2, gr (s3 _ _ h2)⟩
            rw [List.getElem?_take] at e2 ⊢
            rw [if_pos (by omega)] at e2
            rw [if_pos (by omega)]
            exact e2
          · rw [List.getElem?_append_right (by omega)] at ha
            have h0 : j - as.length = 0 := by
              by_cases h0 : j - as.length = 0
              · exact h0
              · rw [List.getElem?_eq_none (by show 1 ≤ _; omega)] at ha
                cases ha
            rw [h0] at ha
            obtain rfl := Option.some.inj ha
            obtain rfl : j = i := by omega
            refine ⟨r, ?_, dx, gr hz'⟩
            rw [List.getElem?_take, if_pos (Nat.lt_succ_self _)]
            exact hr1
    rintro H3 ⟨sm, as, hDl, has, hps⟩
    rw [List.length_map, hR.1, List.take_length] at hps
    rw [List.length_map, hR.1] at has
    refine ⟨rfl, _, rfl, _, rfl, _, rfl, rfl, rfl, vn, D, vr, aX, as, rfl, .inr (SqL.of hDl), by omega, fun p1 dx tP H4 s4 hp4 hT4 np => ?_⟩
    have s9 := sm.trans s4
    refine ⟨p1, dx, aX, tP, vn, vr, dn, dr, as, is, rfl, hp4, ⟨dp_same s9 hn, okn⟩, dp_same s9 hvr, SqT.of hT4, hps.same s4, by omega, hX _, ?_⟩
    rcases h with ⟨e0, cc⟩ | ⟨e0, h⟩
    · exact .inl ⟨e0, fun d H2 s2 hd => ⟨true, X2.eNN, fun _ e ne => ⟨_, rfl, rfl, rfl, d, _, _, rfl, hd, rfl, two_le, fun t nt => cc _ t (s9.trans (s2.trans (same_upd nt))) upd_same⟩, fun h => by cases h⟩⟩
    refine .inr ⟨e0, ?_⟩
    rcases h with ⟨i, z, hz, hin, hall, cc⟩ | ⟨hnew, h⟩
    · exact .inl ⟨i, z, hz, hin, hall, fun d H2 s2 hd => ⟨false, X2.eTN, fun h => (by cases h), fun _ => ⟨true, X2.eTT, fun _ e ne => ⟨_, rfl, rfl, rfl, d, _, _, rfl, hd, rfl, two_le, fun t nt => cc _ t (s9.trans (s2.trans (same_upd nt))) upd_same⟩, fun h => by cases h⟩⟩⟩
    refine .inr ⟨hnew, ?_⟩
    rcases h with ⟨i, a, b, h1, h2, hb, hall, cc⟩ | ⟨hord, h⟩
    · exact .inl ⟨i, a, b, h1, h2, hb, hall, fun d H2 s2 hd => ⟨false, X2.eON, fun h => (by cases h), fun _ => ⟨false, X2.eOT, fun h => (by cases h), fun _ => ⟨true, X2.eOO, fun _ e ne => ⟨_, rfl, rfl, rfl, d, _, _, rfl, hd, rfl, two_le, fun t nt => cc _ t (s9.trans (s2.trans (same_upd nt))) upd_same⟩, fun h => by cases h⟩⟩⟩⟩
    refine .inr ⟨hord, ?_⟩
    rcases h with ⟨hlt, cc⟩ | ⟨hle, h⟩
    · exact .inl ⟨by omega, fun d H2 s2 hd => ⟨false, X2.eMN, fun h => (by cases h), fun _ => ⟨false, X2.eMT, fun h => (by cases h), fun _ => ⟨false, X2.eMO, fun h => (by cases h), fun _ => ⟨true, X2.eMM, fun _ e ne => ⟨_, rfl, rfl, rfl, d, _, _, rfl, hd, rfl, two_le, fun t nt => cc _ t (s9.trans (s2.trans (same_upd nt))) upd_same⟩, fun h => by cases h⟩⟩⟩⟩⟩
    refine .inr ⟨by omega, ?_⟩
    rcases h with ⟨hlt, cc⟩ | ⟨hle2, h⟩
    · exact .inl ⟨hlt, fun d H2 s2 hd => ⟨false, X2.eMN, fun h => (by cases h), fun _ => ⟨false, X2.eMT, fun h => (by cases h), fun _ => ⟨false, X2.eMO, fun h => (by cases h), fun _ => ⟨true, X2.eMM, fun _ e ne => ⟨_, rfl, rfl, rfl, d, _, _, rfl, hd, rfl, two_le, fun t nt => cc _ t (s9.trans (s2.trans (same_upd nt))) upd_same⟩, fun h => by cases h⟩⟩⟩⟩⟩
    refine .inr ⟨hle2, ?_⟩
    rcases h with ⟨ht, cc⟩ | ⟨ht, tR, rows, bs, rfl, hRs, lrs, hrow, h⟩
    · exact .inl ⟨ht, fun d H2 s2 hd => ⟨false, X2.eRN, fun h => (by cases h), fun _ => ⟨false, X2.eRT, fun h => (by cases h), fun _ => ⟨false, X2.eRO, fun h => (by cases h), fun _ => ⟨false, X2.eRM, fun h => (by cases h), fun _ => ⟨true, X2.eRR, fun _ e ne => ⟨_, rfl, rfl, rfl, d, _, _, rfl, hd, rfl, two_le, fun t nt => cc _ t (s9.trans (s2.trans (same_upd nt))) upd_same⟩, fun h => by cases h⟩⟩⟩⟩⟩⟩
    refine .inr ⟨ht, tR, rows, bs, rfl, Same.seqT s9 hRs, lrs, fun i y e => (hrow i y e).same s9, ?_⟩
    rcases h with ⟨i, hi, hb, hall, cc⟩ | ⟨hgood, hlt, cc⟩
    · exact .inl ⟨i, hi, hb, hall, fun d H2 s2 hd => ⟨false, X2.eRN, fun h => (by cases h), fun _ => ⟨false, X2.eRT, fun h => (by cases h), fun _ => ⟨false, X2.eRO, fun h => (by cases h), fun _ => ⟨false, X2.eRM, fun h => (by cases h), fun _ => ⟨true, X2.eRR, fun _ e ne => ⟨_, rfl, rfl, rfl, d, _, _, rfl, hd, rfl, two_le, fun t nt => cc _ t (s9.trans (s2.trans (same_upd nt))) upd_same⟩, fun h => by cases h⟩⟩⟩⟩⟩⟩
    exact .inr ⟨hgood, .inl ⟨hlt, fun d H2 s2 hd => ⟨false, X2.eMN, fun h => (by cases h), fun _ => ⟨false, X2.eMT, fun h => (by cases h), fun _ => ⟨false, X2.eMO, fun h => (by cases h), fun _ => ⟨true, X2.eMM, fun _ e ne => ⟨_, rfl, rfl, rfl, d, _, _, rfl, hd, rfl, two_le, fun t nt => cc _ t (s9.trans (s2.trans (same_upd nt))) upd_same⟩, fun h => by cases h⟩⟩⟩⟩⟩⟩
end
end Dr
namespace Dr
open PySem PySem.Spec PyProof.Rows L2
open SX (S S_len S_cat)
theorem form_no {n : Nat} {w : Str} {ds : List PyData} {fs : List Form} (hn : ds.length = n) (h : fs.find? (hitF n w) = none) : formOf (.tuple (.str w :: ds)) fs = none := by
  unfold formOf
  subst hn
  have e : fits (.tuple (.str w :: ds)) = hitF ds.length w := by
    funext f
    cases f <;> rfl
  rw [e]
  exact h
/-- a row that adds to the variable c -/
def AddT (H : Hp) (t : Addr) (c : List Nat) : Prop := GoodN c ∧ ∃ u its, H t = some (.tup [.str "add", .str (S c), .ref u]) ∧ H u = some (.tup (its.map V.str)) ∧ ItsOk its
theorem AddT.ext {H H' : Hp} {t : Addr} {c : List Nat} (h : AddT H t c) (s : TupE H H') : AddT H' t c := by
  obtain ⟨g, u, its, e1, e2, e3⟩ := h
  exact ⟨g, u, its, s _ _ e1, s _ _ e2, e3⟩
def addD (c : List Nat) (its : List Str) : PyData := .tuple [.str "add", .str (S c), .tuple (its.map PyData.str)]
theorem smn_items {n : Nat} {its : List Str} (h : ItsOk its) : OkD (.tuple (its.map PyData.str)) := okD_strs h.sm (by have := h.len; omega)
theorem add_ok {c : List Nat} {its : List Str} (g : GoodN c) (h : ItsOk its) : OkD (addD c its) := by
  have q := smn_items (n := 0) h
  have h1 := SeqAt.canLay_of_shaped q.sh
  have h3 := (canAll_strs h.sm).2.2
  have hc := sms_good g
  refine ⟨?_, ?_⟩
  · show ((PyData.strOk "add" && (PyData.strOk (S c) && (PyData.canLay0 (.tuple (its.map PyData.str)) && true))) && decide (max 0 (max 0 (max (PyData.depthAll (its.map PyData.str) + 1) 0)) + 1 ≤ 64)) = true
    rw [hc.ok, h1, h3]
    decide +kernel
  · show (decide (3 ≤ 1000) && (decide (Str.length "add" ≤ 1000) && (decide ((S c).length ≤ 1000) && (smD (.tuple (its.map PyData.str)) && true)))) = true
    rw [decide_eq_true hc.sm, q.sm]
    decide +kernel
theorem add_row {K : PySem.W.Frag} {H : Hp} {t : Addr} {c : List Nat} (us : List Str) (h : AddT H t c) : RowOk K H us (.ref t) (us.contains (S c)) := by
  obtain ⟨g, u, its, e1, e2, hi⟩ := h
  have hform : formOf (.tuple [.str "add", .str (S c), .tuple (its.map PyData.str)]) rowForms = some (["add", "used", "items"] : List Str) := form_hd (n := 2) rfl (by decide +kernel)
  refine ⟨t, _, [.str "add", .str (S c), .tuple (its.map PyData.str)], ["add", "used", "items"], rfl, ⟨SqT.of e1, .cons (.str _) (.cons (.str _) (.cons (.tup (SqT.of e2) (dpAll_strs its)) .nil)), add_ok g hi, hform, form_no (n := 2) rfl (by decide +kernel), fun z hz => ?_, fun i v h1 h2 => ?_, rfl⟩, ?_, ?_⟩
  · rcases List.mem_cons.mp (show z ∈ (["used", "items"] : List Str) from hz) with rfl | hz
    · exact ⟨by decide +kernel, by decide +kernel⟩
    · rcases List.mem_cons.mp hz with rfl | hz
      · exact ⟨by decide +kernel, by decide +kernel⟩
      · cases hz
  · match i, h1, h2 with
    | 0, _, h2 =>
      obtain rfl := Option.some.inj h2
      rfl
    | 1, h1, _ => exact absurd (Option.some.inj h1) (by decide +kernel)
    | _ + 2, h1, _ => simp at h1
  · unfold hasForm
    rw [hform]
    show (S1 (.str (S c)) "used" && (S1 (.tuple (its.map PyData.str)) "items" && true)) = true
    have a1 : S1 (.str (S c)) "used" = nameOk (S c) := by
      unfold S1 S0
      rw [if_neg (by decide +kernel), if_neg (by decide +kernel), if_neg (by decide +kernel), if_neg (by decide +kernel)]
      rfl
    have a2 : S1 (.tuple (its.map PyData.str)) "items" = isItemsD (.tuple (its.map PyData.str)) := by
      unfold S1 S0
      rw [if_neg (by decide +kernel), if_neg (by decide +kernel), if_pos rfl]
    rw [a1, a2, g.ok, items_ok hi]
    rfl
  · show (usedsB us ["used", "items"] [.str (S c), .ref u]).all id = _
    have e : usedsB us ["used", "items"] [.str (S c), .ref u] = [inV (.str (S c)) (us.map V.str)] := by
      show (if ("used" : Str) = "used" then inV (.str (S c)) (us.map V.str) :: (if ("items" : Str) = "used" then inV (.ref u) (us.map V.str) :: [] else []) else _) = _
      rw [if_pos rfl, if_neg (by decide +kernel)]
    rw [e, in_strs]
    show (us.contains (S c) && true) = _
    rw [Bool.and_true]
theorem add_dp {K : PySem.W.Frag} {H : Hp} {t : Addr} {c : List Nat} (h : AddT H t c) : ∃ d, Dp K H (.ref t) d := by
  obtain ⟨g, u, its, e1, e2, hi⟩ := h
  exact ⟨addD c its, .tup (SqT.of e1) (.cons (.str _) (.cons (.str _) (.cons (.tup (SqT.of e2) (dpAll_strs its)) .nil)))⟩
theorem adds_dp {K : PySem.W.Frag} {H : Hp} : ∀ {ts : List Addr}, (∀ t ∈ ts, ∃ d, Dp K H (.ref t) d) → ∃ ds, DpAll K H (ts.map V.ref) ds
  | [], _ => ⟨[], .nil⟩
  | t :: r, h => by
    obtain ⟨d, hd⟩ := h t (List.mem_cons_self ..)
    obtain ⟨ds, hds⟩ := adds_dp (ts := r) fun t ht => h t (List.mem_cons_of_mem _ ht)
    exact ⟨d :: ds, .cons hd hds⟩
end Dr
namespace Dr
open PySem PySem.Spec PyProof.Rows L2
open SX (S S_len S_cat)
theorem first_dup (nms : List Str) : (∀ j, NewAt [] nms j) ∨ ∃ (i : Nat) (z : Str), nms[i]? = some z ∧ z ∈ nms.take i ∧ ∀ j, j < i → NewAt [] nms j := by
  have key : ∀ n : Nat, (∀ j, j < n → NewAt [] nms j) ∨ ∃ (i : Nat) (z : Str), nms[i]? = some z ∧ z ∈ nms.take i ∧ ∀ j, j < i → NewAt [] nms j := by
    intro n
    induction n with
    | zero => exact .inl fun j h => absurd h (Nat.not_lt_zero j)
    | succ n ih =>
      rcases ih with ih | ih
      · cases e : nms[n]? with
        | none =>
          refine .inl fun j hj y hy => ?_
          by_cases h : j < n
          · exact ih j h y hy
          · obtain rfl : j = n := by omega
            rw [e] at hy
            cases hy
        | some z =>
          by_cases hz : z ∈ nms.take n
          · exact .inr ⟨n, z, e, hz, ih⟩
          · refine .inl fun j hj y hy => ?_
            by_cases h : j < n
            · exact ih j h y hy
            · obtain rfl : j = n := by omega
              rw [e] at hy
              obtain rfl := Option.some.inj hy
              exact ⟨List.not_mem_nil, hz⟩
      · exact .inr ih
  rcases key nms.length with h | h
  · refine .inl fun j y hy => ?_
    exact h j (List.getElem?_eq_some_iff.mp hy).1 y hy
  · exact .inr h
theorem inF_false {k f1 f2 : Int} (h : inF k f1 f2 = false) : f1 ≠ k := fun e => by
  have q : (f1 == k || (f2 == k || false)) = false := h
  rw [e, beq_self_eq_true, Bool.true_or] at q
  cases q
theorem tail_named {qs : List (List Nat)} {b3 b4 : Bool} {l3 l4 : List Pi} (P3 : LP3 qs b3 l3) (P4 : LP4 qs b4 l4) : ∀ p ∈ l3 ++ l4, p.nd = true := fun p hp => by
  rcases List.mem_append.mp hp with h | h
  · unfold LP3 at P3
    split at P3
    · obtain ⟨m, _, _, rfl⟩ := P3
      obtain ⟨i, _, rfl⟩ := List.mem_map.mp h
      rfl
    · rw [P3] at h
      cases h
  · unfold LP4 at P4
    split at P4
    · obtain ⟨v, w, rfl⟩ := P4
      rcases List.mem_cons.mp h with rfl | h
      · rfl
      · rcases List.mem_cons.mp h with rfl | h
        · rfl
        · cases h
    · rw [P4] at h
      cases h
theorem combo {K : PySem.W.Frag} {H : Hp} {qs : List (List Nat)} {f1 f2 at_ : Int} {l1 l2 l3 l4 : List Pi} {vn vr : V} {dn dr : PyData} (hf0 : 0 ≤ f1) (hf7 : f1 < 8)
    (P1 : LP1 qs (inF 1 f1 f2) l1) (P2 : LP2 qs (inF 2 f1 f2) l2) (P3 : LP3 qs (inF 3 f1 f2) l3) (P4 : LP4 qs (inF 4 f1 f2) l4) (g3 : SmS (S (nA qs 3))) (gn : ∀ r ∈ basis qs ++ l1 ++ l2 ++ l3 ++ l4, SmS r.nm)
    (hn0 : inF 0 f1 f2 = true → isNameD dn = false) (hn1 : inF 0 f1 f2 = false → isNameD dn = true) (h5 : inF 5 f1 f2 = true → isTupD dr = false)
    (h6 : inF 5 f1 f2 = false → isTupD dr = true ∧ ∃ (tR : Addr) (rows : List V) (bs : Nat → Bool), vr = .ref tR ∧ SqT K H tR rows ∧ rows.length ≤ 100 ∧ (∀ (i : Nat) (y : V), rows[i]? = some y → RowOk K H [S (nA qs 1)] y (bs i)) ∧
      ((inF 6 f1 f2 = true ∧ ∃ i : Nat, i < rows.length ∧ bs i = false ∧ (∀ j, j < i → bs j = true) ∧ (i : Int) = at_) ∨ (inF 6 f1 f2 = false ∧ (∀ i, i < rows.length → bs i = true) ∧ (inF 7 f1 f2 = true → 8 < rows.length)))) :
    ∃ (k : Int) (v : V), (v = vn ∨ (∃ z, v = .str z ∧ SmS z) ∨ ∃ i, v = .int i) ∧ (∀ R : Int → V → Prop, R k v → ToldC K H vn dn vr dr (basis qs ++ l1 ++ l2 ++ l3 ++ l4) R) ∧ ∀ R : Int → V → Prop, R k v → DueC f1 f2 at_ (S (nA qs 3)) vn (basis qs ++ l1 ++ l2 ++ l3 ++ l4) R := by
  cases e0 : inF 0 f1 f2 with
  | true => exact ⟨0, vn, .inl rfl, fun R h => .inl ⟨hn0 e0, h⟩, fun R h => .inl ⟨e0, h⟩⟩
  | false =>
    have n1 := hn1 e0
    rcases first_dup ((basis qs ++ l1 ++ l2 ++ l3 ++ l4).map Pi.nm) with hnew | ⟨i, z, hz, hin, hall⟩
    case inr =>
      refine ⟨1, .str z, .inr (.inl ⟨z, rfl, ?_⟩), fun R h => .inr ⟨n1, .inl ⟨i, z, hz, hin, hall, h⟩⟩, fun R h => .inr ⟨e0, .inl ⟨i, z, hz, hin, hall, h⟩⟩⟩
      obtain ⟨r, hr, rfl⟩ := List.mem_map.mp (List.mem_of_getElem? hz)
      exact gn r hr
    have e1 : inF 1 f1 f2 = false := by
      cases e1 : inF 1 f1 f2 with
      | false => rfl
      | true =>
        unfold LP1 at P1
        rw [if_pos e1] at P1
        obtain ⟨c, hs, hc, rfl⟩ := P1
        have q := (hnew 2 (S c) (by simp [basis, row])).2
        refine absurd ?_ q
        rcases hc with rfl | rfl <;> simp [basis, row]
    have hl1 : l1 = [] := by
      unfold LP1 at P1
      rwa [if_neg (by rw [e1]; simp)] at P1
    subst hl1
    cases e2 : inF 2 f1 f2 with
    | true =>
      have hb : ∃ a b : Pi, (basis qs ++ [] ++ l2 ++ l3 ++ l4)[2]? = some a ∧ (basis qs ++ [] ++ l2 ++ l3 ++ l4)[2 + 1]? = some b ∧ badPair a b = true ∧ b.nm = S (nA qs 3) ∧ ∀ (j : Nat) p q, j < 2 → (basis qs ++ [] ++ l2 ++ l3 ++ l4)[j]? = some p → (basis qs ++ [] ++ l2 ++ l3 ++ l4)[j + 1]? = some q → badPair p q = false := by
        unfold LP2 at P2
        rw [if_pos e2] at P2
        rcases P2 with ⟨v, rfl⟩ | ⟨t, hs, rfl⟩
        · refine ⟨row (nA qs 2) "mark" .non true, row (nA qs 3) "mark" v false, by simp [basis], by simp [basis], rfl, rfl, fun j p q hj h1 h2 => ?_⟩
          match j, hj with
          | 0, _ =>
            simp [basis] at h1 h2
            rw [← h1, ← h2]
            simp [badPair, row]
          | 1, _ =>
            simp [basis] at h1 h2
            rw [← h1, ← h2]
            simp [badPair, row]
        · refine ⟨row (nA qs 2) "mark" (.ref t) false, row (nA qs 3) hs .non false, by simp [basis], by simp [basis], by simp [badPair, row], rfl, fun j p q hj h1 h2 => ?_⟩
          match j, hj with
          | 0, _ =>
            simp [basis] at h1 h2
            rw [← h1, ← h2]
            simp [badPair, row]
          | 1, _ =>
            simp [basis] at h1 h2
            rw [← h1, ← h2]
            simp [badPair, row]
      obtain ⟨a, b, ha, hb, hab, hbn, hall⟩ := hb
      exact ⟨2, .str (S (nA qs 3)), .inr (.inl ⟨_, rfl, g3⟩), fun R h => .inr ⟨n1, .inr ⟨hnew, .inl ⟨2, a, b, ha, hb, hab, hall, by rw [hbn]; exact h⟩⟩⟩, fun R h => .inr ⟨e0, .inr ⟨hnew, .inl ⟨e2, h⟩⟩⟩⟩
    | false =>
      have hl2 : l2 = [] := by
        unfold LP2 at P2
        rwa [if_neg (by rw [e2]; simp)] at P2
      subst hl2
      have hIS : basis qs ++ [] ++ [] ++ l3 ++ l4 = basis qs ++ (l3 ++ l4) := by simp
      have hord : ∀ (i : Nat) p q, (basis qs ++ [] ++ [] ++ l3 ++ l4)[i]? = some p → (basis qs ++ [] ++ [] ++ l3 ++ l4)[i + 1]? = some q → badPair p q = false := fun i p q h1 h2 => by
        rw [hIS] at h1 h2
        by_cases hi : i = 0
        · subst hi
          simp [basis] at h1 h2
          rw [← h1, ← h2]
          simp [badPair, row]
        · rw [List.getElem?_append_right (by show 2 ≤ i + 1; omega)] at h2
          have := tail_named P3 P4 q (List.mem_of_getElem? h2)
          unfold badPair
          rw [this]
          rfl
      by_cases h4 : 4 < (basis qs ++ [] ++ [] ++ l3 ++ l4).length
      · exact ⟨3, .str "params", .inr (.inl ⟨_, rfl, sms_lit (by decide +kernel)⟩), fun R h => .inr ⟨n1, .inr ⟨hnew, .inr ⟨hord, .inl ⟨h4, h⟩⟩⟩⟩, fun R h => .inr ⟨e0, .inr ⟨hnew, .inr ⟨e2, .inl ⟨h4, h⟩⟩⟩⟩⟩
      by_cases hbx : 2 < (holding "box" (basis qs ++ [] ++ [] ++ l3 ++ l4)).length
      · exact ⟨3, .str "boxes", .inr (.inl ⟨_, rfl, sms_lit (by decide +kernel)⟩), fun R h => .inr ⟨n1, .inr ⟨hnew, .inr ⟨hord, .inr ⟨by omega, .inl ⟨hbx, h⟩⟩⟩⟩⟩, fun R h => .inr ⟨e0, .inr ⟨hnew, .inr ⟨e2, .inr ⟨by omega, .inl ⟨hbx, h⟩⟩⟩⟩⟩⟩
      have hmb : ("mark" : Str) ≠ "box" := by decide +kernel
      have e3 : inF 3 f1 f2 = false := by
        cases e3 : inF 3 f1 f2 with
        | false => rfl
        | true =>
          unfold LP3 at P3
          rw [if_pos e3] at P3
          obtain ⟨m, hm, _, rfl⟩ := P3
          refine absurd ?_ h4
          rw [hIS, List.length_append, List.length_append, List.length_map, List.length_range]
          show 4 < 2 + _
          omega
      have hl3 : l3 = [] := by
        unfold LP3 at P3
        rwa [if_neg (by rw [e3]; simp)] at P3
      subst hl3
      have e4 : inF 4 f1 f2 = false := by
        cases e4 : inF 4 f1 f2 with
        | false => rfl
        | true =>
          unfold LP4 at P4
          rw [if_pos e4] at P4
          obtain ⟨v, w, rfl⟩ := P4
          refine absurd ?_ hbx
          simp [holding, basis, row, List.filter_cons, hmb]
      have hl4 : l4 = [] := by
        unfold LP4 at P4
        rwa [if_neg (by rw [e4]; simp)] at P4
      subst hl4
      have hus : holding "box" (basis qs ++ [] ++ [] ++ [] ++ []) = [S (nA qs 1)] := by
        simp [holding, basis, row, List.filter_cons, hmb]
      have pre : ∀ {R : Int → V → Prop}, _ → ToldC K H vn dn vr dr (basis qs ++ [] ++ [] ++ [] ++ []) R := fun {R} h => .inr ⟨n1, .inr ⟨hnew, .inr ⟨hord, .inr ⟨by omega, .inr ⟨by omega, h⟩⟩⟩⟩⟩
      cases e5 : inF 5 f1 f2 with
      | true => exact ⟨4, .int (-1), .inr (.inr ⟨_, rfl⟩), fun R h => pre (.inl ⟨h5 e5, h⟩), fun R h => .inr ⟨e0, .inr ⟨hnew, .inr ⟨e2, .inr ⟨by omega, .inr ⟨by omega, .inl ⟨e5, h⟩⟩⟩⟩⟩⟩⟩
      | false =>
        obtain ⟨ht, tR, rows, bs, hvr, hRs, lrs, hrow, h⟩ := h6 e5
        rw [← hus] at hrow
        rcases h with ⟨e6, i, hi, hb, hall, ei⟩ | ⟨e6, hgood, h7⟩
        · exact ⟨4, .int i, .inr (.inr ⟨_, rfl⟩), fun R h => pre (.inr ⟨ht, tR, rows, bs, hvr, hRs, lrs, hrow, .inl ⟨i, hi, hb, hall, h⟩⟩), fun R h => .inr ⟨e0, .inr ⟨hnew, .inr ⟨e2, .inr ⟨by omega, .inr ⟨by omega, .inr ⟨e5, .inl ⟨e6, by rw [← ei]; exact h⟩⟩⟩⟩⟩⟩⟩⟩
        · have e7 : inF 7 f1 f2 = true := by
            cases e7 : inF 7 f1 f2 with
            | true => rfl
            | false =>
              have := inF_false e0
              have := inF_false e1
              have := inF_false e2
              have := inF_false e3
              have := inF_false e4
              have := inF_false e5
              have := inF_false e6
              have := inF_false e7
              omega
          exact ⟨3, .str "rows", .inr (.inl ⟨_, rfl, sms_lit (by decide +kernel)⟩), fun R h => pre (.inr ⟨ht, tR, rows, bs, hvr, hRs, lrs, hrow, .inr ⟨hgood, h7 e7, h⟩⟩), fun R h => .inr ⟨e0, .inr ⟨hnew, .inr ⟨e2, .inr ⟨by omega, .inr ⟨by omega, .inr ⟨e5, .inr ⟨e6, h⟩⟩⟩⟩⟩⟩⟩⟩
end Dr
set_option maxHeartbeats 8000000
namespace Dr
open PySem PySem.Spec PyProof.Rows L2
open SX (S S_len S_cat)
abbrev sLaw : Stmt := topS 44
abbrev nLaw : List Str := ["_law_script", "_law_at", "_law_bag_here", "_law_names_here", "_law_turn", "_law_faults", "_law_params_here", "_law_listed", "_law_place", "_law_name", "_law_given", "_law_good", "_law_k"]
theorem scLaw : FnScope nLaw ["_law_script"] (defScope sLaw) := ⟨rfl, rfl, rfl, by decide +kernel, rfl, by decide +kernel, by decide +kernel⟩
structure BltL (mg : Str → Option Value) : Prop where
  range : mg "range" = none
  max : mg "max" = none
  min : mg "min" = none
  len : mg "len" = none
  tup : mg "tuple" = none
theorem bind_h {K : PySem.W.Frag} {f : Addr} {fd : FuncData} (F : FP K f fd) : ∃ mv : List Value, KBn K fd psP 2 ["holds"] (fun us ws => us ++ (ws ++ mv)) (fun vs zs => vs ++ (zs ++ [V.non, .bl false])) := by
  exact F.kbinds0 (ps := psP) 2 ["holds"] [("default", .non), ("named", .bl false)] (fun us mv ws => us ++ (ws ++ mv)) (by simp) (fun q hq => by
      rcases List.mem_cons.mp hq with e | hq
      · rw [e]; simp
      · rcases List.mem_cons.mp hq with e | hq
        · rw [e]; simp
        · cases hq) (fun r1 r2 r3 => r1.append (r3.append r2))
    (fun D doc pm an cdv ct us mv ws l1 l2 l3 => match us, mv, ws, l1, l2, l3 with | [_, _], [_, _], [_], _, _, _ => ⟨_, _, _, _, _, _, rfl, rfl, ⟨_, _, _, _, _, _, rfl, rfl, rfl⟩⟩)
theorem bind_0 {K : PySem.W.Frag} {f : Addr} {fd : FuncData} (F : FP K f fd) : ∃ ds, Vals [V.str "box", .non, .bl false] ds ∧ Binds K fd psP ds :=
  F.binds0 (ps := psP) 2 (by simp) rfl (fun D doc pm an cdv ct us ks l1 l2 => match us, ks, l1, l2 with | [_, _], [_, _, _], _, _ => ⟨_, _, _, _, _, _, rfl, rfl, ⟨_, _, _, _, _, _, rfl, rfl, ⟨_, _, _, _, _, _, rfl, rfl, rfl⟩⟩⟩)
section
variable {P : Program} {w : World} {K : PySem.W.Frag} {mg : Str → Option Value} {base : Heap}
theorem lp_len {qs : List (List Nat)} {b1 b2 b3 b4 : Bool} {l1 l2 l3 l4 : List Pi} (P1 : LP1 qs b1 l1) (P2 : LP2 qs b2 l2) (P3 : LP3 qs b3 l3) (P4 : LP4 qs b4 l4) : (basis qs ++ l1 ++ l2 ++ l3 ++ l4).length ≤ 100 := by
  have n1 : l1.length ≤ 1 := by
    unfold LP1 at P1
    split at P1
    · obtain ⟨c, hs, _, rfl⟩ := P1
      exact Nat.le_refl _
    · rw [P1]
      exact Nat.zero_le _
  have n2 : l2.length ≤ 2 := by
    unfold LP2 at P2
    split at P2
    · rcases P2 with ⟨v, rfl⟩ | ⟨t, hs, rfl⟩ <;> exact Nat.le_refl _
    · rw [P2]
      exact Nat.zero_le _
  have n3 : l3.length ≤ 4 := by
    unfold LP3 at P3
    split at P3
    · obtain ⟨m, _, h, rfl⟩ := P3
      rw [List.length_map, List.length_range]
      exact h
    · rw [P3]
      exact Nat.zero_le _
  have n4 : l4.length ≤ 2 := by
    unfold LP4 at P4
    split at P4
    · obtain ⟨v, w, rfl⟩ := P4
      exact Nat.le_refl _
    · rw [P4]
      exact Nat.zero_le _
  rw [List.length_append, List.length_append, List.length_append, List.length_append]
  show 2 + l1.length + l2.length + l3.length + l4.length ≤ 100
  omega
theorem nA_ne {qs : List (List Nat)} (h : qs.length = 16) (hnd : qs.Nodup) {i j : Nat} (hij : i < j) (hj : j < 16) : nA qs i ≠ nA qs j := by
  have q := List.pairwise_iff_getElem.mp hnd i j (by omega) (by omega) hij
  unfold nA
  rw [List.getD_eq_getElem?_getD, List.getD_eq_getElem?_getD, List.getElem?_eq_getElem (by omega), List.getElem?_eq_getElem (by omega)]
  exact q
theorem okTold {k : Int} {d : PyData} (h : OkD d) (hd : d.depth ≤ 3) : OkD (.tuple [.int k, d]) := by
  refine ⟨?_, ?_⟩
  · show ((true && (d.canLay0 && true)) && decide (max 0 (max d.depth 0) + 1 ≤ 64)) = true
    rw [SeqAt.canLay_of_shaped h.sh, decide_eq_true (by omega)]
    rfl
  · show (decide (2 ≤ 1000) && (true && (smD d && true))) = true
    rw [h.sm]
    decide
theorem par_made {C x dx : Addr} {H : Hp} {nm hs : Str} {v : V} {d : PyData} {nd : Bool} {Q : VK} {E : XK} (hx : H x = none) (hdx : H dx = none) (hnm : nameOk nm = true) (hok : OkD (.str nm)) (hhs : hs = "mark" ∨ hs = "box") (hd : DflOk K H v d hs)
    (q : ∀ H3, Same H H3 → ParAt C H3 x nm hs v nd → Q .non H3) : spPInit K C [.ref x, .str nm, .str hs, v, .bl nd] (upd (upd H dx (.own x)) x (.ins C dx [])) Q E := by
  have s1 : Same H (upd (upd H dx (.own x)) x (.ins C dx [])) := fun b o e => by
    rw [upd_ne (ne_of_none e hx), upd_ne (ne_of_none e hdx)]
    exact e
  refine ⟨x, dx, nm, hs, v, d, nd, rfl, upd_same, hnm, hok, hhs, ⟨dp_same s1 hd.1, hd.2.1, hd.2.2⟩, fun H3 h1 h2 => q H3 (fun b o e => h1 b o (ne_of_none e hx) (s1 _ _ e)) ⟨dx, h2⟩⟩
theorem take8_of {K : PySem.W.Frag} {H : Hp} {a : Addr} {xs : List V} {Q : VK} (h : SqT K H a xs) (q : ∀ b H', Same H H' → SqT K H' b (xs.take 8) → Q (.ref b) H') : rSlA K (.ref a) none (some 8) H Q := by
  refine ⟨a, xs, rfl, h, fun e => ?_, fun e p np => ?_⟩
  · have e2 := e.2
    rw [show HT.sIx xs.length xs.length (some 8) = min 8 xs.length from HT.sIx_nat _ _ 8] at e2
    refine q a H (Same.refl _) ?_
    rw [List.take_of_length_le (by omega)]
    exact h
  · by_cases hl : 8 ≤ xs.length
    · refine q p _ (same_upd np) ?_
      have ec : cutV xs none (some 8) = xs.take 8 := cut_take _ 8 hl
      rw [ec]
      exact SqT.of upd_same
    · refine absurd ⟨?_, ?_⟩ e
      · exact HT.sIx_none ..
      · rw [show HT.sIx xs.length xs.length (some 8) = min 8 xs.length from HT.sIx_nat _ _ 8]
        omega
theorem mF_rows {vn vp vr vx : V} : (mF vn vp vr vx).lookup ("rows" : Str) = some vr := by
  unfold mF
  rw [lookup_putF, if_neg (by decide +kernel), lookup_putF, if_pos rfl]
def spLaw (K : PySem.W.Frag) : Sp := fun vs H Q _ => ∃ (a : Addr) (ns : List Int), vs = [.ref a] ∧ SqL K H a (ns.map V.int) ∧ ns.length ≤ 63 ∧ ∀ H', Q (.bl true) H'
theorem ok_law {kI kO : Nat} {CM CP f fB fT fO fN fLP fTD fDU fI fOf aE aX pO : Addr} {mc : Value} {x : MErr} {fd fdB fdT fdO fdN fdLP fdTD fdDU fdI fdOf : FuncData} (F : Fun K "law" "law" sLaw f fd) (L : BltL mg) (T : Prm K mg CP) (TM : Mtd K mg CM mc) (M : Mk K CP fI) (FI : FP K fI fdI) (FO : FMOf K aE aX fOf fdOf) (cO : ClX.CMet K CM mc "of" pO fOf) (hX : ∀ H, SqT K H aX [.str "none"])
    (GI : FnOk P w K mg base CX0 kI fI fdI psP (spPInit K CP)) (GOf : FnOk P w K mg base (L2.CX P w) kO fOf fdOf psMOf (spMOf K CM CP x))
    (GB : FnOk P w K mg base CX0 1 fB fdB ["_law_script", "_law_at"] (spBag K)) (mB : mg "_law_bag" = some (.ref fB)) (kB : PySem.W.keepIn K (.ref fB) = true) (bB : Binds K fdB ["_law_script", "_law_at"] [])
    (GT : FnOk P w K mg base CX0 1 fT fdT ["_law_bag_here", "_law_many"] spTake) (mT : mg "_law_take" = some (.ref fT)) (kT : PySem.W.keepIn K (.ref fT) = true) (bT : Binds K fdT ["_law_bag_here", "_law_many"] [])
    (GO : FnOk P w K mg base CX0 2 fO fdO ["_law_bag_here", "_law_some"] (spOf K)) (mO : mg "_law_of" = some (.ref fO)) (kO' : PySem.W.keepIn K (.ref fO) = true) (bO : Binds K fdO ["_law_bag_here", "_law_some"] [])
    (GN : FnOk P w K mg base CX0 3 fN fdN ["_law_bag_here", "_law_many"] (spNames K)) (mN : mg "_law_names" = some (.ref fN)) (kN : PySem.W.keepIn K (.ref fN) = true) (bN : Binds K fdN ["_law_bag_here", "_law_many"] [])
    (GLP : FnOk P w K mg base CX0 3 fLP fdLP ["_law_bag_here", "_law_names_here", "_law_faults"] (spLP K)) (mLP : mg "_law_params" = some (.ref fLP)) (kLP : PySem.W.keepIn K (.ref fLP) = true) (bLP : Binds K fdLP ["_law_bag_here", "_law_names_here", "_law_faults"] [])
    (GTD : FnOk P w K mg base CX0 (kO + 1) fTD fdTD ["_law_name", "_law_params_here", "_law_listed"] (spTold K)) (mTD : mg "_law_told" = some (.ref fTD)) (kTD : PySem.W.keepIn K (.ref fTD) = true) (bTD : Binds K fdTD ["_law_name", "_law_params_here", "_law_listed"] [])
    (GDU : FnOk P w K mg base CX0 1 fDU fdDU ["_law_names_here", "_law_params_here", "_law_faults", "_law_name", "_law_at"] (spDue K)) (mDU : mg "_law_due" = some (.ref fDU)) (kDU : PySem.W.keepIn K (.ref fDU) = true) (bDU : Binds K fdDU ["_law_names_here", "_law_params_here", "_law_faults", "_law_name", "_law_at"] [])
    (h3 : 3 ≤ kI) (h1 : kI + 1 ≤ kO) : FnOk P w K mg base CX0 (kO + 2) f fd ["_law_script"] (spLaw K) := by
  obtain ⟨mv, bOf⟩ := bind_of FO
  have GK := FnK.of GOf bOf
  obtain ⟨mh, bH⟩ := bind_h FI
  obtain ⟨ds0, vds0, b0⟩ := bind_0 FI
  refine F.ok scLaw (fun vs H Q E h => ?_) (fun cdv A outer s H vs Q E hr h => ?_)
  · obtain ⟨a, ns, rfl, _⟩ := h
    rfl
  · obtain ⟨a, ns, rfl, hS, hlen, q⟩ := h
    have hu : (A.deeper (envOfC "law" (defScope sLaw) s.heap.objs.size f cdv)).units + 64 < cLine := hr.units
    have hr1 : Room 1 _ := hr.mono (by omega)
    have hr2 : Room 2 _ := hr.mono (by omega)
    have hr3 : Room 3 _ := hr.mono (by omega)
    have hrI : Room (kI + 1) _ := hr.mono (by omega)
    have hrO : Room kO _ := hr.mono (by omega)
    have hrT : Room (kO + 1) _ := hr
    refine ⟨_, pss_cons (ps_for PassesOwn.never rfl (pi_range1 rfl L.range (pa_cons (pe_callB (call_max2 rfl) (by rfl) L.max (by decide +kernel) (pa_cons pe_int (pa_cons (pe_callB (call_min2 rfl) (by rfl) L.min (by decide +kernel) (pa_cons pe_int (pa_cons (pe_callB call_len_seq (by rfl) L.len PySem.boot_len (pa_cons (pv 0) pa_nil)) pa_nil))) pa_nil))) pa_nil)) (pg_name (i := 1) scLaw.nd rfl (.inl rfl))
      (pss_cons (ps_set (i := 2) scLaw.nd rfl (.inl rfl) (pe_call GB hr1 (by rfl) mB kB bB .nil pass0 (pa_cons (pv 0) (pa_cons (pv 1) pa_nil))))
      (pss_cons (ps_set (i := 3) scLaw.nd rfl (.inr rfl) (pe_call GN hr3 (by rfl) mN kN bN .nil pass0 (pa_cons (pv 2) (pa_cons pe_int pa_nil))))
      (pss_one (ps_for PassesOwn.never rfl (pi_range1 rfl L.range (pa_cons pe_int pa_nil)) (pg_name (i := 4) scLaw.nd rfl (.inl rfl))
        (pss_cons (ps_set (i := 5) scLaw.nd rfl (.inl rfl) (pe_lst (pa_cons (pe_call GT hr1 (by rfl) mT kT bT .nil pass0 (pa_cons (pv 2) (pa_cons pe_int pa_nil))) (pa_cons (pe_call GT hr1 (by rfl) mT kT bT .nil pass0 (pa_cons (pv 2) (pa_cons pe_int pa_nil))) pa_nil))))
        (pss_cons (ps_set (i := 6) scLaw.nd rfl (.inl rfl) (pe_call GLP hr3 (by rfl) mLP kLP bLP .nil pass0 (pa_cons (pv 2) (pa_cons (pv 3) (pa_cons (pv 5) pa_nil)))))
        (pss_cons (ps_setLc (i := 7) (own := [("_law_k", 12)]) (g := gName 12) (tt := tYes) rfl scLaw.nd rfl rfl (sw_true rfl rfl rfl (by decide +kernel)) (pi_range1 rfl L.range (pa_cons (pe_call GT hr1 (by rfl) mT kT bT .nil pass0 (pa_cons (pv 2) (pa_cons pe_int pa_nil))) pa_nil)) (blkOk_by (N := nLaw) (sc := defScope sLaw) (by decide +kernel)) (fun _ _ _ _ _ => pg_name (i := 12) scLaw.nd rfl (Or.inl rfl)) (fun _ _ _ _ _ => pts_nil)
            (fun _ _ _ _ _ => (pe_tup (pa_cons pe_str (pa_cons (pe_ix (show IxR _ (rIxL K) from ix_list) (pv 3) pe_int (fun _ _ => rfl)) (pa_cons (pe_tup pa_nil) pa_nil))))))
        (C8.pss_cut (ps_if (pt_cmpR op_in_seq pe_int (pv 5) rfl) (pss_one (ps_setLc (i := 7) (own := [("_law_k", 12)]) (g := gName 12) (tt := tYes) rfl scLaw.nd rfl rfl (sw_true rfl rfl rfl (by decide +kernel)) (pi_range1 rfl L.range (pa_cons (pe_op op_add pe_int (pe_call GT hr1 (by rfl) mT kT bT .nil pass0 (pa_cons (pv 2) (pa_cons pe_int pa_nil)))) pa_nil)) (blkOk_by (N := nLaw) (sc := defScope sLaw) (by decide +kernel)) (fun _ _ _ _ _ => pg_name (i := 12) scLaw.nd rfl (Or.inl rfl)) (fun _ _ _ _ _ => pts_nil)
            (fun _ _ _ _ _ => (pe_tup (pa_cons pe_str (pa_cons (pe_ix (show IxR _ (rIxL K) from ix_list) (pv 3) pe_int (fun _ _ => rfl)) (pa_cons (pe_tup (pa_cons (pe_ix (show IxR _ (rIxL K) from ix_list) (pv 3) pe_int (fun _ _ => rfl)) pa_nil)) pa_nil))))))) pss_nil)
        (pss_cons (ps_set (i := 8) scLaw.nd rfl (.inl rfl) (pe_call GT hr1 (by rfl) mT kT bT .nil pass0 (pa_cons (pv 2) (pa_cons (pe_op op_add (pe_callB call_len_seq (by rfl) L.len PySem.boot_len (pa_cons (pv 7) pa_nil)) pe_int) pa_nil))))
        (C8.pss_cut (ps_if (pt_cmpR op_in_seq pe_int (pv 5) rfl) (pss_one (ps_expr (pe_bm PySem.F.plainAttrs_list PySem.F.slot_list_insert PySem.F.type_list_insert mt_insert (pv 7) (pa_cons (pv 8) (pa_cons (pe_tup (pa_cons pe_str (pa_cons (pe_ix ix_list (pv 3) pe_int (fun _ _ => rfl)) (pa_cons (pe_tup pa_nil) pa_nil)))) pa_nil))))) pss_nil)
        (C8.pss_cut (ps_set (i := 9) scLaw.nd rfl (.inl rfl) (pe_ifExp (pt_cmpR op_in_seq pe_int (pv 5) rfl) (pe_call GO hr2 (by rfl) mO kO' bO .nil pass0 (pa_cons (pv 2) (pa_cons (pe_lst (pa_cons pe_str (pa_cons pe_int (pa_cons pe_non (pa_cons pe_str (pa_cons pe_str (pa_cons pe_str (pa_cons (pe_tup (pa_cons (pe_ix ix_list (pv 3) pe_int (fun _ _ => rfl)) pa_nil)) pa_nil)))))))) pa_nil))) (pe_ix ix_list (pv 3) pe_int (fun _ _ => rfl))))
        (C8.pss_cut (ps_set (i := 10) scLaw.nd rfl (.inl rfl) (pe_ifExp (pt_cmpR op_in_seq pe_int (pv 5) rfl) (pv 7) (pe_callTy call_tuple_of (by rfl) L.tup (by decide +kernel) (pa_cons (pv 7) pa_nil))))
        (pss_cons (ps_if (pt_cmpR (op_neD hu) (pe_call GTD hrT (by rfl) mTD kTD bTD .nil pass0 (pa_cons (pv 9) (pa_cons (pv 6) (pa_cons (pv 10) pa_nil)))) (pe_call GDU hr1 (by rfl) mDU kDU bDU .nil pass0 (pa_cons (pv 3) (pa_cons (pv 6) (pa_cons (pv 5) (pa_cons (pv 9) (pa_cons (pv 8) pa_nil)))))) (nomark _)) (pss_one (ps_ret pe_bl)) pss_nil)
        (pss_cons (ps_set (i := 11) scLaw.nd rfl (.inl rfl) (pe_cmethK (E := WE fun _ _ _ _ => False) (pe_glob (v := .ref CM) (by rfl) TM.mgC rfl) TM.rd cO GK hrO (fun σ => passAt takes0 σ) (pa_cons (pe_ix ix_list (pv 3) pe_int (fun _ _ => rfl)) (pa_cons (pe_lst (pa_cons (pe_makeK M GI hrI (by rfl) T.mgC bH pass0 (pa_cons (pe_ix ix_list (pv 3) pe_int (fun _ _ => rfl)) pa_nil) (pk_cons pe_str pk_nil)) (pa_cons (pe_make M GI hrI (by rfl) T.mgC b0 vds0 pass0 (pa_cons (pe_ix ix_list (pv 3) pe_int (fun _ _ => rfl)) pa_nil)) pa_nil))) pa_nil))
            (pk_cons (pe_slice sl_tupA (pe_callTy call_tuple_of (by rfl) L.tup (by decide +kernel) (pa_cons (pe_slice sl_list (pv 7) po_none (po_some (pv 8))) pa_nil)) po_none (po_some pe_int)) pk_nil)))
        (pss_one (ps_if (pt_cmpR op_ne (pe_callB call_len_seq (by rfl) L.len PySem.boot_len (pa_cons (pe_fld (pv 11) rfl) pa_nil)) (pe_callB (call_min2 rfl) (by rfl) L.min (by decide +kernel) (pa_cons (pv 8) (pa_cons pe_int pa_nil))) (nomark _)) (pss_one (ps_ret pe_bl)) pss_nil)))))))))))))))))
      (pss_one (ps_ret pe_bl)), ?_⟩
    have hJ : ∀ n : Nat, 1 ≤ (if (if ((n : Nat) : Int) < 6 then ((n : Nat) : Int) else 6) > 1 then (if ((n : Nat) : Int) < 6 then ((n : Nat) : Int) else 6) else 1) ∧ (if (if ((n : Nat) : Int) < 6 then ((n : Nat) : Int) else 6) > 1 then (if ((n : Nat) : Int) < 6 then ((n : Nat) : Int) else 6) else 1) ≤ 6 := fun n => by
      split <;> split <;> omega
    refine ⟨_, rfl, a, _, rfl, .inl hS, _, _, rfl, _, _, rfl, _, rfl, ?_, ?_, ?_⟩
    · have := (hJ (ns.map V.int).length).1
      show -(2 ^ 62) ≤ _
      omega
    · have := (hJ (ns.map V.int).length).2
      show _ < 2 ^ 62
      omega
    have hJ2 := (hJ (ns.map V.int).length).2
    refine for_it walk_range (fun i σ H' => Same H H' ∧ ∃ y1 y2 y3 y4 y5 y6 y7 y8 y9 y10 y11 : Option V, σ = [some (.ref a), y1, y2, y3, y4, y5, y6, y7, y8, y9, y10, y11, none]) ⟨Same.refl _, none, none, none, none, none, none, none, none, none, none, none, rfl⟩ (fun _ _ _ _ _ => trivial) ?_ (fun σ H1 ⟨_, y1, y2, y3, y4, y5, y6, y7, y8, y9, y10, y11, e⟩ => q _)
    rintro i x σ Hs Ht hi ⟨sm0, y1, y2, y3, y4, y5, y6, y7, y8, y9, y10, y11, rfl⟩ ⟨rfl, rfl⟩
    have hi6 : i < 6 := by
      have : i < Int.toNat _ := hi
      omega
    refine ⟨_, rfl, _, rfl, a, ns, _, rfl, sm0.seq hS, hlen, by omega, by omega, fun Hb p sb np hB => ?_⟩
    refine ⟨_, rfl, p, 16, rfl, hB, by decide, fun Hc q0 qs kc nq hq h16 hnd hgood => ?_⟩
    have nqp := bag_ne hB nq
    have at_ : ∀ {i : Nat}, i < 16 → atI (txts qs) ((i : Nat) : Int) = some (.str (S (nA qs i))) := fun hi => atI_nat (nA_at h16 hi)
    have gd : ∀ {i : Nat}, i < 16 → GoodN (nA qs i) := fun hi => nA_good h16 hgood hi
    refine ⟨5, rfl, by decide, by decide, for_it walk_range (fun j σ H' => Kp p Hb H' ∧ H' q0 = some (.lst (txts qs)) ∧ ∃ y4 y5 y6 y7 y8 y9 y10 y11 : Option V, σ = [some (.ref a), some (.int (0 + (i : Int))), some (.ref p), some (.ref q0), y4, y5, y6, y7, y8, y9, y10, y11, none]) ⟨kc, hq, _, _, _, _, _, _, _, _, rfl⟩ (fun _ _ _ _ _ => trivial) ?_ (fun σ H1 ⟨k1, _, y4, y5, y6, y7, y8, y9, y10, y11, e⟩ => ⟨sm0.trans ((fun b o e => k1.1 _ _ (ne_of_none e np) (sb _ _ e))), _, _, _, _, _, _, _, _, _, _, _, e⟩)⟩
    rintro j x σ H0 H0' hj ⟨k0, hq0, y4, y5, y6, y7, y8, y9, y10, y11, rfl⟩ ⟨rfl, rfl⟩
    have SQ : ∀ {H' : Hp}, H' q0 = some (.lst (txts qs)) → SqL K H' q0 (txts qs) := fun h => SqL.of h
    -- the faults
    refine ⟨_, rfl, p, 8, rfl, k0.2, by decide, by decide, fun H1 f1 k1 a0 a1 => ⟨_, rfl, p, 16, rfl, k1.2, by decide, by decide, fun H2 f2 k2 b0 b1 => ⟨two_le, fun fa nfa => ?_⟩⟩⟩
    have k02 := k0.trans (k1.trans k2)
    have sfa := same_upd (o := .lst [.int f1, .int f2]) nfa
    have nfp := bag_ne (k1.trans k2).2 nfa
    have kf := k02.same sfa
    have hqf := sfa _ _ ((k1.trans k2).1 _ _ nqp hq0)
    have hfa := upd_same (H := H2) (a := fa) (o := .lst [.int f1, .int f2])
    generalize (upd H2 fa (.lst [.int f1, .int f2])) = Hf at kf hqf hfa ⊢
    -- the parameters
    refine ⟨_, rfl, _, rfl, _, rfl, p, q0, fa, qs, f1, f2, rfl, kf.2, nqp, nfp, hqf, h16, hgood, hfa, fun H3 lp l1 l2 l3 l4 LS P1 P2 P3 P4 => ?_⟩
    obtain ⟨TS, hlp, hTS⟩ := LS.ex
    have k3 := kf.trans LS.kp
    have hq3 := LS.kp.1 _ _ nqp hqf
    have hfa3 := LS.kp.1 _ _ nfp hfa
    have nlp := LS.np
    clear kf hqf hfa sfa nfa k02
    -- the rows
    refine ⟨_, rfl, p, 9, rfl, k3.2, by decide, by decide, fun H4 m k4 m0 m9 => ⟨m, rfl, by omega, by omega, fun D hD => ?_⟩⟩
    have k34 := k3.trans k4
    have hq4 := k4.1 _ _ nqp hq3
    refine lc_it walk_range (fun i H5 => Same H4 H5 ∧ ∃ ts : List Addr, H5 D = some (.lst (ts.map V.ref)) ∧ ts.length = i ∧ ∀ t ∈ ts, AddT H5 t (nA qs 1)) ⟨same_upd hD, [], upd_same, rfl, fun t ht => absurd ht List.not_mem_nil⟩ (fun _ _ _ _ => trivial) ?_ ?_
    · rintro i x H5 H6 hi ⟨sm, ts, hl, hts, hall⟩ ⟨rfl, rfl⟩
      have hi9 : i < 9 := by
        have : i < Int.toNat m := hi
        omega
      refine ⟨rfl, ?_⟩
      unfold tYes
      refine iteT ?_
      refine ⟨_, rfl, q0, _, 1, .str (S (nA qs 1)), rfl, rfl, SQ (sm _ _ hq4), at_ (by decide), by show 0 ≤ sizeLine; decide, fun te nte => ⟨by show 3 ≤ sizeLine; decide, fun t nt => ?_⟩⟩
      have s1 := same_upd (o := .tup []) nte
      have s2 := same_upd (o := .tup [.str "add", .str (S (nA qs 1)), .ref te]) nt
      have hl2 := s2 _ _ (s1 _ _ hl)
      have g := TupE.grow (ys := ts.map V.ref ++ [V.ref t]) hl2
      refine ⟨_, hl2, ?_, same_grow ((sm.trans s1).trans s2) hD, ts ++ [t], by rw [upd_same, List.map_append]; rfl, by rw [List.length_append, hts]; rfl, fun t' ht' => ?_⟩
      · rw [List.length_map, hts]
        exact small1000 (by omega)
      · rcases List.mem_append.mp ht' with h | h
        · exact (hall t' h).ext ((TupE.same (s1.trans s2)).trans g)
        · obtain rfl := List.mem_singleton.mp h
          exact ⟨gd (by decide), te, [], g _ _ upd_same, g _ _ (s2 _ _ upd_same), ⟨fun z hz => absurd hz List.not_mem_nil, fun z hz => absurd hz List.not_mem_nil, rfl, Nat.zero_le _⟩⟩
    rintro H5 ⟨sm5, ts5, hl5, hts5, hall5⟩
    have k5 := k34.same sm5
    have hq5 := sm5 _ _ hq4
    have hfa5 := sm5 _ _ (k4.1 _ _ nfp hfa3)
    have hlp5 := sm5 _ _ (k4.1 _ _ nlp hlp)
    have hTS5 := (hTS.ext (TupE.kp k3.2 k4)).ext (TupE.same sm5)
    have nDp : D ≠ p := bag_ne k4.2 hD
    have hts9 : ts5.length ≤ 10 := by
      rw [hts5]
      omega
    -- more rows
    refine ⟨fun σ' H' => ∃ (l : Addr) (ts : List Addr), σ' = [some (.ref a), some (.int (0 + (i : Int))), some (.ref p), some (.ref q0), some (.int (0 + (j : Int))), some (.ref fa), some (.ref lp), some (.ref l), y8, y9, y10, y11, none] ∧ Kp p H4 H' ∧ l ≠ p ∧ H' l = some (.lst (ts.map V.ref)) ∧ (∀ t ∈ ts, AddT H' t (nA qs 1)) ∧ ts.length ≤ 10 ∧ (inF 7 f1 f2 = true → 9 ≤ ts.length) ∧ ∀ b o, b ≠ p → H4 b = some o → b ≠ l, ?_, fun σ' H' hM => ?_⟩
    · refine ⟨_, rfl, fa, _, rfl, .inl (SqL.of hfa5), rfl, rfl, _, rfl, ite2 (fun (k : inF 7 f1 f2 = true) => ?_) (fun (k : ¬ inF 7 f1 f2 = true) => ⟨D, ts5, rfl, (Kp.of k4.2 sm5), nDp, hl5, hall5, hts9, fun h => absurd h k, fun b o _ e => ne_of_none e hD⟩)⟩
      refine ⟨_, rfl, p, 2, rfl, k5.2, by decide, by decide, fun H6 r k6 r0 r2 => ⟨9, r, rfl, rfl, 9 + r, rfl, by omega, by omega, fun D2 hD2 => ?_⟩⟩
      have hq6 := k6.1 _ _ nqp hq5
      refine lc_it walk_range (fun i H7 => Same H6 H7 ∧ ∃ ts : List Addr, H7 D2 = some (.lst (ts.map V.ref)) ∧ ts.length = i ∧ ∀ t ∈ ts, AddT H7 t (nA qs 1)) ⟨same_upd hD2, [], upd_same, rfl, fun t ht => absurd ht List.not_mem_nil⟩ (fun _ _ _ _ => trivial) ?_ ?_
      · rintro i x H7 H8 hi ⟨sm, ts, hl, hts, hall⟩ ⟨rfl, rfl⟩
        have hi9 : i < 11 := by
          have : i < Int.toNat (9 + r) := hi
          omega
        refine ⟨rfl, ?_⟩
        unfold tYes
        refine iteT ?_
        refine ⟨_, rfl, q0, _, 1, .str (S (nA qs 1)), rfl, rfl, SQ (sm _ _ hq6), at_ (by decide), _, rfl, q0, _, 8, .str (S (nA qs 8)), rfl, rfl, SQ (sm _ _ hq6), at_ (by decide), by show 1 ≤ sizeLine; decide, fun te nte => ⟨by show 3 ≤ sizeLine; decide, fun t nt => ?_⟩⟩
        have s1 := same_upd (o := .tup [.str (S (nA qs 8))]) nte
        have s2 := same_upd (o := .tup [.str "add", .str (S (nA qs 1)), .ref te]) nt
        have hl2 := s2 _ _ (s1 _ _ hl)
        have g := TupE.grow (ys := ts.map V.ref ++ [V.ref t]) hl2
        refine ⟨_, hl2, ?_, same_grow ((sm.trans s1).trans s2) hD2, ts ++ [t], by rw [upd_same, List.map_append]; rfl, by rw [List.length_append, hts]; rfl, fun t' ht' => ?_⟩
        · rw [List.length_map, hts]
          exact small1000 (by omega)
        · rcases List.mem_append.mp ht' with h | h
          · exact (hall t' h).ext ((TupE.same (s1.trans s2)).trans g)
          · obtain rfl := List.mem_singleton.mp h
            refine ⟨gd (by decide), te, [S (nA qs 8)], g _ _ upd_same, g _ _ (s2 _ _ upd_same), ?_, ?_, rfl, by show 1 ≤ 20; decide⟩
            · intro z hz
              obtain rfl := List.mem_singleton.mp hz
              exact (gd (by decide)).ok
            · intro z hz
              obtain rfl := List.mem_singleton.mp hz
              exact sms_good (gd (by decide))
      rintro H7 ⟨sm7, ts7, hl7, hts7, hall7⟩
      refine ⟨D2, ts7, rfl, ((Kp.of k4.2 sm5).trans k6).same sm7, bag_ne k6.2 hD2, hl7, hall7, by rw [hts7]; omega, fun _ => by rw [hts7]; omega, fun b o n e => ne_of_none (k6.1 _ _ n (sm5 _ _ e)) hD2⟩
    obtain ⟨lr, tr, rfl, k6, nlr, hlr, hall6, htr, h7, apart⟩ := hM
    clear hall5 hl5 sm5 hq5 hfa5 hlp5 hTS5 k5
    have hq6 := k6.1 _ _ nqp hq4
    -- the place
    refine ⟨_, rfl, _, rfl, lr, _, rfl, .inl (SqL.of hlr), (tr.map V.ref).length, 1, rfl, rfl, p, ((tr.map V.ref).length : Int) + 1, rfl, k6.2, by omega, by rw [List.length_map]; omega, fun H7 place k7 pl0 pl1 => ?_⟩
    rw [List.length_map] at pl1
    obtain ⟨pn, rfl⟩ : ∃ n : Nat, place = (n : Int) := ⟨place.toNat, by omega⟩
    have hpn : pn ≤ tr.length := by omega
    have k37 := (k4.trans k6).trans k7
    have hq7 := k7.1 _ _ nqp hq6
    have hlr7 := k7.1 _ _ nlr hlr
    have hall7 : ∀ t ∈ tr, AddT H7 t (nA qs 1) := fun t ht => (hall6 t ht).ext (TupE.kp k6.2 k7)
    have hfa7 := k37.1 _ _ nfp hfa3
    -- a wrong row
    refine ⟨fun σ' H' => ∃ (ts : List Addr), σ' = [some (.ref a), some (.int (0 + (i : Int))), some (.ref p), some (.ref q0), some (.int (0 + (j : Int))), some (.ref fa), some (.ref lp), some (.ref lr), some (.int (pn : Int)), y9, y10, y11, none] ∧ Bag H' p ∧ H' q0 = some (.lst (txts qs)) ∧ H' fa = some (.lst [.int f1, .int f2]) ∧ H' lp = some (.lst (TS.map V.ref)) ∧ TupE H7 H' ∧ (∀ b o, b ≠ p → b ≠ lr → H7 b = some o → H' b = some o) ∧ H' lr = some (.lst (ts.map V.ref)) ∧ ts.length ≤ 12 ∧ pn ≤ ts.length ∧
      (∀ (i : Nat) (t : Addr), ts[i]? = some t → AddT H' t (if inF 6 f1 f2 = true ∧ i = pn then nA qs 7 else nA qs 1)) ∧ (inF 6 f1 f2 = true → pn < ts.length) ∧ (inF 6 f1 f2 = false → inF 7 f1 f2 = true → 9 ≤ ts.length), ?_, fun σ' H' hM => ?_⟩
    · refine ⟨_, rfl, fa, _, rfl, .inl (SqL.of hfa7), rfl, rfl, _, rfl, ite2 (fun (k : inF 6 f1 f2 = true) => ?_) (fun (k : ¬ inF 6 f1 f2 = true) => ?_)⟩
      · refine ⟨_, rfl, .inl ⟨rfl, _, SqL.of hlr7⟩, _, rfl, _, rfl, q0, _, 7, .str (S (nA qs 7)), rfl, rfl, SQ hq7, at_ (by decide), by show 0 ≤ sizeLine; decide, fun te nte => ⟨by show 3 ≤ sizeLine; decide, fun t nt => ?_⟩⟩
        have s1 := same_upd (o := .tup []) nte
        have s2 := same_upd (o := .tup [.str "add", .str (S (nA qs 7)), .ref te]) nt
        have s12 := s1.trans s2
        have hl2 := s12 _ _ hlr7
        refine ⟨lr, tr.map V.ref, (pn : Int), .ref t, rfl, rfl, hl2, ?_, by omega, by omega, ?_⟩
        · rw [List.length_map]
          exact small1000 (by omega)
        rw [Int.toNat_natCast]
        have el : (tr.map V.ref).take pn ++ [V.ref t] ++ (tr.map V.ref).drop pn = (tr.take pn ++ [t] ++ tr.drop pn).map V.ref := by
          rw [List.map_append, List.map_append, List.map_take, List.map_drop]
          rfl
        rw [el]
        have g := TupE.grow (ys := (tr.take pn ++ [t] ++ tr.drop pn).map V.ref) hl2
        have nlr2 : ∀ {b : Addr} {o : HO}, b ≠ lr → (upd (upd H7 te (.tup [])) t (.tup [.str "add", .str (S (nA qs 7)), .ref te])) b = some o → (upd (upd (upd H7 te (.tup [])) t (.tup [.str "add", .str (S (nA qs 7)), .ref te])) lr (.lst ((tr.take pn ++ [t] ++ tr.drop pn).map V.ref))) b = some o := fun n h => by
          rw [upd_ne n]
          exact h
        have ltk : (tr.take pn).length = pn := by
          rw [List.length_take]
          omega
        have lts : (tr.take pn ++ [t] ++ tr.drop pn).length = tr.length + 1 := by
          rw [List.length_append, List.length_append, ltk, List.length_drop]
          show pn + 1 + _ = _
          omega
        refine ⟨tr.take pn ++ [t] ++ tr.drop pn, rfl, ?_, nlr2 ?_ (s12 _ _ hq7), nlr2 ?_ (s12 _ _ hfa7), nlr2 ?_ (s12 _ _ (k37.1 _ _ nlp hlp)), (TupE.same s12).trans g, fun b o _ n e => nlr2 n (s12 _ _ e), upd_same, by rw [lts]; omega, by rw [lts]; omega, fun i' t' e => ?_, fun _ => by rw [lts]; omega, fun h => absurd k (by rw [h]; simp)⟩
        · obtain ⟨u, v, hp, hb⟩ := k7.2
          exact ⟨u, v, nlr2 nlr.symm (s12 _ _ hp), hb⟩
        · exact apart _ _ nqp hq4
        · exact apart _ _ nfp (k4.1 _ _ nfp hfa3)
        · exact apart _ _ nlp (k4.1 _ _ nlp hlp)
        · have old : ∀ t'' ∈ tr, AddT _ t'' (nA qs 1) := fun t'' h => (hall7 t'' h).ext ((TupE.same s12).trans g)
          rw [List.append_assoc] at e
          by_cases h1 : i' < pn
          · rw [List.getElem?_append_left (by omega)] at e
            rw [if_neg (fun h => by omega)]
            exact old _ (List.mem_of_mem_take (List.mem_of_getElem? e))
          · rw [List.getElem?_append_right (by omega), ltk] at e
            by_cases h2 : i' = pn
            · rw [show i' - pn = 0 by omega] at e
              obtain rfl := Option.some.inj e
              rw [if_pos ⟨k, h2⟩]
              exact ⟨gd (by decide), te, [], g _ _ upd_same, g _ _ (s2 _ _ upd_same), ⟨fun z hz => absurd hz List.not_mem_nil, fun z hz => absurd hz List.not_mem_nil, rfl, Nat.zero_le _⟩⟩
            · rw [if_neg (fun h => h2 h.2)]
              rw [show i' - pn = (i' - pn - 1) + 1 by omega] at e
              have e' : (tr.drop pn)[i' - pn - 1]? = some t' := e
              exact old _ (List.mem_of_mem_drop (List.mem_of_getElem? e'))
      · refine ⟨tr, rfl, k7.2, hq7, hfa7, ?_, fun c xs e => e, fun b o _ _ e => e, hlr7, by omega, hpn, fun i t e => ?_, fun h => absurd h k, fun _ h => h7 h⟩
        · exact k37.1 _ _ nlp hlp
        · rw [if_neg (fun h => k h.1)]
          exact hall7 t (List.mem_of_getElem? e)
    obtain ⟨ts, rfl, hB8, hq8, hfa8, hlp8, hTe, hrest, hlr8, hts12, hpts, hadd, h6a, h6b⟩ := hM
    have hTS8 : RowsT H' TS (basis qs ++ l1 ++ l2 ++ l3 ++ l4) := (hTS.ext (TupE.kp k3.2 k37)).ext hTe
    -- the name
    refine ⟨fun σ' H9 => ∃ (vn : V) (dn : PyData), σ' = [some (.ref a), some (.int (0 + (i : Int))), some (.ref p), some (.ref q0), some (.int (0 + (j : Int))), some (.ref fa), some (.ref lp), some (.ref lr), some (.int (pn : Int)), some vn, y10, y11, none] ∧ Kp p H' H9 ∧ Dp K H9 vn dn ∧ (OkD dn ∧ dn.depth ≤ 3) ∧ (inF 0 f1 f2 = true → isNameD dn = false) ∧ (inF 0 f1 f2 = false → isNameD dn = true), ?_, fun σ' H9 hM => ?_⟩
    · refine ⟨_, rfl, fa, _, rfl, .inl (SqL.of hfa8), rfl, rfl, _, rfl, ite2 (fun (k : inF 0 f1 f2 = true) => ?_) (fun (k : ¬ inF 0 f1 f2 = true) => ?_)⟩
      · refine ⟨_, rfl, _, rfl, q0, _, 6, .str (S (nA qs 6)), rfl, rfl, SQ hq8, at_ (by decide), by show 1 ≤ sizeLine; decide, fun t nt => ⟨by show 7 ≤ sizeLine; decide, fun lo nlo => ?_⟩⟩
        have s1 := same_upd (o := .tup [.str (S (nA qs 6))]) nt
        have s2 := same_upd (o := .lst [.str "", .int 5, .non, .str "cls", .str "Az", .str "aaaaaaaaa", .ref t]) nlo
        have kk := (Kp.of hB8 s1).same s2
        refine ⟨p, .ref lo, rfl, kk.2, .inl ⟨lo, _, rfl, bag_ne (Kp.of hB8 s1).2 nlo, SqL.of upd_same, (by show 1 ≤ 7; decide), (by show 7 ≤ 1000; decide), fun Ha y ka hy => ?_⟩⟩
        have ht : Ha t = some (.tup [.str (S (nA qs 6))]) := ka.1 _ _ (bag_ne hB8 nt) (s2 _ _ upd_same)
        have hy' : ∃ dn, Dp K Ha y dn ∧ (OkD dn ∧ dn.depth ≤ 3) ∧ isNameD dn = false := by
          rcases List.mem_cons.mp hy with rfl | hy
          · exact ⟨.str "", .str _, ⟨okD_sms (sms_lit (by decide +kernel)), by show 0 ≤ 3; decide⟩, by decide +kernel⟩
          rcases List.mem_cons.mp hy with rfl | hy
          · exact ⟨.int 5, .int _, ⟨⟨rfl, rfl⟩, by show 0 ≤ 3; decide⟩, rfl⟩
          rcases List.mem_cons.mp hy with rfl | hy
          · exact ⟨.none, .non, ⟨⟨rfl, rfl⟩, by show 0 ≤ 3; decide⟩, rfl⟩
          rcases List.mem_cons.mp hy with rfl | hy
          · exact ⟨.str "cls", .str _, ⟨okD_sms (sms_lit (by decide +kernel)), by show 0 ≤ 3; decide⟩, by decide +kernel⟩
          rcases List.mem_cons.mp hy with rfl | hy
          · exact ⟨.str "Az", .str _, ⟨okD_sms (sms_lit (by decide +kernel)), by show 0 ≤ 3; decide⟩, by decide +kernel⟩
          rcases List.mem_cons.mp hy with rfl | hy
          · exact ⟨.str "aaaaaaaaa", .str _, ⟨okD_sms (sms_lit (by decide +kernel)), by show 0 ≤ 3; decide⟩, by decide +kernel⟩
          rcases List.mem_cons.mp hy with rfl | hy
          · refine ⟨.tuple [.str (S (nA qs 6))], .tup (SqT.of ht) (.cons (.str _) .nil), ⟨?_, by show 1 ≤ 3; decide⟩, rfl⟩
            exact okD_strs (zs := [S (nA qs 6)]) (fun z hz => by
              obtain rfl := List.mem_singleton.mp hz
              exact sms_good (gd (by decide))) (by show 1 ≤ 1000; decide)
          · cases hy
        obtain ⟨dn, h1, h2, h3⟩ := hy'
        exact ⟨y, dn, rfl, kk.trans ka, h1, h2, fun _ => h3, fun h => absurd k (by rw [h]; simp)⟩
      · exact ⟨_, rfl, q0, _, 6, .str (S (nA qs 6)), rfl, rfl, SQ hq8, at_ (by decide), .str (S (nA qs 6)), .str (S (nA qs 6)), rfl, Kp.refl hB8, .str _, ⟨okN (gd (by decide)), by show 0 ≤ 3; decide⟩, fun h => absurd h k, fun _ => (gd (by decide)).ok⟩
    obtain ⟨vn, dn, rfl, k9, hvn, okn, hn0, hn1⟩ := hM
    have hlr9 := k9.1 _ _ nlr hlr8
    have hq9 := k9.1 _ _ nqp hq8
    have hfa9 := k9.1 _ _ nfp hfa8
    have hlp9 := k9.1 _ _ nlp hlp8
    have hTS9 := hTS8.ext (TupE.kp hB8 k9)
    have hadd9 : ∀ (i : Nat) (t : Addr), ts[i]? = some t → AddT H9 t (if inF 6 f1 f2 = true ∧ i = pn then nA qs 7 else nA qs 1) := fun i t e => (hadd i t e).ext (TupE.kp hB8 k9)
    -- what is given
    refine ⟨fun σ' Ha => ∃ (vr : V) (dr : PyData), σ' = [some (.ref a), some (.int (0 + (i : Int))), some (.ref p), some (.ref q0), some (.int (0 + (j : Int))), some (.ref fa), some (.ref lp), some (.ref lr), some (.int (pn : Int)), some vn, some vr, y11, none] ∧ Same H9 Ha ∧ Dp K Ha vr dr ∧ (inF 5 f1 f2 = true → isTupD dr = false) ∧ (inF 5 f1 f2 = false → isTupD dr = true ∧ ∃ tR, vr = .ref tR ∧ SqT K Ha tR (ts.map V.ref)), ?_, fun σ' Ha hM => ?_⟩
    · obtain ⟨ds, hds⟩ := adds_dp (K := K) (H := H9) (ts := ts) fun t ht => by
        obtain ⟨n, hn, e⟩ := List.getElem_of_mem ht
        exact add_dp (hadd9 n t (by rw [← e]; exact List.getElem?_eq_getElem hn))
      refine ⟨_, rfl, fa, _, rfl, .inl (SqL.of hfa9), rfl, rfl, _, rfl, ite2 (fun (k : inF 5 f1 f2 = true) => ?_) (fun (k : ¬ inF 5 f1 f2 = true) => ?_)⟩
      · exact ⟨_, rfl, .ref lr, .list ds, rfl, Same.refl _, .lst (SqL.of hlr9) hds, fun _ => rfl, fun h => absurd k (by rw [h]; simp)⟩
      · refine ⟨_, rfl, lr, _, rfl, .inl ⟨SqL.of hlr9, fun t nt => ?_⟩⟩
        have st := same_upd (o := .tup (ts.map V.ref)) nt
        exact ⟨.ref t, .tuple ds, rfl, st, .tup (SqT.of upd_same) (dpAll_same st hds), fun h => absurd h k, fun _ => ⟨rfl, t, rfl, SqT.of upd_same⟩⟩
    obtain ⟨vr, dr, rfl, sa, hvr, g5, g6⟩ := hM
    have hl : (basis qs ++ l1 ++ l2 ++ l3 ++ l4).length ≤ 100 := lp_len P1 P2 P3 P4
    obtain ⟨kk, vv, hv, hT, hD⟩ := combo (K := K) (H := Ha) (at_ := (pn : Int)) (vn := vn) (vr := vr) (dn := dn) (dr := dr) a0 (by omega) P1 P2 P3 P4 (sms_good (gd (by decide))) (fun r hr => by
        obtain ⟨n, hn, e⟩ := List.getElem_of_mem hr
        have hn' : n < TS.length := by
          rw [hTS9.1]
          exact hn
        obtain ⟨r', e1, hR⟩ := hTS9.2 n TS[n] (List.getElem?_eq_getElem hn')
        rw [List.getElem?_eq_getElem hn] at e1
        obtain rfl := Option.some.inj e1
        rw [← e]
        obtain ⟨cs, ecs, gcs⟩ := hR.nm
        rw [ecs]
        exact sms_good gcs) hn0 hn1 g5 (fun h => by
        obtain ⟨ht, tR, e, hR⟩ := g6 h
        refine ⟨ht, tR, ts.map V.ref, fun i => ([S (nA qs 1)] : List Str).contains (S (if inF 6 f1 f2 = true ∧ i = pn then nA qs 7 else nA qs 1)), e, hR, by rw [List.length_map]; omega, fun i y ey => ?_, ?_⟩
        · rw [List.getElem?_map] at ey
          cases et : ts[i]? with
          | none =>
            rw [et] at ey
            cases ey
          | some t =>
            rw [et] at ey
            obtain rfl := Option.some.inj ey
            exact add_row _ ((hadd9 i t et).ext (TupE.same sa))
        · have good1 : ([S (nA qs 1)] : List Str).contains (S (nA qs 1)) = true := by simp
          cases e6 : inF 6 f1 f2 with
          | true =>
            refine .inl ⟨rfl, pn, by rw [List.length_map]; exact h6a e6, ?_, fun j hj => ?_, rfl⟩
            · show ([S (nA qs 1)] : List Str).contains (S (if true = true ∧ pn = pn then nA qs 7 else nA qs 1)) = false
              rw [if_pos ⟨rfl, rfl⟩]
              have := nA_ne h16 hnd (i := 1) (j := 7) (by decide) (by decide)
              cases hc : ([S (nA qs 1)] : List Str).contains (S (nA qs 7)) with
              | false => rfl
              | true =>
                have hm : S (nA qs 7) ∈ [S (nA qs 1)] := by simpa using hc
                exact absurd (SX.S_inj (List.mem_singleton.mp hm)).symm this
            · show ([S (nA qs 1)] : List Str).contains (S (if true = true ∧ j = pn then nA qs 7 else nA qs 1)) = true
              rw [if_neg (fun h => by omega)]
              exact good1
          | false =>
            refine .inr ⟨rfl, fun j _ => ?_, fun h7 => by rw [List.length_map]; have := h6b e6 h7; omega⟩
            show ([S (nA qs 1)] : List Str).contains (S (if false = true ∧ j = pn then nA qs 7 else nA qs 1)) = true
            rw [if_neg (fun h => by simp at h)]
            exact good1)
    have hvv : ∃ dv, Dp K Ha vv dv ∧ OkD (.tuple [.int kk, dv]) := by
      rcases hv with rfl | ⟨z, rfl, hz⟩ | ⟨n, rfl⟩
      · exact ⟨dn, dp_same sa hvn, okTold okn.1 okn.2⟩
      · exact ⟨.str z, .str _, okTold (okD_sms hz) (by show 0 ≤ 3; decide)⟩
      · exact ⟨.int n, .int _, okTold ⟨rfl, rfl⟩ (by show 0 ≤ 3; decide)⟩
    obtain ⟨dv, hdv, okv⟩ := hvv
    refine ⟨_, rfl, _, rfl, _, rfl, vn, lp, vr, dn, dr, TS, _, rfl, ⟨dp_same sa hvn, okn.1⟩, hvr, sa _ _ hlp9, hTS9.ext (TupE.same sa), hl, hT _ (fun Hc t sc ht => ?_)⟩
    have sac := sa.trans sc
    refine ⟨_, rfl, _, rfl, _, rfl, _, rfl, _, rfl, q0, lp, fa, vn, (pn : Int), f1, f2, qs, TS, _, rfl, sac _ _ hq9, h16, sac _ _ hfa9, sac _ _ hlp9, hTS9.ext (TupE.same sac), hl, hD _ (fun Hd t2 sd ht2 => ?_)⟩
    have scd := sc.trans sd
    refine ⟨.tuple [.int kk, dv], .tuple [.int kk, dv], .tup (SqT.of (sd _ _ ht)) (.cons (.int _) (.cons (dp_same scd hdv) .nil)), .tup (SqT.of ht2) (.cons (.int _) (.cons (dp_same scd hdv) .nil)), okv.sh, okv.sh, _, rfl, ?_⟩
    rw [SeqAt.eqv_refl _ (SeqAt.canLay_of_shaped okv.sh)]
    refine iteF ?_
    have sad := sa.trans scd
    have hqd := sad _ _ hq9
    have hlrd := sad _ _ hlr9
    clear hT hD hdv
    -- a right one
    refine ⟨rfl, _, rfl, q0, _, 6, .str (S (nA qs 6)), rfl, rfl, SQ hqd, at_ (by decide), _, rfl, q0, _, 0, .str (S (nA qs 0)), rfl, rfl, SQ hqd, at_ (by decide), rfl, rfl, fun z0 d0 hz0 hd0 ne0 => par_made (d := .none) hz0 hd0 (gd (by decide)).ok (okN (gd (by decide))) (.inl rfl) ⟨.non, ⟨rfl, rfl⟩, .inl rfl⟩ fun He se hp0 => ⟨rfl, ?_⟩⟩
    refine ⟨_, rfl, q0, _, 1, .str (S (nA qs 1)), rfl, rfl, SQ (se _ _ hqd), at_ (by decide), fun z1 d1 hz1 hd1 ne1 => par_made (d := .none) hz1 hd1 (gd (by decide)).ok (okN (gd (by decide))) (.inr rfl) ⟨.non, ⟨rfl, rfl⟩, .inl rfl⟩ fun Hg sg hp1 => ⟨rfl, ?_⟩⟩
    refine ⟨two_le, fun lL nL => ?_⟩
    have sL := same_upd (o := .lst [.ref z0, .ref z1]) nL
    have hLL := upd_same (H := Hg) (a := lL) (o := .lst [.ref z0, .ref z1])
    have hA : PsAt CP (upd Hg lL (.lst [.ref z0, .ref z1])) [z0, z1] (basis qs) := ⟨rfl, fun n t e => by
      match n, e with
      | 0, e =>
        obtain rfl := Option.some.inj e
        obtain ⟨dx, h⟩ := hp0
        exact ⟨_, rfl, dx, sL _ _ (sg _ _ h)⟩
      | 1, e =>
        obtain rfl := Option.some.inj e
        obtain ⟨dx, h⟩ := hp1
        exact ⟨_, rfl, dx, sL _ _ h⟩
      | _ + 2, e => simp at e⟩
    have sdL := (se.trans sg).trans sL
    generalize (upd Hg lL (.lst [.ref z0, .ref z1])) = HL at sL hLL hA sdL ⊢
    have hlrL := sdL _ _ hlrd
    refine ⟨_, rfl, _, rfl, (pn : Int), rfl, lr, ts.map V.ref, rfl, SqL.of hlrL, fun l5 nl5 => ?_⟩
    have ec : cutV (ts.map V.ref) none (some (pn : Int)) = (ts.take pn).map V.ref := by
      rw [cut_take _ pn (by rw [List.length_map]; exact hpts), List.map_take]
    rw [ec]
    have s5 := same_upd (o := .lst ((ts.take pn).map V.ref)) nl5
    refine ⟨l5, _, rfl, .inl ⟨SqL.of upd_same, fun t5 nt5 => ⟨8, rfl, take8_of (SqT.of upd_same) fun t6 Hm s6m h6m => ?_⟩⟩⟩
    have s6 := same_upd (o := .tup ((ts.take pn).map V.ref)) nt5
    have sm6 := (s5.trans s6).trans s6m
    rw [← List.map_take] at h6m
    have sLm := (sad.trans sdL).trans sm6
    refine ⟨rfl, rfl, .str (S (nA qs 6)), lL, .ref t6, aX, [z0, z1], rfl, .inr (SqL.of (sm6 _ _ hLL)), by show 2 ≤ 100; decide, fun p1 dx tP Hn sn hpn1 hTn npn => ?_⟩
    have sLn := sLm.trans sn
    have rowsA : ∀ (n : Nat) (t : Addr), ((ts.take pn).take 8)[n]? = some t → AddT Hn t (nA qs 1) := fun n t e => by
      have hn8 : n < ((ts.take pn).take 8).length := (List.getElem?_eq_some_iff.mp e).1
      rw [List.length_take, List.length_take] at hn8
      rw [List.getElem?_take, if_pos (by omega), List.getElem?_take, if_pos (by omega)] at e
      have q := hadd9 n t e
      rw [if_neg (fun h => by omega)] at q
      exact q.ext (TupE.same sLn)
    obtain ⟨dsr, hdsr⟩ := adds_dp (K := K) (H := Hn) (ts := (ts.take pn).take 8) fun t ht => by
      obtain ⟨n, hn, e⟩ := List.getElem_of_mem ht
      exact add_dp (rowsA n t (by rw [← e]; exact List.getElem?_eq_getElem hn))
    have hmb : ("mark" : Str) ≠ "box" := by decide +kernel
    have hus : holding "box" (basis qs) = [S (nA qs 1)] := by
      simp [holding, basis, row, List.filter_cons, hmb]
    have lrow : (((ts.take pn).take 8).map V.ref).length = min pn 8 := by
      rw [List.length_map, List.length_take, List.length_take]
      omega
    have h6n := Same.seqT sn h6m
    refine ⟨p1, dx, aX, tP, .str (S (nA qs 6)), .ref t6, .str (S (nA qs 6)), .tuple dsr, [z0, z1], basis qs, rfl, hpn1, ⟨.str _, okN (gd (by decide))⟩, .tup h6n hdsr, SqT.of hTn, (hA.same sm6).same sn, by show 2 ≤ 100; decide, hX _,
      .inr ⟨(gd (by decide)).ok, .inr ⟨?_, .inr ⟨?_, .inr ⟨by show 2 ≤ 4; decide, .inr ⟨by rw [hus]; show 1 ≤ 2; decide, .inr ⟨rfl, t6, _, fun _ => true, rfl, h6n, by rw [lrow]; omega, fun n y ey => ?_, .inr ⟨fun _ _ => rfl, .inr ⟨by rw [lrow]; omega, fun Ho hk hpo => ⟨rfl, ?_⟩⟩⟩⟩⟩⟩⟩⟩⟩⟩
    · intro n y hy
      match n, hy with
      | 0, _ => exact ⟨List.not_mem_nil, by simp⟩
      | 1, hy =>
        obtain rfl := Option.some.inj hy
        refine ⟨List.not_mem_nil, fun hm => ?_⟩
        have hm' : S (nA qs 1) ∈ [S (nA qs 0)] := hm
        exact nA_ne h16 hnd (i := 0) (j := 1) (by decide) (by decide) (SX.S_inj (List.mem_singleton.mp hm')).symm
      | _ + 2, hy => simp [basis] at hy
    · intro n p' q' e1 e2
      match n, e1, e2 with
      | 0, e1, e2 =>
        simp [basis] at e1 e2
        rw [← e1, ← e2]
        simp [badPair, row]
      | _ + 1, _, e2 => simp [basis] at e2
    · rw [List.getElem?_map] at ey
      cases et : ((ts.take pn).take 8)[n]? with
      | none =>
        rw [et] at ey
        cases ey
      | some t =>
        rw [et] at ey
        obtain rfl := Option.some.inj ey
        rw [hus]
        have q := add_row (K := K) [S (nA qs 1)] (rowsA n t et)
        have ec : ([S (nA qs 1)] : List Str).contains (S (nA qs 1)) = true := by simp
        rw [ec] at q
        exact q
    have sno : Same Hm Ho := fun b o e => hk b o (ne_of_none e npn) (sn _ _ e)
    refine ⟨_, rfl, p1, CM, dx, _, _, rfl, hpo, TM.cl, TM.nR, mF_rows, t6, _, rfl, .inr (Same.seqT sno h6m), _, rfl, (pn : Int), 8, rfl, rfl, _, rfl, ?_⟩
    have emin : (((((ts.take pn).take 8).map V.ref).length : Nat) : Int) = (if (8 : Int) < (pn : Int) then (8 : Int) else (pn : Int)) := by
      rw [lrow]
      split <;> omega
    rw [← emin, decide_eq_true rfl]
    have sAll := sLm.trans sno
    refine iteF ⟨⟨fun b o nb e => ?_, ?_⟩, sAll _ _ hq9, _, _, _, _, _, _, _, _, rfl⟩
    · have e4 := k4.1 _ _ nb (k3.1 _ _ nb e)
      exact sAll _ _ (k9.1 _ _ nb (hrest b o nb (apart b o nb e4) (k37.1 _ _ nb (k3.1 _ _ nb e))))
    · exact k9.2.same sAll
end
end Dr
namespace Dr
open PySem PySem.Spec PyProof.Rows L2
open SX (S S_len S_cat)
/-- values that are these texts -/
def strsB : List Value → List Str → Bool
  | [], [] => true
  | .str x _ :: us, z :: zs => (x == z) && strsB us zs
  | _, _ => false
theorem strsB_vals : ∀ {us : List Value} {zs : List Str}, strsB us zs = true → Vals (zs.map V.str) us
  | [], [], _ => .nil
  | .str x t :: us, z :: zs, h => by
    have h' : ((x == z) && strsB us zs) = true := h
    rw [Bool.and_eq_true, beq_iff_eq] at h'
    obtain ⟨rfl, h2⟩ := h'
    exact .cons ⟨t, rfl⟩ (strsB_vals h2)
  | [], _ :: _, h => by cases h
  | .str _ _ :: _, [], h => by cases h
theorem strsB_len : ∀ {us : List Value} {zs : List Str}, strsB us zs = true → us.length = zs.length := fun h => by
  have := (strsB_vals h).length
  rw [List.length_map] at this
  exact this.symm
theorem fm_of {K : PySem.W.Frag} {a : Addr} {dd : Option Addr} {its : Array Value} {n : Nat} {sl : Array (Option Value)} {zs : List Str} (l : K.lookup a = some ⟨.type "tuple", dd, .seq its n, sl⟩) (h : strsB its.toList zs = true) (hz : zs.length ≤ 1000) : FmAt K a zs := fun H =>
  .inr ⟨_, its, n, l, rfl, rfl, by
    have := strsB_len h
    rw [Array.length_toList] at this
    rw [this]
    exact Nat.le_of_lt (small1000 hz), strsB_vals h⟩
theorem fms_of {K : PySem.W.Frag} {a : Addr} {dd : Option Addr} {n : Nat} {sl : Array (Option Value)} {as : List Addr} {fs : List Form} (l : K.lookup a = some ⟨.type "tuple", dd, .seq (as.map Value.ref).toArray n, sl⟩) (h : as.length ≤ 1000) (p : Paired (FmAt K) as fs) : Fms K a fs := by
  refine ⟨as, fun H => .inr ⟨_, _, n, l, rfl, rfl, ?_, ?_⟩, p⟩
  · show (as.map Value.ref).toArray.size ≤ sizeLine
    rw [List.size_toArray, List.length_map]
    exact Nat.le_of_lt (small1000 h)
  · show Vals (as.map V.ref) (as.map Value.ref)
    clear l h p
    induction as with
    | nil => exact .nil
    | cons b r ih => exact .cons rfl ih
theorem exm_val {K : PySem.W.Frag} {T S : Addr} {b : Bool} (h1 : PySem.W.subIn K (.ref S) (.type "BaseException") = some true) (h2 : PySem.W.isClsIn K S = true) (h3 : PySem.W.typeIn K (.ref S) = some (.type "type")) (h4 : PySem.W.subIn K (.ref T) (.ref S) = some b) :
    PySem.W.exmOne K (.ref T) (.ref S) = some b := by
  have e1 : (PySem.W.subIn K (.ref S) (.type "BaseException") == some true) = true := by rw [h1] <;> rfl
  have e2 : ((PySem.W.clsIn K S).isSome && PySem.W.typeIn K (.ref S) == some (.type "type")) = true := by
    have h2' : (PySem.W.clsIn K S).isSome = true := h2
    rw [h2', h3] <;> rfl
  show (if (PySem.W.subIn K (.ref S) (.type "BaseException") == some true) = true then (if ((PySem.W.clsIn K S).isSome && PySem.W.typeIn K (.ref S) == some (.type "type")) = true then PySem.W.subIn K (.ref T) (.ref S) else none) else none) = some b
  rw [if_pos e1, if_pos e2]
  exact h4
theorem all_mk {l : PySem.W.OpenLaw} {w : World} {K : PySem.W.Frag} {h : Heap} {mg : Str → Option Value} {fa C CM D DO aE aR0 pO fmi fmo CN CT CO CI CR gN gT gO gI gR aB aM aX aT aPl aBr aRo aRe m1 x1 x2 x3 x4 t1 t2 t3 p1 p2 p3 p4 p5 p6 p7 p8 p9 b1 b2 r1 r2 r3 r4 fnm fow fas fit fag ffo fso fhf fdf fpa ffb fke fus fco fbg ftk fof fns flp fdu ftd flw fpi : Addr} (X : K.In h) (G : h.Ns mainGlobals mg) (hfa : mg "law" = some (.ref fa))
    {odnm annm odow anow odas anas odit anit odag anag odfo anfo odso anso odhf anhf oddf andf odpa anpa odfb anfb odke anke odus anus odco anco odbg anbg odtk antk odof anof odns anns odlp anlp oddu andu odtd antd odlw anlw odpi anpi odmi anmi odmo anmo odxN anxN odxT anxT odxO anxO odxI anxI odxR anxR ddaB ddaR0 ddaM ddaX ddaT ddaPl ddaBr ddaRo ddaRe ddm1 ddx1 ddx2 ddx3 ddx4 ddt1 ddt2 ddt3 ddp1 ddp2 ddp3 ddp4 ddp5 ddp6 ddp7 ddp8 ddp9 ddb1 ddb2 ddr1 ddr2 ddr3 ddr4 : Option Addr} {slnm slow slas slit slag slfo slso slhf sldf slpa slfb slke slus slco slbg sltk slof slns sllp sldu sltd sllw slpi slmi slmo slxN slxT slxO slxI slxR ssaB ssaR0 ssaM ssaX ssaT ssaPl ssaBr ssaRo ssaRe ssm1 ssx1 ssx2 ssx3 ssx4 sst1 sst2 sst3 ssp1 ssp2 ssp3 ssp4 ssp5 ssp6 ssp7 ssp8 ssp9 ssb1 ssb2 ssr1 ssr2 ssr3 ssr4 : Array (Option Value)} {ocnm dcnm pmnm cdnm ctnm kVnm ocow dcow pmow cdow ctow kVow ocas dcas pmas cdas ctas kVas ocit dcit pmit cdit ctit kVit ocag dcag pmag cdag ctag kVag ocfo dcfo pmfo cdfo ctfo kVfo ocso dcso pmso cdso ctso kVso ochf dchf pmhf cdhf cthf kVhf ocdf dcdf pmdf cddf ctdf kVdf ocpa dcpa pmpa cdpa ctpa kVpa ocfb dcfb pmfb cdfb ctfb kVfb ocke dcke pmke cdke ctke kVke ocus dcus pmus cdus ctus kVus occo dcco pmco cdco ctco kVco ocbg dcbg pmbg cdbg ctbg kVbg octk dctk pmtk cdtk cttk kVtk ocof dcof pmof cdof ctof kVof ocns dcns pmns cdns ctns kVns oclp dclp pmlp cdlp ctlp kVlp ocdu dcdu pmdu cddu ctdu kVdu octd dctd pmtd cdtd cttd kVtd oclw dclw pmlw cdlw ctlw kVlw ocpi dcpi pmpi cdpi ctpi ocmi dcmi pmmi cdmi ctmi kVmi ocmo dcmo pmmo cdmo ctmo ocxN dcxN pmxN cdxN ctxN kVxN ocxT dcxT pmxT cdxT ctxT kVxT ocxO dcxO pmxO cdxO ctxO kVxO ocxI dcxI pmxI cdxI ctxI kVxI ocxR dcxR pmxR cdxR ctxR kVxR : Value} {th tl tk1 tk2 tk3 : Tok} {rst : List Value} {nmN qN nmT qT nmO qO nmI qI nmR qR : Str} {NN BAN NT BAT NO BAO NI BAI NR BAR : Addr} {bsN subN bsT subT bsO subO bsI subI bsR subR : List Value} {snN snT snO snI snR : List Str} {abN abT abO abI abR : Bool} {colN colT colO colI colR : Option Bool} {ddN ddT ddO ddI ddR : Option Addr} {u0N u1N u2N u3N u5N u0T u1T u2T u3T u5T u0O u1O u2O u3O u5O u0I u1I u2I u3I u5I u0R u1R u2R u3R u5R : Option Value} {itaB itaR0 itm1 itx1 itx2 itx3 itx4 itt1 itt2 itt3 itp1 itp2 itp3 itp4 itp5 itp6 itp7 itp8 itp9 itb1 itb2 itr1 itr2 itr3 itr4 : Array Value} {nnaB nnaR0 nnaM nnaX nnaT nnaPl nnaBr nnaRo nnaRe nnm1 nnx1 nnx2 nnx3 nnx4 nnt1 nnt2 nnt3 nnp1 nnp2 nnp3 nnp4 nnp5 nnp6 nnp7 nnp8 nnp9 nnb1 nnb2 nnr1 nnr2 nnr3 nnr4 : Nat}
    (anm : PySem.W.nsIn K mainGlobals "is_name" = some (some (.ref fnm)))
    (lnm : K.lookup fnm = some ⟨ocnm, odnm, .func (PySem.W.fnOf "is_name" "is_name" (defArgs sIsName) (defBody sIsName) (defScope sIsName) .none kVnm dcnm pmnm annm cdnm ctnm), slnm⟩)
    (cnm : PySem.W.codeIn K cdnm "is_name" = true)
    (knm : PySem.W.keepIn K (.ref fnm) = true)
    (aow : PySem.W.nsIn K mainGlobals "is_owner" = some (some (.ref fow)))
    (low : K.lookup fow = some ⟨ocow, odow, .func (PySem.W.fnOf "is_owner" "is_owner" (defArgs sIsOwner) (defBody sIsOwner) (defScope sIsOwner) .none kVow dcow pmow anow cdow ctow), slow⟩)
    (cow : PySem.W.codeIn K cdow "is_owner" = true)
    (kow : PySem.W.keepIn K (.ref fow) = true)
    (aas : PySem.W.nsIn K mainGlobals "is_ascending" = some (some (.ref fas)))
    (las : K.lookup fas = some ⟨ocas, odas, .func (PySem.W.fnOf "is_ascending" "is_ascending" (defArgs sIsAsc) (defBody sIsAsc) (defScope sIsAsc) .none kVas dcas pmas anas cdas ctas), slas⟩)
    (cas : PySem.W.codeIn K cdas "is_ascending" = true)
    (kas : PySem.W.keepIn K (.ref fas) = true)
    (ait : PySem.W.nsIn K mainGlobals "is_items" = some (some (.ref fit)))
    (lit : K.lookup fit = some ⟨ocit, odit, .func (PySem.W.fnOf "is_items" "is_items" (defArgs sIsItems) (defBody sIsItems) (defScope sIsItems) .none kVit dcit pmit anit cdit ctit), slit⟩)
    (cit : PySem.W.codeIn K cdit "is_items" = true)
    (kit : PySem.W.keepIn K (.ref fit) = true)
    (aag : PySem.W.nsIn K mainGlobals "first_again" = some (some (.ref fag)))
    (lag : K.lookup fag = some ⟨ocag, odag, .func (PySem.W.fnOf "first_again" "first_again" (defArgs sAgain) (defBody sAgain) (defScope sAgain) .none kVag dcag pmag anag cdag ctag), slag⟩)
    (cag : PySem.W.codeIn K cdag "first_again" = true)
    (kag : PySem.W.keepIn K (.ref fag) = true)
    (afo : PySem.W.nsIn K mainGlobals "form_of" = some (some (.ref ffo)))
    (lfo : K.lookup ffo = some ⟨ocfo, odfo, .func (PySem.W.fnOf "form_of" "form_of" (defArgs sFormOf) (defBody sFormOf) (defScope sFormOf) .none kVfo dcfo pmfo anfo cdfo ctfo), slfo⟩)
    (cfo : PySem.W.codeIn K cdfo "form_of" = true)
    (kfo : PySem.W.keepIn K (.ref ffo) = true)
    (aso : PySem.W.nsIn K mainGlobals "is_of_sort" = some (some (.ref fso)))
    (lso : K.lookup fso = some ⟨ocso, odso, .func (PySem.W.fnOf "is_of_sort" "is_of_sort" (defArgs sIsSort) (defBody sIsSort) (defScope sIsSort) .none kVso dcso pmso anso cdso ctso), slso⟩)
    (cso : PySem.W.codeIn K cdso "is_of_sort" = true)
    (kso : PySem.W.keepIn K (.ref fso) = true)
    (ahf : PySem.W.nsIn K mainGlobals "has_form" = some (some (.ref fhf)))
    (lhf : K.lookup fhf = some ⟨ochf, odhf, .func (PySem.W.fnOf "has_form" "has_form" (defArgs sHasForm) (defBody sHasForm) (defScope sHasForm) .none kVhf dchf pmhf anhf cdhf cthf), slhf⟩)
    (chf : PySem.W.codeIn K cdhf "has_form" = true)
    (khf : PySem.W.keepIn K (.ref fhf) = true)
    (adf : PySem.W.nsIn K mainGlobals "is_default" = some (some (.ref fdf)))
    (ldf : K.lookup fdf = some ⟨ocdf, oddf, .func (PySem.W.fnOf "is_default" "is_default" (defArgs sIsDef) (defBody sIsDef) (defScope sIsDef) .none kVdf dcdf pmdf andf cddf ctdf), sldf⟩)
    (cdf : PySem.W.codeIn K cddf "is_default" = true)
    (kdf : PySem.W.keepIn K (.ref fdf) = true)
    (apa : PySem.W.nsIn K mainGlobals "parts_of" = some (some (.ref fpa)))
    (lpa : K.lookup fpa = some ⟨ocpa, odpa, .func (PySem.W.fnOf "parts_of" "parts_of" (defArgs sParts) (defBody sParts) (defScope sParts) .none kVpa dcpa pmpa anpa cdpa ctpa), slpa⟩)
    (cpa : PySem.W.codeIn K cdpa "parts_of" = true)
    (kpa : PySem.W.keepIn K (.ref fpa) = true)
    (afb : PySem.W.nsIn K mainGlobals "first_bad_row" = some (some (.ref ffb)))
    (lfb : K.lookup ffb = some ⟨ocfb, odfb, .func (PySem.W.fnOf "first_bad_row" "first_bad_row" (defArgs sFirst) (defBody sFirst) (defScope sFirst) .none kVfb dcfb pmfb anfb cdfb ctfb), slfb⟩)
    (cfb : PySem.W.codeIn K cdfb "first_bad_row" = true)
    (kfb : PySem.W.keepIn K (.ref ffb) = true)
    (ake : PySem.W.nsIn K mainGlobals "keeps_to" = some (some (.ref fke)))
    (lke : K.lookup fke = some ⟨ocke, odke, .func (PySem.W.fnOf "keeps_to" "keeps_to" (defArgs sKeeps) (defBody sKeeps) (defScope sKeeps) .none kVke dcke pmke anke cdke ctke), slke⟩)
    (cke : PySem.W.codeIn K cdke "keeps_to" = true)
    (kke : PySem.W.keepIn K (.ref fke) = true)
    (aus : PySem.W.nsIn K mainGlobals "uses_only" = some (some (.ref fus)))
    (lus : K.lookup fus = some ⟨ocus, odus, .func (PySem.W.fnOf "uses_only" "uses_only" (defArgs sUses) (defBody sUses) (defScope sUses) .none kVus dcus pmus anus cdus ctus), slus⟩)
    (cus : PySem.W.codeIn K cdus "uses_only" = true)
    (kus : PySem.W.keepIn K (.ref fus) = true)
    (aco : PySem.W.nsIn K mainGlobals "check_order" = some (some (.ref fco)))
    (lco : K.lookup fco = some ⟨occo, odco, .func (PySem.W.fnOf "check_order" "check_order" (defArgs sOrder) (defBody sOrder) (defScope sOrder) .none kVco dcco pmco anco cdco ctco), slco⟩)
    (cco : PySem.W.codeIn K cdco "check_order" = true)
    (kco : PySem.W.keepIn K (.ref fco) = true)
    (abg : PySem.W.nsIn K mainGlobals "_law_bag" = some (some (.ref fbg)))
    (lbg : K.lookup fbg = some ⟨ocbg, odbg, .func (PySem.W.fnOf "_law_bag" "_law_bag" (defArgs sBag) (defBody sBag) (defScope sBag) .none kVbg dcbg pmbg anbg cdbg ctbg), slbg⟩)
    (cbg : PySem.W.codeIn K cdbg "_law_bag" = true)
    (kbg : PySem.W.keepIn K (.ref fbg) = true)
    (atk : PySem.W.nsIn K mainGlobals "_law_take" = some (some (.ref ftk)))
    (ltk : K.lookup ftk = some ⟨octk, odtk, .func (PySem.W.fnOf "_law_take" "_law_take" (defArgs sTake) (defBody sTake) (defScope sTake) .none kVtk dctk pmtk antk cdtk cttk), sltk⟩)
    (ctk : PySem.W.codeIn K cdtk "_law_take" = true)
    (ktk : PySem.W.keepIn K (.ref ftk) = true)
    (aof : PySem.W.nsIn K mainGlobals "_law_of" = some (some (.ref fof)))
    (lof : K.lookup fof = some ⟨ocof, odof, .func (PySem.W.fnOf "_law_of" "_law_of" (defArgs sOf) (defBody sOf) (defScope sOf) .none kVof dcof pmof anof cdof ctof), slof⟩)
    (cof : PySem.W.codeIn K cdof "_law_of" = true)
    (kof : PySem.W.keepIn K (.ref fof) = true)
    (ans : PySem.W.nsIn K mainGlobals "_law_names" = some (some (.ref fns)))
    (lns : K.lookup fns = some ⟨ocns, odns, .func (PySem.W.fnOf "_law_names" "_law_names" (defArgs sNames) (defBody sNames) (defScope sNames) .none kVns dcns pmns anns cdns ctns), slns⟩)
    (cns : PySem.W.codeIn K cdns "_law_names" = true)
    (kns : PySem.W.keepIn K (.ref fns) = true)
    (alp : PySem.W.nsIn K mainGlobals "_law_params" = some (some (.ref flp)))
    (llp : K.lookup flp = some ⟨oclp, odlp, .func (PySem.W.fnOf "_law_params" "_law_params" (defArgs sLP) (defBody sLP) (defScope sLP) .none kVlp dclp pmlp anlp cdlp ctlp), sllp⟩)
    (clp : PySem.W.codeIn K cdlp "_law_params" = true)
    (klp : PySem.W.keepIn K (.ref flp) = true)
    (adu : PySem.W.nsIn K mainGlobals "_law_due" = some (some (.ref fdu)))
    (ldu : K.lookup fdu = some ⟨ocdu, oddu, .func (PySem.W.fnOf "_law_due" "_law_due" (defArgs sDue) (defBody sDue) (defScope sDue) .none kVdu dcdu pmdu andu cddu ctdu), sldu⟩)
    (cdu : PySem.W.codeIn K cddu "_law_due" = true)
    (kdu : PySem.W.keepIn K (.ref fdu) = true)
    (atd : PySem.W.nsIn K mainGlobals "_law_told" = some (some (.ref ftd)))
    (ltd : K.lookup ftd = some ⟨octd, odtd, .func (PySem.W.fnOf "_law_told" "_law_told" (defArgs sTold) (defBody sTold) (defScope sTold) .none kVtd dctd pmtd antd cdtd cttd), sltd⟩)
    (ctd : PySem.W.codeIn K cdtd "_law_told" = true)
    (ktd : PySem.W.keepIn K (.ref ftd) = true)
    (alw : PySem.W.nsIn K mainGlobals "law" = some (some (.ref flw)))
    (llw : K.lookup flw = some ⟨oclw, odlw, .func (PySem.W.fnOf "law" "law" (defArgs sLaw) (defBody sLaw) (defScope sLaw) .none kVlw dclw pmlw anlw cdlw ctlw), sllw⟩)
    (clw : PySem.W.codeIn K cdlw "law" = true)
    (klw : PySem.W.keepIn K (.ref flw) = true)
    (aC : PySem.W.nsIn K mainGlobals "Param" = some (some (.ref C)))
    (api : PySem.W.findIn K (.ref C) "__init__" = some (some (.ref fpi)))
    (ipi : PySem.W.isFn K (.ref fpi) = true)
    (lpi : K.lookup fpi = some ⟨ocpi, odpi, .func (PySem.W.fnOf "__init__" "Param.__init__" (defArgs sPInit) (defBody sPInit) (defScope sPInit) .none (.ref D) dcpi pmpi anpi cdpi ctpi), slpi⟩)
    (cpi : PySem.W.codeIn K cdpi "Param.__init__" = true)
    (kpi : PySem.W.keepIn K (.ref fpi) = true)
    (dh : PySem.W.nsIn K D "holds" = some (some (.str "box" th)))
    (dd0 : PySem.W.nsIn K D "default" = some (some .none))
    (dn : PySem.W.nsIn K D "named" = some (some (.bool false)))
    (gB : PySem.W.nsIn K mainGlobals "BARRED" = some (some (.ref aB)))
    (gaM : PySem.W.nsIn K mainGlobals "MARK_DEFAULTS" = some (some (.ref aM)))
    (gaX : PySem.W.nsIn K mainGlobals "BOX_DEFAULTS" = some (some (.ref aX)))
    (gaT : PySem.W.nsIn K mainGlobals "TESTS" = some (some (.ref aT)))
    (gaPl : PySem.W.nsIn K mainGlobals "PLAIN_ROWS" = some (some (.ref aPl)))
    (gaBr : PySem.W.nsIn K mainGlobals "BRANCHES" = some (some (.ref aBr)))
    (gaRo : PySem.W.nsIn K mainGlobals "ROWS" = some (some (.ref aRo)))
    (gaRe : PySem.W.nsIn K mainGlobals "RESULTS" = some (some (.ref aRe)))
    (gL : PySem.W.nsIn K mainGlobals "MOST_LETTERS" = some (some (.int 8 tl)))
    (taB : K.lookup aB = some ⟨.type "tuple", ddaB, .seq itaB nnaB, ssaB⟩)
    (taR0 : K.lookup aR0 = some ⟨.type "tuple", ddaR0, .seq itaR0 nnaR0, ssaR0⟩)
    (taM : K.lookup aM = some ⟨.type "tuple", ddaM, .seq #[.ref m1] nnaM, ssaM⟩)
    (taX : K.lookup aX = some ⟨.type "tuple", ddaX, .seq #[.ref x1, .ref x2, .ref x3, .ref x4] nnaX, ssaX⟩)
    (taT : K.lookup aT = some ⟨.type "tuple", ddaT, .seq #[.ref t1, .ref t2, .ref t3] nnaT, ssaT⟩)
    (taPl : K.lookup aPl = some ⟨.type "tuple", ddaPl, .seq #[.ref p1, .ref p2, .ref p3, .ref p4, .ref p5, .ref p6, .ref p7, .ref p8, .ref p9] nnaPl, ssaPl⟩)
    (taBr : K.lookup aBr = some ⟨.type "tuple", ddaBr, .seq #[.ref b1, .ref b2] nnaBr, ssaBr⟩)
    (taRo : K.lookup aRo = some ⟨.type "tuple", ddaRo, .seq #[.ref p1, .ref p2, .ref p3, .ref p4, .ref p5, .ref p6, .ref p7, .ref p8, .ref p9, .ref b1, .ref b2] nnaRo, ssaRo⟩)
    (taRe : K.lookup aRe = some ⟨.type "tuple", ddaRe, .seq #[.ref r1, .ref r2, .ref r3, .ref r4] nnaRe, ssaRe⟩)
    (tm1 : K.lookup m1 = some ⟨.type "tuple", ddm1, .seq itm1 nnm1, ssm1⟩)
    (tx1 : K.lookup x1 = some ⟨.type "tuple", ddx1, .seq itx1 nnx1, ssx1⟩)
    (tx2 : K.lookup x2 = some ⟨.type "tuple", ddx2, .seq itx2 nnx2, ssx2⟩)
    (tx3 : K.lookup x3 = some ⟨.type "tuple", ddx3, .seq itx3 nnx3, ssx3⟩)
    (tx4 : K.lookup x4 = some ⟨.type "tuple", ddx4, .seq itx4 nnx4, ssx4⟩)
    (tt1 : K.lookup t1 = some ⟨.type "tuple", ddt1, .seq itt1 nnt1, sst1⟩)
    (tt2 : K.lookup t2 = some ⟨.type "tuple", ddt2, .seq itt2 nnt2, sst2⟩)
    (tt3 : K.lookup t3 = some ⟨.type "tuple", ddt3, .seq itt3 nnt3, sst3⟩)
    (tp1 : K.lookup p1 = some ⟨.type "tuple", ddp1, .seq itp1 nnp1, ssp1⟩)
    (tp2 : K.lookup p2 = some ⟨.type "tuple", ddp2, .seq itp2 nnp2, ssp2⟩)
    (tp3 : K.lookup p3 = some ⟨.type "tuple", ddp3, .seq itp3 nnp3, ssp3⟩)
    (tp4 : K.lookup p4 = some ⟨.type "tuple", ddp4, .seq itp4 nnp4, ssp4⟩)
    (tp5 : K.lookup p5 = some ⟨.type "tuple", ddp5, .seq itp5 nnp5, ssp5⟩)
    (tp6 : K.lookup p6 = some ⟨.type "tuple", ddp6, .seq itp6 nnp6, ssp6⟩)
    (tp7 : K.lookup p7 = some ⟨.type "tuple", ddp7, .seq itp7 nnp7, ssp7⟩)
    (tp8 : K.lookup p8 = some ⟨.type "tuple", ddp8, .seq itp8 nnp8, ssp8⟩)
    (tp9 : K.lookup p9 = some ⟨.type "tuple", ddp9, .seq itp9 nnp9, ssp9⟩)
    (tb1 : K.lookup b1 = some ⟨.type "tuple", ddb1, .seq itb1 nnb1, ssb1⟩)
    (tb2 : K.lookup b2 = some ⟨.type "tuple", ddb2, .seq itb2 nnb2, ssb2⟩)
    (tr1 : K.lookup r1 = some ⟨.type "tuple", ddr1, .seq itr1 nnr1, ssr1⟩)
    (tr2 : K.lookup r2 = some ⟨.type "tuple", ddr2, .seq itr2 nnr2, ssr2⟩)
    (tr3 : K.lookup r3 = some ⟨.type "tuple", ddr3, .seq itr3 nnr3, ssr3⟩)
    (tr4 : K.lookup r4 = some ⟨.type "tuple", ddr4, .seq itr4 nnr4, ssr4⟩)
    (vaB : strsB itaB.toList barred = true)
    (vaR0 : strsB itaR0.toList ["none"] = true)
    (vm1 : strsB itm1.toList ["mark", "item"] = true)
    (vx1 : strsB itx1.toList ["once", "items"] = true)
    (vx2 : strsB itx2.toList ["early", "kind", "value"] = true)
    (vx3 : strsB itx3.toList ["anew", "items"] = true)
    (vx4 : strsB itx4.toList ["late", "owner", "value"] = true)
    (vt1 : strsB itt1.toList ["in", "item", "used"] = true)
    (vt2 : strsB itt2.toList ["equal", "used", "used"] = true)
    (vt3 : strsB itt3.toList ["is", "used", "used"] = true)
    (vp1 : strsB itp1.toList ["new", "assigned", "items"] = true)
    (vp2 : strsB itp2.toList ["name", "assigned", "used"] = true)
    (vp3 : strsB itp3.toList ["copy", "assigned", "used"] = true)
    (vp4 : strsB itp4.toList ["get", "assigned", "owner", "value"] = true)
    (vp5 : strsB itp5.toList ["set", "owner", "value", "used"] = true)
    (vp6 : strsB itp6.toList ["add", "used", "items"] = true)
    (vp7 : strsB itp7.toList ["drop", "used", "items"] = true)
    (vp8 : strsB itp8.toList ["grow", "owner", "value", "items"] = true)
    (vp9 : strsB itp9.toList ["shrink", "owner", "value", "items"] = true)
    (vb1 : strsB itb1.toList ["if", "test", "plain"] = true)
    (vb2 : strsB itb2.toList ["unless", "test", "plain"] = true)
    (vr1 : strsB itr1.toList ["none"] = true)
    (vr2 : strsB itr2.toList ["box", "used"] = true)
    (vr3 : strsB itr3.toList ["copy", "used"] = true)
    (vr4 : strsB itr4.toList ["test", "test"] = true)
    (pg : PySem.W.plainGet K C Str.empty = true)
    (hd : PySem.W.hasDictIn K C = true)
    (po : PySem.W.plainOver K C = true)
    (sa : PySem.W.findIn K (.ref C) "__setattr__" = some (some (.builtin "object.__setattr__")))
    (mk : PySem.W.makesIn K C = true)
    (kc : PySem.W.keepIn K (.ref C) = true)
    (nN : PySem.W.findIn K (.ref C) "name" = some none)
    (nH : PySem.W.findIn K (.ref C) "holds" = some none)
    (nD : PySem.W.findIn K (.ref C) "default" = some none)
    (nA : PySem.W.findIn K (.ref C) "named" = some none)
    (ha : PySem.W.findIn K (.ref C) "__class__" = some (some (.builtin "object.__class__")))
    (hn : PySem.W.specialIn K (.builtin "object.__class__") "__get__" = some (some (.builtin "getset_descriptor.__get__")))
    (htk : PySem.W.takesIn K (.builtin "object.__class__") = some true)
    (hm : PySem.W.mroIn K C (.type "object") = some true)
    (isC : PySem.W.isClsIn K C = true)
    (tyC : PySem.W.typeIn K (.ref C) = some (.type "type"))
    (aCM : PySem.W.nsIn K mainGlobals "Method" = some (some (.ref CM)))
    (Mpg : PySem.W.plainGet K CM Str.empty = true)
    (Mhd : PySem.W.hasDictIn K CM = true)
    (Mpo : PySem.W.plainOver K CM = true)
    (Msa : PySem.W.findIn K (.ref CM) "__setattr__" = some (some (.builtin "object.__setattr__")))
    (Mmk : PySem.W.makesIn K CM = true)
    (Mkc : PySem.W.keepIn K (.ref CM) = true)
    (MnN : PySem.W.findIn K (.ref CM) "name" = some none)
    (MnR : PySem.W.findIn K (.ref CM) "rows" = some none)
    (MnX : PySem.W.findIn K (.ref CM) "returns" = some none)
    (MnP : PySem.W.findIn K (.ref CM) "params" = some none)
    (Mrd : PySem.W.readsIn K CM (.type "type") = true)
    (Mga : PySem.W.specialIn K (.ref CM) "__getattribute__" = some (some (.builtin "type.__getattribute__")))
    (Mk1 : PySem.W.findCls K (.ref CM) (.type "type") "MOST_PARAMS" = some (.val (.int 4 tk1)))
    (Mk2 : PySem.W.findCls K (.ref CM) (.type "type") "MOST_BOXES" = some (.val (.int 2 tk2)))
    (Mk3 : PySem.W.findCls K (.ref CM) (.type "type") "MOST_ROWS" = some (.val (.int 8 tk3)))
    (Mof : PySem.W.findCls K (.ref CM) (.type "type") "of" = some (.get (.builtin "classmethod.__get__") (.ref pO) .none (.ref CM)))
    (Mrc : PySem.W.recIn K pO "classmethod" = some (.ref fmo :: rst))
    (Mfi : PySem.W.fnIn K fmo = true)
    (ami : PySem.W.findIn K (.ref CM) "__init__" = some (some (.ref fmi)))
    (imi : PySem.W.isFn K (.ref fmi) = true)
    (lmi : K.lookup fmi = some ⟨ocmi, odmi, .func (PySem.W.fnOf "__init__" "Method.__init__" (defArgs sMI) (defBody sMI) (defScope sMI) .none kVmi dcmi pmmi anmi cdmi ctmi), slmi⟩)
    (cmi : PySem.W.codeIn K cdmi "Method.__init__" = true)
    (kmi : PySem.W.keepIn K (.ref fmi) = true)
    (lmo : K.lookup fmo = some ⟨ocmo, odmo, .func (PySem.W.fnOf "of" "Method.of" (defArgs sMOf) (defBody sMOf) (defScope sMOf) .none (.ref DO) dcmo pmmo anmo cdmo ctmo), slmo⟩)
    (cmo : PySem.W.codeIn K cdmo "Method.of" = true)
    (kmo : PySem.W.keepIn K (.ref fmo) = true)
    (dO1 : PySem.W.nsIn K DO "rows" = some (some (.ref aE)))
    (dO2 : PySem.W.nsIn K DO "returns" = some (some (.ref aR0)))
    (aCN : PySem.W.nsIn K mainGlobals "BadName" = some (some (.ref CN)))
    (xLN : K.lookup CN = some (excClassObj nmN qN CN NN bsN [.ref BAN, .type "ValueError", .type "Exception", .type "BaseException", .type "object"] true snN subN abN colN ddN u0N u1N u2N u3N u5N "ValueError.__new__"))
    (saN : PySem.W.findIn K (.ref CN) "__setattr__" = some (some (.builtin "object.__setattr__")))
    (gatN : PySem.W.findIn K (.ref CN) "__getattribute__" = some (some (.builtin "BaseException.__getattribute__")))
    (ggN : PySem.W.findIn K (.ref CN) "__getattr__" = some none)
    (nfN : PySem.W.findIn K (.ref CN) "name" = some none)
    (aiN : PySem.W.findIn K (.ref CN) "__init__" = some (some (.ref gN)))
    (tiN : PySem.W.typeIn K (.ref gN) = some (.type "function"))
    (liN : K.lookup gN = some ⟨ocxN, odxN, .func (PySem.W.fnOf "__init__" "BadName.__init__" (defArgs sENm) (defBody sENm) (defScope sENm) .none kVxN dcxN pmxN anxN cdxN ctxN), slxN⟩)
    (ciN : PySem.W.codeIn K cdxN "BadName.__init__" = true)
    (kiN : PySem.W.keepIn K (.ref gN) = true)
    (kCN : PySem.W.keepIn K (.ref CN) = true)
    (eCN : PySem.W.subIn K (.ref CN) (.type "BaseException") = some true)
    (tCN : PySem.W.typeIn K (.ref CN) = some (.type "type"))
    (hCN : PySem.W.hasDictIn K CN = true)
    (iCN : PySem.W.isClsIn K CN = true)
    (aCT : PySem.W.nsIn K mainGlobals "Twice" = some (some (.ref CT)))
    (xLT : K.lookup CT = some (excClassObj nmT qT CT NT bsT [.ref BAT, .type "ValueError", .type "Exception", .type "BaseException", .type "object"] true snT subT abT colT ddT u0T u1T u2T u3T u5T "ValueError.__new__"))
    (saT : PySem.W.findIn K (.ref CT) "__setattr__" = some (some (.builtin "object.__setattr__")))
    (gatT : PySem.W.findIn K (.ref CT) "__getattribute__" = some (some (.builtin "BaseException.__getattribute__")))
    (ggT : PySem.W.findIn K (.ref CT) "__getattr__" = some none)
    (nfT : PySem.W.findIn K (.ref CT) "name" = some none)
    (aiT : PySem.W.findIn K (.ref CT) "__init__" = some (some (.ref gT)))
    (tiT : PySem.W.typeIn K (.ref gT) = some (.type "function"))
    (liT : K.lookup gT = some ⟨ocxT, odxT, .func (PySem.W.fnOf "__init__" "Twice.__init__" (defArgs sETw) (defBody sETw) (defScope sETw) .none kVxT dcxT pmxT anxT cdxT ctxT), slxT⟩)
    (ciT : PySem.W.codeIn K cdxT "Twice.__init__" = true)
    (kiT : PySem.W.keepIn K (.ref gT) = true)
    (kCT : PySem.W.keepIn K (.ref CT) = true)
    (eCT : PySem.W.subIn K (.ref CT) (.type "BaseException") = some true)
    (tCT : PySem.W.typeIn K (.ref CT) = some (.type "type"))
    (hCT : PySem.W.hasDictIn K CT = true)
    (iCT : PySem.W.isClsIn K CT = true)
    (aCO : PySem.W.nsIn K mainGlobals "BadOrder" = some (some (.ref CO)))
    (xLO : K.lookup CO = some (excClassObj nmO qO CO NO bsO [.ref BAO, .type "ValueError", .type "Exception", .type "BaseException", .type "object"] true snO subO abO colO ddO u0O u1O u2O u3O u5O "ValueError.__new__"))
    (saO : PySem.W.findIn K (.ref CO) "__setattr__" = some (some (.builtin "object.__setattr__")))
    (gatO : PySem.W.findIn K (.ref CO) "__getattribute__" = some (some (.builtin "BaseException.__getattribute__")))
    (ggO : PySem.W.findIn K (.ref CO) "__getattr__" = some none)
    (nfO : PySem.W.findIn K (.ref CO) "name" = some none)
    (aiO : PySem.W.findIn K (.ref CO) "__init__" = some (some (.ref gO)))
    (tiO : PySem.W.typeIn K (.ref gO) = some (.type "function"))
    (liO : K.lookup gO = some ⟨ocxO, odxO, .func (PySem.W.fnOf "__init__" "BadOrder.__init__" (defArgs sEOr) (defBody sEOr) (defScope sEOr) .none kVxO dcxO pmxO anxO cdxO ctxO), slxO⟩)
    (ciO : PySem.W.codeIn K cdxO "BadOrder.__init__" = true)
    (kiO : PySem.W.keepIn K (.ref gO) = true)
    (kCO : PySem.W.keepIn K (.ref CO) = true)
    (eCO : PySem.W.subIn K (.ref CO) (.type "BaseException") = some true)
    (tCO : PySem.W.typeIn K (.ref CO) = some (.type "type"))
    (hCO : PySem.W.hasDictIn K CO = true)
    (iCO : PySem.W.isClsIn K CO = true)
    (aCI : PySem.W.nsIn K mainGlobals "TooMany" = some (some (.ref CI)))
    (xLI : K.lookup CI = some (excClassObj nmI qI CI NI bsI [.ref BAI, .type "ValueError", .type "Exception", .type "BaseException", .type "object"] true snI subI abI colI ddI u0I u1I u2I u3I u5I "ValueError.__new__"))
    (saI : PySem.W.findIn K (.ref CI) "__setattr__" = some (some (.builtin "object.__setattr__")))
    (gatI : PySem.W.findIn K (.ref CI) "__getattribute__" = some (some (.builtin "BaseException.__getattribute__")))
    (ggI : PySem.W.findIn K (.ref CI) "__getattr__" = some none)
    (nfI : PySem.W.findIn K (.ref CI) "what" = some none)
    (aiI : PySem.W.findIn K (.ref CI) "__init__" = some (some (.ref gI)))
    (tiI : PySem.W.typeIn K (.ref gI) = some (.type "function"))
    (liI : K.lookup gI = some ⟨ocxI, odxI, .func (PySem.W.fnOf "__init__" "TooMany.__init__" (defArgs sETm) (defBody sETm) (defScope sETm) .none kVxI dcxI pmxI anxI cdxI ctxI), slxI⟩)
    (ciI : PySem.W.codeIn K cdxI "TooMany.__init__" = true)
    (kiI : PySem.W.keepIn K (.ref gI) = true)
    (kCI : PySem.W.keepIn K (.ref CI) = true)
    (eCI : PySem.W.subIn K (.ref CI) (.type "BaseException") = some true)
    (tCI : PySem.W.typeIn K (.ref CI) = some (.type "type"))
    (hCI : PySem.W.hasDictIn K CI = true)
    (iCI : PySem.W.isClsIn K CI = true)
    (aCR : PySem.W.nsIn K mainGlobals "BadRow" = some (some (.ref CR)))
    (xLR : K.lookup CR = some (excClassObj nmR qR CR NR bsR [.ref BAR, .type "ValueError", .type "Exception", .type "BaseException", .type "object"] true snR subR abR colR ddR u0R u1R u2R u3R u5R "ValueError.__new__"))
    (saR : PySem.W.findIn K (.ref CR) "__setattr__" = some (some (.builtin "object.__setattr__")))
    (gatR : PySem.W.findIn K (.ref CR) "__getattribute__" = some (some (.builtin "BaseException.__getattribute__")))
    (ggR : PySem.W.findIn K (.ref CR) "__getattr__" = some none)
    (nfR : PySem.W.findIn K (.ref CR) "at" = some none)
    (aiR : PySem.W.findIn K (.ref CR) "__init__" = some (some (.ref gR)))
    (tiR : PySem.W.typeIn K (.ref gR) = some (.type "function"))
    (liR : K.lookup gR = some ⟨ocxR, odxR, .func (PySem.W.fnOf "__init__" "BadRow.__init__" (defArgs sERw) (defBody sERw) (defScope sERw) .none kVxR dcxR pmxR anxR cdxR ctxR), slxR⟩)
    (ciR : PySem.W.codeIn K cdxR "BadRow.__init__" = true)
    (kiR : PySem.W.keepIn K (.ref gR) = true)
    (kCR : PySem.W.keepIn K (.ref CR) = true)
    (eCR : PySem.W.subIn K (.ref CR) (.type "BaseException") = some true)
    (tCR : PySem.W.typeIn K (.ref CR) = some (.type "type"))
    (hCR : PySem.W.hasDictIn K CR = true)
    (iCR : PySem.W.isClsIn K CR = true)
    (sNN : PySem.W.subIn K (.ref CN) (.ref CN) = some true)
    (sTN : PySem.W.subIn K (.ref CT) (.ref CN) = some false)
    (sTT : PySem.W.subIn K (.ref CT) (.ref CT) = some true)
    (sON : PySem.W.subIn K (.ref CO) (.ref CN) = some false)
    (sOT : PySem.W.subIn K (.ref CO) (.ref CT) = some false)
    (sOO : PySem.W.subIn K (.ref CO) (.ref CO) = some true)
    (sIN : PySem.W.subIn K (.ref CI) (.ref CN) = some false)
    (sIT : PySem.W.subIn K (.ref CI) (.ref CT) = some false)
    (sIO : PySem.W.subIn K (.ref CI) (.ref CO) = some false)
    (sII : PySem.W.subIn K (.ref CI) (.ref CI) = some true)
    (sRN : PySem.W.subIn K (.ref CR) (.ref CN) = some false)
    (sRT : PySem.W.subIn K (.ref CR) (.ref CT) = some false)
    (sRO : PySem.W.subIn K (.ref CR) (.ref CO) = some false)
    (sRI : PySem.W.subIn K (.ref CR) (.ref CI) = some false)
    (sRR : PySem.W.subIn K (.ref CR) (.ref CR) = some true)
    (z_len : PySem.W.nsIn K mainGlobals "len" = some none)
    (z_isinstance : PySem.W.nsIn K mainGlobals "isinstance" = some none)
    (z_str : PySem.W.nsIn K mainGlobals "str" = some none)
    (z_tuple : PySem.W.nsIn K mainGlobals "tuple" = some none)
    (z_all : PySem.W.nsIn K mainGlobals "all" = some none)
    (z_any : PySem.W.nsIn K mainGlobals "any" = some none)
    (z_zip : PySem.W.nsIn K mainGlobals "zip" = some none)
    (z_int : PySem.W.nsIn K mainGlobals "int" = some none)
    (z_abs : PySem.W.nsIn K mainGlobals "abs" = some none)
    (z_enumerate : PySem.W.nsIn K mainGlobals "enumerate" = some none)
    (z_range : PySem.W.nsIn K mainGlobals "range" = some none)
    (z_max : PySem.W.nsIn K mainGlobals "max" = some none)
    (z_min : PySem.W.nsIn K mainGlobals "min" = some none)
    (z_bool : PySem.W.nsIn K mainGlobals "bool" = some none) :
    ∃ fd : FuncData, (∀ (s : Shared) (v : Value), BindsTo s fd ⟨[v], []⟩ [("_law_script", v)]) ∧ ∀ base : Heap, K.In base → base.Ns mainGlobals mg → FnOk l.prog w K mg base CX0 12 fa fd ["_law_script"] (spLaw K) := by
  have e := hfa.symm.trans (PySem.W.mg_of X G alw)
  cases e
  have g : ∀ {n : Str} {v : Value}, PySem.W.nsIn K mainGlobals n = some (some v) → mg n = some v := fun h => PySem.W.mg_of X G h
  have z : ∀ {n : Str}, PySem.W.nsIn K mainGlobals n = some none → mg n = none := fun h => PySem.W.mg_none_of X G h
  have Fnm := fun_mk (st := sIsName) lnm cnm knm
  have bnm := Fnm.binds (ps := ["thing"]) fun _ _ _ _ _ _ us hl => match us, hl with | [_], _ => rfl
  have Fow := fun_mk (st := sIsOwner) low cow kow
  have bow := Fow.binds (ps := ["thing"]) fun _ _ _ _ _ _ us hl => match us, hl with | [_], _ => rfl
  have Fas := fun_mk (st := sIsAsc) las cas kas
  have bas := Fas.binds (ps := ["words"]) fun _ _ _ _ _ _ us hl => match us, hl with | [_], _ => rfl
  have Fit := fun_mk (st := sIsItems) lit cit kit
  have bit := Fit.binds (ps := ["thing"]) fun _ _ _ _ _ _ us hl => match us, hl with | [_], _ => rfl
  have Fag := fun_mk (st := sAgain) lag cag kag
  have bag := Fag.binds (ps := ["names", "taken"]) fun _ _ _ _ _ _ us hl => match us, hl with | [_, _], _ => rfl
  have Ffo := fun_mk (st := sFormOf) lfo cfo kfo
  have bfo := Ffo.binds (ps := ["thing", "forms"]) fun _ _ _ _ _ _ us hl => match us, hl with | [_, _], _ => rfl
  have Fso := fun_mk (st := sIsSort) lso cso kso
  have bso := Fso.binds (ps := ["part", "sort"]) fun _ _ _ _ _ _ us hl => match us, hl with | [_, _], _ => rfl
  have Fhf := fun_mk (st := sHasForm) lhf chf khf
  have bhf := Fhf.binds (ps := ["thing", "forms"]) fun _ _ _ _ _ _ us hl => match us, hl with | [_, _], _ => rfl
  have Fdf := fun_mk (st := sIsDef) ldf cdf kdf
  have bdf := Fdf.binds (ps := ["thing", "holds"]) fun _ _ _ _ _ _ us hl => match us, hl with | [_, _], _ => rfl
  have Fpa := fun_mk (st := sParts) lpa cpa kpa
  have bpa := Fpa.binds (ps := ["thing", "forms"]) fun _ _ _ _ _ _ us hl => match us, hl with | [_, _], _ => rfl
  have Ffb := fun_mk (st := sFirst) lfb cfb kfb
  have bfb := Ffb.binds (ps := ["params", "rows", "returns"]) fun _ _ _ _ _ _ us hl => match us, hl with | [_, _, _], _ => rfl
  have Fke := fun_mk (st := sKeeps) lke cke kke
  have bke := Fke.binds (ps := ["row", "fixed", "usable"]) fun _ _ _ _ _ _ us hl => match us, hl with | [_, _, _], _ => rfl
  have Fus := fun_mk (st := sUses) lus cus kus
  have bus := Fus.binds (ps := ["parts", "usable"]) fun _ _ _ _ _ _ us hl => match us, hl with | [_, _], _ => rfl
  have Fco := fun_mk (st := sOrder) lco cco kco
  have bco := Fco.binds (ps := ["params"]) fun _ _ _ _ _ _ us hl => match us, hl with | [_], _ => rfl
  have Fbg := fun_mk (st := sBag) lbg cbg kbg
  have bbg := Fbg.binds (ps := ["_law_script", "_law_at"]) fun _ _ _ _ _ _ us hl => match us, hl with | [_, _], _ => rfl
  have Ftk := fun_mk (st := sTake) ltk ctk ktk
  have btk := Ftk.binds (ps := ["_law_bag_here", "_law_many"]) fun _ _ _ _ _ _ us hl => match us, hl with | [_, _], _ => rfl
  have Fof := fun_mk (st := sOf) lof cof kof
  have bof := Fof.binds (ps := ["_law_bag_here", "_law_some"]) fun _ _ _ _ _ _ us hl => match us, hl with | [_, _], _ => rfl
  have Fns := fun_mk (st := sNames) lns cns kns
  have bns := Fns.binds (ps := ["_law_bag_here", "_law_many"]) fun _ _ _ _ _ _ us hl => match us, hl with | [_, _], _ => rfl
  have Flp := fun_mk (st := sLP) llp clp klp
  have blp := Flp.binds (ps := ["_law_bag_here", "_law_names_here", "_law_faults"]) fun _ _ _ _ _ _ us hl => match us, hl with | [_, _, _], _ => rfl
  have Fdu := fun_mk (st := sDue) ldu cdu kdu
  have bdu := Fdu.binds (ps := ["_law_names_here", "_law_params_here", "_law_faults", "_law_name", "_law_at"]) fun _ _ _ _ _ _ us hl => match us, hl with | [_, _, _, _, _], _ => rfl
  have Ftd := fun_mk (st := sTold) ltd ctd ktd
  have btd := Ftd.binds (ps := ["_law_name", "_law_params_here", "_law_listed"]) fun _ _ _ _ _ _ us hl => match us, hl with | [_, _, _], _ => rfl
  have Flw := fun_mk (st := sLaw) llw clw klw
  have Fpi : FP K fpi _ := ⟨⟨_, _, _, _, _, _, _, _, _, _, rfl, lpi, cpi, .inl ⟨rfl, rfl⟩, .inr ⟨D, rfl, fun q hq => by
    rcases List.mem_cons.mp hq with rfl | hq
    · exact ⟨_, dh, ⟨_, rfl⟩⟩
    · rcases List.mem_cons.mp hq with rfl | hq
      · exact ⟨_, dd0, rfl⟩
      · rcases List.mem_cons.mp hq with rfl | hq
        · exact ⟨_, dn, rfl⟩
        · cases hq⟩⟩, kpi⟩
  have FxN := fun_mk (st := sENm) liN ciN kiN
  have bxN := FxN.binds (ps := ["self", "name"]) fun _ _ _ _ _ _ us hl => match us, hl with | [_, _], _ => rfl
  have EN : Erc K mg "BadName" "name" CN gN := ⟨⟨⟨nmN, qN, NN, bsN, _, snN, subN, abN, colN, ddN, u0N, u1N, u2N, u3N, u5N, xLN, rfl⟩, saN, eCN, tCN, kCN⟩, nfN, aiN, tiN, g aCN⟩
  have FxT := fun_mk (st := sETw) liT ciT kiT
  have bxT := FxT.binds (ps := ["self", "name"]) fun _ _ _ _ _ _ us hl => match us, hl with | [_, _], _ => rfl
  have ET : Erc K mg "Twice" "name" CT gT := ⟨⟨⟨nmT, qT, NT, bsT, _, snT, subT, abT, colT, ddT, u0T, u1T, u2T, u3T, u5T, xLT, rfl⟩, saT, eCT, tCT, kCT⟩, nfT, aiT, tiT, g aCT⟩
  have FxO := fun_mk (st := sEOr) liO ciO kiO
  have bxO := FxO.binds (ps := ["self", "name"]) fun _ _ _ _ _ _ us hl => match us, hl with | [_, _], _ => rfl
  have EO : Erc K mg "BadOrder" "name" CO gO := ⟨⟨⟨nmO, qO, NO, bsO, _, snO, subO, abO, colO, ddO, u0O, u1O, u2O, u3O, u5O, xLO, rfl⟩, saO, eCO, tCO, kCO⟩, nfO, aiO, tiO, g aCO⟩
  have FxI := fun_mk (st := sETm) liI ciI kiI
  have bxI := FxI.binds (ps := ["self", "what"]) fun _ _ _ _ _ _ us hl => match us, hl with | [_, _], _ => rfl
  have EI : Erc K mg "TooMany" "what" CI gI := ⟨⟨⟨nmI, qI, NI, bsI, _, snI, subI, abI, colI, ddI, u0I, u1I, u2I, u3I, u5I, xLI, rfl⟩, saI, eCI, tCI, kCI⟩, nfI, aiI, tiI, g aCI⟩
  have FxR := fun_mk (st := sERw) liR ciR kiR
  have bxR := FxR.binds (ps := ["self", "at"]) fun _ _ _ _ _ _ us hl => match us, hl with | [_, _], _ => rfl
  have ER : Erc K mg "BadRow" "at" CR gR := ⟨⟨⟨nmR, qR, NR, bsR, _, snR, subR, abR, colR, ddR, u0R, u1R, u2R, u3R, u5R, xLR, rfl⟩, saR, eCR, tCR, kCR⟩, nfR, aiR, tiR, g aCR⟩
  have W : Wds K mg := ⟨z z_len, z z_isinstance, z z_str, z z_tuple, z z_all, z z_zip, ⟨_, g gL⟩, ⟨aB, g gB, fm_of taB vaB (by decide)⟩⟩
  have B : Blt mg := ⟨z z_len, z z_int, z z_abs, z z_enumerate⟩
  have L : BltL mg := ⟨z z_range, z z_max, z z_min, z z_len, z z_tuple⟩
  have FT : FmT K mg := ⟨⟨aM, g gaM, fms_of (as := [m1]) taM (by show 1 ≤ 1000; decide) (.cons (fm_of tm1 vm1 (by decide)) .nil)⟩, ⟨aX, g gaX, fms_of (as := [x1, x2, x3, x4]) taX (by show 4 ≤ 1000; decide) (.cons (fm_of tx1 vx1 (by decide)) (.cons (fm_of tx2 vx2 (by decide)) (.cons (fm_of tx3 vx3 (by decide)) (.cons (fm_of tx4 vx4 (by decide)) .nil))))⟩⟩
  have TT : FmG K mg "TESTS" testForms := ⟨⟨aT, g gaT, fms_of (as := [t1, t2, t3]) taT (by show 3 ≤ 1000; decide) (.cons (fm_of tt1 vt1 (by decide)) (.cons (fm_of tt2 vt2 (by decide)) (.cons (fm_of tt3 vt3 (by decide)) .nil)))⟩⟩
  have TP : FmG K mg "PLAIN_ROWS" plainForms := ⟨⟨aPl, g gaPl, fms_of (as := [p1, p2, p3, p4, p5, p6, p7, p8, p9]) taPl (by show 9 ≤ 1000; decide) (.cons (fm_of tp1 vp1 (by decide)) (.cons (fm_of tp2 vp2 (by decide)) (.cons (fm_of tp3 vp3 (by decide)) (.cons (fm_of tp4 vp4 (by decide)) (.cons (fm_of tp5 vp5 (by decide)) (.cons (fm_of tp6 vp6 (by decide)) (.cons (fm_of tp7 vp7 (by decide)) (.cons (fm_of tp8 vp8 (by decide)) (.cons (fm_of tp9 vp9 (by decide)) .nil)))))))))⟩⟩
  have TB : FmG K mg "BRANCHES" branchForms := ⟨⟨aBr, g gaBr, fms_of (as := [b1, b2]) taBr (by show 2 ≤ 1000; decide) (.cons (fm_of tb1 vb1 (by decide)) (.cons (fm_of tb2 vb2 (by decide)) .nil))⟩⟩
  have TR : FmG K mg "ROWS" rowForms := ⟨⟨aRo, g gaRo, fms_of (as := [p1, p2, p3, p4, p5, p6, p7, p8, p9, b1, b2]) taRo (by show 11 ≤ 1000; decide) (.cons (fm_of tp1 vp1 (by decide)) (.cons (fm_of tp2 vp2 (by decide)) (.cons (fm_of tp3 vp3 (by decide)) (.cons (fm_of tp4 vp4 (by decide)) (.cons (fm_of tp5 vp5 (by decide)) (.cons (fm_of tp6 vp6 (by decide)) (.cons (fm_of tp7 vp7 (by decide)) (.cons (fm_of tp8 vp8 (by decide)) (.cons (fm_of tp9 vp9 (by decide)) (.cons (fm_of tb1 vb1 (by decide)) (.cons (fm_of tb2 vb2 (by decide)) .nil)))))))))))⟩⟩
  have TX : FmG K mg "RESULTS" resultForms := ⟨⟨aRe, g gaRe, fms_of (as := [r1, r2, r3, r4]) taRe (by show 4 ≤ 1000; decide) (.cons (fm_of tr1 vr1 (by decide)) (.cons (fm_of tr2 vr2 (by decide)) (.cons (fm_of tr3 vr3 (by decide)) (.cons (fm_of tr4 vr4 (by decide)) .nil))))⟩⟩
  have T : Prm K mg C := ⟨⟨pg, hd, po, sa⟩, nN, nH, nD, nA, g aC, ha, hn, htk, hm, isC, tyC⟩
  have TM : Mtd K mg CM (.type "type") := ⟨⟨Mpg, Mhd, Mpo, Msa⟩, MnN, MnP, MnR, MnX, g aCM, ⟨Mrd, Mga⟩, ⟨_, Mk1, ⟨_, rfl⟩⟩, ⟨_, Mk2, ⟨_, rfl⟩⟩, ⟨_, Mk3, ⟨_, rfl⟩⟩⟩
  have cO : ClX.CMet K CM (.type "type") "of" pO fmo := ⟨Mof, ⟨rst, Mrc⟩, Mfi⟩
  have X2 : Exm K mg ⟨CN, CT, CO, CI, CR⟩ := ⟨g aCN, ⟨gatN, ggN, eCN, hCN⟩, nfN, g aCT, ⟨gatT, ggT, eCT, hCT⟩, nfT, g aCO, ⟨gatO, ggO, eCO, hCO⟩, nfO, g aCI, ⟨gatI, ggI, eCI, hCI⟩, nfI, g aCR, ⟨gatR, ggR, eCR, hCR⟩, nfR, exm_val eCN iCN tCN sNN, exm_val eCN iCN tCN sTN, exm_val eCT iCT tCT sTT, exm_val eCN iCN tCN sON, exm_val eCT iCT tCT sOT, exm_val eCO iCO tCO sOO, exm_val eCN iCN tCN sIN, exm_val eCT iCT tCT sIT, exm_val eCO iCO tCO sIO, exm_val eCI iCI tCI sII, exm_val eCN iCN tCN sRN, exm_val eCT iCT tCT sRT, exm_val eCO iCO tCO sRO, exm_val eCI iCI tCI sRI, exm_val eCR iCR tCR sRR⟩
  have hX : ∀ H, SqT K H aR0 [.str "none"] := fm_of taR0 vaR0 (by decide)
  have Fmi : FM K [] fmi _ := ⟨⟨_, _, _, _, _, _, _, _, _, _, rfl, lmi, cmi, .inl ⟨rfl, rfl⟩, .inl rfl⟩, kmi⟩
  have Fmo : FMOf K aE aR0 fmo _ := ⟨⟨_, _, _, _, _, _, _, _, _, _, rfl, lmo, cmo, .inl ⟨rfl, rfl⟩, .inr ⟨DO, rfl, fun q hq => by
    rcases List.mem_cons.mp hq with rfl | hq
    · exact ⟨_, dO1, rfl⟩
    · rcases List.mem_cons.mp hq with rfl | hq
      · exact ⟨_, dO2, rfl⟩
      · cases hq⟩⟩, kmo⟩
  refine ⟨PySem.W.fnOf "law" "law" (defArgs sLaw) (defBody sLaw) (defScope sLaw) .none kVlw dclw pmlw anlw cdlw ctlw, fun s v => .of_eq rfl, fun base _ _ => ?_⟩
  have Gnm := ok_name (P := l.prog) (w := w) (base := base) Fnm W
  have Gow := ok_owner Fow Gnm (g anm) knm bnm
  have Gas := ok_asc (P := l.prog) (w := w) (base := base) Fas W
  have Git := ok_items Fit W Gnm (g anm) knm bnm Gas (g aas) kas bas
  have Gfo := ok_formOf (P := l.prog) (w := w) (base := base) Ffo W
  have Gso := ok_sort0 Fso Git (g ait) kit bit Gow (g aow) kow bow Gnm (g anm) knm bnm
  have Ghf := ok_hasForm (k := 2) Fhf W Gfo (g afo) kfo bfo Gso (g aso) kso bso
  have Gdf := ok_def (k := 3) Fdf FT Ghf (g ahf) khf bhf
  have Gs1 := ok_sort1 (k := 4) Fso TT TP Git (g ait) kit bit Gow (g aow) kow bow Gnm (g anm) knm bnm Ghf (g ahf) khf bhf (by decide)
  have Gh1 := ok_hasForm (k := 4) Fhf W Gfo (g afo) kfo bfo Gs1 (g aso) kso bso
  have Gag := ok_again (P := l.prog) (w := w) (base := base) Fag (z z_enumerate)
  have Gpa := ok_parts Fpa W Gfo (g afo) kfo bfo
  have Gus := ok_uses (P := l.prog) (w := w) (base := base) Fus W
  have Gke := ok_keeps Fke W (z z_any) TR TB Gpa (g apa) kpa bpa Gfo (g afo) kfo bfo Gus (g aus) kus bus
  have Gfb := ok_first (kH := 6) Ffb W T (z z_enumerate) TR TX Gh1 (g ahf) khf bhf Gke (g ake) kke bke Gpa (g apa) kpa bpa Gus (g aus) kus bus (by decide)
  have GxN := ok_eNm (P := l.prog) (w := w) (base := base) FxN EN
  have GxT := ok_eTw (P := l.prog) (w := w) (base := base) FxT ET
  have GxO := ok_eOr (P := l.prog) (w := w) (base := base) FxO EO
  have GxI := ok_eTm (P := l.prog) (w := w) (base := base) FxI EI
  have GxR := ok_eRw (P := l.prog) (w := w) (base := base) FxR ER
  have Gco := ok_order Fco W T EO GxO bxO
  have Gmi := ok_mi (gO := gO) (kB := 7) (x := ⟨CN, CT, CO, CI, CR⟩) Fmi W (z z_any) T TM Gnm (g anm) knm bnm Gag (g aag) kag bag Gco (g aco) kco bco Gfb (g afb) kfb bfb EN GxN bxN ET GxT bxT EI GxI bxI ER GxR bxR (by decide)
  have MM : Mk K CM fmi := ⟨Mmk, ami, imi, Mkc⟩
  have Gmo := ok_mof (k := 8) Fmo MM Gmi
  have Gpi := ok_pinit (kD := 4) Fpi W T (z z_bool) Gnm (g anm) knm bnm Gdf (g adf) kdf bdf
  have Gbg := ok_bag (P := l.prog) (w := w) (base := base) Fbg B
  have Gtk := ok_take (P := l.prog) (w := w) (base := base) Ftk B
  have Gof := ok_of Fof B Gtk (g atk) ktk btk
  have Gns := ok_names Fns B (z z_range) Gtk (g atk) ktk btk Gof (g aof) kof bof
  have Glp := ok_lp Flp (z z_range) Gtk (g atk) ktk btk Gof (g aof) kof bof
  have Gdu := ok_due (P := l.prog) (w := w) (base := base) Fdu B
  have M : Mk K C fpi := ⟨mk, api, ipi, kc⟩
  have Gtd := ok_told (kI := 6) (kO := 10) Ftd T TM X2 M Fpi Fmo cO hX Gpi Gmo (by decide)
  exact ok_law (kI := 6) (kO := 10) Flw L T TM M Fpi Fmo cO hX Gpi Gmo Gbg (g abg) kbg bbg Gtk (g atk) ktk btk Gof (g aof) kof bof Gns (g ans) kns bns Glp (g alp) klp blp Gtd (g atd) ktd btd Gdu (g adu) kdu bdu (by decide) (by decide)
theorem walk {l : PySem.W.OpenLaw} {q : Program} {loose : List Str} {XP : (Str → Option Value) → Heap → Prop} {YP : World → Heap → Prop} {d : DefRec} {K : Params → PySem.W.Frag} (hn : l.most = some 63) (hdf : d.params.defaults = [])
    (hY : ∀ (w : World) (h : Heap), YP w h → (K w.params).In h)
    (F : ∀ (w : World) (mg : Str → Option Value) (fa : Addr) (h : Heap), (K w.params).In h → h.Ns mainGlobals mg → mg d.name = some (.ref fa) →
      ∃ fd : FuncData, (∀ (s : Shared) (u : Value), BindsTo s fd ⟨[u], []⟩ [("_law_script", u)]) ∧ ∀ base : Heap, (K w.params).In base → base.Ns mainGlobals mg → FnOk l.prog w (K w.params) mg base CX0 12 fa fd ["_law_script"] (spLaw (K w.params))) :
    PySem.W.WalkO q loose XP YP l.row.toRowW d [] (fun f vs => PySem.call f vs) :=
  L2.walk_of (n := 63) (k := 12) (x := "_law_script") (CX := fun _ => CX0) (sp := fun w => spLaw (K w.params)) hn (by decide) hdf ⟨rfl, by decide, by decide⟩ hY F (fun _ _ a ns hl _ hS => ⟨a, ns, rfl, hS, hl, fun _ => rfl⟩) fun _ _ _ _ _ z => z
end Dr
open PySem PySem.W PyProof.Rows in
set_option maxRecDepth 100000 in
set_option maxHeartbeats 0 in
theorem PySem.Challenge.cw_oncedefaults_k04_methods_refused_holds : PySem.Challenge.rw_oncedefaults_k04_methods_refused.Holds := by
  w_on; o_law; k_head; (case hw => w_witness2)
  k_fill
  refine Dr.walk (l := PySem.Challenge.rw_oncedefaults_k04_methods_refused) rfl rfl (fun w h Y => PySem.W.kIn_of Y) ?F
  case F =>
    intro w mg fa h KX G hmg
    refine' Dr.all_mk KX G hmg ?anm ?lnm ?cnm ?knm ?aow ?low ?cow ?kow ?aas ?las ?cas ?kas ?ait ?lit ?cit ?kit ?aag ?lag ?cag ?kag ?afo ?lfo ?cfo ?kfo ?aso ?lso ?cso ?kso ?ahf ?lhf ?chf ?khf ?adf ?ldf ?cdf ?kdf ?apa ?lpa ?cpa ?kpa ?afb ?lfb ?cfb ?kfb ?ake ?lke ?cke ?kke ?aus ?lus ?cus ?kus ?aco ?lco ?cco ?kco ?abg ?lbg ?cbg ?kbg ?atk ?ltk ?ctk ?ktk ?aof ?lof ?cof ?kof ?ans ?lns ?cns ?kns ?alp ?llp ?clp ?klp ?adu ?ldu ?cdu ?kdu ?atd ?ltd ?ctd ?ktd ?alw ?llw ?clw ?klw ?aC ?api ?ipi ?lpi ?cpi ?kpi ?dh ?dd0 ?dn ?gB ?gaM ?gaX ?gaT ?gaPl ?gaBr ?gaRo ?gaRe ?gL ?taB ?taR0 ?taM ?taX ?taT ?taPl ?taBr ?taRo ?taRe ?tm1 ?tx1 ?tx2 ?tx3 ?tx4 ?tt1 ?tt2 ?tt3 ?tp1 ?tp2 ?tp3 ?tp4 ?tp5 ?tp6 ?tp7 ?tp8 ?tp9 ?tb1 ?tb2 ?tr1 ?tr2 ?tr3 ?tr4 ?vaB ?vaR0 ?vm1 ?vx1 ?vx2 ?vx3 ?vx4 ?vt1 ?vt2 ?vt3 ?vp1 ?vp2 ?vp3 ?vp4 ?vp5 ?vp6 ?vp7 ?vp8 ?vp9 ?vb1 ?vb2 ?vr1 ?vr2 ?vr3 ?vr4 ?pg ?hd ?po ?sa ?mk ?kc ?nN ?nH ?nD ?nA ?ha ?hn ?htk ?hm ?isC ?tyC ?aCM ?Mpg ?Mhd ?Mpo ?Msa ?Mmk ?Mkc ?MnN ?MnR ?MnX ?MnP ?Mrd ?Mga ?Mk1 ?Mk2 ?Mk3 ?Mof ?Mrc ?Mfi ?ami ?imi ?lmi ?cmi ?kmi ?lmo ?cmo ?kmo ?dO1 ?dO2 ?aCN ?xLN ?saN ?gatN ?ggN ?nfN ?aiN ?tiN ?liN ?ciN ?kiN ?kCN ?eCN ?tCN ?hCN ?iCN ?aCT ?xLT ?saT ?gatT ?ggT ?nfT ?aiT ?tiT ?liT ?ciT ?kiT ?kCT ?eCT ?tCT ?hCT ?iCT ?aCO ?xLO ?saO ?gatO ?ggO ?nfO ?aiO ?tiO ?liO ?ciO ?kiO ?kCO ?eCO ?tCO ?hCO ?iCO ?aCI ?xLI ?saI ?gatI ?ggI ?nfI ?aiI ?tiI ?liI ?ciI ?kiI ?kCI ?eCI ?tCI ?hCI ?iCI ?aCR ?xLR ?saR ?gatR ?ggR ?nfR ?aiR ?tiR ?liR ?ciR ?kiR ?kCR ?eCR ?tCR ?hCR ?iCR ?sNN ?sTN ?sTT ?sON ?sOT ?sOO ?sIN ?sIT ?sIO ?sII ?sRN ?sRT ?sRO ?sRI ?sRR ?z_len ?z_isinstance ?z_str ?z_tuple ?z_all ?z_any ?z_zip ?z_int ?z_abs ?z_enumerate ?z_range ?z_max ?z_min ?z_bool
    (case anm => k_is)
    (case lnm => k_is)
    (case cnm => k_is)
    (case knm => k_is)
    (case aow => k_is)
    (case low => k_is)
    (case cow => k_is)
    (case kow => k_is)
    (case aas => k_is)
    (case las => k_is)
    (case cas => k_is)
    (case kas => k_is)
    (case ait => k_is)
    (case lit => k_is)
    (case cit => k_is)
    (case kit => k_is)
    (case aag => k_is)
    (case lag => k_is)
    (case cag => k_is)
    (case kag => k_is)
    (case afo => k_is)
    (case lfo => k_is)
    (case cfo => k_is)
    (case kfo => k_is)
    (case aso => k_is)
    (case lso => k_is)
    (case cso => k_is)
    (case kso => k_is)
    (case ahf => k_is)
    (case lhf => k_is)
    (case chf => k_is)
    (case khf => k_is)
    (case adf => k_is)
    (case ldf => k_is)
    (case cdf => k_is)
    (case kdf => k_is)
    (case apa => k_is)
    (case lpa => k_is)
    (case cpa => k_is)
    (case kpa => k_is)
    (case afb => k_is)
    (case lfb => k_is)
    (case cfb => k_is)
    (case kfb => k_is)
    (case ake => k_is)
    (case lke => k_is)
    (case cke => k_is)
    (case kke => k_is)
    (case aus => k_is)
    (case lus => k_is)
    (case cus => k_is)
    (case kus => k_is)
    (case aco => k_is)
    (case lco => k_is)
    (case cco => k_is)
    (case kco => k_is)
    (case abg => k_is)
    (case lbg => k_is)
    (case cbg => k_is)
    (case kbg => k_is)
    (case atk => k_is)
    (case ltk => k_is)
    (case ctk => k_is)
    (case ktk => k_is)
    (case aof => k_is)
    (case lof => k_is)
    (case cof => k_is)
    (case kof => k_is)
    (case ans => k_is)
    (case lns => k_is)
    (case cns => k_is)
    (case kns => k_is)
    (case alp => k_is)
    (case llp => k_is)
    (case clp => k_is)
    (case klp => k_is)
    (case adu => k_is)
    (case ldu => k_is)
    (case cdu => k_is)
    (case kdu => k_is)
    (case atd => k_is)
    (case ltd => k_is)
    (case ctd => k_is)
    (case ktd => k_is)
    (case alw => k_is)
    (case llw => k_is)
    (case clw => k_is)
    (case klw => k_is)
    (case aC => k_is)
    (case api => k_is)
    (case ipi => k_is)
    (case lpi => k_is)
    (case cpi => k_is)
    (case kpi => k_is)
    (case dh => k_is)
    (case dd0 => k_is)
    (case dn => k_is)
    (case gB => k_is)
    (case gaM => k_is)
    (case gaX => k_is)
    (case gaT => k_is)
    (case gaPl => k_is)
    (case gaBr => k_is)
    (case gaRo => k_is)
    (case gaRe => k_is)
    (case gL => k_is)
    (case taB => k_is)
    (case taM => k_is)
    (case taX => k_is)
    (case taT => k_is)
    (case taPl => k_is)
    (case taBr => k_is)
    (case taRo => k_is)
    (case taRe => k_is)
    (case tm1 => k_is)
    (case tx1 => k_is)
    (case tx2 => k_is)
    (case tx3 => k_is)
    (case tx4 => k_is)
    (case tt1 => k_is)
    (case tt2 => k_is)
    (case tt3 => k_is)
    (case tp1 => k_is)
    (case tp2 => k_is)
    (case tp3 => k_is)
    (case tp4 => k_is)
    (case tp5 => k_is)
    (case tp6 => k_is)
    (case tp7 => k_is)
    (case tp8 => k_is)
    (case tp9 => k_is)
    (case tb1 => k_is)
    (case tb2 => k_is)
    (case tr1 => k_is)
    (case tr2 => k_is)
    (case tr3 => k_is)
    (case tr4 => k_is)
    (case vaB => decide +kernel)
    (case vm1 => decide +kernel)
    (case vx1 => decide +kernel)
    (case vx2 => decide +kernel)
    (case vx3 => decide +kernel)
    (case vx4 => decide +kernel)
    (case vt1 => decide +kernel)
    (case vt2 => decide +kernel)
    (case vt3 => decide +kernel)
    (case vp1 => decide +kernel)
    (case vp2 => decide +kernel)
    (case vp3 => decide +kernel)
    (case vp4 => decide +kernel)
    (case vp5 => decide +kernel)
    (case vp6 => decide +kernel)
    (case vp7 => decide +kernel)
    (case vp8 => decide +kernel)
    (case vp9 => decide +kernel)
    (case vb1 => decide +kernel)
    (case vb2 => decide +kernel)
    (case vr1 => decide +kernel)
    (case vr2 => decide +kernel)
    (case vr3 => decide +kernel)
    (case vr4 => decide +kernel)
    (case pg => k_is)
    (case hd => k_is)
    (case po => k_is)
    (case sa => k_is)
    (case mk => k_is)
    (case kc => k_is)
    (case nN => k_is)
    (case nH => k_is)
    (case nD => k_is)
    (case nA => k_is)
    (case ha => k_is)
    (case hn => k_is)
    (case htk => k_is)
    (case hm => k_is)
    (case isC => k_is)
    (case tyC => k_is)
    (case aCM => k_is)
    (case Mpg => k_is)
    (case Mhd => k_is)
    (case Mpo => k_is)
    (case Msa => k_is)
    (case Mmk => k_is)
    (case Mkc => k_is)
    (case MnN => k_is)
    (case MnR => k_is)
    (case MnX => k_is)
    (case MnP => k_is)
    (case Mrd => k_is)
    (case Mga => k_is)
    (case Mk1 => k_is)
    (case Mk2 => k_is)
    (case Mk3 => k_is)
    (case Mof => k_is)
    (case Mrc => k_is)
    (case Mfi => k_is)
    (case ami => k_is)
    (case imi => k_is)
    (case lmi => k_is)
    (case cmi => k_is)
    (case kmi => k_is)
    (case lmo => k_is)
    (case cmo => k_is)
    (case kmo => k_is)
    (case dO1 => k_is)
    (case dO2 => k_is)
    (case aCN => k_is)
    (case xLN => k_is)
    (case saN => k_is)
    (case gatN => k_is)
    (case ggN => k_is)
    (case nfN => k_is)
    (case aiN => k_is)
    (case tiN => k_is)
    (case liN => k_is)
    (case ciN => k_is)
    (case kiN => k_is)
    (case kCN => k_is)
    (case eCN => k_is)
    (case tCN => k_is)
    (case hCN => k_is)
    (case iCN => k_is)
    (case aCT => k_is)
    (case xLT => k_is)
    (case saT => k_is)
    (case gatT => k_is)
    (case ggT => k_is)
    (case nfT => k_is)
    (case aiT => k_is)
    (case tiT => k_is)
    (case liT => k_is)
    (case ciT => k_is)
    (case kiT => k_is)
    (case kCT => k_is)
    (case eCT => k_is)
    (case tCT => k_is)
    (case hCT => k_is)
    (case iCT => k_is)
    (case aCO => k_is)
    (case xLO => k_is)
    (case saO => k_is)
    (case gatO => k_is)
    (case ggO => k_is)
    (case nfO => k_is)
    (case aiO => k_is)
    (case tiO => k_is)
    (case liO => k_is)
    (case ciO => k_is)
    (case kiO => k_is)
    (case kCO => k_is)
    (case eCO => k_is)
    (case tCO => k_is)
    (case hCO => k_is)
    (case iCO => k_is)
    (case aCI => k_is)
    (case xLI => k_is)
    (case saI => k_is)
    (case gatI => k_is)
    (case ggI => k_is)
    (case nfI => k_is)
    (case aiI => k_is)
    (case tiI => k_is)
    (case liI => k_is)
    (case ciI => k_is)
    (case kiI => k_is)
    (case kCI => k_is)
    (case eCI => k_is)
    (case tCI => k_is)
    (case hCI => k_is)
    (case iCI => k_is)
    (case aCR => k_is)
    (case xLR => k_is)
    (case saR => k_is)
    (case gatR => k_is)
    (case ggR => k_is)
    (case nfR => k_is)
    (case aiR => k_is)
    (case tiR => k_is)
    (case liR => k_is)
    (case ciR => k_is)
    (case kiR => k_is)
    (case kCR => k_is)
    (case eCR => k_is)
    (case tCR => k_is)
    (case hCR => k_is)
    (case iCR => k_is)
    (case sNN => (first | rfl | k_is))
    (case sTN => k_is)
    (case sTT => (first | rfl | k_is))
    (case sON => k_is)
    (case sOT => k_is)
    (case sOO => (first | rfl | k_is))
    (case sIN => k_is)
    (case sIT => k_is)
    (case sIO => k_is)
    (case sII => (first | rfl | k_is))
    (case sRN => k_is)
    (case sRT => k_is)
    (case sRO => k_is)
    (case sRI => k_is)
    (case sRR => (first | rfl | k_is))
    (case z_len => k_is)
    (case z_isinstance => k_is)
    (case z_str => k_is)
    (case z_tuple => k_is)
    (case z_all => k_is)
    (case z_any => k_is)
    (case z_zip => k_is)
    (case z_int => k_is)
    (case z_abs => k_is)
    (case z_enumerate => k_is)
    (case z_range => k_is)
    (case z_max => k_is)
    (case z_min => k_is)
    (case z_bool => k_is)
    (case taR0 => k_is)
    (case vaR0 => decide +kernel)
