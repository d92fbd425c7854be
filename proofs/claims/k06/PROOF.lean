import PyProof.Rows.All
import Wide.All
import OpenK.AllK
import Wide.FinOn
import HandS.ForMost
import HandS.Defaults
import HandS.MakeKwOnly
import HandS.TupAny
import HandS.IsInst
import HandS.Zip
import HandS.Flow
import HandS.Walk
import HandS.Codes
import HandS.SlotsOwn
import HandS.More
import HandS.ForExc
import HandS.TryMany
import HandS.ExcInit
import HandS.ExcField
import HandS.CallSlots
import HandS.Star
import HandS.ClsMeth
import HandS.ExcOwn
import KE.GoesMore
import KE.KEqNest
import KE.DataEq
import PyProof.NeKinds
import HandS.Style
import PySem.Challenge.RW_oncedefaults_k06_kinds_made_and_refused
set_option Elab.async false
set_option maxRecDepth 100000
set_option maxHeartbeats 4000000
set_option linter.all false
namespace Dr
open PySem PySem.Spec PyProof.Rows L2
def topS (i : Nat) : Stmt := PySem.Challenge.pw_oncedefaults_k06_kinds_made_and_refused.main.body.getD i (.Pass ⟨0, 0, 0, 0⟩)
abbrev sBag : Stmt := topS 37
abbrev sTake : Stmt := topS 38
abbrev sOf : Stmt := topS 39
theorem scBag : FnScope ["_law_script", "_law_at", "_law_cell", "_law_blend", "_law_k", "_law_each"] ["_law_script", "_law_at"] (defScope sBag) := ⟨rfl, rfl, rfl, by decide +kernel, rfl, by decide +kernel, by decide +kernel⟩
theorem scTake : FnScope ["_law_bag_here", "_law_many", "_law_digit"] ["_law_bag_here", "_law_many"] (defScope sTake) := ⟨rfl, rfl, rfl, by decide +kernel, rfl, by decide +kernel, by decide +kernel⟩
theorem scOf : FnScope ["_law_bag_here", "_law_some"] ["_law_bag_here", "_law_some"] (defScope sOf) := ⟨rfl, rfl, rfl, by decide +kernel, rfl, by decide +kernel, by decide +kernel⟩
/-- the built-in names that the draws use are the built-in ones -/
structure Blt (mg : Str → Option Value) : Prop where
  len : mg "len" = none
  int : mg "int" = none
  abs : mg "abs" = none
  enum : mg "enumerate" = none
theorem same_upd {H : Hp} {p : Addr} {o : HO} (h : H p = none) : Same H (upd H p o) := fun b x e => by
  rw [upd_ne (ne_of_none e h)]
  exact e
/-- a bag stands at p -/
def Bag (H : Hp) (p : Addr) : Prop := ∃ u v : Int, H p = some (.lst [.int u, .int v]) ∧ 0 ≤ u ∧ 0 ≤ v ∧ v < 2147483648
/-- all but the bag is as it was, the bag is a bag -/
def Kp (p : Addr) (H H' : Hp) : Prop := (∀ b o, b ≠ p → H b = some o → H' b = some o) ∧ Bag H' p
theorem Kp.refl {p : Addr} {H : Hp} (h : Bag H p) : Kp p H H := ⟨fun _ _ _ e => e, h⟩
theorem Kp.trans {p : Addr} {H H1 H2 : Hp} (a : Kp p H H1) (b : Kp p H1 H2) : Kp p H H2 := ⟨fun c o n e => b.1 c o n (a.1 c o n e), b.2⟩
theorem Bag.same {p : Addr} {H H' : Hp} (b : Bag H p) (s : Same H H') : Bag H' p := by
  obtain ⟨u, v, e, q⟩ := b
  exact ⟨u, v, s _ _ e, q⟩
theorem Kp.same {p : Addr} {H H1 H2 : Hp} (a : Kp p H H1) (s : Same H1 H2) : Kp p H H2 := ⟨fun c o n e => s c o (a.1 c o n e), a.2.same s⟩
theorem Kp.of {p : Addr} {H H' : Hp} (b : Bag H p) (s : Same H H') : Kp p H H' := (Kp.refl b).same s
section
variable {P : Program} {w : World} {K : PySem.W.Frag} {mg : Str → Option Value} {base : Heap}
def spBag (K : PySem.W.Frag) : Sp := fun vs H Q _ => ∃ (a : Addr) (ns : List Int) (i : Int), vs = [.ref a, .int i] ∧ SqL K H a (ns.map V.int) ∧ ns.length ≤ 63 ∧ 0 ≤ i ∧ i ≤ 100 ∧
  ∀ H' p, Same H H' → H p = none → Bag H' p → Q (.ref p) H'
theorem bag_turn {b e k : Int} (k0 : 0 ≤ k) (hb : 0 ≤ b) (hb2 : b < 2147483648) : 0 ≤ (b * 44017 + e % 2147483563 + 59 * k) % 2147483399 ∧ (b * 44017 + e % 2147483563 + 59 * k) % 2147483399 < 2147483648 := by
  omega
theorem ok_bag {f : Addr} {fd : FuncData} (F : Fun K "_law_bag" "_law_bag" sBag f fd) (T : Blt mg) : FnOk P w K mg base CX0 1 f fd ["_law_script", "_law_at"] (spBag K) := by
  refine F.ok scBag (fun vs H Q E h => ?_) (fun cdv A outer s H vs Q E hr h => ?_)
  · obtain ⟨a, ns, i, rfl, _⟩ := h
    rfl
  · obtain ⟨a, ns, i, rfl, hS, hlen, hi0, hi1, q⟩ := h
    refine ⟨_, C8.pss_cut (ps_set (i := 2) scBag.nd rfl (.inl rfl) (pe_ifExp (pt_cmpR op_lt (pv 1) (pe_callB call_len_seq (by rfl) T.len PySem.boot_len (pa_cons (pv 0) pa_nil)) (nomark _)) (pe_ix ix_list (pv 0) (pv 1) (fun _ _ => rfl)) pe_int))
      (pss_cons (ps_set (i := 3) scBag.nd rfl (.inl rfl) (pe_op op_add (pe_op op_mul pe_int (pv 1)) pe_int))
      (pss_cons (ps_for PassesOwn.never rfl (pi_enum (by rfl) T.enum (pa_cons (pe_slice sl_list (pv 0) po_none (po_some pe_int)) pa_nil))
          (pg_tup rfl (pgs_cons (pg_name (i := 4) scBag.nd rfl (.inl rfl)) (pgs_cons (pg_name (i := 5) scBag.nd rfl (.inl rfl)) pgs_nil)))
        (pss_one (ps_set (i := 3) scBag.nd rfl (.inl rfl) (pe_op op_mod (pe_callTy call_int1 (by rfl) T.int (by decide +kernel) (pa_cons
          (pe_op op_add (pe_op op_add (pe_op op_mul (pv 3) pe_int) (pe_op op_mod (pe_callTy call_int1 (by rfl) T.int (by decide +kernel) (pa_cons (pv 5) pa_nil)) pe_int)) (pe_op op_mul pe_int (pv 4))) pa_nil)) pe_int))))
      (pss_one (ps_ret (pe_lst (pa_cons (pe_ifExp (pt_cmpR op_ge (pe_callB call_abs (by rfl) T.abs (by decide +kernel) (pa_cons (pv 2) pa_nil)) (pe_op op_pow pe_int pe_int) (nomark _)) (pe_callB call_abs (by rfl) T.abs (by decide +kernel) (pa_cons (pv 2) pa_nil)) pe_int) (pa_cons (pv 3) pa_nil))))))), ?_⟩
    refine ⟨fun σ' H' => H' = H ∧ ∃ c : Int, σ' = [some (.ref a), some (.int i), some (.int c), none, none, none], ?_, fun σ' H' hM => ?_⟩
    · refine ⟨_, rfl, _, rfl, a, _, rfl, .inl hS, _, _, rfl, rfl, _, rfl, ite2 (fun hlt => ?_) (fun _ => ⟨rfl, 0, rfl⟩)⟩
      have hl : i < (ns.map V.int).length := of_decide_eq_true hlt
      rw [List.length_map] at hl
      obtain ⟨j, rfl⟩ : ∃ j : Nat, i = (j : Int) := ⟨i.toNat, by omega⟩
      have hj : j < ns.length := by omega
      exact ⟨_, rfl, _, rfl, a, _, _, _, rfl, rfl, hS, atI_nat (by rw [List.getElem?_map, List.getElem?_eq_getElem hj]; rfl), rfl, _, rfl⟩
    · obtain ⟨rfl, c, rfl⟩ := hM
      -- the blend
      refine ⟨.int i, rfl, _, i, rfl, rfl, .inl ⟨by decide, by decide⟩, _, _, rfl, rfl, ?_⟩
      -- the loop over a copy
      refine ⟨.ref a, rfl, 63, rfl, a, ns.map V.int, rfl, hS, fun l nl => ?_⟩
      have s1 : Same H' (upd H' l (.lst (cutV (ns.map V.int) none (some 63)))) := same_upd nl
      have ecut : cutV (ns.map V.int) none (some 63) = ns.map V.int := by
        unfold cutV
        rw [show HT.sIx (ns.map V.int).length (ns.map V.int).length (some 63) = min 63 (ns.map V.int).length from HT.sIx_nat _ _ 63, HT.sIx_none]
        rw [List.drop_zero, List.take_of_length_le]
        rw [List.length_map]
        omega
      rw [ecut] at s1 ⊢
      refine ⟨l, ns.map V.int, rfl, .inl (.inl upd_same), for_it walk_enum (fun _ σ H1 => Same H' H1 ∧ H1 l = some (.lst (ns.map V.int)) ∧ ∃ (b : Int) (x y : Option V), σ = [some (.ref a), some (.int i), some (.int c), some (.int b), x, y] ∧ 0 ≤ b ∧ b < 2147483648)
        ⟨s1, upd_same, _, _, _, rfl, by omega, by omega⟩ (fun n σ H1 _ h => .inl (.inl h.2.1)) ?_ ?_⟩
      · rintro n y σ H1 H2 hn ⟨sm, hl, b, x5, x6, rfl, b0, b1⟩ ⟨T', x, e, rfl, nT, rfl, e1, e2⟩
        rw [List.length_map] at hn
        obtain rfl := Option.some.inj e1
        have e2 := (show (ns.map V.int)[n]? = some _ from e2)
        rw [List.getElem?_map, List.getElem?_eq_getElem hn] at e2
        obtain rfl := Option.some.inj e2
        have sT : Same H1 (upd H1 T' (.tup [.int (n : Int), .int ns[n]])) := same_upd nT
        refine ⟨T', _, rfl, .inl (.inl upd_same), rfl, _, _, rfl, _, _, rfl, rfl, ?_⟩
        refine ⟨_, rfl, b, _, rfl, rfl, .inr ⟨by decide, by decide⟩, _, rfl, .inl ⟨_, rfl, _, _, rfl, rfl, (by show (0 : Int) < 2147483563; decide), _, _, rfl, rfl, _, rfl, _, _, rfl, rfl, .inl ⟨by decide, by decide⟩, _, _, rfl, rfl, .inl ⟨_, rfl, _, _, rfl, rfl, (by show (0 : Int) < 2147483399; decide), ?_⟩⟩⟩
        have hb := bag_turn (b := b) (e := ns[n]) (k := (n : Int)) (by omega) b0 b1
        exact ⟨sm.trans sT, sT _ _ hl, _, _, _, rfl, hb.1, hb.2⟩
      · rintro σ H1 ⟨sm, hl, b, x5, x6, rfl, b0, b1⟩
        refine ⟨_, rfl, _, rfl, _, _, rfl, rfl, ⟨by decide, by decide, by decide⟩, _, _, rfl, rfl, _, rfl, ite2 (fun hge => ?_) (fun _ => ?_)⟩
        · refine ⟨_, rfl, _, rfl, _, rfl, by show 2 ≤ sizeLine; decide, fun p np => q _ _ (sm.trans (same_upd np)) (sm.free np) ⟨_, b, upd_same, ?_, b0, b1⟩⟩
          split <;> omega
        · refine ⟨_, rfl, by show 2 ≤ sizeLine; decide, fun p np => q _ _ (sm.trans (same_upd np)) (sm.free np) ⟨0, b, upd_same, by omega, b0, b1⟩⟩
def spTake : Sp := fun vs H Q _ => ∃ (p : Addr) (m : Int), vs = [.ref p, .int m] ∧ Bag H p ∧ 1 ≤ m ∧ m < 1073741824 ∧ ∀ H' r, Kp p H H' → 0 ≤ r → r < m → Q (.int r) H'
theorem kp_upd {p : Addr} {H : Hp} {u v : Int} (h0 : 0 ≤ u) (h1 : 0 ≤ v) (h2 : v < 2147483648) : Kp p H (upd H p (.lst [.int u, .int v])) := ⟨fun b o n e => by
  rw [upd_ne n]
  exact e, u, v, upd_same, h0, h1, h2⟩
theorem ok_take {f : Addr} {fd : FuncData} (F : Fun K "_law_take" "_law_take" sTake f fd) (T : Blt mg) : FnOk P w K mg base CX0 1 f fd ["_law_bag_here", "_law_many"] spTake := by
  refine F.ok scTake (fun vs H Q E h => ?_) (fun cdv A outer s H vs Q E hr h => ?_)
  · obtain ⟨p, m, rfl, _⟩ := h
    rfl
  · obtain ⟨p, m, rfl, ⟨u, v, hp, u0, v0, v1⟩, m0, m1, q⟩ := h
    refine ⟨_, pss_cons (ps_if (pt_cmpR op_gt (pe_ix ix_list (pv 0) pe_int (fun _ _ => rfl)) pe_int (nomark _))
        (pss_cons (ps_set (i := 2) scTake.nd rfl (.inl rfl) (pe_op op_modN (pe_callTy call_int1 (by rfl) T.int (by decide +kernel) (pa_cons (pe_ix ix_list (pv 0) pe_int (fun _ _ => rfl)) pa_nil)) (pv 1)))
        (pss_cons (ps_asg (pe_op op_fdivN (pe_ix ix_list (pv 0) pe_int (fun _ _ => rfl)) (pv 1)) (pg_sub (pv 0) pe_int set_list))
        (pss_one (ps_ret (pv 2))))) pss_nil)
      (pss_cons (ps_asg (pe_op op_mod (pe_callTy call_int1 (by rfl) T.int (by decide +kernel) (pa_cons (pe_op op_add (pe_op op_mul (pe_ix ix_list (pv 0) pe_int (fun _ _ => rfl)) pe_int) pe_int) pa_nil)) pe_int) (pg_sub (pv 0) pe_int set_list))
      (pss_one (ps_ret (pe_op op_modN (pe_op op_fdiv (pe_op op_mod (pe_callTy call_int1 (by rfl) T.int (by decide +kernel) (pa_cons (pe_op op_mul (pe_op op_fdiv (pe_ix ix_list (pv 0) pe_int (fun _ _ => rfl)) pe_int) pe_int) pa_nil)) pe_int) pe_int) (pv 1))))), ?_⟩
    have g0 : atI [V.int u, V.int v] 0 = some (.int u) := atI_nat (j := 0) rfl
    have g1 : atI [V.int u, V.int v] 1 = some (.int v) := atI_nat (j := 1) rfl
    refine ⟨.ref p, rfl, p, _, 0, _, rfl, rfl, SqL.of hp, g0, _, _, rfl, rfl, _, rfl, ite2 (fun hpos => ?_) (fun _ => ?_)⟩
    · have hu : 0 < u := of_decide_eq_true hpos
      refine ⟨.ref p, rfl, p, _, 0, _, rfl, rfl, SqL.of hp, g0, .inl ⟨u, rfl, _, rfl, u, m, rfl, rfl, by omega, ?_⟩⟩
      refine ⟨.ref p, rfl, p, _, 0, _, rfl, rfl, SqL.of hp, g0, _, rfl, u, m, rfl, rfl, ⟨by omega, by omega⟩, ?_⟩
      refine ⟨.ref p, rfl, p, _, 0, 0, rfl, rfl, hp, rfl, ?_⟩
      refine ⟨_, rfl, ?_⟩
      have e1 : u.fdiv m = u / m := Int.fdiv_eq_ediv_of_nonneg _ (by omega)
      have e2 : u.fmod m = u % m := Int.fmod_eq_emod_of_nonneg _ (by omega)
      exact q _ _ (kp_upd (by rw [e1]; exact Int.ediv_nonneg (by omega) (by omega)) v0 v1) (by rw [e2]; exact Int.emod_nonneg _ (by omega)) (by rw [e2]; exact Int.emod_lt_of_pos _ (by omega))
    · refine ⟨.ref p, rfl, p, _, 1, _, rfl, rfl, SqL.of hp, g1, v, _, rfl, rfl, .inr ⟨by decide, by decide⟩, _, _, rfl, rfl, .inl ⟨_, rfl, _, _, rfl, rfl, (by show (0 : Int) < 2147483629; decide), ?_⟩⟩
      refine ⟨.ref p, rfl, p, _, 1, 1, rfl, rfl, hp, rfl, ?_⟩
      have hv : 0 ≤ (v * 48271 + 90001) % 2147483629 ∧ (v * 48271 + 90001) % 2147483629 < 2147483648 := by omega
      have hz : (upd H p (.lst [V.int u, V.int ((v * 48271 + 90001) % 2147483629)])) p = some (.lst [V.int u, V.int ((v * 48271 + 90001) % 2147483629)]) := upd_same
      have g2 : atI [V.int u, V.int ((v * 48271 + 90001) % 2147483629)] 1 = some (.int ((v * 48271 + 90001) % 2147483629)) := atI_nat (j := 1) rfl
      refine ⟨.ref p, rfl, p, _, 1, _, rfl, rfl, SqL.of hz, g2, _, _, rfl, rfl, ⟨by decide, by decide⟩, _, _, rfl, rfl, .inr ⟨by decide, by decide⟩, .inl ⟨_, rfl, _, _, rfl, rfl, (by show (0 : Int) < 2147483647; decide), _, _, rfl, rfl, ⟨by decide, by decide⟩, .int m, rfl, _, m, rfl, rfl, by omega, ?_⟩⟩
      have e2 : ∀ y : Int, y.fmod m = y % m := fun y => Int.fmod_eq_emod_of_nonneg _ (by omega)
      exact q _ _ (kp_upd u0 hv.1 hv.2) (by rw [e2]; exact Int.emod_nonneg _ (by omega)) (by rw [e2]; exact Int.emod_lt_of_pos _ (by omega))
end
end Dr
namespace Dr
open PySem PySem.Spec PyProof.Rows L2
abbrev sIsName : Stmt := topS 11
abbrev sIsOwner : Stmt := topS 12
abbrev sIsAsc : Stmt := topS 13
abbrev sIsItems : Stmt := topS 14
theorem scIsName : FnScope ["thing", "letter"] ["thing"] (defScope sIsName) := ⟨rfl, rfl, rfl, by decide +kernel, rfl, by decide +kernel, by decide +kernel⟩
theorem scIsOwner : FnScope ["thing"] ["thing"] (defScope sIsOwner) := ⟨rfl, rfl, rfl, by decide +kernel, rfl, by decide +kernel, by decide +kernel⟩
theorem scIsAsc : FnScope ["words", "low", "high"] ["words"] (defScope sIsAsc) := ⟨rfl, rfl, rfl, by decide +kernel, rfl, by decide +kernel, by decide +kernel⟩
theorem scIsItems : FnScope ["thing", "part"] ["thing"] (defScope sIsItems) := ⟨rfl, rfl, rfl, by decide +kernel, rfl, by decide +kernel, by decide +kernel⟩
def barred : List Str := ["marks", "kind", "value", "def", "return", "none", "copy", "if", "unless", "in", "is", "mark", "box", "once", "anew", "early", "late", "cls", "self", "method"]
def lowC (c : Nat) : Bool := decide (97 ≤ c) && decide (c ≤ 122)
def nameOk (z : Str) : Bool := (decide (1 ≤ z.length) && decide (z.length ≤ 8)) && (!(barred.contains z) && z.cps.toList.all lowC)
def isNameD : PyData → Bool
  | .str z => nameOk z
  | _ => false
def isOwnerD : PyData → Bool
  | .str z => z == "cls" || nameOk z
  | _ => false
def ltS (a b : Str) : Bool := decide (a.cps.toList < b.cps.toList)
def ascS : List Str → Bool
  | a :: b :: r => ltS a b && ascS (b :: r)
  | _ => true
def strsOf : List PyData → Option (List Str)
  | [] => some []
  | .str z :: r => (strsOf r).map (z :: ·)
  | _ :: _ => none
def isItemsD : PyData → Bool
  | .tuple ds => ds.all isNameD && (match strsOf ds with | some zs => ascS zs | none => false)
  | _ => false
theorem Same.seqT {K : PySem.W.Frag} {H H' : Hp} {a : Addr} {xs : List V} (e : Same H H') (h : SqT K H a xs) : SqT K H' a xs := by
  rcases h with (h | ⟨o, h⟩) | h
  · exact .inl (.inl (e _ _ h))
  · exact .inl (.inr ⟨o, e _ _ h⟩)
  · exact .inr h
mutual
theorem dp_same {K : PySem.W.Frag} {H H' : Hp} (e : Same H H') : ∀ {v : V} {d : PyData}, Dp K H v d → Dp K H' v d
  | _, _, .non => .non
  | _, _, .bl b => .bl b
  | _, _, .int i => .int i
  | _, _, .str x => .str x
  | _, _, .lst h hs => .lst (e.seq h) (dpAll_same e hs)
  | _, _, .tup h hs => .tup (Same.seqT e h) (dpAll_same e hs)
theorem dpAll_same {K : PySem.W.Frag} {H H' : Hp} (e : Same H H') : ∀ {vs : List V} {ds : List PyData}, DpAll K H vs ds → DpAll K H' vs ds
  | _, _, .nil => .nil
  | _, _, .cons h hs => .cons (dp_same e h) (dpAll_same e hs)
end
theorem dpAll_len {K : PySem.W.Frag} {H : Hp} : ∀ {vs : List V} {ds : List PyData}, DpAll K H vs ds → vs.length = ds.length
  | _, _, .nil => rfl
  | _, _, .cons _ hs => by rw [List.length_cons, List.length_cons, dpAll_len hs]
theorem dpAll_get {K : PySem.W.Frag} {H : Hp} : ∀ {vs : List V} {ds : List PyData} {i : Nat} {v : V}, DpAll K H vs ds → vs[i]? = some v → ∃ d, ds[i]? = some d ∧ Dp K H v d
  | _, _, i, v, .nil, h => by simp at h
  | _, _, 0, v, .cons h hs, e => ⟨_, rfl, by
    have q := Option.some.inj e
    subst q
    exact h⟩
  | _, _, i + 1, v, .cons h hs, e => dpAll_get (i := i) hs e
theorem dpAll_strs {K : PySem.W.Frag} {H : Hp} : ∀ (zs : List Str), DpAll K H (zs.map V.str) (zs.map PyData.str)
  | [] => .nil
  | z :: r => .cons (.str z) (dpAll_strs r)
/-- the type of a datum -/
def tyD : PyData → String
  | .none => "NoneType"
  | .bool _ => "bool"
  | .int _ => "int"
  | .str _ => "str"
  | .list _ => "list"
  | .tuple _ => "tuple"
  | .dict _ => "dict"
theorem tyx_lst {K : PySem.W.Frag} {H : Hp} {a : Addr} {xs : List V} (h : SqL K H a xs) : TyX K H (.ref a) (.type "list") := by
  rcases h with (h | ⟨o, h⟩) | ⟨o, its, n, h, c, _⟩
  · exact .base (.lst h)
  · exact .base (.frz h)
  · exact .kList h c
theorem tyx_tup {K : PySem.W.Frag} {H : Hp} {a : Addr} {xs : List V} (h : SqT K H a xs) : TyX K H (.ref a) (.type "tuple") := by
  rcases h with (h | ⟨o, h⟩) | ⟨o, its, n, h, c, _⟩
  · exact .base (.tup h)
  · exact .fTuple h
  · exact .kTuple h c
theorem dp_ty {K : PySem.W.Frag} {H : Hp} {v : V} {d : PyData} (h : Dp K H v d) : TyX K H v (.type (tyD d)) := by
  cases h with
  | non => exact .base .non
  | bl b => exact .base (.bl b)
  | int i => exact .base (.int i)
  | str x => exact .base (.str x)
  | lst h _ => exact tyx_lst h
  | tup h _ => exact tyx_tup h
def isStrD : PyData → Bool
  | .str _ => true
  | _ => false
def isTupD : PyData → Bool
  | .tuple _ => true
  | _ => false
def isBoolD : PyData → Bool
  | .bool _ => true
  | _ => false
theorem kit_str {K : PySem.W.Frag} : ∀ d : PyData, PySem.W.kitOne K (.type (tyD d)) (.type "str") = some (isStrD d)
  | .none => kit_ty (show kitB "NoneType" "str" = some false by decide +kernel)
  | .bool _ => kit_ty (show kitB "bool" "str" = some false by decide +kernel)
  | .int _ => kit_ty (show kitB "int" "str" = some false by decide +kernel)
  | .str _ => kit_ty (show kitB "str" "str" = some true by decide +kernel)
  | .list _ => kit_ty (show kitB "list" "str" = some false by decide +kernel)
  | .tuple _ => kit_ty (show kitB "tuple" "str" = some false by decide +kernel)
  | .dict _ => kit_ty (show kitB "dict" "str" = some false by decide +kernel)
theorem kit_tup {K : PySem.W.Frag} : ∀ d : PyData, PySem.W.kitOne K (.type (tyD d)) (.type "tuple") = some (isTupD d)
  | .none => kit_ty (show kitB "NoneType" "tuple" = some false by decide +kernel)
  | .bool _ => kit_ty (show kitB "bool" "tuple" = some false by decide +kernel)
  | .int _ => kit_ty (show kitB "int" "tuple" = some false by decide +kernel)
  | .str _ => kit_ty (show kitB "str" "tuple" = some false by decide +kernel)
  | .list _ => kit_ty (show kitB "list" "tuple" = some false by decide +kernel)
  | .tuple _ => kit_ty (show kitB "tuple" "tuple" = some true by decide +kernel)
  | .dict _ => kit_ty (show kitB "dict" "tuple" = some false by decide +kernel)
theorem kit_bool {K : PySem.W.Frag} : ∀ d : PyData, PySem.W.kitOne K (.type (tyD d)) (.type "bool") = some (isBoolD d)
  | .none => kit_ty (show kitB "NoneType" "bool" = some false by decide +kernel)
  | .bool _ => kit_ty (show kitB "bool" "bool" = some true by decide +kernel)
  | .int _ => kit_ty (show kitB "int" "bool" = some false by decide +kernel)
  | .str _ => kit_ty (show kitB "str" "bool" = some false by decide +kernel)
  | .list _ => kit_ty (show kitB "list" "bool" = some false by decide +kernel)
  | .tuple _ => kit_ty (show kitB "tuple" "bool" = some false by decide +kernel)
  | .dict _ => kit_ty (show kitB "dict" "bool" = some false by decide +kernel)
mutual
/-- texts and sequences of a size that Python's own limits leave alone -/
def smD : PyData → Bool
  | .str z => decide (z.length ≤ 1000)
  | .list ds => decide (ds.length ≤ 1000) && smAll ds
  | .tuple ds => decide (ds.length ≤ 1000) && smAll ds
  | .dict _ => false
  | _ => true
def smAll : List PyData → Bool
  | [] => true
  | d :: r => smD d && smAll r
end
structure OkD (d : PyData) : Prop where
  sh : SeqAt.shaped d = true
  sm : smD d = true
theorem smAll_get : ∀ {ds : List PyData}, smAll ds = true → ∀ d ∈ ds, smD d = true
  | [], _, _, h => by cases h
  | x :: r, h, d, hd => by
    have h' : smD x = true ∧ smAll r = true := by simpa [smAll] using h
    rcases List.mem_cons.mp hd with e | e
    · exact e ▸ h'.1
    · exact smAll_get h'.2 d e
theorem depth_all : ∀ {ds : List PyData}, ∀ d ∈ ds, d.depth ≤ PyData.depthAll ds
  | [], d, h => by cases h
  | x :: r, d, hd => by
    show d.depth ≤ max x.depth (PyData.depthAll r)
    rcases List.mem_cons.mp hd with e | e
    · subst e
      exact Nat.le_max_left _ _
    · exact Nat.le_trans (depth_all d e) (Nat.le_max_right _ _)
theorem OkD.tup {ds : List PyData} (h : OkD (.tuple ds)) : ds.length ≤ 1000 ∧ ∀ d ∈ ds, OkD d := by
  obtain ⟨hs, hm⟩ := h
  have hm' : ds.length ≤ 1000 ∧ smAll ds = true := by simpa [smD] using hm
  refine ⟨hm'.1, fun d hd => ⟨?_, smAll_get hm'.2 d hd⟩⟩
  have h1 := SeqAt.canLay_of_shaped hs
  have h2 := SeqAt.depth_of_shaped hs
  have h3 : PyData.canLayAll0 ds = true := by simpa only [PyData.canLay0] using h1
  have h4 : PyData.depthAll ds + 1 ≤ 64 := h2
  have h5 := depth_all d hd
  show (d.canLay0 && decide (d.depth ≤ 64)) = true
  rw [Bool.and_eq_true]
  exact ⟨PyData.canLay0_of_mem ds d h3 hd, decide_eq_true (by omega)⟩
/-- what the words module reads of the top -/
structure Wds (K : PySem.W.Frag) (mg : Str → Option Value) : Prop where
  len : mg "len" = none
  isi : mg "isinstance" = none
  str : mg "str" = none
  tup : mg "tuple" = none
  all : mg "all" = none
  zip : mg "zip" = none
  most : ∃ t, mg "MOST_LETTERS" = some (.int 8 t)
  bar : ∃ a : Addr, mg "BARRED" = some (.ref a) ∧ ∀ H, SqT K H a (barred.map V.str)
theorem flat_strs (l : List Str) : (l.map V.str).all flatV = true := by
  rw [List.all_eq_true]
  intro x hx
  obtain ⟨y, _, rfl⟩ := List.mem_map.mp hx
  rfl
theorem in_strs (z : Str) : ∀ l : List Str, inV (V.str z) (l.map V.str) = l.contains z
  | [] => rfl
  | y :: r => by
    show (eqV (V.str y) (V.str z) || inV (V.str z) (r.map V.str)) = _
    rw [in_strs z r, List.contains_cons]
    congr 1
    show (y == z) = (z == y)
    rw [Bool.eq_iff_iff, beq_iff_eq, beq_iff_eq]
    exact eq_comm
theorem one_lt (c d : Nat) : decide ((⟨#[c]⟩ : Str).cps.toList < (⟨#[d]⟩ : Str).cps.toList) = decide (c < d) := by
  show decide ([c] < [d]) = decide (c < d)
  by_cases h : c < d
  · rw [decide_eq_true h]
    exact decide_eq_true (List.Lex.rel h)
  · rw [decide_eq_false h]
    refine decide_eq_false fun q => ?_
    rcases List.cons_lt_cons_iff.mp q with q | ⟨_, q⟩
    · exact h q
    · exact absurd q (List.not_lt_nil _)
section
variable {P : Program} {w : World} {K : PySem.W.Frag} {mg : Str → Option Value} {base : Heap}
/-- the answer of a question about any object -/
def spAsk (K : PySem.W.Frag) (q : PyData → Bool) : Sp := fun vs H Q _ => ∃ (v : V) (d : PyData), vs = [v] ∧ Dp K H v d ∧ OkD d ∧ ∀ H', Same H H' → Q (.bl (q d)) H'
theorem ok_name {f : Addr} {fd : FuncData} (F : Fun K "is_name" "is_name" sIsName f fd) (T : Wds K mg) : FnOk P w K mg base CX0 1 f fd ["thing"] (spAsk K isNameD) := by
  refine F.ok scIsName (fun vs H Q E h => ?_) (fun cdv A outer s H vs Q E hr h => ?_)
  · obtain ⟨v, d, rfl, _⟩ := h
    rfl
  · obtain ⟨v, d, rfl, hd, hsh, q⟩ := h
    obtain ⟨tm, hm⟩ := T.most
    obtain ⟨aB, hB, hBs⟩ := T.bar
    refine ⟨_, pss_cons (ps_if (PW.pt (pw_or (pt_not (pt_val (pe_callB call_isi (by rfl) T.isi (by decide +kernel) (pa_cons (pv 0) (pa_cons (pe_bltn (v := .ty "str") (by rfl) T.str (by decide +kernel) rfl) pa_nil)))))
        (pw_or1 (pt_not (pt_chain op_le op_le pe_int (pe_callB call_len_str (by rfl) T.len PySem.boot_len (pa_cons (pv 0) pa_nil)) (pe_glob (v := .int 8) (by rfl) hm ⟨_, rfl⟩))))))
        (pss_one (ps_ret pe_bl)) pss_nil)
      (pss_one (ps_ret (pe_and (pe_cmpR op_notIn_seq (pv 0) (pe_glob (v := .ref aB) (by rfl) hB rfl) rfl)
        (pe_one (pe_callB (cr_all rfl) (by rfl) T.all (by decide +kernel) (pa_cons
          (pe_lc (own := [("letter", 1)]) (g := gName 1) (tt := tYes) rfl scIsName.nd (pi_str (pv 0)) (blkOk_by (N := ["thing", "letter"]) (sc := defScope sIsName) (by decide +kernel)) (fun _ _ _ _ _ => pg_name (i := 1) scIsName.nd rfl (Or.inl rfl)) (fun _ _ _ _ _ => pts_nil)
            (fun _ _ _ _ _ => pe_chain op_le_str op_le_str pe_str (pv 1) pe_str)) pa_nil)))))), ?_⟩
    refine ⟨v, rfl, v, .ty "str", _, _, _, rfl, .ty _, dp_ty hd, kit_str d, _, rfl, ?_⟩
    by_cases hstr : isStrD d = true
    · cases d with
      | str z =>
        cases hd
        have hz : z.length ≤ 1000 := of_decide_eq_true hsh.sm
        have hz2 : z.length ≤ sizeLine := Nat.le_of_lt (small1000 hz)
        refine iteF ?_
        refine ⟨_, rfl, _, rfl, hz2, _, _, rfl, rfl, _, rfl, ?_⟩
        have Z : z.length = z.cps.toList.length := (Array.length_toList).symm
        have no : ¬ (1 ≤ z.length ∧ z.length ≤ 8) → isNameD (.str z) = false := fun hn => by
          show nameOk z = false
          unfold nameOk
          by_cases h1 : 1 ≤ z.length
          · have h2 : ¬ z.length ≤ 8 := fun h2 => hn ⟨h1, h2⟩
            simp [h1, h2]
          · simp [h1]
        refine ite2 (fun k1 => ?_) (fun k1 => ?_)
        · have h1 : (1 : Int) ≤ (z.length : Int) := of_decide_eq_true k1
          refine ⟨_, _, rfl, rfl, _, rfl, ite2 (fun k2 => ?_) (fun k2 => ?_)⟩
          · have h2 : ¬ (z.length : Int) ≤ 8 := by simpa using k2
            rw [no (by omega)] at q
            exact q _ (Same.refl _)
          · have h2 : (z.length : Int) ≤ 8 := by simpa using k2
            have en : isNameD (.str z) = (!(barred.contains z) && z.cps.toList.all lowC) := by
              show nameOk z = _
              unfold nameOk
              rw [decide_eq_true (show 1 ≤ z.length by omega), decide_eq_true (show z.length ≤ 8 by omega)]
              rfl
            rw [en] at q
            refine ⟨_, rfl, aB, _, rfl, .inr (hBs _), rfl, flat_strs _, _, rfl, ?_⟩
            show if (!inV (V.str z) (barred.map V.str)) = true then _ else _
            rw [in_strs]
            cases hb : barred.contains z with
            | true =>
              rw [hb] at q
              refine iteF ?_
              exact q _ (Same.refl _)
            | false =>
              rw [hb] at q
              refine iteT ?_
              refine ⟨_, rfl, z, rfl, fun D hD => lc_it walk_str (fun i H1 => Same H H1 ∧ H1 D = some (.lst (((z.cps.toList.take i).map lowC).map V.bl))) ⟨same_upd hD, upd_same⟩ (fun _ _ _ _ => trivial) ?_ ?_⟩
              · rintro i x H1 H2 hi ⟨sm, hl⟩ ⟨rfl, c, hc, rfl⟩
                have hc' : z.cps.toList[i]? = some c := by rw [Array.getElem?_toList]; exact hc
                have ht : ((z.cps.toList.take i).map lowC).map V.bl ++ [V.bl (lowC c)] = ((z.cps.toList.take (i + 1)).map lowC).map V.bl := by
                  rw [List.take_add_one, hc', List.map_append, List.map_append]
                  rfl
                have nx : Same H (upd H2 D (.lst (((z.cps.toList.take (i + 1)).map lowC).map V.bl))) := fun b o e => by
                  rw [upd_ne (ne_of_none e hD)]
                  exact sm _ _ e
                have hsz : (((z.cps.toList.take i).map lowC).map V.bl).length < sizeLine := by
                  rw [List.length_map, List.length_map, List.length_take]
                  exact small1000 (by omega)
                have ea : (!decide ((⟨#[c]⟩ : Str).cps.toList < (("a" : Str)).cps.toList)) = decide (97 ≤ c) := by
                  show (!decide ((⟨#[c]⟩ : Str).cps.toList < (⟨#[97]⟩ : Str).cps.toList)) = _
                  rw [one_lt, ← decide_not]
                  exact decide_eq_decide.mpr (by omega)
                have ez : (!decide ((("z" : Str)).cps.toList < (⟨#[c]⟩ : Str).cps.toList)) = decide (c ≤ 122) := by
                  show (!decide ((⟨#[122]⟩ : Str).cps.toList < (⟨#[c]⟩ : Str).cps.toList)) = _
                  rw [one_lt, ← decide_not]
                  exact decide_eq_decide.mpr (by omega)
                refine ⟨rfl, ?_⟩
                unfold tYes
                refine iteT ?_
                refine ⟨_, rfl, _, _, rfl, rfl, _, rfl, ?_⟩
                rw [ea]
                refine ite2 (fun k => ?_) (fun k => ?_)
                · refine ⟨_, _, rfl, rfl, ?_⟩
                  rw [ez]
                  have el : lowC c = decide (c ≤ 122) := by
                    unfold lowC
                    rw [k]
                    rfl
                  refine ⟨_, hl, hsz, ?_⟩
                  rw [← el, ht]
                  exact ⟨nx, upd_same⟩
                · have el : lowC c = false := by
                    unfold lowC
                    rw [eq_false_of_ne_true k]
                    rfl
                  refine ⟨_, hl, hsz, ?_⟩
                  rw [← el, ht]
                  exact ⟨nx, upd_same⟩
              · rintro H1 ⟨sm, hl⟩
                refine ⟨D, _, rfl, .inl (.inl hl), ?_⟩
                rw [List.take_of_length_le (Nat.le_of_eq (Array.length_toList)), List.all_map]
                exact q _ sm
        · have h1 : ¬ (1 : Int) ≤ (z.length : Int) := by simpa using k1
          refine ⟨_, rfl, iteT ?_⟩
          rw [no (by omega)] at q
          exact q _ (Same.refl _)
      | _ => cases hstr
    · have e : isStrD d = false := by simpa using hstr
      rw [e]
      refine iteT ?_
      refine iteT ?_
      have en : isNameD d = false := by cases d <;> first | rfl | exact absurd rfl hstr
      rw [en] at q
      exact q _ (Same.refl _)
end
end Dr
namespace Dr
open PySem PySem.Spec PyProof.Rows L2
def isClsD : PyData → Bool
  | .str z => z == "cls"
  | _ => false
theorem eqv_cls : ∀ d : PyData, PyData.eqv d (.str "cls") = isClsD d
  | .none => rfl | .bool _ => rfl | .int _ => rfl | .str _ => rfl | .list _ => rfl | .tuple _ => rfl | .dict _ => rfl
theorem walk_zipT {K : PySem.W.Frag} {a b : Addr} {xs ys : List V} {n : Nat} (hn : n = min xs.length ys.length) : Walk (RZ.ItzT K a b) n (fun H => SqT K H a xs ∧ SqT K H b ys) (YPair (fun i => xs[i]?) (fun i => ys[i]?)) := by
  subst hn
  refine ⟨fun i _ hi q => ?_, fun _ q => ⟨xs, ys, q.1, q.2, by omega⟩, fun i H v H' _ q y => ?_⟩
  · have h1 : i < xs.length := by omega
    have h2 : i < ys.length := by omega
    exact ⟨xs, ys, xs[i], ys[i], q.1, q.2, by simp [h1], by simp [h2]⟩
  · obtain ⟨T, x, z, h1, h2, h3, h4, h5⟩ := y
    exact ⟨T, x, z, h1, h2, h3, h4 xs q.1, h5 ys q.2⟩
/-- neighbours in order -/
def pairsLt (zs : List Str) : List Bool := (zs.zip (zs.drop 1)).map fun p => ltS p.1 p.2
theorem pairs_all : ∀ zs : List Str, (pairsLt zs).all id = ascS zs
  | [] => rfl
  | [_] => rfl
  | a :: b :: r => by
    show (ltS a b && (pairsLt (b :: r)).all id) = (ltS a b && ascS (b :: r))
    rw [pairs_all (b :: r)]
theorem cutT1 (xs : List V) : cutV xs (some 1) none = xs.drop 1 := by
  unfold cutV
  rw [show HT.sIx xs.length 0 (some 1) = min 1 xs.length from HT.sIx_nat xs.length 0 1, HT.sIx_none]
  cases xs with
  | nil => rfl
  | cons x r =>
    rw [show min 1 (x :: r).length = 1 by
      rw [List.length_cons]
      omega]
    show (List.take ((x :: r).length - 1) r) = r
    rw [List.length_cons, Nat.add_sub_cancel]
    exact List.take_length
/-- t[1:] of a tuple -/
theorem tail_of {K : PySem.W.Frag} {H : Hp} {a : Addr} {xs : List V} {Q : VK} (h : SqT K H a xs) (q : ∀ b H', Same H H' → SqT K H' b (xs.drop 1) → Q (.ref b) H') : rSlA K (.ref a) (some 1) none H Q := by
  refine ⟨a, xs, rfl, h, fun e => ?_, fun _ p np => q p _ (same_upd np) (.inl (.inl (by rw [upd_same, cutT1])))⟩
  have e1 : min 1 xs.length = 0 := by
    rw [show HT.sIx xs.length 0 (some 1) = min 1 xs.length from HT.sIx_nat xs.length 0 1] at e
    exact e.1
  have e2 : xs = [] := List.eq_nil_of_length_eq_zero (by omega)
  subst e2
  exact q a H (Same.refl _) h
/-- t[1:], by what it gives -/
def rTail (K : PySem.W.Frag) : V → Option Int → Option Int → Hp → VK → Prop := fun x lo hi H Q => lo = some 1 ∧ hi = none ∧ ∃ a xs, x = .ref a ∧ SqT K H a xs ∧ ∀ b H', Same H H' → SqT K H' b (xs.drop 1) → Q (.ref b) H'
theorem sl_tail {X : Cx} : SlR X (rTail X.K) := fun pins s σ H x v vl vu lo hi sl Q I rx hs pl pu h => by
  obtain ⟨rfl, rfl, a, xs, rfl, hx, q⟩ := h
  exact sl_tupA pins s σ H _ v vl vu _ _ sl Q I rx hs pl pu (tail_of hx q)
theorem strs_of_all : ∀ {ds : List PyData}, ds.all isNameD = true → ∃ zs : List Str, ds = zs.map PyData.str
  | [], _ => ⟨[], rfl⟩
  | .str z :: r, h => by
    have h' : isNameD (.str z) = true ∧ r.all isNameD = true := by simpa using h
    obtain ⟨zs, e⟩ := strs_of_all h'.2
    exact ⟨z :: zs, by rw [e]; rfl⟩
  | .none :: _, h => by simp [isNameD] at h
  | .bool _ :: _, h => by simp [isNameD] at h
  | .int _ :: _, h => by simp [isNameD] at h
  | .list _ :: _, h => by simp [isNameD] at h
  | .tuple _ :: _, h => by simp [isNameD] at h
  | .dict _ :: _, h => by simp [isNameD] at h
theorem strsOf_map : ∀ zs : List Str, strsOf (zs.map PyData.str) = some zs
  | [] => rfl
  | z :: r => by
    show (strsOf (r.map PyData.str)).map (z :: ·) = _
    rw [strsOf_map r]
    rfl
theorem vals_strs {K : PySem.W.Frag} {H : Hp} : ∀ {zs : List Str} {vs : List V}, DpAll K H vs (zs.map PyData.str) → vs = zs.map V.str
  | [], _, .nil => rfl
  | z :: r, _, .cons h hs => by
    cases h
    rw [vals_strs hs]
    rfl
theorem acc_next {f : PyData → Bool} {ds : List PyData} {i : Nat} {d : PyData} (h : ds[i]? = some d) : ((ds.take i).map f).map V.bl ++ [V.bl (f d)] = ((ds.take (i + 1)).map f).map V.bl := by
  rw [List.take_add_one, h, List.map_append, List.map_append]
  rfl
section
variable {P : Program} {w : World} {K : PySem.W.Frag} {mg : Str → Option Value} {base : Heap}
theorem ok_owner {f fN : Addr} {fd fdN : FuncData} (F : Fun K "is_owner" "is_owner" sIsOwner f fd) (GN : FnOk P w K mg base CX0 1 fN fdN ["thing"] (spAsk K isNameD)) (mN : mg "is_name" = some (.ref fN)) (kN : PySem.W.keepIn K (.ref fN) = true) (bN : Binds K fdN ["thing"] []) :
    FnOk P w K mg base CX0 2 f fd ["thing"] (spAsk K isOwnerD) := by
  refine F.ok scIsOwner (fun vs H Q E h => ?_) (fun cdv A outer s H vs Q E hr h => ?_)
  · obtain ⟨v, d, rfl, _⟩ := h
    rfl
  · obtain ⟨v, d, rfl, hd, hok, q⟩ := h
    have hu : (A.deeper (envOfC "is_owner" (defScope sIsOwner) s.heap.objs.size f cdv)).units + 64 < cLine := hr.units
    refine ⟨_, pss_one (ps_ret (pe_or (pe_cmpR (op_eqD hu) (pv 0) pe_str (nomark _)) (pe_one (pe_call GN hr (by rfl) mN kN bN .nil pass0 (pa_cons (pv 0) pa_nil))))), ?_⟩
    refine ⟨v, rfl, d, .str "cls", hd, .str _, hok.sh, (by decide +kernel), _, rfl, ?_⟩
    rw [eqv_cls]
    have hq : ∀ b : Bool, isClsD d = b → isOwnerD d = (b || isNameD d) := fun b e => by
      subst e
      cases d <;> rfl
    refine ite2 (fun k => ?_) (fun k => ?_)
    · rw [hq _ k] at q
      exact q _ (Same.refl _)
    · rw [hq _ (eq_false_of_ne_true k)] at q
      exact ⟨v, rfl, v, d, rfl, hd, hok, q⟩
def spAsc (K : PySem.W.Frag) : Sp := fun vs H Q _ => ∃ (a : Addr) (zs : List Str), vs = [.ref a] ∧ SqT K H a (zs.map V.str) ∧ zs.length ≤ 1000 ∧ ∀ H', Same H H' → Q (.bl (ascS zs)) H'
theorem ok_asc {f : Addr} {fd : FuncData} (F : Fun K "is_ascending" "is_ascending" sIsAsc f fd) (T : Wds K mg) : FnOk P w K mg base CX0 1 f fd ["words"] (spAsc K) := by
  refine F.ok scIsAsc (fun vs H Q E h => ?_) (fun cdv A outer s H vs Q E hr h => ?_)
  · obtain ⟨a, zs, rfl, _⟩ := h
    rfl
  · obtain ⟨a, zs, rfl, hS, hlen, q⟩ := h
    refine ⟨_, pss_one (ps_ret (pe_callB (cr_all rfl) (by rfl) T.all (by decide +kernel) (pa_cons
          (pe_lc (own := [("low", 1), ("high", 2)]) (g := gTup K 2 (gCons (gName 1) (gCons (gName 2) gNil))) (tt := tYes) rfl scIsAsc.nd (RZ.pi_zipA (by rfl) T.zip (pa_cons (pv 0) (pa_cons (pe_slice sl_tail (pv 0) (po_some pe_int) po_none) pa_nil)))
            (blkOk_by (N := ["words", "low", "high"]) (sc := defScope sIsAsc) (by decide +kernel)) (fun _ _ _ _ _ => pg_tup rfl (pgs_cons (pg_name (i := 1) scIsAsc.nd rfl (Or.inl rfl)) (pgs_cons (pg_name (i := 2) scIsAsc.nd rfl (Or.inl rfl)) pgs_nil))) (fun _ _ _ _ _ => pts_nil)
            (fun _ _ _ _ _ => pe_cmpR op_lt_str (pv 1) (pv 2) (nomark _))) pa_nil))), ?_⟩
    refine ⟨_, rfl, _, rfl, 1, rfl, rfl, rfl, a, _, rfl, hS, fun b H1 s1 hb => ?_⟩
    rw [← List.map_drop] at hb
    refine ⟨a, b, zs.map V.str, (zs.drop 1).map V.str, rfl, .inr ⟨Same.seqT s1 hS, hb, fun D hD => ?_⟩⟩
    have hz : (zs.zip (zs.drop 1)).length = zs.length - 1 := by
      rw [List.length_zip, List.length_drop]
      omega
    refine lc_it (walk_zipT (n := (zs.zip (zs.drop 1)).length) (by rw [List.length_map, List.length_map, List.length_zip])) (fun i H2 => Same H1 H2 ∧ H2 D = some (.lst (((pairsLt zs).take i).map V.bl))) ⟨same_upd hD, upd_same⟩ (fun _ _ _ h => ⟨Same.seqT (s1.trans h.1) hS, Same.seqT h.1 hb⟩) ?_ ?_
    · rintro i v H2 H3 hi ⟨sm, hl⟩ ⟨T', x, y, rfl, nT, rfl, e1, e2⟩
      have hi1 : i < zs.length := by omega
      have hi2 : i < (zs.drop 1).length := by rw [List.length_drop]; omega
      have e1 := (show (zs.map V.str)[i]? = some x from e1)
      have e2 := (show ((zs.drop 1).map V.str)[i]? = some y from e2)
      rw [List.getElem?_map, List.getElem?_eq_getElem hi1] at e1
      rw [List.getElem?_map, List.getElem?_eq_getElem hi2] at e2
      obtain rfl := Option.some.inj e1
      obtain rfl := Option.some.inj e2
      have nD : D ≠ T' := ne_of_none hl nT
      have hg : (pairsLt zs)[i]? = some (ltS zs[i] (zs.drop 1)[i]) := by
        unfold pairsLt
        rw [List.getElem?_map, List.getElem?_eq_getElem hi, List.getElem_zip]
        rfl
      refine ⟨T', _, rfl, .inl (.inl upd_same), rfl, _, _, rfl, _, _, rfl, rfl, rfl, ?_⟩
      unfold tYes
      refine iteT ?_
      refine ⟨_, rfl, _, rfl, _, _, rfl, rfl, _, (by rw [upd_ne nD]; exact hl), ?_, fun c o e => ?_, ?_⟩
      · rw [List.length_map, List.length_take]
        exact small1000 (by omega)
      · rw [upd_ne (ne_of_none e hD), upd_ne (ne_of_none (sm _ _ e) nT)]
        exact sm _ _ e
      · rw [upd_same, List.take_add_one, hg, List.map_append]
        rfl
    · rintro H2 ⟨sm, hl⟩
      refine ⟨D, _, rfl, .inl (.inl hl), ?_⟩
      rw [List.take_of_length_le (by unfold pairsLt; rw [List.length_map]; exact Nat.le_refl _), pairs_all]
      exact q _ (s1.trans sm)
theorem ok_items {f fN fA : Addr} {fd fdN fdA : FuncData} (F : Fun K "is_items" "is_items" sIsItems f fd) (T : Wds K mg) (GN : FnOk P w K mg base CX0 1 fN fdN ["thing"] (spAsk K isNameD)) (mN : mg "is_name" = some (.ref fN)) (kN : PySem.W.keepIn K (.ref fN) = true) (bN : Binds K fdN ["thing"] [])
    (GA : FnOk P w K mg base CX0 1 fA fdA ["words"] (spAsc K)) (mA : mg "is_ascending" = some (.ref fA)) (kA : PySem.W.keepIn K (.ref fA) = true) (bA : Binds K fdA ["words"] []) :
    FnOk P w K mg base CX0 2 f fd ["thing"] (spAsk K isItemsD) := by
  refine F.ok scIsItems (fun vs H Q E h => ?_) (fun cdv A outer s H vs Q E hr h => ?_)
  · obtain ⟨v, d, rfl, _⟩ := h
    rfl
  · obtain ⟨v, d, rfl, hd, hok, q⟩ := h
    refine ⟨_, pss_one (ps_ret (pe_and (pe_callB call_isi (by rfl) T.isi (by decide +kernel) (pa_cons (pv 0) (pa_cons (pe_bltn (v := .ty "tuple") (by rfl) T.tup (by decide +kernel) rfl) pa_nil)))
      (pe_and (pe_callB (cr_all rfl) (by rfl) T.all (by decide +kernel) (pa_cons
          (pe_lc (own := [("part", 1)]) (g := gName 1) (tt := tYes) rfl scIsItems.nd (pi_tup (pv 0)) (blkOk_by (N := ["thing", "part"]) (sc := defScope sIsItems) (by decide +kernel)) (fun _ _ _ _ _ => pg_name (i := 1) scIsItems.nd rfl (Or.inl rfl)) (fun _ _ _ _ _ => pts_nil)
            (fun _ _ _ _ _ => pe_call GN hr (by rfl) mN kN bN .nil pass0 (pa_cons (pv 1) pa_nil))) pa_nil))
        (pe_one (pe_call GA hr (by rfl) mA kA bA .nil pass0 (pa_cons (pv 0) pa_nil)))))), ?_⟩
    refine ⟨v, rfl, v, .ty "tuple", _, _, _, rfl, .ty _, dp_ty hd, kit_tup d, _, rfl, ?_⟩
    by_cases ht : isTupD d = true
    · cases d with
      | tuple ds =>
        cases hd with
        | @tup a xs _ hS hall =>
          obtain ⟨hlen, hoks⟩ := hok.tup
          have hxl := dpAll_len hall
          refine iteT ?_
          refine ⟨_, rfl, a, rfl, ⟨_, hS⟩, fun D hD => lc_it walk_tup (fun i H1 => Same H H1 ∧ H1 D = some (.lst (((ds.take i).map isNameD).map V.bl))) ⟨same_upd hD, upd_same⟩ (fun _ _ _ h => Same.seqT h.1 hS) ?_ ?_⟩
          · rintro i x H1 H2 hi ⟨sm, hl⟩ ⟨rfl, hx⟩
            obtain ⟨d', hd', hdp⟩ := dpAll_get hall hx
            refine ⟨rfl, ?_⟩
            unfold tYes
            refine iteT ?_
            refine ⟨_, rfl, _, d', rfl, dp_same sm hdp, hoks d' (List.mem_of_getElem? hd'), fun H3 s3 => ?_⟩
            refine ⟨_, s3 _ _ hl, ?_, ?_⟩
            · rw [List.length_map, List.length_map, List.length_take]
              exact small1000 (by omega)
            · rw [acc_next hd']
              refine ⟨fun c o e => ?_, upd_same⟩
              rw [upd_ne (ne_of_none e hD)]
              exact s3 _ _ (sm _ _ e)
          · rintro H1 ⟨sm, hl⟩
            refine ⟨D, _, rfl, .inl (.inl hl), _, rfl, ?_⟩
            rw [hxl, List.take_of_length_le (Nat.le_refl _), List.all_map]
            show if ds.all isNameD = true then _ else _
            refine ite2 (fun hn => ?_) (fun hn => ?_)
            · obtain ⟨zs, rfl⟩ := strs_of_all hn
              have e := vals_strs hall
              subst e
              have ed : isItemsD (.tuple (zs.map PyData.str)) = ascS zs := by
                show ((zs.map PyData.str).all isNameD && (match strsOf (zs.map PyData.str) with | some zs => ascS zs | none => false)) = _
                rw [hn, strsOf_map]
                rfl
              rw [ed] at q
              rw [List.length_map] at hlen
              exact ⟨_, rfl, a, zs, rfl, Same.seqT sm hS, hlen, fun H2 s2 => q _ (sm.trans s2)⟩
            · have ed : isItemsD (.tuple ds) = false := by
                show (ds.all isNameD && _) = false
                rw [eq_false_of_ne_true hn]
                rfl
              rw [ed] at q
              exact q _ sm
      | _ => cases ht
    · have e : isTupD d = false := eq_false_of_ne_true ht
      rw [e]
      refine iteF ?_
      have en : isItemsD d = false := by cases d <;> first | rfl | exact absurd rfl ht
      rw [en] at q
      exact q _ (Same.refl _)
end
end Dr
namespace Dr
open PySem PySem.Spec PyProof.Rows L2
abbrev sFormOf : Stmt := topS 23
abbrev sIsSort : Stmt := topS 24
abbrev sHasForm : Stmt := topS 25
theorem scFormOf : FnScope ["thing", "forms", "form"] ["thing", "forms"] (defScope sFormOf) := ⟨rfl, rfl, rfl, by decide +kernel, rfl, by decide +kernel, by decide +kernel⟩
theorem scIsSort : FnScope ["part", "sort"] ["part", "sort"] (defScope sIsSort) := ⟨rfl, rfl, rfl, by decide +kernel, rfl, by decide +kernel, by decide +kernel⟩
theorem scHasForm : FnScope ["thing", "forms", "form", "part", "sort"] ["thing", "forms"] (defScope sHasForm) := ⟨rfl, rfl, rfl, by decide +kernel, rfl, by decide +kernel, by decide +kernel⟩
abbrev Form := List Str
def fits (d : PyData) (f : Form) : Bool := match d, f with
  | .tuple (x :: r), w :: q => (r.length == q.length) && PyData.eqv x (.str w)
  | _, _ => false
def formOf (d : PyData) (fs : List Form) : Option Form := fs.find? (fits d)
def sorted2 (S : PyData → Str → Bool) : List PyData → List Str → List Bool
  | d :: r, z :: q => S d z :: sorted2 S r q
  | _, _ => []
def tailD : PyData → List PyData
  | .tuple ds => ds.drop 1
  | _ => []
def hasForm (S : PyData → Str → Bool) (d : PyData) (fs : List Form) : Bool := match formOf d fs with
  | none => false
  | some f => (sorted2 S (tailD d) (f.drop 1)).all id
/-- a tuple of forms of the written part -/
def FmAt (K : PySem.W.Frag) (b : Addr) (f : Form) : Prop := ∀ H, SqT K H b (f.map V.str)
structure Fms (K : PySem.W.Frag) (a : Addr) (fs : List Form) : Prop where
  ex : ∃ as : List Addr, (∀ H, SqT K H a (as.map V.ref)) ∧ Paired (FmAt K) as fs
theorem paired_get {α β : Type} {R : α → β → Prop} : ∀ {xs : List α} {ys : List β} {i : Nat} {x : α}, Paired R xs ys → xs[i]? = some x → ∃ y, ys[i]? = some y ∧ R x y
  | _, _, i, x, .nil, h => by simp at h
  | _, _, 0, x, .cons r _, h => ⟨_, rfl, by
    have q := Option.some.inj h
    subst q
    exact r⟩
  | _, _, i + 1, x, .cons _ rs, h => paired_get (i := i) rs h
theorem fits_not {d : PyData} {f : Form} (h : isTupD d = false) : fits d f = false := by
  cases d <;> first | rfl | cases h
theorem formOf_not {d : PyData} {fs : List Form} (h : isTupD d = false) : formOf d fs = none := by
  unfold formOf
  rw [List.find?_eq_none]
  intro f _
  rw [fits_not h]
  exact Bool.false_ne_true
theorem formOf_next {d : PyData} {fs : List Form} {i : Nat} {f : Form} (h : fs[i]? = some f) (n : formOf d (fs.take i) = none) : (fits d f = true → formOf d fs = some f) ∧ (fits d f = false → formOf d (fs.take (i + 1)) = none) := by
  unfold formOf at n ⊢
  refine ⟨fun e => ?_, fun e => ?_⟩
  · have hs : fs = fs.take i ++ (f :: fs.drop (i + 1)) := by
      obtain ⟨hi, rfl⟩ := List.getElem?_eq_some_iff.mp h
      rw [← List.drop_eq_getElem_cons hi, List.take_append_drop]
    rw [hs, List.find?_append, n, List.find?_cons, e]
    rfl
  · rw [List.take_add_one, h, List.find?_append, n, Option.none_or]
    show List.find? (fits d) [f] = none
    rw [List.find?_cons, e]
    rfl
section
variable {P : Program} {w : World} {K : PySem.W.Frag} {mg : Str → Option Value} {base : Heap}
def spFormOf (K : PySem.W.Frag) : Sp := fun vs H Q _ => ∃ (v : V) (d : PyData) (a : Addr) (fs : List Form), vs = [v, .ref a] ∧ Dp K H v d ∧ OkD d ∧ Fms K a fs ∧ (∀ f ∈ fs, 1 ≤ f.length ∧ ∀ z ∈ f, SeqAt.shaped (.str z) = true) ∧ (formOf d fs = none → Q .non H) ∧ ∀ f b, f ∈ fs → formOf d fs = some f → FmAt K b f → Q (.ref b) H
theorem ok_formOf {f : Addr} {fd : FuncData} (F : Fun K "form_of" "form_of" sFormOf f fd) (T : Wds K mg) : FnOk P w K mg base CX0 1 f fd ["thing", "forms"] (spFormOf K) := by
  refine F.ok scFormOf (fun vs H Q E h => ?_) (fun cdv A outer s H vs Q E hr h => ?_)
  · obtain ⟨v, d, a, fs, rfl, _⟩ := h
    rfl
  · obtain ⟨v, d, a, fs, rfl, hd, hok, hF, h1, q0, q1⟩ := h
    have hu : (A.deeper (envOfC "form_of" (defScope sFormOf) s.heap.objs.size f cdv)).units + 64 < cLine := hr.units
    refine ⟨_, pss_cons (ps_if (pt_not (pt_val (pe_callB call_isi (by rfl) T.isi (by decide +kernel) (pa_cons (pv 0) (pa_cons (pe_bltn (v := .ty "tuple") (by rfl) T.tup (by decide +kernel) rfl) pa_nil))))) (pss_one (ps_ret pe_non)) pss_nil)
      (pss_cons (ps_for PassesOwn.never rfl (pi_tup (pv 1)) (pg_name (i := 2) scFormOf.nd rfl (.inl rfl))
        (pss_one (ps_if (PW.pt (pw_and (pt_cmpR op_eq (pe_callB call_len_seq (by rfl) T.len PySem.boot_len (pa_cons (pv 0) pa_nil)) (pe_callB call_len_seq (by rfl) T.len PySem.boot_len (pa_cons (pv 2) pa_nil)) (nomark _))
            (pw_and1 (pt_cmpR (op_eqD hu) (pe_ix ix_tup (pv 0) pe_int (fun _ _ => rfl)) (pe_ix ix_tup (pv 2) pe_int (fun _ _ => rfl)) (nomark _)))))
          (pss_one (ps_ret (pv 2))) pss_nil)))
      (pss_one (ps_ret pe_non))), ?_⟩
    refine ⟨v, rfl, v, .ty "tuple", _, _, _, rfl, .ty _, dp_ty hd, kit_tup d, _, rfl, ?_⟩
    by_cases ht : isTupD d = true
    · rw [ht]
      refine iteF ?_
      obtain ⟨as, hS, hP⟩ := hF.ex
      refine ⟨_, rfl, a, rfl, ⟨_, hS _⟩, for_it walk_tup (fun i σ H' => H' = H ∧ (∃ y, σ = [some v, some (.ref a), y]) ∧ formOf d (fs.take i) = none) ⟨rfl, ⟨_, rfl⟩, rfl⟩ (fun _ _ _ _ _ => hS _) ?_ ?_⟩
      · rintro i x σ H1 H2 hi ⟨rfl, ⟨y, rfl⟩, hn⟩ ⟨rfl, hx⟩
        rw [List.getElem?_map] at hx
        cases hb : as[i]? with
        | none =>
          rw [hb] at hx
          cases hx
        | some b =>
          rw [hb] at hx
          obtain rfl := Option.some.inj hx
          obtain ⟨fm, hfm, hat⟩ := paired_get hP hb
          have hmem : fm ∈ fs := List.mem_of_getElem? hfm
          obtain ⟨hl1, hsh1⟩ := h1 fm hmem
          have hnx := formOf_next hfm hn
          cases d with
          | tuple ds =>
            cases hd with
            | @tup va xs _ hSd hall =>
              have hxl := dpAll_len hall
              refine ⟨_, rfl, va, _, rfl, .inr hSd, _, rfl, b, _, rfl, .inr (hat _), rfl, _, rfl, ?_⟩
              refine ite2 (fun k => ?_) (fun k => ?_)
              · have e1 : (xs.length : Int) = ((fm.map V.str).length : Int) := V.int.inj (of_decide_eq_true k)
                rw [List.length_map] at e1
                cases fm with
                | nil => exact absurd hl1 (by decide)
                | cons z zs =>
                  rw [List.length_cons] at e1
                  cases hall with
                  | nil =>
                    rw [List.length_nil] at e1
                    omega
                  | @cons x0 xr d0 dr hp0 hpr =>
                    have hok0 : OkD d0 := (hok.tup).2 d0 (List.mem_cons_self ..)
                    have el : (dr.length == zs.length) = true := by
                      rw [beq_iff_eq]
                      have := dpAll_len hpr
                      rw [List.length_cons] at e1
                      omega
                    refine ⟨_, rfl, va, _, 0, x0, rfl, rfl, hSd, atI_nat (j := 0) rfl, _, rfl, b, _, 0, .str z, rfl, rfl, hat _, atI_nat (j := 0) rfl, d0, .str z, hp0, .str z, hok0.sh, ?_, _, rfl, ?_⟩
                    · exact hsh1 z (List.mem_cons_self ..)
                    · have ef : fits (.tuple (d0 :: dr)) (z :: zs) = PyData.eqv d0 (.str z) := by
                        show ((dr.length == zs.length) && PyData.eqv d0 (.str z)) = _
                        rw [el]
                        rfl
                      refine ite2 (fun k => ?_) (fun k => ?_)
                      · exact ⟨_, rfl, q1 _ b hmem (hnx.1 (ef.trans k)) hat⟩
                      · exact ⟨rfl, ⟨_, rfl⟩, hnx.2 (ef.trans (eq_false_of_ne_true k))⟩
              · refine ⟨rfl, ⟨_, rfl⟩, hnx.2 ?_⟩
                have e1 : ¬ (xs.length : Int) = ((fm.map V.str).length : Int) := fun e => k (decide_eq_true (by rw [e]))
                rw [List.length_map] at e1
                cases fm with
                | nil => exact absurd hl1 (by decide)
                | cons z zs =>
                  cases ds with
                  | nil => rfl
                  | cons d0 dr =>
                    show ((dr.length == zs.length) && PyData.eqv d0 (.str z)) = false
                    rw [List.length_cons] at e1 hxl
                    rw [show (dr.length == zs.length) = false from beq_eq_false_iff_ne.mpr (by omega)]
                    rfl
          | _ => cases ht
      · rintro σ H1 ⟨rfl, ⟨y, rfl⟩, hn⟩
        have hl : fs.length = (as.map V.ref).length := by
          rw [List.length_map, hP.length]
        rw [← hl, List.take_length] at hn
        exact q0 hn
    · rw [eq_false_of_ne_true ht]
      exact iteT (q0 (formOf_not (eq_false_of_ne_true ht)))
/-- a question about a part and its sort, for sorts that ok allows -/
def spSort (K : PySem.W.Frag) (S : PyData → Str → Bool) (ok : Str → Prop) : Sp := fun vs H Q _ => ∃ (v : V) (d : PyData) (z : Str), vs = [v, .str z] ∧ Dp K H v d ∧ OkD d ∧ ok z ∧ ∀ H', Same H H' → Q (.bl (S d z)) H'
structure FmOk (ok : Str → Prop) (fs : List Form) : Prop where
  len : ∀ f ∈ fs, 1 ≤ f.length ∧ ∀ z ∈ f, SeqAt.shaped (.str z) = true
  tl : ∀ f ∈ fs, ∀ z ∈ f.drop 1, ok z
structure FmOkD (ok : Str → Prop) (d : PyData) (fs : List Form) : Prop where
  len : ∀ f ∈ fs, 1 ≤ f.length ∧ ∀ z ∈ f, SeqAt.shaped (.str z) = true
  tl : ∀ f, formOf d fs = some f → ∀ z ∈ f.drop 1, ok z
theorem FmOk.toD {ok : Str → Prop} {d : PyData} {fs : List Form} (h : FmOk ok fs) : FmOkD ok d fs := ⟨h.len, fun f e => h.tl f (List.mem_of_find?_eq_some e)⟩
def spHas (K : PySem.W.Frag) (S : PyData → Str → Bool) (ok : Str → Prop) : Sp := fun vs H Q _ => ∃ (v : V) (d : PyData) (a : Addr) (fs : List Form), vs = [v, .ref a] ∧ Dp K H v d ∧ OkD d ∧ Fms K a fs ∧ FmOkD ok d fs ∧ ∀ H', Same H H' → Q (.bl (hasForm S d fs)) H'
theorem sorted2_len {S : PyData → Str → Bool} : ∀ (ds : List PyData) (zs : List Str), (sorted2 S ds zs).length = min ds.length zs.length
  | [], _ => by simp [sorted2]
  | _ :: _, [] => by simp [sorted2]
  | _ :: r, _ :: q => by
    show (sorted2 S r q).length + 1 = _
    rw [sorted2_len r q, List.length_cons, List.length_cons]
    omega
theorem sorted2_get {S : PyData → Str → Bool} : ∀ {ds : List PyData} {zs : List Str} {i : Nat} {d : PyData} {z : Str}, ds[i]? = some d → zs[i]? = some z → (sorted2 S ds zs)[i]? = some (S d z)
  | [], _, i, d, z, h, _ => by simp at h
  | _ :: _, [], i, d, z, _, h => by simp at h
  | x :: r, y :: q, 0, d, z, h, h2 => by
    obtain rfl := Option.some.inj h
    obtain rfl := Option.some.inj h2
    rfl
  | x :: r, y :: q, i + 1, d, z, h, h2 => sorted2_get (ds := r) (zs := q) (i := i) h h2
theorem dpAll_drop1 {K : PySem.W.Frag} {H : Hp} {vs : List V} {ds : List PyData} (h : DpAll K H vs ds) : DpAll K H (vs.drop 1) (ds.drop 1) := by
  cases h with
  | nil => exact .nil
  | cons _ hs => exact hs
theorem ok_hasForm {S : PyData → Str → Bool} {ok : Str → Prop} {k : Nat} {f fF fS : Addr} {fd fdF fdS : FuncData} (F : Fun K "has_form" "has_form" sHasForm f fd) (T : Wds K mg)
    (GF : FnOk P w K mg base CX0 1 fF fdF ["thing", "forms"] (spFormOf K)) (mF : mg "form_of" = some (.ref fF)) (kF : PySem.W.keepIn K (.ref fF) = true) (bF : Binds K fdF ["thing", "forms"] [])
    (GS : FnOk P w K mg base CX0 (k + 1) fS fdS ["part", "sort"] (spSort K S ok)) (mS : mg "is_of_sort" = some (.ref fS)) (kS : PySem.W.keepIn K (.ref fS) = true) (bS : Binds K fdS ["part", "sort"] []) :
    FnOk P w K mg base CX0 (k + 2) f fd ["thing", "forms"] (spHas K S ok) := by
  refine F.ok scHasForm (fun vs H Q E h => ?_) (fun cdv A outer s H vs Q E hr h => ?_)
  · obtain ⟨v, d, a, fs, rfl, _⟩ := h
    rfl
  · obtain ⟨v, d, a, fs, rfl, hd, hok, hF, hfs, q⟩ := h
    refine ⟨_, pss_cons (ps_set (i := 2) scHasForm.nd rfl (.inl rfl) (pe_call GF (hr.mono (by omega)) (by rfl) mF kF bF .nil pass0 (pa_cons (pv 0) (pa_cons (pv 1) pa_nil))))
      (pss_cons (ps_if (pt_cmpR op_isN (pv 2) pe_non (nomark _)) (pss_one (ps_ret pe_bl)) pss_nil)
      (pss_one (ps_ret (pe_callB (cr_all rfl) (by rfl) T.all (by decide +kernel) (pa_cons
          (pe_lc (own := [("part", 3), ("sort", 4)]) (g := gTup K 2 (gCons (gName 3) (gCons (gName 4) gNil))) (tt := tYes) rfl scHasForm.nd (RZ.pi_zipA (by rfl) T.zip (pa_cons (pe_slice sl_tail (pv 0) (po_some pe_int) po_none) (pa_cons (pe_slice sl_tail (pv 2) (po_some pe_int) po_none) pa_nil)))
            (blkOk_by (N := ["thing", "forms", "form", "part", "sort"]) (sc := defScope sHasForm) (by decide +kernel)) (fun _ _ _ _ _ => pg_tup rfl (pgs_cons (pg_name (i := 3) scHasForm.nd rfl (Or.inl rfl)) (pgs_cons (pg_name (i := 4) scHasForm.nd rfl (Or.inl rfl)) pgs_nil))) (fun _ _ _ _ _ => pts_nil)
            (fun _ _ _ _ _ => pe_call GS hr (by rfl) mS kS bS .nil pass0 (pa_cons (pv 3) (pa_cons (pv 4) pa_nil)))) pa_nil))))), ?_⟩
    refine ⟨v, rfl, .ref a, rfl, v, d, a, fs, rfl, hd, hok, hF, hfs.len, fun hn => ?_, fun fm b hmem hf hat => ?_⟩
    · refine ⟨_, rfl, rfl, _, rfl, ?_⟩
      refine iteT ?_
      have e : hasForm S d fs = false := by
        unfold hasForm
        rw [hn]
      rw [e] at q
      exact q _ (Same.refl _)
    · refine ⟨_, rfl, rfl, _, rfl, ?_⟩
      refine iteF ?_
      have e : hasForm S d fs = (sorted2 S (tailD d) (fm.drop 1)).all id := by
        unfold hasForm
        rw [hf]
      rw [e] at q
      cases ht : isTupD d with
      | false =>
        rw [formOf_not ht] at hf
        cases hf
      | true =>
        cases d with
        | tuple ds =>
          cases hd with
          | @tup va xs _ hSd hall =>
            obtain ⟨hlen, hoks⟩ := hok.tup
            have hall1 := dpAll_drop1 hall
            have hxl := dpAll_len hall1
            refine ⟨_, rfl, 1, rfl, rfl, rfl, va, xs, rfl, hSd, fun b1 H1 s1 hb1 => ?_⟩
            refine ⟨_, rfl, 1, rfl, rfl, rfl, b, _, rfl, hat _, fun b2 H2 s2 hb2 => ?_⟩
            rw [← List.map_drop] at hb2
            have hb1' := Same.seqT s2 hb1
            have s12 := s1.trans s2
            refine ⟨b1, b2, xs.drop 1, (fm.drop 1).map V.str, rfl, .inr ⟨hb1', hb2, fun D hD => ?_⟩⟩
            have hls := sorted2_len (S := S) (ds.drop 1) (fm.drop 1)
            refine lc_it (walk_zipT (n := (sorted2 S (ds.drop 1) (fm.drop 1)).length) (by rw [hls, List.length_map, hxl])) (fun i H3 => Same H2 H3 ∧ H3 D = some (.lst (((sorted2 S (ds.drop 1) (fm.drop 1)).take i).map V.bl))) ⟨same_upd hD, upd_same⟩ (fun _ _ _ h => ⟨Same.seqT h.1 hb1', Same.seqT h.1 hb2⟩) ?_ ?_
            · rintro i y H3 H4 hi ⟨sm, hl⟩ ⟨T', x, u, rfl, nT, rfl, e1, e2⟩
              have e1 := (show (xs.drop 1)[i]? = some x from e1)
              have e2 := (show ((fm.drop 1).map V.str)[i]? = some u from e2)
              obtain ⟨d', hd', hdp⟩ := dpAll_get hall1 e1
              rw [List.getElem?_map] at e2
              cases hz : (fm.drop 1)[i]? with
              | none =>
                rw [hz] at e2
                cases e2
              | some z =>
                rw [hz] at e2
                obtain rfl := Option.some.inj e2
                have nD : D ≠ T' := ne_of_none hl nT
                have sT : Same H3 (upd H3 T' (.tup [x, .str z])) := same_upd nT
                refine ⟨T', _, rfl, .inl (.inl upd_same), rfl, _, _, rfl, _, _, rfl, rfl, rfl, ?_⟩
                unfold tYes
                refine iteT ?_
                refine ⟨_, rfl, _, rfl, x, d', z, rfl, dp_same (s12.trans (sm.trans sT)) hdp, hoks d' (List.mem_of_mem_drop (List.mem_of_getElem? hd')), hfs.tl fm hf z (List.mem_of_getElem? hz), fun H5 s5 => ?_⟩
                refine ⟨_, s5 _ _ (sT _ _ hl), ?_, fun c o e => ?_, ?_⟩
                · rw [List.length_map, List.length_take]
                  have : (ds.drop 1).length ≤ 1000 := by
                    rw [List.length_drop]
                    omega
                  exact small1000 (by omega)
                · rw [upd_ne (ne_of_none e hD)]
                  exact s5 _ _ (sT _ _ (sm _ _ e))
                · rw [upd_same, List.take_add_one, sorted2_get hd' hz, List.map_append]
                  rfl
            · rintro H3 ⟨sm, hl⟩
              refine ⟨D, _, rfl, .inl (.inl hl), ?_⟩
              rw [List.take_of_length_le (Nat.le_refl _)]
              exact q _ (s12.trans sm)
        | _ => cases ht
end
end Dr
namespace Dr
open PySem PySem.Spec PyProof.Rows L2
def S0 (d : PyData) (z : Str) : Bool := if z = "items" then isItemsD d else if z = "owner" then isOwnerD d else isNameD d
def ok0 (z : Str) : Prop := z ≠ "test" ∧ z ≠ "plain"
def markForms : List Form := [["mark", "item"]]
def boxForms : List Form := [["once", "items"], ["early", "kind", "value"], ["anew", "items"], ["late", "owner", "value"]]
def isDefD (d : PyData) (h : Str) : Bool := if h = "mark" then hasForm S0 d markForms else hasForm S0 d boxForms
instance (z : Str) : Decidable (ok0 z) := by
  unfold ok0
  exact inferInstance
def fmOkB (fs : List Form) : Bool := fs.all fun f => (decide (1 ≤ f.length) && f.all fun z => SeqAt.shaped (.str z)) && (f.drop 1).all fun z => decide (ok0 z)
theorem fmOk_by {fs : List Form} (h : fmOkB fs = true) : FmOk ok0 fs := by
  have q := List.all_eq_true.mp h
  refine ⟨fun f hf => ?_, fun f hf z hz => ?_⟩
  · have := q f hf
    rw [Bool.and_eq_true, Bool.and_eq_true] at this
    exact ⟨of_decide_eq_true this.1.1, fun z hz => List.all_eq_true.mp this.1.2 z hz⟩
  · have := q f hf
    rw [Bool.and_eq_true] at this
    exact of_decide_eq_true (List.all_eq_true.mp this.2 z hz)
theorem mark_ok : FmOk ok0 markForms := fmOk_by (by decide +kernel)
theorem box_ok : FmOk ok0 boxForms := fmOk_by (by decide +kernel)
section
variable {P : Program} {w : World} {K : PySem.W.Frag} {mg : Str → Option Value} {base : Heap}
theorem ok_sort0 {f fI fO fN : Addr} {fd fdI fdO fdN : FuncData} (F : Fun K "is_of_sort" "is_of_sort" sIsSort f fd)
    (GI : FnOk P w K mg base CX0 2 fI fdI ["thing"] (spAsk K isItemsD)) (mI : mg "is_items" = some (.ref fI)) (kI : PySem.W.keepIn K (.ref fI) = true) (bI : Binds K fdI ["thing"] [])
    (GO : FnOk P w K mg base CX0 2 fO fdO ["thing"] (spAsk K isOwnerD)) (mO : mg "is_owner" = some (.ref fO)) (kO : PySem.W.keepIn K (.ref fO) = true) (bO : Binds K fdO ["thing"] [])
    (GN : FnOk P w K mg base CX0 1 fN fdN ["thing"] (spAsk K isNameD)) (mN : mg "is_name" = some (.ref fN)) (kN : PySem.W.keepIn K (.ref fN) = true) (bN : Binds K fdN ["thing"] []) :
    FnOk P w K mg base CX0 3 f fd ["part", "sort"] (spSort K S0 ok0) := by
  refine F.ok scIsSort (fun vs H Q E h => ?_) (fun cdv A outer s H vs Q E hr h => ?_)
  · obtain ⟨v, d, z, rfl, _⟩ := h
    rfl
  · obtain ⟨v, d, z, rfl, hd, hok, ⟨n1, n2⟩, q⟩ := h
    refine ⟨_, pss_cons (ps_if (pt_cmpR op_eq (pv 1) pe_str (nomark _)) (pss_one (ps_ret (pe_call GI hr (by rfl) mI kI bI .nil pass0 (pa_cons (pv 0) pa_nil)))) pss_nil)
      (pss_cons (ps_if (pt_cmpR op_eq (pv 1) pe_str (nomark _)) (pss_one (ps_ret (pe_call GO hr (by rfl) mO kO bO .nil pass0 (pa_cons (pv 0) pa_nil)))) pss_nil)
      (pss_cons (ps_if (pt_cmpR op_eq (pv 1) pe_str (nomark _)) (pss_one ps_never) pss_nil)
      (pss_cons (ps_if (pt_cmpR op_eq (pv 1) pe_str (nomark _)) (pss_one ps_never) pss_nil)
      (pss_one (ps_ret (pe_call GN (hr.mono (by decide)) (by rfl) mN kN bN .nil pass0 (pa_cons (pv 0) pa_nil))))))), ?_⟩
    have inj : ∀ {a b : Str}, decide (V.str a = V.str b) = true → a = b := fun h => V.str.inj (of_decide_eq_true h)
    have ninj : ∀ {a b : Str}, ¬ decide (V.str a = V.str b) = true → a ≠ b := fun h e => h (decide_eq_true (by rw [e]))
    refine ⟨_, rfl, rfl, _, rfl, ite2 (fun k => ?_) (fun k => ?_)⟩
    · have e : S0 d z = isItemsD d := if_pos (inj k)
      rw [e] at q
      exact ⟨v, rfl, v, d, rfl, hd, hok, q⟩
    · have k1 := ninj k
      refine ⟨_, rfl, rfl, _, rfl, ite2 (fun k => ?_) (fun k => ?_)⟩
      · have e : S0 d z = isOwnerD d := by
          unfold S0
          rw [if_neg k1, if_pos (inj k)]
        rw [e] at q
        exact ⟨v, rfl, v, d, rfl, hd, hok, q⟩
      · have k2 := ninj k
        have e : S0 d z = isNameD d := by
          unfold S0
          rw [if_neg k1, if_neg k2]
        rw [e] at q
        refine ⟨_, rfl, rfl, _, rfl, ite2 (fun k => absurd (inj k) n1) (fun _ => ?_)⟩
        refine ⟨_, rfl, rfl, _, rfl, ite2 (fun k => absurd (inj k) n2) (fun _ => ?_)⟩
        exact ⟨v, rfl, v, d, rfl, hd, hok, q⟩
end
end Dr
namespace Dr
open PySem PySem.Spec PyProof.Rows L2
theorem mro_noRef (C : Addr) : ∀ d : PyData, ∃ l, fastBuiltinMro (tyD d) = some l ∧ l.contains (.ref C) = false
  | .none => ⟨[.type "NoneType", .type "object"], by decide +kernel, by simp⟩
  | .bool _ => ⟨[.type "bool", .type "int", .type "object"], by show fastBuiltinMro "bool" = _; decide +kernel, by simp⟩
  | .int _ => ⟨[.type "int", .type "object"], by show fastBuiltinMro "int" = _; decide +kernel, by simp⟩
  | .str _ => ⟨[.type "str", .type "object"], by show fastBuiltinMro "str" = _; decide +kernel, by simp⟩
  | .list _ => ⟨[.type "list", .type "object"], by show fastBuiltinMro "list" = _; decide +kernel, by simp⟩
  | .tuple _ => ⟨[.type "tuple", .type "object"], by show fastBuiltinMro "tuple" = _; decide +kernel, by simp⟩
  | .dict _ => ⟨[.type "dict", .type "object"], by show fastBuiltinMro "dict" = _; decide +kernel, by simp⟩
theorem sub_D {K : PySem.W.Frag} (C : Addr) (d : PyData) : PySem.W.subIn K (.type (tyD d)) (.ref C) = some false := by
  obtain ⟨l, e, n⟩ := mro_noRef C d
  show (fastBuiltinMro (tyD d)).map (·.contains (.ref C)) = some false
  rw [e]
  show some (l.contains (.ref C)) = some false
  rw [n]
section
variable {X : Cx} {pins : List (Addr × Obj)} {σ : L2.St} {H : Hp} {s : Shared}
theorem looks_D {M : Model} (I : Inv X pins σ H s) {y : V} {u : Value} {d : PyData} (r : RelV y u) (h : Dp X.K H y d) : PySem.W.Looks M s.heap (typeOf u) (.type (tyD d)) := by
  cases h with
  | non => cases (show u = Value.none from r); exact .of_pure rfl
  | bl b => cases (show u = Value.bool b from r); exact .of_pure rfl
  | int i => obtain ⟨t, e⟩ := (show ∃ t, u = Value.int i t from r); cases e; exact .of_pure rfl
  | str x => obtain ⟨t, e⟩ := (show ∃ t, u = Value.str x t from r); cases e; exact .of_pure rfl
  | @lst a xs ds hS _ =>
    cases (show u = Value.ref a from r)
    obtain ⟨its, _, ⟨o, n, ho, hc, _⟩, _⟩ := I.list hS
    exact fun A Q E s' k q => wpAny_typeOf_ref (k _ _ ho) (by rw [hc]; exact q)
  | @tup a xs ds hS _ =>
    cases (show u = Value.ref a from r)
    obtain ⟨its, _, ⟨o, ho, hc, _⟩, _⟩ := I.tuple hS
    exact fun A Q E s' k q => wpAny_typeOf_ref (k _ _ ho) (by rw [hc]; exact q)
/-- the other side of a comparison: an instance of the same class, or a datum -/
def Side (K : PySem.W.Frag) (C : Addr) (H : Hp) (y : V) : Prop := (∃ b dy gs, y = .ref b ∧ H b = some (.ins C dy gs)) ∨ ∃ d, Dp K H y d
theorem side_ty {M : Model} {C : Addr} (I : Inv X pins σ H s) {y : V} {u : Value} (r : RelV y u) (h : Side X.K C H y) : ∃ tb, PySem.W.Looks M s.heap (typeOf u) tb ∧ PySem.W.notFirst X.K C tb = true := by
  rcases h with ⟨b, dy, gs, rfl, hb⟩ | ⟨d, hd⟩
  · cases r
    obtain ⟨mB, J', _⟩ := ins_get I.hok hb
    obtain ⟨od', J', _⟩ := J'.look
    exact ⟨_, J'.type, by simp [PySem.W.notFirst]⟩
  · refine ⟨_, looks_D I r hd, ?_⟩
    unfold PySem.W.notFirst
    rw [sub_D]
    simp
variable {CX : CXT} {C g : Addr} {fd : FuncData} {ps : List Str} {n : Nat} {sp : Sp} {E : XK}
/-- a def called from within a builtin -/
theorem run_in {A : Around} {Q : VK} {us : List Value} {vs : List V} (F : FnOk X.prog X.w X.K X.mg X.base CX n g fd ps sp) (hr : Room n A) (e0 : Env0 X.prog X.w X.K X.mg X.base A X.stack s H) (hb : Binds X.K fd ps []) (hx : Passes CX X E)
    (I : Inv X pins σ H s) (r : Vals vs us) (h : sp vs H Q E) : wpAny (model X.prog X.w) A (call (.ref g) us) (EP X pins σ Q) X.xe s := by
  have hl := F.len _ _ _ _ h
  refine wpAny_call (codeAny_mono (F.run A X.stack s H ⟨us, []⟩ us vs Q E hr e0 (by
    have := hb s us I.kIn (by simpa [← r.length] using hl)
    simpa using this) r h) fun r s' hq => ?_)
  cases r with
  | error e => exact hx pins σ H s e s' I hq
  | ok fl =>
    cases fl with
    | ret u => exact I.after hq
    | next => exact False.elim hq
    | brk => exact False.elim hq
    | cont => exact False.elim hq
def rEqI (K : PySem.W.Frag) (C : Addr) (sp : Sp) (E : XK) : R2 := fun x y H Q => ∃ a dx fs, x = .ref a ∧ H a = some (.ins C dx fs) ∧ Side K C H y ∧ sp [x, y] H Q E
theorem op_eqI (hs : PySem.W.findIn X.K (.ref C) "__eq__" = some (some (.ref g))) (hf : PySem.W.isFn X.K (.ref g) = true) (F : FnOk X.prog X.w X.K X.mg X.base CX n g fd ps sp) (hr : Room n X.A) (hb : Binds X.K fd ps []) (hx : Passes CX X E) :
    OpR X (compareOp .Eq) (rEqI X.K C sp E) := by
  intro pins s σ H x y v u Q I rx ry h
  obtain ⟨a, dx, fs, rfl, ha, hy, q⟩ := h
  cases (show v = Value.ref a from rx)
  obtain ⟨mA, J, _⟩ := ins_get I.hok ha
  obtain ⟨od, J, _⟩ := J.look
  obtain ⟨tb, lk, nf⟩ := side_ty (M := model X.prog X.w) I ry hy
  obtain ⟨m, hF⟩ := I.fr
  refine PySem.W.cmp_K (op := .Eq) (tb := tb) hr.units0 hF I.ok.mod.kin J lk nf hs hf ?_
  refine wpAny_mono (run_in (vs := [V.ref a, y]) (us := [Value.ref a, u]) F hr I.env0 hb hx I (.cons (show L2.RelV (V.ref a) (Value.ref a) from rfl) (.cons ry .nil)) q) (fun w s' z => ?_) fun _ _ x => x
  obtain ⟨z', H', I', rz, qz⟩ := z
  exact SlX.cmpback rz ⟨z', H', I', rz, qz⟩
theorem ifBound_blt {M : Model} {A : Around} {E : Value → Shared → Prop} {K : PySem.W.Frag} {x : Addr} {ox : Obj} {od : Option Obj} {args : List Value} {Q : Option Value → Shared → Prop} (X : K.In s.heap) (I : PySem.W.InstAt s.heap x ox C od) (hs : PySem.W.findIn K (.ref C) "__ne__" = some (some (.builtin "object.__ne__")))
    (h : wpAny M A (call (.builtin "object.__ne__") (.ref x :: args)) (fun v => Q (some v)) E s) : wpAny M A (callSpecialIfBound? (.ref x) "__ne__" args) Q E s := by
  simp only [callSpecialIfBound?, bindSpecialIfBound?]
  refine wpAny_holding (wpAny_bind (wpAny_bind (wpAny_bind (I.type.here ((PySem.W.looks_findIn X hs).here ?_)))))
  refine wpAny_bind (wpAny_askSetting (wpAny_ite ?_))
  have fin : wpAny M A (call (.builtin "object.__ne__") ([.ref x] ++ args) >>= fun v => pure (some v)) Q E s := wpAny_bind (wpAny_mono h (fun v s' h' => wpAny_pure h') fun _ _ h' => h')
  split
  · exact wpAny_bind (wpAny_of_eq (PySem.F.cmp_object.ne.bind _) (wpAny_pure (by exact fin)))
  · exact wpAny_tryCatch (wpAny_bind (wpAny_of_eq (PySem.F.cmp_object.ne.bind _) (wpAny_pure (by exact fin))))
theorem entry_ne {prog : Program} {w : World} {A : Around} {E : Value → Shared → Prop} {K : PySem.W.Frag} {x : Addr} {ox : Obj} {od : Option Obj} {b : Value} {Q : Fin → Shared → Prop} (X : K.In s.heap) (I : PySem.W.InstAt s.heap x ox C od) (hs : PySem.W.findIn K (.ref C) "__eq__" = some (some (.ref g))) (hf : PySem.W.isFn K (.ref g) = true) (hu : A.units < cLine)
    (hcall : wpAny (model prog w) A (call (.ref g) [.ref x, b]) (fun v s' => ∃ b, v = .bool b ∧ Q (.done (.ret (.bool (!b)))) s') E s) : wpAny (model prog w) A (Builtin.«object.__ne__» ⟨[.ref x, b], []⟩) Q E s := by
  unfold Builtin.«object.__ne__»
  repeat (first
    | with_reducible refine wpAny_cRoomFor hu ?_
    | (refine wpAny_bind (m := callSpecialIfBound? (.ref x) (Str.ofString "__eq__") [b])
        (PySem.W.ifBound_K X I hs hf (wpAny_mono hcall (fun r s' hr => by
          obtain ⟨b, rfl, hq⟩ := hr
          repeat (first | exact hq | exact wpAny_pure hq | exact wpAny_truthy_bool hq | (refine wpAny_bind (m := truthy (.bool _)) (wpAny_truthy_bool ?_)) | wp_step)) fun _ _ e => e)))
    | wp_step)
/-- !=, by the text's own == -/
def rNeI (K : PySem.W.Frag) (C : Addr) (sp : Sp) (E : XK) : R2 := fun x y H Q => ∃ a dx fs, x = .ref a ∧ H a = some (.ins C dx fs) ∧ Side K C H y ∧ sp [x, y] H (fun v H' => ∃ b, v = .bl b ∧ Q (.bl (!b)) H') E
theorem op_neI (hs : PySem.W.findIn X.K (.ref C) "__eq__" = some (some (.ref g))) (hf : PySem.W.isFn X.K (.ref g) = true) (hn : PySem.W.findIn X.K (.ref C) "__ne__" = some (some (.builtin "object.__ne__"))) (hm : PySem.W.mroIn X.K C (.type "object") = some true)
    (F : FnOk X.prog X.w X.K X.mg X.base CX n g fd ps sp) (hr : Room (n + 1) X.A) (hb : Binds X.K fd ps []) (hx : Passes CX X E) : OpR X (compareOp .NotEq) (rNeI X.K C sp E) := by
  intro pins s σ H x y v u Q I rx ry h
  obtain ⟨a, dx, fs, rfl, ha, hy, q⟩ := h
  cases (show v = Value.ref a from rx)
  obtain ⟨mA, J, _⟩ := ins_get I.hok ha
  obtain ⟨od, J, _⟩ := J.look
  obtain ⟨tb, lk, nf⟩ := side_ty (M := model X.prog X.w) I ry hy
  have hun := hr.un
  have hr1 : Room n X.A.in1 := hr.in1
  have one : wpAny (model X.prog X.w) X.A (tryCompare (.ref a) "__ne__" u) (fun r s' => ∃ v, r = some v ∧ EP X pins σ Q v s') X.xe s := by
    unfold tryCompare
    refine wpAny_bind (ifBound_blt I.kIn J hn ?_)
    refine wpAny_call (codeAny_call_builtin PySem.F.cmp_object.ne.plain PySem.F.cmpEntry_ne (PySem.W.check_slot PySem.F.cmpKind_ne PySem.F.cmpSplit_ne (J.type.andThen (PySem.W.looks_mroIn I.kIn hm)) (PySem.F.cmpArgs_ne _ _) ?_))
    refine entry_ne I.kIn J hs hf (by show X.A.units + 1 < cLine; omega) ?_
    refine wpAny_mono (run_in (vs := [V.ref a, y]) (us := [Value.ref a, u]) F hr1 I.env0.in1 hb hx I (.cons (show L2.RelV (V.ref a) (Value.ref a) from rfl) (.cons ry .nil)) q) (fun w s' z => ?_) fun _ _ x => x
    obtain ⟨z', H', I', rz, b, rfl, qz⟩ := z
    cases (show w = Value.bool b from rz)
    exact ⟨b, rfl, wpAny_pure ⟨_, rfl, .bl (!b), H', I', rfl, qz⟩⟩
  show wpAny _ _ (richCompare .NotEq (.ref a) u) _ _ _
  unfold richCompare
  simp only [oneThing_ref]
  refine wpAny_holding (wpAny_bind (wpAny_cRoomFor (by omega) ?_))
  refine wpAny_bind (J.type.here (wpAny_bind (lk.here ?_)))
  split
  · rename_i qq
    have e : PySem.W.subIn X.K tb (.ref C) = some false := by
      rcases Bool.or_eq_true_iff.mp nf with e | e
      · rw [beq_iff_eq.mp e] at qq; simp at qq
      · exact beq_iff_eq.mp e
    refine wpAny_bind ((PySem.W.looks_subIn I.kIn e).here ?_)
    simp only [Bool.false_eq_true, if_false]
    refine wpAny_bind (wpAny_mono one (fun r s' z => ?_) fun _ _ e => e)
    obtain ⟨v, rfl, hq⟩ := z
    exact wpAny_pure hq
  · refine wpAny_bind (wpAny_pure ?_)
    simp only [Bool.false_eq_true, if_false]
    refine wpAny_bind (wpAny_mono one (fun r s' z => ?_) fun _ _ e => e)
    obtain ⟨v, rfl, hq⟩ := z
    exact wpAny_pure hq
end
end Dr
namespace Dr
open PySem PySem.Spec PyProof.Rows L2
theorem putF_len (f : Str) (v : V) : ∀ fs : List (Str × V), (putF f v fs).length ≤ fs.length + 1
  | [] => Nat.le_refl _
  | (g, u) :: r => by
    show (if g = f then (g, v) :: r else (g, u) :: putF f v r).length ≤ _
    split
    · rw [List.length_cons, List.length_cons]
      omega
    · rw [List.length_cons, List.length_cons]
      have := putF_len f v r
      omega
theorem kit_self {K : PySem.W.Frag} (C : Addr) : PySem.W.kitOne K (.ref C) (.ref C) = some true := by
  unfold PySem.W.kitOne
  simp
theorem kit_own {K : PySem.W.Frag} {C : Addr} (h1 : PySem.W.isClsIn K C = true) (h2 : PySem.W.typeIn K (.ref C) = some (.type "type")) (d : PyData) : PySem.W.kitOne K (.type (tyD d)) (.ref C) = some false := by
  unfold PySem.W.kitOne
  have e : ((Value.type (tyD d)) == Value.ref C) = false := rfl
  rw [e]
  unfold PySem.W.kitCls
  unfold PySem.W.isClsIn at h1
  simp only [h1, h2, sub_D]
  simp
end Dr
namespace Dr
open PySem PySem.Spec PyProof.Rows L2
open SX (S S_len S_cat)
abbrev sNames : Stmt := topS 40
theorem scNames : FnScope ["_law_bag_here", "_law_many", "_law_left", "_law_stem", "_law_one", "_law_turn", "_law_at", "_law_found", "_law_two"] ["_law_bag_here", "_law_many"] (defScope sNames) := ⟨rfl, rfl, rfl, by decide +kernel, rfl, by decide +kernel, by decide +kernel⟩
def gjqz : List Nat := [103, 106, 113, 122]
def letters : List Nat := [97, 98, 99, 100, 101, 102, 103, 104, 105, 106, 107, 108, 109, 110, 111, 112, 113, 114, 115, 116, 117, 118, 119, 120, 121, 122]
theorem az_eq : ("abcdefghijklmnopqrstuvwxyz" : Str) = S letters := by decide +kernel
theorem gjqz_eq : ("gjqz" : Str) = S gjqz := by decide +kernel
def twos (i : Nat) : List (List Nat) := (gjqz.take i).flatMap fun a => letters.map fun b => [a, b]
theorem twos_next {i c : Nat} (h : gjqz[i]? = some c) : twos (i + 1) = twos i ++ letters.map fun b => [c, b] := by
  unfold twos
  rw [List.take_add_one, h, List.flatMap_append]
  simp
theorem twos_len : (twos 4).length = 104 := by decide +kernel
theorem twos_nodup : (twos 4).Nodup := by decide +kernel
theorem twos_ok : ∀ t ∈ twos 4, t.length = 2 ∧ t.all lowC = true ∧ t.any (gjqz.contains ·) = true := by
  have h : (twos 4).all (fun t => decide (t.length = 2) && t.all lowC && t.any (gjqz.contains ·)) = true := by decide +kernel
  intro t ht
  have q := List.all_eq_true.mp h t ht
  rw [Bool.and_eq_true, Bool.and_eq_true] at q
  exact ⟨of_decide_eq_true q.1.1, q.1.2, q.2⟩
theorem letters_low : ∀ c ∈ letters, lowC c = true := by decide +kernel
/-- a drawn name -/
structure GoodN (cs : List Nat) : Prop where
  low : cs.all lowC = true
  lo : 2 ≤ cs.length
  hi : cs.length ≤ 8
  odd : cs.any (gjqz.contains ·) = true
theorem barred_even : barred.all (fun z => !(z.cps.toList.any (gjqz.contains ·))) = true := by decide +kernel
theorem good_name {cs : List Nat} (low : cs.all lowC = true) (lo : 1 ≤ cs.length) (hi : cs.length ≤ 8) (odd : cs.any (gjqz.contains ·) = true) : nameOk (S cs) = true := by
  have hb : barred.contains (S cs) = false := by
    cases h : barred.contains (S cs) with
    | false => rfl
    | true =>
      have hm : S cs ∈ barred := by simpa using h
      have q := List.all_eq_true.mp barred_even _ hm
      have e : (S cs).cps.toList = cs := rfl
      rw [e, odd] at q
      cases q
  unfold nameOk
  rw [hb, S_len, decide_eq_true lo, decide_eq_true hi]
  exact low
theorem GoodN.ok {cs : List Nat} (g : GoodN cs) : nameOk (S cs) = true := good_name g.low (by have := g.lo; omega) g.hi g.odd
/-- the stem around a pair of letters -/
def mkN (stem : List Nat) (at_ : Nat) (two : List Nat) : List Nat := stem.take at_ ++ two ++ stem.drop at_
theorem mkN_len {stem two : List Nat} {a : Nat} : (mkN stem a two).length = stem.length + two.length := by
  unfold mkN
  rw [List.length_append, List.length_append, List.length_take, List.length_drop]
  omega
theorem mkN_good {stem two : List Nat} {a : Nat} (hs : stem.all lowC = true) (hl : stem.length ≤ 6) (ht : two ∈ twos 4) : GoodN (mkN stem a two) := by
  obtain ⟨t1, t2, t3⟩ := twos_ok two ht
  refine ⟨?_, by rw [mkN_len]; omega, by rw [mkN_len]; omega, ?_⟩
  · unfold mkN
    rw [List.all_append, List.all_append, t2]
    have h1 : (stem.take a).all lowC = true := List.all_eq_true.mpr fun x hx => List.all_eq_true.mp hs x (List.mem_of_mem_take hx)
    have h2 : (stem.drop a).all lowC = true := List.all_eq_true.mpr fun x hx => List.all_eq_true.mp hs x (List.mem_of_mem_drop hx)
    rw [h1, h2]
    rfl
  · unfold mkN
    rw [List.any_append, List.any_append, t3]
    simp
theorem mkN_inj {stem t u : List Nat} {a : Nat} (hl : t.length = u.length) (h : mkN stem a t = mkN stem a u) : t = u := by
  unfold mkN at h
  rw [List.append_assoc, List.append_assoc] at h
  have h2 := List.append_cancel_left h
  exact (List.append_inj h2 hl).1
section
variable {P : Program} {w : World} {K : PySem.W.Frag} {mg : Str → Option Value} {base : Heap}
theorem Kp.seq {p a : Addr} {H H' : Hp} {xs : List V} (k : Kp p H H') (n : a ≠ p) (h : SqL K H a xs) : SqL K H' a xs := by
  rcases h with (h | ⟨o, h⟩) | h
  · exact .inl (.inl (k.1 _ _ n h))
  · exact .inl (.inr ⟨o, k.1 _ _ n h⟩)
  · exact .inr h
/-- one of a list or of a text's signs -/
def spOf (K : PySem.W.Frag) : Sp := fun vs H Q _ => ∃ (p : Addr) (x : V), vs = [.ref p, x] ∧ Bag H p ∧
  ((∃ (a : Addr) (xs : List V), x = .ref a ∧ a ≠ p ∧ SqL K H a xs ∧ 1 ≤ xs.length ∧ xs.length ≤ 1000 ∧ ∀ H' y, Kp p H H' → y ∈ xs → Q y H') ∨
    ∃ cs : List Nat, x = .str (S cs) ∧ 1 ≤ cs.length ∧ cs.length ≤ 1000 ∧ ∀ H' c, Kp p H H' → c ∈ cs → Q (.str (S [c])) H')
theorem ok_of {f fT : Addr} {fd fdT : FuncData} (F : Fun K "_law_of" "_law_of" sOf f fd) (T : Blt mg) (GT : FnOk P w K mg base CX0 1 fT fdT ["_law_bag_here", "_law_many"] spTake) (mT : mg "_law_take" = some (.ref fT)) (kT : PySem.W.keepIn K (.ref fT) = true) (bT : Binds K fdT ["_law_bag_here", "_law_many"] []) :
    FnOk P w K mg base CX0 2 f fd ["_law_bag_here", "_law_some"] (spOf K) := by
  refine F.ok scOf (fun vs H Q E h => ?_) (fun cdv A outer s H vs Q E hr h => ?_)
  · obtain ⟨p, x, rfl, _⟩ := h
    rfl
  · obtain ⟨p, x, rfl, hB, h⟩ := h
    refine ⟨_, pss_one (ps_ret (pe_ix ix_seq (pv 1) (pe_call GT hr (by rfl) mT kT bT .nil pass0 (pa_cons (pv 0) (pa_cons (pe_callB call_len (by rfl) T.len PySem.boot_len (pa_cons (pv 1) pa_nil)) pa_nil))) (fun _ _ => rfl))), ?_⟩
    rcases h with ⟨a, xs, rfl, na, hS, h1, h2, q⟩ | ⟨cs, rfl, h1, h2, q⟩
    · refine ⟨_, rfl, _, rfl, _, rfl, _, xs.length, rfl, .inl ⟨xs, hS, rfl⟩, p, _, rfl, hB, by omega, by omega, fun H' r k r0 r1 => ?_⟩
      obtain ⟨j, rfl⟩ : ∃ j : Nat, r = (j : Int) := ⟨r.toNat, by omega⟩
      have hj : j < xs.length := by omega
      exact .inl ⟨a, xs, _, xs[j], rfl, rfl, k.seq na hS, atI_nat (List.getElem?_eq_getElem hj), q _ _ k (List.getElem_mem hj)⟩
    · have hz : (S cs).length ≤ sizeLine := by
        rw [S_len]
        exact Nat.le_of_lt (small1000 h2)
      refine ⟨_, rfl, _, rfl, _, rfl, _, (S cs).length, rfl, ⟨hz, rfl⟩, p, _, rfl, hB, by rw [S_len]; omega, by rw [S_len]; omega, fun H' r k r0 r1 => ?_⟩
      rw [S_len] at r1
      obtain ⟨j, rfl⟩ : ∃ j : Nat, r = (j : Int) := ⟨r.toNat, by omega⟩
      have hj : j < cs.length := by omega
      exact .inr (.inr ⟨S cs, _, cs[j], rfl, rfl, hz, atI_nat (List.getElem?_eq_getElem hj), q _ _ k (List.getElem_mem hj)⟩)
end
end Dr
namespace Dr
open PySem PySem.Spec PyProof.Rows L2
open SX (S S_len S_cat)
section
variable {P : Program} {w : World} {K : PySem.W.Frag} {mg : Str → Option Value} {base : Heap}
def txts (l : List (List Nat)) : List V := l.map fun cs => V.str (S cs)
def spNames (K : PySem.W.Frag) : Sp := fun vs H Q _ => ∃ (p : Addr) (m : Nat), vs = [.ref p, .int (m : Int)] ∧ Bag H p ∧ m ≤ 20 ∧
  ∀ H' q zs, Kp p H H' → H q = none → H' q = some (.lst (txts zs)) → zs.length = m → zs.Nodup → (∀ z ∈ zs, GoodN z) → Q (.ref q) H'
theorem seqIx {n j : Nat} (h : j < n) : seqIndex? (j : Int) n = some j := by
  refine (ixN_seq (n := n) (i := (j : Int)) (j := j) ?_).1
  unfold ixN
  rw [if_pos (by omega), if_pos (by omega)]
  simp
theorem erase_perm {α : Type} : ∀ {l : List α} {k : Nat} {y : α}, l[k]? = some y → (y :: l.eraseIdx k).Perm l
  | [], k, y, h => by simp at h
  | a :: r, 0, y, h => by
    obtain rfl := Option.some.inj h
    exact .refl _
  | a :: r, k + 1, y, h => by
    have ih := erase_perm (l := r) (k := k) (y := y) h
    exact (List.Perm.swap a y _).trans (.cons a ih)
theorem map_er {α β : Type} (f : α → β) : ∀ (l : List α) (k : Nat), (l.map f).eraseIdx k = (l.eraseIdx k).map f
  | [], _ => rfl
  | a :: r, 0 => rfl
  | a :: r, k + 1 => congrArg (f a :: ·) (map_er f r k)
theorem txts_erase (l : List (List Nat)) (k : Nat) : (txts l).eraseIdx k = txts (l.eraseIdx k) := map_er _ l k
theorem txts_app (l r : List (List Nat)) : txts l ++ txts r = txts (l ++ r) := by
  unfold txts
  rw [List.map_append]
theorem ok_names {f fT fO : Addr} {fd fdT fdO : FuncData} (F : Fun K "_law_names" "_law_names" sNames f fd) (T : Blt mg) (hra : mg "range" = none)
    (GT : FnOk P w K mg base CX0 1 fT fdT ["_law_bag_here", "_law_many"] spTake) (mT : mg "_law_take" = some (.ref fT)) (kT : PySem.W.keepIn K (.ref fT) = true) (bT : Binds K fdT ["_law_bag_here", "_law_many"] [])
    (GO : FnOk P w K mg base CX0 2 fO fdO ["_law_bag_here", "_law_some"] (spOf K)) (mO : mg "_law_of" = some (.ref fO)) (kO : PySem.W.keepIn K (.ref fO) = true) (bO : Binds K fdO ["_law_bag_here", "_law_some"] []) :
    FnOk P w K mg base CX0 3 f fd ["_law_bag_here", "_law_many"] (spNames K) := by
  refine F.ok scNames (fun vs H Q E h => ?_) (fun cdv A outer s H vs Q E hr h => ?_)
  · obtain ⟨p, m, rfl, _⟩ := h
    rfl
  · obtain ⟨p, m, rfl, hB, hm, q⟩ := h
    have hr1 : Room 1 _ := hr.mono (by decide)
    refine ⟨_, pss_cons (ps_par (i := 2) (j := 3) (by rfl) scNames.nd rfl rfl (by decide) rfl rfl (pa_cons (pe_lst pa_nil) (pa_cons pe_str pa_nil)) (by rfl))
      (pss_cons (ps_for PassesOwn.never rfl (pi_str pe_str) (pg_name (i := 4) scNames.nd rfl (.inr rfl)) (pss_one (ps_expr (pe_bm PySem.F.plainAttrs_list PySem.F.slot_list_extend PySem.F.type_list_extend mt_extend (pv 2) (pa_cons
          (pe_lc (own := [("_law_two", 8)]) (g := gName 8) (tt := tYes) rfl scNames.nd (pi_str pe_str) (blkOk_by (N := ["_law_bag_here", "_law_many", "_law_left", "_law_stem", "_law_one", "_law_turn", "_law_at", "_law_found", "_law_two"]) (sc := defScope sNames) (by decide +kernel)) (fun _ _ _ _ _ => pg_name (i := 8) scNames.nd rfl (Or.inl rfl)) (fun _ _ _ _ _ => pts_nil)
            (fun _ _ _ _ _ => pe_op op_add_str (pv 4) (pv 8))) pa_nil)))))
      (pss_cons (ps_for PassesOwn.never rfl (pi_range1 rfl hra (pa_cons (pe_call GT hr1 (by rfl) mT kT bT .nil pass0 (pa_cons (pv 0) (pa_cons pe_int pa_nil))) pa_nil)) (pg_name (i := 5) scNames.nd rfl (.inl rfl))
          (pss_one (ps_set (i := 3) scNames.nd rfl (.inl rfl) (pe_op op_add_str (pv 3) (pe_call GO hr (by rfl) mO kO bO .nil pass0 (pa_cons (pv 0) (pa_cons pe_str pa_nil)))))))
      (pss_cons (ps_par (i := 6) (j := 7) (by rfl) scNames.nd rfl rfl (by decide) rfl rfl (pa_cons (pe_call GT hr1 (by rfl) mT kT bT .nil pass0 (pa_cons (pv 0) (pa_cons (pe_op op_add (pe_callB call_len_str (by rfl) T.len PySem.boot_len (pa_cons (pv 3) pa_nil)) pe_int) pa_nil))) (pa_cons (pe_lst pa_nil) pa_nil)) (by rfl))
      (pss_cons (ps_for PassesOwn.never rfl (pi_range1 rfl hra (pa_cons (pv 1) pa_nil)) (pg_name (i := 5) scNames.nd rfl (.inl rfl))
          (pss_one (ps_expr (pe_bm PySem.F.plainAttrs_list PySem.F.slot_list_append PySem.F.type_list_append mt_append (pv 7) (pa_cons
            (pe_op op_add_str (pe_op op_add_str (pe_slice C8.sl_txt (pv 3) po_none (po_some (pv 6)))
              (pe_bm PySem.F.plainAttrs_list PySem.F.slot_list_pop PySem.F.type_list_pop mt_popAt (pv 2) (pa_cons (pe_call GT hr1 (by rfl) mT kT bT .nil pass0 (pa_cons (pv 0) (pa_cons (pe_callB call_len_seq (by rfl) T.len PySem.boot_len (pa_cons (pv 2) pa_nil)) pa_nil))) pa_nil)))
              (pe_slice C8.sl_txt (pv 3) (po_some (pv 6)) po_none)) pa_nil)))))
      (pss_one (ps_ret (pv 7))))))), ?_⟩
    refine ⟨Nat.zero_le _, fun l nl => ?_⟩
    have nlp : l ≠ p := fun e => by
      obtain ⟨u, v, hp, _⟩ := hB
      rw [e, hp] at nl
      cases nl
    refine ⟨_, _, rfl, ?_⟩
    -- the pairs of letters
    refine ⟨_, rfl, for_it walk_str (fun i σ H1 => Same H H1 ∧ H1 l = some (.lst (txts (twos i))) ∧ ∃ y, σ = [some (.ref p), some (.int (m : Int)), some (.ref l), some (.str ""), y, none, none, none, none]) ⟨same_upd nl, upd_same, _, rfl⟩ (fun _ _ _ _ _ => trivial) ?_ ?_⟩
    · rintro i x σ H1 H2 hi ⟨sm, hl, y, rfl⟩ ⟨rfl, c, hc, rfl⟩
      rw [gjqz_eq] at hc hi
      have hc' : gjqz[i]? = some c := by
        rw [← hc]
        simp
      have hi' : i < 4 := by simpa [gjqz] using hi
      refine ⟨_, rfl, .inl ⟨rfl, _, SqL.of hl⟩, _, rfl, fun D hD => lc_it walk_str (fun j H3 => Same H2 H3 ∧ H3 D = some (.lst (txts ((letters.take j).map fun b => [c, b])))) ⟨same_upd hD, upd_same⟩ (fun _ _ _ _ => trivial) ?_ ?_⟩
      · rintro j x H3 H4 hj ⟨sm3, hD3⟩ ⟨rfl, b, hb, rfl⟩
        rw [az_eq] at hb
        have hb' : letters[j]? = some b := by
          rw [← hb]
          simp
        refine ⟨rfl, ?_⟩
        unfold tYes
        refine iteT ?_
        refine ⟨_, rfl, _, rfl, S [c], S [b], rfl, rfl, by show 1 + 1 ≤ sizeLine; decide, ?_⟩
        refine ⟨_, hD3, ?_, fun a o e => ?_, ?_⟩
        · unfold txts
          rw [List.length_map, List.length_map, List.length_take]
          exact small1000 (by have : letters.length = 26 := rfl; omega)
        · rw [upd_ne (ne_of_none e hD)]
          exact sm3 _ _ e
        · rw [upd_same, S_cat, List.take_add_one, hb']
          unfold txts
          rw [List.map_append, List.map_append]
          rfl
      · rintro H3 ⟨sm3, hD3⟩
        rw [az_eq] at hD3
        have e26 : letters.take (S letters).cps.size = letters := rfl
        rw [e26] at hD3
        have hl3 := sm3 _ _ hl
        have nlD : l ≠ D := ne_of_none hl hD
        refine ⟨l, D, _, _, rfl, rfl, hl3, hD3, ?_, ?_⟩
        · unfold txts
          rw [List.length_map, List.length_map, List.length_map]
          have h1 : (twos i).length ≤ 104 := by
            have hcase : i = 0 ∨ i = 1 ∨ i = 2 ∨ i = 3 := by omega
            rcases hcase with e | e | e | e <;> (rw [e]; decide +kernel)
          have h2 : letters.length = 26 := rfl
          exact Nat.le_of_lt (small1000 (by omega))
        · refine ⟨fun a o e => ?_, ?_, _, rfl⟩
          · rw [upd_ne (ne_of_none e nl)]
            exact sm3 _ _ (sm _ _ e)
          · rw [upd_same, txts_app, twos_next hc']
    · rintro σ H1 ⟨sm, hl, y, rfl⟩
      rw [gjqz_eq] at hl
      have e4 : twos (S gjqz).cps.size = twos 4 := rfl
      rw [e4] at hl
      have k1 : Kp p H H1 := Kp.of hB sm
      -- the stem
      refine ⟨_, rfl, p, 7, rfl, k1.2, by decide, by decide, fun H2 r k2 r0 r7 => ⟨r, rfl, by omega, by omega, for_it walk_range (fun i σ H3 => Kp p H H3 ∧ H3 l = some (.lst (txts (twos 4))) ∧ ∃ (stem : List Nat) (y5 : Option V), σ = [some (.ref p), some (.int (m : Int)), some (.ref l), some (.str (S stem)), y, y5, none, none, none] ∧ stem.all lowC = true ∧ stem.length ≤ i) ⟨k1.trans k2, k2.1 _ _ nlp hl, [], none, rfl, rfl, Nat.le_refl _⟩ (fun _ _ _ _ _ => trivial) ?_ ?_⟩⟩
      · rintro i x σ H3 H4 hi ⟨k3, hl3, stem, y5, rfl, hlow, hlen⟩ ⟨rfl, rfl⟩
        refine ⟨_, rfl, _, rfl, p, _, rfl, k3.2, .inr ⟨letters, congrArg V.str az_eq, by decide, by decide, fun H5 c k5 hc => ?_⟩⟩
        refine ⟨_, _, rfl, rfl, ?_, ?_⟩
        · rw [S_len, S_len]
          exact Nat.le_of_lt (small1000 (by show stem.length + 1 ≤ 1000; omega))
        · refine ⟨k3.trans k5, k5.1 _ _ nlp hl3, stem ++ [c], _, by rw [← S_cat]; rfl, ?_, by rw [List.length_append]; show stem.length + 1 ≤ i + 1; omega⟩
          rw [List.all_append, hlow, List.all_cons, letters_low c hc]
          rfl
      · rintro σ H3 ⟨k3, hl3, stem, y5, rfl, hlow, hlen⟩
        have hlen6 : stem.length ≤ 6 := by omega
        refine ⟨_, rfl, _, rfl, _, rfl, ?_, _, _, rfl, rfl, p, _, rfl, k3.2, by omega, by rw [S_len]; omega, fun H4 at_ k4 a0 a1 => ?_⟩
        · rw [S_len]
          exact Nat.le_of_lt (small1000 (by omega))
        refine ⟨Nat.zero_le _, fun g ng => ⟨_, _, rfl, ?_⟩⟩
        have hl4 := k4.1 _ _ nlp hl3
        have k04 := k3.trans k4
        have nlg : l ≠ g := ne_of_none hl4 ng
        have ngp : g ≠ p := fun e => by
          obtain ⟨u, v, hp, _⟩ := k04.2
          rw [e, hp] at ng
          cases ng
        have sg : Same H4 (upd H4 g (.lst [])) := same_upd ng
        -- the names
        refine ⟨_, rfl, (m : Int), rfl, by omega, by omega, for_it walk_range (fun i σ H5 => Kp p H H5 ∧ H5 g = H5 g ∧ ∃ (ws L : List (List Nat)) (y5 : Option V), H5 l = some (.lst (txts L)) ∧ H5 g = some (.lst (txts (ws.map (mkN stem at_.toNat)))) ∧ ws.length = i ∧ L.length + i = 104 ∧ (ws ++ L).Nodup ∧ (∀ t ∈ ws ++ L, t ∈ twos 4) ∧
          σ = [some (.ref p), some (.int (m : Int)), some (.ref l), some (.str (S stem)), y, y5, some (.int at_), some (.ref g), none]) ⟨k04.same sg, rfl, [], twos 4, _, sg _ _ hl4, upd_same, rfl, twos_len, twos_nodup, fun t h => h, rfl⟩ (fun _ _ _ _ _ => trivial) ?_ ?_⟩
        · rintro i x σ H5 H6 hi ⟨k5, _, ws, L, y5, hL, hG, hw, hLl, hnd, hall, rfl⟩ ⟨rfl, rfl⟩
          have hi20 : i < 20 := by
            have : i < ((m : Nat) : Int).toNat := hi
            omega
          have hsz : (S stem).length ≤ sizeLine := by
            rw [S_len]
            exact Nat.le_of_lt (small1000 (by omega))
          have hLen : (txts L).length = L.length := by
            unfold txts
            rw [List.length_map]
          refine ⟨_, rfl, .inl ⟨rfl, _, SqL.of hG⟩, ?_⟩
          refine ⟨_, rfl, _, rfl, at_, rfl, S stem, rfl, hsz, ?_⟩
          refine ⟨_, rfl, .inl ⟨rfl, _, SqL.of hL⟩, _, rfl, _, rfl, l, _, rfl, .inl (SqL.of hL), p, _, rfl, k5.2, by rw [hLen]; omega, by rw [hLen]; omega, fun H7 kk k7 kk0 kk1 => ?_⟩
          rw [hLen] at kk1
          obtain ⟨j, rfl⟩ : ∃ j : Nat, kk = (j : Int) := ⟨kk.toNat, by omega⟩
          have hj : j < L.length := by omega
          have hget : L[j]? = some L[j] := List.getElem?_eq_getElem hj
          have hL7 := k7.1 _ _ nlp hL
          have hG7 := k7.1 _ _ ngp hG
          have htwo : L[j] ∈ twos 4 := hall _ (List.mem_append_right _ (List.getElem_mem hj))
          have ht2 := (twos_ok _ htwo).1
          refine ⟨l, _, _, j, .str (S L[j]), rfl, rfl, hL7, by omega, by omega, seqIx (by rw [hLen]; exact hj), by unfold txts; rw [List.getElem?_map, hget]; rfl, ?_⟩
          have e1 : Txt.slice (S stem) none (some at_) = S (stem.take at_.toNat) := SX.slice_to a0
          have e2 : Txt.slice (S stem) (some at_) none = S (stem.drop at_.toNat) := SX.slice_from a0
          refine ⟨_, _, congrArg V.str e1, rfl, ?_, ?_⟩
          · rw [S_len, S_len, List.length_take]
            exact Nat.le_of_lt (small1000 (by omega))
          refine ⟨_, rfl, _, rfl, at_, rfl, S stem, rfl, hsz, ?_⟩
          refine ⟨_, _, rfl, congrArg V.str e2, ?_, ?_⟩
          · rw [S_cat, S_len, S_len, List.length_append, List.length_take, List.length_drop]
            exact Nat.le_of_lt (small1000 (by omega))
          refine ⟨g, _, _, rfl, rfl, (by rw [upd_ne nlg.symm]; exact hG7), ?_, ?_⟩
          · unfold txts
            rw [List.length_map, List.length_map, hw]
            exact small1000 (by omega)
          · rw [S_cat, S_cat]
            have hperm : ((ws ++ [L[j]]) ++ L.eraseIdx j).Perm (ws ++ L) := by
              rw [List.append_assoc]
              exact (erase_perm hget).append_left ws
            refine ⟨⟨fun a o na e => ?_, ?_⟩, rfl, ws ++ [L[j]], L.eraseIdx j, _, ?_, ?_, by rw [List.length_append, hw]; rfl, ?_, hperm.nodup_iff.mpr hnd, fun t h => hall t (hperm.mem_iff.mp h), rfl⟩
            · have e5 := k7.1 _ _ na (k5.1 _ _ na e)
              have ag : a ≠ g := fun z => by
                subst z
                have := (k04.1 _ _ na e).symm.trans ng
                cases this
              have al : a ≠ l := fun z => by
                subst z
                rw [nl] at e
                cases e
              rw [upd_ne ag, upd_ne al]
              exact e5
            · obtain ⟨u, v, hp, hb⟩ := k7.2
              refine ⟨u, v, ?_, hb⟩
              rw [upd_ne ngp.symm, upd_ne nlp.symm]
              exact hp
            · rw [upd_ne nlg, upd_same, txts_erase]
            · rw [upd_same, List.map_append, ← txts_app]
              unfold mkN
              rfl
            · rw [List.length_eraseIdx_of_lt hj]
              omega
        · rintro σ H5 ⟨k5, _, ws, L, y5, hL, hG, hw, hLl, hnd, hall, rfl⟩
          have hw' : ws.length = m := by
            rw [hw]
            show ((m : Nat) : Int).toNat = m
            omega
          have ng0 : H g = none := by
            cases e : H g with
            | none => rfl
            | some o =>
              have := (k04.1 _ _ ngp e).symm.trans ng
              cases this
          refine ⟨_, rfl, q _ g _ k5 ng0 hG (by rw [List.length_map]; exact hw') ?_ ?_⟩
          · have hnd1 : ws.Nodup := (List.nodup_append.mp hnd).1
            refine List.pairwise_map.mpr (hnd1.imp_of_mem fun {t u} ht hu ne e => ne ?_)
            have t2 := (twos_ok t (hall t (List.mem_append_left _ ht))).1
            have u2 := (twos_ok u (hall u (List.mem_append_left _ hu))).1
            exact mkN_inj (t2.trans u2.symm) e
          · intro z hz
            obtain ⟨t, ht, rfl⟩ := List.mem_map.mp hz
            exact mkN_good hlow hlen6 (hall t (List.mem_append_left _ ht))
end
end Dr
namespace Dr
open PySem PySem.Spec PyProof.Rows L2
/-- one clause: its class, its name's slot, its suite's reading -/
structure Cl where
  c : Value
  i : Nat
  ts : Addr → Value → Option Addr → TS
/-- the ends of a suite: the name is gone -/
abbrev gone (i : Nat) (D : Ends) : Ends := { nx := fun x y => D.nx (x.set i none) y, rt := D.rt, bk := fun x y => D.bk (x.set i none) y, ct := fun x y => D.ct (x.set i none) y }
/-- what the clauses ask of what the body raises -/
def wCl (K : PySem.W.Frag) (O : WX) (D : Ends) : List Cl → WX
  | [] => O
  | k :: r => fun cls d σ H => ∃ b, PySem.W.exmOne K cls k.c = some b ∧ (b = true → ∀ a, H a = none → k.ts a cls d (gone k.i D) (σ.set k.i (some (.ref a))) H) ∧ (b = false → wCl K O D r cls d σ H)
inductive ClOk (X : Cx) : List ExceptHandler → List Cl → Prop
  | nil : ClOk X [] []
  | cons {x n : Str} {k : Cl} {s0 : Stmt} {ss : List Stmt} {p1 p2 : Pos} {hs : List ExceptHandler} {l : List Cl} (hi : X.N[k.i]? = some n) (hn : X.env.kindOf n = some .local) (hc : Names X x k.c)
      (su : ∀ (a : Addr) (o : Obj) (cls : Value) (d : Option Addr) (q : List (Addr × Obj)), Zc cls d o → (∃ vs, o.data = .fields vs) → PSs (X.suite a ((a, o) :: q)) (s0 :: ss) (k.ts a cls d)) (r : ClOk X hs l) :
      ClOk X (.ExceptHandler (some (.Name x p1)) (some n) (s0 :: ss) p2 :: hs) (k :: l)
section
variable {X : Cx} {body : List Stmt} {e0 : ExceptHandler} {es : List ExceptHandler} {l : List Cl} {pos : Pos} {tb : WX → TS} {O : WX}
theorem ps_try_cl (h1 : X.stack = X.env :: X.outer) (h2 : X.env.frame = some X.env.locals) (nd : X.N.Nodup) (tk : Takes X O)
    (hb : ∀ (W : WX) (q : List (Addr × Obj)) (xe : Value → Shared → Prop), Takes (X.tr q xe) W → PassesOwn (model X.prog X.w) X.A X.env xe → PSs (X.tr q xe) body (tb W))
    (hk : ClOk X (e0 :: es) l) : PS X (.Try body (e0 :: es) [] [] pos) (fun D σ H => tb (wCl X.K O D l) D σ H) := by
  refine ⟨fun q0 t0 σ0 H0 D I0 hw => ?_⟩
  have okX := I0.ok
  have frX : X.A.frames = some (X.env :: X.outer) := okX.frames.trans (congrArg some h1)
  refine wpAny_Try_except ?_
  have hrun := (hb (wCl X.K O D l) (X.pn ++ q0) (fun e t1 => wpAny (model X.prog X.w) X.A (noteFrame e X.env) (fun _ t2 => wpAny (model X.prog X.w) X.A (setFlight e none) (fun _ t3 => wpAny (model X.prog X.w) X.A (handleBy e X.env (e0 :: es)) (SP X q0 D) X.xe t3) X.xe t2) X.xe t1)
    (fun u t9 raised => ?caught) PassesOwn.looking).run [] t0 σ0 H0 D (I0.toTry _) hw
  case caught =>
    obtain ⟨a, B, tI, q1, σ1, H1, cls, d, rfl, J0, nb, up, sky, na, os, ag, ask⟩ := raised
    have J : Inv X q0 σ1 H1 tI := J0.ofTry okX
    have sky1 : Sky B (X.env :: X.outer) a (Zc cls d) X.env.locals t9.heap := h1 ▸ sky
    show wpAny (model X.prog X.w) X.A (noteFrame (.ref a) X.env) _ _ _
    refine Sky.land Zc.steady frX h2 sky1 fun g3 fl3 up3 => ?_
    have J3 : Inv X q0 σ1 H1 { t9 with heap := g3 } := J.landed nb fl3.1 (up.trans up3) os ag
    obtain ⟨o3, v3, at3, z3, dd3⟩ := fl3.there
    have apart : a ∉ frs (X.env :: X.outer) := fun hm => by
      obtain ⟨_, o', e', hnf⟩ := fl3.2.2.1.mem hm
      rw [at3] at e'
      cases e'
      exact hnf _ dd3
    have nL : a ≠ X.env.locals := fun z => apart (List.mem_filterMap.mpr ⟨X.env, List.mem_cons_self, h2.trans (congrArg some z.symm)⟩)
    have nF : a ∉ X.fs := fun hm => let ⟨e, he, q⟩ := List.mem_filterMap.mp hm; apart (List.mem_filterMap.mpr ⟨e, List.mem_cons_of_mem _ he, q⟩)
    have S3 := J3.suite at3 dd3 na nL nF
    have LT : PySem.W.Looks (model X.prog X.w) g3 (typeOf (.ref a)) cls := fun A Q E s k q => wpAny_typeOf_ref (k _ _ at3) (z3.1 ▸ q)
    have walk : ∀ {hs : List ExceptHandler} {m : List Cl}, ClOk X hs m → wCl X.K O D m cls d σ1 H1 → wpAny (model X.prog X.w) X.A (handleBy (.ref a) X.env hs) (SP X q0 D) X.xe { t9 with heap := g3 } := by
      intro hs m ok
      induction ok with
      | nil =>
        intro ask
        refine wpAny_handleBy_nil ?_
        obtain ⟨_, _, _, oe, vs, T, oT, _, he, hz, hd, hf1, _⟩ := id fl3
        unfold PySem.passOn
        refine wpAny_bind (wpAny_field he hd hf1 ?_)
        rw [if_neg (show ¬ ((Value.ref T == Value.none) = true) by simp)]
        have out : wpAny (model X.prog X.w) X.A (setFlight (.ref a) X.env.frame) (fun _ t4 => wpAny (model X.prog X.w) X.A (throw (.ref a) : Sem Flow) (SP X q0 D) X.xe t4) X.xe { t9 with heap := g3 } := by
          rw [h2]
          exact HandSPX.setFlight_upZ fl3 fun g4 hh4 up4 => wpAny_throw (tk _ _ ⟨a, B, tI, q0, σ1, H1, cls, d, rfl, J, nb, (up.trans up3).trans up4, .inr (.inr (h1.symm ▸ hh4)), na, os, ag, ask⟩)
        first
          | exact wpAny_bind (wpAny_pure (wpAny_bind out))
          | exact wpAny_bind out
      | @cons x n k s0 ss p1 p2 hs2 m2 hi hn hc su r ih =>
        intro ask
        obtain ⟨b, em, yes, no⟩ := ask
        refine wpAny_handleBy_cons (codeAny_handlers_test ?_) (by intro q; cases q)
        have LM := PySem.W.exm_one (M := model X.prog X.w) (J3.kIn) LT em
        have cl : ∀ {Q : Value → Shared → Prop} {E : Value → Shared → Prop}, Q k.c { t9 with heap := g3 } → wpAny (model X.prog X.w) (X.A.mark (some (.ref a))) (eval (.Name x p1) X.env) Q E { t9 with heap := g3 } := fun {Q E} q => by
          rcases hc with ⟨hg, hdbg, hm | ⟨hm, hv, hnn⟩⟩
          · exact ld_glob (X := X.suite a ((a, o3) :: (X.pn ++ q0))) S3 hg hm q hdbg
          · exact ld_blt (X := X.suite a ((a, o3) :: (X.pn ++ q0))) S3 hg hm hv q hnn hdbg
        refine cl (LM.here ?_)
        cases b with
        | false => exact ih (no rfl)
        | true =>
          refine codeAny_handlers_suite_as (HandSPX.lands_againZ fl3 fun g4 fl4 up4 => ?_)
          have J4 : Inv X q0 σ1 H1 { t9 with heap := g4 } := J.landed nb fl4.1 ((up.trans up3).trans up4) os ag
          obtain ⟨o4, v4, at4, z4, dd4⟩ := fl4.there
          have S4 := J4.suite at4 dd4 na nL nF
          refine store_ok (X := X.suite a ((a, o4) :: (X.pn ++ q0))) (v := .ref a) S4 nd hi (.inl hn) rfl (fun t5 S5 => ?_) (.inr hn)
          have close : ∀ {σ6 : L2.St} {H6 : Hp} {t6 : Shared} {Q : Shared → Prop}, Inv (X.suite a ((a, o4) :: (X.pn ++ q0))) [] σ6 H6 t6 → (∀ t7, Inv X q0 (σ6.set k.i none) H6 t7 → Q t7) →
              wpAny (model X.prog X.w) X.A (do bindName X.env n .none; unbindBehindTheSuite X.env n p2) (fun _ t7 => Q t7) X.xe t6 := fun S6 hq => gone_ok (S6.unsuite okX) nd hi hn hq
          refine wpAny_mono ((su a o4 cls d (X.pn ++ q0) z4 ⟨_, dd4⟩).run [] t5 _ H1 _ S5 (yes rfl a na)) (fun fl t6 en => ?_) (fun _ _ z => False.elim z)
          cases fl with
          | next => exact let ⟨_, _, S6, q6⟩ := en; close S6 fun t7 J7 => ⟨_, _, J7, q6⟩
          | brk => exact let ⟨_, _, S6, q6⟩ := en; close S6 fun t7 J7 => ⟨_, _, J7, q6⟩
          | cont => exact let ⟨_, _, S6, q6⟩ := en; close S6 fun t7 J7 => ⟨_, _, J7, q6⟩
          | ret u => exact let ⟨_, _, _, S6, r6, q6⟩ := en; close S6 fun t7 J7 => ⟨_, _, _, J7, r6, q6⟩
    exact walk hk ask
  refine wpAny_mono hrun (fun fl t1 en => ?_) (fun _ _ he => he)
  cases fl with
  | next => exact let ⟨_, _, J, q⟩ := en; wpAny_execs_nil ⟨_, _, J.ofTry okX, q⟩
  | brk => exact let ⟨_, _, J, q⟩ := en; ⟨_, _, J.ofTry okX, q⟩
  | cont => exact let ⟨_, _, J, q⟩ := en; ⟨_, _, J.ofTry okX, q⟩
  | ret u => exact let ⟨_, _, _, J, r, q⟩ := en; ⟨_, _, _, J.ofTry okX, r, q⟩
end
/-- C(e, .., k = v, ..) in a body whose raised exceptions are awaited -/
def tMkKS (C : Addr) (n m : Nat) (sp : Sp) (gV : List V → List V → List V) (E : L2.St → XK) (t tk : TA) : TE := fun σ H Q => t σ H fun vs H1 => tk σ H1 fun zs H2 => vs.length = n ∧ zs.length = m ∧ ∀ x dx, H2 x = none → H2 dx = none → dx ≠ x →
  sp (gV (.ref x :: vs) zs) (upd (upd H2 dx (.own x)) x (.ins C dx [])) (fun v H3 => v = .non ∧ Q (.ref x) H3) (E σ)
section
variable {X : Cx} {CX : CXT} {k n : Nat} {f C : Addr} {fd : FuncData} {ps ks : List Str} {sp : Sp} {E : L2.St → XK} {x : Str} {p pos : Pos} {e : Expr} {es : List Expr} {kws : List Keyword} {t tk : TA} {g : List Value → List Value → List Value} {gV : List V → List V → List V}
theorem pe_mkKS (M : Mk X.K C f) (F : FnOk X.prog X.w X.K X.mg X.base CX k f fd ps sp) (hr : Room (k + 1) X.A) (hg : Gl X x) (hm : X.mg x = some (.ref C)) (hb : KBn X.K fd ps (n + 1) ks g gV) (hx : ∀ σ, PassesAt CX X σ (E σ)) (ha : PA X (e :: es) t) (hk : PK X kws tk)
    (c1 : (backToKw pos (keywordEach kws X.env)).all (·.1.isSome) = true := by rfl) (c2 : (backToKw pos (keywordEach kws X.env)).filterMap (·.1) = ks := by rfl) (c3 : (x == ("__debug__" : Str)) = false := by decide)
    (c4 : starEach (e :: es) X.env = (false, eval e X.env) :: starEach es X.env := by rfl) (c5 : ((backTo pos (starEach (e :: es) X.env)).any (·.1) || (backToKw pos (keywordEach kws X.env)).any (·.1.isNone)) = false := by rfl) :
    PE X (.Call (.Name x p) (e :: es) kws pos) (tMkKS C n ks.length sp gV E t tk) := by
  refine ⟨fun pins s σ H Q I h => wpAny_Call_Name_kw (ld_glob I hg hm ?_ c3)⟩
  refine PySem.W.callWith_KW (h₀ := X.base) I.ok.mod.kin M.kp c1 (thn (ha.run pos pins s σ H _ I h) fun us s1 ⟨vs, H1, I1, r1, q1⟩ => ?_) c5 c4
  refine thn (hk.run pos pins s1 σ H1 _ I1 q1) fun ws s2 ⟨zs, H2, I2, r2, l1, l2, q2⟩ => ⟨I2.kIn, ?_⟩
  rw [c2]
  have hq := q2 (s2.heap.objs.size + 1) s2.heap.objs.size (I2.hok.fresh (Nat.le_succ _)) (I2.hok.fresh (Nat.le_refl _)) (Nat.ne_of_lt (Nat.lt_succ_self _))
  have I3 := Inv.made (C := C) I2
  have rS : Vals (V.ref (s2.heap.objs.size + 1) :: vs) (Value.ref (s2.heap.objs.size + 1) :: us) := .cons rfl r1
  have nS : (Value.ref (s2.heap.objs.size + 1) :: us).length = n + 1 := rS.length.symm.trans (congrArg Nat.succ l1)
  refine wpAny_call (make_map (f := f) I2.kIn M.makes M.init (beq_iff_eq.mp M.fn) (codeAny_mono (F.run _ X.stack _ _ ⟨Value.ref (s2.heap.objs.size + 1) :: us, ks.zip ws⟩ (g (Value.ref (s2.heap.objs.size + 1) :: us) ws) _ _ (E σ) (hr.make C us (ks.zip ws))
    (I3.env0.make C us (ks.zip ws)) (hb.to _ (Value.ref (s2.heap.objs.size + 1) :: us) ws I3.kIn nS (r2.length.symm.trans l2)) (hb.rel rS r2) hq) fun r s' hq' => ?_))
  cases r with
  | error er => exact hx σ pins _ _ er s' I3 hq'
  | ok fl =>
    cases fl with
    | ret u =>
      obtain ⟨v, H', I4, rv, ev, q3⟩ := I3.after hq'
      subst ev
      exact ⟨rv, ⟨V.ref (s2.heap.objs.size + 1), H', I4, rfl, q3⟩⟩
    | next => exact False.elim hq'
    | brk => exact False.elim hq'
    | cont => exact False.elim hq'
end
end Dr
namespace Dr
open PySem PySem.Spec PyProof.Rows L2
open SX (S S_len S_cat)
/-- the heap without the bag -/
def hid (p : Addr) (H : Hp) : Hp := fun b => if b = p then none else H b
/-- v is the datum d, and the bag at p is no part of it -/
abbrev Dq (K : PySem.W.Frag) (p : Addr) (H : Hp) (v : V) (d : PyData) : Prop := Dp K (hid p H) v d
abbrev DqAll (K : PySem.W.Frag) (p : Addr) (H : Hp) (vs : List V) (ds : List PyData) : Prop := DpAll K (hid p H) vs ds
theorem hid_sub {p : Addr} {H : Hp} : Same (hid p H) H := fun b o e => by
  unfold hid at e
  split at e
  · cases e
  · exact e
theorem hid_same {p : Addr} {H H' : Hp} (s : Same H H') : Same (hid p H) (hid p H') := fun b o e => by
  unfold hid at e ⊢
  split at e
  · cases e
  · rename_i n
    rw [if_neg n]
    exact s _ _ e
theorem hid_kp {p : Addr} {H H' : Hp} (k : Kp p H H') : Same (hid p H) (hid p H') := fun b o e => by
  unfold hid at e ⊢
  split at e
  · cases e
  · rename_i n
    rw [if_neg n]
    exact k.1 _ _ n e
theorem hid_at {p q : Addr} {H : Hp} {o : HO} (n : q ≠ p) (h : H q = some o) : hid p H q = some o := by
  unfold hid
  rw [if_neg n]
  exact h
theorem Dq.dp {K : PySem.W.Frag} {p : Addr} {H : Hp} {v : V} {d : PyData} (h : Dq K p H v d) : Dp K H v d := dp_same hid_sub h
theorem Dq.same {K : PySem.W.Frag} {p : Addr} {H H' : Hp} {v : V} {d : PyData} (h : Dq K p H v d) (s : Same H H') : Dq K p H' v d := dp_same (hid_same s) h
theorem Dq.kp {K : PySem.W.Frag} {p : Addr} {H H' : Hp} {v : V} {d : PyData} (h : Dq K p H v d) (k : Kp p H H') : Dq K p H' v d := dp_same (hid_kp k) h
/-- what an expression denotes -/
abbrev DP := L2.St → Hp → PyData → Prop
abbrev DPs := L2.St → Hp → List PyData → Prop
def tD (K : PySem.W.Frag) (p : Addr) (P : DP) : TE := fun σ H Q => ∃ d, P σ H d ∧ ∀ v H', Same H H' → Dq K p H' v d → Q v H'
def aD (K : PySem.W.Frag) (p : Addr) (P : DPs) : TA := fun σ H Q => ∃ ds, P σ H ds ∧ ∀ vs H', Same H H' → DqAll K p H' vs ds → Q vs H'
/-- stays as the heap grows -/
def Up {α : Type} (P : L2.St → Hp → α → Prop) : Prop := ∀ σ H H' d, Same H H' → P σ H d → P σ H' d
theorem PE.imp {X : Cx} {e : Expr} {t t' : TE} (h : PE X e t) (i : ∀ σ H Q, t' σ H Q → t σ H Q) : PE X e t' := ⟨fun pins s σ H Q I w => h.run pins s σ H Q I (i σ H Q w)⟩
theorem PA.imp {X : Cx} {es : List Expr} {t t' : TA} (h : PA X es t) (i : ∀ σ H Q, t' σ H Q → t σ H Q) : PA X es t' := ⟨fun pos pins s σ H Q I w => h.run pos pins s σ H Q I (i σ H Q w)⟩
def isD (d : PyData) : DP := fun _ _ x => x = d
def slD (K : PySem.W.Frag) (p : Addr) (i : Nat) : DP := fun σ H d => ∃ v, σ[i]? = some (some v) ∧ Dq K p H v d
def nilD : DPs := fun _ _ ds => ds = []
def consD (P : DP) (Ps : DPs) : DPs := fun σ H ds => ∃ d r, P σ H d ∧ Ps σ H r ∧ ds = d :: r
def tupD (p : Addr) (Ps : DPs) : DP := fun σ H d => ∃ ds, Ps σ H ds ∧ ds.length ≤ 1000 ∧ H p ≠ none ∧ d = .tuple ds
def lstD (p : Addr) (Ps : DPs) : DP := fun σ H d => ∃ ds, Ps σ H ds ∧ ds.length ≤ 1000 ∧ H p ≠ none ∧ d = .list ds
theorem Same.some {H H' : Hp} {p : Addr} (s : Same H H') (h : H p ≠ none) : H' p ≠ none := by
  cases e : H p with
  | none => exact absurd e h
  | some o =>
    rw [s _ _ e]
    exact fun z => by cases z
theorem up_is {d : PyData} : Up (isD d) := fun _ _ _ _ _ h => h
theorem up_sl {K : PySem.W.Frag} {p : Addr} {i : Nat} : Up (slD K p i) := fun _ _ _ _ s ⟨v, e, h⟩ => ⟨v, e, Dq.same h s⟩
theorem up_nil : Up nilD := fun _ _ _ _ _ h => h
theorem up_cons {P : DP} {Ps : DPs} (h : Up P) (hs : Up Ps) : Up (consD P Ps) := fun σ H H' d s ⟨x, r, a, b, e⟩ => ⟨x, r, h σ H H' x s a, hs σ H H' r s b, e⟩
theorem up_tup {p : Addr} {Ps : DPs} (h : Up Ps) : Up (tupD p Ps) := fun σ H H' d s ⟨ds, a, b, c, e⟩ => ⟨ds, h σ H H' ds s a, b, Same.some s c, e⟩
theorem up_lst {p : Addr} {Ps : DPs} (h : Up Ps) : Up (lstD p Ps) := fun σ H H' d s ⟨ds, a, b, c, e⟩ => ⟨ds, h σ H H' ds s a, b, Same.some s c, e⟩
section
variable {X : Cx} {p : Addr}
theorem pd_str {x : Str} {j : Nat} {pos : Pos} : PE X (.Constant (.str x) j pos) (tD X.K p (isD (.str x))) := PE.imp pe_str fun _ H _ ⟨d, e, q⟩ => by
  cases (show d = .str x from e)
  exact q _ H (Same.refl _) (.str x)
theorem pd_int {x : Int} {j : Nat} {pos : Pos} : PE X (.Constant (.int x) j pos) (tD X.K p (isD (.int x))) := PE.imp pe_int fun _ H _ ⟨d, e, q⟩ => by
  cases (show d = .int x from e)
  exact q _ H (Same.refl _) (.int x)
theorem pd_bl {x : Bool} {j : Nat} {pos : Pos} : PE X (.Constant (.bool x) j pos) (tD X.K p (isD (.bool x))) := PE.imp pe_bl fun _ H _ ⟨d, e, q⟩ => by
  cases (show d = .bool x from e)
  exact q _ H (Same.refl _) (.bl x)
theorem pd_non {j : Nat} {pos : Pos} : PE X (.Constant .none j pos) (tD X.K p (isD .none)) := PE.imp pe_non fun _ H _ ⟨d, e, q⟩ => by
  cases (show d = .none from e)
  exact q _ H (Same.refl _) .non
theorem pd_v (i : Nat) {x : Str} {pos : Pos} (h : PE X (.Name x pos) (tVar i)) : PE X (.Name x pos) (tD X.K p (slD X.K p i)) := PE.imp h fun _ H _ ⟨_, ⟨v, e, hd⟩, q⟩ => ⟨v, e, q v H (Same.refl _) hd⟩
theorem pad_nil : PA X [] (aD X.K p nilD) := PA.imp pa_nil fun _ H _ ⟨ds, e, q⟩ => by
  cases (show ds = [] from e)
  exact q [] H (Same.refl _) .nil
theorem pad_cons {e : Expr} {es : List Expr} {P : DP} {Ps : DPs} (h : PE X e (tD X.K p P)) (hs : PA X es (aD X.K p Ps)) (u : Up Ps) (c : starEach (e :: es) X.env = (false, eval e X.env) :: starEach es X.env := by rfl) : PA X (e :: es) (aD X.K p (consD P Ps)) := PA.imp (pa_cons h hs c) fun σ H Q ⟨ds, ⟨d, r, a, b, e⟩, q⟩ => by
  subst e
  exact ⟨d, a, fun v H1 s1 h1 => ⟨r, u _ _ _ _ s1 b, fun vs H2 s2 h2 => q (v :: vs) H2 (s1.trans s2) (.cons (Dq.same h1 s2) h2)⟩⟩
theorem new_ne {p q : Addr} {H : Hp} (h : H p ≠ none) (n : H q = none) : q ≠ p := fun e => h (e ▸ n)
theorem pd_tup {es : List Expr} {k : Nat} {pos : Pos} {Ps : DPs} (h : PA X es (aD X.K p Ps)) : PE X (.Tuple es k pos) (tD X.K p (tupD p Ps)) := PE.imp (pe_tup h) fun σ H Q ⟨d, ⟨ds, a, b, c, e⟩, q⟩ => by
  subst e
  refine ⟨ds, a, fun vs H1 s1 h1 => ⟨by rw [dpAll_len h1]; exact Nat.le_of_lt (small1000 b), fun t nt => q _ _ (s1.trans (same_upd nt)) ?_⟩⟩
  exact .tup (SqT.of (hid_at (new_ne (Same.some s1 c) nt) upd_same)) (dpAll_same (hid_same (same_upd nt)) h1)
theorem pd_lst {es : List Expr} {pos : Pos} {Ps : DPs} (h : PA X es (aD X.K p Ps)) : PE X (.List es pos) (tD X.K p (lstD p Ps)) := PE.imp (pe_lst h) fun σ H Q ⟨d, ⟨ds, a, b, c, e⟩, q⟩ => by
  subst e
  refine ⟨ds, a, fun vs H1 s1 h1 => ⟨by rw [dpAll_len h1]; exact Nat.le_of_lt (small1000 b), fun t nt => q _ _ (s1.trans (same_upd nt)) ?_⟩⟩
  exact .lst (SqL.of (hid_at (new_ne (Same.some s1 c) nt) upd_same)) (dpAll_same (hid_same (same_upd nt)) h1)
/-- a list display, its list known -/
def tL (K : PySem.W.Frag) (p : Addr) (Ps : DPs) : TE := fun σ H Q => ∃ ds, Ps σ H ds ∧ ds.length ≤ 1000 ∧ H p ≠ none ∧ ∀ l xs H', Same H H' → l ≠ p → H l = none → H' l = some (.lst xs) → DqAll K p H' xs ds → Q (.ref l) H'
theorem pd_list {es : List Expr} {pos : Pos} {Ps : DPs} (h : PA X es (aD X.K p Ps)) : PE X (.List es pos) (tL X.K p Ps) := PE.imp (pe_lst h) fun σ H Q ⟨ds, a, b, c, q⟩ =>
  ⟨ds, a, fun vs H1 s1 h1 => ⟨by rw [dpAll_len h1]; exact Nat.le_of_lt (small1000 b), fun t nt => q t vs _ (s1.trans (same_upd nt)) (new_ne (Same.some s1 c) nt) (s1.free nt) upd_same (dpAll_same (hid_same (same_upd nt)) h1)⟩⟩
end
theorem dqAll_mem {K : PySem.W.Frag} {H : Hp} : ∀ {vs : List V} {ds : List PyData} {v : V}, DpAll K H vs ds → v ∈ vs → ∃ d ∈ ds, Dp K H v d
  | _, _, v, .nil, h => by cases h
  | _, _, v, .cons h hs, m => by
    rcases List.mem_cons.mp m with rfl | m
    · exact ⟨_, List.mem_cons_self .., h⟩
    · obtain ⟨d, hd, q⟩ := dqAll_mem hs m
      exact ⟨d, List.mem_cons_of_mem _ hd, q⟩
theorem dpAll_app {K : PySem.W.Frag} {H : Hp} : ∀ {vs us : List V} {ds es : List PyData}, DpAll K H vs ds → DpAll K H us es → DpAll K H (vs ++ us) (ds ++ es)
  | _, _, _, _, .nil, h => h
  | _, _, _, _, .cons h hs, h2 => .cons h (dpAll_app hs h2)
end Dr
namespace Dr
open PySem PySem.Spec PyProof.Rows L2
def testForms : List Form := [["in", "item", "used"], ["equal", "used", "used"], ["is", "used", "used"]]
def plainForms : List Form := [["new", "assigned", "items"], ["name", "assigned", "used"], ["copy", "assigned", "used"], ["get", "assigned", "owner", "value"], ["set", "owner", "value", "used"], ["add", "used", "items"], ["drop", "used", "items"], ["grow", "owner", "value", "items"], ["shrink", "owner", "value", "items"]]
def branchForms : List Form := [["if", "test", "plain"], ["unless", "test", "plain"]]
def rowForms : List Form := plainForms ++ branchForms
def resultForms : List Form := [["none"], ["box", "used"], ["copy", "used"], ["test", "test"]]
def makingForms : List Form := [["once", "items"], ["early", "kind", "value"]]
theorem test_ok : FmOk ok0 testForms := fmOk_by (by decide +kernel)
theorem plain_ok : FmOk ok0 plainForms := fmOk_by (by decide +kernel)
theorem making_ok : FmOk ok0 makingForms := fmOk_by (by decide +kernel)
def S1 (d : PyData) (z : Str) : Bool := if z = "test" then hasForm S0 d testForms else if z = "plain" then hasForm S0 d plainForms else S0 d z
def okA (_ : Str) : Prop := True
def fmLenB (fs : List Form) : Bool := fs.all fun f => decide (1 ≤ f.length) && f.all fun z => SeqAt.shaped (.str z)
theorem fmAll_by {fs : List Form} (h : fmLenB fs = true) : FmOk okA fs := by
  have q := List.all_eq_true.mp h
  refine ⟨fun f hf => ?_, fun f hf z hz => trivial⟩
  have := q f hf
  rw [Bool.and_eq_true] at this
  exact ⟨of_decide_eq_true this.1, fun z hz => List.all_eq_true.mp this.2 z hz⟩
theorem row_ok : FmOk okA rowForms := fmAll_by (by decide +kernel)
theorem branch_ok : FmOk okA branchForms := fmAll_by (by decide +kernel)
theorem result_ok : FmOk okA resultForms := fmAll_by (by decide +kernel)
/-- a module's name of forms -/
structure FmG (K : PySem.W.Frag) (mg : Str → Option Value) (x : Str) (fs : List Form) : Prop where
  ex : ∃ a, mg x = some (.ref a) ∧ Fms K a fs
section
variable {P : Program} {w : World} {K : PySem.W.Frag} {mg : Str → Option Value} {base : Heap}
theorem ok_sort1 {k : Nat} {f fI fO fN fH : Addr} {fd fdI fdO fdN fdH : FuncData} (F : Fun K "is_of_sort" "is_of_sort" sIsSort f fd) (TT : FmG K mg "TESTS" testForms) (TP : FmG K mg "PLAIN_ROWS" plainForms)
    (GI : FnOk P w K mg base CX0 2 fI fdI ["thing"] (spAsk K isItemsD)) (mI : mg "is_items" = some (.ref fI)) (kI : PySem.W.keepIn K (.ref fI) = true) (bI : Binds K fdI ["thing"] [])
    (GO : FnOk P w K mg base CX0 2 fO fdO ["thing"] (spAsk K isOwnerD)) (mO : mg "is_owner" = some (.ref fO)) (kO : PySem.W.keepIn K (.ref fO) = true) (bO : Binds K fdO ["thing"] [])
    (GN : FnOk P w K mg base CX0 1 fN fdN ["thing"] (spAsk K isNameD)) (mN : mg "is_name" = some (.ref fN)) (kN : PySem.W.keepIn K (.ref fN) = true) (bN : Binds K fdN ["thing"] [])
    (GH : FnOk P w K mg base CX0 k fH fdH ["thing", "forms"] (spHas K S0 ok0)) (mH : mg "has_form" = some (.ref fH)) (kH : PySem.W.keepIn K (.ref fH) = true) (bH : Binds K fdH ["thing", "forms"] []) (hk : 2 ≤ k) :
    FnOk P w K mg base CX0 (k + 1) f fd ["part", "sort"] (spSort K S1 okA) := by
  obtain ⟨aT, mT, fT⟩ := TT.ex
  obtain ⟨aP, mP, fP⟩ := TP.ex
  refine F.ok scIsSort (fun vs H Q E h => ?_) (fun cdv A outer s H vs Q E hr h => ?_)
  · obtain ⟨v, d, z, rfl, _⟩ := h
    rfl
  · obtain ⟨v, d, z, rfl, hd, hok, _, q⟩ := h
    have hr2 : Room 2 _ := hr.mono (by omega)
    refine ⟨_, pss_cons (ps_if (pt_cmpR op_eq (pv 1) pe_str (nomark _)) (pss_one (ps_ret (pe_call GI hr2 (by rfl) mI kI bI .nil pass0 (pa_cons (pv 0) pa_nil)))) pss_nil)
      (pss_cons (ps_if (pt_cmpR op_eq (pv 1) pe_str (nomark _)) (pss_one (ps_ret (pe_call GO hr2 (by rfl) mO kO bO .nil pass0 (pa_cons (pv 0) pa_nil)))) pss_nil)
      (pss_cons (ps_if (pt_cmpR op_eq (pv 1) pe_str (nomark _)) (pss_one (ps_ret (pe_call GH hr (by rfl) mH kH bH .nil pass0 (pa_cons (pv 0) (pa_cons (pe_glob (v := .ref aT) (by rfl) mT rfl) pa_nil))))) pss_nil)
      (pss_cons (ps_if (pt_cmpR op_eq (pv 1) pe_str (nomark _)) (pss_one (ps_ret (pe_call GH hr (by rfl) mH kH bH .nil pass0 (pa_cons (pv 0) (pa_cons (pe_glob (v := .ref aP) (by rfl) mP rfl) pa_nil))))) pss_nil)
      (pss_one (ps_ret (pe_call GN (hr.mono (by omega)) (by rfl) mN kN bN .nil pass0 (pa_cons (pv 0) pa_nil))))))), ?_⟩
    have inj : ∀ {a b : Str}, decide (V.str a = V.str b) = true → a = b := fun h => V.str.inj (of_decide_eq_true h)
    have ninj : ∀ {a b : Str}, ¬ decide (V.str a = V.str b) = true → a ≠ b := fun h e => h (decide_eq_true (by rw [e]))
    refine ⟨_, rfl, rfl, _, rfl, ite2 (fun k => ?_) (fun k => ?_)⟩
    · obtain rfl := inj k
      have e : S1 d "items" = isItemsD d := by
        unfold S1
        rw [if_neg (by decide +kernel), if_neg (by decide +kernel)]
        exact if_pos rfl
      rw [e] at q
      exact ⟨v, rfl, v, d, rfl, hd, hok, q⟩
    · have k1 := ninj k
      refine ⟨_, rfl, rfl, _, rfl, ite2 (fun k => ?_) (fun k => ?_)⟩
      · obtain rfl := inj k
        have e : S1 d "owner" = isOwnerD d := by
          unfold S1
          rw [if_neg (by decide +kernel), if_neg (by decide +kernel)]
          unfold S0
          rw [if_neg (by decide +kernel), if_pos rfl]
        rw [e] at q
        exact ⟨v, rfl, v, d, rfl, hd, hok, q⟩
      · have k2 := ninj k
        refine ⟨_, rfl, rfl, _, rfl, ite2 (fun k => ?_) (fun k => ?_)⟩
        · obtain rfl := inj k
          have e : S1 d "test" = hasForm S0 d testForms := if_pos rfl
          rw [e] at q
          exact ⟨v, rfl, v, d, aT, testForms, rfl, hd, hok, fT, test_ok.toD, q⟩
        · have k3 := ninj k
          refine ⟨_, rfl, rfl, _, rfl, ite2 (fun k => ?_) (fun k => ?_)⟩
          · obtain rfl := inj k
            have e : S1 d "plain" = hasForm S0 d plainForms := by
              unfold S1
              rw [if_neg (by decide +kernel), if_pos rfl]
            rw [e] at q
            exact ⟨v, rfl, v, d, aP, plainForms, rfl, hd, hok, fP, plain_ok.toD, q⟩
          · have k4 := ninj k
            have e : S1 d z = isNameD d := by
              unfold S1 S0
              rw [if_neg k3, if_neg k4, if_neg k1, if_neg k2]
            rw [e] at q
            exact ⟨v, rfl, v, d, rfl, hd, hok, q⟩
end
end Dr
namespace Dr
open PySem PySem.Spec PyProof.Rows L2
/-- what a def does that is called with keywords -/
abbrev SpK := List V → List V → Hp → VK → XK → Prop
def FnK (P : Program) (w : World) (K : PySem.W.Frag) (mg : Str → Option Value) (base : Heap) (CX : CXT) (k : Nat) (f : Addr) (ks : List Str) (sp : SpK) : Prop :=
  ∀ (A : Around) (outer : List Env) (s : Shared) (H : Hp) (us ws : List Value) (vs zs : List V) (Q : VK) (E : XK), Room k A → Env0 P w K mg base A outer s H → Vals vs us → Vals zs ws → zs.length = ks.length → sp vs zs H Q E →
    codeAny (model P w) A (.call (.ref f) ⟨us, ks.zip ws⟩) (CR CX outer P w H s Q E) s
section
variable {P : Program} {w : World} {K : PySem.W.Frag} {mg : Str → Option Value} {base : Heap} {CX : CXT} {k n : Nat} {f : Addr} {fd : FuncData} {ps ks : List Str} {sp : Sp} {spk spk' : SpK} {g : List Value → List Value → List Value} {gV : List V → List V → List V}
theorem FnK.of (F : FnOk P w K mg base CX k f fd ps sp) (hb : KBn K fd ps n ks g gV) : FnK P w K mg base CX k f ks (fun vs zs H Q E => vs.length = n ∧ sp (gV vs zs) H Q E) := fun A outer s H us ws vs zs Q E hr e0 r1 r2 l2 ⟨l1, h⟩ =>
  F.run A outer s H ⟨us, ks.zip ws⟩ (g us ws) _ Q E hr e0 (hb.to s us ws (e0.mod.kin.keeps fun b o e => (e0.bs b o e).1) (r1.length.symm.trans l1) (r2.length.symm.trans l2)) (hb.rel r1 r2) h
theorem FnK.imp (F : FnK P w K mg base CX k f ks spk) (i : ∀ vs zs H Q E, spk' vs zs H Q E → spk vs zs H Q E) : FnK P w K mg base CX k f ks spk' := fun A outer s H us ws vs zs Q E hr e0 r1 r2 l2 h => F A outer s H us ws vs zs Q E hr e0 r1 r2 l2 (i _ _ _ _ _ h)
theorem FnK.mono {j : Nat} (F : FnK P w K mg base CX j f ks spk) (h : j ≤ k) : FnK P w K mg base CX k f ks spk := fun A outer s H us ws vs zs Q E hr => F A outer s H us ws vs zs Q E (hr.mono h)
end
section
variable {CX : CXT} {P : Program} {w : World} {K : PySem.W.Frag} {mg : Str → Option Value} {base : Heap} {k n : Nat} {f : Addr} {name qual : Str} {params : Arguments} {body : List Stmt} {scope : Scope} {dV kV doc pm cdv ct oc : Value} {an od : Option Addr}
  {osl : Array (Option Value)} {N ps ks : List Str} {sp : Sp} {g : {α : Type} → List α → List α → List α}
/-- def f(a, .., *v, k = d, ..) -/
theorem fn_starK {pv : Str} (lk : K.lookup f = some ⟨oc, od, .func (PySem.W.fnOf name qual params body scope dV kV doc pm an cdv ct), osl⟩) (hcd : PySem.W.codeIn K cdv qual = true) (S : FnScope N (ps ++ [pv]) scope) (hCX : StX.CXUp CX)
    (hg : ∀ {α : Type} (xs ys : List α), xs.length = n → ys.length = ks.length → (g xs ys).length = ps.length) (hr0 : ∀ {vs zs : List V} {us ws : List Value}, Vals vs us → Vals zs ws → Vals (g vs zs) (g us ws))
    (hb : ∀ us rest ws : List Value, us.length = n → ws.length = ks.length → ∀ {M : Model} {A : Around} {E : Value → Shared → Prop} {s : Shared} {Q : List (Str × Value) → Shared → Prop}, K.In s.heap → wpAny M A (newTuple rest) (fun t s' => Q (ps.zip (g us ws) ++ [(pv, t)]) s') E s →
      wpAny M A (bindArgs (PySem.W.fnOf name qual params body scope dV kV doc pm an cdv ct) ⟨us ++ rest, ks.zip ws⟩) Q E s)
    (hbody : ∀ (A : Around) (outer : List Env) (s : Shared) (H : Hp) (vs : List V) (Q : VK) (E : XK), Room k (A.deeper (envOfC qual scope s.heap.objs.size f cdv)) → sp vs H Q E →
      ∃ t, PSs (cxOf CX P w K mg base N qual scope f cdv A outer s H E) body t ∧ t { nx := fun _ H' => Q .non H', rt := Q } (start N vs) H) :
    FnK P w K mg base CX (k + 1) f ks (fun vs zs H Q E => ∃ xs rest, vs = xs ++ rest ∧ xs.length = n ∧ rest.length ≤ sizeLine ∧ ∀ p, H p = Option.none → sp (g xs zs ++ [V.ref p]) (upd H p (.tup rest)) Q E) := by
  intro A outer s H us ws vs zs Q E hr e0 r rz lz hsp
  obtain ⟨xs, rest, ev, hl, hz, hq⟩ := hsp
  subst ev
  obtain ⟨u1, u2, eu, r1, r2⟩ := StX.vals_split r
  subst eu
  have hn : H s.heap.objs.size = Option.none := e0.hok.fresh (Nat.le_refl _)
  have hl1 : u1.length = n := by rw [← r1.length]; exact hl
  have hlw : ws.length = ks.length := by rw [← rz.length]; exact lz
  have hl2 : u2.length ≤ sizeLine := by rw [← r2.length]; exact hz
  have KX : K.In s.heap := e0.mod.kin.keeps fun b o e => (e0.bs b o e).1
  refine StX.run_bnd lk hcd S hr e0 (G := fun ys H2 => ∃ p, H p = Option.none ∧ ys = g xs zs ++ [V.ref p] ∧ H2 = upd H p (.tup rest)) (fun A' Ex Q' h => ?_) fun s2 H2 ys ⟨p, hp, ex, eH⟩ hr' => ?_
  · refine hb u1 u2 ws hl1 hlw KX (wpAny_newTuple ?_ hl2)
    have new : ObjOk P w (upd H s.heap.objs.size (.tup rest)) (s.heap.push ({ cls := .type "tuple", data := .seq u2.toArray } : Obj)) s.heap.objs.size (.tup rest) := ⟨hz, u2, r2, ⟨_, Heap.get?_push_size _ rfl, rfl, _, rfl⟩⟩
    have un := StX.un_laid (fs := frs outer) (s := s) (o := ({ cls := .type "tuple", data := .seq u2.toArray } : Obj)) (u := .tup rest) hn
    have z := h _ _ (g xs zs ++ [V.ref s.heap.objs.size]) (g u1 ws ++ [Value.ref s.heap.objs.size]) (StX.env0_laid e0 new) un rfl (fun e s' => hCX outer s H _ _ E e s' un (fun b o q => Heap.get?_push_of_some _ q) rfl) ((hr0 r1 rz).append (.cons rfl .nil))
      (by rw [List.length_append, List.length_append, hg xs zs hl lz] <;> rfl) ⟨_, hn, rfl, rfl⟩
    rw [List.zip_append (hg u1 ws hl1 hlw).symm] at z
    exact z
  · subst ex eH
    exact hbody A outer s2 _ _ Q E hr' (hq p hp)
end
section
variable {M : Model} {A : Around} {E : Value → Shared → Prop} {s : Shared} {K : PySem.W.Frag} {env : Env} {pos : Pos} {f : Value} {first : List Value} {Q : Value → Shared → Prop} {e : Expr} {rest : List Expr} {kws : List Keyword}
theorem ks_callK {P : Heap → Prop} {args : List (Bool × Sem Value)} {keywords : List (Option Str × Sem Value)} (hst : args.any (·.1) = true)
    (hk : ∀ h, P h → ∃ k, (k = Keeper.frame ∨ k = Keeper.machine ∨ k = Keeper.boundFrame) ∧ PySem.W.Looks M h (keeperOf f) k)
    (h : wpAny M A (evalArgs f true args keywords) (fun a s₁ => P s₁.heap ∧ wpAny M A (call f (first ++ a.pos) a.kw) Q E s₁) E s) : wpAny M A (callWith pos f first args keywords) Q E s := by
  unfold callWith
  refine wpAny_bind (wpAny_holding (wpAny_mono h (fun a s₁ h₁ => wpAny_bind (wpAny_standAt ?_)) fun _ _ x => x))
  obtain ⟨k, hk', L⟩ := hk _ h₁.1
  simp only [hst, Bool.true_or]
  refine wpAny_bind (L.here ?_)
  have tail : ∀ {t : Sem Value}, wpAny M A t Q E s₁ → wpAny M A (t >>= fun r => holding [r] point >>= fun _ => pure r) Q E s₁ :=
    fun ht => wpAny_bind (wpAny_mono ht (fun r s₂ hr => wpAny_bind (wpAny_holding (wpAny_point (wpAny_pure hr)))) fun _ _ x => x)
  have marked (mk : Value) : wpAny M A (callMarked mk f (first ++ a.pos) a.kw) Q E s₁ := by unfold callMarked; exact Calls.wpAny_keep h₁.2
  rcases hk' with rfl | rfl | rfl <;> dsimp only <;> first | exact tail (marked _) | exact tail (wpAny_operating h₁.2)
theorem callWith_SKW (hk : PySem.W.keepIn K f = true) (hall : (backToKw pos (keywordEach kws env)).all (·.1.isSome) = true)
    (h : wpAny M A (spliced (backTo pos (starEach (e :: rest) env))) (fun vs s₁ => wpAny M A (evalAll ((backToKw pos (keywordEach kws env)).map (·.2)))
      (fun ks s₂ => K.In s₂.heap ∧ wpAny M A (call f (first ++ vs) (((backToKw pos (keywordEach kws env)).filterMap (·.1)).zip ks)) Q E s₂) E s₁) E s)
    (hst : (backTo pos (starEach (e :: rest) env)).any (·.1) = true) (he : starEach (e :: rest) env = (false, eval e env) :: starEach rest env) :
    wpAny M A (callWith pos f first (backTo pos (starEach (e :: rest) env)) (backToKw pos (keywordEach kws env))) Q E s :=
  ks_callK hst (PySem.W.keeps_K hk) (evalArgs_kw2 hall h he)
theorem callWith_MKW {q g : Addr} {self : Value} (hf : PySem.W.fnIn K g = true) (hall : (backToKw pos (keywordEach kws env)).all (·.1.isSome) = true)
    (h : wpAny M A (spliced (backTo pos (starEach (e :: rest) env))) (fun vs s₁ => wpAny M A (evalAll ((backToKw pos (keywordEach kws env)).map (·.2)))
      (fun ks s₂ => PySem.W.MethP K q g self s₂.heap ∧ wpAny M A (call (.ref q) (first ++ vs) (((backToKw pos (keywordEach kws env)).filterMap (·.1)).zip ks)) Q E s₂) E s₁) E s)
    (hpl : ((backTo pos (starEach (e :: rest) env)).any (·.1) || (backToKw pos (keywordEach kws env)).any (·.1.isNone)) = false) (he : starEach (e :: rest) env = (false, eval e env) :: starEach rest env) :
    wpAny M A (callWith pos (.ref q) first (backTo pos (starEach (e :: rest) env)) (backToKw pos (keywordEach kws env))) Q E s :=
  PySem.W.callWith_of hpl (PySem.W.keeps_M hf) (evalArgs_kw2 hall h he)
end
section
variable {X : Cx} {pins : List (Addr × Obj)} {σ : L2.St} {H : Hp} {s : Shared} {CX : CXT} {k : Nat} {f C g : Addr} {ks : List Str} {sp : SpK} {E : XK} {Q : VK} {us ws : List Value} {vs zs : List V}
theorem run_fnK (F : FnK X.prog X.w X.K X.mg X.base CX k f ks sp) (hr : Room k X.A) (hx : PassesAt CX X σ E) (I : Inv X pins σ H s) (r : Vals vs us) (rz : Vals zs ws) (lz : zs.length = ks.length) (h : sp vs zs H Q E) :
    codeAny (model X.prog X.w) X.A (.call (.ref f) ⟨us, ks.zip ws⟩) (fun r s' => match r with | .ok (.ret v) => EP X pins σ Q v s' | .ok _ => False | .error e => X.xe e s') s := by
  refine codeAny_mono (F X.A X.stack s H us ws vs zs Q E hr I.env0 r rz lz h) fun r s' hq => ?_
  cases r with
  | error e => exact hx pins H s e s' I hq
  | ok fl =>
    cases fl with
    | ret u => exact I.after hq
    | next => exact False.elim hq
    | brk => exact False.elim hq
    | cont => exact False.elim hq
/-- C(..) with keywords, C's __init__ told by FnK -/
theorem run_makeSK (M : Mk X.K C f) (F : FnK X.prog X.w X.K X.mg X.base CX k f ks sp) (hr : Room (k + 1) X.A) (hx : PassesAt CX X σ E) (I : Inv X pins σ H s) (r : Vals vs us) (rz : Vals zs ws) (lz : zs.length = ks.length)
    (h : ∀ x dx, H x = none → H dx = none → dx ≠ x → sp (.ref x :: vs) zs (upd (upd H dx (.own x)) x (.ins C dx [])) (fun v H3 => v = .non ∧ Q (.ref x) H3) E) :
    wpAny (model X.prog X.w) X.A (call (.ref C) us (ks.zip ws)) (EP X pins σ Q) X.xe s := by
  have hq := h (s.heap.objs.size + 1) s.heap.objs.size (I.hok.fresh (Nat.le_succ _)) (I.hok.fresh (Nat.le_refl _)) (Nat.ne_of_lt (Nat.lt_succ_self _))
  have I2 := Inv.made (C := C) I
  refine wpAny_call (make_map (f := f) I.kIn M.makes M.init (beq_iff_eq.mp M.fn) (codeAny_mono (F _ X.stack _ _ (Value.ref (s.heap.objs.size + 1) :: us) ws (V.ref (s.heap.objs.size + 1) :: vs) zs _ E (hr.make C us (ks.zip ws))
    (I2.env0.make C us (ks.zip ws)) (.cons rfl r) rz lz hq) fun r s' hq' => ?_))
  cases r with
  | error e => exact hx pins _ _ e s' I2 hq'
  | ok fl =>
    cases fl with
    | ret u =>
      obtain ⟨v, H', I3, rv, ev, q3⟩ := I2.after hq'
      subst ev
      exact ⟨rv, ⟨V.ref (s.heap.objs.size + 1), H', I3, rfl, q3⟩⟩
    | next => exact False.elim hq'
    | brk => exact False.elim hq'
    | cont => exact False.elim hq'
end
/-- cls(e, *y, k = v, ..): a new instance of the class that a local name holds -/
def tMkSK (C : Addr) (m : Nat) (sp : SpK) (E : L2.St → XK) (tf : TE) (t tk : TA) : TE := fun σ H Q => tf σ H fun y H0 => y = .ref C ∧ t σ H0 fun vs H1 => tk σ H1 fun zs H2 => zs.length = m ∧ ∀ x dx, H2 x = none → H2 dx = none → dx ≠ x →
  sp (.ref x :: vs) zs (upd (upd H2 dx (.own x)) x (.ins C dx [])) (fun v H3 => v = .non ∧ Q (.ref x) H3) (E σ)
/-- C.m(e, .., k = v, ..), C a class of the module, m a classmethod -/
def tCMethK (C : Addr) (m : Nat) (sp : SpK) (E : L2.St → XK) (ta : TE) (t tk : TA) : TE := fun σ H Q => ta σ H fun x H1 => x = .ref C ∧ t σ H1 fun vs H2 => tk σ H2 fun zs H3 => zs.length = m ∧ sp (.ref C :: vs) zs H3 Q (E σ)
section
variable {X : Cx} {CX : CXT} {k : Nat} {f C g p : Addr} {mc : Value} {ks : List Str} {sp : SpK} {E : L2.St → XK} {x m : Str} {np pos apos : Pos} {e o : Expr} {es : List Expr} {kws : List Keyword} {tf ta : TE} {t tk : TA} {pl : Sem Bool}
theorem pe_clsSK (M : Mk X.K C f) (F : FnK X.prog X.w X.K X.mg X.base CX k f ks sp) (hr : Room (k + 1) X.A) (hf : PE X (.Name x np) tf) (hx : ∀ σ, PassesAt CX X σ (E σ)) (ha : PA X (e :: es) t) (hkw : PK X kws tk)
    (hall : (backToKw pos (keywordEach kws X.env)).all (·.1.isSome) = true := by rfl) (hks : (backToKw pos (keywordEach kws X.env)).filterMap (·.1) = ks := by rfl)
    (he : starEach (e :: es) X.env = (false, eval e X.env) :: starEach es X.env := by rfl) (hst : (backTo pos (starEach (e :: es) X.env)).any (·.1) = true := by rfl) :
    PE X (.Call (.Name x np) (e :: es) kws pos) (tMkSK C ks.length sp E tf t tk) := by
  refine ⟨fun pins s σ H Q I h => ?_⟩
  refine wpAny_Call_Name_kw (thn (hf.run pins s σ H _ I h) fun u s0 ⟨y, H0, I0, ry, ey, q0⟩ => ?_)
  subst ey
  obtain rfl : u = Value.ref C := ry
  refine callWith_SKW (K := X.K) M.kp hall (thn (ha.run pos pins s0 σ H0 _ I0 q0) fun us s1 ⟨vs, H1, I1, r, q1⟩ => ?_) hst he
  refine thn (hkw.run pos pins s1 σ H1 _ I1 q1) fun ws s2 ⟨zs, H2, I2, rz, lz, q2⟩ => ⟨I2.kIn, ?_⟩
  rw [hks]
  exact run_makeSK M F hr (hx σ) I2 r rz lz q2
theorem pe_cmethK (he : PE X o ta) (r : ClX.CRead X.K C mc) (c : ClX.CMet X.K C mc m p g) (F : FnK X.prog X.w X.K X.mg X.base CX k g ks sp) (hr : Room k X.A) (hx : ∀ σ, PassesAt CX X σ (E σ)) (ha : PA X (e :: es) t) (hkw : PK X kws tk)
    (hall : (backToKw pos (keywordEach kws X.env)).all (·.1.isSome) = true := by rfl) (hks : (backToKw pos (keywordEach kws X.env)).filterMap (·.1) = ks := by rfl)
    (hst : starEach (e :: es) X.env = (false, eval e X.env) :: starEach es X.env := by rfl) (hpl : ((backTo pos (starEach (e :: es) X.env)).any (·.1) || (backToKw pos (keywordEach kws X.env)).any (·.1.isNone)) = false := by rfl)
    (ht : eval (.Call (.Attribute o m apos) (e :: es) kws pos) X.env = (do
      let ov ← eval o X.env
      standAt apos.atName
      let (f, first) ← holding [ov] (getMethod ov m pl)
      callWith pos f first (backTo pos (starEach (e :: es) X.env)) (backToKw pos (keywordEach kws X.env))) := by rfl) :
    PE X (.Call (.Attribute o m apos) (e :: es) kws pos) (tCMethK C ks.length sp E ta t tk) := by
  refine ⟨fun pins s σ H Q I h => ?_⟩
  refine PySem.W.methodCall_KW (pl := pl) (thn (he.run pins s σ H _ I h) fun u s1 ⟨x, H1, I1, rx, ex, q⟩ => ?_) ht
  subst ex
  obtain rfl : u = Value.ref C := rx
  refine ClX.getmethcm_ok I1 r c fun s2 I2 => ?_
  refine callWith_MKW (K := X.K) (self := .ref C) c.fi hall (thn (ha.run pos _ s2 σ H1 _ I2 q) fun us s3 ⟨vs, H2, I3, rv, q2⟩ => ?_) hpl hst
  refine thn (hkw.run pos _ s3 σ H2 _ I3 q2) fun ws s4 ⟨zs, H3, I4, rz, lz, q3⟩ => ⟨⟨ClX.pin_at I4, I4.kIn⟩, ?_⟩
  rw [hks]
  have z : wpAny (model X.prog X.w) X.A (call (.ref s1.heap.objs.size) us (ks.zip ws)) (EP X ((s1.heap.objs.size, PySem.W.methodObj (.ref g) (.ref C)) :: pins) σ Q) X.xe s4 :=
    wpAny_call (PySem.W.method_call (ClX.pin_at I4) (run_fnK (us := .ref C :: us) (vs := .ref C :: vs) F hr (hx σ) I4 (.cons rfl rv) rz lz q3))
  exact thn z fun _ _ y => ClX.unpinE y
end
end Dr
namespace Dr
open PySem PySem.Spec PyProof.Rows L2
abbrev sAgain : Stmt := topS 15
theorem scAgain : FnScope ["names", "taken", "at", "name"] ["names", "taken"] (defScope sAgain) := ⟨rfl, rfl, rfl, by decide +kernel, rfl, by decide +kernel, by decide +kernel⟩
/-- the name at j is new -/
def NewAt (us zs : List Str) (j : Nat) : Prop := ∀ y, zs[j]? = some y → y ∉ us ∧ y ∉ zs.take j
theorem cut_take (xs : List V) (i : Nat) (hi : i ≤ xs.length) : cutV xs none (some (i : Int)) = xs.take i := by
  unfold cutV
  rw [show HT.sIx xs.length xs.length (some (i : Int)) = min i xs.length from HT.sIx_nat _ _ i, HT.sIx_none]
  rw [List.drop_zero, Nat.min_eq_left hi]
  simp
section
variable {P : Program} {w : World} {K : PySem.W.Frag} {mg : Str → Option Value} {base : Heap}
def spAgain (K : PySem.W.Frag) : Sp := fun vs H Q _ => ∃ (a t : Addr) (zs us : List Str), vs = [.ref a, .ref t] ∧ SqL K H a (zs.map V.str) ∧ (SqL K H t (us.map V.str) ∨ SqT K H t (us.map V.str)) ∧ zs.length ≤ 1000 ∧
  (∀ H', Same H H' → (∀ j, NewAt us zs j) → Q .non H') ∧ ∀ H' i z, Same H H' → zs[i]? = some z → (z ∈ us ∨ z ∈ zs.take i) → (∀ j, j < i → NewAt us zs j) → Q (.str z) H'
theorem Same.seqE {H H' : Hp} {a : Addr} {xs : List V} (s : Same H H') (h : SqL K H a xs ∨ SqT K H a xs) : SqL K H' a xs ∨ SqT K H' a xs := h.imp (fun h => s.seq h) (fun h => Same.seqT s h)
theorem ok_again {f : Addr} {fd : FuncData} (F : Fun K "first_again" "first_again" sAgain f fd) (hen : mg "enumerate" = none) : FnOk P w K mg base CX0 1 f fd ["names", "taken"] (spAgain K) := by
  refine F.ok scAgain (fun vs H Q E h => ?_) (fun cdv A outer s H vs Q E hr h => ?_)
  · obtain ⟨a, t, zs, us, rfl, _⟩ := h
    rfl
  · obtain ⟨a, t, zs, us, rfl, hS, hT, hz, q0, q1⟩ := h
    refine ⟨_, pss_cons (ps_for PassesOwn.never rfl (pi_enum (by rfl) hen (pa_cons (pv 0) pa_nil)) (pg_tup rfl (pgs_cons (pg_name (i := 2) scAgain.nd rfl (.inl rfl)) (pgs_cons (pg_name (i := 3) scAgain.nd rfl (.inl rfl)) pgs_nil)))
        (pss_one (ps_if (PW.pt (pw_or (pt_cmpR op_in_seq (pv 3) (pv 1) rfl) (pw_or1 (pt_cmpR op_in_seq (pv 3) (pe_slice sl_list (pv 0) po_none (po_some (pv 2))) rfl)))) (pss_one (ps_ret (pv 3))) pss_nil)))
      (pss_one (ps_ret pe_non)), ?_⟩
    refine ⟨_, rfl, a, zs.map V.str, rfl, hS, for_it walk_enum (fun i σ H1 => Same H H1 ∧ (∃ x y : Option V, σ = [some (.ref a), some (.ref t), x, y]) ∧ ∀ j, j < i → NewAt us zs j) ⟨Same.refl _, ⟨_, _, rfl⟩, fun j h => absurd h (Nat.not_lt_zero j)⟩ (fun n σ H1 _ h => h.1.seq hS) ?_ ?_⟩
    · rintro n y σ H1 H2 hn ⟨sm, ⟨x5, x6, rfl⟩, hall⟩ ⟨T', x, e, rfl, nT, rfl, e1, e2⟩
      rw [List.length_map] at hn
      obtain rfl := Option.some.inj e1
      have e2 := (show (zs.map V.str)[n]? = some _ from e2)
      rw [List.getElem?_map, List.getElem?_eq_getElem hn] at e2
      obtain rfl := Option.some.inj e2
      have hg : zs[n]? = some zs[n] := List.getElem?_eq_getElem hn
      have sT : Same H1 (upd H1 T' (.tup [.int (n : Int), .str zs[n]])) := same_upd nT
      have s2 := sm.trans sT
      refine ⟨T', _, rfl, .inl (.inl upd_same), rfl, _, _, rfl, _, _, rfl, rfl, ?_⟩
      have fresh : zs[n] ∉ us → zs[n] ∉ zs.take n → ∀ j, j < n + 1 → NewAt us zs j := fun h1 h2 j hj y hy => by
        by_cases e : j < n
        · exact hall j e y hy
        · obtain rfl : j = n := by omega
          rw [hg] at hy
          obtain rfl := Option.some.inj hy
          exact ⟨h1, h2⟩
      refine ⟨_, rfl, _, rfl, t, _, rfl, Same.seqE s2 hT, rfl, flat_strs _, _, rfl, ?_⟩
      rw [show inV (V.str zs[n]) (us.map V.str) = us.contains zs[n] from in_strs _ _]
      refine ite2 (fun k => ?_) (fun k => ?_)
      · exact ⟨_, rfl, q1 _ n _ s2 hg (.inl (by simpa using k)) hall⟩
      · refine ⟨_, rfl, _, rfl, _, rfl, (n : Int), rfl, a, zs.map V.str, rfl, s2.seq hS, fun l nl => ?_⟩
        rw [cut_take _ n (by rw [List.length_map]; omega), ← List.map_take]
        have sl := same_upd (o := .lst ((zs.take n).map V.str)) nl
        refine ⟨l, _, rfl, .inl (SqL.of upd_same), rfl, flat_strs _, _, rfl, ?_⟩
        rw [show inV (V.str zs[n]) ((zs.take n).map V.str) = (zs.take n).contains zs[n] from in_strs _ _]
        refine ite2 (fun k2 => ?_) (fun k2 => ?_)
        · exact ⟨_, rfl, q1 _ n _ (s2.trans sl) hg (.inr (by simpa using k2)) hall⟩
        · exact ⟨s2.trans sl, ⟨_, _, rfl⟩, fresh (by simpa using k) (by simpa using k2)⟩
    · rintro σ H1 ⟨sm, ⟨x5, x6, rfl⟩, hall⟩
      refine q0 _ sm fun j y hy => ?_
      have hj : j < zs.length := (List.getElem?_eq_some_iff.mp hy).1
      exact hall j (by rw [List.length_map]; exact hj) y hy
end
end Dr
namespace Dr
open PySem PySem.Spec PyProof.Rows L2
abbrev sParts : Stmt := topS 26
theorem scParts : FnScope ["thing", "forms", "form", "found", "part", "sort"] ["thing", "forms"] (defScope sParts) := ⟨rfl, rfl, rfl, by decide +kernel, rfl, by decide +kernel, by decide +kernel⟩
/-- pairs of a sort and a part stand at ts -/
def PtsAt (H : Hp) (ts : List Addr) (zs : List Str) (vs : List V) : Prop := ∀ (i : Nat) (t : Addr), ts[i]? = some t → ∃ z v, zs[i]? = some z ∧ vs[i]? = some v ∧ H t = some (.tup [.str z, v])
theorem PtsAt.same {H H' : Hp} {ts : List Addr} {zs : List Str} {vs : List V} (h : PtsAt H ts zs vs) (s : Same H H') : PtsAt H' ts zs vs := fun i t e => by
  obtain ⟨z, v, e1, e2, e3⟩ := h i t e
  exact ⟨z, v, e1, e2, s _ _ e3⟩
theorem PtsAt.nil {H : Hp} {zs : List Str} {vs : List V} : PtsAt H [] zs vs := fun i t e => by simp at e
theorem PtsAt.snoc {H : Hp} {ts : List Addr} {zs : List Str} {vs : List V} {t : Addr} {z : Str} {v : V} {n : Nat} (h : PtsAt H ts zs vs) (hn : ts.length = n) (e1 : zs[n]? = some z) (e2 : vs[n]? = some v) (e3 : H t = some (.tup [.str z, v])) : PtsAt H (ts ++ [t]) zs vs := fun i u e => by
  by_cases hi : i < ts.length
  · rw [List.getElem?_append_left hi] at e
    exact h i u e
  · rw [List.getElem?_append_right (by omega)] at e
    have : i - ts.length = 0 := by
      by_cases h0 : i - ts.length = 0
      · exact h0
      · rw [List.getElem?_eq_none (by show 1 ≤ _; omega)] at e
        cases e
    rw [this] at e
    obtain rfl := Option.some.inj e
    obtain rfl : i = n := by omega
    exact ⟨z, v, e1, e2, e3⟩
theorem PtsAt.grow {H : Hp} {ts : List Addr} {zs : List Str} {vs us ys : List V} {l : Addr} (h : PtsAt H ts zs vs) (hl : H l = some (.lst us)) : PtsAt (upd H l (.lst ys)) ts zs vs := fun i t e => by
  obtain ⟨z, v, e1, e2, e3⟩ := h i t e
  refine ⟨z, v, e1, e2, ?_⟩
  rw [upd_ne (fun z => by rw [z, hl] at e3; cases e3)]
  exact e3
theorem sqT_grow {K : PySem.W.Frag} {H : Hp} {a l : Addr} {xs us ys : List V} (h : SqT K H a xs) (hl : H l = some (.lst us)) : SqT K (upd H l (.lst ys)) a xs := by
  rcases h with (h | ⟨o, h⟩) | h
  · refine .inl (.inl ?_)
    rw [upd_ne (fun z => by rw [z, hl] at h; cases h)]
    exact h
  · refine .inl (.inr ⟨o, ?_⟩)
    rw [upd_ne (fun z => by rw [z, hl] at h; cases h)]
    exact h
  · exact .inr h
theorem same_grow {H H2 : Hp} {l : Addr} {o : HO} (s : Same H H2) (nl : H l = none) : Same H (upd H2 l o) := fun b x e => by
  rw [upd_ne (ne_of_none e nl)]
  exact s _ _ e
theorem two_le : 2 ≤ sizeLine := by decide
section
variable {P : Program} {w : World} {K : PySem.W.Frag} {mg : Str → Option Value} {base : Heap}
def spParts (K : PySem.W.Frag) : Sp := fun vs H Q _ => ∃ (va a : Addr) (xs : List V) (ds : List PyData) (fs : List Form) (fm : Form), vs = [.ref va, .ref a] ∧ SqT K H va xs ∧ DpAll K H xs ds ∧ OkD (.tuple ds) ∧ Fms K a fs ∧ (∀ f ∈ fs, 1 ≤ f.length ∧ ∀ z ∈ f, SeqAt.shaped (.str z) = true) ∧ formOf (.tuple ds) fs = some fm ∧ (∀ z ∈ fm.drop 1, ok0 z) ∧
  ∀ H' l ts, Same H H' → H l = none → H' l = some (.lst (ts.map V.ref)) → ts.length = min (xs.drop 1).length (fm.drop 1).length → PtsAt H' ts (fm.drop 1) (xs.drop 1) → Q (.ref l) H'
theorem ok_parts {f fF : Addr} {fd fdF : FuncData} (F : Fun K "parts_of" "parts_of" sParts f fd) (T : Wds K mg)
    (GF : FnOk P w K mg base CX0 1 fF fdF ["thing", "forms"] (spFormOf K)) (mF : mg "form_of" = some (.ref fF)) (kF : PySem.W.keepIn K (.ref fF) = true) (bF : Binds K fdF ["thing", "forms"] []) :
    FnOk P w K mg base CX0 2 f fd ["thing", "forms"] (spParts K) := by
  refine F.ok scParts (fun vs H Q E h => ?_) (fun cdv A outer s H vs Q E hr h => ?_)
  · obtain ⟨va, a, xs, ds, fs, fm, rfl, _⟩ := h
    rfl
  · obtain ⟨va, a, xs, ds, fs, fm, rfl, hS, hD, hok, hF, hlen, hfm, hok0, q⟩ := h
    refine ⟨_, pss_cons (ps_set (i := 2) scParts.nd rfl (.inl rfl) (pe_call GF hr (by rfl) mF kF bF .nil pass0 (pa_cons (pv 0) (pa_cons (pv 1) pa_nil))))
      (pss_cons (ps_set (i := 3) scParts.nd rfl (.inl rfl) (pe_lst pa_nil))
      (pss_cons (ps_for PassesOwn.never rfl (RZ.pi_zipA (by rfl) T.zip (pa_cons (pe_slice sl_tail (pv 0) (po_some pe_int) po_none) (pa_cons (pe_slice sl_tail (pv 2) (po_some pe_int) po_none) pa_nil)))
          (pg_tup rfl (pgs_cons (pg_name (i := 4) scParts.nd rfl (.inl rfl)) (pgs_cons (pg_name (i := 5) scParts.nd rfl (.inl rfl)) pgs_nil)))
        (pss_one (ps_if (pt_cmpR op_eq (pv 5) pe_str (nomark _)) (pss_one ps_never) (pss_one (ps_if (pt_cmpR op_eq (pv 5) pe_str (nomark _)) (pss_one ps_never)
          (pss_one (ps_expr (pe_bm PySem.F.plainAttrs_list PySem.F.slot_list_append PySem.F.type_list_append mt_append (pv 3) (pa_cons (pe_tup (pa_cons (pv 5) (pa_cons (pv 4) pa_nil))) pa_nil)))))))))
      (pss_one (ps_ret (pv 3))))), ?_⟩
    refine ⟨_, rfl, _, rfl, .ref va, .tuple ds, a, fs, rfl, .tup hS hD, hok, hF, hlen, fun hn => absurd (hfm.symm.trans hn) (by simp), fun fm' b hmem hf hat => ?_⟩
    rw [hfm] at hf
    obtain rfl := Option.some.inj hf
    obtain ⟨hlen1, hoks⟩ := hok.tup
    have hxl := dpAll_len hD
    refine ⟨Nat.zero_le _, fun l nl => ?_⟩
    have sl := same_upd (o := .lst []) nl
    refine ⟨_, rfl, 1, rfl, rfl, rfl, va, xs, rfl, Same.seqT sl hS, fun b1 H1 s1 hb1 => ?_⟩
    refine ⟨_, rfl, 1, rfl, rfl, rfl, b, _, rfl, hat _, fun b2 H2 s2 hb2 => ?_⟩
    rw [← List.map_drop] at hb2
    have hb1' := Same.seqT s2 hb1
    have s12 := (sl.trans s1).trans s2
    have hl2 : H2 l = some (.lst []) := s2 _ _ (s1 _ _ upd_same)
    refine ⟨b1, b2, xs.drop 1, (fm.drop 1).map V.str, rfl, .inr ⟨hb1', hb2, ?_⟩⟩
    refine for_it (walk_zipT rfl) (fun i σ H3 => Same H H3 ∧ (∃ x y, σ = [some (.ref va), some (.ref a), some (.ref b), some (.ref l), x, y]) ∧ SqT K H3 b1 (xs.drop 1) ∧ SqT K H3 b2 ((fm.drop 1).map V.str) ∧ ∃ ts, H3 l = some (.lst (ts.map V.ref)) ∧ ts.length = i ∧ PtsAt H3 ts (fm.drop 1) (xs.drop 1)) ⟨s12, ⟨_, _, rfl⟩, hb1', hb2, [], hl2, rfl, PtsAt.nil⟩ (fun _ _ _ _ h => ⟨h.2.2.1, h.2.2.2.1⟩) ?_ ?_
    · rintro i y σ H3 H4 hi ⟨sm, ⟨x5, x6, rfl⟩, hB1, hB2, ts, hl, hts, hp⟩ ⟨T', x, u, rfl, nT, rfl, e1, e2⟩
      have e1 := (show (xs.drop 1)[i]? = some x from e1)
      have e2 := (show ((fm.drop 1).map V.str)[i]? = some u from e2)
      rw [List.getElem?_map] at e2
      cases hz : (fm.drop 1)[i]? with
      | none =>
        rw [hz] at e2
        cases e2
      | some z =>
        rw [hz] at e2
        obtain rfl := Option.some.inj e2
        have hok := hok0 z (List.mem_of_getElem? hz)
        have sT : Same H3 (upd H3 T' (.tup [x, .str z])) := same_upd nT
        have inj : ∀ {a b : Str}, decide (V.str a = V.str b) = true → a = b := fun h => V.str.inj (of_decide_eq_true h)
        refine ⟨T', _, rfl, .inl (.inl upd_same), rfl, _, _, rfl, _, _, rfl, rfl, ?_⟩
        refine ⟨_, rfl, rfl, _, rfl, ite2 (fun k => absurd (inj k) hok.1) (fun _ => ?_)⟩
        refine ⟨_, rfl, rfl, _, rfl, ite2 (fun k => absurd (inj k) hok.2) (fun _ => ?_)⟩
        have hlT := sT _ _ hl
        have hi2 : i < (xs.drop 1).length := (List.getElem?_eq_some_iff.mp e1).1
        refine ⟨_, rfl, .inl ⟨rfl, _, SqL.of hlT⟩, _, rfl, _, rfl, two_le, fun t nt => ?_⟩
        have st := same_upd (o := .tup [.str z, x]) nt
        have tl : t ≠ l := fun e => by
          rw [e, hlT] at nt
          cases nt
        refine ⟨l, _, _, rfl, rfl, st _ _ hlT, ?_, ?_⟩
        · rw [List.length_map, hts]
          rw [List.length_drop] at hi2
          exact small1000 (by omega)
        · refine ⟨same_grow ((sm.trans sT).trans st) nl, ⟨_, _, rfl⟩, sqT_grow (Same.seqT st (Same.seqT sT hB1)) (st _ _ hlT), sqT_grow (Same.seqT st (Same.seqT sT hB2)) (st _ _ hlT), ts ++ [t], ?_, by rw [List.length_append, hts]; rfl, ?_⟩
          · rw [upd_same, List.map_append]
            rfl
          · refine PtsAt.snoc (((hp.same sT).same st).grow (st _ _ hlT)) hts hz e1 ?_
            rw [upd_ne tl]
            exact upd_same
    · rintro σ H3 ⟨sm, ⟨x5, x6, rfl⟩, hB1, hB2, ts, hl, hts, hp⟩
      refine ⟨_, rfl, q _ l ts sm nl hl ?_ hp⟩
      rw [hts]
      simp
end
end Dr
namespace Dr
open PySem PySem.Spec PyProof.Rows L2
abbrev sUses : Stmt := topS 31
theorem scUses : FnScope ["parts", "usable", "sort", "part"] ["parts", "usable"] (defScope sUses) := ⟨rfl, rfl, rfl, by decide +kernel, rfl, by decide +kernel, by decide +kernel⟩
def usedsB (us : List Str) : List Str → List V → List Bool
  | z :: zs, v :: vs => if z = "used" then inV v (us.map V.str) :: usedsB us zs vs else usedsB us zs vs
  | _, _ => []
theorem usedsB_app (us : List Str) (z : Str) (v : V) : ∀ (zs : List Str) (vs : List V), zs.length = vs.length → usedsB us (zs ++ [z]) (vs ++ [v]) = usedsB us zs vs ++ (if z = "used" then [inV v (us.map V.str)] else [])
  | [], [], _ => by
    show (if z = "used" then inV v (us.map V.str) :: [] else []) = _
    split <;> rfl
  | x :: zs, y :: vs, h => by
    have ih := usedsB_app us z v zs vs (by simpa using h)
    show (if x = "used" then _ :: usedsB us (zs ++ [z]) (vs ++ [v]) else usedsB us (zs ++ [z]) (vs ++ [v])) = (if x = "used" then inV y (us.map V.str) :: usedsB us zs vs else usedsB us zs vs) ++ _
    rw [ih]
    split <;> simp
  | [], _ :: _, h => by simp at h
  | _ :: _, [], h => by simp at h
theorem usedsB_take {us zs : List Str} {vs : List V} {i : Nat} {z : Str} {v : V} (h1 : zs[i]? = some z) (h2 : vs[i]? = some v) : usedsB us (zs.take (i + 1)) (vs.take (i + 1)) = usedsB us (zs.take i) (vs.take i) ++ (if z = "used" then [inV v (us.map V.str)] else []) := by
  have l1 := (List.getElem?_eq_some_iff.mp h1).1
  have l2 := (List.getElem?_eq_some_iff.mp h2).1
  rw [List.take_add_one, h1, List.take_add_one, h2]
  exact usedsB_app us z v _ _ (by rw [List.length_take, List.length_take]; omega)
theorem usedsB_len (us : List Str) : ∀ (zs : List Str) (vs : List V), (usedsB us zs vs).length ≤ zs.length
  | [], _ => Nat.zero_le _
  | _ :: _, [] => Nat.zero_le _
  | z :: zs, v :: vs => by
    have ih := usedsB_len us zs vs
    show (if z = "used" then inV v (us.map V.str) :: usedsB us zs vs else usedsB us zs vs).length ≤ _
    split
    · rw [List.length_cons, List.length_cons]
      omega
    · rw [List.length_cons]
      omega
def usesB (us zs : List Str) (vs : List V) : Bool := (usedsB us zs vs).all id
section
variable {P : Program} {w : World} {K : PySem.W.Frag} {mg : Str → Option Value} {base : Heap}
def spUses (K : PySem.W.Frag) : Sp := fun vs H Q _ => ∃ (a u : Addr) (ts : List Addr) (zs us : List Str) (ps : List V), vs = [.ref a, .ref u] ∧ SqL K H a (ts.map V.ref) ∧ SqL K H u (us.map V.str) ∧ PtsAt H ts zs ps ∧ ts.length = zs.length ∧ ts.length = ps.length ∧ ts.length ≤ 1000 ∧ (∀ (i : Nat) (v : V), zs[i]? = some "used" → ps[i]? = some v → flatV v = true) ∧ ∀ H', Same H H' → Q (.bl (usesB us zs ps)) H'
theorem ok_uses {f : Addr} {fd : FuncData} (F : Fun K "uses_only" "uses_only" sUses f fd) (T : Wds K mg) : FnOk P w K mg base CX0 1 f fd ["parts", "usable"] (spUses K) := by
  refine F.ok scUses (fun vs H Q E h => ?_) (fun cdv A outer s H vs Q E hr h => ?_)
  · obtain ⟨a, u, ts, zs, us, ps, rfl, _⟩ := h
    rfl
  · obtain ⟨a, u, ts, zs, us, ps, rfl, hS, hU, hP, l1, l2, l3, hfl, q⟩ := h
    refine ⟨_, pss_one (ps_ret (pe_callB (cr_all rfl) (by rfl) T.all (by decide +kernel) (pa_cons
          (pe_lc (own := [("sort", 2), ("part", 3)]) (g := gTup K 2 (gCons (gName 2) (gCons (gName 3) gNil))) rfl scUses.nd (pi_list (pv 0))
            (blkOk_by (N := ["parts", "usable", "sort", "part"]) (sc := defScope sUses) (by decide +kernel)) (fun _ _ _ _ _ => pg_tup rfl (pgs_cons (pg_name (i := 2) scUses.nd rfl (Or.inl rfl)) (pgs_cons (pg_name (i := 3) scUses.nd rfl (Or.inl rfl)) pgs_nil))) (fun _ _ _ _ _ => pts_one (pt_cmpR op_eq (pv 2) pe_str (nomark _)))
            (fun _ _ _ _ _ => pe_cmpR (show OpR _ _ (rIn K false) from op_in_seq) (pv 3) (pv 1) rfl)) pa_nil))), ?_⟩
    refine ⟨_, rfl, a, rfl, ⟨_, hS⟩, fun D hD => ?_⟩
    refine lc_it walk_list (fun i H3 => Same H H3 ∧ H3 D = some (.lst ((usedsB us (zs.take i) (ps.take i)).map V.bl))) ⟨same_upd hD, upd_same⟩ (fun _ _ _ h => h.1.seq hS) ?_ ?_
    · rintro i y H3 H4 hi ⟨sm, hl⟩ ⟨rfl, e1⟩
      rw [List.getElem?_map] at e1
      cases ht : ts[i]? with
      | none =>
        rw [ht] at e1
        cases e1
      | some t =>
        rw [ht] at e1
        obtain rfl := Option.some.inj e1
        obtain ⟨z, v, hz, hv, hT⟩ := hP i t ht
        refine ⟨t, _, rfl, SqT.of (sm _ _ hT), rfl, _, _, rfl, _, _, rfl, rfl, rfl, ?_⟩
        have hi' : i < ts.length := (List.getElem?_eq_some_iff.mp ht).1
        refine ⟨_, rfl, rfl, _, rfl, ?_⟩
        by_cases hu : z = "used"
        · subst hu
          rw [decide_eq_true rfl]
          refine iteT ?_
          refine ⟨_, rfl, _, rfl, u, _, rfl, .inl (sm.seq hU), hfl i v hz hv, flat_strs _, ?_⟩
          refine ⟨_, hl, ?_, same_grow sm hD, ?_⟩
          · rw [List.length_map]
            have := usedsB_len us (zs.take i) (ps.take i)
            rw [List.length_take] at this
            exact small1000 (by omega)
          · rw [upd_same, usedsB_take hz hv, if_pos rfl, List.map_append]
            rfl
        · rw [decide_eq_false (fun e => hu (V.str.inj e))]
          refine iteF ⟨sm, ?_⟩
          rw [hl, usedsB_take hz hv, if_neg hu, List.append_nil]
    · rintro H3 ⟨sm, hl⟩
      rw [List.length_map, l1, List.take_length, ← l1, l2, List.take_length] at hl
      exact ⟨D, _, rfl, .inl (.inl hl), q _ sm⟩
end
end Dr
namespace Dr
open PySem PySem.Spec PyProof.Rows L2
open SX (S S_len S_cat)
theorem ltCps_tri : ∀ a b : List Nat, ltCps b a = false → a ≠ b → ltCps a b = true
  | [], [], _, n => absurd rfl n
  | [], _ :: _, _, _ => rfl
  | _ :: _, [], h, _ => by cases h
  | x :: r, y :: t, h, n => by
    have h' : ¬ y < x ∧ ((y == x) = true → ltCps t r = false) := by
      have q : (decide (y < x) || (y == x && ltCps t r)) = false := h
      rw [Bool.or_eq_false_iff] at q
      refine ⟨of_decide_eq_false q.1, fun e => ?_⟩
      have q2 := q.2
      rw [e] at q2
      exact q2
    show (decide (x < y) || (x == y && ltCps r t)) = true
    by_cases e : x = y
    · subst e
      have ih := ltCps_tri r t (h'.2 (beq_self_eq_true _)) (fun z => n (by rw [z]))
      rw [ih]
      simp
    · rw [decide_eq_true (show x < y by omega)]
      rfl
theorem asc_of : ∀ ys : List Str, sortedS ys = true → ys.Nodup → ascS ys = true
  | [], _, _ => rfl
  | [_], _, _ => rfl
  | x :: y :: r, h, n => by
    have h' : (!ltCps y.cps.toList x.cps.toList) = true ∧ risingS y r = true := by
      have q : (!ltCps y.cps.toList x.cps.toList && risingS y r) = true := h
      rw [Bool.and_eq_true] at q
      exact q
    have hne : x.cps.toList ≠ y.cps.toList := fun e => by
      have : x = y := by
        rw [← SX.S_tl x, ← SX.S_tl y, e]
      rw [List.nodup_cons] at n
      exact n.1 (by rw [this]; exact List.mem_cons_self ..)
    have hlt : ltS x y = true := by
      unfold ltS
      rw [← ltCps_eq]
      exact ltCps_tri _ _ (by simpa using h'.1) hne
    show (ltS x y && ascS (y :: r)) = true
    rw [hlt, asc_of (y :: r) h'.2 (List.nodup_cons.mp n).2]
    rfl
structure SmS (z : Str) : Prop where
  ok : PyData.strOk z = true
  sm : z.length ≤ 1000
structure ItsOk (zs : List Str) : Prop where
  nm : ∀ z ∈ zs, nameOk z = true
  sm : ∀ z ∈ zs, SmS z
  asc : ascS zs = true
  len : zs.length ≤ 20
theorem sms_good {cs : List Nat} (g : GoodN cs) : SmS (S cs) := by
  refine ⟨?_, by rw [S_len]; have := g.hi; omega⟩
  unfold PyData.strOk
  rw [← Array.all_toList]
  refine List.all_eq_true.mpr fun c hc => ?_
  have q := List.all_eq_true.mp g.low c hc
  unfold lowC at q
  rw [Bool.and_eq_true] at q
  have := of_decide_eq_true q.2
  exact decide_eq_true (by omega)
theorem okD_sms {z : Str} (h : SmS z) : OkD (.str z) := by
  refine ⟨?_, decide_eq_true h.sm⟩
  show (PyData.strOk z && decide (0 ≤ 64)) = true
  rw [h.ok]
  rfl
theorem canAll_strs : ∀ {zs : List Str}, (∀ z ∈ zs, SmS z) → PyData.canLayAll0 (zs.map PyData.str) = true ∧ smAll (zs.map PyData.str) = true ∧ PyData.depthAll (zs.map PyData.str) = 0
  | [], _ => ⟨rfl, rfl, rfl⟩
  | z :: r, h => by
    have ih := canAll_strs (zs := r) fun x hx => h x (List.mem_cons_of_mem _ hx)
    have hz := h z (List.mem_cons_self ..)
    refine ⟨?_, ?_, ?_⟩
    · show (PyData.strOk z && PyData.canLayAll0 (r.map PyData.str)) = true
      rw [hz.ok, ih.1]
      rfl
    · show (decide (z.length ≤ 1000) && smAll (r.map PyData.str)) = true
      rw [decide_eq_true hz.sm, ih.2.1]
      rfl
    · show max 0 (PyData.depthAll (r.map PyData.str)) = 0
      rw [ih.2.2]
      rfl
theorem okD_strs {zs : List Str} (h : ∀ z ∈ zs, SmS z) (hl : zs.length ≤ 1000) : OkD (.tuple (zs.map PyData.str)) := by
  obtain ⟨h1, h2, h3⟩ := canAll_strs h
  refine ⟨?_, ?_⟩
  · show (PyData.canLayAll0 (zs.map PyData.str) && decide (PyData.depthAll (zs.map PyData.str) + 1 ≤ 64)) = true
    rw [h1, h3]
    rfl
  · show (decide ((zs.map PyData.str).length ≤ 1000) && smAll (zs.map PyData.str)) = true
    rw [h2, List.length_map, decide_eq_true hl]
    rfl
theorem sms_lit {z : Str} (h : (PyData.strOk z && decide (z.length ≤ 1000)) = true) : SmS z := by
  rw [Bool.and_eq_true] at h
  exact ⟨h.1, of_decide_eq_true h.2⟩
theorem items_ok {zs : List Str} (h : ItsOk zs) : isItemsD (.tuple (zs.map PyData.str)) = true := by
  show ((zs.map PyData.str).all isNameD && (match strsOf (zs.map PyData.str) with | some zs => ascS zs | none => false)) = true
  rw [strsOf_map]
  have e : (zs.map PyData.str).all isNameD = true := by
    rw [List.all_map]
    exact List.all_eq_true.mpr fun z hz => h.nm z hz
  rw [e]
  exact h.asc
def hitF (n : Nat) (w : Str) (f : Form) : Bool := match f with
  | w' :: q => (n == q.length) && (w == w')
  | [] => false
theorem form_hd {n : Nat} {w : Str} {ds : List PyData} {fs : List Form} {f : Form} (hn : ds.length = n) (h : fs.find? (hitF n w) = some f) : formOf (.tuple (.str w :: ds)) fs = some f := by
  unfold formOf
  subst hn
  have e : fits (.tuple (.str w :: ds)) = hitF ds.length w := by
    funext f
    cases f <;> rfl
  rw [e]
  exact h
theorem S0_item (d : PyData) : S0 d "item" = isNameD d := by
  unfold S0
  rw [if_neg (by decide +kernel), if_neg (by decide +kernel)]
theorem S0_kind (d : PyData) : S0 d "kind" = isNameD d := by
  unfold S0
  rw [if_neg (by decide +kernel), if_neg (by decide +kernel)]
theorem S0_value (d : PyData) : S0 d "value" = isNameD d := by
  unfold S0
  rw [if_neg (by decide +kernel), if_neg (by decide +kernel)]
theorem S0_items (d : PyData) : S0 d "items" = isItemsD d := if_pos rfl
theorem S0_owner (d : PyData) : S0 d "owner" = isOwnerD d := by
  unfold S0
  rw [if_neg (by decide +kernel), if_pos rfl]
theorem has1 {d d1 : PyData} {w s1 : Str} {fs : List Form} (h : formOf (.tuple [.str w, d1]) fs = some [w, s1]) : hasForm S0 (.tuple [.str w, d1]) fs = S0 d1 s1 := by
  unfold hasForm
  rw [h]
  show (S0 d1 s1 && true) = _
  rw [Bool.and_true]
theorem has2 {d1 d2 : PyData} {w s1 s2 : Str} {fs : List Form} (h : formOf (.tuple [.str w, d1, d2]) fs = some [w, s1, s2]) : hasForm S0 (.tuple [.str w, d1, d2]) fs = (S0 d1 s1 && S0 d2 s2) := by
  unfold hasForm
  rw [h]
  show (S0 d1 s1 && (S0 d2 s2 && true)) = _
  rw [Bool.and_true]
end Dr
namespace Dr
open PySem PySem.Spec PyProof.Rows L2
open SX (S S_len S_cat)
/-- tuples stay -/
def TupE (H H' : Hp) : Prop := ∀ b xs, H b = some (.tup xs) → H' b = some (.tup xs)
theorem TupE.trans {H H1 H2 : Hp} (a : TupE H H1) (b : TupE H1 H2) : TupE H H2 := fun c xs e => b c xs (a c xs e)
theorem TupE.same {H H' : Hp} (s : Same H H') : TupE H H' := fun c xs e => s _ _ e
theorem TupE.kp {p : Addr} {H H' : Hp} (hB : Bag H p) (k : Kp p H H') : TupE H H' := fun c xs e => k.1 _ _ (fun z => by
  obtain ⟨u, v, hp, _⟩ := hB
  rw [z, hp] at e
  cases e) e
theorem TupE.grow {H : Hp} {l : Addr} {us ys : List V} (hl : H l = some (.lst us)) : TupE H (upd H l (.lst ys)) := fun c xs e => by
  rw [upd_ne (fun z => by rw [z, hl] at e; cases e)]
  exact e
end Dr
namespace Dr
open PySem PySem.Spec PyProof.Rows L2
abbrev sENm : Stmt := inClass (topS 2) 0
theorem scENm : FnScope ["self", "name"] ["self", "name"] (defScope sENm) := ⟨rfl, rfl, rfl, by decide +kernel, rfl, by decide +kernel, by decide +kernel⟩
abbrev sERw : Stmt := inClass (topS 4) 0
theorem scERw : FnScope ["self", "at"] ["self", "at"] (defScope sERw) := ⟨rfl, rfl, rfl, by decide +kernel, rfl, by decide +kernel, by decide +kernel⟩
abbrev sETw : Stmt := inClass (topS 6) 0
theorem scETw : FnScope ["self", "name"] ["self", "name"] (defScope sETw) := ⟨rfl, rfl, rfl, by decide +kernel, rfl, by decide +kernel, by decide +kernel⟩
abbrev sETm : Stmt := inClass (topS 7) 0
theorem scETm : FnScope ["self", "what"] ["self", "what"] (defScope sETm) := ⟨rfl, rfl, rfl, by decide +kernel, rfl, by decide +kernel, by decide +kernel⟩
/-- what stands of an error's class -/
structure Erc (K : PySem.W.Frag) (mg : Str → Option Value) (x f : Str) (C g : Addr) : Prop where
  oex : OexC K C
  no : PySem.W.findIn K (.ref C) f = some none
  init : PySem.W.findIn K (.ref C) "__init__" = some (some (.ref g))
  tyI : PySem.W.typeIn K (.ref g) = some (.type "function")
  mgC : mg x = some (.ref C)
section
variable {P : Program} {w : World} {K : PySem.W.Frag} {mg : Str → Option Value} {base : Heap}
def spExI (C : Addr) (f : Str) : Sp := fun vs H Q _ => ∃ (a : Addr) (y : V), vs = [.ref a, y] ∧ H a = some (exo a C none) ∧ ∀ d, H d = none → d ≠ a → Q .non (upd (upd H d (exd d [(f, y)])) a (exo a C (some d)))
theorem ok_eNm {x : Str} {C f : Addr} {fd : FuncData} (F : Fun K "__init__" "BadName.__init__" sENm f fd) (T : Erc K mg x "name" C f) : FnOk P w K mg base CX0 1 f fd ["self", "name"] (spExI C "name") := by
  refine F.ok scENm (fun vs H Q E h => ?_) (fun cdv A outer s H vs Q E hr h => ?_)
  · obtain ⟨a, y, rfl, _⟩ := h
    rfl
  · obtain ⟨a, y, rfl, ha, q⟩ := h
    exact ⟨_, pss_one (ps_ost (pv 0) (pv 1)), y, rfl, .ref a, rfl, a, C, rfl, T.oex, T.no, .inl ⟨ha, fun d nd ne => q d nd ne⟩⟩
theorem ok_eRw {x : Str} {C f : Addr} {fd : FuncData} (F : Fun K "__init__" "BadValue.__init__" sERw f fd) (T : Erc K mg x "at" C f) : FnOk P w K mg base CX0 1 f fd ["self", "at"] (spExI C "at") := by
  refine F.ok scERw (fun vs H Q E h => ?_) (fun cdv A outer s H vs Q E hr h => ?_)
  · obtain ⟨a, y, rfl, _⟩ := h
    rfl
  · obtain ⟨a, y, rfl, ha, q⟩ := h
    exact ⟨_, pss_one (ps_ost (pv 0) (pv 1)), y, rfl, .ref a, rfl, a, C, rfl, T.oex, T.no, .inl ⟨ha, fun d nd ne => q d nd ne⟩⟩
theorem ok_eTw {x : Str} {C f : Addr} {fd : FuncData} (F : Fun K "__init__" "Twice.__init__" sETw f fd) (T : Erc K mg x "name" C f) : FnOk P w K mg base CX0 1 f fd ["self", "name"] (spExI C "name") := by
  refine F.ok scETw (fun vs H Q E h => ?_) (fun cdv A outer s H vs Q E hr h => ?_)
  · obtain ⟨a, y, rfl, _⟩ := h
    rfl
  · obtain ⟨a, y, rfl, ha, q⟩ := h
    exact ⟨_, pss_one (ps_ost (pv 0) (pv 1)), y, rfl, .ref a, rfl, a, C, rfl, T.oex, T.no, .inl ⟨ha, fun d nd ne => q d nd ne⟩⟩
theorem ok_eTm {x : Str} {C f : Addr} {fd : FuncData} (F : Fun K "__init__" "TooMany.__init__" sETm f fd) (T : Erc K mg x "what" C f) : FnOk P w K mg base CX0 1 f fd ["self", "what"] (spExI C "what") := by
  refine F.ok scETm (fun vs H Q E h => ?_) (fun cdv A outer s H vs Q E hr h => ?_)
  · obtain ⟨a, y, rfl, _⟩ := h
    rfl
  · obtain ⟨a, y, rfl, ha, q⟩ := h
    exact ⟨_, pss_one (ps_ost (pv 0) (pv 1)), y, rfl, .ref a, rfl, a, C, rfl, T.oex, T.no, .inl ⟨ha, fun d nd ne => q d nd ne⟩⟩
/-- what a raise of such an error leaves -/
theorem ex_end {C a : Addr} {H : Hp} {f : Str} {y : V} {Q : XK} (na : H a = none) (q : ∀ d H', Same H H' → H' d = some (.xd [(f, y)]) → Q (.ref C) (some d) H') :
    spExI C f [.ref a, y] (upd H a (exo a C none)) (fun v H2 => v = .non ∧ ∃ (d : Addr) (fs : List (Str × V)), H2 a = some (exo a C (some d)) ∧ H2 d = some (exd d fs) ∧ H d = none ∧ Q (.ref C) (some d) (upd (del H2 a) d (.xd fs))) (fun _ _ _ => False) := by
  refine ⟨a, y, rfl, upd_same, fun d nd ne => ⟨rfl, d, [(f, y)], upd_same, by rw [upd_ne ne, upd_same], by rw [upd_ne ne] at nd; exact nd, q d _ (fun b o e => ?_) upd_same⟩⟩
  have n0 : H d = none := by
    rw [upd_ne ne] at nd
    exact nd
  have h1 : b ≠ d := ne_of_none e n0
  have h2 : b ≠ a := ne_of_none e na
  rw [upd_ne h1, del_ne h2, upd_ne h2, upd_ne h1, upd_ne h2]
  exact e
end
end Dr
namespace Dr
open PySem PySem.Spec PyProof.Rows L2
open Sem (wp)
open AutoSeq1 (wpAny_loadPart')
theorem meets_enumerate_newT (l : Addr) (items : Array Value) (n : Nat) (dct : Option Addr) (sl : Array (Option Value)) :
    Meets (Builtin.«enumerate.__new__» ⟨[.type "enumerate", .ref l], []⟩) (fun _ R s => s.heap.get? l = some { cls := .type "tuple", dict := dct, data := .seq items n, slots := sl } ∧
      R (.ok (.ret (.ref (s.heap.push { cls := .type "tuple_iterator", data := .fields #[.ref l, .int 0 0] }).objs.size)))
        { s with heap := (s.heap.push { cls := .type "tuple_iterator", data := .fields #[.ref l, .int 0 0] }).push { cls := .type "enumerate", data := .fields #[.none, .bool false, .ref s.heap.objs.size, rawInt 0, .none, .none] } }) :=
  .of_wp fun prog w A R s h => by
    obtain ⟨hp, g, d, tk, os⟩ := s; obtain ⟨hl, h⟩ := h
    have hsub := sub_enumerate
    have hL : Heap.IsTuple (Shared.heap ⟨hp, g, d, tk, os⟩) l items := ⟨_, hl, rfl, n, rfl⟩
    wp_walk using wpAny_loadPart' hl
    refine wpAny_stack_any fun st => wpAny_pure ?_
    split
    · rename_i c _ _ _ _ _
      cases (c == Value.type "enumerate")
      · wp_walk using wpAny_loadPart' hl, wpAny_pyIter_tuple hL
        exact ⟨_, rfl, h⟩
      · wp_walk using wpAny_loadPart' hl, wpAny_pyIter_tuple hL
        exact ⟨_, rfl, h⟩
    · wp_walk using wpAny_loadPart' hl, wpAny_pyIter_tuple hL
      exact ⟨_, rfl, h⟩
section
variable {prog : Program} {w : World} {A : Around} {E : Value → Shared → Prop} {s : Shared}
theorem call_enumerate_tup {l : Addr} {items : Array Value} {Q : Value → Shared → Prop} (hL : s.heap.IsTuple l items)
    (h : ∀ h', IsEnum h' (s.heap.objs.size + 1) s.heap.objs.size 0 .none → h'.IsTupleIter s.heap.objs.size l 0 → h'.objs.size = s.heap.objs.size + 2 →
      (∀ b o, s.heap.get? b = some o → h'.get? b = some o) → Q (.ref (s.heap.objs.size + 1)) { s with heap := h' }) :
    wpAny (model prog w) A (call (.type "enumerate") [.ref l]) Q E s := by
  obtain ⟨⟨c, dct, dt, sl⟩, hl, hc, n, hd⟩ := hL
  replace hc : c = .type "tuple" := hc
  replace hd : dt = .seq items n := hd
  subst hc hd
  refine callType_new F.called_enumerate (by decide) (F.typeCall_enumerate_1 _) (F.newCall_enumerate_1 _) (fun obj => F.args_object_init_2 obj _) F.entry_enumerate_new
    (meets_enumerate_newT l items n dct sl) ⟨hl, ?_⟩
  have hz : (s.heap.push { cls := .type "tuple_iterator", data := .fields #[.ref l, .int 0 0] }).objs.size = s.heap.objs.size + 1 := Heap.size_push ..
  show _ ∧ _
  rw [hz]
  have he : IsEnum ((s.heap.push { cls := .type "tuple_iterator", data := .fields #[.ref l, .int 0 0] }).push
      { cls := .type "enumerate", data := .fields #[.none, .bool false, .ref s.heap.objs.size, rawInt 0, .none, .none] }) (s.heap.objs.size + 1) s.heap.objs.size 0 .none := by
    have := Heap.get?_push_size (s.heap.push { cls := .type "tuple_iterator", data := .fields #[.ref l, .int 0 0] })
      (o := { cls := .type "enumerate", data := .fields #[.none, .bool false, .ref s.heap.objs.size, rawInt 0, .none, .none] }) rfl
    rw [hz] at this; exact this
  refine ⟨⟨_, he, rfl⟩, h _ he ⟨_, Heap.get?_push_of_some _ (Heap.get?_push_size _ rfl), rfl, rfl⟩ (by rw [Heap.size_push, hz]) fun b o x => Heap.get?_push_of_some _ (Heap.get?_push_of_some _ x)⟩
end
theorem pyNext_enumT_end {prog : Program} {w : World} {A : Around} {E : Value → Shared → Prop} {s : Shared} {e it l : Addr} {i : Nat} {items : Array Value} {old : Value} {Q : Option Value → Shared → Prop} (hh : A.handled = none)
    (he : IsEnum s.heap e it i old) (hit : s.heap.IsTupleIter it l i) (hl : s.heap.IsTuple l items) (hx : items[i]? = none)
    (hQ : ∀ h', Heap.ExtBut it s.heap h' → Q none { s with heap := h' }) : wpAny (model prog w) A (pyNext (.ref e)) Q E s := by
  have hT : s.TypeIs (.ref e) "enumerate" := ⟨_, he, rfl⟩
  unfold pyNext
  refine wpAny_bind (wpAny_attempt (wpAny_callSpecial?_slot (name := Str.ofString "__next__") hT F.slot_enumerate_next
    (wpAny_call_entry F.slot_enumerate_next hT F.entry_enumerate_next ?_ (F.args_enumerate_next_1 _))))
  show wpAny _ _ (field (.ref e) 2 >>= _) _ _ _
  refine wpAny_bind (wpAny_field he rfl (x := .ref it) rfl ?_)
  refine wpAny_bind (wpAny_nextOf_tuple_end hh hit hl hx fun h' x he' hx' => ?_)
  obtain ⟨o, ho, hc⟩ := hx'
  refine wpAny_bind (wpAny_isInstance (T := "StopIteration") (b := true) ⟨o, ho, hc⟩ isSubtype_stop ?_)
  exact wpAny_pure (hQ _ he')
/-- the tuple at a, each item in a new pair -/
def IteT (K : PySem.W.Frag) (a : Addr) : It :=
  ⟨fun i H => ∃ (xs : List V) (x : V), SqT K H a xs ∧ xs[i]? = some x, fun i H v H' => ∃ T x, v = .ref T ∧ H T = none ∧ H' = upd H T (.tup [.int (i : Nat), x]) ∧ ∀ xs, SqT K H a xs → xs[i]? = some x, fun i H => ∃ xs : List V, SqT K H a xs ∧ xs.length ≤ i⟩
theorem turn_enumT {P : Program} {w : World} {K : PySem.W.Frag} {elts : List Expr} {kk : Nat} {tpos : Pos} (a e it : Addr) :
    Turn P w K (.Tuple elts kk tpos) (IteT K a) [e, it] e (fun i h => (∃ old, IsEnum h e it ((i : Nat) : Int) old) ∧ h.IsTupleIter it a i ∧ e ≠ it ∧ e ∉ [it, a] ∧ a ≠ it) where
  mem := by simp
  obj := fun i h st b hb => by
    obtain ⟨⟨old, he⟩, ⟨o, ho, hc, hd⟩, _⟩ := st
    have e' : b = e ∨ b = it := by simpa using hb
    rcases e' with z | z
    · rw [z]; exact ⟨_, he, fun v q => nomatch q⟩
    · rw [z]; exact ⟨o, ho, fun v q => by rw [hd] at q; cases q⟩
  keep := fun i h h' st k => let ⟨⟨old, he⟩, hi, hne⟩ := st; ⟨⟨old, k e (by simp) _ he⟩, hi.at fun o q => k it (by simp) o q, hne⟩
  item := by
    intro X hP hw hK hc i pins s σ H E I hf st hg
    subst hP hw hK
    obtain ⟨⟨old, he⟩, hit, hne, hef, hai⟩ := st
    obtain ⟨xs, x, hq, hx⟩ := hg
    obtain ⟨its, rv, p, hz⟩ := I.tuple hq
    obtain ⟨u, hu, ru⟩ := rv.get hx
    have hel : e < s.heap.objs.size := Heap.lt_size he
    have hil : it < s.heap.objs.size := by obtain ⟨_, q, _⟩ := hit; exact Heap.lt_size q
    have hlt : i < its.toArray.size := by
      rw [List.size_toArray]
      exact (List.getElem?_eq_some_iff.mp hu).1
    refine wpAny_pyNext_enum_itemD (Draws.tuple (prog := X.prog) (w := X.w) (A := X.A.in1) (I.ok.hd hc) it a hai its.toArray) he ⟨hit, p⟩ hlt hne hef fun x' h' tk hP ho hst' hT hsz hk => ?_
    have hxu : x' = u := by
      have hP' : its.toArray[i]? = some x' := hP
      have : its.toArray[i]? = some u := by simpa using hu
      rw [this] at hP'
      exact (Option.some.inj hP').symm
    subst hxu
    refine ⟨_, rfl, wpAny_letOwnedTupleGo_enum (s := { s with heap := h', toks := tk + 1 }) ho fun h'' he' sb => ?_⟩
    have hT2 : h''.get? s.heap.objs.size = some { cls := .type "tuple", data := .seq #[.int i tk, x'] } := (sb.2 _ (Nat.ne_of_gt hel)).trans hT
    have new : ObjOk X.prog X.w (upd H s.heap.objs.size (.tup [.int (i : Nat), x])) h'' s.heap.objs.size (.tup [.int (i : Nat), x]) :=
      ⟨by show 2 ≤ sizeLine; decide, [.int i tk, x'], .cons ⟨_, rfl⟩ (.cons ru .nil), ⟨_, hT2, rfl, _, rfl⟩⟩
    have I1 : Inv X pins σ (upd H s.heap.objs.size (.tup [.int (i : Nat), x])) { s with heap := h'', toks := tk + 1 } :=
      I.turnedNew (ch := [e, it]) (fun b ob hb q => (sb.2 b (fun z => hb (by simp [z]))).trans (hk b ob (fun z => hb (by simp [z])) (fun z => hb (by simp [z])) q)) hf (Nat.le_refl _) new
    refine ⟨.ref s.heap.objs.size, _, I1, rfl, ⟨_, x, rfl, I.hok.fresh (Nat.le_refl _), rfl, fun ys hy => by rw [I.tuple_inj hy hq]; exact hx⟩, ⟨⟨x', ?_⟩, hst'.1.at fun o q => (sb.2 it (Ne.symm hne)).trans q, hne, hef, hai⟩, fun b hb => ?_⟩
    · have e1 : ((i + 1 : Nat) : Int) = (i : Int) + 1 := by omega
      rw [e1]; exact he'
    · have hb' : b < s.heap.objs.size := by
        have e' : b = e ∨ b = it := by simpa using hb
        rcases e' with z | z
        · rw [z]; exact hel
        · rw [z]; exact hil
      rw [upd_ne (Nat.ne_of_lt hb')]
      exact (hf b hb).1
  done := by
    intro X hP hw hK hc i pins s σ H E I hf st hg
    subst hP hw hK
    obtain ⟨⟨old, he⟩, hit, hne, hef, hai⟩ := st
    obtain ⟨xs, hq, hx⟩ := hg
    obtain ⟨its, rv, p, hz⟩ := I.tuple hq
    obtain ⟨f0, f1, f2, f3, f4, f5⟩ := hf it (by simp)
    have hl := rv.length
    exact pyNext_enumT_end (I.ok.hd hc) he hit p (by simp; omega) fun h' eb => ⟨rfl, I.turned (t' := s.toks) (fun b o hb q => eb b o hb q) f0 f1 f3 f4 f5⟩
  self := fun A i s Q E st h => let ⟨⟨_, he⟩, _⟩ := st; wpAny_pyIter_enum he h
def iEnumT (K : PySem.W.Frag) (ta : TA) : TI := fun σ H R => ta σ H fun vs H1 => ∃ a xs, vs = [.ref a] ∧ SqT K H1 a xs ∧ R (IteT K a) H1
theorem pi_enumT {X : Cx} {e : Expr} {ta : TA} {p pos tpos : Pos} {elts : List Expr} {kk : Nat} (hg : Gl X "enumerate") (hm : X.mg "enumerate" = none) (ha : PA X [e] ta) (hs : starEach [e] X.env = [(false, eval e X.env)] := by rfl) :
    PI X (.Tuple elts kk tpos) (.Call (.Name "enumerate" p) [e] [] pos) (iEnumT X.K ta) := by
  refine ⟨fun pins s σ H R I h => ?_⟩
  refine Call_ (ld_blt I hg hm boot_enumerate (PyProof.Rows.callWith_type1 (thn (ha.run pos pins s σ H _ I h) fun us s1 ⟨vs, H1, I1, r1, q1⟩ => ?_) hs rfl))
  obtain ⟨a, xs, ex, hq, q⟩ := q1
  subst ex
  cases r1 with
  | cons r rr =>
    cases rr
    cases r
    obtain ⟨its, rv, p', hz⟩ := I1.tuple hq
    have hal : a < s1.heap.objs.size := by
      obtain ⟨o, ho, _⟩ := p'
      exact Heap.lt_size ho
    refine call_enumerate_tup p' fun h' he hit hsz hk => wpAny_pyIter_enum he ?_
    have I2 : Inv X pins σ H1 { s1 with heap := h' } := I1.kept (t' := s1.toks) hk
    refine ⟨s1.heap.objs.size + 1, [s1.heap.objs.size + 1, s1.heap.objs.size], _, _, H1, rfl, I2, turn_enumT a (s1.heap.objs.size + 1) s1.heap.objs.size, ⟨⟨.none, he⟩, hit, Nat.succ_ne_self _, fun hm => ?_, Nat.ne_of_lt hal⟩, fun b hb => ?_, q⟩
    · have e' : s1.heap.objs.size + 1 = s1.heap.objs.size ∨ s1.heap.objs.size + 1 = a := by simpa using hm
      rcases e' with z | z
      · exact Nat.succ_ne_self _ z
      · exact Nat.ne_of_gt (Nat.lt_succ_of_lt hal) z
    · have e' : b = s1.heap.objs.size + 1 ∨ b = s1.heap.objs.size := by simpa using hb
      have hle : s1.heap.objs.size ≤ b := by
        rcases e' with z | z
        · rw [z]; exact Nat.le_add_right _ _
        · rw [z]; exact Nat.le_refl _
      exact I1.fpOk hle (I1.hok.fresh hle)
theorem walk_enumT {K : PySem.W.Frag} {a : Addr} {xs : List V} : Walk (IteT K a) xs.length (fun H => SqT K H a xs) (YPair (fun i => some (.int (i : Nat))) (fun i => xs[i]?)) := by
  refine ⟨fun i _ hi q => ⟨xs, xs[i], q, by simp [hi]⟩, fun _ q => ⟨xs, q, Nat.le_refl _⟩, fun i H v H' _ q y => ?_⟩
  obtain ⟨T, x, h1, h2, h3, h4⟩ := y
  exact ⟨T, .int (i : Nat), x, h1, h2, h3, rfl, h4 xs q⟩
end Dr
namespace Dr
open PySem PySem.Spec PyProof.Rows L2
abbrev sIsVal : Stmt := topS 27
theorem scIsVal : FnScope ["thing"] ["thing"] (defScope sIsVal) := ⟨rfl, rfl, rfl, by decide +kernel, rfl, by decide +kernel, by decide +kernel⟩
abbrev sFBV : Stmt := topS 28
abbrev nFBV : List Str := ["values", "at", "value", "name", "_"]
theorem scFBV : FnScope nFBV ["values"] (defScope sFBV) := ⟨rfl, rfl, rfl, by decide +kernel, rfl, by decide +kernel, by decide +kernel⟩
def isValueD : PyData → Bool
  | .tuple [a, b] => isNameD a && hasForm S0 b makingForms
  | _ => false
def nmD : PyData → Str
  | .tuple (.str z :: _) => z
  | _ => ""
def badV (ds : List PyData) (i : Nat) : Bool := match ds[i]? with
  | none => false
  | some d => !isValueD d || ((ds.take i).map nmD).contains (nmD d)
def fbv (ds : List PyData) : Option Nat := (List.range ds.length).find? (badV ds)
theorem fbv_some {ds : List PyData} {i : Nat} (hi : i < ds.length) (hb : badV ds i = true) (h : ∀ j, j < i → badV ds j = false) : fbv ds = some i := by
  unfold fbv
  rw [List.find?_range_eq_some]
  exact ⟨hb, List.mem_range.mpr hi, fun j hj => by rw [h j hj]; rfl⟩
theorem fbv_none {ds : List PyData} (h : ∀ j, j < ds.length → badV ds j = false) : fbv ds = none := by
  unfold fbv
  rw [List.find?_eq_none]
  intro j hj
  rw [h j (List.mem_range.mp hj)]
  exact Bool.false_ne_true
theorem valueD_inv {d : PyData} (h : isValueD d = true) : ∃ z b, d = .tuple [.str z, b] ∧ nameOk z = true ∧ hasForm S0 b makingForms = true := by
  match d, h with
  | .tuple [a, b], h =>
    have h' : (isNameD a && hasForm S0 b makingForms) = true := h
    rw [Bool.and_eq_true] at h'
    match a, h'.1 with
    | .str z, hz => exact ⟨z, b, rfl, hz, h'.2⟩
theorem dp_tup2 {K : PySem.W.Frag} {H : Hp} {y : V} {z : Str} {b : PyData} (h : Dp K H y (.tuple [.str z, b])) : ∃ t vb, y = .ref t ∧ SqT K H t [.str z, vb] ∧ Dp K H vb b := by
  cases h with
  | @tup a xs _ hS hall =>
    cases hall with
    | cons h1 hr =>
      cases hr with
      | cons h2 hr =>
        cases hr
        cases h1
        exact ⟨a, _, rfl, hS, h2⟩
/-- t[:n] of a tuple -/
theorem take_of {K : PySem.W.Frag} {H : Hp} {a : Addr} {xs : List V} {n : Nat} {Q : VK} (hn : n ≤ xs.length) (h : SqT K H a xs) (q : ∀ b H', Same H H' → SqT K H' b (xs.take n) → Q (.ref b) H') : rSlA K (.ref a) none (some (n : Int)) H Q := by
  refine ⟨a, xs, rfl, h, fun e => ?_, fun e p np => ?_⟩
  · have e2 := e.2
    rw [show HT.sIx xs.length xs.length (some (n : Int)) = min n xs.length from HT.sIx_nat _ _ n] at e2
    refine q a H (Same.refl _) ?_
    rw [List.take_of_length_le (by omega)]
    exact h
  · refine q p _ (same_upd np) ?_
    have ec : cutV xs none (some (n : Int)) = xs.take n := cut_take _ n hn
    rw [ec]
    exact SqT.of upd_same
theorem len2 {α : Type} : ∀ {l : List α}, l.length = 2 → ∃ a b, l = [a, b]
  | [a, b], _ => ⟨a, b, rfl⟩
  | [], h => by cases h
  | [_], h => by cases h
  | _ :: _ :: _ :: _, h => by simp at h
section
variable {P : Program} {w : World} {K : PySem.W.Frag} {mg : Str → Option Value} {base : Heap}
theorem ok_isVal {kH : Nat} {f fN fH : Addr} {fd fdN fdH : FuncData} (F : Fun K "is_value" "is_value" sIsVal f fd) (T : Wds K mg) (TM : FmG K mg "MAKINGS" makingForms)
    (GN : FnOk P w K mg base CX0 1 fN fdN ["thing"] (spAsk K isNameD)) (mN : mg "is_name" = some (.ref fN)) (kN : PySem.W.keepIn K (.ref fN) = true) (bN : Binds K fdN ["thing"] [])
    (GH : FnOk P w K mg base CX0 kH fH fdH ["thing", "forms"] (spHas K S0 ok0)) (mH : mg "has_form" = some (.ref fH)) (kkH : PySem.W.keepIn K (.ref fH) = true) (bH : Binds K fdH ["thing", "forms"] []) (h1 : 1 ≤ kH) :
    FnOk P w K mg base CX0 (kH + 1) f fd ["thing"] (spAsk K isValueD) := by
  obtain ⟨aM, mM, fM⟩ := TM.ex
  refine F.ok scIsVal (fun vs H Q E h => ?_) (fun cdv A outer s H vs Q E hr h => ?_)
  · obtain ⟨v, d, rfl, _⟩ := h
    rfl
  · obtain ⟨v, d, rfl, hd, hok, q⟩ := h
    have hr1 : Room 1 _ := hr.mono (by omega)
    refine ⟨_, pss_one (ps_ret (pe_and (pe_callB call_isi (by rfl) T.isi (by decide +kernel) (pa_cons (pv 0) (pa_cons (pe_bltn (v := .ty "tuple") (by rfl) T.tup (by decide +kernel) rfl) pa_nil)))
      (pe_and (pe_cmpR op_eq (pe_callB call_len_seq (by rfl) T.len PySem.boot_len (pa_cons (pv 0) pa_nil)) pe_int (nomark _))
        (pe_and (pe_call GN hr1 (by rfl) mN kN bN .nil pass0 (pa_cons (pe_ix ix_tup (pv 0) pe_int (fun _ _ => rfl)) pa_nil))
          (pe_one (pe_call GH hr (by rfl) mH kkH bH .nil pass0 (pa_cons (pe_ix ix_tup (pv 0) pe_int (fun _ _ => rfl)) (pa_cons (pe_glob (v := .ref aM) (by rfl) mM rfl) pa_nil)))))))), ?_⟩
    refine ⟨v, rfl, v, .ty "tuple", _, _, _, rfl, .ty _, dp_ty hd, kit_tup d, _, rfl, ?_⟩
    by_cases ht : isTupD d = true
    · rw [ht]
      refine iteT ?_
      cases d with
      | tuple ds =>
        cases hd with
        | @tup va xs _ hS hall =>
          obtain ⟨hlen, hoks⟩ := hok.tup
          have hxl := dpAll_len hall
          refine ⟨_, rfl, va, _, rfl, .inr hS, rfl, _, rfl, ?_⟩
          rcases Classical.em (ds.length = 2) with e2 | e2
          · have hx2 : xs.length = 2 := by omega
            rw [hx2]
            refine iteT ?_
            obtain ⟨d0, d1, rfl⟩ : ∃ d0 d1, ds = [d0, d1] := len2 e2
            obtain ⟨x0, x1, rfl⟩ : ∃ x0 x1, xs = [x0, x1] := len2 hx2
            obtain ⟨h0, h1⟩ : Dp K H x0 d0 ∧ Dp K H x1 d1 := by
              cases hall with
              | cons h0 hr =>
                cases hr with
                | cons h1 _ => exact ⟨h0, h1⟩
            have o0 := hoks d0 (List.mem_cons_self ..)
            have o1 := hoks d1 (List.mem_cons_of_mem _ (List.mem_cons_self ..))
            have eV : isValueD (.tuple [d0, d1]) = (isNameD d0 && hasForm S0 d1 makingForms) := rfl
            rw [eV] at q
            refine ⟨_, rfl, va, _, 0, x0, rfl, rfl, hS, atI_nat (j := 0) rfl, x0, d0, rfl, h0, o0, fun H1 s1 => ⟨_, rfl, ?_⟩⟩
            cases hn : isNameD d0 with
            | false =>
              rw [hn] at q
              exact iteF (q _ s1)
            | true =>
              rw [hn] at q
              refine iteT ?_
              exact ⟨_, rfl, va, _, 1, x1, rfl, rfl, Same.seqT s1 hS, atI_nat (j := 1) rfl, x1, d1, aM, makingForms, rfl, dp_same s1 h1, o1, fM, making_ok.toD, fun H2 s2 => q _ (s1.trans s2)⟩
          · rw [decide_eq_false (fun e => e2 (by have := V.int.inj e; omega))]
            refine iteF ?_
            have eV : isValueD (.tuple ds) = false := by
              match ds, e2 with
              | [], _ => rfl
              | [_], _ => rfl
              | [_, _], h => exact absurd rfl h
              | _ :: _ :: _ :: _, _ => rfl
            rw [eV] at q
            exact q _ (Same.refl _)
      | _ => cases ht
    · rw [eq_false_of_ne_true ht]
      refine iteF ?_
      have en : isValueD d = false := by cases d <;> first | rfl | exact absurd rfl ht
      rw [en] at q
      exact q _ (Same.refl _)
def optI : Option Nat → V
  | none => .non
  | some i => .int i
def spFBV (K : PySem.W.Frag) : Sp := fun vs H Q _ => ∃ (a : Addr) (ds : List PyData), vs = [.ref a] ∧ Dp K H (.ref a) (.tuple ds) ∧ OkD (.tuple ds) ∧ ∀ H', Same H H' → Q (optI (fbv ds)) H'
theorem ok_fbv {kV : Nat} {f fV : Addr} {fd fdV : FuncData} (F : Fun K "first_bad_value" "first_bad_value" sFBV f fd) (hen : mg "enumerate" = none)
    (GV : FnOk P w K mg base CX0 kV fV fdV ["thing"] (spAsk K isValueD)) (mV : mg "is_value" = some (.ref fV)) (kkV : PySem.W.keepIn K (.ref fV) = true) (bV : Binds K fdV ["thing"] []) :
    FnOk P w K mg base CX0 (kV + 1) f fd ["values"] (spFBV K) := by
  refine F.ok scFBV (fun vs H Q E h => ?_) (fun cdv A outer s H vs Q E hr h => ?_)
  · obtain ⟨a, ds, rfl, _⟩ := h
    rfl
  · obtain ⟨a, ds, rfl, hd, hok, q⟩ := h
    refine ⟨_, pss_cons (ps_for PassesOwn.never rfl (pi_enumT (by rfl) hen (pa_cons (pv 0) pa_nil)) (pg_tup rfl (pgs_cons (pg_name (i := 1) scFBV.nd rfl (.inl rfl)) (pgs_cons (pg_name (i := 2) scFBV.nd rfl (.inl rfl)) pgs_nil)))
        (pss_one (ps_if (PW.pt (pw_or (pt_not (pt_val (pe_call GV hr (by rfl) mV kkV bV .nil pass0 (pa_cons (pv 2) pa_nil))))
          (pw_or1 (pt_cmpR op_in_seq (pe_ix ix_tup (pv 2) pe_int (fun _ _ => rfl))
            (pe_lc (own := [("name", 3), ("_", 4)]) (g := gTup K 2 (gCons (gName 3) (gCons (gName 4) gNil))) (tt := tYes) rfl scFBV.nd (pi_tup (pe_slice sl_tupA (pv 0) po_none (po_some (pv 1)))) (blkOk_by (N := nFBV) (sc := defScope sFBV) (by decide +kernel))
              (fun _ _ _ _ _ => pg_tup rfl (pgs_cons (pg_name (i := 3) scFBV.nd rfl (Or.inl rfl)) (pgs_cons (pg_name (i := 4) scFBV.nd rfl (Or.inl rfl)) pgs_nil))) (fun _ _ _ _ _ => pts_nil) (fun _ _ _ _ _ => pv 3)) rfl)))) (pss_one (ps_ret (pv 1))) pss_nil)))
      (pss_one (ps_ret pe_non)), ?_⟩
    cases hd with
    | @tup _ xs _ hS hall =>
      obtain ⟨hlen, hoks⟩ := hok.tup
      have hxl := dpAll_len hall
      refine ⟨_, rfl, a, xs, rfl, hS, for_it walk_enumT (fun i σ H5 => Same H H5 ∧ (∃ x y, σ = [some (.ref a), x, y, none, none]) ∧ ∀ j, j < i → badV ds j = false)
        ⟨Same.refl _, ⟨_, _, rfl⟩, fun j hj => absurd hj (Nat.not_lt_zero j)⟩ (fun _ _ _ _ h => Same.seqT h.1 hS) ?_ ?_⟩
      · rintro n y σ H5 H6 hn ⟨sm, ⟨x5, x6, rfl⟩, hall5⟩ ⟨T', x, e, rfl, nT, rfl, e1, e2⟩
        obtain rfl := Option.some.inj e1
        have e2 := (show xs[n]? = some e from e2)
        obtain ⟨d, hdn, hdp⟩ := dpAll_get hall e2
        have hokd := hoks d (List.mem_of_getElem? hdn)
        have sT : Same H5 (upd H5 T' (.tup [.int (n : Int), e])) := same_upd nT
        have s1 := sm.trans sT
        have hnd : n < ds.length := by omega
        refine ⟨T', _, rfl, .inl (.inl upd_same), rfl, _, _, rfl, _, _, rfl, rfl, ?_⟩
        refine ⟨_, rfl, e, d, rfl, dp_same s1 hdp, hokd, fun H7 s7 => ⟨_, rfl, ?_⟩⟩
        have ebad : badV ds n = (!isValueD d || ((ds.take n).map nmD).contains (nmD d)) := by
          unfold badV
          rw [hdn]
        have done : badV ds n = false → ∀ j, j < n + 1 → badV ds j = false := fun h j hj => by
          by_cases e : j < n
          · exact hall5 j e
          · obtain rfl : j = n := by omega
            exact h
        cases hv : isValueD d with
        | false =>
          refine iteT ⟨_, rfl, ?_⟩
          have e0 := fbv_some hnd (by rw [ebad, hv]; rfl) hall5
          rw [e0] at q
          exact q _ (s1.trans s7)
        | true =>
          refine iteF ?_
          obtain ⟨z, b, rfl, hz, hb⟩ := valueD_inv hv
          obtain ⟨t, vb, rfl, ht, hvb⟩ := dp_tup2 hdp
          have s17 := s1.trans s7
          refine ⟨_, rfl, t, _, 0, .str z, rfl, rfl, Same.seqT s17 ht, atI_nat (j := 0) rfl, ?_⟩
          refine ⟨_, rfl, _, rfl, _, rfl, take_of (n := n) (by omega) (Same.seqT s17 hS) fun bT H8 s8 hbT => ?_⟩
          have s18 := s17.trans s8
          refine ⟨bT, rfl, ⟨_, hbT⟩, fun D hD => ?_⟩
          have names : ∀ (i : Nat) (y : V), (xs.take n)[i]? = some y → ∃ z' vb' t', y = .ref t' ∧ SqT K H t' [.str z', vb'] ∧ ((ds.take n).map nmD)[i]? = some z' := fun i y hy => by
            have hi : i < n := by
              have := (List.getElem?_eq_some_iff.mp hy).1
              rw [List.length_take] at this
              omega
            rw [List.getElem?_take_of_lt hi] at hy
            obtain ⟨d', hd', hp'⟩ := dpAll_get hall hy
            have hb' : (!isValueD d' || ((ds.take i).map nmD).contains (nmD d')) = false := by
              have := hall5 i hi
              unfold badV at this
              rw [hd'] at this
              exact this
            have hv' : isValueD d' = true := by
              cases h : isValueD d' with
              | true => rfl
              | false =>
                rw [h] at hb'
                cases hb'
            obtain ⟨z', b', rfl, _, _⟩ := valueD_inv hv'
            obtain ⟨t', vb', rfl, ht', _⟩ := dp_tup2 hp'
            refine ⟨z', vb', t', rfl, ht', ?_⟩
            rw [List.getElem?_map, List.getElem?_take_of_lt hi, hd']
            rfl
          refine lc_it walk_tup (fun i H9 => Same H8 H9 ∧ H9 D = some (.lst ((((ds.take n).map nmD).take i).map V.str))) ⟨same_upd hD, upd_same⟩ (fun _ _ _ h => Same.seqT h.1 hbT) ?_ ?_
          · rintro i y H9 Ha hi ⟨sm9, hl9⟩ ⟨rfl, e1⟩
            obtain ⟨z', vb', t', rfl, ht', hz'⟩ := names i _ e1
            refine ⟨t', _, rfl, Same.seqT (s18.trans sm9) ht', rfl, _, _, rfl, _, _, rfl, rfl, rfl, ?_⟩
            unfold tYes
            refine iteT ⟨_, rfl, _, hl9, ?_, same_grow sm9 hD, ?_⟩
            · rw [List.length_map, List.length_take, List.length_map, List.length_take]
              exact small1000 (by omega)
            · rw [upd_same, List.take_add_one, hz', List.map_append]
              rfl
          · rintro H9 ⟨sm9, hl9⟩
            have hl9' : H9 D = some (.lst (((ds.take n).map nmD).map V.str)) := by
              rw [List.length_take, List.take_of_length_le (by rw [List.length_map, List.length_take]; omega)] at hl9
              exact hl9
            refine ⟨D, _, rfl, .inl (SqL.of hl9'), rfl, flat_strs _, _, rfl, ?_⟩
            rw [show inV (V.str z) (((ds.take n).map nmD).map V.str) = ((ds.take n).map nmD).contains z from in_strs _ _]
            cases hc : ((ds.take n).map nmD).contains z with
            | true =>
              refine iteT ⟨_, rfl, ?_⟩
              have e0 := fbv_some hnd (by rw [ebad, hv]; exact hc) hall5
              rw [e0] at q
              exact q _ (s18.trans sm9)
            | false =>
              refine iteF ⟨s18.trans sm9, ⟨_, _, rfl⟩, done ?_⟩
              rw [ebad, hv]
              exact hc
      · rintro σ H5 ⟨sm, ⟨x5, x6, rfl⟩, hall5⟩
        rw [fbv_none fun j hj => hall5 j (by omega)] at q
        exact q _ sm
end
end Dr
namespace Dr
open PySem PySem.Spec PyProof.Rows L2
/-- t looks names up in the dict at D, one behind another, and goes on as r -/
def KwTo {α : Type} (D : Addr) : List (Str × Value) → Sem α → Sem α → Prop
  | [], t, r => t = r
  | q :: l, t, r => ∃ (β γ : Type) (k1 : Option Value → Sem β) (k2 : β → Sem γ) (k3 : γ → Sem α) (a : β), t = ((nsGet D q.1 >>= k1) >>= k2) >>= k3 ∧ k1 (some q.2) = pure a ∧ KwTo D l (k2 a >>= k3) r
theorem KwTo.run {α : Type} {K : PySem.W.Frag} {M : Model} {A : Around} {D : Addr} {E : Value → Shared → Prop} {s : Shared} {Q : α → Shared → Prop} (X : K.In s.heap) : ∀ {l : List (Str × Value)} {t r : Sem α}, (∀ q ∈ l, PySem.W.nsIn K D q.1 = some (some q.2)) → KwTo D l t r → wpAny M A r Q E s → wpAny M A t Q E s
  | [], t, r, _, e, h => by
    obtain rfl := (show t = r from e)
    exact h
  | q :: l, t, r, hl, e, h => by
    obtain ⟨β, γ, k1, k2, k3, a, e1, e2, e3⟩ := e
    have l1 : PySem.W.Looks M s.heap (nsGet D q.1 >>= k1) a := (PySem.W.looks_nsIn X (hl q (List.mem_cons_self ..))).andThen (PySem.W.Looks.of_pure e2)
    have h2 := KwTo.run X (fun p hp => hl p (List.mem_cons_of_mem _ hp)) e3 h
    rw [e1, bind_assoc]
    exact wpAny_bind (l1.here h2)
section
variable {CX : CXT} {P : Program} {w : World} {K : PySem.W.Frag} {mg : Str → Option Value} {base : Heap} {k n : Nat} {f : Addr} {name qual : Str} {params : Arguments} {body : List Stmt} {scope : Scope} {dV kV doc pm cdv ct oc : Value} {an od : Option Addr}
  {osl : Array (Option Value)} {N ps ks : List Str} {sp : Sp} {g : List Value → List Value → List Value} {gV : List V → List V → List V}
/-- def f(a, .., *v, k = d, ..), some keywords by their defaults -/
theorem fn_starD {pv : Str} (lk : K.lookup f = some ⟨oc, od, .func (PySem.W.fnOf name qual params body scope dV kV doc pm an cdv ct), osl⟩) (hcd : PySem.W.codeIn K cdv qual = true) (S : FnScope N (ps ++ [pv]) scope) (hCX : StX.CXUp CX)
    (hg : ∀ us ws : List Value, us.length = n → ws.length = ks.length → (g us ws).length = ps.length) (hr0 : ∀ {vs zs : List V} {us ws : List Value}, Vals vs us → Vals zs ws → Vals (gV vs zs) (g us ws))
    (hb : ∀ us rest ws : List Value, us.length = n → ws.length = ks.length → ∀ {M : Model} {A : Around} {E : Value → Shared → Prop} {s : Shared} {Q : List (Str × Value) → Shared → Prop}, K.In s.heap → wpAny M A (newTuple rest) (fun t s' => Q (ps.zip (g us ws) ++ [(pv, t)]) s') E s →
      wpAny M A (bindArgs (PySem.W.fnOf name qual params body scope dV kV doc pm an cdv ct) ⟨us ++ rest, ks.zip ws⟩) Q E s)
    (hbody : ∀ (A : Around) (outer : List Env) (s : Shared) (H : Hp) (vs : List V) (Q : VK) (E : XK), Room k (A.deeper (envOfC qual scope s.heap.objs.size f cdv)) → sp vs H Q E →
      ∃ t, PSs (cxOf CX P w K mg base N qual scope f cdv A outer s H E) body t ∧ t { nx := fun _ H' => Q .non H', rt := Q } (start N vs) H) :
    FnK P w K mg base CX (k + 1) f ks (fun vs zs H Q E => ∃ xs rest, vs = xs ++ rest ∧ xs.length = n ∧ rest.length ≤ sizeLine ∧ ∀ p, H p = Option.none → sp (gV xs zs ++ [V.ref p]) (upd H p (.tup rest)) Q E) := by
  intro A outer s H us ws vs zs Q E hr e0 r rz lz hsp
  obtain ⟨xs, rest, ev, hl, hz, hq⟩ := hsp
  subst ev
  obtain ⟨u1, u2, eu, r1, r2⟩ := StX.vals_split r
  subst eu
  have hn : H s.heap.objs.size = Option.none := e0.hok.fresh (Nat.le_refl _)
  have hl1 : u1.length = n := by rw [← r1.length]; exact hl
  have hlw : ws.length = ks.length := by rw [← rz.length]; exact lz
  have hl2 : u2.length ≤ sizeLine := by rw [← r2.length]; exact hz
  have KX : K.In s.heap := e0.mod.kin.keeps fun b o e => (e0.bs b o e).1
  have hgl : (gV xs zs).length = ps.length := (hr0 r1 rz).length.trans (hg u1 ws hl1 hlw)
  refine StX.run_bnd lk hcd S hr e0 (G := fun ys H2 => ∃ p, H p = Option.none ∧ ys = gV xs zs ++ [V.ref p] ∧ H2 = upd H p (.tup rest)) (fun A' Ex Q' h => ?_) fun s2 H2 ys ⟨p, hp, ex, eH⟩ hr' => ?_
  · refine hb u1 u2 ws hl1 hlw KX (wpAny_newTuple ?_ hl2)
    have new : ObjOk P w (upd H s.heap.objs.size (.tup rest)) (s.heap.push ({ cls := .type "tuple", data := .seq u2.toArray } : Obj)) s.heap.objs.size (.tup rest) := ⟨hz, u2, r2, ⟨_, Heap.get?_push_size _ rfl, rfl, _, rfl⟩⟩
    have un := StX.un_laid (fs := frs outer) (s := s) (o := ({ cls := .type "tuple", data := .seq u2.toArray } : Obj)) (u := .tup rest) hn
    have z := h _ _ (gV xs zs ++ [V.ref s.heap.objs.size]) (g u1 ws ++ [Value.ref s.heap.objs.size]) (StX.env0_laid e0 new) un rfl (fun e s' => hCX outer s H _ _ E e s' un (fun b o q => Heap.get?_push_of_some _ q) rfl) ((hr0 r1 rz).append (.cons rfl .nil))
      (by rw [List.length_append, List.length_append, hgl] <;> rfl) ⟨_, hn, rfl, rfl⟩
    rw [List.zip_append (hg u1 ws hl1 hlw).symm] at z
    exact z
  · subst ex eH
    exact hbody A outer s2 _ _ Q E hr' (hq p hp)
end
section
variable {X : Cx} {CX : CXT} {k : Nat} {f C : Addr} {ks : List Str} {sp : SpK} {E : L2.St → XK} {x : Str} {p pos : Pos} {e : Expr} {es : List Expr} {kws : List Keyword} {t tk : TA}
/-- C(e, .., k = v, ..), C's __init__ told by FnK -/
def tMkF (C : Addr) (m : Nat) (sp : SpK) (E : L2.St → XK) (t tk : TA) : TE := fun σ H Q => t σ H fun vs H1 => tk σ H1 fun zs H2 => zs.length = m ∧ ∀ x dx, H2 x = none → H2 dx = none → dx ≠ x →
  sp (.ref x :: vs) zs (upd (upd H2 dx (.own x)) x (.ins C dx [])) (fun v H3 => v = .non ∧ Q (.ref x) H3) (E σ)
/-- C(e, ..) -/
def tMkF0 (C : Addr) (sp : SpK) (E : L2.St → XK) (t : TA) : TE := fun σ H Q => t σ H fun vs H2 => ∀ x dx, H2 x = none → H2 dx = none → dx ≠ x →
  sp (.ref x :: vs) [] (upd (upd H2 dx (.own x)) x (.ins C dx [])) (fun v H3 => v = .non ∧ Q (.ref x) H3) (E σ)
theorem pe_mkF (M : Mk X.K C f) (F : FnK X.prog X.w X.K X.mg X.base CX k f ks sp) (hr : Room (k + 1) X.A) (hg : Gl X x) (hm : X.mg x = some (.ref C)) (hx : ∀ σ, PassesAt CX X σ (E σ)) (ha : PA X (e :: es) t) (hk : PK X kws tk)
    (c1 : (backToKw pos (keywordEach kws X.env)).all (·.1.isSome) = true := by rfl) (c2 : (backToKw pos (keywordEach kws X.env)).filterMap (·.1) = ks := by rfl) (c3 : (x == ("__debug__" : Str)) = false := by decide)
    (c4 : starEach (e :: es) X.env = (false, eval e X.env) :: starEach es X.env := by rfl) (c5 : ((backTo pos (starEach (e :: es) X.env)).any (·.1) || (backToKw pos (keywordEach kws X.env)).any (·.1.isNone)) = false := by rfl) :
    PE X (.Call (.Name x p) (e :: es) kws pos) (tMkF C ks.length sp E t tk) := by
  refine ⟨fun pins s σ H Q I h => wpAny_Call_Name_kw (ld_glob I hg hm ?_ c3)⟩
  refine PySem.W.callWith_KW (h₀ := X.base) I.ok.mod.kin M.kp c1 (thn (ha.run pos pins s σ H _ I h) fun us s1 ⟨vs, H1, I1, r1, q1⟩ => ?_) c5 c4
  refine thn (hk.run pos pins s1 σ H1 _ I1 q1) fun ws s2 ⟨zs, H2, I2, r2, l2, q2⟩ => ⟨I2.kIn, ?_⟩
  rw [c2]
  exact run_makeSK M F hr (hx σ) I2 r1 r2 l2 q2
theorem pe_mkF0 (M : Mk X.K C f) (F : FnK X.prog X.w X.K X.mg X.base CX k f [] sp) (hr : Room (k + 1) X.A) (hg : Gl X x) (hm : X.mg x = some (.ref C)) (hx : ∀ σ, PassesAt CX X σ (E σ)) (ha : PA X (e :: es) t)
    (c3 : (x == ("__debug__" : Str)) = false := by decide) (he : starEach (e :: es) X.env = (false, eval e X.env) :: starEach es X.env := by rfl) (hpl : (backTo pos (starEach es X.env)).any (·.1) = false := by rfl) :
    PE X (.Call (.Name x p) (e :: es) [] pos) (tMkF0 C sp E t) := by
  refine ⟨fun pins s σ H Q I h => wpAny_Call_Name_kw (ld_glob I hg hm ?_ c3)⟩
  refine PySem.W.callWith_K (h₀ := X.base) I.ok.mod.kin M.kp (thn (ha.run pos pins s σ H _ I h) fun us s1 ⟨vs, H1, I1, r, q⟩ => ⟨I1.kIn, ?_⟩) he hpl
  exact run_makeSK (ks := []) (ws := []) (zs := []) M F hr (hx σ) I1 r .nil rfl q
end
end Dr
namespace Dr
open PySem PySem.Spec PyProof.Rows L2
abbrev sOrder : Stmt := topS 35
theorem scOrder : FnScope ["params", "before", "param"] ["params"] (defScope sOrder) := ⟨rfl, rfl, rfl, by decide +kernel, rfl, by decide +kernel, by decide +kernel⟩
abbrev sFirst : Stmt := topS 29
abbrev nFirst : List Str := ["params", "rows", "returns", "fixed", "usable", "at", "row", "param", "sort", "part"]
theorem scFirst : FnScope nFirst ["params", "rows", "returns"] (defScope sFirst) := ⟨rfl, rfl, rfl, by decide +kernel, rfl, by decide +kernel, by decide +kernel⟩
abbrev sMI : Stmt := inClass (topS 33) 3
abbrev nMI : List Str := ["self", "name", "rows", "returns", "params", "again", "at", "param"]
abbrev psMI : List Str := (["self", "name", "rows", "returns"] : List Str) ++ (["params"] : List Str)
theorem scMI : FnScope nMI psMI (defScope sMI) := ⟨rfl, rfl, rfl, by decide +kernel, rfl, by decide +kernel, by decide +kernel⟩
theorem none_okD : FmOkD ok0 (.tuple [.str "none"]) resultForms := ⟨result_ok.len, fun f hf z hz => by
  have e : formOf (.tuple [.str "none"]) resultForms = some (["none"] : Form) := by decide +kernel
  rw [e] at hf
  obtain rfl := Option.some.inj hf
  cases hz⟩
/-- what stands of the class Method -/
structure Mtd (K : PySem.W.Frag) (mg : Str → Option Value) (C : Addr) (mc : Value) : Prop where
  cl : Cls K C
  nN : NoAttr K C "name"
  nP : NoAttr K C "params"
  nR : NoAttr K C "rows"
  nX : NoAttr K C "returns"
  mgC : mg "Method" = some (.ref C)
  rd : ClX.CRead K C mc
  k1 : ∃ u, ClX.CVal K C mc "MOST_PARAMS" (.int 4) u
  k2 : ∃ u, ClX.CVal K C mc "MOST_BOXES" (.int 2) u
  k3 : ∃ u, ClX.CVal K C mc "MOST_ROWS" (.int 8) u
def mF (vn vp vr vx : V) : List (Str × V) := putF "returns" vx (putF "rows" vr (putF "params" vp (putF "name" vn [])))
theorem mF_name {vn vp vr vx : V} : (mF vn vp vr vx).lookup ("name" : Str) = some vn := by
  unfold mF
  rw [lookup_putF, if_neg (by decide +kernel), lookup_putF, if_neg (by decide +kernel), lookup_putF, if_neg (by decide +kernel), lookup_putF, if_pos rfl]
theorem passAt0 {X : Cx} {σ : L2.St} {E : XK} : PassesAt CX0 X σ E := fun _ _ _ _ _ _ h => h.elim
section
variable {P : Program} {w : World} {K : PySem.W.Frag} {mg : Str → Option Value} {base : Heap}
def spOrd0 (K : PySem.W.Frag) : Sp := fun vs H Q _ => ∃ t, vs = [.ref t] ∧ SqT K H t [] ∧ ∀ H', Same H H' → Q .non H'
theorem ok_order0 {f : Addr} {fd : FuncData} (F : Fun K "check_order" "check_order" sOrder f fd) (W : Wds K mg) : FnOk P w K mg base CX0 1 f fd ["params"] (spOrd0 K) := by
  refine F.ok scOrder (fun vs H Q E h => ?_) (fun cdv A outer s H vs Q E hr h => ?_)
  · obtain ⟨t, rfl, _⟩ := h
    rfl
  · obtain ⟨tP, rfl, hP, q⟩ := h
    refine ⟨_, pss_one (ps_for PassesOwn.never rfl (RZ.pi_zipA (by rfl) W.zip (pa_cons (pv 0) (pa_cons (pe_slice sl_tail (pv 0) (po_some pe_int) po_none) pa_nil)))
        (pg_tup rfl (pgs_cons (pg_name (i := 1) scOrder.nd rfl (.inl rfl)) (pgs_cons (pg_name (i := 2) scOrder.nd rfl (.inl rfl)) pgs_nil)))
        pss_never), ?_⟩
    refine ⟨_, rfl, _, rfl, 1, rfl, rfl, rfl, tP, _, rfl, hP, fun b1 H1 s1 hb1 => ⟨tP, b1, [], [], rfl, .inr ⟨Same.seqT s1 hP, hb1, ?_⟩⟩⟩
    refine for_it (walk_zipT rfl) (fun i σ H3 => Same H1 H3) (Same.refl _) (fun _ _ _ _ h => ⟨Same.seqT (s1.trans h) hP, Same.seqT h hb1⟩) ?_ ?_
    · intro i y σ H3 H4 hi
      exact absurd hi (Nat.not_lt_zero i)
    · intro σ H3 sm
      exact q _ (s1.trans sm)
def spFirst0 (K : PySem.W.Frag) : Sp := fun vs H Q _ => ∃ tP tR tX, vs = [.ref tP, .ref tR, .ref tX] ∧ SqT K H tP [] ∧ SqT K H tR [] ∧ SqT K H tX [.str "none"] ∧ ∀ H', Same H H' → Q .non H'
theorem ok_first0 {kH : Nat} {f fH fP fU : Addr} {fd fdH fdP fdU : FuncData} (F : Fun K "first_bad_row" "first_bad_row" sFirst f fd) (W : Wds K mg) (hen : mg "enumerate" = none) (TX : FmG K mg "RESULTS" resultForms)
    (GH : FnOk P w K mg base CX0 kH fH fdH ["thing", "forms"] (spHas K S0 ok0)) (mH : mg "has_form" = some (.ref fH)) (kkH : PySem.W.keepIn K (.ref fH) = true) (bH : Binds K fdH ["thing", "forms"] [])
    (GP : FnOk P w K mg base CX0 2 fP fdP ["thing", "forms"] (spParts K)) (mP : mg "parts_of" = some (.ref fP)) (kP : PySem.W.keepIn K (.ref fP) = true) (bP : Binds K fdP ["thing", "forms"] [])
    (GU : FnOk P w K mg base CX0 1 fU fdU ["parts", "usable"] (spUses K)) (mU : mg "uses_only" = some (.ref fU)) (kU : PySem.W.keepIn K (.ref fU) = true) (bU : Binds K fdU ["parts", "usable"] []) (h3 : 2 ≤ kH) :
    FnOk P w K mg base CX0 (kH + 1) f fd ["params", "rows", "returns"] (spFirst0 K) := by
  obtain ⟨aX, mX, fX⟩ := TX.ex
  refine F.ok scFirst (fun vs H Q E h => ?_) (fun cdv A outer s H vs Q E hr h => ?_)
  · obtain ⟨tP, tR, tX, rfl, _⟩ := h
    rfl
  · obtain ⟨tP, tR, tX, rfl, hP, hRs, hX, q0⟩ := h
    have hr1 : Room 1 _ := hr.mono (by omega)
    have hr2 : Room 2 _ := hr.mono (by omega)
    refine ⟨_, pss_cons (ps_setLc (i := 3) (own := [("param", 7)]) (g := gName 7) rfl scFirst.nd rfl rfl (sw_true rfl rfl rfl (by decide +kernel)) (pi_tup (pv 0)) (blkOk_by (N := nFirst) (sc := defScope sFirst) (by decide +kernel)) (fun _ _ _ _ _ => pg_name (i := 7) scFirst.nd rfl (Or.inl rfl))
          (fun _ _ _ _ _ => pts_one (pt_cmpR op_eq (show PE _ _ (tFld K (tVar 7) "holds") from pe_fld (pv 7) rfl) pe_str (nomark _))) (fun _ _ _ _ _ => (show PE _ _ (tFld K (tVar 7) "name") from pe_fld (pv 7) rfl)))
      (pss_cons (ps_setLc (i := 4) (own := [("param", 7)]) (g := gName 7) rfl scFirst.nd rfl rfl (sw_true rfl rfl rfl (by decide +kernel)) (pi_tup (pv 0)) (blkOk_by (N := nFirst) (sc := defScope sFirst) (by decide +kernel)) (fun _ _ _ _ _ => pg_name (i := 7) scFirst.nd rfl (Or.inl rfl))
          (fun _ _ _ _ _ => pts_one (pt_cmpR op_eq (show PE _ _ (tFld K (tVar 7) "holds") from pe_fld (pv 7) rfl) pe_str (nomark _))) (fun _ _ _ _ _ => (show PE _ _ (tFld K (tVar 7) "name") from pe_fld (pv 7) rfl)))
      (pss_cons (ps_for PassesOwn.never rfl (pi_enumT (by rfl) hen (pa_cons (pv 1) pa_nil)) (pg_tup rfl (pgs_cons (pg_name (i := 5) scFirst.nd rfl (.inl rfl)) (pgs_cons (pg_name (i := 6) scFirst.nd rfl (.inl rfl)) pgs_nil)))
        pss_never)
      (pss_cons (ps_if (PW.pt (pw_or (pt_not (pt_val (pe_call GH hr (by rfl) mH kkH bH .nil pass0 (pa_cons (pv 2) (pa_cons (pe_glob (v := .ref aX) (by rfl) mX rfl) pa_nil)))))
            (pw_or1 (pt_not (pt_val (pe_call GU hr1 (by rfl) mU kU bU .nil pass0 (pa_cons (pe_call GP hr2 (by rfl) mP kP bP .nil pass0 (pa_cons (pv 2) (pa_cons (pe_glob (v := .ref aX) (by rfl) mX rfl) pa_nil))) (pa_cons (pv 4) pa_nil)))))))) (pss_one (ps_ret (pe_callB call_len_seq (by rfl) W.len PySem.boot_len (pa_cons (pv 1) pa_nil)))) pss_nil)
      (pss_one (ps_ret pe_non))))), ?_⟩
    refine ⟨_, rfl, tP, rfl, ⟨_, hP⟩, fun D3 hD3 => ?_⟩
    refine lc_it walk_tup (fun i H3 => Same H H3 ∧ H3 D3 = some (.lst [])) ⟨same_upd hD3, upd_same⟩ (fun _ _ _ h => Same.seqT h.1 hP) (fun i y H3 H4 hi => absurd hi (Nat.not_lt_zero i)) ?_
    rintro H3 ⟨s3, hl3⟩
    refine ⟨_, rfl, tP, rfl, ⟨_, Same.seqT s3 hP⟩, fun D4 hD4 => ?_⟩
    refine lc_it walk_tup (fun i G3 => Same H3 G3 ∧ G3 D4 = some (.lst [])) ⟨same_upd hD4, upd_same⟩ (fun _ _ _ h => Same.seqT (s3.trans h.1) hP) (fun i y H3 H4 hi => absurd hi (Nat.not_lt_zero i)) ?_
    rintro H4 ⟨s4, hl4⟩
    have s34 := s3.trans s4
    refine ⟨_, rfl, tR, [], rfl, Same.seqT s34 hRs, for_it (walk_enumT (xs := [])) (fun i σ H5 => H5 = H4 ∧ ∃ x y, σ = [some (.ref tP), some (.ref tR), some (.ref tX), some (.ref D3), some (.ref D4), x, y, none, none, none])
      ⟨rfl, _, _, rfl⟩ (fun _ _ _ _ h => by rw [h.1]; exact Same.seqT s34 hRs) (fun i y σ H3 H4 hi => absurd hi (Nat.not_lt_zero i)) ?_⟩
    rintro σ H5 ⟨rfl, x5, x6, rfl⟩
    have okN : OkD (.tuple [.str "none"]) := ⟨by decide +kernel, by decide +kernel⟩
    have hX5 := Same.seqT s34 hX
    refine ⟨_, rfl, .ref tX, .tuple [.str "none"], aX, resultForms, rfl, .tup hX5 (.cons (.str _) .nil), okN, fX, none_okD, fun H6 s6 => ⟨_, rfl, ?_⟩⟩
    rw [show hasForm S0 (.tuple [.str "none"]) resultForms = true by decide +kernel]
    refine iteF ?_
    refine ⟨_, rfl, tX, aX, [.str "none"], [.str "none"], resultForms, ["none"], rfl, Same.seqT s6 hX5, .cons (.str _) .nil, okN, fX, result_ok.len, by decide +kernel, (fun z hz => by cases hz), fun H7 l ts s7 nl hl lts hp => ?_⟩
    have lts0 : ts = [] := List.eq_nil_of_length_eq_zero (by rw [lts]; rfl)
    subst lts0
    refine ⟨_, rfl, l, D4, [], [], [], [], rfl, SqL.of hl, SqL.of (s7 _ _ (s6 _ _ hl4)), PtsAt.nil, rfl, rfl, Nat.zero_le _, (fun i v h => by simp at h), fun H8 s8 => ⟨_, rfl, ?_⟩⟩
    refine iteF ?_
    exact q0 _ (((s34.trans s6).trans s7).trans s8)
def spM0 (K : PySem.W.Frag) (CM : Addr) : Sp := fun vs H Q _ => ∃ (p dx tR tX tP : Addr) (z : Str), vs = [.ref p, .str z, .ref tR, .ref tX, .ref tP] ∧ H p = some (.ins CM dx []) ∧ nameOk z = true ∧ OkD (.str z) ∧ SqT K H tR [] ∧ SqT K H tX [.str "none"] ∧ SqT K H tP [] ∧
  ∀ H', (∀ b o, b ≠ p → H b = some o → H' b = some o) → H' p = some (.ins CM dx (mF (.str z) (.ref tP) (.ref tR) (.ref tX))) → Q .non H'
abbrev FM (K : PySem.W.Frag) (kws : List (Str × V)) (f : Addr) (fd : FuncData) : Prop := FunD K "__init__" "Method.__init__" (defArgs sMI) (defBody sMI) (defScope sMI) [] kws f fd
/-- what Method(name) asks: the new instance, then its name -/
def spkM (K : PySem.W.Frag) (CM : Addr) : SpK := fun vs _ H Q _ => ∃ (p dx : Addr) (z : Str), vs = [.ref p, .str z] ∧ H p = some (.ins CM dx []) ∧ nameOk z = true ∧ OkD (.str z) ∧
  ∀ H' tR tX tP, (∀ b o, b ≠ p → H b = some o → H' b = some o) → H' p = some (.ins CM dx (mF (.str z) (.ref tP) (.ref tR) (.ref tX))) → Q .non H'
theorem ok_mi0 {kB : Nat} {CM f fN fA fO fB aE aX : Addr} {mc : Value} {fd fdN fdA fdO fdB : FuncData} (F : FM K [("rows", .ref aE), ("returns", .ref aX)] f fd) (hE : ∀ H, SqT K H aE []) (hXs : ∀ H, SqT K H aX [.str "none"]) (W : Wds K mg) (TM : Mtd K mg CM mc)
    (GN : FnOk P w K mg base CX0 1 fN fdN ["thing"] (spAsk K isNameD)) (mN : mg "is_name" = some (.ref fN)) (kN : PySem.W.keepIn K (.ref fN) = true) (bN : Binds K fdN ["thing"] [])
    (GA : FnOk P w K mg base CX0 1 fA fdA ["names", "taken"] (spAgain K)) (mA : mg "first_again" = some (.ref fA)) (kA : PySem.W.keepIn K (.ref fA) = true) (bA : Binds K fdA ["names", "taken"] [])
    (GO : FnOk P w K mg base CX0 1 fO fdO ["params"] (spOrd0 K)) (mO : mg "check_order" = some (.ref fO)) (kO : PySem.W.keepIn K (.ref fO) = true) (bO : Binds K fdO ["params"] [])
    (GB : FnOk P w K mg base CX0 kB fB fdB ["params", "rows", "returns"] (spFirst0 K)) (mB : mg "first_bad_row" = some (.ref fB)) (kkB : PySem.W.keepIn K (.ref fB) = true) (bB : Binds K fdB ["params", "rows", "returns"] []) (h3 : 1 ≤ kB) :
    FnK P w K mg base CX0 (kB + 1) f [] (spkM K CM) := by
  obtain ⟨oc, od, dV, kV, doc, pm, an, cdv, ct, osl, rfl, lk, hcd, hD, hK⟩ := F.ex
  rcases hD with ⟨_, rfl⟩ | ⟨e, _⟩
  case inr => exact absurd rfl e
  rcases hK with e | ⟨D, rfl, hq⟩
  · cases e
  obtain ⟨mv, hl, rk, hks⟩ := kwd_vals (ms := [("rows", .ref aE), ("returns", .ref aX)]) fun q hm => hq q hm
  have rk : Vals [V.ref aE, V.ref aX] mv := rk
  refine FnK.imp (fn_starD (n := 2) (ps := ["self", "name", "rows", "returns"]) (pv := "params") (g := fun us _ => us ++ mv) (gV := fun vs _ => vs ++ [.ref aE, .ref aX]) (sp := spM0 K CM) lk hcd scMI StX.cxUp_none (fun us ws h1 h2 => by rw [List.length_append, h1, hl]; rfl) (fun r1 r2 => r1.append rk) (fun us rest ws h1 h2 M A E s Q KX h => ?_) (fun A outer s H vs Q E hr h => ?_)) fun vs zs H Q E h => ?_
  · match us, ws, mv, h1, h2, hl, hks with
    | [a, b], [], [c, d], _, _, _, hks =>
      refine KwTo.run KX hks (r := newTuple rest >>= fun t => pure ((["self", "name", "rows", "returns"] : List Str).zip ([a, b] ++ [c, d]) ++ [(("params" : Str), t)])) ?_ (wpAny_bind (wpAny_mono h (fun t s' q => wpAny_pure q) (fun _ _ z => z)))
      cases rest <;> exact ⟨_, _, _, _, _, _, rfl, rfl, ⟨_, _, _, _, _, _, rfl, rfl, rfl⟩⟩
  · obtain ⟨p, dx, tR, tX, tP, z, rfl, hp, hz, okz, hR, hX, hP, q⟩ := h
    have hr1 : Room 1 _ := hr.mono (by omega)
    refine ⟨_, pss_cons (ps_if (pt_not (pt_val (pe_call GN hr1 (by rfl) mN kN bN .nil pass0 (pa_cons (pv 1) pa_nil)))) (pss_one ps_never) pss_nil)
      (pss_cons (ps_set (i := 5) scMI.nd rfl (.inl rfl) (pe_call GA hr1 (by rfl) mA kA bA .nil pass0 (pa_cons
          (pe_lc (own := [("param", 7)]) (g := gName 7) (tt := tYes) rfl scMI.nd (pi_tup (pv 4)) (blkOk_by (N := nMI) (sc := defScope sMI) (by decide +kernel)) (fun _ _ _ _ _ => pg_name (i := 7) scMI.nd rfl (Or.inl rfl)) (fun _ _ _ _ _ => pts_nil) (fun _ _ _ _ _ => (show PE _ _ (tFld K (tVar 7) "name") from pe_fld (pv 7) rfl)))
          (pa_cons (pe_tup pa_nil) pa_nil))))
      (pss_cons (ps_if (pt_cmpR op_notN (pv 5) pe_non (nomark _)) (pss_one ps_never) pss_nil)
      (pss_cons (ps_expr (pe_call GO hr1 (by rfl) mO kO bO .nil pass0 (pa_cons (pv 4) pa_nil)))
      (pss_cons (ps_if (pt_cmpR op_gt (pe_callB call_len_seq (by rfl) W.len PySem.boot_len (pa_cons (pv 4) pa_nil)) (ClX.pe_cval (pe_glob (v := .ref CM) (by rfl) TM.mgC rfl)) (nomark _)) (pss_one ps_never) pss_nil)
      (pss_cons (ps_if (pt_cmpR op_gt (pe_callB call_len_seq (by rfl) W.len PySem.boot_len (pa_cons
            (pe_lc (own := [("param", 7)]) (g := gName 7) rfl scMI.nd (pi_tup (pv 4)) (blkOk_by (N := nMI) (sc := defScope sMI) (by decide +kernel)) (fun _ _ _ _ _ => pg_name (i := 7) scMI.nd rfl (Or.inl rfl)) (fun _ _ _ _ _ => pts_one (pt_cmpR op_eq (show PE _ _ (tFld K (tVar 7) "holds") from pe_fld (pv 7) rfl) pe_str (nomark _))) (fun _ _ _ _ _ => pv 7)) pa_nil))
            (ClX.pe_cval (pe_glob (v := .ref CM) (by rfl) TM.mgC rfl)) (nomark _)) (pss_one ps_never) pss_nil)
      (pss_cons (ps_if (pt_not (pt_val (pe_callB call_isi (by rfl) W.isi (by decide +kernel) (pa_cons (pv 2) (pa_cons (pe_bltn (v := .ty "tuple") (by rfl) W.tup (by decide +kernel) rfl) pa_nil))))) (pss_one ps_never) pss_nil)
      (pss_cons (ps_set (i := 6) scMI.nd rfl (.inl rfl) (pe_call GB hr (by rfl) mB kkB bB .nil pass0 (pa_cons (pv 4) (pa_cons (pv 2) (pa_cons (pv 3) pa_nil)))))
      (pss_cons (ps_if (pt_cmpR op_notN (pv 6) pe_non (nomark _)) (pss_one ps_never) pss_nil)
      (pss_cons (ps_if (pt_cmpR op_gt (pe_callB call_len_seq (by rfl) W.len PySem.boot_len (pa_cons (pv 2) pa_nil)) (ClX.pe_cval (pe_glob (v := .ref CM) (by rfl) TM.mgC rfl)) (nomark _)) (pss_one ps_never) pss_nil)
      (pss_cons (ps_fld (pv 0) (pv 1) rfl) (pss_cons (ps_fld (pv 0) (pv 4) rfl) (pss_cons (ps_fld (pv 0) (pv 2) rfl) (pss_one (ps_fld (pv 0) (pv 3) rfl)))))))))))))), ?_⟩
    refine ⟨_, rfl, .str z, .str z, rfl, .str z, okz, fun H1 s1 => ⟨_, rfl, ?_⟩⟩
    rw [show isNameD (.str z) = true from hz]
    refine iteF ?_
    refine ⟨_, rfl, tP, rfl, ⟨_, Same.seqT s1 hP⟩, fun D hD => ?_⟩
    refine lc_it walk_tup (fun i H3 => Same H1 H3 ∧ H3 D = some (.lst [])) ⟨same_upd hD, upd_same⟩ (fun _ _ _ h => Same.seqT (s1.trans h.1) hP) (fun i y H3 H4 hi => absurd hi (Nat.not_lt_zero i)) ?_
    rintro H2 ⟨sm2, hl2⟩
    refine ⟨by show 0 ≤ sizeLine; decide, fun t nt => ?_⟩
    have st := same_upd (o := .tup []) nt
    have s2 := (s1.trans sm2).trans st
    refine ⟨D, t, [], [], rfl, SqL.of (st _ _ hl2), .inr (SqT.of upd_same), Nat.zero_le _, fun H3 s3 _ => ?_, fun H3 j y s3 hy hin2 hall2 => absurd hy (by simp)⟩
    refine ⟨_, rfl, rfl, _, rfl, iteF ?_⟩
    have s3 := s2.trans s3
    refine ⟨_, rfl, tP, rfl, Same.seqT s3 hP, fun H4 s4 => ?_⟩
    have s4 := s3.trans s4
    obtain ⟨u4, hu4⟩ := TM.k1
    obtain ⟨u2, hu2⟩ := TM.k2
    obtain ⟨u8, hu8⟩ := TM.k3
    refine ⟨_, rfl, tP, _, rfl, .inr (Same.seqT s4 hP), CM, mc, .int 4, u4, rfl, TM.rd, hu4, _, _, rfl, rfl, _, rfl, iteF ?_⟩
    refine ⟨_, rfl, tP, rfl, ⟨_, Same.seqT s4 hP⟩, fun D2 hD2 => ?_⟩
    refine lc_it walk_tup (fun i H5 => Same H4 H5 ∧ H5 D2 = some (.lst [])) ⟨same_upd hD2, upd_same⟩ (fun _ _ _ h => Same.seqT (s4.trans h.1) hP) (fun i y H3 H4 hi => absurd hi (Nat.not_lt_zero i)) ?_
    rintro H5 ⟨sm5, hl5⟩
    have s5 := s4.trans sm5
    refine ⟨D2, _, rfl, .inl (SqL.of hl5), CM, mc, .int 2, u2, rfl, TM.rd, hu2, _, _, rfl, rfl, _, rfl, iteF ?_⟩
    refine ⟨_, rfl, .ref tR, .ty "tuple", _, _, _, rfl, .ty _, tyx_tup (Same.seqT s5 hR), kit_tup (.tuple []), _, rfl, iteF ?_⟩
    refine ⟨_, rfl, _, rfl, _, rfl, tP, tR, tX, rfl, Same.seqT s5 hP, Same.seqT s5 hR, Same.seqT s5 hX, fun H6 s6 => ?_⟩
    refine ⟨_, rfl, rfl, _, rfl, iteF ?_⟩
    have s6 := s5.trans s6
    refine ⟨_, rfl, tR, _, rfl, .inr (Same.seqT s6 hR), CM, mc, .int 8, u8, rfl, TM.rd, hu8, _, _, rfl, rfl, _, rfl, iteF ?_⟩
    have hp6 := s6 _ _ hp
    refine ⟨_, rfl, _, rfl, p, CM, dx, _, rfl, hp6, TM.cl, TM.nN, (by show 0 < 1000; decide), ?_⟩
    refine ⟨_, rfl, _, rfl, p, CM, dx, _, rfl, upd_same, TM.cl, TM.nP, ?_, ?_⟩
    · exact Nat.lt_of_le_of_lt (putF_len _ _ _) (by show 1 < 1000; decide)
    refine ⟨_, rfl, _, rfl, p, CM, dx, _, rfl, upd_same, TM.cl, TM.nR, ?_, ?_⟩
    · exact Nat.lt_of_le_of_lt (Nat.le_trans (putF_len _ _ _) (Nat.succ_le_succ (putF_len _ _ _))) (by show 2 < 1000; decide)
    refine ⟨_, rfl, _, rfl, p, CM, dx, _, rfl, upd_same, TM.cl, TM.nX, ?_, ?_⟩
    · exact Nat.lt_of_le_of_lt (Nat.le_trans (putF_len _ _ _) (Nat.succ_le_succ (Nat.le_trans (putF_len _ _ _) (Nat.succ_le_succ (putF_len _ _ _))))) (by show 3 < 1000; decide)
    refine q _ (fun b o n e => ?_) upd_same
    rw [upd_ne n, upd_ne n, upd_ne n, upd_ne n]
    exact s6 _ _ e
  · obtain ⟨p, dx, z, rfl, hp, hz, okz, q⟩ := h
    refine ⟨[.ref p, .str z], [], rfl, rfl, Nat.zero_le _, fun tP nT => ?_⟩
    have sT := same_upd (o := .tup []) nT
    refine ⟨p, dx, aE, aX, tP, z, rfl, sT _ _ hp, hz, okz, hE _, hXs _, SqT.of upd_same, fun H' h1 h2 => q H' _ _ _ (fun b o n e => h1 b o n (sT _ _ e)) h2⟩
end
end Dr
namespace Dr
open PySem PySem.Spec PyProof.Rows L2
abbrev sKI : Stmt := inClass (topS 34) 2
abbrev sKOf : Stmt := inClass (topS 34) 3
abbrev nKI : List Str := ["self", "name", "base", "values", "methods", "at", "again", "method", "value"]
abbrev psKI : List Str := (["self", "name", "base", "values"] : List Str) ++ (["methods"] : List Str)
theorem scKI : FnScope nKI psKI (defScope sKI) := ⟨rfl, rfl, rfl, by decide +kernel, rfl, by decide +kernel, by decide +kernel⟩
theorem scKOf : FnScope ["cls", "name", "methods", "base", "values"] ["cls", "name", "methods", "base", "values"] (defScope sKOf) := ⟨rfl, rfl, rfl, by decide +kernel, rfl, by decide +kernel, by decide +kernel⟩
/-- what stands of the class Kind -/
structure Knd (K : PySem.W.Frag) (mg : Str → Option Value) (C : Addr) (mc : Value) : Prop where
  cl : Cls K C
  nN : NoAttr K C "name"
  nM : NoAttr K C "methods"
  nB : NoAttr K C "base"
  nV : NoAttr K C "own_values"
  mgC : mg "Kind" = some (.ref C)
  rd : ClX.CRead K C mc
  k1 : ∃ u, ClX.CVal K C mc "MOST_VALUES" (.int 3) u
  k2 : ∃ u, ClX.CVal K C mc "MOST_METHODS" (.int 4) u
def kF (vn vm vb vv : V) : List (Str × V) := putF "own_values" vv (putF "base" vb (putF "methods" vm (putF "name" vn [])))
theorem kF_name {vn vp vr vx : V} : (kF vn vp vr vx).lookup ("name" : Str) = some vn := by
  unfold kF
  rw [lookup_putF, if_neg (by decide +kernel), lookup_putF, if_neg (by decide +kernel), lookup_putF, if_neg (by decide +kernel), lookup_putF, if_pos rfl]
theorem kF_methods {vn vp vr vx : V} : (kF vn vp vr vx).lookup ("methods" : Str) = some vp := by
  unfold kF
  rw [lookup_putF, if_neg (by decide +kernel), lookup_putF, if_neg (by decide +kernel), lookup_putF, if_pos rfl]
theorem kF_base {vn vp vr vx : V} : (kF vn vp vr vx).lookup ("base" : Str) = some vr := by
  unfold kF
  rw [lookup_putF, if_neg (by decide +kernel), lookup_putF, if_pos rfl]
theorem kF_values {vn vp vr vx : V} : (kF vn vp vr vx).lookup ("own_values" : Str) = some vx := by
  unfold kF
  rw [lookup_putF, if_pos rfl]
inductive KC where
  | nm | vl | tw | tm
def KC.fld : KC → Str
  | .nm => "name" | .vl => "at" | .tw => "name" | .tm => "what"
structure KErr where
  nm : Addr
  vl : Addr
  tw : Addr
  tm : Addr
def KErr.cl (x : KErr) : KC → Addr
  | .nm => x.nm | .vl => x.vl | .tw => x.tw | .tm => x.tm
def badA (us zs : List Str) (i : Nat) : Bool := match zs[i]? with
  | none => false
  | some z => us.contains z || (zs.take i).contains z
def agn (us zs : List Str) : Option Nat := (List.range zs.length).find? (badA us zs)
theorem agn_some {us zs : List Str} {i : Nat} {z : Str} (hz : zs[i]? = some z) (hin : z ∈ us ∨ z ∈ zs.take i) (h : ∀ j, j < i → NewAt us zs j) : agn us zs = some i := by
  unfold agn
  rw [List.find?_range_eq_some]
  refine ⟨?_, List.mem_range.mpr (List.getElem?_eq_some_iff.mp hz).1, fun j hj => ?_⟩
  · unfold badA
    rw [hz]
    show (us.contains z || (zs.take i).contains z) = true
    rw [Bool.or_eq_true]
    exact hin.imp (fun h => by simpa using h) (fun h => by simpa using h)
  · unfold badA
    cases hj' : zs[j]? with
    | none => rfl
    | some y =>
      have q := h j hj y hj'
      show (!(us.contains y || (zs.take j).contains y)) = true
      rw [Bool.not_eq_true', Bool.or_eq_false_iff]
      exact ⟨by simpa using q.1, by simpa using q.2⟩
theorem agn_none {us zs : List Str} (h : ∀ j, NewAt us zs j) : agn us zs = none := by
  unfold agn
  rw [List.find?_eq_none]
  intro j hj
  unfold badA
  cases hj' : zs[j]? with
  | none => exact Bool.false_ne_true
  | some y =>
    have q := h j y hj'
    show ¬ (us.contains y || (zs.take j).contains y) = true
    rw [Bool.or_eq_true]
    rintro (k | k)
    · exact q.1 (by simpa using k)
    · exact q.2 (by simpa using k)
def isNonD : PyData → Bool
  | .none => true
  | _ => false
def kErrR (ds : List PyData) (ms : List Str) : Option (KC × PyData) := if 3 < ds.length then some (.tm, .str "values") else if 4 < ms.length then some (.tm, .str "methods") else none
def kErrA (ds : List PyData) (ms : List Str) : Option (KC × PyData) := match agn (ds.map nmD) ms with
  | some i => some (.tw, .str (ms.getD i ""))
  | none => kErrR ds ms
def kErrT (ds : List PyData) (ms : List Str) : Option (KC × PyData) := match fbv ds with
  | some i => some (.vl, .int i)
  | none => kErrA ds ms
def kErrV (dv : PyData) (ms : List Str) : Option (KC × PyData) := match dv with
  | .tuple ds => kErrT ds ms
  | _ => some (.vl, .int (-1))
def kErr (dn db dv : PyData) (ms : List Str) : Option (KC × PyData) :=
  if isNameD dn = false then some (.nm, dn)
  else if (isNonD db || isNameD db) = false then some (.nm, db)
  else kErrV dv ms
theorem kErrA_some {ds : List PyData} {ms : List Str} {i : Nat} (h : agn (ds.map nmD) ms = some i) : kErrA ds ms = some (.tw, .str (ms.getD i "")) := by
  unfold kErrA
  rw [h]
theorem kErrA_none {ds : List PyData} {ms : List Str} (h : agn (ds.map nmD) ms = none) : kErrA ds ms = kErrR ds ms := by
  unfold kErrA
  rw [h]
theorem kErrT_some {ds : List PyData} {ms : List Str} {i : Nat} (h : fbv ds = some i) : kErrT ds ms = some (.vl, .int i) := by
  unfold kErrT
  rw [h]
theorem kErrT_none {ds : List PyData} {ms : List Str} (h : fbv ds = none) : kErrT ds ms = kErrA ds ms := by
  unfold kErrT
  rw [h]
def errC (H : Hp) (E : XK) (c : Addr) (f : Str) (v : V) : Prop := ∀ d H', Same H H' → H' d = some (.xd [(f, v)]) → E (.ref c) (some d) H'
theorem errC.go {H H1 : Hp} {E : XK} {c : Addr} {f : Str} {v : V} (h : errC H E c f v) (s : Same H H1) : 1 ≤ 1000 ∧ ∀ a, H1 a = none → spExI c f [.ref a, v] (upd H1 a (exo a c none)) (fun v H2 => v = .non ∧ ∃ (d : Addr) (fs : List (Str × V)), H2 a = some (exo a c (some d)) ∧ H2 d = some (exd d fs) ∧ H1 d = none ∧ E (.ref c) (some d) (upd (del H2 a) d (.xd fs))) (fun _ _ _ => False) :=
  ⟨by decide, fun _ na => ex_end na fun d H' s' hd => h d H' (s.trans s') hd⟩
theorem errC.same {H H1 : Hp} {E : XK} {c : Addr} {f : Str} {v : V} (h : errC H E c f v) (s : Same H H1) : errC H1 E c f v := fun d H' s' e => h d H' (s.trans s') e
/-- methods of these names stand at as -/
def MsAt (C : Addr) (H : Hp) (as : List Addr) (ms : List Str) : Prop := as.length = ms.length ∧ ∀ (i : Nat) (a : Addr), as[i]? = some a → ∃ z, ms[i]? = some z ∧ ∃ dx vp vr vx, H a = some (.ins C dx (mF (.str z) vp vr vx))
theorem MsAt.ext {C : Addr} {H H' : Hp} {as : List Addr} {ms : List Str} (h : MsAt C H as ms) (s : ∀ a dx fs, H a = some (.ins C dx fs) → H' a = some (.ins C dx fs)) : MsAt C H' as ms := ⟨h.1, fun i a e => by
  obtain ⟨z, hz, dx, vp, vr, vx, ha⟩ := h.2 i a e
  exact ⟨z, hz, dx, vp, vr, vx, s _ _ _ ha⟩⟩
theorem MsAt.same {C : Addr} {H H' : Hp} {as : List Addr} {ms : List Str} (h : MsAt C H as ms) (s : Same H H') : MsAt C H' as ms := h.ext fun _ _ _ e => s _ _ e
section
variable {P : Program} {w : World} {K : PySem.W.Frag} {mg : Str → Option Value} {base : Heap}
/-- what a kind's making asks of its caller -/
structure KArgs (K : PySem.W.Frag) (CM : Addr) (H : Hp) (vn vb vv : V) (dn db dv : PyData) (as : List Addr) (ms : List Str) : Prop where
  n : Dp K H vn dn
  on : OkD dn
  b : Dp K H vb db
  ob : OkD db
  v : Dp K H vv dv
  ov : OkD dv
  ms : MsAt CM H as ms
  len : as.length ≤ 100
theorem KArgs.same {CM : Addr} {H H' : Hp} {vn vb vv : V} {dn db dv : PyData} {as : List Addr} {ms : List Str} (h : KArgs K CM H vn vb vv dn db dv as ms) (s : Same H H') : KArgs K CM H' vn vb vv dn db dv as ms :=
  ⟨dp_same s h.n, h.on, dp_same s h.b, h.ob, dp_same s h.v, h.ov, h.ms.same s, h.len⟩
/-- what is left of a refusal -/
def KBad (K : PySem.W.Frag) (H : Hp) (E : XK) (x : KErr) (dn db dv : PyData) (ms : List Str) : Prop := ∀ c e, kErr dn db dv ms = some (c, e) → ∀ H1 v, Same H H1 → Dp K H1 v e → errC H1 E (x.cl c) c.fld v
theorem KBad.same {H H' : Hp} {E : XK} {x : KErr} {dn db dv : PyData} {ms : List Str} (h : KBad K H E x dn db dv ms) (s : Same H H') : KBad K H' E x dn db dv ms := fun c e h1 H1 v s1 h2 => h c e h1 H1 v (s.trans s1) h2
def spKI (K : PySem.W.Frag) (CK CM : Addr) (x : KErr) : Sp := fun vs H Q E => ∃ (p dx tM : Addr) (vn vb vv : V) (dn db dv : PyData) (as : List Addr) (ms : List Str), vs = [.ref p, vn, vb, vv, .ref tM] ∧ H p = some (.ins CK dx []) ∧ KArgs K CM H vn vb vv dn db dv as ms ∧ SqT K H tM (as.map V.ref) ∧
  KBad K H E x dn db dv ms ∧
  (kErr dn db dv ms = none → ∀ H', (∀ b o, b ≠ p → H b = some o → H' b = some o) → H' p = some (.ins CK dx (kF vn (.ref tM) vb vv)) → Q .non H')
abbrev FK (K : PySem.W.Frag) (kws : List (Str × V)) (f : Addr) (fd : FuncData) : Prop := FunD K "__init__" "Kind.__init__" (defArgs sKI) (defBody sKI) (defScope sKI) [] kws f fd
theorem dp_non {K : PySem.W.Frag} {H : Hp} {v : V} {d : PyData} (h : Dp K H v d) : decide (v = .non) = isNonD d := by
  cases h <;> first | rfl | exact decide_eq_false (by simp)
theorem ki_body {kB : Nat} {CK CM f fN fA fB gN gT gM gR : Addr} {mc mcM : Value} {fd fdN fdA fdB fdGN fdGT fdGM fdGR : FuncData} {x : KErr} (W : Wds K mg) (T : Mtd K mg CM mcM) (TK : Knd K mg CK mc)
    (GN : FnOk P w K mg base CX0 1 fN fdN ["thing"] (spAsk K isNameD)) (mN : mg "is_name" = some (.ref fN)) (kN : PySem.W.keepIn K (.ref fN) = true) (bN : Binds K fdN ["thing"] [])
    (GA : FnOk P w K mg base CX0 1 fA fdA ["names", "taken"] (spAgain K)) (mA : mg "first_again" = some (.ref fA)) (kA : PySem.W.keepIn K (.ref fA) = true) (bA : Binds K fdA ["names", "taken"] [])
    (GB : FnOk P w K mg base CX0 kB fB fdB ["values"] (spFBV K)) (mB : mg "first_bad_value" = some (.ref fB)) (kkB : PySem.W.keepIn K (.ref fB) = true) (bB : Binds K fdB ["values"] [])
    (EN : Erc K mg "BadName" "name" x.nm gN) (GEN : FnOk P w K mg base CX0 1 gN fdGN ["self", "name"] (spExI x.nm "name")) (bEN : Binds K fdGN ["self", "name"] [])
    (ET : Erc K mg "Twice" "name" x.tw gT) (GET : FnOk P w K mg base CX0 1 gT fdGT ["self", "name"] (spExI x.tw "name")) (bET : Binds K fdGT ["self", "name"] [])
    (EM : Erc K mg "TooMany" "what" x.tm gM) (GEM : FnOk P w K mg base CX0 1 gM fdGM ["self", "what"] (spExI x.tm "what")) (bEM : Binds K fdGM ["self", "what"] [])
    (ER : Erc K mg "BadValue" "at" x.vl gR) (GER : FnOk P w K mg base CX0 1 gR fdGR ["self", "at"] (spExI x.vl "at")) (bER : Binds K fdGR ["self", "at"] []) (h3 : 2 ≤ kB)
    {cdv : Value} (A : Around) (outer : List Env) (s : Shared) (H : Hp) (vs : List V) (Q : VK) (E : XK) (hr : Room kB (A.deeper (envOfC "Kind.__init__" (defScope sKI) s.heap.objs.size f cdv))) (h : spKI K CK CM x vs H Q E) :
    ∃ t, PSs (cxOf (L2.CX P w) P w K mg base nKI "Kind.__init__" (defScope sKI) f cdv A outer s H E) (defBody sKI) t ∧ t { nx := fun _ H' => Q .non H', rt := Q } (start nKI vs) H := by
    obtain ⟨p, dx, tM, vn, vb, vv, dn, db, dv, as, ms, rfl, hp, ha, hM, hE0, hQ⟩ := h
    have hE : ∀ c e v, kErr dn db dv ms = some (c, e) → Dp K H v e → errC H E (x.cl c) c.fld v := fun c e v h1 h2 => hE0 c e h1 H v (Same.refl _) h2
    have hr1 : Room 1 _ := hr.mono (by omega)
    have hr2 : Room 2 _ := hr.mono (by omega)
    refine ⟨_, pss_cons (ps_if (pt_not (pt_val (pe_call GN hr1 (by rfl) mN kN bN .nil pass0 (pa_cons (pv 1) pa_nil)))) (pss_one (ps_raise rfl (takes_of rfl rfl rfl rfl) (pmk_oex EN.oex EN.init EN.tyI GEN hr2 bEN .nil pass0 (by rfl) EN.mgC (pa_cons (pv 1) pa_nil)))) pss_nil)
      (C8.pss_cut (ps_if (PW.pt (pw_and (pt_cmpR op_notN (pv 2) pe_non (nomark _)) (pw_and1 (pt_not (pt_val (pe_call GN hr1 (by rfl) mN kN bN .nil pass0 (pa_cons (pv 2) pa_nil))))))) (pss_one (ps_raise rfl (takes_of rfl rfl rfl rfl) (pmk_oex EN.oex EN.init EN.tyI GEN hr2 bEN .nil pass0 (by rfl) EN.mgC (pa_cons (pv 2) pa_nil)))) pss_nil)
      (pss_cons (ps_if (pt_not (pt_val (pe_callB call_isi (by rfl) W.isi (by decide +kernel) (pa_cons (pv 3) (pa_cons (pe_bltn (v := .ty "tuple") (by rfl) W.tup (by decide +kernel) rfl) pa_nil))))) (pss_one (ps_raise rfl (takes_of rfl rfl rfl rfl) (pmk_oex ER.oex ER.init ER.tyI GER hr2 bER .nil pass0 (by rfl) ER.mgC (pa_cons (pe_un un_neg pe_int) pa_nil)))) pss_nil)
      (pss_cons (ps_set (i := 5) scKI.nd rfl (.inl rfl) (pe_call GB hr (by rfl) mB kkB bB .nil pass0 (pa_cons (pv 3) pa_nil)))
      (pss_cons (ps_if (pt_cmpR op_notN (pv 5) pe_non (nomark _)) (pss_one (ps_raise rfl (takes_of rfl rfl rfl rfl) (pmk_oex ER.oex ER.init ER.tyI GER hr2 bER .nil pass0 (by rfl) ER.mgC (pa_cons (pv 5) pa_nil)))) pss_nil)
      (pss_cons (ps_set (i := 6) scKI.nd rfl (.inl rfl) (pe_call GA hr1 (by rfl) mA kA bA .nil pass0 (pa_cons
          (pe_lc (own := [("method", 7)]) (g := gName 7) (tt := tYes) rfl scKI.nd (pi_tup (pv 4)) (blkOk_by (N := nKI) (sc := defScope sKI) (by decide +kernel)) (fun _ _ _ _ _ => pg_name (i := 7) scKI.nd rfl (Or.inl rfl)) (fun _ _ _ _ _ => pts_nil) (fun _ _ _ _ _ => (show PE _ _ (tFld K (tVar 7) "name") from pe_fld (pv 7) rfl)))
          (pa_cons (pe_lc (own := [("value", 8)]) (g := gName 8) (tt := tYes) rfl scKI.nd (pi_tup (pv 3)) (blkOk_by (N := nKI) (sc := defScope sKI) (by decide +kernel)) (fun _ _ _ _ _ => pg_name (i := 8) scKI.nd rfl (Or.inl rfl)) (fun _ _ _ _ _ => pts_nil) (fun _ _ _ _ _ => pe_ix (show IxR _ (rIxT K) from ix_tup) (pv 8) pe_int (fun _ _ => rfl))) pa_nil))))
      (pss_cons (ps_if (pt_cmpR op_notN (pv 6) pe_non (nomark _)) (pss_one (ps_raise rfl (takes_of rfl rfl rfl rfl) (pmk_oex ET.oex ET.init ET.tyI GET hr2 bET .nil pass0 (by rfl) ET.mgC (pa_cons (pv 6) pa_nil)))) pss_nil)
      (pss_cons (ps_if (pt_cmpR op_gt (pe_callB call_len_seq (by rfl) W.len PySem.boot_len (pa_cons (pv 3) pa_nil)) (ClX.pe_cval (pe_glob (v := .ref CK) (by rfl) TK.mgC rfl)) (nomark _)) (pss_one (ps_raise rfl (takes_of rfl rfl rfl rfl) (pmk_oex EM.oex EM.init EM.tyI GEM hr2 bEM .nil pass0 (by rfl) EM.mgC (pa_cons pe_str pa_nil)))) pss_nil)
      (pss_cons (ps_if (pt_cmpR op_gt (pe_callB call_len_seq (by rfl) W.len PySem.boot_len (pa_cons (pv 4) pa_nil)) (ClX.pe_cval (pe_glob (v := .ref CK) (by rfl) TK.mgC rfl)) (nomark _)) (pss_one (ps_raise rfl (takes_of rfl rfl rfl rfl) (pmk_oex EM.oex EM.init EM.tyI GEM hr2 bEM .nil pass0 (by rfl) EM.mgC (pa_cons pe_str pa_nil)))) pss_nil)
      (pss_cons (ps_fld (pv 0) (pv 1) rfl) (pss_cons (ps_fld (pv 0) (pv 4) rfl) (pss_cons (ps_fld (pv 0) (pv 2) rfl) (pss_one (ps_fld (pv 0) (pv 3) rfl))))))))))))), ?_⟩
    refine ⟨_, rfl, vn, dn, rfl, ha.n, ha.on, fun H1 s1 => ⟨_, rfl, ?_⟩⟩
    unfold kErr at hE hQ
    cases h0 : isNameD dn with
    | false =>
      rw [if_pos h0] at hE
      exact iteT ⟨_, rfl, (hE .nm dn vn rfl ha.n).go s1⟩
    | true =>
    rw [if_neg (by rw [h0]; exact Bool.noConfusion)] at hE hQ
    refine iteF ?_
    -- the base
    refine ⟨fun σ' H2 => σ' = [some (.ref p), some vn, some vb, some vv, some (.ref tM), none, none, none, none] ∧ Same H H2 ∧ (isNonD db || isNameD db) = true, ?_, fun σ' H2 hM2 => ?_⟩
    · refine ⟨_, rfl, rfl, _, rfl, ?_⟩
      rw [dp_non ha.b]
      cases hn : isNonD db with
      | true => exact iteF ⟨rfl, s1, rfl⟩
      | false =>
        refine iteT ⟨_, rfl, vb, db, rfl, dp_same s1 ha.b, ha.ob, fun H2 s2 => ⟨_, rfl, ?_⟩⟩
        cases hb : isNameD db with
        | true => exact iteF ⟨rfl, s1.trans s2, rfl⟩
        | false =>
          rw [if_pos (by rw [hn, hb]; rfl)] at hE
          exact iteT ⟨_, rfl, (hE .nm db vb rfl ha.b).go (s1.trans s2)⟩
    obtain ⟨rfl, s2, hb⟩ := hM2
    rw [if_neg (by rw [hb]; exact Bool.noConfusion)] at hE hQ
    -- a tuple of values
    refine ⟨_, rfl, vv, .ty "tuple", _, _, _, rfl, .ty _, dp_ty (dp_same s2 ha.v), kit_tup dv, _, rfl, ?_⟩
    cases ht : isTupD dv with
    | false =>
      refine iteT ⟨1, rfl, ?_⟩
      have hE1 : errC H E x.vl "at" (.int (-1)) := by
        cases dv <;> first | exact hE .vl (.int (-1)) (.int (-1)) rfl (.int _) | cases ht
      exact hE1.go s2
    | true =>
    refine iteF ?_
    cases dv with
    | tuple ds =>
      have hv0 := ha.v
      cases hv0 with
      | @tup a xs _ hS hall =>
        obtain ⟨hlen, hoks⟩ := ha.ov.tup
        have hxl := dpAll_len hall
        refine ⟨_, rfl, a, ds, rfl, dp_same s2 ha.v, ha.ov, fun H3 s3 => ?_⟩
        have s3 := s2.trans s3
        refine ⟨_, rfl, rfl, _, rfl, ?_⟩
        cases hf : fbv ds with
        | some i =>
          have hE1 : errC H E x.vl "at" (.int i) := hE .vl (.int i) (.int i) (kErrT_some hf) (.int _)
          exact iteT ⟨_, rfl, hE1.go s3⟩
        | none =>
        have hE2 : ∀ c e v, kErrA ds ms = some (c, e) → Dp K H v e → errC H E (x.cl c) c.fld v := fun c e v h1 h2 => hE c e v ((kErrT_none hf).trans h1) h2
        have hQ2 : kErrA ds ms = none → _ := fun h1 => hQ ((kErrT_none hf).trans h1)
        refine iteF ?_
        have hval : ∀ (i : Nat) d, ds[i]? = some d → isValueD d = true := fun i d hd => by
          unfold fbv at hf
          rw [List.find?_eq_none] at hf
          have hi := (List.getElem?_eq_some_iff.mp hd).1
          have q := hf i (List.mem_range.mpr hi)
          unfold badV at q
          rw [hd] at q
          cases hv : isValueD d with
          | true => rfl
          | false =>
            refine absurd ?_ q
            show (!isValueD d || _) = true
            rw [hv]
            rfl
        -- the names of the methods
        have hMl := ha.ms.1
        have hlen100 := ha.len
        refine ⟨_, rfl, tM, rfl, ⟨_, Same.seqT s3 hM⟩, fun D hD => ?_⟩
        refine lc_it walk_tup (fun i H4 => Same H3 H4 ∧ H4 D = some (.lst ((ms.take i).map V.str))) ⟨same_upd hD, upd_same⟩ (fun _ _ _ h => Same.seqT (s3.trans h.1) hM) ?_ ?_
        · rintro i y H4 H5 hi ⟨sm, hl⟩ ⟨rfl, e1⟩
          rw [List.getElem?_map] at e1
          cases hai : as[i]? with
          | none =>
            rw [hai] at e1
            cases e1
          | some b =>
            rw [hai] at e1
            obtain rfl := Option.some.inj e1
            obtain ⟨z, hz, dy, vp, vr, vx, hat⟩ := ha.ms.2 i b hai
            have hat := sm _ _ (s3 _ _ hat)
            refine ⟨rfl, ?_⟩
            unfold tYes
            refine iteT ⟨_, rfl, b, CM, dy, _, _, rfl, hat, T.cl, T.nN, mF_name, _, hl, ?_, same_grow sm hD, ?_⟩
            · rw [List.length_map, List.length_take]
              exact small1000 (by omega)
            · rw [upd_same, List.take_add_one, hz, List.map_append]
              rfl
        rintro H4 ⟨sm4, hl4⟩
        rw [List.length_map, hMl, List.take_length] at hl4
        have s4 := s3.trans sm4
        -- the names of the values
        refine ⟨_, rfl, a, rfl, ⟨_, Same.seqT s4 hS⟩, fun D2 hD2 => ?_⟩
        refine lc_it walk_tup (fun i H5 => Same H4 H5 ∧ H5 D2 = some (.lst (((ds.map nmD).take i).map V.str))) ⟨same_upd hD2, upd_same⟩ (fun _ _ _ h => Same.seqT (s4.trans h.1) hS) ?_ ?_
        · rintro i y H5 H6 hi ⟨sm, hl⟩ ⟨rfl, e1⟩
          obtain ⟨d, hd, hdp⟩ := dpAll_get hall e1
          obtain ⟨z, b, rfl, hz, hb⟩ := valueD_inv (hval i d hd)
          obtain ⟨t, vb', rfl, ht', _⟩ := dp_tup2 hdp
          refine ⟨rfl, ?_⟩
          unfold tYes
          refine iteT ⟨_, rfl, t, _, 0, .str z, rfl, rfl, Same.seqT (s4.trans sm) ht', atI_nat (j := 0) rfl, _, hl, ?_, same_grow sm hD2, ?_⟩
          · rw [List.length_map, List.length_take, List.length_map]
            exact small1000 (by omega)
          · rw [upd_same, List.take_add_one, List.getElem?_map, hd, List.map_append]
            rfl
        rintro H5 ⟨sm5, hl5⟩
        rw [hxl, show (ds.map nmD).take ds.length = ds.map nmD from List.take_of_length_le (by rw [List.length_map]; exact Nat.le_refl _)] at hl5
        have s5 := s4.trans sm5
        have ml : ms.length ≤ 1000 := by omega
        refine ⟨D, D2, ms, ds.map nmD, rfl, SqL.of (sm5 _ _ hl4), .inl (SqL.of hl5), ml, fun H6 s6 hn => ?_, fun H6 i z s6 hz hin hall6 => ?_⟩
        case refine_2 =>
          have e1 := agn_some hz hin hall6
          have e2 : ms.getD i "" = z := by
            rw [List.getD_eq_getElem?_getD, hz]
            rfl
          have hE3 : errC H E x.tw "name" (.str z) := hE2 .tw (.str z) (.str z) (by rw [kErrA_some e1, e2]) (.str _)
          exact ⟨_, rfl, rfl, _, rfl, iteT ⟨_, rfl, hE3.go (s5.trans s6)⟩⟩
        rw [kErrA_none (agn_none hn)] at hE2 hQ2
        have s6 := s5.trans s6
        refine ⟨_, rfl, rfl, _, rfl, iteF ?_⟩
        obtain ⟨u3, hu3⟩ := TK.k1
        obtain ⟨u4, hu4⟩ := TK.k2
        refine ⟨_, rfl, a, _, rfl, .inr (Same.seqT s6 hS), CK, mc, .int 3, u3, rfl, TK.rd, hu3, _, _, rfl, rfl, _, rfl, ?_⟩
        by_cases h3 : 3 < ds.length
        · rw [decide_eq_true (show (xs.length : Int) > 3 by omega)]
          have hE3 : errC H E x.tm "what" (.str "values") := hE2 .tm (.str "values") (.str "values") (by unfold kErrR; rw [if_pos h3]) (.str _)
          exact iteT (hE3.go s6)
        rw [decide_eq_false (show ¬ (xs.length : Int) > 3 by omega)]
        refine iteF ?_
        refine ⟨_, rfl, tM, _, rfl, .inr (Same.seqT s6 hM), CK, mc, .int 4, u4, rfl, TK.rd, hu4, _, _, rfl, rfl, _, rfl, ?_⟩
        rw [List.length_map]
        by_cases h4 : 4 < ms.length
        · rw [decide_eq_true (show (as.length : Int) > 4 by omega)]
          have hE3 : errC H E x.tm "what" (.str "methods") := hE2 .tm (.str "methods") (.str "methods") (by unfold kErrR; rw [if_neg h3, if_pos h4]) (.str _)
          exact iteT (hE3.go s6)
        rw [decide_eq_false (show ¬ (as.length : Int) > 4 by omega)]
        refine iteF ?_
        have q := hQ2 (by unfold kErrR; rw [if_neg h3, if_neg h4])
        have hp6 := s6 _ _ hp
        refine ⟨_, rfl, _, rfl, p, CK, dx, _, rfl, hp6, TK.cl, TK.nN, (by show 0 < 1000; decide), ?_⟩
        refine ⟨_, rfl, _, rfl, p, CK, dx, _, rfl, upd_same, TK.cl, TK.nM, ?_, ?_⟩
        · exact Nat.lt_of_le_of_lt (putF_len _ _ _) (by show 1 < 1000; decide)
        refine ⟨_, rfl, _, rfl, p, CK, dx, _, rfl, upd_same, TK.cl, TK.nB, ?_, ?_⟩
        · exact Nat.lt_of_le_of_lt (Nat.le_trans (putF_len _ _ _) (Nat.succ_le_succ (putF_len _ _ _))) (by show 2 < 1000; decide)
        refine ⟨_, rfl, _, rfl, p, CK, dx, _, rfl, upd_same, TK.cl, TK.nV, ?_, ?_⟩
        · exact Nat.lt_of_le_of_lt (Nat.le_trans (putF_len _ _ _) (Nat.succ_le_succ (Nat.le_trans (putF_len _ _ _) (Nat.succ_le_succ (putF_len _ _ _))))) (by show 3 < 1000; decide)
        refine q _ (fun b o n e => ?_) upd_same
        rw [upd_ne n, upd_ne n, upd_ne n, upd_ne n]
        exact s6 _ _ e
    | _ => cases ht
end
end Dr
namespace Dr
open PySem PySem.Spec PyProof.Rows L2
section
variable {P : Program} {w : World} {K : PySem.W.Frag} {mg : Str → Option Value} {base : Heap}
/-- what Kind(name, *methods, base = b, values = v) asks -/
def spkK (K : PySem.W.Frag) (CK CM : Addr) (x : KErr) : SpK := fun vs zs H Q E => ∃ (p dx : Addr) (vn vb vv : V) (dn db dv : PyData) (as : List Addr) (ms : List Str), vs = .ref p :: vn :: as.map V.ref ∧ zs = [vb, vv] ∧ H p = some (.ins CK dx []) ∧ KArgs K CM H vn vb vv dn db dv as ms ∧
  KBad K H E x dn db dv ms ∧
  (kErr dn db dv ms = none → ∀ H' tM, (∀ b o, b ≠ p → H b = some o → H' b = some o) → SqT K H' tM (as.map V.ref) → H' p = some (.ins CK dx (kF vn (.ref tM) vb vv)) → Q .non H')
/-- the same with base and values left out -/
def spkK0 (K : PySem.W.Frag) (CK CM : Addr) (x : KErr) (aV : Addr) : SpK := fun vs zs H Q E => spkK K CK CM x vs [.non, .ref aV] H Q E
theorem spkK.to {CK CM : Addr} {x : KErr} {vs zs : List V} {H : Hp} {Q : VK} {E : XK} (h : spkK K CK CM x vs zs H Q E) : ∃ xs rest, vs = xs ++ rest ∧ xs.length = 2 ∧ rest.length ≤ sizeLine ∧ ∀ t, H t = none → spKI K CK CM x ((xs ++ zs) ++ [V.ref t]) (upd H t (.tup rest)) Q E := by
  obtain ⟨p, dx, vn, vb, vv, dn, db, dv, as, ms, rfl, rfl, hp, ha, hE, hQ⟩ := h
  refine ⟨[.ref p, vn], as.map V.ref, rfl, rfl, ?_, fun t nt => ?_⟩
  · rw [List.length_map]
    have := ha.len
    exact Nat.le_of_lt (small1000 (by omega))
  · have sT := same_upd (o := .tup (as.map V.ref)) nt
    refine ⟨p, dx, t, vn, vb, vv, dn, db, dv, as, ms, rfl, sT _ _ hp, ha.same sT, SqT.of upd_same, hE.same sT, fun h1 H' h2 h3 => ?_⟩
    exact hQ h1 H' t (fun b o n e => h2 b o n (sT _ _ e)) (SqT.of (h2 _ _ (fun e => by rw [e, hp] at nt; cases nt) upd_same)) h3
theorem fk_bv {k : Nat} {CK CM f : Addr} {fd : FuncData} {x : KErr} {kws : List (Str × V)} (F : FK K kws f fd)
    (hb : ∀ (cdv : Value) (A : Around) (outer : List Env) (s : Shared) (H : Hp) (vs : List V) (Q : VK) (E : XK), Room k (A.deeper (envOfC "Kind.__init__" (defScope sKI) s.heap.objs.size f cdv)) → spKI K CK CM x vs H Q E →
      ∃ t, PSs (cxOf (L2.CX P w) P w K mg base nKI "Kind.__init__" (defScope sKI) f cdv A outer s H E) (defBody sKI) t ∧ t { nx := fun _ H' => Q .non H', rt := Q } (start nKI vs) H) :
    FnK P w K mg base (L2.CX P w) (k + 1) f ["base", "values"] (spkK K CK CM x) := by
  obtain ⟨oc, od, dV, kV, doc, pm, an, cdv, ct, osl, rfl, lk, hcd, hD, hK⟩ := F.ex
  refine FnK.imp (fn_starK (n := 2) (ps := ["self", "name", "base", "values"]) (pv := "methods") (g := fun xs ys => xs ++ ys) (sp := spKI K CK CM x) lk hcd scKI StX.cxUp (fun xs ys h1 h2 => by rw [List.length_append, h1, h2]; rfl) (fun r1 r2 => r1.append r2) (fun us rest ws h1 h2 M A E s Q KX h => ?_) (hb cdv)) fun vs zs H Q E h => h.to
  match us, ws, h1, h2 with
  | [a, b], [c, d], _, _ =>
    rcases hD with ⟨_, rfl⟩ | ⟨e, _⟩
    · have e : bindArgs (PySem.W.fnOf "__init__" "Kind.__init__" (defArgs sKI) (defBody sKI) (defScope sKI) .none kV doc pm an cdv ct) ⟨[a, b] ++ rest, (["base", "values"] : List Str).zip [c, d]⟩ = (newTuple rest >>= fun t => pure ((["self", "name", "base", "values"] : List Str).zip ([a, b] ++ [c, d]) ++ [(("methods" : Str), t)])) := by
        cases rest <;> rfl
      rw [e]
      exact wpAny_bind (wpAny_mono h (fun t s' q => wpAny_pure q) (fun _ _ z => z))
    · exact absurd rfl e
theorem fk_0 {k : Nat} {CK CM f aV : Addr} {fd : FuncData} {x : KErr} (F : FK K [("base", .non), ("values", .ref aV)] f fd)
    (hb : ∀ (cdv : Value) (A : Around) (outer : List Env) (s : Shared) (H : Hp) (vs : List V) (Q : VK) (E : XK), Room k (A.deeper (envOfC "Kind.__init__" (defScope sKI) s.heap.objs.size f cdv)) → spKI K CK CM x vs H Q E →
      ∃ t, PSs (cxOf (L2.CX P w) P w K mg base nKI "Kind.__init__" (defScope sKI) f cdv A outer s H E) (defBody sKI) t ∧ t { nx := fun _ H' => Q .non H', rt := Q } (start nKI vs) H) :
    FnK P w K mg base (L2.CX P w) (k + 1) f [] (spkK0 K CK CM x aV) := by
  obtain ⟨oc, od, dV, kV, doc, pm, an, cdv, ct, osl, rfl, lk, hcd, hD, hK⟩ := F.ex
  rcases hD with ⟨_, rfl⟩ | ⟨e, _⟩
  case inr => exact absurd rfl e
  rcases hK with e | ⟨D, rfl, hq⟩
  · cases e
  obtain ⟨mv, hl, rk, hks⟩ := kwd_vals (ms := [("base", .non), ("values", .ref aV)]) fun q hm => hq q hm
  have rk : Vals [V.non, V.ref aV] mv := rk
  refine FnK.imp (fn_starD (n := 2) (ps := ["self", "name", "base", "values"]) (pv := "methods") (g := fun us _ => us ++ mv) (gV := fun vs _ => vs ++ [.non, .ref aV]) (sp := spKI K CK CM x) lk hcd scKI StX.cxUp (fun us ws h1 h2 => by rw [List.length_append, h1, hl]; rfl) (fun r1 r2 => r1.append rk) (fun us rest ws h1 h2 M A E s Q KX h => ?_) (hb cdv)) fun vs zs H Q E h => spkK.to h
  match us, ws, mv, h1, h2, hl, hks with
  | [a, b], [], [c, d], _, _, _, hks =>
    refine KwTo.run KX hks (r := newTuple rest >>= fun t => pure ((["self", "name", "base", "values"] : List Str).zip ([a, b] ++ [c, d]) ++ [(("methods" : Str), t)])) ?_ (wpAny_bind (wpAny_mono h (fun t s' q => wpAny_pure q) (fun _ _ z => z)))
    cases rest <;> exact ⟨_, _, _, _, _, _, rfl, rfl, ⟨_, _, _, _, _, _, rfl, rfl, rfl⟩⟩
abbrev psKOf : List Str := ["cls", "name", "methods", "base", "values"]
abbrev FKOf (K : PySem.W.Frag) (aV : Addr) (f : Addr) (fd : FuncData) : Prop := FunD K "of" "Kind.of" (defArgs sKOf) (defBody sKOf) (defScope sKOf) [] [("base", .non), ("values", .ref aV)] f fd
/-- Kind.of(name, methods, base = b, values = v) -/
theorem bind_kof {K : PySem.W.Frag} {aV f : Addr} {fd : FuncData} (F : FKOf K aV f fd) : ∃ mv : List Value, KBn K fd psKOf 3 ["base", "values"] (fun us ws => us ++ (ws ++ mv)) (fun vs zs => vs ++ (zs ++ [])) := by
  exact F.kbinds0 (ps := psKOf) 3 ["base", "values"] [] (fun us mv ws => us ++ (ws ++ mv)) (by simp) (fun q hq => by cases hq) (fun r1 r2 r3 => r1.append (r3.append r2))
    (fun D doc pm an cdv ct us mv ws l1 l2 l3 => match us, mv, ws, l1, l2, l3 with | [_, _, _], [], [_, _], _, _, _ => rfl)
/-- Kind.of(name, methods, values = v, base = b) -/
theorem bind_kof2 {K : PySem.W.Frag} {aV f : Addr} {fd : FuncData} (F : FKOf K aV f fd) : ∃ mv : List Value, KBn K fd psKOf 3 ["values", "base"] (fun us ws => us ++ (ws.reverse ++ mv)) (fun vs zs => vs ++ (zs.reverse ++ [])) := by
  exact F.kbinds0 (ps := psKOf) 3 ["values", "base"] [] (fun us mv ws => us ++ (ws.reverse ++ mv)) (by simp) (fun q hq => by cases hq) (fun r1 r2 r3 => r1.append (r3.reverse.append r2))
    (fun D doc pm an cdv ct us mv ws l1 l2 l3 => match us, mv, ws, l1, l2, l3 with | [_, _, _], [], [_, _], _, _, _ => rfl)
/-- what Kind.of asks -/
def spKOf (K : PySem.W.Frag) (CK CM : Addr) (x : KErr) : Sp := fun vs H Q E => ∃ (aL : Addr) (vn vb vv : V) (dn db dv : PyData) (as : List Addr) (ms : List Str), vs = [.ref CK, vn, .ref aL, vb, vv] ∧ (SqT K H aL (as.map V.ref) ∨ SqL K H aL (as.map V.ref)) ∧ KArgs K CM H vn vb vv dn db dv as ms ∧
  KBad K H E x dn db dv ms ∧
  (kErr dn db dv ms = none → ∀ H' p dx tM, Same H H' → H p = none → SqT K H' tM (as.map V.ref) → H' p = some (.ins CK dx (kF vn (.ref tM) vb vv)) → Q (.ref p) H')
theorem ok_kof {k : Nat} {CK CM f fI aV : Addr} {fd : FuncData} {x : KErr} (F : FKOf K aV f fd) (M : Mk K CK fI) (GI : FnK P w K mg base (L2.CX P w) k fI ["base", "values"] (spkK K CK CM x)) :
    FnOk P w K mg base (L2.CX P w) (k + 2) f fd psKOf (spKOf K CK CM x) := by
  refine F.ok scKOf (fun vs H Q E h => ?_) (fun cdv A outer s H vs Q E hr h => ?_)
  · obtain ⟨aL, vn, vb, vv, dn, db, dv, as, ms, rfl, _⟩ := h
    rfl
  · obtain ⟨aL, vn, vb, vv, dn, db, dv, as, ms, rfl, hL, ha, hE, hQ⟩ := h
    refine ⟨_, pss_one (ps_ret (pe_clsSK M GI hr (pv 0) (fun σ => passAt (takes_of rfl rfl rfl rfl) σ) (pa_cons (pv 1) (StX.pa_star (pv 2) pa_nil)) (pk_cons (pv 3) (pk_cons (pv 4) pk_nil)))), ?_⟩
    refine ⟨_, rfl, rfl, _, rfl, _, rfl, aL, as.map V.ref, rfl, hL, _, rfl, _, rfl, rfl, fun p dx hp hdx ne => ?_⟩
    have hp2 : (upd H dx (.own p)) p = none := by
      rw [upd_ne ne.symm]
      exact hp
    have s1 : Same H (upd (upd H dx (.own p)) p (.ins CK dx [])) := (same_upd hdx).trans (same_upd hp2)
    refine ⟨p, dx, vn, vb, vv, dn, db, dv, as, ms, ?_, rfl, upd_same, ha.same s1, hE.same s1, fun h1 H' tM h2 h3 h4 => ⟨rfl, hQ h1 H' p dx tM (fun b o e => h2 b o (ne_of_none e hp) (s1 _ _ e)) hp h3 h4⟩⟩
    show V.ref p :: vn :: (as.map V.ref ++ []) = _
    rw [List.append_nil]
end
end Dr
namespace Dr
open PySem PySem.Spec PyProof.Rows L2
/-- two tuples that have the same instance at each place that both have -/
def rEqP (K : PySem.W.Frag) : R2 := fun x y H Q => ∃ a b xs ys, x = .ref a ∧ y = .ref b ∧ SqT K H a xs ∧ SqT K H b ys ∧ (∀ (i : Nat) (u v : V), xs[i]? = some u → ys[i]? = some v → ∃ c, u = .ref c ∧ v = .ref c) ∧ Q (.bl (decide (xs.length = ys.length))) H
theorem vals_get {xs : List V} {us : List Value} (r : Vals xs us) {j : Nat} (h : j < us.length) : ∃ x, xs[j]? = some x ∧ RelV x us[j] := by
  induction r generalizing j with
  | nil => exact absurd h (Nat.not_lt_zero j)
  | @cons x u xs us hx _ ih =>
    cases j with
    | zero => exact ⟨x, rfl, hx⟩
    | succ j => exact ih (j := j) (Nat.lt_of_succ_lt_succ h)
theorem op_eqP {X : Cx} (hu : X.A.units + 64 < cLine) : OpR X (compareOp .Eq) (rEqP X.K) := by
  intro pins s σ H x y v u Q I rx ry h
  obtain ⟨a, b, xs, ys, rfl, rfl, ha, hb, hp, q⟩ := h
  cases (show v = Value.ref a from rx)
  cases (show u = Value.ref b from ry)
  obtain ⟨us, r1, ⟨o1, ho1, hc1, n1, hd1⟩, _⟩ := I.tuple ha
  obtain ⟨ws, r2, ⟨o2, ho2, hc2, n2, hd2⟩, _⟩ := I.tuple hb
  refine SeqAt.rcIn_tuples (e := fun _ => true) ⟨o1, ho1, hc1, n1, hd1⟩ ⟨o2, ho2, hc2, n2, hd2⟩ (by omega) (fun j h1 h2 => ?_) ?_
  · obtain ⟨x, hx, rx⟩ := vals_get r1 (j := j) (by simpa using h1)
    obtain ⟨y, hy, ry⟩ := vals_get r2 (j := j) (by simpa using h2)
    obtain ⟨c, rfl, rfl⟩ := hp j _ _ hx hy
    have e1 : us.toArray[j] = Value.ref c := by
      have : us[j]'(by simpa using h1) = Value.ref c := rx
      simpa using this
    have e2 : ws.toArray[j] = Value.ref c := by
      have : ws[j]'(by simpa using h2) = Value.ref c := ry
      simpa using this
    rw [e1, e2]
    exact (SeqAt.EqAt.same _).inModel _ _
  · rw [show ((List.range (min us.toArray.size ws.toArray.size)).all fun _ => true) = true from List.all_eq_true.mpr fun _ _ => rfl]
    have e : (true && us.toArray.size == ws.toArray.size) = decide (xs.length = ys.length) := by
      rw [Bool.true_and, List.size_toArray, List.size_toArray, ← r1.length, ← r2.length]
      rfl
    rw [e]
    exact ⟨.bl _, H, I, rfl, q⟩
abbrev sKEq : Stmt := inClass (topS 34) 4
theorem scKEq : FnScope ["self", "other"] ["self", "other"] (defScope sKEq) := ⟨rfl, rfl, rfl, by decide +kernel, rfl, by decide +kernel, by decide +kernel⟩
/-- what == and isinstance read of the class Kind -/
structure KndE (K : PySem.W.Frag) (C : Addr) : Prop where
  ha : PySem.W.findIn K (.ref C) "__class__" = some (some (.builtin "object.__class__"))
  hn : PySem.W.specialIn K (.builtin "object.__class__") "__get__" = some (some (.builtin "getset_descriptor.__get__"))
  htk : PySem.W.takesIn K (.builtin "object.__class__") = some true
  hm : PySem.W.mroIn K C (.type "object") = some true
  isC : PySem.W.isClsIn K C = true
  tyC : PySem.W.typeIn K (.ref C) = some (.type "type")
/-- a kind of these parts stands at a -/
structure KAt (K : PySem.W.Frag) (CK : Addr) (H : Hp) (a : Addr) (dn db dv : PyData) (as : List Addr) : Prop where
  ex : ∃ dx vn tM vb vv, H a = some (.ins CK dx (kF vn (.ref tM) vb vv)) ∧ Dp K H vn dn ∧ Dp K H vb db ∧ Dp K H vv dv ∧ SqT K H tM (as.map V.ref)
  on : OkD dn
  ob : OkD db
  ov : OkD dv
theorem KAt.same {K : PySem.W.Frag} {CK : Addr} {H H' : Hp} {a : Addr} {dn db dv : PyData} {as : List Addr} (h : KAt K CK H a dn db dv as) (s : Same H H') : KAt K CK H' a dn db dv as := by
  obtain ⟨dx, vn, tM, vb, vv, h1, h2, h3, h4, h5⟩ := h.ex
  exact ⟨⟨dx, vn, tM, vb, vv, s _ _ h1, dp_same s h2, dp_same s h3, dp_same s h4, Same.seqT s h5⟩, h.on, h.ob, h.ov⟩
section
variable {P : Program} {w : World} {K : PySem.W.Frag} {mg : Str → Option Value} {base : Heap}
def spKEq (K : PySem.W.Frag) (C : Addr) : Sp := fun vs H Q _ => ∃ (a : Addr) (dn db dv : PyData) (as : List Addr) (y : V), vs = [.ref a, y] ∧ KAt K C H a dn db dv as ∧
  ((∃ (b : Addr) (dn2 db2 dv2 : PyData) (bs : List Addr), y = .ref b ∧ KAt K C H b dn2 db2 dv2 bs ∧ (∀ (i : Nat) (c d : Addr), as[i]? = some c → bs[i]? = some d → c = d) ∧ Q (.bl (((PyData.eqv dn dn2 && decide (as.length = bs.length)) && PyData.eqv db db2) && PyData.eqv dv dv2)) H) ∨
    ∃ e : PyData, Dp K H y e ∧ Q (.bl false) H)
theorem ok_keq {C f : Addr} {mc : Value} {fd : FuncData} (F : Fun K "__eq__" "Kind.__eq__" sKEq f fd) (W : Wds K mg) (TK : Knd K mg C mc) (T : KndE K C) : FnOk P w K mg base CX0 1 f fd ["self", "other"] (spKEq K C) := by
  refine F.ok scKEq (fun vs H Q E h => ?_) (fun cdv A outer s H vs Q E hr h => ?_)
  · obtain ⟨a, dn, db, dv, as, y, rfl, _⟩ := h
    rfl
  · obtain ⟨a, dn, db, dv, as, y, rfl, hA, hy⟩ := h
    obtain ⟨dx, vn, tM, vb, vv, ha, hn, hb, hv, hM⟩ := hA.ex
    have hu : (A.deeper (envOfC "Kind.__eq__" (defScope sKEq) s.heap.objs.size f cdv)).units + 64 < cLine := hr.units
    refine ⟨_, pss_one (ps_ret (pe_and (pe_callB call_isi (by rfl) W.isi (by decide +kernel) (pa_cons (pv 1) (pa_cons (pe_glob (v := .ref C) (by rfl) TK.mgC rfl) pa_nil)))
      (pe_and (pe_cmpR (op_eqD hu) (pe_fld (pv 0) rfl) (pe_fld (pv 1) rfl) (nomark _)) (pe_and (pe_cmpR (op_eqP hu) (pe_fld (pv 0) rfl) (pe_fld (pv 1) rfl) (nomark _))
        (pe_and (pe_cmpR (op_eqD hu) (pe_fld (pv 0) rfl) (pe_fld (pv 1) rfl) (nomark _)) (pe_one (pe_cmpR (op_eqD hu) (pe_fld (pv 0) rfl) (pe_fld (pv 1) rfl) (nomark _)))))))), ?_⟩
    rcases hy with ⟨b, dn2, db2, dv2, bs, rfl, hB, hpre, q⟩ | ⟨e, he, q⟩
    · obtain ⟨dy, vn2, tM2, vb2, vv2, hb0, hn2, hb2, hv2, hM2⟩ := hB.ex
      refine ⟨_, rfl, _, .ref C, _, _, true, rfl, .own C, .base (.ins hb0 TK.cl T.ha T.hn T.htk T.hm), kit_self C, _, rfl, iteT ?_⟩
      refine ⟨_, rfl, a, C, dx, _, _, rfl, ha, TK.cl, TK.nN, kF_name, _, rfl, b, C, dy, _, _, rfl, hb0, TK.cl, TK.nN, kF_name, dn, dn2, hn, hn2, hA.on.sh, hB.on.sh, _, rfl, ?_⟩
      cases e1 : PyData.eqv dn dn2 with
      | false =>
        rw [e1] at q
        exact iteF q
      | true =>
      rw [e1] at q
      refine iteT ⟨_, rfl, a, C, dx, _, _, rfl, ha, TK.cl, TK.nM, kF_methods, _, rfl, b, C, dy, _, _, rfl, hb0, TK.cl, TK.nM, kF_methods, tM, tM2, _, _, rfl, rfl, hM, hM2, fun i u v h1 h2 => ?_, _, rfl, ?_⟩
      · rw [List.getElem?_map] at h1 h2
        cases h3 : as[i]? with
        | none =>
          rw [h3] at h1
          cases h1
        | some c =>
          cases h4 : bs[i]? with
          | none =>
            rw [h4] at h2
            cases h2
          | some d =>
            rw [h3] at h1
            rw [h4] at h2
            obtain rfl := Option.some.inj h1
            obtain rfl := Option.some.inj h2
            obtain rfl := hpre i c d h3 h4
            exact ⟨c, rfl, rfl⟩
      rw [List.length_map, List.length_map]
      by_cases e2 : as.length = bs.length
      · rw [decide_eq_true e2] at q ⊢
        refine iteT ⟨_, rfl, a, C, dx, _, _, rfl, ha, TK.cl, TK.nB, kF_base, _, rfl, b, C, dy, _, _, rfl, hb0, TK.cl, TK.nB, kF_base, db, db2, hb, hb2, hA.ob.sh, hB.ob.sh, _, rfl, ?_⟩
        cases e3 : PyData.eqv db db2 with
        | false =>
          rw [e3] at q
          exact iteF q
        | true =>
        rw [e3] at q
        exact iteT ⟨_, rfl, a, C, dx, _, _, rfl, ha, TK.cl, TK.nV, kF_values, _, rfl, b, C, dy, _, _, rfl, hb0, TK.cl, TK.nV, kF_values, dv, dv2, hv, hv2, hA.ov.sh, hB.ov.sh, q⟩
      · rw [decide_eq_false e2] at q ⊢
        exact iteF q
    · refine ⟨_, rfl, y, .ref C, _, _, false, rfl, .own C, dp_ty he, kit_own T.isC T.tyC e, _, rfl, iteF q⟩
end
end Dr
namespace Dr
open PySem PySem.Spec PyProof.Rows L2
open SX (S S_len S_cat)
theorem txts_S (ys : List (List Nat)) : txts ys = (ys.map S).map V.str := by
  unfold txts
  rw [List.map_map]
  rfl
theorem its_of {zs ys : List (List Nat)} {qs : List Str} (hsub : ys.Sublist zs) (hl : zs.length ≤ 20) (hnd : zs.Nodup) (hg : ∀ z ∈ zs, GoodN z) (hp : qs.Perm (ys.map S)) (hs : sortedS qs = true) : ItsOk qs := by
  have hm : ∀ z ∈ qs, ∃ cs, z = S cs ∧ GoodN cs := fun z hz => by
    obtain ⟨cs, hc, e⟩ := List.mem_map.mp (hp.mem_iff.mp hz)
    exact ⟨cs, e.symm, hg cs (hsub.subset hc)⟩
  refine ⟨fun z hz => ?_, fun z hz => ?_, asc_of qs hs (hp.nodup_iff.mpr ?_), ?_⟩
  · obtain ⟨cs, rfl, g⟩ := hm z hz
    exact g.ok
  · obtain ⟨cs, rfl, g⟩ := hm z hz
    exact sms_good g
  · exact List.pairwise_map.mpr ((hsub.nodup hnd).imp fun {a b} n e => n (SX.S_inj e))
  · rw [hp.length_eq, List.length_map]
    exact Nat.le_trans hsub.length_le hl
theorem txts_mem {zs : List (List Nat)} {y : V} (h : y ∈ txts zs) : ∃ z ∈ zs, y = V.str (S z) := by
  obtain ⟨z, hz, e⟩ := List.mem_map.mp h
  exact ⟨z, hz, e.symm⟩
theorem txts_len {zs : List (List Nat)} : (txts zs).length = zs.length := by
  unfold txts
  rw [List.length_map]
theorem txts_get {zs : List (List Nat)} {i : Nat} {v : V} (h : (txts zs)[i]? = some v) : ∃ z, zs[i]? = some z ∧ v = .str (S z) := by
  unfold txts at h
  rw [List.getElem?_map] at h
  cases hz : zs[i]? with
  | none =>
    rw [hz] at h
    cases h
  | some z =>
    rw [hz] at h
    exact ⟨z, rfl, (Option.some.inj h).symm⟩
theorem txts_at {zs : List (List Nat)} {i : Nat} {z : List Nat} (h : zs[i]? = some z) : (txts zs)[i]? = some (.str (S z)) := by
  unfold txts
  rw [List.getElem?_map, h]
  rfl
theorem bag_ne {H : Hp} {p q : Addr} (h : Bag H p) (n : H q = none) : q ≠ p := fun e => by
  obtain ⟨u, v, hp, _⟩ := h
  rw [e, hp] at n
  cases n
theorem kp_new {p D : Addr} {H H3 : Hp} {o : HO} (k : Kp p H H3) (n : H D = none) (np : D ≠ p) : Kp p H (upd H3 D o) := by
  refine ⟨fun b x nb e => ?_, ?_⟩
  · rw [upd_ne (ne_of_none e n)]
    exact k.1 b x nb e
  · obtain ⟨u, v, hp, h⟩ := k.2
    refine ⟨u, v, ?_, h⟩
    rw [upd_ne np.symm]
    exact hp
theorem three_le : 3 ≤ sizeLine := by decide
structure BltS (mg : Str → Option Value) : Prop where
  tup : mg "tuple" = none
  srt : mg "sorted" = none
def tu (H : Hp) : Hp := fun b => match H b with
  | some (.tup xs) => some (.tup xs)
  | _ => none
theorem tu_at {H : Hp} {a : Addr} {xs : List V} (h : H a = some (.tup xs)) : tu H a = some (.tup xs) := by
  unfold tu
  rw [h]
theorem tu_inv {H : Hp} {a : Addr} {o : HO} (h : tu H a = some o) : ∃ xs, o = .tup xs ∧ H a = some (.tup xs) := by
  unfold tu at h
  split at h
  · next xs e => exact ⟨xs, (Option.some.inj h).symm, e⟩
  · cases h
theorem tu_sub {H : Hp} : Same (tu H) H := fun b o e => by
  obtain ⟨xs, rfl, h⟩ := tu_inv e
  exact h
theorem tu_ext {H H' : Hp} (s : TupE H H') : Same (tu H) (tu H') := fun b o e => by
  obtain ⟨xs, rfl, h⟩ := tu_inv e
  exact tu_at (s _ _ h)
abbrev Dt (K : PySem.W.Frag) (H : Hp) (v : V) (d : PyData) : Prop := Dp K (tu H) v d
abbrev DtAll (K : PySem.W.Frag) (H : Hp) (vs : List V) (ds : List PyData) : Prop := DpAll K (tu H) vs ds
theorem Dt.ext {K : PySem.W.Frag} {H H' : Hp} {v : V} {d : PyData} (h : Dt K H v d) (s : TupE H H') : Dt K H' v d := dp_same (tu_ext s) h
theorem DtAll.ext {K : PySem.W.Frag} {H H' : Hp} {vs : List V} {ds : List PyData} (h : DtAll K H vs ds) (s : TupE H H') : DtAll K H' vs ds := dpAll_same (tu_ext s) h
theorem Dt.dp {K : PySem.W.Frag} {H : Hp} {v : V} {d : PyData} (h : Dt K H v d) : Dp K H v d := dp_same tu_sub h
theorem DtAll.dp {K : PySem.W.Frag} {H : Hp} {vs : List V} {ds : List PyData} (h : DtAll K H vs ds) : DpAll K H vs ds := dpAll_same tu_sub h
theorem Dt.tup {K : PySem.W.Frag} {H : Hp} {a : Addr} {xs : List V} {ds : List PyData} (h : H a = some (.tup xs)) (hs : DtAll K H xs ds) : Dt K H (.ref a) (.tuple ds) := Dp.tup (SqT.of (tu_at h)) hs
theorem dpAll_snoc {K : PySem.W.Frag} {H : Hp} : ∀ {vs : List V} {ds : List PyData} {v : V} {d : PyData}, DpAll K H vs ds → Dp K H v d → DpAll K H (vs ++ [v]) (ds ++ [d])
  | _, _, _, _, .nil, h => .cons h .nil
  | _, _, _, _, .cons a as, h => .cons a (dpAll_snoc as h)
def MkD (m : PyData) : Prop := (∃ zs : List Str, ItsOk zs ∧ m = .tuple [.str "once", .tuple (zs.map PyData.str)]) ∨ ∃ a b, GoodN a ∧ GoodN b ∧ m = .tuple [.str "early", .str (S a), .str (S b)]
theorem MkD.form {m : PyData} (h : MkD m) : hasForm S0 m makingForms = true := by
  rcases h with ⟨zs, hz, rfl⟩ | ⟨a, b, ga, gb, rfl⟩
  · rw [has1 (d := .none) (s1 := "items") (form_hd (n := 1) rfl (by decide +kernel)), S0_items]
    exact items_ok hz
  · rw [has2 (s1 := "kind") (s2 := "value") (form_hd (n := 2) rfl (by decide +kernel)), S0_kind, S0_value]
    show (nameOk (S a) && nameOk (S b)) = true
    rw [ga.ok, gb.ok]
    rfl
theorem okD_two {z : Str} {m : PyData} (hz : SmS z) (hm : OkD m) (hd : m.depth ≤ 10) : OkD (.tuple [.str z, m]) := by
  refine ⟨?_, ?_⟩
  · show ((PyData.strOk z && (m.canLay0 && true)) && decide (max 0 (max m.depth 0) + 1 ≤ 64)) = true
    rw [hz.ok, SeqAt.canLay_of_shaped hm.sh, decide_eq_true (by omega)]
    rfl
  · show (decide (2 ≤ 1000) && (decide (z.length ≤ 1000) && (smD m && true))) = true
    rw [decide_eq_true hz.sm, hm.sm]
    rfl
theorem depth_strs {zs : List Str} (h : ∀ z ∈ zs, SmS z) : (PyData.tuple (zs.map PyData.str)).depth = 1 := by
  show PyData.depthAll (zs.map PyData.str) + 1 = 1
  rw [(canAll_strs h).2.2]
theorem MkD.ok {m : PyData} (h : MkD m) : OkD m ∧ m.depth ≤ 2 := by
  rcases h with ⟨zs, hz, rfl⟩ | ⟨a, b, ga, gb, rfl⟩
  · have h1 := okD_strs hz.sm (by have := hz.len; omega)
    have h2 := depth_strs hz.sm
    refine ⟨okD_two (sms_lit (by decide +kernel)) h1 (by omega), ?_⟩
    show max 0 (max (PyData.tuple (zs.map PyData.str)).depth 0) + 1 ≤ 2
    rw [h2]
    decide
  · exact ⟨okD_strs (zs := ["early", S a, S b]) (fun z hz => by
      rcases List.mem_cons.mp hz with e | hz
      · exact e ▸ sms_lit (by decide +kernel)
      · rcases List.mem_cons.mp hz with e | hz
        · exact e ▸ sms_good ga
        · rcases List.mem_cons.mp hz with e | hz
          · exact e ▸ sms_good gb
          · cases hz) (by show 3 ≤ 1000; decide), by show max 0 (max 0 (max 0 0)) + 1 ≤ 2; decide⟩
/-- a right value of the name z -/
def VD (z : List Nat) (d : PyData) : Prop := ∃ m, d = .tuple [.str (S z), m] ∧ MkD m
theorem VD.is {z : List Nat} {d : PyData} (h : VD z d) (g : GoodN z) : isValueD d = true := by
  obtain ⟨m, rfl, hm⟩ := h
  show (nameOk (S z) && hasForm S0 m makingForms) = true
  rw [g.ok, hm.form]
  rfl
theorem VD.ok {z : List Nat} {d : PyData} (h : VD z d) (g : GoodN z) : OkD d ∧ d.depth ≤ 3 := by
  obtain ⟨m, rfl, hm⟩ := h
  obtain ⟨h1, h2⟩ := hm.ok
  refine ⟨okD_two (sms_good g) h1 (by omega), ?_⟩
  show max 0 (max m.depth 0) + 1 ≤ 3
  omega
def VsOk (zs : List (List Nat)) (ds : List PyData) : Prop := Paired VD zs ds
theorem paired_snoc {α β : Type} {R : α → β → Prop} : ∀ {xs : List α} {ys : List β} {x : α} {y : β}, Paired R xs ys → R x y → Paired R (xs ++ [x]) (ys ++ [y])
  | _, _, _, _, .nil, h => .cons h .nil
  | _, _, _, _, .cons a as, h => .cons a (paired_snoc as h)
abbrev sVals : Stmt := topS 41
abbrev nVals : List Str := ["_law_bag_here", "_law_names_here", "_law_listed", "_law_name", "_law_items", "_law_one"]
theorem scVals : FnScope nVals ["_law_bag_here", "_law_names_here"] (defScope sVals) := ⟨rfl, rfl, rfl, by decide +kernel, rfl, by decide +kernel, by decide +kernel⟩
section
variable {P : Program} {w : World} {K : PySem.W.Frag} {mg : Str → Option Value} {base : Heap}
def spVals (K : PySem.W.Frag) : Sp := fun vs H Q _ => ∃ (p q0 : Addr) (qs : List (List Nat)), vs = [.ref p, .ref q0] ∧ Bag H p ∧ q0 ≠ p ∧ H q0 = some (.lst (txts qs)) ∧ qs.length = 4 ∧ qs.Nodup ∧ (∀ z ∈ qs, GoodN z) ∧
  ∀ H' l k ts ds, Kp p H H' → H l = none → l ≠ p → H' l = some (.lst ts) → DtAll K H' ts ds → k ≤ 3 → VsOk (qs.take k) ds → Q (.ref l) H'
theorem ok_vals {f fT fO : Addr} {fd fdT fdO : FuncData} (F : Fun K "_law_values" "_law_values" sVals f fd) (B : BltS mg)
    (GT : FnOk P w K mg base CX0 1 fT fdT ["_law_bag_here", "_law_many"] spTake) (mT : mg "_law_take" = some (.ref fT)) (kT : PySem.W.keepIn K (.ref fT) = true) (bT : Binds K fdT ["_law_bag_here", "_law_many"] [])
    (GO : FnOk P w K mg base CX0 2 fO fdO ["_law_bag_here", "_law_some"] (spOf K)) (mO : mg "_law_of" = some (.ref fO)) (kO : PySem.W.keepIn K (.ref fO) = true) (bO : Binds K fdO ["_law_bag_here", "_law_some"] []) :
    FnOk P w K mg base CX0 3 f fd ["_law_bag_here", "_law_names_here"] (spVals K) := by
  refine F.ok scVals (fun vs H Q E h => ?_) (fun cdv A outer s H vs Q E hr h => ?_)
  · obtain ⟨p, q0, qs, rfl, _⟩ := h
    rfl
  · obtain ⟨p, q0, qs, rfl, hB, nqp, hq, hl4, hnd, hg, q⟩ := h
    have hr1 : Room 1 _ := hr.mono (by decide)
    refine ⟨_, pss_cons (ps_set (i := 2) scVals.nd rfl (.inl rfl) (pe_lst pa_nil))
      (pss_cons (ps_for PassesOwn.never rfl (pi_list (pe_slice sl_list (pv 1) po_none (po_some (pe_call GT hr1 (by rfl) mT kT bT .nil pass0 (pa_cons (pv 0) (pa_cons pe_int pa_nil)))))) (pg_name (i := 3) scVals.nd rfl (.inl rfl))
        (pss_cons (ps_set (i := 4) scVals.nd rfl (.inl rfl) (pe_callTy call_tuple_of (by rfl) B.tup (by decide +kernel) (pa_cons (pe_callB cr_sortedS (by rfl) B.srt (by decide +kernel) (pa_cons
            (pe_lc (own := [("_law_one", 5)]) (g := gName 5) (tt := _) rfl scVals.nd (pi_list (pv 1)) (blkOk_by (N := nVals) (sc := defScope sVals) (by decide +kernel)) (fun _ _ _ _ _ => pg_name (i := 5) scVals.nd rfl (Or.inl rfl))
              (fun _ _ _ _ _ => pts_one (pt_cmpR op_eq (pe_call GT hr1 (by rfl) mT kT bT .nil pass0 (pa_cons (pv 0) (pa_cons pe_int pa_nil))) pe_int (nomark _))) (fun _ _ _ _ _ => pv 5)) pa_nil)) pa_nil)))
        (pss_one (ps_expr (pe_bm PySem.F.plainAttrs_list PySem.F.slot_list_append PySem.F.type_list_append mt_append (pv 2) (pa_cons (pe_tup (pa_cons (pv 3) (pa_cons (pe_call GO hr (by rfl) mO kO bO .nil pass0 (pa_cons (pv 0) (pa_cons
            (pe_lst (pa_cons (pe_tup (pa_cons pe_str (pa_cons (pv 4) pa_nil))) (pa_cons (pe_tup (pa_cons pe_str (pa_cons (pe_call GO hr (by rfl) mO kO bO .nil pass0 (pa_cons (pv 0) (pa_cons (pv 1) pa_nil))) (pa_cons (pe_ix ix_list (pv 1) pe_int (fun _ _ => rfl)) pa_nil)))) pa_nil))) pa_nil))) pa_nil))) pa_nil))))))
      (pss_one (ps_ret (pv 2)))), ?_⟩
    refine ⟨Nat.zero_le _, fun l nl => ?_⟩
    have sl := same_upd (o := .lst []) nl
    have nlp := bag_ne hB nl
    have hlN : (txts qs).length = qs.length := txts_len
    refine ⟨_, rfl, _, rfl, p, 4, rfl, hB.same sl, by decide, by decide, fun H1 m k1 m0 m4 => ?_⟩
    obtain ⟨j, rfl⟩ : ∃ j : Nat, m = (j : Int) := ⟨m.toNat, by omega⟩
    have hj : j ≤ 3 := by omega
    have k01 := (Kp.of hB sl).trans k1
    refine ⟨(j : Int), rfl, q0, txts qs, rfl, SqL.of (k01.1 _ _ nqp hq), fun ls nls => ?_⟩
    rw [cut_take _ j (by omega)]
    have sls := same_upd (o := .lst ((txts qs).take j)) nls
    have k02 := k01.same sls
    have nlsp := bag_ne k01.2 nls
    have hl1 : H1 l = some (.lst []) := k1.1 _ _ nlp upd_same
    have nlls : l ≠ ls := fun e => by
      rw [e, nls] at hl1
      cases hl1
    refine ⟨ls, rfl, ⟨_, SqL.of upd_same⟩, ?_⟩
    refine for_it walk_list (fun i σ H' => Kp p H H' ∧ H' ls = some (.lst ((txts qs).take j)) ∧ ∃ ts ds x3 x4, σ = [some (.ref p), some (.ref q0), some (.ref l), x3, x4, none] ∧ H' l = some (.lst ts) ∧ DtAll K H' ts ds ∧ VsOk (qs.take i) ds ∧ i ≤ j)
      ⟨k02, upd_same, [], [], _, _, rfl, sls _ _ hl1, .nil, .nil, Nat.zero_le _⟩ (fun i σ H' _ h => SqL.of h.2.1) ?_ ?_
    · rintro i y σ H2 H3 hi ⟨k2, hls, ts, ds, x3, x4, rfl, hl, hds, hvs, _⟩ ⟨rfl, e1⟩
      have hij : i < j := by
        rw [List.length_take] at hi
        omega
      rw [List.getElem?_take_of_lt hij] at e1
      obtain ⟨z, hz, rfl⟩ := txts_get e1
      have gz : GoodN z := hg z (List.mem_of_getElem? hz)
      -- the items
      refine ⟨_, rfl, q0, rfl, ⟨_, SqL.of (k2.1 _ _ nqp hq)⟩, fun D nD => ?_⟩
      have nDp := bag_ne k2.2 nD
      refine lc_list (K := K) (a := q0) (xs := txts qs) (fun i H4 => Kp p H3 H4 ∧ ∃ ys : List (List Nat), H4 D = some (.lst (txts ys)) ∧ ys.Sublist (qs.take i)) ⟨Kp.of k2.2 (same_upd nD), [], upd_same, .refl _⟩ (fun i H4 _ h => SqL.of (h.1.1 _ _ nqp (k2.1 _ _ nqp hq))) ?_ ?_
      · rintro i x H4 hx ⟨k4, ys, hD1, hsub⟩
        obtain ⟨z, hz, rfl⟩ := txts_get hx
        have hi := (List.getElem?_eq_some_iff.mp hz).1
        refine ⟨rfl, _, rfl, p, 3, rfl, k4.2, by decide, by decide, fun H5 r k5 r0 r2 => ⟨rfl, _, rfl, ite2 (fun _ => ?_) (fun _ => ?_)⟩⟩
        · refine ⟨_, rfl, _, k5.1 _ _ nDp hD1, ?_, kp_new (k4.trans k5) nD nDp, ys ++ [z], ?_, ?_⟩
          · rw [txts_len]
            have := hsub.length_le
            rw [List.length_take] at this
            exact small1000 (by omega)
          · rw [upd_same, ← txts_app]
            rfl
          · rw [List.take_add_one, hz]
            exact hsub.append (.refl _)
        · refine ⟨k4.trans k5, ys, k5.1 _ _ nDp hD1, ?_⟩
          rw [List.take_add_one, hz]
          exact hsub.trans (List.sublist_append_left _ _)
      rintro H4 ⟨k4, ys, hD1, hsub⟩
      rw [hlN, List.take_length] at hsub
      rw [txts_S] at hD1
      refine ⟨D, ys.map S, rfl, SqL.of hD1, ?_, fun zs a2 hperm hsrt na2 => ?_⟩
      · rw [List.length_map]
        have := hsub.length_le
        omega
      refine ⟨a2, _, rfl, .inl ⟨SqL.of upd_same, fun u nu => ?_⟩⟩
      have hits := its_of hsub (by omega) hnd hg hperm hsrt
      have kA : Kp p H3 (upd (upd H4 a2 (.lst (zs.map V.str))) u (.tup (zs.map V.str))) := (k4.same (same_upd na2)).same (same_upd nu)
      have hu2 : (upd (upd H4 a2 (.lst (zs.map V.str))) u (.tup (zs.map V.str))) u = some (.tup (zs.map V.str)) := upd_same
      have nup : u ≠ p := bag_ne (k4.same (same_upd na2)).2 nu
      have hlA : (upd (upd H4 a2 (.lst (zs.map V.str))) u (.tup (zs.map V.str))) l = some (.lst ts) := same_upd nu _ _ (same_upd na2 _ _ (k4.1 _ _ nlp hl))
      generalize (upd (upd H4 a2 (.lst (zs.map V.str))) u (.tup (zs.map V.str))) = HA at kA hu2 hlA ⊢
      have kHA := k2.trans kA
      -- the tuple
      refine ⟨_, rfl, .inl ⟨rfl, _, SqL.of hlA⟩, _, rfl, _, rfl, _, rfl, two_le, fun t1 n1 => ?_⟩
      have s1 := same_upd (o := .tup [.str "once", .ref u]) n1
      have kB := kHA.same s1
      refine ⟨_, rfl, _, rfl, p, .ref q0, rfl, kB.2, .inl ⟨q0, _, rfl, nqp, SqL.of (kB.1 _ _ nqp hq), by omega, by omega, fun H5 y k5 hy => ?_⟩⟩
      obtain ⟨oc, hoc, rfl⟩ := txts_mem hy
      have kC := kB.trans k5
      obtain ⟨z0, hz0⟩ : ∃ z0, qs[0]? = some z0 := ⟨qs[0], List.getElem?_eq_getElem (by omega)⟩
      refine ⟨_, rfl, q0, _, 0, .str (S z0), rfl, rfl, SqL.of (kC.1 _ _ nqp hq), atI_nat (j := 0) (txts_at hz0), three_le, fun t2 n2 => ⟨two_le, fun L nL => ?_⟩⟩
      have s2 := same_upd (o := .tup [.str "early", .str (S oc), .str (S z0)]) n2
      have sL := same_upd (o := .lst [.ref t1, .ref t2]) nL
      have kD := (kC.same s2).same sL
      have nLp := bag_ne (kC.same s2).2 nL
      have nt1 : t1 ≠ p := bag_ne kHA.2 n1
      refine ⟨p, .ref L, rfl, kD.2, .inl ⟨L, _, rfl, nLp, SqL.of upd_same, (by show 1 ≤ 2; decide), (by show 2 ≤ 1000; decide), fun H6 y k6 hy => ?_⟩⟩
      have kE := kD.trans k6
      have tE : ∀ {a : Addr} {xs : List V}, a ≠ p → (upd (upd H5 t2 (.tup [.str "early", .str (S oc), .str (S z0)])) L (.lst [.ref t1, .ref t2])) a = some (.tup xs) → H6 a = some (.tup xs) := fun n e => k6.1 _ _ n e
      have nt2 : t2 ≠ p := bag_ne kC.2 n2
      have h2t : H6 t2 = some (.tup [.str "early", .str (S oc), .str (S z0)]) := tE nt2 (sL _ _ upd_same)
      have h1t : H6 t1 = some (.tup [.str "once", .ref u]) := tE nt1 (sL _ _ (s2 _ _ (k5.1 _ _ nt1 upd_same)))
      have hut : H6 u = some (.tup (zs.map V.str)) := tE nup (sL _ _ (s2 _ _ (k5.1 _ _ nup (s1 _ _ hu2))))
      obtain ⟨m, hm, hdm⟩ : ∃ m, MkD m ∧ Dt K H6 y m := by
        rcases List.mem_cons.mp hy with rfl | hy
        · exact ⟨_, .inl ⟨zs, hits, rfl⟩, Dt.tup h1t (.cons (.str _) (.cons (Dt.tup hut (dpAll_strs zs)) .nil))⟩
        · obtain rfl := List.mem_singleton.mp hy
          exact ⟨_, .inr ⟨oc, z0, hg oc hoc, hg z0 (List.mem_of_getElem? hz0), rfl⟩, Dt.tup h2t (.cons (.str _) (.cons (.str _) (.cons (.str _) .nil)))⟩
      refine ⟨two_le, fun t nt => ?_⟩
      have sT := same_upd (o := .tup [.str (S z), y]) nt
      have hl6 : H6 l = some (.lst ts) := k6.1 _ _ nlp (sL _ _ (s2 _ _ (k5.1 _ _ nlp (s1 _ _ hlA))))
      have kF := kE.same sT
      have hlT := sT _ _ hl6
      have g := TupE.grow (ys := ts ++ [.ref t]) hlT
      have nlH : H l = none := nl
      have tuE : TupE H3 (upd (upd H6 t (.tup [.str (S z), y])) l (.lst (ts ++ [.ref t]))) := by
        have e1 : TupE H3 H6 := fun b xs e => by
          have nb : b ≠ p := fun z => by
            obtain ⟨u, v, hp, _⟩ := k2.2
            rw [z, hp] at e
            cases e
          exact k6.1 _ _ nb (sL _ _ (s2 _ _ (k5.1 _ _ nb (s1 _ _ (kA.1 _ _ nb e)))))
        exact (e1.trans (TupE.same sT)).trans g
      refine ⟨l, _, _, rfl, rfl, hlT, ?_, kp_new kF nl nlp, ?_, ts ++ [.ref t], ds ++ [.tuple [.str (S z), m]], _, _, rfl, upd_same, ?_, ?_, by omega⟩
      · have e1 := dpAll_len hds
        have e2 := hvs.length
        rw [List.length_take] at e2
        exact small1000 (by omega)
      · rw [upd_ne nlls.symm]
        exact sT _ _ (k6.1 _ _ nlsp (sL _ _ (s2 _ _ (k5.1 _ _ nlsp (s1 _ _ (kA.1 _ _ nlsp hls))))))
      · refine dpAll_snoc (hds.ext tuE) ?_
        have htt : (upd (upd H6 t (.tup [.str (S z), y])) l (.lst (ts ++ [.ref t]))) t = some (.tup [.str (S z), y]) := g _ _ upd_same
        exact Dt.tup htt (.cons (.str _) (.cons (Dt.ext hdm ((TupE.same sT).trans g)) .nil))
      · rw [List.take_add_one, hz]
        exact paired_snoc hvs ⟨m, rfl, hm⟩
    · rintro σ H2 ⟨k2, hls, ts, ds, x3, x4, rfl, hl, hds, hvs, hij⟩
      rw [List.length_take, hlN, show min j qs.length = j by omega] at hvs
      exact ⟨_, rfl, q _ l j ts ds k2 nl nlp hl hds hj hvs⟩
end
end Dr
namespace Dr
namespace Ds
open PySem PySem.Spec PyProof.Rows L2
open SX (S S_len S_cat)
open Dr (PE.imp PA.imp Up DP DPs)
open Classical in
/-- the heap without some places -/
noncomputable def hid (p : Addr → Prop) (H : Hp) : Hp := fun b => if p b then none else H b
/-- v is the datum d, and the bag at p is no part of it -/
abbrev Dq (K : PySem.W.Frag) (p : Addr → Prop) (H : Hp) (v : V) (d : PyData) : Prop := Dp K (hid p H) v d
abbrev DqAll (K : PySem.W.Frag) (p : Addr → Prop) (H : Hp) (vs : List V) (ds : List PyData) : Prop := DpAll K (hid p H) vs ds
theorem hid_sub {p : Addr → Prop} {H : Hp} : Same (hid p H) H := fun b o e => by
  unfold hid at e
  split at e
  · cases e
  · exact e
theorem hid_same {p : Addr → Prop} {H H' : Hp} (s : Same H H') : Same (hid p H) (hid p H') := fun b o e => by
  unfold hid at e ⊢
  split at e
  · cases e
  · rename_i n
    rw [if_neg n]
    exact s _ _ e
theorem hid_kp {p : Addr → Prop} {b0 : Addr} {H H' : Hp} (hb : p b0) (k : Kp b0 H H') : Same (hid p H) (hid p H') := fun b o e => by
  unfold hid at e ⊢
  split at e
  · cases e
  · rename_i n
    rw [if_neg n]
    exact k.1 _ _ (fun z => n (z ▸ hb)) e
theorem hid_at {p : Addr → Prop} {q : Addr} {H : Hp} {o : HO} (n : ¬ p q) (h : H q = some o) : hid p H q = some o := by
  unfold hid
  rw [if_neg n]
  exact h
theorem Dq.dp {K : PySem.W.Frag} {p : Addr → Prop} {H : Hp} {v : V} {d : PyData} (h : Dq K p H v d) : Dp K H v d := dp_same hid_sub h
theorem Dq.same {K : PySem.W.Frag} {p : Addr → Prop} {H H' : Hp} {v : V} {d : PyData} (h : Dq K p H v d) (s : Same H H') : Dq K p H' v d := dp_same (hid_same s) h
theorem Dq.kp {K : PySem.W.Frag} {p : Addr → Prop} {b0 : Addr} {H H' : Hp} {v : V} {d : PyData} (h : Dq K p H v d) (hb : p b0) (k : Kp b0 H H') : Dq K p H' v d := dp_same (hid_kp hb k) h
def tD (K : PySem.W.Frag) (p : Addr → Prop) (P : DP) : TE := fun σ H Q => ∃ d, P σ H d ∧ ∀ v H', Same H H' → Dq K p H' v d → Q v H'
def aD (K : PySem.W.Frag) (p : Addr → Prop) (P : DPs) : TA := fun σ H Q => ∃ ds, P σ H ds ∧ ∀ vs H', Same H H' → DqAll K p H' vs ds → Q vs H'
def isD (d : PyData) : DP := fun _ _ x => x = d
def slD (K : PySem.W.Frag) (p : Addr → Prop) (i : Nat) : DP := fun σ H d => ∃ v, σ[i]? = some (some v) ∧ Dq K p H v d
def nilD : DPs := fun _ _ ds => ds = []
def consD (P : DP) (Ps : DPs) : DPs := fun σ H ds => ∃ d r, P σ H d ∧ Ps σ H r ∧ ds = d :: r
def tupD (p : Addr → Prop) (Ps : DPs) : DP := fun σ H d => ∃ ds, Ps σ H ds ∧ ds.length ≤ 1000 ∧ (∀ b, p b → H b ≠ none) ∧ d = .tuple ds
def lstD (p : Addr → Prop) (Ps : DPs) : DP := fun σ H d => ∃ ds, Ps σ H ds ∧ ds.length ≤ 1000 ∧ (∀ b, p b → H b ≠ none) ∧ d = .list ds
theorem up_is {d : PyData} : Up (isD d) := fun _ _ _ _ _ h => h
theorem up_sl {K : PySem.W.Frag} {p : Addr → Prop} {i : Nat} : Up (slD K p i) := fun _ _ _ _ s ⟨v, e, h⟩ => ⟨v, e, Dq.same h s⟩
theorem up_nil : Up nilD := fun _ _ _ _ _ h => h
theorem up_cons {P : DP} {Ps : DPs} (h : Up P) (hs : Up Ps) : Up (consD P Ps) := fun σ H H' d s ⟨x, r, a, b, e⟩ => ⟨x, r, h σ H H' x s a, hs σ H H' r s b, e⟩
theorem up_tup {p : Addr → Prop} {Ps : DPs} (h : Up Ps) : Up (tupD p Ps) := fun σ H H' d s ⟨ds, a, b, c, e⟩ => ⟨ds, h σ H H' ds s a, b, fun b hb => Same.some s (c b hb), e⟩
theorem up_lst {p : Addr → Prop} {Ps : DPs} (h : Up Ps) : Up (lstD p Ps) := fun σ H H' d s ⟨ds, a, b, c, e⟩ => ⟨ds, h σ H H' ds s a, b, fun b hb => Same.some s (c b hb), e⟩
section
variable {X : Cx} {p : Addr → Prop}
theorem pd_str {x : Str} {j : Nat} {pos : Pos} : PE X (.Constant (.str x) j pos) (tD X.K p (isD (.str x))) := PE.imp pe_str fun _ H _ ⟨d, e, q⟩ => by
  cases (show d = .str x from e)
  exact q _ H (Same.refl _) (.str x)
theorem pd_int {x : Int} {j : Nat} {pos : Pos} : PE X (.Constant (.int x) j pos) (tD X.K p (isD (.int x))) := PE.imp pe_int fun _ H _ ⟨d, e, q⟩ => by
  cases (show d = .int x from e)
  exact q _ H (Same.refl _) (.int x)
theorem pd_bl {x : Bool} {j : Nat} {pos : Pos} : PE X (.Constant (.bool x) j pos) (tD X.K p (isD (.bool x))) := PE.imp pe_bl fun _ H _ ⟨d, e, q⟩ => by
  cases (show d = .bool x from e)
  exact q _ H (Same.refl _) (.bl x)
theorem pd_non {j : Nat} {pos : Pos} : PE X (.Constant .none j pos) (tD X.K p (isD .none)) := PE.imp pe_non fun _ H _ ⟨d, e, q⟩ => by
  cases (show d = .none from e)
  exact q _ H (Same.refl _) .non
theorem pd_v (i : Nat) {x : Str} {pos : Pos} (h : PE X (.Name x pos) (tVar i)) : PE X (.Name x pos) (tD X.K p (slD X.K p i)) := PE.imp h fun _ H _ ⟨_, ⟨v, e, hd⟩, q⟩ => ⟨v, e, q v H (Same.refl _) hd⟩
theorem pad_nil : PA X [] (aD X.K p nilD) := PA.imp pa_nil fun _ H _ ⟨ds, e, q⟩ => by
  cases (show ds = [] from e)
  exact q [] H (Same.refl _) .nil
theorem pad_cons {e : Expr} {es : List Expr} {P : DP} {Ps : DPs} (h : PE X e (tD X.K p P)) (hs : PA X es (aD X.K p Ps)) (u : Up Ps) (c : starEach (e :: es) X.env = (false, eval e X.env) :: starEach es X.env := by rfl) : PA X (e :: es) (aD X.K p (consD P Ps)) := PA.imp (pa_cons h hs c) fun σ H Q ⟨ds, ⟨d, r, a, b, e⟩, q⟩ => by
  subst e
  exact ⟨d, a, fun v H1 s1 h1 => ⟨r, u _ _ _ _ s1 b, fun vs H2 s2 h2 => q (v :: vs) H2 (s1.trans s2) (.cons (Dq.same h1 s2) h2)⟩⟩
theorem new_ne {p : Addr → Prop} {q : Addr} {H : Hp} (h : ∀ b, p b → H b ≠ none) (n : H q = none) : ¬ p q := fun e => h q e n
theorem pd_tup {es : List Expr} {k : Nat} {pos : Pos} {Ps : DPs} (h : PA X es (aD X.K p Ps)) : PE X (.Tuple es k pos) (tD X.K p (tupD p Ps)) := PE.imp (pe_tup h) fun σ H Q ⟨d, ⟨ds, a, b, c, e⟩, q⟩ => by
  subst e
  refine ⟨ds, a, fun vs H1 s1 h1 => ⟨by rw [dpAll_len h1]; exact Nat.le_of_lt (small1000 b), fun t nt => q _ _ (s1.trans (same_upd nt)) ?_⟩⟩
  exact .tup (SqT.of (hid_at (new_ne (fun b hb => Same.some s1 (c b hb)) nt) upd_same)) (dpAll_same (hid_same (same_upd nt)) h1)
theorem pd_lst {es : List Expr} {pos : Pos} {Ps : DPs} (h : PA X es (aD X.K p Ps)) : PE X (.List es pos) (tD X.K p (lstD p Ps)) := PE.imp (pe_lst h) fun σ H Q ⟨d, ⟨ds, a, b, c, e⟩, q⟩ => by
  subst e
  refine ⟨ds, a, fun vs H1 s1 h1 => ⟨by rw [dpAll_len h1]; exact Nat.le_of_lt (small1000 b), fun t nt => q _ _ (s1.trans (same_upd nt)) ?_⟩⟩
  exact .lst (SqL.of (hid_at (new_ne (fun b hb => Same.some s1 (c b hb)) nt) upd_same)) (dpAll_same (hid_same (same_upd nt)) h1)
/-- a list display, its list known -/
def tL (K : PySem.W.Frag) (p : Addr → Prop) (Ps : DPs) : TE := fun σ H Q => ∃ ds, Ps σ H ds ∧ ds.length ≤ 1000 ∧ (∀ b, p b → H b ≠ none) ∧ ∀ l xs H', Same H H' → ¬ p l → H l = none → H' l = some (.lst xs) → DqAll K p H' xs ds → Q (.ref l) H'
theorem pd_list {es : List Expr} {pos : Pos} {Ps : DPs} (h : PA X es (aD X.K p Ps)) : PE X (.List es pos) (tL X.K p Ps) := PE.imp (pe_lst h) fun σ H Q ⟨ds, a, b, c, q⟩ =>
  ⟨ds, a, fun vs H1 s1 h1 => ⟨by rw [dpAll_len h1]; exact Nat.le_of_lt (small1000 b), fun t nt => q t vs _ (s1.trans (same_upd nt)) (new_ne (fun b hb => Same.some s1 (c b hb)) nt) (s1.free nt) upd_same (dpAll_same (hid_same (same_upd nt)) h1)⟩⟩
end
theorem dt_hid {K : PySem.W.Frag} {p : Addr → Prop} {H : Hp} {v : V} {d : PyData} (hp : ∀ b, p b → ∃ xs, H b = some (.lst xs)) (h : Dt K H v d) : Dq K p H v d := dp_same (fun b o e => by
  obtain ⟨xs, rfl, e0⟩ := tu_inv e
  refine hid_at (fun hb => ?_) e0
  obtain ⟨ys, e2⟩ := hp b hb
  rw [e0] at e2
  cases e2) h
theorem hid_upd {p : Addr → Prop} {H : Hp} {b : Addr} {o : HO} (hb : p b) : Same (hid p H) (hid p (upd H b o)) := fun c x e => by
  unfold hid at e ⊢
  split at e
  · cases e
  · rename_i n
    have nb : c ≠ b := fun z => n (by rw [z]; exact hb)
    rw [if_neg n, upd_ne nb]
    exact e
end Ds
end Dr
namespace Dr
open PySem PySem.Spec PyProof.Rows L2
open SX (S S_len S_cat)
structure Smn (n : Nat) (d : PyData) : Prop where
  c : d.canLay0 = true
  s : smD d = true
  d : d.depth ≤ n
structure Smns (n : Nat) (ds : List PyData) : Prop where
  c : PyData.canLayAll0 ds = true
  s : smAll ds = true
  d : PyData.depthAll ds ≤ n
theorem smn_nil {n : Nat} : Smns n [] := ⟨rfl, rfl, Nat.zero_le _⟩
theorem smn_cons {n : Nat} {d : PyData} {ds : List PyData} (h : Smn n d) (hs : Smns n ds) : Smns n (d :: ds) := by
  refine ⟨?_, ?_, ?_⟩
  · show (d.canLay0 && PyData.canLayAll0 ds) = true
    rw [h.c, hs.c]
    rfl
  · show (smD d && smAll ds) = true
    rw [h.s, hs.s]
    rfl
  · show max d.depth (PyData.depthAll ds) ≤ n
    have := h.d
    have := hs.d
    omega
theorem smn_tup {n : Nat} {ds : List PyData} (h : Smns n ds) (l : ds.length ≤ 1000) : Smn (n + 1) (.tuple ds) := ⟨h.c, by
  show (decide (ds.length ≤ 1000) && smAll ds) = true
  rw [h.s, decide_eq_true l]
  rfl, Nat.succ_le_succ h.d⟩
theorem smn_lst {n : Nat} {ds : List PyData} (h : Smns n ds) (l : ds.length ≤ 1000) : Smn (n + 1) (.list ds) := ⟨h.c, by
  show (decide (ds.length ≤ 1000) && smAll ds) = true
  rw [h.s, decide_eq_true l]
  rfl, Nat.succ_le_succ h.d⟩
theorem smn_str {n : Nat} {z : Str} (h : SmS z) : Smn n (.str z) := ⟨h.ok, decide_eq_true h.sm, Nat.zero_le _⟩
theorem smn_lit {n : Nat} {z : Str} (h : (PyData.strOk z && decide (z.length ≤ 1000)) = true) : Smn n (.str z) := smn_str (sms_lit h)
theorem smn_int {n : Nat} (i : Int) : Smn n (.int i) := ⟨rfl, rfl, Nat.zero_le _⟩
theorem smn_bl {n : Nat} (b : Bool) : Smn n (.bool b) := ⟨rfl, rfl, Nat.zero_le _⟩
theorem smn_non {n : Nat} : Smn n .none := ⟨rfl, rfl, Nat.zero_le _⟩
theorem Smn.okD {n : Nat} {d : PyData} (h : Smn n d) (hn : n ≤ 60) : OkD d := ⟨by
  show (d.canLay0 && decide (d.depth ≤ 64)) = true
  rw [h.c, decide_eq_true (by have := h.d; omega)]
  rfl, h.s⟩
theorem Smns.all {n : Nat} : ∀ {ds : List PyData}, Smns n ds → ∀ d ∈ ds, Smn n d
  | [], _, _, h => by cases h
  | x :: r, h, d, hd => by
    have h1 : (x.canLay0 && PyData.canLayAll0 r) = true := h.c
    have h2 : (smD x && smAll r) = true := h.s
    have h3 : max x.depth (PyData.depthAll r) ≤ n := h.d
    rw [Bool.and_eq_true] at h1 h2
    rcases List.mem_cons.mp hd with rfl | hd
    · exact ⟨h1.1, h2.1, by omega⟩
    · exact Smns.all ⟨h1.2, h2.2, by omega⟩ d hd
theorem smns_of {n : Nat} : ∀ {ds : List PyData}, (∀ d ∈ ds, Smn n d) → Smns n ds
  | [], _ => smn_nil
  | x :: r, h => smn_cons (h x (List.mem_cons_self ..)) (smns_of fun d hd => h d (List.mem_cons_of_mem _ hd))
theorem Smn.mono {n m : Nat} {d : PyData} (h : Smn n d) (hm : n ≤ m) : Smn m d := ⟨h.c, h.s, Nat.le_trans h.d hm⟩
theorem no_hd {n : Nat} {w : Str} {ds : List PyData} {fs : List Form} (hn : ds.length = n) (h : fs.find? (hitF n w) = none) : hasForm S0 (.tuple (.str w :: ds)) fs = false := by
  have e : formOf (.tuple (.str w :: ds)) fs = none := by
    unfold formOf
    subst hn
    have e : fits (.tuple (.str w :: ds)) = hitF ds.length w := by
      funext f
      cases f <;> rfl
    rw [e]
    exact h
  unfold hasForm
  rw [e]
theorem wv_f {a b : PyData} (h : hasForm S0 b makingForms = false) : isValueD (.tuple [a, b]) = false := by
  show (isNameD a && hasForm S0 b makingForms) = false
  rw [h, Bool.and_false]
theorem wv_once {b : PyData} (h : isItemsD b = false) : hasForm S0 (.tuple [.str "once", b]) makingForms = false := by
  rw [has1 (d := .none) (s1 := "items") (form_hd (n := 1) rfl (by decide +kernel)), S0_items, h]
theorem wv_early1 {a b : PyData} (h : isNameD a = false) : hasForm S0 (.tuple [.str "early", a, b]) makingForms = false := by
  rw [has2 (s1 := "kind") (s2 := "value") (form_hd (n := 2) rfl (by decide +kernel)), S0_kind, S0_value, h]
  rfl
theorem wv_early2 {a b : PyData} (h : isNameD b = false) : hasForm S0 (.tuple [.str "early", a, b]) makingForms = false := by
  rw [has2 (s1 := "kind") (s2 := "value") (form_hd (n := 2) rfl (by decide +kernel)), S0_kind, S0_value, h, Bool.and_false]
theorem wv_two {z : Str} : isItemsD (.tuple [.str z, .str z]) = false := by
  have e : ltS z z = false := decide_eq_false (List.lt_irrefl _)
  show ((nameOk z && (nameOk z && true)) && (ltS z z && true)) = false
  rw [e]
  simp
def wl (nm : List Nat) : List PyData := [(.int 5 : PyData), .none, .str (S nm), .tuple [], .tuple [(.str (S nm) : PyData)], .list [(.str (S nm) : PyData), .tuple [(.str "once" : PyData), .tuple []]], .tuple [(.str (S nm) : PyData), .tuple [(.str "once" : PyData)]], .tuple [(.str (S nm) : PyData), .list [(.str "once" : PyData), .tuple []]], .tuple [(.str (S nm) : PyData), .tuple [(.str "anew" : PyData), .tuple []]], .tuple [(.str (S nm) : PyData), .tuple [(.str "late" : PyData), .str (S nm), .str (S nm)]], .tuple [(.str (S nm) : PyData), .tuple [(.str "early" : PyData), .str "cls", .str (S nm)]], .tuple [(.str (S nm) : PyData), .tuple [(.str "early" : PyData), .str (S nm)]], .tuple [(.str "def" : PyData), .tuple [(.str "once" : PyData), .tuple []]], .tuple [(.str (S nm) : PyData), .tuple [(.str "once" : PyData), .tuple [(.str (S nm) : PyData), .str (S nm)]]], .tuple [(.str (S nm) : PyData), .tuple [(.str "once" : PyData), .list []]], .tuple [(.str (S nm) : PyData), .tuple [(.str "mark" : PyData), .str (S nm)]], .tuple [(.str (S nm) : PyData), .none], .tuple [(.int 5 : PyData), .tuple [(.str "once" : PyData), .tuple []]], .tuple [(.str (S nm) : PyData), .tuple [(.str "once" : PyData), .tuple []], .tuple []], .tuple [(.str (S nm) : PyData), .tuple [(.str "early" : PyData), .str (S nm), .int 1]]]
theorem wl_bad (nm : List Nat) : ∀ d ∈ wl nm, isValueD d = false := by
  intro d hd
  unfold wl at hd
  simp only [List.mem_cons, List.not_mem_nil, or_false] at hd
  rcases hd with rfl | rfl | rfl | rfl | rfl | rfl | rfl | rfl | rfl | rfl | rfl | rfl | rfl | rfl | rfl | rfl | rfl | rfl | rfl | rfl
  · exact rfl
  · exact rfl
  · exact rfl
  · exact rfl
  · exact rfl
  · exact rfl
  · exact (wv_f (by decide +kernel))
  · exact (wv_f (by decide +kernel))
  · exact (wv_f (by decide +kernel))
  · exact (wv_f (no_hd (n := 2) rfl (by decide +kernel)))
  · exact (wv_f (wv_early1 (by decide +kernel)))
  · exact (wv_f (no_hd (n := 1) rfl (by decide +kernel)))
  · exact (by decide +kernel)
  · exact (wv_f (wv_once wv_two))
  · exact (wv_f (wv_once rfl))
  · exact (wv_f (no_hd (n := 1) rfl (by decide +kernel)))
  · exact (wv_f rfl)
  · exact rfl
  · exact rfl
  · exact (wv_f (wv_early2 rfl))
theorem wl_sm {nm : List Nat} (hn : SmS (S nm)) : Smns 6 (wl nm) := (smn_cons (smn_int _) (smn_cons smn_non (smn_cons (smn_str hn) (smn_cons (smn_tup smn_nil (by show 0 ≤ 1000; decide)) (smn_cons (smn_tup (smn_cons (smn_str hn) smn_nil) (by show 1 ≤ 1000; decide)) (smn_cons (smn_lst (smn_cons (smn_str hn) (smn_cons (smn_tup (smn_cons (smn_lit (by decide +kernel)) (smn_cons (smn_tup smn_nil (by show 0 ≤ 1000; decide)) smn_nil)) (by show 2 ≤ 1000; decide)) smn_nil)) (by show 2 ≤ 1000; decide)) (smn_cons (smn_tup (smn_cons (smn_str hn) (smn_cons (smn_tup (smn_cons (smn_lit (by decide +kernel)) smn_nil) (by show 1 ≤ 1000; decide)) smn_nil)) (by show 2 ≤ 1000; decide)) (smn_cons (smn_tup (smn_cons (smn_str hn) (smn_cons (smn_lst (smn_cons (smn_lit (by decide +kernel)) (smn_cons (smn_tup smn_nil (by show 0 ≤ 1000; decide)) smn_nil)) (by show 2 ≤ 1000; decide)) smn_nil)) (by show 2 ≤ 1000; decide)) (smn_cons (smn_tup (smn_cons (smn_str hn) (smn_cons (smn_tup (smn_cons (smn_lit (by decide +kernel)) (smn_cons (smn_tup smn_nil (by show 0 ≤ 1000; decide)) smn_nil)) (by show 2 ≤ 1000; decide)) smn_nil)) (by show 2 ≤ 1000; decide)) (smn_cons (smn_tup (smn_cons (smn_str hn) (smn_cons (smn_tup (smn_cons (smn_lit (by decide +kernel)) (smn_cons (smn_str hn) (smn_cons (smn_str hn) smn_nil))) (by show 3 ≤ 1000; decide)) smn_nil)) (by show 2 ≤ 1000; decide)) (smn_cons (smn_tup (smn_cons (smn_str hn) (smn_cons (smn_tup (smn_cons (smn_lit (by decide +kernel)) (smn_cons (smn_lit (by decide +kernel)) (smn_cons (smn_str hn) smn_nil))) (by show 3 ≤ 1000; decide)) smn_nil)) (by show 2 ≤ 1000; decide)) (smn_cons (smn_tup (smn_cons (smn_str hn) (smn_cons (smn_tup (smn_cons (smn_lit (by decide +kernel)) (smn_cons (smn_str hn) smn_nil)) (by show 2 ≤ 1000; decide)) smn_nil)) (by show 2 ≤ 1000; decide)) (smn_cons (smn_tup (smn_cons (smn_lit (by decide +kernel)) (smn_cons (smn_tup (smn_cons (smn_lit (by decide +kernel)) (smn_cons (smn_tup smn_nil (by show 0 ≤ 1000; decide)) smn_nil)) (by show 2 ≤ 1000; decide)) smn_nil)) (by show 2 ≤ 1000; decide)) (smn_cons (smn_tup (smn_cons (smn_str hn) (smn_cons (smn_tup (smn_cons (smn_lit (by decide +kernel)) (smn_cons (smn_tup (smn_cons (smn_str hn) (smn_cons (smn_str hn) smn_nil)) (by show 2 ≤ 1000; decide)) smn_nil)) (by show 2 ≤ 1000; decide)) smn_nil)) (by show 2 ≤ 1000; decide)) (smn_cons (smn_tup (smn_cons (smn_str hn) (smn_cons (smn_tup (smn_cons (smn_lit (by decide +kernel)) (smn_cons (smn_lst smn_nil (by show 0 ≤ 1000; decide)) smn_nil)) (by show 2 ≤ 1000; decide)) smn_nil)) (by show 2 ≤ 1000; decide)) (smn_cons (smn_tup (smn_cons (smn_str hn) (smn_cons (smn_tup (smn_cons (smn_lit (by decide +kernel)) (smn_cons (smn_str hn) smn_nil)) (by show 2 ≤ 1000; decide)) smn_nil)) (by show 2 ≤ 1000; decide)) (smn_cons (smn_tup (smn_cons (smn_str hn) (smn_cons smn_non smn_nil)) (by show 2 ≤ 1000; decide)) (smn_cons (smn_tup (smn_cons (smn_int _) (smn_cons (smn_tup (smn_cons (smn_lit (by decide +kernel)) (smn_cons (smn_tup smn_nil (by show 0 ≤ 1000; decide)) smn_nil)) (by show 2 ≤ 1000; decide)) smn_nil)) (by show 2 ≤ 1000; decide)) (smn_cons (smn_tup (smn_cons (smn_str hn) (smn_cons (smn_tup (smn_cons (smn_lit (by decide +kernel)) (smn_cons (smn_tup smn_nil (by show 0 ≤ 1000; decide)) smn_nil)) (by show 2 ≤ 1000; decide)) (smn_cons (smn_tup smn_nil (by show 0 ≤ 1000; decide)) smn_nil))) (by show 3 ≤ 1000; decide)) (smn_cons (smn_tup (smn_cons (smn_str hn) (smn_cons (smn_tup (smn_cons (smn_lit (by decide +kernel)) (smn_cons (smn_str hn) (smn_cons (smn_int _) smn_nil))) (by show 3 ≤ 1000; decide)) smn_nil)) (by show 2 ≤ 1000; decide)) smn_nil))))))))))))))))))))
/-- a datum that is no right value behind the earlier ones -/
def WrV (ds : List PyData) (d : PyData) : Prop := isValueD d = false ∨ (isValueD d = true ∧ nmD d ∈ ds.map nmD)
def two (p w : Addr) (b : Addr) : Prop := b = p ∨ b = w
theorem vd_smn {z : List Nat} {d : PyData} (h : VD z d) (g : GoodN z) : Smn 3 d := by
  obtain ⟨h1, h2⟩ := h.ok g
  exact ⟨SeqAt.canLay_of_shaped h1.sh, h1.sm, h2⟩
theorem paired_get2 {α β : Type} {R : α → β → Prop} : ∀ {xs : List α} {ys : List β} {i : Nat} {y : β}, Paired R xs ys → ys[i]? = some y → ∃ x, xs[i]? = some x ∧ R x y
  | _, _, i, y, .nil, h => by simp at h
  | _, _, 0, y, .cons r _, h => ⟨_, rfl, by
    have q := Option.some.inj h
    subst q
    exact r⟩
  | _, _, i + 1, y, .cons _ rs, h => paired_get2 (i := i) rs h
theorem vs_all {zs : List (List Nat)} {ds : List PyData} (h : VsOk zs ds) (g : ∀ z ∈ zs, GoodN z) : ∀ d ∈ ds, ∃ z ∈ zs, VD z d := fun d hd => by
  obtain ⟨i, hi, rfl⟩ := List.mem_iff_getElem.mp hd
  obtain ⟨z, hz, hv⟩ := paired_get2 h (List.getElem?_eq_getElem hi)
  exact ⟨z, List.mem_of_getElem? hz, hv⟩
theorem its_nil : ItsOk [] := ⟨fun z hz => (nomatch hz), fun z hz => (nomatch hz), rfl, Nat.zero_le _⟩
abbrev sWV : Stmt := topS 42
theorem scWV : FnScope ["_law_bag_here", "_law_name", "_law_earlier", "_law_listed"] ["_law_bag_here", "_law_name", "_law_earlier"] (defScope sWV) := ⟨rfl, rfl, rfl, by decide +kernel, rfl, by decide +kernel, by decide +kernel⟩
section
variable {P : Program} {w : World} {K : PySem.W.Frag} {mg : Str → Option Value} {base : Heap}
def spWV (K : PySem.W.Frag) : Sp := fun vs H Q _ => ∃ (p e w : Addr) (nm : List Nat) (xs ws : List V) (ds : List PyData) (zs : List (List Nat)), vs = [.ref p, .str (S nm), .ref e] ∧ Bag H p ∧ GoodN nm ∧ e ≠ p ∧ w ≠ p ∧ e ≠ w ∧ H e = some (.lst xs) ∧ H w = some (.lst ws) ∧ DtAll K H xs ds ∧ VsOk zs ds ∧ (∀ z ∈ zs, GoodN z) ∧ zs.length ≤ 4 ∧
  ∀ H' v d, Kp p H H' → Ds.Dq K (two p w) H' v d → Smn 6 d → WrV ds d → Q v H'
theorem ok_wv {f fO : Addr} {fd fdO : FuncData} (F : Fun K "_law_wrong_value" "_law_wrong_value" sWV f fd)
    (GO : FnOk P w K mg base CX0 2 fO fdO ["_law_bag_here", "_law_some"] (spOf K)) (mO : mg "_law_of" = some (.ref fO)) (kO : PySem.W.keepIn K (.ref fO) = true) (bO : Binds K fdO ["_law_bag_here", "_law_some"] []) :
    FnOk P w K mg base CX0 3 f fd ["_law_bag_here", "_law_name", "_law_earlier"] (spWV K) := by
  refine F.ok scWV (fun vs H Q E h => ?_) (fun cdv A outer s H vs Q E hr h => ?_)
  · obtain ⟨p, e, w, nm, xs, ws, ds, zs, rfl, _⟩ := h
    rfl
  · obtain ⟨p, e, w, nm, xs, ws, ds, zs, rfl, hB, hnm, nep, nwp, new, he, hw, hds, hvs, hg, hzl, q⟩ := h
    have hu : (A.deeper (envOfC "_law_wrong_value" (defScope sWV) s.heap.objs.size f cdv)).units + 64 < cLine := hr.units
    refine ⟨_, pss_cons (ps_set (i := 3) scWV.nd rfl (.inl rfl) (Ds.pd_list (p := two p w) (Ds.pad_cons Ds.pd_int (Ds.pad_cons Ds.pd_non (Ds.pad_cons (Ds.pd_v 1 (pv 1)) (Ds.pad_cons (Ds.pd_tup Ds.pad_nil) (Ds.pad_cons (Ds.pd_tup (Ds.pad_cons (Ds.pd_v 1 (pv 1)) Ds.pad_nil Ds.up_nil)) (Ds.pad_cons (Ds.pd_lst (Ds.pad_cons (Ds.pd_v 1 (pv 1)) (Ds.pad_cons (Ds.pd_tup (Ds.pad_cons Ds.pd_str (Ds.pad_cons (Ds.pd_tup Ds.pad_nil) Ds.pad_nil Ds.up_nil) (Ds.up_cons (Ds.up_tup Ds.up_nil) Ds.up_nil))) Ds.pad_nil Ds.up_nil) (Ds.up_cons (Ds.up_tup (Ds.up_cons Ds.up_is (Ds.up_cons (Ds.up_tup Ds.up_nil) Ds.up_nil))) Ds.up_nil))) (Ds.pad_cons (Ds.pd_tup (Ds.pad_cons (Ds.pd_v 1 (pv 1)) (Ds.pad_cons (Ds.pd_tup (Ds.pad_cons Ds.pd_str Ds.pad_nil Ds.up_nil)) Ds.pad_nil Ds.up_nil) (Ds.up_cons (Ds.up_tup (Ds.up_cons Ds.up_is Ds.up_nil)) Ds.up_nil))) (Ds.pad_cons (Ds.pd_tup (Ds.pad_cons (Ds.pd_v 1 (pv 1)) (Ds.pad_cons (Ds.pd_lst (Ds.pad_cons Ds.pd_str (Ds.pad_cons (Ds.pd_tup Ds.pad_nil) Ds.pad_nil Ds.up_nil) (Ds.up_cons (Ds.up_tup Ds.up_nil) Ds.up_nil))) Ds.pad_nil Ds.up_nil) (Ds.up_cons (Ds.up_lst (Ds.up_cons Ds.up_is (Ds.up_cons (Ds.up_tup Ds.up_nil) Ds.up_nil))) Ds.up_nil))) (Ds.pad_cons (Ds.pd_tup (Ds.pad_cons (Ds.pd_v 1 (pv 1)) (Ds.pad_cons (Ds.pd_tup (Ds.pad_cons Ds.pd_str (Ds.pad_cons (Ds.pd_tup Ds.pad_nil) Ds.pad_nil Ds.up_nil) (Ds.up_cons (Ds.up_tup Ds.up_nil) Ds.up_nil))) Ds.pad_nil Ds.up_nil) (Ds.up_cons (Ds.up_tup (Ds.up_cons Ds.up_is (Ds.up_cons (Ds.up_tup Ds.up_nil) Ds.up_nil))) Ds.up_nil))) (Ds.pad_cons (Ds.pd_tup (Ds.pad_cons (Ds.pd_v 1 (pv 1)) (Ds.pad_cons (Ds.pd_tup (Ds.pad_cons Ds.pd_str (Ds.pad_cons (Ds.pd_v 1 (pv 1)) (Ds.pad_cons (Ds.pd_v 1 (pv 1)) Ds.pad_nil Ds.up_nil) (Ds.up_cons Ds.up_sl Ds.up_nil)) (Ds.up_cons Ds.up_sl (Ds.up_cons Ds.up_sl Ds.up_nil)))) Ds.pad_nil Ds.up_nil) (Ds.up_cons (Ds.up_tup (Ds.up_cons Ds.up_is (Ds.up_cons Ds.up_sl (Ds.up_cons Ds.up_sl Ds.up_nil)))) Ds.up_nil))) (Ds.pad_cons (Ds.pd_tup (Ds.pad_cons (Ds.pd_v 1 (pv 1)) (Ds.pad_cons (Ds.pd_tup (Ds.pad_cons Ds.pd_str (Ds.pad_cons Ds.pd_str (Ds.pad_cons (Ds.pd_v 1 (pv 1)) Ds.pad_nil Ds.up_nil) (Ds.up_cons Ds.up_sl Ds.up_nil)) (Ds.up_cons Ds.up_is (Ds.up_cons Ds.up_sl Ds.up_nil)))) Ds.pad_nil Ds.up_nil) (Ds.up_cons (Ds.up_tup (Ds.up_cons Ds.up_is (Ds.up_cons Ds.up_is (Ds.up_cons Ds.up_sl Ds.up_nil)))) Ds.up_nil))) (Ds.pad_cons (Ds.pd_tup (Ds.pad_cons (Ds.pd_v 1 (pv 1)) (Ds.pad_cons (Ds.pd_tup (Ds.pad_cons Ds.pd_str (Ds.pad_cons (Ds.pd_v 1 (pv 1)) Ds.pad_nil Ds.up_nil) (Ds.up_cons Ds.up_sl Ds.up_nil))) Ds.pad_nil Ds.up_nil) (Ds.up_cons (Ds.up_tup (Ds.up_cons Ds.up_is (Ds.up_cons Ds.up_sl Ds.up_nil))) Ds.up_nil))) (Ds.pad_cons (Ds.pd_tup (Ds.pad_cons Ds.pd_str (Ds.pad_cons (Ds.pd_tup (Ds.pad_cons Ds.pd_str (Ds.pad_cons (Ds.pd_tup Ds.pad_nil) Ds.pad_nil Ds.up_nil) (Ds.up_cons (Ds.up_tup Ds.up_nil) Ds.up_nil))) Ds.pad_nil Ds.up_nil) (Ds.up_cons (Ds.up_tup (Ds.up_cons Ds.up_is (Ds.up_cons (Ds.up_tup Ds.up_nil) Ds.up_nil))) Ds.up_nil))) (Ds.pad_cons (Ds.pd_tup (Ds.pad_cons (Ds.pd_v 1 (pv 1)) (Ds.pad_cons (Ds.pd_tup (Ds.pad_cons Ds.pd_str (Ds.pad_cons (Ds.pd_tup (Ds.pad_cons (Ds.pd_v 1 (pv 1)) (Ds.pad_cons (Ds.pd_v 1 (pv 1)) Ds.pad_nil Ds.up_nil) (Ds.up_cons Ds.up_sl Ds.up_nil))) Ds.pad_nil Ds.up_nil) (Ds.up_cons (Ds.up_tup (Ds.up_cons Ds.up_sl (Ds.up_cons Ds.up_sl Ds.up_nil))) Ds.up_nil))) Ds.pad_nil Ds.up_nil) (Ds.up_cons (Ds.up_tup (Ds.up_cons Ds.up_is (Ds.up_cons (Ds.up_tup (Ds.up_cons Ds.up_sl (Ds.up_cons Ds.up_sl Ds.up_nil))) Ds.up_nil))) Ds.up_nil))) (Ds.pad_cons (Ds.pd_tup (Ds.pad_cons (Ds.pd_v 1 (pv 1)) (Ds.pad_cons (Ds.pd_tup (Ds.pad_cons Ds.pd_str (Ds.pad_cons (Ds.pd_lst Ds.pad_nil) Ds.pad_nil Ds.up_nil) (Ds.up_cons (Ds.up_lst Ds.up_nil) Ds.up_nil))) Ds.pad_nil Ds.up_nil) (Ds.up_cons (Ds.up_tup (Ds.up_cons Ds.up_is (Ds.up_cons (Ds.up_lst Ds.up_nil) Ds.up_nil))) Ds.up_nil))) (Ds.pad_cons (Ds.pd_tup (Ds.pad_cons (Ds.pd_v 1 (pv 1)) (Ds.pad_cons (Ds.pd_tup (Ds.pad_cons Ds.pd_str (Ds.pad_cons (Ds.pd_v 1 (pv 1)) Ds.pad_nil Ds.up_nil) (Ds.up_cons Ds.up_sl Ds.up_nil))) Ds.pad_nil Ds.up_nil) (Ds.up_cons (Ds.up_tup (Ds.up_cons Ds.up_is (Ds.up_cons Ds.up_sl Ds.up_nil))) Ds.up_nil))) (Ds.pad_cons (Ds.pd_tup (Ds.pad_cons (Ds.pd_v 1 (pv 1)) (Ds.pad_cons Ds.pd_non Ds.pad_nil Ds.up_nil) (Ds.up_cons Ds.up_is Ds.up_nil))) (Ds.pad_cons (Ds.pd_tup (Ds.pad_cons Ds.pd_int (Ds.pad_cons (Ds.pd_tup (Ds.pad_cons Ds.pd_str (Ds.pad_cons (Ds.pd_tup Ds.pad_nil) Ds.pad_nil Ds.up_nil) (Ds.up_cons (Ds.up_tup Ds.up_nil) Ds.up_nil))) Ds.pad_nil Ds.up_nil) (Ds.up_cons (Ds.up_tup (Ds.up_cons Ds.up_is (Ds.up_cons (Ds.up_tup Ds.up_nil) Ds.up_nil))) Ds.up_nil))) (Ds.pad_cons (Ds.pd_tup (Ds.pad_cons (Ds.pd_v 1 (pv 1)) (Ds.pad_cons (Ds.pd_tup (Ds.pad_cons Ds.pd_str (Ds.pad_cons (Ds.pd_tup Ds.pad_nil) Ds.pad_nil Ds.up_nil) (Ds.up_cons (Ds.up_tup Ds.up_nil) Ds.up_nil))) (Ds.pad_cons (Ds.pd_tup Ds.pad_nil) Ds.pad_nil Ds.up_nil) (Ds.up_cons (Ds.up_tup Ds.up_nil) Ds.up_nil)) (Ds.up_cons (Ds.up_tup (Ds.up_cons Ds.up_is (Ds.up_cons (Ds.up_tup Ds.up_nil) Ds.up_nil))) (Ds.up_cons (Ds.up_tup Ds.up_nil) Ds.up_nil)))) (Ds.pad_cons (Ds.pd_tup (Ds.pad_cons (Ds.pd_v 1 (pv 1)) (Ds.pad_cons (Ds.pd_tup (Ds.pad_cons Ds.pd_str (Ds.pad_cons (Ds.pd_v 1 (pv 1)) (Ds.pad_cons Ds.pd_int Ds.pad_nil Ds.up_nil) (Ds.up_cons Ds.up_is Ds.up_nil)) (Ds.up_cons Ds.up_sl (Ds.up_cons Ds.up_is Ds.up_nil)))) Ds.pad_nil Ds.up_nil) (Ds.up_cons (Ds.up_tup (Ds.up_cons Ds.up_is (Ds.up_cons Ds.up_sl (Ds.up_cons Ds.up_is Ds.up_nil)))) Ds.up_nil))) Ds.pad_nil Ds.up_nil) (Ds.up_cons (Ds.up_tup (Ds.up_cons Ds.up_sl (Ds.up_cons (Ds.up_tup (Ds.up_cons Ds.up_is (Ds.up_cons Ds.up_sl (Ds.up_cons Ds.up_is Ds.up_nil)))) Ds.up_nil))) Ds.up_nil)) (Ds.up_cons (Ds.up_tup (Ds.up_cons Ds.up_sl (Ds.up_cons (Ds.up_tup (Ds.up_cons Ds.up_is (Ds.up_cons (Ds.up_tup Ds.up_nil) Ds.up_nil))) (Ds.up_cons (Ds.up_tup Ds.up_nil) Ds.up_nil)))) (Ds.up_cons (Ds.up_tup (Ds.up_cons Ds.up_sl (Ds.up_cons (Ds.up_tup (Ds.up_cons Ds.up_is (Ds.up_cons Ds.up_sl (Ds.up_cons Ds.up_is Ds.up_nil)))) Ds.up_nil))) Ds.up_nil))) (Ds.up_cons (Ds.up_tup (Ds.up_cons Ds.up_is (Ds.up_cons (Ds.up_tup (Ds.up_cons Ds.up_is (Ds.up_cons (Ds.up_tup Ds.up_nil) Ds.up_nil))) Ds.up_nil))) (Ds.up_cons (Ds.up_tup (Ds.up_cons Ds.up_sl (Ds.up_cons (Ds.up_tup (Ds.up_cons Ds.up_is (Ds.up_cons (Ds.up_tup Ds.up_nil) Ds.up_nil))) (Ds.up_cons (Ds.up_tup Ds.up_nil) Ds.up_nil)))) (Ds.up_cons (Ds.up_tup (Ds.up_cons Ds.up_sl (Ds.up_cons (Ds.up_tup (Ds.up_cons Ds.up_is (Ds.up_cons Ds.up_sl (Ds.up_cons Ds.up_is Ds.up_nil)))) Ds.up_nil))) Ds.up_nil)))) (Ds.up_cons (Ds.up_tup (Ds.up_cons Ds.up_sl (Ds.up_cons Ds.up_is Ds.up_nil))) (Ds.up_cons (Ds.up_tup (Ds.up_cons Ds.up_is (Ds.up_cons (Ds.up_tup (Ds.up_cons Ds.up_is (Ds.up_cons (Ds.up_tup Ds.up_nil) Ds.up_nil))) Ds.up_nil))) (Ds.up_cons (Ds.up_tup (Ds.up_cons Ds.up_sl (Ds.up_cons (Ds.up_tup (Ds.up_cons Ds.up_is (Ds.up_cons (Ds.up_tup Ds.up_nil) Ds.up_nil))) (Ds.up_cons (Ds.up_tup Ds.up_nil) Ds.up_nil)))) (Ds.up_cons (Ds.up_tup (Ds.up_cons Ds.up_sl (Ds.up_cons (Ds.up_tup (Ds.up_cons Ds.up_is (Ds.up_cons Ds.up_sl (Ds.up_cons Ds.up_is Ds.up_nil)))) Ds.up_nil))) Ds.up_nil))))) (Ds.up_cons (Ds.up_tup (Ds.up_cons Ds.up_sl (Ds.up_cons (Ds.up_tup (Ds.up_cons Ds.up_is (Ds.up_cons Ds.up_sl Ds.up_nil))) Ds.up_nil))) (Ds.up_cons (Ds.up_tup (Ds.up_cons Ds.up_sl (Ds.up_cons Ds.up_is Ds.up_nil))) (Ds.up_cons (Ds.up_tup (Ds.up_cons Ds.up_is (Ds.up_cons (Ds.up_tup (Ds.up_cons Ds.up_is (Ds.up_cons (Ds.up_tup Ds.up_nil) Ds.up_nil))) Ds.up_nil))) (Ds.up_cons (Ds.up_tup (Ds.up_cons Ds.up_sl (Ds.up_cons (Ds.up_tup (Ds.up_cons Ds.up_is (Ds.up_cons (Ds.up_tup Ds.up_nil) Ds.up_nil))) (Ds.up_cons (Ds.up_tup Ds.up_nil) Ds.up_nil)))) (Ds.up_cons (Ds.up_tup (Ds.up_cons Ds.up_sl (Ds.up_cons (Ds.up_tup (Ds.up_cons Ds.up_is (Ds.up_cons Ds.up_sl (Ds.up_cons Ds.up_is Ds.up_nil)))) Ds.up_nil))) Ds.up_nil)))))) (Ds.up_cons (Ds.up_tup (Ds.up_cons Ds.up_sl (Ds.up_cons (Ds.up_tup (Ds.up_cons Ds.up_is (Ds.up_cons (Ds.up_lst Ds.up_nil) Ds.up_nil))) Ds.up_nil))) (Ds.up_cons (Ds.up_tup (Ds.up_cons Ds.up_sl (Ds.up_cons (Ds.up_tup (Ds.up_cons Ds.up_is (Ds.up_cons Ds.up_sl Ds.up_nil))) Ds.up_nil))) (Ds.up_cons (Ds.up_tup (Ds.up_cons Ds.up_sl (Ds.up_cons Ds.up_is Ds.up_nil))) (Ds.up_cons (Ds.up_tup (Ds.up_cons Ds.up_is (Ds.up_cons (Ds.up_tup (Ds.up_cons Ds.up_is (Ds.up_cons (Ds.up_tup Ds.up_nil) Ds.up_nil))) Ds.up_nil))) (Ds.up_cons (Ds.up_tup (Ds.up_cons Ds.up_sl (Ds.up_cons (Ds.up_tup (Ds.up_cons Ds.up_is (Ds.up_cons (Ds.up_tup Ds.up_nil) Ds.up_nil))) (Ds.up_cons (Ds.up_tup Ds.up_nil) Ds.up_nil)))) (Ds.up_cons (Ds.up_tup (Ds.up_cons Ds.up_sl (Ds.up_cons (Ds.up_tup (Ds.up_cons Ds.up_is (Ds.up_cons Ds.up_sl (Ds.up_cons Ds.up_is Ds.up_nil)))) Ds.up_nil))) Ds.up_nil))))))) (Ds.up_cons (Ds.up_tup (Ds.up_cons Ds.up_sl (Ds.up_cons (Ds.up_tup (Ds.up_cons Ds.up_is (Ds.up_cons (Ds.up_tup (Ds.up_cons Ds.up_sl (Ds.up_cons Ds.up_sl Ds.up_nil))) Ds.up_nil))) Ds.up_nil))) (Ds.up_cons (Ds.up_tup (Ds.up_cons Ds.up_sl (Ds.up_cons (Ds.up_tup (Ds.up_cons Ds.up_is (Ds.up_cons (Ds.up_lst Ds.up_nil) Ds.up_nil))) Ds.up_nil))) (Ds.up_cons (Ds.up_tup (Ds.up_cons Ds.up_sl (Ds.up_cons (Ds.up_tup (Ds.up_cons Ds.up_is (Ds.up_cons Ds.up_sl Ds.up_nil))) Ds.up_nil))) (Ds.up_cons (Ds.up_tup (Ds.up_cons Ds.up_sl (Ds.up_cons Ds.up_is Ds.up_nil))) (Ds.up_cons (Ds.up_tup (Ds.up_cons Ds.up_is (Ds.up_cons (Ds.up_tup (Ds.up_cons Ds.up_is (Ds.up_cons (Ds.up_tup Ds.up_nil) Ds.up_nil))) Ds.up_nil))) (Ds.up_cons (Ds.up_tup (Ds.up_cons Ds.up_sl (Ds.up_cons (Ds.up_tup (Ds.up_cons Ds.up_is (Ds.up_cons (Ds.up_tup Ds.up_nil) Ds.up_nil))) (Ds.up_cons (Ds.up_tup Ds.up_nil) Ds.up_nil)))) (Ds.up_cons (Ds.up_tup (Ds.up_cons Ds.up_sl (Ds.up_cons (Ds.up_tup (Ds.up_cons Ds.up_is (Ds.up_cons Ds.up_sl (Ds.up_cons Ds.up_is Ds.up_nil)))) Ds.up_nil))) Ds.up_nil)))))))) (Ds.up_cons (Ds.up_tup (Ds.up_cons Ds.up_is (Ds.up_cons (Ds.up_tup (Ds.up_cons Ds.up_is (Ds.up_cons (Ds.up_tup Ds.up_nil) Ds.up_nil))) Ds.up_nil))) (Ds.up_cons (Ds.up_tup (Ds.up_cons Ds.up_sl (Ds.up_cons (Ds.up_tup (Ds.up_cons Ds.up_is (Ds.up_cons (Ds.up_tup (Ds.up_cons Ds.up_sl (Ds.up_cons Ds.up_sl Ds.up_nil))) Ds.up_nil))) Ds.up_nil))) (Ds.up_cons (Ds.up_tup (Ds.up_cons Ds.up_sl (Ds.up_cons (Ds.up_tup (Ds.up_cons Ds.up_is (Ds.up_cons (Ds.up_lst Ds.up_nil) Ds.up_nil))) Ds.up_nil))) (Ds.up_cons (Ds.up_tup (Ds.up_cons Ds.up_sl (Ds.up_cons (Ds.up_tup (Ds.up_cons Ds.up_is (Ds.up_cons Ds.up_sl Ds.up_nil))) Ds.up_nil))) (Ds.up_cons (Ds.up_tup (Ds.up_cons Ds.up_sl (Ds.up_cons Ds.up_is Ds.up_nil))) (Ds.up_cons (Ds.up_tup (Ds.up_cons Ds.up_is (Ds.up_cons (Ds.up_tup (Ds.up_cons Ds.up_is (Ds.up_cons (Ds.up_tup Ds.up_nil) Ds.up_nil))) Ds.up_nil))) (Ds.up_cons (Ds.up_tup (Ds.up_cons Ds.up_sl (Ds.up_cons (Ds.up_tup (Ds.up_cons Ds.up_is (Ds.up_cons (Ds.up_tup Ds.up_nil) Ds.up_nil))) (Ds.up_cons (Ds.up_tup Ds.up_nil) Ds.up_nil)))) (Ds.up_cons (Ds.up_tup (Ds.up_cons Ds.up_sl (Ds.up_cons (Ds.up_tup (Ds.up_cons Ds.up_is (Ds.up_cons Ds.up_sl (Ds.up_cons Ds.up_is Ds.up_nil)))) Ds.up_nil))) Ds.up_nil))))))))) (Ds.up_cons (Ds.up_tup (Ds.up_cons Ds.up_sl (Ds.up_cons (Ds.up_tup (Ds.up_cons Ds.up_is (Ds.up_cons Ds.up_sl Ds.up_nil))) Ds.up_nil))) (Ds.up_cons (Ds.up_tup (Ds.up_cons Ds.up_is (Ds.up_cons (Ds.up_tup (Ds.up_cons Ds.up_is (Ds.up_cons (Ds.up_tup Ds.up_nil) Ds.up_nil))) Ds.up_nil))) (Ds.up_cons (Ds.up_tup (Ds.up_cons Ds.up_sl (Ds.up_cons (Ds.up_tup (Ds.up_cons Ds.up_is (Ds.up_cons (Ds.up_tup (Ds.up_cons Ds.up_sl (Ds.up_cons Ds.up_sl Ds.up_nil))) Ds.up_nil))) Ds.up_nil))) (Ds.up_cons (Ds.up_tup (Ds.up_cons Ds.up_sl (Ds.up_cons (Ds.up_tup (Ds.up_cons Ds.up_is (Ds.up_cons (Ds.up_lst Ds.up_nil) Ds.up_nil))) Ds.up_nil))) (Ds.up_cons (Ds.up_tup (Ds.up_cons Ds.up_sl (Ds.up_cons (Ds.up_tup (Ds.up_cons Ds.up_is (Ds.up_cons Ds.up_sl Ds.up_nil))) Ds.up_nil))) (Ds.up_cons (Ds.up_tup (Ds.up_cons Ds.up_sl (Ds.up_cons Ds.up_is Ds.up_nil))) (Ds.up_cons (Ds.up_tup (Ds.up_cons Ds.up_is (Ds.up_cons (Ds.up_tup (Ds.up_cons Ds.up_is (Ds.up_cons (Ds.up_tup Ds.up_nil) Ds.up_nil))) Ds.up_nil))) (Ds.up_cons (Ds.up_tup (Ds.up_cons Ds.up_sl (Ds.up_cons (Ds.up_tup (Ds.up_cons Ds.up_is (Ds.up_cons (Ds.up_tup Ds.up_nil) Ds.up_nil))) (Ds.up_cons (Ds.up_tup Ds.up_nil) Ds.up_nil)))) (Ds.up_cons (Ds.up_tup (Ds.up_cons Ds.up_sl (Ds.up_cons (Ds.up_tup (Ds.up_cons Ds.up_is (Ds.up_cons Ds.up_sl (Ds.up_cons Ds.up_is Ds.up_nil)))) Ds.up_nil))) Ds.up_nil)))))))))) (Ds.up_cons (Ds.up_tup (Ds.up_cons Ds.up_sl (Ds.up_cons (Ds.up_tup (Ds.up_cons Ds.up_is (Ds.up_cons Ds.up_is (Ds.up_cons Ds.up_sl Ds.up_nil)))) Ds.up_nil))) (Ds.up_cons (Ds.up_tup (Ds.up_cons Ds.up_sl (Ds.up_cons (Ds.up_tup (Ds.up_cons Ds.up_is (Ds.up_cons Ds.up_sl Ds.up_nil))) Ds.up_nil))) (Ds.up_cons (Ds.up_tup (Ds.up_cons Ds.up_is (Ds.up_cons (Ds.up_tup (Ds.up_cons Ds.up_is (Ds.up_cons (Ds.up_tup Ds.up_nil) Ds.up_nil))) Ds.up_nil))) (Ds.up_cons (Ds.up_tup (Ds.up_cons Ds.up_sl (Ds.up_cons (Ds.up_tup (Ds.up_cons Ds.up_is (Ds.up_cons (Ds.up_tup (Ds.up_cons Ds.up_sl (Ds.up_cons Ds.up_sl Ds.up_nil))) Ds.up_nil))) Ds.up_nil))) (Ds.up_cons (Ds.up_tup (Ds.up_cons Ds.up_sl (Ds.up_cons (Ds.up_tup (Ds.up_cons Ds.up_is (Ds.up_cons (Ds.up_lst Ds.up_nil) Ds.up_nil))) Ds.up_nil))) (Ds.up_cons (Ds.up_tup (Ds.up_cons Ds.up_sl (Ds.up_cons (Ds.up_tup (Ds.up_cons Ds.up_is (Ds.up_cons Ds.up_sl Ds.up_nil))) Ds.up_nil))) (Ds.up_cons (Ds.up_tup (Ds.up_cons Ds.up_sl (Ds.up_cons Ds.up_is Ds.up_nil))) (Ds.up_cons (Ds.up_tup (Ds.up_cons Ds.up_is (Ds.up_cons (Ds.up_tup (Ds.up_cons Ds.up_is (Ds.up_cons (Ds.up_tup Ds.up_nil) Ds.up_nil))) Ds.up_nil))) (Ds.up_cons (Ds.up_tup (Ds.up_cons Ds.up_sl (Ds.up_cons (Ds.up_tup (Ds.up_cons Ds.up_is (Ds.up_cons (Ds.up_tup Ds.up_nil) Ds.up_nil))) (Ds.up_cons (Ds.up_tup Ds.up_nil) Ds.up_nil)))) (Ds.up_cons (Ds.up_tup (Ds.up_cons Ds.up_sl (Ds.up_cons (Ds.up_tup (Ds.up_cons Ds.up_is (Ds.up_cons Ds.up_sl (Ds.up_cons Ds.up_is Ds.up_nil)))) Ds.up_nil))) Ds.up_nil))))))))))) (Ds.up_cons (Ds.up_tup (Ds.up_cons Ds.up_sl (Ds.up_cons (Ds.up_tup (Ds.up_cons Ds.up_is (Ds.up_cons Ds.up_sl (Ds.up_cons Ds.up_sl Ds.up_nil)))) Ds.up_nil))) (Ds.up_cons (Ds.up_tup (Ds.up_cons Ds.up_sl (Ds.up_cons (Ds.up_tup (Ds.up_cons Ds.up_is (Ds.up_cons Ds.up_is (Ds.up_cons Ds.up_sl Ds.up_nil)))) Ds.up_nil))) (Ds.up_cons (Ds.up_tup (Ds.up_cons Ds.up_sl (Ds.up_cons (Ds.up_tup (Ds.up_cons Ds.up_is (Ds.up_cons Ds.up_sl Ds.up_nil))) Ds.up_nil))) (Ds.up_cons (Ds.up_tup (Ds.up_cons Ds.up_is (Ds.up_cons (Ds.up_tup (Ds.up_cons Ds.up_is (Ds.up_cons (Ds.up_tup Ds.up_nil) Ds.up_nil))) Ds.up_nil))) (Ds.up_cons (Ds.up_tup (Ds.up_cons Ds.up_sl (Ds.up_cons (Ds.up_tup (Ds.up_cons Ds.up_is (Ds.up_cons (Ds.up_tup (Ds.up_cons Ds.up_sl (Ds.up_cons Ds.up_sl Ds.up_nil))) Ds.up_nil))) Ds.up_nil))) (Ds.up_cons (Ds.up_tup (Ds.up_cons Ds.up_sl (Ds.up_cons (Ds.up_tup (Ds.up_cons Ds.up_is (Ds.up_cons (Ds.up_lst Ds.up_nil) Ds.up_nil))) Ds.up_nil))) (Ds.up_cons (Ds.up_tup (Ds.up_cons Ds.up_sl (Ds.up_cons (Ds.up_tup (Ds.up_cons Ds.up_is (Ds.up_cons Ds.up_sl Ds.up_nil))) Ds.up_nil))) (Ds.up_cons (Ds.up_tup (Ds.up_cons Ds.up_sl (Ds.up_cons Ds.up_is Ds.up_nil))) (Ds.up_cons (Ds.up_tup (Ds.up_cons Ds.up_is (Ds.up_cons (Ds.up_tup (Ds.up_cons Ds.up_is (Ds.up_cons (Ds.up_tup Ds.up_nil) Ds.up_nil))) Ds.up_nil))) (Ds.up_cons (Ds.up_tup (Ds.up_cons Ds.up_sl (Ds.up_cons (Ds.up_tup (Ds.up_cons Ds.up_is (Ds.up_cons (Ds.up_tup Ds.up_nil) Ds.up_nil))) (Ds.up_cons (Ds.up_tup Ds.up_nil) Ds.up_nil)))) (Ds.up_cons (Ds.up_tup (Ds.up_cons Ds.up_sl (Ds.up_cons (Ds.up_tup (Ds.up_cons Ds.up_is (Ds.up_cons Ds.up_sl (Ds.up_cons Ds.up_is Ds.up_nil)))) Ds.up_nil))) Ds.up_nil)))))))))))) (Ds.up_cons (Ds.up_tup (Ds.up_cons Ds.up_sl (Ds.up_cons (Ds.up_tup (Ds.up_cons Ds.up_is (Ds.up_cons (Ds.up_tup Ds.up_nil) Ds.up_nil))) Ds.up_nil))) (Ds.up_cons (Ds.up_tup (Ds.up_cons Ds.up_sl (Ds.up_cons (Ds.up_tup (Ds.up_cons Ds.up_is (Ds.up_cons Ds.up_sl (Ds.up_cons Ds.up_sl Ds.up_nil)))) Ds.up_nil))) (Ds.up_cons (Ds.up_tup (Ds.up_cons Ds.up_sl (Ds.up_cons (Ds.up_tup (Ds.up_cons Ds.up_is (Ds.up_cons Ds.up_is (Ds.up_cons Ds.up_sl Ds.up_nil)))) Ds.up_nil))) (Ds.up_cons (Ds.up_tup (Ds.up_cons Ds.up_sl (Ds.up_cons (Ds.up_tup (Ds.up_cons Ds.up_is (Ds.up_cons Ds.up_sl Ds.up_nil))) Ds.up_nil))) (Ds.up_cons (Ds.up_tup (Ds.up_cons Ds.up_is (Ds.up_cons (Ds.up_tup (Ds.up_cons Ds.up_is (Ds.up_cons (Ds.up_tup Ds.up_nil) Ds.up_nil))) Ds.up_nil))) (Ds.up_cons (Ds.up_tup (Ds.up_cons Ds.up_sl (Ds.up_cons (Ds.up_tup (Ds.up_cons Ds.up_is (Ds.up_cons (Ds.up_tup (Ds.up_cons Ds.up_sl (Ds.up_cons Ds.up_sl Ds.up_nil))) Ds.up_nil))) Ds.up_nil))) (Ds.up_cons (Ds.up_tup (Ds.up_cons Ds.up_sl (Ds.up_cons (Ds.up_tup (Ds.up_cons Ds.up_is (Ds.up_cons (Ds.up_lst Ds.up_nil) Ds.up_nil))) Ds.up_nil))) (Ds.up_cons (Ds.up_tup (Ds.up_cons Ds.up_sl (Ds.up_cons (Ds.up_tup (Ds.up_cons Ds.up_is (Ds.up_cons Ds.up_sl Ds.up_nil))) Ds.up_nil))) (Ds.up_cons (Ds.up_tup (Ds.up_cons Ds.up_sl (Ds.up_cons Ds.up_is Ds.up_nil))) (Ds.up_cons (Ds.up_tup (Ds.up_cons Ds.up_is (Ds.up_cons (Ds.up_tup (Ds.up_cons Ds.up_is (Ds.up_cons (Ds.up_tup Ds.up_nil) Ds.up_nil))) Ds.up_nil))) (Ds.up_cons (Ds.up_tup (Ds.up_cons Ds.up_sl (Ds.up_cons (Ds.up_tup (Ds.up_cons Ds.up_is (Ds.up_cons (Ds.up_tup Ds.up_nil) Ds.up_nil))) (Ds.up_cons (Ds.up_tup Ds.up_nil) Ds.up_nil)))) (Ds.up_cons (Ds.up_tup (Ds.up_cons Ds.up_sl (Ds.up_cons (Ds.up_tup (Ds.up_cons Ds.up_is (Ds.up_cons Ds.up_sl (Ds.up_cons Ds.up_is Ds.up_nil)))) Ds.up_nil))) Ds.up_nil))))))))))))) (Ds.up_cons (Ds.up_tup (Ds.up_cons Ds.up_sl (Ds.up_cons (Ds.up_lst (Ds.up_cons Ds.up_is (Ds.up_cons (Ds.up_tup Ds.up_nil) Ds.up_nil))) Ds.up_nil))) (Ds.up_cons (Ds.up_tup (Ds.up_cons Ds.up_sl (Ds.up_cons (Ds.up_tup (Ds.up_cons Ds.up_is (Ds.up_cons (Ds.up_tup Ds.up_nil) Ds.up_nil))) Ds.up_nil))) (Ds.up_cons (Ds.up_tup (Ds.up_cons Ds.up_sl (Ds.up_cons (Ds.up_tup (Ds.up_cons Ds.up_is (Ds.up_cons Ds.up_sl (Ds.up_cons Ds.up_sl Ds.up_nil)))) Ds.up_nil))) (Ds.up_cons (Ds.up_tup (Ds.up_cons Ds.up_sl (Ds.up_cons (Ds.up_tup (Ds.up_cons Ds.up_is (Ds.up_cons Ds.up_is (Ds.up_cons Ds.up_sl Ds.up_nil)))) Ds.up_nil))) (Ds.up_cons (Ds.up_tup (Ds.up_cons Ds.up_sl (Ds.up_cons (Ds.up_tup (Ds.up_cons Ds.up_is (Ds.up_cons Ds.up_sl Ds.up_nil))) Ds.up_nil))) (Ds.up_cons (Ds.up_tup (Ds.up_cons Ds.up_is (Ds.up_cons (Ds.up_tup (Ds.up_cons Ds.up_is (Ds.up_cons (Ds.up_tup Ds.up_nil) Ds.up_nil))) Ds.up_nil))) (Ds.up_cons (Ds.up_tup (Ds.up_cons Ds.up_sl (Ds.up_cons (Ds.up_tup (Ds.up_cons Ds.up_is (Ds.up_cons (Ds.up_tup (Ds.up_cons Ds.up_sl (Ds.up_cons Ds.up_sl Ds.up_nil))) Ds.up_nil))) Ds.up_nil))) (Ds.up_cons (Ds.up_tup (Ds.up_cons Ds.up_sl (Ds.up_cons (Ds.up_tup (Ds.up_cons Ds.up_is (Ds.up_cons (Ds.up_lst Ds.up_nil) Ds.up_nil))) Ds.up_nil))) (Ds.up_cons (Ds.up_tup (Ds.up_cons Ds.up_sl (Ds.up_cons (Ds.up_tup (Ds.up_cons Ds.up_is (Ds.up_cons Ds.up_sl Ds.up_nil))) Ds.up_nil))) (Ds.up_cons (Ds.up_tup (Ds.up_cons Ds.up_sl (Ds.up_cons Ds.up_is Ds.up_nil))) (Ds.up_cons (Ds.up_tup (Ds.up_cons Ds.up_is (Ds.up_cons (Ds.up_tup (Ds.up_cons Ds.up_is (Ds.up_cons (Ds.up_tup Ds.up_nil) Ds.up_nil))) Ds.up_nil))) (Ds.up_cons (Ds.up_tup (Ds.up_cons Ds.up_sl (Ds.up_cons (Ds.up_tup (Ds.up_cons Ds.up_is (Ds.up_cons (Ds.up_tup Ds.up_nil) Ds.up_nil))) (Ds.up_cons (Ds.up_tup Ds.up_nil) Ds.up_nil)))) (Ds.up_cons (Ds.up_tup (Ds.up_cons Ds.up_sl (Ds.up_cons (Ds.up_tup (Ds.up_cons Ds.up_is (Ds.up_cons Ds.up_sl (Ds.up_cons Ds.up_is Ds.up_nil)))) Ds.up_nil))) Ds.up_nil)))))))))))))) (Ds.up_cons (Ds.up_tup (Ds.up_cons Ds.up_sl (Ds.up_cons (Ds.up_tup (Ds.up_cons Ds.up_is Ds.up_nil)) Ds.up_nil))) (Ds.up_cons (Ds.up_tup (Ds.up_cons Ds.up_sl (Ds.up_cons (Ds.up_lst (Ds.up_cons Ds.up_is (Ds.up_cons (Ds.up_tup Ds.up_nil) Ds.up_nil))) Ds.up_nil))) (Ds.up_cons (Ds.up_tup (Ds.up_cons Ds.up_sl (Ds.up_cons (Ds.up_tup (Ds.up_cons Ds.up_is (Ds.up_cons (Ds.up_tup Ds.up_nil) Ds.up_nil))) Ds.up_nil))) (Ds.up_cons (Ds.up_tup (Ds.up_cons Ds.up_sl (Ds.up_cons (Ds.up_tup (Ds.up_cons Ds.up_is (Ds.up_cons Ds.up_sl (Ds.up_cons Ds.up_sl Ds.up_nil)))) Ds.up_nil))) (Ds.up_cons (Ds.up_tup (Ds.up_cons Ds.up_sl (Ds.up_cons (Ds.up_tup (Ds.up_cons Ds.up_is (Ds.up_cons Ds.up_is (Ds.up_cons Ds.up_sl Ds.up_nil)))) Ds.up_nil))) (Ds.up_cons (Ds.up_tup (Ds.up_cons Ds.up_sl (Ds.up_cons (Ds.up_tup (Ds.up_cons Ds.up_is (Ds.up_cons Ds.up_sl Ds.up_nil))) Ds.up_nil))) (Ds.up_cons (Ds.up_tup (Ds.up_cons Ds.up_is (Ds.up_cons (Ds.up_tup (Ds.up_cons Ds.up_is (Ds.up_cons (Ds.up_tup Ds.up_nil) Ds.up_nil))) Ds.up_nil))) (Ds.up_cons (Ds.up_tup (Ds.up_cons Ds.up_sl (Ds.up_cons (Ds.up_tup (Ds.up_cons Ds.up_is (Ds.up_cons (Ds.up_tup (Ds.up_cons Ds.up_sl (Ds.up_cons Ds.up_sl Ds.up_nil))) Ds.up_nil))) Ds.up_nil))) (Ds.up_cons (Ds.up_tup (Ds.up_cons Ds.up_sl (Ds.up_cons (Ds.up_tup (Ds.up_cons Ds.up_is (Ds.up_cons (Ds.up_lst Ds.up_nil) Ds.up_nil))) Ds.up_nil))) (Ds.up_cons (Ds.up_tup (Ds.up_cons Ds.up_sl (Ds.up_cons (Ds.up_tup (Ds.up_cons Ds.up_is (Ds.up_cons Ds.up_sl Ds.up_nil))) Ds.up_nil))) (Ds.up_cons (Ds.up_tup (Ds.up_cons Ds.up_sl (Ds.up_cons Ds.up_is Ds.up_nil))) (Ds.up_cons (Ds.up_tup (Ds.up_cons Ds.up_is (Ds.up_cons (Ds.up_tup (Ds.up_cons Ds.up_is (Ds.up_cons (Ds.up_tup Ds.up_nil) Ds.up_nil))) Ds.up_nil))) (Ds.up_cons (Ds.up_tup (Ds.up_cons Ds.up_sl (Ds.up_cons (Ds.up_tup (Ds.up_cons Ds.up_is (Ds.up_cons (Ds.up_tup Ds.up_nil) Ds.up_nil))) (Ds.up_cons (Ds.up_tup Ds.up_nil) Ds.up_nil)))) (Ds.up_cons (Ds.up_tup (Ds.up_cons Ds.up_sl (Ds.up_cons (Ds.up_tup (Ds.up_cons Ds.up_is (Ds.up_cons Ds.up_sl (Ds.up_cons Ds.up_is Ds.up_nil)))) Ds.up_nil))) Ds.up_nil))))))))))))))) (Ds.up_cons (Ds.up_lst (Ds.up_cons Ds.up_sl (Ds.up_cons (Ds.up_tup (Ds.up_cons Ds.up_is (Ds.up_cons (Ds.up_tup Ds.up_nil) Ds.up_nil))) Ds.up_nil))) (Ds.up_cons (Ds.up_tup (Ds.up_cons Ds.up_sl (Ds.up_cons (Ds.up_tup (Ds.up_cons Ds.up_is Ds.up_nil)) Ds.up_nil))) (Ds.up_cons (Ds.up_tup (Ds.up_cons Ds.up_sl (Ds.up_cons (Ds.up_lst (Ds.up_cons Ds.up_is (Ds.up_cons (Ds.up_tup Ds.up_nil) Ds.up_nil))) Ds.up_nil))) (Ds.up_cons (Ds.up_tup (Ds.up_cons Ds.up_sl (Ds.up_cons (Ds.up_tup (Ds.up_cons Ds.up_is (Ds.up_cons (Ds.up_tup Ds.up_nil) Ds.up_nil))) Ds.up_nil))) (Ds.up_cons (Ds.up_tup (Ds.up_cons Ds.up_sl (Ds.up_cons (Ds.up_tup (Ds.up_cons Ds.up_is (Ds.up_cons Ds.up_sl (Ds.up_cons Ds.up_sl Ds.up_nil)))) Ds.up_nil))) (Ds.up_cons (Ds.up_tup (Ds.up_cons Ds.up_sl (Ds.up_cons (Ds.up_tup (Ds.up_cons Ds.up_is (Ds.up_cons Ds.up_is (Ds.up_cons Ds.up_sl Ds.up_nil)))) Ds.up_nil))) (Ds.up_cons (Ds.up_tup (Ds.up_cons Ds.up_sl (Ds.up_cons (Ds.up_tup (Ds.up_cons Ds.up_is (Ds.up_cons Ds.up_sl Ds.up_nil))) Ds.up_nil))) (Ds.up_cons (Ds.up_tup (Ds.up_cons Ds.up_is (Ds.up_cons (Ds.up_tup (Ds.up_cons Ds.up_is (Ds.up_cons (Ds.up_tup Ds.up_nil) Ds.up_nil))) Ds.up_nil))) (Ds.up_cons (Ds.up_tup (Ds.up_cons Ds.up_sl (Ds.up_cons (Ds.up_tup (Ds.up_cons Ds.up_is (Ds.up_cons (Ds.up_tup (Ds.up_cons Ds.up_sl (Ds.up_cons Ds.up_sl Ds.up_nil))) Ds.up_nil))) Ds.up_nil))) (Ds.up_cons (Ds.up_tup (Ds.up_cons Ds.up_sl (Ds.up_cons (Ds.up_tup (Ds.up_cons Ds.up_is (Ds.up_cons (Ds.up_lst Ds.up_nil) Ds.up_nil))) Ds.up_nil))) (Ds.up_cons (Ds.up_tup (Ds.up_cons Ds.up_sl (Ds.up_cons (Ds.up_tup (Ds.up_cons Ds.up_is (Ds.up_cons Ds.up_sl Ds.up_nil))) Ds.up_nil))) (Ds.up_cons (Ds.up_tup (Ds.up_cons Ds.up_sl (Ds.up_cons Ds.up_is Ds.up_nil))) (Ds.up_cons (Ds.up_tup (Ds.up_cons Ds.up_is (Ds.up_cons (Ds.up_tup (Ds.up_cons Ds.up_is (Ds.up_cons (Ds.up_tup Ds.up_nil) Ds.up_nil))) Ds.up_nil))) (Ds.up_cons (Ds.up_tup (Ds.up_cons Ds.up_sl (Ds.up_cons (Ds.up_tup (Ds.up_cons Ds.up_is (Ds.up_cons (Ds.up_tup Ds.up_nil) Ds.up_nil))) (Ds.up_cons (Ds.up_tup Ds.up_nil) Ds.up_nil)))) (Ds.up_cons (Ds.up_tup (Ds.up_cons Ds.up_sl (Ds.up_cons (Ds.up_tup (Ds.up_cons Ds.up_is (Ds.up_cons Ds.up_sl (Ds.up_cons Ds.up_is Ds.up_nil)))) Ds.up_nil))) Ds.up_nil)))))))))))))))) (Ds.up_cons (Ds.up_tup (Ds.up_cons Ds.up_sl Ds.up_nil)) (Ds.up_cons (Ds.up_lst (Ds.up_cons Ds.up_sl (Ds.up_cons (Ds.up_tup (Ds.up_cons Ds.up_is (Ds.up_cons (Ds.up_tup Ds.up_nil) Ds.up_nil))) Ds.up_nil))) (Ds.up_cons (Ds.up_tup (Ds.up_cons Ds.up_sl (Ds.up_cons (Ds.up_tup (Ds.up_cons Ds.up_is Ds.up_nil)) Ds.up_nil))) (Ds.up_cons (Ds.up_tup (Ds.up_cons Ds.up_sl (Ds.up_cons (Ds.up_lst (Ds.up_cons Ds.up_is (Ds.up_cons (Ds.up_tup Ds.up_nil) Ds.up_nil))) Ds.up_nil))) (Ds.up_cons (Ds.up_tup (Ds.up_cons Ds.up_sl (Ds.up_cons (Ds.up_tup (Ds.up_cons Ds.up_is (Ds.up_cons (Ds.up_tup Ds.up_nil) Ds.up_nil))) Ds.up_nil))) (Ds.up_cons (Ds.up_tup (Ds.up_cons Ds.up_sl (Ds.up_cons (Ds.up_tup (Ds.up_cons Ds.up_is (Ds.up_cons Ds.up_sl (Ds.up_cons Ds.up_sl Ds.up_nil)))) Ds.up_nil))) (Ds.up_cons (Ds.up_tup (Ds.up_cons Ds.up_sl (Ds.up_cons (Ds.up_tup (Ds.up_cons Ds.up_is (Ds.up_cons Ds.up_is (Ds.up_cons Ds.up_sl Ds.up_nil)))) Ds.up_nil))) (Ds.up_cons (Ds.up_tup (Ds.up_cons Ds.up_sl (Ds.up_cons (Ds.up_tup (Ds.up_cons Ds.up_is (Ds.up_cons Ds.up_sl Ds.up_nil))) Ds.up_nil))) (Ds.up_cons (Ds.up_tup (Ds.up_cons Ds.up_is (Ds.up_cons (Ds.up_tup (Ds.up_cons Ds.up_is (Ds.up_cons (Ds.up_tup Ds.up_nil) Ds.up_nil))) Ds.up_nil))) (Ds.up_cons (Ds.up_tup (Ds.up_cons Ds.up_sl (Ds.up_cons (Ds.up_tup (Ds.up_cons Ds.up_is (Ds.up_cons (Ds.up_tup (Ds.up_cons Ds.up_sl (Ds.up_cons Ds.up_sl Ds.up_nil))) Ds.up_nil))) Ds.up_nil))) (Ds.up_cons (Ds.up_tup (Ds.up_cons Ds.up_sl (Ds.up_cons (Ds.up_tup (Ds.up_cons Ds.up_is (Ds.up_cons (Ds.up_lst Ds.up_nil) Ds.up_nil))) Ds.up_nil))) (Ds.up_cons (Ds.up_tup (Ds.up_cons Ds.up_sl (Ds.up_cons (Ds.up_tup (Ds.up_cons Ds.up_is (Ds.up_cons Ds.up_sl Ds.up_nil))) Ds.up_nil))) (Ds.up_cons (Ds.up_tup (Ds.up_cons Ds.up_sl (Ds.up_cons Ds.up_is Ds.up_nil))) (Ds.up_cons (Ds.up_tup (Ds.up_cons Ds.up_is (Ds.up_cons (Ds.up_tup (Ds.up_cons Ds.up_is (Ds.up_cons (Ds.up_tup Ds.up_nil) Ds.up_nil))) Ds.up_nil))) (Ds.up_cons (Ds.up_tup (Ds.up_cons Ds.up_sl (Ds.up_cons (Ds.up_tup (Ds.up_cons Ds.up_is (Ds.up_cons (Ds.up_tup Ds.up_nil) Ds.up_nil))) (Ds.up_cons (Ds.up_tup Ds.up_nil) Ds.up_nil)))) (Ds.up_cons (Ds.up_tup (Ds.up_cons Ds.up_sl (Ds.up_cons (Ds.up_tup (Ds.up_cons Ds.up_is (Ds.up_cons Ds.up_sl (Ds.up_cons Ds.up_is Ds.up_nil)))) Ds.up_nil))) Ds.up_nil))))))))))))))))) (Ds.up_cons (Ds.up_tup Ds.up_nil) (Ds.up_cons (Ds.up_tup (Ds.up_cons Ds.up_sl Ds.up_nil)) (Ds.up_cons (Ds.up_lst (Ds.up_cons Ds.up_sl (Ds.up_cons (Ds.up_tup (Ds.up_cons Ds.up_is (Ds.up_cons (Ds.up_tup Ds.up_nil) Ds.up_nil))) Ds.up_nil))) (Ds.up_cons (Ds.up_tup (Ds.up_cons Ds.up_sl (Ds.up_cons (Ds.up_tup (Ds.up_cons Ds.up_is Ds.up_nil)) Ds.up_nil))) (Ds.up_cons (Ds.up_tup (Ds.up_cons Ds.up_sl (Ds.up_cons (Ds.up_lst (Ds.up_cons Ds.up_is (Ds.up_cons (Ds.up_tup Ds.up_nil) Ds.up_nil))) Ds.up_nil))) (Ds.up_cons (Ds.up_tup (Ds.up_cons Ds.up_sl (Ds.up_cons (Ds.up_tup (Ds.up_cons Ds.up_is (Ds.up_cons (Ds.up_tup Ds.up_nil) Ds.up_nil))) Ds.up_nil))) (Ds.up_cons (Ds.up_tup (Ds.up_cons Ds.up_sl (Ds.up_cons (Ds.up_tup (Ds.up_cons Ds.up_is (Ds.up_cons Ds.up_sl (Ds.up_cons Ds.up_sl Ds.up_nil)))) Ds.up_nil))) (Ds.up_cons (Ds.up_tup (Ds.up_cons Ds.up_sl (Ds.up_cons (Ds.up_tup (Ds.up_cons Ds.up_is (Ds.up_cons Ds.up_is (Ds.up_cons Ds.up_sl Ds.up_nil)))) Ds.up_nil))) (Ds.up_cons (Ds.up_tup (Ds.up_cons Ds.up_sl (Ds.up_cons (Ds.up_tup (Ds.up_cons Ds.up_is (Ds.up_cons Ds.up_sl Ds.up_nil))) Ds.up_nil))) (Ds.up_cons (Ds.up_tup (Ds.up_cons Ds.up_is (Ds.up_cons (Ds.up_tup (Ds.up_cons Ds.up_is (Ds.up_cons (Ds.up_tup Ds.up_nil) Ds.up_nil))) Ds.up_nil))) (Ds.up_cons (Ds.up_tup (Ds.up_cons Ds.up_sl (Ds.up_cons (Ds.up_tup (Ds.up_cons Ds.up_is (Ds.up_cons (Ds.up_tup (Ds.up_cons Ds.up_sl (Ds.up_cons Ds.up_sl Ds.up_nil))) Ds.up_nil))) Ds.up_nil))) (Ds.up_cons (Ds.up_tup (Ds.up_cons Ds.up_sl (Ds.up_cons (Ds.up_tup (Ds.up_cons Ds.up_is (Ds.up_cons (Ds.up_lst Ds.up_nil) Ds.up_nil))) Ds.up_nil))) (Ds.up_cons (Ds.up_tup (Ds.up_cons Ds.up_sl (Ds.up_cons (Ds.up_tup (Ds.up_cons Ds.up_is (Ds.up_cons Ds.up_sl Ds.up_nil))) Ds.up_nil))) (Ds.up_cons (Ds.up_tup (Ds.up_cons Ds.up_sl (Ds.up_cons Ds.up_is Ds.up_nil))) (Ds.up_cons (Ds.up_tup (Ds.up_cons Ds.up_is (Ds.up_cons (Ds.up_tup (Ds.up_cons Ds.up_is (Ds.up_cons (Ds.up_tup Ds.up_nil) Ds.up_nil))) Ds.up_nil))) (Ds.up_cons (Ds.up_tup (Ds.up_cons Ds.up_sl (Ds.up_cons (Ds.up_tup (Ds.up_cons Ds.up_is (Ds.up_cons (Ds.up_tup Ds.up_nil) Ds.up_nil))) (Ds.up_cons (Ds.up_tup Ds.up_nil) Ds.up_nil)))) (Ds.up_cons (Ds.up_tup (Ds.up_cons Ds.up_sl (Ds.up_cons (Ds.up_tup (Ds.up_cons Ds.up_is (Ds.up_cons Ds.up_sl (Ds.up_cons Ds.up_is Ds.up_nil)))) Ds.up_nil))) Ds.up_nil)))))))))))))))))) (Ds.up_cons Ds.up_sl (Ds.up_cons (Ds.up_tup Ds.up_nil) (Ds.up_cons (Ds.up_tup (Ds.up_cons Ds.up_sl Ds.up_nil)) (Ds.up_cons (Ds.up_lst (Ds.up_cons Ds.up_sl (Ds.up_cons (Ds.up_tup (Ds.up_cons Ds.up_is (Ds.up_cons (Ds.up_tup Ds.up_nil) Ds.up_nil))) Ds.up_nil))) (Ds.up_cons (Ds.up_tup (Ds.up_cons Ds.up_sl (Ds.up_cons (Ds.up_tup (Ds.up_cons Ds.up_is Ds.up_nil)) Ds.up_nil))) (Ds.up_cons (Ds.up_tup (Ds.up_cons Ds.up_sl (Ds.up_cons (Ds.up_lst (Ds.up_cons Ds.up_is (Ds.up_cons (Ds.up_tup Ds.up_nil) Ds.up_nil))) Ds.up_nil))) (Ds.up_cons (Ds.up_tup (Ds.up_cons Ds.up_sl (Ds.up_cons (Ds.up_tup (Ds.up_cons Ds.up_is (Ds.up_cons (Ds.up_tup Ds.up_nil) Ds.up_nil))) Ds.up_nil))) (Ds.up_cons (Ds.up_tup (Ds.up_cons Ds.up_sl (Ds.up_cons (Ds.up_tup (Ds.up_cons Ds.up_is (Ds.up_cons Ds.up_sl (Ds.up_cons Ds.up_sl Ds.up_nil)))) Ds.up_nil))) (Ds.up_cons (Ds.up_tup (Ds.up_cons Ds.up_sl (Ds.up_cons (Ds.up_tup (Ds.up_cons Ds.up_is (Ds.up_cons Ds.up_is (Ds.up_cons Ds.up_sl Ds.up_nil)))) Ds.up_nil))) (Ds.up_cons (Ds.up_tup (Ds.up_cons Ds.up_sl (Ds.up_cons (Ds.up_tup (Ds.up_cons Ds.up_is (Ds.up_cons Ds.up_sl Ds.up_nil))) Ds.up_nil))) (Ds.up_cons (Ds.up_tup (Ds.up_cons Ds.up_is (Ds.up_cons (Ds.up_tup (Ds.up_cons Ds.up_is (Ds.up_cons (Ds.up_tup Ds.up_nil) Ds.up_nil))) Ds.up_nil))) (Ds.up_cons (Ds.up_tup (Ds.up_cons Ds.up_sl (Ds.up_cons (Ds.up_tup (Ds.up_cons Ds.up_is (Ds.up_cons (Ds.up_tup (Ds.up_cons Ds.up_sl (Ds.up_cons Ds.up_sl Ds.up_nil))) Ds.up_nil))) Ds.up_nil))) (Ds.up_cons (Ds.up_tup (Ds.up_cons Ds.up_sl (Ds.up_cons (Ds.up_tup (Ds.up_cons Ds.up_is (Ds.up_cons (Ds.up_lst Ds.up_nil) Ds.up_nil))) Ds.up_nil))) (Ds.up_cons (Ds.up_tup (Ds.up_cons Ds.up_sl (Ds.up_cons (Ds.up_tup (Ds.up_cons Ds.up_is (Ds.up_cons Ds.up_sl Ds.up_nil))) Ds.up_nil))) (Ds.up_cons (Ds.up_tup (Ds.up_cons Ds.up_sl (Ds.up_cons Ds.up_is Ds.up_nil))) (Ds.up_cons (Ds.up_tup (Ds.up_cons Ds.up_is (Ds.up_cons (Ds.up_tup (Ds.up_cons Ds.up_is (Ds.up_cons (Ds.up_tup Ds.up_nil) Ds.up_nil))) Ds.up_nil))) (Ds.up_cons (Ds.up_tup (Ds.up_cons Ds.up_sl (Ds.up_cons (Ds.up_tup (Ds.up_cons Ds.up_is (Ds.up_cons (Ds.up_tup Ds.up_nil) Ds.up_nil))) (Ds.up_cons (Ds.up_tup Ds.up_nil) Ds.up_nil)))) (Ds.up_cons (Ds.up_tup (Ds.up_cons Ds.up_sl (Ds.up_cons (Ds.up_tup (Ds.up_cons Ds.up_is (Ds.up_cons Ds.up_sl (Ds.up_cons Ds.up_is Ds.up_nil)))) Ds.up_nil))) Ds.up_nil))))))))))))))))))) (Ds.up_cons Ds.up_is (Ds.up_cons Ds.up_sl (Ds.up_cons (Ds.up_tup Ds.up_nil) (Ds.up_cons (Ds.up_tup (Ds.up_cons Ds.up_sl Ds.up_nil)) (Ds.up_cons (Ds.up_lst (Ds.up_cons Ds.up_sl (Ds.up_cons (Ds.up_tup (Ds.up_cons Ds.up_is (Ds.up_cons (Ds.up_tup Ds.up_nil) Ds.up_nil))) Ds.up_nil))) (Ds.up_cons (Ds.up_tup (Ds.up_cons Ds.up_sl (Ds.up_cons (Ds.up_tup (Ds.up_cons Ds.up_is Ds.up_nil)) Ds.up_nil))) (Ds.up_cons (Ds.up_tup (Ds.up_cons Ds.up_sl (Ds.up_cons (Ds.up_lst (Ds.up_cons Ds.up_is (Ds.up_cons (Ds.up_tup Ds.up_nil) Ds.up_nil))) Ds.up_nil))) (Ds.up_cons (Ds.up_tup (Ds.up_cons Ds.up_sl (Ds.up_cons (Ds.up_tup (Ds.up_cons Ds.up_is (Ds.up_cons (Ds.up_tup Ds.up_nil) Ds.up_nil))) Ds.up_nil))) (Ds.up_cons (Ds.up_tup (Ds.up_cons Ds.up_sl (Ds.up_cons (Ds.up_tup (Ds.up_cons Ds.up_is (Ds.up_cons Ds.up_sl (Ds.up_cons Ds.up_sl Ds.up_nil)))) Ds.up_nil))) (Ds.up_cons (Ds.up_tup (Ds.up_cons Ds.up_sl (Ds.up_cons (Ds.up_tup (Ds.up_cons Ds.up_is (Ds.up_cons Ds.up_is (Ds.up_cons Ds.up_sl Ds.up_nil)))) Ds.up_nil))) (Ds.up_cons (Ds.up_tup (Ds.up_cons Ds.up_sl (Ds.up_cons (Ds.up_tup (Ds.up_cons Ds.up_is (Ds.up_cons Ds.up_sl Ds.up_nil))) Ds.up_nil))) (Ds.up_cons (Ds.up_tup (Ds.up_cons Ds.up_is (Ds.up_cons (Ds.up_tup (Ds.up_cons Ds.up_is (Ds.up_cons (Ds.up_tup Ds.up_nil) Ds.up_nil))) Ds.up_nil))) (Ds.up_cons (Ds.up_tup (Ds.up_cons Ds.up_sl (Ds.up_cons (Ds.up_tup (Ds.up_cons Ds.up_is (Ds.up_cons (Ds.up_tup (Ds.up_cons Ds.up_sl (Ds.up_cons Ds.up_sl Ds.up_nil))) Ds.up_nil))) Ds.up_nil))) (Ds.up_cons (Ds.up_tup (Ds.up_cons Ds.up_sl (Ds.up_cons (Ds.up_tup (Ds.up_cons Ds.up_is (Ds.up_cons (Ds.up_lst Ds.up_nil) Ds.up_nil))) Ds.up_nil))) (Ds.up_cons (Ds.up_tup (Ds.up_cons Ds.up_sl (Ds.up_cons (Ds.up_tup (Ds.up_cons Ds.up_is (Ds.up_cons Ds.up_sl Ds.up_nil))) Ds.up_nil))) (Ds.up_cons (Ds.up_tup (Ds.up_cons Ds.up_sl (Ds.up_cons Ds.up_is Ds.up_nil))) (Ds.up_cons (Ds.up_tup (Ds.up_cons Ds.up_is (Ds.up_cons (Ds.up_tup (Ds.up_cons Ds.up_is (Ds.up_cons (Ds.up_tup Ds.up_nil) Ds.up_nil))) Ds.up_nil))) (Ds.up_cons (Ds.up_tup (Ds.up_cons Ds.up_sl (Ds.up_cons (Ds.up_tup (Ds.up_cons Ds.up_is (Ds.up_cons (Ds.up_tup Ds.up_nil) Ds.up_nil))) (Ds.up_cons (Ds.up_tup Ds.up_nil) Ds.up_nil)))) (Ds.up_cons (Ds.up_tup (Ds.up_cons Ds.up_sl (Ds.up_cons (Ds.up_tup (Ds.up_cons Ds.up_is (Ds.up_cons Ds.up_sl (Ds.up_cons Ds.up_is Ds.up_nil)))) Ds.up_nil))) Ds.up_nil))))))))))))))))))))))
      (C8.pss_cut (ps_if (pt_cmpR (op_neD hu) (pv 2) (pe_lst pa_nil) (nomark _)) (pss_one (ps_set (i := 3) scWV.nd rfl (.inl rfl) (pe_op op_cat (pv 3) (pe_op op_rep (pe_lst (pa_cons
          (pe_tup (pa_cons (pe_ix ix_tup (pe_ix ix_list (pv 2) pe_int (fun _ _ => rfl)) pe_int (fun _ _ => rfl)) (pa_cons (pe_tup (pa_cons pe_str (pa_cons (pe_tup pa_nil) pa_nil))) pa_nil)))
          (pa_cons (pe_tup (pa_cons (pe_ix ix_tup (pe_ix ix_list (pv 2) (pe_un un_neg pe_int) (fun _ _ => rfl)) pe_int (fun _ _ => rfl)) (pa_cons (pe_tup (pa_cons pe_str (pa_cons (pv 1) (pa_cons (pv 1) pa_nil)))) pa_nil))) pa_nil))) pe_int)))) pss_nil)
      (pss_one (ps_ret (pe_call GO hr (by rfl) mO kO bO .nil pass0 (pa_cons (pv 0) (pa_cons (pv 3) pa_nil)))))), ?_⟩
    have hpn : ∀ b, two p w b → H b ≠ none := by
      rintro b (rfl | rfl)
      · obtain ⟨u, v, hp, _⟩ := hB
        rw [hp]
        exact fun z => by cases z
      · rw [hw]
        exact fun z => by cases z
    have hls : ∀ {H' : Hp}, Kp p H H' → ∀ b, two p w b → ∃ xs, H' b = some (.lst xs) := by
      rintro H' k b (rfl | rfl)
      · obtain ⟨u, v, hp, _⟩ := k.2
        exact ⟨_, hp⟩
      · exact ⟨_, k.1 _ _ nwp hw⟩
    refine ⟨wl nm, ⟨_, _, rfl, ⟨_, _, rfl, ⟨_, _, ⟨_, rfl, .str _⟩, ⟨_, _, ⟨_, rfl, by show 0 ≤ 1000; decide, hpn, rfl⟩, ⟨_, _, ⟨_, ⟨_, _, ⟨_, rfl, .str _⟩, rfl, rfl⟩, by show 1 ≤ 1000; decide, hpn, rfl⟩, ⟨_, _, ⟨_, ⟨_, _, ⟨_, rfl, .str _⟩, ⟨_, _, ⟨_, ⟨_, _, rfl, ⟨_, _, ⟨_, rfl, by show 0 ≤ 1000; decide, hpn, rfl⟩, rfl, rfl⟩, rfl⟩, by show 2 ≤ 1000; decide, hpn, rfl⟩, rfl, rfl⟩, rfl⟩, by show 2 ≤ 1000; decide, hpn, rfl⟩, ⟨_, _, ⟨_, ⟨_, _, ⟨_, rfl, .str _⟩, ⟨_, _, ⟨_, ⟨_, _, rfl, rfl, rfl⟩, by show 1 ≤ 1000; decide, hpn, rfl⟩, rfl, rfl⟩, rfl⟩, by show 2 ≤ 1000; decide, hpn, rfl⟩, ⟨_, _, ⟨_, ⟨_, _, ⟨_, rfl, .str _⟩, ⟨_, _, ⟨_, ⟨_, _, rfl, ⟨_, _, ⟨_, rfl, by show 0 ≤ 1000; decide, hpn, rfl⟩, rfl, rfl⟩, rfl⟩, by show 2 ≤ 1000; decide, hpn, rfl⟩, rfl, rfl⟩, rfl⟩, by show 2 ≤ 1000; decide, hpn, rfl⟩, ⟨_, _, ⟨_, ⟨_, _, ⟨_, rfl, .str _⟩, ⟨_, _, ⟨_, ⟨_, _, rfl, ⟨_, _, ⟨_, rfl, by show 0 ≤ 1000; decide, hpn, rfl⟩, rfl, rfl⟩, rfl⟩, by show 2 ≤ 1000; decide, hpn, rfl⟩, rfl, rfl⟩, rfl⟩, by show 2 ≤ 1000; decide, hpn, rfl⟩, ⟨_, _, ⟨_, ⟨_, _, ⟨_, rfl, .str _⟩, ⟨_, _, ⟨_, ⟨_, _, rfl, ⟨_, _, ⟨_, rfl, .str _⟩, ⟨_, _, ⟨_, rfl, .str _⟩, rfl, rfl⟩, rfl⟩, rfl⟩, by show 3 ≤ 1000; decide, hpn, rfl⟩, rfl, rfl⟩, rfl⟩, by show 2 ≤ 1000; decide, hpn, rfl⟩, ⟨_, _, ⟨_, ⟨_, _, ⟨_, rfl, .str _⟩, ⟨_, _, ⟨_, ⟨_, _, rfl, ⟨_, _, rfl, ⟨_, _, ⟨_, rfl, .str _⟩, rfl, rfl⟩, rfl⟩, rfl⟩, by show 3 ≤ 1000; decide, hpn, rfl⟩, rfl, rfl⟩, rfl⟩, by show 2 ≤ 1000; decide, hpn, rfl⟩, ⟨_, _, ⟨_, ⟨_, _, ⟨_, rfl, .str _⟩, ⟨_, _, ⟨_, ⟨_, _, rfl, ⟨_, _, ⟨_, rfl, .str _⟩, rfl, rfl⟩, rfl⟩, by show 2 ≤ 1000; decide, hpn, rfl⟩, rfl, rfl⟩, rfl⟩, by show 2 ≤ 1000; decide, hpn, rfl⟩, ⟨_, _, ⟨_, ⟨_, _, rfl, ⟨_, _, ⟨_, ⟨_, _, rfl, ⟨_, _, ⟨_, rfl, by show 0 ≤ 1000; decide, hpn, rfl⟩, rfl, rfl⟩, rfl⟩, by show 2 ≤ 1000; decide, hpn, rfl⟩, rfl, rfl⟩, rfl⟩, by show 2 ≤ 1000; decide, hpn, rfl⟩, ⟨_, _, ⟨_, ⟨_, _, ⟨_, rfl, .str _⟩, ⟨_, _, ⟨_, ⟨_, _, rfl, ⟨_, _, ⟨_, ⟨_, _, ⟨_, rfl, .str _⟩, ⟨_, _, ⟨_, rfl, .str _⟩, rfl, rfl⟩, rfl⟩, by show 2 ≤ 1000; decide, hpn, rfl⟩, rfl, rfl⟩, rfl⟩, by show 2 ≤ 1000; decide, hpn, rfl⟩, rfl, rfl⟩, rfl⟩, by show 2 ≤ 1000; decide, hpn, rfl⟩, ⟨_, _, ⟨_, ⟨_, _, ⟨_, rfl, .str _⟩, ⟨_, _, ⟨_, ⟨_, _, rfl, ⟨_, _, ⟨_, rfl, by show 0 ≤ 1000; decide, hpn, rfl⟩, rfl, rfl⟩, rfl⟩, by show 2 ≤ 1000; decide, hpn, rfl⟩, rfl, rfl⟩, rfl⟩, by show 2 ≤ 1000; decide, hpn, rfl⟩, ⟨_, _, ⟨_, ⟨_, _, ⟨_, rfl, .str _⟩, ⟨_, _, ⟨_, ⟨_, _, rfl, ⟨_, _, ⟨_, rfl, .str _⟩, rfl, rfl⟩, rfl⟩, by show 2 ≤ 1000; decide, hpn, rfl⟩, rfl, rfl⟩, rfl⟩, by show 2 ≤ 1000; decide, hpn, rfl⟩, ⟨_, _, ⟨_, ⟨_, _, ⟨_, rfl, .str _⟩, ⟨_, _, rfl, rfl, rfl⟩, rfl⟩, by show 2 ≤ 1000; decide, hpn, rfl⟩, ⟨_, _, ⟨_, ⟨_, _, rfl, ⟨_, _, ⟨_, ⟨_, _, rfl, ⟨_, _, ⟨_, rfl, by show 0 ≤ 1000; decide, hpn, rfl⟩, rfl, rfl⟩, rfl⟩, by show 2 ≤ 1000; decide, hpn, rfl⟩, rfl, rfl⟩, rfl⟩, by show 2 ≤ 1000; decide, hpn, rfl⟩, ⟨_, _, ⟨_, ⟨_, _, ⟨_, rfl, .str _⟩, ⟨_, _, ⟨_, ⟨_, _, rfl, ⟨_, _, ⟨_, rfl, by show 0 ≤ 1000; decide, hpn, rfl⟩, rfl, rfl⟩, rfl⟩, by show 2 ≤ 1000; decide, hpn, rfl⟩, ⟨_, _, ⟨_, rfl, by show 0 ≤ 1000; decide, hpn, rfl⟩, rfl, rfl⟩, rfl⟩, rfl⟩, by show 3 ≤ 1000; decide, hpn, rfl⟩, ⟨_, _, ⟨_, ⟨_, _, ⟨_, rfl, .str _⟩, ⟨_, _, ⟨_, ⟨_, _, rfl, ⟨_, _, ⟨_, rfl, .str _⟩, ⟨_, _, rfl, rfl, rfl⟩, rfl⟩, rfl⟩, by show 3 ≤ 1000; decide, hpn, rfl⟩, rfl, rfl⟩, rfl⟩, by show 2 ≤ 1000; decide, hpn, rfl⟩, rfl, rfl⟩, rfl⟩, rfl⟩, rfl⟩, rfl⟩, rfl⟩, rfl⟩, rfl⟩, rfl⟩, rfl⟩, rfl⟩, rfl⟩, rfl⟩, rfl⟩, rfl⟩, rfl⟩, rfl⟩, rfl⟩, rfl⟩, rfl⟩, by show 20 ≤ 1000; decide, hpn, fun l ys H1 s1 nl2 nl hl hys => ?_⟩
    have nlp : l ≠ p := fun e => nl2 (.inl e)
    have hys0 : ∀ y ∈ ys, ∃ d, Ds.Dq K (two p w) H1 y d ∧ Smn 6 d ∧ WrV ds d := fun y hy => by
      obtain ⟨d, hd, hq⟩ := dqAll_mem hys hy
      exact ⟨d, hq, (wl_sm (sms_good hnm)).all d hd, .inl (wl_bad nm d hd)⟩
    have hyl : ys.length = 20 := dpAll_len hys
    refine ⟨fun σ' H2 => ∃ (l2 : Addr) (us : List V), σ' = [some (.ref p), some (.str (S nm)), some (.ref e), some (.ref l2)] ∧ Same H1 H2 ∧ l2 ≠ p ∧ H2 l2 = some (.lst us) ∧ 1 ≤ us.length ∧ us.length ≤ 1000 ∧ ∀ y ∈ us, ∃ d, Ds.Dq K (two p w) H2 y d ∧ Smn 6 d ∧ WrV ds d, ?_, fun σ' H2 hM => ?_⟩
    · have hdp : Dp K H1 (.ref e) (.list ds) := dp_same s1 (.lst (SqL.of he) hds.dp)
      have hsm : Smn 4 (.list ds) := smn_lst (smns_of fun d hd => by
        obtain ⟨z, hz, hv⟩ := vs_all hvs hg d hd
        exact vd_smn hv (hg z hz)) (by have := hvs.length; omega)
      refine ⟨_, rfl, by show 0 ≤ sizeLine; decide, fun le nle => ⟨.list ds, .list [], dp_same (same_upd nle) hdp, .lst (SqL.of upd_same) .nil, (hsm.okD (by omega)).sh, by decide +kernel, _, rfl, ?_⟩⟩
      have se := same_upd (o := .lst []) nle
      cases hvs with
      | nil => exact iteF ⟨l, ys, rfl, se, nlp, se _ _ hl, by omega, by omega, fun y hy => by
          obtain ⟨d, h1, h2, h3⟩ := hys0 y hy
          exact ⟨d, Ds.Dq.same h1 se, h2, h3⟩⟩
      | @cons z0 d0 zr dr hv0 hvr =>
        refine iteT ?_
        have hvs : VsOk (z0 :: zr) (d0 :: dr) := .cons hv0 hvr
        have sE := s1.trans se
        have he2 := sE _ _ he
        have item : ∀ (i : Nat) x d z, xs[i]? = some x → (d0 :: dr)[i]? = some d → VD z d → ∃ t vm, x = .ref t ∧ SqT K H t [.str (S z), vm] := fun i x d z hx hd hv => by
          obtain ⟨d', hd', hp'⟩ := dpAll_get hds.dp hx
          rw [hd] at hd'
          obtain rfl := Option.some.inj hd'
          obtain ⟨m, rfl, hm⟩ := hv
          obtain ⟨t, vb, rfl, ht, _⟩ := dp_tup2 hp'
          exact ⟨t, vb, rfl, ht⟩
        have hxl := dpAll_len hds
        obtain ⟨x0, hx0⟩ : ∃ x0, xs[0]? = some x0 := ⟨xs[0]'(by rw [hxl]; exact Nat.succ_pos _), List.getElem?_eq_getElem _⟩
        obtain ⟨t0, vm0, rfl, ht0⟩ := item 0 x0 d0 z0 hx0 rfl hv0
        obtain ⟨xi, xl, rfl⟩ : ∃ xi xl, xs = xi ++ [xl] := by
          rcases List.eq_nil_or_concat xs with e | ⟨xi, xl, e⟩
          · rw [e] at hxl
            cases hxl
          · exact ⟨xi, xl, by rw [e, List.concat_eq_append]⟩
        have hxlast : (xi ++ [xl])[xi.length]? = some xl := by
          rw [List.getElem?_append_right (Nat.le_refl _), Nat.sub_self]
          rfl
        obtain ⟨dl, hdl, _⟩ := dpAll_get hds hxlast
        obtain ⟨zl, hzl, hvl⟩ := paired_get2 hvs hdl
        obtain ⟨tl, vml, rfl, htl⟩ := item _ _ _ _ hxlast hdl hvl
        have g0 := hg z0 (List.mem_cons_self ..)
        have gl := hg zl (List.mem_of_getElem? hzl)
        refine ⟨_, rfl, _, rfl, e, _, 0, .ref t0, rfl, rfl, SqL.of he2, atI_nat (j := 0) hx0, t0, _, 0, .str (S z0), rfl, rfl, Same.seqT sE ht0, atI_nat (j := 0) rfl, by show 0 ≤ sizeLine; decide, fun ta nta => ⟨two_le, fun tb ntb => ⟨two_le, fun t1 nt1 => ?_⟩⟩⟩
        have sa := same_upd (o := .tup []) nta
        have sb := same_upd (o := .tup [.str "once", .ref ta]) ntb
        have s1' := same_upd (o := .tup [.str (S z0), .ref tb]) nt1
        have sF := ((sE.trans sa).trans sb).trans s1'
        refine ⟨_, rfl, 1, rfl, e, _, -1, .ref tl, rfl, rfl, SqL.of (sF _ _ he), atI_last _ _, tl, _, 0, .str (S zl), rfl, rfl, Same.seqT sF htl, atI_nat (j := 0) rfl, _, rfl, _, rfl, three_le, fun tc ntc => ⟨two_le, fun t2 nt2 => ⟨two_le, fun L nL => ?_⟩⟩⟩
        have sc := same_upd (o := .tup [.str "early", .str (S nm), .str (S nm)]) ntc
        have s2' := same_upd (o := .tup [.str (S zl), .ref tc]) nt2
        have sL := same_upd (o := .lst [.ref t1, .ref t2]) nL
        refine ⟨L, 6, _, rfl, rfl, upd_same, by decide, by decide, by show 2 * 6 ≤ sizeLine; decide, fun L2 nL2 => ?_⟩
        have sL2 := same_upd (o := .lst (List.replicate (6 : Int).toNat [V.ref t1, .ref t2]).flatten) nL2
        have sG := ((sc.trans s2').trans sL).trans sL2
        have sAll : Same H1 _ := ((((se.trans sa).trans sb).trans s1').trans sG)
        refine ⟨l, L2, ys, _, rfl, rfl, sAll _ _ hl, upd_same, ?_, fun L3 nL3 => ?_⟩
        · rw [hyl]
          show 20 + 12 ≤ sizeLine
          decide
        have sL3 := same_upd (o := .lst (ys ++ (List.replicate (6 : Int).toNat [V.ref t1, .ref t2]).flatten)) nL3
        have sZ := sAll.trans sL3
        have kZ := Kp.of hB (s1.trans sZ)
        have hta := sL3 _ _ (sG _ _ (s1' _ _ (sb _ _ upd_same)))
        have htb := sL3 _ _ (sG _ _ (s1' _ _ upd_same))
        have ht1 := sL3 _ _ (sG _ _ upd_same)
        have htc := sL3 _ _ (sL2 _ _ (sL _ _ (s2' _ _ upd_same)))
        have ht2 := sL3 _ _ (sL2 _ _ (sL _ _ upd_same))
        generalize hHZ : upd _ L3 (.lst (ys ++ (List.replicate (6 : Int).toNat [V.ref t1, .ref t2]).flatten)) = HZ at *
        have hL3 : HZ L3 = some (.lst (ys ++ (List.replicate (6 : Int).toNat [V.ref t1, .ref t2]).flatten)) := by
          rw [← hHZ]
          exact upd_same
        have nL3p : L3 ≠ p := fun z => by
          obtain ⟨u, v, hp, _⟩ := hB
          rw [z] at nL3
          rw [(s1.trans sAll) _ _ hp] at nL3
          cases nL3
        have D1 : Dt K HZ (.ref t1) (.tuple [.str (S z0), .tuple [.str "once", .tuple []]]) := Dt.tup ht1 (.cons (.str _) (.cons (Dt.tup htb (.cons (.str _) (.cons (Dt.tup hta .nil) .nil))) .nil))
        have D2 : Dt K HZ (.ref t2) (.tuple [.str (S zl), .tuple [.str "early", .str (S nm), .str (S nm)]]) := Dt.tup ht2 (.cons (.str _) (.cons (Dt.tup htc (.cons (.str _) (.cons (.str _) (.cons (.str _) .nil)))) .nil))
        have V1 : VD z0 (.tuple [.str (S z0), .tuple [.str "once", .tuple []]]) := ⟨_, rfl, .inl ⟨[], its_nil, rfl⟩⟩
        have V2 : VD zl (.tuple [.str (S zl), .tuple [.str "early", .str (S nm), .str (S nm)]]) := ⟨_, rfl, .inr ⟨nm, nm, hnm, hnm, rfl⟩⟩
        refine ⟨L3, _, rfl, sZ, nL3p, hL3, ?_, ?_, fun y hy => ?_⟩
        · rw [List.length_append, hyl]
          omega
        · rw [List.length_append, hyl]
          show 20 + 12 ≤ 1000
          decide
        rcases List.mem_append.mp hy with hy | hy
        · obtain ⟨d, h1, h2, h3⟩ := hys0 y hy
          exact ⟨d, Ds.Dq.same h1 sZ, h2, h3⟩
        · obtain ⟨r, hr1, hr2⟩ := List.mem_flatten.mp hy
          obtain ⟨_, rfl⟩ := List.mem_replicate.mp hr1
          rcases List.mem_cons.mp hr2 with rfl | hr2
          · refine ⟨_, Ds.dt_hid (hls kZ) D1, (vd_smn V1 g0).mono (by decide), .inr ⟨V1.is g0, ?_⟩⟩
            obtain ⟨m, e0, _⟩ := hv0
            refine List.mem_map.mpr ⟨d0, List.mem_cons_self .., ?_⟩
            rw [e0]
            rfl
          · obtain rfl := List.mem_singleton.mp hr2
            refine ⟨_, Ds.dt_hid (hls kZ) D2, (vd_smn V2 gl).mono (by decide), .inr ⟨V2.is gl, ?_⟩⟩
            obtain ⟨m, e0, _⟩ := hvl
            refine List.mem_map.mpr ⟨dl, List.mem_of_getElem? hdl, ?_⟩
            rw [e0]
            rfl
    · obtain ⟨l2, us, rfl, s2, nl2p, hl2, h1, h2, hus⟩ := hM
      refine ⟨_, rfl, _, rfl, p, .ref l2, rfl, (hB.same s1).same s2, .inl ⟨l2, us, rfl, nl2p, SqL.of hl2, h1, h2, fun H' y k hy => ?_⟩⟩
      obtain ⟨d, h1, h2, h3⟩ := hus y hy
      exact q _ _ d ((Kp.of hB (s1.trans s2)).trans k) (Ds.Dq.kp h1 (.inl rfl) k) h2 h3
end
end Dr
namespace Dr
open PySem PySem.Spec PyProof.Rows L2
abbrev sTold : Stmt := topS 43
abbrev nTold : List Str := ["_law_name", "_law_methods", "_law_root", "_law_wares", "e"]
theorem scTold : FnScope nTold ["_law_name", "_law_methods", "_law_root", "_law_wares"] (defScope sTold) := ⟨rfl, rfl, rfl, by decide +kernel, rfl, by decide +kernel, by decide +kernel⟩
/-- what the except clauses need -/
structure Exm (K : PySem.W.Frag) (mg : Str → Option Value) (x : KErr) : Prop where
  gN : mg "BadName" = some (.ref x.nm)
  xN : XfC K x.nm
  fN : PySem.W.findIn K (.ref x.nm) "name" = some none
  gV : mg "BadValue" = some (.ref x.vl)
  xV : XfC K x.vl
  fV : PySem.W.findIn K (.ref x.vl) "at" = some none
  gT : mg "Twice" = some (.ref x.tw)
  xT : XfC K x.tw
  fT : PySem.W.findIn K (.ref x.tw) "name" = some none
  gM : mg "TooMany" = some (.ref x.tm)
  xM : XfC K x.tm
  fM : PySem.W.findIn K (.ref x.tm) "what" = some none
  eNN : PySem.W.exmOne K (.ref x.nm) (.ref x.nm) = some true
  eVN : PySem.W.exmOne K (.ref x.vl) (.ref x.nm) = some false
  eVV : PySem.W.exmOne K (.ref x.vl) (.ref x.vl) = some true
  eTN : PySem.W.exmOne K (.ref x.tw) (.ref x.nm) = some false
  eTV : PySem.W.exmOne K (.ref x.tw) (.ref x.vl) = some false
  eTT : PySem.W.exmOne K (.ref x.tw) (.ref x.tw) = some true
  eMN : PySem.W.exmOne K (.ref x.tm) (.ref x.nm) = some false
  eMV : PySem.W.exmOne K (.ref x.tm) (.ref x.vl) = some false
  eMT : PySem.W.exmOne K (.ref x.tm) (.ref x.tw) = some false
  eMM : PySem.W.exmOne K (.ref x.tm) (.ref x.tm) = some true
def KC.word : KC → Str
  | .nm => "name" | .vl => "value" | .tw => "twice" | .tm => "many"
def toldD : Option (KC × PyData) → PyData
  | none => .none
  | some (c, e) => .tuple [.str c.word, e]
section
variable {P : Program} {w : World} {K : PySem.W.Frag} {mg : Str → Option Value} {base : Heap}
def spTold (K : PySem.W.Frag) (CM : Addr) : Sp := fun vs H Q _ => ∃ (aL : Addr) (vn vb vv : V) (dn db dv : PyData) (as : List Addr) (ms : List Str), vs = [vn, .ref aL, vb, vv] ∧ (SqT K H aL (as.map V.ref) ∨ SqL K H aL (as.map V.ref)) ∧ KArgs K CM H vn vb vv dn db dv as ms ∧
  ∀ H' v, Same H H' → Dp K H' v (toldD (kErr dn db dv ms)) → Q v H'
theorem ok_told {kO : Nat} {CK CM f fO aV p : Addr} {mc : Value} {fd fdO : FuncData} {x : KErr} (F : Fun K "_law_told" "_law_told" sTold f fd) (TK : Knd K mg CK mc) (X2 : Exm K mg x) (FO : FKOf K aV fO fdO) (c : ClX.CMet K CK mc "of" p fO)
    (GO : FnOk P w K mg base (L2.CX P w) kO fO fdO psKOf (spKOf K CK CM x)) : FnOk P w K mg base CX0 (kO + 1) f fd ["_law_name", "_law_methods", "_law_root", "_law_wares"] (spTold K CM) := by
  obtain ⟨mv, bO⟩ := bind_kof FO
  have GK := FnK.of GO bO
  refine F.ok scTold (fun vs H Q E h => ?_) (fun cdv A outer s H vs Q E hr h => ?_)
  · obtain ⟨aL, vn, vb, vv, dn, db, dv, as, ms, rfl, _⟩ := h
    rfl
  · obtain ⟨aL, vn, vb, vv, dn, db, dv, as, ms, rfl, hL, ha, q⟩ := h
    refine ⟨_, pss_cons (ps_try_cl (tb := fun W => tDrop (tCMethK CK 2 (fun vs zs H Q E => vs.length = 3 ∧ spKOf K CK CM x (vs ++ (zs ++ [])) H Q E) (WE W) (tC (.ref CK)) (tCons (tVar 0) (tCons (tVar 1) tNil)) (tCons (tVar 2) (tCons (tVar 3) tNil)))) (O := fun _ _ _ _ => False) rfl rfl scTold.nd takes0
            (fun W q xe tk _ => pss_one (ps_expr (pe_cmethK (pe_glob (v := .ref CK) (by rfl) TK.mgC rfl) TK.rd c GK hr (fun σ => passAt tk σ) (pa_cons (pv 0) (pa_cons (pv 1) pa_nil)) (pk_cons (pv 2) (pk_cons (pv 3) pk_nil)))))
            (.cons (k := ⟨.ref x.nm, 4, fun a cls d => tRet (tTup (tCons (tC (.str "name")) (tCons (tXf a cls d x.nm "name" (tVar 4)) tNil)))⟩) rfl rfl ⟨rfl, by decide, .inl X2.gN⟩
                (fun a o cls d q hz hf => pss_one (ps_ret (pe_tup (pa_cons pe_str (pa_cons (pe_xf X2.xN X2.fN hz hf (pv 4)) pa_nil))))) (.cons (k := ⟨.ref x.vl, 4, fun a cls d => tRet (tTup (tCons (tC (.str "value")) (tCons (tXf a cls d x.vl "at" (tVar 4)) tNil)))⟩) rfl rfl ⟨rfl, by decide, .inl X2.gV⟩
                (fun a o cls d q hz hf => pss_one (ps_ret (pe_tup (pa_cons pe_str (pa_cons (pe_xf X2.xV X2.fV hz hf (pv 4)) pa_nil))))) (.cons (k := ⟨.ref x.tw, 4, fun a cls d => tRet (tTup (tCons (tC (.str "twice")) (tCons (tXf a cls d x.tw "name" (tVar 4)) tNil)))⟩) rfl rfl ⟨rfl, by decide, .inl X2.gT⟩
                (fun a o cls d q hz hf => pss_one (ps_ret (pe_tup (pa_cons pe_str (pa_cons (pe_xf X2.xT X2.fT hz hf (pv 4)) pa_nil))))) (.cons (k := ⟨.ref x.tm, 4, fun a cls d => tRet (tTup (tCons (tC (.str "many")) (tCons (tXf a cls d x.tm "what" (tVar 4)) tNil)))⟩) rfl rfl ⟨rfl, by decide, .inl X2.gM⟩
                (fun a o cls d q hz hf => pss_one (ps_ret (pe_tup (pa_cons pe_str (pa_cons (pe_xf X2.xM X2.fM hz hf (pv 4)) pa_nil))))) .nil)))))
      (pss_one (ps_ret pe_non)), ?_⟩
    refine ⟨rfl, _, rfl, _, rfl, _, rfl, _, rfl, rfl, rfl, aL, vn, vb, vv, dn, db, dv, as, ms, rfl, hL, ha, ?_, fun h1 H' p dx tM s1 np h2 h3 => ?_⟩
    case refine_2 =>
      rw [h1] at q
      exact q _ _ s1 .non
    intro c e hk H1 v s1 hv d H2 s2 hd
    have fin : ∀ (w : Str), c.word = w → ∀ t, H2 t = none → Q (.ref t) (upd H2 t (.tup [.str w, v])) := fun w hw t nt => by
      refine q _ _ ((s1.trans s2).trans (same_upd nt)) ?_
      rw [hk]
      subst hw
      exact .tup (SqT.of upd_same) (.cons (.str _) (.cons (dp_same (s2.trans (same_upd nt)) hv) .nil))
    cases c with
    | nm =>
      have done : ∀ t, H2 t = none → Q (.ref t) (upd H2 t (.tup [.str "name", v])) := fun t nt => fin "name" rfl t nt
      exact ⟨true, X2.eNN, fun _ a ne => ⟨_, rfl, rfl, rfl, d, _, _, rfl, hd, rfl, two_le, fun t nt => done t nt⟩, fun h => by cases h⟩
    | vl =>
      have done : ∀ t, H2 t = none → Q (.ref t) (upd H2 t (.tup [.str "value", v])) := fun t nt => fin "value" rfl t nt
      exact ⟨false, X2.eVN, fun h => (by cases h), fun _ => ⟨true, X2.eVV, fun _ a ne => ⟨_, rfl, rfl, rfl, d, _, _, rfl, hd, rfl, two_le, fun t nt => done t nt⟩, fun h => by cases h⟩⟩
    | tw =>
      have done : ∀ t, H2 t = none → Q (.ref t) (upd H2 t (.tup [.str "twice", v])) := fun t nt => fin "twice" rfl t nt
      exact ⟨false, X2.eTN, fun h => (by cases h), fun _ => ⟨false, X2.eTV, fun h => (by cases h), fun _ => ⟨true, X2.eTT, fun _ a ne => ⟨_, rfl, rfl, rfl, d, _, _, rfl, hd, rfl, two_le, fun t nt => done t nt⟩, fun h => by cases h⟩⟩⟩
    | tm =>
      have done : ∀ t, H2 t = none → Q (.ref t) (upd H2 t (.tup [.str "many", v])) := fun t nt => fin "many" rfl t nt
      exact ⟨false, X2.eMN, fun h => (by cases h), fun _ => ⟨false, X2.eMV, fun h => (by cases h), fun _ => ⟨false, X2.eMT, fun h => (by cases h), fun _ => ⟨true, X2.eMM, fun _ a ne => ⟨_, rfl, rfl, rfl, d, _, _, rfl, hd, rfl, two_le, fun t nt => done t nt⟩, fun h => by cases h⟩⟩⟩⟩
end
end Dr
namespace Dr
open PySem PySem.Spec PyProof.Rows L2
open SX (S S_len S_cat)
theorem eqvR {d : PyData} (h : OkD d) : PyData.eqv d d = true := SeqAt.eqv_refl_plain _ (PyData.plain_of_canLay0 _ (SeqAt.canLay_of_shaped h.sh))
/-- a list and the empty list -/
def rNeE (K : PySem.W.Frag) : R2 := fun x y H Q => ∃ a b xs, x = .ref a ∧ y = .ref b ∧ SqL K H a xs ∧ SqL K H b [] ∧ Q (.bl (!decide (xs = []))) H
theorem op_neE {X : Cx} (hu : X.A.units + 64 < cLine) : OpR X (compareOp .NotEq) (rNeE X.K) := by
  intro pins s σ H x y v u Q I rx ry h
  obtain ⟨a, b, xs, rfl, rfl, ha, hb, q⟩ := h
  cases (show v = Value.ref a from rx)
  cases (show u = Value.ref b from ry)
  obtain ⟨us, r1, p1, _⟩ := I.list ha
  obtain ⟨ws, r2, p2, _⟩ := I.list hb
  have l2 : ws.toArray.size = 0 := by
    rw [List.size_toArray, ← r2.length]
    rfl
  by_cases e : xs = []
  · subst e
    have l1 : us.toArray.size = 0 := by
      rw [List.size_toArray, ← r1.length]
      rfl
    refine SeqAt.RcNeAt.lists (e := fun _ => true) p1.isList p2.isList (by rw [l1, l2]) (by omega) (fun j h1 h2 => ?_) X.prog X.w _ _ ?_
    · rw [l1] at h1
      exact absurd h1 (Nat.not_lt_zero j)
    · rw [l1]
      exact ⟨.bl _, H, I, rfl, q⟩
  · refine SeqAt.RcNeAt.lists_lengths p1.isList p2.isList ?_ (by omega) X.prog X.w _ _ ?_
    · rw [l2, List.size_toArray, ← r1.length]
      cases xs with
      | nil => exact absurd rfl e
      | cons _ _ => rfl
    · rw [decide_eq_false e] at q
      exact ⟨.bl _, H, I, rfl, q⟩
theorem vs_names : ∀ {zs : List (List Nat)} {ds : List PyData}, VsOk zs ds → ds.map nmD = zs.map S
  | _, _, .nil => rfl
  | _, _, .cons ⟨m, e, _⟩ hs => by
    subst e
    rw [List.map_cons, List.map_cons, vs_names hs]
    rfl
theorem fbv_ok {zs : List (List Nat)} {ds : List PyData} (h : VsOk zs ds) (g : ∀ z ∈ zs, GoodN z) (hnd : zs.Nodup) : fbv ds = none := by
  refine fbv_none fun j hj => ?_
  have e := vs_names h
  have hd := List.getElem?_eq_getElem hj
  obtain ⟨z, hz, hv⟩ := paired_get2 h hd
  unfold badV
  rw [hd]
  show (!isValueD ds[j] || ((ds.take j).map nmD).contains (nmD ds[j])) = false
  rw [hv.is (g z (List.mem_of_getElem? hz))]
  have e1 : nmD ds[j] = S z := by
    obtain ⟨m, e, _⟩ := hv
    rw [e]
    rfl
  rw [e1, List.map_take, e, ← List.map_take]
  show ((zs.take j).map S).contains (S z) = false
  cases hc : ((zs.take j).map S).contains (S z) with
  | false => rfl
  | true =>
    have hm : S z ∈ (zs.take j).map S := by simpa using hc
    obtain ⟨y, hy, ey⟩ := List.mem_map.mp hm
    obtain rfl := SX.S_inj ey
    exfalso
    obtain ⟨i, hi, e3⟩ := List.mem_iff_getElem.mp hy
    rw [List.length_take] at hi
    rw [List.getElem_take] at e3
    obtain ⟨hjl, e4⟩ := List.getElem?_eq_some_iff.mp hz
    have q := List.pairwise_iff_getElem.mp hnd i j (by omega) hjl (by omega)
    exact q (e3.trans e4.symm)
theorem agn_ok {us ms : List Str} (hnd : ms.Nodup) (h : ∀ z ∈ ms, z ∉ us) : agn us ms = none := by
  refine agn_none fun j y hy => ⟨h y (List.mem_of_getElem? hy), fun hin => ?_⟩
  obtain ⟨i, hi, e3⟩ := List.mem_iff_getElem.mp hin
  rw [List.length_take] at hi
  rw [List.getElem_take] at e3
  obtain ⟨hjl, e4⟩ := List.getElem?_eq_some_iff.mp hy
  exact List.pairwise_iff_getElem.mp hnd i j (by omega) hjl (by omega) (e3.trans e4.symm)
/-- nothing is wrong with these parts -/
theorem kErr_ok {dn db : PyData} {zs : List (List Nat)} {ds : List PyData} {ms : List Str} (hn : isNameD dn = true) (hb : (isNonD db || isNameD db) = true) (hv : VsOk zs ds) (g : ∀ z ∈ zs, GoodN z) (hnd : zs.Nodup) (hm : ms.Nodup) (hd : ∀ z ∈ ms, z ∉ zs.map S) (l1 : zs.length ≤ 3) (l2 : ms.length ≤ 4) : kErr dn db (.tuple ds) ms = none := by
  unfold kErr
  rw [if_neg (by rw [hn]; exact Bool.noConfusion), if_neg (by rw [hb]; exact Bool.noConfusion)]
  show kErrT ds ms = none
  rw [kErrT_none (fbv_ok hv g hnd), kErrA_none (by rw [vs_names hv]; exact agn_ok hm hd)]
  unfold kErrR
  have := hv.length
  rw [if_neg (by omega), if_neg (by omega)]
theorem okD_strL {zs : List Str} (h : ∀ z ∈ zs, SmS z) (hl : zs.length ≤ 1000) : OkD (.list (zs.map PyData.str)) := by
  obtain ⟨h1, h2, h3⟩ := canAll_strs h
  refine ⟨?_, ?_⟩
  · show (PyData.canLayAll0 (zs.map PyData.str) && decide (PyData.depthAll (zs.map PyData.str) + 1 ≤ 64)) = true
    rw [h1, h3]
    rfl
  · show (decide ((zs.map PyData.str).length ≤ 1000) && smAll (zs.map PyData.str)) = true
    rw [h2, List.length_map, decide_eq_true hl]
    rfl
theorem vs_okD {zs : List (List Nat)} {ds : List PyData} (h : VsOk zs ds) (g : ∀ z ∈ zs, GoodN z) (hl : zs.length ≤ 100) : OkD (.tuple ds) ∧ OkD (.list ds) := by
  have q : Smns 3 ds := smns_of fun d hd => by
    obtain ⟨z, hz, hv⟩ := vs_all h g d hd
    exact vd_smn hv (g z hz)
  have := h.length
  exact ⟨(smn_tup q (by omega)).okD (by decide), (smn_lst q (by omega)).okD (by decide)⟩
theorem vs_drop {zs : List (List Nat)} {ds : List PyData} (h : VsOk zs ds) : VsOk (zs.drop 1) (ds.drop 1) := by
  cases h with
  | nil => exact .nil
  | cons _ hs => exact hs
theorem cut_init (as : List V) : cutV as none (some (-1)) = as.dropLast := by
  unfold cutV
  rw [HT.sIx_none, List.drop_zero]
  show as.take ((if (-1 : Int) < 0 then ((-1 : Int) + (as.length : Int)).toNat else min (-1 : Int).toNat as.length) - 0) = _
  rw [if_pos (by decide), List.dropLast_eq_take]
  congr 1
  omega
theorem MsAt.init {C : Addr} {H : Hp} {as : List Addr} {ms : List Str} (h : MsAt C H as ms) : MsAt C H as.dropLast ms.dropLast := by
  refine ⟨by rw [List.length_dropLast, List.length_dropLast, h.1], fun i a e => ?_⟩
  rw [List.dropLast_eq_take] at e ⊢
  by_cases hi : i < as.length - 1
  · rw [List.getElem?_take_of_lt hi] at e
    obtain ⟨z, hz, hh⟩ := h.2 i a e
    have := h.1
    exact ⟨z, by rw [List.getElem?_take_of_lt (by omega)]; exact hz, hh⟩
  · rw [List.getElem?_take_eq_none (by omega)] at e
    cases e
section
variable {P : Program} {w : World} {K : PySem.W.Frag} {mg : Str → Option Value} {base : Heap}
theorem kof_ok {CK CM aL : Addr} {x : KErr} {vn vb vv : V} {dn db dv : PyData} {as : List Addr} {ms : List Str} {H : Hp} {Q : VK} {E : XK} (hL : SqT K H aL (as.map V.ref) ∨ SqL K H aL (as.map V.ref)) (ha : KArgs K CM H vn vb vv dn db dv as ms) (h0 : kErr dn db dv ms = none)
    (q : ∀ H' k, Same H H' → H k = none → KAt K CK H' k dn db dv as → Q (.ref k) H') : spKOf K CK CM x [.ref CK, vn, .ref aL, vb, vv] H Q E :=
  ⟨aL, vn, vb, vv, dn, db, dv, as, ms, rfl, hL, ha, fun c e h => absurd (h0.symm.trans h) (by simp), fun _ H' p dx tM s np hM hp => q H' p s np ⟨⟨dx, vn, tM, vb, vv, hp, dp_same s ha.n, dp_same s ha.b, dp_same s ha.v, hM⟩, ha.on, ha.ob, ha.ov⟩⟩
end
end Dr
namespace Dr
open PySem PySem.Spec PyProof.Rows L2
open SX (S S_len S_cat)
abbrev sMR : Stmt := topS 44
abbrev nMR : List Str := ["_law_bag_here", "_law_name", "_law_root", "_law_listed", "_law_methods", "_law_one", "_law_other", "_law_bare", "_law_method"]
theorem scMR : FnScope nMR ["_law_bag_here", "_law_name", "_law_root", "_law_listed", "_law_methods"] (defScope sMR) := ⟨rfl, rfl, rfl, by decide +kernel, rfl, by decide +kernel, by decide +kernel⟩
structure EqK (K : PySem.W.Frag) (C g : Addr) : Prop where
  eq : PySem.W.findIn K (.ref C) "__eq__" = some (some (.ref g))
  fn : PySem.W.isFn K (.ref g) = true
  ne : PySem.W.findIn K (.ref C) "__ne__" = some (some (.builtin "object.__ne__"))
theorem dp_strv {K : PySem.W.Frag} {H : Hp} {v : V} {z : Str} (h : Dp K H v (.str z)) : v = .str z := by
  cases h
  rfl
theorem KAt.side {K : PySem.W.Frag} {C : Addr} {H : Hp} {k : Addr} {dn db dv : PyData} {as : List Addr} (h : KAt K C H k dn db dv as) : ∃ dx fs, H k = some (.ins C dx fs) := by
  obtain ⟨dx, vn, tM, vb, vv, h1, _⟩ := h.ex
  exact ⟨dx, _, h1⟩
section
variable {P : Program} {w : World} {K : PySem.W.Frag} {mg : Str → Option Value} {base : Heap}
/-- == of two kinds that have the same methods as far as both go -/
theorem keq_two {C a b : Addr} {H : Hp} {dn db dv dn2 db2 dv2 : PyData} {as bs : List Addr} {Q : VK} {E : XK} (hA : KAt K C H a dn db dv as) (hB : KAt K C H b dn2 db2 dv2 bs) (hp : ∀ (i : Nat) (c d : Addr), as[i]? = some c → bs[i]? = some d → c = d)
    (q : Q (.bl (((PyData.eqv dn dn2 && decide (as.length = bs.length)) && PyData.eqv db db2) && PyData.eqv dv dv2)) H) : spKEq K C [.ref a, .ref b] H Q E := ⟨a, dn, db, dv, as, .ref b, rfl, hA, .inl ⟨b, dn2, db2, dv2, bs, rfl, hB, hp, q⟩⟩
theorem keq_dat {C a : Addr} {H : Hp} {dn db dv e : PyData} {as : List Addr} {y : V} {Q : VK} {E : XK} (hA : KAt K C H a dn db dv as) (he : Dp K H y e) (q : Q (.bl false) H) : spKEq K C [.ref a, y] H Q E := ⟨a, dn, db, dv, as, y, rfl, hA, .inr ⟨e, he, q⟩⟩
theorem eqI_two {C a b : Addr} {H : Hp} {dn db dv dn2 db2 dv2 : PyData} {as bs : List Addr} {Q : VK} {E : XK} (hA : KAt K C H a dn db dv as) (hB : KAt K C H b dn2 db2 dv2 bs) (hp : ∀ (i : Nat) (c d : Addr), as[i]? = some c → bs[i]? = some d → c = d)
    (q : Q (.bl (((PyData.eqv dn dn2 && decide (as.length = bs.length)) && PyData.eqv db db2) && PyData.eqv dv dv2)) H) : rEqI K C (spKEq K C) E (.ref a) (.ref b) H Q := by
  obtain ⟨dx, fs, h1⟩ := hA.side
  obtain ⟨dy, gs, h2⟩ := hB.side
  exact ⟨a, dx, fs, rfl, h1, .inl ⟨b, dy, gs, rfl, h2⟩, keq_two hA hB hp q⟩
theorem eqI_dat {C a : Addr} {H : Hp} {dn db dv e : PyData} {as : List Addr} {y : V} {Q : VK} {E : XK} (hA : KAt K C H a dn db dv as) (he : Dp K H y e) (q : Q (.bl false) H) : rEqI K C (spKEq K C) E (.ref a) y H Q := by
  obtain ⟨dx, fs, h1⟩ := hA.side
  exact ⟨a, dx, fs, rfl, h1, .inr ⟨e, he⟩, keq_dat hA he q⟩
theorem neI_two {C a b : Addr} {H : Hp} {dn db dv dn2 db2 dv2 : PyData} {as bs : List Addr} {Q : VK} {E : XK} (hA : KAt K C H a dn db dv as) (hB : KAt K C H b dn2 db2 dv2 bs) (hp : ∀ (i : Nat) (c d : Addr), as[i]? = some c → bs[i]? = some d → c = d)
    (q : Q (.bl (!(((PyData.eqv dn dn2 && decide (as.length = bs.length)) && PyData.eqv db db2) && PyData.eqv dv dv2))) H) : rNeI K C (spKEq K C) E (.ref a) (.ref b) H Q := by
  obtain ⟨dx, fs, h1⟩ := hA.side
  obtain ⟨dy, gs, h2⟩ := hB.side
  exact ⟨a, dx, fs, rfl, h1, .inl ⟨b, dy, gs, rfl, h2⟩, keq_two hA hB hp ⟨_, rfl, q⟩⟩
theorem mk_ok {CK CM p dx : Addr} {x : KErr} {vn vb vv : V} {dn db dv : PyData} {as : List Addr} {ms : List Str} {H : Hp} {R : Hp → Prop} {E : XK} (hp : H p = none) (hdx : H dx = none) (ne : dx ≠ p) (ha : KArgs K CM H vn vb vv dn db dv as ms) (h0 : kErr dn db dv ms = none)
    (q : ∀ H', Same H H' → KAt K CK H' p dn db dv as → R H') : spkK K CK CM x (.ref p :: vn :: as.map V.ref) [vb, vv] (upd (upd H dx (.own p)) p (.ins CK dx [])) (fun v H3 => v = .non ∧ R H3) E := by
  have hp2 : (upd H dx (.own p)) p = none := by
    rw [upd_ne ne.symm]
    exact hp
  have s1 : Same H (upd (upd H dx (.own p)) p (.ins CK dx [])) := (same_upd hdx).trans (same_upd hp2)
  refine ⟨p, dx, vn, vb, vv, dn, db, dv, as, ms, rfl, rfl, upd_same, ha.same s1, fun c e h => absurd (h0.symm.trans h) (by simp), fun _ H' tM h2 h3 h4 => ⟨rfl, ?_⟩⟩
  have s2 : Same H H' := fun b o e => h2 b o (ne_of_none e hp) (s1 _ _ e)
  exact q _ s2 ⟨⟨dx, vn, tM, vb, vv, h4, dp_same s2 ha.n, dp_same s2 ha.b, dp_same s2 ha.v, h3⟩, ha.on, ha.ob, ha.ov⟩
structure BltM (mg : Str → Option Value) : Prop where
  tup : mg "tuple" = none
  isi : mg "isinstance" = none
  len : mg "len" = none
/-- what the base may be -/
def RootV (v : V) (d : PyData) : Prop := (v = .non ∧ d = .none) ∨ ∃ r, v = .str (S r) ∧ d = .str (S r) ∧ GoodN r
theorem RootV.ok {v : V} {d : PyData} (h : RootV v d) : (∀ H, Dp K H v d) ∧ OkD d ∧ (isNonD d || isNameD d) = true := by
  rcases h with ⟨rfl, rfl⟩ | ⟨r, rfl, rfl, g⟩
  · exact ⟨fun _ => .non, ⟨rfl, rfl⟩, rfl⟩
  · exact ⟨fun _ => .str _, okD_sms (sms_good g), by rw [show isNameD (.str (S r)) = true from g.ok, Bool.or_true]⟩
/-- the methods' names -/
structure MN (mq zs : List (List Nat)) : Prop where
  g : ∀ z ∈ mq, GoodN z
  nd : mq.Nodup
  ap : ∀ z ∈ mq, z ∉ zs
  len : mq.length ≤ 4
theorem MN.nd2 {mq zs : List (List Nat)} (h : MN mq zs) : (mq.map S).Nodup := List.pairwise_map.mpr (h.nd.imp fun {a b} n e => n (SX.S_inj e))
theorem MN.ap2 {mq zs : List (List Nat)} (h : MN mq zs) : ∀ z ∈ mq.map S, z ∉ zs.map S := fun z hz hz2 => by
  obtain ⟨a, ha, rfl⟩ := List.mem_map.mp hz
  obtain ⟨b, hb, e⟩ := List.mem_map.mp hz2
  obtain rfl := SX.S_inj e
  exact h.ap _ ha hb
def spMR (K : PySem.W.Frag) (CM : Addr) : Sp := fun vs H Q _ => ∃ (p l aM : Addr) (nm : List Nat) (vr : V) (dr : PyData) (ts : List V) (ds : List PyData) (zs mq : List (List Nat)) (as : List Addr), vs = [.ref p, .str (S nm), vr, .ref l, .ref aM] ∧ GoodN nm ∧ RootV vr dr ∧ H l = some (.lst ts) ∧ DtAll K H ts ds ∧ VsOk zs ds ∧ (∀ z ∈ zs, GoodN z) ∧ zs.Nodup ∧ zs.length ≤ 3 ∧
  H aM = some (.lst (as.map V.ref)) ∧ MsAt CM H as (mq.map S) ∧ MN mq zs ∧ ∀ H', Same H H' → Q (.bl true) H'
set_option maxHeartbeats 8000000 in
theorem ok_mr {kO kI : Nat} {CK CM f fO fI fE aV aV2 p0 : Addr} {mc mcM : Value} {fd fdO fdE : FuncData} {x : KErr} (F : Fun K "_law_made_right" "_law_made_right" sMR f fd) (B : BltM mg) (T : Mtd K mg CM mcM) (TK : Knd K mg CK mc) (TE : KndE K CK) (EQ : EqK K CK fE) (M : Mk K CK fI) (FO : FKOf K aV2 fO fdO) (c : ClX.CMet K CK mc "of" p0 fO) (hV : ∀ H, SqT K H aV [])
    (GO : FnOk P w K mg base (L2.CX P w) kO fO fdO psKOf (spKOf K CK CM x)) (GI : FnK P w K mg base (L2.CX P w) kI fI ["base", "values"] (spkK K CK CM x)) (GI0 : FnK P w K mg base (L2.CX P w) kI fI [] (spkK0 K CK CM x aV))
    (GE : FnOk P w K mg base CX0 1 fE fdE ["self", "other"] (spKEq K CK)) (bE : Binds K fdE ["self", "other"] []) (hIO : kI + 1 ≤ kO) (h2 : 2 ≤ kO) :
    FnOk P w K mg base CX0 (kO + 1) f fd ["_law_bag_here", "_law_name", "_law_root", "_law_listed", "_law_methods"] (spMR K CM) := by
  obtain ⟨mv, bO⟩ := bind_kof FO
  obtain ⟨mv2, bO2⟩ := bind_kof2 FO
  have GK := FnK.of GO bO
  have GK2 := FnK.of GO bO2
  refine F.ok scMR (fun vs H Q E h => ?_) (fun cdv A outer s H vs Q E hr h => ?_)
  · obtain ⟨p, l, aM, nm, vr, dr, ts, ds, zs, mq, as, rfl, _⟩ := h
    rfl
  · obtain ⟨p, l, aM, nm, vr, dr, ts, ds, zs, mq, as, rfl, gn, hroot, hl, hds, hvs, gz, ndz, zl, hM, hms, hmn, q⟩ := h
    have hu : (A.deeper (envOfC "_law_made_right" (defScope sMR) s.heap.objs.size f cdv)).units + 64 < cLine := hr.units
    have hr1 : Room 1 _ := hr.mono (by omega)
    have hr2 : Room 2 _ := hr.mono h2
    have hrI : Room (kI + 1) _ := hr.mono hIO
    refine ⟨_, pss_cons (ps_set (i := 5) scMR.nd rfl (.inl rfl) (pe_cmethK (E := WE fun _ _ _ _ => False) (pe_glob (v := .ref CK) (by rfl) TK.mgC rfl) TK.rd c GK hr (fun σ => passAt takes0 σ) (pa_cons (pv 1) (pa_cons (pv 4) pa_nil)) (pk_cons (pv 2) (pk_cons (pe_callTy call_tuple_of (by rfl) B.tup (by decide +kernel) (pa_cons (pv 3) pa_nil)) pk_nil))))
      (pss_cons (ps_if (PW.pt (pw_or (pt_cmpR (op_neD hu) (pe_fld (pv 5) rfl) (pv 1) (nomark _)) (pw_or (pt_cmpR (op_neD hu) (pe_fld (pv 5) rfl) (pv 2) (nomark _)) (pw_or (pt_cmpR (op_neD hu) (pe_fld (pv 5) rfl) (pe_callTy call_tuple_of (by rfl) B.tup (by decide +kernel) (pa_cons (pv 3) pa_nil)) (nomark _))
          (pw_or1 (pt_not (pt_val (pe_callB call_isi (by rfl) B.isi (by decide +kernel) (pa_cons (pe_fld (pv 5) rfl) (pa_cons (pe_bltn (v := .ty "tuple") (by rfl) B.tup (by decide +kernel) rfl) pa_nil)))))))))) (pss_one (ps_ret pe_bl)) pss_nil)
      (pss_cons (ps_if (pt_cmpR (op_neD hu)
          (pe_lc (own := [("_law_method", 8)]) (g := gName 8) (tt := tYes) rfl scMR.nd (pi_tup (pe_fld (pv 5) rfl)) (blkOk_by (N := nMR) (sc := defScope sMR) (by decide +kernel)) (fun _ _ _ _ _ => pg_name (i := 8) scMR.nd rfl (Or.inl rfl)) (fun _ _ _ _ _ => pts_nil) (fun _ _ _ _ _ => (show PE _ _ (tFld K (tVar 8) "name") from pe_fld (pv 8) rfl)))
          (pe_lc (own := [("_law_method", 8)]) (g := gName 8) (tt := tYes) rfl scMR.nd (pi_list (pv 4)) (blkOk_by (N := nMR) (sc := defScope sMR) (by decide +kernel)) (fun _ _ _ _ _ => pg_name (i := 8) scMR.nd rfl (Or.inl rfl)) (fun _ _ _ _ _ => pts_nil) (fun _ _ _ _ _ => (show PE _ _ (tFld K (tVar 8) "name") from pe_fld (pv 8) rfl))) (nomark _)) (pss_one (ps_ret pe_bl)) pss_nil)
      (pss_cons (ps_if (PW.pt (pw_or (pt_cmpR (op_neI EQ.eq EQ.fn EQ.ne TE.hm GE hr2 bE pass0) (pv 5) (pe_cmethK (E := WE fun _ _ _ _ => False) (pe_glob (v := .ref CK) (by rfl) TK.mgC rfl) TK.rd c GK2 hr (fun σ => passAt takes0 σ) (pa_cons (pv 1) (pa_cons (pe_callTy call_tuple_of (by rfl) B.tup (by decide +kernel) (pa_cons (pv 4) pa_nil)) pa_nil)) (pk_cons (pe_callTy call_tuple_of (by rfl) B.tup (by decide +kernel) (pa_cons (pv 3) pa_nil)) (pk_cons (pv 2) pk_nil))) (nomark _))
          (pw_or (pt_cmpR (op_eqI EQ.eq EQ.fn GE hr1 bE pass0) (pv 5) (pv 1) (nomark _)) (pw_or1 (pt_cmpR (op_eqI EQ.eq EQ.fn GE hr1 bE pass0) (pv 5) (pe_tup (pa_cons (pv 1) pa_nil)) (nomark _)))))) (pss_one (ps_ret pe_bl)) pss_nil)
      (C8.pss_cut (ps_if (PW.pt (pw_and (pt_cmpR (op_neD hu) (pv 3) (pe_lst pa_nil) (nomark _)) (pw_and1 (pt_cmpR (op_eqI EQ.eq EQ.fn GE hr1 bE pass0) (pv 5) (pe_cmethK (E := WE fun _ _ _ _ => False) (pe_glob (v := .ref CK) (by rfl) TK.mgC rfl) TK.rd c GK hr (fun σ => passAt takes0 σ) (pa_cons (pv 1) (pa_cons (pv 4) pa_nil)) (pk_cons (pv 2) (pk_cons (pe_callTy call_tuple_of (by rfl) B.tup (by decide +kernel) (pa_cons (pe_slice sl_list (pv 3) (po_some pe_int) po_none) pa_nil)) pk_nil))) (nomark _))))) (pss_one (ps_ret pe_bl)) pss_nil)
      (C8.pss_cut (ps_if (PW.pt (pw_and (pt_cmpR (op_neE hu) (pv 4) (pe_lst pa_nil) (nomark _)) (pw_and1 (pt_cmpR (op_eqI EQ.eq EQ.fn GE hr1 bE pass0) (pv 5) (pe_cmethK (E := WE fun _ _ _ _ => False) (pe_glob (v := .ref CK) (by rfl) TK.mgC rfl) TK.rd c GK hr (fun σ => passAt takes0 σ) (pa_cons (pv 1) (pa_cons (pe_slice sl_list (pv 4) po_none (po_some (pe_un un_neg pe_int))) pa_nil)) (pk_cons (pv 2) (pk_cons (pe_callTy call_tuple_of (by rfl) B.tup (by decide +kernel) (pa_cons (pv 3) pa_nil)) pk_nil))) (nomark _))))) (pss_one (ps_ret pe_bl)) pss_nil)
      (C8.pss_cut (ps_if (PW.pt (pw_and (pt_cmpR op_eq (pe_callB call_len_seq (by rfl) B.len PySem.boot_len (pa_cons (pv 4) pa_nil)) pe_int (nomark _)) (pw_and1 (pt_cmpR (op_neI EQ.eq EQ.fn EQ.ne TE.hm GE hr2 bE pass0) (pv 5) (pe_mkF (E := WE fun _ _ _ _ => False) M GI hrI (by rfl) TK.mgC (fun σ => passAt takes0 σ) (pa_cons (pv 1) (pa_cons (pe_ix ix_list (pv 4) pe_int (fun _ _ => rfl)) pa_nil)) (pk_cons (pv 2) (pk_cons (pe_callTy call_tuple_of (by rfl) B.tup (by decide +kernel) (pa_cons (pv 3) pa_nil)) pk_nil))) (nomark _))))) (pss_one (ps_ret pe_bl)) pss_nil)
      (C8.pss_cut (ps_set (i := 6) scMR.nd rfl (.inl rfl) (pe_ifExp (pt_cmpR op_isN (pv 2) pe_non (nomark _)) (pe_op op_add_str (pv 1) pe_str) pe_non))
      (C8.pss_cut (ps_if (PW.pt (pw_or (pt_cmpR op_eq (pv 6) pe_str (nomark _)) (pw_or1 (PW.pt (pw_and (pt_cmpR op_lt (pe_callB call_len_str (by rfl) B.len PySem.boot_len (pa_cons (pv 1) pa_nil)) pe_int (nomark _)) (pw_and1 (pt_cmpR (op_eqI EQ.eq EQ.fn GE hr1 bE pass0) (pv 5) (pe_cmethK (E := WE fun _ _ _ _ => False) (pe_glob (v := .ref CK) (by rfl) TK.mgC rfl) TK.rd c GK hr (fun σ => passAt takes0 σ) (pa_cons (pv 1) (pa_cons (pv 4) pa_nil)) (pk_cons (pv 6) (pk_cons (pe_callTy call_tuple_of (by rfl) B.tup (by decide +kernel) (pa_cons (pv 3) pa_nil)) pk_nil))) (nomark _)))))))) (pss_one (ps_ret pe_bl)) pss_nil)
      (pss_cons (ps_set (i := 7) scMR.nd rfl (.inl rfl) (pe_mkF0 (E := WE fun _ _ _ _ => False) M GI0 hrI (by rfl) TK.mgC (fun σ => passAt takes0 σ) (pa_cons (pv 1) pa_nil)))
      (pss_one (ps_ret (pe_and (pe_cmpR (op_eqD hu) (pe_lst (pa_cons (pe_fld (pv 7) rfl) (pa_cons (pe_fld (pv 7) rfl) (pa_cons (pe_fld (pv 7) rfl) pa_nil)))) (pe_lst (pa_cons (pv 1) (pa_cons (pe_tup pa_nil) (pa_cons (pe_tup pa_nil) pa_nil)))) (nomark _)) (pe_one (pe_cmpR op_isN (pe_fld (pv 7) rfl) pe_non (nomark _))))))))))))))), ?_⟩
    obtain ⟨hrd, okr, hrn⟩ := hroot.ok (K := K)
    obtain ⟨okv, okvl⟩ := vs_okD hvs gz (by omega)
    have okn : OkD (.str (S nm)) := okD_sms (sms_good gn)
    have hll : ds.length = zs.length := hvs.length.symm
    have has : as.length = mq.length := by
      have := hms.1
      rw [List.length_map] at this
      exact this
    have ml := hmn.len
    have K0 : kErr (.str (S nm)) dr (.tuple ds) (mq.map S) = none := kErr_ok gn.ok hrn hvs gz ndz hmn.nd2 hmn.ap2 zl (by rw [List.length_map]; exact hmn.len)
    -- the kind
    refine ⟨rfl, _, rfl, _, rfl, _, rfl, _, rfl, l, ts, rfl, .inl ⟨SqL.of hl, fun u nu => ⟨rfl, rfl, ?_⟩⟩⟩
    have su := same_upd (o := .tup ts) nu
    have mkA : ∀ {H' : Hp} {u : Addr}, Same H H' → H' u = some (.tup ts) → KArgs K CM H' (.str (S nm)) vr (.ref u) (.str (S nm)) dr (.tuple ds) as (mq.map S) := fun {H'} {u} s hu =>
      ⟨.str _, okn, hrd _, okr, (Dt.tup hu (hds.ext (TupE.same s))).dp, okv, hms.same s, by omega⟩
    refine kof_ok (.inr (SqL.of (su _ _ hM))) (mkA su upd_same) K0 fun H1 k1 sk1 _ hk1 => ?_
    have s1 := su.trans sk1
    obtain ⟨dx, vn1, tM, vb1, vv1, e1, n1, b1, v1, m1⟩ := hk1.ex
    -- its parts
    refine ⟨_, rfl, k1, CK, dx, _, _, rfl, e1, TK.cl, TK.nN, kF_name, _, rfl, _, _, n1, .str _, okn.sh, okn.sh, _, rfl, ?_⟩
    rw [eqvR okn]
    refine iteF ⟨_, rfl, k1, CK, dx, _, _, rfl, e1, TK.cl, TK.nB, kF_base, _, rfl, _, _, b1, hrd _, okr.sh, okr.sh, _, rfl, ?_⟩
    rw [eqvR okr]
    refine iteF ⟨_, rfl, k1, CK, dx, _, _, rfl, e1, TK.cl, TK.nV, kF_values, _, rfl, l, ts, rfl, .inl ⟨SqL.of (s1 _ _ hl), fun u2 nu2 => ?_⟩⟩
    have su2 := same_upd (o := .tup ts) nu2
    have s2 := s1.trans su2
    refine ⟨_, _, dp_same su2 v1, (Dt.tup upd_same (hds.ext (TupE.same s2))).dp, okv.sh, okv.sh, _, rfl, ?_⟩
    rw [eqvR okv]
    refine iteF ⟨_, rfl, k1, CK, dx, _, _, rfl, su2 _ _ e1, TK.cl, TK.nM, kF_methods, _, .ty "tuple", _, _, _, rfl, .ty _, tyx_tup (Same.seqT su2 m1), kit_tup (.tuple []), _, rfl, iteF ?_⟩
    have hk2 := hk1.same su2
    generalize hH2 : upd H1 u2 (.tup ts) = H2 at s2 su2 hk2 ⊢
    have e2 := su2 _ _ e1
    have m2 := Same.seqT su2 m1
    -- the methods' names
    have names : ∀ {H0 H3 : Hp} {D : Addr} {i : Nat} {y : V}, Same H H0 → H0 D = none → Same H0 H3 → H3 D = some (.lst (((mq.map S).take i).map V.str)) → (as.map V.ref)[i]? = some y →
        ∃ a dy fs z, y = .ref a ∧ H3 a = some (.ins CM dy fs) ∧ fs.lookup ("name" : Str) = some (.str z) ∧ ((mq.map S).take i).map V.str ++ [V.str z] = ((mq.map S).take (i + 1)).map V.str := fun {H0 H3 D i y} sH nD sm hl e1 => by
      rw [List.getElem?_map] at e1
      cases hai : as[i]? with
      | none =>
        rw [hai] at e1
        cases e1
      | some b =>
        rw [hai] at e1
        obtain rfl := Option.some.inj e1
        obtain ⟨z, hz, dy, vp, vr, vx, hat⟩ := hms.2 i b hai
        refine ⟨b, dy, _, z, rfl, sm _ _ (sH _ _ hat), mF_name, ?_⟩
        rw [List.take_add_one, hz, List.map_append]
        rfl
    have mlen : (mq.map S).length = mq.length := List.length_map ..
    refine ⟨_, rfl, k1, CK, dx, _, _, rfl, e2, TK.cl, TK.nM, kF_methods, tM, rfl, ⟨_, m2⟩, fun D hD => ?_⟩
    refine lc_it walk_tup (fun i H3 => Same H2 H3 ∧ H3 D = some (.lst (((mq.map S).take i).map V.str))) ⟨same_upd hD, upd_same⟩ (fun _ _ _ h => Same.seqT h.1 m2) ?_ ?_
    · rintro i y H3 H4 hi ⟨sm, hl3⟩ ⟨rfl, ey⟩
      obtain ⟨a, dy, fs, z, rfl, hat, hf, hap⟩ := names s2 hD sm hl3 ey
      refine ⟨rfl, ?_⟩
      unfold tYes
      refine iteT ⟨_, rfl, a, CM, dy, _, _, rfl, hat, T.cl, T.nN, hf, _, hl3, ?_, same_grow sm hD, ?_⟩
      · rw [List.length_map, List.length_take]
        exact small1000 (by omega)
      · rw [upd_same, hap]
    rintro H3 ⟨s3', hD3⟩
    rw [List.length_map, has, ← mlen, List.take_length] at hD3
    have s3 := s2.trans s3'
    refine ⟨_, rfl, aM, rfl, ⟨_, SqL.of (s3 _ _ hM)⟩, fun D2 hD2 => ?_⟩
    refine lc_it (walk_list (xs := as.map V.ref)) (fun i H4 => Same H3 H4 ∧ H4 D2 = some (.lst (((mq.map S).take i).map V.str))) ⟨same_upd hD2, upd_same⟩ (fun _ _ _ h => SqL.of (h.1 _ _ (s3 _ _ hM))) ?_ ?_
    · rintro i y H4 H5 hi ⟨sm, hl4⟩ ⟨rfl, ey⟩
      obtain ⟨a, dy, fs, z, rfl, hat, hf, hap⟩ := names s3 hD2 sm hl4 ey
      refine ⟨rfl, ?_⟩
      unfold tYes
      refine iteT ⟨_, rfl, a, CM, dy, _, _, rfl, hat, T.cl, T.nN, hf, _, hl4, ?_, same_grow sm hD2, ?_⟩
      · rw [List.length_map, List.length_take]
        exact small1000 (by omega)
      · rw [upd_same, hap]
    rintro H4 ⟨s4', hD4⟩
    rw [List.length_map, has, ← mlen, List.take_length] at hD4
    have s4 := s3.trans s4'
    have okM : OkD (.list ((mq.map S).map PyData.str)) := okD_strL (fun z hz => by
      obtain ⟨c, hc, rfl⟩ := List.mem_map.mp hz
      exact sms_good (hmn.g c hc)) (by omega)
    refine ⟨_, _, .lst (SqL.of (s4' _ _ hD3)) (dpAll_strs _), .lst (SqL.of hD4) (dpAll_strs _), okM.sh, okM.sh, _, rfl, ?_⟩
    rw [eqvR okM]
    refine iteF ?_
    have hk4 := (hk2.same s3').same s4'
    clear hD3 hD4 e1 e2 m1 m2 n1 b1 v1 names hk1 hk2 su2
    -- the same one again
    refine ⟨_, rfl, rfl, _, rfl, _, rfl, aM, _, rfl, .inl ⟨SqL.of (s4 _ _ hM), fun u3 nu3 => ⟨_, rfl, l, ts, rfl, .inl ⟨SqL.of (same_upd nu3 _ _ (s4 _ _ hl)), fun u4 nu4 => ⟨_, rfl, rfl, rfl, ?_⟩⟩⟩⟩⟩
    have su3 := same_upd (o := .tup (as.map V.ref)) nu3
    have su4 := same_upd (o := .tup ts) nu4
    have s5 := (s4.trans su3).trans su4
    show spKOf K CK CM x [.ref CK, .str (S nm), .ref u3, vr, .ref u4] _ _ _
    refine kof_ok (.inl (SqT.of (su4 _ _ upd_same))) (mkA s5 upd_same) K0 fun H6 k2 s6' _ hk6 => ?_
    have s6 := s5.trans s6'
    have hk16 := ((hk4.same su3).same su4).same s6'
    have idp : ∀ (i : Nat) (c d : Addr), as[i]? = some c → as[i]? = some d → c = d := fun i c d h1 h2 => Option.some.inj (h1.symm.trans h2)
    refine neI_two hk16 hk6 idp ⟨_, rfl, ?_⟩
    rw [eqvR okn, eqvR okr, eqvR okv, decide_eq_true rfl]
    refine iteF ⟨_, rfl, _, rfl, eqI_dat hk16 (.str _) ⟨_, rfl, iteF ?_⟩⟩
    refine ⟨_, rfl, _, rfl, (by show 1 ≤ sizeLine; decide), fun u5 nu5 => eqI_dat (hk16.same (same_upd nu5)) (.tup (ds := [.str (S nm)]) (SqT.of upd_same) (.cons (.str _) .nil)) ⟨_, rfl, iteF ?_⟩⟩
    have su5 := same_upd (o := .tup [.str (S nm)]) nu5
    have s7 := s6.trans su5
    have hk7 := hk16.same su5
    generalize upd H6 u5 (.tup [.str (S nm)]) = H7 at s7 hk7 ⊢
    clear hk16 hk6 hk4 s6 s6' s5 su3 su4 su5 s4 s4' s3 s3' s2
    -- other values
    refine ⟨fun σ' H' => σ' = [some (.ref p), some (.str (S nm)), some vr, some (.ref l), some (.ref aM), some (.ref k1), none, none, none] ∧ Same H7 H', ?_, fun σ' H8 hM8 => ?_⟩
    · refine ⟨_, rfl, by show 0 ≤ sizeLine; decide, fun e ne => ?_⟩
      have se := same_upd (o := .lst []) ne
      have s8 := s7.trans se
      refine ⟨.list ds, .list [], dp_same s8 (.lst (SqL.of hl) hds.dp), .lst (SqL.of upd_same) .nil, okvl.sh, by decide +kernel, _, rfl, ?_⟩
      by_cases hd0 : ds = []
      · subst hd0
        exact iteF ⟨rfl, se⟩
      · have e0 : PyData.eqv (.list ds) (.list []) = false := by
          cases ds with
          | nil => exact absurd rfl hd0
          | cons _ _ => rfl
        rw [e0]
        refine iteT ⟨_, rfl, rfl, _, rfl, _, rfl, _, rfl, _, rfl, 1, rfl, l, ts, rfl, SqL.of (s8 _ _ hl), fun l2 nl2 => ?_⟩
        rw [cutT1]
        have sl2 := same_upd (o := .lst (ts.drop 1)) nl2
        refine ⟨l2, _, rfl, .inl ⟨SqL.of upd_same, fun u6 nu6 => ⟨rfl, rfl, ?_⟩⟩⟩
        have su6 := same_upd (o := .tup (ts.drop 1)) nu6
        have s9 := (s8.trans sl2).trans su6
        have ok1 := (vs_okD (vs_drop hvs) (fun z hz => gz z (List.mem_of_mem_drop hz)) (by rw [List.length_drop]; omega)).1
        have hmn1 : MN mq (zs.drop 1) := ⟨hmn.g, hmn.nd, fun z hz h => hmn.ap z hz (List.mem_of_mem_drop h), hmn.len⟩
        refine kof_ok (.inr (SqL.of (s9 _ _ hM))) ⟨.str _, okn, hrd _, okr, (Dt.tup upd_same (dpAll_drop1 (hds.ext (TupE.same s9)))).dp, ok1, hms.same s9, by omega⟩
          (kErr_ok gn.ok hrn (vs_drop hvs) (fun z hz => gz z (List.mem_of_mem_drop hz)) (ndz.sublist (List.drop_sublist _ _)) hmn1.nd2 hmn1.ap2 (by rw [List.length_drop]; omega) (by rw [List.length_map]; exact hmn.len)) fun Ha k3 sa _ hk3 => ?_
        refine eqI_two ((((hk7.same se).same sl2).same su6).same sa) hk3 idp ⟨_, rfl, ?_⟩
        have e3 : PyData.eqv (.tuple ds) (.tuple (ds.drop 1)) = false := by
          show PyData.eqvAll ds (ds.drop 1) = false
          refine SeqAt.eqvAll_other_length ?_
          have : 0 < ds.length := List.length_pos_iff.mpr hd0
          rw [List.length_drop]
          omega
        rw [e3, Bool.and_false]
        exact iteF ⟨rfl, ((se.trans sl2).trans su6).trans sa⟩
    obtain ⟨rfl, s8'⟩ := hM8
    have s8 := s7.trans s8'
    have hk8 := hk7.same s8'
    clear s7 s8' hk7
    -- other methods
    refine ⟨fun σ' H' => σ' = [some (.ref p), some (.str (S nm)), some vr, some (.ref l), some (.ref aM), some (.ref k1), none, none, none] ∧ Same H8 H', ?_, fun σ' H9 hM9 => ?_⟩
    · refine ⟨_, rfl, by show 0 ≤ sizeLine; decide, fun e ne => ?_⟩
      have se := same_upd (o := .lst []) ne
      have s9 := s8.trans se
      refine ⟨aM, e, as.map V.ref, rfl, rfl, SqL.of (s9 _ _ hM), SqL.of upd_same, _, rfl, ?_⟩
      by_cases ha0 : as = []
      · rw [decide_eq_true (by rw [ha0]; rfl)]
        exact iteF ⟨rfl, se⟩
      · rw [decide_eq_false (fun h => ha0 (List.map_eq_nil_iff.mp h))]
        refine iteT ⟨_, rfl, rfl, _, rfl, _, rfl, 1, rfl, _, rfl, aM, _, rfl, SqL.of (s9 _ _ hM), fun l2 nl2 => ?_⟩
        rw [cut_init, ← List.map_dropLast]
        have sl2 := same_upd (o := .lst (as.dropLast.map V.ref)) nl2
        refine ⟨_, rfl, _, rfl, l, ts, rfl, .inl ⟨SqL.of (sl2 _ _ (s9 _ _ hl)), fun u6 nu6 => ⟨rfl, rfl, ?_⟩⟩⟩
        have su6 := same_upd (o := .tup ts) nu6
        have sa := (s9.trans sl2).trans su6
        have hmn1 : MN mq.dropLast zs := ⟨fun z hz => hmn.g z ((List.dropLast_sublist _).subset hz), hmn.nd.sublist (List.dropLast_sublist _), fun z hz => hmn.ap z ((List.dropLast_sublist _).subset hz), by rw [List.length_dropLast]; have := hmn.len; omega⟩
        have hms1 : MsAt CM H as.dropLast (mq.dropLast.map S) := by
          rw [List.map_dropLast]
          exact hms.init
        refine kof_ok (as := as.dropLast) (ms := mq.dropLast.map S) (.inr (SqL.of (su6 _ _ upd_same))) ⟨.str _, okn, hrd _, okr, (Dt.tup upd_same (hds.ext (TupE.same sa))).dp, okv, hms1.same sa, by rw [List.length_dropLast]; omega⟩
          (kErr_ok gn.ok hrn hvs gz ndz hmn1.nd2 hmn1.ap2 zl (by rw [List.length_map]; exact hmn1.len)) fun Hb k3 sb _ hk3 => ?_
        refine eqI_two ((((hk8.same se).same sl2).same su6).same sb) hk3 (fun i c d h1 h2 => ?_) ⟨_, rfl, ?_⟩
        · rw [List.dropLast_eq_take] at h2
          by_cases hi : i < as.length - 1
          · rw [List.getElem?_take_of_lt hi] at h2
            exact idp i c d h1 h2
          · rw [List.getElem?_take_eq_none (by omega)] at h2
            cases h2
        · have : 0 < as.length := List.length_pos_iff.mpr ha0
          rw [decide_eq_false (by rw [List.length_dropLast]; omega), Bool.and_false]
          exact iteF ⟨rfl, ((se.trans sl2).trans su6).trans sb⟩
    obtain ⟨rfl, s9'⟩ := hM9
    have s9 := s8.trans s9'
    have hk9 := hk8.same s9'
    clear s8 s9' hk8
    -- one method
    refine ⟨fun σ' H' => σ' = [some (.ref p), some (.str (S nm)), some vr, some (.ref l), some (.ref aM), some (.ref k1), none, none, none] ∧ Same H9 H', ?_, fun σ' Ha hMa => ?_⟩
    · refine ⟨_, rfl, aM, _, rfl, .inl (SqL.of (s9 _ _ hM)), rfl, _, rfl, ?_⟩
      rw [List.length_map]
      by_cases ha1 : as.length = 1
      · rw [ha1]
        obtain ⟨a0, rfl⟩ : ∃ a0, as = [a0] := List.length_eq_one_iff.mp ha1
        refine iteT ⟨_, rfl, _, rfl, _, rfl, aM, _, 0, .ref a0, rfl, rfl, SqL.of (s9 _ _ hM), atI_nat (j := 0) rfl, _, rfl, _, rfl, l, ts, rfl, .inl ⟨SqL.of (s9 _ _ hl), fun u6 nu6 => ⟨rfl, fun k3 dk hk3 hdk ne => ?_⟩⟩⟩
        have su6 := same_upd (o := .tup ts) nu6
        have sa := s9.trans su6
        show spkK K CK CM x (V.ref k3 :: V.str (S nm) :: [a0].map V.ref) [vr, V.ref u6] _ _ _
        refine mk_ok (as := [a0]) hk3 hdk ne (mkA sa upd_same) K0 fun Hb sb hkb => ?_
        refine neI_two ((hk9.same su6).same sb) hkb idp ⟨_, rfl, ?_⟩
        rw [eqvR okn, eqvR okr, eqvR okv, decide_eq_true rfl]
        exact iteF ⟨rfl, su6.trans sb⟩
      · rw [decide_eq_false (fun e => ha1 (by have := V.int.inj e; omega))]
        exact iteF ⟨rfl, Same.refl _⟩
    obtain ⟨rfl, sa'⟩ := hMa
    have sa := s9.trans sa'
    have hka := hk9.same sa'
    clear s9 sa' hk9
    -- another base
    have lnm := gn.hi
    refine ⟨fun σ' H' => H' = Ha ∧ ∃ (v6 : V) (d6 : PyData), σ' = [some (.ref p), some (.str (S nm)), some vr, some (.ref l), some (.ref aM), some (.ref k1), some v6, none, none] ∧ ((v6 = .str (S (nm ++ [122])) ∧ d6 = .str (S (nm ++ [122])) ∧ dr = .none) ∨ (v6 = .non ∧ d6 = .none ∧ ∃ r, dr = .str (S r))), ?_, fun σ' H' hMb => ?_⟩
    · rcases hroot with ⟨rfl, rfl⟩ | ⟨r, rfl, rfl, gr⟩
      · refine ⟨_, rfl, rfl, _, rfl, iteT ⟨_, rfl, S nm, "z", rfl, rfl, ?_, rfl, .str (S (nm ++ [122])), .str (S (nm ++ [122])), ?_, .inl ⟨rfl, rfl, rfl⟩⟩⟩
        · rw [S_len]
          show nm.length + 1 ≤ sizeLine
          exact Nat.le_of_lt (small1000 (by omega))
        · rw [show S nm ++ "z" = S (nm ++ [122]) from S_cat nm [122]]
          rfl
      · exact ⟨_, rfl, rfl, _, rfl, iteF ⟨rfl, _, _, rfl, .inr ⟨rfl, rfl, r, rfl⟩⟩⟩
    obtain ⟨rfl, v6, d6, rfl, h6⟩ := hMb
    refine ⟨fun σ' Hb => σ' = [some (.ref p), some (.str (S nm)), some vr, some (.ref l), some (.ref aM), some (.ref k1), some v6, none, none] ∧ Same H' Hb, ?_, fun σ' Hb hMb => ?_⟩
    · have hlong : ∀ (go : Prop), (decide (V.int ((S nm).length : Int) = .int 0) = false → go) → go := fun go h => h (decide_eq_false fun e => by
        have := V.int.inj e
        rw [S_len] at this
        have := gn.lo
        omega)
      have h6' : ∀ H, Dp K H v6 d6 := by
        rcases h6 with ⟨rfl, rfl, _⟩ | ⟨rfl, rfl, _⟩
        · exact fun _ => .str _
        · exact fun _ => .non
      have hne : PyData.eqv dr d6 = false := by
        rcases h6 with ⟨_, rfl, rfl⟩ | ⟨_, rfl, r, rfl⟩ <;> rfl
      have ok6 : OkD d6 := by
        rcases h6 with ⟨_, rfl, _⟩ | ⟨_, rfl, _⟩
        · refine okD_sms ⟨?_, by rw [S_len, List.length_append]; show nm.length + 1 ≤ 1000; omega⟩
          unfold PyData.strOk
          rw [← Array.all_toList]
          refine List.all_eq_true.mpr fun c hc => ?_
          rcases List.mem_append.mp hc with hc | hc
          · have q := List.all_eq_true.mp gn.low c hc
            unfold lowC at q
            rw [Bool.and_eq_true] at q
            have := of_decide_eq_true q.2
            exact decide_eq_true (by omega)
          · obtain rfl := List.mem_singleton.mp hc
            decide
        · exact ⟨rfl, rfl⟩
      refine ⟨_, rfl, ?_⟩
      have hsc : scal v6 (.str "") = true ∧ decide (v6 = .str "") = false := by
        rcases h6 with ⟨rfl, _, _⟩ | ⟨rfl, _, _⟩
        · refine ⟨rfl, decide_eq_false fun e => ?_⟩
          have e2 := congrArg Str.length (V.str.inj e)
          rw [S_len, List.length_append] at e2
          cases e2
        · exact ⟨rfl, rfl⟩
      refine ⟨hsc.1, _, rfl, ?_⟩
      rw [hsc.2]
      refine iteF ⟨_, rfl, S nm, rfl, ?_, _, _, rfl, rfl, _, rfl, ?_⟩
      · rw [S_len]
        exact Nat.le_of_lt (small1000 (by omega))
      rw [S_len]
      by_cases h8 : nm.length < 8
      · rw [decide_eq_true (show (nm.length : Int) < 8 by omega)]
        have hb6 : (isNonD d6 || isNameD d6) = true := by
          rcases h6 with ⟨_, rfl, _⟩ | ⟨_, rfl, _⟩
          · have : nameOk (S (nm ++ [122])) = true := good_name (by rw [List.all_append, gn.low]; rfl) (by rw [List.length_append]; show 1 ≤ nm.length + 1; omega) (by rw [List.length_append]; show nm.length + 1 ≤ 8; omega) (by rw [List.any_append, gn.odd]; rfl)
            rw [show isNameD (.str (S (nm ++ [122]))) = true from this, Bool.or_true]
          · rfl
        refine iteT ⟨_, rfl, rfl, _, rfl, _, rfl, _, rfl, _, rfl, l, ts, rfl, .inl ⟨SqL.of (sa _ _ hl), fun u6 nu6 => ⟨rfl, rfl, ?_⟩⟩⟩
        have su6 := same_upd (o := .tup ts) nu6
        have sb := sa.trans su6
        refine kof_ok (.inr (SqL.of (sb _ _ hM))) ⟨.str _, okn, h6' _, ok6, (Dt.tup upd_same (hds.ext (TupE.same sb))).dp, okv, hms.same sb, by omega⟩
          (kErr_ok gn.ok hb6 hvs gz ndz hmn.nd2 hmn.ap2 zl (by rw [List.length_map]; exact hmn.len)) fun Hc k3 sc _ hk3 => ?_
        refine eqI_two ((hka.same su6).same sc) hk3 idp ⟨_, rfl, ?_⟩
        rw [hne, Bool.and_false, Bool.false_and]
        exact iteF ⟨rfl, su6.trans sc⟩
      · rw [decide_eq_false (show ¬ (nm.length : Int) < 8 by omega)]
        exact iteF ⟨rfl, Same.refl _⟩
    obtain ⟨rfl, sb'⟩ := hMb
    have sb := sa.trans sb'
    clear sa sb' hka
    -- a bare kind
    refine ⟨_, rfl, fun k3 dk hk3 hdk ne => ?_⟩
    have okE : OkD (.tuple []) := ⟨by decide +kernel, by decide +kernel⟩
    show spkK K CK CM x (V.ref k3 :: V.str (S nm) :: ([] : List Addr).map V.ref) [V.non, V.ref aV] _ _ _
    refine mk_ok (as := []) (ms := []) (db := .none) (dv := .tuple []) hk3 hdk ne ⟨.str _, okn, .non, ⟨rfl, rfl⟩, .tup (hV _) .nil, okE, ⟨rfl, fun i a e => by simp at e⟩, Nat.zero_le _⟩
      (kErr_ok (zs := []) gn.ok rfl .nil (fun z hz => nomatch hz) .nil .nil (fun z hz => nomatch hz) (by decide) (by decide)) fun Hc sc hkc => ?_
    obtain ⟨dx, vn3, tM3, vb3, vv3, e3, n3, b3, v3, m3⟩ := hkc.ex
    have sAll := sb.trans sc
    refine ⟨_, rfl, k3, CK, dx, _, _, rfl, e3, TK.cl, TK.nN, kF_name, _, rfl, k3, CK, dx, _, _, rfl, e3, TK.cl, TK.nV, kF_values, _, rfl, k3, CK, dx, _, _, rfl, e3, TK.cl, TK.nM, kF_methods, three_le, fun L nL => ?_⟩
    have sL := same_upd (o := .lst [vn3, vv3, .ref tM3]) nL
    refine ⟨_, rfl, by show 0 ≤ sizeLine; decide, fun t1 n1 => ⟨by show 0 ≤ sizeLine; decide, fun t2 n2 => ⟨three_le, fun L2 nL2 => ?_⟩⟩⟩
    have st1 := same_upd (o := .tup []) n1
    have st2 := same_upd (o := .tup []) n2
    have sL2 := same_upd (o := .lst [.str (S nm), .ref t1, .ref t2]) nL2
    have sx := st1.trans (st2.trans sL2)
    have okF : OkD (.list [.str (S nm), .tuple [], .tuple []]) := (smn_lst (smn_cons (smn_str (sms_good gn)) (smn_cons (smn_tup smn_nil (by decide)) (smn_cons (smn_tup smn_nil (by decide)) smn_nil))) (by show 3 ≤ 1000; decide) : Smn 2 _).okD (by decide)
    refine ⟨_, _, .lst (ds := [.str (S nm), .tuple [], .tuple []]) (SqL.of (sx _ _ upd_same)) (.cons (dp_same (sL.trans sx) n3) (.cons (dp_same (sL.trans sx) v3) (.cons (.tup (Same.seqT (sL.trans sx) m3) .nil) .nil))),
      .lst (ds := [.str (S nm), .tuple [], .tuple []]) (SqL.of upd_same) (.cons (.str _) (.cons (.tup (SqT.of (sL2 _ _ (st2 _ _ upd_same))) .nil) (.cons (.tup (SqT.of (sL2 _ _ upd_same)) .nil) .nil))), okF.sh, okF.sh, _, rfl, ?_⟩
    rw [eqvR okF]
    refine iteT ⟨_, rfl, k3, CK, dx, _, _, rfl, sx _ _ (sL _ _ e3), TK.cl, TK.nB, kF_base, rfl, ?_⟩
    rw [dp_non b3]
    exact q _ (sAll.trans (sL.trans sx))
end
end Dr
set_option maxHeartbeats 8000000
namespace Dr
open PySem PySem.Spec PyProof.Rows L2
open SX (S S_len S_cat)
abbrev sLaw : Stmt := topS 45
abbrev nLaw : List Str := ["_law_script", "_law_at", "_law_bag_here", "_law_names_here", "_law_turn", "_law_listed", "_law_methods", "_law_name", "_law_root", "_law_wares", "_law_faults", "_law_due", "_law_again", "_law_place", "_law_given", "_law_one", "_law_row", "_law_method"]
theorem scLaw : FnScope nLaw ["_law_script"] (defScope sLaw) := ⟨rfl, rfl, rfl, by decide +kernel, rfl, by decide +kernel, by decide +kernel⟩
abbrev inF (k f1 f2 : Int) : Bool := inV (.int k) [.int f1, .int f2]
structure BltL (mg : Str → Option Value) : Prop where
  range : mg "range" = none
  max : mg "max" = none
  min : mg "min" = none
  len : mg "len" = none
  lis : mg "list" = none
theorem cut_mid (xs : List V) (a b : Nat) (h1 : a ≤ b) (h2 : b ≤ xs.length) : cutV xs (some (a : Int)) (some (b : Int)) = (xs.drop a).take (b - a) := by
  unfold cutV
  rw [show HT.sIx xs.length 0 (some (a : Int)) = min a xs.length from HT.sIx_nat _ _ a, show HT.sIx xs.length xs.length (some (b : Int)) = min b xs.length from HT.sIx_nat _ _ b, Nat.min_eq_left h2, Nat.min_eq_left (show a ≤ xs.length by omega)]
theorem txts_drop (l : List (List Nat)) (k : Nat) : (txts l).drop k = txts (l.drop k) := by
  unfold txts
  rw [List.map_drop]
theorem txts_take (l : List (List Nat)) (k : Nat) : (txts l).take k = txts (l.take k) := by
  unfold txts
  rw [List.map_take]
theorem kp_ins {p : Addr} {C : Addr} {H H' : Hp} (hB : Bag H p) (k : Kp p H H') : ∀ a dx fs, H a = some (.ins C dx fs) → H' a = some (.ins C dx fs) := fun a dx fs e => k.1 _ _ (fun z => by
  obtain ⟨u, v, hp, _⟩ := hB
  rw [z, hp] at e
  cases e) e
theorem grow_ins {C l : Addr} {H : Hp} {us ys : List V} (hl : H l = some (.lst us)) : ∀ a dx fs, H a = some (.ins C dx fs) → (upd H l (.lst ys)) a = some (.ins C dx fs) := fun a dx fs e => by
  rw [upd_ne (fun z => by rw [z, hl] at e; cases e)]
  exact e
theorem MsAt.snoc {C : Addr} {H : Hp} {as : List Addr} {ms : List Str} {a : Addr} {z : Str} (h : MsAt C H as ms) (ha : ∃ dx vp vr vx, H a = some (.ins C dx (mF (.str z) vp vr vx))) : MsAt C H (as ++ [a]) (ms ++ [z]) := by
  refine ⟨by rw [List.length_append, List.length_append, h.1]; rfl, fun i b e => ?_⟩
  by_cases hi : i < as.length
  · rw [List.getElem?_append_left hi] at e
    obtain ⟨y, hy, hh⟩ := h.2 i b e
    have := h.1
    exact ⟨y, by rw [List.getElem?_append_left (by omega)]; exact hy, hh⟩
  · have hl := h.1
    have hlt := (List.getElem?_eq_some_iff.mp e).1
    rw [List.length_append] at hlt
    have hlt : i < as.length + 1 := hlt
    obtain rfl : i = as.length := by omega
    rw [List.getElem?_append_right (Nat.le_refl _), Nat.sub_self] at e
    obtain rfl := Option.some.inj e
    refine ⟨z, ?_, ha⟩
    rw [hl, List.getElem?_append_right (Nat.le_refl _), Nat.sub_self]
    rfl
theorem MsAt.take {C : Addr} {H : Hp} {as : List Addr} {ms : List Str} (h : MsAt C H as ms) (n : Nat) : MsAt C H (as.take n) (ms.take n) := by
  refine ⟨by rw [List.length_take, List.length_take, h.1], fun i a e => ?_⟩
  by_cases hi : i < n
  · rw [List.getElem?_take_of_lt hi] at e ⊢
    exact h.2 i a e
  · rw [List.getElem?_take_eq_none (by omega)] at e
    cases e
/-- Method(name) is made -/
theorem meth_ok {K : PySem.W.Frag} {CM x dx : Addr} {z : List Nat} {H : Hp} {R : Hp → Prop} {E : XK} (hx : H x = none) (hdx : H dx = none) (ne : dx ≠ x) (g : GoodN z) (q : ∀ H', Same H H' → (∃ dy vp vr vx, H' x = some (.ins CM dy (mF (.str (S z)) vp vr vx))) → R H') :
    spkM K CM (.ref x :: [.str (S z)]) [] (upd (upd H dx (.own x)) x (.ins CM dx [])) (fun v H3 => v = .non ∧ R H3) E := by
  have hx2 : (upd H dx (.own x)) x = none := by
    rw [upd_ne ne.symm]
    exact hx
  have s1 : Same H (upd (upd H dx (.own x)) x (.ins CM dx [])) := (same_upd hdx).trans (same_upd hx2)
  exact ⟨x, dx, S z, rfl, upd_same, g.ok, okD_sms (sms_good g), fun H' tR tX tP h1 h2 => ⟨rfl, q H' (fun b o e => h1 b o (ne_of_none e hx) (s1 _ _ e)) ⟨dx, _, _, _, h2⟩⟩⟩
theorem agn_again {us ms : List Str} {z : Str} (hnd : ms.Nodup) (hap : ∀ y ∈ ms, y ∉ us) (hz : z ∈ us ∨ z ∈ ms) : agn us (ms ++ [z]) = some ms.length := by
  refine agn_some (z := z) ?_ ?_ fun j hj y hy => ?_
  · rw [List.getElem?_append_right (Nat.le_refl _), Nat.sub_self]
    rfl
  · rw [List.take_append_of_le_length (Nat.le_refl _), List.take_length]
    exact hz
  · rw [List.getElem?_append_left hj] at hy
    rw [List.take_append_of_le_length (by omega)]
    refine ⟨hap y (List.mem_of_getElem? hy), fun hin => ?_⟩
    obtain ⟨i, hi, e3⟩ := List.mem_iff_getElem.mp hin
    rw [List.length_take] at hi
    rw [List.getElem_take] at e3
    obtain ⟨hjl, e4⟩ := List.getElem?_eq_some_iff.mp hy
    exact List.pairwise_iff_getElem.mp hnd i j (by omega) hjl (by omega) (e3.trans e4.symm)
theorem fbv_ins {ds : List PyData} {d : PyData} {n : Nat} (hn : n ≤ ds.length) (h : fbv ds = none) (hd : WrV (ds.take n) d) : fbv (ds.take n ++ [d] ++ ds.drop n) = some n := by
  have hl : (ds.take n).length = n := by
    rw [List.length_take]
    omega
  refine fbv_some ?_ ?_ fun j hj => ?_
  · rw [List.length_append, List.length_append, hl]
    show n < n + 1 + _
    omega
  · unfold badV
    rw [List.append_assoc, List.getElem?_append_right (by omega), hl, Nat.sub_self]
    show (!isValueD d || ((((ds.take n) ++ ([d] ++ ds.drop n)).take n).map nmD).contains (nmD d)) = true
    rw [List.take_append_of_le_length (by omega), List.take_of_length_le (by omega)]
    rcases hd with hd | ⟨_, hd⟩
    · rw [hd]
      rfl
    · rw [Bool.or_eq_true]
      exact .inr (by simpa using hd)
  · unfold fbv at h
    rw [List.find?_eq_none] at h
    have q := h j (List.mem_range.mpr (by omega))
    have e : badV (ds.take n ++ [d] ++ ds.drop n) j = badV ds j := by
      unfold badV
      rw [List.append_assoc, List.getElem?_append_left (by omega), List.getElem?_take_of_lt hj, List.take_append_of_le_length (by omega), List.take_take, Nat.min_eq_left (by omega)]
    rw [e]
    exact eq_false_of_ne_true q
/-- what is due stands at v -/
structure Due (K : PySem.W.Frag) (H : Hp) (v : V) (E : Option (KC × PyData)) : Prop where
  d : Dt K H v (toldD E)
  ok : OkD (toldD E)
theorem Due.ext {K : PySem.W.Frag} {H H' : Hp} {v : V} {E : Option (KC × PyData)} (h : Due K H v E) (s : TupE H H') : Due K H' v E := ⟨Dt.ext h.d s, h.ok⟩
theorem Due.non {K : PySem.W.Frag} {H : Hp} : Due K H .non none := ⟨.non, ⟨rfl, rfl⟩⟩
theorem Due.mk2 {K : PySem.W.Frag} {H : Hp} {t : Addr} {w : Str} {v : V} {c : KC} {e : PyData} (h : H t = some (.tup [.str w, v])) (hw : c.word = w) (hd : Dt K H v e) (hs : Smn 8 e) : Due K H (.ref t) (some (c, e)) := by
  subst hw
  refine ⟨Dt.tup h (.cons (.str _) (.cons hd .nil)), ?_⟩
  have hc : SmS c.word := by cases c <;> exact sms_lit (by decide +kernel)
  exact (smn_tup (smn_cons (smn_str hc) (smn_cons hs smn_nil)) (by show 2 ≤ 1000; decide) : Smn 9 _).okD (by decide)
theorem due_eqv {E : Option (KC × PyData)} (h : OkD (toldD E)) : PyData.eqv (toldD E) (toldD E) = true := eqvR h
theorem vs_take {zs : List (List Nat)} {ds : List PyData} (h : VsOk zs ds) : ∀ n, VsOk (zs.take n) (ds.take n) := fun n => by
  induction h generalizing n with
  | nil => rw [List.take_nil, List.take_nil]; exact .nil
  | cons a _ ih =>
    cases n with
    | zero => exact .nil
    | succ n => exact .cons a (ih n)
theorem dpAll_take {K : PySem.W.Frag} {H : Hp} {vs : List V} {ds : List PyData} (h : DpAll K H vs ds) : ∀ n, DpAll K H (vs.take n) (ds.take n) := fun n => by
  induction n generalizing vs ds with
  | zero => exact .nil
  | succ n ih =>
    cases h with
    | nil => exact .nil
    | cons a r => exact .cons a (ih r)
theorem dpAll_drop {K : PySem.W.Frag} {H : Hp} {vs : List V} {ds : List PyData} (h : DpAll K H vs ds) : ∀ n, DpAll K H (vs.drop n) (ds.drop n) := fun n => by
  induction n generalizing vs ds with
  | zero => exact h
  | succ n ih =>
    cases h with
    | nil => exact .nil
    | cons a r => exact ih r
theorem cut_takeG (xs : List V) (n : Nat) : cutV xs none (some (n : Int)) = xs.take n := by
  unfold cutV
  rw [show HT.sIx xs.length xs.length (some (n : Int)) = min n xs.length from HT.sIx_nat _ _ n, HT.sIx_none, List.drop_zero, Nat.sub_zero]
  by_cases h : n ≤ xs.length
  · rw [Nat.min_eq_left h]
  · rw [Nat.min_eq_right (by omega), List.take_length, List.take_of_length_le (by omega)]
theorem vd_inv {K : PySem.W.Frag} {H : Hp} {x : V} {d : PyData} {z : List Nat} (h : Dp K H x d) (hv : VD z d) : ∃ t vm, x = .ref t ∧ SqT K H t [.str (S z), vm] := by
  obtain ⟨m, rfl, hm⟩ := hv
  obtain ⟨t, vb, rfl, ht, _⟩ := dp_tup2 h
  exact ⟨t, vb, rfl, ht⟩
/-- the error but for the name -/
def kErrB (db dv : PyData) (ms : List Str) : Option (KC × PyData) := if (isNonD db || isNameD db) = false then some (.nm, db) else kErrV dv ms
theorem kErr_B {dn db dv : PyData} {ms : List Str} : kErr dn db dv ms = if isNameD dn = false then some (.nm, dn) else kErrB db dv ms := rfl
theorem wrong_name {K : PySem.W.Frag} {H : Hp} {t : Addr} {y b : V} {n : List Nat} (hb : b = .bl true ∨ b = .non) (gn : GoodN n) (ht : H t = some (.tup [.str (S n)])) (hy : y ∈ ([.str "", .str "cls", .int 5, b, .ref t, .str "Base", .str "none"] : List V)) :
    ∃ d, Dt K H y d ∧ Smn 5 d ∧ isNameD d = false ∧ (b = .bl true → isNonD d = false) := by
  simp only [List.mem_cons, List.not_mem_nil, or_false] at hy
  rcases hy with rfl | rfl | rfl | rfl | rfl | rfl | rfl
  · exact ⟨_, .str _, smn_lit (by decide +kernel), by decide +kernel, fun _ => rfl⟩
  · exact ⟨_, .str _, smn_lit (by decide +kernel), by decide +kernel, fun _ => rfl⟩
  · exact ⟨_, .int _, smn_int _, rfl, fun _ => rfl⟩
  · rcases hb with rfl | rfl
    · exact ⟨_, .bl _, smn_bl _, rfl, fun _ => rfl⟩
    · exact ⟨_, .non, smn_non, rfl, fun h => by cases h⟩
  · exact ⟨_, Dt.tup ht (.cons (.str _) .nil), smn_tup (smn_cons (smn_str (sms_good gn)) smn_nil) (by show 1 ≤ 1000; decide), rfl, fun _ => rfl⟩
  · exact ⟨_, .str _, smn_lit (by decide +kernel), by decide +kernel, fun _ => rfl⟩
  · exact ⟨_, .str _, smn_lit (by decide +kernel), by decide +kernel, fun _ => rfl⟩
theorem smns_app {n : Nat} {ds es : List PyData} (h : Smns n ds) (h2 : Smns n es) : Smns n (ds ++ es) := smns_of fun d hd => by
  rcases List.mem_append.mp hd with hd | hd
  · exact h.all d hd
  · exact h2.all d hd
theorem Due.kp {K : PySem.W.Frag} {p : Addr} {H H' : Hp} {v : V} {E : Option (KC × PyData)} (h : Due K H v E) (hB : Bag H p) (k : Kp p H H') : Due K H' v E := h.ext (TupE.kp hB k)
theorem take_next {α : Type} {l : List α} {i : Nat} {x : α} (h : l[i]? = some x) : l.take (i + 1) = l.take i ++ [x] := by
  rw [List.take_add_one, h]
  rfl
theorem dpAll_hid {K : PySem.W.Frag} {p : Addr → Prop} {H : Hp} {vs : List V} {ds : List PyData} (hp : ∀ b, p b → ∃ xs, H b = some (.lst xs)) (h : DtAll K H vs ds) : DpAll K (Ds.hid p H) vs ds := dpAll_same (fun b o e => by
  obtain ⟨xs, rfl, e0⟩ := tu_inv e
  refine Ds.hid_at (fun hb => ?_) e0
  obtain ⟨ys, e2⟩ := hp b hb
  rw [e0] at e2
  cases e2) h
section
variable {P : Program} {w : World} {K : PySem.W.Frag} {mg : Str → Option Value} {base : Heap}
def spLaw (K : PySem.W.Frag) : Sp := fun vs H Q _ => ∃ (a : Addr) (ns : List Int), vs = [.ref a] ∧ SqL K H a (ns.map V.int) ∧ ns.length ≤ 63 ∧ ∀ H', Q (.bl true) H'
theorem ok_law {kM kO' : Nat} {CK CM f fB fT fO fN fV fWV fMR fTD fM : Addr} {mc mcM : Value} {fd fdB fdT fdO fdN fdV fdWV fdMR fdTD : FuncData} (F : Fun K "law" "law" sLaw f fd) (L : BltL mg) (B : BltM mg) (T : Mtd K mg CM mcM) (TK : Knd K mg CK mc) (MM : Mk K CM fM) (GM : FnK P w K mg base CX0 kM fM [] (spkM K CM))
    (GB : FnOk P w K mg base CX0 1 fB fdB ["_law_script", "_law_at"] (spBag K)) (mB : mg "_law_bag" = some (.ref fB)) (kB : PySem.W.keepIn K (.ref fB) = true) (bB : Binds K fdB ["_law_script", "_law_at"] [])
    (GT : FnOk P w K mg base CX0 1 fT fdT ["_law_bag_here", "_law_many"] (spTake)) (mT : mg "_law_take" = some (.ref fT)) (kT : PySem.W.keepIn K (.ref fT) = true) (bT : Binds K fdT ["_law_bag_here", "_law_many"] [])
    (GO : FnOk P w K mg base CX0 2 fO fdO ["_law_bag_here", "_law_some"] (spOf K)) (mO : mg "_law_of" = some (.ref fO)) (kO : PySem.W.keepIn K (.ref fO) = true) (bO : Binds K fdO ["_law_bag_here", "_law_some"] [])
    (GN : FnOk P w K mg base CX0 3 fN fdN ["_law_bag_here", "_law_many"] (spNames K)) (mN : mg "_law_names" = some (.ref fN)) (kN : PySem.W.keepIn K (.ref fN) = true) (bN : Binds K fdN ["_law_bag_here", "_law_many"] [])
    (GV : FnOk P w K mg base CX0 3 fV fdV ["_law_bag_here", "_law_names_here"] (spVals K)) (mV : mg "_law_values" = some (.ref fV)) (kV : PySem.W.keepIn K (.ref fV) = true) (bV : Binds K fdV ["_law_bag_here", "_law_names_here"] [])
    (GWV : FnOk P w K mg base CX0 3 fWV fdWV ["_law_bag_here", "_law_name", "_law_earlier"] (spWV K)) (mWV : mg "_law_wrong_value" = some (.ref fWV)) (kWV : PySem.W.keepIn K (.ref fWV) = true) (bWV : Binds K fdWV ["_law_bag_here", "_law_name", "_law_earlier"] [])
    (GMR : FnOk P w K mg base CX0 (kO' + 1) fMR fdMR ["_law_bag_here", "_law_name", "_law_root", "_law_listed", "_law_methods"] (spMR K CM)) (mMR : mg "_law_made_right" = some (.ref fMR)) (kMR : PySem.W.keepIn K (.ref fMR) = true) (bMR : Binds K fdMR ["_law_bag_here", "_law_name", "_law_root", "_law_listed", "_law_methods"] [])
    (GTD : FnOk P w K mg base CX0 (kO' + 1) fTD fdTD ["_law_name", "_law_methods", "_law_root", "_law_wares"] (spTold K CM)) (mTD : mg "_law_told" = some (.ref fTD)) (kTD : PySem.W.keepIn K (.ref fTD) = true) (bTD : Binds K fdTD ["_law_name", "_law_methods", "_law_root", "_law_wares"] [])
    (h3 : 3 ≤ kO') (hM : kM + 1 ≤ kO') : FnOk P w K mg base CX0 (kO' + 2) f fd ["_law_script"] (spLaw K) := by
  refine F.ok scLaw (fun vs H Q E h => ?_) (fun cdv A outer s H vs Q E hr h => ?_)
  · obtain ⟨a, ns, rfl, _⟩ := h
    rfl
  · obtain ⟨a, ns, rfl, hS, hlen, q⟩ := h
    have hu : (A.deeper (envOfC "law" (defScope sLaw) s.heap.objs.size f cdv)).units + 64 < cLine := hr.units
    have hr1 : Room 1 _ := hr.mono (by omega)
    have hr2 : Room 2 _ := hr.mono (by omega)
    have hr3 : Room 3 _ := hr.mono (by omega)
    have hrM : Room (kM + 1) _ := hr.mono (by omega)
    have hrR : Room (kO' + 1) _ := hr
    have hrT : Room (kO' + 1) _ := hr
    refine ⟨_, pss_cons (ps_for PassesOwn.never rfl (pi_range1 rfl L.range (pa_cons (pe_callB (call_max2 rfl) (by rfl) L.max (by decide +kernel) (pa_cons pe_int (pa_cons (pe_callB (call_min2 rfl) (by rfl) L.min (by decide +kernel) (pa_cons pe_int (pa_cons (pe_callB call_len_seq (by rfl) L.len PySem.boot_len (pa_cons (pv 0) pa_nil)) pa_nil))) pa_nil))) pa_nil)) (pg_name (i := 1) scLaw.nd rfl (.inl rfl))
      (pss_cons (ps_set (i := 2) scLaw.nd rfl (.inl rfl) (pe_call GB hr1 (by rfl) mB kB bB .nil pass0 (pa_cons (pv 0) (pa_cons (pv 1) pa_nil))))
      (pss_cons (ps_set (i := 3) scLaw.nd rfl (.inl rfl) (pe_call GN hr3 (by rfl) mN kN bN .nil pass0 (pa_cons (pv 2) (pa_cons pe_int pa_nil))))
      (pss_one (ps_for PassesOwn.never rfl (pi_range1 rfl L.range (pa_cons pe_int pa_nil)) (pg_name (i := 4) scLaw.nd rfl (.inl rfl))
        (pss_cons (ps_par (i := 5) (j := 6) (by rfl) scLaw.nd rfl rfl (by decide) rfl rfl (pa_cons (pe_call GV hr3 (by rfl) mV kV bV .nil pass0 (pa_cons (pv 2) (pa_cons (pe_slice sl_list (pv 3) po_none (po_some pe_int)) pa_nil))) (pa_cons (pe_lc (own := [("_law_one", 15)]) (g := gName 15) (tt := tYes) rfl scLaw.nd (pi_list (pe_slice sl_list (pv 3) (po_some pe_int) (po_some (pe_op op_add pe_int (pe_call GT hr1 (by rfl) mT kT bT .nil pass0 (pa_cons (pv 2) (pa_cons pe_int pa_nil))))))) (blkOk_by (N := nLaw) (sc := defScope sLaw) (by decide +kernel)) (fun _ _ _ _ _ => pg_name (i := 15) scLaw.nd rfl (Or.inl rfl)) (fun _ _ _ _ _ => pts_nil) (fun _ _ _ _ _ => (pe_mkF0 (E := fun _ _ _ _ => False) MM GM hrM (by rfl) T.mgC (fun σ => passAt0) (pa_cons (pv 15) pa_nil)))) pa_nil)) (by rfl))
        (pss_cons (ps_par3 (i := 7) (j := 8) (l := 9) (by rfl) scLaw.nd rfl rfl rfl (by decide) (by decide) (by decide) rfl rfl rfl (pa_cons (pe_ix ix_list (pv 3) pe_int (fun _ _ => rfl)) (pa_cons (pe_call GO hr2 (by rfl) mO kO bO .nil pass0 (pa_cons (pv 2) (pa_cons (pe_lst (pa_cons pe_non (pa_cons (pe_ix ix_list (pv 3) pe_int (fun _ _ => rfl)) pa_nil))) pa_nil))) (pa_cons (pe_callTy call_list_of (by rfl) L.lis (by decide +kernel) (pa_cons (pv 5) pa_nil)) pa_nil))) (by rfl))
        (pss_cons (ps_if (pt_not (pt_val (pe_call GMR hrR (by rfl) mMR kMR bMR .nil pass0 (pa_cons (pv 2) (pa_cons (pv 7) (pa_cons (pv 8) (pa_cons (pv 5) (pa_cons (pv 6) pa_nil)))))))) (pss_one (ps_ret pe_bl)) pss_nil)
        (pss_cons (ps_par (i := 10) (j := 11) (by rfl) scLaw.nd rfl rfl (by decide) rfl rfl (pa_cons (pe_lst (pa_cons (pe_call GT hr1 (by rfl) mT kT bT .nil pass0 (pa_cons (pv 2) (pa_cons pe_int pa_nil))) (pa_cons (pe_call GT hr1 (by rfl) mT kT bT .nil pass0 (pa_cons (pv 2) (pa_cons pe_int pa_nil))) pa_nil))) (pa_cons pe_non pa_nil)) (by rfl))
        (C8.pss_cut (ps_if (pt_cmpR op_in_seq pe_int (pv 10) rfl) (pss_one (ps_par (i := 6) (j := 11) (by rfl) scLaw.nd rfl rfl (by decide) rfl rfl (pa_cons (pe_lc (own := [("_law_one", 15)]) (g := gName 15) (tt := tYes) rfl scLaw.nd (pi_list (pe_slice sl_list (pv 3) (po_some pe_int) (po_some pe_int))) (blkOk_by (N := nLaw) (sc := defScope sLaw) (by decide +kernel)) (fun _ _ _ _ _ => pg_name (i := 15) scLaw.nd rfl (Or.inl rfl)) (fun _ _ _ _ _ => pts_nil) (fun _ _ _ _ _ => (pe_mkF0 (E := fun _ _ _ _ => False) MM GM hrM (by rfl) T.mgC (fun σ => passAt0) (pa_cons (pv 15) pa_nil)))) (pa_cons (pe_tup (pa_cons pe_str (pa_cons pe_str pa_nil))) pa_nil)) (by rfl))) pss_nil)
        (C8.pss_cut (ps_if (pt_cmpR op_in_seq pe_int (pv 10) rfl) (pss_cons (ps_setLc (i := 9) (own := [("_law_one", 15)]) (g := gName 15) (tt := tYes) rfl scLaw.nd rfl rfl (sw_true rfl rfl rfl (by decide +kernel)) (pi_list (pe_slice sl_list (pv 3) po_none (po_some pe_int))) (blkOk_by (N := nLaw) (sc := defScope sLaw) (by decide +kernel)) (fun _ _ _ _ _ => pg_name (i := 15) scLaw.nd rfl (Or.inl rfl)) (fun _ _ _ _ _ => pts_nil) (fun _ _ _ _ _ => (pe_tup (pa_cons (pv 15) (pa_cons (pe_tup (pa_cons pe_str (pa_cons (pe_tup pa_nil) pa_nil))) pa_nil))))) (pss_one (ps_set (i := 11) scLaw.nd rfl (.inl rfl) (pe_tup (pa_cons pe_str (pa_cons pe_str pa_nil)))))) pss_nil)
        (C8.pss_cut (ps_if (PW.pt (pw_and (pt_cmpR op_in_seq pe_int (pv 10) rfl) (pw_and1 (pt_cmpR (op_neE hu) (pe_op op_cat (pv 9) (pv 6)) (pe_lst pa_nil) (nomark _))))) (pss_cons (ps_set (i := 12) scLaw.nd rfl (.inl rfl) (pe_call GO hr2 (by rfl) mO kO bO .nil pass0 (pa_cons (pv 2) (pa_cons (pe_op op_cat (pe_lc (own := [("_law_row", 16)]) (g := gName 16) (tt := tYes) rfl scLaw.nd (pi_list (pv 9)) (blkOk_by (N := nLaw) (sc := defScope sLaw) (by decide +kernel)) (fun _ _ _ _ _ => pg_name (i := 16) scLaw.nd rfl (Or.inl rfl)) (fun _ _ _ _ _ => pts_nil) (fun _ _ _ _ _ => (pe_ix (show IxR _ (rIxT K) from ix_tup) (pv 16) pe_int (fun _ _ => rfl)))) (pe_lc (own := [("_law_method", 17)]) (g := gName 17) (tt := tYes) rfl scLaw.nd (pi_list (pe_slice sl_list (pv 6) po_none (po_some pe_int))) (blkOk_by (N := nLaw) (sc := defScope sLaw) (by decide +kernel)) (fun _ _ _ _ _ => pg_name (i := 17) scLaw.nd rfl (Or.inl rfl)) (fun _ _ _ _ _ => pts_nil) (fun _ _ _ _ _ => (show PE _ _ (tFld K (tVar 17) "name") from pe_fld (pv 17) rfl)))) pa_nil)))) (pss_one (ps_par (i := 6) (j := 11) (by rfl) scLaw.nd rfl rfl (by decide) rfl rfl (pa_cons (pe_op op_cat (pe_slice sl_list (pv 6) po_none (po_some pe_int)) (pe_lst (pa_cons (pe_mkF0 (E := fun _ _ _ _ => False) MM GM hrM (by rfl) T.mgC (fun σ => passAt0) (pa_cons (pv 12) pa_nil)) pa_nil))) (pa_cons (pe_tup (pa_cons pe_str (pa_cons (pv 12) pa_nil))) pa_nil)) (by rfl)))) pss_nil)
        (C8.pss_cut (ps_if (pt_cmpR op_in_seq pe_int (pv 10) rfl) (pss_cons (ps_set (i := 13) scLaw.nd rfl (.inl rfl) (pe_call GT hr1 (by rfl) mT kT bT .nil pass0 (pa_cons (pv 2) (pa_cons (pe_op op_add (pe_callB call_len_seq (by rfl) L.len PySem.boot_len (pa_cons (pv 9) pa_nil)) pe_int) pa_nil)))) (pss_cons (ps_expr (pe_bm PySem.F.plainAttrs_list PySem.F.slot_list_insert PySem.F.type_list_insert mt_insert (pv 9) (pa_cons (pv 13) (pa_cons (pe_call GWV hr3 (by rfl) mWV kWV bWV .nil pass0 (pa_cons (pv 2) (pa_cons (pe_ix ix_list (pv 3) pe_int (fun _ _ => rfl)) (pa_cons (pe_slice sl_list (pv 9) po_none (po_some (pv 13))) pa_nil)))) pa_nil)))) (pss_one (ps_set (i := 11) scLaw.nd rfl (.inl rfl) (pe_tup (pa_cons pe_str (pa_cons (pv 13) pa_nil))))))) pss_nil)
        (C8.pss_cut (ps_set (i := 14) scLaw.nd rfl (.inl rfl) (pe_ifExp (pt_cmpR op_in_seq pe_int (pv 10) rfl) (pe_callTy call_list_of (by rfl) L.lis (by decide +kernel) (pa_cons (pv 9) pa_nil)) (pe_callTy call_tuple_of (by rfl) B.tup (by decide +kernel) (pa_cons (pv 9) pa_nil))))
        (C8.pss_cut (ps_set (i := 11) scLaw.nd rfl (.inl rfl) (pe_ifExp (pt_cmpR op_in_seq pe_int (pv 10) rfl) (pe_tup (pa_cons pe_str (pa_cons (pe_un un_neg pe_int) pa_nil))) (pv 11)))
        (C8.pss_cut (ps_if (pt_cmpR op_in_seq pe_int (pv 10) rfl) (pss_cons (ps_set (i := 8) scLaw.nd rfl (.inl rfl) (pe_call GO hr2 (by rfl) mO kO bO .nil pass0 (pa_cons (pv 2) (pa_cons (pe_lst (pa_cons pe_str (pa_cons pe_str (pa_cons pe_int (pa_cons pe_bl (pa_cons (pe_tup (pa_cons (pe_ix ix_list (pv 3) pe_int (fun _ _ => rfl)) pa_nil)) (pa_cons pe_str (pa_cons pe_str pa_nil)))))))) pa_nil)))) (pss_one (ps_set (i := 11) scLaw.nd rfl (.inl rfl) (pe_tup (pa_cons pe_str (pa_cons (pv 8) pa_nil)))))) pss_nil)
        (C8.pss_cut (ps_if (pt_cmpR op_in_seq pe_int (pv 10) rfl) (pss_cons (ps_set (i := 7) scLaw.nd rfl (.inl rfl) (pe_call GO hr2 (by rfl) mO kO bO .nil pass0 (pa_cons (pv 2) (pa_cons (pe_lst (pa_cons pe_str (pa_cons pe_str (pa_cons pe_int (pa_cons pe_non (pa_cons (pe_tup (pa_cons (pe_ix ix_list (pv 3) pe_int (fun _ _ => rfl)) pa_nil)) (pa_cons pe_str (pa_cons pe_str pa_nil)))))))) pa_nil)))) (pss_one (ps_set (i := 11) scLaw.nd rfl (.inl rfl) (pe_tup (pa_cons pe_str (pa_cons (pv 7) pa_nil)))))) pss_nil)
        (pss_one (ps_if (pt_cmpR (op_neD hu) (pe_call GTD hrT (by rfl) mTD kTD bTD .nil pass0 (pa_cons (pv 7) (pa_cons (pv 6) (pa_cons (pv 8) (pa_cons (pv 14) pa_nil))))) (pv 11) (nomark _)) (pss_one (ps_ret pe_bl)) pss_nil)))))))))))))))))))
      (pss_one (ps_ret (pe_cmpR (op_eqD hu) (pe_lst (pa_cons (ClX.pe_cval (pe_glob (v := .ref CK) (by rfl) TK.mgC rfl)) (pa_cons (ClX.pe_cval (pe_glob (v := .ref CK) (by rfl) TK.mgC rfl)) pa_nil))) (pe_lst (pa_cons pe_int (pa_cons pe_int pa_nil))) (nomark _)))), ?_⟩
    have hJ : ∀ n : Nat, 1 ≤ (if (if ((n : Nat) : Int) < 5 then ((n : Nat) : Int) else 5) > 1 then (if ((n : Nat) : Int) < 5 then ((n : Nat) : Int) else 5) else 1) ∧ (if (if ((n : Nat) : Int) < 5 then ((n : Nat) : Int) else 5) > 1 then (if ((n : Nat) : Int) < 5 then ((n : Nat) : Int) else 5) else 1) ≤ 5 := fun n => by
      split <;> split <;> omega
    refine ⟨_, rfl, a, _, rfl, .inl hS, _, _, rfl, _, _, rfl, _, rfl, ?_, ?_, ?_⟩
    · have := (hJ (ns.map V.int).length).1
      show -(2 ^ 62) ≤ _
      omega
    · have := (hJ (ns.map V.int).length).2
      show _ < 2 ^ 62
      omega
    have hJ2 := (hJ (ns.map V.int).length).2
    refine for_it walk_range (fun i σ H' => Same H H' ∧ ∃ y1 y2 y3 y4 y5 y6 y7 y8 y9 y10 y11 y12 y13 y14 : Option V, σ = [some (.ref a), y1, y2, y3, y4, y5, y6, y7, y8, y9, y10, y11, y12, y13, y14, none, none, none]) ⟨Same.refl _, none, none, none, none, none, none, none, none, none, none, none, none, none, none, rfl⟩ (fun _ _ _ _ _ => trivial) ?_ ?_
    case refine_2 =>
      rintro σ H1 ⟨_, y1, y2, y3, y4, y5, y6, y7, y8, y9, y10, y11, y12, y13, y14, rfl⟩
      obtain ⟨u1, hu1⟩ := TK.k1
      obtain ⟨u2, hu2⟩ := TK.k2
      refine ⟨CK, mc, .int 3, u1, rfl, TK.rd, hu1, CK, mc, .int 4, u2, rfl, TK.rd, hu2, two_le, fun L nL => ⟨two_le, fun L2 nL2 => ?_⟩⟩
      have okF : OkD (.list [.int 3, .int 4]) := ⟨by decide +kernel, by decide +kernel⟩
      refine ⟨.list [.int 3, .int 4], .list [.int 3, .int 4], .lst (SqL.of (same_upd nL2 _ _ upd_same)) (.cons (.int _) (.cons (.int _) .nil)), .lst (SqL.of upd_same) (.cons (.int _) (.cons (.int _) .nil)), okF.sh, okF.sh, ?_⟩
      rw [eqvR okF]
      exact q _
    rintro i x σ Hs Ht hi ⟨sm0, y1, y2, y3, y4, y5, y6, y7, y8, y9, y10, y11, y12, y13, y14, rfl⟩ ⟨rfl, rfl⟩
    have hi6 : i < 5 := by
      have : i < Int.toNat _ := hi
      omega
    refine ⟨_, rfl, _, rfl, a, ns, _, rfl, sm0.seq hS, hlen, by omega, by omega, fun Hb p sb np hB => ?_⟩
    refine ⟨_, rfl, p, 12, rfl, hB, by decide, fun Hc q0 qs kc nq hq h12 hnd hgood => ?_⟩
    have nqp := bag_ne hB nq
    refine ⟨4, rfl, by decide, by decide, for_it walk_range (fun j σ H' => Kp p Hb H' ∧ H' q0 = some (.lst (txts qs)) ∧ ∃ y4 y5 y6 y7 y8 y9 y10 y11 y12 y13 y14 : Option V, σ = [some (.ref a), some (.int (0 + (i : Int))), some (.ref p), some (.ref q0), y4, y5, y6, y7, y8, y9, y10, y11, y12, y13, y14, none, none, none]) ⟨kc, hq, _, _, _, _, _, _, _, _, _, _, _, rfl⟩ (fun _ _ _ _ _ => trivial) ?_ (fun σ H1 ⟨k1, _, y4, y5, y6, y7, y8, y9, y10, y11, y12, y13, y14, e⟩ => ⟨sm0.trans ((fun b o e => k1.1 _ _ (ne_of_none e np) (sb _ _ e))), _, _, _, _, _, _, _, _, _, _, _, _, _, _, e⟩)⟩
    rintro j x σ H0 H0' hj ⟨k0, hq0, y4, y5, y6, y7, y8, y9, y10, y11, y12, y13, y14, rfl⟩ ⟨rfl, rfl⟩
    have hlq : (txts qs).length = 12 := by
      rw [txts_len, h12]
    have qat : ∀ {n : Nat} (hn : n < 12), qs[n]? = some (qs[n]'(by omega)) := fun {n} hn => List.getElem?_eq_getElem (by omega)
    have good : ∀ {n : Nat} (hn : n < 12), GoodN (qs[n]'(by omega)) := fun {n} hn => hgood _ (List.getElem_mem (by omega))
    -- values and methods
    refine ⟨_, rfl, _, rfl, 4, rfl, q0, _, rfl, SqL.of hq0, fun ls nls => ?_⟩
    rw [show cutV (txts qs) none (some 4) = (txts qs).take 4 from cut_take _ 4 (by omega), txts_take]
    have sls := same_upd (o := .lst (txts (qs.take 4))) nls
    have nlsp := bag_ne k0.2 nls
    refine ⟨p, ls, qs.take 4, rfl, (k0.same sls).2, nlsp, upd_same, by rw [List.length_take]; omega, hnd.sublist (List.take_sublist _ _), fun z hz => hgood z (List.mem_of_mem_take hz), fun H1 l k ts ds k1 nl nlp hl hds hk hvs => ?_⟩
    have hvs : VsOk (qs.take k) ds := by
      rw [List.take_take, Nat.min_eq_left (by omega)] at hvs
      exact hvs
    have k01 := (k0.same sls).trans k1
    have hq1 := k1.1 _ _ nqp (sls _ _ hq0)
    refine ⟨_, rfl, 4, rfl, _, rfl, p, 5, rfl, k01.2, by decide, by decide, fun H2 r k2 r0 r5 => ⟨4, r, rfl, rfl, _, rfl, q0, _, rfl, SqL.of (k2.1 _ _ nqp hq1), fun l2 nl2 => ?_⟩⟩
    obtain ⟨m, rfl⟩ : ∃ m : Nat, r = (m : Int) := ⟨r.toNat, by omega⟩
    have hm : m ≤ 4 := by omega
    rw [show cutV (txts qs) (some 4) (some (4 + (m : Int))) = ((txts qs).drop 4).take m from by
      have := cut_mid (txts qs) 4 (4 + m) (by omega) (by omega)
      rw [Nat.add_sub_cancel_left] at this
      rw [← this]
      rfl, txts_drop, txts_take]
    have sl2 := same_upd (o := .lst (txts ((qs.drop 4).take m))) nl2
    have mlen : ((qs.drop 4).take m).length = m := by
      rw [List.length_take, List.length_drop]
      omega
    have hl2 : (upd H2 l2 (.lst (txts ((qs.drop 4).take m)))) l2 = some (.lst (txts ((qs.drop 4).take m))) := upd_same
    have k02 := (k01.trans k2).same sl2
    have hl2' := sl2 _ _ (k2.1 _ _ nlp hl)
    have hds2 := (hds.ext (TupE.kp k01.2 k2)).ext (TupE.same sl2)
    have hq2 := sl2 _ _ (k2.1 _ _ nqp hq1)
    generalize (upd H2 l2 (.lst (txts ((qs.drop 4).take m)))) = H3 at hl2 k02 hl2' hds2 hq2 ⊢
    refine ⟨l2, rfl, ⟨_, SqL.of hl2⟩, fun D nD => ?_⟩
    refine lc_it (walk_list (xs := txts ((qs.drop 4).take m))) (fun i H9 => Same H3 H9 ∧ ∃ as : List Addr, H9 D = some (.lst (as.map V.ref)) ∧ as.length = i ∧ MsAt CM H9 as ((((qs.drop 4).take m).take i).map S)) ⟨same_upd nD, [], upd_same, rfl, rfl, fun i a e => by simp at e⟩ (fun _ _ _ h => SqL.of (h.1 _ _ hl2)) ?_ ?_
    · rintro i y H4 H5 hi ⟨sm, as, hDl, has, hms⟩ ⟨rfl, ey⟩
      obtain ⟨z, hz, rfl⟩ := txts_get ey
      have gz : GoodN z := hgood z (List.mem_of_mem_drop (List.mem_of_mem_take (List.mem_of_getElem? hz)))
      refine ⟨rfl, ?_⟩
      unfold tYes
      refine iteT ⟨_, rfl, fun x dx hx hdx ne => ?_⟩
      refine meth_ok hx hdx ne gz fun H6 s6 hx6 => ?_
      have hD6 := s6 _ _ hDl
      refine ⟨_, hD6, ?_, same_grow (sm.trans s6) nD, as ++ [x], by rw [upd_same, List.map_append]; rfl, by rw [List.length_append, has]; rfl, ?_⟩
      · rw [List.length_map, has]
        rw [txts_len, List.length_take] at hi
        exact small1000 (by omega)
      · rw [List.take_add_one, hz, List.map_append]
        obtain ⟨dy, vp, vr, vx, hx6⟩ := hx6
        exact MsAt.snoc ((hms.same s6).ext (grow_ins hD6)) ⟨dy, vp, vr, vx, grow_ins hD6 _ _ _ hx6⟩
    rintro Hm ⟨sHm, as, hD, las, mas⟩
    rw [txts_len, List.take_of_length_le (Nat.le_refl _)] at mas
    rw [txts_len] at las
    rw [mlen] at las
    have k4 := k02.same sHm
    have hl4 := sHm _ _ hl2'
    have hds4 := hds2.ext (TupE.same sHm)
    have hq4 := sHm _ _ hq2
    have nDp := bag_ne k02.2 nD
    refine ⟨_, _, rfl, ?_⟩
    -- the name, the base, the values once more
    refine ⟨_, rfl, q0, _, 9, _, rfl, rfl, SqL.of hq4, atI_nat (j := 9) (txts_at (qat (by decide))), _, rfl, _, rfl, q0, _, 10, _, rfl, rfl, SqL.of hq4, atI_nat (j := 10) (txts_at (qat (by decide))), two_le, fun L nL => ⟨p, .ref L, rfl, (k4.same (same_upd nL)).2, .inl ⟨L, _, rfl, bag_ne k4.2 nL, SqL.of upd_same, (by show 1 ≤ 2; decide), (by show 2 ≤ 1000; decide), fun H5 vr k5 hy => ?_⟩⟩⟩
    have sL := same_upd (o := .lst [.non, .str (S (qs[10]'(by omega)))]) nL
    have hroot : ∃ dr, RootV vr dr := by
      rcases List.mem_cons.mp hy with rfl | hy
      · exact ⟨_, .inl ⟨rfl, rfl⟩⟩
      · obtain rfl := List.mem_singleton.mp hy
        exact ⟨_, .inr ⟨_, rfl, rfl, good (by decide)⟩⟩
    obtain ⟨dr, hroot⟩ := hroot
    have k05 := (k4.same sL).trans k5
    have hl5 := k5.1 _ _ nlp (sL _ _ hl4)
    refine ⟨_, rfl, l, ts, rfl, .inl (SqL.of hl5), fun w nw => ⟨_, _, _, rfl, ?_⟩⟩
    have sw := same_upd (o := .lst ts) nw
    have k06 := k05.same sw
    have nwp := bag_ne k05.2 nw
    have nqw : q0 ≠ w := ne_of_none (k5.1 _ _ nqp (sL _ _ hq4)) nw
    have nDw : D ≠ w := ne_of_none (k5.1 _ _ nDp (sL _ _ hD)) nw
    have nbw : Hb w = none := by
      cases e : Hb w with
      | none => rfl
      | some o =>
        have := k05.1 _ _ nwp e
        rw [nw] at this
        cases this
    have ext5 : TupE Hm (upd H5 w (.lst ts)) := ((TupE.same sL).trans (TupE.kp (k4.same sL).2 k5)).trans (TupE.same sw)
    have hds6 := hds4.ext ext5
    have hM6 := sw _ _ (k5.1 _ _ nDp (sL _ _ hD))
    have hms6 := (((mas.same sL).ext (kp_ins (k4.same sL).2 k5)).same sw)
    have hq6 := sw _ _ (k5.1 _ _ nqp (sL _ _ hq4))
    have hl6 := sw _ _ hl5
    have hw6 : (upd H5 w (.lst ts)) w = some (.lst ts) := upd_same
    generalize (upd H5 w (.lst ts)) = H6 at k06 hds6 hM6 hms6 hq6 hl6 hw6 ⊢
    have disj : ∀ {n k : Nat} {z : List Nat}, k ≤ 4 → z ∈ (qs.drop 4).take n → z ∉ qs.take k := fun {n k z} hk hz hz2 => by
      have e : (qs.take 4 ++ qs.drop 4).Nodup := by rw [List.take_append_drop]; exact hnd
      have h4 : z ∈ qs.take 4 := by
        have e3 : qs.take k = (qs.take 4).take k := by rw [List.take_take, Nat.min_eq_left hk]
        rw [e3] at hz2
        exact List.mem_of_mem_take hz2
      exact (List.nodup_append.mp e).2.2 z h4 z (List.mem_of_mem_take hz) rfl
    have mnd : ∀ n : Nat, ((qs.drop 4).take n).Nodup := fun n => (hnd.sublist (List.drop_sublist _ _)).sublist (List.take_sublist _ _)
    have mgood : ∀ {n : Nat} {z : List Nat}, z ∈ (qs.drop 4).take n → GoodN z := fun hz => hgood _ (List.mem_of_mem_drop (List.mem_of_mem_take hz))
    have vnd : ∀ n : Nat, (qs.take n).Nodup := fun n => hnd.sublist (List.take_sublist _ _)
    have vgood : ∀ {n : Nat} {z : List Nat}, z ∈ qs.take n → GoodN z := fun hz => hgood _ (List.mem_of_mem_take hz)
    have hMN : MN ((qs.drop 4).take m) (qs.take k) := ⟨fun z hz => mgood hz, mnd m, fun z hz => disj (by omega) hz, by omega⟩
    refine ⟨_, rfl, _, rfl, _, rfl, _, rfl, _, rfl, p, l, D, qs[9]'(by omega), vr, dr, ts, ds, qs.take k, (qs.drop 4).take m, as, rfl, good (by decide), hroot, hl6, hds6, hvs, fun z hz => vgood hz, vnd k, by rw [List.length_take]; omega, hM6, hms6, hMN, fun H7 s7 => ⟨_, rfl, iteF ?_⟩⟩
    -- the faults
    have k07 := k06.same s7
    refine ⟨_, rfl, p, 7, rfl, k07.2, by decide, by decide, fun H8 f1 k8 a0 a1 => ⟨_, rfl, p, 12, rfl, k8.2, by decide, by decide, fun H9 f2 k9 b0 b1 => ⟨two_le, fun fa nfa => ⟨_, _, rfl, ?_⟩⟩⟩⟩
    have k79 := k8.trans k9
    have sfa := same_upd (o := .lst [.int f1, .int f2]) nfa
    have nfp := bag_ne k9.2 nfa
    have kA := (k07.trans k79).same sfa
    have nfw : fa ≠ w := (ne_of_none (k79.1 _ _ nwp (s7 _ _ hw6)) nfa).symm
    have nbf : Hb fa = none := by
      cases e : Hb fa with
      | none => rfl
      | some o =>
        have := (k07.trans k79).1 _ _ nfp e
        rw [nfa] at this
        cases this
    have ext7 : TupE H6 (upd H9 fa (.lst [.int f1, .int f2])) := ((TupE.same s7).trans (TupE.kp k07.2 k79)).trans (TupE.same sfa)
    have hdsA := hds6.ext ext7
    have hMA := sfa _ _ (k79.1 _ _ nDp (s7 _ _ hM6))
    have hmsA := ((hms6.same s7).ext (kp_ins k07.2 k79)).same sfa
    have hqA := sfa _ _ (k79.1 _ _ nqp (s7 _ _ hq6))
    have hwA := sfa _ _ (k79.1 _ _ nwp (s7 _ _ hw6))
    have hfA : (upd H9 fa (.lst [.int f1, .int f2])) fa = some (.lst [.int f1, .int f2]) := upd_same
    generalize (upd H9 fa (.lst [.int f1, .int f2])) = HA at kA hdsA hMA hmsA hqA hwA hfA ⊢
    -- 6: too many methods
    refine ⟨fun σ' H' => ∃ (aM : Addr) (as : List Addr) (m : Nat) (vd : V), σ' = [some (.ref a), some (.int (0 + (i : Int))), some (.ref p), some (.ref q0), some (.int (0 + (j : Int))), some (.ref l), some (.ref aM), some (.str (S (qs[9]'(by omega)))), some vr, some (.ref w), some (.ref fa), some vd, y12, y13, y14, none, none, none] ∧ Kp p HA H' ∧ aM ≠ p ∧ aM ≠ w ∧ H' aM = some (.lst (as.map V.ref)) ∧ MsAt CM H' as (((qs.drop 4).take m).map S) ∧ ((m ≤ 4 ∧ inF 6 f1 f2 = false) ∨ (m = 5 ∧ inF 6 f1 f2 = true)) ∧ Due K H' vd (if inF 6 f1 f2 = true then some (.tm, .str "methods") else none), ?_, fun σ' HB hMB => ?_⟩
    · refine ⟨_, rfl, fa, _, rfl, .inl (SqL.of hfA), rfl, rfl, _, rfl, ite2 (fun (h6 : inF 6 f1 f2 = true) => ?_) (fun (h6 : ¬ inF 6 f1 f2 = true) => ⟨D, as, m, .non, rfl, Kp.refl kA.2, nDp, nDw, hMA, hmsA, .inl ⟨hm, eq_false_of_ne_true h6⟩, by rw [if_neg h6]; exact Due.non⟩)⟩
      refine ⟨_, rfl, 4, rfl, 9, rfl, q0, _, rfl, SqL.of hqA, fun l3 nl3 => ?_⟩
      rw [show cutV (txts qs) (some 4) (some 9) = ((txts qs).drop 4).take 5 from cut_mid (txts qs) 4 9 (by omega) (by omega), txts_drop, txts_take]
      have sl3 := same_upd (o := .lst (txts ((qs.drop 4).take 5))) nl3
      have hl3 : (upd HA l3 (.lst (txts ((qs.drop 4).take 5)))) l3 = some (.lst (txts ((qs.drop 4).take 5))) := upd_same
      generalize (upd HA l3 (.lst (txts ((qs.drop 4).take 5)))) = HC at sl3 hl3 ⊢
      refine ⟨l3, rfl, ⟨_, SqL.of hl3⟩, fun D2 nD2 => ?_⟩
      refine lc_it (walk_list (xs := txts ((qs.drop 4).take 5))) (fun i H9 => Same HC H9 ∧ ∃ as : List Addr, H9 D2 = some (.lst (as.map V.ref)) ∧ as.length = i ∧ MsAt CM H9 as ((((qs.drop 4).take 5).take i).map S)) ⟨same_upd nD2, [], upd_same, rfl, rfl, fun i a e => by simp at e⟩ (fun _ _ _ h => SqL.of (h.1 _ _ hl3)) ?_ ?_
      · rintro i y H4 H5 hi ⟨sm, as, hDl, has, hms⟩ ⟨rfl, ey⟩
        obtain ⟨z, hz, rfl⟩ := txts_get ey
        have gz : GoodN z := hgood z (List.mem_of_mem_drop (List.mem_of_mem_take (List.mem_of_getElem? hz)))
        refine ⟨rfl, ?_⟩
        unfold tYes
        refine iteT ⟨_, rfl, fun x dx hx hdx ne => ?_⟩
        refine meth_ok hx hdx ne gz fun H6 s6 hx6 => ?_
        have hD6 := s6 _ _ hDl
        refine ⟨_, hD6, ?_, same_grow (sm.trans s6) nD2, as ++ [x], by rw [upd_same, List.map_append]; rfl, by rw [List.length_append, has]; rfl, ?_⟩
        · rw [List.length_map, has]
          rw [txts_len, List.length_take] at hi
          exact small1000 (by omega)
        · rw [List.take_add_one, hz, List.map_append]
          obtain ⟨dy, vp, vr, vx, hx6⟩ := hx6
          exact MsAt.snoc ((hms.same s6).ext (grow_ins hD6)) ⟨dy, vp, vr, vx, grow_ins hD6 _ _ _ hx6⟩
      rintro HD ⟨sHD, as2, hD2, las2, mas2⟩
      rw [txts_len, List.take_of_length_le (Nat.le_refl _)] at mas2
      rw [txts_len] at las2
      refine ⟨two_le, fun t nt => ⟨_, _, rfl, ?_⟩⟩
      have st := same_upd (o := .tup [.str "many", .str "methods"]) nt
      have s0 := (sl3.trans sHD).trans st
      refine ⟨D2, as2, 5, .ref t, rfl, Kp.of kA.2 s0, bag_ne (Kp.of kA.2 sl3).2 nD2, (ne_of_none (sl3 _ _ hwA) nD2).symm, st _ _ hD2, mas2.same st, .inr ⟨rfl, h6⟩, ?_⟩
      rw [if_pos h6]
      exact Due.mk2 upd_same rfl (.str _) (smn_lit (by decide +kernel))
    obtain ⟨aM, as, m, vd, rfl, kAB, nMp, nMw, hMB, hmsB, h6, hdB⟩ := hMB
    have hdsB := hdsA.ext (TupE.kp kA.2 kAB)
    have hqB := kAB.1 _ _ nqp hqA
    have hwB := kAB.1 _ _ nwp hwA
    have hfB := kAB.1 _ _ nfp hfA
    have kB := kA.trans kAB
    -- 5: too many values
    refine ⟨fun σ' H' => ∃ (w : Addr) (ts : List V) (ds : List PyData) (k : Nat) (vd : V), σ' = [some (.ref a), some (.int (0 + (i : Int))), some (.ref p), some (.ref q0), some (.int (0 + (j : Int))), some (.ref l), some (.ref aM), some (.str (S (qs[9]'(by omega)))), some vr, some (.ref w), some (.ref fa), some vd, y12, y13, y14, none, none, none] ∧ Kp p HB H' ∧ w ≠ p ∧ aM ≠ w ∧ q0 ≠ w ∧ fa ≠ w ∧ Hb w = none ∧ H' w = some (.lst ts) ∧ DtAll K H' ts ds ∧ VsOk (qs.take k) ds ∧ ((k ≤ 3 ∧ inF 5 f1 f2 = false) ∨ (k = 4 ∧ inF 5 f1 f2 = true)) ∧ Due K H' vd (if inF 5 f1 f2 = true then some (.tm, .str "values") else if inF 6 f1 f2 = true then some (.tm, .str "methods") else none), ?_, fun σ' HC hMC => ?_⟩
    · refine ⟨_, rfl, fa, _, rfl, .inl (SqL.of hfB), rfl, rfl, _, rfl, ite2 (fun (h5 : inF 5 f1 f2 = true) => ?_) (fun (h5 : ¬ inF 5 f1 f2 = true) => ⟨w, ts, ds, k, vd, rfl, Kp.refl kAB.2, nwp, nMw, nqw, nfw, nbw, hwB, hdsB, hvs, .inl ⟨hk, eq_false_of_ne_true h5⟩, by rw [if_neg h5]; exact hdB⟩)⟩
      refine ⟨_, rfl, 4, rfl, q0, _, rfl, SqL.of hqB, fun l3 nl3 => ?_⟩
      rw [show cutV (txts qs) none (some 4) = (txts qs).take 4 from cut_takeG _ 4, txts_take]
      have sl3 := same_upd (o := .lst (txts (qs.take 4))) nl3
      have hl3 : (upd HB l3 (.lst (txts (qs.take 4)))) l3 = some (.lst (txts (qs.take 4))) := upd_same
      generalize (upd HB l3 (.lst (txts (qs.take 4)))) = HC at sl3 hl3 ⊢
      refine ⟨l3, rfl, ⟨_, SqL.of hl3⟩, fun w2 nw2 => ?_⟩
      refine lc_it (walk_list (xs := txts (qs.take 4))) (fun i H9 => Same HC H9 ∧ ∃ ts ds, H9 w2 = some (.lst ts) ∧ DtAll K H9 ts ds ∧ VsOk ((qs.take 4).take i) ds) ⟨same_upd nw2, [], [], upd_same, .nil, .nil⟩ (fun _ _ _ h => SqL.of (h.1 _ _ hl3)) ?_ ?_
      · rintro i y H4 H5 hi ⟨sm, ts, ds, hDl, hds, hvs⟩ ⟨rfl, ey⟩
        obtain ⟨z, hz, rfl⟩ := txts_get ey
        refine ⟨rfl, ?_⟩
        unfold tYes
        refine iteT ⟨_, rfl, by show 0 ≤ sizeLine; decide, fun t0 n0 => ⟨two_le, fun t1 n1 => ⟨two_le, fun t2 n2 => ?_⟩⟩⟩
        have s0 := same_upd (o := .tup []) n0
        have s1 := same_upd (o := .tup [.str "once", .ref t0]) n1
        have s2 := same_upd (o := .tup [.str (S z), .ref t1]) n2
        have sx := (s0.trans s1).trans s2
        have hD6 := sx _ _ hDl
        have g := TupE.grow (ys := ts ++ [.ref t2]) hD6
        refine ⟨_, hD6, ?_, same_grow (sm.trans sx) nw2, ts ++ [.ref t2], _, upd_same, dpAll_snoc (hds.ext ((TupE.same sx).trans g)) (Dt.tup (g _ _ upd_same) (.cons (.str _) (.cons (Dt.tup (g _ _ (s2 _ _ upd_same)) (.cons (.str _) (.cons (Dt.tup (g _ _ (s2 _ _ (s1 _ _ upd_same))) .nil) .nil))) .nil))), ?_⟩
        · have e1 := dpAll_len hds
          have e2 := hvs.length
          rw [List.length_take, List.length_take] at e2
          exact small1000 (by omega)
        · rw [List.take_add_one, hz]
          exact paired_snoc hvs ⟨_, rfl, .inl ⟨[], its_nil, rfl⟩⟩
      rintro HD ⟨sHD, ts2, ds2, hw2, hds2, hvs2⟩
      rw [txts_len, List.take_of_length_le (Nat.le_refl _)] at hvs2
      refine ⟨two_le, fun t nt => ?_⟩
      have st := same_upd (o := .tup [.str "many", .str "values"]) nt
      have s0 := (sl3.trans sHD).trans st
      have nw2p := bag_ne (Kp.of kAB.2 sl3).2 nw2
      refine ⟨w2, ts2, ds2, 4, .ref t, rfl, Kp.of kAB.2 s0, nw2p, ne_of_none (sl3 _ _ hMB) nw2, ne_of_none (sl3 _ _ hqB) nw2, ne_of_none (sl3 _ _ hfB) nw2, ?_, st _ _ hw2, hds2.ext (TupE.same st), hvs2, .inr ⟨rfl, h5⟩, ?_⟩
      · cases e : Hb w2 with
        | none => rfl
        | some o =>
          have := (kB.same sl3).1 _ _ nw2p e
          rw [nw2] at this
          cases this
      · rw [if_pos h5]
        exact Due.mk2 upd_same rfl (.str _) (smn_lit (by decide +kernel))
    obtain ⟨w, ts, ds, k, vd, rfl, kBC, nwp, nMw, nqw, nfw, nbw, hwC, hdsC, hvs, h5, hdC⟩ := hMC
    have hqC := kBC.1 _ _ nqp hqB
    have hfC := kBC.1 _ _ nfp hfB
    have hMC := kBC.1 _ _ nMp hMB
    have hmsC := hmsB.ext (kp_ins kAB.2 kBC)
    have kC := kB.trans kBC
    have hk4 : k ≤ 4 := by rcases h5 with ⟨h, _⟩ | ⟨h, _⟩ <;> omega
    have hm5 : m ≤ 5 := by rcases h6 with ⟨h, _⟩ | ⟨h, _⟩ <;> omega
    have hdl : ds.length = k := by
      rw [← hvs.length, List.length_take]
      omega
    have hal : as.length = m := by
      have := hmsC.1
      rw [List.length_map, List.length_take, List.length_drop] at this
      omega
    have nmz := vs_names hvs
    have hfb : fbv ds = none := fbv_ok hvs (fun z hz => vgood hz) (vnd k)
    have mnd2 : (((qs.drop 4).take m).map S).Nodup := List.pairwise_map.mpr ((mnd m).imp fun {a b} n e => n (SX.S_inj e))
    have map2 : ∀ z ∈ ((qs.drop 4).take m).map S, z ∉ ds.map nmD := fun z hz hz2 => by
      rw [nmz] at hz2
      obtain ⟨a, ha, rfl⟩ := List.mem_map.mp hz
      obtain ⟨b, hb, e⟩ := List.mem_map.mp hz2
      obtain rfl := SX.S_inj e
      exact disj hk4 ha hb
    have kR : kErrA ds (((qs.drop 4).take m).map S) = if inF 5 f1 f2 = true then some (.tm, .str "values") else if inF 6 f1 f2 = true then some (.tm, .str "methods") else none := by
      rw [kErrA_none (agn_ok mnd2 map2)]
      unfold kErrR
      rw [hdl, List.length_map, show ((qs.drop 4).take m).length = m by rw [List.length_take, List.length_drop]; omega]
      rcases h5 with ⟨h, e⟩ | ⟨h, e⟩
      · rw [if_neg (by omega), e, if_neg Bool.false_ne_true]
        rcases h6 with ⟨h, e⟩ | ⟨h, e⟩
        · rw [if_neg (by omega), e, if_neg Bool.false_ne_true]
        · rw [if_pos (by omega), e, if_pos rfl]
      · rw [if_pos (by omega), e, if_pos rfl]
    -- 4: a name once more
    refine ⟨fun σ' H' => ∃ (aM : Addr) (as : List Addr) (ms : List Str) (vd : V) (y12 : Option V), σ' = [some (.ref a), some (.int (0 + (i : Int))), some (.ref p), some (.ref q0), some (.int (0 + (j : Int))), some (.ref l), some (.ref aM), some (.str (S (qs[9]'(by omega)))), some vr, some (.ref w), some (.ref fa), some vd, y12, y13, y14, none, none, none] ∧ Kp p HC H' ∧ aM ≠ p ∧ aM ≠ w ∧ H' aM = some (.lst (as.map V.ref)) ∧ MsAt CM H' as ms ∧ as.length ≤ 20 ∧ Due K H' vd (kErrA ds ms), ?_, fun σ' HD hMD => ?_⟩
    · refine ⟨_, rfl, fa, _, rfl, .inl (SqL.of hfC), rfl, rfl, _, rfl, ite2 (fun (h4 : inF 4 f1 f2 = true) => ?_) (fun (h4 : ¬ inF 4 f1 f2 = true) => ⟨aM, as, _, vd, _, rfl, Kp.refl kBC.2, nMp, nMw, hMC, hmsC, by omega, by rw [kR]; exact hdC⟩)⟩
      refine ⟨_, rfl, _, rfl, w, aM, ts, as.map V.ref, rfl, rfl, hwC, hMC, ?_, fun c nc => ⟨by show 0 ≤ sizeLine; decide, fun e ne => ⟨c, e, _, rfl, rfl, SqL.of (same_upd ne _ _ upd_same), SqL.of upd_same, _, rfl, ?_⟩⟩⟩
      · rw [List.length_map]
        have := dpAll_len hdsC
        exact Nat.le_of_lt (small1000 (by omega))
      have sc := same_upd (o := .lst (ts ++ as.map V.ref)) nc
      have se := same_upd (o := .lst []) ne
      have sce := sc.trans se
      by_cases hz0 : ts ++ as.map V.ref = []
      · rw [decide_eq_true hz0]
        exact iteF ⟨aM, as, _, vd, _, rfl, Kp.of kBC.2 sce, nMp, nMw, sce _ _ hMC, hmsC.same sce, by omega, by rw [kR]; exact hdC.ext (TupE.same sce)⟩
      rw [decide_eq_false hz0]
      have hne : 1 ≤ ds.length + m := by
        have e1 := dpAll_len hdsC
        have : 0 < (ts ++ as.map V.ref).length := List.length_pos_iff.mpr hz0
        rw [List.length_append, List.length_map] at this
        omega
      refine iteT ?_
      generalize (upd (upd HC c (.lst (ts ++ as.map V.ref))) e (.lst [])) = HE at sce ⊢
      have kE := Kp.of kBC.2 sce
      -- the names of the values
      refine ⟨_, rfl, _, rfl, w, rfl, ⟨_, SqL.of (sce _ _ hwC)⟩, fun D nD => ?_⟩
      have hdE := hdsC.ext (TupE.same sce)
      refine lc_it (walk_list (xs := ts)) (fun i H9 => Same HE H9 ∧ H9 D = some (.lst (((ds.map nmD).take i).map V.str))) ⟨same_upd nD, upd_same⟩ (fun _ _ _ h => SqL.of (h.1 _ _ (sce _ _ hwC))) ?_ ?_
      · rintro i y H4 H5 hi ⟨sm, hDl⟩ ⟨rfl, ey⟩
        obtain ⟨d, hd, hdp⟩ := dpAll_get hdE.dp ey
        obtain ⟨z, hz, hv⟩ := paired_get2 hvs hd
        obtain ⟨t, vm, rfl, ht⟩ := vd_inv hdp hv
        refine ⟨rfl, ?_⟩
        unfold tYes
        refine iteT ⟨_, rfl, t, _, 0, .str (S z), rfl, rfl, Same.seqT sm ht, atI_nat (j := 0) rfl, _, hDl, ?_, same_grow sm nD, ?_⟩
        · rw [List.length_map, List.length_take, List.length_map]
          exact small1000 (by omega)
        · have e1 : nmD d = S z := by
            obtain ⟨m, rfl, _⟩ := hv
            rfl
          rw [upd_same, List.take_add_one, List.getElem?_map, hd, List.map_append, ← e1]
          rfl
      rintro HF ⟨sHF, hDF⟩
      rw [dpAll_len hdE, show (ds.map nmD).take ds.length = ds.map nmD from List.take_of_length_le (by rw [List.length_map]; exact Nat.le_refl _)] at hDF
      have sCF := sce.trans sHF
      -- the names of the methods
      refine ⟨_, rfl, 4, rfl, aM, _, rfl, SqL.of (sCF _ _ hMC), fun l3 nl3 => ?_⟩
      rw [show cutV (as.map V.ref) none (some 4) = (as.map V.ref).take 4 from cut_takeG _ 4, ← List.map_take]
      have sl3 := same_upd (o := .lst ((as.take 4).map V.ref)) nl3
      have hl3 : (upd HF l3 (.lst ((as.take 4).map V.ref))) l3 = some (.lst ((as.take 4).map V.ref)) := upd_same
      generalize (upd HF l3 (.lst ((as.take 4).map V.ref))) = HG at sl3 hl3 ⊢
      have hms4 : MsAt CM HG (as.take 4) ((((qs.drop 4).take m).map S).take 4) := ((hmsC.same sCF).same sl3).take 4
      have l44 : (as.take 4).length = ((((qs.drop 4).take m).map S).take 4).length := hms4.1
      refine ⟨l3, rfl, ⟨_, SqL.of hl3⟩, fun D2 nD2 => ?_⟩
      refine lc_it (walk_list (xs := (as.take 4).map V.ref)) (fun i H9 => Same HG H9 ∧ H9 D2 = some (.lst ((((((qs.drop 4).take m).map S).take 4).take i).map V.str))) ⟨same_upd nD2, upd_same⟩ (fun _ _ _ h => SqL.of (h.1 _ _ hl3)) ?_ ?_
      · rintro i y H4 H5 hi ⟨sm, hDl⟩ ⟨rfl, ey⟩
        rw [List.getElem?_map] at ey
        cases hai : (as.take 4)[i]? with
        | none =>
          rw [hai] at ey
          cases ey
        | some b =>
          rw [hai] at ey
          obtain rfl := Option.some.inj ey
          obtain ⟨z, hz, dy, vp, vr', vx, hat⟩ := hms4.2 i b hai
          refine ⟨rfl, ?_⟩
          unfold tYes
          refine iteT ⟨_, rfl, b, CM, dy, _, _, rfl, sm _ _ hat, T.cl, T.nN, mF_name, _, hDl, ?_, same_grow sm nD2, ?_⟩
          · rw [List.length_map, List.length_take, List.length_take]
            exact small1000 (by omega)
          · rw [upd_same, take_next hz, List.map_append]
            rfl
      rintro HI ⟨sHI, hDI⟩
      rw [List.length_map, l44, List.take_length] at hDI
      have sFI := sl3.trans sHI
      have hm4l : ((((qs.drop 4).take m).map S).take 4).length ≤ 4 := by
        rw [List.length_take]
        omega
      refine ⟨D, D2, _, _, rfl, rfl, sFI _ _ hDF, hDI, ?_, fun c2 nc2 => ?_⟩
      · rw [List.length_map, List.length_map, List.length_map]
        exact Nat.le_of_lt (small1000 (by omega))
      have sc2 := same_upd (o := .lst ((ds.map nmD).map V.str ++ ((((qs.drop 4).take m).map S).take 4).map V.str)) nc2
      have sCI := (sCF.trans sFI).trans sc2
      have kI := Kp.of kBC.2 sCI
      have nc2p := bag_ne (Kp.of kBC.2 (sCF.trans sFI)).2 nc2
      refine ⟨p, .ref c2, rfl, kI.2, .inl ⟨c2, _, rfl, nc2p, SqL.of upd_same, ?_, ?_, fun HJ y kJ hy => ?_⟩⟩
      · rw [List.length_append, List.length_map, List.length_map, List.length_map, List.length_take, List.length_map, List.length_take, List.length_drop]
        omega
      · rw [List.length_append, List.length_map, List.length_map, List.length_map]
        omega
      have kCJ := kI.trans kJ
      obtain ⟨z, rfl, gz, hin⟩ : ∃ z, y = .str (S z) ∧ GoodN z ∧ (S z ∈ ds.map nmD ∨ S z ∈ (((qs.drop 4).take m).map S).take 4) := by
        rcases List.mem_append.mp hy with hy | hy
        · obtain ⟨s, hs, rfl⟩ := List.mem_map.mp hy
          have hs2 := hs
          rw [nmz] at hs2
          obtain ⟨z, hz, rfl⟩ := List.mem_map.mp hs2
          exact ⟨z, rfl, vgood hz, .inl hs⟩
        · obtain ⟨s, hs, rfl⟩ := List.mem_map.mp hy
          obtain ⟨z, hz, rfl⟩ := List.mem_map.mp (List.mem_of_mem_take hs)
          exact ⟨z, rfl, mgood hz, .inr hs⟩
      -- the methods, one more
      have hMJ := kCJ.1 _ _ nMp hMC
      refine ⟨_, rfl, 4, rfl, aM, _, rfl, SqL.of hMJ, fun l4 nl4 => ?_⟩
      rw [show cutV (as.map V.ref) none (some 4) = (as.map V.ref).take 4 from cut_takeG _ 4, ← List.map_take]
      have sl4 := same_upd (o := .lst ((as.take 4).map V.ref)) nl4
      refine ⟨_, rfl, fun x dx hx hdx nex => ?_⟩
      refine meth_ok hx hdx nex gz fun HL sL' hxL => ?_
      refine ⟨by show 1 ≤ sizeLine; decide, fun L1 nL1 => ?_⟩
      have sL1 := same_upd (o := .lst [.ref x]) nL1
      have s4L := (sl4.trans sL').trans sL1
      refine ⟨l4, L1, _, _, rfl, rfl, sL1 _ _ (sL' _ _ upd_same), upd_same, ?_, fun c3 nc3 => ?_⟩
      · rw [List.length_map, l44]
        exact Nat.le_of_lt (small1000 (by show _ + 1 ≤ 1000; omega))
      have sc3 := same_upd (o := .lst ((as.take 4).map V.ref ++ [.ref x])) nc3
      refine ⟨_, rfl, two_le, fun t nt => ⟨_, _, rfl, ?_⟩⟩
      have st := same_upd (o := .tup [.str "twice", .str (S z)]) nt
      have sJT := (s4L.trans sc3).trans st
      have kCT := kCJ.same sJT
      have k4L := kCJ.same s4L
      obtain ⟨dyx, vpx, vrx, vxx, hxL⟩ := hxL
      have hms5 : MsAt CM _ (as.take 4 ++ [x]) ((((qs.drop 4).take m).map S).take 4 ++ [S z]) := MsAt.snoc ((((hmsC.ext (kp_ins kBC.2 kCJ)).same sJT)).take 4) ⟨dyx, vpx, vrx, vxx, st _ _ (sc3 _ _ (sL1 _ _ hxL))⟩
      have hc3 := st _ _ (upd_same (H := upd HL L1 (.lst [.ref x])) (a := c3) (o := .lst ((as.take 4).map V.ref ++ [.ref x])))
      refine ⟨c3, as.take 4 ++ [x], _, .ref t, _, rfl, kCT, bag_ne k4L.2 nc3, ?_, ?_, hms5, ?_, ?_⟩
      · refine (ne_of_none (s4L _ _ (kCJ.1 _ _ nwp hwC)) nc3).symm
      · rw [List.map_append]
        exact hc3
      · rw [List.length_append, l44]
        show _ + 1 ≤ 20
        omega
      · have e1 := agn_again (us := ds.map nmD) (z := S z) (mnd2.sublist (List.take_sublist 4 _)) (fun y hy => map2 y (List.mem_of_mem_take hy)) hin
        rw [kErrA_some e1]
        have e2 : ((((qs.drop 4).take m).map S).take 4 ++ [S z]).getD ((((qs.drop 4).take m).map S).take 4).length "" = S z := by
          rw [List.getD_eq_getElem?_getD, List.getElem?_append_right (Nat.le_refl _), Nat.sub_self]
          rfl
        rw [e2]
        exact Due.mk2 upd_same rfl (.str _) (smn_str (sms_good gz))
    obtain ⟨aM, as, ms, vd, y12, rfl, kCD, nMp, nMw, hMD, hmsD, las, hdD⟩ := hMD
    have hqD := kCD.1 _ _ nqp hqC
    have hfD := kCD.1 _ _ nfp hfC
    have hwD := kCD.1 _ _ nwp hwC
    have hdsD := hdsC.ext (TupE.kp kBC.2 kCD)
    have kD := kC.trans kCD
    -- 3: a wrong value
    have kTA : kErrT ds ms = kErrA ds ms := kErrT_none hfb
    have smD : Smns 6 ds := smns_of fun d hd => by
      obtain ⟨z, hz, hv⟩ := vs_all hvs (fun z hz => vgood hz) d hd
      exact (vd_smn hv (vgood hz)).mono (by decide)
    have lss : ∀ {H' : Hp}, Bag H' p → ∀ {us : List V}, H' w = some (.lst us) → ∀ b, two p w b → ∃ xs, H' b = some (.lst xs) := fun {H'} hB {us} hw => by
      rintro b (rfl | rfl)
      · obtain ⟨u, v, hp, _⟩ := hB
        exact ⟨_, hp⟩
      · exact ⟨_, hw⟩
    refine ⟨fun σ' H' => ∃ (ts : List V) (ds : List PyData) (vd : V) (y12 y13 : Option V), σ' = [some (.ref a), some (.int (0 + (i : Int))), some (.ref p), some (.ref q0), some (.int (0 + (j : Int))), some (.ref l), some (.ref aM), some (.str (S (qs[9]'(by omega)))), some vr, some (.ref w), some (.ref fa), some vd, y12, y13, y14, none, none, none] ∧ Kp p Hb H' ∧ H' q0 = some (.lst (txts qs)) ∧ H' fa = some (.lst [.int f1, .int f2]) ∧ H' w = some (.lst ts) ∧ DpAll K (Ds.hid (two p w) H') ts ds ∧ Smns 6 ds ∧ ds.length ≤ 100 ∧ H' aM = some (.lst (as.map V.ref)) ∧ MsAt CM H' as ms ∧ Due K H' vd (kErrT ds ms), ?_, fun σ' HE hME => ?_⟩
    · refine ⟨_, rfl, fa, _, rfl, .inl (SqL.of hfD), rfl, rfl, _, rfl, ite2 (fun (h3 : inF 3 f1 f2 = true) => ?_) (fun (h3 : ¬ inF 3 f1 f2 = true) => ⟨ts, ds, vd, _, _, rfl, kD, hqD, hfD, hwD, dpAll_hid (lss kD.2 hwD) hdsD, smD, by omega, hMD, hmsD, by rw [kTA]; exact hdD⟩)⟩
      have htl := dpAll_len hdsD
      refine ⟨_, rfl, _, rfl, w, _, rfl, .inl (SqL.of hwD), _, _, rfl, rfl, p, (ts.length : Int) + 1, rfl, kD.2, by omega, by omega, fun HF pl kF p0 p1 => ?_⟩
      obtain ⟨n, rfl⟩ : ∃ n : Nat, pl = (n : Int) := ⟨pl.toNat, by omega⟩
      have hn : n ≤ ts.length := by omega
      have kDF := kD.trans kF
      have hwF := kF.1 _ _ nwp hwD
      have hqF := kF.1 _ _ nqp hqD
      have hdsF := hdsD.ext (TupE.kp kD.2 kF)
      refine ⟨_, rfl, .inl ⟨rfl, _, SqL.of hwF⟩, _, rfl, _, rfl, _, rfl, q0, _, 11, _, rfl, rfl, SqL.of hqF, atI_nat (j := 11) (txts_at (qat (by decide))), _, rfl, _, rfl, _, rfl, w, ts, rfl, SqL.of hwF, fun e ne => ?_⟩
      rw [cut_takeG]
      have se := same_upd (o := .lst (ts.take n)) ne
      have kDe := kDF.same se
      refine ⟨p, e, w, qs[11]'(by omega), ts.take n, ts, ds.take n, (qs.take k).take n, rfl, kDe.2, good (by decide), bag_ne kDF.2 ne, nwp, (ne_of_none hwF ne).symm, upd_same, se _ _ hwF, dpAll_take (hdsF.ext (TupE.same se)) n, vs_take hvs n, fun z hz => vgood (List.mem_of_mem_take hz), by rw [List.length_take, List.length_take]; omega, fun HG v d kG hv hsm hwr => ?_⟩
      have hwG := kG.1 _ _ nwp (se _ _ hwF)
      refine ⟨w, ts, (n : Int), v, rfl, rfl, hwG, ?_, by omega, by omega, ?_⟩
      · exact small1000 (by omega)
      rw [Int.toNat_natCast]
      have kDG := kDe.trans kG
      have keep : ∀ {b : Addr} {o : HO}, b ≠ p → b ≠ w → HD b = some o → (upd HG w (.lst (ts.take n ++ [v] ++ ts.drop n))) b = some o := fun nb nbw e => by
        rw [upd_ne nbw]
        exact kG.1 _ _ nb (se _ _ (kF.1 _ _ nb e))
      have hBG : Bag (upd HG w (.lst (ts.take n ++ [v] ++ ts.drop n))) p := by
        obtain ⟨u, v', hp, hh⟩ := kG.2
        exact ⟨u, v', by rw [upd_ne nwp.symm]; exact hp, hh⟩
      have kbG := kp_new (o := .lst (ts.take n ++ [v] ++ ts.drop n)) kDG nbw nwp
      have gT := TupE.grow (ys := ts.take n ++ [v] ++ ts.drop n) hwG
      have extG : TupE HD (upd HG w (.lst (ts.take n ++ [v] ++ ts.drop n))) := (((TupE.kp kD.2 kF).trans (TupE.same se)).trans (TupE.kp kDe.2 kG)).trans gT
      have hdsG := hdsD.ext extG
      have hls := lss hBG (upd_same (H := HG) (a := w) (o := .lst (ts.take n ++ [v] ++ ts.drop n)))
      have hvG : Dp K (Ds.hid (two p w) (upd HG w (.lst (ts.take n ++ [v] ++ ts.drop n)))) v d := dp_same (Ds.hid_upd (.inr rfl)) hv
      have hall : DpAll K (Ds.hid (two p w) (upd HG w (.lst (ts.take n ++ [v] ++ ts.drop n)))) (ts.take n ++ [v] ++ ts.drop n) (ds.take n ++ [d] ++ ds.drop n) := dpAll_app (dpAll_app (dpAll_take (dpAll_hid hls hdsG) n) (.cons hvG .nil)) (dpAll_drop (dpAll_hid hls hdsG) n)
      have hMG := keep nMp nMw hMD
      have hmsG := hmsD.ext (fun a dx fs e => by
        have na : a ≠ p := fun z => by
          obtain ⟨u, v, hp, _⟩ := kD.2
          rw [z, hp] at e
          cases e
        have nw : a ≠ w := fun z => by
          rw [z, hwD] at e
          cases e
        exact keep na nw e)
      have hqG := keep nqp nqw hqD
      have hfG := keep nfp nfw hfD
      have hwZ := (upd_same (H := HG) (a := w) (o := .lst (ts.take n ++ [v] ++ ts.drop n)))
      generalize (upd HG w (.lst (ts.take n ++ [v] ++ ts.drop n))) = HZ at kbG hall hMG hmsG hqG hfG hwZ hBG ⊢
      refine ⟨_, rfl, two_le, fun t nt => ?_⟩
      have st := same_upd (o := .tup [.str "value", .int (n : Int)]) nt
      refine ⟨_, ds.take n ++ [d] ++ ds.drop n, .ref t, _, _, rfl, kbG.same st, st _ _ hqG, st _ _ hfG, st _ _ hwZ, dpAll_same (Ds.hid_same st) hall, smns_app (smns_app (smns_of fun x hx => smD.all x (List.mem_of_mem_take hx)) (smn_cons hsm smn_nil)) (smns_of fun x hx => smD.all x (List.mem_of_mem_drop hx)), ?_, st _ _ hMG, hmsG.same st, ?_⟩
      · rw [List.length_append, List.length_append, List.length_take, List.length_drop]
        show _ + 1 + _ ≤ 100
        omega
      · rw [kErrT_some (fbv_ins (by omega) hfb hwr)]
        exact Due.mk2 upd_same rfl (.int _) (smn_int _)
    obtain ⟨ts, ds, vd, y12, y13, rfl, kE, hqE, hfE, hwE, hdsE, smE, hdl, hME, hmsE, hdE⟩ := hME
    -- 2: a list in the place of the tuple
    have ngn : ∀ g, HE g = none → ¬ two p w g := fun g ng h => by
      rcases h with h | h
      · exact bag_ne kE.2 ng h
      · exact ne_of_none hwE ng h.symm
    refine ⟨fun σ' H' => ∃ (vg : V) (dv : PyData) (y14 : Option V), σ' = [some (.ref a), some (.int (0 + (i : Int))), some (.ref p), some (.ref q0), some (.int (0 + (j : Int))), some (.ref l), some (.ref aM), some (.str (S (qs[9]'(by omega)))), some vr, some (.ref w), some (.ref fa), some vd, y12, y13, (some vg), none, none, none] ∧ Same HE H' ∧ Dp K (Ds.hid (two p w) H') vg dv ∧ OkD dv ∧ kErrV dv ms = (if inF 2 f1 f2 = true then some (.vl, .int (-1)) else kErrT ds ms), ?_, fun σ' HF hMF => ?_⟩
    · refine ⟨_, rfl, fa, _, rfl, .inl (SqL.of hfE), rfl, rfl, _, rfl, ite2 (fun (h2 : inF 2 f1 f2 = true) => ?_) (fun (h2 : ¬ inF 2 f1 f2 = true) => ?_)⟩
      · refine ⟨_, rfl, w, _, rfl, .inl (SqL.of hwE), fun g ng => ?_⟩
        have sg := same_upd (o := .lst ts) ng
        refine ⟨.ref g, .list ds, none, rfl, sg, .lst (SqL.of (Ds.hid_at (ngn g ng) upd_same)) (dpAll_same (Ds.hid_same sg) hdsE), (smn_lst smE (by omega)).okD (by decide), ?_⟩
        rw [if_pos h2]
        rfl
      · refine ⟨_, rfl, w, _, rfl, .inl ⟨SqL.of hwE, fun g ng => ?_⟩⟩
        have sg := same_upd (o := .tup ts) ng
        refine ⟨.ref g, .tuple ds, none, rfl, sg, .tup (SqT.of (Ds.hid_at (ngn g ng) upd_same)) (dpAll_same (Ds.hid_same sg) hdsE), (smn_tup smE (by omega)).okD (by decide), ?_⟩
        rw [if_neg h2]
        rfl
    obtain ⟨vg, dv, _, rfl, sEF, hvg, okg, hkV⟩ := hMF
    refine ⟨fun σ' H' => ∃ (vd : V), σ' = [some (.ref a), some (.int (0 + (i : Int))), some (.ref p), some (.ref q0), some (.int (0 + (j : Int))), some (.ref l), some (.ref aM), some (.str (S (qs[9]'(by omega)))), some vr, some (.ref w), some (.ref fa), some vd, y12, y13, (some vg), none, none, none] ∧ Same HF H' ∧ Due K H' vd (kErrV dv ms), ?_, fun σ' HG hMG => ?_⟩
    · refine ⟨_, rfl, fa, _, rfl, .inl (SqL.of (sEF _ _ hfE)), rfl, rfl, _, rfl, ite2 (fun (h2 : inF 2 f1 f2 = true) => ?_) (fun (h2 : ¬ inF 2 f1 f2 = true) => ?_)⟩
      · refine ⟨1, rfl, two_le, fun t nt => ⟨.ref t, rfl, same_upd nt, ?_⟩⟩
        rw [hkV, if_pos h2]
        exact Due.mk2 upd_same rfl (.int _) (smn_int _)
      · refine ⟨_, rfl, vd, rfl, Same.refl _, ?_⟩
        rw [hkV, if_neg h2]
        exact hdE.ext (TupE.same sEF)
    obtain ⟨vd, rfl, sFG, hdG⟩ := hMG
    have sEG := sEF.trans sFG
    have kG := kE.same sEG
    have hfG := sEG _ _ hfE
    have hqG := sEG _ _ hqE
    have hMG := sEG _ _ hME
    have hmsG := hmsE.same sEG
    have nEd := Ds.hid_same sEG (p := two p w)
    have hgG := dp_same (Ds.hid_same sFG) hvg
    -- 1: a wrong base
    obtain ⟨hrd, okr, hrn⟩ := hroot.ok (K := K)
    refine ⟨fun σ' H' => ∃ (vb : V) (db : PyData) (vd : V), σ' = [some (.ref a), some (.int (0 + (i : Int))), some (.ref p), some (.ref q0), some (.int (0 + (j : Int))), some (.ref l), some (.ref aM), some (.str (S (qs[9]'(by omega)))), some vb, some (.ref w), some (.ref fa), some vd, y12, y13, (some vg), none, none, none] ∧ Kp p HG H' ∧ Dt K H' vb db ∧ OkD db ∧ Due K H' vd (kErrB db dv ms), ?_, fun σ' HI hMI => ?_⟩
    · refine ⟨_, rfl, fa, _, rfl, .inl (SqL.of hfG), rfl, rfl, _, rfl, ite2 (fun (h1 : inF 1 f1 f2 = true) => ?_) (fun (h1 : ¬ inF 1 f1 f2 = true) => ⟨vr, dr, vd, rfl, Kp.refl kG.2, hrd _, okr, by unfold kErrB; rw [hrn, if_neg Bool.noConfusion]; exact hdG⟩)⟩
      refine ⟨_, rfl, _, rfl, q0, _, 10, _, rfl, rfl, SqL.of hqG, atI_nat (j := 10) (txts_at (qat (by decide))), by show 1 ≤ sizeLine; decide, fun t nt => ⟨by show 7 ≤ sizeLine; decide, fun L nL => ?_⟩⟩
      have st := same_upd (o := .tup [.str (S (qs[10]'(by omega)))]) nt
      have sL := same_upd (o := .lst [.str "", .str "cls", .int 5, .bl true, .ref t, .str "Base", .str "none"]) nL
      have kL := kG.same (st.trans sL)
      refine ⟨p, .ref L, rfl, kL.2, .inl ⟨L, _, rfl, bag_ne (kG.same st).2 nL, SqL.of upd_same, by show 1 ≤ 7; decide, by show 7 ≤ 1000; decide, fun HJ y kJ hy => ?_⟩⟩
      have htJ : HJ t = some (.tup [.str (S (qs[10]'(by omega)))]) := kJ.1 _ _ (bag_ne kG.2 nt) (sL _ _ upd_same)
      obtain ⟨d, hd, hs, hn, hnn⟩ := wrong_name (K := K) (.inl rfl) (good (by decide)) htJ hy
      refine ⟨_, rfl, two_le, fun t2 nt2 => ?_⟩
      have st2 := same_upd (o := .tup [.str "name", y]) nt2
      have kGJ := ((Kp.of kG.2 (st.trans sL)).trans kJ).same st2
      refine ⟨y, d, .ref t2, rfl, kGJ, Dt.ext hd (TupE.same st2), hs.okD (by decide), ?_⟩
      unfold kErrB
      rw [hnn rfl, hn, if_pos (show (false || false) = false from rfl)]
      exact Due.mk2 upd_same rfl (Dt.ext hd (TupE.same st2)) (hs.mono (by decide))
    obtain ⟨vb, db, vd, rfl, kGI, hvb, okb, hdI⟩ := hMI
    have kI := kG.trans kGI
    have hfI := kGI.1 _ _ nfp hfG
    have hqI := kGI.1 _ _ nqp hqG
    -- 0: a wrong name
    refine ⟨fun σ' H' => ∃ (vn : V) (dn : PyData) (vd : V), σ' = [some (.ref a), some (.int (0 + (i : Int))), some (.ref p), some (.ref q0), some (.int (0 + (j : Int))), some (.ref l), some (.ref aM), some vn, some vb, some (.ref w), some (.ref fa), some vd, y12, y13, (some vg), none, none, none] ∧ Kp p HI H' ∧ Dt K H' vn dn ∧ OkD dn ∧ Due K H' vd (kErr dn db dv ms), ?_, fun σ' HL hML => ?_⟩
    · refine ⟨_, rfl, fa, _, rfl, .inl (SqL.of hfI), rfl, rfl, _, rfl, ite2 (fun (h0 : inF 0 f1 f2 = true) => ?_) (fun (h0 : ¬ inF 0 f1 f2 = true) => ?_)⟩
      case refine_2 =>
        have gn9 : GoodN (qs[9]'(by omega)) := good (by decide)
        exact ⟨_, .str (S (qs[9]'(by omega))), vd, rfl, Kp.refl kI.2, .str _, okD_sms (sms_good gn9), by rw [kErr_B, show isNameD (.str (S (qs[9]'(by omega)))) = true from gn9.ok, if_neg Bool.noConfusion]; exact hdI⟩
      refine ⟨_, rfl, _, rfl, q0, _, 10, _, rfl, rfl, SqL.of hqI, atI_nat (j := 10) (txts_at (qat (by decide))), by show 1 ≤ sizeLine; decide, fun t nt => ⟨by show 7 ≤ sizeLine; decide, fun L nL => ?_⟩⟩
      have st := same_upd (o := .tup [.str (S (qs[10]'(by omega)))]) nt
      have sL := same_upd (o := .lst [.str "", .str "cls", .int 5, .non, .ref t, .str "Base", .str "none"]) nL
      have kL := kI.same (st.trans sL)
      refine ⟨p, .ref L, rfl, kL.2, .inl ⟨L, _, rfl, bag_ne (kI.same st).2 nL, SqL.of upd_same, by show 1 ≤ 7; decide, by show 7 ≤ 1000; decide, fun HJ y kJ hy => ?_⟩⟩
      have htJ : HJ t = some (.tup [.str (S (qs[10]'(by omega)))]) := kJ.1 _ _ (bag_ne kI.2 nt) (sL _ _ upd_same)
      obtain ⟨d, hd, hs, hn, _⟩ := wrong_name (K := K) (.inr rfl) (good (by decide)) htJ hy
      refine ⟨_, rfl, two_le, fun t2 nt2 => ?_⟩
      have st2 := same_upd (o := .tup [.str "name", y]) nt2
      have kIJ := ((Kp.of kI.2 (st.trans sL)).trans kJ).same st2
      refine ⟨y, d, .ref t2, rfl, kIJ, Dt.ext hd (TupE.same st2), hs.okD (by decide), ?_⟩
      rw [kErr_B, hn, if_pos rfl]
      exact Due.mk2 upd_same rfl (Dt.ext hd (TupE.same st2)) (hs.mono (by decide))
    obtain ⟨vn, dn, vd, rfl, kIL, hvn, okn, hdL⟩ := hML
    -- what is told is what is due
    have kGL := kGI.trans kIL
    have kL := kG.trans kGL
    have hML := kGL.1 _ _ nMp hMG
    have hgL := Ds.Dq.dp (Ds.Dq.kp hgG (.inl rfl) kGL)
    refine ⟨_, rfl, _, rfl, _, rfl, _, rfl, aM, vn, vb, vg, dn, db, dv, as, ms, rfl, .inr (SqL.of hML), ⟨hvn.dp, okn, (Dt.ext hvb (TupE.kp kI.2 kIL)).dp, okb, hgL, okg, hmsG.ext (kp_ins kG.2 kGL), by omega⟩, fun HZ v sZ hv => ⟨_, rfl, _, _, hv, dp_same sZ hdL.d.dp, hdL.ok.sh, hdL.ok.sh, _, rfl, ?_⟩⟩
    rw [eqvR hdL.ok]
    exact iteF ⟨kL.same sZ, sZ _ _ (kGL.1 _ _ nqp hqG), _, _, _, _, _, _, _, _, _, _, _, rfl⟩
end
end Dr
namespace Dr
open PySem PySem.Spec PyProof.Rows L2
open SX (S S_len S_cat)
/-- values that are these texts -/
def strsB : List Value → List Str → Bool
  | [], [] => true
  | .str x _ :: us, z :: zs => (x == z) && strsB us zs
  | _, _ => false
theorem strsB_vals : ∀ {us : List Value} {zs : List Str}, strsB us zs = true → Vals (zs.map V.str) us
  | [], [], _ => .nil
  | .str x t :: us, z :: zs, h => by
    have h' : ((x == z) && strsB us zs) = true := h
    rw [Bool.and_eq_true, beq_iff_eq] at h'
    obtain ⟨rfl, h2⟩ := h'
    exact .cons ⟨t, rfl⟩ (strsB_vals h2)
  | [], _ :: _, h => by cases h
  | .str _ _ :: _, [], h => by cases h
theorem strsB_len : ∀ {us : List Value} {zs : List Str}, strsB us zs = true → us.length = zs.length := fun h => by
  have := (strsB_vals h).length
  rw [List.length_map] at this
  exact this.symm
theorem fm_of {K : PySem.W.Frag} {a : Addr} {dd : Option Addr} {its : Array Value} {n : Nat} {sl : Array (Option Value)} {zs : List Str} (l : K.lookup a = some ⟨.type "tuple", dd, .seq its n, sl⟩) (h : strsB its.toList zs = true) (hz : zs.length ≤ 1000) : FmAt K a zs := fun H =>
  .inr ⟨_, its, n, l, rfl, rfl, by
    have := strsB_len h
    rw [Array.length_toList] at this
    rw [this]
    exact Nat.le_of_lt (small1000 hz), strsB_vals h⟩
theorem fms_of {K : PySem.W.Frag} {a : Addr} {dd : Option Addr} {n : Nat} {sl : Array (Option Value)} {as : List Addr} {fs : List Form} (l : K.lookup a = some ⟨.type "tuple", dd, .seq (as.map Value.ref).toArray n, sl⟩) (h : as.length ≤ 1000) (p : Paired (FmAt K) as fs) : Fms K a fs := by
  refine ⟨as, fun H => .inr ⟨_, _, n, l, rfl, rfl, ?_, ?_⟩, p⟩
  · show (as.map Value.ref).toArray.size ≤ sizeLine
    rw [List.size_toArray, List.length_map]
    exact Nat.le_of_lt (small1000 h)
  · show Vals (as.map V.ref) (as.map Value.ref)
    clear l h p
    induction as with
    | nil => exact .nil
    | cons b r ih => exact .cons rfl ih
theorem exm_val {K : PySem.W.Frag} {T S : Addr} {b : Bool} (h1 : PySem.W.subIn K (.ref S) (.type "BaseException") = some true) (h2 : PySem.W.isClsIn K S = true) (h3 : PySem.W.typeIn K (.ref S) = some (.type "type")) (h4 : PySem.W.subIn K (.ref T) (.ref S) = some b) :
    PySem.W.exmOne K (.ref T) (.ref S) = some b := by
  have e1 : (PySem.W.subIn K (.ref S) (.type "BaseException") == some true) = true := by rw [h1] <;> rfl
  have e2 : ((PySem.W.clsIn K S).isSome && PySem.W.typeIn K (.ref S) == some (.type "type")) = true := by
    have h2' : (PySem.W.clsIn K S).isSome = true := h2
    rw [h2', h3] <;> rfl
  show (if (PySem.W.subIn K (.ref S) (.type "BaseException") == some true) = true then (if ((PySem.W.clsIn K S).isSome && PySem.W.typeIn K (.ref S) == some (.type "type")) = true then PySem.W.subIn K (.ref T) (.ref S) else none) else none) = some b
  rw [if_pos e1, if_pos e2]
  exact h4
theorem all_mk {l : PySem.W.OpenLaw} {w : World} {K : PySem.W.Frag} {h : Heap} {mg : Str → Option Value} {fa CM CK DM DK DKO aE aV aV2 aR0 pK fmi fki fko fke CN CT CV CI gN gT gV gI aB aMk aRe x1 x2 r1 r2 r3 r4 fnm fow fas fit fag ffo fso fhf fpa fiv ffv ffb fus fco fbg ftk fof fns fvl fwv ftd fmr flw : Addr} (X : K.In h) (G : h.Ns mainGlobals mg) (hfa : mg "law" = some (.ref fa))
    {odnm annm odow anow odas anas odit anit odag anag odfo anfo odso anso odhf anhf odpa anpa odiv aniv odfv anfv odfb anfb odus anus odco anco odbg anbg odtk antk odof anof odns anns odvl anvl odwv anwv odtd antd odmr anmr odlw anlw odke anke odmi anmi odki anki odko anko odxN anxN odxV anxV odxT anxT odxI anxI ddaB ddaR0 ddaE ddaV ddaMk ddaRe ddx1 ddx2 ddr1 ddr2 ddr3 ddr4 : Option Addr} {slnm slow slas slit slag slfo slso slhf slpa sliv slfv slfb slus slco slbg sltk slof slns slvl slwv sltd slmr sllw slke slmi slki slko slxN slxV slxT slxI ssaB ssaR0 ssaE ssaV ssaMk ssaRe ssx1 ssx2 ssr1 ssr2 ssr3 ssr4 : Array (Option Value)} {ocnm dcnm pmnm cdnm ctnm kVnm ocow dcow pmow cdow ctow kVow ocas dcas pmas cdas ctas kVas ocit dcit pmit cdit ctit kVit ocag dcag pmag cdag ctag kVag ocfo dcfo pmfo cdfo ctfo kVfo ocso dcso pmso cdso ctso kVso ochf dchf pmhf cdhf cthf kVhf ocpa dcpa pmpa cdpa ctpa kVpa ociv dciv pmiv cdiv ctiv kViv ocfv dcfv pmfv cdfv ctfv kVfv ocfb dcfb pmfb cdfb ctfb kVfb ocus dcus pmus cdus ctus kVus occo dcco pmco cdco ctco kVco ocbg dcbg pmbg cdbg ctbg kVbg octk dctk pmtk cdtk cttk kVtk ocof dcof pmof cdof ctof kVof ocns dcns pmns cdns ctns kVns ocvl dcvl pmvl cdvl ctvl kVvl ocwv dcwv pmwv cdwv ctwv kVwv octd dctd pmtd cdtd cttd kVtd ocmr dcmr pmmr cdmr ctmr kVmr oclw dclw pmlw cdlw ctlw kVlw ocke dcke pmke cdke ctke kVke ocmi dcmi pmmi cdmi ctmi ocki dcki pmki cdki ctki ocko dcko pmko cdko ctko ocxN dcxN pmxN cdxN ctxN kVxN ocxV dcxV pmxV cdxV ctxV kVxV ocxT dcxT pmxT cdxT ctxT kVxT ocxI dcxI pmxI cdxI ctxI kVxI : Value} {tl tk1 tk2 tk3 tk4 tk5 : Tok} {rst : List Value} {nmN qN nmV qV nmT qT nmI qI : Str} {NN BAN NV BAV NT BAT NI BAI : Addr} {bsN subN bsV subV bsT subT bsI subI : List Value} {snN snV snT snI : List Str} {abN abV abT abI : Bool} {colN colV colT colI : Option Bool} {ddN ddV ddT ddI : Option Addr} {u0N u1N u2N u3N u5N u0V u1V u2V u3V u5V u0T u1T u2T u3T u5T u0I u1I u2I u3I u5I : Option Value} {itaB itaR0 itaE itaV itx1 itx2 itr1 itr2 itr3 itr4 : Array Value} {nnaB nnaR0 nnaE nnaV nnaMk nnaRe nnx1 nnx2 nnr1 nnr2 nnr3 nnr4 : Nat}
    (anm : PySem.W.nsIn K mainGlobals "is_name" = some (some (.ref fnm)))
    (lnm : K.lookup fnm = some ⟨ocnm, odnm, .func (PySem.W.fnOf "is_name" "is_name" (defArgs sIsName) (defBody sIsName) (defScope sIsName) .none kVnm dcnm pmnm annm cdnm ctnm), slnm⟩)
    (cnm : PySem.W.codeIn K cdnm "is_name" = true)
    (knm : PySem.W.keepIn K (.ref fnm) = true)
    (aow : PySem.W.nsIn K mainGlobals "is_owner" = some (some (.ref fow)))
    (low : K.lookup fow = some ⟨ocow, odow, .func (PySem.W.fnOf "is_owner" "is_owner" (defArgs sIsOwner) (defBody sIsOwner) (defScope sIsOwner) .none kVow dcow pmow anow cdow ctow), slow⟩)
    (cow : PySem.W.codeIn K cdow "is_owner" = true)
    (kow : PySem.W.keepIn K (.ref fow) = true)
    (aas : PySem.W.nsIn K mainGlobals "is_ascending" = some (some (.ref fas)))
    (las : K.lookup fas = some ⟨ocas, odas, .func (PySem.W.fnOf "is_ascending" "is_ascending" (defArgs sIsAsc) (defBody sIsAsc) (defScope sIsAsc) .none kVas dcas pmas anas cdas ctas), slas⟩)
    (cas : PySem.W.codeIn K cdas "is_ascending" = true)
    (kas : PySem.W.keepIn K (.ref fas) = true)
    (ait : PySem.W.nsIn K mainGlobals "is_items" = some (some (.ref fit)))
    (lit : K.lookup fit = some ⟨ocit, odit, .func (PySem.W.fnOf "is_items" "is_items" (defArgs sIsItems) (defBody sIsItems) (defScope sIsItems) .none kVit dcit pmit anit cdit ctit), slit⟩)
    (cit : PySem.W.codeIn K cdit "is_items" = true)
    (kit : PySem.W.keepIn K (.ref fit) = true)
    (aag : PySem.W.nsIn K mainGlobals "first_again" = some (some (.ref fag)))
    (lag : K.lookup fag = some ⟨ocag, odag, .func (PySem.W.fnOf "first_again" "first_again" (defArgs sAgain) (defBody sAgain) (defScope sAgain) .none kVag dcag pmag anag cdag ctag), slag⟩)
    (cag : PySem.W.codeIn K cdag "first_again" = true)
    (kag : PySem.W.keepIn K (.ref fag) = true)
    (afo : PySem.W.nsIn K mainGlobals "form_of" = some (some (.ref ffo)))
    (lfo : K.lookup ffo = some ⟨ocfo, odfo, .func (PySem.W.fnOf "form_of" "form_of" (defArgs sFormOf) (defBody sFormOf) (defScope sFormOf) .none kVfo dcfo pmfo anfo cdfo ctfo), slfo⟩)
    (cfo : PySem.W.codeIn K cdfo "form_of" = true)
    (kfo : PySem.W.keepIn K (.ref ffo) = true)
    (aso : PySem.W.nsIn K mainGlobals "is_of_sort" = some (some (.ref fso)))
    (lso : K.lookup fso = some ⟨ocso, odso, .func (PySem.W.fnOf "is_of_sort" "is_of_sort" (defArgs sIsSort) (defBody sIsSort) (defScope sIsSort) .none kVso dcso pmso anso cdso ctso), slso⟩)
    (cso : PySem.W.codeIn K cdso "is_of_sort" = true)
    (kso : PySem.W.keepIn K (.ref fso) = true)
    (ahf : PySem.W.nsIn K mainGlobals "has_form" = some (some (.ref fhf)))
    (lhf : K.lookup fhf = some ⟨ochf, odhf, .func (PySem.W.fnOf "has_form" "has_form" (defArgs sHasForm) (defBody sHasForm) (defScope sHasForm) .none kVhf dchf pmhf anhf cdhf cthf), slhf⟩)
    (chf : PySem.W.codeIn K cdhf "has_form" = true)
    (khf : PySem.W.keepIn K (.ref fhf) = true)
    (apa : PySem.W.nsIn K mainGlobals "parts_of" = some (some (.ref fpa)))
    (lpa : K.lookup fpa = some ⟨ocpa, odpa, .func (PySem.W.fnOf "parts_of" "parts_of" (defArgs sParts) (defBody sParts) (defScope sParts) .none kVpa dcpa pmpa anpa cdpa ctpa), slpa⟩)
    (cpa : PySem.W.codeIn K cdpa "parts_of" = true)
    (kpa : PySem.W.keepIn K (.ref fpa) = true)
    (aiv : PySem.W.nsIn K mainGlobals "is_value" = some (some (.ref fiv)))
    (liv : K.lookup fiv = some ⟨ociv, odiv, .func (PySem.W.fnOf "is_value" "is_value" (defArgs sIsVal) (defBody sIsVal) (defScope sIsVal) .none kViv dciv pmiv aniv cdiv ctiv), sliv⟩)
    (civ : PySem.W.codeIn K cdiv "is_value" = true)
    (kiv : PySem.W.keepIn K (.ref fiv) = true)
    (afv : PySem.W.nsIn K mainGlobals "first_bad_value" = some (some (.ref ffv)))
    (lfv : K.lookup ffv = some ⟨ocfv, odfv, .func (PySem.W.fnOf "first_bad_value" "first_bad_value" (defArgs sFBV) (defBody sFBV) (defScope sFBV) .none kVfv dcfv pmfv anfv cdfv ctfv), slfv⟩)
    (cfv : PySem.W.codeIn K cdfv "first_bad_value" = true)
    (kfv : PySem.W.keepIn K (.ref ffv) = true)
    (afb : PySem.W.nsIn K mainGlobals "first_bad_row" = some (some (.ref ffb)))
    (lfb : K.lookup ffb = some ⟨ocfb, odfb, .func (PySem.W.fnOf "first_bad_row" "first_bad_row" (defArgs sFirst) (defBody sFirst) (defScope sFirst) .none kVfb dcfb pmfb anfb cdfb ctfb), slfb⟩)
    (cfb : PySem.W.codeIn K cdfb "first_bad_row" = true)
    (kfb : PySem.W.keepIn K (.ref ffb) = true)
    (aus : PySem.W.nsIn K mainGlobals "uses_only" = some (some (.ref fus)))
    (lus : K.lookup fus = some ⟨ocus, odus, .func (PySem.W.fnOf "uses_only" "uses_only" (defArgs sUses) (defBody sUses) (defScope sUses) .none kVus dcus pmus anus cdus ctus), slus⟩)
    (cus : PySem.W.codeIn K cdus "uses_only" = true)
    (kus : PySem.W.keepIn K (.ref fus) = true)
    (aco : PySem.W.nsIn K mainGlobals "check_order" = some (some (.ref fco)))
    (lco : K.lookup fco = some ⟨occo, odco, .func (PySem.W.fnOf "check_order" "check_order" (defArgs sOrder) (defBody sOrder) (defScope sOrder) .none kVco dcco pmco anco cdco ctco), slco⟩)
    (cco : PySem.W.codeIn K cdco "check_order" = true)
    (kco : PySem.W.keepIn K (.ref fco) = true)
    (abg : PySem.W.nsIn K mainGlobals "_law_bag" = some (some (.ref fbg)))
    (lbg : K.lookup fbg = some ⟨ocbg, odbg, .func (PySem.W.fnOf "_law_bag" "_law_bag" (defArgs sBag) (defBody sBag) (defScope sBag) .none kVbg dcbg pmbg anbg cdbg ctbg), slbg⟩)
    (cbg : PySem.W.codeIn K cdbg "_law_bag" = true)
    (kbg : PySem.W.keepIn K (.ref fbg) = true)
    (atk : PySem.W.nsIn K mainGlobals "_law_take" = some (some (.ref ftk)))
    (ltk : K.lookup ftk = some ⟨octk, odtk, .func (PySem.W.fnOf "_law_take" "_law_take" (defArgs sTake) (defBody sTake) (defScope sTake) .none kVtk dctk pmtk antk cdtk cttk), sltk⟩)
    (ctk : PySem.W.codeIn K cdtk "_law_take" = true)
    (ktk : PySem.W.keepIn K (.ref ftk) = true)
    (aof : PySem.W.nsIn K mainGlobals "_law_of" = some (some (.ref fof)))
    (lof : K.lookup fof = some ⟨ocof, odof, .func (PySem.W.fnOf "_law_of" "_law_of" (defArgs sOf) (defBody sOf) (defScope sOf) .none kVof dcof pmof anof cdof ctof), slof⟩)
    (cof : PySem.W.codeIn K cdof "_law_of" = true)
    (kof : PySem.W.keepIn K (.ref fof) = true)
    (ans : PySem.W.nsIn K mainGlobals "_law_names" = some (some (.ref fns)))
    (lns : K.lookup fns = some ⟨ocns, odns, .func (PySem.W.fnOf "_law_names" "_law_names" (defArgs sNames) (defBody sNames) (defScope sNames) .none kVns dcns pmns anns cdns ctns), slns⟩)
    (cns : PySem.W.codeIn K cdns "_law_names" = true)
    (kns : PySem.W.keepIn K (.ref fns) = true)
    (avl : PySem.W.nsIn K mainGlobals "_law_values" = some (some (.ref fvl)))
    (lvl : K.lookup fvl = some ⟨ocvl, odvl, .func (PySem.W.fnOf "_law_values" "_law_values" (defArgs sVals) (defBody sVals) (defScope sVals) .none kVvl dcvl pmvl anvl cdvl ctvl), slvl⟩)
    (cvl : PySem.W.codeIn K cdvl "_law_values" = true)
    (kvl : PySem.W.keepIn K (.ref fvl) = true)
    (awv : PySem.W.nsIn K mainGlobals "_law_wrong_value" = some (some (.ref fwv)))
    (lwv : K.lookup fwv = some ⟨ocwv, odwv, .func (PySem.W.fnOf "_law_wrong_value" "_law_wrong_value" (defArgs sWV) (defBody sWV) (defScope sWV) .none kVwv dcwv pmwv anwv cdwv ctwv), slwv⟩)
    (cwv : PySem.W.codeIn K cdwv "_law_wrong_value" = true)
    (kwv : PySem.W.keepIn K (.ref fwv) = true)
    (atd : PySem.W.nsIn K mainGlobals "_law_told" = some (some (.ref ftd)))
    (ltd : K.lookup ftd = some ⟨octd, odtd, .func (PySem.W.fnOf "_law_told" "_law_told" (defArgs sTold) (defBody sTold) (defScope sTold) .none kVtd dctd pmtd antd cdtd cttd), sltd⟩)
    (ctd : PySem.W.codeIn K cdtd "_law_told" = true)
    (ktd : PySem.W.keepIn K (.ref ftd) = true)
    (amr : PySem.W.nsIn K mainGlobals "_law_made_right" = some (some (.ref fmr)))
    (lmr : K.lookup fmr = some ⟨ocmr, odmr, .func (PySem.W.fnOf "_law_made_right" "_law_made_right" (defArgs sMR) (defBody sMR) (defScope sMR) .none kVmr dcmr pmmr anmr cdmr ctmr), slmr⟩)
    (cmr : PySem.W.codeIn K cdmr "_law_made_right" = true)
    (kmr : PySem.W.keepIn K (.ref fmr) = true)
    (alw : PySem.W.nsIn K mainGlobals "law" = some (some (.ref flw)))
    (llw : K.lookup flw = some ⟨oclw, odlw, .func (PySem.W.fnOf "law" "law" (defArgs sLaw) (defBody sLaw) (defScope sLaw) .none kVlw dclw pmlw anlw cdlw ctlw), sllw⟩)
    (clw : PySem.W.codeIn K cdlw "law" = true)
    (klw : PySem.W.keepIn K (.ref flw) = true)
    (aCM : PySem.W.nsIn K mainGlobals "Method" = some (some (.ref CM)))
    (Mpg : PySem.W.plainGet K CM Str.empty = true)
    (Mhd : PySem.W.hasDictIn K CM = true)
    (Mpo : PySem.W.plainOver K CM = true)
    (Msa : PySem.W.findIn K (.ref CM) "__setattr__" = some (some (.builtin "object.__setattr__")))
    (Mmk : PySem.W.makesIn K CM = true)
    (Mkc : PySem.W.keepIn K (.ref CM) = true)
    (Mn0 : PySem.W.findIn K (.ref CM) "name" = some none)
    (Mn1 : PySem.W.findIn K (.ref CM) "params" = some none)
    (Mn2 : PySem.W.findIn K (.ref CM) "rows" = some none)
    (Mn3 : PySem.W.findIn K (.ref CM) "returns" = some none)
    (Mrd : PySem.W.readsIn K CM (.type "type") = true)
    (Mga : PySem.W.specialIn K (.ref CM) "__getattribute__" = some (some (.builtin "type.__getattribute__")))
    (Mk1 : PySem.W.findCls K (.ref CM) (.type "type") "MOST_PARAMS" = some (.val (.int 4 tk1)))
    (Mk2 : PySem.W.findCls K (.ref CM) (.type "type") "MOST_BOXES" = some (.val (.int 2 tk2)))
    (Mk3 : PySem.W.findCls K (.ref CM) (.type "type") "MOST_ROWS" = some (.val (.int 8 tk3)))
    (aCK : PySem.W.nsIn K mainGlobals "Kind" = some (some (.ref CK)))
    (Kpg : PySem.W.plainGet K CK Str.empty = true)
    (Khd : PySem.W.hasDictIn K CK = true)
    (Kpo : PySem.W.plainOver K CK = true)
    (Ksa : PySem.W.findIn K (.ref CK) "__setattr__" = some (some (.builtin "object.__setattr__")))
    (Kmk : PySem.W.makesIn K CK = true)
    (Kkc : PySem.W.keepIn K (.ref CK) = true)
    (Kn0 : PySem.W.findIn K (.ref CK) "name" = some none)
    (Kn1 : PySem.W.findIn K (.ref CK) "methods" = some none)
    (Kn2 : PySem.W.findIn K (.ref CK) "base" = some none)
    (Kn3 : PySem.W.findIn K (.ref CK) "own_values" = some none)
    (Krd : PySem.W.readsIn K CK (.type "type") = true)
    (Kga : PySem.W.specialIn K (.ref CK) "__getattribute__" = some (some (.builtin "type.__getattribute__")))
    (Kk1 : PySem.W.findCls K (.ref CK) (.type "type") "MOST_VALUES" = some (.val (.int 3 tk4)))
    (Kk2 : PySem.W.findCls K (.ref CK) (.type "type") "MOST_METHODS" = some (.val (.int 4 tk5)))
    (Kof : PySem.W.findCls K (.ref CK) (.type "type") "of" = some (.get (.builtin "classmethod.__get__") (.ref pK) .none (.ref CK)))
    (Krc : PySem.W.recIn K pK "classmethod" = some (.ref fko :: rst))
    (Kfi : PySem.W.fnIn K fko = true)
    (Kha : PySem.W.findIn K (.ref CK) "__class__" = some (some (.builtin "object.__class__")))
    (Khn : PySem.W.specialIn K (.builtin "object.__class__") "__get__" = some (some (.builtin "getset_descriptor.__get__")))
    (Khtk : PySem.W.takesIn K (.builtin "object.__class__") = some true)
    (Khm : PySem.W.mroIn K CK (.type "object") = some true)
    (KisC : PySem.W.isClsIn K CK = true)
    (KtyC : PySem.W.typeIn K (.ref CK) = some (.type "type"))
    (Keq : PySem.W.findIn K (.ref CK) "__eq__" = some (some (.ref fke)))
    (Kefn : PySem.W.isFn K (.ref fke) = true)
    (Kne : PySem.W.findIn K (.ref CK) "__ne__" = some (some (.builtin "object.__ne__")))
    (lke : K.lookup fke = some ⟨ocke, odke, .func (PySem.W.fnOf "__eq__" "Kind.__eq__" (defArgs sKEq) (defBody sKEq) (defScope sKEq) .none kVke dcke pmke anke cdke ctke), slke⟩)
    (cke : PySem.W.codeIn K cdke "Kind.__eq__" = true)
    (kke : PySem.W.keepIn K (.ref fke) = true)
    (ami : PySem.W.findIn K (.ref CM) "__init__" = some (some (.ref fmi)))
    (imi : PySem.W.isFn K (.ref fmi) = true)
    (lmi : K.lookup fmi = some ⟨ocmi, odmi, .func (PySem.W.fnOf "__init__" "Method.__init__" (defArgs sMI) (defBody sMI) (defScope sMI) .none (.ref DM) dcmi pmmi anmi cdmi ctmi), slmi⟩)
    (cmi : PySem.W.codeIn K cdmi "Method.__init__" = true)
    (kmi : PySem.W.keepIn K (.ref fmi) = true)
    (dM1 : PySem.W.nsIn K DM "rows" = some (some (.ref aE)))
    (dM2 : PySem.W.nsIn K DM "returns" = some (some (.ref aR0)))
    (aki : PySem.W.findIn K (.ref CK) "__init__" = some (some (.ref fki)))
    (iki : PySem.W.isFn K (.ref fki) = true)
    (lki : K.lookup fki = some ⟨ocki, odki, .func (PySem.W.fnOf "__init__" "Kind.__init__" (defArgs sKI) (defBody sKI) (defScope sKI) .none (.ref DK) dcki pmki anki cdki ctki), slki⟩)
    (cki : PySem.W.codeIn K cdki "Kind.__init__" = true)
    (kki : PySem.W.keepIn K (.ref fki) = true)
    (dK1 : PySem.W.nsIn K DK "base" = some (some .none))
    (dK2 : PySem.W.nsIn K DK "values" = some (some (.ref aV)))
    (lko : K.lookup fko = some ⟨ocko, odko, .func (PySem.W.fnOf "of" "Kind.of" (defArgs sKOf) (defBody sKOf) (defScope sKOf) .none (.ref DKO) dcko pmko anko cdko ctko), slko⟩)
    (cko : PySem.W.codeIn K cdko "Kind.of" = true)
    (kko : PySem.W.keepIn K (.ref fko) = true)
    (dO1 : PySem.W.nsIn K DKO "base" = some (some .none))
    (dO2 : PySem.W.nsIn K DKO "values" = some (some (.ref aV2)))
    (aCN : PySem.W.nsIn K mainGlobals "BadName" = some (some (.ref CN)))
    (xLN : K.lookup CN = some (excClassObj nmN qN CN NN bsN [.ref BAN, .type "ValueError", .type "Exception", .type "BaseException", .type "object"] true snN subN abN colN ddN u0N u1N u2N u3N u5N "ValueError.__new__"))
    (saN : PySem.W.findIn K (.ref CN) "__setattr__" = some (some (.builtin "object.__setattr__")))
    (gatN : PySem.W.findIn K (.ref CN) "__getattribute__" = some (some (.builtin "BaseException.__getattribute__")))
    (ggN : PySem.W.findIn K (.ref CN) "__getattr__" = some none)
    (nfN : PySem.W.findIn K (.ref CN) "name" = some none)
    (aiN : PySem.W.findIn K (.ref CN) "__init__" = some (some (.ref gN)))
    (tiN : PySem.W.typeIn K (.ref gN) = some (.type "function"))
    (liN : K.lookup gN = some ⟨ocxN, odxN, .func (PySem.W.fnOf "__init__" "BadName.__init__" (defArgs sENm) (defBody sENm) (defScope sENm) .none kVxN dcxN pmxN anxN cdxN ctxN), slxN⟩)
    (ciN : PySem.W.codeIn K cdxN "BadName.__init__" = true)
    (kiN : PySem.W.keepIn K (.ref gN) = true)
    (kCN : PySem.W.keepIn K (.ref CN) = true)
    (eCN : PySem.W.subIn K (.ref CN) (.type "BaseException") = some true)
    (tCN : PySem.W.typeIn K (.ref CN) = some (.type "type"))
    (hCN : PySem.W.hasDictIn K CN = true)
    (iCN : PySem.W.isClsIn K CN = true)
    (aCV : PySem.W.nsIn K mainGlobals "BadValue" = some (some (.ref CV)))
    (xLV : K.lookup CV = some (excClassObj nmV qV CV NV bsV [.ref BAV, .type "ValueError", .type "Exception", .type "BaseException", .type "object"] true snV subV abV colV ddV u0V u1V u2V u3V u5V "ValueError.__new__"))
    (saV : PySem.W.findIn K (.ref CV) "__setattr__" = some (some (.builtin "object.__setattr__")))
    (gatV : PySem.W.findIn K (.ref CV) "__getattribute__" = some (some (.builtin "BaseException.__getattribute__")))
    (ggV : PySem.W.findIn K (.ref CV) "__getattr__" = some none)
    (nfV : PySem.W.findIn K (.ref CV) "at" = some none)
    (aiV : PySem.W.findIn K (.ref CV) "__init__" = some (some (.ref gV)))
    (tiV : PySem.W.typeIn K (.ref gV) = some (.type "function"))
    (liV : K.lookup gV = some ⟨ocxV, odxV, .func (PySem.W.fnOf "__init__" "BadValue.__init__" (defArgs sERw) (defBody sERw) (defScope sERw) .none kVxV dcxV pmxV anxV cdxV ctxV), slxV⟩)
    (ciV : PySem.W.codeIn K cdxV "BadValue.__init__" = true)
    (kiV : PySem.W.keepIn K (.ref gV) = true)
    (kCV : PySem.W.keepIn K (.ref CV) = true)
    (eCV : PySem.W.subIn K (.ref CV) (.type "BaseException") = some true)
    (tCV : PySem.W.typeIn K (.ref CV) = some (.type "type"))
    (hCV : PySem.W.hasDictIn K CV = true)
    (iCV : PySem.W.isClsIn K CV = true)
    (aCT : PySem.W.nsIn K mainGlobals "Twice" = some (some (.ref CT)))
    (xLT : K.lookup CT = some (excClassObj nmT qT CT NT bsT [.ref BAT, .type "ValueError", .type "Exception", .type "BaseException", .type "object"] true snT subT abT colT ddT u0T u1T u2T u3T u5T "ValueError.__new__"))
    (saT : PySem.W.findIn K (.ref CT) "__setattr__" = some (some (.builtin "object.__setattr__")))
    (gatT : PySem.W.findIn K (.ref CT) "__getattribute__" = some (some (.builtin "BaseException.__getattribute__")))
    (ggT : PySem.W.findIn K (.ref CT) "__getattr__" = some none)
    (nfT : PySem.W.findIn K (.ref CT) "name" = some none)
    (aiT : PySem.W.findIn K (.ref CT) "__init__" = some (some (.ref gT)))
    (tiT : PySem.W.typeIn K (.ref gT) = some (.type "function"))
    (liT : K.lookup gT = some ⟨ocxT, odxT, .func (PySem.W.fnOf "__init__" "Twice.__init__" (defArgs sETw) (defBody sETw) (defScope sETw) .none kVxT dcxT pmxT anxT cdxT ctxT), slxT⟩)
    (ciT : PySem.W.codeIn K cdxT "Twice.__init__" = true)
    (kiT : PySem.W.keepIn K (.ref gT) = true)
    (kCT : PySem.W.keepIn K (.ref CT) = true)
    (eCT : PySem.W.subIn K (.ref CT) (.type "BaseException") = some true)
    (tCT : PySem.W.typeIn K (.ref CT) = some (.type "type"))
    (hCT : PySem.W.hasDictIn K CT = true)
    (iCT : PySem.W.isClsIn K CT = true)
    (aCI : PySem.W.nsIn K mainGlobals "TooMany" = some (some (.ref CI)))
    (xLI : K.lookup CI = some (excClassObj nmI qI CI NI bsI [.ref BAI, .type "ValueError", .type "Exception", .type "BaseException", .type "object"] true snI subI abI colI ddI u0I u1I u2I u3I u5I "ValueError.__new__"))
    (saI : PySem.W.findIn K (.ref CI) "__setattr__" = some (some (.builtin "object.__setattr__")))
    (gatI : PySem.W.findIn K (.ref CI) "__getattribute__" = some (some (.builtin "BaseException.__getattribute__")))
    (ggI : PySem.W.findIn K (.ref CI) "__getattr__" = some none)
    (nfI : PySem.W.findIn K (.ref CI) "what" = some none)
    (aiI : PySem.W.findIn K (.ref CI) "__init__" = some (some (.ref gI)))
    (tiI : PySem.W.typeIn K (.ref gI) = some (.type "function"))
    (liI : K.lookup gI = some ⟨ocxI, odxI, .func (PySem.W.fnOf "__init__" "TooMany.__init__" (defArgs sETm) (defBody sETm) (defScope sETm) .none kVxI dcxI pmxI anxI cdxI ctxI), slxI⟩)
    (ciI : PySem.W.codeIn K cdxI "TooMany.__init__" = true)
    (kiI : PySem.W.keepIn K (.ref gI) = true)
    (kCI : PySem.W.keepIn K (.ref CI) = true)
    (eCI : PySem.W.subIn K (.ref CI) (.type "BaseException") = some true)
    (tCI : PySem.W.typeIn K (.ref CI) = some (.type "type"))
    (hCI : PySem.W.hasDictIn K CI = true)
    (iCI : PySem.W.isClsIn K CI = true)
    (sNN : PySem.W.subIn K (.ref CN) (.ref CN) = some true)
    (sVN : PySem.W.subIn K (.ref CV) (.ref CN) = some false)
    (sVV : PySem.W.subIn K (.ref CV) (.ref CV) = some true)
    (sTN : PySem.W.subIn K (.ref CT) (.ref CN) = some false)
    (sTV : PySem.W.subIn K (.ref CT) (.ref CV) = some false)
    (sTT : PySem.W.subIn K (.ref CT) (.ref CT) = some true)
    (sIN : PySem.W.subIn K (.ref CI) (.ref CN) = some false)
    (sIV : PySem.W.subIn K (.ref CI) (.ref CV) = some false)
    (sIT : PySem.W.subIn K (.ref CI) (.ref CT) = some false)
    (sII : PySem.W.subIn K (.ref CI) (.ref CI) = some true)
    (gB : PySem.W.nsIn K mainGlobals "BARRED" = some (some (.ref aB)))
    (gaMk : PySem.W.nsIn K mainGlobals "MAKINGS" = some (some (.ref aMk)))
    (gaRe : PySem.W.nsIn K mainGlobals "RESULTS" = some (some (.ref aRe)))
    (gL : PySem.W.nsIn K mainGlobals "MOST_LETTERS" = some (some (.int 8 tl)))
    (taB : K.lookup aB = some ⟨.type "tuple", ddaB, .seq itaB nnaB, ssaB⟩)
    (taR0 : K.lookup aR0 = some ⟨.type "tuple", ddaR0, .seq itaR0 nnaR0, ssaR0⟩)
    (taE : K.lookup aE = some ⟨.type "tuple", ddaE, .seq itaE nnaE, ssaE⟩)
    (taV : K.lookup aV = some ⟨.type "tuple", ddaV, .seq itaV nnaV, ssaV⟩)
    (taMk : K.lookup aMk = some ⟨.type "tuple", ddaMk, .seq #[.ref x1, .ref x2] nnaMk, ssaMk⟩)
    (taRe : K.lookup aRe = some ⟨.type "tuple", ddaRe, .seq #[.ref r1, .ref r2, .ref r3, .ref r4] nnaRe, ssaRe⟩)
    (tx1 : K.lookup x1 = some ⟨.type "tuple", ddx1, .seq itx1 nnx1, ssx1⟩)
    (tx2 : K.lookup x2 = some ⟨.type "tuple", ddx2, .seq itx2 nnx2, ssx2⟩)
    (tr1 : K.lookup r1 = some ⟨.type "tuple", ddr1, .seq itr1 nnr1, ssr1⟩)
    (tr2 : K.lookup r2 = some ⟨.type "tuple", ddr2, .seq itr2 nnr2, ssr2⟩)
    (tr3 : K.lookup r3 = some ⟨.type "tuple", ddr3, .seq itr3 nnr3, ssr3⟩)
    (tr4 : K.lookup r4 = some ⟨.type "tuple", ddr4, .seq itr4 nnr4, ssr4⟩)
    (vaB : strsB itaB.toList barred = true)
    (vaR0 : strsB itaR0.toList ["none"] = true)
    (vaE : strsB itaE.toList [] = true)
    (vaV : strsB itaV.toList [] = true)
    (vx1 : strsB itx1.toList ["once", "items"] = true)
    (vx2 : strsB itx2.toList ["early", "kind", "value"] = true)
    (vr1 : strsB itr1.toList ["none"] = true)
    (vr2 : strsB itr2.toList ["box", "used"] = true)
    (vr3 : strsB itr3.toList ["copy", "used"] = true)
    (vr4 : strsB itr4.toList ["test", "test"] = true)
    (z_len : PySem.W.nsIn K mainGlobals "len" = some none)
    (z_isinstance : PySem.W.nsIn K mainGlobals "isinstance" = some none)
    (z_str : PySem.W.nsIn K mainGlobals "str" = some none)
    (z_tuple : PySem.W.nsIn K mainGlobals "tuple" = some none)
    (z_all : PySem.W.nsIn K mainGlobals "all" = some none)
    (z_zip : PySem.W.nsIn K mainGlobals "zip" = some none)
    (z_int : PySem.W.nsIn K mainGlobals "int" = some none)
    (z_abs : PySem.W.nsIn K mainGlobals "abs" = some none)
    (z_enumerate : PySem.W.nsIn K mainGlobals "enumerate" = some none)
    (z_range : PySem.W.nsIn K mainGlobals "range" = some none)
    (z_max : PySem.W.nsIn K mainGlobals "max" = some none)
    (z_min : PySem.W.nsIn K mainGlobals "min" = some none)
    (z_sorted : PySem.W.nsIn K mainGlobals "sorted" = some none)
    (z_list : PySem.W.nsIn K mainGlobals "list" = some none) :
    ∃ fd : FuncData, (∀ (s : Shared) (v : Value), BindsTo s fd ⟨[v], []⟩ [("_law_script", v)]) ∧ ∀ base : Heap, K.In base → base.Ns mainGlobals mg → FnOk l.prog w K mg base CX0 11 fa fd ["_law_script"] (spLaw K) := by
  have e := hfa.symm.trans (PySem.W.mg_of X G alw)
  cases e
  have g : ∀ {n : Str} {v : Value}, PySem.W.nsIn K mainGlobals n = some (some v) → mg n = some v := fun h => PySem.W.mg_of X G h
  have z : ∀ {n : Str}, PySem.W.nsIn K mainGlobals n = some none → mg n = none := fun h => PySem.W.mg_none_of X G h
  have Fnm := fun_mk (st := sIsName) lnm cnm knm
  have bnm := Fnm.binds (ps := ["thing"]) fun _ _ _ _ _ _ us hl => match us, hl with | [_], _ => rfl
  have Fow := fun_mk (st := sIsOwner) low cow kow
  have bow := Fow.binds (ps := ["thing"]) fun _ _ _ _ _ _ us hl => match us, hl with | [_], _ => rfl
  have Fas := fun_mk (st := sIsAsc) las cas kas
  have bas := Fas.binds (ps := ["words"]) fun _ _ _ _ _ _ us hl => match us, hl with | [_], _ => rfl
  have Fit := fun_mk (st := sIsItems) lit cit kit
  have bit := Fit.binds (ps := ["thing"]) fun _ _ _ _ _ _ us hl => match us, hl with | [_], _ => rfl
  have Fag := fun_mk (st := sAgain) lag cag kag
  have bag := Fag.binds (ps := ["names", "taken"]) fun _ _ _ _ _ _ us hl => match us, hl with | [_, _], _ => rfl
  have Ffo := fun_mk (st := sFormOf) lfo cfo kfo
  have bfo := Ffo.binds (ps := ["thing", "forms"]) fun _ _ _ _ _ _ us hl => match us, hl with | [_, _], _ => rfl
  have Fso := fun_mk (st := sIsSort) lso cso kso
  have bso := Fso.binds (ps := ["part", "sort"]) fun _ _ _ _ _ _ us hl => match us, hl with | [_, _], _ => rfl
  have Fhf := fun_mk (st := sHasForm) lhf chf khf
  have bhf := Fhf.binds (ps := ["thing", "forms"]) fun _ _ _ _ _ _ us hl => match us, hl with | [_, _], _ => rfl
  have Fpa := fun_mk (st := sParts) lpa cpa kpa
  have bpa := Fpa.binds (ps := ["thing", "forms"]) fun _ _ _ _ _ _ us hl => match us, hl with | [_, _], _ => rfl
  have Fiv := fun_mk (st := sIsVal) liv civ kiv
  have biv := Fiv.binds (ps := ["thing"]) fun _ _ _ _ _ _ us hl => match us, hl with | [_], _ => rfl
  have Ffv := fun_mk (st := sFBV) lfv cfv kfv
  have bfv := Ffv.binds (ps := ["values"]) fun _ _ _ _ _ _ us hl => match us, hl with | [_], _ => rfl
  have Ffb := fun_mk (st := sFirst) lfb cfb kfb
  have bfb := Ffb.binds (ps := ["params", "rows", "returns"]) fun _ _ _ _ _ _ us hl => match us, hl with | [_, _, _], _ => rfl
  have Fus := fun_mk (st := sUses) lus cus kus
  have bus := Fus.binds (ps := ["parts", "usable"]) fun _ _ _ _ _ _ us hl => match us, hl with | [_, _], _ => rfl
  have Fco := fun_mk (st := sOrder) lco cco kco
  have bco := Fco.binds (ps := ["params"]) fun _ _ _ _ _ _ us hl => match us, hl with | [_], _ => rfl
  have Fbg := fun_mk (st := sBag) lbg cbg kbg
  have bbg := Fbg.binds (ps := ["_law_script", "_law_at"]) fun _ _ _ _ _ _ us hl => match us, hl with | [_, _], _ => rfl
  have Ftk := fun_mk (st := sTake) ltk ctk ktk
  have btk := Ftk.binds (ps := ["_law_bag_here", "_law_many"]) fun _ _ _ _ _ _ us hl => match us, hl with | [_, _], _ => rfl
  have Fof := fun_mk (st := sOf) lof cof kof
  have bof := Fof.binds (ps := ["_law_bag_here", "_law_some"]) fun _ _ _ _ _ _ us hl => match us, hl with | [_, _], _ => rfl
  have Fns := fun_mk (st := sNames) lns cns kns
  have bns := Fns.binds (ps := ["_law_bag_here", "_law_many"]) fun _ _ _ _ _ _ us hl => match us, hl with | [_, _], _ => rfl
  have Fvl := fun_mk (st := sVals) lvl cvl kvl
  have bvl := Fvl.binds (ps := ["_law_bag_here", "_law_names_here"]) fun _ _ _ _ _ _ us hl => match us, hl with | [_, _], _ => rfl
  have Fwv := fun_mk (st := sWV) lwv cwv kwv
  have bwv := Fwv.binds (ps := ["_law_bag_here", "_law_name", "_law_earlier"]) fun _ _ _ _ _ _ us hl => match us, hl with | [_, _, _], _ => rfl
  have Ftd := fun_mk (st := sTold) ltd ctd ktd
  have btd := Ftd.binds (ps := ["_law_name", "_law_methods", "_law_root", "_law_wares"]) fun _ _ _ _ _ _ us hl => match us, hl with | [_, _, _, _], _ => rfl
  have Fmr := fun_mk (st := sMR) lmr cmr kmr
  have bmr := Fmr.binds (ps := ["_law_bag_here", "_law_name", "_law_root", "_law_listed", "_law_methods"]) fun _ _ _ _ _ _ us hl => match us, hl with | [_, _, _, _, _], _ => rfl
  have Flw := fun_mk (st := sLaw) llw clw klw
  have FxN := fun_mk (st := sENm) liN ciN kiN
  have bxN := FxN.binds (ps := ["self", "name"]) fun _ _ _ _ _ _ us hl => match us, hl with | [_, _], _ => rfl
  have EN : Erc K mg "BadName" "name" CN gN := ⟨⟨⟨nmN, qN, NN, bsN, _, snN, subN, abN, colN, ddN, u0N, u1N, u2N, u3N, u5N, xLN, rfl⟩, saN, eCN, tCN, kCN⟩, nfN, aiN, tiN, g aCN⟩
  have FxV := fun_mk (st := sERw) liV ciV kiV
  have bxV := FxV.binds (ps := ["self", "at"]) fun _ _ _ _ _ _ us hl => match us, hl with | [_, _], _ => rfl
  have EV : Erc K mg "BadValue" "at" CV gV := ⟨⟨⟨nmV, qV, NV, bsV, _, snV, subV, abV, colV, ddV, u0V, u1V, u2V, u3V, u5V, xLV, rfl⟩, saV, eCV, tCV, kCV⟩, nfV, aiV, tiV, g aCV⟩
  have FxT := fun_mk (st := sETw) liT ciT kiT
  have bxT := FxT.binds (ps := ["self", "name"]) fun _ _ _ _ _ _ us hl => match us, hl with | [_, _], _ => rfl
  have ET : Erc K mg "Twice" "name" CT gT := ⟨⟨⟨nmT, qT, NT, bsT, _, snT, subT, abT, colT, ddT, u0T, u1T, u2T, u3T, u5T, xLT, rfl⟩, saT, eCT, tCT, kCT⟩, nfT, aiT, tiT, g aCT⟩
  have FxI := fun_mk (st := sETm) liI ciI kiI
  have bxI := FxI.binds (ps := ["self", "what"]) fun _ _ _ _ _ _ us hl => match us, hl with | [_, _], _ => rfl
  have EI : Erc K mg "TooMany" "what" CI gI := ⟨⟨⟨nmI, qI, NI, bsI, _, snI, subI, abI, colI, ddI, u0I, u1I, u2I, u3I, u5I, xLI, rfl⟩, saI, eCI, tCI, kCI⟩, nfI, aiI, tiI, g aCI⟩
  have Fke := fun_mk (st := sKEq) lke cke kke
  have bke := Fke.binds (ps := ["self", "other"]) fun _ _ _ _ _ _ us hl => match us, hl with | [_, _], _ => rfl
  have W : Wds K mg := ⟨z z_len, z z_isinstance, z z_str, z z_tuple, z z_all, z z_zip, ⟨_, g gL⟩, ⟨aB, g gB, fm_of taB vaB (by decide)⟩⟩
  have B : Blt mg := ⟨z z_len, z z_int, z z_abs, z z_enumerate⟩
  have L : BltL mg := ⟨z z_range, z z_max, z z_min, z z_len, z z_list⟩
  have BS : BltS mg := ⟨z z_tuple, z z_sorted⟩
  have BM : BltM mg := ⟨z z_tuple, z z_isinstance, z z_len⟩
  have TMk : FmG K mg "MAKINGS" makingForms := ⟨⟨aMk, g gaMk, fms_of (as := [x1, x2]) taMk (by show 2 ≤ 1000; decide) (.cons (fm_of tx1 vx1 (by decide)) (.cons (fm_of tx2 vx2 (by decide)) .nil))⟩⟩
  have TX : FmG K mg "RESULTS" resultForms := ⟨⟨aRe, g gaRe, fms_of (as := [r1, r2, r3, r4]) taRe (by show 4 ≤ 1000; decide) (.cons (fm_of tr1 vr1 (by decide)) (.cons (fm_of tr2 vr2 (by decide)) (.cons (fm_of tr3 vr3 (by decide)) (.cons (fm_of tr4 vr4 (by decide)) .nil))))⟩⟩
  have TM : Mtd K mg CM (.type "type") := ⟨⟨Mpg, Mhd, Mpo, Msa⟩, Mn0, Mn1, Mn2, Mn3, g aCM, ⟨Mrd, Mga⟩, ⟨_, Mk1, ⟨_, rfl⟩⟩, ⟨_, Mk2, ⟨_, rfl⟩⟩, ⟨_, Mk3, ⟨_, rfl⟩⟩⟩
  have TK : Knd K mg CK (.type "type") := ⟨⟨Kpg, Khd, Kpo, Ksa⟩, Kn0, Kn1, Kn2, Kn3, g aCK, ⟨Krd, Kga⟩, ⟨_, Kk1, ⟨_, rfl⟩⟩, ⟨_, Kk2, ⟨_, rfl⟩⟩⟩
  have TE : KndE K CK := ⟨Kha, Khn, Khtk, Khm, KisC, KtyC⟩
  have EQ : EqK K CK fke := ⟨Keq, Kefn, Kne⟩
  have cO : ClX.CMet K CK (.type "type") "of" pK fko := ⟨Kof, ⟨rst, Krc⟩, Kfi⟩
  have X2 : Exm K mg ⟨CN, CV, CT, CI⟩ := ⟨g aCN, ⟨gatN, ggN, eCN, hCN⟩, nfN, g aCV, ⟨gatV, ggV, eCV, hCV⟩, nfV, g aCT, ⟨gatT, ggT, eCT, hCT⟩, nfT, g aCI, ⟨gatI, ggI, eCI, hCI⟩, nfI, exm_val eCN iCN tCN sNN, exm_val eCN iCN tCN sVN, exm_val eCV iCV tCV sVV, exm_val eCN iCN tCN sTN, exm_val eCV iCV tCV sTV, exm_val eCT iCT tCT sTT, exm_val eCN iCN tCN sIN, exm_val eCV iCV tCV sIV, exm_val eCT iCT tCT sIT, exm_val eCI iCI tCI sII⟩
  have hR0 : ∀ H, SqT K H aR0 [.str "none"] := fm_of taR0 vaR0 (by decide)
  have hE : ∀ H, SqT K H aE [] := fm_of taE vaE (by decide)
  have hV : ∀ H, SqT K H aV [] := fm_of taV vaV (by decide)
  have Fmi : FM K [("rows", .ref aE), ("returns", .ref aR0)] fmi _ := ⟨⟨_, _, _, _, _, _, _, _, _, _, rfl, lmi, cmi, .inl ⟨rfl, rfl⟩, .inr ⟨DM, rfl, fun q hq => by
    rcases List.mem_cons.mp hq with rfl | hq
    · exact ⟨_, dM1, rfl⟩
    · rcases List.mem_cons.mp hq with rfl | hq
      · exact ⟨_, dM2, rfl⟩
      · cases hq⟩⟩, kmi⟩
  have Fki : FK K [("base", .non), ("values", .ref aV)] fki _ := ⟨⟨_, _, _, _, _, _, _, _, _, _, rfl, lki, cki, .inl ⟨rfl, rfl⟩, .inr ⟨DK, rfl, fun q hq => by
    rcases List.mem_cons.mp hq with rfl | hq
    · exact ⟨_, dK1, rfl⟩
    · rcases List.mem_cons.mp hq with rfl | hq
      · exact ⟨_, dK2, rfl⟩
      · cases hq⟩⟩, kki⟩
  have Fko : FKOf K aV2 fko _ := ⟨⟨_, _, _, _, _, _, _, _, _, _, rfl, lko, cko, .inl ⟨rfl, rfl⟩, .inr ⟨DKO, rfl, fun q hq => by
    rcases List.mem_cons.mp hq with rfl | hq
    · exact ⟨_, dO1, rfl⟩
    · rcases List.mem_cons.mp hq with rfl | hq
      · exact ⟨_, dO2, rfl⟩
      · cases hq⟩⟩, kko⟩
  refine ⟨PySem.W.fnOf "law" "law" (defArgs sLaw) (defBody sLaw) (defScope sLaw) .none kVlw dclw pmlw anlw cdlw ctlw, fun s v => .of_eq rfl, fun base _ _ => ?_⟩
  have Gnm := ok_name (P := l.prog) (w := w) (base := base) Fnm W
  have Gow := ok_owner Fow Gnm (g anm) knm bnm
  have Gas := ok_asc (P := l.prog) (w := w) (base := base) Fas W
  have Git := ok_items Fit W Gnm (g anm) knm bnm Gas (g aas) kas bas
  have Gfo := ok_formOf (P := l.prog) (w := w) (base := base) Ffo W
  have Gso := ok_sort0 Fso Git (g ait) kit bit Gow (g aow) kow bow Gnm (g anm) knm bnm
  have Ghf := ok_hasForm (k := 2) Fhf W Gfo (g afo) kfo bfo Gso (g aso) kso bso
  have Gag := ok_again (P := l.prog) (w := w) (base := base) Fag (z z_enumerate)
  have Gpa := ok_parts Fpa W Gfo (g afo) kfo bfo
  have Gus := ok_uses (P := l.prog) (w := w) (base := base) Fus W
  have Giv := ok_isVal (kH := 4) Fiv W TMk Gnm (g anm) knm bnm Ghf (g ahf) khf bhf (by decide)
  have Gfv := ok_fbv (kV := 5) Ffv (z z_enumerate) Giv (g aiv) kiv biv
  have Gfb := ok_first0 (kH := 4) Ffb W (z z_enumerate) TX Ghf (g ahf) khf bhf Gpa (g apa) kpa bpa Gus (g aus) kus bus (by decide)
  have Gco := ok_order0 (P := l.prog) (w := w) (base := base) Fco W
  have GxN := ok_eNm (P := l.prog) (w := w) (base := base) FxN EN
  have GxV := ok_eRw (P := l.prog) (w := w) (base := base) FxV EV
  have GxT := ok_eTw (P := l.prog) (w := w) (base := base) FxT ET
  have GxI := ok_eTm (P := l.prog) (w := w) (base := base) FxI EI
  have Gmi := ok_mi0 (kB := 5) Fmi hE hR0 W TM Gnm (g anm) knm bnm Gag (g aag) kag bag Gco (g aco) kco bco Gfb (g afb) kfb bfb (by decide)
  have body := fun (cdv : Value) A outer s H vs Q E hr h => ki_body (fd := PySem.W.fnOf "law" "law" (defArgs sLaw) (defBody sLaw) (defScope sLaw) .none kVlw dclw pmlw anlw cdlw ctlw) (P := l.prog) (w := w) (base := base) (f := fki) (cdv := cdv) (kB := 6) (x := ⟨CN, CV, CT, CI⟩) W TM TK Gnm (g anm) knm bnm Gag (g aag) kag bag Gfv (g afv) kfv bfv EN GxN bxN ET GxT bxT EI GxI bxI EV GxV bxV (by decide) A outer s H vs Q E hr h
  have Gki := fk_bv Fki body
  have Gk0 := fk_0 Fki body
  have MK : Mk K CK fki := ⟨Kmk, aki, iki, Kkc⟩
  have MM : Mk K CM fmi := ⟨Mmk, ami, imi, Mkc⟩
  have Gko := ok_kof (k := 7) Fko MK Gki
  have Gke := ok_keq (P := l.prog) (w := w) (base := base) Fke W TK TE
  have Gbg := ok_bag (P := l.prog) (w := w) (base := base) Fbg B
  have Gtk := ok_take (P := l.prog) (w := w) (base := base) Ftk B
  have Gof := ok_of Fof B Gtk (g atk) ktk btk
  have Gns := ok_names Fns B (z z_range) Gtk (g atk) ktk btk Gof (g aof) kof bof
  have Gvl := ok_vals Fvl BS Gtk (g atk) ktk btk Gof (g aof) kof bof
  have Gwv := ok_wv Fwv Gof (g aof) kof bof
  have Gtd := ok_told (kO := 9) Ftd TK X2 Fko cO Gko
  have Gmr := ok_mr (kO := 9) (kI := 7) Fmr BM TM TK TE EQ MK Fko cO hV Gko Gki Gk0 Gke bke (by decide) (by decide)
  exact ok_law (kM := 6) (kO' := 9) Flw L BM TM TK MM Gmi Gbg (g abg) kbg bbg Gtk (g atk) ktk btk Gof (g aof) kof bof Gns (g ans) kns bns Gvl (g avl) kvl bvl Gwv (g awv) kwv bwv Gmr (g amr) kmr bmr Gtd (g atd) ktd btd (by decide) (by decide)
theorem walk {l : PySem.W.OpenLaw} {q : Program} {loose : List Str} {XP : (Str → Option Value) → Heap → Prop} {YP : World → Heap → Prop} {d : DefRec} {K : Params → PySem.W.Frag} (hn : l.most = some 63) (hdf : d.params.defaults = [])
    (hY : ∀ (w : World) (h : Heap), YP w h → (K w.params).In h)
    (F : ∀ (w : World) (mg : Str → Option Value) (fa : Addr) (h : Heap), (K w.params).In h → h.Ns mainGlobals mg → mg d.name = some (.ref fa) →
      ∃ fd : FuncData, (∀ (s : Shared) (u : Value), BindsTo s fd ⟨[u], []⟩ [("_law_script", u)]) ∧ ∀ base : Heap, (K w.params).In base → base.Ns mainGlobals mg → FnOk l.prog w (K w.params) mg base CX0 11 fa fd ["_law_script"] (spLaw (K w.params))) :
    PySem.W.WalkO q loose XP YP l.row.toRowW d [] (fun f vs => PySem.call f vs) :=
  L2.walk_of (n := 63) (k := 11) (x := "_law_script") (CX := fun _ => CX0) (sp := fun w => spLaw (K w.params)) hn (by decide) hdf ⟨rfl, by decide, by decide⟩ hY F (fun _ _ a ns hl _ hS => ⟨a, ns, rfl, hS, hl, fun _ => rfl⟩) fun _ _ _ _ _ z => z
end Dr
open PySem PySem.W PyProof.Rows in
set_option maxRecDepth 100000 in
set_option maxHeartbeats 0 in
theorem PySem.Challenge.cw_oncedefaults_k06_kinds_made_and_refused_holds : PySem.Challenge.rw_oncedefaults_k06_kinds_made_and_refused.Holds := by
  w_on; o_law; k_head; (case hw => w_witness2)
  k_fill
  refine Dr.walk (l := PySem.Challenge.rw_oncedefaults_k06_kinds_made_and_refused) rfl rfl (fun w h Y => PySem.W.kIn_of Y) ?F
  case F =>
    intro w mg fa h KX G hmg
    refine' Dr.all_mk KX G hmg ?anm ?lnm ?cnm ?knm ?aow ?low ?cow ?kow ?aas ?las ?cas ?kas ?ait ?lit ?cit ?kit ?aag ?lag ?cag ?kag ?afo ?lfo ?cfo ?kfo ?aso ?lso ?cso ?kso ?ahf ?lhf ?chf ?khf ?apa ?lpa ?cpa ?kpa ?aiv ?liv ?civ ?kiv ?afv ?lfv ?cfv ?kfv ?afb ?lfb ?cfb ?kfb ?aus ?lus ?cus ?kus ?aco ?lco ?cco ?kco ?abg ?lbg ?cbg ?kbg ?atk ?ltk ?ctk ?ktk ?aof ?lof ?cof ?kof ?ans ?lns ?cns ?kns ?avl ?lvl ?cvl ?kvl ?awv ?lwv ?cwv ?kwv ?atd ?ltd ?ctd ?ktd ?amr ?lmr ?cmr ?kmr ?alw ?llw ?clw ?klw ?aCM ?Mpg ?Mhd ?Mpo ?Msa ?Mmk ?Mkc ?Mn0 ?Mn1 ?Mn2 ?Mn3 ?Mrd ?Mga ?Mk1 ?Mk2 ?Mk3 ?aCK ?Kpg ?Khd ?Kpo ?Ksa ?Kmk ?Kkc ?Kn0 ?Kn1 ?Kn2 ?Kn3 ?Krd ?Kga ?Kk1 ?Kk2 ?Kof ?Krc ?Kfi ?Kha ?Khn ?Khtk ?Khm ?KisC ?KtyC ?Keq ?Kefn ?Kne ?lke ?cke ?kke ?ami ?imi ?lmi ?cmi ?kmi ?dM1 ?dM2 ?aki ?iki ?lki ?cki ?kki ?dK1 ?dK2 ?lko ?cko ?kko ?dO1 ?dO2 ?aCN ?xLN ?saN ?gatN ?ggN ?nfN ?aiN ?tiN ?liN ?ciN ?kiN ?kCN ?eCN ?tCN ?hCN ?iCN ?aCV ?xLV ?saV ?gatV ?ggV ?nfV ?aiV ?tiV ?liV ?ciV ?kiV ?kCV ?eCV ?tCV ?hCV ?iCV ?aCT ?xLT ?saT ?gatT ?ggT ?nfT ?aiT ?tiT ?liT ?ciT ?kiT ?kCT ?eCT ?tCT ?hCT ?iCT ?aCI ?xLI ?saI ?gatI ?ggI ?nfI ?aiI ?tiI ?liI ?ciI ?kiI ?kCI ?eCI ?tCI ?hCI ?iCI ?sNN ?sVN ?sVV ?sTN ?sTV ?sTT ?sIN ?sIV ?sIT ?sII ?gB ?gaMk ?gaRe ?gL ?taB ?taR0 ?taE ?taV ?taMk ?taRe ?tx1 ?tx2 ?tr1 ?tr2 ?tr3 ?tr4 ?vaB ?vaR0 ?vaE ?vaV ?vx1 ?vx2 ?vr1 ?vr2 ?vr3 ?vr4 ?z_len ?z_isinstance ?z_str ?z_tuple ?z_all ?z_zip ?z_int ?z_abs ?z_enumerate ?z_range ?z_max ?z_min ?z_sorted ?z_list
    (case anm => k_is)
    (case lnm => k_is)
    (case cnm => k_is)
    (case knm => k_is)
    (case aow => k_is)
    (case low => k_is)
    (case cow => k_is)
    (case kow => k_is)
    (case aas => k_is)
    (case las => k_is)
    (case cas => k_is)
    (case kas => k_is)
    (case ait => k_is)
    (case lit => k_is)
    (case cit => k_is)
    (case kit => k_is)
    (case aag => k_is)
    (case lag => k_is)
    (case cag => k_is)
    (case kag => k_is)
    (case afo => k_is)
    (case lfo => k_is)
    (case cfo => k_is)
    (case kfo => k_is)
    (case aso => k_is)
    (case lso => k_is)
    (case cso => k_is)
    (case kso => k_is)
    (case ahf => k_is)
    (case lhf => k_is)
    (case chf => k_is)
    (case khf => k_is)
    (case apa => k_is)
    (case lpa => k_is)
    (case cpa => k_is)
    (case kpa => k_is)
    (case aiv => k_is)
    (case liv => k_is)
    (case civ => k_is)
    (case kiv => k_is)
    (case afv => k_is)
    (case lfv => k_is)
    (case cfv => k_is)
    (case kfv => k_is)
    (case afb => k_is)
    (case lfb => k_is)
    (case cfb => k_is)
    (case kfb => k_is)
    (case aus => k_is)
    (case lus => k_is)
    (case cus => k_is)
    (case kus => k_is)
    (case aco => k_is)
    (case lco => k_is)
    (case cco => k_is)
    (case kco => k_is)
    (case abg => k_is)
    (case lbg => k_is)
    (case cbg => k_is)
    (case kbg => k_is)
    (case atk => k_is)
    (case ltk => k_is)
    (case ctk => k_is)
    (case ktk => k_is)
    (case aof => k_is)
    (case lof => k_is)
    (case cof => k_is)
    (case kof => k_is)
    (case ans => k_is)
    (case lns => k_is)
    (case cns => k_is)
    (case kns => k_is)
    (case avl => k_is)
    (case lvl => k_is)
    (case cvl => k_is)
    (case kvl => k_is)
    (case awv => k_is)
    (case lwv => k_is)
    (case cwv => k_is)
    (case kwv => k_is)
    (case atd => k_is)
    (case ltd => k_is)
    (case ctd => k_is)
    (case ktd => k_is)
    (case amr => k_is)
    (case lmr => k_is)
    (case cmr => k_is)
    (case kmr => k_is)
    (case alw => k_is)
    (case llw => k_is)
    (case clw => k_is)
    (case klw => k_is)
    (case aCM => k_is)
    (case Mpg => k_is)
    (case Mhd => k_is)
    (case Mpo => k_is)
    (case Msa => k_is)
    (case Mmk => k_is)
    (case Mkc => k_is)
    (case Mn0 => k_is)
    (case Mn1 => k_is)
    (case Mn2 => k_is)
    (case Mn3 => k_is)
    (case Mrd => k_is)
    (case Mga => k_is)
    (case Mk1 => k_is)
    (case Mk2 => k_is)
    (case Mk3 => k_is)
    (case aCK => k_is)
    (case Kpg => k_is)
    (case Khd => k_is)
    (case Kpo => k_is)
    (case Ksa => k_is)
    (case Kmk => k_is)
    (case Kkc => k_is)
    (case Kn0 => k_is)
    (case Kn1 => k_is)
    (case Kn2 => k_is)
    (case Kn3 => k_is)
    (case Krd => k_is)
    (case Kga => k_is)
    (case Kk1 => k_is)
    (case Kk2 => k_is)
    (case Kof => k_is)
    (case Krc => k_is)
    (case Kfi => k_is)
    (case Kha => k_is)
    (case Khn => k_is)
    (case Khtk => k_is)
    (case Khm => k_is)
    (case KisC => k_is)
    (case KtyC => k_is)
    (case Keq => k_is)
    (case Kefn => k_is)
    (case Kne => k_is)
    (case lke => k_is)
    (case cke => k_is)
    (case kke => k_is)
    (case ami => k_is)
    (case imi => k_is)
    (case lmi => k_is)
    (case cmi => k_is)
    (case kmi => k_is)
    (case dM1 => k_is)
    (case dM2 => k_is)
    (case aki => k_is)
    (case iki => k_is)
    (case lki => k_is)
    (case cki => k_is)
    (case kki => k_is)
    (case dK1 => k_is)
    (case dK2 => k_is)
    (case lko => k_is)
    (case cko => k_is)
    (case kko => k_is)
    (case dO1 => k_is)
    (case dO2 => k_is)
    (case aCN => k_is)
    (case xLN => k_is)
    (case saN => k_is)
    (case gatN => k_is)
    (case ggN => k_is)
    (case nfN => k_is)
    (case aiN => k_is)
    (case tiN => k_is)
    (case liN => k_is)
    (case ciN => k_is)
    (case kiN => k_is)
    (case kCN => k_is)
    (case eCN => k_is)
    (case tCN => k_is)
    (case hCN => k_is)
    (case iCN => k_is)
    (case aCV => k_is)
    (case xLV => k_is)
    (case saV => k_is)
    (case gatV => k_is)
    (case ggV => k_is)
    (case nfV => k_is)
    (case aiV => k_is)
    (case tiV => k_is)
    (case liV => k_is)
    (case ciV => k_is)
    (case kiV => k_is)
    (case kCV => k_is)
    (case eCV => k_is)
    (case tCV => k_is)
    (case hCV => k_is)
    (case iCV => k_is)
    (case aCT => k_is)
    (case xLT => k_is)
    (case saT => k_is)
    (case gatT => k_is)
    (case ggT => k_is)
    (case nfT => k_is)
    (case aiT => k_is)
    (case tiT => k_is)
    (case liT => k_is)
    (case ciT => k_is)
    (case kiT => k_is)
    (case kCT => k_is)
    (case eCT => k_is)
    (case tCT => k_is)
    (case hCT => k_is)
    (case iCT => k_is)
    (case aCI => k_is)
    (case xLI => k_is)
    (case saI => k_is)
    (case gatI => k_is)
    (case ggI => k_is)
    (case nfI => k_is)
    (case aiI => k_is)
    (case tiI => k_is)
    (case liI => k_is)
    (case ciI => k_is)
    (case kiI => k_is)
    (case kCI => k_is)
    (case eCI => k_is)
    (case tCI => k_is)
    (case hCI => k_is)
    (case iCI => k_is)
    (case sNN => (first | rfl | k_is))
    (case sVN => k_is)
    (case sVV => (first | rfl | k_is))
    (case sTN => k_is)
    (case sTV => k_is)
    (case sTT => (first | rfl | k_is))
    (case sIN => k_is)
    (case sIV => k_is)
    (case sIT => k_is)
    (case sII => (first | rfl | k_is))
    (case gB => k_is)
    (case gaMk => k_is)
    (case gaRe => k_is)
    (case gL => k_is)
    (case taB => k_is)
    (case taMk => k_is)
    (case taRe => k_is)
    (case tx1 => k_is)
    (case tx2 => k_is)
    (case tr1 => k_is)
    (case tr2 => k_is)
    (case tr3 => k_is)
    (case tr4 => k_is)
    (case vaB => decide +kernel)
    (case vx1 => decide +kernel)
    (case vx2 => decide +kernel)
    (case vr1 => decide +kernel)
    (case vr2 => decide +kernel)
    (case vr3 => decide +kernel)
    (case vr4 => decide +kernel)
    (case z_len => k_is)
    (case z_isinstance => k_is)
    (case z_str => k_is)
    (case z_tuple => k_is)
    (case z_all => k_is)
    (case z_zip => k_is)
    (case z_int => k_is)
    (case z_abs => k_is)
    (case z_enumerate => k_is)
    (case z_range => k_is)
    (case z_max => k_is)
    (case z_min => k_is)
    (case z_sorted => k_is)
    (case z_list => k_is)
    (case taR0 => k_is)
    (case taE => k_is)
    (case taV => k_is)
    (case vaR0 => decide +kernel)
    (case vaE => decide +kernel)
    (case vaV => decide +kernel)
