import PyProof.Rows.All
import Wide.All
import OpenK.AllK
import Wide.FinOn
import HandS.ForMost
import HandS.Defaults
import HandS.MakeKwOnly
import HandS.TupAny
import HandS.IsInst
import HandS.Zip
import HandS.Flow
import HandS.Walk
import HandS.Codes
import HandS.SlotsOwn
import HandS.More
import HandS.ForExc
import HandS.TryMany
import HandS.ExcInit
import HandS.ExcField
import HandS.CallSlots
import HandS.Star
import HandS.ClsMeth
import HandS.ExcOwn
import KE.GoesMore
import HandS.SetFor
import PyProof.Rows.StrInSeq3
import HandS.Set
import HandS.Strs
import KE.KDictCopyH
import KE.DataEq
import PyProof.NeKinds
import HandS.Style
import HandS.OwnEq
import KE.KEqNest
import HandS.Deep
import PySem.Challenge.RW_oncedefaults_k03_methods_made
set_option Elab.async false
set_option maxRecDepth 100000
set_option maxHeartbeats 4000000
set_option linter.all false
namespace Dr
open PySem PySem.Spec PyProof.Rows L2
def topS (i : Nat) : Stmt := PySem.Challenge.pw_oncedefaults_k03_methods_made.main.body.getD i (.Pass ⟨0, 0, 0, 0⟩)
abbrev sBag : Stmt := topS 37
abbrev sTake : Stmt := topS 38
abbrev sOf : Stmt := topS 39
theorem scBag : FnScope ["_law_script", "_law_at", "_law_cell", "_law_blend", "_law_k", "_law_each"] ["_law_script", "_law_at"] (defScope sBag) := ⟨rfl, rfl, rfl, by decide +kernel, rfl, by decide +kernel, by decide +kernel⟩
theorem scTake : FnScope ["_law_bag_here", "_law_many", "_law_digit"] ["_law_bag_here", "_law_many"] (defScope sTake) := ⟨rfl, rfl, rfl, by decide +kernel, rfl, by decide +kernel, by decide +kernel⟩
theorem scOf : FnScope ["_law_bag_here", "_law_some"] ["_law_bag_here", "_law_some"] (defScope sOf) := ⟨rfl, rfl, rfl, by decide +kernel, rfl, by decide +kernel, by decide +kernel⟩
/-- the built-in names that the draws use are the built-in ones -/
structure Blt (mg : Str → Option Value) : Prop where
  len : mg "len" = none
  int : mg "int" = none
  abs : mg "abs" = none
  enum : mg "enumerate" = none
theorem same_upd {H : Hp} {p : Addr} {o : HO} (h : H p = none) : Same H (upd H p o) := fun b x e => by
  rw [upd_ne (ne_of_none e h)]
  exact e
/-- a bag stands at p -/
def Bag (H : Hp) (p : Addr) : Prop := ∃ u v : Int, H p = some (.lst [.int u, .int v]) ∧ 0 ≤ u ∧ 0 ≤ v ∧ v < 2147483648
/-- all but the bag is as it was, the bag is a bag -/
def Kp (p : Addr) (H H' : Hp) : Prop := (∀ b o, b ≠ p → H b = some o → H' b = some o) ∧ Bag H' p
theorem Kp.refl {p : Addr} {H : Hp} (h : Bag H p) : Kp p H H := ⟨fun _ _ _ e => e, h⟩
theorem Kp.trans {p : Addr} {H H1 H2 : Hp} (a : Kp p H H1) (b : Kp p H1 H2) : Kp p H H2 := ⟨fun c o n e => b.1 c o n (a.1 c o n e), b.2⟩
theorem Bag.same {p : Addr} {H H' : Hp} (b : Bag H p) (s : Same H H') : Bag H' p := by
  obtain ⟨u, v, e, q⟩ := b
  exact ⟨u, v, s _ _ e, q⟩
theorem Kp.same {p : Addr} {H H1 H2 : Hp} (a : Kp p H H1) (s : Same H1 H2) : Kp p H H2 := ⟨fun c o n e => s c o (a.1 c o n e), a.2.same s⟩
theorem Kp.of {p : Addr} {H H' : Hp} (b : Bag H p) (s : Same H H') : Kp p H H' := (Kp.refl b).same s
section
variable {P : Program} {w : World} {K : PySem.W.Frag} {mg : Str → Option Value} {base : Heap}
def spBag (K : PySem.W.Frag) : Sp := fun vs H Q _ => ∃ (a : Addr) (ns : List Int) (i : Int), vs = [.ref a, .int i] ∧ SqL K H a (ns.map V.int) ∧ ns.length ≤ 63 ∧ 0 ≤ i ∧ i ≤ 100 ∧
  ∀ H' p, Same H H' → H p = none → Bag H' p → Q (.ref p) H'
theorem bag_turn {b e k : Int} (k0 : 0 ≤ k) (hb : 0 ≤ b) (hb2 : b < 2147483648) : 0 ≤ (b * 44017 + e % 2147483563 + 59 * k) % 2147483399 ∧ (b * 44017 + e % 2147483563 + 59 * k) % 2147483399 < 2147483648 := by
  omega
theorem ok_bag {f : Addr} {fd : FuncData} (F : Fun K "_law_bag" "_law_bag" sBag f fd) (T : Blt mg) : FnOk P w K mg base CX0 1 f fd ["_law_script", "_law_at"] (spBag K) := by
  refine F.ok scBag (fun vs H Q E h => ?_) (fun cdv A outer s H vs Q E hr h => ?_)
  · obtain ⟨a, ns, i, rfl, _⟩ := h
    rfl
  · obtain ⟨a, ns, i, rfl, hS, hlen, hi0, hi1, q⟩ := h
    refine ⟨_, C8.pss_cut (ps_set (i := 2) scBag.nd rfl (.inl rfl) (pe_ifExp (pt_cmpR op_lt (pv 1) (pe_callB call_len_seq (by rfl) T.len PySem.boot_len (pa_cons (pv 0) pa_nil)) (nomark _)) (pe_ix ix_list (pv 0) (pv 1) (fun _ _ => rfl)) pe_int))
      (pss_cons (ps_set (i := 3) scBag.nd rfl (.inl rfl) (pe_op op_add (pe_op op_mul pe_int (pv 1)) pe_int))
      (pss_cons (ps_for PassesOwn.never rfl (pi_enum (by rfl) T.enum (pa_cons (pe_slice sl_list (pv 0) po_none (po_some pe_int)) pa_nil))
          (pg_tup rfl (pgs_cons (pg_name (i := 4) scBag.nd rfl (.inl rfl)) (pgs_cons (pg_name (i := 5) scBag.nd rfl (.inl rfl)) pgs_nil)))
        (pss_one (ps_set (i := 3) scBag.nd rfl (.inl rfl) (pe_op op_mod (pe_callTy call_int1 (by rfl) T.int (by decide +kernel) (pa_cons
          (pe_op op_add (pe_op op_add (pe_op op_mul (pv 3) pe_int) (pe_op op_mod (pe_callTy call_int1 (by rfl) T.int (by decide +kernel) (pa_cons (pv 5) pa_nil)) pe_int)) (pe_op op_mul pe_int (pv 4))) pa_nil)) pe_int))))
      (pss_one (ps_ret (pe_lst (pa_cons (pe_ifExp (pt_cmpR op_ge (pe_callB call_abs (by rfl) T.abs (by decide +kernel) (pa_cons (pv 2) pa_nil)) (pe_op op_pow pe_int pe_int) (nomark _)) (pe_callB call_abs (by rfl) T.abs (by decide +kernel) (pa_cons (pv 2) pa_nil)) pe_int) (pa_cons (pv 3) pa_nil))))))), ?_⟩
    refine ⟨fun σ' H' => H' = H ∧ ∃ c : Int, σ' = [some (.ref a), some (.int i), some (.int c), none, none, none], ?_, fun σ' H' hM => ?_⟩
    · refine ⟨_, rfl, _, rfl, a, _, rfl, .inl hS, _, _, rfl, rfl, _, rfl, ite2 (fun hlt => ?_) (fun _ => ⟨rfl, 0, rfl⟩)⟩
      have hl : i < (ns.map V.int).length := of_decide_eq_true hlt
      rw [List.length_map] at hl
      obtain ⟨j, rfl⟩ : ∃ j : Nat, i = (j : Int) := ⟨i.toNat, by omega⟩
      have hj : j < ns.length := by omega
      exact ⟨_, rfl, _, rfl, a, _, _, _, rfl, rfl, hS, atI_nat (by rw [List.getElem?_map, List.getElem?_eq_getElem hj]; rfl), rfl, _, rfl⟩
    · obtain ⟨rfl, c, rfl⟩ := hM
      -- the blend
      refine ⟨.int i, rfl, _, i, rfl, rfl, .inl ⟨by decide, by decide⟩, _, _, rfl, rfl, ?_⟩
      -- the loop over a copy
      refine ⟨.ref a, rfl, 63, rfl, a, ns.map V.int, rfl, hS, fun l nl => ?_⟩
      have s1 : Same H' (upd H' l (.lst (cutV (ns.map V.int) none (some 63)))) := same_upd nl
      have ecut : cutV (ns.map V.int) none (some 63) = ns.map V.int := by
        unfold cutV
        rw [show HT.sIx (ns.map V.int).length (ns.map V.int).length (some 63) = min 63 (ns.map V.int).length from HT.sIx_nat _ _ 63, HT.sIx_none]
        rw [List.drop_zero, List.take_of_length_le]
        rw [List.length_map]
        omega
      rw [ecut] at s1 ⊢
      refine ⟨l, ns.map V.int, rfl, .inl (.inl upd_same), for_it walk_enum (fun _ σ H1 => Same H' H1 ∧ H1 l = some (.lst (ns.map V.int)) ∧ ∃ (b : Int) (x y : Option V), σ = [some (.ref a), some (.int i), some (.int c), some (.int b), x, y] ∧ 0 ≤ b ∧ b < 2147483648)
        ⟨s1, upd_same, _, _, _, rfl, by omega, by omega⟩ (fun n σ H1 _ h => .inl (.inl h.2.1)) ?_ ?_⟩
      · rintro n y σ H1 H2 hn ⟨sm, hl, b, x5, x6, rfl, b0, b1⟩ ⟨T', x, e, rfl, nT, rfl, e1, e2⟩
        rw [List.length_map] at hn
        obtain rfl := Option.some.inj e1
        have e2 := (show (ns.map V.int)[n]? = some _ from e2)
        rw [List.getElem?_map, List.getElem?_eq_getElem hn] at e2
        obtain rfl := Option.some.inj e2
        have sT : Same H1 (upd H1 T' (.tup [.int (n : Int), .int ns[n]])) := same_upd nT
        refine ⟨T', _, rfl, .inl (.inl upd_same), rfl, _, _, rfl, _, _, rfl, rfl, ?_⟩
        refine ⟨_, rfl, b, _, rfl, rfl, .inr ⟨by decide, by decide⟩, _, rfl, .inl ⟨_, rfl, _, _, rfl, rfl, (by show (0 : Int) < 2147483563; decide), _, _, rfl, rfl, _, rfl, _, _, rfl, rfl, .inl ⟨by decide, by decide⟩, _, _, rfl, rfl, .inl ⟨_, rfl, _, _, rfl, rfl, (by show (0 : Int) < 2147483399; decide), ?_⟩⟩⟩
        have hb := bag_turn (b := b) (e := ns[n]) (k := (n : Int)) (by omega) b0 b1
        exact ⟨sm.trans sT, sT _ _ hl, _, _, _, rfl, hb.1, hb.2⟩
      · rintro σ H1 ⟨sm, hl, b, x5, x6, rfl, b0, b1⟩
        refine ⟨_, rfl, _, rfl, _, _, rfl, rfl, ⟨by decide, by decide, by decide⟩, _, _, rfl, rfl, _, rfl, ite2 (fun hge => ?_) (fun _ => ?_)⟩
        · refine ⟨_, rfl, _, rfl, _, rfl, by show 2 ≤ sizeLine; decide, fun p np => q _ _ (sm.trans (same_upd np)) (sm.free np) ⟨_, b, upd_same, ?_, b0, b1⟩⟩
          split <;> omega
        · refine ⟨_, rfl, by show 2 ≤ sizeLine; decide, fun p np => q _ _ (sm.trans (same_upd np)) (sm.free np) ⟨0, b, upd_same, by omega, b0, b1⟩⟩
def spTake : Sp := fun vs H Q _ => ∃ (p : Addr) (m : Int), vs = [.ref p, .int m] ∧ Bag H p ∧ 1 ≤ m ∧ m < 1073741824 ∧ ∀ H' r, Kp p H H' → 0 ≤ r → r < m → Q (.int r) H'
theorem kp_upd {p : Addr} {H : Hp} {u v : Int} (h0 : 0 ≤ u) (h1 : 0 ≤ v) (h2 : v < 2147483648) : Kp p H (upd H p (.lst [.int u, .int v])) := ⟨fun b o n e => by
  rw [upd_ne n]
  exact e, u, v, upd_same, h0, h1, h2⟩
theorem ok_take {f : Addr} {fd : FuncData} (F : Fun K "_law_take" "_law_take" sTake f fd) (T : Blt mg) : FnOk P w K mg base CX0 1 f fd ["_law_bag_here", "_law_many"] spTake := by
  refine F.ok scTake (fun vs H Q E h => ?_) (fun cdv A outer s H vs Q E hr h => ?_)
  · obtain ⟨p, m, rfl, _⟩ := h
    rfl
  · obtain ⟨p, m, rfl, ⟨u, v, hp, u0, v0, v1⟩, m0, m1, q⟩ := h
    refine ⟨_, pss_cons (ps_if (pt_cmpR op_gt (pe_ix ix_list (pv 0) pe_int (fun _ _ => rfl)) pe_int (nomark _))
        (pss_cons (ps_set (i := 2) scTake.nd rfl (.inl rfl) (pe_op op_modN (pe_callTy call_int1 (by rfl) T.int (by decide +kernel) (pa_cons (pe_ix ix_list (pv 0) pe_int (fun _ _ => rfl)) pa_nil)) (pv 1)))
        (pss_cons (ps_asg (pe_op op_fdivN (pe_ix ix_list (pv 0) pe_int (fun _ _ => rfl)) (pv 1)) (pg_sub (pv 0) pe_int set_list))
        (pss_one (ps_ret (pv 2))))) pss_nil)
      (pss_cons (ps_asg (pe_op op_mod (pe_callTy call_int1 (by rfl) T.int (by decide +kernel) (pa_cons (pe_op op_add (pe_op op_mul (pe_ix ix_list (pv 0) pe_int (fun _ _ => rfl)) pe_int) pe_int) pa_nil)) pe_int) (pg_sub (pv 0) pe_int set_list))
      (pss_one (ps_ret (pe_op op_modN (pe_op op_fdiv (pe_op op_mod (pe_callTy call_int1 (by rfl) T.int (by decide +kernel) (pa_cons (pe_op op_mul (pe_op op_fdiv (pe_ix ix_list (pv 0) pe_int (fun _ _ => rfl)) pe_int) pe_int) pa_nil)) pe_int) pe_int) (pv 1))))), ?_⟩
    have g0 : atI [V.int u, V.int v] 0 = some (.int u) := atI_nat (j := 0) rfl
    have g1 : atI [V.int u, V.int v] 1 = some (.int v) := atI_nat (j := 1) rfl
    refine ⟨.ref p, rfl, p, _, 0, _, rfl, rfl, SqL.of hp, g0, _, _, rfl, rfl, _, rfl, ite2 (fun hpos => ?_) (fun _ => ?_)⟩
    · have hu : 0 < u := of_decide_eq_true hpos
      refine ⟨.ref p, rfl, p, _, 0, _, rfl, rfl, SqL.of hp, g0, .inl ⟨u, rfl, _, rfl, u, m, rfl, rfl, by omega, ?_⟩⟩
      refine ⟨.ref p, rfl, p, _, 0, _, rfl, rfl, SqL.of hp, g0, _, rfl, u, m, rfl, rfl, ⟨by omega, by omega⟩, ?_⟩
      refine ⟨.ref p, rfl, p, _, 0, 0, rfl, rfl, hp, rfl, ?_⟩
      refine ⟨_, rfl, ?_⟩
      have e1 : u.fdiv m = u / m := Int.fdiv_eq_ediv_of_nonneg _ (by omega)
      have e2 : u.fmod m = u % m := Int.fmod_eq_emod_of_nonneg _ (by omega)
      exact q _ _ (kp_upd (by rw [e1]; exact Int.ediv_nonneg (by omega) (by omega)) v0 v1) (by rw [e2]; exact Int.emod_nonneg _ (by omega)) (by rw [e2]; exact Int.emod_lt_of_pos _ (by omega))
    · refine ⟨.ref p, rfl, p, _, 1, _, rfl, rfl, SqL.of hp, g1, v, _, rfl, rfl, .inr ⟨by decide, by decide⟩, _, _, rfl, rfl, .inl ⟨_, rfl, _, _, rfl, rfl, (by show (0 : Int) < 2147483629; decide), ?_⟩⟩
      refine ⟨.ref p, rfl, p, _, 1, 1, rfl, rfl, hp, rfl, ?_⟩
      have hv : 0 ≤ (v * 48271 + 90001) % 2147483629 ∧ (v * 48271 + 90001) % 2147483629 < 2147483648 := by omega
      have hz : (upd H p (.lst [V.int u, V.int ((v * 48271 + 90001) % 2147483629)])) p = some (.lst [V.int u, V.int ((v * 48271 + 90001) % 2147483629)]) := upd_same
      have g2 : atI [V.int u, V.int ((v * 48271 + 90001) % 2147483629)] 1 = some (.int ((v * 48271 + 90001) % 2147483629)) := atI_nat (j := 1) rfl
      refine ⟨.ref p, rfl, p, _, 1, _, rfl, rfl, SqL.of hz, g2, _, _, rfl, rfl, ⟨by decide, by decide⟩, _, _, rfl, rfl, .inr ⟨by decide, by decide⟩, .inl ⟨_, rfl, _, _, rfl, rfl, (by show (0 : Int) < 2147483647; decide), _, _, rfl, rfl, ⟨by decide, by decide⟩, .int m, rfl, _, m, rfl, rfl, by omega, ?_⟩⟩
      have e2 : ∀ y : Int, y.fmod m = y % m := fun y => Int.fmod_eq_emod_of_nonneg _ (by omega)
      exact q _ _ (kp_upd u0 hv.1 hv.2) (by rw [e2]; exact Int.emod_nonneg _ (by omega)) (by rw [e2]; exact Int.emod_lt_of_pos _ (by omega))
end
end Dr
namespace Dr
open PySem PySem.Spec PyProof.Rows L2
abbrev sIsName : Stmt := topS 11
abbrev sIsOwner : Stmt := topS 12
abbrev sIsAsc : Stmt := topS 13
abbrev sIsItems : Stmt := topS 14
theorem scIsName : FnScope ["thing", "letter"] ["thing"] (defScope sIsName) := ⟨rfl, rfl, rfl, by decide +kernel, rfl, by decide +kernel, by decide +kernel⟩
theorem scIsOwner : FnScope ["thing"] ["thing"] (defScope sIsOwner) := ⟨rfl, rfl, rfl, by decide +kernel, rfl, by decide +kernel, by decide +kernel⟩
theorem scIsAsc : FnScope ["words", "low", "high"] ["words"] (defScope sIsAsc) := ⟨rfl, rfl, rfl, by decide +kernel, rfl, by decide +kernel, by decide +kernel⟩
theorem scIsItems : FnScope ["thing", "part"] ["thing"] (defScope sIsItems) := ⟨rfl, rfl, rfl, by decide +kernel, rfl, by decide +kernel, by decide +kernel⟩
def barred : List Str := ["marks", "kind", "value", "def", "return", "none", "copy", "if", "unless", "in", "is", "mark", "box", "once", "anew", "early", "late", "cls", "self", "method"]
def lowC (c : Nat) : Bool := decide (97 ≤ c) && decide (c ≤ 122)
def nameOk (z : Str) : Bool := (decide (1 ≤ z.length) && decide (z.length ≤ 8)) && (!(barred.contains z) && z.cps.toList.all lowC)
def isNameD : PyData → Bool
  | .str z => nameOk z
  | _ => false
def isOwnerD : PyData → Bool
  | .str z => z == "cls" || nameOk z
  | _ => false
def ltS (a b : Str) : Bool := decide (a.cps.toList < b.cps.toList)
def ascS : List Str → Bool
  | a :: b :: r => ltS a b && ascS (b :: r)
  | _ => true
def strsOf : List PyData → Option (List Str)
  | [] => some []
  | .str z :: r => (strsOf r).map (z :: ·)
  | _ :: _ => none
def isItemsD : PyData → Bool
  | .tuple ds => ds.all isNameD && (match strsOf ds with | some zs => ascS zs | none => false)
  | _ => false
theorem Same.seqT {K : PySem.W.Frag} {H H' : Hp} {a : Addr} {xs : List V} (e : Same H H') (h : SqT K H a xs) : SqT K H' a xs := by
  rcases h with (h | ⟨o, h⟩) | h
  · exact .inl (.inl (e _ _ h))
  · exact .inl (.inr ⟨o, e _ _ h⟩)
  · exact .inr h
mutual
theorem dp_same {K : PySem.W.Frag} {H H' : Hp} (e : Same H H') : ∀ {v : V} {d : PyData}, Dp K H v d → Dp K H' v d
  | _, _, .non => .non
  | _, _, .bl b => .bl b
  | _, _, .int i => .int i
  | _, _, .str x => .str x
  | _, _, .lst h hs => .lst (e.seq h) (dpAll_same e hs)
  | _, _, .tup h hs => .tup (Same.seqT e h) (dpAll_same e hs)
theorem dpAll_same {K : PySem.W.Frag} {H H' : Hp} (e : Same H H') : ∀ {vs : List V} {ds : List PyData}, DpAll K H vs ds → DpAll K H' vs ds
  | _, _, .nil => .nil
  | _, _, .cons h hs => .cons (dp_same e h) (dpAll_same e hs)
end
theorem dpAll_len {K : PySem.W.Frag} {H : Hp} : ∀ {vs : List V} {ds : List PyData}, DpAll K H vs ds → vs.length = ds.length
  | _, _, .nil => rfl
  | _, _, .cons _ hs => by rw [List.length_cons, List.length_cons, dpAll_len hs]
theorem dpAll_get {K : PySem.W.Frag} {H : Hp} : ∀ {vs : List V} {ds : List PyData} {i : Nat} {v : V}, DpAll K H vs ds → vs[i]? = some v → ∃ d, ds[i]? = some d ∧ Dp K H v d
  | _, _, i, v, .nil, h => by simp at h
  | _, _, 0, v, .cons h hs, e => ⟨_, rfl, by
    have q := Option.some.inj e
    subst q
    exact h⟩
  | _, _, i + 1, v, .cons h hs, e => dpAll_get (i := i) hs e
theorem dpAll_strs {K : PySem.W.Frag} {H : Hp} : ∀ (zs : List Str), DpAll K H (zs.map V.str) (zs.map PyData.str)
  | [] => .nil
  | z :: r => .cons (.str z) (dpAll_strs r)
/-- the type of a datum -/
def tyD : PyData → String
  | .none => "NoneType"
  | .bool _ => "bool"
  | .int _ => "int"
  | .str _ => "str"
  | .list _ => "list"
  | .tuple _ => "tuple"
  | .dict _ => "dict"
theorem tyx_lst {K : PySem.W.Frag} {H : Hp} {a : Addr} {xs : List V} (h : SqL K H a xs) : TyX K H (.ref a) (.type "list") := by
  rcases h with (h | ⟨o, h⟩) | ⟨o, its, n, h, c, _⟩
  · exact .base (.lst h)
  · exact .base (.frz h)
  · exact .kList h c
theorem tyx_tup {K : PySem.W.Frag} {H : Hp} {a : Addr} {xs : List V} (h : SqT K H a xs) : TyX K H (.ref a) (.type "tuple") := by
  rcases h with (h | ⟨o, h⟩) | ⟨o, its, n, h, c, _⟩
  · exact .base (.tup h)
  · exact .fTuple h
  · exact .kTuple h c
theorem dp_ty {K : PySem.W.Frag} {H : Hp} {v : V} {d : PyData} (h : Dp K H v d) : TyX K H v (.type (tyD d)) := by
  cases h with
  | non => exact .base .non
  | bl b => exact .base (.bl b)
  | int i => exact .base (.int i)
  | str x => exact .base (.str x)
  | lst h _ => exact tyx_lst h
  | tup h _ => exact tyx_tup h
def isStrD : PyData → Bool
  | .str _ => true
  | _ => false
def isTupD : PyData → Bool
  | .tuple _ => true
  | _ => false
def isBoolD : PyData → Bool
  | .bool _ => true
  | _ => false
theorem kit_str {K : PySem.W.Frag} : ∀ d : PyData, PySem.W.kitOne K (.type (tyD d)) (.type "str") = some (isStrD d)
  | .none => kit_ty (show kitB "NoneType" "str" = some false by decide +kernel)
  | .bool _ => kit_ty (show kitB "bool" "str" = some false by decide +kernel)
  | .int _ => kit_ty (show kitB "int" "str" = some false by decide +kernel)
  | .str _ => kit_ty (show kitB "str" "str" = some true by decide +kernel)
  | .list _ => kit_ty (show kitB "list" "str" = some false by decide +kernel)
  | .tuple _ => kit_ty (show kitB "tuple" "str" = some false by decide +kernel)
  | .dict _ => kit_ty (show kitB "dict" "str" = some false by decide +kernel)
theorem kit_tup {K : PySem.W.Frag} : ∀ d : PyData, PySem.W.kitOne K (.type (tyD d)) (.type "tuple") = some (isTupD d)
  | .none => kit_ty (show kitB "NoneType" "tuple" = some false by decide +kernel)
  | .bool _ => kit_ty (show kitB "bool" "tuple" = some false by decide +kernel)
  | .int _ => kit_ty (show kitB "int" "tuple" = some false by decide +kernel)
  | .str _ => kit_ty (show kitB "str" "tuple" = some false by decide +kernel)
  | .list _ => kit_ty (show kitB "list" "tuple" = some false by decide +kernel)
  | .tuple _ => kit_ty (show kitB "tuple" "tuple" = some true by decide +kernel)
  | .dict _ => kit_ty (show kitB "dict" "tuple" = some false by decide +kernel)
theorem kit_bool {K : PySem.W.Frag} : ∀ d : PyData, PySem.W.kitOne K (.type (tyD d)) (.type "bool") = some (isBoolD d)
  | .none => kit_ty (show kitB "NoneType" "bool" = some false by decide +kernel)
  | .bool _ => kit_ty (show kitB "bool" "bool" = some true by decide +kernel)
  | .int _ => kit_ty (show kitB "int" "bool" = some false by decide +kernel)
  | .str _ => kit_ty (show kitB "str" "bool" = some false by decide +kernel)
  | .list _ => kit_ty (show kitB "list" "bool" = some false by decide +kernel)
  | .tuple _ => kit_ty (show kitB "tuple" "bool" = some false by decide +kernel)
  | .dict _ => kit_ty (show kitB "dict" "bool" = some false by decide +kernel)
mutual
/-- texts and sequences of a size that Python's own limits leave alone -/
def smD : PyData → Bool
  | .str z => decide (z.length ≤ 1000)
  | .list ds => decide (ds.length ≤ 1000) && smAll ds
  | .tuple ds => decide (ds.length ≤ 1000) && smAll ds
  | .dict _ => false
  | _ => true
def smAll : List PyData → Bool
  | [] => true
  | d :: r => smD d && smAll r
end
structure OkD (d : PyData) : Prop where
  sh : SeqAt.shaped d = true
  sm : smD d = true
theorem smAll_get : ∀ {ds : List PyData}, smAll ds = true → ∀ d ∈ ds, smD d = true
  | [], _, _, h => by cases h
  | x :: r, h, d, hd => by
    have h' : smD x = true ∧ smAll r = true := by simpa [smAll] using h
    rcases List.mem_cons.mp hd with e | e
    · exact e ▸ h'.1
    · exact smAll_get h'.2 d e
theorem depth_all : ∀ {ds : List PyData}, ∀ d ∈ ds, d.depth ≤ PyData.depthAll ds
  | [], d, h => by cases h
  | x :: r, d, hd => by
    show d.depth ≤ max x.depth (PyData.depthAll r)
    rcases List.mem_cons.mp hd with e | e
    · subst e
      exact Nat.le_max_left _ _
    · exact Nat.le_trans (depth_all d e) (Nat.le_max_right _ _)
theorem OkD.tup {ds : List PyData} (h : OkD (.tuple ds)) : ds.length ≤ 1000 ∧ ∀ d ∈ ds, OkD d := by
  obtain ⟨hs, hm⟩ := h
  have hm' : ds.length ≤ 1000 ∧ smAll ds = true := by simpa [smD] using hm
  refine ⟨hm'.1, fun d hd => ⟨?_, smAll_get hm'.2 d hd⟩⟩
  have h1 := SeqAt.canLay_of_shaped hs
  have h2 := SeqAt.depth_of_shaped hs
  have h3 : PyData.canLayAll0 ds = true := by simpa only [PyData.canLay0] using h1
  have h4 : PyData.depthAll ds + 1 ≤ 64 := h2
  have h5 := depth_all d hd
  show (d.canLay0 && decide (d.depth ≤ 64)) = true
  rw [Bool.and_eq_true]
  exact ⟨PyData.canLay0_of_mem ds d h3 hd, decide_eq_true (by omega)⟩
/-- what the words module reads of the top -/
structure Wds (K : PySem.W.Frag) (mg : Str → Option Value) : Prop where
  len : mg "len" = none
  isi : mg "isinstance" = none
  str : mg "str" = none
  tup : mg "tuple" = none
  all : mg "all" = none
  zip : mg "zip" = none
  most : ∃ t, mg "MOST_LETTERS" = some (.int 8 t)
  bar : ∃ a : Addr, mg "BARRED" = some (.ref a) ∧ ∀ H, SqT K H a (barred.map V.str)
theorem flat_strs (l : List Str) : (l.map V.str).all flatV = true := by
  rw [List.all_eq_true]
  intro x hx
  obtain ⟨y, _, rfl⟩ := List.mem_map.mp hx
  rfl
theorem in_strs (z : Str) : ∀ l : List Str, inV (V.str z) (l.map V.str) = l.contains z
  | [] => rfl
  | y :: r => by
    show (eqV (V.str y) (V.str z) || inV (V.str z) (r.map V.str)) = _
    rw [in_strs z r, List.contains_cons]
    congr 1
    show (y == z) = (z == y)
    rw [Bool.eq_iff_iff, beq_iff_eq, beq_iff_eq]
    exact eq_comm
theorem one_lt (c d : Nat) : decide ((⟨#[c]⟩ : Str).cps.toList < (⟨#[d]⟩ : Str).cps.toList) = decide (c < d) := by
  show decide ([c] < [d]) = decide (c < d)
  by_cases h : c < d
  · rw [decide_eq_true h]
    exact decide_eq_true (List.Lex.rel h)
  · rw [decide_eq_false h]
    refine decide_eq_false fun q => ?_
    rcases List.cons_lt_cons_iff.mp q with q | ⟨_, q⟩
    · exact h q
    · exact absurd q (List.not_lt_nil _)
section
variable {P : Program} {w : World} {K : PySem.W.Frag} {mg : Str → Option Value} {base : Heap}
/-- the answer of a question about any object -/
def spAsk (K : PySem.W.Frag) (q : PyData → Bool) : Sp := fun vs H Q _ => ∃ (v : V) (d : PyData), vs = [v] ∧ Dp K H v d ∧ OkD d ∧ ∀ H', Same H H' → Q (.bl (q d)) H'
theorem ok_name {f : Addr} {fd : FuncData} (F : Fun K "is_name" "is_name" sIsName f fd) (T : Wds K mg) : FnOk P w K mg base CX0 1 f fd ["thing"] (spAsk K isNameD) := by
  refine F.ok scIsName (fun vs H Q E h => ?_) (fun cdv A outer s H vs Q E hr h => ?_)
  · obtain ⟨v, d, rfl, _⟩ := h
    rfl
  · obtain ⟨v, d, rfl, hd, hsh, q⟩ := h
    obtain ⟨tm, hm⟩ := T.most
    obtain ⟨aB, hB, hBs⟩ := T.bar
    refine ⟨_, pss_cons (ps_if (PW.pt (pw_or (pt_not (pt_val (pe_callB call_isi (by rfl) T.isi (by decide +kernel) (pa_cons (pv 0) (pa_cons (pe_bltn (v := .ty "str") (by rfl) T.str (by decide +kernel) rfl) pa_nil)))))
        (pw_or1 (pt_not (pt_chain op_le op_le pe_int (pe_callB call_len_str (by rfl) T.len PySem.boot_len (pa_cons (pv 0) pa_nil)) (pe_glob (v := .int 8) (by rfl) hm ⟨_, rfl⟩))))))
        (pss_one (ps_ret pe_bl)) pss_nil)
      (pss_one (ps_ret (pe_and (pe_cmpR op_notIn_seq (pv 0) (pe_glob (v := .ref aB) (by rfl) hB rfl) rfl)
        (pe_one (pe_callB (cr_all rfl) (by rfl) T.all (by decide +kernel) (pa_cons
          (pe_lc (own := [("letter", 1)]) (g := gName 1) (tt := tYes) rfl scIsName.nd (pi_str (pv 0)) (blkOk_by (N := ["thing", "letter"]) (sc := defScope sIsName) (by decide +kernel)) (fun _ _ _ _ _ => pg_name (i := 1) scIsName.nd rfl (Or.inl rfl)) (fun _ _ _ _ _ => pts_nil)
            (fun _ _ _ _ _ => pe_chain op_le_str op_le_str pe_str (pv 1) pe_str)) pa_nil)))))), ?_⟩
    refine ⟨v, rfl, v, .ty "str", _, _, _, rfl, .ty _, dp_ty hd, kit_str d, _, rfl, ?_⟩
    by_cases hstr : isStrD d = true
    · cases d with
      | str z =>
        cases hd
        have hz : z.length ≤ 1000 := of_decide_eq_true hsh.sm
        have hz2 : z.length ≤ sizeLine := Nat.le_of_lt (small1000 hz)
        refine iteF ?_
        refine ⟨_, rfl, _, rfl, hz2, _, _, rfl, rfl, _, rfl, ?_⟩
        have Z : z.length = z.cps.toList.length := (Array.length_toList).symm
        have no : ¬ (1 ≤ z.length ∧ z.length ≤ 8) → isNameD (.str z) = false := fun hn => by
          show nameOk z = false
          unfold nameOk
          by_cases h1 : 1 ≤ z.length
          · have h2 : ¬ z.length ≤ 8 := fun h2 => hn ⟨h1, h2⟩
            simp [h1, h2]
          · simp [h1]
        refine ite2 (fun k1 => ?_) (fun k1 => ?_)
        · have h1 : (1 : Int) ≤ (z.length : Int) := of_decide_eq_true k1
          refine ⟨_, _, rfl, rfl, _, rfl, ite2 (fun k2 => ?_) (fun k2 => ?_)⟩
          · have h2 : ¬ (z.length : Int) ≤ 8 := by simpa using k2
            rw [no (by omega)] at q
            exact q _ (Same.refl _)
          · have h2 : (z.length : Int) ≤ 8 := by simpa using k2
            have en : isNameD (.str z) = (!(barred.contains z) && z.cps.toList.all lowC) := by
              show nameOk z = _
              unfold nameOk
              rw [decide_eq_true (show 1 ≤ z.length by omega), decide_eq_true (show z.length ≤ 8 by omega)]
              rfl
            rw [en] at q
            refine ⟨_, rfl, aB, _, rfl, .inr (hBs _), rfl, flat_strs _, _, rfl, ?_⟩
            show if (!inV (V.str z) (barred.map V.str)) = true then _ else _
            rw [in_strs]
            cases hb : barred.contains z with
            | true =>
              rw [hb] at q
              refine iteF ?_
              exact q _ (Same.refl _)
            | false =>
              rw [hb] at q
              refine iteT ?_
              refine ⟨_, rfl, z, rfl, fun D hD => lc_it walk_str (fun i H1 => Same H H1 ∧ H1 D = some (.lst (((z.cps.toList.take i).map lowC).map V.bl))) ⟨same_upd hD, upd_same⟩ (fun _ _ _ _ => trivial) ?_ ?_⟩
              · rintro i x H1 H2 hi ⟨sm, hl⟩ ⟨rfl, c, hc, rfl⟩
                have hc' : z.cps.toList[i]? = some c := by rw [Array.getElem?_toList]; exact hc
                have ht : ((z.cps.toList.take i).map lowC).map V.bl ++ [V.bl (lowC c)] = ((z.cps.toList.take (i + 1)).map lowC).map V.bl := by
                  rw [List.take_add_one, hc', List.map_append, List.map_append]
                  rfl
                have nx : Same H (upd H2 D (.lst (((z.cps.toList.take (i + 1)).map lowC).map V.bl))) := fun b o e => by
                  rw [upd_ne (ne_of_none e hD)]
                  exact sm _ _ e
                have hsz : (((z.cps.toList.take i).map lowC).map V.bl).length < sizeLine := by
                  rw [List.length_map, List.length_map, List.length_take]
                  exact small1000 (by omega)
                have ea : (!decide ((⟨#[c]⟩ : Str).cps.toList < (("a" : Str)).cps.toList)) = decide (97 ≤ c) := by
                  show (!decide ((⟨#[c]⟩ : Str).cps.toList < (⟨#[97]⟩ : Str).cps.toList)) = _
                  rw [one_lt, ← decide_not]
                  exact decide_eq_decide.mpr (by omega)
                have ez : (!decide ((("z" : Str)).cps.toList < (⟨#[c]⟩ : Str).cps.toList)) = decide (c ≤ 122) := by
                  show (!decide ((⟨#[122]⟩ : Str).cps.toList < (⟨#[c]⟩ : Str).cps.toList)) = _
                  rw [one_lt, ← decide_not]
                  exact decide_eq_decide.mpr (by omega)
                refine ⟨rfl, ?_⟩
                unfold tYes
                refine iteT ?_
                refine ⟨_, rfl, _, _, rfl, rfl, _, rfl, ?_⟩
                rw [ea]
                refine ite2 (fun k => ?_) (fun k => ?_)
                · refine ⟨_, _, rfl, rfl, ?_⟩
                  rw [ez]
                  have el : lowC c = decide (c ≤ 122) := by
                    unfold lowC
                    rw [k]
                    rfl
                  refine ⟨_, hl, hsz, ?_⟩
                  rw [← el, ht]
                  exact ⟨nx, upd_same⟩
                · have el : lowC c = false := by
                    unfold lowC
                    rw [eq_false_of_ne_true k]
                    rfl
                  refine ⟨_, hl, hsz, ?_⟩
                  rw [← el, ht]
                  exact ⟨nx, upd_same⟩
              · rintro H1 ⟨sm, hl⟩
                refine ⟨D, _, rfl, .inl (.inl hl), ?_⟩
                rw [List.take_of_length_le (Nat.le_of_eq (Array.length_toList)), List.all_map]
                exact q _ sm
        · have h1 : ¬ (1 : Int) ≤ (z.length : Int) := by simpa using k1
          refine ⟨_, rfl, iteT ?_⟩
          rw [no (by omega)] at q
          exact q _ (Same.refl _)
      | _ => cases hstr
    · have e : isStrD d = false := by simpa using hstr
      rw [e]
      refine iteT ?_
      refine iteT ?_
      have en : isNameD d = false := by cases d <;> first | rfl | exact absurd rfl hstr
      rw [en] at q
      exact q _ (Same.refl _)
end
end Dr
namespace Dr
open PySem PySem.Spec PyProof.Rows L2
def isClsD : PyData → Bool
  | .str z => z == "cls"
  | _ => false
theorem eqv_cls : ∀ d : PyData, PyData.eqv d (.str "cls") = isClsD d
  | .none => rfl | .bool _ => rfl | .int _ => rfl | .str _ => rfl | .list _ => rfl | .tuple _ => rfl | .dict _ => rfl
theorem walk_zipT {K : PySem.W.Frag} {a b : Addr} {xs ys : List V} {n : Nat} (hn : n = min xs.length ys.length) : Walk (RZ.ItzT K a b) n (fun H => SqT K H a xs ∧ SqT K H b ys) (YPair (fun i => xs[i]?) (fun i => ys[i]?)) := by
  subst hn
  refine ⟨fun i _ hi q => ?_, fun _ q => ⟨xs, ys, q.1, q.2, by omega⟩, fun i H v H' _ q y => ?_⟩
  · have h1 : i < xs.length := by omega
    have h2 : i < ys.length := by omega
    exact ⟨xs, ys, xs[i], ys[i], q.1, q.2, by simp [h1], by simp [h2]⟩
  · obtain ⟨T, x, z, h1, h2, h3, h4, h5⟩ := y
    exact ⟨T, x, z, h1, h2, h3, h4 xs q.1, h5 ys q.2⟩
/-- neighbours in order -/
def pairsLt (zs : List Str) : List Bool := (zs.zip (zs.drop 1)).map fun p => ltS p.1 p.2
theorem pairs_all : ∀ zs : List Str, (pairsLt zs).all id = ascS zs
  | [] => rfl
  | [_] => rfl
  | a :: b :: r => by
    show (ltS a b && (pairsLt (b :: r)).all id) = (ltS a b && ascS (b :: r))
    rw [pairs_all (b :: r)]
theorem cutT1 (xs : List V) : cutV xs (some 1) none = xs.drop 1 := by
  unfold cutV
  rw [show HT.sIx xs.length 0 (some 1) = min 1 xs.length from HT.sIx_nat xs.length 0 1, HT.sIx_none]
  cases xs with
  | nil => rfl
  | cons x r =>
    rw [show min 1 (x :: r).length = 1 by
      rw [List.length_cons]
      omega]
    show (List.take ((x :: r).length - 1) r) = r
    rw [List.length_cons, Nat.add_sub_cancel]
    exact List.take_length
/-- t[1:] of a tuple -/
theorem tail_of {K : PySem.W.Frag} {H : Hp} {a : Addr} {xs : List V} {Q : VK} (h : SqT K H a xs) (q : ∀ b H', Same H H' → SqT K H' b (xs.drop 1) → Q (.ref b) H') : rSlA K (.ref a) (some 1) none H Q := by
  refine ⟨a, xs, rfl, h, fun e => ?_, fun _ p np => q p _ (same_upd np) (.inl (.inl (by rw [upd_same, cutT1])))⟩
  have e1 : min 1 xs.length = 0 := by
    rw [show HT.sIx xs.length 0 (some 1) = min 1 xs.length from HT.sIx_nat xs.length 0 1] at e
    exact e.1
  have e2 : xs = [] := List.eq_nil_of_length_eq_zero (by omega)
  subst e2
  exact q a H (Same.refl _) h
/-- t[1:], by what it gives -/
def rTail (K : PySem.W.Frag) : V → Option Int → Option Int → Hp → VK → Prop := fun x lo hi H Q => lo = some 1 ∧ hi = none ∧ ∃ a xs, x = .ref a ∧ SqT K H a xs ∧ ∀ b H', Same H H' → SqT K H' b (xs.drop 1) → Q (.ref b) H'
theorem sl_tail {X : Cx} : SlR X (rTail X.K) := fun pins s σ H x v vl vu lo hi sl Q I rx hs pl pu h => by
  obtain ⟨rfl, rfl, a, xs, rfl, hx, q⟩ := h
  exact sl_tupA pins s σ H _ v vl vu _ _ sl Q I rx hs pl pu (tail_of hx q)
theorem strs_of_all : ∀ {ds : List PyData}, ds.all isNameD = true → ∃ zs : List Str, ds = zs.map PyData.str
  | [], _ => ⟨[], rfl⟩
  | .str z :: r, h => by
    have h' : isNameD (.str z) = true ∧ r.all isNameD = true := by simpa using h
    obtain ⟨zs, e⟩ := strs_of_all h'.2
    exact ⟨z :: zs, by rw [e]; rfl⟩
  | .none :: _, h => by simp [isNameD] at h
  | .bool _ :: _, h => by simp [isNameD] at h
  | .int _ :: _, h => by simp [isNameD] at h
  | .list _ :: _, h => by simp [isNameD] at h
  | .tuple _ :: _, h => by simp [isNameD] at h
  | .dict _ :: _, h => by simp [isNameD] at h
theorem strsOf_map : ∀ zs : List Str, strsOf (zs.map PyData.str) = some zs
  | [] => rfl
  | z :: r => by
    show (strsOf (r.map PyData.str)).map (z :: ·) = _
    rw [strsOf_map r]
    rfl
theorem vals_strs {K : PySem.W.Frag} {H : Hp} : ∀ {zs : List Str} {vs : List V}, DpAll K H vs (zs.map PyData.str) → vs = zs.map V.str
  | [], _, .nil => rfl
  | z :: r, _, .cons h hs => by
    cases h
    rw [vals_strs hs]
    rfl
theorem acc_next {f : PyData → Bool} {ds : List PyData} {i : Nat} {d : PyData} (h : ds[i]? = some d) : ((ds.take i).map f).map V.bl ++ [V.bl (f d)] = ((ds.take (i + 1)).map f).map V.bl := by
  rw [List.take_add_one, h, List.map_append, List.map_append]
  rfl
section
variable {P : Program} {w : World} {K : PySem.W.Frag} {mg : Str → Option Value} {base : Heap}
theorem ok_owner {f fN : Addr} {fd fdN : FuncData} (F : Fun K "is_owner" "is_owner" sIsOwner f fd) (GN : FnOk P w K mg base CX0 1 fN fdN ["thing"] (spAsk K isNameD)) (mN : mg "is_name" = some (.ref fN)) (kN : PySem.W.keepIn K (.ref fN) = true) (bN : Binds K fdN ["thing"] []) :
    FnOk P w K mg base CX0 2 f fd ["thing"] (spAsk K isOwnerD) := by
  refine F.ok scIsOwner (fun vs H Q E h => ?_) (fun cdv A outer s H vs Q E hr h => ?_)
  · obtain ⟨v, d, rfl, _⟩ := h
    rfl
  · obtain ⟨v, d, rfl, hd, hok, q⟩ := h
    have hu : (A.deeper (envOfC "is_owner" (defScope sIsOwner) s.heap.objs.size f cdv)).units + 64 < cLine := hr.units
    refine ⟨_, pss_one (ps_ret (pe_or (pe_cmpR (op_eqD hu) (pv 0) pe_str (nomark _)) (pe_one (pe_call GN hr (by rfl) mN kN bN .nil pass0 (pa_cons (pv 0) pa_nil))))), ?_⟩
    refine ⟨v, rfl, d, .str "cls", hd, .str _, hok.sh, (by decide +kernel), _, rfl, ?_⟩
    rw [eqv_cls]
    have hq : ∀ b : Bool, isClsD d = b → isOwnerD d = (b || isNameD d) := fun b e => by
      subst e
      cases d <;> rfl
    refine ite2 (fun k => ?_) (fun k => ?_)
    · rw [hq _ k] at q
      exact q _ (Same.refl _)
    · rw [hq _ (eq_false_of_ne_true k)] at q
      exact ⟨v, rfl, v, d, rfl, hd, hok, q⟩
def spAsc (K : PySem.W.Frag) : Sp := fun vs H Q _ => ∃ (a : Addr) (zs : List Str), vs = [.ref a] ∧ SqT K H a (zs.map V.str) ∧ zs.length ≤ 1000 ∧ ∀ H', Same H H' → Q (.bl (ascS zs)) H'
theorem ok_asc {f : Addr} {fd : FuncData} (F : Fun K "is_ascending" "is_ascending" sIsAsc f fd) (T : Wds K mg) : FnOk P w K mg base CX0 1 f fd ["words"] (spAsc K) := by
  refine F.ok scIsAsc (fun vs H Q E h => ?_) (fun cdv A outer s H vs Q E hr h => ?_)
  · obtain ⟨a, zs, rfl, _⟩ := h
    rfl
  · obtain ⟨a, zs, rfl, hS, hlen, q⟩ := h
    refine ⟨_, pss_one (ps_ret (pe_callB (cr_all rfl) (by rfl) T.all (by decide +kernel) (pa_cons
          (pe_lc (own := [("low", 1), ("high", 2)]) (g := gTup K 2 (gCons (gName 1) (gCons (gName 2) gNil))) (tt := tYes) rfl scIsAsc.nd (RZ.pi_zipA (by rfl) T.zip (pa_cons (pv 0) (pa_cons (pe_slice sl_tail (pv 0) (po_some pe_int) po_none) pa_nil)))
            (blkOk_by (N := ["words", "low", "high"]) (sc := defScope sIsAsc) (by decide +kernel)) (fun _ _ _ _ _ => pg_tup rfl (pgs_cons (pg_name (i := 1) scIsAsc.nd rfl (Or.inl rfl)) (pgs_cons (pg_name (i := 2) scIsAsc.nd rfl (Or.inl rfl)) pgs_nil))) (fun _ _ _ _ _ => pts_nil)
            (fun _ _ _ _ _ => pe_cmpR op_lt_str (pv 1) (pv 2) (nomark _))) pa_nil))), ?_⟩
    refine ⟨_, rfl, _, rfl, 1, rfl, rfl, rfl, a, _, rfl, hS, fun b H1 s1 hb => ?_⟩
    rw [← List.map_drop] at hb
    refine ⟨a, b, zs.map V.str, (zs.drop 1).map V.str, rfl, .inr ⟨Same.seqT s1 hS, hb, fun D hD => ?_⟩⟩
    have hz : (zs.zip (zs.drop 1)).length = zs.length - 1 := by
      rw [List.length_zip, List.length_drop]
      omega
    refine lc_it (walk_zipT (n := (zs.zip (zs.drop 1)).length) (by rw [List.length_map, List.length_map, List.length_zip])) (fun i H2 => Same H1 H2 ∧ H2 D = some (.lst (((pairsLt zs).take i).map V.bl))) ⟨same_upd hD, upd_same⟩ (fun _ _ _ h => ⟨Same.seqT (s1.trans h.1) hS, Same.seqT h.1 hb⟩) ?_ ?_
    · rintro i v H2 H3 hi ⟨sm, hl⟩ ⟨T', x, y, rfl, nT, rfl, e1, e2⟩
      have hi1 : i < zs.length := by omega
      have hi2 : i < (zs.drop 1).length := by rw [List.length_drop]; omega
      have e1 := (show (zs.map V.str)[i]? = some x from e1)
      have e2 := (show ((zs.drop 1).map V.str)[i]? = some y from e2)
      rw [List.getElem?_map, List.getElem?_eq_getElem hi1] at e1
      rw [List.getElem?_map, List.getElem?_eq_getElem hi2] at e2
      obtain rfl := Option.some.inj e1
      obtain rfl := Option.some.inj e2
      have nD : D ≠ T' := ne_of_none hl nT
      have hg : (pairsLt zs)[i]? = some (ltS zs[i] (zs.drop 1)[i]) := by
        unfold pairsLt
        rw [List.getElem?_map, List.getElem?_eq_getElem hi, List.getElem_zip]
        rfl
      refine ⟨T', _, rfl, .inl (.inl upd_same), rfl, _, _, rfl, _, _, rfl, rfl, rfl, ?_⟩
      unfold tYes
      refine iteT ?_
      refine ⟨_, rfl, _, rfl, _, _, rfl, rfl, _, (by rw [upd_ne nD]; exact hl), ?_, fun c o e => ?_, ?_⟩
      · rw [List.length_map, List.length_take]
        exact small1000 (by omega)
      · rw [upd_ne (ne_of_none e hD), upd_ne (ne_of_none (sm _ _ e) nT)]
        exact sm _ _ e
      · rw [upd_same, List.take_add_one, hg, List.map_append]
        rfl
    · rintro H2 ⟨sm, hl⟩
      refine ⟨D, _, rfl, .inl (.inl hl), ?_⟩
      rw [List.take_of_length_le (by unfold pairsLt; rw [List.length_map]; exact Nat.le_refl _), pairs_all]
      exact q _ (s1.trans sm)
theorem ok_items {f fN fA : Addr} {fd fdN fdA : FuncData} (F : Fun K "is_items" "is_items" sIsItems f fd) (T : Wds K mg) (GN : FnOk P w K mg base CX0 1 fN fdN ["thing"] (spAsk K isNameD)) (mN : mg "is_name" = some (.ref fN)) (kN : PySem.W.keepIn K (.ref fN) = true) (bN : Binds K fdN ["thing"] [])
    (GA : FnOk P w K mg base CX0 1 fA fdA ["words"] (spAsc K)) (mA : mg "is_ascending" = some (.ref fA)) (kA : PySem.W.keepIn K (.ref fA) = true) (bA : Binds K fdA ["words"] []) :
    FnOk P w K mg base CX0 2 f fd ["thing"] (spAsk K isItemsD) := by
  refine F.ok scIsItems (fun vs H Q E h => ?_) (fun cdv A outer s H vs Q E hr h => ?_)
  · obtain ⟨v, d, rfl, _⟩ := h
    rfl
  · obtain ⟨v, d, rfl, hd, hok, q⟩ := h
    refine ⟨_, pss_one (ps_ret (pe_and (pe_callB call_isi (by rfl) T.isi (by decide +kernel) (pa_cons (pv 0) (pa_cons (pe_bltn (v := .ty "tuple") (by rfl) T.tup (by decide +kernel) rfl) pa_nil)))
      (pe_and (pe_callB (cr_all rfl) (by rfl) T.all (by decide +kernel) (pa_cons
          (pe_lc (own := [("part", 1)]) (g := gName 1) (tt := tYes) rfl scIsItems.nd (pi_tup (pv 0)) (blkOk_by (N := ["thing", "part"]) (sc := defScope sIsItems) (by decide +kernel)) (fun _ _ _ _ _ => pg_name (i := 1) scIsItems.nd rfl (Or.inl rfl)) (fun _ _ _ _ _ => pts_nil)
            (fun _ _ _ _ _ => pe_call GN hr (by rfl) mN kN bN .nil pass0 (pa_cons (pv 1) pa_nil))) pa_nil))
        (pe_one (pe_call GA hr (by rfl) mA kA bA .nil pass0 (pa_cons (pv 0) pa_nil)))))), ?_⟩
    refine ⟨v, rfl, v, .ty "tuple", _, _, _, rfl, .ty _, dp_ty hd, kit_tup d, _, rfl, ?_⟩
    by_cases ht : isTupD d = true
    · cases d with
      | tuple ds =>
        cases hd with
        | @tup a xs _ hS hall =>
          obtain ⟨hlen, hoks⟩ := hok.tup
          have hxl := dpAll_len hall
          refine iteT ?_
          refine ⟨_, rfl, a, rfl, ⟨_, hS⟩, fun D hD => lc_it walk_tup (fun i H1 => Same H H1 ∧ H1 D = some (.lst (((ds.take i).map isNameD).map V.bl))) ⟨same_upd hD, upd_same⟩ (fun _ _ _ h => Same.seqT h.1 hS) ?_ ?_⟩
          · rintro i x H1 H2 hi ⟨sm, hl⟩ ⟨rfl, hx⟩
            obtain ⟨d', hd', hdp⟩ := dpAll_get hall hx
            refine ⟨rfl, ?_⟩
            unfold tYes
            refine iteT ?_
            refine ⟨_, rfl, _, d', rfl, dp_same sm hdp, hoks d' (List.mem_of_getElem? hd'), fun H3 s3 => ?_⟩
            refine ⟨_, s3 _ _ hl, ?_, ?_⟩
            · rw [List.length_map, List.length_map, List.length_take]
              exact small1000 (by omega)
            · rw [acc_next hd']
              refine ⟨fun c o e => ?_, upd_same⟩
              rw [upd_ne (ne_of_none e hD)]
              exact s3 _ _ (sm _ _ e)
          · rintro H1 ⟨sm, hl⟩
            refine ⟨D, _, rfl, .inl (.inl hl), _, rfl, ?_⟩
            rw [hxl, List.take_of_length_le (Nat.le_refl _), List.all_map]
            show if ds.all isNameD = true then _ else _
            refine ite2 (fun hn => ?_) (fun hn => ?_)
            · obtain ⟨zs, rfl⟩ := strs_of_all hn
              have e := vals_strs hall
              subst e
              have ed : isItemsD (.tuple (zs.map PyData.str)) = ascS zs := by
                show ((zs.map PyData.str).all isNameD && (match strsOf (zs.map PyData.str) with | some zs => ascS zs | none => false)) = _
                rw [hn, strsOf_map]
                rfl
              rw [ed] at q
              rw [List.length_map] at hlen
              exact ⟨_, rfl, a, zs, rfl, Same.seqT sm hS, hlen, fun H2 s2 => q _ (sm.trans s2)⟩
            · have ed : isItemsD (.tuple ds) = false := by
                show (ds.all isNameD && _) = false
                rw [eq_false_of_ne_true hn]
                rfl
              rw [ed] at q
              exact q _ sm
      | _ => cases ht
    · have e : isTupD d = false := eq_false_of_ne_true ht
      rw [e]
      refine iteF ?_
      have en : isItemsD d = false := by cases d <;> first | rfl | exact absurd rfl ht
      rw [en] at q
      exact q _ (Same.refl _)
end
end Dr
namespace Dr
open PySem PySem.Spec PyProof.Rows L2
abbrev sFormOf : Stmt := topS 24
abbrev sIsSort : Stmt := topS 25
abbrev sHasForm : Stmt := topS 26
abbrev sIsDef : Stmt := topS 27
theorem scFormOf : FnScope ["thing", "forms", "form"] ["thing", "forms"] (defScope sFormOf) := ⟨rfl, rfl, rfl, by decide +kernel, rfl, by decide +kernel, by decide +kernel⟩
theorem scIsSort : FnScope ["part", "sort"] ["part", "sort"] (defScope sIsSort) := ⟨rfl, rfl, rfl, by decide +kernel, rfl, by decide +kernel, by decide +kernel⟩
theorem scHasForm : FnScope ["thing", "forms", "form", "part", "sort"] ["thing", "forms"] (defScope sHasForm) := ⟨rfl, rfl, rfl, by decide +kernel, rfl, by decide +kernel, by decide +kernel⟩
theorem scIsDef : FnScope ["thing", "holds"] ["thing", "holds"] (defScope sIsDef) := ⟨rfl, rfl, rfl, by decide +kernel, rfl, by decide +kernel, by decide +kernel⟩
abbrev Form := List Str
def fits (d : PyData) (f : Form) : Bool := match d, f with
  | .tuple (x :: r), w :: q => (r.length == q.length) && PyData.eqv x (.str w)
  | _, _ => false
def formOf (d : PyData) (fs : List Form) : Option Form := fs.find? (fits d)
def sorted2 (S : PyData → Str → Bool) : List PyData → List Str → List Bool
  | d :: r, z :: q => S d z :: sorted2 S r q
  | _, _ => []
def tailD : PyData → List PyData
  | .tuple ds => ds.drop 1
  | _ => []
def hasForm (S : PyData → Str → Bool) (d : PyData) (fs : List Form) : Bool := match formOf d fs with
  | none => false
  | some f => (sorted2 S (tailD d) (f.drop 1)).all id
/-- a tuple of forms of the written part -/
def FmAt (K : PySem.W.Frag) (b : Addr) (f : Form) : Prop := ∀ H, SqT K H b (f.map V.str)
structure Fms (K : PySem.W.Frag) (a : Addr) (fs : List Form) : Prop where
  ex : ∃ as : List Addr, (∀ H, SqT K H a (as.map V.ref)) ∧ Paired (FmAt K) as fs
theorem paired_get {α β : Type} {R : α → β → Prop} : ∀ {xs : List α} {ys : List β} {i : Nat} {x : α}, Paired R xs ys → xs[i]? = some x → ∃ y, ys[i]? = some y ∧ R x y
  | _, _, i, x, .nil, h => by simp at h
  | _, _, 0, x, .cons r _, h => ⟨_, rfl, by
    have q := Option.some.inj h
    subst q
    exact r⟩
  | _, _, i + 1, x, .cons _ rs, h => paired_get (i := i) rs h
theorem fits_not {d : PyData} {f : Form} (h : isTupD d = false) : fits d f = false := by
  cases d <;> first | rfl | cases h
theorem formOf_not {d : PyData} {fs : List Form} (h : isTupD d = false) : formOf d fs = none := by
  unfold formOf
  rw [List.find?_eq_none]
  intro f _
  rw [fits_not h]
  exact Bool.false_ne_true
theorem formOf_next {d : PyData} {fs : List Form} {i : Nat} {f : Form} (h : fs[i]? = some f) (n : formOf d (fs.take i) = none) : (fits d f = true → formOf d fs = some f) ∧ (fits d f = false → formOf d (fs.take (i + 1)) = none) := by
  unfold formOf at n ⊢
  refine ⟨fun e => ?_, fun e => ?_⟩
  · have hs : fs = fs.take i ++ (f :: fs.drop (i + 1)) := by
      obtain ⟨hi, rfl⟩ := List.getElem?_eq_some_iff.mp h
      rw [← List.drop_eq_getElem_cons hi, List.take_append_drop]
    rw [hs, List.find?_append, n, List.find?_cons, e]
    rfl
  · rw [List.take_add_one, h, List.find?_append, n, Option.none_or]
    show List.find? (fits d) [f] = none
    rw [List.find?_cons, e]
    rfl
section
variable {P : Program} {w : World} {K : PySem.W.Frag} {mg : Str → Option Value} {base : Heap}
def spFormOf (K : PySem.W.Frag) : Sp := fun vs H Q _ => ∃ (v : V) (d : PyData) (a : Addr) (fs : List Form), vs = [v, .ref a] ∧ Dp K H v d ∧ OkD d ∧ Fms K a fs ∧ (∀ f ∈ fs, 1 ≤ f.length ∧ ∀ z ∈ f, SeqAt.shaped (.str z) = true) ∧ (formOf d fs = none → Q .non H) ∧ ∀ f b, f ∈ fs → formOf d fs = some f → FmAt K b f → Q (.ref b) H
theorem ok_formOf {f : Addr} {fd : FuncData} (F : Fun K "form_of" "form_of" sFormOf f fd) (T : Wds K mg) : FnOk P w K mg base CX0 1 f fd ["thing", "forms"] (spFormOf K) := by
  refine F.ok scFormOf (fun vs H Q E h => ?_) (fun cdv A outer s H vs Q E hr h => ?_)
  · obtain ⟨v, d, a, fs, rfl, _⟩ := h
    rfl
  · obtain ⟨v, d, a, fs, rfl, hd, hok, hF, h1, q0, q1⟩ := h
    have hu : (A.deeper (envOfC "form_of" (defScope sFormOf) s.heap.objs.size f cdv)).units + 64 < cLine := hr.units
    refine ⟨_, pss_cons (ps_if (pt_not (pt_val (pe_callB call_isi (by rfl) T.isi (by decide +kernel) (pa_cons (pv 0) (pa_cons (pe_bltn (v := .ty "tuple") (by rfl) T.tup (by decide +kernel) rfl) pa_nil))))) (pss_one (ps_ret pe_non)) pss_nil)
      (pss_cons (ps_for PassesOwn.never rfl (pi_tup (pv 1)) (pg_name (i := 2) scFormOf.nd rfl (.inl rfl))
        (pss_one (ps_if (PW.pt (pw_and (pt_cmpR op_eq (pe_callB call_len_seq (by rfl) T.len PySem.boot_len (pa_cons (pv 0) pa_nil)) (pe_callB call_len_seq (by rfl) T.len PySem.boot_len (pa_cons (pv 2) pa_nil)) (nomark _))
            (pw_and1 (pt_cmpR (op_eqD hu) (pe_ix ix_tup (pv 0) pe_int (fun _ _ => rfl)) (pe_ix ix_tup (pv 2) pe_int (fun _ _ => rfl)) (nomark _)))))
          (pss_one (ps_ret (pv 2))) pss_nil)))
      (pss_one (ps_ret pe_non))), ?_⟩
    refine ⟨v, rfl, v, .ty "tuple", _, _, _, rfl, .ty _, dp_ty hd, kit_tup d, _, rfl, ?_⟩
    by_cases ht : isTupD d = true
    · rw [ht]
      refine iteF ?_
      obtain ⟨as, hS, hP⟩ := hF.ex
      refine ⟨_, rfl, a, rfl, ⟨_, hS _⟩, for_it walk_tup (fun i σ H' => H' = H ∧ (∃ y, σ = [some v, some (.ref a), y]) ∧ formOf d (fs.take i) = none) ⟨rfl, ⟨_, rfl⟩, rfl⟩ (fun _ _ _ _ _ => hS _) ?_ ?_⟩
      · rintro i x σ H1 H2 hi ⟨rfl, ⟨y, rfl⟩, hn⟩ ⟨rfl, hx⟩
        rw [List.getElem?_map] at hx
        cases hb : as[i]? with
        | none =>
          rw [hb] at hx
          cases hx
        | some b =>
          rw [hb] at hx
          obtain rfl := Option.some.inj hx
          obtain ⟨fm, hfm, hat⟩ := paired_get hP hb
          have hmem : fm ∈ fs := List.mem_of_getElem? hfm
          obtain ⟨hl1, hsh1⟩ := h1 fm hmem
          have hnx := formOf_next hfm hn
          cases d with
          | tuple ds =>
            cases hd with
            | @tup va xs _ hSd hall =>
              have hxl := dpAll_len hall
              refine ⟨_, rfl, va, _, rfl, .inr hSd, _, rfl, b, _, rfl, .inr (hat _), rfl, _, rfl, ?_⟩
              refine ite2 (fun k => ?_) (fun k => ?_)
              · have e1 : (xs.length : Int) = ((fm.map V.str).length : Int) := V.int.inj (of_decide_eq_true k)
                rw [List.length_map] at e1
                cases fm with
                | nil => exact absurd hl1 (by decide)
                | cons z zs =>
                  rw [List.length_cons] at e1
                  cases hall with
                  | nil =>
                    rw [List.length_nil] at e1
                    omega
                  | @cons x0 xr d0 dr hp0 hpr =>
                    have hok0 : OkD d0 := (hok.tup).2 d0 (List.mem_cons_self ..)
                    have el : (dr.length == zs.length) = true := by
                      rw [beq_iff_eq]
                      have := dpAll_len hpr
                      rw [List.length_cons] at e1
                      omega
                    refine ⟨_, rfl, va, _, 0, x0, rfl, rfl, hSd, atI_nat (j := 0) rfl, _, rfl, b, _, 0, .str z, rfl, rfl, hat _, atI_nat (j := 0) rfl, d0, .str z, hp0, .str z, hok0.sh, ?_, _, rfl, ?_⟩
                    · exact hsh1 z (List.mem_cons_self ..)
                    · have ef : fits (.tuple (d0 :: dr)) (z :: zs) = PyData.eqv d0 (.str z) := by
                        show ((dr.length == zs.length) && PyData.eqv d0 (.str z)) = _
                        rw [el]
                        rfl
                      refine ite2 (fun k => ?_) (fun k => ?_)
                      · exact ⟨_, rfl, q1 _ b hmem (hnx.1 (ef.trans k)) hat⟩
                      · exact ⟨rfl, ⟨_, rfl⟩, hnx.2 (ef.trans (eq_false_of_ne_true k))⟩
              · refine ⟨rfl, ⟨_, rfl⟩, hnx.2 ?_⟩
                have e1 : ¬ (xs.length : Int) = ((fm.map V.str).length : Int) := fun e => k (decide_eq_true (by rw [e]))
                rw [List.length_map] at e1
                cases fm with
                | nil => exact absurd hl1 (by decide)
                | cons z zs =>
                  cases ds with
                  | nil => rfl
                  | cons d0 dr =>
                    show ((dr.length == zs.length) && PyData.eqv d0 (.str z)) = false
                    rw [List.length_cons] at e1 hxl
                    rw [show (dr.length == zs.length) = false from beq_eq_false_iff_ne.mpr (by omega)]
                    rfl
          | _ => cases ht
      · rintro σ H1 ⟨rfl, ⟨y, rfl⟩, hn⟩
        have hl : fs.length = (as.map V.ref).length := by
          rw [List.length_map, hP.length]
        rw [← hl, List.take_length] at hn
        exact q0 hn
    · rw [eq_false_of_ne_true ht]
      exact iteT (q0 (formOf_not (eq_false_of_ne_true ht)))
/-- a question about a part and its sort, for sorts that ok allows -/
def spSort (K : PySem.W.Frag) (S : PyData → Str → Bool) (ok : Str → Prop) : Sp := fun vs H Q _ => ∃ (v : V) (d : PyData) (z : Str), vs = [v, .str z] ∧ Dp K H v d ∧ OkD d ∧ ok z ∧ ∀ H', Same H H' → Q (.bl (S d z)) H'
structure FmOk (ok : Str → Prop) (fs : List Form) : Prop where
  len : ∀ f ∈ fs, 1 ≤ f.length ∧ ∀ z ∈ f, SeqAt.shaped (.str z) = true
  tl : ∀ f ∈ fs, ∀ z ∈ f.drop 1, ok z
structure FmOkD (ok : Str → Prop) (d : PyData) (fs : List Form) : Prop where
  len : ∀ f ∈ fs, 1 ≤ f.length ∧ ∀ z ∈ f, SeqAt.shaped (.str z) = true
  tl : ∀ f, formOf d fs = some f → ∀ z ∈ f.drop 1, ok z
theorem FmOk.toD {ok : Str → Prop} {d : PyData} {fs : List Form} (h : FmOk ok fs) : FmOkD ok d fs := ⟨h.len, fun f e => h.tl f (List.mem_of_find?_eq_some e)⟩
def spHas (K : PySem.W.Frag) (S : PyData → Str → Bool) (ok : Str → Prop) : Sp := fun vs H Q _ => ∃ (v : V) (d : PyData) (a : Addr) (fs : List Form), vs = [v, .ref a] ∧ Dp K H v d ∧ OkD d ∧ Fms K a fs ∧ FmOkD ok d fs ∧ ∀ H', Same H H' → Q (.bl (hasForm S d fs)) H'
theorem sorted2_len {S : PyData → Str → Bool} : ∀ (ds : List PyData) (zs : List Str), (sorted2 S ds zs).length = min ds.length zs.length
  | [], _ => by simp [sorted2]
  | _ :: _, [] => by simp [sorted2]
  | _ :: r, _ :: q => by
    show (sorted2 S r q).length + 1 = _
    rw [sorted2_len r q, List.length_cons, List.length_cons]
    omega
theorem sorted2_get {S : PyData → Str → Bool} : ∀ {ds : List PyData} {zs : List Str} {i : Nat} {d : PyData} {z : Str}, ds[i]? = some d → zs[i]? = some z → (sorted2 S ds zs)[i]? = some (S d z)
  | [], _, i, d, z, h, _ => by simp at h
  | _ :: _, [], i, d, z, _, h => by simp at h
  | x :: r, y :: q, 0, d, z, h, h2 => by
    obtain rfl := Option.some.inj h
    obtain rfl := Option.some.inj h2
    rfl
  | x :: r, y :: q, i + 1, d, z, h, h2 => sorted2_get (ds := r) (zs := q) (i := i) h h2
theorem dpAll_drop1 {K : PySem.W.Frag} {H : Hp} {vs : List V} {ds : List PyData} (h : DpAll K H vs ds) : DpAll K H (vs.drop 1) (ds.drop 1) := by
  cases h with
  | nil => exact .nil
  | cons _ hs => exact hs
theorem ok_hasForm {S : PyData → Str → Bool} {ok : Str → Prop} {k : Nat} {f fF fS : Addr} {fd fdF fdS : FuncData} (F : Fun K "has_form" "has_form" sHasForm f fd) (T : Wds K mg)
    (GF : FnOk P w K mg base CX0 1 fF fdF ["thing", "forms"] (spFormOf K)) (mF : mg "form_of" = some (.ref fF)) (kF : PySem.W.keepIn K (.ref fF) = true) (bF : Binds K fdF ["thing", "forms"] [])
    (GS : FnOk P w K mg base CX0 (k + 1) fS fdS ["part", "sort"] (spSort K S ok)) (mS : mg "is_of_sort" = some (.ref fS)) (kS : PySem.W.keepIn K (.ref fS) = true) (bS : Binds K fdS ["part", "sort"] []) :
    FnOk P w K mg base CX0 (k + 2) f fd ["thing", "forms"] (spHas K S ok) := by
  refine F.ok scHasForm (fun vs H Q E h => ?_) (fun cdv A outer s H vs Q E hr h => ?_)
  · obtain ⟨v, d, a, fs, rfl, _⟩ := h
    rfl
  · obtain ⟨v, d, a, fs, rfl, hd, hok, hF, hfs, q⟩ := h
    refine ⟨_, pss_cons (ps_set (i := 2) scHasForm.nd rfl (.inl rfl) (pe_call GF (hr.mono (by omega)) (by rfl) mF kF bF .nil pass0 (pa_cons (pv 0) (pa_cons (pv 1) pa_nil))))
      (pss_cons (ps_if (pt_cmpR op_isN (pv 2) pe_non (nomark _)) (pss_one (ps_ret pe_bl)) pss_nil)
      (pss_one (ps_ret (pe_callB (cr_all rfl) (by rfl) T.all (by decide +kernel) (pa_cons
          (pe_lc (own := [("part", 3), ("sort", 4)]) (g := gTup K 2 (gCons (gName 3) (gCons (gName 4) gNil))) (tt := tYes) rfl scHasForm.nd (RZ.pi_zipA (by rfl) T.zip (pa_cons (pe_slice sl_tail (pv 0) (po_some pe_int) po_none) (pa_cons (pe_slice sl_tail (pv 2) (po_some pe_int) po_none) pa_nil)))
            (blkOk_by (N := ["thing", "forms", "form", "part", "sort"]) (sc := defScope sHasForm) (by decide +kernel)) (fun _ _ _ _ _ => pg_tup rfl (pgs_cons (pg_name (i := 3) scHasForm.nd rfl (Or.inl rfl)) (pgs_cons (pg_name (i := 4) scHasForm.nd rfl (Or.inl rfl)) pgs_nil))) (fun _ _ _ _ _ => pts_nil)
            (fun _ _ _ _ _ => pe_call GS hr (by rfl) mS kS bS .nil pass0 (pa_cons (pv 3) (pa_cons (pv 4) pa_nil)))) pa_nil))))), ?_⟩
    refine ⟨v, rfl, .ref a, rfl, v, d, a, fs, rfl, hd, hok, hF, hfs.len, fun hn => ?_, fun fm b hmem hf hat => ?_⟩
    · refine ⟨_, rfl, rfl, _, rfl, ?_⟩
      refine iteT ?_
      have e : hasForm S d fs = false := by
        unfold hasForm
        rw [hn]
      rw [e] at q
      exact q _ (Same.refl _)
    · refine ⟨_, rfl, rfl, _, rfl, ?_⟩
      refine iteF ?_
      have e : hasForm S d fs = (sorted2 S (tailD d) (fm.drop 1)).all id := by
        unfold hasForm
        rw [hf]
      rw [e] at q
      cases ht : isTupD d with
      | false =>
        rw [formOf_not ht] at hf
        cases hf
      | true =>
        cases d with
        | tuple ds =>
          cases hd with
          | @tup va xs _ hSd hall =>
            obtain ⟨hlen, hoks⟩ := hok.tup
            have hall1 := dpAll_drop1 hall
            have hxl := dpAll_len hall1
            refine ⟨_, rfl, 1, rfl, rfl, rfl, va, xs, rfl, hSd, fun b1 H1 s1 hb1 => ?_⟩
            refine ⟨_, rfl, 1, rfl, rfl, rfl, b, _, rfl, hat _, fun b2 H2 s2 hb2 => ?_⟩
            rw [← List.map_drop] at hb2
            have hb1' := Same.seqT s2 hb1
            have s12 := s1.trans s2
            refine ⟨b1, b2, xs.drop 1, (fm.drop 1).map V.str, rfl, .inr ⟨hb1', hb2, fun D hD => ?_⟩⟩
            have hls := sorted2_len (S := S) (ds.drop 1) (fm.drop 1)
            refine lc_it (walk_zipT (n := (sorted2 S (ds.drop 1) (fm.drop 1)).length) (by rw [hls, List.length_map, hxl])) (fun i H3 => Same H2 H3 ∧ H3 D = some (.lst (((sorted2 S (ds.drop 1) (fm.drop 1)).take i).map V.bl))) ⟨same_upd hD, upd_same⟩ (fun _ _ _ h => ⟨Same.seqT h.1 hb1', Same.seqT h.1 hb2⟩) ?_ ?_
            · rintro i y H3 H4 hi ⟨sm, hl⟩ ⟨T', x, u, rfl, nT, rfl, e1, e2⟩
              have e1 := (show (xs.drop 1)[i]? = some x from e1)
              have e2 := (show ((fm.drop 1).map V.str)[i]? = some u from e2)
              obtain ⟨d', hd', hdp⟩ := dpAll_get hall1 e1
              rw [List.getElem?_map] at e2
              cases hz : (fm.drop 1)[i]? with
              | none =>
                rw [hz] at e2
                cases e2
              | some z =>
                rw [hz] at e2
                obtain rfl := Option.some.inj e2
                have nD : D ≠ T' := ne_of_none hl nT
                have sT : Same H3 (upd H3 T' (.tup [x, .str z])) := same_upd nT
                refine ⟨T', _, rfl, .inl (.inl upd_same), rfl, _, _, rfl, _, _, rfl, rfl, rfl, ?_⟩
                unfold tYes
                refine iteT ?_
                refine ⟨_, rfl, _, rfl, x, d', z, rfl, dp_same (s12.trans (sm.trans sT)) hdp, hoks d' (List.mem_of_mem_drop (List.mem_of_getElem? hd')), hfs.tl fm hf z (List.mem_of_getElem? hz), fun H5 s5 => ?_⟩
                refine ⟨_, s5 _ _ (sT _ _ hl), ?_, fun c o e => ?_, ?_⟩
                · rw [List.length_map, List.length_take]
                  have : (ds.drop 1).length ≤ 1000 := by
                    rw [List.length_drop]
                    omega
                  exact small1000 (by omega)
                · rw [upd_ne (ne_of_none e hD)]
                  exact s5 _ _ (sT _ _ (sm _ _ e))
                · rw [upd_same, List.take_add_one, sorted2_get hd' hz, List.map_append]
                  rfl
            · rintro H3 ⟨sm, hl⟩
              refine ⟨D, _, rfl, .inl (.inl hl), ?_⟩
              rw [List.take_of_length_le (Nat.le_refl _)]
              exact q _ (s12.trans sm)
        | _ => cases ht
end
end Dr
namespace Dr
open PySem PySem.Spec PyProof.Rows L2
def S0 (d : PyData) (z : Str) : Bool := if z = "items" then isItemsD d else if z = "owner" then isOwnerD d else isNameD d
def ok0 (z : Str) : Prop := z ≠ "test" ∧ z ≠ "plain"
def markForms : List Form := [["mark", "item"]]
def boxForms : List Form := [["once", "items"], ["early", "kind", "value"], ["anew", "items"], ["late", "owner", "value"]]
def isDefD (d : PyData) (h : Str) : Bool := if h = "mark" then hasForm S0 d markForms else hasForm S0 d boxForms
instance (z : Str) : Decidable (ok0 z) := by
  unfold ok0
  exact inferInstance
def fmOkB (fs : List Form) : Bool := fs.all fun f => (decide (1 ≤ f.length) && f.all fun z => SeqAt.shaped (.str z)) && (f.drop 1).all fun z => decide (ok0 z)
theorem fmOk_by {fs : List Form} (h : fmOkB fs = true) : FmOk ok0 fs := by
  have q := List.all_eq_true.mp h
  refine ⟨fun f hf => ?_, fun f hf z hz => ?_⟩
  · have := q f hf
    rw [Bool.and_eq_true, Bool.and_eq_true] at this
    exact ⟨of_decide_eq_true this.1.1, fun z hz => List.all_eq_true.mp this.1.2 z hz⟩
  · have := q f hf
    rw [Bool.and_eq_true] at this
    exact of_decide_eq_true (List.all_eq_true.mp this.2 z hz)
theorem mark_ok : FmOk ok0 markForms := fmOk_by (by decide +kernel)
theorem box_ok : FmOk ok0 boxForms := fmOk_by (by decide +kernel)
section
variable {P : Program} {w : World} {K : PySem.W.Frag} {mg : Str → Option Value} {base : Heap}
theorem ok_sort0 {f fI fO fN : Addr} {fd fdI fdO fdN : FuncData} (F : Fun K "is_of_sort" "is_of_sort" sIsSort f fd)
    (GI : FnOk P w K mg base CX0 2 fI fdI ["thing"] (spAsk K isItemsD)) (mI : mg "is_items" = some (.ref fI)) (kI : PySem.W.keepIn K (.ref fI) = true) (bI : Binds K fdI ["thing"] [])
    (GO : FnOk P w K mg base CX0 2 fO fdO ["thing"] (spAsk K isOwnerD)) (mO : mg "is_owner" = some (.ref fO)) (kO : PySem.W.keepIn K (.ref fO) = true) (bO : Binds K fdO ["thing"] [])
    (GN : FnOk P w K mg base CX0 1 fN fdN ["thing"] (spAsk K isNameD)) (mN : mg "is_name" = some (.ref fN)) (kN : PySem.W.keepIn K (.ref fN) = true) (bN : Binds K fdN ["thing"] []) :
    FnOk P w K mg base CX0 3 f fd ["part", "sort"] (spSort K S0 ok0) := by
  refine F.ok scIsSort (fun vs H Q E h => ?_) (fun cdv A outer s H vs Q E hr h => ?_)
  · obtain ⟨v, d, z, rfl, _⟩ := h
    rfl
  · obtain ⟨v, d, z, rfl, hd, hok, ⟨n1, n2⟩, q⟩ := h
    refine ⟨_, pss_cons (ps_if (pt_cmpR op_eq (pv 1) pe_str (nomark _)) (pss_one (ps_ret (pe_call GI hr (by rfl) mI kI bI .nil pass0 (pa_cons (pv 0) pa_nil)))) pss_nil)
      (pss_cons (ps_if (pt_cmpR op_eq (pv 1) pe_str (nomark _)) (pss_one (ps_ret (pe_call GO hr (by rfl) mO kO bO .nil pass0 (pa_cons (pv 0) pa_nil)))) pss_nil)
      (pss_cons (ps_if (pt_cmpR op_eq (pv 1) pe_str (nomark _)) (pss_one ps_never) pss_nil)
      (pss_cons (ps_if (pt_cmpR op_eq (pv 1) pe_str (nomark _)) (pss_one ps_never) pss_nil)
      (pss_one (ps_ret (pe_call GN (hr.mono (by decide)) (by rfl) mN kN bN .nil pass0 (pa_cons (pv 0) pa_nil))))))), ?_⟩
    have inj : ∀ {a b : Str}, decide (V.str a = V.str b) = true → a = b := fun h => V.str.inj (of_decide_eq_true h)
    have ninj : ∀ {a b : Str}, ¬ decide (V.str a = V.str b) = true → a ≠ b := fun h e => h (decide_eq_true (by rw [e]))
    refine ⟨_, rfl, rfl, _, rfl, ite2 (fun k => ?_) (fun k => ?_)⟩
    · have e : S0 d z = isItemsD d := if_pos (inj k)
      rw [e] at q
      exact ⟨v, rfl, v, d, rfl, hd, hok, q⟩
    · have k1 := ninj k
      refine ⟨_, rfl, rfl, _, rfl, ite2 (fun k => ?_) (fun k => ?_)⟩
      · have e : S0 d z = isOwnerD d := by
          unfold S0
          rw [if_neg k1, if_pos (inj k)]
        rw [e] at q
        exact ⟨v, rfl, v, d, rfl, hd, hok, q⟩
      · have k2 := ninj k
        have e : S0 d z = isNameD d := by
          unfold S0
          rw [if_neg k1, if_neg k2]
        rw [e] at q
        refine ⟨_, rfl, rfl, _, rfl, ite2 (fun k => absurd (inj k) n1) (fun _ => ?_)⟩
        refine ⟨_, rfl, rfl, _, rfl, ite2 (fun k => absurd (inj k) n2) (fun _ => ?_)⟩
        exact ⟨v, rfl, v, d, rfl, hd, hok, q⟩
def spDef (K : PySem.W.Frag) : Sp := fun vs H Q _ => ∃ (v : V) (d : PyData) (h : Str), vs = [v, .str h] ∧ Dp K H v d ∧ OkD d ∧ ∀ H', Same H H' → Q (.bl (isDefD d h)) H'
structure FmT (K : PySem.W.Frag) (mg : Str → Option Value) : Prop where
  mark : ∃ a : Addr, mg "MARK_DEFAULTS" = some (.ref a) ∧ Fms K a markForms
  box : ∃ a : Addr, mg "BOX_DEFAULTS" = some (.ref a) ∧ Fms K a boxForms
theorem ok_def {k : Nat} {f fH : Addr} {fd fdH : FuncData} (F : Fun K "is_default" "is_default" sIsDef f fd) (T : FmT K mg)
    (GH : FnOk P w K mg base CX0 (k + 1) fH fdH ["thing", "forms"] (spHas K S0 ok0)) (mH : mg "has_form" = some (.ref fH)) (kH : PySem.W.keepIn K (.ref fH) = true) (bH : Binds K fdH ["thing", "forms"] []) :
    FnOk P w K mg base CX0 (k + 2) f fd ["thing", "holds"] (spDef K) := by
  refine F.ok scIsDef (fun vs H Q E h => ?_) (fun cdv A outer s H vs Q E hr h => ?_)
  · obtain ⟨v, d, z, rfl, _⟩ := h
    rfl
  · obtain ⟨v, d, z, rfl, hd, hok, q⟩ := h
    obtain ⟨aM, mM, FM⟩ := T.mark
    obtain ⟨aB, mB, FB⟩ := T.box
    refine ⟨_, pss_cons (ps_if (pt_cmpR op_eq (pv 1) pe_str (nomark _)) (pss_one (ps_ret (pe_call GH hr (by rfl) mH kH bH .nil pass0 (pa_cons (pv 0) (pa_cons (pe_glob (v := .ref aM) (by rfl) mM rfl) pa_nil))))) pss_nil)
      (pss_one (ps_ret (pe_call GH hr (by rfl) mH kH bH .nil pass0 (pa_cons (pv 0) (pa_cons (pe_glob (v := .ref aB) (by rfl) mB rfl) pa_nil))))), ?_⟩
    refine ⟨_, rfl, rfl, _, rfl, ite2 (fun k => ?_) (fun k => ?_)⟩
    · have e : isDefD d z = hasForm S0 d markForms := if_pos (V.str.inj (of_decide_eq_true k))
      rw [e] at q
      exact ⟨v, rfl, v, d, aM, markForms, rfl, hd, hok, FM, mark_ok.toD, q⟩
    · have e : isDefD d z = hasForm S0 d boxForms := if_neg fun e => k (decide_eq_true (by rw [e]))
      rw [e] at q
      exact ⟨v, rfl, v, d, aB, boxForms, rfl, hd, hok, FB, box_ok.toD, q⟩
end
end Dr
namespace Dr
open PySem PySem.Spec PyProof.Rows L2
theorem mro_noRef (C : Addr) : ∀ d : PyData, ∃ l, fastBuiltinMro (tyD d) = some l ∧ l.contains (.ref C) = false
  | .none => ⟨[.type "NoneType", .type "object"], by decide +kernel, by simp⟩
  | .bool _ => ⟨[.type "bool", .type "int", .type "object"], by show fastBuiltinMro "bool" = _; decide +kernel, by simp⟩
  | .int _ => ⟨[.type "int", .type "object"], by show fastBuiltinMro "int" = _; decide +kernel, by simp⟩
  | .str _ => ⟨[.type "str", .type "object"], by show fastBuiltinMro "str" = _; decide +kernel, by simp⟩
  | .list _ => ⟨[.type "list", .type "object"], by show fastBuiltinMro "list" = _; decide +kernel, by simp⟩
  | .tuple _ => ⟨[.type "tuple", .type "object"], by show fastBuiltinMro "tuple" = _; decide +kernel, by simp⟩
  | .dict _ => ⟨[.type "dict", .type "object"], by show fastBuiltinMro "dict" = _; decide +kernel, by simp⟩
theorem sub_D {K : PySem.W.Frag} (C : Addr) (d : PyData) : PySem.W.subIn K (.type (tyD d)) (.ref C) = some false := by
  obtain ⟨l, e, n⟩ := mro_noRef C d
  show (fastBuiltinMro (tyD d)).map (·.contains (.ref C)) = some false
  rw [e]
  show some (l.contains (.ref C)) = some false
  rw [n]
section
variable {X : Cx} {pins : List (Addr × Obj)} {σ : L2.St} {H : Hp} {s : Shared}
theorem looks_D {M : Model} (I : Inv X pins σ H s) {y : V} {u : Value} {d : PyData} (r : RelV y u) (h : Dp X.K H y d) : PySem.W.Looks M s.heap (typeOf u) (.type (tyD d)) := by
  cases h with
  | non => cases (show u = Value.none from r); exact .of_pure rfl
  | bl b => cases (show u = Value.bool b from r); exact .of_pure rfl
  | int i => obtain ⟨t, e⟩ := (show ∃ t, u = Value.int i t from r); cases e; exact .of_pure rfl
  | str x => obtain ⟨t, e⟩ := (show ∃ t, u = Value.str x t from r); cases e; exact .of_pure rfl
  | @lst a xs ds hS _ =>
    cases (show u = Value.ref a from r)
    obtain ⟨its, _, ⟨o, n, ho, hc, _⟩, _⟩ := I.list hS
    exact fun A Q E s' k q => wpAny_typeOf_ref (k _ _ ho) (by rw [hc]; exact q)
  | @tup a xs ds hS _ =>
    cases (show u = Value.ref a from r)
    obtain ⟨its, _, ⟨o, ho, hc, _⟩, _⟩ := I.tuple hS
    exact fun A Q E s' k q => wpAny_typeOf_ref (k _ _ ho) (by rw [hc]; exact q)
/-- the other side of a comparison: an instance of the same class, or a datum -/
def Side (K : PySem.W.Frag) (C : Addr) (H : Hp) (y : V) : Prop := (∃ b dy gs, y = .ref b ∧ H b = some (.ins C dy gs)) ∨ ∃ d, Dp K H y d
theorem side_ty {M : Model} {C : Addr} (I : Inv X pins σ H s) {y : V} {u : Value} (r : RelV y u) (h : Side X.K C H y) : ∃ tb, PySem.W.Looks M s.heap (typeOf u) tb ∧ PySem.W.notFirst X.K C tb = true := by
  rcases h with ⟨b, dy, gs, rfl, hb⟩ | ⟨d, hd⟩
  · cases r
    obtain ⟨mB, J', _⟩ := ins_get I.hok hb
    obtain ⟨od', J', _⟩ := J'.look
    exact ⟨_, J'.type, by simp [PySem.W.notFirst]⟩
  · refine ⟨_, looks_D I r hd, ?_⟩
    unfold PySem.W.notFirst
    rw [sub_D]
    simp
variable {CX : CXT} {C g : Addr} {fd : FuncData} {ps : List Str} {n : Nat} {sp : Sp} {E : XK}
/-- a def called from within a builtin -/
theorem run_in {A : Around} {Q : VK} {us : List Value} {vs : List V} (F : FnOk X.prog X.w X.K X.mg X.base CX n g fd ps sp) (hr : Room n A) (e0 : Env0 X.prog X.w X.K X.mg X.base A X.stack s H) (hb : Binds X.K fd ps []) (hx : Passes CX X E)
    (I : Inv X pins σ H s) (r : Vals vs us) (h : sp vs H Q E) : wpAny (model X.prog X.w) A (call (.ref g) us) (EP X pins σ Q) X.xe s := by
  have hl := F.len _ _ _ _ h
  refine wpAny_call (codeAny_mono (F.run A X.stack s H ⟨us, []⟩ us vs Q E hr e0 (by
    have := hb s us I.kIn (by simpa [← r.length] using hl)
    simpa using this) r h) fun r s' hq => ?_)
  cases r with
  | error e => exact hx pins σ H s e s' I hq
  | ok fl =>
    cases fl with
    | ret u => exact I.after hq
    | next => exact False.elim hq
    | brk => exact False.elim hq
    | cont => exact False.elim hq
def rEqI (K : PySem.W.Frag) (C : Addr) (sp : Sp) (E : XK) : R2 := fun x y H Q => ∃ a dx fs, x = .ref a ∧ H a = some (.ins C dx fs) ∧ Side K C H y ∧ sp [x, y] H Q E
theorem op_eqI (hs : PySem.W.findIn X.K (.ref C) "__eq__" = some (some (.ref g))) (hf : PySem.W.isFn X.K (.ref g) = true) (F : FnOk X.prog X.w X.K X.mg X.base CX n g fd ps sp) (hr : Room n X.A) (hb : Binds X.K fd ps []) (hx : Passes CX X E) :
    OpR X (compareOp .Eq) (rEqI X.K C sp E) := by
  intro pins s σ H x y v u Q I rx ry h
  obtain ⟨a, dx, fs, rfl, ha, hy, q⟩ := h
  cases (show v = Value.ref a from rx)
  obtain ⟨mA, J, _⟩ := ins_get I.hok ha
  obtain ⟨od, J, _⟩ := J.look
  obtain ⟨tb, lk, nf⟩ := side_ty (M := model X.prog X.w) I ry hy
  obtain ⟨m, hF⟩ := I.fr
  refine PySem.W.cmp_K (op := .Eq) (tb := tb) hr.units0 hF I.ok.mod.kin J lk nf hs hf ?_
  refine wpAny_mono (run_in (vs := [V.ref a, y]) (us := [Value.ref a, u]) F hr I.env0 hb hx I (.cons (show L2.RelV (V.ref a) (Value.ref a) from rfl) (.cons ry .nil)) q) (fun w s' z => ?_) fun _ _ x => x
  obtain ⟨z', H', I', rz, qz⟩ := z
  exact SlX.cmpback rz ⟨z', H', I', rz, qz⟩
theorem ifBound_blt {M : Model} {A : Around} {E : Value → Shared → Prop} {K : PySem.W.Frag} {x : Addr} {ox : Obj} {od : Option Obj} {args : List Value} {Q : Option Value → Shared → Prop} (X : K.In s.heap) (I : PySem.W.InstAt s.heap x ox C od) (hs : PySem.W.findIn K (.ref C) "__ne__" = some (some (.builtin "object.__ne__")))
    (h : wpAny M A (call (.builtin "object.__ne__") (.ref x :: args)) (fun v => Q (some v)) E s) : wpAny M A (callSpecialIfBound? (.ref x) "__ne__" args) Q E s := by
  simp only [callSpecialIfBound?, bindSpecialIfBound?]
  refine wpAny_holding (wpAny_bind (wpAny_bind (wpAny_bind (I.type.here ((PySem.W.looks_findIn X hs).here ?_)))))
  refine wpAny_bind (wpAny_askSetting (wpAny_ite ?_))
  have fin : wpAny M A (call (.builtin "object.__ne__") ([.ref x] ++ args) >>= fun v => pure (some v)) Q E s := wpAny_bind (wpAny_mono h (fun v s' h' => wpAny_pure h') fun _ _ h' => h')
  split
  · exact wpAny_bind (wpAny_of_eq (PySem.F.cmp_object.ne.bind _) (wpAny_pure (by exact fin)))
  · exact wpAny_tryCatch (wpAny_bind (wpAny_of_eq (PySem.F.cmp_object.ne.bind _) (wpAny_pure (by exact fin))))
theorem entry_ne {prog : Program} {w : World} {A : Around} {E : Value → Shared → Prop} {K : PySem.W.Frag} {x : Addr} {ox : Obj} {od : Option Obj} {b : Value} {Q : Fin → Shared → Prop} (X : K.In s.heap) (I : PySem.W.InstAt s.heap x ox C od) (hs : PySem.W.findIn K (.ref C) "__eq__" = some (some (.ref g))) (hf : PySem.W.isFn K (.ref g) = true) (hu : A.units < cLine)
    (hcall : wpAny (model prog w) A (call (.ref g) [.ref x, b]) (fun v s' => ∃ b, v = .bool b ∧ Q (.done (.ret (.bool (!b)))) s') E s) : wpAny (model prog w) A (Builtin.«object.__ne__» ⟨[.ref x, b], []⟩) Q E s := by
  unfold Builtin.«object.__ne__»
  repeat (first
    | with_reducible refine wpAny_cRoomFor hu ?_
    | (refine wpAny_bind (m := callSpecialIfBound? (.ref x) (Str.ofString "__eq__") [b])
        (PySem.W.ifBound_K X I hs hf (wpAny_mono hcall (fun r s' hr => by
          obtain ⟨b, rfl, hq⟩ := hr
          repeat (first | exact hq | exact wpAny_pure hq | exact wpAny_truthy_bool hq | (refine wpAny_bind (m := truthy (.bool _)) (wpAny_truthy_bool ?_)) | wp_step)) fun _ _ e => e)))
    | wp_step)
/-- !=, by the text's own == -/
def rNeI (K : PySem.W.Frag) (C : Addr) (sp : Sp) (E : XK) : R2 := fun x y H Q => ∃ a dx fs, x = .ref a ∧ H a = some (.ins C dx fs) ∧ Side K C H y ∧ sp [x, y] H (fun v H' => ∃ b, v = .bl b ∧ Q (.bl (!b)) H') E
theorem op_neI (hs : PySem.W.findIn X.K (.ref C) "__eq__" = some (some (.ref g))) (hf : PySem.W.isFn X.K (.ref g) = true) (hn : PySem.W.findIn X.K (.ref C) "__ne__" = some (some (.builtin "object.__ne__"))) (hm : PySem.W.mroIn X.K C (.type "object") = some true)
    (F : FnOk X.prog X.w X.K X.mg X.base CX n g fd ps sp) (hr : Room (n + 1) X.A) (hb : Binds X.K fd ps []) (hx : Passes CX X E) : OpR X (compareOp .NotEq) (rNeI X.K C sp E) := by
  intro pins s σ H x y v u Q I rx ry h
  obtain ⟨a, dx, fs, rfl, ha, hy, q⟩ := h
  cases (show v = Value.ref a from rx)
  obtain ⟨mA, J, _⟩ := ins_get I.hok ha
  obtain ⟨od, J, _⟩ := J.look
  obtain ⟨tb, lk, nf⟩ := side_ty (M := model X.prog X.w) I ry hy
  have hun := hr.un
  have hr1 : Room n X.A.in1 := hr.in1
  have one : wpAny (model X.prog X.w) X.A (tryCompare (.ref a) "__ne__" u) (fun r s' => ∃ v, r = some v ∧ EP X pins σ Q v s') X.xe s := by
    unfold tryCompare
    refine wpAny_bind (ifBound_blt I.kIn J hn ?_)
    refine wpAny_call (codeAny_call_builtin PySem.F.cmp_object.ne.plain PySem.F.cmpEntry_ne (PySem.W.check_slot PySem.F.cmpKind_ne PySem.F.cmpSplit_ne (J.type.andThen (PySem.W.looks_mroIn I.kIn hm)) (PySem.F.cmpArgs_ne _ _) ?_))
    refine entry_ne I.kIn J hs hf (by show X.A.units + 1 < cLine; omega) ?_
    refine wpAny_mono (run_in (vs := [V.ref a, y]) (us := [Value.ref a, u]) F hr1 I.env0.in1 hb hx I (.cons (show L2.RelV (V.ref a) (Value.ref a) from rfl) (.cons ry .nil)) q) (fun w s' z => ?_) fun _ _ x => x
    obtain ⟨z', H', I', rz, b, rfl, qz⟩ := z
    cases (show w = Value.bool b from rz)
    exact ⟨b, rfl, wpAny_pure ⟨_, rfl, .bl (!b), H', I', rfl, qz⟩⟩
  show wpAny _ _ (richCompare .NotEq (.ref a) u) _ _ _
  unfold richCompare
  simp only [oneThing_ref]
  refine wpAny_holding (wpAny_bind (wpAny_cRoomFor (by omega) ?_))
  refine wpAny_bind (J.type.here (wpAny_bind (lk.here ?_)))
  split
  · rename_i qq
    have e : PySem.W.subIn X.K tb (.ref C) = some false := by
      rcases Bool.or_eq_true_iff.mp nf with e | e
      · rw [beq_iff_eq.mp e] at qq; simp at qq
      · exact beq_iff_eq.mp e
    refine wpAny_bind ((PySem.W.looks_subIn I.kIn e).here ?_)
    simp only [Bool.false_eq_true, if_false]
    refine wpAny_bind (wpAny_mono one (fun r s' z => ?_) fun _ _ e => e)
    obtain ⟨v, rfl, hq⟩ := z
    exact wpAny_pure hq
  · refine wpAny_bind (wpAny_pure ?_)
    simp only [Bool.false_eq_true, if_false]
    refine wpAny_bind (wpAny_mono one (fun r s' z => ?_) fun _ _ e => e)
    obtain ⟨v, rfl, hq⟩ := z
    exact wpAny_pure hq
end
end Dr
namespace Dr
open PySem PySem.Spec PyProof.Rows L2
abbrev sPInit : Stmt := inClass (topS 33) 0
abbrev sPEq : Stmt := inClass (topS 33) 1
theorem scPInit : FnScope ["self", "name", "holds", "default", "named"] ["self", "name", "holds", "default", "named"] (defScope sPInit) := ⟨rfl, rfl, rfl, by decide +kernel, rfl, by decide +kernel, by decide +kernel⟩
theorem scPEq : FnScope ["self", "other"] ["self", "other"] (defScope sPEq) := ⟨rfl, rfl, rfl, by decide +kernel, rfl, by decide +kernel, by decide +kernel⟩
/-- the attributes of a parameter -/
def pF (nm hs : Str) (v : V) (nd : Bool) : List (Str × V) := putF "named" (.bl nd) (putF "default" v (putF "holds" (.str hs) (putF "name" (.str nm) [])))
theorem pF_name {nm hs : Str} {v : V} {nd : Bool} : (pF nm hs v nd).lookup ("name" : Str) = some (.str nm) := by
  unfold pF
  rw [lookup_putF, if_neg (by decide +kernel), lookup_putF, if_neg (by decide +kernel), lookup_putF, if_neg (by decide +kernel), lookup_putF, if_pos rfl]
theorem pF_holds {nm hs : Str} {v : V} {nd : Bool} : (pF nm hs v nd).lookup ("holds" : Str) = some (.str hs) := by
  unfold pF
  rw [lookup_putF, if_neg (by decide +kernel), lookup_putF, if_neg (by decide +kernel), lookup_putF, if_pos rfl]
theorem pF_default {nm hs : Str} {v : V} {nd : Bool} : (pF nm hs v nd).lookup ("default" : Str) = some v := by
  unfold pF
  rw [lookup_putF, if_neg (by decide +kernel), lookup_putF, if_pos rfl]
theorem pF_named {nm hs : Str} {v : V} {nd : Bool} : (pF nm hs v nd).lookup ("named" : Str) = some (.bl nd) := by
  unfold pF
  rw [lookup_putF, if_pos rfl]
theorem putF_len (f : Str) (v : V) : ∀ fs : List (Str × V), (putF f v fs).length ≤ fs.length + 1
  | [] => Nat.le_refl _
  | (g, u) :: r => by
    show (if g = f then (g, v) :: r else (g, u) :: putF f v r).length ≤ _
    split
    · rw [List.length_cons, List.length_cons]
      omega
    · rw [List.length_cons, List.length_cons]
      have := putF_len f v r
      omega
/-- what stands of the class Param -/
structure Prm (K : PySem.W.Frag) (mg : Str → Option Value) (C : Addr) : Prop where
  cl : Cls K C
  nN : NoAttr K C "name"
  nH : NoAttr K C "holds"
  nD : NoAttr K C "default"
  nA : NoAttr K C "named"
  mgC : mg "Param" = some (.ref C)
  ha : PySem.W.findIn K (.ref C) "__class__" = some (some (.builtin "object.__class__"))
  hn : PySem.W.specialIn K (.builtin "object.__class__") "__get__" = some (some (.builtin "getset_descriptor.__get__"))
  htk : PySem.W.takesIn K (.builtin "object.__class__") = some true
  hm : PySem.W.mroIn K C (.type "object") = some true
  isC : PySem.W.isClsIn K C = true
  tyC : PySem.W.typeIn K (.ref C) = some (.type "type")
theorem kit_self {K : PySem.W.Frag} (C : Addr) : PySem.W.kitOne K (.ref C) (.ref C) = some true := by
  unfold PySem.W.kitOne
  simp
theorem kit_own {K : PySem.W.Frag} {C : Addr} (h1 : PySem.W.isClsIn K C = true) (h2 : PySem.W.typeIn K (.ref C) = some (.type "type")) (d : PyData) : PySem.W.kitOne K (.type (tyD d)) (.ref C) = some false := by
  unfold PySem.W.kitOne
  have e : ((Value.type (tyD d)) == Value.ref C) = false := rfl
  rw [e]
  unfold PySem.W.kitCls
  unfold PySem.W.isClsIn at h1
  simp only [h1, h2, sub_D]
  simp
section
variable {P : Program} {w : World} {K : PySem.W.Frag} {mg : Str → Option Value} {base : Heap}
/-- a default that goes with what the parameter holds -/
def DflOk (K : PySem.W.Frag) (H : Hp) (v : V) (d : PyData) (hs : Str) : Prop := Dp K H v d ∧ OkD d ∧ (v = .non ∨ isDefD d hs = true)
def spPInit (K : PySem.W.Frag) (C : Addr) : Sp := fun vs H Q _ => ∃ (p dx : Addr) (nm hs : Str) (v : V) (d : PyData) (nd : Bool), vs = [.ref p, .str nm, .str hs, v, .bl nd] ∧ H p = some (.ins C dx []) ∧ nameOk nm = true ∧ OkD (.str nm) ∧ (hs = "mark" ∨ hs = "box") ∧ DflOk K H v d hs ∧
  ∀ H', (∀ b o, b ≠ p → H b = some o → H' b = some o) → H' p = some (.ins C dx (pF nm hs v nd)) → Q .non H'
theorem ok_pinit {kD : Nat} {C f fN fD : Addr} {fd fdN fdD : FuncData} {prm : Arguments} {dvs : List V} {kws : List (Str × V)} (F : FunD K "__init__" "Param.__init__" prm (defBody sPInit) (defScope sPInit) dvs kws f fd) (W : Wds K mg) (T : Prm K mg C) (hbo : mg "bool" = none)
    (GN : FnOk P w K mg base CX0 1 fN fdN ["thing"] (spAsk K isNameD)) (mN : mg "is_name" = some (.ref fN)) (kN : PySem.W.keepIn K (.ref fN) = true) (bN : Binds K fdN ["thing"] [])
    (GD : FnOk P w K mg base CX0 (kD + 1) fD fdD ["thing", "holds"] (spDef K)) (mD : mg "is_default" = some (.ref fD)) (kkD : PySem.W.keepIn K (.ref fD) = true) (bD : Binds K fdD ["thing", "holds"] []) :
    FnOk P w K mg base CX0 (kD + 2) f fd ["self", "name", "holds", "default", "named"] (spPInit K C) := by
  refine F.ok scPInit (fun vs H Q E h => ?_) (fun cdv A outer s H vs Q E hr h => ?_)
  · obtain ⟨p, dx, nm, hs, v, d, nd, rfl, _⟩ := h
    rfl
  · obtain ⟨p, dx, nm, hs, v, d, nd, rfl, hp, hnm, hok, hhs, ⟨hd, hokd, hdf⟩, q⟩ := h
    refine ⟨_, pss_cons (ps_if (pt_not (pt_val (pe_call GN (hr.mono (by omega)) (by rfl) mN kN bN .nil pass0 (pa_cons (pv 1) pa_nil)))) (pss_one ps_never) pss_nil)
      (C8.pss_cut (ps_if (PW.pt (pw_and (pt_cmpR op_ne (pv 2) pe_str (nomark _)) (pw_and1 (pt_cmpR op_ne (pv 2) pe_str (nomark _))))) (pss_one ps_never) pss_nil)
      (C8.pss_cut (ps_if (PW.pt (pw_and (pt_cmpR op_notN (pv 3) pe_non (nomark _)) (pw_and1 (pt_not (pt_val (pe_call GD hr (by rfl) mD kkD bD .nil pass0 (pa_cons (pv 3) (pa_cons (pv 2) pa_nil)))))))) (pss_one ps_never) pss_nil)
      (pss_cons (ps_if (pt_not (pt_val (pe_callB call_isi (by rfl) W.isi (by decide +kernel) (pa_cons (pv 4) (pa_cons (pe_bltn (v := .ty "bool") (by rfl) hbo (by decide +kernel) rfl) pa_nil))))) (pss_one ps_never) pss_nil)
      (pss_cons (ps_fld (pv 0) (pv 1) rfl) (pss_cons (ps_fld (pv 0) (pv 2) rfl) (pss_cons (ps_fld (pv 0) (pv 3) rfl) (pss_one (ps_fld (pv 0) (pv 4) rfl)))))))), ?_⟩
    refine ⟨_, rfl, _, .str nm, rfl, .str nm, hok, fun H1 s1 => ?_⟩
    refine ⟨_, rfl, ?_⟩
    show if (!nameOk nm) = true then _ else _
    rw [hnm]
    refine iteF ?_
    refine ⟨fun σ' H' => σ' = [some (.ref p), some (.str nm), some (.str hs), some v, some (.bl nd)] ∧ H' = H1, ?_, fun σ' H' hM => ?_⟩
    · refine ⟨_, rfl, rfl, _, rfl, ?_⟩
      rcases hhs with e | e
      · refine ite2 (fun k => absurd k ?_) (fun _ => ⟨rfl, rfl⟩)
        rw [e]
        simp
      · refine ite2 (fun _ => ?_) (fun _ => ⟨rfl, rfl⟩)
        refine ⟨_, rfl, rfl, _, rfl, ite2 (fun k => absurd k ?_) (fun _ => ⟨rfl, rfl⟩)⟩
        rw [e]
        simp
    obtain ⟨rfl, rfl⟩ := hM
    refine ⟨fun σ' H2 => σ' = [some (.ref p), some (.str nm), some (.str hs), some v, some (.bl nd)] ∧ Same H' H2, ?_, fun σ' H2 hM => ?_⟩
    · refine ⟨_, rfl, rfl, _, rfl, ite2 (fun k => ?_) (fun _ => ⟨rfl, Same.refl _⟩)⟩
      rcases hdf with e | e
      · rw [e] at k
        simp at k
      · refine ⟨_, rfl, _, rfl, v, d, hs, rfl, dp_same s1 hd, hokd, fun H2 s2 => ⟨_, rfl, ?_⟩⟩
        refine ite2 (fun k2 => absurd k2 ?_) (fun _ => ⟨rfl, s2⟩)
        rw [e]
        simp
    obtain ⟨rfl, s2⟩ := hM
    refine ⟨_, rfl, .bl nd, .ty "bool", _, _, _, rfl, .ty _, dp_ty (.bl nd), kit_bool _, _, rfl, ?_⟩
    refine iteF ?_
    have hp2 := s2 _ _ (s1 _ _ hp)
    refine ⟨_, rfl, _, rfl, p, C, dx, _, rfl, hp2, T.cl, T.nN, (by show 0 < 1000; decide), ?_⟩
    refine ⟨_, rfl, _, rfl, p, C, dx, _, rfl, upd_same, T.cl, T.nH, ?_, ?_⟩
    · exact Nat.lt_of_le_of_lt (putF_len _ _ _) (by show 1 < 1000; decide)
    refine ⟨_, rfl, _, rfl, p, C, dx, _, rfl, upd_same, T.cl, T.nD, ?_, ?_⟩
    · exact Nat.lt_of_le_of_lt (Nat.le_trans (putF_len _ _ _) (Nat.succ_le_succ (putF_len _ _ _))) (by show 2 < 1000; decide)
    refine ⟨_, rfl, _, rfl, p, C, dx, _, rfl, upd_same, T.cl, T.nA, ?_, ?_⟩
    · exact Nat.lt_of_le_of_lt (Nat.le_trans (putF_len _ _ _) (Nat.succ_le_succ (Nat.le_trans (putF_len _ _ _) (Nat.succ_le_succ (putF_len _ _ _))))) (by show 3 < 1000; decide)
    refine q _ (fun b o n e => ?_) upd_same
    rw [upd_ne n, upd_ne n, upd_ne n, upd_ne n]
    exact s2 _ _ (s1 _ _ e)
/-- a parameter stands at a -/
def ParAt (C : Addr) (H : Hp) (a : Addr) (nm hs : Str) (v : V) (nd : Bool) : Prop := ∃ dx, H a = some (.ins C dx (pF nm hs v nd))
def spPEq (K : PySem.W.Frag) (C : Addr) : Sp := fun vs H Q _ => ∃ (a : Addr) (nm hs : Str) (v : V) (d : PyData) (nd : Bool) (y : V), vs = [.ref a, y] ∧ ParAt C H a nm hs v nd ∧ Dp K H v d ∧ OkD d ∧
  ((∃ (b : Addr) (nm2 hs2 : Str) (v2 : V) (d2 : PyData) (nd2 : Bool), y = .ref b ∧ ParAt C H b nm2 hs2 v2 nd2 ∧ Dp K H v2 d2 ∧ OkD d2 ∧ Q (.bl (((decide (nm = nm2) && decide (hs = hs2)) && PyData.eqv d d2) && decide (nd = nd2))) H) ∨
    ∃ e : PyData, Dp K H y e ∧ Q (.bl false) H)
theorem ok_peq {C f : Addr} {fd : FuncData} (F : Fun K "__eq__" "Param.__eq__" sPEq f fd) (W : Wds K mg) (T : Prm K mg C) : FnOk P w K mg base CX0 1 f fd ["self", "other"] (spPEq K C) := by
  refine F.ok scPEq (fun vs H Q E h => ?_) (fun cdv A outer s H vs Q E hr h => ?_)
  · obtain ⟨a, nm, hs, v, d, nd, y, rfl, _⟩ := h
    rfl
  · obtain ⟨a, nm, hs, v, d, nd, y, rfl, ⟨dx, ha⟩, hd, hok, hy⟩ := h
    have hu : (A.deeper (envOfC "Param.__eq__" (defScope sPEq) s.heap.objs.size f cdv)).units + 64 < cLine := hr.units
    refine ⟨_, pss_one (ps_ret (pe_and (pe_callB call_isi (by rfl) W.isi (by decide +kernel) (pa_cons (pv 1) (pa_cons (pe_glob (v := .ref C) (by rfl) T.mgC rfl) pa_nil)))
      (pe_and (pe_cmpR op_eq (pe_fld (pv 0) rfl) (pe_fld (pv 1) rfl) (nomark _)) (pe_and (pe_cmpR op_eq (pe_fld (pv 0) rfl) (pe_fld (pv 1) rfl) (nomark _))
        (pe_and (pe_cmpR (op_eqD hu) (pe_fld (pv 0) rfl) (pe_fld (pv 1) rfl) (nomark _)) (pe_one (pe_cmpR op_eq (pe_fld (pv 0) rfl) (pe_fld (pv 1) rfl) (nomark _)))))))), ?_⟩
    rcases hy with ⟨b, nm2, hs2, v2, d2, nd2, rfl, ⟨dy, hb⟩, hd2, hok2, q⟩ | ⟨e, he, q⟩
    · refine ⟨_, rfl, _, .ref C, _, _, true, rfl, .own C, .base (.ins hb T.cl T.ha T.hn T.htk T.hm), kit_self C, _, rfl, iteT ?_⟩
      have ds : ∀ {x z : Str}, decide (V.str x = V.str z) = decide (x = z) := fun {x z} => decide_eq_decide.mpr ⟨fun e => V.str.inj e, fun e => by rw [e]⟩
      have db : ∀ {x z : Bool}, decide (V.bl x = V.bl z) = decide (x = z) := fun {x z} => decide_eq_decide.mpr ⟨fun e => V.bl.inj e, fun e => by rw [e]⟩
      refine ⟨_, rfl, a, C, dx, _, _, rfl, ha, T.cl, T.nN, pF_name, _, rfl, b, C, dy, _, _, rfl, hb, T.cl, T.nN, pF_name, rfl, _, rfl, ?_⟩
      rw [ds]
      refine ite2 (fun k1 => ?_) (fun k1 => ?_)
      · rw [k1] at q
        refine ⟨_, rfl, a, C, dx, _, _, rfl, ha, T.cl, T.nH, pF_holds, _, rfl, b, C, dy, _, _, rfl, hb, T.cl, T.nH, pF_holds, rfl, _, rfl, ?_⟩
        rw [ds]
        refine ite2 (fun k2 => ?_) (fun k2 => ?_)
        · rw [k2] at q
          refine ⟨_, rfl, a, C, dx, _, _, rfl, ha, T.cl, T.nD, pF_default, _, rfl, b, C, dy, _, _, rfl, hb, T.cl, T.nD, pF_default, d, d2, hd, hd2, hok.sh, hok2.sh, _, rfl, ?_⟩
          refine ite2 (fun k3 => ?_) (fun k3 => ?_)
          · rw [k3] at q
            refine ⟨_, rfl, a, C, dx, _, _, rfl, ha, T.cl, T.nA, pF_named, _, rfl, b, C, dy, _, _, rfl, hb, T.cl, T.nA, pF_named, rfl, ?_⟩
            show Q (V.bl (decide (V.bl nd = V.bl nd2))) _
            rw [db]
            exact q
          · rw [eq_false_of_ne_true k3] at q
            exact q
        · rw [eq_false_of_ne_true k2] at q
          exact q
      · rw [eq_false_of_ne_true k1] at q
        exact q
    · refine ⟨_, rfl, y, .ref C, _, _, false, rfl, .own C, dp_ty he, kit_own T.isC T.tyC e, _, rfl, iteF q⟩
end
end Dr
namespace Dr
open PySem PySem.Spec PyProof.Rows L2
open SX (S S_len S_cat)
abbrev sNames : Stmt := topS 40
theorem scNames : FnScope ["_law_bag_here", "_law_many", "_law_left", "_law_stem", "_law_one", "_law_turn", "_law_at", "_law_found", "_law_two"] ["_law_bag_here", "_law_many"] (defScope sNames) := ⟨rfl, rfl, rfl, by decide +kernel, rfl, by decide +kernel, by decide +kernel⟩
def gjqz : List Nat := [103, 106, 113, 122]
def letters : List Nat := [97, 98, 99, 100, 101, 102, 103, 104, 105, 106, 107, 108, 109, 110, 111, 112, 113, 114, 115, 116, 117, 118, 119, 120, 121, 122]
theorem az_eq : ("abcdefghijklmnopqrstuvwxyz" : Str) = S letters := by decide +kernel
theorem gjqz_eq : ("gjqz" : Str) = S gjqz := by decide +kernel
def twos (i : Nat) : List (List Nat) := (gjqz.take i).flatMap fun a => letters.map fun b => [a, b]
theorem twos_next {i c : Nat} (h : gjqz[i]? = some c) : twos (i + 1) = twos i ++ letters.map fun b => [c, b] := by
  unfold twos
  rw [List.take_add_one, h, List.flatMap_append]
  simp
theorem twos_len : (twos 4).length = 104 := by decide +kernel
theorem twos_nodup : (twos 4).Nodup := by decide +kernel
theorem twos_ok : ∀ t ∈ twos 4, t.length = 2 ∧ t.all lowC = true ∧ t.any (gjqz.contains ·) = true := by
  have h : (twos 4).all (fun t => decide (t.length = 2) && t.all lowC && t.any (gjqz.contains ·)) = true := by decide +kernel
  intro t ht
  have q := List.all_eq_true.mp h t ht
  rw [Bool.and_eq_true, Bool.and_eq_true] at q
  exact ⟨of_decide_eq_true q.1.1, q.1.2, q.2⟩
theorem letters_low : ∀ c ∈ letters, lowC c = true := by decide +kernel
/-- a drawn name -/
structure GoodN (cs : List Nat) : Prop where
  low : cs.all lowC = true
  lo : 2 ≤ cs.length
  hi : cs.length ≤ 8
  odd : cs.any (gjqz.contains ·) = true
theorem barred_even : barred.all (fun z => !(z.cps.toList.any (gjqz.contains ·))) = true := by decide +kernel
theorem good_name {cs : List Nat} (low : cs.all lowC = true) (lo : 1 ≤ cs.length) (hi : cs.length ≤ 8) (odd : cs.any (gjqz.contains ·) = true) : nameOk (S cs) = true := by
  have hb : barred.contains (S cs) = false := by
    cases h : barred.contains (S cs) with
    | false => rfl
    | true =>
      have hm : S cs ∈ barred := by simpa using h
      have q := List.all_eq_true.mp barred_even _ hm
      have e : (S cs).cps.toList = cs := rfl
      rw [e, odd] at q
      cases q
  unfold nameOk
  rw [hb, S_len, decide_eq_true lo, decide_eq_true hi]
  exact low
theorem GoodN.ok {cs : List Nat} (g : GoodN cs) : nameOk (S cs) = true := good_name g.low (by have := g.lo; omega) g.hi g.odd
/-- the stem around a pair of letters -/
def mkN (stem : List Nat) (at_ : Nat) (two : List Nat) : List Nat := stem.take at_ ++ two ++ stem.drop at_
theorem mkN_len {stem two : List Nat} {a : Nat} : (mkN stem a two).length = stem.length + two.length := by
  unfold mkN
  rw [List.length_append, List.length_append, List.length_take, List.length_drop]
  omega
theorem mkN_good {stem two : List Nat} {a : Nat} (hs : stem.all lowC = true) (hl : stem.length ≤ 6) (ht : two ∈ twos 4) : GoodN (mkN stem a two) := by
  obtain ⟨t1, t2, t3⟩ := twos_ok two ht
  refine ⟨?_, by rw [mkN_len]; omega, by rw [mkN_len]; omega, ?_⟩
  · unfold mkN
    rw [List.all_append, List.all_append, t2]
    have h1 : (stem.take a).all lowC = true := List.all_eq_true.mpr fun x hx => List.all_eq_true.mp hs x (List.mem_of_mem_take hx)
    have h2 : (stem.drop a).all lowC = true := List.all_eq_true.mpr fun x hx => List.all_eq_true.mp hs x (List.mem_of_mem_drop hx)
    rw [h1, h2]
    rfl
  · unfold mkN
    rw [List.any_append, List.any_append, t3]
    simp
theorem mkN_inj {stem t u : List Nat} {a : Nat} (hl : t.length = u.length) (h : mkN stem a t = mkN stem a u) : t = u := by
  unfold mkN at h
  rw [List.append_assoc, List.append_assoc] at h
  have h2 := List.append_cancel_left h
  exact (List.append_inj h2 hl).1
section
variable {P : Program} {w : World} {K : PySem.W.Frag} {mg : Str → Option Value} {base : Heap}
theorem Kp.seq {p a : Addr} {H H' : Hp} {xs : List V} (k : Kp p H H') (n : a ≠ p) (h : SqL K H a xs) : SqL K H' a xs := by
  rcases h with (h | ⟨o, h⟩) | h
  · exact .inl (.inl (k.1 _ _ n h))
  · exact .inl (.inr ⟨o, k.1 _ _ n h⟩)
  · exact .inr h
/-- one of a list or of a text's signs -/
def spOf (K : PySem.W.Frag) : Sp := fun vs H Q _ => ∃ (p : Addr) (x : V), vs = [.ref p, x] ∧ Bag H p ∧
  ((∃ (a : Addr) (xs : List V), x = .ref a ∧ a ≠ p ∧ SqL K H a xs ∧ 1 ≤ xs.length ∧ xs.length ≤ 1000 ∧ ∀ H' y, Kp p H H' → y ∈ xs → Q y H') ∨
    ∃ cs : List Nat, x = .str (S cs) ∧ 1 ≤ cs.length ∧ cs.length ≤ 1000 ∧ ∀ H' c, Kp p H H' → c ∈ cs → Q (.str (S [c])) H')
theorem ok_of {f fT : Addr} {fd fdT : FuncData} (F : Fun K "_law_of" "_law_of" sOf f fd) (T : Blt mg) (GT : FnOk P w K mg base CX0 1 fT fdT ["_law_bag_here", "_law_many"] spTake) (mT : mg "_law_take" = some (.ref fT)) (kT : PySem.W.keepIn K (.ref fT) = true) (bT : Binds K fdT ["_law_bag_here", "_law_many"] []) :
    FnOk P w K mg base CX0 2 f fd ["_law_bag_here", "_law_some"] (spOf K) := by
  refine F.ok scOf (fun vs H Q E h => ?_) (fun cdv A outer s H vs Q E hr h => ?_)
  · obtain ⟨p, x, rfl, _⟩ := h
    rfl
  · obtain ⟨p, x, rfl, hB, h⟩ := h
    refine ⟨_, pss_one (ps_ret (pe_ix ix_seq (pv 1) (pe_call GT hr (by rfl) mT kT bT .nil pass0 (pa_cons (pv 0) (pa_cons (pe_callB call_len (by rfl) T.len PySem.boot_len (pa_cons (pv 1) pa_nil)) pa_nil))) (fun _ _ => rfl))), ?_⟩
    rcases h with ⟨a, xs, rfl, na, hS, h1, h2, q⟩ | ⟨cs, rfl, h1, h2, q⟩
    · refine ⟨_, rfl, _, rfl, _, rfl, _, xs.length, rfl, .inl ⟨xs, hS, rfl⟩, p, _, rfl, hB, by omega, by omega, fun H' r k r0 r1 => ?_⟩
      obtain ⟨j, rfl⟩ : ∃ j : Nat, r = (j : Int) := ⟨r.toNat, by omega⟩
      have hj : j < xs.length := by omega
      exact .inl ⟨a, xs, _, xs[j], rfl, rfl, k.seq na hS, atI_nat (List.getElem?_eq_getElem hj), q _ _ k (List.getElem_mem hj)⟩
    · have hz : (S cs).length ≤ sizeLine := by
        rw [S_len]
        exact Nat.le_of_lt (small1000 h2)
      refine ⟨_, rfl, _, rfl, _, rfl, _, (S cs).length, rfl, ⟨hz, rfl⟩, p, _, rfl, hB, by rw [S_len]; omega, by rw [S_len]; omega, fun H' r k r0 r1 => ?_⟩
      rw [S_len] at r1
      obtain ⟨j, rfl⟩ : ∃ j : Nat, r = (j : Int) := ⟨r.toNat, by omega⟩
      have hj : j < cs.length := by omega
      exact .inr (.inr ⟨S cs, _, cs[j], rfl, rfl, hz, atI_nat (List.getElem?_eq_getElem hj), q _ _ k (List.getElem_mem hj)⟩)
end
end Dr
namespace Dr
open PySem PySem.Spec PyProof.Rows L2
open SX (S S_len S_cat)
section
variable {P : Program} {w : World} {K : PySem.W.Frag} {mg : Str → Option Value} {base : Heap}
def txts (l : List (List Nat)) : List V := l.map fun cs => V.str (S cs)
def spNames (K : PySem.W.Frag) : Sp := fun vs H Q _ => ∃ (p : Addr) (m : Nat), vs = [.ref p, .int (m : Int)] ∧ Bag H p ∧ m ≤ 20 ∧
  ∀ H' q zs, Kp p H H' → H q = none → H' q = some (.lst (txts zs)) → zs.length = m → zs.Nodup → (∀ z ∈ zs, GoodN z) → Q (.ref q) H'
theorem seqIx {n j : Nat} (h : j < n) : seqIndex? (j : Int) n = some j := by
  refine (ixN_seq (n := n) (i := (j : Int)) (j := j) ?_).1
  unfold ixN
  rw [if_pos (by omega), if_pos (by omega)]
  simp
theorem erase_perm {α : Type} : ∀ {l : List α} {k : Nat} {y : α}, l[k]? = some y → (y :: l.eraseIdx k).Perm l
  | [], k, y, h => by simp at h
  | a :: r, 0, y, h => by
    obtain rfl := Option.some.inj h
    exact .refl _
  | a :: r, k + 1, y, h => by
    have ih := erase_perm (l := r) (k := k) (y := y) h
    exact (List.Perm.swap a y _).trans (.cons a ih)
theorem map_er {α β : Type} (f : α → β) : ∀ (l : List α) (k : Nat), (l.map f).eraseIdx k = (l.eraseIdx k).map f
  | [], _ => rfl
  | a :: r, 0 => rfl
  | a :: r, k + 1 => congrArg (f a :: ·) (map_er f r k)
theorem txts_erase (l : List (List Nat)) (k : Nat) : (txts l).eraseIdx k = txts (l.eraseIdx k) := map_er _ l k
theorem txts_app (l r : List (List Nat)) : txts l ++ txts r = txts (l ++ r) := by
  unfold txts
  rw [List.map_append]
theorem ok_names {f fT fO : Addr} {fd fdT fdO : FuncData} (F : Fun K "_law_names" "_law_names" sNames f fd) (T : Blt mg) (hra : mg "range" = none)
    (GT : FnOk P w K mg base CX0 1 fT fdT ["_law_bag_here", "_law_many"] spTake) (mT : mg "_law_take" = some (.ref fT)) (kT : PySem.W.keepIn K (.ref fT) = true) (bT : Binds K fdT ["_law_bag_here", "_law_many"] [])
    (GO : FnOk P w K mg base CX0 2 fO fdO ["_law_bag_here", "_law_some"] (spOf K)) (mO : mg "_law_of" = some (.ref fO)) (kO : PySem.W.keepIn K (.ref fO) = true) (bO : Binds K fdO ["_law_bag_here", "_law_some"] []) :
    FnOk P w K mg base CX0 3 f fd ["_law_bag_here", "_law_many"] (spNames K) := by
  refine F.ok scNames (fun vs H Q E h => ?_) (fun cdv A outer s H vs Q E hr h => ?_)
  · obtain ⟨p, m, rfl, _⟩ := h
    rfl
  · obtain ⟨p, m, rfl, hB, hm, q⟩ := h
    have hr1 : Room 1 _ := hr.mono (by decide)
    refine ⟨_, pss_cons (ps_par (i := 2) (j := 3) (by rfl) scNames.nd rfl rfl (by decide) rfl rfl (pa_cons (pe_lst pa_nil) (pa_cons pe_str pa_nil)) (by rfl))
      (pss_cons (ps_for PassesOwn.never rfl (pi_str pe_str) (pg_name (i := 4) scNames.nd rfl (.inr rfl)) (pss_one (ps_expr (pe_bm PySem.F.plainAttrs_list PySem.F.slot_list_extend PySem.F.type_list_extend mt_extend (pv 2) (pa_cons
          (pe_lc (own := [("_law_two", 8)]) (g := gName 8) (tt := tYes) rfl scNames.nd (pi_str pe_str) (blkOk_by (N := ["_law_bag_here", "_law_many", "_law_left", "_law_stem", "_law_one", "_law_turn", "_law_at", "_law_found", "_law_two"]) (sc := defScope sNames) (by decide +kernel)) (fun _ _ _ _ _ => pg_name (i := 8) scNames.nd rfl (Or.inl rfl)) (fun _ _ _ _ _ => pts_nil)
            (fun _ _ _ _ _ => pe_op op_add_str (pv 4) (pv 8))) pa_nil)))))
      (pss_cons (ps_for PassesOwn.never rfl (pi_range1 rfl hra (pa_cons (pe_call GT hr1 (by rfl) mT kT bT .nil pass0 (pa_cons (pv 0) (pa_cons pe_int pa_nil))) pa_nil)) (pg_name (i := 5) scNames.nd rfl (.inl rfl))
          (pss_one (ps_set (i := 3) scNames.nd rfl (.inl rfl) (pe_op op_add_str (pv 3) (pe_call GO hr (by rfl) mO kO bO .nil pass0 (pa_cons (pv 0) (pa_cons pe_str pa_nil)))))))
      (pss_cons (ps_par (i := 6) (j := 7) (by rfl) scNames.nd rfl rfl (by decide) rfl rfl (pa_cons (pe_call GT hr1 (by rfl) mT kT bT .nil pass0 (pa_cons (pv 0) (pa_cons (pe_op op_add (pe_callB call_len_str (by rfl) T.len PySem.boot_len (pa_cons (pv 3) pa_nil)) pe_int) pa_nil))) (pa_cons (pe_lst pa_nil) pa_nil)) (by rfl))
      (pss_cons (ps_for PassesOwn.never rfl (pi_range1 rfl hra (pa_cons (pv 1) pa_nil)) (pg_name (i := 5) scNames.nd rfl (.inl rfl))
          (pss_one (ps_expr (pe_bm PySem.F.plainAttrs_list PySem.F.slot_list_append PySem.F.type_list_append mt_append (pv 7) (pa_cons
            (pe_op op_add_str (pe_op op_add_str (pe_slice C8.sl_txt (pv 3) po_none (po_some (pv 6)))
              (pe_bm PySem.F.plainAttrs_list PySem.F.slot_list_pop PySem.F.type_list_pop mt_popAt (pv 2) (pa_cons (pe_call GT hr1 (by rfl) mT kT bT .nil pass0 (pa_cons (pv 0) (pa_cons (pe_callB call_len_seq (by rfl) T.len PySem.boot_len (pa_cons (pv 2) pa_nil)) pa_nil))) pa_nil)))
              (pe_slice C8.sl_txt (pv 3) (po_some (pv 6)) po_none)) pa_nil)))))
      (pss_one (ps_ret (pv 7))))))), ?_⟩
    refine ⟨Nat.zero_le _, fun l nl => ?_⟩
    have nlp : l ≠ p := fun e => by
      obtain ⟨u, v, hp, _⟩ := hB
      rw [e, hp] at nl
      cases nl
    refine ⟨_, _, rfl, ?_⟩
    -- the pairs of letters
    refine ⟨_, rfl, for_it walk_str (fun i σ H1 => Same H H1 ∧ H1 l = some (.lst (txts (twos i))) ∧ ∃ y, σ = [some (.ref p), some (.int (m : Int)), some (.ref l), some (.str ""), y, none, none, none, none]) ⟨same_upd nl, upd_same, _, rfl⟩ (fun _ _ _ _ _ => trivial) ?_ ?_⟩
    · rintro i x σ H1 H2 hi ⟨sm, hl, y, rfl⟩ ⟨rfl, c, hc, rfl⟩
      rw [gjqz_eq] at hc hi
      have hc' : gjqz[i]? = some c := by
        rw [← hc]
        simp
      have hi' : i < 4 := by simpa [gjqz] using hi
      refine ⟨_, rfl, .inl ⟨rfl, _, SqL.of hl⟩, _, rfl, fun D hD => lc_it walk_str (fun j H3 => Same H2 H3 ∧ H3 D = some (.lst (txts ((letters.take j).map fun b => [c, b])))) ⟨same_upd hD, upd_same⟩ (fun _ _ _ _ => trivial) ?_ ?_⟩
      · rintro j x H3 H4 hj ⟨sm3, hD3⟩ ⟨rfl, b, hb, rfl⟩
        rw [az_eq] at hb
        have hb' : letters[j]? = some b := by
          rw [← hb]
          simp
        refine ⟨rfl, ?_⟩
        unfold tYes
        refine iteT ?_
        refine ⟨_, rfl, _, rfl, S [c], S [b], rfl, rfl, by show 1 + 1 ≤ sizeLine; decide, ?_⟩
        refine ⟨_, hD3, ?_, fun a o e => ?_, ?_⟩
        · unfold txts
          rw [List.length_map, List.length_map, List.length_take]
          exact small1000 (by have : letters.length = 26 := rfl; omega)
        · rw [upd_ne (ne_of_none e hD)]
          exact sm3 _ _ e
        · rw [upd_same, S_cat, List.take_add_one, hb']
          unfold txts
          rw [List.map_append, List.map_append]
          rfl
      · rintro H3 ⟨sm3, hD3⟩
        rw [az_eq] at hD3
        have e26 : letters.take (S letters).cps.size = letters := rfl
        rw [e26] at hD3
        have hl3 := sm3 _ _ hl
        have nlD : l ≠ D := ne_of_none hl hD
        refine ⟨l, D, _, _, rfl, rfl, hl3, hD3, ?_, ?_⟩
        · unfold txts
          rw [List.length_map, List.length_map, List.length_map]
          have h1 : (twos i).length ≤ 104 := by
            have hcase : i = 0 ∨ i = 1 ∨ i = 2 ∨ i = 3 := by omega
            rcases hcase with e | e | e | e <;> (rw [e]; decide +kernel)
          have h2 : letters.length = 26 := rfl
          exact Nat.le_of_lt (small1000 (by omega))
        · refine ⟨fun a o e => ?_, ?_, _, rfl⟩
          · rw [upd_ne (ne_of_none e nl)]
            exact sm3 _ _ (sm _ _ e)
          · rw [upd_same, txts_app, twos_next hc']
    · rintro σ H1 ⟨sm, hl, y, rfl⟩
      rw [gjqz_eq] at hl
      have e4 : twos (S gjqz).cps.size = twos 4 := rfl
      rw [e4] at hl
      have k1 : Kp p H H1 := Kp.of hB sm
      -- the stem
      refine ⟨_, rfl, p, 7, rfl, k1.2, by decide, by decide, fun H2 r k2 r0 r7 => ⟨r, rfl, by omega, by omega, for_it walk_range (fun i σ H3 => Kp p H H3 ∧ H3 l = some (.lst (txts (twos 4))) ∧ ∃ (stem : List Nat) (y5 : Option V), σ = [some (.ref p), some (.int (m : Int)), some (.ref l), some (.str (S stem)), y, y5, none, none, none] ∧ stem.all lowC = true ∧ stem.length ≤ i) ⟨k1.trans k2, k2.1 _ _ nlp hl, [], none, rfl, rfl, Nat.le_refl _⟩ (fun _ _ _ _ _ => trivial) ?_ ?_⟩⟩
      · rintro i x σ H3 H4 hi ⟨k3, hl3, stem, y5, rfl, hlow, hlen⟩ ⟨rfl, rfl⟩
        refine ⟨_, rfl, _, rfl, p, _, rfl, k3.2, .inr ⟨letters, congrArg V.str az_eq, by decide, by decide, fun H5 c k5 hc => ?_⟩⟩
        refine ⟨_, _, rfl, rfl, ?_, ?_⟩
        · rw [S_len, S_len]
          exact Nat.le_of_lt (small1000 (by show stem.length + 1 ≤ 1000; omega))
        · refine ⟨k3.trans k5, k5.1 _ _ nlp hl3, stem ++ [c], _, by rw [← S_cat]; rfl, ?_, by rw [List.length_append]; show stem.length + 1 ≤ i + 1; omega⟩
          rw [List.all_append, hlow, List.all_cons, letters_low c hc]
          rfl
      · rintro σ H3 ⟨k3, hl3, stem, y5, rfl, hlow, hlen⟩
        have hlen6 : stem.length ≤ 6 := by omega
        refine ⟨_, rfl, _, rfl, _, rfl, ?_, _, _, rfl, rfl, p, _, rfl, k3.2, by omega, by rw [S_len]; omega, fun H4 at_ k4 a0 a1 => ?_⟩
        · rw [S_len]
          exact Nat.le_of_lt (small1000 (by omega))
        refine ⟨Nat.zero_le _, fun g ng => ⟨_, _, rfl, ?_⟩⟩
        have hl4 := k4.1 _ _ nlp hl3
        have k04 := k3.trans k4
        have nlg : l ≠ g := ne_of_none hl4 ng
        have ngp : g ≠ p := fun e => by
          obtain ⟨u, v, hp, _⟩ := k04.2
          rw [e, hp] at ng
          cases ng
        have sg : Same H4 (upd H4 g (.lst [])) := same_upd ng
        -- the names
        refine ⟨_, rfl, (m : Int), rfl, by omega, by omega, for_it walk_range (fun i σ H5 => Kp p H H5 ∧ H5 g = H5 g ∧ ∃ (ws L : List (List Nat)) (y5 : Option V), H5 l = some (.lst (txts L)) ∧ H5 g = some (.lst (txts (ws.map (mkN stem at_.toNat)))) ∧ ws.length = i ∧ L.length + i = 104 ∧ (ws ++ L).Nodup ∧ (∀ t ∈ ws ++ L, t ∈ twos 4) ∧
          σ = [some (.ref p), some (.int (m : Int)), some (.ref l), some (.str (S stem)), y, y5, some (.int at_), some (.ref g), none]) ⟨k04.same sg, rfl, [], twos 4, _, sg _ _ hl4, upd_same, rfl, twos_len, twos_nodup, fun t h => h, rfl⟩ (fun _ _ _ _ _ => trivial) ?_ ?_⟩
        · rintro i x σ H5 H6 hi ⟨k5, _, ws, L, y5, hL, hG, hw, hLl, hnd, hall, rfl⟩ ⟨rfl, rfl⟩
          have hi20 : i < 20 := by
            have : i < ((m : Nat) : Int).toNat := hi
            omega
          have hsz : (S stem).length ≤ sizeLine := by
            rw [S_len]
            exact Nat.le_of_lt (small1000 (by omega))
          have hLen : (txts L).length = L.length := by
            unfold txts
            rw [List.length_map]
          refine ⟨_, rfl, .inl ⟨rfl, _, SqL.of hG⟩, ?_⟩
          refine ⟨_, rfl, _, rfl, at_, rfl, S stem, rfl, hsz, ?_⟩
          refine ⟨_, rfl, .inl ⟨rfl, _, SqL.of hL⟩, _, rfl, _, rfl, l, _, rfl, .inl (SqL.of hL), p, _, rfl, k5.2, by rw [hLen]; omega, by rw [hLen]; omega, fun H7 kk k7 kk0 kk1 => ?_⟩
          rw [hLen] at kk1
          obtain ⟨j, rfl⟩ : ∃ j : Nat, kk = (j : Int) := ⟨kk.toNat, by omega⟩
          have hj : j < L.length := by omega
          have hget : L[j]? = some L[j] := List.getElem?_eq_getElem hj
          have hL7 := k7.1 _ _ nlp hL
          have hG7 := k7.1 _ _ ngp hG
          have htwo : L[j] ∈ twos 4 := hall _ (List.mem_append_right _ (List.getElem_mem hj))
          have ht2 := (twos_ok _ htwo).1
          refine ⟨l, _, _, j, .str (S L[j]), rfl, rfl, hL7, by omega, by omega, seqIx (by rw [hLen]; exact hj), by unfold txts; rw [List.getElem?_map, hget]; rfl, ?_⟩
          have e1 : Txt.slice (S stem) none (some at_) = S (stem.take at_.toNat) := SX.slice_to a0
          have e2 : Txt.slice (S stem) (some at_) none = S (stem.drop at_.toNat) := SX.slice_from a0
          refine ⟨_, _, congrArg V.str e1, rfl, ?_, ?_⟩
          · rw [S_len, S_len, List.length_take]
            exact Nat.le_of_lt (small1000 (by omega))
          refine ⟨_, rfl, _, rfl, at_, rfl, S stem, rfl, hsz, ?_⟩
          refine ⟨_, _, rfl, congrArg V.str e2, ?_, ?_⟩
          · rw [S_cat, S_len, S_len, List.length_append, List.length_take, List.length_drop]
            exact Nat.le_of_lt (small1000 (by omega))
          refine ⟨g, _, _, rfl, rfl, (by rw [upd_ne nlg.symm]; exact hG7), ?_, ?_⟩
          · unfold txts
            rw [List.length_map, List.length_map, hw]
            exact small1000 (by omega)
          · rw [S_cat, S_cat]
            have hperm : ((ws ++ [L[j]]) ++ L.eraseIdx j).Perm (ws ++ L) := by
              rw [List.append_assoc]
              exact (erase_perm hget).append_left ws
            refine ⟨⟨fun a o na e => ?_, ?_⟩, rfl, ws ++ [L[j]], L.eraseIdx j, _, ?_, ?_, by rw [List.length_append, hw]; rfl, ?_, hperm.nodup_iff.mpr hnd, fun t h => hall t (hperm.mem_iff.mp h), rfl⟩
            · have e5 := k7.1 _ _ na (k5.1 _ _ na e)
              have ag : a ≠ g := fun z => by
                subst z
                have := (k04.1 _ _ na e).symm.trans ng
                cases this
              have al : a ≠ l := fun z => by
                subst z
                rw [nl] at e
                cases e
              rw [upd_ne ag, upd_ne al]
              exact e5
            · obtain ⟨u, v, hp, hb⟩ := k7.2
              refine ⟨u, v, ?_, hb⟩
              rw [upd_ne ngp.symm, upd_ne nlp.symm]
              exact hp
            · rw [upd_ne nlg, upd_same, txts_erase]
            · rw [upd_same, List.map_append, ← txts_app]
              unfold mkN
              rfl
            · rw [List.length_eraseIdx_of_lt hj]
              omega
        · rintro σ H5 ⟨k5, _, ws, L, y5, hL, hG, hw, hLl, hnd, hall, rfl⟩
          have hw' : ws.length = m := by
            rw [hw]
            show ((m : Nat) : Int).toNat = m
            omega
          have ng0 : H g = none := by
            cases e : H g with
            | none => rfl
            | some o =>
              have := (k04.1 _ _ ngp e).symm.trans ng
              cases this
          refine ⟨_, rfl, q _ g _ k5 ng0 hG (by rw [List.length_map]; exact hw') ?_ ?_⟩
          · have hnd1 : ws.Nodup := (List.nodup_append.mp hnd).1
            refine List.pairwise_map.mpr (hnd1.imp_of_mem fun {t u} ht hu ne e => ne ?_)
            have t2 := (twos_ok t (hall t (List.mem_append_left _ ht))).1
            have u2 := (twos_ok u (hall u (List.mem_append_left _ hu))).1
            exact mkN_inj (t2.trans u2.symm) e
          · intro z hz
            obtain ⟨t, ht, rfl⟩ := List.mem_map.mp hz
            exact mkN_good hlow hlen6 (hall t (List.mem_append_left _ ht))
end
end Dr
namespace Dr
open PySem PySem.Spec PyProof.Rows L2
/-- one clause: its class, its name's slot, its suite's reading -/
structure Cl where
  c : Value
  i : Nat
  ts : Addr → Value → Option Addr → TS
/-- the ends of a suite: the name is gone -/
abbrev gone (i : Nat) (D : Ends) : Ends := { nx := fun x y => D.nx (x.set i none) y, rt := D.rt, bk := fun x y => D.bk (x.set i none) y, ct := fun x y => D.ct (x.set i none) y }
/-- what the clauses ask of what the body raises -/
def wCl (K : PySem.W.Frag) (O : WX) (D : Ends) : List Cl → WX
  | [] => O
  | k :: r => fun cls d σ H => ∃ b, PySem.W.exmOne K cls k.c = some b ∧ (b = true → ∀ a, H a = none → k.ts a cls d (gone k.i D) (σ.set k.i (some (.ref a))) H) ∧ (b = false → wCl K O D r cls d σ H)
inductive ClOk (X : Cx) : List ExceptHandler → List Cl → Prop
  | nil : ClOk X [] []
  | cons {x n : Str} {k : Cl} {s0 : Stmt} {ss : List Stmt} {p1 p2 : Pos} {hs : List ExceptHandler} {l : List Cl} (hi : X.N[k.i]? = some n) (hn : X.env.kindOf n = some .local) (hc : Names X x k.c)
      (su : ∀ (a : Addr) (o : Obj) (cls : Value) (d : Option Addr) (q : List (Addr × Obj)), Zc cls d o → (∃ vs, o.data = .fields vs) → PSs (X.suite a ((a, o) :: q)) (s0 :: ss) (k.ts a cls d)) (r : ClOk X hs l) :
      ClOk X (.ExceptHandler (some (.Name x p1)) (some n) (s0 :: ss) p2 :: hs) (k :: l)
section
variable {X : Cx} {body : List Stmt} {e0 : ExceptHandler} {es : List ExceptHandler} {l : List Cl} {pos : Pos} {tb : WX → TS} {O : WX}
theorem ps_try_cl (h1 : X.stack = X.env :: X.outer) (h2 : X.env.frame = some X.env.locals) (nd : X.N.Nodup) (tk : Takes X O)
    (hb : ∀ (W : WX) (q : List (Addr × Obj)) (xe : Value → Shared → Prop), Takes (X.tr q xe) W → PassesOwn (model X.prog X.w) X.A X.env xe → PSs (X.tr q xe) body (tb W))
    (hk : ClOk X (e0 :: es) l) : PS X (.Try body (e0 :: es) [] [] pos) (fun D σ H => tb (wCl X.K O D l) D σ H) := by
  refine ⟨fun q0 t0 σ0 H0 D I0 hw => ?_⟩
  have okX := I0.ok
  have frX : X.A.frames = some (X.env :: X.outer) := okX.frames.trans (congrArg some h1)
  refine wpAny_Try_except ?_
  have hrun := (hb (wCl X.K O D l) (X.pn ++ q0) (fun e t1 => wpAny (model X.prog X.w) X.A (noteFrame e X.env) (fun _ t2 => wpAny (model X.prog X.w) X.A (setFlight e none) (fun _ t3 => wpAny (model X.prog X.w) X.A (handleBy e X.env (e0 :: es)) (SP X q0 D) X.xe t3) X.xe t2) X.xe t1)
    (fun u t9 raised => ?caught) PassesOwn.looking).run [] t0 σ0 H0 D (I0.toTry _) hw
  case caught =>
    obtain ⟨a, B, tI, q1, σ1, H1, cls, d, rfl, J0, nb, up, sky, na, os, ag, ask⟩ := raised
    have J : Inv X q0 σ1 H1 tI := J0.ofTry okX
    have sky1 : Sky B (X.env :: X.outer) a (Zc cls d) X.env.locals t9.heap := h1 ▸ sky
    show wpAny (model X.prog X.w) X.A (noteFrame (.ref a) X.env) _ _ _
    refine Sky.land Zc.steady frX h2 sky1 fun g3 fl3 up3 => ?_
    have J3 : Inv X q0 σ1 H1 { t9 with heap := g3 } := J.landed nb fl3.1 (up.trans up3) os ag
    obtain ⟨o3, v3, at3, z3, dd3⟩ := fl3.there
    have apart : a ∉ frs (X.env :: X.outer) := fun hm => by
      obtain ⟨_, o', e', hnf⟩ := fl3.2.2.1.mem hm
      rw [at3] at e'
      cases e'
      exact hnf _ dd3
    have nL : a ≠ X.env.locals := fun z => apart (List.mem_filterMap.mpr ⟨X.env, List.mem_cons_self, h2.trans (congrArg some z.symm)⟩)
    have nF : a ∉ X.fs := fun hm => let ⟨e, he, q⟩ := List.mem_filterMap.mp hm; apart (List.mem_filterMap.mpr ⟨e, List.mem_cons_of_mem _ he, q⟩)
    have S3 := J3.suite at3 dd3 na nL nF
    have LT : PySem.W.Looks (model X.prog X.w) g3 (typeOf (.ref a)) cls := fun A Q E s k q => wpAny_typeOf_ref (k _ _ at3) (z3.1 ▸ q)
    have walk : ∀ {hs : List ExceptHandler} {m : List Cl}, ClOk X hs m → wCl X.K O D m cls d σ1 H1 → wpAny (model X.prog X.w) X.A (handleBy (.ref a) X.env hs) (SP X q0 D) X.xe { t9 with heap := g3 } := by
      intro hs m ok
      induction ok with
      | nil =>
        intro ask
        refine wpAny_handleBy_nil ?_
        obtain ⟨_, _, _, oe, vs, T, oT, _, he, hz, hd, hf1, _⟩ := id fl3
        unfold PySem.passOn
        refine wpAny_bind (wpAny_field he hd hf1 ?_)
        rw [if_neg (show ¬ ((Value.ref T == Value.none) = true) by simp)]
        have out : wpAny (model X.prog X.w) X.A (setFlight (.ref a) X.env.frame) (fun _ t4 => wpAny (model X.prog X.w) X.A (throw (.ref a) : Sem Flow) (SP X q0 D) X.xe t4) X.xe { t9 with heap := g3 } := by
          rw [h2]
          exact HandSPX.setFlight_upZ fl3 fun g4 hh4 up4 => wpAny_throw (tk _ _ ⟨a, B, tI, q0, σ1, H1, cls, d, rfl, J, nb, (up.trans up3).trans up4, .inr (.inr (h1.symm ▸ hh4)), na, os, ag, ask⟩)
        first
          | exact wpAny_bind (wpAny_pure (wpAny_bind out))
          | exact wpAny_bind out
      | @cons x n k s0 ss p1 p2 hs2 m2 hi hn hc su r ih =>
        intro ask
        obtain ⟨b, em, yes, no⟩ := ask
        refine wpAny_handleBy_cons (codeAny_handlers_test ?_) (by intro q; cases q)
        have LM := PySem.W.exm_one (M := model X.prog X.w) (J3.kIn) LT em
        have cl : ∀ {Q : Value → Shared → Prop} {E : Value → Shared → Prop}, Q k.c { t9 with heap := g3 } → wpAny (model X.prog X.w) (X.A.mark (some (.ref a))) (eval (.Name x p1) X.env) Q E { t9 with heap := g3 } := fun {Q E} q => by
          rcases hc with ⟨hg, hdbg, hm | ⟨hm, hv, hnn⟩⟩
          · exact ld_glob (X := X.suite a ((a, o3) :: (X.pn ++ q0))) S3 hg hm q hdbg
          · exact ld_blt (X := X.suite a ((a, o3) :: (X.pn ++ q0))) S3 hg hm hv q hnn hdbg
        refine cl (LM.here ?_)
        cases b with
        | false => exact ih (no rfl)
        | true =>
          refine codeAny_handlers_suite_as (HandSPX.lands_againZ fl3 fun g4 fl4 up4 => ?_)
          have J4 : Inv X q0 σ1 H1 { t9 with heap := g4 } := J.landed nb fl4.1 ((up.trans up3).trans up4) os ag
          obtain ⟨o4, v4, at4, z4, dd4⟩ := fl4.there
          have S4 := J4.suite at4 dd4 na nL nF
          refine store_ok (X := X.suite a ((a, o4) :: (X.pn ++ q0))) (v := .ref a) S4 nd hi (.inl hn) rfl (fun t5 S5 => ?_) (.inr hn)
          have close : ∀ {σ6 : L2.St} {H6 : Hp} {t6 : Shared} {Q : Shared → Prop}, Inv (X.suite a ((a, o4) :: (X.pn ++ q0))) [] σ6 H6 t6 → (∀ t7, Inv X q0 (σ6.set k.i none) H6 t7 → Q t7) →
              wpAny (model X.prog X.w) X.A (do bindName X.env n .none; unbindBehindTheSuite X.env n p2) (fun _ t7 => Q t7) X.xe t6 := fun S6 hq => gone_ok (S6.unsuite okX) nd hi hn hq
          refine wpAny_mono ((su a o4 cls d (X.pn ++ q0) z4 ⟨_, dd4⟩).run [] t5 _ H1 _ S5 (yes rfl a na)) (fun fl t6 en => ?_) (fun _ _ z => False.elim z)
          cases fl with
          | next => exact let ⟨_, _, S6, q6⟩ := en; close S6 fun t7 J7 => ⟨_, _, J7, q6⟩
          | brk => exact let ⟨_, _, S6, q6⟩ := en; close S6 fun t7 J7 => ⟨_, _, J7, q6⟩
          | cont => exact let ⟨_, _, S6, q6⟩ := en; close S6 fun t7 J7 => ⟨_, _, J7, q6⟩
          | ret u => exact let ⟨_, _, _, S6, r6, q6⟩ := en; close S6 fun t7 J7 => ⟨_, _, _, J7, r6, q6⟩
    exact walk hk ask
  refine wpAny_mono hrun (fun fl t1 en => ?_) (fun _ _ he => he)
  cases fl with
  | next => exact let ⟨_, _, J, q⟩ := en; wpAny_execs_nil ⟨_, _, J.ofTry okX, q⟩
  | brk => exact let ⟨_, _, J, q⟩ := en; ⟨_, _, J.ofTry okX, q⟩
  | cont => exact let ⟨_, _, J, q⟩ := en; ⟨_, _, J.ofTry okX, q⟩
  | ret u => exact let ⟨_, _, _, J, r, q⟩ := en; ⟨_, _, _, J.ofTry okX, r, q⟩
end
/-- C(e, .., k = v, ..) in a body whose raised exceptions are awaited -/
def tMkKS (C : Addr) (n m : Nat) (sp : Sp) (gV : List V → List V → List V) (E : L2.St → XK) (t tk : TA) : TE := fun σ H Q => t σ H fun vs H1 => tk σ H1 fun zs H2 => vs.length = n ∧ zs.length = m ∧ ∀ x dx, H2 x = none → H2 dx = none → dx ≠ x →
  sp (gV (.ref x :: vs) zs) (upd (upd H2 dx (.own x)) x (.ins C dx [])) (fun v H3 => v = .non ∧ Q (.ref x) H3) (E σ)
section
variable {X : Cx} {CX : CXT} {k n : Nat} {f C : Addr} {fd : FuncData} {ps ks : List Str} {sp : Sp} {E : L2.St → XK} {x : Str} {p pos : Pos} {e : Expr} {es : List Expr} {kws : List Keyword} {t tk : TA} {g : List Value → List Value → List Value} {gV : List V → List V → List V}
theorem pe_mkKS (M : Mk X.K C f) (F : FnOk X.prog X.w X.K X.mg X.base CX k f fd ps sp) (hr : Room (k + 1) X.A) (hg : Gl X x) (hm : X.mg x = some (.ref C)) (hb : KBn X.K fd ps (n + 1) ks g gV) (hx : ∀ σ, PassesAt CX X σ (E σ)) (ha : PA X (e :: es) t) (hk : PK X kws tk)
    (c1 : (backToKw pos (keywordEach kws X.env)).all (·.1.isSome) = true := by rfl) (c2 : (backToKw pos (keywordEach kws X.env)).filterMap (·.1) = ks := by rfl) (c3 : (x == ("__debug__" : Str)) = false := by decide)
    (c4 : starEach (e :: es) X.env = (false, eval e X.env) :: starEach es X.env := by rfl) (c5 : ((backTo pos (starEach (e :: es) X.env)).any (·.1) || (backToKw pos (keywordEach kws X.env)).any (·.1.isNone)) = false := by rfl) :
    PE X (.Call (.Name x p) (e :: es) kws pos) (tMkKS C n ks.length sp gV E t tk) := by
  refine ⟨fun pins s σ H Q I h => wpAny_Call_Name_kw (ld_glob I hg hm ?_ c3)⟩
  refine PySem.W.callWith_KW (h₀ := X.base) I.ok.mod.kin M.kp c1 (thn (ha.run pos pins s σ H _ I h) fun us s1 ⟨vs, H1, I1, r1, q1⟩ => ?_) c5 c4
  refine thn (hk.run pos pins s1 σ H1 _ I1 q1) fun ws s2 ⟨zs, H2, I2, r2, l1, l2, q2⟩ => ⟨I2.kIn, ?_⟩
  rw [c2]
  have hq := q2 (s2.heap.objs.size + 1) s2.heap.objs.size (I2.hok.fresh (Nat.le_succ _)) (I2.hok.fresh (Nat.le_refl _)) (Nat.ne_of_lt (Nat.lt_succ_self _))
  have I3 := Inv.made (C := C) I2
  have rS : Vals (V.ref (s2.heap.objs.size + 1) :: vs) (Value.ref (s2.heap.objs.size + 1) :: us) := .cons rfl r1
  have nS : (Value.ref (s2.heap.objs.size + 1) :: us).length = n + 1 := rS.length.symm.trans (congrArg Nat.succ l1)
  refine wpAny_call (make_map (f := f) I2.kIn M.makes M.init (beq_iff_eq.mp M.fn) (codeAny_mono (F.run _ X.stack _ _ ⟨Value.ref (s2.heap.objs.size + 1) :: us, ks.zip ws⟩ (g (Value.ref (s2.heap.objs.size + 1) :: us) ws) _ _ (E σ) (hr.make C us (ks.zip ws))
    (I3.env0.make C us (ks.zip ws)) (hb.to _ (Value.ref (s2.heap.objs.size + 1) :: us) ws I3.kIn nS (r2.length.symm.trans l2)) (hb.rel rS r2) hq) fun r s' hq' => ?_))
  cases r with
  | error er => exact hx σ pins _ _ er s' I3 hq'
  | ok fl =>
    cases fl with
    | ret u =>
      obtain ⟨v, H', I4, rv, ev, q3⟩ := I3.after hq'
      subst ev
      exact ⟨rv, ⟨V.ref (s2.heap.objs.size + 1), H', I4, rfl, q3⟩⟩
    | next => exact False.elim hq'
    | brk => exact False.elim hq'
    | cont => exact False.elim hq'
end
end Dr
namespace Dr
open PySem PySem.Spec PyProof.Rows L2
open SX (S S_len S_cat)
/-- the heap without the bag -/
def hid (p : Addr) (H : Hp) : Hp := fun b => if b = p then none else H b
/-- v is the datum d, and the bag at p is no part of it -/
abbrev Dq (K : PySem.W.Frag) (p : Addr) (H : Hp) (v : V) (d : PyData) : Prop := Dp K (hid p H) v d
abbrev DqAll (K : PySem.W.Frag) (p : Addr) (H : Hp) (vs : List V) (ds : List PyData) : Prop := DpAll K (hid p H) vs ds
theorem hid_sub {p : Addr} {H : Hp} : Same (hid p H) H := fun b o e => by
  unfold hid at e
  split at e
  · cases e
  · exact e
theorem hid_same {p : Addr} {H H' : Hp} (s : Same H H') : Same (hid p H) (hid p H') := fun b o e => by
  unfold hid at e ⊢
  split at e
  · cases e
  · rename_i n
    rw [if_neg n]
    exact s _ _ e
theorem hid_kp {p : Addr} {H H' : Hp} (k : Kp p H H') : Same (hid p H) (hid p H') := fun b o e => by
  unfold hid at e ⊢
  split at e
  · cases e
  · rename_i n
    rw [if_neg n]
    exact k.1 _ _ n e
theorem hid_at {p q : Addr} {H : Hp} {o : HO} (n : q ≠ p) (h : H q = some o) : hid p H q = some o := by
  unfold hid
  rw [if_neg n]
  exact h
theorem Dq.dp {K : PySem.W.Frag} {p : Addr} {H : Hp} {v : V} {d : PyData} (h : Dq K p H v d) : Dp K H v d := dp_same hid_sub h
theorem Dq.same {K : PySem.W.Frag} {p : Addr} {H H' : Hp} {v : V} {d : PyData} (h : Dq K p H v d) (s : Same H H') : Dq K p H' v d := dp_same (hid_same s) h
theorem Dq.kp {K : PySem.W.Frag} {p : Addr} {H H' : Hp} {v : V} {d : PyData} (h : Dq K p H v d) (k : Kp p H H') : Dq K p H' v d := dp_same (hid_kp k) h
/-- what an expression denotes -/
abbrev DP := L2.St → Hp → PyData → Prop
abbrev DPs := L2.St → Hp → List PyData → Prop
def tD (K : PySem.W.Frag) (p : Addr) (P : DP) : TE := fun σ H Q => ∃ d, P σ H d ∧ ∀ v H', Same H H' → Dq K p H' v d → Q v H'
def aD (K : PySem.W.Frag) (p : Addr) (P : DPs) : TA := fun σ H Q => ∃ ds, P σ H ds ∧ ∀ vs H', Same H H' → DqAll K p H' vs ds → Q vs H'
/-- stays as the heap grows -/
def Up {α : Type} (P : L2.St → Hp → α → Prop) : Prop := ∀ σ H H' d, Same H H' → P σ H d → P σ H' d
theorem PE.imp {X : Cx} {e : Expr} {t t' : TE} (h : PE X e t) (i : ∀ σ H Q, t' σ H Q → t σ H Q) : PE X e t' := ⟨fun pins s σ H Q I w => h.run pins s σ H Q I (i σ H Q w)⟩
theorem PA.imp {X : Cx} {es : List Expr} {t t' : TA} (h : PA X es t) (i : ∀ σ H Q, t' σ H Q → t σ H Q) : PA X es t' := ⟨fun pos pins s σ H Q I w => h.run pos pins s σ H Q I (i σ H Q w)⟩
def isD (d : PyData) : DP := fun _ _ x => x = d
def slD (K : PySem.W.Frag) (p : Addr) (i : Nat) : DP := fun σ H d => ∃ v, σ[i]? = some (some v) ∧ Dq K p H v d
def nilD : DPs := fun _ _ ds => ds = []
def consD (P : DP) (Ps : DPs) : DPs := fun σ H ds => ∃ d r, P σ H d ∧ Ps σ H r ∧ ds = d :: r
def tupD (p : Addr) (Ps : DPs) : DP := fun σ H d => ∃ ds, Ps σ H ds ∧ ds.length ≤ 1000 ∧ H p ≠ none ∧ d = .tuple ds
def lstD (p : Addr) (Ps : DPs) : DP := fun σ H d => ∃ ds, Ps σ H ds ∧ ds.length ≤ 1000 ∧ H p ≠ none ∧ d = .list ds
theorem Same.some {H H' : Hp} {p : Addr} (s : Same H H') (h : H p ≠ none) : H' p ≠ none := by
  cases e : H p with
  | none => exact absurd e h
  | some o =>
    rw [s _ _ e]
    exact fun z => by cases z
theorem up_is {d : PyData} : Up (isD d) := fun _ _ _ _ _ h => h
theorem up_sl {K : PySem.W.Frag} {p : Addr} {i : Nat} : Up (slD K p i) := fun _ _ _ _ s ⟨v, e, h⟩ => ⟨v, e, Dq.same h s⟩
theorem up_nil : Up nilD := fun _ _ _ _ _ h => h
theorem up_cons {P : DP} {Ps : DPs} (h : Up P) (hs : Up Ps) : Up (consD P Ps) := fun σ H H' d s ⟨x, r, a, b, e⟩ => ⟨x, r, h σ H H' x s a, hs σ H H' r s b, e⟩
theorem up_tup {p : Addr} {Ps : DPs} (h : Up Ps) : Up (tupD p Ps) := fun σ H H' d s ⟨ds, a, b, c, e⟩ => ⟨ds, h σ H H' ds s a, b, Same.some s c, e⟩
theorem up_lst {p : Addr} {Ps : DPs} (h : Up Ps) : Up (lstD p Ps) := fun σ H H' d s ⟨ds, a, b, c, e⟩ => ⟨ds, h σ H H' ds s a, b, Same.some s c, e⟩
section
variable {X : Cx} {p : Addr}
theorem pd_str {x : Str} {j : Nat} {pos : Pos} : PE X (.Constant (.str x) j pos) (tD X.K p (isD (.str x))) := PE.imp pe_str fun _ H _ ⟨d, e, q⟩ => by
  cases (show d = .str x from e)
  exact q _ H (Same.refl _) (.str x)
theorem pd_int {x : Int} {j : Nat} {pos : Pos} : PE X (.Constant (.int x) j pos) (tD X.K p (isD (.int x))) := PE.imp pe_int fun _ H _ ⟨d, e, q⟩ => by
  cases (show d = .int x from e)
  exact q _ H (Same.refl _) (.int x)
theorem pd_bl {x : Bool} {j : Nat} {pos : Pos} : PE X (.Constant (.bool x) j pos) (tD X.K p (isD (.bool x))) := PE.imp pe_bl fun _ H _ ⟨d, e, q⟩ => by
  cases (show d = .bool x from e)
  exact q _ H (Same.refl _) (.bl x)
theorem pd_non {j : Nat} {pos : Pos} : PE X (.Constant .none j pos) (tD X.K p (isD .none)) := PE.imp pe_non fun _ H _ ⟨d, e, q⟩ => by
  cases (show d = .none from e)
  exact q _ H (Same.refl _) .non
theorem pd_v (i : Nat) {x : Str} {pos : Pos} (h : PE X (.Name x pos) (tVar i)) : PE X (.Name x pos) (tD X.K p (slD X.K p i)) := PE.imp h fun _ H _ ⟨_, ⟨v, e, hd⟩, q⟩ => ⟨v, e, q v H (Same.refl _) hd⟩
theorem pad_nil : PA X [] (aD X.K p nilD) := PA.imp pa_nil fun _ H _ ⟨ds, e, q⟩ => by
  cases (show ds = [] from e)
  exact q [] H (Same.refl _) .nil
theorem pad_cons {e : Expr} {es : List Expr} {P : DP} {Ps : DPs} (h : PE X e (tD X.K p P)) (hs : PA X es (aD X.K p Ps)) (u : Up Ps) (c : starEach (e :: es) X.env = (false, eval e X.env) :: starEach es X.env := by rfl) : PA X (e :: es) (aD X.K p (consD P Ps)) := PA.imp (pa_cons h hs c) fun σ H Q ⟨ds, ⟨d, r, a, b, e⟩, q⟩ => by
  subst e
  exact ⟨d, a, fun v H1 s1 h1 => ⟨r, u _ _ _ _ s1 b, fun vs H2 s2 h2 => q (v :: vs) H2 (s1.trans s2) (.cons (Dq.same h1 s2) h2)⟩⟩
theorem new_ne {p q : Addr} {H : Hp} (h : H p ≠ none) (n : H q = none) : q ≠ p := fun e => h (e ▸ n)
theorem pd_tup {es : List Expr} {k : Nat} {pos : Pos} {Ps : DPs} (h : PA X es (aD X.K p Ps)) : PE X (.Tuple es k pos) (tD X.K p (tupD p Ps)) := PE.imp (pe_tup h) fun σ H Q ⟨d, ⟨ds, a, b, c, e⟩, q⟩ => by
  subst e
  refine ⟨ds, a, fun vs H1 s1 h1 => ⟨by rw [dpAll_len h1]; exact Nat.le_of_lt (small1000 b), fun t nt => q _ _ (s1.trans (same_upd nt)) ?_⟩⟩
  exact .tup (SqT.of (hid_at (new_ne (Same.some s1 c) nt) upd_same)) (dpAll_same (hid_same (same_upd nt)) h1)
theorem pd_lst {es : List Expr} {pos : Pos} {Ps : DPs} (h : PA X es (aD X.K p Ps)) : PE X (.List es pos) (tD X.K p (lstD p Ps)) := PE.imp (pe_lst h) fun σ H Q ⟨d, ⟨ds, a, b, c, e⟩, q⟩ => by
  subst e
  refine ⟨ds, a, fun vs H1 s1 h1 => ⟨by rw [dpAll_len h1]; exact Nat.le_of_lt (small1000 b), fun t nt => q _ _ (s1.trans (same_upd nt)) ?_⟩⟩
  exact .lst (SqL.of (hid_at (new_ne (Same.some s1 c) nt) upd_same)) (dpAll_same (hid_same (same_upd nt)) h1)
/-- a list display, its list known -/
def tL (K : PySem.W.Frag) (p : Addr) (Ps : DPs) : TE := fun σ H Q => ∃ ds, Ps σ H ds ∧ ds.length ≤ 1000 ∧ H p ≠ none ∧ ∀ l xs H', Same H H' → l ≠ p → H l = none → H' l = some (.lst xs) → DqAll K p H' xs ds → Q (.ref l) H'
theorem pd_list {es : List Expr} {pos : Pos} {Ps : DPs} (h : PA X es (aD X.K p Ps)) : PE X (.List es pos) (tL X.K p Ps) := PE.imp (pe_lst h) fun σ H Q ⟨ds, a, b, c, q⟩ =>
  ⟨ds, a, fun vs H1 s1 h1 => ⟨by rw [dpAll_len h1]; exact Nat.le_of_lt (small1000 b), fun t nt => q t vs _ (s1.trans (same_upd nt)) (new_ne (Same.some s1 c) nt) (s1.free nt) upd_same (dpAll_same (hid_same (same_upd nt)) h1)⟩⟩
end
theorem dqAll_mem {K : PySem.W.Frag} {H : Hp} : ∀ {vs : List V} {ds : List PyData} {v : V}, DpAll K H vs ds → v ∈ vs → ∃ d ∈ ds, Dp K H v d
  | _, _, v, .nil, h => by cases h
  | _, _, v, .cons h hs, m => by
    rcases List.mem_cons.mp m with rfl | m
    · exact ⟨_, List.mem_cons_self .., h⟩
    · obtain ⟨d, hd, q⟩ := dqAll_mem hs m
      exact ⟨d, List.mem_cons_of_mem _ hd, q⟩
theorem dpAll_app {K : PySem.W.Frag} {H : Hp} : ∀ {vs us : List V} {ds es : List PyData}, DpAll K H vs ds → DpAll K H us es → DpAll K H (vs ++ us) (ds ++ es)
  | _, _, _, _, .nil, h => h
  | _, _, _, _, .cons h hs, h2 => .cons h (dpAll_app hs h2)
end Dr
namespace Dr
open PySem PySem.Spec PyProof.Rows L2
def testForms : List Form := [["in", "item", "used"], ["equal", "used", "used"], ["is", "used", "used"]]
def plainForms : List Form := [["new", "assigned", "items"], ["name", "assigned", "used"], ["copy", "assigned", "used"], ["get", "assigned", "owner", "value"], ["set", "owner", "value", "used"], ["add", "used", "items"], ["drop", "used", "items"], ["grow", "owner", "value", "items"], ["shrink", "owner", "value", "items"]]
def branchForms : List Form := [["if", "test", "plain"], ["unless", "test", "plain"]]
def rowForms : List Form := plainForms ++ branchForms
def resultForms : List Form := [["none"], ["box", "used"], ["copy", "used"], ["test", "test"]]
def makingForms : List Form := [["once", "items"], ["early", "kind", "value"]]
theorem test_ok : FmOk ok0 testForms := fmOk_by (by decide +kernel)
theorem plain_ok : FmOk ok0 plainForms := fmOk_by (by decide +kernel)
theorem making_ok : FmOk ok0 makingForms := fmOk_by (by decide +kernel)
def S1 (d : PyData) (z : Str) : Bool := if z = "test" then hasForm S0 d testForms else if z = "plain" then hasForm S0 d plainForms else S0 d z
def okA (_ : Str) : Prop := True
def fmLenB (fs : List Form) : Bool := fs.all fun f => decide (1 ≤ f.length) && f.all fun z => SeqAt.shaped (.str z)
theorem fmAll_by {fs : List Form} (h : fmLenB fs = true) : FmOk okA fs := by
  have q := List.all_eq_true.mp h
  refine ⟨fun f hf => ?_, fun f hf z hz => trivial⟩
  have := q f hf
  rw [Bool.and_eq_true] at this
  exact ⟨of_decide_eq_true this.1, fun z hz => List.all_eq_true.mp this.2 z hz⟩
theorem row_ok : FmOk okA rowForms := fmAll_by (by decide +kernel)
theorem branch_ok : FmOk okA branchForms := fmAll_by (by decide +kernel)
theorem result_ok : FmOk okA resultForms := fmAll_by (by decide +kernel)
/-- a module's name of forms -/
structure FmG (K : PySem.W.Frag) (mg : Str → Option Value) (x : Str) (fs : List Form) : Prop where
  ex : ∃ a, mg x = some (.ref a) ∧ Fms K a fs
section
variable {P : Program} {w : World} {K : PySem.W.Frag} {mg : Str → Option Value} {base : Heap}
theorem ok_sort1 {k : Nat} {f fI fO fN fH : Addr} {fd fdI fdO fdN fdH : FuncData} (F : Fun K "is_of_sort" "is_of_sort" sIsSort f fd) (TT : FmG K mg "TESTS" testForms) (TP : FmG K mg "PLAIN_ROWS" plainForms)
    (GI : FnOk P w K mg base CX0 2 fI fdI ["thing"] (spAsk K isItemsD)) (mI : mg "is_items" = some (.ref fI)) (kI : PySem.W.keepIn K (.ref fI) = true) (bI : Binds K fdI ["thing"] [])
    (GO : FnOk P w K mg base CX0 2 fO fdO ["thing"] (spAsk K isOwnerD)) (mO : mg "is_owner" = some (.ref fO)) (kO : PySem.W.keepIn K (.ref fO) = true) (bO : Binds K fdO ["thing"] [])
    (GN : FnOk P w K mg base CX0 1 fN fdN ["thing"] (spAsk K isNameD)) (mN : mg "is_name" = some (.ref fN)) (kN : PySem.W.keepIn K (.ref fN) = true) (bN : Binds K fdN ["thing"] [])
    (GH : FnOk P w K mg base CX0 k fH fdH ["thing", "forms"] (spHas K S0 ok0)) (mH : mg "has_form" = some (.ref fH)) (kH : PySem.W.keepIn K (.ref fH) = true) (bH : Binds K fdH ["thing", "forms"] []) (hk : 2 ≤ k) :
    FnOk P w K mg base CX0 (k + 1) f fd ["part", "sort"] (spSort K S1 okA) := by
  obtain ⟨aT, mT, fT⟩ := TT.ex
  obtain ⟨aP, mP, fP⟩ := TP.ex
  refine F.ok scIsSort (fun vs H Q E h => ?_) (fun cdv A outer s H vs Q E hr h => ?_)
  · obtain ⟨v, d, z, rfl, _⟩ := h
    rfl
  · obtain ⟨v, d, z, rfl, hd, hok, _, q⟩ := h
    have hr2 : Room 2 _ := hr.mono (by omega)
    refine ⟨_, pss_cons (ps_if (pt_cmpR op_eq (pv 1) pe_str (nomark _)) (pss_one (ps_ret (pe_call GI hr2 (by rfl) mI kI bI .nil pass0 (pa_cons (pv 0) pa_nil)))) pss_nil)
      (pss_cons (ps_if (pt_cmpR op_eq (pv 1) pe_str (nomark _)) (pss_one (ps_ret (pe_call GO hr2 (by rfl) mO kO bO .nil pass0 (pa_cons (pv 0) pa_nil)))) pss_nil)
      (pss_cons (ps_if (pt_cmpR op_eq (pv 1) pe_str (nomark _)) (pss_one (ps_ret (pe_call GH hr (by rfl) mH kH bH .nil pass0 (pa_cons (pv 0) (pa_cons (pe_glob (v := .ref aT) (by rfl) mT rfl) pa_nil))))) pss_nil)
      (pss_cons (ps_if (pt_cmpR op_eq (pv 1) pe_str (nomark _)) (pss_one (ps_ret (pe_call GH hr (by rfl) mH kH bH .nil pass0 (pa_cons (pv 0) (pa_cons (pe_glob (v := .ref aP) (by rfl) mP rfl) pa_nil))))) pss_nil)
      (pss_one (ps_ret (pe_call GN (hr.mono (by omega)) (by rfl) mN kN bN .nil pass0 (pa_cons (pv 0) pa_nil))))))), ?_⟩
    have inj : ∀ {a b : Str}, decide (V.str a = V.str b) = true → a = b := fun h => V.str.inj (of_decide_eq_true h)
    have ninj : ∀ {a b : Str}, ¬ decide (V.str a = V.str b) = true → a ≠ b := fun h e => h (decide_eq_true (by rw [e]))
    refine ⟨_, rfl, rfl, _, rfl, ite2 (fun k => ?_) (fun k => ?_)⟩
    · obtain rfl := inj k
      have e : S1 d "items" = isItemsD d := by
        unfold S1
        rw [if_neg (by decide +kernel), if_neg (by decide +kernel)]
        exact if_pos rfl
      rw [e] at q
      exact ⟨v, rfl, v, d, rfl, hd, hok, q⟩
    · have k1 := ninj k
      refine ⟨_, rfl, rfl, _, rfl, ite2 (fun k => ?_) (fun k => ?_)⟩
      · obtain rfl := inj k
        have e : S1 d "owner" = isOwnerD d := by
          unfold S1
          rw [if_neg (by decide +kernel), if_neg (by decide +kernel)]
          unfold S0
          rw [if_neg (by decide +kernel), if_pos rfl]
        rw [e] at q
        exact ⟨v, rfl, v, d, rfl, hd, hok, q⟩
      · have k2 := ninj k
        refine ⟨_, rfl, rfl, _, rfl, ite2 (fun k => ?_) (fun k => ?_)⟩
        · obtain rfl := inj k
          have e : S1 d "test" = hasForm S0 d testForms := if_pos rfl
          rw [e] at q
          exact ⟨v, rfl, v, d, aT, testForms, rfl, hd, hok, fT, test_ok.toD, q⟩
        · have k3 := ninj k
          refine ⟨_, rfl, rfl, _, rfl, ite2 (fun k => ?_) (fun k => ?_)⟩
          · obtain rfl := inj k
            have e : S1 d "plain" = hasForm S0 d plainForms := by
              unfold S1
              rw [if_neg (by decide +kernel), if_pos rfl]
            rw [e] at q
            exact ⟨v, rfl, v, d, aP, plainForms, rfl, hd, hok, fP, plain_ok.toD, q⟩
          · have k4 := ninj k
            have e : S1 d z = isNameD d := by
              unfold S1 S0
              rw [if_neg k3, if_neg k4, if_neg k1, if_neg k2]
            rw [e] at q
            exact ⟨v, rfl, v, d, rfl, hd, hok, q⟩
end
end Dr
namespace Dr
open PySem PySem.Spec PyProof.Rows L2
/-- what a def does that is called with keywords -/
abbrev SpK := List V → List V → Hp → VK → XK → Prop
def FnK (P : Program) (w : World) (K : PySem.W.Frag) (mg : Str → Option Value) (base : Heap) (CX : CXT) (k : Nat) (f : Addr) (ks : List Str) (sp : SpK) : Prop :=
  ∀ (A : Around) (outer : List Env) (s : Shared) (H : Hp) (us ws : List Value) (vs zs : List V) (Q : VK) (E : XK), Room k A → Env0 P w K mg base A outer s H → Vals vs us → Vals zs ws → zs.length = ks.length → sp vs zs H Q E →
    codeAny (model P w) A (.call (.ref f) ⟨us, ks.zip ws⟩) (CR CX outer P w H s Q E) s
section
variable {P : Program} {w : World} {K : PySem.W.Frag} {mg : Str → Option Value} {base : Heap} {CX : CXT} {k n : Nat} {f : Addr} {fd : FuncData} {ps ks : List Str} {sp : Sp} {spk spk' : SpK} {g : List Value → List Value → List Value} {gV : List V → List V → List V}
theorem FnK.of (F : FnOk P w K mg base CX k f fd ps sp) (hb : KBn K fd ps n ks g gV) : FnK P w K mg base CX k f ks (fun vs zs H Q E => vs.length = n ∧ sp (gV vs zs) H Q E) := fun A outer s H us ws vs zs Q E hr e0 r1 r2 l2 ⟨l1, h⟩ =>
  F.run A outer s H ⟨us, ks.zip ws⟩ (g us ws) _ Q E hr e0 (hb.to s us ws (e0.mod.kin.keeps fun b o e => (e0.bs b o e).1) (r1.length.symm.trans l1) (r2.length.symm.trans l2)) (hb.rel r1 r2) h
theorem FnK.imp (F : FnK P w K mg base CX k f ks spk) (i : ∀ vs zs H Q E, spk' vs zs H Q E → spk vs zs H Q E) : FnK P w K mg base CX k f ks spk' := fun A outer s H us ws vs zs Q E hr e0 r1 r2 l2 h => F A outer s H us ws vs zs Q E hr e0 r1 r2 l2 (i _ _ _ _ _ h)
theorem FnK.mono {j : Nat} (F : FnK P w K mg base CX j f ks spk) (h : j ≤ k) : FnK P w K mg base CX k f ks spk := fun A outer s H us ws vs zs Q E hr => F A outer s H us ws vs zs Q E (hr.mono h)
end
section
variable {CX : CXT} {P : Program} {w : World} {K : PySem.W.Frag} {mg : Str → Option Value} {base : Heap} {k n : Nat} {f : Addr} {name qual : Str} {params : Arguments} {body : List Stmt} {scope : Scope} {dV kV doc pm cdv ct oc : Value} {an od : Option Addr}
  {osl : Array (Option Value)} {N ps ks : List Str} {sp : Sp} {g : {α : Type} → List α → List α → List α}
/-- def f(a, .., *v, k = d, ..) -/
theorem fn_starK {pv : Str} (lk : K.lookup f = some ⟨oc, od, .func (PySem.W.fnOf name qual params body scope dV kV doc pm an cdv ct), osl⟩) (hcd : PySem.W.codeIn K cdv qual = true) (S : FnScope N (ps ++ [pv]) scope) (hCX : StX.CXUp CX)
    (hg : ∀ {α : Type} (xs ys : List α), xs.length = n → ys.length = ks.length → (g xs ys).length = ps.length) (hr0 : ∀ {vs zs : List V} {us ws : List Value}, Vals vs us → Vals zs ws → Vals (g vs zs) (g us ws))
    (hb : ∀ us rest ws : List Value, us.length = n → ws.length = ks.length → ∀ {M : Model} {A : Around} {E : Value → Shared → Prop} {s : Shared} {Q : List (Str × Value) → Shared → Prop}, K.In s.heap → wpAny M A (newTuple rest) (fun t s' => Q (ps.zip (g us ws) ++ [(pv, t)]) s') E s →
      wpAny M A (bindArgs (PySem.W.fnOf name qual params body scope dV kV doc pm an cdv ct) ⟨us ++ rest, ks.zip ws⟩) Q E s)
    (hbody : ∀ (A : Around) (outer : List Env) (s : Shared) (H : Hp) (vs : List V) (Q : VK) (E : XK), Room k (A.deeper (envOfC qual scope s.heap.objs.size f cdv)) → sp vs H Q E →
      ∃ t, PSs (cxOf CX P w K mg base N qual scope f cdv A outer s H E) body t ∧ t { nx := fun _ H' => Q .non H', rt := Q } (start N vs) H) :
    FnK P w K mg base CX (k + 1) f ks (fun vs zs H Q E => ∃ xs rest, vs = xs ++ rest ∧ xs.length = n ∧ rest.length ≤ sizeLine ∧ ∀ p, H p = Option.none → sp (g xs zs ++ [V.ref p]) (upd H p (.tup rest)) Q E) := by
  intro A outer s H us ws vs zs Q E hr e0 r rz lz hsp
  obtain ⟨xs, rest, ev, hl, hz, hq⟩ := hsp
  subst ev
  obtain ⟨u1, u2, eu, r1, r2⟩ := StX.vals_split r
  subst eu
  have hn : H s.heap.objs.size = Option.none := e0.hok.fresh (Nat.le_refl _)
  have hl1 : u1.length = n := by rw [← r1.length]; exact hl
  have hlw : ws.length = ks.length := by rw [← rz.length]; exact lz
  have hl2 : u2.length ≤ sizeLine := by rw [← r2.length]; exact hz
  have KX : K.In s.heap := e0.mod.kin.keeps fun b o e => (e0.bs b o e).1
  refine StX.run_bnd lk hcd S hr e0 (G := fun ys H2 => ∃ p, H p = Option.none ∧ ys = g xs zs ++ [V.ref p] ∧ H2 = upd H p (.tup rest)) (fun A' Ex Q' h => ?_) fun s2 H2 ys ⟨p, hp, ex, eH⟩ hr' => ?_
  · refine hb u1 u2 ws hl1 hlw KX (wpAny_newTuple ?_ hl2)
    have new : ObjOk P w (upd H s.heap.objs.size (.tup rest)) (s.heap.push ({ cls := .type "tuple", data := .seq u2.toArray } : Obj)) s.heap.objs.size (.tup rest) := ⟨hz, u2, r2, ⟨_, Heap.get?_push_size _ rfl, rfl, _, rfl⟩⟩
    have un := StX.un_laid (fs := frs outer) (s := s) (o := ({ cls := .type "tuple", data := .seq u2.toArray } : Obj)) (u := .tup rest) hn
    have z := h _ _ (g xs zs ++ [V.ref s.heap.objs.size]) (g u1 ws ++ [Value.ref s.heap.objs.size]) (StX.env0_laid e0 new) un rfl (fun e s' => hCX outer s H _ _ E e s' un (fun b o q => Heap.get?_push_of_some _ q) rfl) ((hr0 r1 rz).append (.cons rfl .nil))
      (by rw [List.length_append, List.length_append, hg xs zs hl lz] <;> rfl) ⟨_, hn, rfl, rfl⟩
    rw [List.zip_append (hg u1 ws hl1 hlw).symm] at z
    exact z
  · subst ex eH
    exact hbody A outer s2 _ _ Q E hr' (hq p hp)
end
section
variable {M : Model} {A : Around} {E : Value → Shared → Prop} {s : Shared} {K : PySem.W.Frag} {env : Env} {pos : Pos} {f : Value} {first : List Value} {Q : Value → Shared → Prop} {e : Expr} {rest : List Expr} {kws : List Keyword}
theorem ks_callK {P : Heap → Prop} {args : List (Bool × Sem Value)} {keywords : List (Option Str × Sem Value)} (hst : args.any (·.1) = true)
    (hk : ∀ h, P h → ∃ k, (k = Keeper.frame ∨ k = Keeper.machine ∨ k = Keeper.boundFrame) ∧ PySem.W.Looks M h (keeperOf f) k)
    (h : wpAny M A (evalArgs f true args keywords) (fun a s₁ => P s₁.heap ∧ wpAny M A (call f (first ++ a.pos) a.kw) Q E s₁) E s) : wpAny M A (callWith pos f first args keywords) Q E s := by
  unfold callWith
  refine wpAny_bind (wpAny_holding (wpAny_mono h (fun a s₁ h₁ => wpAny_bind (wpAny_standAt ?_)) fun _ _ x => x))
  obtain ⟨k, hk', L⟩ := hk _ h₁.1
  simp only [hst, Bool.true_or]
  refine wpAny_bind (L.here ?_)
  have tail : ∀ {t : Sem Value}, wpAny M A t Q E s₁ → wpAny M A (t >>= fun r => holding [r] point >>= fun _ => pure r) Q E s₁ :=
    fun ht => wpAny_bind (wpAny_mono ht (fun r s₂ hr => wpAny_bind (wpAny_holding (wpAny_point (wpAny_pure hr)))) fun _ _ x => x)
  have marked (mk : Value) : wpAny M A (callMarked mk f (first ++ a.pos) a.kw) Q E s₁ := by unfold callMarked; exact Calls.wpAny_keep h₁.2
  rcases hk' with rfl | rfl | rfl <;> dsimp only <;> first | exact tail (marked _) | exact tail (wpAny_operating h₁.2)
theorem callWith_SKW (hk : PySem.W.keepIn K f = true) (hall : (backToKw pos (keywordEach kws env)).all (·.1.isSome) = true)
    (h : wpAny M A (spliced (backTo pos (starEach (e :: rest) env))) (fun vs s₁ => wpAny M A (evalAll ((backToKw pos (keywordEach kws env)).map (·.2)))
      (fun ks s₂ => K.In s₂.heap ∧ wpAny M A (call f (first ++ vs) (((backToKw pos (keywordEach kws env)).filterMap (·.1)).zip ks)) Q E s₂) E s₁) E s)
    (hst : (backTo pos (starEach (e :: rest) env)).any (·.1) = true) (he : starEach (e :: rest) env = (false, eval e env) :: starEach rest env) :
    wpAny M A (callWith pos f first (backTo pos (starEach (e :: rest) env)) (backToKw pos (keywordEach kws env))) Q E s :=
  ks_callK hst (PySem.W.keeps_K hk) (evalArgs_kw2 hall h he)
theorem callWith_MKW {q g : Addr} {self : Value} (hf : PySem.W.fnIn K g = true) (hall : (backToKw pos (keywordEach kws env)).all (·.1.isSome) = true)
    (h : wpAny M A (spliced (backTo pos (starEach (e :: rest) env))) (fun vs s₁ => wpAny M A (evalAll ((backToKw pos (keywordEach kws env)).map (·.2)))
      (fun ks s₂ => PySem.W.MethP K q g self s₂.heap ∧ wpAny M A (call (.ref q) (first ++ vs) (((backToKw pos (keywordEach kws env)).filterMap (·.1)).zip ks)) Q E s₂) E s₁) E s)
    (hpl : ((backTo pos (starEach (e :: rest) env)).any (·.1) || (backToKw pos (keywordEach kws env)).any (·.1.isNone)) = false) (he : starEach (e :: rest) env = (false, eval e env) :: starEach rest env) :
    wpAny M A (callWith pos (.ref q) first (backTo pos (starEach (e :: rest) env)) (backToKw pos (keywordEach kws env))) Q E s :=
  PySem.W.callWith_of hpl (PySem.W.keeps_M hf) (evalArgs_kw2 hall h he)
end
section
variable {X : Cx} {pins : List (Addr × Obj)} {σ : L2.St} {H : Hp} {s : Shared} {CX : CXT} {k : Nat} {f C g : Addr} {ks : List Str} {sp : SpK} {E : XK} {Q : VK} {us ws : List Value} {vs zs : List V}
theorem run_fnK (F : FnK X.prog X.w X.K X.mg X.base CX k f ks sp) (hr : Room k X.A) (hx : PassesAt CX X σ E) (I : Inv X pins σ H s) (r : Vals vs us) (rz : Vals zs ws) (lz : zs.length = ks.length) (h : sp vs zs H Q E) :
    codeAny (model X.prog X.w) X.A (.call (.ref f) ⟨us, ks.zip ws⟩) (fun r s' => match r with | .ok (.ret v) => EP X pins σ Q v s' | .ok _ => False | .error e => X.xe e s') s := by
  refine codeAny_mono (F X.A X.stack s H us ws vs zs Q E hr I.env0 r rz lz h) fun r s' hq => ?_
  cases r with
  | error e => exact hx pins H s e s' I hq
  | ok fl =>
    cases fl with
    | ret u => exact I.after hq
    | next => exact False.elim hq
    | brk => exact False.elim hq
    | cont => exact False.elim hq
/-- C(..) with keywords, C's __init__ told by FnK -/
theorem run_makeSK (M : Mk X.K C f) (F : FnK X.prog X.w X.K X.mg X.base CX k f ks sp) (hr : Room (k + 1) X.A) (hx : PassesAt CX X σ E) (I : Inv X pins σ H s) (r : Vals vs us) (rz : Vals zs ws) (lz : zs.length = ks.length)
    (h : ∀ x dx, H x = none → H dx = none → dx ≠ x → sp (.ref x :: vs) zs (upd (upd H dx (.own x)) x (.ins C dx [])) (fun v H3 => v = .non ∧ Q (.ref x) H3) E) :
    wpAny (model X.prog X.w) X.A (call (.ref C) us (ks.zip ws)) (EP X pins σ Q) X.xe s := by
  have hq := h (s.heap.objs.size + 1) s.heap.objs.size (I.hok.fresh (Nat.le_succ _)) (I.hok.fresh (Nat.le_refl _)) (Nat.ne_of_lt (Nat.lt_succ_self _))
  have I2 := Inv.made (C := C) I
  refine wpAny_call (make_map (f := f) I.kIn M.makes M.init (beq_iff_eq.mp M.fn) (codeAny_mono (F _ X.stack _ _ (Value.ref (s.heap.objs.size + 1) :: us) ws (V.ref (s.heap.objs.size + 1) :: vs) zs _ E (hr.make C us (ks.zip ws))
    (I2.env0.make C us (ks.zip ws)) (.cons rfl r) rz lz hq) fun r s' hq' => ?_))
  cases r with
  | error e => exact hx pins _ _ e s' I2 hq'
  | ok fl =>
    cases fl with
    | ret u =>
      obtain ⟨v, H', I3, rv, ev, q3⟩ := I2.after hq'
      subst ev
      exact ⟨rv, ⟨V.ref (s.heap.objs.size + 1), H', I3, rfl, q3⟩⟩
    | next => exact False.elim hq'
    | brk => exact False.elim hq'
    | cont => exact False.elim hq'
end
/-- cls(e, *y, k = v, ..): a new instance of the class that a local name holds -/
def tMkSK (C : Addr) (m : Nat) (sp : SpK) (E : L2.St → XK) (tf : TE) (t tk : TA) : TE := fun σ H Q => tf σ H fun y H0 => y = .ref C ∧ t σ H0 fun vs H1 => tk σ H1 fun zs H2 => zs.length = m ∧ ∀ x dx, H2 x = none → H2 dx = none → dx ≠ x →
  sp (.ref x :: vs) zs (upd (upd H2 dx (.own x)) x (.ins C dx [])) (fun v H3 => v = .non ∧ Q (.ref x) H3) (E σ)
/-- C.m(e, .., k = v, ..), C a class of the module, m a classmethod -/
def tCMethK (C : Addr) (m : Nat) (sp : SpK) (E : L2.St → XK) (ta : TE) (t tk : TA) : TE := fun σ H Q => ta σ H fun x H1 => x = .ref C ∧ t σ H1 fun vs H2 => tk σ H2 fun zs H3 => zs.length = m ∧ sp (.ref C :: vs) zs H3 Q (E σ)
section
variable {X : Cx} {CX : CXT} {k : Nat} {f C g p : Addr} {mc : Value} {ks : List Str} {sp : SpK} {E : L2.St → XK} {x m : Str} {np pos apos : Pos} {e o : Expr} {es : List Expr} {kws : List Keyword} {tf ta : TE} {t tk : TA} {pl : Sem Bool}
theorem pe_clsSK (M : Mk X.K C f) (F : FnK X.prog X.w X.K X.mg X.base CX k f ks sp) (hr : Room (k + 1) X.A) (hf : PE X (.Name x np) tf) (hx : ∀ σ, PassesAt CX X σ (E σ)) (ha : PA X (e :: es) t) (hkw : PK X kws tk)
    (hall : (backToKw pos (keywordEach kws X.env)).all (·.1.isSome) = true := by rfl) (hks : (backToKw pos (keywordEach kws X.env)).filterMap (·.1) = ks := by rfl)
    (he : starEach (e :: es) X.env = (false, eval e X.env) :: starEach es X.env := by rfl) (hst : (backTo pos (starEach (e :: es) X.env)).any (·.1) = true := by rfl) :
    PE X (.Call (.Name x np) (e :: es) kws pos) (tMkSK C ks.length sp E tf t tk) := by
  refine ⟨fun pins s σ H Q I h => ?_⟩
  refine wpAny_Call_Name_kw (thn (hf.run pins s σ H _ I h) fun u s0 ⟨y, H0, I0, ry, ey, q0⟩ => ?_)
  subst ey
  obtain rfl : u = Value.ref C := ry
  refine callWith_SKW (K := X.K) M.kp hall (thn (ha.run pos pins s0 σ H0 _ I0 q0) fun us s1 ⟨vs, H1, I1, r, q1⟩ => ?_) hst he
  refine thn (hkw.run pos pins s1 σ H1 _ I1 q1) fun ws s2 ⟨zs, H2, I2, rz, lz, q2⟩ => ⟨I2.kIn, ?_⟩
  rw [hks]
  exact run_makeSK M F hr (hx σ) I2 r rz lz q2
theorem pe_cmethK (he : PE X o ta) (r : ClX.CRead X.K C mc) (c : ClX.CMet X.K C mc m p g) (F : FnK X.prog X.w X.K X.mg X.base CX k g ks sp) (hr : Room k X.A) (hx : ∀ σ, PassesAt CX X σ (E σ)) (ha : PA X (e :: es) t) (hkw : PK X kws tk)
    (hall : (backToKw pos (keywordEach kws X.env)).all (·.1.isSome) = true := by rfl) (hks : (backToKw pos (keywordEach kws X.env)).filterMap (·.1) = ks := by rfl)
    (hst : starEach (e :: es) X.env = (false, eval e X.env) :: starEach es X.env := by rfl) (hpl : ((backTo pos (starEach (e :: es) X.env)).any (·.1) || (backToKw pos (keywordEach kws X.env)).any (·.1.isNone)) = false := by rfl)
    (ht : eval (.Call (.Attribute o m apos) (e :: es) kws pos) X.env = (do
      let ov ← eval o X.env
      standAt apos.atName
      let (f, first) ← holding [ov] (getMethod ov m pl)
      callWith pos f first (backTo pos (starEach (e :: es) X.env)) (backToKw pos (keywordEach kws X.env))) := by rfl) :
    PE X (.Call (.Attribute o m apos) (e :: es) kws pos) (tCMethK C ks.length sp E ta t tk) := by
  refine ⟨fun pins s σ H Q I h => ?_⟩
  refine PySem.W.methodCall_KW (pl := pl) (thn (he.run pins s σ H _ I h) fun u s1 ⟨x, H1, I1, rx, ex, q⟩ => ?_) ht
  subst ex
  obtain rfl : u = Value.ref C := rx
  refine ClX.getmethcm_ok I1 r c fun s2 I2 => ?_
  refine callWith_MKW (K := X.K) (self := .ref C) c.fi hall (thn (ha.run pos _ s2 σ H1 _ I2 q) fun us s3 ⟨vs, H2, I3, rv, q2⟩ => ?_) hpl hst
  refine thn (hkw.run pos _ s3 σ H2 _ I3 q2) fun ws s4 ⟨zs, H3, I4, rz, lz, q3⟩ => ⟨⟨ClX.pin_at I4, I4.kIn⟩, ?_⟩
  rw [hks]
  have z : wpAny (model X.prog X.w) X.A (call (.ref s1.heap.objs.size) us (ks.zip ws)) (EP X ((s1.heap.objs.size, PySem.W.methodObj (.ref g) (.ref C)) :: pins) σ Q) X.xe s4 :=
    wpAny_call (PySem.W.method_call (ClX.pin_at I4) (run_fnK (us := .ref C :: us) (vs := .ref C :: vs) F hr (hx σ) I4 (.cons rfl rv) rz lz q3))
  exact thn z fun _ _ y => ClX.unpinE y
end
end Dr
namespace Dr
open PySem PySem.Spec PyProof.Rows L2
abbrev sAgain : Stmt := topS 15
theorem scAgain : FnScope ["names", "taken", "at", "name"] ["names", "taken"] (defScope sAgain) := ⟨rfl, rfl, rfl, by decide +kernel, rfl, by decide +kernel, by decide +kernel⟩
/-- the name at j is new -/
def NewAt (us zs : List Str) (j : Nat) : Prop := ∀ y, zs[j]? = some y → y ∉ us ∧ y ∉ zs.take j
theorem cut_take (xs : List V) (i : Nat) (hi : i ≤ xs.length) : cutV xs none (some (i : Int)) = xs.take i := by
  unfold cutV
  rw [show HT.sIx xs.length xs.length (some (i : Int)) = min i xs.length from HT.sIx_nat _ _ i, HT.sIx_none]
  rw [List.drop_zero, Nat.min_eq_left hi]
  simp
section
variable {P : Program} {w : World} {K : PySem.W.Frag} {mg : Str → Option Value} {base : Heap}
def spAgain (K : PySem.W.Frag) : Sp := fun vs H Q _ => ∃ (a t : Addr) (zs us : List Str), vs = [.ref a, .ref t] ∧ SqL K H a (zs.map V.str) ∧ (SqL K H t (us.map V.str) ∨ SqT K H t (us.map V.str)) ∧ zs.length ≤ 1000 ∧
  (∀ H', Same H H' → (∀ j, NewAt us zs j) → Q .non H') ∧ ∀ H' i z, Same H H' → zs[i]? = some z → (z ∈ us ∨ z ∈ zs.take i) → (∀ j, j < i → NewAt us zs j) → Q (.str z) H'
theorem Same.seqE {H H' : Hp} {a : Addr} {xs : List V} (s : Same H H') (h : SqL K H a xs ∨ SqT K H a xs) : SqL K H' a xs ∨ SqT K H' a xs := h.imp (fun h => s.seq h) (fun h => Same.seqT s h)
theorem ok_again {f : Addr} {fd : FuncData} (F : Fun K "first_again" "first_again" sAgain f fd) (hen : mg "enumerate" = none) : FnOk P w K mg base CX0 1 f fd ["names", "taken"] (spAgain K) := by
  refine F.ok scAgain (fun vs H Q E h => ?_) (fun cdv A outer s H vs Q E hr h => ?_)
  · obtain ⟨a, t, zs, us, rfl, _⟩ := h
    rfl
  · obtain ⟨a, t, zs, us, rfl, hS, hT, hz, q0, q1⟩ := h
    refine ⟨_, pss_cons (ps_for PassesOwn.never rfl (pi_enum (by rfl) hen (pa_cons (pv 0) pa_nil)) (pg_tup rfl (pgs_cons (pg_name (i := 2) scAgain.nd rfl (.inl rfl)) (pgs_cons (pg_name (i := 3) scAgain.nd rfl (.inl rfl)) pgs_nil)))
        (pss_one (ps_if (PW.pt (pw_or (pt_cmpR op_in_seq (pv 3) (pv 1) rfl) (pw_or1 (pt_cmpR op_in_seq (pv 3) (pe_slice sl_list (pv 0) po_none (po_some (pv 2))) rfl)))) (pss_one (ps_ret (pv 3))) pss_nil)))
      (pss_one (ps_ret pe_non)), ?_⟩
    refine ⟨_, rfl, a, zs.map V.str, rfl, hS, for_it walk_enum (fun i σ H1 => Same H H1 ∧ (∃ x y : Option V, σ = [some (.ref a), some (.ref t), x, y]) ∧ ∀ j, j < i → NewAt us zs j) ⟨Same.refl _, ⟨_, _, rfl⟩, fun j h => absurd h (Nat.not_lt_zero j)⟩ (fun n σ H1 _ h => h.1.seq hS) ?_ ?_⟩
    · rintro n y σ H1 H2 hn ⟨sm, ⟨x5, x6, rfl⟩, hall⟩ ⟨T', x, e, rfl, nT, rfl, e1, e2⟩
      rw [List.length_map] at hn
      obtain rfl := Option.some.inj e1
      have e2 := (show (zs.map V.str)[n]? = some _ from e2)
      rw [List.getElem?_map, List.getElem?_eq_getElem hn] at e2
      obtain rfl := Option.some.inj e2
      have hg : zs[n]? = some zs[n] := List.getElem?_eq_getElem hn
      have sT : Same H1 (upd H1 T' (.tup [.int (n : Int), .str zs[n]])) := same_upd nT
      have s2 := sm.trans sT
      refine ⟨T', _, rfl, .inl (.inl upd_same), rfl, _, _, rfl, _, _, rfl, rfl, ?_⟩
      have fresh : zs[n] ∉ us → zs[n] ∉ zs.take n → ∀ j, j < n + 1 → NewAt us zs j := fun h1 h2 j hj y hy => by
        by_cases e : j < n
        · exact hall j e y hy
        · obtain rfl : j = n := by omega
          rw [hg] at hy
          obtain rfl := Option.some.inj hy
          exact ⟨h1, h2⟩
      refine ⟨_, rfl, _, rfl, t, _, rfl, Same.seqE s2 hT, rfl, flat_strs _, _, rfl, ?_⟩
      rw [show inV (V.str zs[n]) (us.map V.str) = us.contains zs[n] from in_strs _ _]
      refine ite2 (fun k => ?_) (fun k => ?_)
      · exact ⟨_, rfl, q1 _ n _ s2 hg (.inl (by simpa using k)) hall⟩
      · refine ⟨_, rfl, _, rfl, _, rfl, (n : Int), rfl, a, zs.map V.str, rfl, s2.seq hS, fun l nl => ?_⟩
        rw [cut_take _ n (by rw [List.length_map]; omega), ← List.map_take]
        have sl := same_upd (o := .lst ((zs.take n).map V.str)) nl
        refine ⟨l, _, rfl, .inl (SqL.of upd_same), rfl, flat_strs _, _, rfl, ?_⟩
        rw [show inV (V.str zs[n]) ((zs.take n).map V.str) = (zs.take n).contains zs[n] from in_strs _ _]
        refine ite2 (fun k2 => ?_) (fun k2 => ?_)
        · exact ⟨_, rfl, q1 _ n _ (s2.trans sl) hg (.inr (by simpa using k2)) hall⟩
        · exact ⟨s2.trans sl, ⟨_, _, rfl⟩, fresh (by simpa using k) (by simpa using k2)⟩
    · rintro σ H1 ⟨sm, ⟨x5, x6, rfl⟩, hall⟩
      refine q0 _ sm fun j y hy => ?_
      have hj : j < zs.length := (List.getElem?_eq_some_iff.mp hy).1
      exact hall j (by rw [List.length_map]; exact hj) y hy
end
end Dr
namespace Dr
open PySem PySem.Spec PyProof.Rows L2
abbrev sParts : Stmt := topS 28
theorem scParts : FnScope ["thing", "forms", "form", "found", "part", "sort"] ["thing", "forms"] (defScope sParts) := ⟨rfl, rfl, rfl, by decide +kernel, rfl, by decide +kernel, by decide +kernel⟩
/-- pairs of a sort and a part stand at ts -/
def PtsAt (H : Hp) (ts : List Addr) (zs : List Str) (vs : List V) : Prop := ∀ (i : Nat) (t : Addr), ts[i]? = some t → ∃ z v, zs[i]? = some z ∧ vs[i]? = some v ∧ H t = some (.tup [.str z, v])
theorem PtsAt.same {H H' : Hp} {ts : List Addr} {zs : List Str} {vs : List V} (h : PtsAt H ts zs vs) (s : Same H H') : PtsAt H' ts zs vs := fun i t e => by
  obtain ⟨z, v, e1, e2, e3⟩ := h i t e
  exact ⟨z, v, e1, e2, s _ _ e3⟩
theorem PtsAt.nil {H : Hp} {zs : List Str} {vs : List V} : PtsAt H [] zs vs := fun i t e => by simp at e
theorem PtsAt.snoc {H : Hp} {ts : List Addr} {zs : List Str} {vs : List V} {t : Addr} {z : Str} {v : V} {n : Nat} (h : PtsAt H ts zs vs) (hn : ts.length = n) (e1 : zs[n]? = some z) (e2 : vs[n]? = some v) (e3 : H t = some (.tup [.str z, v])) : PtsAt H (ts ++ [t]) zs vs := fun i u e => by
  by_cases hi : i < ts.length
  · rw [List.getElem?_append_left hi] at e
    exact h i u e
  · rw [List.getElem?_append_right (by omega)] at e
    have : i - ts.length = 0 := by
      by_cases h0 : i - ts.length = 0
      · exact h0
      · rw [List.getElem?_eq_none (by show 1 ≤ _; omega)] at e
        cases e
    rw [this] at e
    obtain rfl := Option.some.inj e
    obtain rfl : i = n := by omega
    exact ⟨z, v, e1, e2, e3⟩
theorem PtsAt.grow {H : Hp} {ts : List Addr} {zs : List Str} {vs us ys : List V} {l : Addr} (h : PtsAt H ts zs vs) (hl : H l = some (.lst us)) : PtsAt (upd H l (.lst ys)) ts zs vs := fun i t e => by
  obtain ⟨z, v, e1, e2, e3⟩ := h i t e
  refine ⟨z, v, e1, e2, ?_⟩
  rw [upd_ne (fun z => by rw [z, hl] at e3; cases e3)]
  exact e3
theorem sqT_grow {K : PySem.W.Frag} {H : Hp} {a l : Addr} {xs us ys : List V} (h : SqT K H a xs) (hl : H l = some (.lst us)) : SqT K (upd H l (.lst ys)) a xs := by
  rcases h with (h | ⟨o, h⟩) | h
  · refine .inl (.inl ?_)
    rw [upd_ne (fun z => by rw [z, hl] at h; cases h)]
    exact h
  · refine .inl (.inr ⟨o, ?_⟩)
    rw [upd_ne (fun z => by rw [z, hl] at h; cases h)]
    exact h
  · exact .inr h
theorem same_grow {H H2 : Hp} {l : Addr} {o : HO} (s : Same H H2) (nl : H l = none) : Same H (upd H2 l o) := fun b x e => by
  rw [upd_ne (ne_of_none e nl)]
  exact s _ _ e
theorem two_le : 2 ≤ sizeLine := by decide
section
variable {P : Program} {w : World} {K : PySem.W.Frag} {mg : Str → Option Value} {base : Heap}
def spParts (K : PySem.W.Frag) : Sp := fun vs H Q _ => ∃ (va a : Addr) (xs : List V) (ds : List PyData) (fs : List Form) (fm : Form), vs = [.ref va, .ref a] ∧ SqT K H va xs ∧ DpAll K H xs ds ∧ OkD (.tuple ds) ∧ Fms K a fs ∧ (∀ f ∈ fs, 1 ≤ f.length ∧ ∀ z ∈ f, SeqAt.shaped (.str z) = true) ∧ formOf (.tuple ds) fs = some fm ∧ (∀ z ∈ fm.drop 1, ok0 z) ∧
  ∀ H' l ts, Same H H' → H l = none → H' l = some (.lst (ts.map V.ref)) → ts.length = min (xs.drop 1).length (fm.drop 1).length → PtsAt H' ts (fm.drop 1) (xs.drop 1) → Q (.ref l) H'
theorem ok_parts {f fF : Addr} {fd fdF : FuncData} (F : Fun K "parts_of" "parts_of" sParts f fd) (T : Wds K mg)
    (GF : FnOk P w K mg base CX0 1 fF fdF ["thing", "forms"] (spFormOf K)) (mF : mg "form_of" = some (.ref fF)) (kF : PySem.W.keepIn K (.ref fF) = true) (bF : Binds K fdF ["thing", "forms"] []) :
    FnOk P w K mg base CX0 2 f fd ["thing", "forms"] (spParts K) := by
  refine F.ok scParts (fun vs H Q E h => ?_) (fun cdv A outer s H vs Q E hr h => ?_)
  · obtain ⟨va, a, xs, ds, fs, fm, rfl, _⟩ := h
    rfl
  · obtain ⟨va, a, xs, ds, fs, fm, rfl, hS, hD, hok, hF, hlen, hfm, hok0, q⟩ := h
    refine ⟨_, pss_cons (ps_set (i := 2) scParts.nd rfl (.inl rfl) (pe_call GF hr (by rfl) mF kF bF .nil pass0 (pa_cons (pv 0) (pa_cons (pv 1) pa_nil))))
      (pss_cons (ps_set (i := 3) scParts.nd rfl (.inl rfl) (pe_lst pa_nil))
      (pss_cons (ps_for PassesOwn.never rfl (RZ.pi_zipA (by rfl) T.zip (pa_cons (pe_slice sl_tail (pv 0) (po_some pe_int) po_none) (pa_cons (pe_slice sl_tail (pv 2) (po_some pe_int) po_none) pa_nil)))
          (pg_tup rfl (pgs_cons (pg_name (i := 4) scParts.nd rfl (.inl rfl)) (pgs_cons (pg_name (i := 5) scParts.nd rfl (.inl rfl)) pgs_nil)))
        (pss_one (ps_if (pt_cmpR op_eq (pv 5) pe_str (nomark _)) (pss_one ps_never) (pss_one (ps_if (pt_cmpR op_eq (pv 5) pe_str (nomark _)) (pss_one ps_never)
          (pss_one (ps_expr (pe_bm PySem.F.plainAttrs_list PySem.F.slot_list_append PySem.F.type_list_append mt_append (pv 3) (pa_cons (pe_tup (pa_cons (pv 5) (pa_cons (pv 4) pa_nil))) pa_nil)))))))))
      (pss_one (ps_ret (pv 3))))), ?_⟩
    refine ⟨_, rfl, _, rfl, .ref va, .tuple ds, a, fs, rfl, .tup hS hD, hok, hF, hlen, fun hn => absurd (hfm.symm.trans hn) (by simp), fun fm' b hmem hf hat => ?_⟩
    rw [hfm] at hf
    obtain rfl := Option.some.inj hf
    obtain ⟨hlen1, hoks⟩ := hok.tup
    have hxl := dpAll_len hD
    refine ⟨Nat.zero_le _, fun l nl => ?_⟩
    have sl := same_upd (o := .lst []) nl
    refine ⟨_, rfl, 1, rfl, rfl, rfl, va, xs, rfl, Same.seqT sl hS, fun b1 H1 s1 hb1 => ?_⟩
    refine ⟨_, rfl, 1, rfl, rfl, rfl, b, _, rfl, hat _, fun b2 H2 s2 hb2 => ?_⟩
    rw [← List.map_drop] at hb2
    have hb1' := Same.seqT s2 hb1
    have s12 := (sl.trans s1).trans s2
    have hl2 : H2 l = some (.lst []) := s2 _ _ (s1 _ _ upd_same)
    refine ⟨b1, b2, xs.drop 1, (fm.drop 1).map V.str, rfl, .inr ⟨hb1', hb2, ?_⟩⟩
    refine for_it (walk_zipT rfl) (fun i σ H3 => Same H H3 ∧ (∃ x y, σ = [some (.ref va), some (.ref a), some (.ref b), some (.ref l), x, y]) ∧ SqT K H3 b1 (xs.drop 1) ∧ SqT K H3 b2 ((fm.drop 1).map V.str) ∧ ∃ ts, H3 l = some (.lst (ts.map V.ref)) ∧ ts.length = i ∧ PtsAt H3 ts (fm.drop 1) (xs.drop 1)) ⟨s12, ⟨_, _, rfl⟩, hb1', hb2, [], hl2, rfl, PtsAt.nil⟩ (fun _ _ _ _ h => ⟨h.2.2.1, h.2.2.2.1⟩) ?_ ?_
    · rintro i y σ H3 H4 hi ⟨sm, ⟨x5, x6, rfl⟩, hB1, hB2, ts, hl, hts, hp⟩ ⟨T', x, u, rfl, nT, rfl, e1, e2⟩
      have e1 := (show (xs.drop 1)[i]? = some x from e1)
      have e2 := (show ((fm.drop 1).map V.str)[i]? = some u from e2)
      rw [List.getElem?_map] at e2
      cases hz : (fm.drop 1)[i]? with
      | none =>
        rw [hz] at e2
        cases e2
      | some z =>
        rw [hz] at e2
        obtain rfl := Option.some.inj e2
        have hok := hok0 z (List.mem_of_getElem? hz)
        have sT : Same H3 (upd H3 T' (.tup [x, .str z])) := same_upd nT
        have inj : ∀ {a b : Str}, decide (V.str a = V.str b) = true → a = b := fun h => V.str.inj (of_decide_eq_true h)
        refine ⟨T', _, rfl, .inl (.inl upd_same), rfl, _, _, rfl, _, _, rfl, rfl, ?_⟩
        refine ⟨_, rfl, rfl, _, rfl, ite2 (fun k => absurd (inj k) hok.1) (fun _ => ?_)⟩
        refine ⟨_, rfl, rfl, _, rfl, ite2 (fun k => absurd (inj k) hok.2) (fun _ => ?_)⟩
        have hlT := sT _ _ hl
        have hi2 : i < (xs.drop 1).length := (List.getElem?_eq_some_iff.mp e1).1
        refine ⟨_, rfl, .inl ⟨rfl, _, SqL.of hlT⟩, _, rfl, _, rfl, two_le, fun t nt => ?_⟩
        have st := same_upd (o := .tup [.str z, x]) nt
        have tl : t ≠ l := fun e => by
          rw [e, hlT] at nt
          cases nt
        refine ⟨l, _, _, rfl, rfl, st _ _ hlT, ?_, ?_⟩
        · rw [List.length_map, hts]
          rw [List.length_drop] at hi2
          exact small1000 (by omega)
        · refine ⟨same_grow ((sm.trans sT).trans st) nl, ⟨_, _, rfl⟩, sqT_grow (Same.seqT st (Same.seqT sT hB1)) (st _ _ hlT), sqT_grow (Same.seqT st (Same.seqT sT hB2)) (st _ _ hlT), ts ++ [t], ?_, by rw [List.length_append, hts]; rfl, ?_⟩
          · rw [upd_same, List.map_append]
            rfl
          · refine PtsAt.snoc (((hp.same sT).same st).grow (st _ _ hlT)) hts hz e1 ?_
            rw [upd_ne tl]
            exact upd_same
    · rintro σ H3 ⟨sm, ⟨x5, x6, rfl⟩, hB1, hB2, ts, hl, hts, hp⟩
      refine ⟨_, rfl, q _ l ts sm nl hl ?_ hp⟩
      rw [hts]
      simp
end
end Dr
namespace Dr
open PySem PySem.Spec PyProof.Rows L2
abbrev sUses : Stmt := topS 31
theorem scUses : FnScope ["parts", "usable", "sort", "part"] ["parts", "usable"] (defScope sUses) := ⟨rfl, rfl, rfl, by decide +kernel, rfl, by decide +kernel, by decide +kernel⟩
def usedsB (us : List Str) : List Str → List V → List Bool
  | z :: zs, v :: vs => if z = "used" then inV v (us.map V.str) :: usedsB us zs vs else usedsB us zs vs
  | _, _ => []
theorem usedsB_app (us : List Str) (z : Str) (v : V) : ∀ (zs : List Str) (vs : List V), zs.length = vs.length → usedsB us (zs ++ [z]) (vs ++ [v]) = usedsB us zs vs ++ (if z = "used" then [inV v (us.map V.str)] else [])
  | [], [], _ => by
    show (if z = "used" then inV v (us.map V.str) :: [] else []) = _
    split <;> rfl
  | x :: zs, y :: vs, h => by
    have ih := usedsB_app us z v zs vs (by simpa using h)
    show (if x = "used" then _ :: usedsB us (zs ++ [z]) (vs ++ [v]) else usedsB us (zs ++ [z]) (vs ++ [v])) = (if x = "used" then inV y (us.map V.str) :: usedsB us zs vs else usedsB us zs vs) ++ _
    rw [ih]
    split <;> simp
  | [], _ :: _, h => by simp at h
  | _ :: _, [], h => by simp at h
theorem usedsB_take {us zs : List Str} {vs : List V} {i : Nat} {z : Str} {v : V} (h1 : zs[i]? = some z) (h2 : vs[i]? = some v) : usedsB us (zs.take (i + 1)) (vs.take (i + 1)) = usedsB us (zs.take i) (vs.take i) ++ (if z = "used" then [inV v (us.map V.str)] else []) := by
  have l1 := (List.getElem?_eq_some_iff.mp h1).1
  have l2 := (List.getElem?_eq_some_iff.mp h2).1
  rw [List.take_add_one, h1, List.take_add_one, h2]
  exact usedsB_app us z v _ _ (by rw [List.length_take, List.length_take]; omega)
theorem usedsB_len (us : List Str) : ∀ (zs : List Str) (vs : List V), (usedsB us zs vs).length ≤ zs.length
  | [], _ => Nat.zero_le _
  | _ :: _, [] => Nat.zero_le _
  | z :: zs, v :: vs => by
    have ih := usedsB_len us zs vs
    show (if z = "used" then inV v (us.map V.str) :: usedsB us zs vs else usedsB us zs vs).length ≤ _
    split
    · rw [List.length_cons, List.length_cons]
      omega
    · rw [List.length_cons]
      omega
def usesB (us zs : List Str) (vs : List V) : Bool := (usedsB us zs vs).all id
section
variable {P : Program} {w : World} {K : PySem.W.Frag} {mg : Str → Option Value} {base : Heap}
def spUses (K : PySem.W.Frag) : Sp := fun vs H Q _ => ∃ (a u : Addr) (ts : List Addr) (zs us : List Str) (ps : List V), vs = [.ref a, .ref u] ∧ SqL K H a (ts.map V.ref) ∧ SqL K H u (us.map V.str) ∧ PtsAt H ts zs ps ∧ ts.length = zs.length ∧ ts.length = ps.length ∧ ts.length ≤ 1000 ∧ (∀ (i : Nat) (v : V), zs[i]? = some "used" → ps[i]? = some v → flatV v = true) ∧ ∀ H', Same H H' → Q (.bl (usesB us zs ps)) H'
theorem ok_uses {f : Addr} {fd : FuncData} (F : Fun K "uses_only" "uses_only" sUses f fd) (T : Wds K mg) : FnOk P w K mg base CX0 1 f fd ["parts", "usable"] (spUses K) := by
  refine F.ok scUses (fun vs H Q E h => ?_) (fun cdv A outer s H vs Q E hr h => ?_)
  · obtain ⟨a, u, ts, zs, us, ps, rfl, _⟩ := h
    rfl
  · obtain ⟨a, u, ts, zs, us, ps, rfl, hS, hU, hP, l1, l2, l3, hfl, q⟩ := h
    refine ⟨_, pss_one (ps_ret (pe_callB (cr_all rfl) (by rfl) T.all (by decide +kernel) (pa_cons
          (pe_lc (own := [("sort", 2), ("part", 3)]) (g := gTup K 2 (gCons (gName 2) (gCons (gName 3) gNil))) rfl scUses.nd (pi_list (pv 0))
            (blkOk_by (N := ["parts", "usable", "sort", "part"]) (sc := defScope sUses) (by decide +kernel)) (fun _ _ _ _ _ => pg_tup rfl (pgs_cons (pg_name (i := 2) scUses.nd rfl (Or.inl rfl)) (pgs_cons (pg_name (i := 3) scUses.nd rfl (Or.inl rfl)) pgs_nil))) (fun _ _ _ _ _ => pts_one (pt_cmpR op_eq (pv 2) pe_str (nomark _)))
            (fun _ _ _ _ _ => pe_cmpR (show OpR _ _ (rIn K false) from op_in_seq) (pv 3) (pv 1) rfl)) pa_nil))), ?_⟩
    refine ⟨_, rfl, a, rfl, ⟨_, hS⟩, fun D hD => ?_⟩
    refine lc_it walk_list (fun i H3 => Same H H3 ∧ H3 D = some (.lst ((usedsB us (zs.take i) (ps.take i)).map V.bl))) ⟨same_upd hD, upd_same⟩ (fun _ _ _ h => h.1.seq hS) ?_ ?_
    · rintro i y H3 H4 hi ⟨sm, hl⟩ ⟨rfl, e1⟩
      rw [List.getElem?_map] at e1
      cases ht : ts[i]? with
      | none =>
        rw [ht] at e1
        cases e1
      | some t =>
        rw [ht] at e1
        obtain rfl := Option.some.inj e1
        obtain ⟨z, v, hz, hv, hT⟩ := hP i t ht
        refine ⟨t, _, rfl, SqT.of (sm _ _ hT), rfl, _, _, rfl, _, _, rfl, rfl, rfl, ?_⟩
        have hi' : i < ts.length := (List.getElem?_eq_some_iff.mp ht).1
        refine ⟨_, rfl, rfl, _, rfl, ?_⟩
        by_cases hu : z = "used"
        · subst hu
          rw [decide_eq_true rfl]
          refine iteT ?_
          refine ⟨_, rfl, _, rfl, u, _, rfl, .inl (sm.seq hU), hfl i v hz hv, flat_strs _, ?_⟩
          refine ⟨_, hl, ?_, same_grow sm hD, ?_⟩
          · rw [List.length_map]
            have := usedsB_len us (zs.take i) (ps.take i)
            rw [List.length_take] at this
            exact small1000 (by omega)
          · rw [upd_same, usedsB_take hz hv, if_pos rfl, List.map_append]
            rfl
        · rw [decide_eq_false (fun e => hu (V.str.inj e))]
          refine iteF ⟨sm, ?_⟩
          rw [hl, usedsB_take hz hv, if_neg hu, List.append_nil]
    · rintro H3 ⟨sm, hl⟩
      rw [List.length_map, l1, List.take_length, ← l1, l2, List.take_length] at hl
      exact ⟨D, _, rfl, .inl (.inl hl), q _ sm⟩
end
end Dr
namespace Dr
open PySem PySem.Spec PyProof.Rows L2
abbrev Part := Str × PyData
/-- the parts behind the word, of a form without test and plain -/
def parts0 (d : PyData) (fs : List Form) : List Part := match formOf d fs with
  | none => []
  | some f => (f.drop 1).zip (tailD d)
def inner (p : Part) : List Part := if p.1 = "test" then parts0 p.2 testForms else if p.1 = "plain" then parts0 p.2 plainForms else [p]
/-- the parts of something with one of these forms -/
def partsD (d : PyData) (fs : List Form) : List Part := (parts0 d fs).flatMap inner
theorem formOf_fits {d : PyData} {fs : List Form} {f : Form} (h : formOf d fs = some f) : fits d f = true ∧ f ∈ fs := by
  unfold formOf at h
  exact ⟨List.find?_some h, List.mem_of_find?_eq_some h⟩
theorem fits_tup {d : PyData} {f : Form} (h : fits d f = true) : ∃ ds, d = .tuple ds ∧ ds.length = f.length ∧ 1 ≤ f.length := by
  cases d with
  | tuple ds =>
    cases ds with
    | nil => cases h
    | cons x r =>
      cases f with
      | nil => cases h
      | cons w q =>
        have h : ((r.length == q.length) && PyData.eqv x (.str w)) = true := h
        rw [Bool.and_eq_true] at h
        have e : r.length = q.length := by simpa using h.1
        exact ⟨_, rfl, by rw [List.length_cons, List.length_cons, e], by rw [List.length_cons]; omega⟩
  | _ => cases h
theorem zip_fst {α β : Type} {xs : List α} {ys : List β} (h : xs.length = ys.length) : (xs.zip ys).map Prod.fst = xs := List.map_fst_zip (by omega)
theorem zip_snd {α β : Type} {xs : List α} {ys : List β} (h : xs.length = ys.length) : (xs.zip ys).map Prod.snd = ys := List.map_snd_zip (by omega)
theorem parts0_maps {ds : List PyData} {fs : List Form} {f : Form} (h : formOf (.tuple ds) fs = some f) : (parts0 (.tuple ds) fs).map Prod.fst = f.drop 1 ∧ (parts0 (.tuple ds) fs).map Prod.snd = ds.drop 1 ∧ (f.drop 1).length = (ds.drop 1).length := by
  obtain ⟨e1, _⟩ := formOf_fits h
  obtain ⟨ds', e2, e3, _⟩ := fits_tup e1
  obtain rfl := PyData.tuple.inj e2
  have hl : (f.drop 1).length = (ds.drop 1).length := by
    rw [List.length_drop, List.length_drop, e3]
  unfold parts0
  rw [h]
  exact ⟨zip_fst hl, zip_snd hl, hl⟩
theorem PtsAt.app {H : Hp} {ts ts2 : List Addr} {zs zs2 : List Str} {vs vs2 : List V} (h : PtsAt H ts zs vs) (h2 : PtsAt H ts2 zs2 vs2) (l1 : ts.length = zs.length) (l2 : ts.length = vs.length) : PtsAt H (ts ++ ts2) (zs ++ zs2) (vs ++ vs2) := fun i t e => by
  by_cases hi : i < ts.length
  · rw [List.getElem?_append_left hi] at e
    obtain ⟨z, v, a, b, c⟩ := h i t e
    exact ⟨z, v, by rw [List.getElem?_append_left (by omega)]; exact a, by rw [List.getElem?_append_left (by omega)]; exact b, c⟩
  · rw [List.getElem?_append_right (by omega)] at e
    obtain ⟨z, v, a, b, c⟩ := h2 _ t e
    exact ⟨z, v, by rw [List.getElem?_append_right (by omega), ← l1]; exact a, by rw [List.getElem?_append_right (by omega), ← l2]; exact b, c⟩
theorem sorted2_all {S : PyData → Str → Bool} {ds : List PyData} {zs : List Str} {i : Nat} {d : PyData} {z : Str} (h : (sorted2 S ds zs).all id = true) (e1 : ds[i]? = some d) (e2 : zs[i]? = some z) : S d z = true := by
  rw [List.all_eq_true] at h
  exact h _ (List.mem_of_getElem? (sorted2_get e1 e2))
theorem hasForm_some {S : PyData → Str → Bool} {d : PyData} {fs : List Form} (h : hasForm S d fs = true) : ∃ f, formOf d fs = some f ∧ (sorted2 S (tailD d) (f.drop 1)).all id = true := by
  unfold hasForm at h
  cases e : formOf d fs with
  | none =>
    rw [e] at h
    cases h
  | some f =>
    rw [e] at h
    exact ⟨f, rfl, h⟩
def shortB (fs : List Form) : Bool := fs.all fun f => decide (f.length ≤ 5)
theorem parts0_len {d : PyData} {fs : List Form} (h : shortB fs = true) : (parts0 d fs).length ≤ 4 := by
  unfold parts0
  cases e : formOf d fs with
  | none => exact Nat.zero_le _
  | some f =>
    have := List.all_eq_true.mp h f (formOf_fits e).2
    have := of_decide_eq_true this
    show ((f.drop 1).zip (tailD d)).length ≤ 4
    rw [List.length_zip, List.length_drop]
    omega
theorem inner_len (p : Part) : (inner p).length ≤ 4 := by
  unfold inner
  split
  · exact parts0_len (by decide +kernel)
  · split
    · exact parts0_len (by decide +kernel)
    · exact (by show 1 ≤ 4; decide)
theorem flat_len {f : Part → List Part} (h : ∀ p, (f p).length ≤ 4) : ∀ ps : List Part, (ps.flatMap f).length ≤ 4 * ps.length
  | [] => Nat.zero_le _
  | p :: r => by
    have ih := flat_len h r
    have := h p
    rw [List.flatMap_cons, List.length_append, List.length_cons]
    omega
theorem partsD_len {d : PyData} {fs : List Form} (h : shortB fs = true) : (partsD d fs).length ≤ 16 := by
  have h1 := flat_len inner_len (parts0 d fs)
  have h2 := parts0_len (d := d) h
  unfold partsD
  omega
theorem flat_next {ps : List Part} {i : Nat} {p : Part} (h : ps[i]? = some p) : (ps.take (i + 1)).flatMap inner = (ps.take i).flatMap inner ++ inner p := by
  rw [List.take_add_one, h, List.flatMap_append]
  show _ ++ List.flatMap inner [p] = _
  rw [List.flatMap_cons, List.flatMap_nil, List.append_nil]
section
variable {P : Program} {w : World} {K : PySem.W.Frag} {mg : Str → Option Value} {base : Heap}
/-- the parts ps stand in the list at l, their values vs -/
structure PtD (K : PySem.W.Frag) (H H' : Hp) (l : Addr) (ps : List Part) (vs : List V) : Prop where
  ex : ∃ ts : List Addr, H' l = some (.lst (ts.map V.ref)) ∧ ts.length = ps.length ∧ PtsAt H' ts (ps.map Prod.fst) vs
  dp : DpAll K H vs (ps.map Prod.snd)
def spPartsG (K : PySem.W.Frag) : Sp := fun vs H Q _ => ∃ (va a : Addr) (xs : List V) (ds : List PyData) (fs : List Form), vs = [.ref va, .ref a] ∧ SqT K H va xs ∧ DpAll K H xs ds ∧ OkD (.tuple ds) ∧ Fms K a fs ∧ (∀ f ∈ fs, 1 ≤ f.length ∧ ∀ z ∈ f, SeqAt.shaped (.str z) = true) ∧ shortB fs = true ∧ hasForm S1 (.tuple ds) fs = true ∧
  ∀ H' l ys, Same H H' → H l = none → PtD K H H' l (partsD (.tuple ds) fs) ys → Q (.ref l) H'
theorem ok_partsG {f fF : Addr} {fd fdF : FuncData} (F : Fun K "parts_of" "parts_of" sParts f fd) (T : Wds K mg) (TT : FmG K mg "TESTS" testForms) (TP : FmG K mg "PLAIN_ROWS" plainForms)
    (GF : FnOk P w K mg base CX0 1 fF fdF ["thing", "forms"] (spFormOf K)) (mF : mg "form_of" = some (.ref fF)) (kF : PySem.W.keepIn K (.ref fF) = true) (bF : Binds K fdF ["thing", "forms"] [])
    {fP : Addr} {fdP : FuncData} (GP : FnOk P w K mg base CX0 2 fP fdP ["thing", "forms"] (spParts K)) (mP : mg "parts_of" = some (.ref fP)) (kP : PySem.W.keepIn K (.ref fP) = true) (bP : Binds K fdP ["thing", "forms"] []) :
    FnOk P w K mg base CX0 3 f fd ["thing", "forms"] (spPartsG K) := by
  obtain ⟨aT, mT, fT⟩ := TT.ex
  obtain ⟨aP, mPl, fPl⟩ := TP.ex
  refine F.ok scParts (fun vs H Q E h => ?_) (fun cdv A outer s H vs Q E hr h => ?_)
  · obtain ⟨va, a, xs, ds, fs, rfl, _⟩ := h
    rfl
  · obtain ⟨va, a, xs, ds, fs, rfl, hS, hD, hok, hF, hlen, hsh, hhas, q⟩ := h
    obtain ⟨fm, hfm, hall⟩ := hasForm_some hhas
    have hall : (sorted2 S1 (ds.drop 1) (fm.drop 1)).all id = true := hall
    obtain ⟨em1, em2, eml⟩ := parts0_maps hfm
    have hr1 : Room 1 _ := hr.mono (by decide)
    have hr2 : Room 2 _ := hr.mono (by decide)
    refine ⟨_, pss_cons (ps_set (i := 2) scParts.nd rfl (.inl rfl) (pe_call GF hr1 (by rfl) mF kF bF .nil pass0 (pa_cons (pv 0) (pa_cons (pv 1) pa_nil))))
      (pss_cons (ps_set (i := 3) scParts.nd rfl (.inl rfl) (pe_lst pa_nil))
      (pss_cons (ps_for PassesOwn.never rfl (RZ.pi_zipA (by rfl) T.zip (pa_cons (pe_slice sl_tail (pv 0) (po_some pe_int) po_none) (pa_cons (pe_slice sl_tail (pv 2) (po_some pe_int) po_none) pa_nil)))
          (pg_tup rfl (pgs_cons (pg_name (i := 4) scParts.nd rfl (.inl rfl)) (pgs_cons (pg_name (i := 5) scParts.nd rfl (.inl rfl)) pgs_nil)))
        (pss_one (ps_if (pt_cmpR op_eq (pv 5) pe_str (nomark _))
            (pss_one (ps_expr (pe_bm PySem.F.plainAttrs_list PySem.F.slot_list_extend PySem.F.type_list_extend mt_extend (pv 3) (pa_cons (pe_call GP hr2 (by rfl) mP kP bP .nil pass0 (pa_cons (pv 4) (pa_cons (pe_glob (v := .ref aT) (by rfl) mT rfl) pa_nil))) pa_nil))))
          (pss_one (ps_if (pt_cmpR op_eq (pv 5) pe_str (nomark _))
            (pss_one (ps_expr (pe_bm PySem.F.plainAttrs_list PySem.F.slot_list_extend PySem.F.type_list_extend mt_extend (pv 3) (pa_cons (pe_call GP hr2 (by rfl) mP kP bP .nil pass0 (pa_cons (pv 4) (pa_cons (pe_glob (v := .ref aP) (by rfl) mPl rfl) pa_nil))) pa_nil))))
          (pss_one (ps_expr (pe_bm PySem.F.plainAttrs_list PySem.F.slot_list_append PySem.F.type_list_append mt_append (pv 3) (pa_cons (pe_tup (pa_cons (pv 5) (pa_cons (pv 4) pa_nil))) pa_nil)))))))))
      (pss_one (ps_ret (pv 3))))), ?_⟩
    refine ⟨_, rfl, _, rfl, .ref va, .tuple ds, a, fs, rfl, .tup hS hD, hok, hF, hlen, fun hn => absurd (hfm.symm.trans hn) (by simp), fun fm' b hmem hf hat => ?_⟩
    rw [hfm] at hf
    obtain rfl := Option.some.inj hf
    obtain ⟨hlen1, hoks⟩ := hok.tup
    have hxl := dpAll_len hD
    refine ⟨Nat.zero_le _, fun l nl => ?_⟩
    have sl := same_upd (o := .lst []) nl
    refine ⟨_, rfl, 1, rfl, rfl, rfl, va, xs, rfl, Same.seqT sl hS, fun b1 H1 s1 hb1 => ?_⟩
    refine ⟨_, rfl, 1, rfl, rfl, rfl, b, _, rfl, hat _, fun b2 H2 s2 hb2 => ?_⟩
    rw [← List.map_drop] at hb2
    have hb1' := Same.seqT s2 hb1
    have s12 := (sl.trans s1).trans s2
    have hl2 : H2 l = some (.lst []) := s2 _ _ (s1 _ _ upd_same)
    have hD1 := dpAll_drop1 hD
    refine ⟨b1, b2, xs.drop 1, (fm.drop 1).map V.str, rfl, .inr ⟨hb1', hb2, ?_⟩⟩
    refine for_it (walk_zipT rfl) (fun i σ H3 => Same H H3 ∧ (∃ x y, σ = [some (.ref va), some (.ref a), some (.ref b), some (.ref l), x, y]) ∧ SqT K H3 b1 (xs.drop 1) ∧ SqT K H3 b2 ((fm.drop 1).map V.str) ∧ ∃ vs, PtD K H H3 l (((parts0 (.tuple ds) fs).take i).flatMap inner) vs) ⟨s12, ⟨_, _, rfl⟩, hb1', hb2, [], ⟨[], hl2, rfl, PtsAt.nil⟩, .nil⟩ (fun _ _ _ _ h => ⟨h.2.2.1, h.2.2.2.1⟩) ?_ ?_
    · rintro i y σ H3 H4 hi ⟨sm, ⟨x5, x6, rfl⟩, hB1, hB2, vs, ⟨ts, hl, hts, hp⟩, hdv⟩ ⟨T', x, u, rfl, nT, rfl, e1, e2⟩
      have e1 := (show (xs.drop 1)[i]? = some x from e1)
      have e2 := (show ((fm.drop 1).map V.str)[i]? = some u from e2)
      rw [List.getElem?_map] at e2
      cases hz : (fm.drop 1)[i]? with
      | none =>
        rw [hz] at e2
        cases e2
      | some z =>
        rw [hz] at e2
        obtain rfl := Option.some.inj e2
        obtain ⟨d, hd, hdx⟩ := dpAll_get hD1 e1
        have hS1 := sorted2_all hall hd hz
        have hpi : (parts0 (.tuple ds) fs)[i]? = some (z, d) := by
          have e : parts0 (.tuple ds) fs = (fm.drop 1).zip (ds.drop 1) := by
            unfold parts0
            rw [hfm]
            rfl
          rw [e, List.getElem?_zip_eq_some]
          exact ⟨hz, hd⟩
        have hvl : vs.length = ts.length := by
          rw [dpAll_len hdv, List.length_map, hts]
        have hil : i < 4 := by
          have h1 := parts0_len (d := .tuple ds) hsh
          have h2 := (List.getElem?_eq_some_iff.mp hpi).1
          omega
        have htl : ts.length ≤ 16 := by
          have h1 := flat_len inner_len ((parts0 (.tuple ds) fs).take i)
          rw [List.length_take] at h1
          omega
        have sT : Same H3 (upd H3 T' (.tup [x, .str z])) := same_upd nT
        have hlT := sT _ _ hl
        have smT := sm.trans sT
        have inj : ∀ {a b : Str}, decide (V.str a = V.str b) = true → a = b := fun h => V.str.inj (of_decide_eq_true h)
        have ninj : ∀ {a b : Str}, ¬ decide (V.str a = V.str b) = true → a ≠ b := fun h e => h (decide_eq_true (by rw [e]))
        have hokx : ∀ ds', d = .tuple ds' → OkD (.tuple ds') := fun ds' e => by
          have := hok.tup.2 d (List.mem_of_mem_drop (List.mem_of_getElem? hd))
          rw [e] at this
          exact this
        -- both calls of itself alike
        have key : ∀ (fs2 : List Form) (a2 : Addr), Fms K a2 fs2 → (∀ f ∈ fs2, 1 ≤ f.length ∧ ∀ z ∈ f, SeqAt.shaped (.str z) = true) → FmOk ok0 fs2 → shortB fs2 = true → hasForm S0 d fs2 = true → inner (z, d) = parts0 d fs2 →
            ∀ (Q' : VK) (E' : XK), (∀ l2 ts2 H5, H5 l2 = some (.lst ts2) → ts.length + ts2.length ≤ sizeLine → H5 l = some (.lst (ts.map V.ref)) → (Same H (upd H5 l (.lst (ts.map V.ref ++ ts2))) ∧ (∃ e1 e2, [some (V.ref va), some (.ref a), some (.ref b), some (.ref l), some x, some (.str z)] = [some (V.ref va), some (.ref a), some (.ref b), some (.ref l), e1, e2]) ∧ SqT K (upd H5 l (.lst (ts.map V.ref ++ ts2))) b1 (xs.drop 1) ∧ SqT K (upd H5 l (.lst (ts.map V.ref ++ ts2))) b2 ((fm.drop 1).map V.str) ∧ ∃ vs, PtD K H (upd H5 l (.lst (ts.map V.ref ++ ts2))) l (((parts0 (.tuple ds) fs).take (i + 1)).flatMap inner) vs) → Q' (.ref l2) H5) → spParts K [x, .ref a2] (upd H3 T' (.tup [x, .str z])) Q' E' := by
          intro fs2 a2 hF2 hl2 hok2 hsh2 hh2 hin Q' E' q'
          obtain ⟨fm2, hfm2, _⟩ := hasForm_some hh2
          obtain ⟨ds2, rfl, _, _⟩ := fits_tup (formOf_fits hfm2).1
          obtain ⟨m1, m2, ml⟩ := parts0_maps hfm2
          obtain ⟨va2, xs2, rfl, hS2, hD2⟩ : ∃ va2 xs2, x = .ref va2 ∧ SqT K H va2 xs2 ∧ DpAll K H xs2 ds2 := by
            cases hdx with
            | tup h hs => exact ⟨_, _, rfl, h, hs⟩
          refine ⟨va2, a2, xs2, ds2, fs2, fm2, rfl, Same.seqT smT hS2, dpAll_same smT hD2, hokx _ rfl, hF2, hl2, hfm2, hok2.tl _ (formOf_fits hfm2).2, fun H5 l2 ts2 s5 nl2 hl5 lts2 hp2 => ?_⟩
          have hlx := s5 _ _ hlT
          have hx2 := dpAll_len (dpAll_drop1 hD2)
          have lt2 : ts2.length = (parts0 (.tuple ds2) fs2).length := by
            have := congrArg List.length m1
            rw [List.length_map] at this
            rw [this, lts2, hx2, ml, Nat.min_self]
          have lt4 := parts0_len (d := .tuple ds2) hsh2
          refine q' l2 (ts2.map V.ref) H5 hl5 ?_ hlx ⟨same_grow (smT.trans s5) nl, ⟨_, _, rfl⟩, sqT_grow (Same.seqT s5 (Same.seqT sT hB1)) hlx, sqT_grow (Same.seqT s5 (Same.seqT sT hB2)) hlx, vs ++ xs2.drop 1, ⟨ts ++ ts2, by rw [upd_same, List.map_append], ?_, ?_⟩, ?_⟩
          · rw [List.length_map]
            exact Nat.le_of_lt (small1000 (by omega))
          · rw [flat_next hpi, hin, List.length_append, List.length_append, hts, lt2]
          · rw [flat_next hpi, hin, List.map_append, m1]
            refine PtsAt.app (((hp.same sT).same s5).grow hlx) (hp2.grow hlx) ?_ ?_
            · rw [List.length_map, hts]
            · exact hvl.symm
          · rw [flat_next hpi, hin, List.map_append, m2]
            exact dpAll_app hdv (dpAll_drop1 hD2)
        refine ⟨T', _, rfl, .inl (.inl upd_same), rfl, _, _, rfl, _, _, rfl, rfl, ?_⟩
        refine ⟨_, rfl, rfl, _, rfl, ite2 (fun k => ?_) (fun k => ?_)⟩
        · obtain rfl := inj k
          obtain ⟨va2, a2, xs2, ds2, fs2, fm2, r, c1, c2, c3, c4, c5, c6, c7, q2⟩ := key testForms aT fT test_ok.len test_ok (by decide +kernel) (show hasForm S0 d testForms = true from hS1) (if_pos rfl) (fun v H5 => ∃ l2 ts2, v = .ref l2 ∧ H5 l2 = some (.lst ts2) ∧ ts.length + ts2.length ≤ sizeLine ∧ H5 l = some (.lst (ts.map V.ref)) ∧ (Same H (upd H5 l (.lst (ts.map V.ref ++ ts2))) ∧ (∃ e1 e2, [some (V.ref va), some (.ref a), some (.ref b), some (.ref l), some x, some (.str "test")] = [some (V.ref va), some (.ref a), some (.ref b), some (.ref l), e1, e2]) ∧ SqT K (upd H5 l (.lst (ts.map V.ref ++ ts2))) b1 (xs.drop 1) ∧ SqT K (upd H5 l (.lst (ts.map V.ref ++ ts2))) b2 ((fm.drop 1).map V.str) ∧ ∃ vs, PtD K H (upd H5 l (.lst (ts.map V.ref ++ ts2))) l (((parts0 (.tuple ds) fs).take (i + 1)).flatMap inner) vs)) E (fun l2 ts2 H5 c1 c2 c3 c4 => ⟨l2, ts2, rfl, c1, c2, c3, c4⟩)
          refine ⟨_, rfl, .inl ⟨rfl, _, SqL.of hlT⟩, _, rfl, va2, a2, xs2, ds2, fs2, fm2, r, c1, c2, c3, c4, c5, c6, c7, fun H5 l2 ts2 s5 nl2 hl5 lts2 hp2 => ?_⟩
          obtain ⟨l3, ts3, e3, g1, g2, g3, g4⟩ := q2 H5 l2 ts2 s5 nl2 hl5 lts2 hp2
          exact ⟨l, l3, _, _, rfl, by rw [e3], g3, g1, by rw [List.length_map]; exact g2, g4⟩
        · have k1 := ninj k
          refine ⟨_, rfl, rfl, _, rfl, ite2 (fun k => ?_) (fun k => ?_)⟩
          · obtain rfl := inj k
            have hS1' : hasForm S0 d plainForms = true := by
              have e : S1 d "plain" = hasForm S0 d plainForms := by
                unfold S1
                rw [if_neg (by decide +kernel), if_pos rfl]
              rw [← e]
              exact hS1
            obtain ⟨va2, a2, xs2, ds2, fs2, fm2, r, c1, c2, c3, c4, c5, c6, c7, q2⟩ := key plainForms aP fPl plain_ok.len plain_ok (by decide +kernel) hS1' (by unfold inner; rw [if_neg (show ¬ ("plain" : Str) = "test" by decide +kernel), if_pos rfl]) (fun v H5 => ∃ l2 ts2, v = .ref l2 ∧ H5 l2 = some (.lst ts2) ∧ ts.length + ts2.length ≤ sizeLine ∧ H5 l = some (.lst (ts.map V.ref)) ∧ (Same H (upd H5 l (.lst (ts.map V.ref ++ ts2))) ∧ (∃ e1 e2, [some (V.ref va), some (.ref a), some (.ref b), some (.ref l), some x, some (.str "plain")] = [some (V.ref va), some (.ref a), some (.ref b), some (.ref l), e1, e2]) ∧ SqT K (upd H5 l (.lst (ts.map V.ref ++ ts2))) b1 (xs.drop 1) ∧ SqT K (upd H5 l (.lst (ts.map V.ref ++ ts2))) b2 ((fm.drop 1).map V.str) ∧ ∃ vs, PtD K H (upd H5 l (.lst (ts.map V.ref ++ ts2))) l (((parts0 (.tuple ds) fs).take (i + 1)).flatMap inner) vs)) E (fun l2 ts2 H5 c1 c2 c3 c4 => ⟨l2, ts2, rfl, c1, c2, c3, c4⟩)
            refine ⟨_, rfl, .inl ⟨rfl, _, SqL.of hlT⟩, _, rfl, va2, a2, xs2, ds2, fs2, fm2, r, c1, c2, c3, c4, c5, c6, c7, fun H5 l2 ts2 s5 nl2 hl5 lts2 hp2 => ?_⟩
            obtain ⟨l3, ts3, e3, g1, g2, g3, g4⟩ := q2 H5 l2 ts2 s5 nl2 hl5 lts2 hp2
            exact ⟨l, l3, _, _, rfl, by rw [e3], g3, g1, by rw [List.length_map]; exact g2, g4⟩
          · have k2 := ninj k
            have hin : inner (z, d) = [(z, d)] := by
              unfold inner
              rw [if_neg k1, if_neg k2]
            refine ⟨_, rfl, .inl ⟨rfl, _, SqL.of hlT⟩, _, rfl, _, rfl, two_le, fun t nt => ?_⟩
            have st := same_upd (o := .tup [.str z, x]) nt
            have tl : t ≠ l := fun e => by
              rw [e, hlT] at nt
              cases nt
            refine ⟨l, _, _, rfl, rfl, st _ _ hlT, ?_, ?_⟩
            · rw [List.length_map]
              exact small1000 (by omega)
            · refine ⟨same_grow (smT.trans st) nl, ⟨_, _, rfl⟩, sqT_grow (Same.seqT st (Same.seqT sT hB1)) (st _ _ hlT), sqT_grow (Same.seqT st (Same.seqT sT hB2)) (st _ _ hlT), vs ++ [x], ⟨ts ++ [t], ?_, ?_, ?_⟩, ?_⟩
              · rw [upd_same, List.map_append]
                rfl
              · rw [flat_next hpi, hin, List.length_append, List.length_append, hts]
                rfl
              · rw [flat_next hpi, hin, List.map_append]
                refine PtsAt.app (((hp.same sT).same st).grow (st _ _ hlT)) (fun j t' e => ?_) (by rw [List.length_map, hts]) hvl.symm
                have h0 : j = 0 := by
                  have := (List.getElem?_eq_some_iff.mp e).1
                  rw [List.length_singleton] at this
                  omega
                subst h0
                obtain rfl := Option.some.inj e
                refine ⟨z, x, rfl, rfl, ?_⟩
                rw [upd_ne tl]
                exact upd_same
              · rw [flat_next hpi, hin, List.map_append]
                exact dpAll_app hdv (.cons hdx .nil)
    · rintro σ H3 ⟨sm, ⟨x5, x6, rfl⟩, hB1, hB2, vs, hpd⟩
      refine ⟨_, rfl, q _ l vs sm nl ?_⟩
      have e : (min (xs.drop 1).length ((fm.drop 1).map V.str).length) = (parts0 (.tuple ds) fs).length := by
        have h1 := congrArg List.length em1
        rw [List.length_map] at h1
        rw [List.length_map, h1, dpAll_len hD1, eml, Nat.min_self]
      rw [e, List.take_length] at hpd
      exact hpd
end
end Dr
namespace Dr
open PySem PySem.Spec PyProof.Rows L2
open Sem (wp)
open AutoSeq1 (wpAny_loadPart')
theorem meets_enumerate_newT (l : Addr) (items : Array Value) (n : Nat) (dct : Option Addr) (sl : Array (Option Value)) :
    Meets (Builtin.«enumerate.__new__» ⟨[.type "enumerate", .ref l], []⟩) (fun _ R s => s.heap.get? l = some { cls := .type "tuple", dict := dct, data := .seq items n, slots := sl } ∧
      R (.ok (.ret (.ref (s.heap.push { cls := .type "tuple_iterator", data := .fields #[.ref l, .int 0 0] }).objs.size)))
        { s with heap := (s.heap.push { cls := .type "tuple_iterator", data := .fields #[.ref l, .int 0 0] }).push { cls := .type "enumerate", data := .fields #[.none, .bool false, .ref s.heap.objs.size, rawInt 0, .none, .none] } }) :=
  .of_wp fun prog w A R s h => by
    obtain ⟨hp, g, d, tk, os⟩ := s; obtain ⟨hl, h⟩ := h
    have hsub := sub_enumerate
    have hL : Heap.IsTuple (Shared.heap ⟨hp, g, d, tk, os⟩) l items := ⟨_, hl, rfl, n, rfl⟩
    wp_walk using wpAny_loadPart' hl
    refine wpAny_stack_any fun st => wpAny_pure ?_
    split
    · rename_i c _ _ _ _ _
      cases (c == Value.type "enumerate")
      · wp_walk using wpAny_loadPart' hl, wpAny_pyIter_tuple hL
        exact ⟨_, rfl, h⟩
      · wp_walk using wpAny_loadPart' hl, wpAny_pyIter_tuple hL
        exact ⟨_, rfl, h⟩
    · wp_walk using wpAny_loadPart' hl, wpAny_pyIter_tuple hL
      exact ⟨_, rfl, h⟩
section
variable {prog : Program} {w : World} {A : Around} {E : Value → Shared → Prop} {s : Shared}
theorem call_enumerate_tup {l : Addr} {items : Array Value} {Q : Value → Shared → Prop} (hL : s.heap.IsTuple l items)
    (h : ∀ h', IsEnum h' (s.heap.objs.size + 1) s.heap.objs.size 0 .none → h'.IsTupleIter s.heap.objs.size l 0 → h'.objs.size = s.heap.objs.size + 2 →
      (∀ b o, s.heap.get? b = some o → h'.get? b = some o) → Q (.ref (s.heap.objs.size + 1)) { s with heap := h' }) :
    wpAny (model prog w) A (call (.type "enumerate") [.ref l]) Q E s := by
  obtain ⟨⟨c, dct, dt, sl⟩, hl, hc, n, hd⟩ := hL
  replace hc : c = .type "tuple" := hc
  replace hd : dt = .seq items n := hd
  subst hc hd
  refine callType_new F.called_enumerate (by decide) (F.typeCall_enumerate_1 _) (F.newCall_enumerate_1 _) (fun obj => F.args_object_init_2 obj _) F.entry_enumerate_new
    (meets_enumerate_newT l items n dct sl) ⟨hl, ?_⟩
  have hz : (s.heap.push { cls := .type "tuple_iterator", data := .fields #[.ref l, .int 0 0] }).objs.size = s.heap.objs.size + 1 := Heap.size_push ..
  show _ ∧ _
  rw [hz]
  have he : IsEnum ((s.heap.push { cls := .type "tuple_iterator", data := .fields #[.ref l, .int 0 0] }).push
      { cls := .type "enumerate", data := .fields #[.none, .bool false, .ref s.heap.objs.size, rawInt 0, .none, .none] }) (s.heap.objs.size + 1) s.heap.objs.size 0 .none := by
    have := Heap.get?_push_size (s.heap.push { cls := .type "tuple_iterator", data := .fields #[.ref l, .int 0 0] })
      (o := { cls := .type "enumerate", data := .fields #[.none, .bool false, .ref s.heap.objs.size, rawInt 0, .none, .none] }) rfl
    rw [hz] at this; exact this
  refine ⟨⟨_, he, rfl⟩, h _ he ⟨_, Heap.get?_push_of_some _ (Heap.get?_push_size _ rfl), rfl, rfl⟩ (by rw [Heap.size_push, hz]) fun b o x => Heap.get?_push_of_some _ (Heap.get?_push_of_some _ x)⟩
end
theorem pyNext_enumT_end {prog : Program} {w : World} {A : Around} {E : Value → Shared → Prop} {s : Shared} {e it l : Addr} {i : Nat} {items : Array Value} {old : Value} {Q : Option Value → Shared → Prop} (hh : A.handled = none)
    (he : IsEnum s.heap e it i old) (hit : s.heap.IsTupleIter it l i) (hl : s.heap.IsTuple l items) (hx : items[i]? = none)
    (hQ : ∀ h', Heap.ExtBut it s.heap h' → Q none { s with heap := h' }) : wpAny (model prog w) A (pyNext (.ref e)) Q E s := by
  have hT : s.TypeIs (.ref e) "enumerate" := ⟨_, he, rfl⟩
  unfold pyNext
  refine wpAny_bind (wpAny_attempt (wpAny_callSpecial?_slot (name := Str.ofString "__next__") hT F.slot_enumerate_next
    (wpAny_call_entry F.slot_enumerate_next hT F.entry_enumerate_next ?_ (F.args_enumerate_next_1 _))))
  show wpAny _ _ (field (.ref e) 2 >>= _) _ _ _
  refine wpAny_bind (wpAny_field he rfl (x := .ref it) rfl ?_)
  refine wpAny_bind (wpAny_nextOf_tuple_end hh hit hl hx fun h' x he' hx' => ?_)
  obtain ⟨o, ho, hc⟩ := hx'
  refine wpAny_bind (wpAny_isInstance (T := "StopIteration") (b := true) ⟨o, ho, hc⟩ isSubtype_stop ?_)
  exact wpAny_pure (hQ _ he')
/-- the tuple at a, each item in a new pair -/
def IteT (K : PySem.W.Frag) (a : Addr) : It :=
  ⟨fun i H => ∃ (xs : List V) (x : V), SqT K H a xs ∧ xs[i]? = some x, fun i H v H' => ∃ T x, v = .ref T ∧ H T = none ∧ H' = upd H T (.tup [.int (i : Nat), x]) ∧ ∀ xs, SqT K H a xs → xs[i]? = some x, fun i H => ∃ xs : List V, SqT K H a xs ∧ xs.length ≤ i⟩
theorem turn_enumT {P : Program} {w : World} {K : PySem.W.Frag} {elts : List Expr} {kk : Nat} {tpos : Pos} (a e it : Addr) :
    Turn P w K (.Tuple elts kk tpos) (IteT K a) [e, it] e (fun i h => (∃ old, IsEnum h e it ((i : Nat) : Int) old) ∧ h.IsTupleIter it a i ∧ e ≠ it ∧ e ∉ [it, a] ∧ a ≠ it) where
  mem := by simp
  obj := fun i h st b hb => by
    obtain ⟨⟨old, he⟩, ⟨o, ho, hc, hd⟩, _⟩ := st
    have e' : b = e ∨ b = it := by simpa using hb
    rcases e' with z | z
    · rw [z]; exact ⟨_, he, fun v q => nomatch q⟩
    · rw [z]; exact ⟨o, ho, fun v q => by rw [hd] at q; cases q⟩
  keep := fun i h h' st k => let ⟨⟨old, he⟩, hi, hne⟩ := st; ⟨⟨old, k e (by simp) _ he⟩, hi.at fun o q => k it (by simp) o q, hne⟩
  item := by
    intro X hP hw hK hc i pins s σ H E I hf st hg
    subst hP hw hK
    obtain ⟨⟨old, he⟩, hit, hne, hef, hai⟩ := st
    obtain ⟨xs, x, hq, hx⟩ := hg
    obtain ⟨its, rv, p, hz⟩ := I.tuple hq
    obtain ⟨u, hu, ru⟩ := rv.get hx
    have hel : e < s.heap.objs.size := Heap.lt_size he
    have hil : it < s.heap.objs.size := by obtain ⟨_, q, _⟩ := hit; exact Heap.lt_size q
    have hlt : i < its.toArray.size := by
      rw [List.size_toArray]
      exact (List.getElem?_eq_some_iff.mp hu).1
    refine wpAny_pyNext_enum_itemD (Draws.tuple (prog := X.prog) (w := X.w) (A := X.A.in1) (I.ok.hd hc) it a hai its.toArray) he ⟨hit, p⟩ hlt hne hef fun x' h' tk hP ho hst' hT hsz hk => ?_
    have hxu : x' = u := by
      have hP' : its.toArray[i]? = some x' := hP
      have : its.toArray[i]? = some u := by simpa using hu
      rw [this] at hP'
      exact (Option.some.inj hP').symm
    subst hxu
    refine ⟨_, rfl, wpAny_letOwnedTupleGo_enum (s := { s with heap := h', toks := tk + 1 }) ho fun h'' he' sb => ?_⟩
    have hT2 : h''.get? s.heap.objs.size = some { cls := .type "tuple", data := .seq #[.int i tk, x'] } := (sb.2 _ (Nat.ne_of_gt hel)).trans hT
    have new : ObjOk X.prog X.w (upd H s.heap.objs.size (.tup [.int (i : Nat), x])) h'' s.heap.objs.size (.tup [.int (i : Nat), x]) :=
      ⟨by show 2 ≤ sizeLine; decide, [.int i tk, x'], .cons ⟨_, rfl⟩ (.cons ru .nil), ⟨_, hT2, rfl, _, rfl⟩⟩
    have I1 : Inv X pins σ (upd H s.heap.objs.size (.tup [.int (i : Nat), x])) { s with heap := h'', toks := tk + 1 } :=
      I.turnedNew (ch := [e, it]) (fun b ob hb q => (sb.2 b (fun z => hb (by simp [z]))).trans (hk b ob (fun z => hb (by simp [z])) (fun z => hb (by simp [z])) q)) hf (Nat.le_refl _) new
    refine ⟨.ref s.heap.objs.size, _, I1, rfl, ⟨_, x, rfl, I.hok.fresh (Nat.le_refl _), rfl, fun ys hy => by rw [I.tuple_inj hy hq]; exact hx⟩, ⟨⟨x', ?_⟩, hst'.1.at fun o q => (sb.2 it (Ne.symm hne)).trans q, hne, hef, hai⟩, fun b hb => ?_⟩
    · have e1 : ((i + 1 : Nat) : Int) = (i : Int) + 1 := by omega
      rw [e1]; exact he'
    · have hb' : b < s.heap.objs.size := by
        have e' : b = e ∨ b = it := by simpa using hb
        rcases e' with z | z
        · rw [z]; exact hel
        · rw [z]; exact hil
      rw [upd_ne (Nat.ne_of_lt hb')]
      exact (hf b hb).1
  done := by
    intro X hP hw hK hc i pins s σ H E I hf st hg
    subst hP hw hK
    obtain ⟨⟨old, he⟩, hit, hne, hef, hai⟩ := st
    obtain ⟨xs, hq, hx⟩ := hg
    obtain ⟨its, rv, p, hz⟩ := I.tuple hq
    obtain ⟨f0, f1, f2, f3, f4, f5⟩ := hf it (by simp)
    have hl := rv.length
    exact pyNext_enumT_end (I.ok.hd hc) he hit p (by simp; omega) fun h' eb => ⟨rfl, I.turned (t' := s.toks) (fun b o hb q => eb b o hb q) f0 f1 f3 f4 f5⟩
  self := fun A i s Q E st h => let ⟨⟨_, he⟩, _⟩ := st; wpAny_pyIter_enum he h
def iEnumT (K : PySem.W.Frag) (ta : TA) : TI := fun σ H R => ta σ H fun vs H1 => ∃ a xs, vs = [.ref a] ∧ SqT K H1 a xs ∧ R (IteT K a) H1
theorem pi_enumT {X : Cx} {e : Expr} {ta : TA} {p pos tpos : Pos} {elts : List Expr} {kk : Nat} (hg : Gl X "enumerate") (hm : X.mg "enumerate" = none) (ha : PA X [e] ta) (hs : starEach [e] X.env = [(false, eval e X.env)] := by rfl) :
    PI X (.Tuple elts kk tpos) (.Call (.Name "enumerate" p) [e] [] pos) (iEnumT X.K ta) := by
  refine ⟨fun pins s σ H R I h => ?_⟩
  refine Call_ (ld_blt I hg hm boot_enumerate (PyProof.Rows.callWith_type1 (thn (ha.run pos pins s σ H _ I h) fun us s1 ⟨vs, H1, I1, r1, q1⟩ => ?_) hs rfl))
  obtain ⟨a, xs, ex, hq, q⟩ := q1
  subst ex
  cases r1 with
  | cons r rr =>
    cases rr
    cases r
    obtain ⟨its, rv, p', hz⟩ := I1.tuple hq
    have hal : a < s1.heap.objs.size := by
      obtain ⟨o, ho, _⟩ := p'
      exact Heap.lt_size ho
    refine call_enumerate_tup p' fun h' he hit hsz hk => wpAny_pyIter_enum he ?_
    have I2 : Inv X pins σ H1 { s1 with heap := h' } := I1.kept (t' := s1.toks) hk
    refine ⟨s1.heap.objs.size + 1, [s1.heap.objs.size + 1, s1.heap.objs.size], _, _, H1, rfl, I2, turn_enumT a (s1.heap.objs.size + 1) s1.heap.objs.size, ⟨⟨.none, he⟩, hit, Nat.succ_ne_self _, fun hm => ?_, Nat.ne_of_lt hal⟩, fun b hb => ?_, q⟩
    · have e' : s1.heap.objs.size + 1 = s1.heap.objs.size ∨ s1.heap.objs.size + 1 = a := by simpa using hm
      rcases e' with z | z
      · exact Nat.succ_ne_self _ z
      · exact Nat.ne_of_gt (Nat.lt_succ_of_lt hal) z
    · have e' : b = s1.heap.objs.size + 1 ∨ b = s1.heap.objs.size := by simpa using hb
      have hle : s1.heap.objs.size ≤ b := by
        rcases e' with z | z
        · rw [z]; exact Nat.le_add_right _ _
        · rw [z]; exact Nat.le_refl _
      exact I1.fpOk hle (I1.hok.fresh hle)
theorem walk_enumT {K : PySem.W.Frag} {a : Addr} {xs : List V} : Walk (IteT K a) xs.length (fun H => SqT K H a xs) (YPair (fun i => some (.int (i : Nat))) (fun i => xs[i]?)) := by
  refine ⟨fun i _ hi q => ⟨xs, xs[i], q, by simp [hi]⟩, fun _ q => ⟨xs, q, Nat.le_refl _⟩, fun i H v H' _ q y => ?_⟩
  obtain ⟨T, x, h1, h2, h3, h4⟩ := y
  exact ⟨T, .int (i : Nat), x, h1, h2, h3, rfl, h4 xs q⟩
end Dr
namespace Dr
open PySem PySem.Spec PyProof.Rows L2
abbrev sKeeps : Stmt := topS 30
abbrev nKeeps : List Str := ["row", "fixed", "usable", "parts", "assigned", "sort", "part", "name"]
theorem scKeeps : FnScope nKeeps ["row", "fixed", "usable"] (defScope sKeeps) := ⟨rfl, rfl, rfl, by decide +kernel, rfl, by decide +kernel, by decide +kernel⟩
def strD : PyData → Str
  | .str z => z
  | _ => ""
/-- the names of the parts of a sort -/
def ofSort (w : Str) (ps : List Part) : List Str := (ps.filter fun p => decide (p.1 = w)).map fun p => strD p.2
def varS (z : Str) : Bool := z == "used" || z == "assigned"
/-- what is used or assigned is a text -/
def Named (ps : List Part) : Prop := ∀ p ∈ ps, varS p.1 = true → isStrD p.2 = true
theorem name_isStr : ∀ {d : PyData}, isNameD d = true → isStrD d = true
  | .str _, _ => rfl
theorem S0_var {d : PyData} {z : Str} (hv : varS z = true) (h : S0 d z = true) : isNameD d = true := by
  have hz : z = "used" ∨ z = "assigned" := by simpa [varS] using hv
  rcases hz with rfl | rfl <;>
  · unfold S0 at h
    rw [if_neg (by decide +kernel), if_neg (by decide +kernel)] at h
    exact h
theorem S1_var {d : PyData} {z : Str} (hv : varS z = true) (h : S1 d z = true) : isNameD d = true := by
  have hz : z = "used" ∨ z = "assigned" := by simpa [varS] using hv
  refine S0_var hv ?_
  rcases hz with rfl | rfl <;>
  · unfold S1 at h
    rw [if_neg (by decide +kernel), if_neg (by decide +kernel)] at h
    exact h
theorem parts0_get {d : PyData} {fs : List Form} {S : PyData → Str → Bool} (h : hasForm S d fs = true) {p : Part} (hp : p ∈ parts0 d fs) : S p.2 p.1 = true := by
  obtain ⟨fm, hfm, hall⟩ := hasForm_some h
  obtain ⟨i, hi, e⟩ := List.getElem_of_mem hp
  have e : (parts0 d fs)[i]? = some p := by rw [List.getElem?_eq_getElem hi, e]
  have e2 : parts0 d fs = (fm.drop 1).zip (tailD d) := by
    unfold parts0
    rw [hfm]
  rw [e2, List.getElem?_zip_eq_some] at e
  exact sorted2_all hall e.2 e.1
theorem parts0_named {d : PyData} {fs : List Form} (h : hasForm S0 d fs = true) : Named (parts0 d fs) := fun p hp hv => name_isStr (S0_var hv (parts0_get h hp))
theorem partsD_named {d : PyData} {fs : List Form} (h : hasForm S1 d fs = true) : Named (partsD d fs) := fun p hp hv => by
  unfold partsD at hp
  rw [List.mem_flatMap] at hp
  obtain ⟨q, hq, hp⟩ := hp
  have hs := parts0_get h hq
  unfold inner at hp
  by_cases k1 : q.1 = "test"
  · rw [if_pos k1] at hp
    rw [k1] at hs
    have hs : hasForm S0 q.2 testForms = true := hs
    exact parts0_named hs p hp hv
  · rw [if_neg k1] at hp
    by_cases k2 : q.1 = "plain"
    · rw [if_pos k2] at hp
      rw [k2] at hs
      have hs : hasForm S0 q.2 plainForms = true := by
        unfold S1 at hs
        rw [if_neg (by decide +kernel), if_pos rfl] at hs
        exact hs
      exact parts0_named hs p hp hv
    · rw [if_neg k2, List.mem_singleton] at hp
      subst hp
      exact name_isStr (S1_var hv hs)
theorem ofSort_next {w : Str} {ps : List Part} {i : Nat} {p : Part} (h : ps[i]? = some p) : ofSort w (ps.take (i + 1)) = ofSort w (ps.take i) ++ (if p.1 = w then [strD p.2] else []) := by
  unfold ofSort
  rw [List.take_add_one, h, List.filter_append, List.map_append]
  show _ ++ List.map (fun p => strD p.2) (List.filter _ [p]) = _
  by_cases e : p.1 = w
  · rw [List.filter_cons, if_pos (decide_eq_true e), if_pos e]
    rfl
  · rw [List.filter_cons, if_neg (by simpa using e), if_neg e]
    rfl
theorem ofSort_len (w : Str) (ps : List Part) : (ofSort w ps).length ≤ ps.length := by
  unfold ofSort
  rw [List.length_map]
  exact List.length_filter_le ..
/-- what is used is usable -/
def usesD (us : List Str) (ps : List Part) : Bool := (ofSort "used" ps).all us.contains
theorem named_val {K : PySem.W.Frag} {H : Hp} {ps : List Part} {vs : List V} (hn : Named ps) (hd : DpAll K H vs (ps.map Prod.snd)) {i : Nat} {p : Part} {v : V} (e1 : ps[i]? = some p) (e2 : vs[i]? = some v) (hv : varS p.1 = true) : v = .str (strD p.2) := by
  obtain ⟨d, e3, hdv⟩ := dpAll_get hd e2
  rw [List.getElem?_map, e1] at e3
  obtain rfl := Option.some.inj e3
  have hs := hn p (List.mem_of_getElem? e1) hv
  obtain ⟨z, d⟩ := p
  cases d with
  | str x =>
    cases hdv
    rfl
  | _ => cases hs
theorem uses_eq {K : PySem.W.Frag} {H : Hp} (us : List Str) : ∀ {ps : List Part} {vs : List V}, Named ps → DpAll K H vs (ps.map Prod.snd) → usesB us (ps.map Prod.fst) vs = usesD us ps
  | [], _, _, h => by
    cases h
    rfl
  | p :: r, _, hn, .cons (v := v) h hs => by
    have ih := uses_eq us (ps := r) (fun q hq => hn q (List.mem_cons_of_mem _ hq)) hs
    unfold usesB usesD at ih ⊢
    show (if p.1 = "used" then inV v (us.map V.str) :: usedsB us (r.map Prod.fst) _ else usedsB us (r.map Prod.fst) _).all id = (ofSort "used" (p :: r)).all us.contains
    unfold ofSort at ih ⊢
    rw [List.filter_cons]
    by_cases k : p.1 = "used"
    · have hv : v = .str (strD p.2) := named_val (ps := p :: r) hn (.cons h hs) (i := 0) rfl rfl (by rw [k]; rfl)
      rw [if_pos k, if_pos (decide_eq_true k), List.all_cons, List.map_cons, List.all_cons, ih, hv]
      show (inV (V.str (strD p.2)) (us.map V.str) && _) = _
      rw [in_strs]
    · rw [if_neg k, if_neg (by simpa using k), ih]
def keepsD (d : PyData) (fx us : List Str) : Bool := ((formOf d branchForms).isNone || (ofSort "assigned" (partsD d rowForms)).all us.contains) && (usesD us (partsD d rowForms) && !((ofSort "assigned" (partsD d rowForms)).any fx.contains))
theorem getElem?_lt {α : Type} {l : List α} {i : Nat} (h : i < l.length) : ∃ x, l[i]? = some x := ⟨l[i], List.getElem?_eq_getElem h⟩
section
variable {P : Program} {w : World} {K : PySem.W.Frag} {mg : Str → Option Value} {base : Heap}
/-- a list of the names of the parts of a sort: one step -/
theorem part_at {H H' : Hp} {l : Addr} {ps : List Part} {vs : List V} (h : PtD K H H' l ps vs) (hn : Named ps) {ts : List Addr} (hl : H' l = some (.lst (ts.map V.ref))) {i : Nat} {t : Addr} (e : ts[i]? = some t) : ∃ p v, ps[i]? = some p ∧ H' t = some (.tup [.str p.1, v]) ∧ (varS p.1 = true → v = .str (strD p.2)) := by
  obtain ⟨⟨ts2, e1, e2, e3⟩, hd⟩ := h
  rw [e1] at hl
  have hl := HO.lst.inj (Option.some.inj hl)
  have et : ts2 = ts := (List.map_inj_right (fun _ _ h => V.ref.inj h)).mp hl
  subst et
  obtain ⟨z, v, a, b, c⟩ := e3 i t e
  rw [List.getElem?_map] at a
  cases hp : ps[i]? with
  | none =>
    rw [hp] at a
    cases a
  | some p =>
    rw [hp] at a
    obtain rfl := Option.some.inj a
    exact ⟨p, v, rfl, c, fun hv => named_val hn hd hp b hv⟩
theorem PtD.same {H H1 H2 : Hp} {l : Addr} {ps : List Part} {vs : List V} (h : PtD K H H1 l ps vs) (s : Same H1 H2) : PtD K H H2 l ps vs := by
  obtain ⟨⟨ts, e1, e2, e3⟩, hd⟩ := h
  exact ⟨⟨ts, s _ _ e1, e2, e3.same s⟩, hd⟩
def spKeepsG (K : PySem.W.Frag) : Sp := fun vs H Q _ => ∃ (va aF u : Addr) (xs : List V) (ds : List PyData) (fx us : List Str), vs = [.ref va, .ref aF, .ref u] ∧ SqT K H va xs ∧ DpAll K H xs ds ∧ OkD (.tuple ds) ∧ hasForm S1 (.tuple ds) rowForms = true ∧ SqL K H aF (fx.map V.str) ∧ SqL K H u (us.map V.str) ∧ ∀ H', Same H H' → Q (.bl (keepsD (.tuple ds) fx us)) H'
theorem ok_keepsG {f fP fF fU : Addr} {fd fdP fdF fdU : FuncData} (F : Fun K "keeps_to" "keeps_to" sKeeps f fd) (T : Wds K mg) (hany : mg "any" = none) (TR : FmG K mg "ROWS" rowForms) (TB : FmG K mg "BRANCHES" branchForms)
    (GP : FnOk P w K mg base CX0 3 fP fdP ["thing", "forms"] (spPartsG K)) (mP : mg "parts_of" = some (.ref fP)) (kP : PySem.W.keepIn K (.ref fP) = true) (bP : Binds K fdP ["thing", "forms"] [])
    (GF : FnOk P w K mg base CX0 1 fF fdF ["thing", "forms"] (spFormOf K)) (mF : mg "form_of" = some (.ref fF)) (kF : PySem.W.keepIn K (.ref fF) = true) (bF : Binds K fdF ["thing", "forms"] [])
    (GU : FnOk P w K mg base CX0 1 fU fdU ["parts", "usable"] (spUses K)) (mU : mg "uses_only" = some (.ref fU)) (kU : PySem.W.keepIn K (.ref fU) = true) (bU : Binds K fdU ["parts", "usable"] []) :
    FnOk P w K mg base CX0 4 f fd ["row", "fixed", "usable"] (spKeepsG K) := by
  obtain ⟨aR, mR, fR⟩ := TR.ex
  obtain ⟨aB, mB, fB⟩ := TB.ex
  refine F.ok scKeeps (fun vs H Q E h => ?_) (fun cdv A outer s H vs Q E hr h => ?_)
  · obtain ⟨va, aF, u, xs, ds, fx, us, rfl, _⟩ := h
    rfl
  · obtain ⟨va, aF, u, xs, ds, fx, us, rfl, hS, hD, hok, hhas, hX, hU, q⟩ := h
    have hr1 : Room 1 _ := hr.mono (by decide)
    refine ⟨_, pss_cons (ps_set (i := 3) scKeeps.nd rfl (.inl rfl) (pe_call GP hr (by rfl) mP kP bP .nil pass0 (pa_cons (pv 0) (pa_cons (pe_glob (v := .ref aR) (by rfl) mR rfl) pa_nil))))
      (pss_cons (ps_setLc (i := 4) (own := [("sort", 5), ("part", 6)]) (g := gTup K 2 (gCons (gName 5) (gCons (gName 6) gNil))) rfl scKeeps.nd rfl rfl (sw_true rfl rfl rfl (by decide +kernel))
            (pi_list (pv 3)) (blkOk_by (N := nKeeps) (sc := defScope sKeeps) (by decide +kernel)) (fun _ _ _ _ _ => pg_tup rfl (pgs_cons (pg_name (i := 5) scKeeps.nd rfl (Or.inl rfl)) (pgs_cons (pg_name (i := 6) scKeeps.nd rfl (Or.inl rfl)) pgs_nil))) (fun _ _ _ _ _ => pts_one (pt_cmpR op_eq (pv 5) pe_str (nomark _)))
            (fun _ _ _ _ _ => pv 6))
      (pss_cons (ps_if (PW.pt (pw_and (pt_cmpR op_notN (pe_call GF hr1 (by rfl) mF kF bF .nil pass0 (pa_cons (pv 0) (pa_cons (pe_glob (v := .ref aB) (by rfl) mB rfl) pa_nil))) pe_non (nomark _))
          (pw_and1 (pt_not (pt_val (pe_callB (cr_all rfl) (by rfl) T.all (by decide +kernel) (pa_cons
            (pe_lc (own := [("name", 7)]) (g := gName 7) (tt := tYes) rfl scKeeps.nd (pi_list (pv 4)) (blkOk_by (N := nKeeps) (sc := defScope sKeeps) (by decide +kernel)) (fun _ _ _ _ _ => pg_name (i := 7) scKeeps.nd rfl (Or.inl rfl)) (fun _ _ _ _ _ => pts_nil)
              (fun _ _ _ _ _ => pe_cmpR (show OpR _ _ (rIn K false) from op_in_seq) (pv 7) (pv 2) rfl)) pa_nil))))))) (pss_one (ps_ret pe_bl)) pss_nil)
      (pss_one (ps_ret (pe_and (pe_call GU hr1 (by rfl) mU kU bU .nil pass0 (pa_cons (pv 3) (pa_cons (pv 2) pa_nil)))
        (pe_one (pe_not (pe_callB (cr_any rfl) (by rfl) hany (by decide +kernel) (pa_cons
            (pe_lc (own := [("name", 7)]) (g := gName 7) (tt := tYes) rfl scKeeps.nd (pi_list (pv 4)) (blkOk_by (N := nKeeps) (sc := defScope sKeeps) (by decide +kernel)) (fun _ _ _ _ _ => pg_name (i := 7) scKeeps.nd rfl (Or.inl rfl)) (fun _ _ _ _ _ => pts_nil)
              (fun _ _ _ _ _ => pe_cmpR (show OpR _ _ (rIn K false) from op_in_seq) (pv 7) (pv 1) rfl)) pa_nil))))))))), ?_⟩
    have hn := partsD_named hhas
    have hpl := partsD_len (d := .tuple ds) (fs := rowForms) (by decide +kernel)
    refine ⟨_, rfl, va, aR, xs, ds, rowForms, rfl, hS, hD, hok, fR, row_ok.len, by decide +kernel, hhas, fun H1 l ys s1 nl hpt => ?_⟩
    obtain ⟨ts, hl, lts, hp⟩ := hpt.ex
    refine ⟨_, rfl, l, rfl, ⟨_, SqL.of hl⟩, fun D hD4 => ?_⟩
    generalize hps : partsD (.tuple ds) rowForms = ps at *
    refine lc_it walk_list (fun i H3 => Same H1 H3 ∧ H3 D = some (.lst ((ofSort "assigned" (ps.take i)).map V.str))) ⟨same_upd hD4, upd_same⟩ (fun _ _ _ h => h.1.seq (SqL.of hl)) ?_ ?_
    · rintro i y H3 H4 hi ⟨sm, hl3⟩ ⟨rfl, e1⟩
      rw [List.getElem?_map] at e1
      cases ht : ts[i]? with
      | none =>
        rw [ht] at e1
        cases e1
      | some t =>
        rw [ht] at e1
        obtain rfl := Option.some.inj e1
        obtain ⟨p, v, hpi, hT, hv⟩ := part_at hpt hn hl ht
        refine ⟨t, _, rfl, SqT.of (sm _ _ hT), rfl, _, _, rfl, _, _, rfl, rfl, rfl, ?_⟩
        refine ⟨_, rfl, rfl, _, rfl, ?_⟩
        by_cases hu : p.1 = "assigned"
        · rw [decide_eq_true (by rw [hu])]
          refine iteT ⟨_, rfl, _, hl3, ?_, same_grow sm hD4, ?_⟩
          · rw [List.length_map]
            have h1 := ofSort_len "assigned" (ps.take i)
            rw [List.length_take] at h1
            exact small1000 (by omega)
          · rw [upd_same, ofSort_next hpi, if_pos hu, List.map_append, hv (by rw [hu]; rfl)]
            rfl
        · rw [decide_eq_false (fun e => hu (V.str.inj e))]
          refine iteF ⟨sm, ?_⟩
          rw [hl3, ofSort_next hpi, if_neg hu, List.append_nil]
    rintro H3 ⟨sm, hl3⟩
    rw [List.length_map, lts, List.take_length] at hl3
    have s3 := s1.trans sm
    have hal : (ofSort "assigned" ps).length ≤ 16 := Nat.le_trans (ofSort_len _ _) hpl
    generalize hasg : ofSort "assigned" ps = asg at *
    -- the names of the list at D, held against names
    have lc : ∀ (n : Nat) (u' : Addr) (zs : List Str) (H4 : Hp), Same H3 H4 → SqL K H u' (zs.map V.str) → (∀ x : V, [some (.ref va), some (.ref aF), some (.ref u), some (.ref l), some (.ref D), none, none, some x][n]? = some (some (.ref u'))) → ∀ Q2 : VK, (∀ D2 H5, Same H4 H5 → H5 D2 = some (.lst ((asg.map zs.contains).map V.bl)) → Q2 (.ref D2) H5) →
        tLc (iList K (tVar 4)) (gName 7) tYes (tOp (rIn K false) (tVar 7) (tVar n)) [7] [some (.ref va), some (.ref aF), some (.ref u), some (.ref l), some (.ref D), none, none, none] H4 Q2 := by
      intro n u' zs H4 s4 hu' en Q2 q2
      have hlD := s4 _ _ hl3
      refine ⟨.ref D, rfl, D, rfl, ⟨_, SqL.of hlD⟩, fun D2 hD2 => ?_⟩
      refine lc_it walk_list (fun i H6 => Same H4 H6 ∧ H6 D2 = some (.lst (((asg.take i).map zs.contains).map V.bl))) ⟨same_upd hD2, upd_same⟩ (fun _ _ _ h => h.1.seq (SqL.of hlD)) ?_ ?_
      · rintro i y H5 H6 hi ⟨sm5, hl5⟩ ⟨rfl, e1⟩
        rw [List.getElem?_map] at e1
        cases hz : asg[i]? with
        | none =>
          rw [hz] at e1
          cases e1
        | some z =>
          rw [hz] at e1
          obtain rfl := Option.some.inj e1
          refine ⟨rfl, ?_⟩
          unfold tYes
          refine iteT ?_
          refine ⟨_, rfl, _, en _, u', _, rfl, .inl ((((s3.trans s4).trans sm5)).seq hu'), rfl, flat_strs _, ?_⟩
          refine ⟨_, hl5, ?_, same_grow sm5 hD2, ?_⟩
          · rw [List.length_map, List.length_map, List.length_take]
            exact small1000 (by omega)
          · rw [upd_same, List.take_add_one, hz, List.map_append, List.map_append]
            show some (HO.lst (_ ++ [V.bl (inV (V.str z) (zs.map V.str))])) = _
            rw [in_strs]
            rfl
      · rintro H5 ⟨sm5, hl5⟩
        rw [List.length_map, List.take_length] at hl5
        exact q2 D2 H5 sm5 hl5
    -- the end, where the guard lets it pass
    have rest : ∀ H4, Same H3 H4 → ((formOf (.tuple ds) branchForms).isNone || asg.all us.contains) = true → tRet (tAndV (tCall (spUses K) [] E0 (tCons (tVar 3) (tCons (tVar 2) tNil))) (tNotV (tCB (rAny K) (tCons (tLc (iList K (tVar 4)) (gName 7) tYes (tOp (rIn K false) (tVar 7) (tVar 1)) [7]) tNil)))) { nx := fun _ H' => Q .non H', rt := Q } [some (.ref va), some (.ref aF), some (.ref u), some (.ref l), some (.ref D), none, none, none] H4 := by
      intro H4 s4 hg
      have s14 := s3.trans s4
      have hpt4 := hpt.same (sm.trans s4)
      obtain ⟨ts4, hl4, lts4, hp4⟩ := hpt4.ex
      have hv := dpAll_len hpt4.dp
      rw [List.length_map] at hv
      have hk : keepsD (.tuple ds) fx us = (usesD us ps && !(asg.any fx.contains)) := by
        unfold keepsD
        rw [hps, hasg, hg, Bool.true_and]
      rw [hk] at q
      refine ⟨_, rfl, _, rfl, l, u, ts4, ps.map Prod.fst, us, ys, rfl, SqL.of hl4, s14.seq hU, hp4, by rw [List.length_map, lts4], by rw [lts4, hv], by omega, ?_, fun H5 s5 => ⟨_, rfl, ?_⟩⟩
      · intro i v ez ev
        rw [List.getElem?_map] at ez
        cases hpi : ps[i]? with
        | none =>
          rw [hpi] at ez
          cases ez
        | some p =>
          rw [hpi] at ez
          have ez := Option.some.inj ez
          rw [named_val hn hpt4.dp hpi ev (by rw [ez]; rfl)]
          rfl
      · rw [uses_eq us hn hpt4.dp]
        have s45 := s4.trans s5
        refine ite2 (fun k => ?_) (fun k => ?_)
        · rw [k, Bool.true_and] at q
          unfold tNotV tCB tCons
          refine lc 1 aF fx H5 s45 hX (fun _ => rfl) _ (fun D2 H6 s6 hD2 => ?_)
          refine ⟨D2, _, rfl, .inl (.inl hD2), _, rfl, ?_⟩
          have q' := q _ ((s3.trans s45).trans s6)
          rw [List.any_map] 
          exact q'
        · rw [eq_false_of_ne_true k, Bool.false_and] at q
          exact q _ (s3.trans s45)
    refine ⟨_, rfl, .ref va, .tuple ds, aB, branchForms, rfl, .tup (Same.seqT s3 hS) (dpAll_same s3 hD), hok, fB, branch_ok.len, fun hnone => ⟨rfl, _, rfl, ?_⟩, fun f b hm hf hat => ⟨rfl, _, rfl, ?_⟩⟩
    · refine iteF ?_
      exact rest H3 (Same.refl _) (by rw [hnone]; rfl)
    · refine iteT ?_
      unfold tNot tB tCB tCons
      refine lc 2 u us H3 (Same.refl _) hU (fun _ => rfl) _ (fun D2 H6 s6 hD2 => ?_)
      refine ⟨D2, _, rfl, .inl (.inl hD2), _, rfl, ?_⟩
      by_cases k : asg.all us.contains = true
      · rw [show (asg.map us.contains).all id = true by rw [List.all_map]; exact k]
        exact iteF (rest H6 s6 (by rw [k, Bool.or_true]))
      · rw [show (asg.map us.contains).all id = false by rw [List.all_map]; exact eq_false_of_ne_true k]
        have hk : keepsD (.tuple ds) fx us = false := by
          unfold keepsD
          rw [hps, hasg, hf, eq_false_of_ne_true k]
          rfl
        rw [hk] at q
        exact iteT (q _ (s3.trans s6))
end
end Dr
namespace Dr
open PySem PySem.Spec PyProof.Rows L2
abbrev sFirst : Stmt := topS 29
abbrev nFirst : List Str := ["params", "rows", "returns", "fixed", "usable", "at", "row", "param", "sort", "part"]
theorem scFirst : FnScope nFirst ["params", "rows", "returns"] (defScope sFirst) := ⟨rfl, rfl, rfl, by decide +kernel, rfl, by decide +kernel, by decide +kernel⟩
/-- a parameter's name, what it holds, its default, named or not -/
structure Pi where
  nm : Str
  hs : Str
  v : V
  nd : Bool
def PsAt (C : Addr) (H : Hp) (as : List Addr) (is : List Pi) : Prop := as.length = is.length ∧ ∀ (i : Nat) (a : Addr), as[i]? = some a → ∃ p, is[i]? = some p ∧ ParAt C H a p.nm p.hs p.v p.nd
theorem PsAt.same {C : Addr} {H H' : Hp} {as : List Addr} {is : List Pi} (h : PsAt C H as is) (s : Same H H') : PsAt C H' as is := ⟨h.1, fun i a e => by
  obtain ⟨p, e1, dx, e2⟩ := h.2 i a e
  exact ⟨p, e1, dx, s _ _ e2⟩⟩
def holding (w : Str) (is : List Pi) : List Str := (is.filter fun p => decide (p.hs = w)).map Pi.nm
theorem holding_next {w : Str} {is : List Pi} {i : Nat} {p : Pi} (h : is[i]? = some p) : holding w (is.take (i + 1)) = holding w (is.take i) ++ (if p.hs = w then [p.nm] else []) := by
  unfold holding
  rw [List.take_add_one, h, List.filter_append, List.map_append]
  show _ ++ List.map Pi.nm (List.filter _ [p]) = _
  by_cases e : p.hs = w
  · rw [List.filter_cons, if_pos (decide_eq_true e), if_pos e]
    rfl
  · rw [List.filter_cons, if_neg (by simpa using e), if_neg e]
    rfl
theorem holding_len (w : Str) (is : List Pi) : (holding w is).length ≤ is.length := by
  unfold holding
  rw [List.length_map]
  exact List.length_filter_le ..
/-- the first row, or the result, that is not right: the names that hold marks, those of boxes so far, the rows from here on -/
def fbr (fx : List Str) : List Str → List PyData → PyData → Nat → Option Nat
  | us, [], r, n => if hasForm S1 r resultForms && usesD us (partsD r resultForms) then none else some n
  | us, d :: ds, r, n => if hasForm S1 d rowForms && keepsD d fx us then fbr fx (us ++ ofSort "assigned" (partsD d rowForms)) ds r (n + 1) else some n
section
variable {P : Program} {w : World} {K : PySem.W.Frag} {mg : Str → Option Value} {base : Heap}
def optN : Option Nat → V
  | none => .non
  | some n => .int (n : Int)
def spFirstG (K : PySem.W.Frag) (C : Addr) : Sp := fun vs H Q _ => ∃ (tP tR : Addr) (vX : V) (dX : PyData) (as : List Addr) (is : List Pi) (rows : List V) (ds : List PyData), vs = [.ref tP, .ref tR, vX] ∧ SqT K H tP (as.map V.ref) ∧ PsAt C H as is ∧ as.length ≤ 100 ∧ SqT K H tR rows ∧ DpAll K H rows ds ∧ rows.length ≤ 40 ∧ (∀ d ∈ ds, OkD d) ∧ Dp K H vX dX ∧ OkD dX ∧ ∀ H', Same H H' → Q (optN (fbr (holding "mark" is) (holding "box" is) ds dX 0)) H'
theorem ok_firstG {kH : Nat} {C f fH fK fP fU : Addr} {fd fdH fdK fdP fdU : FuncData} (F : Fun K "first_bad_row" "first_bad_row" sFirst f fd) (W : Wds K mg) (T : Prm K mg C) (hen : mg "enumerate" = none) (TR : FmG K mg "ROWS" rowForms) (TX : FmG K mg "RESULTS" resultForms)
    (GH : FnOk P w K mg base CX0 kH fH fdH ["thing", "forms"] (spHas K S1 okA)) (mH : mg "has_form" = some (.ref fH)) (kkH : PySem.W.keepIn K (.ref fH) = true) (bH : Binds K fdH ["thing", "forms"] [])
    (GK : FnOk P w K mg base CX0 4 fK fdK ["row", "fixed", "usable"] (spKeepsG K)) (mK : mg "keeps_to" = some (.ref fK)) (kK : PySem.W.keepIn K (.ref fK) = true) (bK : Binds K fdK ["row", "fixed", "usable"] [])
    (GP : FnOk P w K mg base CX0 3 fP fdP ["thing", "forms"] (spPartsG K)) (mP : mg "parts_of" = some (.ref fP)) (kP : PySem.W.keepIn K (.ref fP) = true) (bP : Binds K fdP ["thing", "forms"] [])
    (GU : FnOk P w K mg base CX0 1 fU fdU ["parts", "usable"] (spUses K)) (mU : mg "uses_only" = some (.ref fU)) (kU : PySem.W.keepIn K (.ref fU) = true) (bU : Binds K fdU ["parts", "usable"] []) (h3 : 4 ≤ kH) :
    FnOk P w K mg base CX0 (kH + 1) f fd ["params", "rows", "returns"] (spFirstG K C) := by
  obtain ⟨aR, mR, fR⟩ := TR.ex
  obtain ⟨aX, mX, fX⟩ := TX.ex
  refine F.ok scFirst (fun vs H Q E h => ?_) (fun cdv A outer s H vs Q E hr h => ?_)
  · obtain ⟨tP, tR, vX, dX, as, is, rows, ds, rfl, _⟩ := h
    rfl
  · obtain ⟨tP, tR, vX, dX, as, is, rows, ds, rfl, hP, hps, las, hRs, hds, lrs, hokd, hX, hokX, q⟩ := h
    have hr1 : Room 1 _ := hr.mono (by omega)
    have hr2 : Room 2 _ := hr.mono (by omega)
    have hr3 : Room 3 _ := hr.mono (by omega)
    have hr4 : Room 4 _ := hr.mono (by omega)
    refine ⟨_, pss_cons (ps_setLc (i := 3) (own := [("param", 7)]) (g := gName 7) rfl scFirst.nd rfl rfl (sw_true rfl rfl rfl (by decide +kernel)) (pi_tup (pv 0)) (blkOk_by (N := nFirst) (sc := defScope sFirst) (by decide +kernel)) (fun _ _ _ _ _ => pg_name (i := 7) scFirst.nd rfl (Or.inl rfl))
          (fun _ _ _ _ _ => pts_one (pt_cmpR op_eq (show PE _ _ (tFld K (tVar 7) "holds") from pe_fld (pv 7) rfl) pe_str (nomark _))) (fun _ _ _ _ _ => (show PE _ _ (tFld K (tVar 7) "name") from pe_fld (pv 7) rfl)))
      (pss_cons (ps_setLc (i := 4) (own := [("param", 7)]) (g := gName 7) rfl scFirst.nd rfl rfl (sw_true rfl rfl rfl (by decide +kernel)) (pi_tup (pv 0)) (blkOk_by (N := nFirst) (sc := defScope sFirst) (by decide +kernel)) (fun _ _ _ _ _ => pg_name (i := 7) scFirst.nd rfl (Or.inl rfl))
          (fun _ _ _ _ _ => pts_one (pt_cmpR op_eq (show PE _ _ (tFld K (tVar 7) "holds") from pe_fld (pv 7) rfl) pe_str (nomark _))) (fun _ _ _ _ _ => (show PE _ _ (tFld K (tVar 7) "name") from pe_fld (pv 7) rfl)))
      (pss_cons (ps_for PassesOwn.never rfl (pi_enumT (by rfl) hen (pa_cons (pv 1) pa_nil)) (pg_tup rfl (pgs_cons (pg_name (i := 5) scFirst.nd rfl (.inl rfl)) (pgs_cons (pg_name (i := 6) scFirst.nd rfl (.inl rfl)) pgs_nil)))
        (pss_cons (ps_if (PW.pt (pw_or (pt_not (pt_val (pe_call GH hr (by rfl) mH kkH bH .nil pass0 (pa_cons (pv 6) (pa_cons (pe_glob (v := .ref aR) (by rfl) mR rfl) pa_nil)))))
            (pw_or1 (pt_not (pt_val (pe_call GK hr4 (by rfl) mK kK bK .nil pass0 (pa_cons (pv 6) (pa_cons (pv 3) (pa_cons (pv 4) pa_nil))))))))) (pss_one (ps_ret (pv 5))) pss_nil)
          (pss_one (ps_set (i := 4) scFirst.nd rfl (.inl rfl) (pe_op op_cat (pv 4)
            (pe_lc (own := [("sort", 8), ("part", 9)]) (g := gTup K 2 (gCons (gName 8) (gCons (gName 9) gNil))) rfl scFirst.nd (pi_list (pe_call GP hr3 (by rfl) mP kP bP .nil pass0 (pa_cons (pv 6) (pa_cons (pe_glob (v := .ref aR) (by rfl) mR rfl) pa_nil)))) (blkOk_by (N := nFirst) (sc := defScope sFirst) (by decide +kernel))
              (fun _ _ _ _ _ => pg_tup rfl (pgs_cons (pg_name (i := 8) scFirst.nd rfl (Or.inl rfl)) (pgs_cons (pg_name (i := 9) scFirst.nd rfl (Or.inl rfl)) pgs_nil))) (fun _ _ _ _ _ => pts_one (pt_cmpR op_eq (pv 8) pe_str (nomark _))) (fun _ _ _ _ _ => pv 9)))))))
      (pss_cons (ps_if (PW.pt (pw_or (pt_not (pt_val (pe_call GH hr (by rfl) mH kkH bH .nil pass0 (pa_cons (pv 2) (pa_cons (pe_glob (v := .ref aX) (by rfl) mX rfl) pa_nil)))))
            (pw_or1 (pt_not (pt_val (pe_call GU hr1 (by rfl) mU kU bU .nil pass0 (pa_cons (pe_call GP hr3 (by rfl) mP kP bP .nil pass0 (pa_cons (pv 2) (pa_cons (pe_glob (v := .ref aX) (by rfl) mX rfl) pa_nil))) (pa_cons (pv 4) pa_nil)))))))) (pss_one (ps_ret (pe_callB call_len_seq (by rfl) W.len PySem.boot_len (pa_cons (pv 1) pa_nil)))) pss_nil)
      (pss_one (ps_ret pe_non))))), ?_⟩
    have sH0 : Same H H := Same.refl _
    refine ⟨_, rfl, tP, rfl, ⟨_, Same.seqT sH0 hP⟩, fun D3 hD3 => ?_⟩
    refine lc_it walk_tup (fun i H3 => Same H H3 ∧ H3 D3 = some (.lst ((holding "mark" (is.take i)).map V.str))) ⟨same_upd hD3, upd_same⟩ (fun _ _ _ h => Same.seqT (sH0.trans h.1) hP) ?_ ?_
    · rintro i y H3 H4 hi ⟨sm, hl⟩ ⟨rfl, e1⟩
      rw [List.getElem?_map] at e1
      cases ha : as[i]? with
      | none =>
        rw [ha] at e1
        cases e1
      | some a =>
        rw [ha] at e1
        obtain rfl := Option.some.inj e1
        obtain ⟨p, hp, dx, hat⟩ := hps.2 i a ha
        have hat := sm _ _ (sH0 _ _ hat)
        refine ⟨rfl, _, rfl, a, C, dx, _, _, rfl, hat, T.cl, T.nH, pF_holds, rfl, _, rfl, ?_⟩
        by_cases hw : p.hs = "mark"
        · rw [decide_eq_true (by rw [hw])]
          refine iteT ⟨_, rfl, a, C, dx, _, _, rfl, hat, T.cl, T.nN, pF_name, _, hl, ?_, same_grow sm hD3, ?_⟩
          · rw [List.length_map]
            have h1 := holding_len "mark" (is.take i)
            rw [List.length_take] at h1
            have h2 := hps.1
            exact small1000 (by omega)
          · rw [upd_same, holding_next hp, if_pos hw, List.map_append]
            rfl
        · rw [decide_eq_false (fun e => hw (V.str.inj e))]
          refine iteF ⟨sm, ?_⟩
          rw [hl, holding_next hp, if_neg hw, List.append_nil]
    rintro H3 ⟨sm3, hl3⟩
    rw [List.length_map, hps.1, List.take_length] at hl3
    have sH3 := sH0.trans sm3
    refine ⟨_, rfl, tP, rfl, ⟨_, Same.seqT sH3 hP⟩, fun D4 hD4 => ?_⟩
    refine lc_it walk_tup (fun i G3 => Same H3 G3 ∧ G3 D4 = some (.lst ((holding "box" (is.take i)).map V.str))) ⟨same_upd hD4, upd_same⟩ (fun _ _ _ h => Same.seqT (sH3.trans h.1) hP) ?_ ?_
    · rintro i y G3 G4 hi ⟨sm, hl⟩ ⟨rfl, e1⟩
      rw [List.getElem?_map] at e1
      cases ha : as[i]? with
      | none =>
        rw [ha] at e1
        cases e1
      | some a =>
        rw [ha] at e1
        obtain rfl := Option.some.inj e1
        obtain ⟨p, hp, dx, hat⟩ := hps.2 i a ha
        have hat := sm _ _ (sH3 _ _ hat)
        refine ⟨rfl, _, rfl, a, C, dx, _, _, rfl, hat, T.cl, T.nH, pF_holds, rfl, _, rfl, ?_⟩
        by_cases hw : p.hs = "box"
        · rw [decide_eq_true (by rw [hw])]
          refine iteT ⟨_, rfl, a, C, dx, _, _, rfl, hat, T.cl, T.nN, pF_name, _, hl, ?_, same_grow sm hD4, ?_⟩
          · rw [List.length_map]
            have h1 := holding_len "box" (is.take i)
            rw [List.length_take] at h1
            have h2 := hps.1
            exact small1000 (by omega)
          · rw [upd_same, holding_next hp, if_pos hw, List.map_append]
            rfl
        · rw [decide_eq_false (fun e => hw (V.str.inj e))]
          refine iteF ⟨sm, ?_⟩
          rw [hl, holding_next hp, if_neg hw, List.append_nil]
    rintro H4 ⟨sm4, hl4⟩
    rw [List.length_map, hps.1, List.take_length] at hl4
    have sH4 := sH3.trans sm4
    have hl34 := sm4 _ _ hl3
    have hdl := dpAll_len hds
    refine ⟨_, rfl, tR, rows, rfl, Same.seqT sH4 hRs, for_it walk_enumT (fun n σ H5 => Same H H5 ∧ H5 D3 = some (.lst ((holding "mark" is).map V.str)) ∧ (∃ u x y us, σ = [some (.ref tP), some (.ref tR), some vX, some (.ref D3), some (.ref u), x, y, none, none, none] ∧ H5 u = some (.lst (us.map V.str)) ∧ us.length ≤ 100 + 16 * n ∧ fbr (holding "mark" is) (holding "box" is) ds dX 0 = fbr (holding "mark" is) us (ds.drop n) dX n))
      ⟨sH4, hl34, D4, _, _, holding "box" is, rfl, hl4, ?_, rfl⟩ (fun _ _ _ _ h => Same.seqT h.1 hRs) ?_ ?_⟩
    · have h1 := holding_len "box" is
      have h2 := hps.1
      omega
    · rintro n y σ H5 H6 hn ⟨sm, hF, u, x5, x6, us, rfl, hu, hul, hfbr⟩ ⟨T', u1, x, rfl, nT, rfl, e1, e2⟩
      obtain rfl := Option.some.inj e1
      have hn : n < rows.length := hn
      obtain ⟨d, hd, hxd⟩ := dpAll_get hds e2
      have hdrop : ds.drop n = d :: ds.drop (n + 1) := by
        obtain ⟨h1, h2⟩ := List.getElem?_eq_some_iff.mp hd
        rw [List.drop_eq_getElem_cons h1, h2]
      have hokd' := hokd d (List.mem_of_getElem? hd)
      have sT : Same H5 (upd H5 T' (.tup [.int (n : Int), x])) := same_upd nT
      refine ⟨T', _, rfl, .inl (.inl upd_same), rfl, _, _, rfl, _, _, rfl, rfl, ?_⟩
      have s1 := sm.trans sT
      refine ⟨_, rfl, x, d, aR, rowForms, rfl, dp_same s1 hxd, hokd', fR, row_ok.toD, fun H7 s7 => ⟨_, rfl, ?_⟩⟩
      have s17 := s1.trans s7
      by_cases hh : hasForm S1 d rowForms = true
      case neg =>
        rw [eq_false_of_ne_true hh]
        refine iteT ⟨_, rfl, ?_⟩
        have q' := q H7 s17
        rw [hfbr, hdrop] at q'
        unfold fbr at q'
        rw [eq_false_of_ne_true hh] at q'
        exact q'
      case pos =>
        rw [hh]
        refine iteF ?_
        obtain ⟨fm, hfm, _⟩ := hasForm_some hh
        obtain ⟨ds1, rfl, _, _⟩ := fits_tup (formOf_fits hfm).1
        obtain ⟨va, xs, rfl, hS1, hD1⟩ : ∃ va xs, x = .ref va ∧ SqT K H va xs ∧ DpAll K H xs ds1 := by
          cases hxd with
          | tup h hs => exact ⟨_, _, rfl, h, hs⟩
        refine ⟨_, rfl, _, rfl, _, rfl, va, D3, u, xs, ds1, holding "mark" is, us, rfl, Same.seqT s17 hS1, dpAll_same s17 hD1, hokd', hh, SqL.of (s7 _ _ (sT _ _ hF)), SqL.of (s7 _ _ (sT _ _ hu)), fun H8 s8 => ⟨_, rfl, ?_⟩⟩
        have s18 := s17.trans s8
        by_cases hk : keepsD (.tuple ds1) (holding "mark" is) us = true
        case neg =>
          rw [eq_false_of_ne_true hk]
          refine iteT ⟨_, rfl, ?_⟩
          have q' := q H8 s18
          rw [hfbr, hdrop] at q'
          unfold fbr at q'
          rw [hh, eq_false_of_ne_true hk] at q'
          exact q'
        case pos =>
          rw [hk]
          refine iteF ?_
          refine ⟨_, rfl, _, rfl, va, aR, xs, ds1, rowForms, rfl, Same.seqT s18 hS1, dpAll_same s18 hD1, hokd', fR, row_ok.len, by decide +kernel, hh, fun H9 l ys s9 nl hpt => ?_⟩
          have hn' := partsD_named hh
          have hpl := partsD_len (d := .tuple ds1) (fs := rowForms) (by decide +kernel)
          obtain ⟨ts, hl, lts, hp⟩ := hpt.ex
          generalize hps' : partsD (.tuple ds1) rowForms = ps at *
          refine ⟨l, rfl, ⟨_, SqL.of hl⟩, fun D hD => ?_⟩
          refine lc_it walk_list (fun i H3 => Same H9 H3 ∧ H3 D = some (.lst ((ofSort "assigned" (ps.take i)).map V.str))) ⟨same_upd hD, upd_same⟩ (fun _ _ _ h => h.1.seq (SqL.of hl)) ?_ ?_
          · rintro i y H3 H4 hi ⟨sm, hl3⟩ ⟨rfl, e1⟩
            rw [List.getElem?_map] at e1
            cases ht : ts[i]? with
            | none =>
              rw [ht] at e1
              cases e1
            | some t =>
              rw [ht] at e1
              obtain rfl := Option.some.inj e1
              obtain ⟨p, v, hpi, hT, hv⟩ := part_at hpt hn' hl ht
              refine ⟨t, _, rfl, SqT.of (sm _ _ hT), rfl, _, _, rfl, _, _, rfl, rfl, rfl, ?_⟩
              refine ⟨_, rfl, rfl, _, rfl, ?_⟩
              by_cases hu2 : p.1 = "assigned"
              · rw [decide_eq_true (by rw [hu2])]
                refine iteT ⟨_, rfl, _, hl3, ?_, same_grow sm hD, ?_⟩
                · rw [List.length_map]
                  have h1 := ofSort_len "assigned" (ps.take i)
                  rw [List.length_take] at h1
                  exact small1000 (by omega)
                · rw [upd_same, ofSort_next hpi, if_pos hu2, List.map_append, hv (by rw [hu2]; rfl)]
                  rfl
              · rw [decide_eq_false (fun e => hu2 (V.str.inj e))]
                refine iteF ⟨sm, ?_⟩
                rw [hl3, ofSort_next hpi, if_neg hu2, List.append_nil]
          rintro Ha ⟨sa, hla⟩
          rw [List.length_map, lts, List.take_length] at hla
          have kk := ((sT.trans s7).trans s8).trans (s9.trans sa)
          have hal : (ofSort "assigned" ps).length ≤ 16 := Nat.le_trans (ofSort_len _ _) hpl
          refine ⟨u, D, _, _, rfl, rfl, kk _ _ hu, hla, ?_, fun p np => ?_⟩
          · rw [List.length_map, List.length_map]
            exact Nat.le_of_lt (small1000 (by omega))
          · rw [← List.map_append]
            have sp := same_upd (o := .lst ((us ++ ofSort "assigned" ps).map V.str)) np
            refine ⟨(sm.trans kk).trans sp, sp _ _ (kk _ _ hF), p, _, _, us ++ ofSort "assigned" ps, rfl, upd_same, ?_, ?_⟩
            · rw [List.length_append]
              omega
            · rw [hfbr, hdrop]
              show (if (hasForm S1 (.tuple ds1) rowForms && keepsD (.tuple ds1) (holding "mark" is) us) = true then _ else _) = _
              rw [hh, hk, hps']
              rfl
    · rintro σ H5 ⟨sm, hF, u, x5, x6, us, rfl, hu, hul, hfbr⟩
      rw [hdl, List.drop_length] at hfbr
      refine ⟨_, rfl, vX, dX, aX, resultForms, rfl, dp_same sm hX, hokX, fX, result_ok.toD, fun H6 s6 => ⟨_, rfl, ?_⟩⟩
      have s16 := sm.trans s6
      by_cases hh : hasForm S1 dX resultForms = true
      case neg =>
        rw [eq_false_of_ne_true hh]
        refine iteT ⟨_, rfl, tR, rows, rfl, .inr (Same.seqT s16 hRs), ?_⟩
        have q' := q H6 s16
        rw [hfbr] at q'
        unfold fbr at q'
        rw [eq_false_of_ne_true hh, ← hdl] at q'
        exact q'
      case pos =>
        rw [hh]
        refine iteF ?_
        obtain ⟨fm, hfm, _⟩ := hasForm_some hh
        obtain ⟨ds1, rfl, _, _⟩ := fits_tup (formOf_fits hfm).1
        obtain ⟨va, xs, rfl, hS1, hD1⟩ : ∃ va xs, vX = .ref va ∧ SqT K H va xs ∧ DpAll K H xs ds1 := by
          cases hX with
          | tup h hs => exact ⟨_, _, rfl, h, hs⟩
        refine ⟨_, rfl, va, aX, xs, ds1, resultForms, rfl, Same.seqT s16 hS1, dpAll_same s16 hD1, hokX, fX, result_ok.len, by decide +kernel, hh, fun H7 l ys s7 nl hpt => ?_⟩
        have hn' := partsD_named hh
        have hpl := partsD_len (d := .tuple ds1) (fs := resultForms) (by decide +kernel)
        obtain ⟨ts, hl, lts, hp⟩ := hpt.ex
        have hv := dpAll_len hpt.dp
        rw [List.length_map] at hv
        have s17 := s16.trans s7
        refine ⟨_, rfl, l, u, ts, (partsD (.tuple ds1) resultForms).map Prod.fst, us, ys, rfl, SqL.of hl, SqL.of (s7 _ _ (s6 _ _ hu)), hp, by rw [List.length_map, lts], by rw [lts, hv], by omega, ?_, fun H8 s8 => ⟨_, rfl, ?_⟩⟩
        · intro i v ez ev
          rw [List.getElem?_map] at ez
          cases hpi : (partsD (.tuple ds1) resultForms)[i]? with
          | none =>
            rw [hpi] at ez
            cases ez
          | some p =>
            rw [hpi] at ez
            have ez := Option.some.inj ez
            rw [named_val hn' hpt.dp hpi ev (by rw [ez]; rfl)]
            rfl
        · rw [uses_eq us hn' hpt.dp]
          have q' := q H8 (s17.trans s8)
          rw [hfbr] at q'
          unfold fbr at q'
          rw [hh, Bool.true_and] at q'
          by_cases hk : usesD us (partsD (.tuple ds1) resultForms) = true
          · rw [hk] at q' ⊢
            exact iteF q'
          · rw [eq_false_of_ne_true hk, ← hdl] at q'
            rw [eq_false_of_ne_true hk]
            exact iteT ⟨_, rfl, tR, rows, rfl, .inr (Same.seqT (s17.trans s8) hRs), q'⟩
end
end Dr
namespace Dr
open PySem PySem.Spec PyProof.Rows L2
abbrev sENm : Stmt := inClass (topS 2) 0
theorem scENm : FnScope ["self", "name"] ["self", "name"] (defScope sENm) := ⟨rfl, rfl, rfl, by decide +kernel, rfl, by decide +kernel, by decide +kernel⟩
abbrev sERw : Stmt := inClass (topS 4) 0
theorem scERw : FnScope ["self", "at"] ["self", "at"] (defScope sERw) := ⟨rfl, rfl, rfl, by decide +kernel, rfl, by decide +kernel, by decide +kernel⟩
abbrev sEOr : Stmt := inClass (topS 5) 0
theorem scEOr : FnScope ["self", "name"] ["self", "name"] (defScope sEOr) := ⟨rfl, rfl, rfl, by decide +kernel, rfl, by decide +kernel, by decide +kernel⟩
abbrev sETw : Stmt := inClass (topS 6) 0
theorem scETw : FnScope ["self", "name"] ["self", "name"] (defScope sETw) := ⟨rfl, rfl, rfl, by decide +kernel, rfl, by decide +kernel, by decide +kernel⟩
abbrev sETm : Stmt := inClass (topS 7) 0
theorem scETm : FnScope ["self", "what"] ["self", "what"] (defScope sETm) := ⟨rfl, rfl, rfl, by decide +kernel, rfl, by decide +kernel, by decide +kernel⟩
abbrev sOrder : Stmt := topS 35
theorem scOrder : FnScope ["params", "before", "param"] ["params"] (defScope sOrder) := ⟨rfl, rfl, rfl, by decide +kernel, rfl, by decide +kernel, by decide +kernel⟩
/-- what stands of an error's class -/
structure Erc (K : PySem.W.Frag) (mg : Str → Option Value) (x f : Str) (C g : Addr) : Prop where
  oex : OexC K C
  no : PySem.W.findIn K (.ref C) f = some none
  init : PySem.W.findIn K (.ref C) "__init__" = some (some (.ref g))
  tyI : PySem.W.typeIn K (.ref g) = some (.type "function")
  mgC : mg x = some (.ref C)
section
variable {P : Program} {w : World} {K : PySem.W.Frag} {mg : Str → Option Value} {base : Heap}
def spExI (C : Addr) (f : Str) : Sp := fun vs H Q _ => ∃ (a : Addr) (y : V), vs = [.ref a, y] ∧ H a = some (exo a C none) ∧ ∀ d, H d = none → d ≠ a → Q .non (upd (upd H d (exd d [(f, y)])) a (exo a C (some d)))
theorem ok_eNm {x : Str} {C f : Addr} {fd : FuncData} (F : Fun K "__init__" "BadName.__init__" sENm f fd) (T : Erc K mg x "name" C f) : FnOk P w K mg base CX0 1 f fd ["self", "name"] (spExI C "name") := by
  refine F.ok scENm (fun vs H Q E h => ?_) (fun cdv A outer s H vs Q E hr h => ?_)
  · obtain ⟨a, y, rfl, _⟩ := h
    rfl
  · obtain ⟨a, y, rfl, ha, q⟩ := h
    exact ⟨_, pss_one (ps_ost (pv 0) (pv 1)), y, rfl, .ref a, rfl, a, C, rfl, T.oex, T.no, .inl ⟨ha, fun d nd ne => q d nd ne⟩⟩
theorem ok_eRw {x : Str} {C f : Addr} {fd : FuncData} (F : Fun K "__init__" "BadRow.__init__" sERw f fd) (T : Erc K mg x "at" C f) : FnOk P w K mg base CX0 1 f fd ["self", "at"] (spExI C "at") := by
  refine F.ok scERw (fun vs H Q E h => ?_) (fun cdv A outer s H vs Q E hr h => ?_)
  · obtain ⟨a, y, rfl, _⟩ := h
    rfl
  · obtain ⟨a, y, rfl, ha, q⟩ := h
    exact ⟨_, pss_one (ps_ost (pv 0) (pv 1)), y, rfl, .ref a, rfl, a, C, rfl, T.oex, T.no, .inl ⟨ha, fun d nd ne => q d nd ne⟩⟩
theorem ok_eOr {x : Str} {C f : Addr} {fd : FuncData} (F : Fun K "__init__" "BadOrder.__init__" sEOr f fd) (T : Erc K mg x "name" C f) : FnOk P w K mg base CX0 1 f fd ["self", "name"] (spExI C "name") := by
  refine F.ok scEOr (fun vs H Q E h => ?_) (fun cdv A outer s H vs Q E hr h => ?_)
  · obtain ⟨a, y, rfl, _⟩ := h
    rfl
  · obtain ⟨a, y, rfl, ha, q⟩ := h
    exact ⟨_, pss_one (ps_ost (pv 0) (pv 1)), y, rfl, .ref a, rfl, a, C, rfl, T.oex, T.no, .inl ⟨ha, fun d nd ne => q d nd ne⟩⟩
theorem ok_eTw {x : Str} {C f : Addr} {fd : FuncData} (F : Fun K "__init__" "Twice.__init__" sETw f fd) (T : Erc K mg x "name" C f) : FnOk P w K mg base CX0 1 f fd ["self", "name"] (spExI C "name") := by
  refine F.ok scETw (fun vs H Q E h => ?_) (fun cdv A outer s H vs Q E hr h => ?_)
  · obtain ⟨a, y, rfl, _⟩ := h
    rfl
  · obtain ⟨a, y, rfl, ha, q⟩ := h
    exact ⟨_, pss_one (ps_ost (pv 0) (pv 1)), y, rfl, .ref a, rfl, a, C, rfl, T.oex, T.no, .inl ⟨ha, fun d nd ne => q d nd ne⟩⟩
theorem ok_eTm {x : Str} {C f : Addr} {fd : FuncData} (F : Fun K "__init__" "TooMany.__init__" sETm f fd) (T : Erc K mg x "what" C f) : FnOk P w K mg base CX0 1 f fd ["self", "what"] (spExI C "what") := by
  refine F.ok scETm (fun vs H Q E h => ?_) (fun cdv A outer s H vs Q E hr h => ?_)
  · obtain ⟨a, y, rfl, _⟩ := h
    rfl
  · obtain ⟨a, y, rfl, ha, q⟩ := h
    exact ⟨_, pss_one (ps_ost (pv 0) (pv 1)), y, rfl, .ref a, rfl, a, C, rfl, T.oex, T.no, .inl ⟨ha, fun d nd ne => q d nd ne⟩⟩
/-- what a raise of such an error leaves -/
theorem ex_end {C a : Addr} {H : Hp} {f : Str} {y : V} {Q : XK} (na : H a = none) (q : ∀ d H', Same H H' → H' d = some (.xd [(f, y)]) → Q (.ref C) (some d) H') :
    spExI C f [.ref a, y] (upd H a (exo a C none)) (fun v H2 => v = .non ∧ ∃ (d : Addr) (fs : List (Str × V)), H2 a = some (exo a C (some d)) ∧ H2 d = some (exd d fs) ∧ H d = none ∧ Q (.ref C) (some d) (upd (del H2 a) d (.xd fs))) (fun _ _ _ => False) := by
  refine ⟨a, y, rfl, upd_same, fun d nd ne => ⟨rfl, d, [(f, y)], upd_same, by rw [upd_ne ne, upd_same], by rw [upd_ne ne] at nd; exact nd, q d _ (fun b o e => ?_) upd_same⟩⟩
  have n0 : H d = none := by
    rw [upd_ne ne] at nd
    exact nd
  have h1 : b ≠ d := ne_of_none e n0
  have h2 : b ≠ a := ne_of_none e na
  rw [upd_ne h1, del_ne h2, upd_ne h2, upd_ne h1, upd_ne h2]
  exact e
/-- q stands wrong behind p -/
def badPair (p q : Pi) : Bool := !q.nd && (p.nd || (decide (p.v ≠ .non) && decide (q.v = .non)))
def spOrder (K : PySem.W.Frag) (C CO : Addr) : Sp := fun vs H Q E => ∃ (tP : Addr) (as : List Addr) (is : List Pi), vs = [.ref tP] ∧ SqT K H tP (as.map V.ref) ∧ PsAt C H as is ∧ as.length ≤ 100 ∧
  (∀ H', Same H H' → (∀ (i : Nat) p q, is[i]? = some p → is[i + 1]? = some q → badPair p q = false) → Q .non H') ∧
  ∀ (i : Nat) p q, is[i]? = some p → is[i + 1]? = some q → badPair p q = true → (∀ (j : Nat) p q, j < i → is[j]? = some p → is[j + 1]? = some q → badPair p q = false) → ∀ d H', Same H H' → H' d = some (.xd [("name", .str q.nm)]) → E (.ref CO) (some d) H'
theorem ok_order {C CO f gO : Addr} {fd fdO : FuncData} (F : Fun K "check_order" "check_order" sOrder f fd) (W : Wds K mg) (T : Prm K mg C) (TO : Erc K mg "BadOrder" "name" CO gO)
    (GO : FnOk P w K mg base CX0 1 gO fdO ["self", "name"] (spExI CO "name")) (bO : Binds K fdO ["self", "name"] []) : FnOk P w K mg base (L2.CX P w) 3 f fd ["params"] (spOrder K C CO) := by
  refine F.okX scOrder (fun vs H Q E h => ?_) (fun cdv A outer s H vs Q E hr h => ?_)
  · obtain ⟨tP, as, is, rfl, _⟩ := h
    rfl
  · obtain ⟨tP, as, is, rfl, hP, hps, las, q0, q1⟩ := h
    refine ⟨_, pss_one (ps_for (passes_of rfl) rfl (RZ.pi_zipA (by rfl) W.zip (pa_cons (pv 0) (pa_cons (pe_slice sl_tail (pv 0) (po_some pe_int) po_none) pa_nil)))
        (pg_tup rfl (pgs_cons (pg_name (i := 1) scOrder.nd rfl (.inl rfl)) (pgs_cons (pg_name (i := 2) scOrder.nd rfl (.inl rfl)) pgs_nil)))
        (pss_one (ps_if (PW.pt (pw_and (pt_not (pt_val (pe_fld (pv 2) rfl))) (pw_and1 (PW.pt (pw_or (pt_val (pe_fld (pv 1) rfl)) (pw_or1 (PW.pt (pw_and (pt_cmpR op_notN (pe_fld (pv 1) rfl) pe_non (nomark _)) (pw_and1 (pt_cmpR op_isN (pe_fld (pv 2) rfl) pe_non (nomark _)))))))))))
          (pss_one (ps_raise rfl (takes_of rfl rfl rfl rfl) (pmk_oex TO.oex TO.init TO.tyI GO hr bO .nil pass0 (by rfl) TO.mgC (pa_cons (pe_fld (pv 2) rfl) pa_nil)))) pss_nil))), ?_⟩
    refine ⟨_, rfl, _, rfl, 1, rfl, rfl, rfl, tP, _, rfl, hP, fun b1 H1 s1 hb1 => ⟨tP, b1, as.map V.ref, (as.map V.ref).drop 1, rfl, .inr ⟨Same.seqT s1 hP, hb1, ?_⟩⟩⟩
    refine for_it (walk_zipT rfl) (fun i σ H3 => Same H1 H3 ∧ (∃ x y, σ = [some (.ref tP), x, y]) ∧ ∀ (j : Nat) p q, j < i → is[j]? = some p → is[j + 1]? = some q → badPair p q = false) ⟨Same.refl _, ⟨_, _, rfl⟩, fun j p q h => absurd h (Nat.not_lt_zero j)⟩ (fun _ _ _ _ h => ⟨Same.seqT (s1.trans h.1) hP, Same.seqT h.1 hb1⟩) ?_ ?_
    · rintro i y σ H3 H4 hi ⟨sm, ⟨x5, x6, rfl⟩, hall⟩ ⟨T', x, u, rfl, nT, rfl, e1, e2⟩
      have e1 := (show (as.map V.ref)[i]? = some x from e1)
      have e2 := (show ((as.map V.ref).drop 1)[i]? = some u from e2)
      rw [List.getElem?_drop, Nat.add_comm] at e2
      rw [List.getElem?_map] at e1 e2
      cases ha : as[i]? with
      | none =>
        rw [ha] at e1
        cases e1
      | some a =>
        cases hb : as[i + 1]? with
        | none =>
          rw [hb] at e2
          cases e2
        | some b =>
          rw [ha] at e1
          rw [hb] at e2
          obtain rfl := Option.some.inj e1
          obtain rfl := Option.some.inj e2
          obtain ⟨p, hp, dx, hA⟩ := hps.2 i a ha
          obtain ⟨q, hq, dy, hB⟩ := hps.2 (i + 1) b hb
          have sT := same_upd (o := .tup [.ref a, .ref b]) nT
          have ss := (s1.trans sm).trans sT
          have hA := ss _ _ hA
          have hB := ss _ _ hB
          have next : badPair p q = false → ∀ (j : Nat) p q, j < i + 1 → is[j]? = some p → is[j + 1]? = some q → badPair p q = false := fun h j p' q' hj h1 h2 => by
            by_cases e : j < i
            · exact hall j p' q' e h1 h2
            · obtain rfl : j = i := by omega
              rw [hp] at h1
              rw [hq] at h2
              obtain rfl := Option.some.inj h1
              obtain rfl := Option.some.inj h2
              exact h
          have bad : badPair p q = true → _ := fun h => q1 i p q hp hq h hall
          refine ⟨T', _, rfl, .inl (.inl upd_same), rfl, _, _, rfl, _, _, rfl, rfl, ?_⟩
          have raise : badPair p q = true → ∀ (H9 : Hp), H9 = upd H3 T' (.tup [.ref a, .ref b]) → 1 ≤ 1000 ∧ ∀ z, H9 z = none → spExI CO "name" [.ref z, .str q.nm] (upd H9 z (exo z CO none)) (fun v H2 => v = .non ∧ ∃ (d : Addr) (fs : List (Str × V)), H2 z = some (exo z CO (some d)) ∧ H2 d = some (exd d fs) ∧ H9 d = none ∧ E (.ref CO) (some d) (upd (del H2 z) d (.xd fs))) (fun _ _ _ => False) := fun h H9 e => by
            subst e
            exact ⟨by decide, fun z nz => ex_end nz fun d H' s' hd => bad h d H' (ss.trans s') hd⟩
          have ebp : badPair p q = (!q.nd && (p.nd || (decide (p.v ≠ .non) && decide (q.v = .non)))) := rfl
          refine ⟨_, rfl, b, C, dy, _, _, rfl, hB, T.cl, T.nA, pF_named, _, rfl, ?_⟩
          cases hqn : q.nd with
          | true =>
            refine iteF ⟨sm.trans sT, ⟨_, _, rfl⟩, next ?_⟩
            rw [ebp, hqn]
            rfl
          | false =>
            refine iteT ?_
            refine ⟨_, rfl, a, C, dx, _, _, rfl, hA, T.cl, T.nA, pF_named, _, rfl, ?_⟩
            cases hpn : p.nd with
            | true =>
              refine iteT ⟨_, rfl, b, C, dy, _, _, rfl, hB, T.cl, T.nN, pF_name, raise ?_ _ rfl⟩
              rw [ebp, hqn, hpn]
              rfl
            | false =>
              refine iteF ⟨_, rfl, a, C, dx, _, _, rfl, hA, T.cl, T.nD, pF_default, rfl, _, rfl, ?_⟩
              by_cases hv : p.v = .non
              · rw [decide_eq_true hv]
                refine iteF ⟨sm.trans sT, ⟨_, _, rfl⟩, next ?_⟩
                rw [ebp, hqn, hpn, decide_eq_false (fun h => h hv)]
                rfl
              · rw [decide_eq_false hv]
                refine iteT ⟨_, rfl, b, C, dy, _, _, rfl, hB, T.cl, T.nD, pF_default, rfl, _, rfl, ?_⟩
                by_cases hw : q.v = .non
                · rw [decide_eq_true hw]
                  refine iteT ⟨_, rfl, b, C, dy, _, _, rfl, hB, T.cl, T.nN, pF_name, raise ?_ _ rfl⟩
                  rw [ebp, hqn, hpn, decide_eq_true hv, decide_eq_true hw]
                  rfl
                · rw [decide_eq_false hw]
                  refine iteF ⟨sm.trans sT, ⟨_, _, rfl⟩, next ?_⟩
                  rw [ebp, hqn, hpn, decide_eq_false hw, Bool.and_false]
                  rfl
    · rintro σ H3 ⟨sm, ⟨x5, x6, rfl⟩, hall⟩
      refine q0 _ (s1.trans sm) fun i p q h1 h2 => hall i p q ?_ h1 h2
      have l1 := (List.getElem?_eq_some_iff.mp h2).1
      have l2 := hps.1
      show i < min (as.map V.ref).length ((as.map V.ref).drop 1).length
      rw [List.length_drop, List.length_map]
      omega
end
end Dr
namespace Dr
open PySem PySem.Spec PyProof.Rows L2
/-- t looks names up in the dict at D, one behind another, and goes on as r -/
def KwTo {α : Type} (D : Addr) : List (Str × Value) → Sem α → Sem α → Prop
  | [], t, r => t = r
  | q :: l, t, r => ∃ (β γ : Type) (k1 : Option Value → Sem β) (k2 : β → Sem γ) (k3 : γ → Sem α) (a : β), t = ((nsGet D q.1 >>= k1) >>= k2) >>= k3 ∧ k1 (some q.2) = pure a ∧ KwTo D l (k2 a >>= k3) r
theorem KwTo.run {α : Type} {K : PySem.W.Frag} {M : Model} {A : Around} {D : Addr} {E : Value → Shared → Prop} {s : Shared} {Q : α → Shared → Prop} (X : K.In s.heap) : ∀ {l : List (Str × Value)} {t r : Sem α}, (∀ q ∈ l, PySem.W.nsIn K D q.1 = some (some q.2)) → KwTo D l t r → wpAny M A r Q E s → wpAny M A t Q E s
  | [], t, r, _, e, h => by
    obtain rfl := (show t = r from e)
    exact h
  | q :: l, t, r, hl, e, h => by
    obtain ⟨β, γ, k1, k2, k3, a, e1, e2, e3⟩ := e
    have l1 : PySem.W.Looks M s.heap (nsGet D q.1 >>= k1) a := (PySem.W.looks_nsIn X (hl q (List.mem_cons_self ..))).andThen (PySem.W.Looks.of_pure e2)
    have h2 := KwTo.run X (fun p hp => hl p (List.mem_cons_of_mem _ hp)) e3 h
    rw [e1, bind_assoc]
    exact wpAny_bind (l1.here h2)
section
variable {CX : CXT} {P : Program} {w : World} {K : PySem.W.Frag} {mg : Str → Option Value} {base : Heap} {k n : Nat} {f : Addr} {name qual : Str} {params : Arguments} {body : List Stmt} {scope : Scope} {dV kV doc pm cdv ct oc : Value} {an od : Option Addr}
  {osl : Array (Option Value)} {N ps ks : List Str} {sp : Sp} {g : List Value → List Value → List Value} {gV : List V → List V → List V}
/-- def f(a, .., *v, k = d, ..), some keywords by their defaults -/
theorem fn_starD {pv : Str} (lk : K.lookup f = some ⟨oc, od, .func (PySem.W.fnOf name qual params body scope dV kV doc pm an cdv ct), osl⟩) (hcd : PySem.W.codeIn K cdv qual = true) (S : FnScope N (ps ++ [pv]) scope) (hCX : StX.CXUp CX)
    (hg : ∀ us ws : List Value, us.length = n → ws.length = ks.length → (g us ws).length = ps.length) (hr0 : ∀ {vs zs : List V} {us ws : List Value}, Vals vs us → Vals zs ws → Vals (gV vs zs) (g us ws))
    (hb : ∀ us rest ws : List Value, us.length = n → ws.length = ks.length → ∀ {M : Model} {A : Around} {E : Value → Shared → Prop} {s : Shared} {Q : List (Str × Value) → Shared → Prop}, K.In s.heap → wpAny M A (newTuple rest) (fun t s' => Q (ps.zip (g us ws) ++ [(pv, t)]) s') E s →
      wpAny M A (bindArgs (PySem.W.fnOf name qual params body scope dV kV doc pm an cdv ct) ⟨us ++ rest, ks.zip ws⟩) Q E s)
    (hbody : ∀ (A : Around) (outer : List Env) (s : Shared) (H : Hp) (vs : List V) (Q : VK) (E : XK), Room k (A.deeper (envOfC qual scope s.heap.objs.size f cdv)) → sp vs H Q E →
      ∃ t, PSs (cxOf CX P w K mg base N qual scope f cdv A outer s H E) body t ∧ t { nx := fun _ H' => Q .non H', rt := Q } (start N vs) H) :
    FnK P w K mg base CX (k + 1) f ks (fun vs zs H Q E => ∃ xs rest, vs = xs ++ rest ∧ xs.length = n ∧ rest.length ≤ sizeLine ∧ ∀ p, H p = Option.none → sp (gV xs zs ++ [V.ref p]) (upd H p (.tup rest)) Q E) := by
  intro A outer s H us ws vs zs Q E hr e0 r rz lz hsp
  obtain ⟨xs, rest, ev, hl, hz, hq⟩ := hsp
  subst ev
  obtain ⟨u1, u2, eu, r1, r2⟩ := StX.vals_split r
  subst eu
  have hn : H s.heap.objs.size = Option.none := e0.hok.fresh (Nat.le_refl _)
  have hl1 : u1.length = n := by rw [← r1.length]; exact hl
  have hlw : ws.length = ks.length := by rw [← rz.length]; exact lz
  have hl2 : u2.length ≤ sizeLine := by rw [← r2.length]; exact hz
  have KX : K.In s.heap := e0.mod.kin.keeps fun b o e => (e0.bs b o e).1
  have hgl : (gV xs zs).length = ps.length := (hr0 r1 rz).length.trans (hg u1 ws hl1 hlw)
  refine StX.run_bnd lk hcd S hr e0 (G := fun ys H2 => ∃ p, H p = Option.none ∧ ys = gV xs zs ++ [V.ref p] ∧ H2 = upd H p (.tup rest)) (fun A' Ex Q' h => ?_) fun s2 H2 ys ⟨p, hp, ex, eH⟩ hr' => ?_
  · refine hb u1 u2 ws hl1 hlw KX (wpAny_newTuple ?_ hl2)
    have new : ObjOk P w (upd H s.heap.objs.size (.tup rest)) (s.heap.push ({ cls := .type "tuple", data := .seq u2.toArray } : Obj)) s.heap.objs.size (.tup rest) := ⟨hz, u2, r2, ⟨_, Heap.get?_push_size _ rfl, rfl, _, rfl⟩⟩
    have un := StX.un_laid (fs := frs outer) (s := s) (o := ({ cls := .type "tuple", data := .seq u2.toArray } : Obj)) (u := .tup rest) hn
    have z := h _ _ (gV xs zs ++ [V.ref s.heap.objs.size]) (g u1 ws ++ [Value.ref s.heap.objs.size]) (StX.env0_laid e0 new) un rfl (fun e s' => hCX outer s H _ _ E e s' un (fun b o q => Heap.get?_push_of_some _ q) rfl) ((hr0 r1 rz).append (.cons rfl .nil))
      (by rw [List.length_append, List.length_append, hgl] <;> rfl) ⟨_, hn, rfl, rfl⟩
    rw [List.zip_append (hg u1 ws hl1 hlw).symm] at z
    exact z
  · subst ex eH
    exact hbody A outer s2 _ _ Q E hr' (hq p hp)
end
section
variable {X : Cx} {CX : CXT} {k : Nat} {f C : Addr} {ks : List Str} {sp : SpK} {E : L2.St → XK} {x : Str} {p pos : Pos} {e : Expr} {es : List Expr} {kws : List Keyword} {t tk : TA}
/-- C(e, .., k = v, ..), C's __init__ told by FnK -/
def tMkF (C : Addr) (m : Nat) (sp : SpK) (E : L2.St → XK) (t tk : TA) : TE := fun σ H Q => t σ H fun vs H1 => tk σ H1 fun zs H2 => zs.length = m ∧ ∀ x dx, H2 x = none → H2 dx = none → dx ≠ x →
  sp (.ref x :: vs) zs (upd (upd H2 dx (.own x)) x (.ins C dx [])) (fun v H3 => v = .non ∧ Q (.ref x) H3) (E σ)
/-- C(e, ..) -/
def tMkF0 (C : Addr) (sp : SpK) (E : L2.St → XK) (t : TA) : TE := fun σ H Q => t σ H fun vs H2 => ∀ x dx, H2 x = none → H2 dx = none → dx ≠ x →
  sp (.ref x :: vs) [] (upd (upd H2 dx (.own x)) x (.ins C dx [])) (fun v H3 => v = .non ∧ Q (.ref x) H3) (E σ)
theorem pe_mkF (M : Mk X.K C f) (F : FnK X.prog X.w X.K X.mg X.base CX k f ks sp) (hr : Room (k + 1) X.A) (hg : Gl X x) (hm : X.mg x = some (.ref C)) (hx : ∀ σ, PassesAt CX X σ (E σ)) (ha : PA X (e :: es) t) (hk : PK X kws tk)
    (c1 : (backToKw pos (keywordEach kws X.env)).all (·.1.isSome) = true := by rfl) (c2 : (backToKw pos (keywordEach kws X.env)).filterMap (·.1) = ks := by rfl) (c3 : (x == ("__debug__" : Str)) = false := by decide)
    (c4 : starEach (e :: es) X.env = (false, eval e X.env) :: starEach es X.env := by rfl) (c5 : ((backTo pos (starEach (e :: es) X.env)).any (·.1) || (backToKw pos (keywordEach kws X.env)).any (·.1.isNone)) = false := by rfl) :
    PE X (.Call (.Name x p) (e :: es) kws pos) (tMkF C ks.length sp E t tk) := by
  refine ⟨fun pins s σ H Q I h => wpAny_Call_Name_kw (ld_glob I hg hm ?_ c3)⟩
  refine PySem.W.callWith_KW (h₀ := X.base) I.ok.mod.kin M.kp c1 (thn (ha.run pos pins s σ H _ I h) fun us s1 ⟨vs, H1, I1, r1, q1⟩ => ?_) c5 c4
  refine thn (hk.run pos pins s1 σ H1 _ I1 q1) fun ws s2 ⟨zs, H2, I2, r2, l2, q2⟩ => ⟨I2.kIn, ?_⟩
  rw [c2]
  exact run_makeSK M F hr (hx σ) I2 r1 r2 l2 q2
theorem pe_mkF0 (M : Mk X.K C f) (F : FnK X.prog X.w X.K X.mg X.base CX k f [] sp) (hr : Room (k + 1) X.A) (hg : Gl X x) (hm : X.mg x = some (.ref C)) (hx : ∀ σ, PassesAt CX X σ (E σ)) (ha : PA X (e :: es) t)
    (c3 : (x == ("__debug__" : Str)) = false := by decide) (he : starEach (e :: es) X.env = (false, eval e X.env) :: starEach es X.env := by rfl) (hpl : (backTo pos (starEach es X.env)).any (·.1) = false := by rfl) :
    PE X (.Call (.Name x p) (e :: es) [] pos) (tMkF0 C sp E t) := by
  refine ⟨fun pins s σ H Q I h => wpAny_Call_Name_kw (ld_glob I hg hm ?_ c3)⟩
  refine PySem.W.callWith_K (h₀ := X.base) I.ok.mod.kin M.kp (thn (ha.run pos pins s σ H _ I h) fun us s1 ⟨vs, H1, I1, r, q⟩ => ⟨I1.kIn, ?_⟩) he hpl
  exact run_makeSK (ks := []) (ws := []) (zs := []) M F hr (hx σ) I1 r .nil rfl q
end
end Dr
namespace Dr
open PySem PySem.Spec PyProof.Rows L2
abbrev sMI : Stmt := inClass (topS 34) 3
abbrev sMOf : Stmt := inClass (topS 34) 4
abbrev nMI : List Str := ["self", "name", "rows", "returns", "params", "again", "at", "param"]
abbrev psMI : List Str := (["self", "name", "rows", "returns"] : List Str) ++ (["params"] : List Str)
theorem scMI : FnScope nMI psMI (defScope sMI) := ⟨rfl, rfl, rfl, by decide +kernel, rfl, by decide +kernel, by decide +kernel⟩
theorem scMOf : FnScope ["cls", "name", "params", "rows", "returns"] ["cls", "name", "params", "rows", "returns"] (defScope sMOf) := ⟨rfl, rfl, rfl, by decide +kernel, rfl, by decide +kernel, by decide +kernel⟩
/-- what stands of the class Method -/
structure Mtd (K : PySem.W.Frag) (mg : Str → Option Value) (C : Addr) (mc : Value) : Prop where
  cl : Cls K C
  nN : NoAttr K C "name"
  nP : NoAttr K C "params"
  nR : NoAttr K C "rows"
  nX : NoAttr K C "returns"
  mgC : mg "Method" = some (.ref C)
  rd : ClX.CRead K C mc
  k1 : ∃ u, ClX.CVal K C mc "MOST_PARAMS" (.int 4) u
  k2 : ∃ u, ClX.CVal K C mc "MOST_BOXES" (.int 2) u
  k3 : ∃ u, ClX.CVal K C mc "MOST_ROWS" (.int 8) u
def mF (vn vp vr vx : V) : List (Str × V) := putF "returns" vx (putF "rows" vr (putF "params" vp (putF "name" vn [])))
section
variable {P : Program} {w : World} {K : PySem.W.Frag} {mg : Str → Option Value} {base : Heap}
def errC (H : Hp) (E : XK) (c : Addr) (f : Str) (v : V) : Prop := ∀ d H', Same H H' → H' d = some (.xd [(f, v)]) → E (.ref c) (some d) H'
structure MErr where
  nm : Addr
  tw : Addr
  od : Addr
  tm : Addr
  rw : Addr
/-- what a method's making asks of its caller, where only its rows may be wrong -/
def spMI (K : PySem.W.Frag) (CM CP : Addr) (x : MErr) : Sp := fun vs H Q E => ∃ (p dx tR tP : Addr) (vn vX : V) (dn dX : PyData) (as : List Addr) (is : List Pi) (rows : List V) (ds : List PyData), vs = [.ref p, vn, .ref tR, vX, .ref tP] ∧ H p = some (.ins CM dx []) ∧ (Dp K H vn dn ∧ OkD dn ∧ isNameD dn = true) ∧ SqT K H tP (as.map V.ref) ∧ PsAt CP H as is ∧ as.length ≤ 4 ∧
  (∀ j, NewAt [] (is.map Pi.nm) j) ∧ (∀ (i : Nat) p q, is[i]? = some p → is[i + 1]? = some q → badPair p q = false) ∧ (holding "box" is).length ≤ 2 ∧ SqT K H tR rows ∧ DpAll K H rows ds ∧ rows.length ≤ 8 ∧ (∀ d ∈ ds, OkD d) ∧ Dp K H vX dX ∧ OkD dX ∧
  (∀ i, fbr (holding "mark" is) (holding "box" is) ds dX 0 = some i → errC H E x.rw "at" (.int (i : Int))) ∧ (fbr (holding "mark" is) (holding "box" is) ds dX 0 = none → ∀ H', (∀ b o, b ≠ p → H b = some o → H' b = some o) → H' p = some (.ins CM dx (mF vn (.ref tP) (.ref tR) vX)) → Q .non H')
theorem errC.go {H H1 : Hp} {E : XK} {c : Addr} {f : Str} {v : V} (h : errC H E c f v) (s : Same H H1) : 1 ≤ 1000 ∧ ∀ a, H1 a = none → spExI c f [.ref a, v] (upd H1 a (exo a c none)) (fun v H2 => v = .non ∧ ∃ (d : Addr) (fs : List (Str × V)), H2 a = some (exo a c (some d)) ∧ H2 d = some (exd d fs) ∧ H1 d = none ∧ E (.ref c) (some d) (upd (del H2 a) d (.xd fs))) (fun _ _ _ => False) :=
  ⟨by decide, fun _ na => ex_end na fun d H' s' hd => h d H' (s.trans s') hd⟩
abbrev FM (K : PySem.W.Frag) (kws : List (Str × V)) (f : Addr) (fd : FuncData) : Prop := FunD K "__init__" "Method.__init__" (defArgs sMI) (defBody sMI) (defScope sMI) [] kws f fd
theorem mi_body {kB : Nat} {CM CP fN fA fO fB gN gT gO gM gR : Addr} {mc : Value} {fdN fdA fdO fdB fdGN fdGT fdGM fdGR : FuncData} {x : MErr} (W : Wds K mg) (hany : mg "any" = none) (T : Prm K mg CP) (TM : Mtd K mg CM mc)
    (GN : FnOk P w K mg base CX0 1 fN fdN ["thing"] (spAsk K isNameD)) (mN : mg "is_name" = some (.ref fN)) (kN : PySem.W.keepIn K (.ref fN) = true) (bN : Binds K fdN ["thing"] [])
    (GA : FnOk P w K mg base CX0 1 fA fdA ["names", "taken"] (spAgain K)) (mA : mg "first_again" = some (.ref fA)) (kA : PySem.W.keepIn K (.ref fA) = true) (bA : Binds K fdA ["names", "taken"] [])
    (GO : FnOk P w K mg base (L2.CX P w) 3 fO fdO ["params"] (spOrder K CP x.od)) (mO : mg "check_order" = some (.ref fO)) (kO : PySem.W.keepIn K (.ref fO) = true) (bO : Binds K fdO ["params"] [])
    (GB : FnOk P w K mg base CX0 kB fB fdB ["params", "rows", "returns"] (spFirstG K CP)) (mB : mg "first_bad_row" = some (.ref fB)) (kkB : PySem.W.keepIn K (.ref fB) = true) (bB : Binds K fdB ["params", "rows", "returns"] [])
    (EN : Erc K mg "BadName" "name" x.nm gN) (GEN : FnOk P w K mg base CX0 1 gN fdGN ["self", "name"] (spExI x.nm "name")) (bEN : Binds K fdGN ["self", "name"] [])
    (ET : Erc K mg "Twice" "name" x.tw gT) (GET : FnOk P w K mg base CX0 1 gT fdGT ["self", "name"] (spExI x.tw "name")) (bET : Binds K fdGT ["self", "name"] [])
    (EM : Erc K mg "TooMany" "what" x.tm gM) (GEM : FnOk P w K mg base CX0 1 gM fdGM ["self", "what"] (spExI x.tm "what")) (bEM : Binds K fdGM ["self", "what"] [])
    (ER : Erc K mg "BadRow" "at" x.rw gR) (GER : FnOk P w K mg base CX0 1 gR fdGR ["self", "at"] (spExI x.rw "at")) (bER : Binds K fdGR ["self", "at"] []) (h3 : 3 ≤ kB)
    (f : Addr) (cdv : Value) (A : Around) (outer : List Env) (s : Shared) (H : Hp) (vs : List V) (Q : VK) (E : XK) (hr : Room kB (A.deeper (envOfC "Method.__init__" (defScope sMI) s.heap.objs.size f cdv))) (h : spMI K CM CP x vs H Q E) :
    ∃ t, PSs (cxOf (L2.CX P w) P w K mg base nMI "Method.__init__" (defScope sMI) f cdv A outer s H E) (defBody sMI) t ∧ t { nx := fun _ H' => Q .non H', rt := Q } (start nMI vs) H := by
  obtain ⟨p, dx, tR, tP, vn, vX, dn, dX, as, is, rows, ds, rfl, hp, ⟨hn, okn, e0⟩, hP, hps, hle, hnew, hord, hle2, hRs, hds, hle8, hokd, hX, hokX, qe, q⟩ := h
  have las : as.length ≤ 100 := by omega
  have hr1 : Room 1 _ := hr.mono (by omega)
  have hr2 : Room 2 _ := hr.mono (by omega)
  have hr3 : Room 3 _ := hr.mono (by omega)
  refine ⟨_, pss_cons (ps_if (pt_not (pt_val (pe_call GN hr1 (by rfl) mN kN bN .nil pass0 (pa_cons (pv 1) pa_nil)))) (pss_one (ps_raise rfl (takes_of rfl rfl rfl rfl) (pmk_oex EN.oex EN.init EN.tyI GEN hr2 bEN .nil pass0 (by rfl) EN.mgC (pa_cons (pv 1) pa_nil)))) pss_nil)
    (pss_cons (ps_set (i := 5) scMI.nd rfl (.inl rfl) (pe_call GA hr1 (by rfl) mA kA bA .nil pass0 (pa_cons
        (pe_lc (own := [("param", 7)]) (g := gName 7) (tt := tYes) rfl scMI.nd (pi_tup (pv 4)) (blkOk_by (N := nMI) (sc := defScope sMI) (by decide +kernel)) (fun _ _ _ _ _ => pg_name (i := 7) scMI.nd rfl (Or.inl rfl)) (fun _ _ _ _ _ => pts_nil) (fun _ _ _ _ _ => (show PE _ _ (tFld K (tVar 7) "name") from pe_fld (pv 7) rfl)))
        (pa_cons (pe_tup pa_nil) pa_nil))))
    (pss_cons (ps_if (pt_cmpR op_notN (pv 5) pe_non (nomark _)) (pss_one (ps_raise rfl (takes_of rfl rfl rfl rfl) (pmk_oex ET.oex ET.init ET.tyI GET hr2 bET .nil pass0 (by rfl) ET.mgC (pa_cons (pv 5) pa_nil)))) pss_nil)
    (pss_cons (ps_expr (pe_call GO hr3 (by rfl) mO kO bO .nil (passes_call (takes_of rfl rfl rfl rfl) (fun _ _ _ _ h => h)) (pa_cons (pv 4) pa_nil)))
    (pss_cons (ps_if (pt_cmpR op_gt (pe_callB call_len_seq (by rfl) W.len PySem.boot_len (pa_cons (pv 4) pa_nil)) (ClX.pe_cval (pe_glob (v := .ref CM) (by rfl) TM.mgC rfl)) (nomark _)) (pss_one (ps_raise rfl (takes_of rfl rfl rfl rfl) (pmk_oex EM.oex EM.init EM.tyI GEM hr2 bEM .nil pass0 (by rfl) EM.mgC (pa_cons pe_str pa_nil)))) pss_nil)
    (pss_cons (ps_if (pt_cmpR op_gt (pe_callB call_len_seq (by rfl) W.len PySem.boot_len (pa_cons
          (pe_lc (own := [("param", 7)]) (g := gName 7) rfl scMI.nd (pi_tup (pv 4)) (blkOk_by (N := nMI) (sc := defScope sMI) (by decide +kernel)) (fun _ _ _ _ _ => pg_name (i := 7) scMI.nd rfl (Or.inl rfl)) (fun _ _ _ _ _ => pts_one (pt_cmpR op_eq (show PE _ _ (tFld K (tVar 7) "holds") from pe_fld (pv 7) rfl) pe_str (nomark _))) (fun _ _ _ _ _ => pv 7)) pa_nil))
          (ClX.pe_cval (pe_glob (v := .ref CM) (by rfl) TM.mgC rfl)) (nomark _)) (pss_one (ps_raise rfl (takes_of rfl rfl rfl rfl) (pmk_oex EM.oex EM.init EM.tyI GEM hr2 bEM .nil pass0 (by rfl) EM.mgC (pa_cons pe_str pa_nil)))) pss_nil)
    (pss_cons (ps_if (pt_not (pt_val (pe_callB call_isi (by rfl) W.isi (by decide +kernel) (pa_cons (pv 2) (pa_cons (pe_bltn (v := .ty "tuple") (by rfl) W.tup (by decide +kernel) rfl) pa_nil))))) (pss_one (ps_raise rfl (takes_of rfl rfl rfl rfl) (pmk_oex ER.oex ER.init ER.tyI GER hr2 bER .nil pass0 (by rfl) ER.mgC (pa_cons (pe_un un_neg pe_int) pa_nil)))) pss_nil)
    (pss_cons (ps_set (i := 6) scMI.nd rfl (.inl rfl) (pe_call GB hr (by rfl) mB kkB bB .nil pass0 (pa_cons (pv 4) (pa_cons (pv 2) (pa_cons (pv 3) pa_nil)))))
    (pss_cons (ps_if (pt_cmpR op_notN (pv 6) pe_non (nomark _)) (pss_one (ps_raise rfl (takes_of rfl rfl rfl rfl) (pmk_oex ER.oex ER.init ER.tyI GER hr2 bER .nil pass0 (by rfl) ER.mgC (pa_cons (pv 6) pa_nil)))) pss_nil)
    (pss_cons (ps_if (pt_cmpR op_gt (pe_callB call_len_seq (by rfl) W.len PySem.boot_len (pa_cons (pv 2) pa_nil)) (ClX.pe_cval (pe_glob (v := .ref CM) (by rfl) TM.mgC rfl)) (nomark _)) (pss_one (ps_raise rfl (takes_of rfl rfl rfl rfl) (pmk_oex EM.oex EM.init EM.tyI GEM hr2 bEM .nil pass0 (by rfl) EM.mgC (pa_cons pe_str pa_nil)))) pss_nil)
    (pss_cons (ps_fld (pv 0) (pv 1) rfl) (pss_cons (ps_fld (pv 0) (pv 4) rfl) (pss_cons (ps_fld (pv 0) (pv 2) rfl) (pss_one (ps_fld (pv 0) (pv 3) rfl)))))))))))))), ?_⟩
  refine ⟨_, rfl, vn, dn, rfl, hn, okn, fun H1 s1 => ⟨_, rfl, ?_⟩⟩
  rw [e0]
  refine iteF ?_
  -- the names
  refine ⟨_, rfl, tP, rfl, ⟨_, Same.seqT s1 hP⟩, fun D hD => ?_⟩
  refine lc_it walk_tup (fun i H3 => Same H1 H3 ∧ H3 D = some (.lst (((is.map Pi.nm).take i).map V.str))) ⟨same_upd hD, upd_same⟩ (fun _ _ _ h => Same.seqT (s1.trans h.1) hP) ?_ ?_
  · rintro i y H3 H4 hi ⟨sm, hl⟩ ⟨rfl, e1⟩
    rw [List.getElem?_map] at e1
    cases ha : as[i]? with
    | none =>
      rw [ha] at e1
      cases e1
    | some a =>
      rw [ha] at e1
      obtain rfl := Option.some.inj e1
      obtain ⟨q, hq, dy, hat⟩ := hps.2 i a ha
      have hat := sm _ _ (s1 _ _ hat)
      refine ⟨rfl, ?_⟩
      unfold tYes
      refine iteT ⟨_, rfl, a, CP, dy, _, _, rfl, hat, T.cl, T.nN, pF_name, _, hl, ?_, same_grow sm hD, ?_⟩
      · rw [List.length_map, List.length_take, List.length_map]
        have := hps.1
        exact small1000 (by omega)
      · rw [upd_same, List.take_add_one, List.getElem?_map, hq, List.map_append]
        rfl
  rintro H2 ⟨sm2, hl2⟩
  rw [List.length_map, hps.1, List.take_of_length_le (by rw [List.length_map]; exact Nat.le_refl _)] at hl2
  refine ⟨by show 0 ≤ sizeLine; decide, fun t nt => ?_⟩
  have st := same_upd (o := .tup []) nt
  have s2 := (s1.trans sm2).trans st
  have hlen : (is.map Pi.nm).length ≤ 1000 := by
    rw [List.length_map, ← hps.1]
    omega
  refine ⟨D, t, is.map Pi.nm, [], rfl, SqL.of (st _ _ hl2), .inr (SqT.of upd_same), hlen, fun H3 s3 _ => ?_, fun H3 j y s3 hy hin2 hall2 => ?_⟩
  case refine_2 =>
    rcases hin2 with h2 | h2
    · cases h2
    · exact absurd h2 (hnew j y hy).2
  refine ⟨_, rfl, rfl, _, rfl, iteF ?_⟩
  have s3 := s2.trans s3
  -- the order
  refine ⟨_, rfl, tP, as, is, rfl, Same.seqT s3 hP, hps.same s3, las, fun H4 s4 _ => ?_, fun j p' q' g1 g2 gb gall d H4 s4 hd => absurd gb (by rw [hord j p' q' g1 g2]; simp)⟩
  have s4 := s3.trans s4
  -- how many
  obtain ⟨u4, hu4⟩ := TM.k1
  obtain ⟨u2, hu2⟩ := TM.k2
  obtain ⟨u8, hu8⟩ := TM.k3
  refine ⟨_, rfl, tP, _, rfl, .inr (Same.seqT s4 hP), CM, mc, .int 4, u4, rfl, TM.rd, hu4, _, _, rfl, rfl, _, rfl, ?_⟩
  rw [List.length_map]
  rw [decide_eq_false (show ¬ (as.length : Int) > 4 by omega)]
  refine iteF ?_
  -- the boxes
  refine ⟨_, rfl, tP, rfl, ⟨_, Same.seqT s4 hP⟩, fun D2 hD2 => ?_⟩
  refine lc_it walk_tup (fun i H5 => Same H4 H5 ∧ ∃ vs, H5 D2 = some (.lst vs) ∧ vs.length = (holding "box" (is.take i)).length) ⟨same_upd hD2, [], upd_same, rfl⟩ (fun _ _ _ h => Same.seqT (s4.trans h.1) hP) ?_ ?_
  · rintro i y H5 H6 hi ⟨sm, vs, hl, hvl⟩ ⟨rfl, e1⟩
    rw [List.getElem?_map] at e1
    cases ha : as[i]? with
    | none =>
      rw [ha] at e1
      cases e1
    | some a =>
      rw [ha] at e1
      obtain rfl := Option.some.inj e1
      obtain ⟨q, hq, dy, hat⟩ := hps.2 i a ha
      have hat := sm _ _ (s4 _ _ hat)
      refine ⟨rfl, _, rfl, a, CP, dy, _, _, rfl, hat, T.cl, T.nH, pF_holds, rfl, _, rfl, ?_⟩
      by_cases hw : q.hs = "box"
      · rw [decide_eq_true (by rw [hw])]
        refine iteT ⟨_, rfl, _, hl, ?_, same_grow sm hD2, _, upd_same, ?_⟩
        · have g1 := holding_len "box" (is.take i)
          rw [List.length_take] at g1
          have := hps.1
          exact small1000 (by omega)
        · rw [holding_next hq, if_pos hw, List.length_append, List.length_append, hvl]
          rfl
      · rw [decide_eq_false (fun e => hw (V.str.inj e))]
        refine iteF ⟨sm, vs, hl, ?_⟩
        rw [holding_next hq, if_neg hw, List.append_nil, hvl]
  rintro H5 ⟨sm5, vs5, hl5, hvl5⟩
  rw [List.length_map, hps.1, List.take_length] at hvl5
  have s5 := s4.trans sm5
  refine ⟨D2, _, rfl, .inl (SqL.of hl5), CM, mc, .int 2, u2, rfl, TM.rd, hu2, _, _, rfl, rfl, _, rfl, ?_⟩
  rw [hvl5]
  rw [decide_eq_false (show ¬ ((holding "box" is).length : Int) > 2 by omega)]
  refine iteF ?_
  -- a tuple of rows
  refine ⟨_, rfl, .ref tR, .ty "tuple", _, _, _, rfl, .ty _, dp_ty (dp_same s5 (Dp.tup hRs hds)), kit_tup (.tuple ds), _, rfl, ?_⟩
  refine iteF ?_
  -- the rows
  refine ⟨_, rfl, _, rfl, _, rfl, tP, tR, vX, dX, as, is, rows, ds, rfl, Same.seqT s5 hP, hps.same s5, las, Same.seqT s5 hRs, dpAll_same s5 hds, by omega, hokd, dp_same s5 hX, hokX, fun H6 s6 => ?_⟩
  have s6 := s5.trans s6
  cases hf : fbr (holding "mark" is) (holding "box" is) ds dX 0 with
  | some i => exact ⟨_, rfl, rfl, _, rfl, iteT ⟨_, rfl, (qe i hf).go s6⟩⟩
  | none =>
  refine ⟨_, rfl, rfl, _, rfl, iteF ?_⟩
  refine ⟨_, rfl, tR, _, rfl, .inr (Same.seqT s6 hRs), CM, mc, .int 8, u8, rfl, TM.rd, hu8, _, _, rfl, rfl, _, rfl, ?_⟩
  rw [decide_eq_false (show ¬ (rows.length : Int) > 8 by omega)]
  refine iteF ?_
  have hp6 := s6 _ _ hp
  refine ⟨_, rfl, _, rfl, p, CM, dx, _, rfl, hp6, TM.cl, TM.nN, (by show 0 < 1000; decide), ?_⟩
  refine ⟨_, rfl, _, rfl, p, CM, dx, _, rfl, upd_same, TM.cl, TM.nP, ?_, ?_⟩
  · exact Nat.lt_of_le_of_lt (putF_len _ _ _) (by show 1 < 1000; decide)
  refine ⟨_, rfl, _, rfl, p, CM, dx, _, rfl, upd_same, TM.cl, TM.nR, ?_, ?_⟩
  · exact Nat.lt_of_le_of_lt (Nat.le_trans (putF_len _ _ _) (Nat.succ_le_succ (putF_len _ _ _))) (by show 2 < 1000; decide)
  refine ⟨_, rfl, _, rfl, p, CM, dx, _, rfl, upd_same, TM.cl, TM.nX, ?_, ?_⟩
  · exact Nat.lt_of_le_of_lt (Nat.le_trans (putF_len _ _ _) (Nat.succ_le_succ (Nat.le_trans (putF_len _ _ _) (Nat.succ_le_succ (putF_len _ _ _))))) (by show 3 < 1000; decide)
  refine q hf _ (fun b o n e => ?_) upd_same
  rw [upd_ne n, upd_ne n, upd_ne n, upd_ne n]
  exact s6 _ _ e
theorem ok_mi {kB : Nat} {CM CP f fN fA fO fB gN gT gO gM gR : Addr} {mc : Value} {fd fdN fdA fdO fdB fdGN fdGT fdGM fdGR : FuncData} {kws : List (Str × V)} {x : MErr} (F : FM K kws f fd) (W : Wds K mg) (hany : mg "any" = none) (T : Prm K mg CP) (TM : Mtd K mg CM mc)
    (GN : FnOk P w K mg base CX0 1 fN fdN ["thing"] (spAsk K isNameD)) (mN : mg "is_name" = some (.ref fN)) (kN : PySem.W.keepIn K (.ref fN) = true) (bN : Binds K fdN ["thing"] [])
    (GA : FnOk P w K mg base CX0 1 fA fdA ["names", "taken"] (spAgain K)) (mA : mg "first_again" = some (.ref fA)) (kA : PySem.W.keepIn K (.ref fA) = true) (bA : Binds K fdA ["names", "taken"] [])
    (GO : FnOk P w K mg base (L2.CX P w) 3 fO fdO ["params"] (spOrder K CP x.od)) (mO : mg "check_order" = some (.ref fO)) (kO : PySem.W.keepIn K (.ref fO) = true) (bO : Binds K fdO ["params"] [])
    (GB : FnOk P w K mg base CX0 kB fB fdB ["params", "rows", "returns"] (spFirstG K CP)) (mB : mg "first_bad_row" = some (.ref fB)) (kkB : PySem.W.keepIn K (.ref fB) = true) (bB : Binds K fdB ["params", "rows", "returns"] [])
    (EN : Erc K mg "BadName" "name" x.nm gN) (GEN : FnOk P w K mg base CX0 1 gN fdGN ["self", "name"] (spExI x.nm "name")) (bEN : Binds K fdGN ["self", "name"] [])
    (ET : Erc K mg "Twice" "name" x.tw gT) (GET : FnOk P w K mg base CX0 1 gT fdGT ["self", "name"] (spExI x.tw "name")) (bET : Binds K fdGT ["self", "name"] [])
    (EM : Erc K mg "TooMany" "what" x.tm gM) (GEM : FnOk P w K mg base CX0 1 gM fdGM ["self", "what"] (spExI x.tm "what")) (bEM : Binds K fdGM ["self", "what"] [])
    (ER : Erc K mg "BadRow" "at" x.rw gR) (GER : FnOk P w K mg base CX0 1 gR fdGR ["self", "at"] (spExI x.rw "at")) (bER : Binds K fdGR ["self", "at"] []) (h3 : 3 ≤ kB) :
    FnK P w K mg base (L2.CX P w) (kB + 1) f ["rows", "returns"] (fun vs zs H Q E => ∃ xs rest, vs = xs ++ rest ∧ xs.length = 2 ∧ rest.length ≤ sizeLine ∧ ∀ p, H p = Option.none → spMI K CM CP x ((xs ++ zs) ++ [V.ref p]) (upd H p (.tup rest)) Q E) := by
  obtain ⟨oc, od, dV, kV, doc, pm, an, cdv, ct, osl, rfl, lk, hcd, hD, hK⟩ := F.ex
  refine fn_starK (n := 2) (ps := ["self", "name", "rows", "returns"]) (pv := "params") (g := fun xs ys => xs ++ ys) (sp := spMI K CM CP x) lk hcd scMI StX.cxUp (fun xs ys h1 h2 => by rw [List.length_append, h1, h2]; rfl) (fun r1 r2 => r1.append r2) (fun us rest ws h1 h2 M A E s Q KX h => ?_) (fun A outer s H vs Q E hr h => mi_body (gO := gO) W hany T TM GN mN kN bN GA mA kA bA GO mO kO bO GB mB kkB bB EN GEN bEN ET GET bET EM GEM bEM ER GER bER h3 f cdv A outer s H vs Q E hr h)
  · match us, ws, h1, h2 with
    | [a, b], [c, d], _, _ =>
      rcases hD with ⟨_, rfl⟩ | ⟨e, _⟩
      · have e : bindArgs (PySem.W.fnOf "__init__" "Method.__init__" (defArgs sMI) (defBody sMI) (defScope sMI) .none kV doc pm an cdv ct) ⟨[a, b] ++ rest, (["rows", "returns"] : List Str).zip [c, d]⟩ = (newTuple rest >>= fun t => pure ((["self", "name", "rows", "returns"] : List Str).zip ([a, b] ++ [c, d]) ++ [(("params" : Str), t)])) := by
          cases rest <;> rfl
        rw [e]
        exact wpAny_bind (wpAny_mono h (fun t s' q => wpAny_pure q) (fun _ _ z => z))
      · exact absurd rfl e
/-- Method(name, ..), rows and result by their defaults -/
theorem ok_miD {kB : Nat} {CM CP aE aX f fN fA fO fB gN gT gO gM gR : Addr} {mc : Value} {fd fdN fdA fdO fdB fdGN fdGT fdGM fdGR : FuncData} {x : MErr} (F : FM K [("rows", .ref aE), ("returns", .ref aX)] f fd) (W : Wds K mg) (hany : mg "any" = none) (T : Prm K mg CP) (TM : Mtd K mg CM mc)
    (GN : FnOk P w K mg base CX0 1 fN fdN ["thing"] (spAsk K isNameD)) (mN : mg "is_name" = some (.ref fN)) (kN : PySem.W.keepIn K (.ref fN) = true) (bN : Binds K fdN ["thing"] [])
    (GA : FnOk P w K mg base CX0 1 fA fdA ["names", "taken"] (spAgain K)) (mA : mg "first_again" = some (.ref fA)) (kA : PySem.W.keepIn K (.ref fA) = true) (bA : Binds K fdA ["names", "taken"] [])
    (GO : FnOk P w K mg base (L2.CX P w) 3 fO fdO ["params"] (spOrder K CP x.od)) (mO : mg "check_order" = some (.ref fO)) (kO : PySem.W.keepIn K (.ref fO) = true) (bO : Binds K fdO ["params"] [])
    (GB : FnOk P w K mg base CX0 kB fB fdB ["params", "rows", "returns"] (spFirstG K CP)) (mB : mg "first_bad_row" = some (.ref fB)) (kkB : PySem.W.keepIn K (.ref fB) = true) (bB : Binds K fdB ["params", "rows", "returns"] [])
    (EN : Erc K mg "BadName" "name" x.nm gN) (GEN : FnOk P w K mg base CX0 1 gN fdGN ["self", "name"] (spExI x.nm "name")) (bEN : Binds K fdGN ["self", "name"] [])
    (ET : Erc K mg "Twice" "name" x.tw gT) (GET : FnOk P w K mg base CX0 1 gT fdGT ["self", "name"] (spExI x.tw "name")) (bET : Binds K fdGT ["self", "name"] [])
    (EM : Erc K mg "TooMany" "what" x.tm gM) (GEM : FnOk P w K mg base CX0 1 gM fdGM ["self", "what"] (spExI x.tm "what")) (bEM : Binds K fdGM ["self", "what"] [])
    (ER : Erc K mg "BadRow" "at" x.rw gR) (GER : FnOk P w K mg base CX0 1 gR fdGR ["self", "at"] (spExI x.rw "at")) (bER : Binds K fdGR ["self", "at"] []) (h3 : 3 ≤ kB) :
    FnK P w K mg base (L2.CX P w) (kB + 1) f [] (fun vs zs H Q E => ∃ xs rest, vs = xs ++ rest ∧ xs.length = 2 ∧ rest.length ≤ sizeLine ∧ ∀ p, H p = Option.none → spMI K CM CP x ((xs ++ [.ref aE, .ref aX]) ++ [V.ref p]) (upd H p (.tup rest)) Q E) := by
  obtain ⟨oc, od, dV, kV, doc, pm, an, cdv, ct, osl, rfl, lk, hcd, hD, hK⟩ := F.ex
  rcases hD with ⟨_, rfl⟩ | ⟨e, _⟩
  case inr => exact absurd rfl e
  rcases hK with e | ⟨D, rfl, hq⟩
  · cases e
  obtain ⟨mv, hl, rk, hks⟩ := kwd_vals (ms := [("rows", .ref aE), ("returns", .ref aX)]) fun q hm => hq q hm
  have rk : Vals [V.ref aE, V.ref aX] mv := rk
  refine fn_starD (n := 2) (ps := ["self", "name", "rows", "returns"]) (pv := "params") (g := fun us _ => us ++ mv) (gV := fun vs _ => vs ++ [.ref aE, .ref aX]) (sp := spMI K CM CP x) lk hcd scMI StX.cxUp (fun us ws h1 h2 => by rw [List.length_append, h1, hl]; rfl) (fun r1 r2 => r1.append rk) (fun us rest ws h1 h2 M A E s Q KX h => ?_) (fun A outer s H vs Q E hr h => mi_body (gO := gO) W hany T TM GN mN kN bN GA mA kA bA GO mO kO bO GB mB kkB bB EN GEN bEN ET GET bET EM GEM bEM ER GER bER h3 f cdv A outer s H vs Q E hr h)
  match us, ws, mv, h1, h2, hl, hks with
  | [a, b], [], [c, d], _, _, _, hks =>
    refine KwTo.run KX hks (r := newTuple rest >>= fun t => pure ((["self", "name", "rows", "returns"] : List Str).zip ([a, b] ++ [c, d]) ++ [(("params" : Str), t)])) ?_ (wpAny_bind (wpAny_mono h (fun t s' q => wpAny_pure q) (fun _ _ z => z)))
    cases rest <;> exact ⟨_, _, _, _, _, _, rfl, rfl, ⟨_, _, _, _, _, _, rfl, rfl, rfl⟩⟩
end
end Dr
namespace Dr
open PySem PySem.Spec PyProof.Rows L2
abbrev psMOf : List Str := ["cls", "name", "params", "rows", "returns"]
abbrev kwMOf (aE aX : Addr) : List (Str × V) := [("rows", .ref aE), ("returns", .ref aX)]
abbrev FMOf (K : PySem.W.Frag) (aE aX : Addr) (f : Addr) (fd : FuncData) : Prop := FunD K "of" "Method.of" (defArgs sMOf) (defBody sMOf) (defScope sMOf) [] (kwMOf aE aX) f fd
/-- Method.of(name, params, rows = r, returns = x) -/
theorem bind_of {K : PySem.W.Frag} {aE aX f : Addr} {fd : FuncData} (F : FMOf K aE aX f fd) : ∃ mv : List Value, KBn K fd psMOf 3 ["rows", "returns"] (fun us ws => us ++ (ws ++ mv)) (fun vs zs => vs ++ (zs ++ [])) := by
  exact F.kbinds0 (ps := psMOf) 3 ["rows", "returns"] [] (fun us mv ws => us ++ (ws ++ mv)) (by simp) (fun q hq => by cases hq) (fun r1 r2 r3 => r1.append (r3.append r2))
    (fun D doc pm an cdv ct us mv ws l1 l2 l3 => match us, mv, ws, l1, l2, l3 with | [_, _, _], [], [_, _], _, _, _ => rfl)
section
variable {P : Program} {w : World} {K : PySem.W.Frag} {mg : Str → Option Value} {base : Heap}
def spMOf (K : PySem.W.Frag) (CM CP : Addr) (x : MErr) : Sp := fun vs H Q E => ∃ (vn : V) (aL : Addr) (vr vX : V) (as : List Addr), vs = [.ref CM, vn, .ref aL, vr, vX] ∧ (SqT K H aL (as.map V.ref) ∨ SqL K H aL (as.map V.ref)) ∧ as.length ≤ 100 ∧
  ∀ p dx tP H1, Same H H1 → H1 p = some (.ins CM dx []) → H1 tP = some (.tup (as.map V.ref)) → H p = none → spMI K CM CP x [.ref p, vn, vr, vX, .ref tP] H1 (fun v H3 => v = .non ∧ Q (.ref p) H3) E
theorem ok_mof {k : Nat} {CM CP f fI aE aX : Addr} {fd : FuncData} {x : MErr} (F : FMOf K aE aX f fd) (M : Mk K CM fI)
    (GI : FnK P w K mg base (L2.CX P w) k fI ["rows", "returns"] (fun vs zs H Q E => ∃ xs rest, vs = xs ++ rest ∧ xs.length = 2 ∧ rest.length ≤ sizeLine ∧ ∀ p, H p = Option.none → spMI K CM CP x ((xs ++ zs) ++ [V.ref p]) (upd H p (.tup rest)) Q E)) :
    FnOk P w K mg base (L2.CX P w) (k + 2) f fd psMOf (spMOf K CM CP x) := by
  refine F.ok scMOf (fun vs H Q E h => ?_) (fun cdv A outer s H vs Q E hr h => ?_)
  · obtain ⟨vn, aL, vr, vX, as, rfl, _⟩ := h
    rfl
  · obtain ⟨vn, aL, vr, vX, as, rfl, hL, las, q⟩ := h
    refine ⟨_, pss_one (ps_ret (pe_clsSK M GI hr (pv 0) (fun σ => passAt (takes_of rfl rfl rfl rfl) σ) (pa_cons (pv 1) (StX.pa_star (pv 2) pa_nil)) (pk_cons (pv 3) (pk_cons (pv 4) pk_nil)))), ?_⟩
    refine ⟨_, rfl, rfl, _, rfl, _, rfl, aL, as.map V.ref, rfl, hL, _, rfl, _, rfl, rfl, fun p dx hp hdx ne => ?_⟩
    refine ⟨[.ref p, vn], as.map V.ref, ?_, rfl, ?_, fun tP hT => ?_⟩
    · show [V.ref p, vn] ++ (as.map V.ref ++ []) = _
      rw [List.append_nil]
    · rw [List.length_map]
      exact Nat.le_of_lt (small1000 (by omega))
    · have hp2 : (upd H dx (.own p)) p = none := by
        rw [upd_ne ne.symm]
        exact hp
      have s1 : Same H (upd (upd H dx (.own p)) p (.ins CM dx [])) := (same_upd hdx).trans (same_upd hp2)
      have sT := same_upd (o := .tup (as.map V.ref)) hT
      exact q p dx tP _ (s1.trans sT) (sT _ _ upd_same) upd_same hp
end
end Dr
namespace Dr
open PySem PySem.Spec PyProof.Rows L2
open SX (S S_len S_cat)
theorem ltCps_tri : ∀ a b : List Nat, ltCps b a = false → a ≠ b → ltCps a b = true
  | [], [], _, n => absurd rfl n
  | [], _ :: _, _, _ => rfl
  | _ :: _, [], h, _ => by cases h
  | x :: r, y :: t, h, n => by
    have h' : ¬ y < x ∧ ((y == x) = true → ltCps t r = false) := by
      have q : (decide (y < x) || (y == x && ltCps t r)) = false := h
      rw [Bool.or_eq_false_iff] at q
      refine ⟨of_decide_eq_false q.1, fun e => ?_⟩
      have q2 := q.2
      rw [e] at q2
      exact q2
    show (decide (x < y) || (x == y && ltCps r t)) = true
    by_cases e : x = y
    · subst e
      have ih := ltCps_tri r t (h'.2 (beq_self_eq_true _)) (fun z => n (by rw [z]))
      rw [ih]
      simp
    · rw [decide_eq_true (show x < y by omega)]
      rfl
theorem asc_of : ∀ ys : List Str, sortedS ys = true → ys.Nodup → ascS ys = true
  | [], _, _ => rfl
  | [_], _, _ => rfl
  | x :: y :: r, h, n => by
    have h' : (!ltCps y.cps.toList x.cps.toList) = true ∧ risingS y r = true := by
      have q : (!ltCps y.cps.toList x.cps.toList && risingS y r) = true := h
      rw [Bool.and_eq_true] at q
      exact q
    have hne : x.cps.toList ≠ y.cps.toList := fun e => by
      have : x = y := by
        rw [← SX.S_tl x, ← SX.S_tl y, e]
      rw [List.nodup_cons] at n
      exact n.1 (by rw [this]; exact List.mem_cons_self ..)
    have hlt : ltS x y = true := by
      unfold ltS
      rw [← ltCps_eq]
      exact ltCps_tri _ _ (by simpa using h'.1) hne
    show (ltS x y && ascS (y :: r)) = true
    rw [hlt, asc_of (y :: r) h'.2 (List.nodup_cons.mp n).2]
    rfl
/-- a drawn default: none, a mark, items, a seat -/
inductive Df where
  | non
  | mk (o : List Nat)
  | its (w : Str) (zs : List Str)
  | seat (w o : Str) (x : List Nat)
def Df.data : Df → PyData
  | .non => .none
  | .mk o => .tuple [.str "mark", .str (S o)]
  | .its w zs => .tuple [.str w, .tuple (zs.map PyData.str)]
  | .seat w o x => .tuple [.str w, .str o, .str (S x)]
def DfAt (H : Hp) (v : V) : Df → Prop
  | .non => v = .non
  | .mk o => ∃ t, v = .ref t ∧ H t = some (.tup [.str "mark", .str (S o)])
  | .its w zs => ∃ t u, v = .ref t ∧ H t = some (.tup [.str w, .ref u]) ∧ H u = some (.tup (zs.map V.str))
  | .seat w o x => ∃ t, v = .ref t ∧ H t = some (.tup [.str w, .str o, .str (S x)])
structure SmS (z : Str) : Prop where
  ok : PyData.strOk z = true
  sm : z.length ≤ 1000
structure ItsOk (zs : List Str) : Prop where
  nm : ∀ z ∈ zs, nameOk z = true
  sm : ∀ z ∈ zs, SmS z
  asc : ascS zs = true
  len : zs.length ≤ 20
def Df.ok (hs : Str) : Df → Prop
  | .non => True
  | .mk o => hs = "mark" ∧ GoodN o
  | .its w zs => hs = "box" ∧ (w = "once" ∨ w = "anew") ∧ ItsOk zs
  | .seat w o x => hs = "box" ∧ ((w = "early" ∧ ∃ oc, o = S oc ∧ GoodN oc) ∨ (w = "late" ∧ (o = "cls" ∨ ∃ oc, o = S oc ∧ GoodN oc))) ∧ GoodN x
theorem sms_good {cs : List Nat} (g : GoodN cs) : SmS (S cs) := by
  refine ⟨?_, by rw [S_len]; have := g.hi; omega⟩
  unfold PyData.strOk
  rw [← Array.all_toList]
  refine List.all_eq_true.mpr fun c hc => ?_
  have q := List.all_eq_true.mp g.low c hc
  unfold lowC at q
  rw [Bool.and_eq_true] at q
  have := of_decide_eq_true q.2
  exact decide_eq_true (by omega)
theorem okD_sms {z : Str} (h : SmS z) : OkD (.str z) := by
  refine ⟨?_, decide_eq_true h.sm⟩
  show (PyData.strOk z && decide (0 ≤ 64)) = true
  rw [h.ok]
  rfl
theorem canAll_strs : ∀ {zs : List Str}, (∀ z ∈ zs, SmS z) → PyData.canLayAll0 (zs.map PyData.str) = true ∧ smAll (zs.map PyData.str) = true ∧ PyData.depthAll (zs.map PyData.str) = 0
  | [], _ => ⟨rfl, rfl, rfl⟩
  | z :: r, h => by
    have ih := canAll_strs (zs := r) fun x hx => h x (List.mem_cons_of_mem _ hx)
    have hz := h z (List.mem_cons_self ..)
    refine ⟨?_, ?_, ?_⟩
    · show (PyData.strOk z && PyData.canLayAll0 (r.map PyData.str)) = true
      rw [hz.ok, ih.1]
      rfl
    · show (decide (z.length ≤ 1000) && smAll (r.map PyData.str)) = true
      rw [decide_eq_true hz.sm, ih.2.1]
      rfl
    · show max 0 (PyData.depthAll (r.map PyData.str)) = 0
      rw [ih.2.2]
      rfl
theorem okD_strs {zs : List Str} (h : ∀ z ∈ zs, SmS z) (hl : zs.length ≤ 1000) : OkD (.tuple (zs.map PyData.str)) := by
  obtain ⟨h1, h2, h3⟩ := canAll_strs h
  refine ⟨?_, ?_⟩
  · show (PyData.canLayAll0 (zs.map PyData.str) && decide (PyData.depthAll (zs.map PyData.str) + 1 ≤ 64)) = true
    rw [h1, h3]
    rfl
  · show (decide ((zs.map PyData.str).length ≤ 1000) && smAll (zs.map PyData.str)) = true
    rw [h2, List.length_map, decide_eq_true hl]
    rfl
theorem sms_lit {z : Str} (h : (PyData.strOk z && decide (z.length ≤ 1000)) = true) : SmS z := by
  rw [Bool.and_eq_true] at h
  exact ⟨h.1, of_decide_eq_true h.2⟩
theorem Df.okD {hs : Str} : ∀ {f : Df}, f.ok hs → OkD f.data
  | .non, _ => ⟨rfl, rfl⟩
  | .mk o, h => okD_strs (zs := ["mark", S o]) (fun z hz => by
      rcases List.mem_cons.mp hz with e | hz
      · exact e ▸ sms_lit (by decide +kernel)
      · rcases List.mem_cons.mp hz with e | hz
        · exact e ▸ sms_good h.2
        · cases hz) (by show 2 ≤ 1000; decide)
  | .its w zs, h => by
    obtain ⟨_, hw, hz⟩ := h
    have hw' : SmS w := by
      rcases hw with e | e <;> (rw [e]; exact sms_lit (by decide +kernel))
    have q := okD_strs hz.sm (by have := hz.len; omega)
    refine ⟨?_, ?_⟩
    · have h1 := SeqAt.canLay_of_shaped q.sh
      have h3 := (canAll_strs hz.sm).2.2
      show ((PyData.strOk w && (PyData.canLay0 (.tuple (zs.map PyData.str)) && true)) && decide (max 0 (max (PyData.depthAll (zs.map PyData.str) + 1) 0) + 1 ≤ 64)) = true
      rw [hw'.ok, h1, h3]
      rfl
    · show (decide (2 ≤ 1000) && (decide (w.length ≤ 1000) && (smD (.tuple (zs.map PyData.str)) && true))) = true
      rw [decide_eq_true hw'.sm, q.sm]
      rfl
  | .seat w o x, h => by
    obtain ⟨_, hw, hx⟩ := h
    have hw' : SmS w := by
      rcases hw with ⟨e, _⟩ | ⟨e, _⟩ <;> (rw [e]; exact sms_lit (by decide +kernel))
    have ho : SmS o := by
      rcases hw with ⟨_, oc, e, g⟩ | ⟨_, e | ⟨oc, e, g⟩⟩
      · rw [e]; exact sms_good g
      · rw [e]; exact sms_lit (by decide +kernel)
      · rw [e]; exact sms_good g
    exact okD_strs (zs := [w, o, S x]) (fun z hz => by
      rcases List.mem_cons.mp hz with e | hz
      · exact e ▸ hw'
      · rcases List.mem_cons.mp hz with e | hz
        · exact e ▸ ho
        · rcases List.mem_cons.mp hz with e | hz
          · exact e ▸ sms_good hx
          · cases hz) (by show 3 ≤ 1000; decide)
theorem DfAt.dp {K : PySem.W.Frag} {H : Hp} {v : V} : ∀ {f : Df}, DfAt H v f → Dp K H v f.data
  | .non, h => by
    obtain rfl := h
    exact .non
  | .mk o, ⟨t, e, h⟩ => by
    subst e
    exact .tup (.inl (.inl h)) (.cons (.str _) (.cons (.str _) .nil))
  | .its w zs, ⟨t, u, e, h, h2⟩ => by
    subst e
    exact .tup (.inl (.inl h)) (.cons (.str _) (.cons (.tup (.inl (.inl h2)) (dpAll_strs zs)) .nil))
  | .seat w o x, ⟨t, e, h⟩ => by
    subst e
    exact .tup (.inl (.inl h)) (.cons (.str _) (.cons (.str _) (.cons (.str _) .nil)))
theorem items_ok {zs : List Str} (h : ItsOk zs) : isItemsD (.tuple (zs.map PyData.str)) = true := by
  show ((zs.map PyData.str).all isNameD && (match strsOf (zs.map PyData.str) with | some zs => ascS zs | none => false)) = true
  rw [strsOf_map]
  have e : (zs.map PyData.str).all isNameD = true := by
    rw [List.all_map]
    exact List.all_eq_true.mpr fun z hz => h.nm z hz
  rw [e]
  exact h.asc
def hitF (n : Nat) (w : Str) (f : Form) : Bool := match f with
  | w' :: q => (n == q.length) && (w == w')
  | [] => false
theorem form_hd {n : Nat} {w : Str} {ds : List PyData} {fs : List Form} {f : Form} (hn : ds.length = n) (h : fs.find? (hitF n w) = some f) : formOf (.tuple (.str w :: ds)) fs = some f := by
  unfold formOf
  subst hn
  have e : fits (.tuple (.str w :: ds)) = hitF ds.length w := by
    funext f
    cases f <;> rfl
  rw [e]
  exact h
theorem S0_item (d : PyData) : S0 d "item" = isNameD d := by
  unfold S0
  rw [if_neg (by decide +kernel), if_neg (by decide +kernel)]
theorem S0_kind (d : PyData) : S0 d "kind" = isNameD d := by
  unfold S0
  rw [if_neg (by decide +kernel), if_neg (by decide +kernel)]
theorem S0_value (d : PyData) : S0 d "value" = isNameD d := by
  unfold S0
  rw [if_neg (by decide +kernel), if_neg (by decide +kernel)]
theorem S0_items (d : PyData) : S0 d "items" = isItemsD d := if_pos rfl
theorem S0_owner (d : PyData) : S0 d "owner" = isOwnerD d := by
  unfold S0
  rw [if_neg (by decide +kernel), if_pos rfl]
theorem has1 {d d1 : PyData} {w s1 : Str} {fs : List Form} (h : formOf (.tuple [.str w, d1]) fs = some [w, s1]) : hasForm S0 (.tuple [.str w, d1]) fs = S0 d1 s1 := by
  unfold hasForm
  rw [h]
  show (S0 d1 s1 && true) = _
  rw [Bool.and_true]
theorem has2 {d1 d2 : PyData} {w s1 s2 : Str} {fs : List Form} (h : formOf (.tuple [.str w, d1, d2]) fs = some [w, s1, s2]) : hasForm S0 (.tuple [.str w, d1, d2]) fs = (S0 d1 s1 && S0 d2 s2) := by
  unfold hasForm
  rw [h]
  show (S0 d1 s1 && (S0 d2 s2 && true)) = _
  rw [Bool.and_true]
theorem isDef_box (d : PyData) : isDefD d "box" = hasForm S0 d boxForms := if_neg (by decide +kernel)
theorem isDef_mark (d : PyData) : isDefD d "mark" = hasForm S0 d markForms := if_pos rfl
theorem Df.isDef {hs : Str} : ∀ {f : Df}, f.ok hs → f.data = .none ∨ isDefD f.data hs = true
  | .non, _ => .inl rfl
  | .mk o, h => .inr (by
    obtain ⟨rfl, g⟩ := h
    rw [isDef_mark]
    show hasForm S0 (.tuple [.str "mark", .str (S o)]) markForms = true
    rw [has1 (d := .none) (s1 := "item") (form_hd (n := 1) rfl (by decide +kernel)), S0_item]
    exact g.ok)
  | .its w zs, h => .inr (by
    obtain ⟨rfl, hw, hz⟩ := h
    rw [isDef_box]
    show hasForm S0 (.tuple [.str w, .tuple (zs.map PyData.str)]) boxForms = true
    have e := items_ok hz
    rcases hw with rfl | rfl <;> (rw [has1 (d := .none) (s1 := "items") (form_hd (n := 1) rfl (by decide +kernel)), S0_items]; exact e))
  | .seat w o x, h => .inr (by
    obtain ⟨rfl, hw, hx⟩ := h
    rw [isDef_box]
    show hasForm S0 (.tuple [.str w, .str o, .str (S x)]) boxForms = true
    rcases hw with ⟨rfl, oc, rfl, g⟩ | ⟨rfl, ho⟩
    · rw [has2 (s1 := "kind") (s2 := "value") (form_hd (n := 2) rfl (by decide +kernel)), S0_kind, S0_value]
      show (nameOk (S oc) && nameOk (S x)) = true
      rw [g.ok, hx.ok]
      rfl
    · rw [has2 (s1 := "owner") (s2 := "value") (form_hd (n := 2) rfl (by decide +kernel)), S0_owner, S0_value]
      have ho' : isOwnerD (.str o) = true := by
        rcases ho with rfl | ⟨oc, rfl, g⟩
        · rfl
        · show ((S oc) == ("cls" : Str) || nameOk (S oc)) = true
          rw [g.ok, Bool.or_true]
      show (isOwnerD (.str o) && nameOk (S x)) = true
      rw [ho', hx.ok]
      rfl)
end Dr
namespace Dr
open PySem PySem.Spec PyProof.Rows L2
open SX (S S_len S_cat)
/-- tuples stay -/
def TupE (H H' : Hp) : Prop := ∀ b xs, H b = some (.tup xs) → H' b = some (.tup xs)
theorem TupE.trans {H H1 H2 : Hp} (a : TupE H H1) (b : TupE H1 H2) : TupE H H2 := fun c xs e => b c xs (a c xs e)
theorem TupE.same {H H' : Hp} (s : Same H H') : TupE H H' := fun c xs e => s _ _ e
theorem TupE.kp {p : Addr} {H H' : Hp} (hB : Bag H p) (k : Kp p H H') : TupE H H' := fun c xs e => k.1 _ _ (fun z => by
  obtain ⟨u, v, hp, _⟩ := hB
  rw [z, hp] at e
  cases e) e
theorem TupE.grow {H : Hp} {l : Addr} {us ys : List V} (hl : H l = some (.lst us)) : TupE H (upd H l (.lst ys)) := fun c xs e => by
  rw [upd_ne (fun z => by rw [z, hl] at e; cases e)]
  exact e
theorem txts_S (ys : List (List Nat)) : txts ys = (ys.map S).map V.str := by
  unfold txts
  rw [List.map_map]
  rfl
theorem its_of {zs ys : List (List Nat)} {qs : List Str} (hsub : ys.Sublist zs) (hl : zs.length ≤ 20) (hnd : zs.Nodup) (hg : ∀ z ∈ zs, GoodN z) (hp : qs.Perm (ys.map S)) (hs : sortedS qs = true) : ItsOk qs := by
  have hm : ∀ z ∈ qs, ∃ cs, z = S cs ∧ GoodN cs := fun z hz => by
    obtain ⟨cs, hc, e⟩ := List.mem_map.mp (hp.mem_iff.mp hz)
    exact ⟨cs, e.symm, hg cs (hsub.subset hc)⟩
  refine ⟨fun z hz => ?_, fun z hz => ?_, asc_of qs hs (hp.nodup_iff.mpr ?_), ?_⟩
  · obtain ⟨cs, rfl, g⟩ := hm z hz
    exact g.ok
  · obtain ⟨cs, rfl, g⟩ := hm z hz
    exact sms_good g
  · exact List.pairwise_map.mpr ((hsub.nodup hnd).imp fun {a b} n e => n (SX.S_inj e))
  · rw [hp.length_eq, List.length_map]
    exact Nat.le_trans hsub.length_le hl
theorem txts_mem {zs : List (List Nat)} {y : V} (h : y ∈ txts zs) : ∃ z ∈ zs, y = V.str (S z) := by
  obtain ⟨z, hz, e⟩ := List.mem_map.mp h
  exact ⟨z, hz, e.symm⟩
theorem txts_len {zs : List (List Nat)} : (txts zs).length = zs.length := by
  unfold txts
  rw [List.length_map]
theorem txts_get {zs : List (List Nat)} {i : Nat} {v : V} (h : (txts zs)[i]? = some v) : ∃ z, zs[i]? = some z ∧ v = .str (S z) := by
  unfold txts at h
  rw [List.getElem?_map] at h
  cases hz : zs[i]? with
  | none =>
    rw [hz] at h
    cases h
  | some z =>
    rw [hz] at h
    exact ⟨z, rfl, (Option.some.inj h).symm⟩
theorem txts_at {zs : List (List Nat)} {i : Nat} {z : List Nat} (h : zs[i]? = some z) : (txts zs)[i]? = some (.str (S z)) := by
  unfold txts
  rw [List.getElem?_map, h]
  rfl
theorem bag_ne {H : Hp} {p q : Addr} (h : Bag H p) (n : H q = none) : q ≠ p := fun e => by
  obtain ⟨u, v, hp, _⟩ := h
  rw [e, hp] at n
  cases n
theorem kp_new {p D : Addr} {H H3 : Hp} {o : HO} (k : Kp p H H3) (n : H D = none) (np : D ≠ p) : Kp p H (upd H3 D o) := by
  refine ⟨fun b x nb e => ?_, ?_⟩
  · rw [upd_ne (ne_of_none e n)]
    exact k.1 b x nb e
  · obtain ⟨u, v, hp, h⟩ := k.2
    refine ⟨u, v, ?_, h⟩
    rw [upd_ne np.symm]
    exact hp
theorem three_le : 3 ≤ sizeLine := by decide
structure BltS (mg : Str → Option Value) : Prop where
  tup : mg "tuple" = none
  srt : mg "sorted" = none
def tu (H : Hp) : Hp := fun b => match H b with
  | some (.tup xs) => some (.tup xs)
  | _ => none
theorem tu_at {H : Hp} {a : Addr} {xs : List V} (h : H a = some (.tup xs)) : tu H a = some (.tup xs) := by
  unfold tu
  rw [h]
theorem tu_inv {H : Hp} {a : Addr} {o : HO} (h : tu H a = some o) : ∃ xs, o = .tup xs ∧ H a = some (.tup xs) := by
  unfold tu at h
  split at h
  · next xs e => exact ⟨xs, (Option.some.inj h).symm, e⟩
  · cases h
theorem tu_sub {H : Hp} : Same (tu H) H := fun b o e => by
  obtain ⟨xs, rfl, h⟩ := tu_inv e
  exact h
theorem tu_ext {H H' : Hp} (s : TupE H H') : Same (tu H) (tu H') := fun b o e => by
  obtain ⟨xs, rfl, h⟩ := tu_inv e
  exact tu_at (s _ _ h)
abbrev Dt (K : PySem.W.Frag) (H : Hp) (v : V) (d : PyData) : Prop := Dp K (tu H) v d
abbrev DtAll (K : PySem.W.Frag) (H : Hp) (vs : List V) (ds : List PyData) : Prop := DpAll K (tu H) vs ds
theorem Dt.ext {K : PySem.W.Frag} {H H' : Hp} {v : V} {d : PyData} (h : Dt K H v d) (s : TupE H H') : Dt K H' v d := dp_same (tu_ext s) h
theorem DtAll.ext {K : PySem.W.Frag} {H H' : Hp} {vs : List V} {ds : List PyData} (h : DtAll K H vs ds) (s : TupE H H') : DtAll K H' vs ds := dpAll_same (tu_ext s) h
theorem Dt.dp {K : PySem.W.Frag} {H : Hp} {v : V} {d : PyData} (h : Dt K H v d) : Dp K H v d := dp_same tu_sub h
theorem DtAll.dp {K : PySem.W.Frag} {H : Hp} {vs : List V} {ds : List PyData} (h : DtAll K H vs ds) : DpAll K H vs ds := dpAll_same tu_sub h
theorem Dt.tup {K : PySem.W.Frag} {H : Hp} {a : Addr} {xs : List V} {ds : List PyData} (h : H a = some (.tup xs)) (hs : DtAll K H xs ds) : Dt K H (.ref a) (.tuple ds) := Dp.tup (SqT.of (tu_at h)) hs
theorem dpAll_snoc {K : PySem.W.Frag} {H : Hp} : ∀ {vs : List V} {ds : List PyData} {v : V} {d : PyData}, DpAll K H vs ds → Dp K H v d → DpAll K H (vs ++ [v]) (ds ++ [d])
  | _, _, _, _, .nil, h => .cons h .nil
  | _, _, _, _, .cons a as, h => .cons a (dpAll_snoc as h)
theorem okD_two {z : Str} {m : PyData} (hz : SmS z) (hm : OkD m) (hd : m.depth ≤ 10) : OkD (.tuple [.str z, m]) := by
  refine ⟨?_, ?_⟩
  · show ((PyData.strOk z && (m.canLay0 && true)) && decide (max 0 (max m.depth 0) + 1 ≤ 64)) = true
    rw [hz.ok, SeqAt.canLay_of_shaped hm.sh, decide_eq_true (by omega)]
    rfl
  · show (decide (2 ≤ 1000) && (decide (z.length ≤ 1000) && (smD m && true))) = true
    rw [decide_eq_true hz.sm, hm.sm]
    rfl
theorem depth_strs {zs : List Str} (h : ∀ z ∈ zs, SmS z) : (PyData.tuple (zs.map PyData.str)).depth = 1 := by
  show PyData.depthAll (zs.map PyData.str) + 1 = 1
  rw [(canAll_strs h).2.2]
theorem paired_snoc {α β : Type} {R : α → β → Prop} : ∀ {xs : List α} {ys : List β} {x : α} {y : β}, Paired R xs ys → R x y → Paired R (xs ++ [x]) (ys ++ [y])
  | _, _, _, _, .nil, h => .cons h .nil
  | _, _, _, _, .cons a as, h => .cons a (paired_snoc as h)
end Dr
namespace Dr
namespace Ds
open PySem PySem.Spec PyProof.Rows L2
open SX (S S_len S_cat)
open Dr (PE.imp PA.imp Up DP DPs)
open Classical in
/-- the heap without some places -/
noncomputable def hid (p : Addr → Prop) (H : Hp) : Hp := fun b => if p b then none else H b
/-- v is the datum d, and the bag at p is no part of it -/
abbrev Dq (K : PySem.W.Frag) (p : Addr → Prop) (H : Hp) (v : V) (d : PyData) : Prop := Dp K (hid p H) v d
abbrev DqAll (K : PySem.W.Frag) (p : Addr → Prop) (H : Hp) (vs : List V) (ds : List PyData) : Prop := DpAll K (hid p H) vs ds
theorem hid_sub {p : Addr → Prop} {H : Hp} : Same (hid p H) H := fun b o e => by
  unfold hid at e
  split at e
  · cases e
  · exact e
theorem hid_same {p : Addr → Prop} {H H' : Hp} (s : Same H H') : Same (hid p H) (hid p H') := fun b o e => by
  unfold hid at e ⊢
  split at e
  · cases e
  · rename_i n
    rw [if_neg n]
    exact s _ _ e
theorem hid_kp {p : Addr → Prop} {b0 : Addr} {H H' : Hp} (hb : p b0) (k : Kp b0 H H') : Same (hid p H) (hid p H') := fun b o e => by
  unfold hid at e ⊢
  split at e
  · cases e
  · rename_i n
    rw [if_neg n]
    exact k.1 _ _ (fun z => n (z ▸ hb)) e
theorem hid_at {p : Addr → Prop} {q : Addr} {H : Hp} {o : HO} (n : ¬ p q) (h : H q = some o) : hid p H q = some o := by
  unfold hid
  rw [if_neg n]
  exact h
theorem Dq.dp {K : PySem.W.Frag} {p : Addr → Prop} {H : Hp} {v : V} {d : PyData} (h : Dq K p H v d) : Dp K H v d := dp_same hid_sub h
theorem Dq.same {K : PySem.W.Frag} {p : Addr → Prop} {H H' : Hp} {v : V} {d : PyData} (h : Dq K p H v d) (s : Same H H') : Dq K p H' v d := dp_same (hid_same s) h
theorem Dq.kp {K : PySem.W.Frag} {p : Addr → Prop} {b0 : Addr} {H H' : Hp} {v : V} {d : PyData} (h : Dq K p H v d) (hb : p b0) (k : Kp b0 H H') : Dq K p H' v d := dp_same (hid_kp hb k) h
def tD (K : PySem.W.Frag) (p : Addr → Prop) (P : DP) : TE := fun σ H Q => ∃ d, P σ H d ∧ ∀ v H', Same H H' → Dq K p H' v d → Q v H'
def aD (K : PySem.W.Frag) (p : Addr → Prop) (P : DPs) : TA := fun σ H Q => ∃ ds, P σ H ds ∧ ∀ vs H', Same H H' → DqAll K p H' vs ds → Q vs H'
def isD (d : PyData) : DP := fun _ _ x => x = d
def slD (K : PySem.W.Frag) (p : Addr → Prop) (i : Nat) : DP := fun σ H d => ∃ v, σ[i]? = some (some v) ∧ Dq K p H v d
def nilD : DPs := fun _ _ ds => ds = []
def consD (P : DP) (Ps : DPs) : DPs := fun σ H ds => ∃ d r, P σ H d ∧ Ps σ H r ∧ ds = d :: r
def tupD (p : Addr → Prop) (Ps : DPs) : DP := fun σ H d => ∃ ds, Ps σ H ds ∧ ds.length ≤ 1000 ∧ (∀ b, p b → H b ≠ none) ∧ d = .tuple ds
def lstD (p : Addr → Prop) (Ps : DPs) : DP := fun σ H d => ∃ ds, Ps σ H ds ∧ ds.length ≤ 1000 ∧ (∀ b, p b → H b ≠ none) ∧ d = .list ds
theorem up_is {d : PyData} : Up (isD d) := fun _ _ _ _ _ h => h
theorem up_sl {K : PySem.W.Frag} {p : Addr → Prop} {i : Nat} : Up (slD K p i) := fun _ _ _ _ s ⟨v, e, h⟩ => ⟨v, e, Dq.same h s⟩
theorem up_nil : Up nilD := fun _ _ _ _ _ h => h
theorem up_cons {P : DP} {Ps : DPs} (h : Up P) (hs : Up Ps) : Up (consD P Ps) := fun σ H H' d s ⟨x, r, a, b, e⟩ => ⟨x, r, h σ H H' x s a, hs σ H H' r s b, e⟩
theorem up_tup {p : Addr → Prop} {Ps : DPs} (h : Up Ps) : Up (tupD p Ps) := fun σ H H' d s ⟨ds, a, b, c, e⟩ => ⟨ds, h σ H H' ds s a, b, fun b hb => Same.some s (c b hb), e⟩
theorem up_lst {p : Addr → Prop} {Ps : DPs} (h : Up Ps) : Up (lstD p Ps) := fun σ H H' d s ⟨ds, a, b, c, e⟩ => ⟨ds, h σ H H' ds s a, b, fun b hb => Same.some s (c b hb), e⟩
section
variable {X : Cx} {p : Addr → Prop}
theorem pd_str {x : Str} {j : Nat} {pos : Pos} : PE X (.Constant (.str x) j pos) (tD X.K p (isD (.str x))) := PE.imp pe_str fun _ H _ ⟨d, e, q⟩ => by
  cases (show d = .str x from e)
  exact q _ H (Same.refl _) (.str x)
theorem pd_int {x : Int} {j : Nat} {pos : Pos} : PE X (.Constant (.int x) j pos) (tD X.K p (isD (.int x))) := PE.imp pe_int fun _ H _ ⟨d, e, q⟩ => by
  cases (show d = .int x from e)
  exact q _ H (Same.refl _) (.int x)
theorem pd_bl {x : Bool} {j : Nat} {pos : Pos} : PE X (.Constant (.bool x) j pos) (tD X.K p (isD (.bool x))) := PE.imp pe_bl fun _ H _ ⟨d, e, q⟩ => by
  cases (show d = .bool x from e)
  exact q _ H (Same.refl _) (.bl x)
theorem pd_non {j : Nat} {pos : Pos} : PE X (.Constant .none j pos) (tD X.K p (isD .none)) := PE.imp pe_non fun _ H _ ⟨d, e, q⟩ => by
  cases (show d = .none from e)
  exact q _ H (Same.refl _) .non
theorem pd_v (i : Nat) {x : Str} {pos : Pos} (h : PE X (.Name x pos) (tVar i)) : PE X (.Name x pos) (tD X.K p (slD X.K p i)) := PE.imp h fun _ H _ ⟨_, ⟨v, e, hd⟩, q⟩ => ⟨v, e, q v H (Same.refl _) hd⟩
theorem pad_nil : PA X [] (aD X.K p nilD) := PA.imp pa_nil fun _ H _ ⟨ds, e, q⟩ => by
  cases (show ds = [] from e)
  exact q [] H (Same.refl _) .nil
theorem pad_cons {e : Expr} {es : List Expr} {P : DP} {Ps : DPs} (h : PE X e (tD X.K p P)) (hs : PA X es (aD X.K p Ps)) (u : Up Ps) (c : starEach (e :: es) X.env = (false, eval e X.env) :: starEach es X.env := by rfl) : PA X (e :: es) (aD X.K p (consD P Ps)) := PA.imp (pa_cons h hs c) fun σ H Q ⟨ds, ⟨d, r, a, b, e⟩, q⟩ => by
  subst e
  exact ⟨d, a, fun v H1 s1 h1 => ⟨r, u _ _ _ _ s1 b, fun vs H2 s2 h2 => q (v :: vs) H2 (s1.trans s2) (.cons (Dq.same h1 s2) h2)⟩⟩
theorem new_ne {p : Addr → Prop} {q : Addr} {H : Hp} (h : ∀ b, p b → H b ≠ none) (n : H q = none) : ¬ p q := fun e => h q e n
theorem pd_tup {es : List Expr} {k : Nat} {pos : Pos} {Ps : DPs} (h : PA X es (aD X.K p Ps)) : PE X (.Tuple es k pos) (tD X.K p (tupD p Ps)) := PE.imp (pe_tup h) fun σ H Q ⟨d, ⟨ds, a, b, c, e⟩, q⟩ => by
  subst e
  refine ⟨ds, a, fun vs H1 s1 h1 => ⟨by rw [dpAll_len h1]; exact Nat.le_of_lt (small1000 b), fun t nt => q _ _ (s1.trans (same_upd nt)) ?_⟩⟩
  exact .tup (SqT.of (hid_at (new_ne (fun b hb => Same.some s1 (c b hb)) nt) upd_same)) (dpAll_same (hid_same (same_upd nt)) h1)
theorem pd_lst {es : List Expr} {pos : Pos} {Ps : DPs} (h : PA X es (aD X.K p Ps)) : PE X (.List es pos) (tD X.K p (lstD p Ps)) := PE.imp (pe_lst h) fun σ H Q ⟨d, ⟨ds, a, b, c, e⟩, q⟩ => by
  subst e
  refine ⟨ds, a, fun vs H1 s1 h1 => ⟨by rw [dpAll_len h1]; exact Nat.le_of_lt (small1000 b), fun t nt => q _ _ (s1.trans (same_upd nt)) ?_⟩⟩
  exact .lst (SqL.of (hid_at (new_ne (fun b hb => Same.some s1 (c b hb)) nt) upd_same)) (dpAll_same (hid_same (same_upd nt)) h1)
/-- a list display, its list known -/
def tL (K : PySem.W.Frag) (p : Addr → Prop) (Ps : DPs) : TE := fun σ H Q => ∃ ds, Ps σ H ds ∧ ds.length ≤ 1000 ∧ (∀ b, p b → H b ≠ none) ∧ ∀ l xs H', Same H H' → ¬ p l → H l = none → H' l = some (.lst xs) → DqAll K p H' xs ds → Q (.ref l) H'
theorem pd_list {es : List Expr} {pos : Pos} {Ps : DPs} (h : PA X es (aD X.K p Ps)) : PE X (.List es pos) (tL X.K p Ps) := PE.imp (pe_lst h) fun σ H Q ⟨ds, a, b, c, q⟩ =>
  ⟨ds, a, fun vs H1 s1 h1 => ⟨by rw [dpAll_len h1]; exact Nat.le_of_lt (small1000 b), fun t nt => q t vs _ (s1.trans (same_upd nt)) (new_ne (fun b hb => Same.some s1 (c b hb)) nt) (s1.free nt) upd_same (dpAll_same (hid_same (same_upd nt)) h1)⟩⟩
end
theorem dt_hid {K : PySem.W.Frag} {p : Addr → Prop} {H : Hp} {v : V} {d : PyData} (hp : ∀ b, p b → ∃ xs, H b = some (.lst xs)) (h : Dt K H v d) : Dq K p H v d := dp_same (fun b o e => by
  obtain ⟨xs, rfl, e0⟩ := tu_inv e
  refine hid_at (fun hb => ?_) e0
  obtain ⟨ys, e2⟩ := hp b hb
  rw [e0] at e2
  cases e2) h
theorem hid_upd {p : Addr → Prop} {H : Hp} {b : Addr} {o : HO} (hb : p b) : Same (hid p H) (hid p (upd H b o)) := fun c x e => by
  unfold hid at e ⊢
  split at e
  · cases e
  · rename_i n
    have nb : c ≠ b := fun z => n (by rw [z]; exact hb)
    rw [if_neg n, upd_ne nb]
    exact e
end Ds
end Dr
namespace Dr
open PySem PySem.Spec PyProof.Rows L2
open SX (S S_len S_cat)
structure Smn (n : Nat) (d : PyData) : Prop where
  c : d.canLay0 = true
  s : smD d = true
  d : d.depth ≤ n
structure Smns (n : Nat) (ds : List PyData) : Prop where
  c : PyData.canLayAll0 ds = true
  s : smAll ds = true
  d : PyData.depthAll ds ≤ n
theorem smn_nil {n : Nat} : Smns n [] := ⟨rfl, rfl, Nat.zero_le _⟩
theorem smn_cons {n : Nat} {d : PyData} {ds : List PyData} (h : Smn n d) (hs : Smns n ds) : Smns n (d :: ds) := by
  refine ⟨?_, ?_, ?_⟩
  · show (d.canLay0 && PyData.canLayAll0 ds) = true
    rw [h.c, hs.c]
    rfl
  · show (smD d && smAll ds) = true
    rw [h.s, hs.s]
    rfl
  · show max d.depth (PyData.depthAll ds) ≤ n
    have := h.d
    have := hs.d
    omega
theorem smn_tup {n : Nat} {ds : List PyData} (h : Smns n ds) (l : ds.length ≤ 1000) : Smn (n + 1) (.tuple ds) := ⟨h.c, by
  show (decide (ds.length ≤ 1000) && smAll ds) = true
  rw [h.s, decide_eq_true l]
  rfl, Nat.succ_le_succ h.d⟩
theorem smn_lst {n : Nat} {ds : List PyData} (h : Smns n ds) (l : ds.length ≤ 1000) : Smn (n + 1) (.list ds) := ⟨h.c, by
  show (decide (ds.length ≤ 1000) && smAll ds) = true
  rw [h.s, decide_eq_true l]
  rfl, Nat.succ_le_succ h.d⟩
theorem smn_str {n : Nat} {z : Str} (h : SmS z) : Smn n (.str z) := ⟨h.ok, decide_eq_true h.sm, Nat.zero_le _⟩
theorem smn_lit {n : Nat} {z : Str} (h : (PyData.strOk z && decide (z.length ≤ 1000)) = true) : Smn n (.str z) := smn_str (sms_lit h)
theorem smn_int {n : Nat} (i : Int) : Smn n (.int i) := ⟨rfl, rfl, Nat.zero_le _⟩
theorem smn_bl {n : Nat} (b : Bool) : Smn n (.bool b) := ⟨rfl, rfl, Nat.zero_le _⟩
theorem smn_non {n : Nat} : Smn n .none := ⟨rfl, rfl, Nat.zero_le _⟩
theorem Smn.okD {n : Nat} {d : PyData} (h : Smn n d) (hn : n ≤ 60) : OkD d := ⟨by
  show (d.canLay0 && decide (d.depth ≤ 64)) = true
  rw [h.c, decide_eq_true (by have := h.d; omega)]
  rfl, h.s⟩
theorem Smns.all {n : Nat} : ∀ {ds : List PyData}, Smns n ds → ∀ d ∈ ds, Smn n d
  | [], _, _, h => by cases h
  | x :: r, h, d, hd => by
    have h1 : (x.canLay0 && PyData.canLayAll0 r) = true := h.c
    have h2 : (smD x && smAll r) = true := h.s
    have h3 : max x.depth (PyData.depthAll r) ≤ n := h.d
    rw [Bool.and_eq_true] at h1 h2
    rcases List.mem_cons.mp hd with rfl | hd
    · exact ⟨h1.1, h2.1, by omega⟩
    · exact Smns.all ⟨h1.2, h2.2, by omega⟩ d hd
theorem smns_of {n : Nat} : ∀ {ds : List PyData}, (∀ d ∈ ds, Smn n d) → Smns n ds
  | [], _ => smn_nil
  | x :: r, h => smn_cons (h x (List.mem_cons_self ..)) (smns_of fun d hd => h d (List.mem_cons_of_mem _ hd))
theorem Smn.mono {n m : Nat} {d : PyData} (h : Smn n d) (hm : n ≤ m) : Smn m d := ⟨h.c, h.s, Nat.le_trans h.d hm⟩
theorem no_hd {n : Nat} {w : Str} {ds : List PyData} {fs : List Form} (hn : ds.length = n) (h : fs.find? (hitF n w) = none) : hasForm S0 (.tuple (.str w :: ds)) fs = false := by
  have e : formOf (.tuple (.str w :: ds)) fs = none := by
    unfold formOf
    subst hn
    have e : fits (.tuple (.str w :: ds)) = hitF ds.length w := by
      funext f
      cases f <;> rfl
    rw [e]
    exact h
  unfold hasForm
  rw [e]
theorem paired_get2 {α β : Type} {R : α → β → Prop} : ∀ {xs : List α} {ys : List β} {i : Nat} {y : β}, Paired R xs ys → ys[i]? = some y → ∃ x, xs[i]? = some x ∧ R x y
  | _, _, i, y, .nil, h => by simp at h
  | _, _, 0, y, .cons r _, h => ⟨_, rfl, by
    have q := Option.some.inj h
    subst q
    exact r⟩
  | _, _, i + 1, y, .cons _ rs, h => paired_get2 (i := i) rs h
theorem its_nil : ItsOk [] := ⟨fun z hz => (nomatch hz), fun z hz => (nomatch hz), rfl, Nat.zero_le _⟩
end Dr
namespace Dr
open PySem PySem.Spec PyProof.Rows L2
open SX (S S_len S_cat)
def iSeq (K : PySem.W.Frag) (tl : TE) : TI := fun σ H R => tl σ H fun x H1 => (∃ a, x = .ref a ∧ (∃ xs, SqL K H1 a xs) ∧ R (Itl K a) H1) ∨ (∃ a, x = .ref a ∧ (∃ xs, SqT K H1 a xs) ∧ R (Itt K a) H1)
/-- a list or a tuple, walked -/
theorem pi_seq {X : Cx} {tg l : Expr} {tl : TE} (hl : PE X l tl) : PI X tg l (iSeq X.K tl) := by
  refine ⟨fun pins s σ H R I h => ?_⟩
  refine thn (hl.run pins s σ H _ I h) fun v s1 ⟨x, H1, I1, r1, q1⟩ => ?_
  rcases q1 with ⟨a, e, ⟨xs, hq⟩, q⟩ | ⟨a, e, ⟨xs, hq⟩, q⟩
  · subst e
    cases r1
    obtain ⟨its, rv, p, hz⟩ := I1.list hq
    refine wpAny_pyIter_list p.isList ?_
    refine ⟨s1.heap.objs.size, [s1.heap.objs.size], _, _, H1, rfl, I1.kept (t' := s1.toks) fun b o e => Heap.get?_push_of_some _ e, turn_list a _, ⟨_, Heap.get?_push_size _ rfl, rfl, rfl⟩, fun b hb => ?_, q⟩
    have e : b = s1.heap.objs.size := by simpa using hb
    subst e
    exact I1.fpOk (Nat.le_refl _) (I1.hok.fresh (Nat.le_refl _))
  · subst e
    cases r1
    obtain ⟨its, rv, p, hz⟩ := I1.tuple hq
    refine wpAny_pyIter_tuple (show s1.heap.IsTuple a its.toArray from p) ?_
    refine ⟨s1.heap.objs.size, [s1.heap.objs.size], _, _, H1, rfl, I1.kept (t' := s1.toks) fun b o e => Heap.get?_push_of_some _ e, turn_tuple a _, ⟨_, Heap.get?_push_size _ rfl, rfl, rfl⟩, fun b hb => ?_, q⟩
    have e : b = s1.heap.objs.size := by simpa using hb
    subst e
    exact I1.fpOk (Nat.le_refl _) (I1.hok.fresh (Nat.le_refl _))
theorem Kp.seqT {K : PySem.W.Frag} {p a : Addr} {H H' : Hp} {xs : List V} (k : Kp p H H') (n : a ≠ p) (h : SqT K H a xs) : SqT K H' a xs := by
  rcases h with (h | ⟨o, h⟩) | h
  · exact .inl (.inl (k.1 _ _ n h))
  · exact .inl (.inr ⟨o, k.1 _ _ n h⟩)
  · exact .inr h
abbrev sItems : Stmt := topS 41
abbrev nItems : List Str := ["_law_bag_here", "_law_some", "_law_shares", "_law_one"]
theorem scItems : FnScope nItems ["_law_bag_here", "_law_some", "_law_shares"] (defScope sItems) := ⟨rfl, rfl, rfl, by decide +kernel, rfl, by decide +kernel, by decide +kernel⟩
section
variable {P : Program} {w : World} {K : PySem.W.Frag} {mg : Str → Option Value} {base : Heap}
/-- some of these names, ascending -/
def spItems (K : PySem.W.Frag) : Sp := fun vs H Q _ => ∃ (p q0 : Addr) (sh : Int) (zs : List (List Nat)), vs = [.ref p, .ref q0, .int sh] ∧ Bag H p ∧ q0 ≠ p ∧ (SqL K H q0 (txts zs) ∨ SqT K H q0 (txts zs)) ∧ 1 ≤ sh ∧ sh ≤ 1000 ∧ zs.length ≤ 20 ∧ zs.Nodup ∧ (∀ z ∈ zs, GoodN z) ∧
  ∀ H' u (ys : List Str), Kp p H H' → H' u = some (.tup (ys.map V.str)) → ItsOk ys → (∀ y ∈ ys, ∃ z ∈ zs, y = S z) → Q (.ref u) H'
theorem ok_items_d {f fT : Addr} {fd fdT : FuncData} (F : Fun K "_law_items" "_law_items" sItems f fd) (B : BltS mg)
    (GT : FnOk P w K mg base CX0 1 fT fdT ["_law_bag_here", "_law_many"] spTake) (mT : mg "_law_take" = some (.ref fT)) (kT : PySem.W.keepIn K (.ref fT) = true) (bT : Binds K fdT ["_law_bag_here", "_law_many"] []) :
    FnOk P w K mg base CX0 2 f fd ["_law_bag_here", "_law_some", "_law_shares"] (spItems K) := by
  refine F.ok scItems (fun vs H Q E h => ?_) (fun cdv A outer s H vs Q E hr h => ?_)
  · obtain ⟨p, q0, sh, zs, rfl, _⟩ := h
    rfl
  · obtain ⟨p, q0, sh, zs, rfl, hB, nqp, hS, sh0, sh1, hl, hnd, hg, q⟩ := h
    refine ⟨_, pss_one (ps_ret (pe_callTy call_tuple_of (by rfl) B.tup (by decide +kernel) (pa_cons (pe_callB cr_sortedS (by rfl) B.srt (by decide +kernel) (pa_cons
            (pe_lc (own := [("_law_one", 3)]) (g := gName 3) (tt := _) rfl scItems.nd (pi_seq (pv 1)) (blkOk_by (N := nItems) (sc := defScope sItems) (by decide +kernel)) (fun _ _ _ _ _ => pg_name (i := 3) scItems.nd rfl (Or.inl rfl))
              (fun _ _ _ _ _ => pts_one (pt_cmpR op_eq (pe_call GT hr (by rfl) mT kT bT .nil pass0 (pa_cons (pv 0) (pa_cons (pv 2) pa_nil))) pe_int (nomark _))) (fun _ _ _ _ _ => pv 3)) pa_nil)) pa_nil))), ?_⟩
    have fin : ∀ (D : Addr) (H4 : Hp) (ys : List (List Nat)), Kp p H H4 → H4 D = some (.lst (txts ys)) → ys.Sublist zs → rSortedS K [.ref D] H4 (fun x H1 => ∃ p ys, [x] = [V.ref p] ∧ ((SqL K H1 p ys ∧ ∀ l, H1 l = none → Q (.ref l) (upd H1 l (.tup ys))) ∨ (SqT K H1 p ys ∧ Q (.ref p) H1))) := by
      intro D H4 ys k4 hD1 hsub
      rw [txts_S] at hD1
      refine ⟨D, ys.map S, rfl, SqL.of hD1, ?_, fun zs' a2 hperm hsrt na2 => ?_⟩
      · rw [List.length_map]
        have := hsub.length_le
        omega
      refine ⟨a2, _, rfl, .inl ⟨SqL.of upd_same, fun u nu => ?_⟩⟩
      refine q _ u zs' ((k4.same (same_upd na2)).same (same_upd nu)) upd_same (its_of hsub hl hnd hg hperm hsrt) (fun y hy => ?_)
      obtain ⟨z, hz, e⟩ := List.mem_map.mp (hperm.mem_iff.mp hy)
      exact ⟨z, hsub.subset hz, e.symm⟩
    rcases hS with hS | hS
    · refine ⟨_, rfl, .inl ⟨q0, rfl, ⟨_, hS⟩, fun D nD => ?_⟩⟩
      have nDp := bag_ne hB nD
      refine lc_it walk_list (fun i H4 => Kp p H H4 ∧ ∃ ys : List (List Nat), H4 D = some (.lst (txts ys)) ∧ ys.Sublist (zs.take i)) ⟨Kp.of hB (same_upd nD), [], upd_same, .refl _⟩ (fun i H4 _ h => h.1.seq nqp hS) ?_ ?_
      · rintro i x H4 H4' hi ⟨k4, ys, hD1, hsub⟩ ⟨rfl, e1⟩
        obtain ⟨z, hz, rfl⟩ := txts_get e1
        have hi := (List.getElem?_eq_some_iff.mp hz).1
        refine ⟨rfl, _, rfl, _, rfl, p, sh, rfl, k4.2, by omega, by omega, fun H5 r k5 r0 r2 => ⟨rfl, _, rfl, ite2 (fun _ => ?_) (fun _ => ?_)⟩⟩
        · refine ⟨_, rfl, _, k5.1 _ _ nDp hD1, ?_, kp_new (k4.trans k5) nD nDp, ys ++ [z], ?_, ?_⟩
          · rw [txts_len]
            have := hsub.length_le
            rw [List.length_take] at this
            exact small1000 (by omega)
          · rw [upd_same, ← txts_app]
            rfl
          · rw [List.take_add_one, hz]
            exact hsub.append (.refl _)
        · refine ⟨k4.trans k5, ys, k5.1 _ _ nDp hD1, ?_⟩
          rw [List.take_add_one, hz]
          exact hsub.trans (List.sublist_append_left _ _)
      rintro H4 ⟨k4, ys, hD1, hsub⟩
      rw [txts_len, List.take_length] at hsub
      exact fin D H4 ys k4 hD1 hsub
    · refine ⟨_, rfl, .inr ⟨q0, rfl, ⟨_, hS⟩, fun D nD => ?_⟩⟩
      have nDp := bag_ne hB nD
      refine lc_it walk_tup (fun i H4 => Kp p H H4 ∧ ∃ ys : List (List Nat), H4 D = some (.lst (txts ys)) ∧ ys.Sublist (zs.take i)) ⟨Kp.of hB (same_upd nD), [], upd_same, .refl _⟩ (fun i H4 _ h => Kp.seqT h.1 nqp hS) ?_ ?_
      · rintro i x H4 H4' hi ⟨k4, ys, hD1, hsub⟩ ⟨rfl, e1⟩
        obtain ⟨z, hz, rfl⟩ := txts_get e1
        have hi := (List.getElem?_eq_some_iff.mp hz).1
        refine ⟨rfl, _, rfl, _, rfl, p, sh, rfl, k4.2, by omega, by omega, fun H5 r k5 r0 r2 => ⟨rfl, _, rfl, ite2 (fun _ => ?_) (fun _ => ?_)⟩⟩
        · refine ⟨_, rfl, _, k5.1 _ _ nDp hD1, ?_, kp_new (k4.trans k5) nD nDp, ys ++ [z], ?_, ?_⟩
          · rw [txts_len]
            have := hsub.length_le
            rw [List.length_take] at this
            exact small1000 (by omega)
          · rw [upd_same, ← txts_app]
            rfl
          · rw [List.take_add_one, hz]
            exact hsub.append (.refl _)
        · refine ⟨k4.trans k5, ys, k5.1 _ _ nDp hD1, ?_⟩
          rw [List.take_add_one, hz]
          exact hsub.trans (List.sublist_append_left _ _)
      rintro H4 ⟨k4, ys, hD1, hsub⟩
      rw [txts_len, List.take_length] at hsub
      exact fin D H4 ys k4 hD1 hsub
end
end Dr
namespace Dr
open PySem PySem.Spec PyProof.Rows L2
open SX (S S_len S_cat)
abbrev NmL := List (List Nat)
/-- a right test: us are box variables, ts the items -/
def TG (us ts : NmL) (d : PyData) : Prop := ∃ (w : Str) (a b : List Nat), d = .tuple [.str w, .str (S a), .str (S b)] ∧ b ∈ us ∧ ((w = "in" ∧ a ∈ ts) ∨ ((w = "equal" ∨ w = "is") ∧ a ∈ us))
abbrev sTest : Stmt := topS 42
abbrev nTest : List Str := ["_law_bag_here", "_law_usable", "_law_things", "_law_word"]
theorem scTest : FnScope nTest ["_law_bag_here", "_law_usable", "_law_things"] (defScope sTest) := ⟨rfl, rfl, rfl, by decide +kernel, rfl, by decide +kernel, by decide +kernel⟩
/-- a list of names stands at q -/
structure NmsAt (H : Hp) (p q : Addr) (zs : NmL) : Prop where
  np : q ≠ p
  at_ : H q = some (.lst (txts zs))
  len : zs.length ≤ 60
theorem NmsAt.go {H H' : Hp} {p q : Addr} {zs : NmL} (h : NmsAt H p q zs) (k : Kp p H H') : NmsAt H' p q zs := ⟨h.np, k.1 _ _ h.np h.at_, h.len⟩
theorem NmsAt.same {H H' : Hp} {p q : Addr} {zs : NmL} (h : NmsAt H p q zs) (k : Same H H') : NmsAt H' p q zs := ⟨h.np, k _ _ h.at_, h.len⟩
section
variable {P : Program} {w : World} {K : PySem.W.Frag} {mg : Str → Option Value} {base : Heap}
/-- one of a list of names -/
theorem of_nms {p q : Addr} {zs : NmL} {H : Hp} {Q : VK} (hB : Bag H p) (h : NmsAt H p q zs) (hn : zs ≠ []) (k : ∀ H' z, Kp p H H' → z ∈ zs → Q (.str (S z)) H') : spOf K [.ref p, .ref q] H Q E0 := by
  have h1 : 1 ≤ zs.length := by
    cases zs with
    | nil => exact absurd rfl hn
    | cons a r => exact Nat.succ_le_succ (Nat.zero_le _)
  refine ⟨p, .ref q, rfl, hB, .inl ⟨q, txts zs, rfl, h.np, SqL.of h.at_, by rw [txts_len]; exact h1, by rw [txts_len]; have := h.len; omega, fun H' y k' hy => ?_⟩⟩
  obtain ⟨z, hz, rfl⟩ := txts_mem hy
  exact k H' z k' hz
/-- one of a list just laid -/
theorem of_new {p q : Addr} {xs : List V} {H : Hp} {Q : VK} (hB : Bag H p) (n : H q = none) (h1 : 1 ≤ xs.length) (h2 : xs.length ≤ 1000) (k : ∀ H' y, Kp p H H' → y ∈ xs → Q y H') : spOf K [.ref p, .ref q] (upd H q (.lst xs)) Q E0 := by
  have s := same_upd (o := .lst xs) n
  exact ⟨p, .ref q, rfl, hB.same s, .inl ⟨q, xs, rfl, bag_ne hB n, SqL.of upd_same, h1, h2, fun H' y k' hy => k H' y ((Kp.of hB s).trans k') hy⟩⟩
def spTest (K : PySem.W.Frag) : Sp := fun vs H Q _ => ∃ (p u t : Addr) (us ts : NmL), vs = [.ref p, .ref u, .ref t] ∧ Bag H p ∧ NmsAt H p u us ∧ NmsAt H p t ts ∧ us ≠ [] ∧ ts ≠ [] ∧
  ∀ H' y d, Kp p H H' → Dt K H' y d → TG us ts d → Q y H'
theorem ok_test {f fO : Addr} {fd fdO : FuncData} (F : Fun K "_law_test" "_law_test" sTest f fd)
    (GO : FnOk P w K mg base CX0 2 fO fdO ["_law_bag_here", "_law_some"] (spOf K)) (mO : mg "_law_of" = some (.ref fO)) (kO : PySem.W.keepIn K (.ref fO) = true) (bO : Binds K fdO ["_law_bag_here", "_law_some"] []) :
    FnOk P w K mg base CX0 3 f fd ["_law_bag_here", "_law_usable", "_law_things"] (spTest K) := by
  refine F.ok scTest (fun vs H Q E h => ?_) (fun cdv A outer s H vs Q E hr h => ?_)
  · obtain ⟨p, u, t, us, ts, rfl, _⟩ := h
    rfl
  · obtain ⟨p, u, t, us, ts, rfl, hB, hu, ht, nu, nt, q⟩ := h
    refine ⟨_, pss_cons (ps_set (i := 3) scTest.nd rfl (.inl rfl) (pe_call GO hr (by rfl) mO kO bO .nil pass0 (pa_cons (pv 0) (pa_cons (pe_lst (pa_cons pe_str (pa_cons pe_str (pa_cons pe_str (pa_cons pe_str pa_nil))))) pa_nil))))
      (pss_one (ps_ret (pe_tup (pa_cons (pv 3) (pa_cons (pe_ifExp (pt_cmpR op_eq (pv 3) pe_str (nomark _)) (pe_call GO hr (by rfl) mO kO bO .nil pass0 (pa_cons (pv 0) (pa_cons (pv 2) pa_nil))) (pe_call GO hr (by rfl) mO kO bO .nil pass0 (pa_cons (pv 0) (pa_cons (pv 1) pa_nil))))
        (pa_cons (pe_call GO hr (by rfl) mO kO bO .nil pass0 (pa_cons (pv 0) (pa_cons (pv 1) pa_nil))) pa_nil)))))), ?_⟩
    refine ⟨_, rfl, (by show 4 ≤ sizeLine; decide), fun l nl => ?_⟩
    refine of_new hB nl (by show 1 ≤ 4; decide) (by show 4 ≤ 1000; decide) (fun H1 y k1 hy => ?_)
    have fin : ∀ (wd : Str) (a : List Nat) (H2 : Hp), Kp p H H2 → ((wd = "in" ∧ a ∈ ts) ∨ ((wd = "equal" ∨ wd = "is") ∧ a ∈ us)) → spOf K [.ref p, .ref u] H2 (fun x H3 => 3 ≤ sizeLine ∧ ∀ t, H3 t = none → Q (.ref t) (upd H3 t (.tup [.str wd, .str (S a), x]))) E0 := by
      intro wd a H2 k2 hc
      refine of_nms k2.2 (hu.go k2) nu (fun H3 z k3 hz => ⟨three_le, fun t nt => ?_⟩)
      have st := same_upd (o := .tup [.str wd, .str (S a), .str (S z)]) nt
      exact q _ _ _ ((k2.trans k3).same st) (Dt.tup upd_same (.cons (.str _) (.cons (.str _) (.cons (.str _) .nil)))) ⟨wd, a, z, rfl, hz, hc⟩
    have hw : y = .str "in" ∨ y = .str "equal" ∨ y = .str "is" := by
      rcases List.mem_cons.mp hy with e | hy
      · exact .inl e
      rcases List.mem_cons.mp hy with e | hy
      · exact .inl e
      rcases List.mem_cons.mp hy with e | hy
      · exact .inr (.inl e)
      · exact .inr (.inr (List.mem_singleton.mp hy))
    rcases hw with rfl | rfl | rfl
    · refine ⟨_, rfl, _, rfl, rfl, _, rfl, iteT ⟨_, rfl, _, rfl, ?_⟩⟩
      exact of_nms k1.2 (ht.go k1) nt (fun H2 z k2 hz => ⟨_, rfl, _, rfl, fin "in" z H2 (k1.trans k2) (.inl ⟨rfl, hz⟩)⟩)
    · refine ⟨_, rfl, _, rfl, rfl, _, rfl, iteF ⟨_, rfl, _, rfl, ?_⟩⟩
      exact of_nms k1.2 (hu.go k1) nu (fun H2 z k2 hz => ⟨_, rfl, _, rfl, fin "equal" z H2 (k1.trans k2) (.inr ⟨.inl rfl, hz⟩)⟩)
    · refine ⟨_, rfl, _, rfl, rfl, _, rfl, iteF ⟨_, rfl, _, rfl, ?_⟩⟩
      exact of_nms k1.2 (hu.go k1) nu (fun H2 z k2 hz => ⟨_, rfl, _, rfl, fin "is" z H2 (k1.trans k2) (.inr ⟨.inr rfl, hz⟩)⟩)
end
end Dr
namespace Dr
open PySem PySem.Spec PyProof.Rows L2
open SX (S S_len S_cat)
/-- an owner and a value that may be written -/
def OwOk (o : Str) (v : List Nat) : Prop := (o = "cls" ∨ ∃ c, o = S c ∧ GoodN c) ∧ GoodN v
def itsD (ys : List Str) : PyData := .tuple (ys.map PyData.str)
abbrev owD (x : Str × List Nat) : PyData := .tuple [.str x.1, .str (S x.2)]
/-- an owner and a value of those that are seen; items of those that may be used -/
def OwIn (ows : List (Str × List Nat)) (o : Str) (v : List Nat) : Prop := OwOk o v ∧ (o, v) ∈ ows
def ItIn (ts : NmL) (ys : List Str) : Prop := ItsOk ys ∧ ∀ y ∈ ys, ∃ z ∈ ts, y = S z
/-- a right plain row: us are box variables, x the variable that it assigns -/
inductive PG (us ts : NmL) (ows : List (Str × List Nat)) : Option (List Nat) → PyData → Prop
  | new (x ys) : ItIn ts ys → PG us ts ows (some x) (.tuple [.str "new", .str (S x), itsD ys])
  | nam (w : Str) (x y) : w = "name" ∨ w = "copy" → y ∈ us → PG us ts ows (some x) (.tuple [.str w, .str (S x), .str (S y)])
  | get (x o v) : OwIn ows o v → PG us ts ows (some x) (.tuple [.str "get", .str (S x), .str o, .str (S v)])
  | add (w : Str) (y ys) : w = "add" ∨ w = "drop" → y ∈ us → ItIn ts ys → PG us ts ows none (.tuple [.str w, .str (S y), itsD ys])
  | grow (w o : Str) (v ys) : w = "grow" ∨ w = "shrink" → OwIn ows o v → ItIn ts ys → PG us ts ows none (.tuple [.str w, .str o, .str (S v), itsD ys])
  | set (o : Str) (v y) : OwIn ows o v → y ∈ us → PG us ts ows none (.tuple [.str "set", .str o, .str (S v), .str (S y)])
/-- what a row may assign: a usable name, or this new one, or none -/
def TgOk (us : NmL) (fr : Option (List Nat)) (x : Option (List Nat)) : Prop := ∀ y, x = some y → y ∈ us ∨ fr = some y
/-- a right row; x is what it assigns by itself -/
def RowG (us : NmL) (fr : Option (List Nat)) (ts : NmL) (ows : List (Str × List Nat)) (x : Option (List Nat)) (d : PyData) : Prop :=
  (PG us ts ows x d ∧ TgOk us fr x) ∨ (x = none ∧ ∃ (w : Str) (t d' : PyData) (x' : Option (List Nat)), (w = "if" ∨ w = "unless") ∧ TG us ts t ∧ PG us ts ows x' d' ∧ TgOk us none x' ∧ d = .tuple [.str w, t, d'])
structure OwsAt (K : PySem.W.Frag) (H : Hp) (p o : Addr) (os : List V) (ows : List (Str × List Nat)) : Prop where
  np : o ≠ p
  at_ : H o = some (.lst os)
  dt : DtAll K H os (ows.map owD)
  ok : ∀ x ∈ ows, OwOk x.1 x.2
  len : ows.length ≤ 60
theorem OwsAt.go {K : PySem.W.Frag} {H H' : Hp} {p o : Addr} {os : List V} {ows : List (Str × List Nat)} (hB : Bag H p) (h : OwsAt K H p o os ows) (k : Kp p H H') : OwsAt K H' p o os ows := ⟨h.np, k.1 _ _ h.np h.at_, h.dt.ext (TupE.kp hB k), h.ok, h.len⟩
theorem sms_ow {o : Str} {v : List Nat} (h : OwOk o v) : SmS o := by
  rcases h.1 with rfl | ⟨c, rfl, g⟩
  · exact sms_lit (by decide +kernel)
  · exact sms_good g
theorem smns_ows {ows : List (Str × List Nat)} (h : ∀ x ∈ ows, OwOk x.1 x.2) : Smns 1 (ows.map owD) := smns_of fun d hd => by
  obtain ⟨x, hx, rfl⟩ := List.mem_map.mp hd
  have h2 := h x hx
  exact smn_tup (n := 0) (smn_cons (smn_str (sms_ow h2)) (smn_cons (smn_str (sms_good h2.2)) smn_nil)) (by show 2 ≤ 1000; decide)
theorem smns_nms {zs : NmL} (h : ∀ z ∈ zs, GoodN z) : Smns 0 ((zs.map S).map PyData.str) := smns_of fun d hd => by
  rw [List.map_map] at hd
  obtain ⟨x, hx, rfl⟩ := List.mem_map.mp hd
  exact smn_str (sms_good (h x hx))
section
variable {P : Program} {w : World} {K : PySem.W.Frag} {mg : Str → Option Value} {base : Heap}
theorem ne_dat {q le : Addr} {ds : List PyData} {n : Nat} {H : Hp} {Q : VK} (h : Dp K H (.ref q) (.list ds)) (hs : Smns n ds) (hn : n ≤ 50) (hl : ds.length ≤ 1000) (nl : H le = none) (k : Q (.bl (!ds.isEmpty)) (upd H le (.lst []))) : rNeD K (.ref q) (.ref le) (upd H le (.lst [])) Q := by
  refine ⟨.list ds, .list [], dp_same (same_upd nl) h, .lst (SqL.of upd_same) .nil, ((smn_lst hs hl).okD (by omega)).sh, by decide +kernel, ?_⟩
  have e : PyData.eqv (.list ds) (.list []) = ds.isEmpty := by
    cases ds <;> rfl
  rw [e]
  exact k
theorem ne_nms {p q le : Addr} {zs : NmL} {H : Hp} {Q : VK} (h : NmsAt H p q zs) (hg : ∀ z ∈ zs, GoodN z) (nl : H le = none) (k : Q (.bl (!zs.isEmpty)) (upd H le (.lst []))) : rNeD K (.ref q) (.ref le) (upd H le (.lst [])) Q := by
  have hd : Dp K H (.ref q) (.list ((zs.map S).map PyData.str)) := .lst (SqL.of h.at_) (by rw [txts_S]; exact dpAll_strs _)
  refine ne_dat hd (smns_nms hg) (by decide) (by rw [List.length_map, List.length_map]; have := h.len; omega) nl ?_
  rw [show ((zs.map S).map PyData.str).isEmpty = zs.isEmpty by cases zs <;> rfl]
  exact k
theorem ne_ows {p q le : Addr} {os : List V} {ows : List (Str × List Nat)} {H : Hp} {Q : VK} (h : OwsAt K H p q os ows) (nl : H le = none) (k : Q (.bl (!ows.isEmpty)) (upd H le (.lst []))) : rNeD K (.ref q) (.ref le) (upd H le (.lst [])) Q := by
  refine ne_dat (.lst (SqL.of h.at_) h.dt.dp) (smns_ows h.ok) (by decide) (by rw [List.length_map]; have := h.len; omega) nl ?_
  rw [show (ows.map owD).isEmpty = ows.isEmpty by cases ows <;> rfl]
  exact k
theorem of_lst {p l : Addr} {ws : List V} {H : Hp} {Q : VK} (hB : Bag H p) (nl : l ≠ p) (h : H l = some (.lst ws)) (h1 : 1 ≤ ws.length) (h2 : ws.length ≤ 1000) (k : ∀ H' y, Kp p H H' → y ∈ ws → Q y H') : spOf K [.ref p, .ref l] H Q E0 :=
  ⟨p, .ref l, rfl, hB, .inl ⟨l, ws, rfl, nl, SqL.of h, h1, h2, k⟩⟩
theorem cut_1 (zs : NmL) : cutV (txts zs) none (some (1 : Int)) = txts (zs.take 1) := by
  cases zs with
  | nil => rfl
  | cons a r =>
    rw [show (1 : Int) = ((1 : Nat) : Int) from rfl, cut_take _ 1 (by rw [txts_len]; exact Nat.succ_le_succ (Nat.zero_le _))]
    rfl
theorem dt_pair {K : PySem.W.Frag} {H : Hp} {y : V} {a b : Str} (h : Dt K H y (.tuple [.str a, .str b])) : ∃ t, y = .ref t ∧ SqT K H t [.str a, .str b] := by
  cases h with
  | tup hs hd =>
    refine ⟨_, rfl, ?_⟩
    have hd := hd
    cases hd with
    | cons h1 h2 =>
      cases h1
      cases h2 with
      | cons h3 h4 =>
        cases h3
        cases h4
        exact Same.seqT tu_sub hs
abbrev sRow : Stmt := topS 43
abbrev nRow : List Str := ["_law_bag_here", "_law_usable", "_law_free", "_law_things", "_law_owned", "_law_words", "_law_word", "_law_is_tested", "_law_target", "_law_items_here", "_law_row_here", "_law_owner", "_law_value"]
abbrev psRow : List Str := ["_law_bag_here", "_law_usable", "_law_free", "_law_things", "_law_owned"]
theorem scRow : FnScope nRow psRow (defScope sRow) := ⟨rfl, rfl, rfl, by decide +kernel, rfl, by decide +kernel, by decide +kernel⟩
/-- a word of a row that may be drawn -/
def WordOk (us : NmL) (ows : List (Str × List Nat)) (wd : Str) : Prop := wd = "new" ∨ (us ≠ [] ∧ (wd = "name" ∨ wd = "copy" ∨ wd = "add" ∨ wd = "drop")) ∨ (ows ≠ [] ∧ (wd = "get" ∨ wd = "grow" ∨ wd = "shrink")) ∨ (ows ≠ [] ∧ us ≠ [] ∧ wd = "set")
def Wds2 (us : NmL) (ows : List (Str × List Nat)) (ws : List V) : Prop := ∀ y ∈ ws, ∃ wd, y = .str wd ∧ WordOk us ows wd
def spRow (K : PySem.W.Frag) : Sp := fun vs H Q _ => ∃ (p u f t o : Addr) (us fs ts : NmL) (os : List V) (ows : List (Str × List Nat)), vs = [.ref p, .ref u, .ref f, .ref t, .ref o] ∧ Bag H p ∧ NmsAt H p u us ∧ NmsAt H p f fs ∧ NmsAt H p t ts ∧ OwsAt K H p o os ows ∧ us ++ fs.take 1 ≠ [] ∧ ts ≠ [] ∧ ts.Nodup ∧ ts.length ≤ 20 ∧ (∀ z ∈ ts, GoodN z) ∧ (∀ z ∈ us, GoodN z) ∧
  ∀ H' y d x, Kp p H H' → Dt K H' y d → RowG us fs.head? ts ows x d → Q y H'
theorem ok_row {f0 fT fO fI fE : Addr} {fd fdT fdO fdI fdE : FuncData} (F : Fun K "_law_row" "_law_row" sRow f0 fd)
    (GT : FnOk P w K mg base CX0 1 fT fdT ["_law_bag_here", "_law_many"] spTake) (mT : mg "_law_take" = some (.ref fT)) (kT : PySem.W.keepIn K (.ref fT) = true) (bT : Binds K fdT ["_law_bag_here", "_law_many"] [])
    (GO : FnOk P w K mg base CX0 2 fO fdO ["_law_bag_here", "_law_some"] (spOf K)) (mO : mg "_law_of" = some (.ref fO)) (kO : PySem.W.keepIn K (.ref fO) = true) (bO : Binds K fdO ["_law_bag_here", "_law_some"] [])
    (GI : FnOk P w K mg base CX0 2 fI fdI ["_law_bag_here", "_law_some", "_law_shares"] (spItems K)) (mI : mg "_law_items" = some (.ref fI)) (kI : PySem.W.keepIn K (.ref fI) = true) (bI : Binds K fdI ["_law_bag_here", "_law_some", "_law_shares"] [])
    (GE : FnOk P w K mg base CX0 3 fE fdE ["_law_bag_here", "_law_usable", "_law_things"] (spTest K)) (mE : mg "_law_test" = some (.ref fE)) (kE : PySem.W.keepIn K (.ref fE) = true) (bE : Binds K fdE ["_law_bag_here", "_law_usable", "_law_things"] []) :
    FnOk P w K mg base CX0 4 f0 fd psRow (spRow K) := by
  refine F.ok scRow (fun vs H Q E h => ?_) (fun cdv A outer s H vs Q E hr h => ?_)
  · obtain ⟨p, u, f, t, o, us, fs, ts, os, ows, rfl, _⟩ := h
    rfl
  · obtain ⟨p, u, f, t, o, us, fs, ts, os, ows, rfl, hB, hu, hf, ht, ho, hne, nts, htn, htl, htg, hug, q⟩ := h
    have hU : (A.deeper (envOfC "_law_row" (defScope sRow) s.heap.objs.size f0 cdv)).units + 64 < cLine := hr.units
    have hr1 : Room 1 _ := hr.mono (by decide)
    have hr2 : Room 2 _ := hr.mono (by decide)
    have hr3 : Room 3 _ := hr.mono (by decide)
    refine ⟨_, C8.pss_cut (ps_set (i := 5) scRow.nd rfl (.inl rfl) (pe_op op_cat (pe_lst (pa_cons pe_str pa_nil)) (pe_ifExp (pt_cmpR (op_neD hU) (pv 1) (pe_lst pa_nil) (nomark _)) (pe_lst (pa_cons pe_str (pa_cons pe_str (pa_cons pe_str (pa_cons pe_str (pa_cons pe_str pa_nil)))))) (pe_lst pa_nil))))
      (C8.pss_cut (ps_set (i := 5) scRow.nd rfl (.inl rfl) (pe_op op_cat (pv 5) (pe_ifExp (pt_cmpR (op_neD hU) (pv 4) (pe_lst pa_nil) (nomark _)) (pe_lst (pa_cons pe_str (pa_cons pe_str (pa_cons pe_str pa_nil)))) (pe_lst pa_nil))))
      (C8.pss_cut (ps_set (i := 5) scRow.nd rfl (.inl rfl) (pe_op op_cat (pv 5) (pe_ifExp (PW.pt (pw_and (pt_cmpR (op_neD hU) (pv 4) (pe_lst pa_nil) (nomark _)) (pw_and1 (pt_cmpR (op_neD hU) (pv 1) (pe_lst pa_nil) (nomark _))))) (pe_lst (pa_cons pe_str pa_nil)) (pe_lst pa_nil))))
      (C8.pss_cut (ps_par (i := 6) (j := 7) (by rfl) scRow.nd rfl rfl (by decide) rfl rfl (pa_cons (pe_call GO hr2 (by rfl) mO kO bO .nil pass0 (pa_cons (pv 0) (pa_cons (pv 5) pa_nil))) (pa_cons (pe_and (pe_cmpR (op_neD hU) (pv 1) (pe_lst pa_nil) (nomark _)) (pe_one (pe_cmpR op_eq (pe_call GT hr1 (by rfl) mT kT bT .nil pass0 (pa_cons (pv 0) (pa_cons pe_int pa_nil))) pe_int (nomark _)))) pa_nil)) (by rfl))
      (C8.pss_cut (ps_set (i := 8) scRow.nd rfl (.inl rfl) (pe_call GO hr2 (by rfl) mO kO bO .nil pass0 (pa_cons (pv 0) (pa_cons (pe_ifExp (pt_val (pv 7)) (pv 1) (pe_op op_cat (pv 1) (pe_slice sl_list (pv 2) po_none (po_some pe_int)))) pa_nil))))
      (C8.pss_cut (ps_set (i := 9) scRow.nd rfl (.inl rfl) (pe_call GI hr2 (by rfl) mI kI bI .nil pass0 (pa_cons (pv 0) (pa_cons (pv 3) (pa_cons pe_int pa_nil)))))
      (C8.pss_cut (ps_set (i := 10) scRow.nd rfl (.inl rfl) (pe_tup (pa_cons pe_str (pa_cons (pv 8) (pa_cons (pv 9) pa_nil)))))
      (C8.pss_cut (ps_if (pt_cmpR op_in_seq (pv 6) (pe_lst (pa_cons pe_str (pa_cons pe_str pa_nil))) rfl) (pss_one (ps_set (i := 10) scRow.nd rfl (.inl rfl) (pe_tup (pa_cons (pv 6) (pa_cons (pv 8) (pa_cons (pe_call GO hr2 (by rfl) mO kO bO .nil pass0 (pa_cons (pv 0) (pa_cons (pv 1) pa_nil))) pa_nil)))))) pss_nil)
      (C8.pss_cut (ps_if (pt_cmpR op_in_seq (pv 6) (pe_lst (pa_cons pe_str (pa_cons pe_str pa_nil))) rfl) (pss_one (ps_set (i := 10) scRow.nd rfl (.inl rfl) (pe_tup (pa_cons (pv 6) (pa_cons (pe_call GO hr2 (by rfl) mO kO bO .nil pass0 (pa_cons (pv 0) (pa_cons (pv 1) pa_nil))) (pa_cons (pv 9) pa_nil)))))) pss_nil)
      (C8.pss_cut (ps_if (pt_cmpR op_in_seq (pv 6) (pe_lst (pa_cons pe_str (pa_cons pe_str (pa_cons pe_str (pa_cons pe_str pa_nil))))) rfl)
          (pss_cons (ps_asg (pe_call GO hr2 (by rfl) mO kO bO .nil pass0 (pa_cons (pv 0) (pa_cons (pv 4) pa_nil))) (pg_tup rfl (pgs_cons (pg_name (i := 11) scRow.nd rfl (.inl rfl)) (pgs_cons (pg_name (i := 12) scRow.nd rfl (.inl rfl)) pgs_nil))))
          (pss_cons (ps_set (i := 10) scRow.nd rfl (.inl rfl) (pe_ifExp (pt_cmpR op_eq (pv 6) pe_str (nomark _)) (pe_tup (pa_cons pe_str (pa_cons (pv 8) (pa_cons (pv 11) (pa_cons (pv 12) pa_nil))))) (pe_tup (pa_cons (pv 6) (pa_cons (pv 11) (pa_cons (pv 12) (pa_cons (pv 9) pa_nil)))))))
          (pss_one (ps_if (pt_cmpR op_eq (pv 6) pe_str (nomark _)) (pss_one (ps_set (i := 10) scRow.nd rfl (.inl rfl) (pe_tup (pa_cons pe_str (pa_cons (pv 11) (pa_cons (pv 12) (pa_cons (pe_call GO hr2 (by rfl) mO kO bO .nil pass0 (pa_cons (pv 0) (pa_cons (pv 1) pa_nil))) pa_nil))))))) pss_nil)))) pss_nil)
      (pss_one (ps_ret (pe_ifExp (pt_val (pv 7)) (pe_tup (pa_cons (pe_call GO hr2 (by rfl) mO kO bO .nil pass0 (pa_cons (pv 0) (pa_cons (pe_lst (pa_cons pe_str (pa_cons pe_str pa_nil))) pa_nil))) (pa_cons (pe_call GE hr3 (by rfl) mE kE bE .nil pass0 (pa_cons (pv 0) (pa_cons (pv 1) (pa_cons (pv 3) pa_nil)))) (pa_cons (pv 10) pa_nil)))) (pv 10))))))))))))), ?_⟩
    have emp : ∀ {α : Type} {l : List α}, (!l.isEmpty) = true → l ≠ [] := fun h e => by
      rw [e] at h
      cases h
    have wmem : ∀ {l : List Str}, (∀ z ∈ l, WordOk us ows z) → Wds2 us ows (l.map V.str) := fun h y hy => by
      obtain ⟨z, hz, e⟩ := List.mem_map.mp hy
      exact ⟨z, e.symm, h z hz⟩
    have wapp : ∀ {a b : List V}, Wds2 us ows a → Wds2 us ows b → Wds2 us ows (a ++ b) := fun h1 h2 y hy => (List.mem_append.mp hy).elim (h1 y) (h2 y)
    -- a list of words more
    have more : ∀ (n : Nat) (l : Addr) (ws : List V) (zs : List Str) (H1 : Hp) (a : Addr), Same H H1 → H1 l = some (.lst ws) → 1 ≤ ws.length → ws.length + zs.length ≤ n → n ≤ 60 → Wds2 us ows ws → (∀ z ∈ zs, WordOk us ows z) → H1 a = none →
        rCat (.ref l) (.ref a) (upd H1 a (.lst (zs.map V.str))) (fun x H2 => ∃ l ws, [some (.ref p), some (.ref u), some (.ref f), some (.ref t), some (.ref o), some x, none, none, none, none, none, none, none] = [some (.ref p), some (.ref u), some (.ref f), some (.ref t), some (.ref o), some (.ref l), none, none, none, none, none, none, none] ∧ Same H H2 ∧ l ≠ p ∧ H2 l = some (.lst ws) ∧ 1 ≤ ws.length ∧ ws.length ≤ n ∧ Wds2 us ows ws) := by
      intro n l ws zs H1 a sm hl h1 h2 hn hw hz na
      have sa := same_upd (o := .lst (zs.map V.str)) na
      refine ⟨l, a, ws, zs.map V.str, rfl, rfl, sa _ _ hl, upd_same, ?_, fun r nr => ?_⟩
      · rw [List.length_map]
        exact Nat.le_of_lt (small1000 (by omega))
      · have sr := same_upd (o := .lst (ws ++ zs.map V.str)) nr
        have sAll := (sm.trans sa).trans sr
        have nrp : r ≠ p := bag_ne (hB.same (sm.trans sa)) nr
        refine ⟨r, _, rfl, sAll, nrp, upd_same, ?_, ?_, wapp hw (wmem hz)⟩
        · rw [List.length_append]
          omega
        · rw [List.length_append, List.length_map]
          omega
    refine ⟨fun σ1 H1 => ∃ l ws, σ1 = [some (.ref p), some (.ref u), some (.ref f), some (.ref t), some (.ref o), some (.ref l), none, none, none, none, none, none, none] ∧ Same H H1 ∧ l ≠ p ∧ H1 l = some (.lst ws) ∧ 1 ≤ ws.length ∧ ws.length ≤ 6 ∧ Wds2 us ows ws, ?_, ?_⟩
    · refine ⟨by show 1 ≤ sizeLine; decide, fun a na => ?_⟩
      have sa := same_upd (o := .lst [.str "new"]) na
      have w1 : Wds2 us ows [.str "new"] := fun y hy => ⟨"new", List.mem_singleton.mp hy, .inl rfl⟩
      refine ⟨_, rfl, by show 0 ≤ sizeLine; decide, fun le nle => ne_nms (hu.same sa) hug nle ⟨_, rfl, ?_⟩⟩
      have se := same_upd (o := .lst []) nle
      have se2 := sa.trans se
      refine ite2 (fun k => ?_) (fun k => ?_)
      · refine ⟨by show 5 ≤ sizeLine; decide, fun b nb => ?_⟩
        refine more 6 a _ ["name", "copy", "add", "add", "drop"] _ b se2 (se _ _ upd_same) (Nat.le_refl _) (by decide) (by decide) w1 (fun z hz => .inr (.inl ⟨emp k, ?_⟩)) nb
        have hz : z = "name" ∨ z = "copy" ∨ z = "add" ∨ z = "add" ∨ z = "drop" := by simpa using hz
        rcases hz with h | h | h | h | h
        · exact .inl h
        · exact .inr (.inl h)
        · exact .inr (.inr (.inl h))
        · exact .inr (.inr (.inl h))
        · exact .inr (.inr (.inr h))
      · refine ⟨by show 0 ≤ sizeLine; decide, fun b nb => ?_⟩
        exact more 6 a _ [] _ b se2 (se _ _ upd_same) (Nat.le_refl _) (by decide) (by decide) w1 (fun z hz => (nomatch hz)) nb
    rintro σ1 H1 ⟨l, ws, rfl, s1, nlp, hl, wl1, wl2, hw⟩
    refine ⟨fun σ1 H1 => ∃ l ws, σ1 = [some (.ref p), some (.ref u), some (.ref f), some (.ref t), some (.ref o), some (.ref l), none, none, none, none, none, none, none] ∧ Same H H1 ∧ l ≠ p ∧ H1 l = some (.lst ws) ∧ 1 ≤ ws.length ∧ ws.length ≤ 9 ∧ Wds2 us ows ws, ?_, ?_⟩
    · have ho1 := ho.go hB (Kp.of hB s1)
      refine ⟨_, rfl, _, rfl, by show 0 ≤ sizeLine; decide, fun le nle => ne_ows ho1 nle ⟨_, rfl, ?_⟩⟩
      have se := same_upd (o := .lst []) nle
      refine ite2 (fun k => ?_) (fun k => ?_)
      · refine ⟨by show 3 ≤ sizeLine; decide, fun b nb => ?_⟩
        refine more 9 l _ ["get", "grow", "shrink"] _ b (s1.trans se) (se _ _ hl) wl1 (by show ws.length + 3 ≤ 9; omega) (by decide) hw (fun z hz => .inr (.inr (.inl ⟨emp k, ?_⟩))) nb
        have hz : z = "get" ∨ z = "grow" ∨ z = "shrink" := by simpa using hz
        exact hz
      · refine ⟨by show 0 ≤ sizeLine; decide, fun b nb => ?_⟩
        exact more 9 l _ [] _ b (s1.trans se) (se _ _ hl) wl1 (by show ws.length + 0 ≤ 9; omega) (by decide) hw (fun z hz => (nomatch hz)) nb
    clear hw wl2 wl1 hl nlp s1
    rintro σ1 H1 ⟨l, ws, rfl, s1, nlp, hl, wl1, wl2, hw⟩
    refine ⟨fun σ1 H1 => ∃ l ws, σ1 = [some (.ref p), some (.ref u), some (.ref f), some (.ref t), some (.ref o), some (.ref l), none, none, none, none, none, none, none] ∧ Same H H1 ∧ l ≠ p ∧ H1 l = some (.lst ws) ∧ 1 ≤ ws.length ∧ ws.length ≤ 10 ∧ Wds2 us ows ws, ?_, ?_⟩
    · have ho1 := ho.go hB (Kp.of hB s1)
      refine ⟨_, rfl, _, rfl, by show 0 ≤ sizeLine; decide, fun le nle => ne_ows ho1 nle ⟨_, rfl, ?_⟩⟩
      have se := same_upd (o := .lst []) nle
      have s2 := s1.trans se
      have no : ∀ (H2 : Hp) (b : Addr), Same H H2 → H2 l = some (.lst ws) → H2 b = none → _ := fun H2 b s2 hl nb => more 10 l _ [] H2 b s2 hl wl1 (by show ws.length + 0 ≤ 10; omega) (by decide) hw (fun z hz => (nomatch hz)) nb
      refine ite2 (fun k => ?_) (fun k => ?_)
      · refine ⟨_, rfl, by show 0 ≤ sizeLine; decide, fun le2 nle2 => ne_nms (hu.same s2) hug nle2 ⟨_, rfl, ?_⟩⟩
        have se2 := same_upd (o := .lst []) nle2
        refine ite2 (fun k2 => ?_) (fun k2 => ?_)
        · refine ⟨by show 1 ≤ sizeLine; decide, fun b nb => ?_⟩
          exact more 10 l _ ["set"] _ b (s2.trans se2) (se2 _ _ (se _ _ hl)) wl1 (by show ws.length + 1 ≤ 10; omega) (by decide) hw (fun z hz => .inr (.inr (.inr ⟨emp k, emp k2, by simpa using hz⟩))) nb
        · exact ⟨by show 0 ≤ sizeLine; decide, fun b nb => no _ b (s2.trans se2) (se2 _ _ (se _ _ hl)) nb⟩
      · exact ⟨by show 0 ≤ sizeLine; decide, fun b nb => no _ b s2 (se _ _ hl) nb⟩
    clear hw wl2 wl1 hl nlp s1
    rintro σ1 H1 ⟨l, ws, rfl, s1, nlp, hl, wl1, wl2, hw⟩
    refine ⟨fun σ1 H1 => ∃ x5 wd b, σ1 = [some (.ref p), some (.ref u), some (.ref f), some (.ref t), some (.ref o), x5, some (.str wd), some (.bl b), none, none, none, none, none] ∧ Kp p H H1 ∧ WordOk us ows wd ∧ (b = true → us ≠ []), ?_, ?_⟩
    · refine ⟨_, rfl, _, rfl, of_lst (hB.same s1) nlp hl wl1 (by omega) (fun H2 y k2 hy => ?_)⟩
      obtain ⟨wd, rfl, hwd⟩ := hw y hy
      have k12 := (Kp.of hB s1).trans k2
      refine ⟨_, rfl, by show 0 ≤ sizeLine; decide, fun le nle => ne_nms (hu.go k12) hug nle ⟨_, rfl, ?_⟩⟩
      have k13 := k12.same (same_upd (o := .lst []) nle)
      refine ite2 (fun k => ?_) (fun k => ?_)
      · refine ⟨_, rfl, p, 3, rfl, k13.2, by decide, by decide, fun H5 r k5 r0 r2 => ⟨rfl, ?_⟩⟩
        exact ⟨_, _, rfl, _, wd, _, rfl, k13.trans k5, hwd, fun _ => emp k⟩
      · refine ⟨_, _, rfl, _, wd, _, rfl, k13, hwd, fun hb => ?_⟩
        exact absurd hb Bool.false_ne_true
    clear hw wl2 wl1 hl nlp s1
    rintro σ1 H1 ⟨x5, wd, b, rfl, k1, hwd, hbu⟩
    -- the target
    refine ⟨fun σ1 H1 => ∃ x, σ1 = [some (.ref p), some (.ref u), some (.ref f), some (.ref t), some (.ref o), x5, some (.str wd), some (.bl b), some (.str (S x)), none, none, none, none] ∧ Kp p H H1 ∧ (x ∈ us ∨ (b = false ∧ fs.head? = some x)), ?_, ?_⟩
    · refine ⟨_, rfl, _, rfl, ?_⟩
      cases b with
      | true =>
        refine ⟨_, rfl, iteT ⟨_, rfl, ?_⟩⟩
        exact of_nms k1.2 (hu.go k1) (hbu rfl) (fun H2 z k2 hz => ⟨z, rfl, k1.trans k2, .inl hz⟩)
      | false =>
        refine ⟨_, rfl, iteF ⟨_, rfl, _, rfl, _, rfl, f, txts fs, rfl, SqL.of (hf.go k1).at_, fun c nc => ?_⟩⟩
        rw [cut_1]
        have sc := same_upd (o := .lst (txts (fs.take 1))) nc
        have k2 := k1.same sc
        have hul := hu.len
        have hfl : (fs.take 1).length ≤ 1 := by
          rw [List.length_take]
          exact Nat.min_le_left _ _
        refine ⟨u, c, txts us, txts (fs.take 1), rfl, rfl, (hu.go k2).at_, upd_same, ?_, fun r nr => ?_⟩
        · rw [txts_len, txts_len]
          exact Nat.le_of_lt (small1000 (by omega))
        · rw [txts_app]
          have hlen : (txts (us ++ fs.take 1)).length = us.length + (fs.take 1).length := by
            rw [txts_len, List.length_append]
          refine of_new k2.2 nr ?_ ?_ (fun H2 y k3 hy => ?_)
          · rw [txts_len]
            cases e : us ++ fs.take 1 with
            | nil => exact absurd e hne
            | cons a r => exact Nat.succ_le_succ (Nat.zero_le _)
          · rw [hlen]
            omega
          · obtain ⟨z, hz, rfl⟩ := txts_mem hy
            refine ⟨z, rfl, k2.trans k3, ?_⟩
            rcases List.mem_append.mp hz with h | h
            · exact .inl h
            · refine .inr ⟨rfl, ?_⟩
              cases fs with
              | nil => cases h
              | cons a r =>
                have h : z ∈ [a] := h
                rw [List.mem_singleton.mp h]
                rfl
    clear k1
    rintro σ1 H1 ⟨x, rfl, k1, hx⟩
    -- the items
    refine ⟨fun σ1 H1 => ∃ it ys, σ1 = [some (.ref p), some (.ref u), some (.ref f), some (.ref t), some (.ref o), x5, some (.str wd), some (.bl b), some (.str (S x)), some (.ref it), none, none, none] ∧ Kp p H H1 ∧ H1 it = some (.tup (ys.map V.str)) ∧ ItIn ts ys, ?_, ?_⟩
    · refine ⟨_, rfl, _, rfl, p, t, 2, ts, rfl, k1.2, ht.np, .inl (SqL.of (ht.go k1).at_), by decide, by decide, htl, htn, htg, fun H2 it ys k2 hit hys hsb => ?_⟩
      exact ⟨it, ys, rfl, k1.trans k2, hit, hys, hsb⟩
    clear k1
    rintro σ1 H1 ⟨it, ys, rfl, k1, hit, hys⟩
    have itp : it ≠ p := fun e => by
      obtain ⟨a, b, hp, _⟩ := k1.2
      rw [e, hp] at hit
      cases hit
    have hitd : ∀ {H2 : Hp}, H2 it = some (.tup (ys.map V.str)) → Dt K H2 (.ref it) (itsD ys) := fun h => Dt.tup h (dpAll_strs ys)
    refine ⟨fun σ1 H1 => ∃ v d y1 y2, σ1 = [some (.ref p), some (.ref u), some (.ref f), some (.ref t), some (.ref o), x5, some (.str wd), some (.bl b), some (.str (S x)), some (.ref it), some v, y1, y2] ∧ Kp p H H1 ∧ H1 it = some (.tup (ys.map V.str)) ∧ Dt K H1 v d ∧ (wd = "new" → ∃ z, PG us ts ows z d ∧ ∀ y, z = some y → y = x), ?_, ?_⟩
    · refine ⟨_, rfl, _, rfl, three_le, fun r nr => ?_⟩
      have sr := same_upd (o := .tup [.str "new", .str (S x), .ref it]) nr
      refine ⟨_, _, _, _, rfl, k1.same sr, sr _ _ hit, Dt.tup upd_same (.cons (.str _) (.cons (.str _) (.cons (hitd (sr _ _ hit)) .nil))), fun _ => ⟨some x, .new x ys hys, fun y e => (Option.some.inj e).symm⟩⟩
    clear k1 hit
    rintro σ1 H1 ⟨v, d, y1, y2, rfl, k1, hit, hd, hpg⟩
    have usne : ∀ {H' : Hp}, (us ≠ []) → Kp p H H' → ∀ Q' : VK, (∀ H2 z, Kp p H' H2 → z ∈ us → Q' (.str (S z)) H2) → spOf K [.ref p, .ref u] H' Q' E0 := fun hn k Q' q' => of_nms k.2 (hu.go k) hn q'
    have wus : wd = "name" ∨ wd = "copy" ∨ wd = "add" ∨ wd = "drop" ∨ wd = "set" → us ≠ [] := fun h => by
      rcases hwd with e | ⟨e, _⟩ | ⟨_, e⟩ | ⟨_, e, _⟩
      · rcases h with h | h | h | h | h <;> exact absurd (e.symm.trans h) (by decide +kernel)
      · exact e
      · rcases e with e | e | e <;> rcases h with h | h | h | h | h <;> exact absurd (e.symm.trans h) (by decide +kernel)
      · exact e
    refine ⟨fun σ1 H1 => ∃ v d y1 y2, σ1 = [some (.ref p), some (.ref u), some (.ref f), some (.ref t), some (.ref o), x5, some (.str wd), some (.bl b), some (.str (S x)), some (.ref it), some v, y1, y2] ∧ Kp p H H1 ∧ H1 it = some (.tup (ys.map V.str)) ∧ Dt K H1 v d ∧ ((wd = "new" ∨ wd = "name" ∨ wd = "copy") → ∃ z, PG us ts ows z d ∧ ∀ y, z = some y → y = x), ?_, ?_⟩
    · refine ⟨_, rfl, by show 2 ≤ sizeLine; decide, fun a na => ⟨a, _, rfl, .inl (SqL.of upd_same), rfl, rfl, _, rfl, ?_⟩⟩
      have sa := same_upd (o := .lst [.str "name", .str "copy"]) na
      have k2 := k1.same sa
      rw [show [V.str "name", V.str "copy"] = (["name", "copy"] : List Str).map V.str from rfl, in_strs]
      refine ite2 (fun k => ?_) (fun k => ?_)
      · have k : wd = "name" ∨ wd = "copy" := by simpa using k
        refine ⟨_, rfl, _, rfl, _, rfl, _, rfl, usne (wus (k.imp_right .inl)) k2 _ (fun H3 z k3 hz => ⟨three_le, fun r nr => ?_⟩)⟩
        have sr := same_upd (o := .tup [.str wd, .str (S x), .str (S z)]) nr
        exact ⟨_, _, _, _, rfl, (k2.trans k3).same sr, sr _ _ (k3.1 _ _ itp (sa _ _ hit)), Dt.tup upd_same (.cons (.str _) (.cons (.str _) (.cons (.str _) .nil))), fun _ => ⟨some x, .nam wd x z k hz, fun y e => (Option.some.inj e).symm⟩⟩
      · refine ⟨_, _, _, _, rfl, k2, sa _ _ hit, hd.ext (TupE.same sa), fun h => hpg ?_⟩
        rcases h with h | h | h
        · exact h
        · exact absurd (by rw [h]; decide +kernel) k
        · exact absurd (by rw [h]; decide +kernel) k
    clear hpg hd hit k1
    rintro σ1 H1 ⟨v, d, y1, y2, rfl, k1, hit, hd, hpg⟩
    refine ⟨fun σ1 H1 => ∃ v d y1 y2, σ1 = [some (.ref p), some (.ref u), some (.ref f), some (.ref t), some (.ref o), x5, some (.str wd), some (.bl b), some (.str (S x)), some (.ref it), some v, y1, y2] ∧ Kp p H H1 ∧ H1 it = some (.tup (ys.map V.str)) ∧ Dt K H1 v d ∧ ((wd = "new" ∨ wd = "name" ∨ wd = "copy" ∨ wd = "add" ∨ wd = "drop") → ∃ z, PG us ts ows z d ∧ ∀ y, z = some y → y = x), ?_, ?_⟩
    · refine ⟨_, rfl, by show 2 ≤ sizeLine; decide, fun a na => ⟨a, _, rfl, .inl (SqL.of upd_same), rfl, rfl, _, rfl, ?_⟩⟩
      have sa := same_upd (o := .lst [.str "add", .str "drop"]) na
      have k2 := k1.same sa
      rw [show [V.str "add", V.str "drop"] = (["add", "drop"] : List Str).map V.str from rfl, in_strs]
      refine ite2 (fun k => ?_) (fun k => ?_)
      · have k : wd = "add" ∨ wd = "drop" := by simpa using k
        refine ⟨_, rfl, _, rfl, _, rfl, usne (wus (k.elim (fun h => .inr (.inr (.inl h))) fun h => .inr (.inr (.inr (.inl h))))) k2 _ (fun H3 z k3 hz => ⟨_, rfl, three_le, fun r nr => ?_⟩)⟩
        have sr := same_upd (o := .tup [.str wd, .str (S z), .ref it]) nr
        have hit3 := sr _ _ (k3.1 _ _ itp (sa _ _ hit))
        exact ⟨_, _, _, _, rfl, (k2.trans k3).same sr, hit3, Dt.tup upd_same (.cons (.str _) (.cons (.str _) (.cons (hitd hit3) .nil))), fun _ => ⟨none, .add wd z ys k hz hys, fun y e => (nomatch e)⟩⟩
      · refine ⟨_, _, _, _, rfl, k2, sa _ _ hit, hd.ext (TupE.same sa), fun h => hpg ?_⟩
        rcases h with h | h | h | h | h
        · exact .inl h
        · exact .inr (.inl h)
        · exact .inr (.inr h)
        · exact absurd (by rw [h]; decide +kernel) k
        · exact absurd (by rw [h]; decide +kernel) k
    clear hpg hd hit k1
    rintro σ1 H1 ⟨v, d, y1, y2, rfl, k1, hit, hd, hpg⟩
    refine ⟨fun σ1 H1 => ∃ v d y1 y2, σ1 = [some (.ref p), some (.ref u), some (.ref f), some (.ref t), some (.ref o), x5, some (.str wd), some (.bl b), some (.str (S x)), some (.ref it), some v, y1, y2] ∧ Kp p H H1 ∧ Dt K H1 v d ∧ ∃ z, PG us ts ows z d ∧ ∀ y, z = some y → y = x, ?_, ?_⟩
    · refine ⟨_, rfl, by show 4 ≤ sizeLine; decide, fun a na => ⟨a, _, rfl, .inl (SqL.of upd_same), rfl, rfl, _, rfl, ?_⟩⟩
      have sa := same_upd (o := .lst [.str "get", .str "grow", .str "shrink", .str "set"]) na
      have k2 := k1.same sa
      rw [show [V.str "get", V.str "grow", V.str "shrink", V.str "set"] = (["get", "grow", "shrink", "set"] : List Str).map V.str from rfl, in_strs]
      refine ite2 (fun k => ?_) (fun k => ?_)
      · have k : wd = "get" ∨ wd = "grow" ∨ wd = "shrink" ∨ wd = "set" := by simpa using k
        have hon : ows ≠ [] := by
          rcases hwd with e | ⟨_, e⟩ | ⟨e, _⟩ | ⟨e, _⟩
          · rcases k with h | h | h | h <;> exact absurd (e.symm.trans h) (by decide +kernel)
          · rcases e with e | e | e | e <;> rcases k with h | h | h | h <;> exact absurd (e.symm.trans h) (by decide +kernel)
          · exact e
          · exact e
        have ho2 := ho.go hB k2
        have hol : os.length = ows.length := by
          rw [dpAll_len ho.dt, List.length_map]
        have hlen := ho.len
        refine ⟨_, rfl, _, rfl, of_lst k2.2 ho2.np ho2.at_ ?_ (by omega) (fun H3 y k3 hy => ?_)⟩
        · rw [hol]
          cases ows with
          | nil => exact absurd rfl hon
          | cons a r => exact Nat.succ_le_succ (Nat.zero_le _)
        have k13 := k2.trans k3
        have ho3 := ho.go hB k13
        obtain ⟨d0, hd0, hdy⟩ := dqAll_mem ho3.dt hy
        obtain ⟨⟨on, vn⟩, hon2, rfl⟩ := List.mem_map.mp hd0
        have hok : OwIn ows on vn := ⟨ho.ok _ hon2, hon2⟩
        obtain ⟨ty, rfl, hty⟩ := dt_pair hdy
        have hit3 := k3.1 _ _ itp (sa _ _ hit)
        refine ⟨ty, _, rfl, hty, rfl, _, _, rfl, _, _, rfl, rfl, ?_⟩
        rcases k with rfl | rfl | rfl | rfl
        · refine ⟨_, rfl, rfl, _, rfl, iteT ⟨_, rfl, _, rfl, _, rfl, by show 4 ≤ sizeLine; decide, fun r nr => ?_⟩⟩
          have sr := same_upd (o := .tup [.str "get", .str (S x), .str on, .str (S vn)]) nr
          refine ⟨_, rfl, rfl, _, rfl, iteF ?_⟩
          exact ⟨_, _, _, _, rfl, k13.same sr, Dt.tup upd_same (.cons (.str _) (.cons (.str _) (.cons (.str _) (.cons (.str _) .nil)))), some x, .get x on vn hok, fun y e => (Option.some.inj e).symm⟩
        · refine ⟨_, rfl, rfl, _, rfl, iteF ⟨_, rfl, _, rfl, _, rfl, _, rfl, by show 4 ≤ sizeLine; decide, fun r nr => ?_⟩⟩
          have sr := same_upd (o := .tup [.str "grow", .str on, .str (S vn), .ref it]) nr
          refine ⟨_, rfl, rfl, _, rfl, iteF ?_⟩
          exact ⟨_, _, _, _, rfl, k13.same sr, Dt.tup upd_same (.cons (.str _) (.cons (.str _) (.cons (.str _) (.cons (hitd (sr _ _ hit3)) .nil)))), none, .grow "grow" on vn ys (.inl rfl) hok hys, fun y e => (nomatch e)⟩
        · refine ⟨_, rfl, rfl, _, rfl, iteF ⟨_, rfl, _, rfl, _, rfl, _, rfl, by show 4 ≤ sizeLine; decide, fun r nr => ?_⟩⟩
          have sr := same_upd (o := .tup [.str "shrink", .str on, .str (S vn), .ref it]) nr
          refine ⟨_, rfl, rfl, _, rfl, iteF ?_⟩
          exact ⟨_, _, _, _, rfl, k13.same sr, Dt.tup upd_same (.cons (.str _) (.cons (.str _) (.cons (.str _) (.cons (hitd (sr _ _ hit3)) .nil)))), none, .grow "shrink" on vn ys (.inr rfl) hok hys, fun y e => (nomatch e)⟩
        · refine ⟨_, rfl, rfl, _, rfl, iteF ⟨_, rfl, _, rfl, _, rfl, _, rfl, by show 4 ≤ sizeLine; decide, fun r nr => ?_⟩⟩
          have sr := same_upd (o := .tup [.str "set", .str on, .str (S vn), .ref it]) nr
          refine ⟨_, rfl, rfl, _, rfl, iteT ?_⟩
          have k4 := k13.same sr
          refine ⟨_, rfl, _, rfl, _, rfl, _, rfl, usne (wus (.inr (.inr (.inr (.inr rfl))))) k4 _ (fun H5 z k5 hz => ⟨by show 4 ≤ sizeLine; decide, fun r2 nr2 => ?_⟩)⟩
          have sr2 := same_upd (o := .tup [.str "set", .str on, .str (S vn), .str (S z)]) nr2
          exact ⟨_, _, _, _, rfl, (k4.trans k5).same sr2, Dt.tup upd_same (.cons (.str _) (.cons (.str _) (.cons (.str _) (.cons (.str _) .nil)))), none, .set on vn z hok hz, fun y e => (nomatch e)⟩
      · refine ⟨_, _, _, _, rfl, k2, hd.ext (TupE.same sa), hpg ?_⟩
        rcases hwd with e | ⟨_, e⟩ | ⟨_, e⟩ | ⟨_, _, e⟩
        · exact .inl e
        · exact .inr e
        · rcases e with e | e | e <;> exact absurd (by rw [e]; decide +kernel) k
        · exact absurd (by rw [e]; decide +kernel) k
    clear hpg hd hit k1
    rintro σ1 H1 ⟨v, d, y1, y2, rfl, k1, hd, z, hpg, hzx⟩
    refine ⟨_, rfl, _, rfl, ?_⟩
    cases b with
    | false =>
      refine iteF ⟨_, rfl, q H1 v d z k1 hd (.inl ⟨hpg, fun y e => ?_⟩)⟩
      obtain rfl := hzx y e
      rcases hx with h | ⟨_, h⟩
      · exact .inl h
      · exact .inr h
    | true =>
      have hxu : x ∈ us := hx.elim id fun h => absurd h.1.symm (by decide)
      refine iteT ⟨_, rfl, by show 2 ≤ sizeLine; decide, fun a na => of_new k1.2 na (by show 1 ≤ 2; decide) (by show 2 ≤ 1000; decide) (fun H2 y k2 hy => ?_)⟩
      have k12 := k1.trans k2
      have hy : y = .str "if" ∨ y = .str "unless" := by
        rcases List.mem_cons.mp hy with e | hy
        · exact .inl e
        · exact .inr (List.mem_singleton.mp hy)
      refine ⟨_, rfl, _, rfl, _, rfl, p, u, t, us, ts, rfl, k12.2, hu.go k12, ht.go k12, hbu rfl, nts, fun H3 yt dt k3 hdt htg2 => ?_⟩
      have k13 := k12.trans k3
      have hdv : Dt K H3 v d := hd.ext (TupE.kp k1.2 (k2.trans k3))
      have fin : ∀ wx : Str, (wx = "if" ∨ wx = "unless") → 3 ≤ sizeLine ∧ ∀ r, H3 r = none → Q (.ref r) (upd H3 r (.tup [.str wx, yt, v])) := fun wx hwx => ⟨three_le, fun r nr => by
        have sr := same_upd (o := .tup [.str wx, yt, v]) nr
        refine q _ _ _ none (k13.same sr) (Dt.tup upd_same (.cons (.str _) (.cons (hdt.ext (TupE.same sr)) (.cons (hdv.ext (TupE.same sr)) .nil)))) (.inr ⟨rfl, wx, dt, d, z, hwx, htg2, hpg, fun y e => ?_, rfl⟩)
        rw [hzx y e]
        exact .inl hxu⟩
      rcases hy with rfl | rfl
      · exact ⟨_, rfl, fin "if" (.inl rfl)⟩
      · exact ⟨_, rfl, fin "unless" (.inr rfl)⟩
end
end Dr
namespace Dr
open PySem PySem.Spec PyProof.Rows L2
open SX (S S_len S_cat)
structure Pr where
  nm : List Nat
  hs : Str
  df : Df
  nd : Bool
def Pr.data (r : Pr) : PyData := .tuple [.str (S r.nm), .str r.hs, r.df.data, .bool r.nd]
structure Pr.ok (r : Pr) : Prop where
  nm : GoodN r.nm
  hs : r.hs = "mark" ∨ r.hs = "box"
  df : r.df.ok r.hs
/-- what a default names is there -/
def DfIn (ss : NmL) (ows : List (Str × List Nat)) : Df → Prop
  | .non => True
  | .mk o => o ∈ ss
  | .its _ ys => ∀ y ∈ ys, ∃ z ∈ ss, y = S z
  | .seat _ o x => (o, x) ∈ ows
/-- a tuple of signs stands at q -/
structure SgAt (H : Hp) (p q : Addr) (zs : NmL) : Prop where
  np : q ≠ p
  at_ : H q = some (.tup (txts zs))
  ne : zs ≠ []
  len : zs.length ≤ 20
  nd : zs.Nodup
  gd : ∀ z ∈ zs, GoodN z
theorem SgAt.go {H H' : Hp} {p q : Addr} {zs : NmL} (h : SgAt H p q zs) (k : Kp p H H') : SgAt H' p q zs := ⟨h.np, k.1 _ _ h.np h.at_, h.ne, h.len, h.nd, h.gd⟩
section
variable {P : Program} {w : World} {K : PySem.W.Frag} {mg : Str → Option Value} {base : Heap}
/-- one of a tuple -/
def spOfT (K : PySem.W.Frag) : Sp := fun vs H Q _ => ∃ (p a : Addr) (xs : List V), vs = [.ref p, .ref a] ∧ Bag H p ∧ a ≠ p ∧ SqT K H a xs ∧ 1 ≤ xs.length ∧ xs.length ≤ 1000 ∧ ∀ H' y, Kp p H H' → y ∈ xs → Q y H'
theorem ok_ofT {f fT : Addr} {fd fdT : FuncData} (F : Fun K "_law_of" "_law_of" sOf f fd) (T : Blt mg) (GT : FnOk P w K mg base CX0 1 fT fdT ["_law_bag_here", "_law_many"] spTake) (mT : mg "_law_take" = some (.ref fT)) (kT : PySem.W.keepIn K (.ref fT) = true) (bT : Binds K fdT ["_law_bag_here", "_law_many"] []) :
    FnOk P w K mg base CX0 2 f fd ["_law_bag_here", "_law_some"] (spOfT K) := by
  refine F.ok scOf (fun vs H Q E h => ?_) (fun cdv A outer s H vs Q E hr h => ?_)
  · obtain ⟨p, a, xs, rfl, _⟩ := h
    rfl
  · obtain ⟨p, a, xs, rfl, hB, na, hS, h1, h2, q⟩ := h
    refine ⟨_, pss_one (ps_ret (pe_ix ix_tup (pv 1) (pe_call GT hr (by rfl) mT kT bT .nil pass0 (pa_cons (pv 0) (pa_cons (pe_callB call_len_seq (by rfl) T.len PySem.boot_len (pa_cons (pv 1) pa_nil)) pa_nil))) (fun _ _ => rfl))), ?_⟩
    refine ⟨_, rfl, _, rfl, _, rfl, a, xs, rfl, .inr hS, p, _, rfl, hB, by omega, by omega, fun H' r k r0 r1 => ?_⟩
    obtain ⟨j, rfl⟩ : ∃ j : Nat, r = (j : Int) := ⟨r.toNat, by omega⟩
    have hj : j < xs.length := by omega
    exact ⟨a, xs, _, xs[j], rfl, rfl, Kp.seqT k na hS, atI_nat (List.getElem?_eq_getElem hj), q _ _ k (List.getElem_mem hj)⟩
abbrev sPar : Stmt := topS 44
abbrev nPar : List Str := ["_law_bag_here", "_law_name", "_law_signs", "_law_owned", "_law_is_named", "_law_turn", "_law_kinds", "_law_items_here", "_law_row_here"]
abbrev psPar : List Str := ["_law_bag_here", "_law_name", "_law_signs", "_law_owned"]
theorem scPar : FnScope nPar psPar (defScope sPar) := ⟨rfl, rfl, rfl, by decide +kernel, rfl, by decide +kernel, by decide +kernel⟩
def spPar (K : PySem.W.Frag) : Sp := fun vs H Q _ => ∃ (p g o : Addr) (nm : List Nat) (ss : NmL) (os : List V) (ows : List (Str × List Nat)), vs = [.ref p, .str (S nm), .ref g, .ref o] ∧ Bag H p ∧ GoodN nm ∧ SgAt H p g ss ∧ OwsAt K H p o os ows ∧
  ∀ H' y (r : Pr), Kp p H H' → Dt K H' y r.data → r.ok → DfIn ss ows r.df → r.nm = nm → Q y H'
theorem df_seat_dt {K : PySem.W.Frag} {H : Hp} {t : Addr} {w o : Str} {x : List Nat} (h : H t = some (.tup [.str w, .str o, .str (S x)])) : Dt K H (.ref t) (Df.seat w o x).data := Dt.tup h (.cons (.str _) (.cons (.str _) (.cons (.str _) .nil)))
theorem ok_par {f0 fT fO fI : Addr} {fd fdT fdO fdI : FuncData} (F : Fun K "_law_param" "_law_param" sPar f0 fd)
    (GT : FnOk P w K mg base CX0 1 fT fdT ["_law_bag_here", "_law_many"] spTake) (mT : mg "_law_take" = some (.ref fT)) (kT : PySem.W.keepIn K (.ref fT) = true) (bT : Binds K fdT ["_law_bag_here", "_law_many"] [])
    (GO : FnOk P w K mg base CX0 2 fO fdO ["_law_bag_here", "_law_some"] (spOf K)) (GOT : FnOk P w K mg base CX0 2 fO fdO ["_law_bag_here", "_law_some"] (spOfT K)) (mO : mg "_law_of" = some (.ref fO)) (kO : PySem.W.keepIn K (.ref fO) = true) (bO : Binds K fdO ["_law_bag_here", "_law_some"] [])
    (GI : FnOk P w K mg base CX0 2 fI fdI ["_law_bag_here", "_law_some", "_law_shares"] (spItems K)) (mI : mg "_law_items" = some (.ref fI)) (kI : PySem.W.keepIn K (.ref fI) = true) (bI : Binds K fdI ["_law_bag_here", "_law_some", "_law_shares"] []) :
    FnOk P w K mg base CX0 3 f0 fd psPar (spPar K) := by
  refine F.ok scPar (fun vs H Q E h => ?_) (fun cdv A outer s H vs Q E hr h => ?_)
  · obtain ⟨p, g, o, nm, ss, os, ows, rfl, _⟩ := h
    rfl
  · obtain ⟨p, g, o, nm, ss, os, ows, rfl, hB, hnm, hg, ho, q⟩ := h
    have hU : (A.deeper (envOfC "_law_param" (defScope sPar) s.heap.objs.size f0 cdv)).units + 64 < cLine := hr.units
    have hr1 : Room 1 _ := hr.mono (by decide)
    have hr2 : Room 2 _ := hr.mono (by decide)
    refine ⟨_, C8.pss_cut (ps_par (i := 4) (j := 5) (by rfl) scPar.nd rfl rfl (by decide) rfl rfl (pa_cons (pe_cmpR op_eq (pe_call GT hr1 (by rfl) mT kT bT .nil pass0 (pa_cons (pv 0) (pa_cons pe_int pa_nil))) pe_int (nomark _)) (pa_cons (pe_call GT hr1 (by rfl) mT kT bT .nil pass0 (pa_cons (pv 0) (pa_cons pe_int pa_nil))) pa_nil)) (by rfl))
      (pss_cons (ps_if (pt_cmpR op_lt (pv 5) pe_int (nomark _)) (pss_one (ps_ret (pe_tup (pa_cons (pv 1) (pa_cons pe_str (pa_cons (pe_call GO hr2 (by rfl) mO kO bO .nil pass0 (pa_cons (pv 0) (pa_cons (pe_lst (pa_cons pe_non (pa_cons (pe_tup (pa_cons pe_str (pa_cons (pe_call GOT hr2 (by rfl) mO kO bO .nil pass0 (pa_cons (pv 0) (pa_cons (pv 2) pa_nil))) pa_nil))) pa_nil))) pa_nil))) (pa_cons (pv 4) pa_nil))))))) pss_nil)
      (C8.pss_cut (ps_setLc (i := 6) (own := [("_law_row_here", 8)]) (g := gName 8) rfl scPar.nd rfl rfl (sw_true rfl rfl rfl (by decide +kernel)) (pi_list (pv 3)) (blkOk_by (N := nPar) (sc := defScope sPar) (by decide +kernel)) (fun _ _ _ _ _ => pg_name (i := 8) scPar.nd rfl (Or.inl rfl))
          (fun _ _ _ _ _ => pts_one (pt_cmpR op_ne (pe_ix (show IxR _ (rIxT K) from ix_tup) (pv 8) pe_int (fun _ _ => rfl)) pe_str (nomark _))) (fun _ _ _ _ _ => pv 8))
      (C8.pss_cut (ps_if (PW.pt (pw_and (pt_cmpR op_eq (pv 5) pe_int (nomark _)) (pw_and1 (pt_cmpR (op_neD hU) (pv 3) (pe_lst pa_nil) (nomark _))))) (pss_one (ps_ret (pe_tup (pa_cons (pv 1) (pa_cons pe_str (pa_cons (pe_op op_catT (pe_tup (pa_cons pe_str pa_nil)) (pe_call GO hr2 (by rfl) mO kO bO .nil pass0 (pa_cons (pv 0) (pa_cons (pv 3) pa_nil)))) (pa_cons (pv 4) pa_nil))))))) pss_nil)
      (C8.pss_cut (ps_if (PW.pt (pw_and (pt_cmpR op_eq (pv 5) pe_int (nomark _)) (pw_and1 (pt_cmpR (op_neD hU) (pv 6) (pe_lst pa_nil) (nomark _))))) (pss_one (ps_ret (pe_tup (pa_cons (pv 1) (pa_cons pe_str (pa_cons (pe_op op_catT (pe_tup (pa_cons pe_str pa_nil)) (pe_call GO hr2 (by rfl) mO kO bO .nil pass0 (pa_cons (pv 0) (pa_cons (pv 6) pa_nil)))) (pa_cons (pv 4) pa_nil))))))) pss_nil)
      (pss_cons (ps_set (i := 7) scPar.nd rfl (.inl rfl) (pe_call GI hr2 (by rfl) mI kI bI .nil pass0 (pa_cons (pv 0) (pa_cons (pv 2) (pa_cons pe_int pa_nil)))))
      (pss_one (ps_ret (pe_tup (pa_cons (pv 1) (pa_cons pe_str (pa_cons (pe_call GO hr2 (by rfl) mO kO bO .nil pass0 (pa_cons (pv 0) (pa_cons (pe_lst (pa_cons pe_non (pa_cons (pe_tup (pa_cons pe_str (pa_cons (pv 7) pa_nil))) (pa_cons (pe_tup (pa_cons pe_str (pa_cons (pv 7) pa_nil))) (pa_cons (pe_tup (pa_cons pe_str (pa_cons (pv 7) pa_nil))) pa_nil))))) pa_nil))) (pa_cons (pv 4) pa_nil)))))))))))), ?_⟩
    -- what is returned
    have fin : ∀ (H1 : Hp) (v : V) (hs : Str) (d : Df) (b : Bool), Kp p H H1 → Dt K H1 v d.data → (hs = "mark" ∨ hs = "box") → d.ok hs → DfIn ss ows d → 4 ≤ sizeLine ∧ ∀ r, H1 r = none → Q (.ref r) (upd H1 r (.tup [.str (S nm), .str hs, v, .bl b])) := fun H1 v hs d b k1 hd hh hok hin => ⟨by show 4 ≤ sizeLine; decide, fun r nr => by
      have sr := same_upd (o := .tup [.str (S nm), .str hs, v, .bl b]) nr
      exact q _ _ ⟨nm, hs, d, b⟩ (k1.same sr) (Dt.tup upd_same (.cons (.str _) (.cons (.str _) (.cons (hd.ext (TupE.same sr)) (.cons (.bl _) .nil))))) ⟨hnm, hh, hok⟩ hin rfl⟩
    refine ⟨fun σ1 H1 => ∃ (b : Bool) (tn : Int), σ1 = [some (.ref p), some (.str (S nm)), some (.ref g), some (.ref o), some (.bl b), some (.int tn), none, none, none] ∧ Kp p H H1, ?_, ?_⟩
    · refine ⟨_, rfl, p, 3, rfl, hB, by decide, by decide, fun H1 r1 k1 _ _ => ⟨rfl, ?_⟩⟩
      refine ⟨_, rfl, p, 8, rfl, k1.2, by decide, by decide, fun H2 r2 k2 _ _ => ?_⟩
      exact ⟨_, _, rfl, _, _, rfl, k1.trans k2⟩
    rintro σ1 H1 ⟨b, tn, rfl, k1⟩
    refine ⟨_, rfl, _, _, rfl, rfl, _, rfl, ite2 (fun _ => ?_) (fun _ => ?_)⟩
    · have hgl := hg.len
      have hg1 := hg.go k1
      refine ⟨_, rfl, _, rfl, _, rfl, _, rfl, p, g, txts ss, rfl, k1.2, hg.np, SqT.of hg1.at_, ?_, by rw [txts_len]; omega, fun H2 y k2 hy => ?_⟩
      · rw [txts_len]
        cases e : ss with
        | nil => exact absurd e hg.ne
        | cons a r => exact Nat.succ_le_succ (Nat.zero_le _)
      obtain ⟨z, hz, rfl⟩ := txts_mem hy
      have k12 := k1.trans k2
      refine ⟨two_le, fun t nt => ⟨two_le, fun L nL => ?_⟩⟩
      have st := same_upd (o := .tup [.str "mark", .str (S z)]) nt
      have ntp := bag_ne k12.2 nt
      refine of_new (k12.same st).2 nL (by show 1 ≤ 2; decide) (by show 2 ≤ 1000; decide) (fun H3 y k3 hy => ⟨_, rfl, ?_⟩)
      have ht : H3 t = some (.tup [.str "mark", .str (S z)]) := k3.1 _ _ ntp upd_same
      have k13 := (k12.same st).trans k3
      rcases List.mem_cons.mp hy with rfl | hy
      · exact fin H3 .non "mark" .non b k13 .non (.inl rfl) trivial trivial
      · obtain rfl := List.mem_singleton.mp hy
        exact fin H3 (.ref t) "mark" (.mk z) b k13 (Dt.tup ht (.cons (.str _) (.cons (.str _) .nil))) (.inl rfl) ⟨rfl, hg.gd z hz⟩ hz
    -- the pairs of kinds
    refine ⟨fun σ1 H1 => ∃ (l : Addr) (ks : List V) (kws : List (Str × List Nat)), σ1 = [some (.ref p), some (.str (S nm)), some (.ref g), some (.ref o), some (.bl b), some (.int tn), some (.ref l), none, none] ∧ Kp p H H1 ∧ OwsAt K H1 p l ks kws ∧ ∀ x ∈ kws, (∃ c, x.1 = S c ∧ GoodN c) ∧ x ∈ ows, ?_, ?_⟩
    · have ho1 := ho.go hB k1
      have hlo : os.length = ows.length := by rw [dpAll_len ho.dt, List.length_map]
      have hlen := ho.len
      refine ⟨_, rfl, o, rfl, ⟨_, SqL.of ho1.at_⟩, fun D nD => ?_⟩
      have nDp := bag_ne k1.2 nD
      refine lc_it walk_list (fun i H4 => Kp p H H4 ∧ Same H1 H4 ∧ ∃ ks kws, H4 D = some (.lst ks) ∧ DtAll K H4 ks (kws.map owD) ∧ kws.Sublist (ows.take i) ∧ ∀ x ∈ kws, ∃ c, x.1 = S c ∧ GoodN c) ⟨k1.same (same_upd nD), same_upd nD, [], [], upd_same, .nil, .refl _, fun x hx => (nomatch hx)⟩ (fun i H4 _ h => SqL.of (h.2.1 _ _ ho1.at_)) ?_ ?_
      · rintro i y H4 H5 hi ⟨k4, s4, ks, kws, hD1, hks, hsub, hc⟩ ⟨rfl, e1⟩
        have hyo := dpAll_get (ho1.dt.ext (TupE.same s4)) e1
        obtain ⟨d0, hd0, hdy⟩ := hyo
        rw [List.getElem?_map] at hd0
        cases hx : ows[i]? with
        | none =>
          rw [hx] at hd0
          cases hd0
        | some x0 =>
          rw [hx] at hd0
          obtain rfl := Option.some.inj hd0
          obtain ⟨ty, rfl, hty⟩ := dt_pair hdy
          have hxm := List.mem_of_getElem? hx
          refine ⟨rfl, _, rfl, ty, _, 0, .str x0.1, rfl, rfl, hty, atI_nat (j := 0) rfl, rfl, _, rfl, ite2 (fun k => ?_) (fun k => ?_)⟩
          · refine ⟨_, rfl, ks, hD1, ?_, k1.same (same_grow s4 nD), same_grow s4 nD, ks ++ [.ref ty], kws ++ [x0], upd_same, ?_, ?_, ?_⟩
            · have h1 := dpAll_len hks
              rw [List.length_map] at h1
              have h2 := hsub.length_le
              rw [List.length_take] at h2
              exact small1000 (by omega)
            · rw [List.map_append]
              exact DtAll.ext (dpAll_app hks (.cons hdy .nil)) (TupE.grow hD1)
            · rw [List.take_add_one, hx]
              exact hsub.append (.refl _)
            · intro x hx
              rcases List.mem_append.mp hx with h | h
              · exact hc x h
              · obtain rfl := List.mem_singleton.mp h
                rcases (ho.ok _ hxm).1 with e | e
                · rw [e] at k
                  exact absurd k (by decide +kernel)
                · exact e
          · refine ⟨k4, s4, ks, kws, hD1, hks, ?_, hc⟩
            rw [List.take_add_one, hx]
            exact hsub.trans (List.sublist_append_left _ _)
      rintro H4 ⟨k4, s4, ks, kws, hD1, hks, hsub, hc⟩
      rw [hlo, List.take_length] at hsub
      exact ⟨D, ks, kws, rfl, k4, ⟨nDp, hD1, hks, fun x hx => ho.ok x (hsub.subset hx), by have := hsub.length_le; omega⟩, fun x hx => ⟨hc x hx, hsub.subset hx⟩⟩
    clear k1
    rintro σ1 H1 ⟨l, ks, kws, rfl, k1, hk, hkc⟩
    -- late and early
    have lat : ∀ (H2 : Hp) (wd : Str) (q0 : Addr) (vs : List V) (xs : List (Str × List Nat)) (c : Addr), Kp p H H2 → OwsAt K H2 p q0 vs xs → xs ≠ [] → H2 c = some (.tup [.str wd]) → (∀ x ∈ xs, ∀ y, y = (Df.seat wd x.1 x.2) → y.ok "box" ∧ x ∈ ows) →
        spOf K [.ref p, .ref q0] H2 (fun y H3 => rCatT K (.ref c) y H3 fun z H4 => ∃ x4 : V, (some (some (V.bl b)) : Option (Option V)) = some (some x4) ∧ 4 ≤ sizeLine ∧ ∀ r, H4 r = none → Q (.ref r) (upd H4 r (.tup [.str (S nm), .str "box", z, x4]))) E0 := by
      intro H2 wd q0 vs xs c k2 hx hne hc hok
      have hl : vs.length = xs.length := by rw [dpAll_len hx.dt, List.length_map]
      have hlen := hx.len
      have ncp : c ≠ p := fun e => by
        obtain ⟨a, b, hp, _⟩ := k2.2
        rw [e, hp] at hc
        cases hc
      refine of_lst k2.2 hx.np hx.at_ ?_ (by omega) (fun H3 y k3 hy => ?_)
      · rw [hl]
        cases xs with
        | nil => exact absurd rfl hne
        | cons a r => exact Nat.succ_le_succ (Nat.zero_le _)
      obtain ⟨d0, hd0, hdy⟩ := dqAll_mem (hx.go k2.2 k3).dt hy
      obtain ⟨x, hxm, rfl⟩ := List.mem_map.mp hd0
      obtain ⟨ty, rfl, hty⟩ := dt_pair hdy
      refine ⟨c, ty, [.str wd], [.str x.1, .str (S x.2)], rfl, rfl, SqT.of (k3.1 _ _ ncp hc), hty, (fun e => by cases e), by show 1 + 2 ≤ sizeLine; decide, (fun e => by cases e), fun _ r nr => ?_⟩
      have sr := same_upd (o := .tup [.str wd, .str x.1, .str (S x.2)]) nr
      refine ⟨_, rfl, ?_⟩
      exact fin _ _ "box" (.seat wd x.1 x.2) b ((k2.trans k3).same sr) (df_seat_dt upd_same) (.inr rfl) (hok x hxm _ rfl).1 (hok x hxm _ rfl).2
    refine ⟨fun σ1 H1 => σ1 = [some (.ref p), some (.str (S nm)), some (.ref g), some (.ref o), some (.bl b), some (.int tn), some (.ref l), none, none] ∧ Kp p H H1 ∧ OwsAt K H1 p l ks kws, ?_, ?_⟩
    · refine ⟨_, rfl, rfl, _, rfl, ite2 (fun _ => ?_) (fun _ => ⟨rfl, k1, hk⟩)⟩
      have ho1 := ho.go hB k1
      refine ⟨_, rfl, by show 0 ≤ sizeLine; decide, fun le nle => ne_ows ho1 nle ⟨_, rfl, ?_⟩⟩
      have se := same_upd (o := .lst []) nle
      have k2 := k1.same se
      refine ite2 (fun k => ?_) (fun _ => ⟨rfl, k2, hk.go k1.2 (Kp.of k1.2 se)⟩)
      refine ⟨_, rfl, by show 1 ≤ sizeLine; decide, fun c nc => ⟨_, rfl, _, rfl, ?_⟩⟩
      have sc := same_upd (o := .tup [.str "late"]) nc
      refine lat _ "late" o os ows c (k2.same sc) (ho.go hB (k2.same sc)) (fun e => by rw [e] at k; cases k) upd_same (fun x hx y hy => ?_)
      rw [hy]
      exact ⟨⟨rfl, .inr ⟨rfl, (ho.ok x hx).1⟩, (ho.ok x hx).2⟩, hx⟩
    clear hk k1
    rintro σ1 H1 ⟨rfl, k1, hk⟩
    refine ⟨fun σ1 H1 => σ1 = [some (.ref p), some (.str (S nm)), some (.ref g), some (.ref o), some (.bl b), some (.int tn), some (.ref l), none, none] ∧ Kp p H H1, ?_, ?_⟩
    · refine ⟨_, rfl, rfl, _, rfl, ite2 (fun _ => ?_) (fun _ => ⟨rfl, k1⟩)⟩
      refine ⟨_, rfl, by show 0 ≤ sizeLine; decide, fun le nle => ne_ows hk nle ⟨_, rfl, ?_⟩⟩
      have se := same_upd (o := .lst []) nle
      have k2 := k1.same se
      refine ite2 (fun k => ?_) (fun _ => ⟨rfl, k2⟩)
      refine ⟨_, rfl, by show 1 ≤ sizeLine; decide, fun c nc => ⟨_, rfl, _, rfl, ?_⟩⟩
      have sc := same_upd (o := .tup [.str "early"]) nc
      refine lat _ "early" l ks kws c (k2.same sc) (hk.go k1.2 (Kp.of k1.2 (se.trans sc))) (fun e => by rw [e] at k; cases k) upd_same (fun x hx y hy => ?_)
      rw [hy]
      exact ⟨⟨rfl, .inl ⟨rfl, (hkc x hx).1⟩, (hk.ok x hx).2⟩, (hkc x hx).2⟩
    clear hk k1
    rintro σ1 H1 ⟨rfl, k1⟩
    -- items
    have hg1 := hg.go k1
    refine ⟨_, rfl, _, rfl, p, g, 2, ss, rfl, k1.2, hg.np, .inr (SqT.of hg1.at_), by decide, by decide, hg.len, hg.nd, hg.gd, fun H2 u ys k2 hu hys hsb => ?_⟩
    have k12 := k1.trans k2
    have nup : u ≠ p := fun e => by
      obtain ⟨a, b, hp, _⟩ := k12.2
      rw [e, hp] at hu
      cases hu
    refine ⟨_, rfl, _, rfl, _, rfl, two_le, fun t1 n1 => ⟨_, rfl, two_le, fun t2 n2 => ⟨_, rfl, two_le, fun t3 n3 => ⟨by show 4 ≤ sizeLine; decide, fun L nL => ?_⟩⟩⟩⟩
    have s1 := same_upd (o := .tup [.str "anew", .ref u]) n1
    have s2 := same_upd (o := .tup [.str "once", .ref u]) n2
    have s3 := same_upd (o := .tup [.str "once", .ref u]) n3
    have kT := ((k12.same s1).same s2).same s3
    refine of_new kT.2 nL (by show 1 ≤ 4; decide) (by show 4 ≤ 1000; decide) (fun H3 y k3 hy => ⟨_, rfl, ?_⟩)
    have kAll := kT.trans k3
    have hu3 : H3 u = some (.tup (ys.map V.str)) := k3.1 _ _ nup (s3 _ _ (s2 _ _ (s1 _ _ hu)))
    have dts : ∀ (t : Addr) (wd : Str), H3 t = some (.tup [.str wd, .ref u]) → Dt K H3 (.ref t) (Df.its wd ys).data := fun t wd h => Dt.tup h (.cons (.str _) (.cons (Dt.tup hu3 (dpAll_strs ys)) .nil))
    have np1 := bag_ne k12.2 n1
    have np2 := bag_ne (k12.same s1).2 n2
    have np3 := bag_ne ((k12.same s1).same s2).2 n3
    rcases List.mem_cons.mp hy with rfl | hy
    · exact fin H3 .non "box" .non b kAll .non (.inr rfl) trivial trivial
    rcases List.mem_cons.mp hy with rfl | hy
    · exact fin H3 _ "box" (.its "anew" ys) b kAll (dts t1 "anew" (k3.1 _ _ np1 (s3 _ _ (s2 _ _ upd_same)))) (.inr rfl) ⟨rfl, .inr rfl, hys⟩ hsb
    rcases List.mem_cons.mp hy with rfl | hy
    · exact fin H3 _ "box" (.its "once" ys) b kAll (dts t2 "once" (k3.1 _ _ np2 (s3 _ _ upd_same))) (.inr rfl) ⟨rfl, .inl rfl, hys⟩ hsb
    · obtain rfl := List.mem_singleton.mp hy
      exact fin H3 _ "box" (.its "once" ys) b kAll (dts t3 "once" (k3.1 _ _ np3 upd_same)) (.inr rfl) ⟨rfl, .inl rfl, hys⟩ hsb
end
end Dr
namespace Dr
open PySem PySem.Spec PyProof.Rows L2
open SX (S S_len S_cat)
def asgD (d : PyData) : List Str := ofSort "assigned" (partsD d rowForms)
def rowB (fx us : List Str) (d : PyData) : Bool := hasForm S1 d rowForms && keepsD d fx us
def resB (us : List Str) (r : PyData) : Bool := hasForm S1 r resultForms && usesD us (partsD r resultForms)
def usA (us : List Str) : List PyData → List Str
  | [] => us
  | d :: ds => usA (us ++ asgD d) ds
def okR (fx us : List Str) : List PyData → Bool
  | [] => true
  | d :: ds => rowB fx us d && okR fx (us ++ asgD d) ds
theorem usA_snoc {d : PyData} : ∀ {ds : List PyData} {us : List Str}, usA us (ds ++ [d]) = usA us ds ++ asgD d
  | [], us => rfl
  | e :: r, us => usA_snoc (ds := r) (us := us ++ asgD e)
theorem okR_snoc {fx : List Str} {d : PyData} : ∀ {ds : List PyData} {us : List Str}, okR fx us ds = true → rowB fx (usA us ds) d = true → okR fx us (ds ++ [d]) = true
  | [], us, _, h => by
    show (rowB fx us d && true) = true
    rw [show rowB fx us d = true from h]
    rfl
  | e :: r, us, h, h2 => by
    have h : (rowB fx us e && okR fx (us ++ asgD e) r) = true := h
    rw [Bool.and_eq_true] at h
    show (rowB fx us e && okR fx (us ++ asgD e) (r ++ [d])) = true
    rw [h.1, okR_snoc h.2 h2]
    rfl
theorem okR_take {fx : List Str} : ∀ {ds : List PyData} {us : List Str} (n : Nat), okR fx us ds = true → okR fx us (ds.take n) = true
  | _, _, 0, _ => rfl
  | [], _, _ + 1, h => h
  | e :: r, us, n + 1, h => by
    have h : (rowB fx us e && okR fx (us ++ asgD e) r) = true := h
    rw [Bool.and_eq_true] at h
    show (rowB fx us e && okR fx (us ++ asgD e) (r.take n)) = true
    rw [h.1, okR_take n h.2]
    rfl
theorem fbr_ok {fx : List Str} {r : PyData} : ∀ {ds : List PyData} {us : List Str} {n : Nat}, okR fx us ds = true → fbr fx us ds r n = if resB (usA us ds) r then none else some (n + ds.length)
  | [], us, n, _ => rfl
  | e :: q, us, n, h => by
    have h : (rowB fx us e && okR fx (us ++ asgD e) q) = true := h
    rw [Bool.and_eq_true] at h
    show (if rowB fx us e = true then fbr fx (us ++ asgD e) q r (n + 1) else some n) = if resB (usA (us ++ asgD e) q) r then none else some (n + (q.length + 1))
    rw [if_pos h.1, fbr_ok h.2, show n + 1 + q.length = n + (q.length + 1) by omega]
theorem fbr_bad {fx : List Str} {r d : PyData} {q : List PyData} : ∀ {ds : List PyData} {us : List Str} {n : Nat}, okR fx us ds = true → rowB fx (usA us ds) d = false → fbr fx us (ds ++ d :: q) r n = some (n + ds.length)
  | [], us, n, _, h => by
    show (if rowB fx us d = true then _ else some n) = _
    rw [if_neg (by rw [show rowB fx us d = false from h]; exact Bool.false_ne_true)]
    rfl
  | e :: q', us, n, h, h2 => by
    have h : (rowB fx us e && okR fx (us ++ asgD e) q') = true := h
    rw [Bool.and_eq_true] at h
    show (if rowB fx us e = true then fbr fx (us ++ asgD e) (q' ++ d :: q) r (n + 1) else some n) = _
    rw [if_pos h.1, fbr_bad h.2 h2, List.length_cons, show n + 1 + q'.length = n + (q'.length + 1) by omega]
theorem has_of {S : PyData → Str → Bool} {ds : List PyData} {fs : List Form} {f : Form} (h : formOf (.tuple ds) fs = some f) : hasForm S (.tuple ds) fs = (sorted2 S (ds.drop 1) (f.drop 1)).all id := by
  unfold hasForm
  rw [h]
  rfl
theorem parts0_of {ds : List PyData} {fs : List Form} {f : Form} (h : formOf (.tuple ds) fs = some f) : parts0 (.tuple ds) fs = (f.drop 1).zip (ds.drop 1) := by
  unfold parts0
  rw [h]
  rfl
theorem S1_S0 {d : PyData} {z : Str} (h : ok0 z) : S1 d z = S0 d z := by
  unfold S1
  rw [if_neg h.1, if_neg h.2]
theorem sorted2_10 : ∀ {ds : List PyData} {zs : List Str}, (∀ z ∈ zs, ok0 z) → sorted2 S1 ds zs = sorted2 S0 ds zs
  | [], _, _ => by simp [sorted2]
  | _ :: _, [], _ => rfl
  | d :: r, z :: q, h => by
    show S1 d z :: sorted2 S1 r q = S0 d z :: sorted2 S0 r q
    rw [S1_S0 (h z (List.mem_cons_self ..)), sorted2_10 (ds := r) (zs := q) fun y hy => h y (List.mem_cons_of_mem _ hy)]
theorem inner_ok {p : Part} (h : ok0 p.1) : inner p = [p] := by
  unfold inner
  rw [if_neg h.1, if_neg h.2]
theorem flat_ok : ∀ {ps : List Part}, (∀ p ∈ ps, ok0 p.1) → ps.flatMap inner = ps
  | [], _ => rfl
  | p :: r, h => by
    rw [List.flatMap_cons, inner_ok (h p (List.mem_cons_self ..)), flat_ok (ps := r) fun y hy => h y (List.mem_cons_of_mem _ hy)]
    rfl
theorem S0_assigned (d : PyData) : S0 d "assigned" = isNameD d := by
  unfold S0
  rw [if_neg (by decide +kernel), if_neg (by decide +kernel)]
theorem S0_used (d : PyData) : S0 d "used" = isNameD d := by
  unfold S0
  rw [if_neg (by decide +kernel), if_neg (by decide +kernel)]
theorem ofSort_cons (w : Str) (p : Part) (r : List Part) : ofSort w (p :: r) = (if p.1 = w then [strD p.2] else []) ++ ofSort w r := by
  unfold ofSort
  rw [List.filter_cons]
  by_cases e : p.1 = w
  · rw [if_pos (decide_eq_true e), if_pos e]
    rfl
  · rw [if_neg (by simpa using e), if_neg e]
    rfl
theorem ofSort_nil (w : Str) : ofSort w [] = [] := rfl
theorem ofSort_app (w : Str) : ∀ (a b : List Part), ofSort w (a ++ b) = ofSort w a ++ ofSort w b
  | [], b => rfl
  | p :: r, b => by
    rw [List.cons_append, ofSort_cons, ofSort_cons, ofSort_app w r b, List.append_assoc]
theorem q1 : (("items" : Str) = "assigned") = False := eq_false (by decide +kernel)
theorem q2 : (("used" : Str) = "assigned") = False := eq_false (by decide +kernel)
theorem q3 : (("owner" : Str) = "assigned") = False := eq_false (by decide +kernel)
theorem q4 : (("value" : Str) = "assigned") = False := eq_false (by decide +kernel)
theorem q5 : (("item" : Str) = "assigned") = False := eq_false (by decide +kernel)
theorem q6 : (("items" : Str) = "used") = False := eq_false (by decide +kernel)
theorem q7 : (("assigned" : Str) = "used") = False := eq_false (by decide +kernel)
theorem q8 : (("owner" : Str) = "used") = False := eq_false (by decide +kernel)
theorem q9 : (("value" : Str) = "used") = False := eq_false (by decide +kernel)
theorem q10 : (("item" : Str) = "used") = False := eq_false (by decide +kernel)
/-- a plain row of this form -/
structure PlainF (d : PyData) (ps : List Part) : Prop where
  p0 : hasForm S0 d plainForms = true
  r1 : hasForm S1 d rowForms = true
  e0 : parts0 d plainForms = ps
  e1 : partsD d rowForms = ps
  br : formOf d branchForms = none
theorem plainF {n : Nat} {w : Str} {args : List PyData} {q : List Str} (hn : args.length = n) (h1 : plainForms.find? (hitF n w) = some (w :: q)) (h2 : rowForms.find? (hitF n w) = some (w :: q)) (h3 : branchForms.find? (hitF n w) = none) (hs : (sorted2 S0 args q).all id = true) : PlainF (.tuple (.str w :: args)) (q.zip args) := by
  subst hn
  have f1 : formOf (.tuple (.str w :: args)) plainForms = some (w :: q) := form_hd rfl h1
  have f2 : formOf (.tuple (.str w :: args)) rowForms = some (w :: q) := form_hd rfl h2
  have hq : ∀ z ∈ q, ok0 z := plain_ok.tl _ (formOf_fits f1).2
  refine ⟨?_, ?_, parts0_of f1, ?_, ?_⟩
  · rw [has_of f1]
    exact hs
  · rw [has_of f2]
    show (sorted2 S1 args q).all id = true
    rw [sorted2_10 hq]
    exact hs
  · unfold partsD
    rw [parts0_of f2]
    exact flat_ok (ps := q.zip args) fun p hp => hq _ (List.of_mem_zip hp).1
  · unfold formOf
    have e : fits (.tuple (.str w :: args)) = hitF args.length w := by
      funext f
      cases f <;> rfl
    rw [e]
    exact h3
theorem nmS {z : List Nat} (g : GoodN z) : isNameD (.str (S z)) = true := g.ok
theorem ownS {o : Str} {v : List Nat} (h : OwOk o v) : isOwnerD (.str o) = true := by
  rcases h.1 with rfl | ⟨c, rfl, g⟩
  · rfl
  · show (S c == "cls" || nameOk (S c)) = true
    rw [g.ok, Bool.or_true]
/-- what a right plain row assigns and uses -/
theorem PG.facts {us ts : NmL} {ows : List (Str × List Nat)} {x : Option (List Nat)} {d : PyData} (h : PG us ts ows x d) (hx : ∀ y, x = some y → GoodN y) (hu : ∀ y ∈ us, GoodN y) : ∃ ps, PlainF d ps ∧ ofSort "assigned" ps = (x.map S).toList ∧ ∀ z ∈ ofSort "used" ps, z ∈ us.map S := by
  have mm : ∀ {y : List Nat}, y ∈ us → S y ∈ us.map S := fun h => List.mem_map.mpr ⟨_, h, rfl⟩
  cases h with
  | new x ys hi =>
    have hi := hi.1
    refine ⟨_, plainF (q := ["assigned", "items"]) (n := 2) rfl (by decide +kernel) (by decide +kernel) (by decide +kernel) ?_, ?_, ?_⟩
    · show (S0 _ "assigned" && (S0 _ "items" && true)) = true
      rw [S0_assigned, S0_items, nmS (hx x rfl), show isItemsD (itsD ys) = true from items_ok hi]
      rfl
    · simp only [List.zip_cons_cons, List.zip_nil_right, ofSort_cons, ofSort_nil, q1, if_true, if_false, strD]
      rfl
    · simp only [List.zip_cons_cons, List.zip_nil_right, ofSort_cons, ofSort_nil, q6, q7, if_true, if_false]
      intro z hz
      cases hz
  | nam w x y hw hy =>
    refine ⟨[("assigned", .str (S x)), ("used", .str (S y))], ?_, ?_, ?_⟩
    · rcases hw with rfl | rfl <;>
      · refine plainF (q := ["assigned", "used"]) (n := 2) rfl (by decide +kernel) (by decide +kernel) (by decide +kernel) ?_
        show (S0 _ "assigned" && (S0 _ "used" && true)) = true
        rw [S0_assigned, S0_used, nmS (hx x rfl), nmS (hu y hy)]
        rfl
    · simp only [ofSort_cons, ofSort_nil, q2, if_true, if_false, strD]
      rfl
    · simp only [ofSort_cons, ofSort_nil, q7, if_true, if_false, strD]
      intro z hz
      have hz : z ∈ [S y] := hz
      rw [List.mem_singleton.mp hz]
      exact mm hy
  | get x o v ho =>
    have ho := ho.1
    refine ⟨_, plainF (q := ["assigned", "owner", "value"]) (n := 3) rfl (by decide +kernel) (by decide +kernel) (by decide +kernel) ?_, ?_, ?_⟩
    · show (S0 _ "assigned" && (S0 _ "owner" && (S0 _ "value" && true))) = true
      rw [S0_assigned, S0_owner, S0_value, nmS (hx x rfl), ownS ho, nmS ho.2]
      rfl
    · simp only [List.zip_cons_cons, List.zip_nil_right, ofSort_cons, ofSort_nil, q3, q4, if_true, if_false, strD]
      rfl
    · simp only [List.zip_cons_cons, List.zip_nil_right, ofSort_cons, ofSort_nil, q7, q8, q9, if_true, if_false]
      intro z hz
      cases hz
  | add w y ys hw hy hi =>
    have hi := hi.1
    refine ⟨[("used", .str (S y)), ("items", itsD ys)], ?_, ?_, ?_⟩
    · rcases hw with rfl | rfl <;>
      · refine plainF (q := ["used", "items"]) (n := 2) rfl (by decide +kernel) (by decide +kernel) (by decide +kernel) ?_
        show (S0 _ "used" && (S0 _ "items" && true)) = true
        rw [S0_used, S0_items, nmS (hu y hy), show isItemsD (itsD ys) = true from items_ok hi]
        rfl
    · simp only [ofSort_cons, ofSort_nil, q1, q2, if_true, if_false]
      rfl
    · simp only [ofSort_cons, ofSort_nil, q6, if_true, if_false, strD]
      intro z hz
      have hz : z ∈ [S y] := hz
      rw [List.mem_singleton.mp hz]
      exact mm hy
  | grow w o v ys hw ho hi =>
    have ho := ho.1
    have hi := hi.1
    refine ⟨[("owner", .str o), ("value", .str (S v)), ("items", itsD ys)], ?_, ?_, ?_⟩
    · rcases hw with rfl | rfl <;>
      · refine plainF (q := ["owner", "value", "items"]) (n := 3) rfl (by decide +kernel) (by decide +kernel) (by decide +kernel) ?_
        show (S0 _ "owner" && (S0 _ "value" && (S0 _ "items" && true))) = true
        rw [S0_owner, S0_value, S0_items, ownS ho, nmS ho.2, show isItemsD (itsD ys) = true from items_ok hi]
        rfl
    · simp only [ofSort_cons, ofSort_nil, q1, q3, q4, if_true, if_false]
      rfl
    · simp only [ofSort_cons, ofSort_nil, q6, q8, q9, if_true, if_false]
      intro z hz
      cases hz
  | set o v y ho hy =>
    have ho := ho.1
    refine ⟨_, plainF (q := ["owner", "value", "used"]) (n := 3) rfl (by decide +kernel) (by decide +kernel) (by decide +kernel) ?_, ?_, ?_⟩
    · show (S0 _ "owner" && (S0 _ "value" && (S0 _ "used" && true))) = true
      rw [S0_owner, S0_value, S0_used, ownS ho, nmS ho.2, nmS (hu y hy)]
      rfl
    · simp only [List.zip_cons_cons, List.zip_nil_right, ofSort_cons, ofSort_nil, q2, q3, q4, if_true, if_false]
      rfl
    · simp only [List.zip_cons_cons, List.zip_nil_right, ofSort_cons, ofSort_nil, q8, q9, if_true, if_false, strD]
      intro z hz
      have hz : z ∈ [S y] := hz
      rw [List.mem_singleton.mp hz]
      exact mm hy
/-- a right test -/
theorem TG.facts {us ts : NmL} {d : PyData} (h : TG us ts d) (ht : ∀ y ∈ ts, GoodN y) (hu : ∀ y ∈ us, GoodN y) : ∃ ps, hasForm S0 d testForms = true ∧ parts0 d testForms = ps ∧ (∀ p ∈ ps, ok0 p.1) ∧ ofSort "assigned" ps = [] ∧ ∀ z ∈ ofSort "used" ps, z ∈ us.map S := by
  have mm : ∀ {y : List Nat}, y ∈ us → S y ∈ us.map S := fun h => List.mem_map.mpr ⟨_, h, rfl⟩
  obtain ⟨w, a, b, rfl, hb, hw⟩ := h
  have fin : ∀ (s1 : Str), formOf (.tuple [.str w, .str (S a), .str (S b)]) testForms = some [w, s1, "used"] → S0 (.str (S a)) s1 = true → (s1 = "item" ∨ (s1 = "used" ∧ a ∈ us)) → ∃ ps, hasForm S0 (.tuple [.str w, .str (S a), .str (S b)]) testForms = true ∧ parts0 (.tuple [.str w, .str (S a), .str (S b)]) testForms = ps ∧ (∀ p ∈ ps, ok0 p.1) ∧ ofSort "assigned" ps = [] ∧ ∀ z ∈ ofSort "used" ps, z ∈ us.map S := by
    intro s1 hf hs h1
    refine ⟨_, ?_, parts0_of hf, fun p hp => test_ok.tl _ (formOf_fits hf).2 _ (List.of_mem_zip hp).1, ?_, ?_⟩
    · rw [has_of hf]
      show (S0 (.str (S a)) s1 && (S0 (.str (S b)) "used" && true)) = true
      rw [hs, S0_used, nmS (hu b hb)]
      rfl
    · rcases h1 with rfl | ⟨rfl, _⟩ <;>
      · show ofSort "assigned" [_, _] = []
        simp only [ofSort_cons, ofSort_nil, q2, q5, if_false]
        rfl
    · rcases h1 with rfl | ⟨rfl, ha⟩
      · show ∀ z ∈ ofSort "used" [_, _], z ∈ us.map S
        simp only [ofSort_cons, ofSort_nil, q10, if_true, if_false, strD]
        intro z hz
        have hz : z ∈ [S b] := hz
        rw [List.mem_singleton.mp hz]
        exact mm hb
      · show ∀ z ∈ ofSort "used" [_, _], z ∈ us.map S
        simp only [ofSort_cons, ofSort_nil, if_true, strD]
        intro z hz
        have hz : z ∈ [S a, S b] := hz
        rcases List.mem_cons.mp hz with rfl | hz
        · exact mm ha
        · rw [List.mem_singleton.mp hz]
          exact mm hb
  rcases hw with ⟨rfl, ha⟩ | ⟨hw, ha⟩
  · exact fin "item" (form_hd (n := 2) rfl (by decide +kernel)) (by rw [S0_item]; exact nmS (ht a ha)) (.inl rfl)
  · rcases hw with rfl | rfl <;> exact fin "used" (form_hd (n := 2) rfl (by decide +kernel)) (by rw [S0_used]; exact nmS (hu a ha)) (.inr ⟨rfl, ha⟩)
end Dr
namespace Dr
open PySem PySem.Spec PyProof.Rows L2
open SX (S S_len S_cat)
def newU (us : NmL) : Option (List Nat) → NmL
  | none => us
  | some y => if us.contains y then us else us ++ [y]
theorem newU_mem {us : NmL} {x : Option (List Nat)} (z : Str) : z ∈ (newU us x).map S ↔ z ∈ us.map S ++ (x.map S).toList := by
  cases x with
  | none =>
    show _ ↔ z ∈ us.map S ++ []
    rw [List.append_nil]
    exact Iff.rfl
  | some y =>
    show z ∈ (if us.contains y then us else us ++ [y]).map S ↔ z ∈ us.map S ++ [S y]
    by_cases h : us.contains y = true
    · rw [if_pos h]
      refine ⟨fun q => List.mem_append_left _ q, fun q => ?_⟩
      rcases List.mem_append.mp q with q | q
      · exact q
      · rw [List.mem_singleton.mp q]
        exact List.mem_map.mpr ⟨y, by simpa using h, rfl⟩
    · rw [if_neg h, List.map_append]
      exact Iff.rfl
theorem S1_test (d : PyData) : S1 d "test" = hasForm S0 d testForms := if_pos rfl
theorem S1_plain (d : PyData) : S1 d "plain" = hasForm S0 d plainForms := by
  unfold S1
  rw [if_neg (by decide +kernel), if_pos rfl]
theorem inner_test (d : PyData) : inner ("test", d) = parts0 d testForms := if_pos rfl
theorem inner_plain (d : PyData) : inner ("plain", d) = parts0 d plainForms := by
  unfold inner
  rw [if_neg (show ¬ ("plain" : Str) = "test" by decide +kernel), if_pos rfl]
theorem all_contains {l us : List Str} (h : ∀ z ∈ l, z ∈ us) : l.all us.contains = true := List.all_eq_true.mpr fun z hz => by simpa using h z hz
theorem any_contains {l us : List Str} (h : ∀ z ∈ l, z ∉ us) : l.any us.contains = false := List.any_eq_false.mpr fun z hz => by simpa using h z hz
/-- a row behind a test -/
theorem tested {w : Str} {t d : PyData} (hw : w = "if" ∨ w = "unless") : (hasForm S1 (.tuple [.str w, t, d]) rowForms = (hasForm S0 t testForms && (hasForm S0 d plainForms && true))) ∧ partsD (.tuple [.str w, t, d]) rowForms = parts0 t testForms ++ parts0 d plainForms ∧ (formOf (.tuple [.str w, t, d]) branchForms).isNone = false := by
  have f1 : formOf (.tuple [.str w, t, d]) rowForms = some [w, "test", "plain"] := by
    rcases hw with rfl | rfl <;> exact form_hd (n := 2) rfl (by decide +kernel)
  have f2 : formOf (.tuple [.str w, t, d]) branchForms = some [w, "test", "plain"] := by
    rcases hw with rfl | rfl <;> exact form_hd (n := 2) rfl (by decide +kernel)
  refine ⟨?_, ?_, by rw [f2]; rfl⟩
  · rw [has_of f1]
    show (S1 t "test" && (S1 d "plain" && true)) = _
    rw [S1_test, S1_plain]
  · unfold partsD
    rw [parts0_of f1]
    show (inner ("test", t) ++ (inner ("plain", d) ++ [])) = _
    rw [inner_test, inner_plain, List.append_nil]
theorem RowG.facts {us ts : NmL} {ows : List (Str × List Nat)} {fr x : Option (List Nat)} {d : PyData} (h : RowG us fr ts ows x d) (hu : ∀ y ∈ us, GoodN y) (ht : ∀ y ∈ ts, GoodN y) (hf : ∀ y, fr = some y → GoodN y) {fx usP : List Str} (heq : ∀ z, z ∈ usP ↔ z ∈ us.map S) (hfx : ∀ z ∈ us, S z ∉ fx) (hfr : ∀ y, fr = some y → S y ∉ fx) :
    rowB fx usP d = true ∧ ∀ z, z ∈ usP ++ asgD d ↔ z ∈ (newU us x).map S := by
  have notin : ∀ {y : List Nat} {fr' : Option (List Nat)}, (∀ y, fr' = some y → S y ∉ fx) → (y ∈ us ∨ fr' = some y) → S y ∉ fx := fun h0 h => h.elim (hfx _) (h0 _)
  have good : ∀ {y : List Nat} {fr' : Option (List Nat)}, (∀ y, fr' = some y → GoodN y) → (y ∈ us ∨ fr' = some y) → GoodN y := fun h0 h => h.elim (hu _) (h0 _)
  rcases h with ⟨hp, hx⟩ | ⟨rfl, w, t, d', x', hw, htg, hp, hx, rfl⟩
  · obtain ⟨ps, pf, ha, hus⟩ := hp.facts (fun y e => good hf (hx y e)) hu
    have ea : asgD d = (x.map S).toList := by
      unfold asgD
      rw [pf.e1, ha]
    refine ⟨?_, fun z => ?_⟩
    · unfold rowB keepsD usesD
      rw [pf.r1, pf.br, pf.e1, ha, all_contains (fun z hz => (heq z).mpr (hus z hz)), any_contains fun z hz => ?_]
      · rfl
      · cases x with
        | none => cases hz
        | some y =>
          have hz : z ∈ [S y] := hz
          rw [List.mem_singleton.mp hz]
          exact notin hfr (hx y rfl)
    · rw [newU_mem, ea, List.mem_append, List.mem_append, heq]
  · obtain ⟨ps2, pf, ha, hus⟩ := hp.facts (fun y e => good (fr' := none) (fun _ e => nomatch e) (hx y e)) hu
    obtain ⟨ps1, h1, e1, _, ha1, hus1⟩ := htg.facts ht hu
    obtain ⟨g1, g2, g3⟩ := tested (t := t) (d := d') hw
    have ep : partsD (.tuple [.str w, t, d']) rowForms = ps1 ++ ps2 := by
      rw [g2, e1, pf.e0]
    have ea : ofSort "assigned" (ps1 ++ ps2) = (x'.map S).toList := by
      rw [ofSort_app, ha1, ha]
      rfl
    have hin : ∀ z ∈ (x'.map S).toList, z ∈ us.map S ∧ z ∉ fx := fun z hz => by
      cases x' with
      | none => cases hz
      | some y =>
        have hz : z ∈ [S y] := hz
        rw [List.mem_singleton.mp hz]
        rcases hx y rfl with h | h
        · exact ⟨List.mem_map.mpr ⟨y, h, rfl⟩, hfx y h⟩
        · cases h
    refine ⟨?_, fun z => ?_⟩
    · unfold rowB keepsD usesD
      rw [g1, g3, ep, ea, h1, pf.p0, all_contains (fun z hz => (heq z).mpr (hin z hz).1), any_contains fun z hz => (hin z hz).2, all_contains (fun z hz => ?_)]
      · rfl
      · rw [ofSort_app] at hz
        rcases List.mem_append.mp hz with h | h
        · exact (heq z).mpr (hus1 z h)
        · exact (heq z).mpr (hus z h)
    · unfold asgD
      rw [ep, ea, newU_mem, List.mem_append, heq]
      show _ ↔ z ∈ us.map S ++ []
      rw [List.append_nil]
      exact ⟨fun h => h.elim id fun h => (hin z h).1, .inl⟩
/-- a right result -/
inductive ResG (us ts : NmL) : PyData → Prop
  | non : ResG us ts (.tuple [.str "none"])
  | box (z) : z ∈ us → ResG us ts (.tuple [.str "box", .str (S z)])
  | cpy (z) : z ∈ us → ResG us ts (.tuple [.str "copy", .str (S z)])
  | tst (t) : TG us ts t → ResG us ts (.tuple [.str "test", t])
theorem ResG.facts {us ts : NmL} {r : PyData} (h : ResG us ts r) (hu : ∀ y ∈ us, GoodN y) (ht : ∀ y ∈ ts, GoodN y) {usP : List Str} (heq : ∀ z, z ∈ usP ↔ z ∈ us.map S) : resB usP r = true := by
  have one : ∀ (w : Str) (z : List Nat), z ∈ us → formOf (.tuple [.str w, .str (S z)]) resultForms = some [w, "used"] → resB usP (.tuple [.str w, .str (S z)]) = true := by
    intro w z hz hf
    have ep : partsD (.tuple [.str w, .str (S z)]) resultForms = ([("used", .str (S z))] : List Part) := by
      unfold partsD
      rw [parts0_of hf]
      exact flat_ok (ps := ([("used", .str (S z))] : List Part)) fun p hp => by
        rw [List.mem_singleton.mp hp]
        show ok0 ("used" : Str)
        exact ⟨by decide +kernel, by decide +kernel⟩
    have e1 : S1 (.str (S z)) "used" = true := by
      rw [S1_S0 ⟨by decide +kernel, by decide +kernel⟩, S0_used]
      exact nmS (hu z hz)
    unfold resB usesD
    rw [ep, has_of hf, all_contains fun y hy => ?_]
    · show ((S1 (.str (S z)) "used" && true) && true) = true
      rw [e1]
      rfl
    · simp only [ofSort_cons, ofSort_nil, if_true, strD] at hy
      have hy : y ∈ [S z] := hy
      rw [List.mem_singleton.mp hy]
      exact (heq _).mpr (List.mem_map.mpr ⟨z, hz, rfl⟩)
  cases h with
  | non =>
    unfold resB
    rw [show hasForm S1 (.tuple [.str "none"]) resultForms = true by decide +kernel, show partsD (.tuple [.str "none"]) resultForms = [] by
      unfold partsD
      rw [parts0_of (f := ["none"]) (form_hd (n := 0) rfl (by decide +kernel))]
      rfl]
    rfl
  | box z hz => exact one "box" z hz (form_hd (n := 1) rfl (by decide +kernel))
  | cpy z hz => exact one "copy" z hz (form_hd (n := 1) rfl (by decide +kernel))
  | tst t htg =>
    obtain ⟨ps1, h1, e1, _, ha1, hus1⟩ := htg.facts ht hu
    have hf : formOf (.tuple [.str "test", t]) resultForms = some (["test", "test"] : List Str) := form_hd (n := 1) rfl (by decide +kernel)
    unfold resB usesD
    rw [has_of hf, show partsD (.tuple [.str "test", t]) resultForms = ps1 by
      unfold partsD
      rw [parts0_of hf]
      show inner ("test", t) ++ [] = ps1
      rw [inner_test, List.append_nil, e1], all_contains fun y hy => (heq y).mpr (hus1 y hy)]
    show ((S1 t "test" && true) && true) = true
    rw [S1_test, h1]
    rfl
theorem TG.sm {us ts : NmL} {d : PyData} (h : TG us ts d) (ht : ∀ y ∈ ts, GoodN y) (hu : ∀ y ∈ us, GoodN y) : Smn 1 d := by
  obtain ⟨w, a, b, rfl, hb, hw⟩ := h
  have hsw : SmS w := by
    rcases hw with ⟨rfl, _⟩ | ⟨rfl | rfl, _⟩ <;> exact sms_lit (by decide +kernel)
  have hga : GoodN a := by
    rcases hw with ⟨_, h⟩ | ⟨_, h⟩
    · exact ht a h
    · exact hu a h
  exact smn_tup (n := 0) (smn_cons (smn_str hsw) (smn_cons (smn_str (sms_good hga)) (smn_cons (smn_str (sms_good (hu b hb))) smn_nil))) (by show 3 ≤ 1000; decide)
theorem its_smn {ys : List Str} (h : ItsOk ys) : Smn 1 (itsD ys) := smn_tup (n := 0) (smns_of fun d hd => by
  obtain ⟨z, hz, rfl⟩ := List.mem_map.mp hd
  exact smn_str (h.sm z hz)) (by rw [List.length_map]; have := h.len; omega)
theorem PG.sm {us ts : NmL} {ows : List (Str × List Nat)} {x : Option (List Nat)} {d : PyData} (h : PG us ts ows x d) (hx : ∀ y, x = some y → GoodN y) (hu : ∀ y ∈ us, GoodN y) : Smn 2 d := by
  have nm : ∀ {z : List Nat}, GoodN z → Smn 1 (.str (S z)) := fun g => smn_str (sms_good g)
  cases h with
  | new x ys hi => exact smn_tup (smn_cons (smn_lit (by decide +kernel)) (smn_cons (nm (hx x rfl)) (smn_cons (its_smn hi.1) smn_nil))) (by show 3 ≤ 1000; decide)
  | nam w x y hw hy => rcases hw with rfl | rfl <;> exact smn_tup (smn_cons (smn_lit (by decide +kernel)) (smn_cons (nm (hx x rfl)) (smn_cons (nm (hu y hy)) smn_nil))) (by show 3 ≤ 1000; decide)
  | get x o v ho => exact smn_tup (smn_cons (smn_lit (by decide +kernel)) (smn_cons (nm (hx x rfl)) (smn_cons (smn_str (sms_ow ho.1)) (smn_cons (nm ho.1.2) smn_nil)))) (by show 4 ≤ 1000; decide)
  | add w y ys hw hy hi => rcases hw with rfl | rfl <;> exact smn_tup (smn_cons (smn_lit (by decide +kernel)) (smn_cons (nm (hu y hy)) (smn_cons (its_smn hi.1) smn_nil))) (by show 3 ≤ 1000; decide)
  | grow w o v ys hw ho hi => rcases hw with rfl | rfl <;> exact smn_tup (smn_cons (smn_lit (by decide +kernel)) (smn_cons (smn_str (sms_ow ho.1)) (smn_cons (nm ho.1.2) (smn_cons (its_smn hi.1) smn_nil)))) (by show 4 ≤ 1000; decide)
  | set o v y ho hy => exact smn_tup (smn_cons (smn_lit (by decide +kernel)) (smn_cons (smn_str (sms_ow ho.1)) (smn_cons (nm ho.1.2) (smn_cons (nm (hu y hy)) smn_nil)))) (by show 4 ≤ 1000; decide)
theorem RowG.sm {us ts : NmL} {ows : List (Str × List Nat)} {fr x : Option (List Nat)} {d : PyData} (h : RowG us fr ts ows x d) (hu : ∀ y ∈ us, GoodN y) (ht : ∀ y ∈ ts, GoodN y) (hf : ∀ y, fr = some y → GoodN y) : Smn 3 d := by
  rcases h with ⟨hp, hx⟩ | ⟨rfl, w, t, d', x', hw, htg, hp, hx, rfl⟩
  · exact (hp.sm (fun y e => (hx y e).elim (hu y) (hf y)) hu).mono (by decide)
  · have h1 := hp.sm (fun y e => (hx y e).elim (hu y) (fun e => nomatch e)) hu
    rcases hw with rfl | rfl <;> exact smn_tup (smn_cons (smn_lit (by decide +kernel)) (smn_cons ((htg.sm ht hu).mono (by decide)) (smn_cons h1 smn_nil))) (by show 3 ≤ 1000; decide)
theorem ResG.sm {us ts : NmL} {d : PyData} (h : ResG us ts d) (hu : ∀ y ∈ us, GoodN y) (ht : ∀ y ∈ ts, GoodN y) : Smn 3 d := by
  cases h with
  | non => exact smn_tup (smn_cons (smn_lit (by decide +kernel)) smn_nil) (by show 1 ≤ 1000; decide)
  | box z hz => exact smn_tup (smn_cons (smn_lit (by decide +kernel)) (smn_cons (smn_str (sms_good (hu z hz))) smn_nil)) (by show 2 ≤ 1000; decide)
  | cpy z hz => exact smn_tup (smn_cons (smn_lit (by decide +kernel)) (smn_cons (smn_str (sms_good (hu z hz))) smn_nil)) (by show 2 ≤ 1000; decide)
  | tst t htg => exact smn_tup (smn_cons (smn_lit (by decide +kernel)) (smn_cons ((htg.sm ht hu).mono (by decide)) smn_nil)) (by show 2 ≤ 1000; decide)
end Dr
namespace Dr
open PySem PySem.Spec PyProof.Rows L2
open SX (S S_len S_cat)
theorem strs_of_vals : ∀ {ys : List Str} {its : List Value}, Vals (ys.map V.str) its → StrsAre its ys
  | [], _, h => by
    cases h
    exact .nil
  | y :: r, _, h => by
    cases h with
    | cons h1 h2 =>
      obtain ⟨t, rfl⟩ := h1
      exact .cons y t (strs_of_vals h2)
def rRemH : V → List V → Hp → VK → Prop := fun x vs H Q => ∃ (l : Addr) (z : Str) (r : List Str), x = .ref l ∧ vs = [.str z] ∧ H l = some (.lst ((z :: r).map V.str)) ∧ Q .non (upd H l (.lst (r.map V.str)))
section
variable {X : Cx}
theorem mt_removeH : MtM X "list.remove" rRemH := by
  intro pins s σ H x xs v us Q I rx rxs h
  obtain ⟨l, k, rr, rfl, rfl, hH, q⟩ := h
  cases rx
  obtain ⟨u, rfl, ru⟩ := rxs.one
  obtain ⟨t, rfl⟩ := ru
  obtain ⟨z, its, n, r, hl, e⟩ := I.lstM hH
  have hi := strs_of_vals r
  rw [List.length_map] at hl z
  have hjl : 0 < its.toArray.size := by
    rw [List.size_toArray, ← hl]
    exact Nat.succ_pos _
  refine call_meets PySem.F.slot_list_remove ⟨_, e, rfl⟩ PySem.F.entry_list_remove (PySem.F.args_list_remove_2 _ _)
    (MeetsSeq.list_remove l its.toArray n (.str k t) (isStrOf k) (fun y hy => eq_isStrOf k t hi y (by simpa using hy)) 0 hjl ?_ ?_ (by rw [List.size_toArray]; omega)) ⟨e, ?_⟩
  · cases hi with
    | cons y t' h => exact beq_self_eq_true k
  · intro m hm hmj
    exact absurd hmj (Nat.not_lt_zero _)
  · have r2 : Vals (rr.map V.str) (its.eraseIdx 0) := by
      have w := r.eraseIdx 0
      exact w
    refine ⟨.non, _, I.lset (its' := its.eraseIdx 0) hH e ?_ r2 ?_, rfl, q⟩
    · rw [List.eraseIdxIfInBounds_toArray]
    · rw [List.length_map]
      have z : rr.length + 1 ≤ sizeLine := z
      omega
end
end Dr
namespace Dr
open PySem PySem.Spec PyProof.Rows L2
open SX (S S_len S_cat)
/-- a drawn parameter stands at t, its default is v -/
structure Item (K : PySem.W.Frag) (H : Hp) (r : Pr) (t : Addr) (v : V) : Prop where
  at_ : SqT K H t [.str (S r.nm), .str r.hs, v, .bl r.nd]
  dt : Dt K H v r.df.data
theorem item_of {K : PySem.W.Frag} {H : Hp} {y : V} {r : Pr} (h : Dt K H y r.data) : ∃ t v, y = .ref t ∧ Item K H r t v := by
  have h : Dp K (tu H) y (.tuple [.str (S r.nm), .str r.hs, r.df.data, .bool r.nd]) := h
  cases h with
  | tup hs hd =>
    cases hd with
    | cons h1 hd =>
      cases h1
      cases hd with
      | cons h2 hd =>
        cases h2
        cases hd with
        | cons h3 hd =>
          cases hd with
          | cons h4 hd =>
            cases h4
            cases hd
            exact ⟨_, _, rfl, Same.seqT tu_sub hs, h3⟩
theorem Item.non {K : PySem.W.Frag} {H : Hp} {r : Pr} {t : Addr} {v : V} (h : Item K H r t v) : decide (v = .non) = (match r.df with | .non => true | _ => false) := by
  obtain ⟨_, hd⟩ := h
  cases e : r.df <;> rw [e] at hd <;> cases hd <;> rfl
def sel (f : Pr → Bool) (e : Pr → V → V) (prs : List Pr) (ps : List V) : List V := ((prs.zip ps).filter fun x => f x.1).map fun x => e x.1 x.2
theorem zip_take {α β : Type} : ∀ (xs : List α) (ys : List β) (i : Nat), (xs.take i).zip (ys.take i) = (xs.zip ys).take i
  | [], _, i => by simp
  | _ :: _, [], i => by simp
  | x :: xs, y :: ys, 0 => rfl
  | x :: xs, y :: ys, i + 1 => by
    show (x, y) :: (xs.take i).zip (ys.take i) = (x, y) :: (xs.zip ys).take i
    rw [zip_take xs ys i]
theorem sel_next {f : Pr → Bool} {e : Pr → V → V} {prs : List Pr} {ps : List V} {i : Nat} {r : Pr} {y : V} (h1 : prs[i]? = some r) (h2 : ps[i]? = some y) : sel f e (prs.take (i + 1)) (ps.take (i + 1)) = sel f e (prs.take i) (ps.take i) ++ (if f r then [e r y] else []) := by
  unfold sel
  have hz : (prs.zip ps)[i]? = some (r, y) := List.getElem?_zip_eq_some.mpr ⟨h1, h2⟩
  rw [zip_take, zip_take, List.take_add_one, hz, List.filter_append, List.map_append]
  show _ ++ List.map _ (List.filter _ [(r, y)]) = _
  by_cases hf : f r = true
  · rw [List.filter_cons, if_pos hf, if_pos hf]
    rfl
  · rw [List.filter_cons, if_neg hf, if_neg hf]
    rfl
theorem sel_len (f : Pr → Bool) (e : Pr → V → V) (prs : List Pr) (ps : List V) : (sel f e prs ps).length ≤ prs.length := by
  unfold sel
  rw [List.length_map]
  refine Nat.le_trans (List.length_filter_le ..) ?_
  rw [List.length_zip]
  exact Nat.min_le_left _ _
/-- the names of those chosen -/
theorem sel_names {f : Pr → Bool} : ∀ {prs : List Pr} {ps : List V}, prs.length = ps.length → sel f (fun r _ => .str (S r.nm)) prs ps = txts ((prs.filter f).map Pr.nm)
  | [], [], _ => rfl
  | r :: q, y :: ys, h => by
    have ih := sel_names (f := f) (prs := q) (ps := ys) (by simpa using h)
    unfold sel at ih ⊢
    rw [List.zip_cons_cons, List.filter_cons, List.filter_cons]
    by_cases hf : f r = true
    · rw [if_pos hf, if_pos hf, List.map_cons, ih]
      rfl
    · rw [if_neg hf, if_neg hf]
      exact ih
  | [], _ :: _, h => by simp at h
  | _ :: _, [], h => by simp at h
/-- those chosen, as data -/
theorem sel_data {K : PySem.W.Frag} {H : Hp} {f : Pr → Bool} : ∀ {prs : List Pr} {ps : List V}, DtAll K H ps (prs.map Pr.data) → DtAll K H (sel f (fun _ y => y) prs ps) ((prs.filter f).map Pr.data)
  | [], _, h => by
    cases h
    exact .nil
  | r :: q, _, .cons (vs := ys) h hs => by
    have ih := sel_data (f := f) (prs := q) (ps := ys) hs
    unfold sel at ih ⊢
    rw [List.zip_cons_cons, List.filter_cons, List.filter_cons]
    by_cases hf : f r = true
    · rw [if_pos hf, if_pos hf]
      exact .cons h ih
    · rw [if_neg hf, if_neg hf]
      exact ih
theorem lc_prs {K : PySem.W.Frag} {a : Addr} {ps : List V} {prs : List Pr} {g : L2.TG} {tt : TT} {te : TE} {vs : List Nat} {σ : L2.St} {H1 : Hp} {D : Addr} {Qd : Hp → Prop} (f : Pr → Bool) (e : Pr → V → V) (ha : H1 a = some (.lst ps)) (hd : DtAll K H1 ps (prs.map Pr.data)) (nD : H1 D = none) (hl : prs.length ≤ 100)
    (hs : ∀ r t v H, r ∈ prs → Item K H r t v → ∀ (R : V → Hp → Prop) (R' : Hp → Prop), (f r = true → R (e r (.ref t)) H) → (f r = false → R' H) → g (.ref t) (wipe σ vs) H fun σ2 H2 => wipe σ2 vs = wipe σ vs ∧ tt σ2 H2 fun b H3 => if b = true then te σ2 H3 fun y H4 => R y H4 else R' H3)
    (fin : ∀ H2, Same H1 H2 → H2 D = some (.lst (sel f e prs ps)) → Qd H2) :
    ∃ W : Nat → Nat → Hp → Prop, (∃ m, W 0 m (upd H1 D (.lst []))) ∧ ∀ i m H, W i m H →
      ((Itl K a).stop i H ∧ Qd H) ∨ ((Itl K a).go i H ∧ ∃ Nx : Hp → Prop, (∀ H', Nx H' → ∃ m', m' < m ∧ W (i + 1) m' H') ∧ ∀ x H', (Itl K a).yld i H x H' → g x (wipe σ vs) H' fun σ2 H2 => wipe σ2 vs = wipe σ vs ∧ tt σ2 H2 fun b H3 =>
        if b = true then te σ2 H3 fun y H4 => ∃ acc, H4 D = some (.lst acc) ∧ acc.length < sizeLine ∧ Nx (upd H4 D (.lst (acc ++ [y]))) else Nx H3) := by
  have hpl : ps.length = prs.length := by rw [dpAll_len hd, List.length_map]
  refine lc_it (walk_list (K := K) (a := a) (xs := ps)) (fun i H => Same H1 H ∧ H D = some (.lst (sel f e (prs.take i) (ps.take i)))) ⟨same_upd nD, upd_same⟩ (fun i H _ h => SqL.of (h.1 _ _ ha)) ?_ ?_
  · rintro i x H H' hi ⟨sm, hD⟩ ⟨rfl, ex⟩
    obtain ⟨d0, hd0, hdy⟩ := dpAll_get (hd.ext (TupE.same sm)) ex
    rw [List.getElem?_map] at hd0
    cases hr : prs[i]? with
    | none =>
      rw [hr] at hd0
      cases hd0
    | some r =>
      rw [hr] at hd0
      obtain rfl := Option.some.inj hd0
      obtain ⟨t, v, rfl, hit⟩ := item_of hdy
      refine hs r t v _ (List.mem_of_getElem? hr) hit _ _ (fun hf => ?_) (fun hf => ?_)
      · refine ⟨_, hD, ?_, same_grow sm nD, ?_⟩
        · have h1 := sel_len f e (prs.take i) (ps.take i)
          rw [List.length_take] at h1
          exact small1000 (by omega)
        · rw [upd_same, sel_next hr ex, hf]
          rfl
      · refine ⟨sm, ?_⟩
        rw [hD, sel_next hr ex, hf, if_neg Bool.false_ne_true, List.append_nil]
  · rintro H ⟨sm, hD⟩
    rw [List.take_length, List.take_of_length_le (by omega)] at hD
    exact fin H sm hD
end Dr
namespace Dr
open PySem PySem.Spec PyProof.Rows L2
open SX (S S_len S_cat)
def isNonD : Df → Bool
  | .non => true
  | _ => false
def badPr (a b : Pr) : Bool := !b.nd && (a.nd || (!isNonD a.df && isNonD b.df))
def ofHs (h : Str) (prs : List Pr) : NmL := (prs.filter fun r => decide (r.hs = h)).map Pr.nm
/-- parameters in the order in which they may stand -/
def srt (prs : List Pr) : List Pr := ((prs.filter fun r => !r.nd && isNonD r.df) ++ (prs.filter fun r => !r.nd && !isNonD r.df)) ++ prs.filter fun r => r.nd
theorem mem_srt {prs : List Pr} {r : Pr} : r ∈ srt prs ↔ r ∈ prs := by
  unfold srt
  rw [List.mem_append, List.mem_append, List.mem_filter, List.mem_filter, List.mem_filter]
  cases hn : r.nd <;> cases hd : isNonD r.df <;> simp
theorem srt_perm : ∀ prs : List Pr, (srt prs).Perm prs
  | [] => .refl _
  | r :: q => by
    have ih := srt_perm q
    unfold srt at ih ⊢
    rw [List.filter_cons, List.filter_cons, List.filter_cons]
    cases hn : r.nd <;> cases hd : isNonD r.df <;> simp only [Bool.not_true, Bool.not_false, Bool.and_true, Bool.and_false, Bool.false_and, Bool.true_and, if_true, if_false, Bool.false_eq_true]
    · rw [List.append_assoc]
      refine List.Perm.trans ?_ (ih.cons r)
      rw [List.append_assoc]
      exact List.perm_middle
    · exact ih.cons r
    · exact List.perm_middle.trans (ih.cons r)
    · exact List.perm_middle.trans (ih.cons r)
theorem srt_ord (prs : List Pr) : (srt prs).Pairwise fun a b => badPr a b = false := by
  unfold srt
  refine List.pairwise_append.mpr ⟨List.pairwise_append.mpr ⟨?_, ?_, ?_⟩, ?_, ?_⟩
  · exact List.pairwise_of_forall_mem_list fun a ha b hb => by
      have h1 := (List.mem_filter.mp ha).2
      have h2 := (List.mem_filter.mp hb).2
      unfold badPr
      cases ea : a.nd <;> cases eb : isNonD a.df <;> simp_all
  · exact List.pairwise_of_forall_mem_list fun a ha b hb => by
      have h1 := (List.mem_filter.mp ha).2
      have h2 := (List.mem_filter.mp hb).2
      unfold badPr
      cases ea : a.nd <;> cases eb : isNonD b.df <;> simp_all
  · intro a ha b hb
    have h1 := (List.mem_filter.mp ha).2
    have h2 := (List.mem_filter.mp hb).2
    unfold badPr
    cases ea : a.nd <;> cases eb : isNonD a.df <;> simp_all
  · exact List.pairwise_of_forall_mem_list fun a ha b hb => by
      have h2 := (List.mem_filter.mp hb).2
      unfold badPr
      simp_all
  · intro a ha b hb
    have h2 := (List.mem_filter.mp hb).2
    unfold badPr
    simp_all
def methD (nm : List Nat) (prs : List Pr) (ds : List PyData) (r : PyData) : PyData := .tuple [.str (S nm), .tuple (prs.map Pr.data), .tuple ds, r]
/-- a drawn method is right -/
def PrIn (ss : NmL) (ows : List (Str × List Nat)) (x : Pr) : Prop := x.ok ∧ DfIn ss ows x.df
def DsIn (ss : NmL) (ows : List (Str × List Nat)) (prs : List Pr) (d : PyData) : Prop := Smn 3 d ∧ ∃ us fr x, RowG us fr (ss ++ ofHs "mark" prs) ows x d
structure MG (ns ss : NmL) (ows : List (Str × List Nat)) (prs : List Pr) (ds : List PyData) (r : PyData) : Prop where
  plen : prs.length ≤ 3
  pok : ∀ x ∈ prs, x.ok
  pdf : ∀ x ∈ prs, DfIn ss ows x.df
  pnd : (prs.map Pr.nm).Nodup
  pin : ∀ x ∈ prs, x.nm ∈ ns
  ord : prs.Pairwise fun a b => badPr a b = false
  bx : (ofHs "box" prs).length ≤ 2
  rlen : ds.length ≤ 5
  rok : okR ((ofHs "mark" prs).map S) ((ofHs "box" prs).map S) ds = true
  res : resB (usA ((ofHs "box" prs).map S) ds) r = true
  uin : ∀ z ∈ usA ((ofHs "box" prs).map S) ds, z ∈ ns.map S
  umk : ∀ z ∈ usA ((ofHs "box" prs).map S) ds, z ∉ (ofHs "mark" prs).map S
  sm : ∀ d ∈ ds, Smn 3 d
  rin : ∀ d ∈ ds, ∃ us fr x, RowG us fr (ss ++ ofHs "mark" prs) ows x d
  rsm : Smn 3 r
  xin : ∃ us, ResG us (ss ++ ofHs "mark" prs) r
abbrev sMeth : Stmt := topS 45
abbrev nMeth : List Str := ["_law_bag_here", "_law_name", "_law_names_here", "_law_signs", "_law_owned", "_law_free", "_law_params_here", "_law_turn", "_law_param_here", "_law_usable", "_law_things", "_law_listed", "_law_row_here", "_law_result", "_law_one"]
abbrev psMeth : List Str := ["_law_bag_here", "_law_name", "_law_names_here", "_law_signs", "_law_owned"]
theorem scMeth : FnScope nMeth psMeth (defScope sMeth) := ⟨rfl, rfl, rfl, by decide +kernel, rfl, by decide +kernel, by decide +kernel⟩
structure BltM (mg : Str → Option Value) : Prop where
  tup : mg "tuple" = none
  lis : mg "list" = none
  ran : mg "range" = none
  len : mg "len" = none
section
variable {P : Program} {w : World} {K : PySem.W.Frag} {mg : Str → Option Value} {base : Heap}
/-- while parameters are drawn -/
structure PhA (J : Pr → Prop) (K : PySem.W.Frag) (H H' : Hp) (p fl pl : Addr) (ns fs : NmL) (ps : List V) (prs : List Pr) (n : Nat) : Prop where
  kp : Kp p H H'
  nfl : H fl = none
  npl : H pl = none
  fp : fl ≠ p
  pp : pl ≠ p
  fpl : fl ≠ pl
  hf : H' fl = some (.lst (txts fs))
  hp : H' pl = some (.lst ps)
  dt : DtAll K H' ps (prs.map Pr.data)
  ok : ∀ x ∈ prs, J x
  nd : (prs.map Pr.nm ++ fs).Nodup
  mem : ∀ z ∈ prs.map Pr.nm ++ fs, z ∈ ns
  bx : (ofHs "box" prs).length ≤ 2
  len : prs.length ≤ n
  fsl : 7 ≤ fs.length + n ∧ fs.length + n ≤ 12
  n3 : n ≤ 3
theorem PhA.go {J : Pr → Prop} {K : PySem.W.Frag} {H H' H2 : Hp} {p fl pl : Addr} {ns fs : NmL} {ps : List V} {prs : List Pr} {n : Nat} (h : PhA J K H H' p fl pl ns fs ps prs n) (k : Kp p H' H2) : PhA J K H H2 p fl pl ns fs ps prs n := ⟨h.kp.trans k, h.nfl, h.npl, h.fp, h.pp, h.fpl, k.1 _ _ h.fp h.hf, k.1 _ _ h.pp h.hp, h.dt.ext (TupE.kp h.kp.2 k), h.ok, h.nd, h.mem, h.bx, h.len, h.fsl, h.n3⟩
theorem PhA.fsn {J : Pr → Prop} {K : PySem.W.Frag} {H H' : Hp} {p fl pl : Addr} {ns fs : NmL} {ps : List V} {prs : List Pr} {n : Nat} (h : PhA J K H H' p fl pl ns fs ps prs n) : NmsAt H' p fl fs := ⟨h.fp, h.hf, by have := h.fsl; omega⟩
/-- one parameter more -/
theorem PhA.add {J : Pr → Prop} {K : PySem.W.Frag} {H H' : Hp} {p fl pl ty : Addr} {ns fs : NmL} {ps : List V} {prs : List Pr} {n : Nat} {r : Pr} (h : PhA J K H H' p fl pl ns fs ps prs n) (hy : Dt K H' (.ref ty) r.data) (hr : J r) (hn : (prs.map Pr.nm ++ (r.nm :: fs)).Nodup) (hm : r.nm ∈ ns) (hl : prs.length < n) (hb : r.hs = "mark" ∨ (ofHs "box" prs).length < 2) : PhA J K H (upd H' pl (.lst (ps ++ [.ref ty]))) p fl pl ns fs (ps ++ [.ref ty]) (prs ++ [r]) n := by
  refine ⟨kp_new h.kp h.npl h.pp, h.nfl, h.npl, h.fp, h.pp, h.fpl, ?_, upd_same, ?_, ?_, ?_, ?_, ?_, ?_, h.fsl, h.n3⟩
  · rw [upd_ne h.fpl]
    exact h.hf
  · rw [List.map_append]
    exact DtAll.ext (dpAll_app h.dt (.cons hy .nil)) (TupE.grow h.hp)
  · intro x hx
    rcases List.mem_append.mp hx with hx | hx
    · exact h.ok x hx
    · rw [List.mem_singleton.mp hx]
      exact hr
  · rw [List.map_append, List.append_assoc]
    exact hn
  · intro z hz
    rw [List.map_append, List.append_assoc] at hz
    rcases List.mem_append.mp hz with hz | hz
    · exact h.mem z (List.mem_append_left _ hz)
    · rcases List.mem_cons.mp hz with rfl | hz
      · exact hm
      · exact h.mem z (List.mem_append_right _ hz)
  · unfold ofHs at hb ⊢
    rw [List.filter_append, List.map_append, List.length_append]
    rcases hb with hb | hb
    · rw [show List.filter (fun r : Pr => decide (r.hs = ("box" : Str))) [r] = [] by
        rw [List.filter_cons, if_neg (by rw [hb]; decide +kernel)]
        rfl]
      exact h.bx
    · have : (List.map Pr.nm (List.filter (fun r : Pr => decide (r.hs = ("box" : Str))) [r])).length ≤ 1 := by
        rw [List.length_map]
        exact List.length_filter_le ..
      omega
  · rw [List.length_append]
    show prs.length + 1 ≤ n
    omega
/-- when parameters are sorted -/
structure PhB (J : Pr → Prop) (K : PySem.W.Frag) (H H' : Hp) (p fl pl : Addr) (ns fs : NmL) (ps : List V) (prs : List Pr) : Prop where
  kp : Kp p H H'
  nfl : H fl = none
  fp : fl ≠ p
  pp : pl ≠ p
  hf : H' fl = some (.lst (txts fs))
  hp : H' pl = some (.lst ps)
  dt : DtAll K H' ps (prs.map Pr.data)
  ok : ∀ x ∈ prs, J x
  nd : (prs.map Pr.nm ++ fs).Nodup
  mem : ∀ z ∈ prs.map Pr.nm ++ fs, z ∈ ns
  bx : (ofHs "box" prs).length ≤ 2
  len : prs.length ≤ 3
  fsl : 4 ≤ fs.length ∧ fs.length ≤ 12
  ord : prs.Pairwise fun a b => badPr a b = false
  fpl : fl ≠ pl
theorem PhB.go {J : Pr → Prop} {K : PySem.W.Frag} {H H' H2 : Hp} {p fl pl : Addr} {ns fs : NmL} {ps : List V} {prs : List Pr} (h : PhB J K H H' p fl pl ns fs ps prs) (k : Kp p H' H2) : PhB J K H H2 p fl pl ns fs ps prs := ⟨h.kp.trans k, h.nfl, h.fp, h.pp, k.1 _ _ h.fp h.hf, k.1 _ _ h.pp h.hp, h.dt.ext (TupE.kp h.kp.2 k), h.ok, h.nd, h.mem, h.bx, h.len, h.fsl, h.ord, h.fpl⟩
theorem PhA.sorted {J : Pr → Prop} {K : PySem.W.Frag} {H H' H2 : Hp} {p fl pl pl2 : Addr} {ns fs : NmL} {ps ps2 : List V} {prs : List Pr} {n : Nat} (h : PhA J K H H' p fl pl ns fs ps prs n) (s : Same H' H2) (np : pl2 ≠ p) (nf : fl ≠ pl2) (h2 : H2 pl2 = some (.lst ps2)) (hd : DtAll K H2 ps2 ((srt prs).map Pr.data)) : PhB J K H H2 p fl pl2 ns fs ps2 (srt prs) := by
  have hperm := srt_perm prs
  have hfsl := h.fsl
  have hn3 := h.n3
  refine ⟨h.kp.same s, h.nfl, h.fp, np, s _ _ h.hf, h2, hd, fun x hx => h.ok x (mem_srt.mp hx), ((hperm.map Pr.nm).append_right _).nodup_iff.mpr h.nd, fun z hz => h.mem z (((hperm.map Pr.nm).append_right _).mem_iff.mp hz), ?_, ?_, by omega, srt_ord prs, nf⟩
  · have e : (ofHs "box" (srt prs)).length = (ofHs "box" prs).length := by
      unfold ofHs
      rw [List.length_map, List.length_map]
      exact (hperm.filter _).length_eq
    rw [e]
    exact h.bx
  · rw [hperm.length_eq]
    exact Nat.le_trans h.len h.n3
theorem ofHs_sub {h : Str} {prs : List Pr} {z : List Nat} (hz : z ∈ ofHs h prs) : ∃ r ∈ prs, r.nm = z ∧ r.hs = h := by
  obtain ⟨r, hr, e⟩ := List.mem_map.mp hz
  obtain ⟨h1, h2⟩ := List.mem_filter.mp hr
  exact ⟨r, h1, e, of_decide_eq_true h2⟩
theorem ofHs_nodup {h : Str} {prs : List Pr} (hn : (prs.map Pr.nm).Nodup) : (ofHs h prs).Nodup := ((List.filter_sublist).map Pr.nm).nodup hn
theorem ofHs_len {h : Str} {prs : List Pr} : (ofHs h prs).length ≤ prs.length := by
  unfold ofHs
  rw [List.length_map]
  exact List.length_filter_le ..
theorem nm_inj : ∀ {prs : List Pr} {a b : Pr}, (prs.map Pr.nm).Nodup → a ∈ prs → b ∈ prs → a.nm = b.nm → a = b
  | [], _, _, _, h, _, _ => nomatch h
  | r :: q, a, b, hn, ha, hb, e => by
    rw [List.map_cons, List.nodup_cons] at hn
    obtain ⟨h1, h2⟩ := hn
    rcases List.mem_cons.mp ha with ea | ha2
    · rcases List.mem_cons.mp hb with eb | hb2
      · rw [ea, eb]
      · rw [← ea] at h1
        exact absurd (List.mem_map.mpr ⟨b, hb2, e.symm⟩) h1
    · rcases List.mem_cons.mp hb with eb | hb2
      · rw [← eb] at h1
        exact absurd (List.mem_map.mpr ⟨a, ha2, e⟩) h1
      · exact nm_inj h2 ha2 hb2 e
theorem ofHs_dis {prs : List Pr} (hn : (prs.map Pr.nm).Nodup) {z : List Nat} (h1 : z ∈ ofHs "box" prs) (h2 : z ∈ ofHs "mark" prs) : False := by
  obtain ⟨r, hr, e1, b1⟩ := ofHs_sub h1
  obtain ⟨r2, hr2, e2, b2⟩ := ofHs_sub h2
  have : r = r2 := nm_inj hn hr hr2 (e1.trans e2.symm)
  subst this
  exact absurd (b1.symm.trans b2) (by decide +kernel)
/-- while rows are drawn -/
structure PhC (ows : List (Str × List Nat)) (K : PySem.W.Frag) (H H' : Hp) (p fl ul tl ll pl : Addr) (ns ss fs us : NmL) (ps ls : List V) (prs : List Pr) (ds : List PyData) (n : Nat) : Prop where
  kp : Kp p H H'
  nfl : H fl = none
  nul : H ul = none
  nll : H ll = none
  fp : fl ≠ p
  up : ul ≠ p
  tp : tl ≠ p
  lp : ll ≠ p
  pp : pl ≠ p
  dis : [fl, ul, tl, ll, pl].Nodup
  hf : H' fl = some (.lst (txts fs))
  hu : H' ul = some (.lst (txts us))
  ht : H' tl = some (.lst (txts (ss ++ ofHs "mark" prs)))
  hl : H' ll = some (.lst ls)
  hp : H' pl = some (.lst ps)
  dt : DtAll K H' ps (prs.map Pr.data)
  dl : DtAll K H' ls ds
  ok : ∀ x ∈ prs, PrIn ss ows x
  pnd : (prs.map Pr.nm).Nodup
  pin : ∀ x ∈ prs, x.nm ∈ ns
  bx : (ofHs "box" prs).length ≤ 2
  len : prs.length ≤ 3
  ord : prs.Pairwise fun a b => badPr a b = false
  und : (us ++ fs).Nodup
  umem : ∀ z ∈ us ++ fs, z ∈ ns ∧ z ∉ ofHs "mark" prs
  uln : us.length + fs.length ≤ 15
  une : us ++ fs ≠ []
  rok : okR ((ofHs "mark" prs).map S) ((ofHs "box" prs).map S) ds = true
  req : ∀ z, z ∈ usA ((ofHs "box" prs).map S) ds ↔ z ∈ us.map S
  sm : ∀ d ∈ ds, DsIn ss ows prs d
  dln : ds.length ≤ n
theorem PhC.go {ows : List (Str × List Nat)} {K : PySem.W.Frag} {H H' H2 : Hp} {p fl ul tl ll pl : Addr} {ns ss fs us : NmL} {ps ls : List V} {prs : List Pr} {ds : List PyData} {n : Nat} (h : PhC ows K H H' p fl ul tl ll pl ns ss fs us ps ls prs ds n) (k : Kp p H' H2) : PhC ows K H H2 p fl ul tl ll pl ns ss fs us ps ls prs ds n :=
  ⟨h.kp.trans k, h.nfl, h.nul, h.nll, h.fp, h.up, h.tp, h.lp, h.pp, h.dis, k.1 _ _ h.fp h.hf, k.1 _ _ h.up h.hu, k.1 _ _ h.tp h.ht, k.1 _ _ h.lp h.hl, k.1 _ _ h.pp h.hp, h.dt.ext (TupE.kp h.kp.2 k), h.dl.ext (TupE.kp h.kp.2 k), h.ok, h.pnd, h.pin, h.bx, h.len, h.ord, h.und, h.umem, h.uln, h.une, h.rok, h.req, h.sm, h.dln⟩
theorem PhC.re {ows : List (Str × List Nat)} {K : PySem.W.Frag} {H H' H2 : Hp} {p fl ul tl ll pl : Addr} {ns ss fs us fs' us' : NmL} {ps ls ls' : List V} {prs : List Pr} {ds ds' : List PyData} {n m : Nat} (h : PhC ows K H H' p fl ul tl ll pl ns ss fs us ps ls prs ds n) (k : Kp p H H2) (te : TupE H' H2) (hf : H2 fl = some (.lst (txts fs'))) (hu : H2 ul = some (.lst (txts us')))
    (ht : H2 tl = some (.lst (txts (ss ++ ofHs "mark" prs)))) (hl : H2 ll = some (.lst ls')) (hp : H2 pl = some (.lst ps)) (dl : DtAll K H2 ls' ds') (und : (us' ++ fs').Nodup) (umem : ∀ z ∈ us' ++ fs', z ∈ ns ∧ z ∉ ofHs "mark" prs) (uln : us'.length + fs'.length ≤ 15) (une : us' ++ fs' ≠ [])
    (rok : okR ((ofHs "mark" prs).map S) ((ofHs "box" prs).map S) ds' = true) (req : ∀ z, z ∈ usA ((ofHs "box" prs).map S) ds' ↔ z ∈ us'.map S) (sm : ∀ d ∈ ds', DsIn ss ows prs d) (dln : ds'.length ≤ m) : PhC ows K H H2 p fl ul tl ll pl ns ss fs' us' ps ls' prs ds' m :=
  ⟨k, h.nfl, h.nul, h.nll, h.fp, h.up, h.tp, h.lp, h.pp, h.dis, hf, hu, ht, hl, hp, h.dt.ext te, dl, h.ok, h.pnd, h.pin, h.bx, h.len, h.ord, und, umem, uln, une, rok, req, sm, dln⟩
/-- how a row begins -/
theorem PG.head {us ts : NmL} {ows : List (Str × List Nat)} {x : Option (List Nat)} {d : PyData} (h : PG us ts ows x d) : ∃ (w : Str) (b : PyData) (rest : List PyData), d = .tuple (.str w :: b :: rest) ∧ (∀ y, x = some y → w ∈ (["new", "name", "copy", "get"] : List Str) ∧ b = .str (S y)) ∧ (x = none → w ∉ (["new", "name", "copy", "get"] : List Str)) := by
  cases h with
  | new x ys hi => exact ⟨_, _, _, rfl, fun y e => ⟨by decide +kernel, by rw [Option.some.inj e]⟩, (fun e => nomatch e)⟩
  | nam w x y hw hy => exact ⟨_, _, _, rfl, fun y e => ⟨by rcases hw with rfl | rfl <;> decide +kernel, by rw [Option.some.inj e]⟩, (fun e => nomatch e)⟩
  | get x o v ho => exact ⟨_, _, _, rfl, fun y e => ⟨by decide +kernel, by rw [Option.some.inj e]⟩, (fun e => nomatch e)⟩
  | add w y ys hw hy hi => exact ⟨_, _, _, rfl, (fun y e => nomatch e), fun _ => by rcases hw with rfl | rfl <;> decide +kernel⟩
  | grow w o v ys hw ho hi => exact ⟨_, _, _, rfl, (fun y e => nomatch e), fun _ => by rcases hw with rfl | rfl <;> decide +kernel⟩
  | set o v y ho hy => exact ⟨_, _, _, rfl, (fun y e => nomatch e), fun _ => by decide +kernel⟩
theorem RowG.head {us ts : NmL} {ows : List (Str × List Nat)} {fr x : Option (List Nat)} {d : PyData} (h : RowG us fr ts ows x d) : ∃ (w : Str) (b : PyData) (rest : List PyData), d = .tuple (.str w :: b :: rest) ∧ (∀ y, x = some y → w ∈ (["new", "name", "copy", "get"] : List Str) ∧ b = .str (S y)) ∧ (x = none → w ∉ (["new", "name", "copy", "get"] : List Str)) := by
  rcases h with ⟨hp, _⟩ | ⟨rfl, w, t, d', x', hw, _, _, _, rfl⟩
  · exact hp.head
  · exact ⟨_, _, _, rfl, (fun y e => nomatch e), fun _ => by rcases hw with rfl | rfl <;> decide +kernel⟩
theorem dt_head {K : PySem.W.Frag} {H : Hp} {y : V} {w : Str} {b : PyData} {rest : List PyData} (h : Dt K H y (.tuple (.str w :: b :: rest))) : ∃ t v vs, y = .ref t ∧ SqT K H t (.str w :: v :: vs) ∧ Dt K H v b := by
  cases h with
  | tup hs hd =>
    cases hd with
    | cons h1 hd =>
      cases h1
      cases hd with
      | cons h2 hd => exact ⟨_, _, _, rfl, Same.seqT tu_sub hs, h2⟩
def spMeth (K : PySem.W.Frag) : Sp := fun vs H Q _ => ∃ (p q0 g o : Addr) (nm : List Nat) (ns ss : NmL) (os : List V) (ows : List (Str × List Nat)), vs = [.ref p, .str (S nm), .ref q0, .ref g, .ref o] ∧ Bag H p ∧ NmsAt H p q0 ns ∧ 7 ≤ ns.length ∧ ns.length ≤ 12 ∧ ns.Nodup ∧ (∀ z ∈ ns, GoodN z) ∧ SgAt H p g ss ∧ ss.length ≤ 10 ∧ (∀ z ∈ ns, z ∉ ss) ∧ OwsAt K H p o os ows ∧
  ∀ H' y prs ds r, Kp p H H' → Dt K H' y (methD nm prs ds r) → MG ns ss ows prs ds r → Q y H'
theorem ok_meth {f0 fT fO fE fP fR : Addr} {fd fdT fdO fdE fdP fdR : FuncData} (F : Fun K "_law_method" "_law_method" sMeth f0 fd) (B : BltM mg)
    (GT : FnOk P w K mg base CX0 1 fT fdT ["_law_bag_here", "_law_many"] spTake) (mT : mg "_law_take" = some (.ref fT)) (kT : PySem.W.keepIn K (.ref fT) = true) (bT : Binds K fdT ["_law_bag_here", "_law_many"] [])
    (GO : FnOk P w K mg base CX0 2 fO fdO ["_law_bag_here", "_law_some"] (spOf K)) (mO : mg "_law_of" = some (.ref fO)) (kO : PySem.W.keepIn K (.ref fO) = true) (bO : Binds K fdO ["_law_bag_here", "_law_some"] [])
    (GE : FnOk P w K mg base CX0 3 fE fdE ["_law_bag_here", "_law_usable", "_law_things"] (spTest K)) (mE : mg "_law_test" = some (.ref fE)) (kE : PySem.W.keepIn K (.ref fE) = true) (bE : Binds K fdE ["_law_bag_here", "_law_usable", "_law_things"] [])
    (GP : FnOk P w K mg base CX0 3 fP fdP psPar (spPar K)) (mP : mg "_law_param" = some (.ref fP)) (kP : PySem.W.keepIn K (.ref fP) = true) (bP : Binds K fdP psPar [])
    (GR : FnOk P w K mg base CX0 4 fR fdR psRow (spRow K)) (mR : mg "_law_row" = some (.ref fR)) (kR : PySem.W.keepIn K (.ref fR) = true) (bR : Binds K fdR psRow []) :
    FnOk P w K mg base CX0 5 f0 fd psMeth (spMeth K) := by
  refine F.ok scMeth (fun vs H Q E h => ?_) (fun cdv A outer s H vs Q E hr h => ?_)
  · obtain ⟨p, q0, g, o, nm, ns, ss, os, ows, rfl, _⟩ := h
    rfl
  · obtain ⟨p, q0, g, o, nm, ns, ss, os, ows, rfl, hB, hq, hn7, hn12, hnd, hng, hg, hsl, hdis, ho, q⟩ := h
    have hU : (A.deeper (envOfC "_law_method" (defScope sMeth) s.heap.objs.size f0 cdv)).units + 64 < cLine := hr.units
    have hr1 : Room 1 _ := hr.mono (by decide)
    have hr2 : Room 2 _ := hr.mono (by decide)
    have hr3 : Room 3 _ := hr.mono (by decide)
    have hr4 : Room 4 _ := hr.mono (by decide)
    refine ⟨_, C8.pss_cut (ps_par (i := 5) (j := 6) (by rfl) scMeth.nd rfl rfl (by decide) rfl rfl (pa_cons (pe_callTy call_list_of (by rfl) B.lis (by decide +kernel) (pa_cons (pv 2) pa_nil)) (pa_cons (pe_lst pa_nil) pa_nil)) (by rfl))
      (C8.pss_cut (ps_for PassesOwn.never rfl (pi_range1 rfl B.ran (pa_cons (pe_call GT hr1 (by rfl) mT kT bT .nil pass0 (pa_cons (pv 0) (pa_cons pe_int pa_nil))) pa_nil)) (pg_name (i := 7) scMeth.nd rfl (.inl rfl))
          (pss_cons (ps_set (i := 8) scMeth.nd rfl (.inl rfl) (pe_call GP hr3 (by rfl) mP kP bP .nil pass0 (pa_cons (pv 0) (pa_cons (pe_bm PySem.F.plainAttrs_list PySem.F.slot_list_pop PySem.F.type_list_pop mt_popAt (pv 5) (pa_cons (pe_call GT hr1 (by rfl) mT kT bT .nil pass0 (pa_cons (pv 0) (pa_cons (pe_callB call_len_seq (by rfl) B.len PySem.boot_len (pa_cons (pv 5) pa_nil)) pa_nil))) pa_nil)) (pa_cons (pv 3) (pa_cons (pv 4) pa_nil))))))
          (pss_one (ps_if (PW.pt (pw_or (pt_cmpR op_eq (pe_ix (show IxR _ (rIxT K) from ix_tup) (pv 8) pe_int (fun _ _ => rfl)) pe_str (nomark _)) (pw_or1 (pt_cmpR op_lt (pe_callB call_len_seq (by rfl) B.len PySem.boot_len (pa_cons
              (pe_lc (own := [("_law_one", 14)]) (g := gName 14) rfl scMeth.nd (pi_list (pv 6)) (blkOk_by (N := nMeth) (sc := defScope sMeth) (by decide +kernel)) (fun _ _ _ _ _ => pg_name (i := 14) scMeth.nd rfl (Or.inl rfl)) (fun _ _ _ _ _ => pts_one (pt_cmpR op_eq (pe_ix (show IxR _ (rIxT K) from ix_tup) (pv 14) pe_int (fun _ _ => rfl)) pe_str (nomark _))) (fun _ _ _ _ _ => pv 14)) pa_nil)) pe_int (nomark _)))))
            (pss_one (ps_expr (pe_bm PySem.F.plainAttrs_list PySem.F.slot_list_append PySem.F.type_list_append mt_append (pv 6) (pa_cons (pv 8) pa_nil)))) pss_nil))))
      (C8.pss_cut (ps_set (i := 6) scMeth.nd rfl (.inl rfl) (pe_op op_cat (pe_op op_cat
            (pe_lc (own := [("_law_one", 14)]) (g := gName 14) rfl scMeth.nd (pi_list (pv 6)) (blkOk_by (N := nMeth) (sc := defScope sMeth) (by decide +kernel)) (fun _ _ _ _ _ => pg_name (i := 14) scMeth.nd rfl (Or.inl rfl)) (fun _ _ _ _ _ => pts_one (PW.pt (pw_and (pt_not (pt_val (pe_ix (show IxR _ (rIxT K) from ix_tup) (pv 14) pe_int (fun _ _ => rfl)))) (pw_and1 (pt_cmpR op_isN (pe_ix (show IxR _ (rIxT K) from ix_tup) (pv 14) pe_int (fun _ _ => rfl)) pe_non (nomark _)))))) (fun _ _ _ _ _ => pv 14))
            (pe_lc (own := [("_law_one", 14)]) (g := gName 14) rfl scMeth.nd (pi_list (pv 6)) (blkOk_by (N := nMeth) (sc := defScope sMeth) (by decide +kernel)) (fun _ _ _ _ _ => pg_name (i := 14) scMeth.nd rfl (Or.inl rfl)) (fun _ _ _ _ _ => pts_one (PW.pt (pw_and (pt_not (pt_val (pe_ix (show IxR _ (rIxT K) from ix_tup) (pv 14) pe_int (fun _ _ => rfl)))) (pw_and1 (pt_cmpR op_notN (pe_ix (show IxR _ (rIxT K) from ix_tup) (pv 14) pe_int (fun _ _ => rfl)) pe_non (nomark _)))))) (fun _ _ _ _ _ => pv 14)))
            (pe_lc (own := [("_law_one", 14)]) (g := gName 14) rfl scMeth.nd (pi_list (pv 6)) (blkOk_by (N := nMeth) (sc := defScope sMeth) (by decide +kernel)) (fun _ _ _ _ _ => pg_name (i := 14) scMeth.nd rfl (Or.inl rfl)) (fun _ _ _ _ _ => pts_one (pt_val (pe_ix (show IxR _ (rIxT K) from ix_tup) (pv 14) pe_int (fun _ _ => rfl)))) (fun _ _ _ _ _ => pv 14))))
      (C8.pss_cut (ps_setLc (i := 9) (own := [("_law_one", 14)]) (g := gName 14) rfl scMeth.nd rfl rfl (sw_true rfl rfl rfl (by decide +kernel)) (pi_list (pv 6)) (blkOk_by (N := nMeth) (sc := defScope sMeth) (by decide +kernel)) (fun _ _ _ _ _ => pg_name (i := 14) scMeth.nd rfl (Or.inl rfl)) (fun _ _ _ _ _ => pts_one (pt_cmpR op_eq (pe_ix (show IxR _ (rIxT K) from ix_tup) (pv 14) pe_int (fun _ _ => rfl)) pe_str (nomark _))) (fun _ _ _ _ _ => pe_ix (show IxR _ (rIxT K) from ix_tup) (pv 14) pe_int (fun _ _ => rfl)))
      (C8.pss_cut (ps_par (i := 10) (j := 11) (by rfl) scMeth.nd rfl rfl (by decide) rfl rfl (pa_cons (pe_op op_cat (pe_callTy call_list_of (by rfl) B.lis (by decide +kernel) (pa_cons (pv 3) pa_nil))
            (pe_lc (own := [("_law_one", 14)]) (g := gName 14) rfl scMeth.nd (pi_list (pv 6)) (blkOk_by (N := nMeth) (sc := defScope sMeth) (by decide +kernel)) (fun _ _ _ _ _ => pg_name (i := 14) scMeth.nd rfl (Or.inl rfl)) (fun _ _ _ _ _ => pts_one (pt_cmpR op_eq (pe_ix (show IxR _ (rIxT K) from ix_tup) (pv 14) pe_int (fun _ _ => rfl)) pe_str (nomark _))) (fun _ _ _ _ _ => pe_ix (show IxR _ (rIxT K) from ix_tup) (pv 14) pe_int (fun _ _ => rfl)))) (pa_cons (pe_lst pa_nil) pa_nil)) (by rfl))
      (C8.pss_cut (ps_for PassesOwn.never rfl (pi_range1 rfl B.ran (pa_cons (pe_call GT hr1 (by rfl) mT kT bT .nil pass0 (pa_cons (pv 0) (pa_cons pe_int pa_nil))) pa_nil)) (pg_name (i := 7) scMeth.nd rfl (.inl rfl))
          (pss_cons (ps_set (i := 12) scMeth.nd rfl (.inl rfl) (pe_call GR hr4 (by rfl) mR kR bR .nil pass0 (pa_cons (pv 0) (pa_cons (pv 9) (pa_cons (pv 5) (pa_cons (pv 10) (pa_cons (pv 4) pa_nil)))))))
          (pss_cons (ps_expr (pe_bm PySem.F.plainAttrs_list PySem.F.slot_list_append PySem.F.type_list_append mt_append (pv 11) (pa_cons (pv 12) pa_nil)))
          (pss_one (ps_if (PW.pt (pw_and (pt_cmpR op_in_seq (pe_ix (show IxR _ (rIxT K) from ix_tup) (pv 12) pe_int (fun _ _ => rfl)) (pe_lst (pa_cons pe_str (pa_cons pe_str (pa_cons pe_str (pa_cons pe_str pa_nil))))) rfl) (pw_and1 (pt_cmpR op_notIn_seq (pe_ix (show IxR _ (rIxT K) from ix_tup) (pv 12) pe_int (fun _ _ => rfl)) (pv 9) rfl))))
            (pss_cons (ps_expr (pe_bm PySem.F.plainAttrs_list PySem.F.slot_list_append PySem.F.type_list_append mt_append (pv 9) (pa_cons (pe_ix (show IxR _ (rIxT K) from ix_tup) (pv 12) pe_int (fun _ _ => rfl)) pa_nil)))
            (pss_one (ps_expr (pe_bm PySem.F.plainAttrs_list PySem.F.slot_list_remove PySem.F.type_list_remove mt_removeH (pv 5) (pa_cons (pe_ix (show IxR _ (rIxT K) from ix_tup) (pv 12) pe_int (fun _ _ => rfl)) pa_nil))))) pss_nil)))))
      (C8.pss_cut (ps_set (i := 13) scMeth.nd rfl (.inl rfl) (pe_tup (pa_cons pe_str pa_nil)))
      (C8.pss_cut (ps_if (pt_cmpR (op_neD hU) (pv 9) (pe_lst pa_nil) (nomark _)) (pss_one (ps_set (i := 13) scMeth.nd rfl (.inl rfl) (pe_call GO hr2 (by rfl) mO kO bO .nil pass0 (pa_cons (pv 0) (pa_cons (pe_lst (pa_cons (pe_tup (pa_cons pe_str pa_nil)) (pa_cons
              (pe_tup (pa_cons pe_str (pa_cons (pe_call GO hr2 (by rfl) mO kO bO .nil pass0 (pa_cons (pv 0) (pa_cons (pv 9) pa_nil))) pa_nil))) (pa_cons
              (pe_tup (pa_cons pe_str (pa_cons (pe_call GO hr2 (by rfl) mO kO bO .nil pass0 (pa_cons (pv 0) (pa_cons (pv 9) pa_nil))) pa_nil))) (pa_cons
              (pe_tup (pa_cons pe_str (pa_cons (pe_call GE hr3 (by rfl) mE kE bE .nil pass0 (pa_cons (pv 0) (pa_cons (pv 9) (pa_cons (pv 10) pa_nil)))) pa_nil))) pa_nil))))) pa_nil))))) pss_nil)
      (pss_one (ps_ret (pe_tup (pa_cons (pv 1) (pa_cons (pe_callTy call_tuple_of (by rfl) B.tup (by decide +kernel) (pa_cons (pv 6) pa_nil)) (pa_cons (pe_callTy call_tuple_of (by rfl) B.tup (by decide +kernel) (pa_cons (pv 11) pa_nil)) (pa_cons (pv 13) pa_nil)))))))))))))), ?_⟩
    refine ⟨fun σ1 H1 => ∃ fl pl x7 x8, σ1 = [some (.ref p), some (.str (S nm)), some (.ref q0), some (.ref g), some (.ref o), some (.ref fl), some (.ref pl), x7, x8, none, none, none, none, none, none] ∧ PhA (PrIn ss ows) K H H1 p fl pl ns ns [] [] 0, ?_, ?_⟩
    · refine ⟨_, rfl, q0, txts ns, rfl, .inl (SqL.of hq.at_), fun fl nfl => ⟨by show 0 ≤ sizeLine; decide, fun pl npl => ?_⟩⟩
      have s1 := same_upd (o := .lst (txts ns)) nfl
      have s2 := same_upd (o := .lst []) npl
      have nfp := bag_ne hB nfl
      have npp := bag_ne (hB.same s1) npl
      have fpl : fl ≠ pl := fun e => by
        rw [← e, upd_same] at npl
        cases npl
      refine ⟨_, _, rfl, fl, pl, none, none, rfl, ⟨Kp.of hB (s1.trans s2), nfl, s1.free npl, nfp, npp, fpl, s2 _ _ upd_same, upd_same, .nil, fun x hx => (nomatch hx), hnd, fun z hz => hz, Nat.zero_le _, Nat.zero_le _, ⟨hn7, hn12⟩, Nat.zero_le _⟩⟩
    rintro σ1 H1 ⟨fl, pl, x7, x8, rfl, hA⟩
    refine ⟨fun σ1 H1 => ∃ x7 x8 fs ps prs n, σ1 = [some (.ref p), some (.str (S nm)), some (.ref q0), some (.ref g), some (.ref o), some (.ref fl), some (.ref pl), x7, x8, none, none, none, none, none, none] ∧ PhA (PrIn ss ows) K H H1 p fl pl ns fs ps prs n, ?_, ?_⟩
    · refine ⟨_, rfl, p, 4, rfl, hA.kp.2, by decide, by decide, fun H2 r k2 r0 r4 => ⟨r, rfl, by omega, by omega, for_it walk_range (fun i σ H3 => ∃ x7 x8 fs ps prs, σ = [some (.ref p), some (.str (S nm)), some (.ref q0), some (.ref g), some (.ref o), some (.ref fl), some (.ref pl), x7, x8, none, none, none, none, none, none] ∧ PhA (PrIn ss ows) K H H3 p fl pl ns fs ps prs i) ⟨x7, x8, ns, [], [], rfl, hA.go k2⟩ (fun _ _ _ _ _ => trivial) ?_ ?_⟩⟩
      · clear hA
        rintro i x σ H3 H4 hi ⟨x7, x8, fs, ps, prs, rfl, hA⟩ ⟨rfl, rfl⟩
        have hi3 : i < 3 := by
          have : i < r.toNat := hi
          omega
        have hfsl := hA.fsl
        refine ⟨_, rfl, _, rfl, .inl ⟨rfl, _, SqL.of hA.hf⟩, _, rfl, _, rfl, fl, _, rfl, .inl (SqL.of hA.hf), p, _, rfl, hA.kp.2, by rw [txts_len]; omega, by rw [txts_len]; omega, fun H5 kk k5 kk0 kk1 => ?_⟩
        rw [txts_len] at kk1
        obtain ⟨j, rfl⟩ : ∃ j : Nat, kk = (j : Int) := ⟨kk.toNat, by omega⟩
        have hj : j < fs.length := by omega
        have hget : fs[j]? = some fs[j] := List.getElem?_eq_getElem hj
        have hA5 := hA.go k5
        refine ⟨fl, _, _, j, .str (S fs[j]), rfl, rfl, hA5.hf, by omega, by omega, seqIx (by rw [txts_len]; exact hj), txts_at hget, ?_⟩
        have hperm : (fs[j] :: fs.eraseIdx j).Perm fs := erase_perm hget
        have hndx : (prs.map Pr.nm ++ (fs[j] :: fs.eraseIdx j)).Nodup := (hperm.append_left _).nodup_iff.mpr hA5.nd
        have hmemx : ∀ z ∈ prs.map Pr.nm ++ (fs[j] :: fs.eraseIdx j), z ∈ ns := fun z hz => hA5.mem z ((hperm.append_left _).mem_iff.mp hz)
        have hjns : fs[j] ∈ ns := hmemx _ (List.mem_append_right _ (List.mem_cons_self ..))
        have hsub : (prs.map Pr.nm ++ fs.eraseIdx j).Sublist (prs.map Pr.nm ++ (fs[j] :: fs.eraseIdx j)) := (List.Sublist.refl _).append (List.sublist_cons_self ..)
        have hA6 : PhA (PrIn ss ows) K H (upd H5 fl (.lst (txts (fs.eraseIdx j)))) p fl pl ns (fs.eraseIdx j) ps prs (i + 1) := by
          refine ⟨kp_new hA5.kp hA5.nfl hA5.fp, hA5.nfl, hA5.npl, hA5.fp, hA5.pp, hA5.fpl, upd_same, ?_, hA5.dt.ext (TupE.grow hA5.hf), hA5.ok, hsub.nodup hndx, fun z hz => hmemx z (hsub.subset hz), hA5.bx, by have := hA5.len; omega, ?_, by omega⟩
          · rw [upd_ne hA5.fpl.symm]
            exact hA5.hp
          · rw [List.length_eraseIdx_of_lt hj]
            omega
        rw [txts_erase]
        have hG : SgAt (upd H5 fl (.lst (txts (fs.eraseIdx j)))) p g ss := hg.go hA6.kp
        refine ⟨_, rfl, _, rfl, p, g, o, fs[j], ss, os, ows, rfl, hA6.kp.2, hng _ hjns, hG, ho.go hB hA6.kp, fun H7 y rr k7 hdt hok hdi hnm => ?_⟩
        have hA7 := hA6.go k7
        obtain ⟨ty, v, rfl, hit⟩ := item_of hdt
        have hlt : prs.length < i + 1 := by
          have := hA5.len
          omega
        have app : rr.hs = "mark" ∨ (ofHs "box" prs).length < 2 → ∀ H8, Same H7 H8 → _ := fun hb H8 s8 => (hA7.go (Kp.of hA7.kp.2 s8)).add (hdt.ext (TupE.same s8)) ⟨hok, hdi⟩ (by rw [hnm]; exact hndx) (by rw [hnm]; exact hjns) hlt hb
        refine ⟨_, rfl, ty, _, 1, .str rr.hs, rfl, rfl, hit.at_, atI_nat (j := 1) rfl, rfl, _, rfl, ite2 (fun k => ?_) (fun k => ?_)⟩
        · have k : rr.hs = "mark" := V.str.inj (of_decide_eq_true k)
          refine ⟨_, rfl, .inl ⟨rfl, _, SqL.of hA7.hp⟩, _, rfl, pl, _, _, rfl, rfl, hA7.hp, ?_, _, _, _, _, _, rfl, app (.inl k) H7 (Same.refl _)⟩
          have h1 := dpAll_len hA7.dt
          rw [List.length_map] at h1
          exact small1000 (by omega)
        · have hpl := hA7.len
          refine ⟨_, rfl, pl, rfl, ⟨_, SqL.of hA7.hp⟩, fun D nD => ?_⟩
          refine lc_prs (fun r => decide (r.hs = "box")) (fun _ y => y) hA7.hp hA7.dt nD (by omega) (fun r t v H hr hit R R' h1 h2 => ?_) (fun H8 s8 hD => ?_)
          · refine ⟨rfl, _, rfl, t, _, 1, .str r.hs, rfl, rfl, hit.at_, atI_nat (j := 1) rfl, rfl, _, rfl, ?_⟩
            by_cases hw : r.hs = "box"
            · rw [decide_eq_true (by rw [hw])]
              exact iteT ⟨_, rfl, h1 (decide_eq_true hw)⟩
            · rw [decide_eq_false (fun e => hw (V.str.inj e))]
              exact iteF (h2 (decide_eq_false hw))
          · have hlen : (sel (fun r => decide (r.hs = "box")) (fun _ y => y) prs ps).length = (ofHs "box" prs).length := by
              have := dpAll_len (sel_data (f := fun r => decide (r.hs = "box")) hA7.dt)
              rw [this]
              unfold ofHs
              rw [List.length_map, List.length_map]
            refine ⟨D, _, rfl, .inl (SqL.of hD), _, _, rfl, rfl, _, rfl, ite2 (fun k => ?_) (fun k => ?_)⟩
            · have k := of_decide_eq_true k
              rw [hlen] at k
              have hp8 := s8 _ _ hA7.hp
              refine ⟨_, rfl, .inl ⟨rfl, _, SqL.of hp8⟩, _, rfl, pl, _, _, rfl, rfl, hp8, ?_, _, _, _, _, _, rfl, app (.inr (by omega)) H8 s8⟩
              have h1 := dpAll_len hA7.dt
              rw [List.length_map] at h1
              exact small1000 (by omega)
            · exact ⟨_, _, _, _, _, rfl, hA7.go (Kp.of hA7.kp.2 s8)⟩
      · rintro σ H3 ⟨x7, x8, fs, ps, prs, rfl, hA⟩
        exact ⟨x7, x8, fs, ps, prs, _, rfl, hA⟩
    clear hA
    rintro σ1 H1 ⟨x7, x8, fs, ps, prs, n, rfl, hA⟩
    refine ⟨fun σ1 H1 => ∃ pl2 ps2 prs, σ1 = [some (.ref p), some (.str (S nm)), some (.ref q0), some (.ref g), some (.ref o), some (.ref fl), some (.ref pl2), x7, x8, none, none, none, none, none, none] ∧ PhB (PrIn ss ows) K H H1 p fl pl2 ns fs ps2 prs, ?_, ?_⟩
    · have hpl : prs.length ≤ 100 := by
        have h1 := hA.len
        have h2 := hA.n3
        omega
      refine ⟨_, rfl, pl, rfl, ⟨_, SqL.of hA.hp⟩, fun D1 nD1 => ?_⟩
      refine lc_prs (fun r => !r.nd && isNonD r.df) (fun _ y => y) hA.hp hA.dt nD1 hpl (fun r t v H hr hit R R' h1 h2 => ?_) (fun H3 s3 hD1 => ?_)
      · refine ⟨rfl, _, rfl, t, _, 3, .bl r.nd, rfl, rfl, hit.at_, atI_nat (j := 3) rfl, _, rfl, ?_⟩
        cases hn : r.nd with
        | true => exact iteF (h2 (by show (!r.nd && isNonD r.df) = false; rw [hn]; rfl))
        | false =>
          refine iteT ⟨_, rfl, t, _, 2, v, rfl, rfl, hit.at_, atI_nat (j := 2) rfl, rfl, _, rfl, ?_⟩
          have hnn : decide (v = .non) = isNonD r.df := hit.non
          rw [hnn]
          cases hdn : isNonD r.df with
          | true => exact iteT ⟨_, rfl, h1 (by show (!r.nd && isNonD r.df) = true; rw [hn, hdn]; rfl)⟩
          | false => exact iteF (h2 (by show (!r.nd && isNonD r.df) = false; rw [hn, hdn]; rfl))
      have hp3 := s3 _ _ hA.hp
      refine ⟨_, rfl, pl, rfl, ⟨_, SqL.of hp3⟩, fun D2 nD2 => ?_⟩
      refine lc_prs (fun r => !r.nd && !isNonD r.df) (fun _ y => y) hp3 (hA.dt.ext (TupE.same s3)) nD2 hpl (fun r t v H hr hit R R' h1 h2 => ?_) (fun H4 s4 hD2 => ?_)
      · refine ⟨rfl, _, rfl, t, _, 3, .bl r.nd, rfl, rfl, hit.at_, atI_nat (j := 3) rfl, _, rfl, ?_⟩
        cases hn : r.nd with
        | true => exact iteF (h2 (by show (!r.nd && !isNonD r.df) = false; rw [hn]; rfl))
        | false =>
          refine iteT ⟨_, rfl, t, _, 2, v, rfl, rfl, hit.at_, atI_nat (j := 2) rfl, rfl, _, rfl, ?_⟩
          have hnn : decide (v = .non) = isNonD r.df := hit.non
          rw [hnn]
          cases hdn : isNonD r.df with
          | true => exact iteF (h2 (by show (!r.nd && !isNonD r.df) = false; rw [hn, hdn]; rfl))
          | false => exact iteT ⟨_, rfl, h1 (by show (!r.nd && !isNonD r.df) = true; rw [hn, hdn]; rfl)⟩
      have hD1' := s4 _ _ hD1
      have la := sel_len (fun r => !r.nd && isNonD r.df) (fun _ y => y) prs ps
      have lb := sel_len (fun r => !r.nd && !isNonD r.df) (fun _ y => y) prs ps
      have lc := sel_len (fun r => r.nd) (fun _ y => y) prs ps
      have hl3 : prs.length ≤ 3 := Nat.le_trans hA.len hA.n3
      refine ⟨D1, D2, _, _, rfl, rfl, hD1', hD2, Nat.le_of_lt (small1000 (by omega)), fun R1 nR1 => ?_⟩
      have sr1 := same_upd (o := .lst (sel (fun r => !r.nd && isNonD r.df) (fun _ y => y) prs ps ++ sel (fun r => !r.nd && !isNonD r.df) (fun _ y => y) prs ps)) nR1
      have s5 := (s3.trans s4).trans sr1
      have hp5 := s5 _ _ hA.hp
      refine ⟨_, rfl, pl, rfl, ⟨_, SqL.of hp5⟩, fun D3 nD3 => ?_⟩
      refine lc_prs (fun r => r.nd) (fun _ y => y) hp5 (hA.dt.ext (TupE.same s5)) nD3 hpl (fun r t v H hr hit R R' h1 h2 => ?_) (fun H6 s6 hD3 => ?_)
      · refine ⟨rfl, _, rfl, t, _, 3, .bl r.nd, rfl, rfl, hit.at_, atI_nat (j := 3) rfl, _, rfl, ?_⟩
        cases hn : r.nd with
        | true => exact iteT ⟨_, rfl, h1 hn⟩
        | false => exact iteF (h2 hn)
      have sAll := s5.trans s6
      refine ⟨R1, D3, _, _, rfl, rfl, s6 _ _ upd_same, hD3, Nat.le_of_lt (small1000 (by rw [List.length_append]; omega)), fun R2 nR2 => ?_⟩
      have sr2 := same_upd (o := .lst ((sel (fun r => !r.nd && isNonD r.df) (fun _ y => y) prs ps ++ sel (fun r => !r.nd && !isNonD r.df) (fun _ y => y) prs ps) ++ sel (fun r => r.nd) (fun _ y => y) prs ps)) nR2
      have sF := sAll.trans sr2
      refine ⟨R2, _, _, rfl, hA.sorted sF (bag_ne (hA.kp.same sAll).2 nR2) (ne_of_none (sAll _ _ hA.hf) nR2) upd_same ?_⟩
      have hdt := hA.dt.ext (TupE.same sF)
      unfold srt
      rw [List.map_append, List.map_append]
      exact dpAll_app (dpAll_app (sel_data hdt) (sel_data hdt)) (sel_data hdt)
    clear hA
    rintro σ1 H1 ⟨pl2, ps2, prs, rfl, hb⟩
    have hprl := hb.len
    have hpsl : prs.length = ps2.length := by
      have := dpAll_len hb.dt
      rw [List.length_map] at this
      exact this.symm
    refine ⟨fun σ1 H1 => ∃ ul, σ1 = [some (.ref p), some (.str (S nm)), some (.ref q0), some (.ref g), some (.ref o), some (.ref fl), some (.ref pl2), x7, x8, some (.ref ul), none, none, none, none, none] ∧ PhB (PrIn ss ows) K H H1 p fl pl2 ns fs ps2 prs ∧ H ul = none ∧ ul ≠ p ∧ ul ≠ fl ∧ ul ≠ pl2 ∧ H1 ul = some (.lst (txts (ofHs "box" prs))), ?_, ?_⟩
    · refine ⟨_, rfl, pl2, rfl, ⟨_, SqL.of hb.hp⟩, fun D1 nD1 => ?_⟩
      refine lc_prs (fun r => decide (r.hs = "box")) (fun r _ => .str (S r.nm)) hb.hp hb.dt nD1 (by omega) (fun r t v H hr hit R R' h1 h2 => ?_) (fun H3 s3 hD1 => ?_)
      · refine ⟨rfl, _, rfl, t, _, 1, .str r.hs, rfl, rfl, hit.at_, atI_nat (j := 1) rfl, rfl, _, rfl, ?_⟩
        by_cases hw : r.hs = "box"
        · rw [decide_eq_true (by rw [hw])]
          exact iteT ⟨_, rfl, t, _, 0, .str (S r.nm), rfl, rfl, hit.at_, atI_nat (j := 0) rfl, h1 (decide_eq_true hw)⟩
        · rw [decide_eq_false (fun e => hw (V.str.inj e))]
          exact iteF (h2 (decide_eq_false hw))
      rw [sel_names hpsl] at hD1
      have nul : H D1 = none := by
        cases e : H D1 with
        | none => rfl
        | some x =>
          by_cases hp : D1 = p
          · exact absurd hp (bag_ne hb.kp.2 nD1)
          · exact absurd (hb.kp.1 _ _ hp e) (by rw [nD1]; exact fun z => by cases z)
      exact ⟨D1, rfl, hb.go (Kp.of hb.kp.2 s3), nul, bag_ne hb.kp.2 nD1, (ne_of_none hb.hf nD1).symm, (ne_of_none hb.hp nD1).symm, hD1⟩
    clear hb
    rintro σ1 H1 ⟨ul, rfl, hb, nul, nup, ulf, ulp, hul⟩
    have old : ∀ {H2 : Hp} {D : Addr}, Kp p H H2 → H2 D = none → H D = none := fun {H2 D} k nD => by
      cases e : H D with
      | none => rfl
      | some x =>
        by_cases hp : D = p
        · exact absurd hp (bag_ne k.2 nD)
        · exact absurd (k.1 _ _ hp e) (by rw [nD]; exact fun z => by cases z)
    have hpnd : (prs.map Pr.nm).Nodup := (List.nodup_append.mp hb.nd).1
    refine ⟨fun σ1 H1 => ∃ tl ll x12, σ1 = [some (.ref p), some (.str (S nm)), some (.ref q0), some (.ref g), some (.ref o), some (.ref fl), some (.ref pl2), x7, x8, some (.ref ul), some (.ref tl), some (.ref ll), x12, none, none] ∧ PhC ows K H H1 p fl ul tl ll pl2 ns ss fs (ofHs "box" prs) ps2 [] prs [] 0, ?_, ?_⟩
    · refine ⟨_, rfl, g, _, rfl, .inr (SqT.of (hg.go hb.kp).at_), fun L1 nL1 => ?_⟩
      have sL1 := same_upd (o := .lst (txts ss)) nL1
      have hp1 := sL1 _ _ hb.hp
      refine ⟨_, rfl, pl2, rfl, ⟨_, SqL.of hp1⟩, fun D1 nD1 => ?_⟩
      refine lc_prs (fun r => decide (r.hs = "mark")) (fun r _ => .str (S r.nm)) hp1 (hb.dt.ext (TupE.same sL1)) nD1 (by omega) (fun r t v H hr hit R R' h1 h2 => ?_) (fun H3 s3 hD1 => ?_)
      · refine ⟨rfl, _, rfl, t, _, 1, .str r.hs, rfl, rfl, hit.at_, atI_nat (j := 1) rfl, rfl, _, rfl, ?_⟩
        by_cases hw : r.hs = "mark"
        · rw [decide_eq_true (by rw [hw])]
          exact iteT ⟨_, rfl, t, _, 0, .str (S r.nm), rfl, rfl, hit.at_, atI_nat (j := 0) rfl, h1 (decide_eq_true hw)⟩
        · rw [decide_eq_false (fun e => hw (V.str.inj e))]
          exact iteF (h2 (decide_eq_false hw))
      rw [sel_names hpsl] at hD1
      have hL1 := s3 _ _ (upd_same (H := H1) (a := L1))
      have lm := ofHs_len (h := "mark") (prs := prs)
      have lb := ofHs_len (h := "box") (prs := prs)
      refine ⟨L1, D1, _, _, rfl, rfl, hL1, hD1, Nat.le_of_lt (small1000 (by rw [txts_len, txts_len]; show ss.length + (ofHs "mark" prs).length ≤ 1000; omega)), fun tl ntl => ⟨by show 0 ≤ sizeLine; decide, fun ll nll => ?_⟩⟩
      rw [txts_app] at nll ⊢
      have s13 := sL1.trans s3
      have st := same_upd (o := .lst (txts (ss ++ ofHs "mark" prs))) ntl
      have sl := same_upd (o := .lst []) nll
      have s1t := s13.trans st
      have sAll := s1t.trans sl
      have hbA := hb.go (Kp.of hb.kp.2 sAll)
      have tlne : ∀ {a : Addr} {x : HO}, H1 a = some x → a ≠ tl := fun e => ne_of_none (s13 _ _ e) ntl
      have llne : ∀ {a : Addr} {x : HO}, H1 a = some x → a ≠ ll := fun e => ne_of_none (s1t _ _ e) nll
      have tll : tl ≠ ll := ne_of_none (upd_same (H := H3) (a := tl)) nll
      have flp : fl ≠ pl2 := hb.fpl
      refine ⟨_, _, rfl, tl, ll, none, rfl, hbA.kp, hb.nfl, nul, old (hb.kp.same s1t) nll, hb.fp, nup, bag_ne (hb.kp.same s13).2 ntl, bag_ne (hb.kp.same s1t).2 nll, hb.pp, ?_, hbA.hf, sAll _ _ hul, sl _ _ upd_same, upd_same, hbA.hp, hbA.dt, .nil, hb.ok, hpnd, fun x hx => hb.mem _ (List.mem_append_left _ (List.mem_map.mpr ⟨x, hx, rfl⟩)), hb.bx, hb.len, hb.ord, ?_, ?_, ?_, ?_, rfl, fun z => Iff.rfl, fun d hd => (nomatch hd), Nat.zero_le _⟩
      · have h1 := tlne hb.hf
        have h2 := llne hb.hf
        have h3 := tlne hul
        have h4 := llne hul
        have h5 := tlne hb.hp
        have h6 := llne hb.hp
        simp only [List.nodup_cons, List.mem_cons, List.not_mem_nil, or_false, not_or, List.nodup_nil, and_true, not_false_eq_true]
        exact ⟨⟨ulf.symm, h1, h2, flp⟩, ⟨h3, h4, ulp⟩, ⟨tll, h5.symm⟩, h6.symm⟩
      · exact (((List.filter_sublist).map Pr.nm).append (.refl fs)).nodup hb.nd
      · intro z hz
        rcases List.mem_append.mp hz with h | h
        · obtain ⟨r, hr, e, _⟩ := ofHs_sub h
          exact ⟨hb.mem _ (List.mem_append_left _ (List.mem_map.mpr ⟨r, hr, e⟩)), fun h2 => ofHs_dis hpnd h h2⟩
        · refine ⟨hb.mem _ (List.mem_append_right _ h), fun h2 => ?_⟩
          obtain ⟨r, hr, e, _⟩ := ofHs_sub h2
          exact (List.nodup_append.mp hb.nd).2.2 _ (List.mem_map.mpr ⟨r, hr, e⟩) _ h rfl
      · have h1 := hb.bx
        have h2 := hb.fsl
        omega
      · intro e
        have h2 := hb.fsl
        rw [(List.append_eq_nil_iff.mp e).2] at h2
        exact absurd h2.1 (by decide)
    clear hb
    rintro σ1 H1 ⟨tl, ll, x12, rfl, hC⟩
    have good : ∀ {z : List Nat}, z ∈ ns → GoodN z := fun h => hng _ h
    -- the items
    have htsn : (ss ++ ofHs "mark" prs).Nodup := by
      refine List.nodup_append.mpr ⟨hg.nd, ofHs_nodup hpnd, fun a ha b hb e => ?_⟩
      obtain ⟨r, hr, e2, _⟩ := ofHs_sub hb
      exact hdis b (e2 ▸ hC.pin r hr) (e ▸ ha)
    have htsg : ∀ z ∈ ss ++ ofHs "mark" prs, GoodN z := fun z hz => by
      rcases List.mem_append.mp hz with h | h
      · exact hg.gd z h
      · obtain ⟨r, hr, e, _⟩ := ofHs_sub h
        exact e ▸ (hC.ok r hr).1.nm
    have htsl : (ss ++ ofHs "mark" prs).length ≤ 20 := by
      have := ofHs_len (h := "mark") (prs := prs)
      rw [List.length_append]
      omega
    have htse : ss ++ ofHs "mark" prs ≠ [] := fun e => hg.ne (List.append_eq_nil_iff.mp e).1
    refine ⟨fun σ1 H1 => ∃ x7 x12 fs us ls ds, σ1 = [some (.ref p), some (.str (S nm)), some (.ref q0), some (.ref g), some (.ref o), some (.ref fl), some (.ref pl2), x7, x8, some (.ref ul), some (.ref tl), some (.ref ll), x12, none, none] ∧ PhC ows K H H1 p fl ul tl ll pl2 ns ss fs us ps2 ls prs ds 5, ?_, ?_⟩
    · refine ⟨_, rfl, p, 6, rfl, hC.kp.2, by decide, by decide, fun H2 r k2 r0 r6 => ⟨r, rfl, by omega, by omega, for_it walk_range (fun i σ H3 => ∃ x7 x12 fs us ls ds, σ = [some (.ref p), some (.str (S nm)), some (.ref q0), some (.ref g), some (.ref o), some (.ref fl), some (.ref pl2), x7, x8, some (.ref ul), some (.ref tl), some (.ref ll), x12, none, none] ∧ PhC ows K H H3 p fl ul tl ll pl2 ns ss fs us ps2 ls prs ds i) ⟨x7, x12, fs, _, [], [], rfl, hC.go k2⟩ (fun _ _ _ _ _ => trivial) ?_ ?_⟩⟩
      · clear hC
        rintro i x σ H3 H4 hi ⟨x7, x12, fs, us, ls, ds, rfl, hC⟩ ⟨rfl, rfl⟩
        have hi5 : i < 5 := by
          have : i < r.toNat := hi
          omega
        have hul := hC.uln
        have hug : ∀ z ∈ us, GoodN z := fun z hz => good (hC.umem z (List.mem_append_left _ hz)).1
        have hne : us ++ fs.take 1 ≠ [] := fun e => by
          have e := List.append_eq_nil_iff.mp e
          refine hC.une ?_
          rw [e.1]
          cases fs with
          | nil => rfl
          | cons a q => exact absurd e.2 (by simp)
        refine ⟨_, rfl, _, rfl, _, rfl, _, rfl, _, rfl, p, ul, fl, tl, o, us, fs, ss ++ ofHs "mark" prs, os, ows, rfl, hC.kp.2, ⟨hC.up, hC.hu, by omega⟩, ⟨hC.fp, hC.hf, by omega⟩, ⟨hC.tp, hC.ht, by omega⟩, ho.go hB hC.kp, hne, htse, htsn, htsl, htsg, hug, fun H5 y d x k5 hdt hrg => ?_⟩
        have hC5 := hC.go k5
        have hfrm : ∀ y, fs.head? = some y → y ∈ fs := fun y e => List.mem_of_mem_head? (by rw [e]; rfl)
        have hfrg : ∀ y, fs.head? = some y → GoodN y := fun y e => good (hC.umem y (List.mem_append_right _ (hfrm y e))).1
        have notfx : ∀ z ∈ us ++ fs, S z ∉ (ofHs "mark" prs).map S := fun z hz h => by
          obtain ⟨z2, h2, e⟩ := List.mem_map.mp h
          exact (hC.umem z hz).2 (SX.S_inj e ▸ h2)
        obtain ⟨hrb, hmem⟩ := hrg.facts hug htsg hfrg hC5.req (fun z hz => notfx z (List.mem_append_left _ hz)) (fun y e => notfx y (List.mem_append_right _ (hfrm y e)))
        have hok' := okR_snoc hC5.rok hrb
        have hsm' : ∀ d' ∈ ds ++ [d], DsIn ss ows prs d' := fun d' hd' => by
          rcases List.mem_append.mp hd' with h | h
          · exact hC5.sm d' h
          · rw [List.mem_singleton.mp h]
            exact ⟨hrg.sm hug htsg hfrg, _, _, _, hrg⟩
        have hreq' : ∀ z, z ∈ usA ((ofHs "box" prs).map S) (ds ++ [d]) ↔ z ∈ (newU us x).map S := fun z => by
          rw [usA_snoc]
          exact hmem z
        have hdl' : (ds ++ [d]).length ≤ i + 1 := by
          have := hC5.dln
          rw [List.length_append]
          show ds.length + 1 ≤ i + 1
          omega
        obtain ⟨wd, b, rest, rfl, hx1, hx2⟩ := hrg.head
        obtain ⟨ty, vb, vs, rfl, hty, hvb⟩ := dt_head hdt
        have hdis := hC5.dis
        simp only [List.nodup_cons, List.mem_cons, List.not_mem_nil, or_false, not_or, List.nodup_nil, and_true, not_false_eq_true] at hdis
        obtain ⟨⟨d1, d2, d3, d4⟩, ⟨d5, d6, d7⟩, ⟨d8, d9⟩, d10⟩ := hdis
        have lls := dpAll_len hC5.dl
        have hdln := hC5.dln
        -- the row is listed
        refine ⟨_, rfl, .inl ⟨rfl, _, SqL.of hC5.hl⟩, _, rfl, ll, _, _, rfl, rfl, hC5.hl, small1000 (by omega), ?_⟩
        have teA : TupE H5 (upd H5 ll (.lst (ls ++ [.ref ty]))) := TupE.grow hC5.hl
        have kA : Kp p H (upd H5 ll (.lst (ls ++ [.ref ty]))) := kp_new hC5.kp hC5.nll hC5.lp
        have hA1 : (upd H5 ll (.lst (ls ++ [.ref ty]))) ll = some (.lst (ls ++ [.ref ty])) := upd_same
        have hA2 : ∀ {a : Addr} {x : HO}, a ≠ ll → H5 a = some x → (upd H5 ll (.lst (ls ++ [.ref ty]))) a = some x := fun n e => by
          rw [upd_ne n]
          exact e
        have htyA : SqT K (upd H5 ll (.lst (ls ++ [.ref ty]))) ty (.str wd :: vb :: vs) := sqT_grow hty hC5.hl
        have hvbA : Dt K (upd H5 ll (.lst (ls ++ [.ref ty]))) vb b := hvb.ext teA
        have hdtA := hdt.ext teA
        have hdlA := hC5.dl.ext teA
        generalize (upd H5 ll (.lst (ls ++ [.ref ty]))) = HA at teA kA hA1 hA2 htyA hvbA hdtA hdlA ⊢
        have finA : newU us x = us → ∀ H6, Same HA H6 → PhC ows K H H6 p fl ul tl ll pl2 ns ss fs us ps2 (ls ++ [.ref ty]) prs (ds ++ [.tuple (.str wd :: b :: rest)]) (i + 1) := fun hnu H6 s6 => by
          rw [hnu] at hreq'
          exact hC5.re (kA.same s6) (teA.trans (TupE.same s6)) (s6 _ _ (hA2 d3 hC5.hf)) (s6 _ _ (hA2 d6 hC5.hu)) (s6 _ _ (hA2 d8 hC5.ht)) (s6 _ _ hA1) (s6 _ _ (hA2 (fun e => d10 e.symm) hC5.hp)) (DtAll.ext (dpAll_app hdlA (.cons hdtA .nil)) (TupE.same s6)) hC5.und hC5.umem hC5.uln hC5.une hok' hreq' hsm' hdl'
        refine ⟨_, rfl, ty, _, 0, .str wd, rfl, rfl, htyA, atI_nat (j := 0) rfl, by show 4 ≤ sizeLine; decide, fun a na => ⟨a, _, rfl, .inl (SqL.of upd_same), rfl, rfl, _, rfl, ?_⟩⟩
        have sa := same_upd (o := .lst [.str "new", .str "name", .str "copy", .str "get"]) na
        rw [show [V.str "new", V.str "name", V.str "copy", V.str "get"] = (["new", "name", "copy", "get"] : List Str).map V.str from rfl, in_strs]
        cases x with
        | none =>
          rw [show (["new", "name", "copy", "get"] : List Str).contains wd = false by simpa using hx2 rfl]
          exact iteF ⟨_, _, _, _, _, _, rfl, finA rfl _ sa⟩
        | some y =>
          obtain ⟨hwd, rfl⟩ := hx1 y rfl
          cases hvbA
          rw [show (["new", "name", "copy", "get"] : List Str).contains wd = true by simpa using hwd]
          refine iteT ⟨_, rfl, ty, _, 1, .str (S y), rfl, rfl, Same.seqT sa htyA, atI_nat (j := 1) rfl, _, rfl, ul, _, rfl, .inl (SqL.of (sa _ _ (hA2 d6 hC5.hu))), rfl, (by rw [txts_S]; exact flat_strs _), _, rfl, ?_⟩
          rw [txts_S]
          show (if (!inV (V.str (S y)) ((us.map S).map V.str)) = true then _ else _)
          rw [in_strs]
          have hcont : (us.map S).contains (S y) = us.contains y := by
            rw [Bool.eq_iff_iff]
            simp only [List.contains_iff_mem, List.mem_map]
            exact ⟨fun ⟨z, h, e⟩ => SX.S_inj e ▸ h, fun h => ⟨y, h, rfl⟩⟩
          rw [hcont]
          by_cases hy : us.contains y = true
          · rw [hy]
            exact iteF ⟨_, _, _, _, _, _, rfl, finA (if_pos hy) _ sa⟩
          · rw [eq_false_of_ne_true hy]
            have hyn : y ∉ us := by simpa using hy
            have hfy : fs.head? = some y := by
              rcases hrg with ⟨_, h⟩ | ⟨h, _⟩
              · exact (h y rfl).resolve_left hyn
              · cases h
            obtain ⟨fr, rfl⟩ : ∃ fr, fs = y :: fr := by
              cases fs with
              | nil => cases hfy
              | cons c q => exact ⟨q, by rw [Option.some.inj hfy]⟩
            have hnu : newU us (some y) = us ++ [y] := if_neg hy
            rw [hnu] at hreq'
            have huA := sa _ _ (hA2 d6 hC5.hu)
            have hfA := sa _ _ (hA2 d3 hC5.hf)
            have htyB := Same.seqT sa htyA
            refine iteT ⟨_, rfl, .inl ⟨rfl, _, SqL.of huA⟩, _, rfl, ty, _, 1, .str (S y), rfl, rfl, htyB, atI_nat (j := 1) rfl, ul, _, _, rfl, rfl, huA, small1000 (by rw [txts_len]; omega), ?_⟩
            have n1 : fl ≠ ul := d1
            have hfB : (upd (upd HA a (.lst [.str "new", .str "name", .str "copy", .str "get"])) ul (.lst (txts us ++ [.str (S y)]))) fl = some (.lst (((S y) :: fr.map S).map V.str)) := by
              rw [upd_ne n1, hfA, txts_S]
              rfl
            refine ⟨_, rfl, .inl ⟨rfl, _, SqL.of hfB⟩, _, rfl, ty, _, 1, .str (S y), rfl, rfl, sqT_grow htyB huA, atI_nat (j := 1) rfl, fl, S y, fr.map S, rfl, rfl, hfB, ?_⟩
            have teB : TupE H5 (upd (upd (upd HA a (.lst [.str "new", .str "name", .str "copy", .str "get"])) ul (.lst (txts us ++ [.str (S y)]))) fl (.lst ((fr.map S).map V.str))) := ((teA.trans (TupE.same sa)).trans (TupE.grow huA)).trans (TupE.grow hfB)
            have kB := kp_new (o := .lst ((fr.map S).map V.str)) (kp_new (o := .lst (txts us ++ [.str (S y)])) (kA.same sa) hC5.nul hC5.up) hC5.nfl hC5.fp
            have put : ∀ {c : Addr} {x : HO}, c ≠ fl → c ≠ ul → (upd HA a (.lst [.str "new", .str "name", .str "copy", .str "get"])) c = some x → (upd (upd (upd HA a (.lst [.str "new", .str "name", .str "copy", .str "get"])) ul (.lst (txts us ++ [.str (S y)]))) fl (.lst ((fr.map S).map V.str))) c = some x := fun m1 m2 e => by
              rw [upd_ne m1, upd_ne m2]
              exact e
            have hperm : (us ++ [y] ++ fr).Perm (us ++ y :: fr) := by
              rw [List.append_assoc]
              exact .refl _
            refine ⟨_, _, _, _, _, _, rfl, hC5.re kB teB ?_ ?_ (put (fun e => d2 e.symm) (fun e => d5 e.symm) (sa _ _ (hA2 d8 hC5.ht))) (put (fun e => d3 e.symm) (fun e => d6 e.symm) (sa _ _ hA1)) (put (fun e => d4 e.symm) (fun e => d7 e.symm) (sa _ _ (hA2 (fun e => d10 e.symm) hC5.hp))) (DtAll.ext (dpAll_app hdlA (.cons hdtA .nil)) (((TupE.same sa).trans (TupE.grow huA)).trans (TupE.grow hfB))) (hperm.nodup_iff.mpr hC5.und) (fun z hz => hC5.umem z (hperm.mem_iff.mp hz)) ?_ (by simp) hok' hreq' hsm' hdl'⟩
            · rw [upd_same, txts_S]
            · rw [upd_ne (fun e => n1 e.symm), upd_same, ← txts_app]
              rfl
            · have h1 := hC5.uln
              have h1 : us.length + (fr.length + 1) ≤ 15 := h1
              rw [List.length_append]
              show us.length + 1 + fr.length ≤ 15
              omega
      · rintro σ H3 ⟨x7, x12, fs, us, ls, ds, rfl, hC⟩
        have h1 := hC.dln
        have hm : r.toNat ≤ 5 := by omega
        exact ⟨x7, x12, fs, us, ls, ds, rfl, hC.re hC.kp (fun b xs e => e) hC.hf hC.hu hC.ht hC.hl hC.hp hC.dl hC.und hC.umem hC.uln hC.une hC.rok hC.req hC.sm (Nat.le_trans h1 hm)⟩
    clear hC
    rintro σ1 H1 ⟨x7, x12, fs, us, ls, ds, rfl, hC⟩
    have hug : ∀ z ∈ us, GoodN z := fun z hz => good (hC.umem z (List.mem_append_left _ hz)).1
    have hul := hC.uln
    refine ⟨fun σ1 H1 => ∃ rv rd, σ1 = [some (.ref p), some (.str (S nm)), some (.ref q0), some (.ref g), some (.ref o), some (.ref fl), some (.ref pl2), x7, x8, some (.ref ul), some (.ref tl), some (.ref ll), x12, some rv, none] ∧ PhC ows K H H1 p fl ul tl ll pl2 ns ss fs us ps2 ls prs ds 5 ∧ Dt K H1 rv rd ∧ ResG us (ss ++ ofHs "mark" prs) rd, ?_, ?_⟩
    · refine ⟨by show 1 ≤ sizeLine; decide, fun t nt => ?_⟩
      have st := same_upd (o := .tup [.str "none"]) nt
      exact ⟨_, _, rfl, hC.go (Kp.of hC.kp.2 st), Dt.tup upd_same (.cons (.str _) .nil), .non⟩
    clear hC
    rintro σ1 H1 ⟨rv, rd, rfl, hC, hrd, hrg⟩
    refine ⟨fun σ1 H1 => ∃ rv rd, σ1 = [some (.ref p), some (.str (S nm)), some (.ref q0), some (.ref g), some (.ref o), some (.ref fl), some (.ref pl2), x7, x8, some (.ref ul), some (.ref tl), some (.ref ll), x12, some rv, none] ∧ PhC ows K H H1 p fl ul tl ll pl2 ns ss fs us ps2 ls prs ds 5 ∧ Dt K H1 rv rd ∧ ResG us (ss ++ ofHs "mark" prs) rd, ?_, ?_⟩
    · have hu1 : NmsAt H1 p ul us := ⟨hC.up, hC.hu, by omega⟩
      have ht1 : NmsAt H1 p tl (ss ++ ofHs "mark" prs) := ⟨hC.tp, hC.ht, by omega⟩
      refine ⟨_, rfl, by show 0 ≤ sizeLine; decide, fun le nle => ne_nms hu1 hug nle ⟨_, rfl, ?_⟩⟩
      have se := same_upd (o := .lst []) nle
      have k1 := Kp.of hC.kp.2 se
      refine ite2 (fun k => ?_) (fun k => ⟨_, _, rfl, hC.go k1, hrd.ext (TupE.same se), hrg⟩)
      have hun : us ≠ [] := fun e => by
        rw [e] at k
        cases k
      refine ⟨_, rfl, by show 1 ≤ sizeLine; decide, fun t1 n1 => ⟨_, rfl, _, rfl, ?_⟩⟩
      have s1 := same_upd (o := .tup [.str "none"]) n1
      have k2 := k1.same s1
      have n1p := bag_ne k1.2 n1
      refine of_nms k2.2 (hu1.go k2) hun (fun H2 z2 k3 hz2 => ⟨two_le, fun t2 n2 => ⟨_, rfl, _, rfl, ?_⟩⟩)
      have s2 := same_upd (o := .tup [.str "box", .str (S z2)]) n2
      have k4 := (k2.trans k3).same s2
      have n2p := bag_ne (k2.trans k3).2 n2
      refine of_nms k4.2 (hu1.go k4) hun (fun H3 z3 k5 hz3 => ⟨two_le, fun t3 n3 => ⟨_, rfl, _, rfl, _, rfl, ?_⟩⟩)
      have s3 := same_upd (o := .tup [.str "copy", .str (S z3)]) n3
      have k6 := (k4.trans k5).same s3
      have n3p := bag_ne (k4.trans k5).2 n3
      refine ⟨p, ul, tl, us, ss ++ ofHs "mark" prs, rfl, k6.2, hu1.go k6, ht1.go k6, hun, htse, fun H4 yt dt k7 hdt htg => ⟨two_le, fun t4 n4 => ⟨by show 4 ≤ sizeLine; decide, fun L nL => ?_⟩⟩⟩
      have s4 := same_upd (o := .tup [.str "test", yt]) n4
      have k8 := (k6.trans k7).same s4
      have n4p := bag_ne (k6.trans k7).2 n4
      refine of_new k8.2 nL (by show 1 ≤ 4; decide) (by show 4 ≤ 1000; decide) (fun H5 y k9 hy => ?_)
      have kZ := k8.trans k9
      have h4 : H5 t4 = some (.tup [.str "test", yt]) := k9.1 _ _ n4p upd_same
      have h3 : H5 t3 = some (.tup [.str "copy", .str (S z3)]) := k9.1 _ _ n3p (s4 _ _ (k7.1 _ _ n3p upd_same))
      have h2 : H5 t2 = some (.tup [.str "box", .str (S z2)]) := k9.1 _ _ n2p (s4 _ _ (k7.1 _ _ n2p (s3 _ _ (k5.1 _ _ n2p upd_same))))
      have h1 : H5 t1 = some (.tup [.str "none"]) := k9.1 _ _ n1p (s4 _ _ (k7.1 _ _ n1p (s3 _ _ (k5.1 _ _ n1p (s2 _ _ (k3.1 _ _ n1p upd_same))))))
      have hdt5 : Dt K H5 yt dt := (hdt.ext (TupE.same s4)).ext (TupE.kp k8.2 k9)
      have hCZ := hC.go kZ
      rcases List.mem_cons.mp hy with rfl | hy
      · exact ⟨_, _, rfl, hCZ, Dt.tup h1 (.cons (.str _) .nil), .non⟩
      rcases List.mem_cons.mp hy with rfl | hy
      · exact ⟨_, _, rfl, hCZ, Dt.tup h2 (.cons (.str _) (.cons (.str _) .nil)), .box z2 hz2⟩
      rcases List.mem_cons.mp hy with rfl | hy
      · exact ⟨_, _, rfl, hCZ, Dt.tup h3 (.cons (.str _) (.cons (.str _) .nil)), .cpy z3 hz3⟩
      · obtain rfl := List.mem_singleton.mp hy
        exact ⟨_, _, rfl, hCZ, Dt.tup h4 (.cons (.str _) (.cons hdt5 .nil)), .tst dt htg⟩
    clear hC hrd hrg
    rintro σ1 H1 ⟨rv, rd, rfl, hC, hrd, hrg⟩
    refine ⟨_, rfl, _, rfl, pl2, ps2, rfl, .inl ⟨SqL.of hC.hp, fun t1 n1 => ?_⟩⟩
    have s1 := same_upd (o := .tup ps2) n1
    refine ⟨_, rfl, ll, ls, rfl, .inl ⟨SqL.of (s1 _ _ hC.hl), fun t2 n2 => ?_⟩⟩
    have s2 := same_upd (o := .tup ls) n2
    refine ⟨_, rfl, by show 4 ≤ sizeLine; decide, fun t n => ?_⟩
    have s3 := same_upd (o := .tup [.str (S nm), .ref t1, .ref t2, rv]) n
    have sAll := (s1.trans s2).trans s3
    have te := TupE.same sAll
    refine q _ _ prs ds rd (hC.kp.same sAll) (Dt.tup upd_same (.cons (.str _) (.cons (Dt.tup (s3 _ _ (s2 _ _ upd_same)) (hC.dt.ext te)) (.cons (Dt.tup (s3 _ _ upd_same) (hC.dl.ext te)) (.cons (hrd.ext te) .nil))))) ?_
    refine ⟨hC.len, fun x hx => (hC.ok x hx).1, fun x hx => (hC.ok x hx).2, hC.pnd, hC.pin, hC.ord, hC.bx, hC.dln, hC.rok, hrg.facts hug htsg hC.req, fun z hz => ?_, fun z hz h => ?_, fun d hd => (hC.sm d hd).1, fun d hd => (hC.sm d hd).2, hrg.sm hug htsg, _, hrg⟩
    · obtain ⟨c, hc, e⟩ := List.mem_map.mp ((hC.req z).mp hz)
      exact List.mem_map.mpr ⟨c, (hC.umem c (List.mem_append_left _ hc)).1, e⟩
    · obtain ⟨c, hc, rfl⟩ := List.mem_map.mp ((hC.req z).mp hz)
      obtain ⟨c2, h2, e⟩ := List.mem_map.mp h
      exact (hC.umem c (List.mem_append_left _ hc)).2 (SX.S_inj e ▸ h2)
end
end Dr
namespace Dr
open PySem PySem.Spec PyProof.Rows L2
def setObj (w : World) : Obj := { cls := .type "set", dict := none, data := .set #[] 0 (.fresh 0 0 (!w.params.followText "set-order")) }
/-- an entry of a set of texts -/
def TxE (P : Program) (w : World) (e : Int × Value) : Prop := ∃ x t, e.2 = Value.str x t ∧ e.1 = (PySem.strKind P w).hash x
def txE (e : Int × Value) : Str := strOf e.2
/-- the set at a has the members of S; it can be walked -/
def TSet (P : Program) (w : World) (h : Heap) (a : Addr) (S : List Str) : Prop :=
  ∃ o es ep t, h.get? a = some o ∧ o.ExactSet ∧ o.data = .set es ep t ∧ (∀ e ∈ es.toList, TxE P w e) ∧ (es.toList.map txE).Nodup ∧ (∀ k, k ∈ es.toList.map txE ↔ k ∈ S) ∧ es.size ≤ S.length ∧ S.length < 64 ∧ t.fits es.size = true ∧ Ris t.place.toList ∧ (w.params.followText "set-order" = true ∨ t.led = true)
section
variable {P : Program} {w : World} {h h' : Heap} {a : Addr} {S : List Str}
theorem TSet.go (R : TSet P w h a S) (k : ∀ o, h.get? a = some o → h'.get? a = some o) : TSet P w h' a S := by
  obtain ⟨o, es, ep, t, ho, r⟩ := R
  exact ⟨o, es, ep, t, k o ho, r⟩
theorem txE_elems {l : List (Int × Value)} (g : ∀ e ∈ l, TxE P w e) : ElemsOf (PySem.strKind P w) l := fun e he => by
  obtain ⟨x, t, e1, e2⟩ := g e he
  rw [e1]
  exact ⟨⟨x, strKind_is P w x t, e2⟩, rfl⟩
theorem txE_is {e : Int × Value} (g : TxE P w e) (k : Str) : (PySem.strKind P w).is k e.2 = true ↔ txE e = k := by
  obtain ⟨x, t, e1, _⟩ := g
  unfold txE
  rw [e1]
  have q := KeyKind.is_eq_decide (strKind_is P w x t) k
  rw [q, decide_eq_true_eq]
  exact ⟨fun z => z.symm, fun z => (show x = k from z).symm⟩
theorem txE_mem {l : List (Int × Value)} (g : ∀ e ∈ l, TxE P w e) (k : Str) : k ∈ l.map txE ↔ ∃ e ∈ l, (PySem.strKind P w).is k e.2 = true := by
  rw [List.mem_map]
  exact ⟨fun ⟨e, he, q⟩ => ⟨e, he, (txE_is (g e he) k).2 q⟩, fun ⟨e, he, q⟩ => ⟨e, he, (txE_is (g e he) k).1 q⟩⟩
theorem tset_new : TSet P w (h.push (setObj w)) h.objs.size [] :=
  ⟨_, #[], 0, _, Heap.get?_push_size _ rfl, ⟨rfl, rfl, rfl⟩, rfl, fun e he => by simp at he, by simp, fun k => by simp, Nat.le_refl _, by show 0 < 64; decide, rfl, List.Pairwise.nil, by
    show _ ∨ (!w.params.followText "set-order") = true
    cases w.params.followText "set-order" <;> simp⟩
end
section
variable {P : Program} {w : World} {A : Around} {E : Value → Shared → Prop} {s : Shared} {a : Addr} {S : List Str}
theorem put_tail {g : Bool → Sem Unit} (hg : ∀ (b : Bool) (s₁ : Shared) (Q' : Unit → Shared → Prop), Q' () s₁ → wpAny (model P w) A (g b) Q' E s₁) {o : Obj} {es : Array (Int × Value)} {ep : Nat} {t : SetTable}
    (ho : s.heap.get? a = some o) (hex : o.ExactSet) (hd : o.data = .set es ep t) {es1 : Array (Int × Value)} {t2 : SetTable} {S' : List Str} (g1 : ∀ e ∈ es1.toList, TxE P w e) (nd1 : (es1.toList.map txE).Nodup) (m1 : ∀ k, k ∈ es1.toList.map txE ↔ k ∈ S')
    (hb1 : es1.size ≤ S'.length) (hS : S'.length < 64) (hf2 : t2.fits es1.size = true) (hr : Ris t2.place.toList) (hl : w.params.followText "set-order" = true ∨ t2.led = true) {wasDummy : Bool} {R : Option Bool → Shared → Prop}
    (hR : ∀ h', Heap.SameBut a s.heap h' → TSet P w h' a S' → R (some true) { s with heap := h' }) :
    wpAny (model P w) A (do
        storeSet a es1 t2
        if (!wasDummy && t2.tooFull) = true then do
            g (relayAll t2 es1 (SetTable.grown es1.size)).2.2
            storeSet a (relayAll t2 es1 (SetTable.grown es1.size)).1 (relayAll t2 es1 (SetTable.grown es1.size)).2.1
            pure (some true)
          else pure (some true)) R E s := by
  have scan : ∀ {n : Nat}, n ≤ S'.length → n < scanBound := fun q => Nat.lt_of_le_of_lt q (Nat.lt_trans hS (by decide))
  refine wpAny_bind (wpAny_storeSet_of ho hd ?_ (fits_of_scanBound (scan hb1)))
  have ho1 := store_at (es' := es1) (t' := t2) ho hd
  have sb1 := Heap.SameBut.update s.heap a (Obj.putSet es1 t2)
  split
  · have pm := relayAll_perm t2 es1 (SetTable.grown es1.size)
    have f3 := relayAll_fits t2 es1 (SetTable.grown es1.size)
    have r3 := relayAll_ris t2 es1 (SetTable.grown es1.size)
    have l3 := relayAll_led t2 es1 (SetTable.grown es1.size)
    generalize relayAll t2 es1 (SetTable.grown es1.size) = Z at pm f3 r3 l3 ⊢
    obtain ⟨es2, t3, gave⟩ := Z
    dsimp only at pm f3 r3 l3 ⊢
    have hsz : es2.size = es1.size := by simpa using pm.length_eq
    have hb2 : es2.size ≤ S'.length := hsz ▸ hb1
    refine wpAny_bind (hg _ _ _ (wpAny_bind (wpAny_storeSet_of ho1 rfl ?_ (fits_of_scanBound (scan hb2)))))
    have ho2 := store_at (es' := es2) (t' := t3) ho1 rfl
    refine wpAny_pure (hR _ (sb1.trans (Heap.SameBut.update _ a _)) ⟨_, es2, _, t3, ho2, hex, rfl, fun e he => g1 e (pm.mem_iff.mp he), (pm.map txE).nodup_iff.mpr nd1, fun k => (pm.map txE).mem_iff.trans (m1 k), hb2, hS, f3, r3, ?_⟩)
    exact hl.imp_right fun z => l3 ▸ z
  · exact wpAny_pure (hR _ sb1 ⟨_, es1, _, t2, ho1, hex, rfl, g1, nd1, m1, hb1, hS, hf2, hr, hl⟩)
/-- one text is put in -/
theorem tset_put {k : Str} {tk : Tok} {Q : Bool → Shared → Prop} (R : TSet P w s.heap a S) (room : S.length + 1 < 64) (hQ : ∀ b h', Heap.SameBut a s.heap h' → TSet P w h' a (S ++ [k]) → Q b { s with heap := h' }) :
    wpAny (model P w) A (setAddHashed a (.str k tk) ((PySem.strKind P w).hash k)) Q E s := by
  obtain ⟨o, es, ep, t, ho, hex, hd, g, nd, hm, hb, h64, hf, hr, hl⟩ := R
  have hkey : (PySem.strKind P w).is k (.str k tk) = true := strKind_is P w k tk
  have hel : ElemsOf (PySem.strKind P w) es.toList := txE_elems g
  have hbs : es.size < scanBound := Nat.lt_of_le_of_lt hb (Nat.lt_trans h64 (by decide))
  have hlen : (S ++ [k]).length = S.length + 1 := by rw [List.length_append]; rfl
  unfold setAddHashed setAddHashedIn
  refine wpAny_holding (wpAny_bind (wpAny_setState_of ho hd hf ?_))
  dsimp only
  rw [byScan_of (x := .str k tk) rfl hbs hel]
  simp only [↓reduceIte]
  unfold setAddByScan
  refine wpAny_bind (wpAny_bind (wpAny_rule (wpAny_bind (wpAny_setScan_of hkey ho hd hf hel ?_))))
  cases hfi : List.findIdx? (fun e => (PySem.strKind P w).is k e.2) es.toList with
  | some j =>
    dsimp only
    obtain ⟨hj, pj, _⟩ := List.findIdx?_eq_some_iff_getElem.mp hfi
    have hkS : k ∈ S := (hm k).1 ((txE_mem (P := P) (w := w) g k).2 ⟨es.toList[j], List.getElem_mem hj, pj⟩)
    refine wpAny_pure (wpAny_pure (hQ _ s.heap (Heap.SameBut.refl a s.heap) ⟨o, es, ep, t, ho, hex, hd, g, nd, fun i => (hm i).trans ?_, by omega, by omega, hf, hr, hl⟩))
    rw [List.mem_append, List.mem_singleton]
    exact ⟨.inl, fun z => z.elim id fun e => e ▸ hkS⟩
  | none =>
    dsimp only
    have hnk : k ∉ es.toList.map txE := fun z => by
      obtain ⟨e, he, q⟩ := (txE_mem (P := P) (w := w) g k).1 z
      have c := List.findIdx?_eq_none_iff.mp hfi e he
      rw [q] at c
      cases c
    have gaveway : ∀ (b : Bool) {s₁ : Shared} {Q' : Unit → Shared → Prop}, Q' () s₁ → wpAny (model P w) A (match b with | true => rule "set.scan.the-table-gave-way" | false => pure ()) Q' E s₁ :=
      fun b s₁ Q' q => by cases b <;> first | exact wpAny_pure q | exact wpAny_rule q
    have pm := layNew_perm t es ((PySem.strKind P w).hash k) (.str k tk)
    have f1 := layNew_fits t es ((PySem.strKind P w).hash k) (.str k tk)
    have r1 := layNew_ris t es ((PySem.strKind P w).hash k) (.str k tk) hr
    have l1 := layNew_led t es ((PySem.strKind P w).hash k) (.str k tk)
    generalize layNew t es ((PySem.strKind P w).hash k) (.str k tk) = Z at pm f1 r1 l1 ⊢
    obtain ⟨es1, t1, wasDummy, gave⟩ := Z
    dsimp only at pm f1 r1 l1 ⊢
    rw [Array.toList_push] at pm
    have pc : es1.toList.Perm (((PySem.strKind P w).hash k, Value.str k tk) :: es.toList) := pm.trans (List.perm_append_singleton _ _)
    have pk : (es1.toList.map txE).Perm (k :: es.toList.map txE) := pc.map txE
    have g1 : ∀ e ∈ es1.toList, TxE P w e := fun e he => (List.mem_cons.mp (pc.mem_iff.mp he)).elim (fun z => z ▸ ⟨k, tk, rfl, rfl⟩) (g e)
    have nd1 : (es1.toList.map txE).Nodup := pk.nodup_iff.mpr (List.nodup_cons.mpr ⟨hnk, nd⟩)
    have m1 : ∀ i, i ∈ es1.toList.map txE ↔ i ∈ S ++ [k] := fun i => by
      rw [pk.mem_iff, List.mem_cons, hm i, List.mem_append, List.mem_singleton]
      exact Or.comm
    have hsz : es1.size ≤ (S ++ [k]).length := by
      have q : es1.size = es.size + 1 := by simpa using pc.length_eq
      omega
    have h64' : (S ++ [k]).length < 64 := by omega
    have hled : w.params.followText "set-order" = true ∨ t1.led = true := hl.imp_right fun z => l1 ▸ z
    refine wpAny_bind (gaveway _ ?_)
    split
    · refine wpAny_bind ?_
      rw [hashByValue_scannable 8 (x := .str k tk) rfl]
      refine wpAny_pure (put_tail (fun b s₁ Q' q => ?_) ho hex hd g1 nd1 m1 hsz h64' ?_ ?_ ?_ fun h' sb r => ?_)
      · cases b <;> first | exact wpAny_pure q | exact wpAny_rule q
      · first | (split <;> first | exact f1 | exact SetTable.fits_plain_off f1) | exact f1
      · first | (split <;> exact r1) | exact r1
      · first | (split <;> exact hled) | exact hled
      · dsimp only
        exact wpAny_pure (hQ _ h' sb r)
    · refine wpAny_bind (wpAny_pure ?_)
      simp only [↓reduceIte]
      refine put_tail (fun b s₁ Q' q => ?_) ho hex hd g1 nd1 m1 hsz h64' f1 r1 hled fun h' sb r => ?_
      · cases b <;> first | exact wpAny_pure q | exact wpAny_rule q
      · dsimp only
        exact wpAny_pure (hQ _ h' sb r)
end
end Dr
namespace Dr
open PySem PySem.Spec PyProof.Rows L2
section
variable {P : Program} {w : World} {A : Around} {E : Value → Shared → Prop} {s : Shared}
theorem fill_loop {I : Addr} {fp wr : List Addr} {G : Array GenState → Array GenState → Prop} {n : Nat} {Pv : Nat → Value → Prop} {St : Nat → Shared → Prop} {R : Result → Shared → Prop} (W : WalksS P w A.in1 I fp wr G n Pv St) (D : Addr) (hD : D ∉ fp) (xs : List Str) (hn : n = xs.length) (hf : xs.length < 63)
    (hval : ∀ i v, Pv i v → ∃ x t, xs[i]? = some x ∧ v = .str x t) :
    ∀ (k i : Nat) (s : Shared), n - i = k → i ≤ n → St i s → TSet P w s.heap D (xs.take i) → (∀ s', Moved (D :: wr) G s s' → TSet P w s'.heap D xs → R (.ok (.ret .none)) s') →
      codeAny (model P w) A (.builtin "set.update.loop" ⟨[.ref D, .ref I], []⟩) R s := by
  have hDw : D ∉ wr := fun h => hD (W.sub _ h)
  have hsub : ∀ b ∈ wr, b ∈ D :: wr := fun b hb => List.mem_cons_of_mem _ hb
  intro k
  induction k with
  | zero =>
    intro i s hk hi hst hS hR
    obtain rfl : i = n := by omega
    refine codeAny_builtin F.entry_set_update_loop ?_
    rw [Around.under_plainId F.plain_set_update_loop _]
    show wpAny _ A.in1 (pyNext (.ref I) >>= _) _ _ s
    refine wpAny_bind (W.done s _ _ hst fun s' hm => wpAny_pure (hR s' (hm.mono hsub) ?_))
    rw [hn, List.take_length] at hS
    exact hS.go fun o e => hm.heap D o hDw e
  | succ k ih =>
    intro i s hk hi hst hS hR
    have hlt : i < n := by omega
    refine codeAny_builtin F.entry_set_update_loop ?_
    rw [Around.under_plainId F.plain_set_update_loop _]
    show wpAny _ A.in1 (pyNext (.ref I) >>= _) _ _ s
    refine wpAny_bind (W.item i s _ _ hlt hst fun v s' hP hst' hm => ?_)
    obtain ⟨x, t, hx, rfl⟩ := hval i v hP
    have hS' : TSet P w s'.heap D (xs.take i) := hS.go fun o e => hm.heap D o hDw e
    show wpAny _ A.in1 (PySem.holding [Value.str x t] (setAdd D (.str x t)) >>= _) _ _ s'
    refine wpAny_bind (wpAny_holding ?_)
    unfold setAdd
    refine wpAny_holding (wpAny_bind ((PySem.strKind P w).pyHash (k := x) (strKind_is _ _ _ _) ?_))
    have htk : (xs.take i).length = i := by
      rw [List.length_take]
      omega
    refine tset_put (s := { s' with toks := s'.toks + 1 }) hS' (by omega) fun b h' sb hS2 => ?_
    rw [show xs.take i ++ [x] = xs.take (i + 1) by rw [List.take_add_one, hx]; rfl] at hS2
    have other : ∀ {c : Addr} {o : Obj}, c ≠ D → s'.heap.get? c = some o → h'.get? c = some o := fun hc e => (sb.2 _ hc).trans e
    refine wpAny_pure ⟨plainId_quiet F.plain_set_update_loop _, ih (i + 1) _ (by omega) hlt (W.frame _ s' _ _ hst' (Nat.le_succ _) fun c hc o e => other (fun z => hD (z ▸ hc)) e) hS2 fun s3 hm3 hS3 => ?_⟩
    exact hR s3 (Moved.trans W.gtrans ((hm.mono hsub).then_heap (Nat.le_succ _) fun c o hc e => other (fun z => hc (z ▸ List.mem_cons_self)) e) hm3) hS3
set_option maxHeartbeats 8000000 in
/-- set(xs) of a list of texts -/
theorem call_setS {l : Addr} {items : Array Value} {xs : List Str} {Q : Value → Shared → Prop} (hh : A.handled = none) (hl : s.heap.IsList l items) (hi : PyProof.Rows.StrsAre items.toList xs) (hf : xs.length < 63)
    (h : ∀ (h' : Heap) (tk : Nat), TSet P w h' s.heap.objs.size xs → (∀ b o, s.heap.get? b = some o → h'.get? b = some o) → Q (.ref s.heap.objs.size) { s with heap := h', toks := tk }) :
    wpAny (model P w) A (call (.type "set") [.ref l]) Q E s := by
  have hisz : items.size = xs.length := by rw [← StrsAre.len_eq hi, Array.length_toList]
  obtain ⟨c, tl, hmro⟩ := F.called_set.mro
  have hmade := F.called_set.made
  have hsub := F.called_set.sub
  refine wpAny_call (codeAny_of_tree (show wpAny _ _ (callAny (.type "set") _) _ _ _ from wpAny_pure ⟨Code.quiet_builtin _ (by decide +kernel), codeAny_builtin F.entry_type_call ?_⟩))
  rw [Around.under_plain (weight_type_call_type "set" [.ref l] []) rfl]
  have h1 := F.called_set.notType
  have h2 := F.called_set.canCreate
  have hct := F.typeCall_set_1 (.ref l)
  repeat (any_goals (first | assumption | wp_step))
  refine codeAny_mono (code_set_led1 (.ref l) (E := E) (Q₁ := fun obj s₁ => obj = .ref s.heap.objs.size ∧ s₁ = { s with heap := s.heap.push (setObj w) }) ⟨rfl, rfl⟩) fun r s₁ hr => ?_
  cases r with
  | error e => exact hr
  | ok fl =>
    cases fl with
    | next => exact hr.elim
    | brk => exact hr.elim
    | cont => exact hr.elim
    | ret obj =>
      obtain ⟨rfl, rfl⟩ := hr
      have hS : (s.heap.push (setObj w)).get? s.heap.objs.size = some (setObj w) := Heap.get?_push_size _ rfl
      have hT : Shared.TypeIs { s with heap := s.heap.push (setObj w) } (.ref s.heap.objs.size) "set" := ⟨_, hS, rfl⟩
      have hli := F.called_set.init.lookup
      have hbi := F.called_set.init.bind (.ref s.heap.objs.size)
      repeat (any_goals (first | assumption | wp_step))
      refine codeAny_mono (codeAny_call_builtin (R := wants (fun r s₂ => r = .none ∧ ∃ h' tk, s₂ = { s with heap := h', toks := tk } ∧ TSet P w h' s.heap.objs.size xs ∧ (∀ b o, s.heap.get? b = some o → h'.get? b = some o)) E) F.called_set.init.plain F.entry_set_init (check_set_init_1 hT ?_)) fun r₂ s₂ hr₂ => ?_
      · obtain ⟨⟨ocls, odict, odata, oslots⟩, hol, hcl, nl, hdl⟩ := hl
        simp only at hcl hdl
        subst hcl
        subst hdl
        have hol' : (s.heap.push (setObj w)).get? l = some { cls := .type "list", dict := odict, data := .seq items nl, slots := oslots } := Heap.get?_push_of_some _ hol
        have hsls := F.sub_list_set
        have hslf := F.sub_list_frozenset
        have hne : (Value.type "list" == Value.type "dict") = false := by decide
        have hl1 : (s.heap.push (setObj w)).IsList l items := ⟨_, hol', rfl, nl, rfl⟩
        unfold Builtin.«set.__init__» noKeywords Builtin.Frozenset.updateFrom
        generalize hPI : pyIter = PI
        wp_walk
        subst hPI
        refine wpAny_pyIter_list hl1 (wpAny_bind (wpAny_runValue ?_))
        have hlS : l < s.heap.objs.size := Heap.lt_size hol
        have hh3 : A.in1.in1.in1.handled = none := by simp [hh]
        have hz : (s.heap.push (setObj w)).objs.size = s.heap.objs.size + 1 := Heap.size_push ..
        have hneI : l ≠ (s.heap.push (setObj w)).objs.size := by
          rw [hz]
          exact Nat.ne_of_lt (Nat.lt_succ_of_lt hlS)
        have hSf : s.heap.objs.size ∉ [(s.heap.push (setObj w)).objs.size, l] := by
          rw [hz]
          simp only [List.mem_cons, List.not_mem_nil, or_false, not_or]
          exact ⟨Nat.ne_of_lt (Nat.lt_succ_self _), (Nat.ne_of_lt hlS).symm⟩
        have hval : ∀ (i : Nat) (v : Value), items[i]? = some v → ∃ x t, xs[i]? = some x ∧ v = .str x t := fun i v hv => by
          obtain ⟨y, t, e1, e2⟩ := StrsAre.item hi i v (by rw [Array.getElem?_toList]; exact hv)
          exact ⟨y, t, e2, e1⟩
        refine fill_loop ((Walks.list hh3 _ l hneI items).toS) s.heap.objs.size hSf xs hisz hf hval (items.size - 0) 0 _ (by omega) (Nat.zero_le _) ⟨⟨_, Heap.get?_push_size _ rfl, rfl, rfl⟩, (hl1.push _)⟩ ?hS0 ?hR
        case hS0 => exact (tset_new (P := P) (h := s.heap)).go fun o e => Heap.get?_push_of_some _ e
        case hR =>
          intro s' hm hS'
          obtain ⟨h', g2, d', tk', os'⟩ := s'
          obtain rfl : g2 = s.gens := hm.gens
          obtain rfl : d' = s.drawn := hm.drawn
          obtain rfl : os' = s.os := hm.os
          show wpAny _ _ _ _ _ _
          refine wpAny_pure (show wpAny _ _ (ret Value.none) _ _ _ from wpAny_pure ⟨rfl, h', tk', rfl, hS', fun b o e => ?_⟩)
          have hlt : b < s.heap.objs.size := Heap.lt_size e
          refine hm.heap b o ?_ (Heap.get?_push_of_some _ (Heap.get?_push_of_some _ e))
          rw [hz]
          simp only [List.mem_cons, List.not_mem_nil, or_false, not_or]
          exact ⟨Nat.ne_of_lt hlt, Nat.ne_of_lt (Nat.lt_succ_of_lt hlt)⟩
      · cases r₂ with
        | error e => exact hr₂
        | ok fl₂ =>
          cases fl₂ with
          | next => exact hr₂.elim
          | brk => exact hr₂.elim
          | cont => exact hr₂.elim
          | ret r =>
            obtain ⟨rfl, h', tk, rfl, hS', hk'⟩ := hr₂
            repeat (any_goals (first | assumption | wp_step))
            exact h _ _ hS' hk'
/-- sorted(set) -/
theorem sorted_tset {a : Addr} {S : List Str} {Q : Value → Shared → Prop} (R : TSet P w s.heap a S) (hh : A.handled = none)
    (hQ : ∀ s' p (out : Array Value) (c : Nat) (ys : List Str), (∀ b o, s.heap.get? b = some o → s'.heap.get? b = some o) → s'.gens = s.gens → s'.os = s.os → s.heap.objs.size ≤ p → s'.heap.get? p = some (seqObj "list" out c) → PyProof.Rows.StrsAre out.toList ys → ys.Nodup → (∀ k, k ∈ ys ↔ k ∈ S) → sortedS ys = true → ys.length ≤ S.length → Q (.ref p) s') :
    wpAny (model P w) A (call (.builtin "sorted") [.ref a]) Q E s := by
  obtain ⟨o, es, ep, t, ho, hex, hd, g, nd, hm, hb, h64, hf, hr, hl⟩ := R
  refine Calls.call_function_entry kind_sorted plain_sorted entry_sorted (args_sorted1 _) ?_
  unfold Builtin.«sorted»
  refine wpAny_bind (m := checkCount "sorted" 1 1 _) (wpAny_pure (wpAny_bind (collect_set (A := A.in1) hh ⟨o, ho, hex.1, hd⟩ hf (Nat.lt_of_le_of_lt hb (Nat.lt_trans h64 (by decide))) hr hl fun s1 vs k1 hz g1 o1 pm => ?_)))
  have hvl : vs.length ≤ S.length := by
    rw [pm.length_eq, List.length_map, Array.length_toList]
    exact hb
  have hI : StrsAre vs (vs.map strOf) := strsAre_map vs fun v hv => by
    obtain ⟨e, he, rfl⟩ := List.mem_map.mp (pm.mem_iff.mp hv)
    obtain ⟨x, t, q, _⟩ := g e he
    exact ⟨x, t, q⟩
  have pk : (vs.map strOf).Perm (es.toList.map txE) := by
    have q := pm.map strOf
    rw [List.map_map] at q
    exact q
  refine wpAny_bind (wpAny_newList ?_ (by rw [sizeLine_eq]; omega))
  have hoL : (s1.heap.push (seqObj "list" vs.toArray 0)).get? s1.heap.objs.size = some (seqObj "list" vs.toArray 0) := Heap.get?_push_size _ rfl
  refine wpAny_bind (wpAny_holding (wpAny_call_entry slot_list_sort ⟨_, hoL, rfl⟩ entry_list_sort (list_sort_treeK strKind_oneLt hoL hI.keysOf (fun v₁ v₂ rest e => keyKind_strs (by rw [← e]; exact hI)) (by omega) fun st' hp hs => ⟨_, rfl, ?_⟩) (args_list_sort _)))
  obtain ⟨ys, e1, e2, e3⟩ := sorted_out_str hI hp hs
  obtain ⟨c, hc⟩ := sortedHeap_at (vs := vs) (out := (arrOf st').map (·.2)) hoL
  have pn : ys.Perm (es.toList.map txE) := e2.trans pk
  refine wpAny_pure ⟨_, rfl, hQ _ s1.heap.objs.size _ c ys (fun b u e => ?_) g1 o1 hz hc e1 (pn.nodup_iff.mpr nd) (fun k => pn.mem_iff.trans (hm k)) e3 ?_⟩
  · have q := k1 b u e
    have hlt := Heap.lt_size q
    show (sortedHeap (s1.heap.push (seqObj "list" vs.toArray 0)) s1.heap.objs.size vs _).get? b = some u
    rw [sortedHeap_old (Nat.ne_of_lt hlt) (by rw [size_push']; exact Nat.lt_succ_of_lt hlt)]
    exact Heap.get?_push_of_some _ q
  · rw [pn.length_eq, List.length_map, Array.length_toList]
    exact hb
end
/-- the set of texts at a -/
def TSetO (P : Program) (w : World) (a : Addr) (S : List Str) : HO := .ext fun h => TSet P w h a S
section
variable {X : Cx}
theorem tsetO_new {P : Program} {w : World} {H : Hp} {h : Heap} {a : Addr} {S : List Str} (R : TSet P w h a S) : ObjOk P w H h a (TSetO P w a S) := by
  have ⟨o, _, _, _, ho, _⟩ := R
  exact ⟨R, ⟨o, ho⟩, fun h1 h2 p k => TSet.go p k⟩
/-- set(xs), xs a list of texts -/
def rSetS (K : PySem.W.Frag) (P : Program) (w : World) : List V → Hp → VK → Prop := fun vs H Q => ∃ (l : Addr) (xs : List Str), vs = [V.ref l] ∧ SqL K H l (xs.map V.str) ∧ xs.length < 63 ∧ ∀ a, H a = none → Q (.ref a) (upd H a (TSetO P w a xs))
theorem cr_setS (hc : X.calm = true) : CallR X (.type "set") (rSetS X.K X.prog X.w) := by
  intro pins s σ H vs us Q I r h
  obtain ⟨l, xs, rfl, hl, hf, q⟩ := h
  rw [Vals.ref1 r]
  obtain ⟨its, rv, pl, hz⟩ := I.list hl
  refine call_setS (P := X.prog) (w := X.w) (I.ok.hd hc) pl.isList (by simpa using rv.strs) hf fun h' tk R k => ?_
  exact ⟨.ref s.heap.objs.size, upd H s.heap.objs.size (TSetO X.prog X.w s.heap.objs.size xs), I.laid (t' := tk) k (Nat.le_refl _) (tsetO_new R), rfl, q _ (I.hok.fresh (Nat.le_refl _))⟩
/-- sorted(set), a set of texts -/
def rSortTS (P : Program) (w : World) : List V → Hp → VK → Prop := fun vs H Q => ∃ (a : Addr) (S : List Str), vs = [V.ref a] ∧ H a = some (TSetO P w a S) ∧ ∀ (ys : List Str) (p : Addr), ys.Nodup → (∀ k, k ∈ ys ↔ k ∈ S) → sortedS ys = true → ys.length ≤ S.length → H p = none → Q (.ref p) (upd H p (.lst (ys.map V.str)))
theorem cr_sortTS (hc : X.calm = true) : CallR X (.builtin "sorted") (rSortTS X.prog X.w) := by
  intro pins s σ H vs us Q I r h
  obtain ⟨a, S, rfl, ha, q⟩ := h
  have R : TSet X.prog X.w s.heap a S := (I.hok a _ ha).1
  have h64 : S.length < 64 := by
    obtain ⟨_, _, _, _, _, _, _, _, _, _, _, h64, _⟩ := R
    exact h64
  rw [Vals.ref1 r]
  refine sorted_tset R (I.ok.hd hc) fun s' p out c ys k g o hp hg e1 nd hm so hlen => ?_
  have hn : H p = none := I.hok.fresh hp
  have hsz : (ys.map V.str).length ≤ sizeLine := by
    rw [List.length_map, sizeLine_eq]
    omega
  have J : Inv X pins σ (upd H p (.lst (ys.map V.str))) { s with heap := s'.heap, gens := s'.gens, drawn := s'.drawn, toks := s'.toks } :=
    I.call (ch := []) (Un.laid k hp hn) (I.hok.laid k hp ⟨hsz, out.toList, c, vals_of_strs e1, hg⟩) (by rw [g]; exact I.bare) (fun _ z => nomatch z)
  have e : s' = { s with heap := s'.heap, gens := s'.gens, drawn := s'.drawn, toks := s'.toks } := by
    cases s'
    cases s
    cases o
    rfl
  rw [e]
  exact ⟨.ref p, _, J, rfl, q ys p nd hm so hlen hn⟩
end
end Dr
namespace Dr
open PySem PySem.Spec PyProof.Rows L2
/-- a key as a value -/
inductive LKey : V → Leaf → Prop
  | non : LKey .non .none
  | str (x : Str) : LKey (.str x) (.text x)
theorem lkey_is {P : Program} {w : World} {y : V} {u : Value} {k : Leaf} (h : LKey y k) (r : RelV y u) : (leafKind P w).is k u = true := by
  cases h with
  | non =>
    cases (show u = Value.none from r)
    rfl
  | str x =>
    obtain ⟨t, rfl⟩ := (show ∃ t, u = Value.str x t from r)
    exact strKind_is P w x t
/-- the dict at a: its keys and values -/
def TabO (P : Program) (w : World) (a : Addr) (kvs : List (Leaf × V)) : HO := .ext fun h => kvs.length ≤ sizeLine ∧ (a == sysModules) = false ∧ ∃ vs, KV kvs vs ∧ h.DictOf (leafKind P w) a vs
theorem tabO_new {P : Program} {w : World} {H : Hp} {h : Heap} {a : Addr} {kvs : List (Leaf × V)} {vs : List (Leaf × Value)} (z : kvs.length ≤ sizeLine) (hd : (a == sysModules) = false) (rel : KV kvs vs) (dd : h.DictOf (leafKind P w) a vs) : ObjOk P w H h a (TabO P w a kvs) := by
  have ⟨o, _, _, ho, _⟩ := dd
  refine ⟨⟨z, hd, vs, rel, dd⟩, ⟨o, ho⟩, fun h1 h2 p k => ?_⟩
  obtain ⟨z, hd, vs, rel, o, es, ep, ho, r⟩ := p
  exact ⟨z, hd, vs, rel, o, es, ep, k o ho, r⟩
theorem tabO_get {X : Cx} {pins : List (Addr × Obj)} {σ : L2.St} {H : Hp} {s : Shared} {a : Addr} {kvs : List (Leaf × V)} (I : Inv X pins σ H s) (e : H a = some (TabO X.prog X.w a kvs)) : kvs.length ≤ sizeLine ∧ (a == sysModules) = false ∧ ∃ vs, KV kvs vs ∧ s.heap.DictOf (leafKind X.prog X.w) a vs := (I.hok a _ e).1
/-- d[y] -/
def tTGet (P : Program) (w : World) (td ty : TE) : TE := fun σ H Q => td σ H fun x H1 => ty σ H1 fun y H2 => ∃ (a : Addr) (kvs : List (Leaf × V)) (k : Leaf) (v : V), x = .ref a ∧ H2 a = some (TabO P w a kvs) ∧ LKey y k ∧ valV kvs k = some v ∧ Q v H2
/-- d[y] = v -/
def sTPut (P : Program) (w : World) (td ty tv : TE) : L2.TS := fun D σ H => tv σ H fun v H1 => td σ H1 fun x H2 => ty σ H2 fun y H3 => ∃ (a : Addr) (kvs : List (Leaf × V)) (k : Leaf), x = .ref a ∧ H3 a = some (TabO P w a kvs) ∧ LKey y k ∧ kvs.length < sizeLine ∧ D.nx σ (upd H3 a (TabO P w a (putK kvs k v)))
section
variable {X : Cx} {o i e value : Expr} {pos pos' : Pos} {td ty tv : TE}
theorem pe_tget (ho : PE X o td) (hi : PE X i ty) (hs : NoSl i) : PE X (.Subscript o i pos) (tTGet X.prog X.w td ty) := by
  refine ⟨fun pins s σ H Q I h => ?_⟩
  refine subD_of PySem.F.slot_dict_getitem.lookup hs (thn (ho.run pins s σ H _ I h) fun u s1 ⟨x, H1, I1, rx, q1⟩ => thn (hi.run pins s1 σ H1 _ I1 q1) fun iv s2 ⟨y, H2, I2, ry, a, kvs, k, v, ex, e, hk, l, q2⟩ => ?_)
  subst ex
  obtain rfl : u = Value.ref a := rx
  obtain ⟨z, hd, vs, rel, dd⟩ := tabO_get I2 e
  obtain ⟨w', hw, rw'⟩ := RelO.some_of (v := v) (o := valueAt vs k) (by rw [← l]; exact rel.val k)
  exact ⟨dd.typeIs, wpAny_getItem_of (lkey_is hk ry) dd.mapOf hw ⟨v, H2, I2.tok _, rw', q2⟩⟩
theorem ps_tput (ho : PE X o td) (hi : PE X i ty) (hv : PE X value tv) (hs : swapsWith value (some (.Subscript o i pos')) pos.line X.env = pure false) :
    PS X (.Assign [.Subscript o i pos'] value pos) (sTPut X.prog X.w td ty tv) := by
  refine ⟨fun pins s σ H D I h => ?_⟩
  refine wpAny_Assign_Subscript (thn (hv.run pins s σ H _ I h) fun r s1 ⟨v, H1, I1, rv, q1⟩ => thn (ho.run pins s1 σ H1 _ I1 q1) fun u s2 ⟨x, H2, I2, rx, q2⟩ => thn (hi.run pins s2 σ H2 _ I2 q2) fun iv s3 ⟨y, H3, I3, ry, a, kvs, k, ex, e, hk, hl, q3⟩ => ?_) hs
  subst ex
  obtain rfl : u = Value.ref a := rx
  obtain ⟨z, hd, vs, rel, dd⟩ := tabO_get I3 e
  have hz : vs.length ≤ sizeLine := by
    rw [← rel.length]
    exact z
  have hl2 : (putK kvs k v).length ≤ sizeLine := Nat.le_trans (length_putK kvs k v) hl
  refine wpAny_setItem_pairs (hsz := hz) (lkey_is hk ry) dd fun h' dd' hs => ⟨σ, _, ?_, q3⟩
  have he : ∃ q, h'.get? a = some q := let ⟨q, _, _, hq, _⟩ := dd'; ⟨q, hq⟩
  exact d_write I3 (by rw [e]; exact True.intro) hs he (tabO_new hl2 hd (rel.put k rv) dd')
/-- {None: v} -/
def tTNew (P : Program) (w : World) (tv : TE) : TE := fun σ H Q => ∀ p, H p = none → tv σ (upd H p (TabO P w p [])) fun v H2 => H2 p = some (TabO P w p []) ∧ Q (.ref p) (upd H2 p (TabO P w p [(.none, v)]))
theorem pe_tnew {kn : Nat} {kp : Pos} (hv : PE X value tv) : PE X (.Dict [some (.Constant .none kn kp)] [value] pos) (tTNew X.prog X.w tv) := by
  refine ⟨fun pins s σ H Q I q => ?_⟩
  have hn := I.hok.fresh (Nat.le_refl s.heap.objs.size)
  have hdm : (s.heap.objs.size == sysModules) = false := beq_eq_false_iff_ne.mpr (Ne.symm (Nat.ne_of_lt I.big))
  have new : ObjOk X.prog X.w H (s.heap.push { cls := .type "dict", data := .dict #[] }) s.heap.objs.size (TabO X.prog X.w s.heap.objs.size []) := tabO_new (Nat.zero_le _) hdm .nil (Heap.DictOf.new s.heap)
  have I1 := I.laid (a := s.heap.objs.size) (o := TabO X.prog X.w s.heap.objs.size []) (h' := s.heap.push { cls := .type "dict", data := .dict #[] }) (t' := s.toks) (fun _ _ q => Heap.get?_push_of_some _ q) (Nat.le_refl _) new
  have pp : PPs X pos [some (.Constant .none kn kp)] [value] [(tC .non, tv)] := pps_cons pe_non hv pps_nil
  refine wpAny_Dict_walk (knd := leafKind X.prog X.w) rfl rfl (by simp) (by show 1 ≤ 15; decide) (thn (pp.run pins _ σ _ (fun ps H2 => match ps with
    | [(.non, v)] => H2 s.heap.objs.size = some (TabO X.prog X.w s.heap.objs.size []) ∧ Q (.ref s.heap.objs.size) (upd H2 s.heap.objs.size (TabO X.prog X.w s.heap.objs.size [(.none, v)]))
    | _ => False) I1 (q _ hn)) fun ws s2 ⟨ps, H2, I2, rel, q2⟩ => ?_)
  match ps, rel, q2 with
  | [(.non, v)], .cons (b := (b1, b2)) hb .nil, ⟨e, q2⟩ =>
    cases (show b1 = Value.none from hb.1)
    obtain ⟨z, hd, vs0, r0, dd⟩ := tabO_get I2 e
    cases r0
    refine ⟨[(.none, b2)], ⟨rfl, rfl, trivial⟩, dd, fun h' dd' hs => ⟨.ref s.heap.objs.size, _, ?_, rfl, q2⟩⟩
    have he : ∃ q, h'.get? s.heap.objs.size = some q := let ⟨q, _, _, hq, _⟩ := dd'; ⟨q, hq⟩
    exact d_write I2 (by rw [e]; exact True.intro) hs he (tabO_new (by show 1 ≤ sizeLine; decide) hd (.cons ⟨rfl, hb.2⟩ .nil) dd')
end
end Dr
namespace Dr
open PySem PySem.Spec PyProof.Rows L2
open SX (S S_len S_cat)
structure Md where
  nm : List Nat
  prs : List Pr
  ds : List PyData
  r : PyData
def Md.data (m : Md) : PyData := methD m.nm m.prs m.ds m.r
def rootV : Option (List Nat) → V
  | none => .non
  | some n => .str (S n)
def rootD : Option (List Nat) → PyData
  | none => .none
  | some n => .str (S n)
structure Kd where
  nm : List Nat
  root : Option (List Nat)
  own : List (List Nat × PyData)
  ms : List Md
def ownD (x : List Nat × PyData) : PyData := .tuple [.str (S x.1), x.2]
def Kd.data (k : Kd) : PyData := .tuple [.str (S k.nm), rootD k.root, .tuple (k.own.map ownD), .tuple (k.ms.map Md.data)]
/-- a drawn kind stands at t -/
structure KindAt (K : PySem.W.Frag) (H : Hp) (k : Kd) (t a m : Addr) (os ms : List V) : Prop where
  at_ : SqT K H t [.str (S k.nm), rootV k.root, .ref a, .ref m]
  ho : SqT K H a os
  do_ : DtAll K H os (k.own.map ownD)
  hm : SqT K H m ms
  dm : DtAll K H ms (k.ms.map Md.data)
theorem kind_at {K : PySem.W.Frag} {H : Hp} {y : V} {k : Kd} (h : Dt K H y k.data) : ∃ t a m os ms, y = .ref t ∧ KindAt K H k t a m os ms := by
  unfold Kd.data at h
  cases h with
  | tup hs hd =>
    cases hd with
    | cons h1 hd =>
      cases h1
      cases hd with
      | @cons v2 _ _ _ h2 hd =>
        have e2 : v2 = rootV k.root := by
          cases e : k.root <;> rw [e] at h2 <;> cases h2 <;> rfl
        subst e2
        cases hd with
        | cons h3 hd =>
          cases h3 with
          | tup hs3 hd3 =>
            cases hd with
            | cons h4 hd =>
              cases h4 with
              | tup hs4 hd4 =>
                cases hd
                exact ⟨_, _, _, _, _, rfl, Same.seqT tu_sub hs, Same.seqT tu_sub hs3, hd3, Same.seqT tu_sub hs4, hd4⟩
theorem rootV_dt {K : PySem.W.Frag} {H : Hp} : ∀ r : Option (List Nat), Dt K H (rootV r) (rootD r)
  | none => .non
  | some _ => .str _
/-- a kind just laid -/
theorem kind_dt {K : PySem.W.Frag} {H : Hp} {k : Kd} {t a m : Addr} {os ms : List V} (ht : H t = some (.tup [.str (S k.nm), rootV k.root, .ref a, .ref m])) (ha : H a = some (.tup os)) (do_ : DtAll K H os (k.own.map ownD)) (hm : H m = some (.tup ms)) (dm : DtAll K H ms (k.ms.map Md.data)) : Dt K H (.ref t) k.data :=
  Dt.tup ht (.cons (.str _) (.cons (rootV_dt _) (.cons (Dt.tup ha do_) (.cons (Dt.tup hm dm) .nil))))
def keyR : Option (List Nat) → Leaf
  | none => .none
  | some n => .text (S n)
theorem keyR_ok : ∀ r : Option (List Nat), LKey (rootV r) (keyR r)
  | none => .non
  | some _ => .str _
/-- a kind and its line, the newest first -/
def chn : List (V × Kd) → Option (List Nat) → List (V × Kd)
  | _, none => []
  | [], some _ => []
  | z :: r, some n => if z.2.nm = n then z :: chn r z.2.root else chn r (some n)
theorem chn_none (zs : List (V × Kd)) : chn zs none = [] := by cases zs <;> rfl
theorem chn_sub : ∀ (zs : List (V × Kd)) (x : Option (List Nat)), (chn zs x).Sublist zs
  | [], none => .refl _
  | [], some _ => .refl _
  | z :: r, none => List.nil_sublist _
  | z :: r, some n => by
    show (if z.2.nm = n then z :: chn r z.2.root else chn r (some n)).Sublist _
    split
    · exact (chn_sub r _).cons₂ z
    · exact (chn_sub r _).cons z
/-- none, or a name of these -/
def VldR (zs : List (V × Kd)) : Option (List Nat) → Prop
  | none => True
  | some n => ∃ z ∈ zs, z.2.nm = n
/-- every base is an earlier kind -/
def WfK (zs : List (V × Kd)) : Prop := ∀ i z, zs[i]? = some z → VldR (zs.take i) z.2.root
structure KdsAt (K : PySem.W.Frag) (H : Hp) (kl : Addr) (zs : List (V × Kd)) : Prop where
  at_ : SqL K H kl (zs.map (·.1))
  dt : ∀ z ∈ zs, Dt K H z.1 z.2.data
  wf : WfK zs
  len : zs.length ≤ 10
theorem KdsAt.same {K : PySem.W.Frag} {H H' : Hp} {kl : Addr} {zs : List (V × Kd)} (h : KdsAt K H kl zs) (s : Same H H') : KdsAt K H' kl zs := ⟨Same.seq s h.at_, fun z hz => (h.dt z hz).ext (TupE.same s), h.wf, h.len⟩
theorem zs_get {zs : List (V × Kd)} {i : Nat} {y : V} (h : (zs.map (·.1))[i]? = some y) : ∃ k, zs[i]? = some (y, k) := by
  rw [List.getElem?_map] at h
  cases hz : zs[i]? with
  | none =>
    rw [hz] at h
    cases h
  | some z =>
    rw [hz] at h
    obtain rfl := Option.some.inj h
    exact ⟨z.2, rfl⟩
abbrev sChain : Stmt := topS 46
abbrev nChain : List Str := ["_law_kinds", "_law_name", "_law_table", "_law_kind"]
theorem scChain : FnScope nChain ["_law_kinds", "_law_name"] (defScope sChain) := ⟨rfl, rfl, rfl, by decide +kernel, rfl, by decide +kernel, by decide +kernel⟩
section
variable {P : Program} {w : World} {K : PySem.W.Frag} {mg : Str → Option Value} {base : Heap}
def spChain (K : PySem.W.Frag) : Sp := fun vs H Q _ => ∃ (kl : Addr) (zs : List (V × Kd)) (n : List Nat), vs = [.ref kl, .str (S n)] ∧ KdsAt K H kl zs ∧ VldR zs (some n) ∧ ∀ H' c, Same H H' → H c = none → H' c = some (.lst ((chn zs.reverse (some n)).map (·.1))) → Q (.ref c) H'
theorem ok_chain {f : Addr} {fd : FuncData} (F : Fun K "_law_chain" "_law_chain" sChain f fd) : FnOk P w K mg base CX0 1 f fd ["_law_kinds", "_law_name"] (spChain K) := by
  refine F.ok scChain (fun vs H Q E h => ?_) (fun cdv A outer s H vs Q E hr h => ?_)
  · obtain ⟨kl, zs, n, rfl, _⟩ := h
    rfl
  · obtain ⟨kl, zs, n, rfl, hk, hv, q⟩ := h
    refine ⟨_, pss_cons (ps_set (i := 2) scChain.nd rfl (.inl rfl) (pe_tnew (pe_lst pa_nil)))
      (pss_cons (ps_for PassesOwn.never rfl (pi_list (pv 0)) (pg_name (i := 3) scChain.nd rfl (.inl rfl)) (pss_one (ps_tput (pv 2) (pe_ix (show IxR _ (rIxT K) from ix_tup) (pv 3) pe_int (fun _ _ => rfl)) (pe_op op_cat (pe_lst (pa_cons (pv 3) pa_nil)) (pe_tget (pv 2) (pe_ix (show IxR _ (rIxT K) from ix_tup) (pv 3) pe_int (fun _ _ => rfl)) (fun _ _ => rfl))) rfl)))
      (pss_one (ps_ret (pe_tget (pv 2) (pv 1) (fun _ _ => rfl))))), ?_⟩
    refine fun D nD => ⟨by show 0 ≤ sizeLine; decide, fun a0 na0 => ?_⟩
    have a0D : a0 ≠ D := fun e => by
      rw [e, upd_same] at na0
      cases na0
    have na : H a0 = none := by
      rw [upd_ne a0D] at na0
      exact na0
    refine ⟨by rw [upd_ne a0D.symm]; exact upd_same, ?_⟩
    have s0 : Same H (upd (upd (upd H D (TabO P w D [])) a0 (.lst [])) D (TabO P w D [(.none, .ref a0)])) := fun b o e => by
      have h1 := ne_of_none e nD
      have h2 := ne_of_none e na
      rw [upd_ne h1, upd_ne h2, upd_ne h1]
      exact e
    refine ⟨_, rfl, kl, rfl, ⟨_, Same.seq s0 hk.at_⟩, for_it (walk_list (K := K) (a := kl) (xs := zs.map (·.1))) (fun i σ H' => ∃ y kvs, σ = [some (.ref kl), some (.str (S n)), some (.ref D), y] ∧ Same H H' ∧ H' D = some (TabO P w D kvs) ∧ kvs.length ≤ i + 1 ∧ ∀ x, VldR (zs.take i) x → ∃ a, valV kvs (keyR x) = some (.ref a) ∧ H a = none ∧ H' a = some (.lst ((chn (zs.take i).reverse x).map (·.1)))) ⟨none, _, rfl, s0, upd_same, Nat.le_refl _, fun x hx => ?_⟩ (fun i σ H' _ h => ?_) ?_ ?_⟩
    · cases x with
      | none =>
        refine ⟨a0, rfl, na, ?_⟩
        rw [upd_ne a0D, upd_same, chn_none]
        rfl
      | some m =>
        obtain ⟨z, hz, _⟩ := hx
        rw [List.take_zero] at hz
        cases hz
    · obtain ⟨_, _, _, sm, _⟩ := h
      exact Same.seq sm hk.at_
    · rintro i y σ H3 H4 hi ⟨y0, kvs, rfl, sm, hD, hkl, hall⟩ ⟨rfl, e1⟩
      obtain ⟨k, hz⟩ := zs_get e1
      obtain ⟨t, ao, am, os, ms, rfl, hka⟩ := kind_at ((hk.dt _ (List.mem_of_getElem? hz)).ext (TupE.same sm))
      have hka : KindAt K H4 k t ao am os ms := hka
      obtain ⟨b, hb1, _, hb2⟩ := hall k.root (hk.wf i _ hz)
      have hzl := hk.len
      rw [List.length_map] at hi
      refine ⟨_, rfl, by show 1 ≤ sizeLine; decide, fun c nc => ?_⟩
      have sc := same_upd (o := .lst [V.ref t]) nc
      refine ⟨_, rfl, _, rfl, t, _, 1, rootV k.root, rfl, rfl, Same.seqT sc hka.at_, atI_nat (j := 1) rfl, D, kvs, keyR k.root, .ref b, rfl, sc _ _ hD, keyR_ok _, hb1, c, b, _, _, rfl, rfl, upd_same, sc _ _ hb2, ?_, fun r nr => ?_⟩
      · have := (chn_sub (zs.take i).reverse k.root).length_le
        rw [List.length_reverse, List.length_take] at this
        show 1 + _ ≤ sizeLine
        rw [List.length_map]
        exact Nat.le_of_lt (small1000 (by omega))
      have sr := same_upd (o := .lst ([V.ref t] ++ (chn (zs.take i).reverse k.root).map (·.1))) nr
      have s2 := sc.trans sr
      refine ⟨_, rfl, _, rfl, t, _, 0, .str (S k.nm), rfl, rfl, Same.seqT s2 hka.at_, atI_nat (j := 0) rfl, D, kvs, .text (S k.nm), rfl, s2 _ _ hD, .str _, small1000 (by omega), ?_⟩
      have nDH : H D = none := nD
      have rD : r ≠ D := (ne_of_none (sc _ _ hD) nr).symm
      refine ⟨_, _, rfl, fun b o e => ?_, upd_same, ?_, fun x hx => ?_⟩
      · rw [upd_ne (ne_of_none e nDH)]
        exact s2 _ _ (sm _ _ e)
      · have := length_putK kvs (.text (S k.nm)) (.ref r)
        omega
      · rw [List.take_add_one, hz] at hx ⊢
        show ∃ a, valV (putK kvs (.text (S k.nm)) (.ref r)) (keyR x) = some (.ref a) ∧ H a = none ∧ _ = some (HO.lst ((chn (zs.take i ++ [(V.ref t, k)]).reverse x).map (·.1)))
        rw [List.reverse_append]
        show ∃ a, valV (putK kvs (.text (S k.nm)) (.ref r)) (keyR x) = some (.ref a) ∧ H a = none ∧ _ = some (HO.lst ((chn ((V.ref t, k) :: (zs.take i).reverse) x).map (·.1)))
        rw [valV_put]
        have old : ∀ HF : Hp, (∀ a o, a ≠ D → H4 a = some o → HF a = some o) → keyR x ≠ .text (S k.nm) → VldR (zs.take i) x → (chn ((V.ref t, k) :: (zs.take i).reverse) x) = chn (zs.take i).reverse x → ∃ a, (if keyR x = .text (S k.nm) then some (V.ref r) else valV kvs (keyR x)) = some (.ref a) ∧ H a = none ∧ HF a = some (HO.lst ((chn ((V.ref t, k) :: (zs.take i).reverse) x).map (·.1))) := fun HF hF h1 h2 h3 => by
          obtain ⟨a, ha, hn, hb⟩ := hall x h2
          rw [if_neg h1, h3]
          exact ⟨a, ha, hn, hF _ _ (fun e => by rw [e, hD] at hb; cases hb) hb⟩
        have keep : ∀ a o, a ≠ D → H4 a = some o → _ := fun a o ha e => (upd_ne (o := TabO P w D (putK kvs (.text (S k.nm)) (.ref r))) ha).trans (s2 a o e)
        cases x with
        | none => exact old _ keep (fun e => nomatch e) trivial (by rw [chn_none, chn_none])
        | some m =>
          by_cases hm : k.nm = m
          · refine ⟨r, if_pos (by rw [← hm]; rfl), (sm.trans sc).free nr, ?_⟩
            rw [upd_ne rD, upd_same]
            show some (HO.lst (V.ref t :: _)) = some (HO.lst ((if k.nm = m then (V.ref t, k) :: chn _ k.root else _).map (·.1)))
            rw [if_pos hm]
            rfl
          · refine old _ keep (fun e => hm (SX.S_inj (Leaf.text.inj e)).symm) ?_ (if_neg hm)
            obtain ⟨z, hz1, hz2⟩ := hx
            rcases List.mem_append.mp hz1 with h | h
            · exact ⟨z, h, hz2⟩
            · rw [List.mem_singleton.mp h] at hz2
              exact absurd hz2 hm
    · rintro σ H3 ⟨y0, kvs, rfl, sm, hD, hkl, hall⟩
      rw [List.length_map, List.take_length] at hall
      obtain ⟨a, h1, hn, h2⟩ := hall _ hv
      exact ⟨_, rfl, _, rfl, D, kvs, keyR (some n), .ref a, rfl, hD, .str _, h1, q _ _ sm hn h2⟩
end
end Dr
namespace Dr
open PySem PySem.Spec PyProof.Rows L2
open SX (S S_len S_cat)
/-- the names of the own values of some kinds -/
def ownNs (cs : List (V × Kd)) : NmL := cs.flatMap fun z => z.2.own.map (·.1)
theorem ownNs_len : ∀ {cs : List (V × Kd)}, (∀ z ∈ cs, z.2.own.length ≤ 3) → (ownNs cs).length ≤ 3 * cs.length
  | [], _ => Nat.zero_le _
  | z :: r, h => by
    have ih := ownNs_len (cs := r) fun y hy => h y (List.mem_cons_of_mem _ hy)
    have h1 := h z List.mem_cons_self
    unfold ownNs at ih ⊢
    rw [List.flatMap_cons, List.length_append, List.length_map, List.length_cons]
    omega
theorem ownNs_mem {cs : List (V × Kd)} {x : List Nat} : x ∈ ownNs cs ↔ ∃ z ∈ cs, ∃ o ∈ z.2.own, o.1 = x := by
  unfold ownNs
  rw [List.mem_flatMap]
  simp only [List.mem_map]
theorem strs_S {cs : NmL} : ∀ {ys : List Str}, (∀ y ∈ ys, y ∈ cs.map S) → ∃ ss : NmL, ys = ss.map S
  | [], _ => ⟨[], rfl⟩
  | y :: r, h => by
    obtain ⟨ss, e⟩ := strs_S (cs := cs) (ys := r) fun z hz => h z (List.mem_cons_of_mem _ hz)
    obtain ⟨c, _, hc⟩ := List.mem_map.mp (h y List.mem_cons_self)
    exact ⟨c :: ss, by rw [List.map_cons, e, hc]⟩
theorem S_mem {c : List Nat} {cs : NmL} : S c ∈ cs.map S ↔ c ∈ cs := ⟨fun h => by
  obtain ⟨d, hd, e⟩ := List.mem_map.mp h
  exact SX.S_inj e ▸ hd, fun h => List.mem_map.mpr ⟨c, h, rfl⟩⟩
/-- an own value stands at t -/
theorem own_at {K : PySem.W.Frag} {H : Hp} {y : V} {x : List Nat × PyData} (h : Dt K H y (ownD x)) : ∃ t v, y = .ref t ∧ SqT K H t [.str (S x.1), v] ∧ Dt K H v x.2 := by
  unfold ownD at h
  cases h with
  | tup hs hd =>
    cases hd with
    | cons h1 hd =>
      cases h1
      cases hd with
      | cons h2 hd =>
        cases hd
        exact ⟨_, _, rfl, Same.seqT tu_sub hs, h2⟩
abbrev sSeen : Stmt := topS 47
abbrev nSeen : List Str := ["_law_kinds", "_law_name", "_law_found", "_law_kind", "_law_row_here"]
theorem scSeen : FnScope nSeen ["_law_kinds", "_law_name"] (defScope sSeen) := ⟨rfl, rfl, rfl, by decide +kernel, rfl, by decide +kernel, by decide +kernel⟩
structure BltP (mg : Str → Option Value) : Prop where
  tup : mg "tuple" = none
  lis : mg "list" = none
  ran : mg "range" = none
  len : mg "len" = none
  srt : mg "sorted" = none
  set : mg "set" = none
section
variable {P : Program} {w : World} {K : PySem.W.Frag} {mg : Str → Option Value} {base : Heap}
def spSeen (K : PySem.W.Frag) : Sp := fun vs H Q _ => ∃ (kl : Addr) (zs : List (V × Kd)) (n : List Nat), vs = [.ref kl, .str (S n)] ∧ KdsAt K H kl zs ∧ VldR zs (some n) ∧ (∀ z ∈ zs, z.2.own.length ≤ 3) ∧
  ∀ H' c ss, Same H H' → H c = none → H' c = some (.lst (txts ss)) → ss.Nodup → (∀ x, x ∈ ss ↔ x ∈ ownNs (chn zs.reverse (some n))) → sortedS (ss.map S) = true → Q (.ref c) H'
theorem ok_seen {f fC : Addr} {fd fdC : FuncData} (F : Fun K "_law_seen" "_law_seen" sSeen f fd) (B : BltP mg)
    (GC : FnOk P w K mg base CX0 1 fC fdC ["_law_kinds", "_law_name"] (spChain K)) (mC : mg "_law_chain" = some (.ref fC)) (kC : PySem.W.keepIn K (.ref fC) = true) (bC : Binds K fdC ["_law_kinds", "_law_name"] []) : FnOk P w K mg base CX0 2 f fd ["_law_kinds", "_law_name"] (spSeen K) := by
  refine F.ok scSeen (fun vs H Q E h => ?_) (fun cdv A outer s H vs Q E hr h => ?_)
  · obtain ⟨kl, zs, n, rfl, _⟩ := h
    rfl
  · obtain ⟨kl, zs, n, rfl, hk, hv, how, q⟩ := h
    refine ⟨_, pss_cons (ps_set (i := 2) scSeen.nd rfl (.inl rfl) (pe_lst pa_nil))
      (pss_cons (ps_for PassesOwn.never rfl (pi_list (pe_call GC hr (by rfl) mC kC bC .nil pass0 (pa_cons (pv 0) (pa_cons (pv 1) pa_nil)))) (pg_name (i := 3) scSeen.nd rfl (.inl rfl)) (pss_one (ps_expr (pe_bm PySem.F.plainAttrs_list PySem.F.slot_list_extend PySem.F.type_list_extend mt_extend (pv 2) (pa_cons
          (pe_lc (own := [("_law_row_here", 4)]) (g := gName 4) (tt := tYes) rfl scSeen.nd (pi_tup (pe_ix (show IxR _ (rIxT K) from ix_tup) (pv 3) pe_int (fun _ _ => rfl))) (blkOk_by (N := nSeen) (sc := defScope sSeen) (by decide +kernel)) (fun _ _ _ _ _ => pg_name (i := 4) scSeen.nd rfl (Or.inl rfl)) (fun _ _ _ _ _ => pts_nil) (fun _ _ _ _ _ => pe_ix (show IxR _ (rIxT K) from ix_tup) (pv 4) pe_int (fun _ _ => rfl))) pa_nil)))))
      (pss_one (ps_ret (pe_callB (show CallR _ _ (rSortTS P w) from cr_sortTS rfl) (by rfl) B.srt (by decide +kernel) (pa_cons (pe_callTy (show CallR _ _ (rSetS K P w) from cr_setS rfl) (by rfl) B.set (by decide +kernel) (pa_cons (pv 2) pa_nil)) pa_nil))))), ?_⟩
    refine ⟨by show 0 ≤ sizeLine; decide, fun D nD => ?_⟩
    have s0 := same_upd (o := .lst []) nD
    refine ⟨_, rfl, _, rfl, kl, zs, n, rfl, hk.same s0, hv, fun H1 c s1 nc hc => ?_⟩
    have cD : c ≠ D := fun e => by
      rw [e, upd_same] at nc
      cases nc
    have nc0 : H c = none := by
      rw [upd_ne cD] at nc
      exact nc
    generalize hcs : chn zs.reverse (some n) = cs at hc q
    have hsub : ∀ z ∈ cs, z ∈ zs := fun z hz => List.mem_reverse.mp ((hcs ▸ chn_sub zs.reverse (some n)).subset hz)
    have hcl : cs.length ≤ 10 := by
      have h1 := (hcs ▸ chn_sub zs.reverse (some n) : cs.Sublist zs.reverse).length_le
      rw [List.length_reverse] at h1
      have := hk.len
      omega
    have hol : ∀ i, (ownNs (cs.take i)).length ≤ 30 := fun i => by
      have h1 := ownNs_len (cs := cs.take i) fun z hz => how z (hsub z (List.mem_of_mem_take hz))
      rw [List.length_take] at h1
      omega
    have s01 := s0.trans s1
    refine ⟨c, rfl, ⟨_, SqL.of hc⟩, for_it (walk_list (K := K) (a := c) (xs := cs.map (·.1))) (fun i σ H' => ∃ y, σ = [some (.ref kl), some (.str (S n)), some (.ref D), y, none] ∧ Same H H' ∧ H' c = some (.lst (cs.map (·.1))) ∧ H' D = some (.lst (txts (ownNs (cs.take i))))) ⟨none, rfl, s01, hc, s1 _ _ upd_same⟩ (fun i σ H' _ h => ?_) ?_ ?_⟩
    · obtain ⟨_, _, _, h, _⟩ := h
      exact SqL.of h
    · rintro i y σ H3 H4 hi ⟨y0, rfl, sm, hc3, hD⟩ ⟨rfl, e1⟩
      obtain ⟨k, hz⟩ := zs_get e1
      obtain ⟨t, ao, am, os, ms, rfl, hka⟩ := kind_at ((hk.dt _ (hsub _ (List.mem_of_getElem? hz))).ext (TupE.same sm))
      have hka : KindAt K H4 k t ao am os ms := hka
      have hko : k.own.length ≤ 3 := how _ (hsub _ (List.mem_of_getElem? hz))
      have hosl : os.length = k.own.length := by rw [dpAll_len hka.do_, List.length_map]
      refine ⟨_, rfl, .inl ⟨rfl, _, SqL.of hD⟩, _, rfl, t, _, 2, .ref ao, rfl, rfl, hka.at_, atI_nat (j := 2) rfl, ao, rfl, ⟨_, hka.ho⟩, fun B nB => ?_⟩
      refine lc_it (walk_tup (K := K) (a := ao) (xs := os)) (fun j H5 => Same H4 H5 ∧ H5 B = some (.lst (txts ((k.own.take j).map (·.1))))) ⟨same_upd nB, upd_same⟩ (fun j H5 _ h => Same.seqT h.1 hka.ho) ?_ ?_
      · rintro j y H5 H6 hj ⟨s5, hB⟩ ⟨rfl, e2⟩
        obtain ⟨d0, hd0, hdy⟩ := dpAll_get (hka.do_.ext (TupE.same s5)) e2
        rw [List.getElem?_map] at hd0
        cases hx : k.own[j]? with
        | none =>
          rw [hx] at hd0
          cases hd0
        | some x =>
          rw [hx] at hd0
          obtain rfl := Option.some.inj hd0
          obtain ⟨tx, v, rfl, htx, _⟩ := own_at hdy
          refine ⟨rfl, ?_⟩
          unfold tYes
          refine iteT ⟨_, rfl, tx, _, 0, .str (S x.1), rfl, rfl, htx, atI_nat (j := 0) rfl, _, hB, ?_, same_grow s5 nB, ?_⟩
          · rw [txts_len, List.length_map, List.length_take]
            exact small1000 (by omega)
          · rw [upd_same, List.take_add_one, hx, List.map_append, ← txts_app]
            rfl
      · rintro H5 ⟨s5, hB⟩
        rw [hosl, List.take_length] at hB
        have hD5 := s5 _ _ hD
        have DB : D ≠ B := ne_of_none hD nB
        refine ⟨D, B, _, _, rfl, rfl, hD5, hB, ?_, _, rfl, fun b o e => ?_, ?_, ?_⟩
        · rw [txts_len, txts_len, List.length_map]
          have := hol i
          exact Nat.le_of_lt (small1000 (by omega))
        · rw [upd_ne (ne_of_none e nD)]
          exact s5 _ _ (sm _ _ e)
        · rw [upd_ne cD]
          exact s5 _ _ hc3
        · rw [upd_same, txts_app, List.take_add_one, hz]
          unfold ownNs
          rw [List.flatMap_append]
          show _ = some (HO.lst (txts (_ ++ (k.own.map (·.1) ++ []))))
          rw [List.append_nil]
    · rintro σ H3 ⟨y0, rfl, sm, hc3, hD⟩
      rw [List.length_map, List.take_length] at hD
      have hl := hol cs.length
      rw [List.take_length] at hl
      rw [txts_S] at hD
      refine ⟨_, rfl, D, _, rfl, SqL.of hD, by rw [List.length_map]; omega, fun a na => ⟨a, _, rfl, upd_same, fun ys r hnd hm hs hyl nr => ?_⟩⟩
      obtain ⟨ss, rfl⟩ := strs_S (cs := ownNs cs) fun y hy => (hm y).mp hy
      have s4 := (sm.trans (same_upd na)).trans (same_upd (o := .lst ((ss.map S).map V.str)) nr)
      refine q _ r ss s4 ((sm.trans (same_upd na)).free nr) (by rw [upd_same, txts_S]) ?_ (fun x => ?_) hs
      · exact (List.pairwise_map.mp hnd).imp fun n e => n (by rw [e])
      · exact S_mem.symm.trans ((hm (S x)).trans S_mem)
end
end Dr
namespace Dr
open PySem PySem.Spec PyProof.Rows L2
open SX (S S_len S_cat)
abbrev sAll : Stmt := topS 48
abbrev nAll : List Str := ["_law_kinds", "_law_found", "_law_kind", "_law_value"]
theorem scAll : FnScope nAll ["_law_kinds"] (defScope sAll) := ⟨rfl, rfl, rfl, by decide +kernel, rfl, by decide +kernel, by decide +kernel⟩
/-- a pair (kind, class value) that is seen -/
def SeenP (zs : List (V × Kd)) (x : Str × List Nat) : Prop := ∃ z ∈ zs, x.1 = S z.2.nm ∧ x.2 ∈ ownNs (chn zs.reverse (some z.2.nm))
theorem sub_len : ∀ {ss vn : NmL}, ss.Nodup → (∀ x ∈ ss, x ∈ vn) → ss.length ≤ vn.length
  | [], _, _, _ => Nat.zero_le _
  | x :: r, vn, hn, h => by
    obtain ⟨h1, h2⟩ := List.nodup_cons.mp hn
    have hx : x ∈ vn := h x List.mem_cons_self
    have ih := sub_len (ss := r) (vn := vn.erase x) h2 fun y hy => (List.mem_erase_of_ne fun (e : y = x) => h1 (e ▸ hy)).2 (h y (List.mem_cons_of_mem _ hy))
    have hp : 0 < vn.length := List.length_pos_of_mem hx
    rw [List.length_erase_of_mem hx] at ih
    show r.length + 1 ≤ vn.length
    omega
section
variable {P : Program} {w : World} {K : PySem.W.Frag} {mg : Str → Option Value} {base : Heap}
def spAll (K : PySem.W.Frag) : Sp := fun vs H Q _ => ∃ (kl : Addr) (zs : List (V × Kd)) (vn : NmL), vs = [.ref kl] ∧ KdsAt K H kl zs ∧ (∀ z ∈ zs, z.2.own.length ≤ 3) ∧ vn.length ≤ 3 ∧ (∀ z ∈ zs, ∀ o ∈ z.2.own, o.1 ∈ vn) ∧
  ∀ (H' : Hp) (c : Addr) (os : List V) (ows : List (Str × List Nat)), Same H H' → H c = none → H' c = some (.lst os) → DtAll K H' os (ows.map owD) → (∀ x ∈ ows, SeenP zs x) → ows.length ≤ vn.length * zs.length → Q (.ref c) H'
theorem ok_all {f fS : Addr} {fd fdS : FuncData} (F : Fun K "_law_all_seen" "_law_all_seen" sAll f fd)
    (GS : FnOk P w K mg base CX0 2 fS fdS ["_law_kinds", "_law_name"] (spSeen K)) (mS : mg "_law_seen" = some (.ref fS)) (kS : PySem.W.keepIn K (.ref fS) = true) (bS : Binds K fdS ["_law_kinds", "_law_name"] []) : FnOk P w K mg base CX0 3 f fd ["_law_kinds"] (spAll K) := by
  refine F.ok scAll (fun vs H Q E h => ?_) (fun cdv A outer s H vs Q E hr h => ?_)
  · obtain ⟨kl, zs, vn, rfl, _⟩ := h
    rfl
  · obtain ⟨kl, zs, vn, rfl, hk, how, hvn, hov, q⟩ := h
    refine ⟨_, pss_cons (ps_set (i := 1) scAll.nd rfl (.inl rfl) (pe_lst pa_nil))
      (pss_cons (ps_for PassesOwn.never rfl (pi_list (pv 0)) (pg_name (i := 2) scAll.nd rfl (.inr rfl)) (pss_one (ps_expr (pe_bm PySem.F.plainAttrs_list PySem.F.slot_list_extend PySem.F.type_list_extend mt_extend (pv 1) (pa_cons
          (pe_lc (own := [("_law_value", 3)]) (g := gName 3) (tt := tYes) rfl scAll.nd (pi_list (pe_call GS hr (by rfl) mS kS bS .nil pass0 (pa_cons (pv 0) (pa_cons (pe_ix (show IxR _ (rIxT K) from ix_tup) (pv 2) pe_int (fun _ _ => rfl)) pa_nil)))) (blkOk_by (N := nAll) (sc := defScope sAll) (by decide +kernel)) (fun _ _ _ _ _ => pg_name (i := 3) scAll.nd rfl (Or.inl rfl)) (fun _ _ _ _ _ => pts_nil)
            (fun _ _ _ _ _ => pe_tup (pa_cons (pe_ix (show IxR _ (rIxT K) from ix_tup) (pv 2) pe_int (fun _ _ => rfl)) (pa_cons (pv 3) pa_nil)))) pa_nil)))))
      (pss_one (ps_ret (pv 1)))), ?_⟩
    refine ⟨by show 0 ≤ sizeLine; decide, fun D nD => ?_⟩
    have s0 := same_upd (o := .lst []) nD
    have hzl := hk.len
    refine ⟨_, rfl, kl, rfl, ⟨_, Same.seq s0 hk.at_⟩, for_it (walk_list (K := K) (a := kl) (xs := zs.map (·.1))) (fun i σ H' => ∃ y os ows, σ = [some (.ref kl), some (.ref D), y, none] ∧ Same H H' ∧ H' D = some (.lst os) ∧ DtAll K H' os (ows.map owD) ∧ (∀ x ∈ ows, SeenP zs x) ∧ ows.length ≤ vn.length * i) ⟨none, [], [], rfl, s0, upd_same, .nil, fun x hx => (nomatch hx), Nat.zero_le _⟩ (fun i σ H' _ h => ?_) ?_ ?_⟩
    · obtain ⟨_, _, _, _, sm, _⟩ := h
      exact Same.seq sm hk.at_
    · rintro i y σ H3 H4 hi ⟨y0, os, ows, rfl, sm, hD, hos, hse, hl⟩ ⟨rfl, e1⟩
      rw [List.length_map] at hi
      obtain ⟨k, hz⟩ := zs_get e1
      have hzm := List.mem_of_getElem? hz
      obtain ⟨t, ao, am, os', ms, rfl, hka⟩ := kind_at ((hk.dt _ hzm).ext (TupE.same sm))
      have hka : KindAt K H4 k t ao am os' ms := hka
      have hosl : os.length = ows.length := by rw [dpAll_len hos, List.length_map]
      refine ⟨_, rfl, .inl ⟨rfl, _, SqL.of hD⟩, _, rfl, _, rfl, t, _, 0, .str (S k.nm), rfl, rfl, hka.at_, atI_nat (j := 0) rfl, kl, zs, k.nm, rfl, hk.same sm, ⟨_, hzm, rfl⟩, how, fun H5 c ss s5 nc hc hnd hss _ => ?_⟩
      have hs4 : ss.length ≤ vn.length := sub_len hnd fun x hx => by
        obtain ⟨z, hz1, o, ho1, rfl⟩ := ownNs_mem.mp ((hss x).mp hx)
        exact hov z (List.mem_reverse.mp ((chn_sub zs.reverse (some k.nm)).subset hz1)) o ho1
      have hmul : vn.length * i ≤ 27 := Nat.le_trans (Nat.mul_le_mul hvn (by omega : i ≤ 9)) (by decide)
      refine ⟨c, rfl, ⟨_, SqL.of hc⟩, fun B nB => ?_⟩
      have Bc : c ≠ B := ne_of_none hc nB
      refine lc_it (walk_list (K := K) (a := c) (xs := txts ss)) (fun j H6 => Same H5 H6 ∧ ∃ ps, H6 B = some (.lst ps) ∧ DtAll K H6 ps (((ss.take j).map fun v => (S k.nm, v)).map owD)) ⟨same_upd nB, [], upd_same, .nil⟩ (fun j H6 _ h => SqL.of (h.1 _ _ hc)) ?_ ?_
      · rintro j y H6 H7 hj ⟨s6, ps, hB, hps⟩ ⟨rfl, e2⟩
        obtain ⟨v, hv, rfl⟩ := txts_get e2
        have hpl : ps.length ≤ j := by
          rw [dpAll_len hps, List.length_map, List.length_map, List.length_take]
          exact Nat.min_le_left _ _
        rw [txts_len] at hj
        refine ⟨rfl, ?_⟩
        unfold tYes
        refine iteT ⟨_, rfl, t, _, 0, .str (S k.nm), rfl, rfl, Same.seqT (s5.trans s6) hka.at_, atI_nat (j := 0) rfl, _, rfl, two_le, fun r nr => ?_⟩
        have sr := same_upd (o := .tup [.str (S k.nm), .str (S v)]) nr
        refine ⟨_, sr _ _ hB, small1000 (by omega), same_grow (s6.trans sr) nB, ps ++ [.ref r], upd_same, ?_⟩
        rw [List.take_add_one, hv, List.map_append, List.map_append]
        refine DtAll.ext (dpAll_app (hps.ext (TupE.same sr)) (.cons ?_ .nil)) (TupE.grow (sr _ _ hB))
        exact Dt.tup upd_same (.cons (.str _) (.cons (.str _) .nil))
      · rintro H6 ⟨s6, ps, hB, hps⟩
        rw [txts_len, List.take_length] at hps
        have s56 := s5.trans s6
        have hD6 := s56 _ _ hD
        have hpl : ps.length = ss.length := by rw [dpAll_len hps, List.length_map, List.length_map]
        refine ⟨D, B, _, _, rfl, rfl, hD6, hB, ?_, _, _, ows ++ ss.map fun v => (S k.nm, v), rfl, fun b o e => ?_, upd_same, ?_, fun x hx => ?_, ?_⟩
        · exact Nat.le_of_lt (small1000 (by omega))
        · rw [upd_ne (ne_of_none e nD)]
          exact s56 _ _ (sm _ _ e)
        · rw [List.map_append]
          exact DtAll.ext (dpAll_app (hos.ext (TupE.same s56)) hps) (TupE.grow hD6)
        · rcases List.mem_append.mp hx with h | h
          · exact hse x h
          · obtain ⟨v, hv, rfl⟩ := List.mem_map.mp h
            exact ⟨_, hzm, rfl, (hss v).mp hv⟩
        · rw [List.length_append, List.length_map, Nat.mul_succ]
          omega
    · rintro σ H3 ⟨y0, os, ows, rfl, sm, hD, hos, hse, hl⟩
      rw [List.length_map] at hl
      exact ⟨_, rfl, q _ D os ows sm nD hD hos hse hl⟩
end
end Dr
namespace Dr
open PySem PySem.Spec PyProof.Rows L2
open SX (S S_len S_cat)
/-- a list and the empty list -/
def rNeE (K : PySem.W.Frag) : R2 := fun x y H Q => ∃ a b xs, x = .ref a ∧ y = .ref b ∧ SqL K H a xs ∧ SqL K H b [] ∧ Q (.bl (!decide (xs = []))) H
theorem op_neE {X : Cx} (hu : X.A.units + 64 < cLine) : OpR X (compareOp .NotEq) (rNeE X.K) := by
  intro pins s σ H x y v u Q I rx ry h
  obtain ⟨a, b, xs, rfl, rfl, ha, hb, q⟩ := h
  cases (show v = Value.ref a from rx)
  cases (show u = Value.ref b from ry)
  obtain ⟨us, r1, p1, _⟩ := I.list ha
  obtain ⟨ws, r2, p2, _⟩ := I.list hb
  have l2 : ws.toArray.size = 0 := by
    rw [List.size_toArray, ← r2.length]
    rfl
  by_cases e : xs = []
  · subst e
    have l1 : us.toArray.size = 0 := by
      rw [List.size_toArray, ← r1.length]
      rfl
    refine SeqAt.RcNeAt.lists (e := fun _ => true) p1.isList p2.isList (by rw [l1, l2]) (by omega) (fun j h1 h2 => ?_) X.prog X.w _ _ ?_
    · rw [l1] at h1
      exact absurd h1 (Nat.not_lt_zero j)
    · rw [l1]
      exact ⟨.bl _, H, I, rfl, q⟩
  · refine SeqAt.RcNeAt.lists_lengths p1.isList p2.isList ?_ (by omega) X.prog X.w _ _ ?_
    · rw [l2, List.size_toArray, ← r1.length]
      cases xs with
      | nil => exact absurd rfl e
      | cons _ _ => rfl
    · rw [decide_eq_false e] at q
      exact ⟨.bl _, H, I, rfl, q⟩
def unS (z : Str) : List Nat := z.cps.toList
theorem unS_map (cs : NmL) : (cs.map S).map unS = cs := by
  rw [List.map_map]
  exact (List.map_congr_left fun c _ => rfl).trans (List.map_id cs)
theorem perm_S {ys : List Str} {cs : NmL} (h : ys.Perm (cs.map S)) : ∃ ss : NmL, ys = ss.map S ∧ ss.Perm cs := by
  obtain ⟨ss, rfl⟩ := strs_S (cs := cs) fun y hy => h.mem_iff.mp hy
  have := h.map unS
  rw [unS_map, unS_map] at this
  exact ⟨ss, rfl, this⟩
/-- the names of the class values that are seen, the newest kind first -/
def seeN : List Kd → Option (List Nat) → NmL
  | _, none => []
  | [], some _ => []
  | k :: r, some n => if k.nm = n then k.own.map (·.1) ++ seeN r k.root else seeN r (some n)
theorem see_none (r : List Kd) : seeN r none = [] := by cases r <;> rfl
theorem see_chn : ∀ (zs : List (V × Kd)) (x : Option (List Nat)), ownNs (chn zs x) = seeN (zs.map (·.2)) x
  | zs, none => by rw [chn_none, see_none]; rfl
  | [], some _ => rfl
  | z :: r, some n => by
    show ownNs (if z.2.nm = n then z :: chn r z.2.root else chn r (some n)) = if z.2.nm = n then z.2.own.map (·.1) ++ seeN (r.map (·.2)) z.2.root else seeN (r.map (·.2)) (some n)
    split
    · rw [← see_chn r z.2.root]
      rfl
    · exact see_chn r (some n)
theorem see_mem : ∀ {ks : List Kd} {x : Option (List Nat)} {v : List Nat}, v ∈ seeN ks x → ∃ k ∈ ks, ∃ o ∈ k.own, o.1 = v
  | ks, none, v, h => by
    rw [see_none] at h
    cases h
  | [], some _, v, h => by cases h
  | k :: r, some n, v, h => by
    have h : v ∈ (if k.nm = n then k.own.map (·.1) ++ seeN r k.root else seeN r (some n)) := h
    have up : (∃ y ∈ r, ∃ o ∈ y.own, o.1 = v) → ∃ y ∈ k :: r, ∃ o ∈ y.own, o.1 = v := fun ⟨y, hy, q⟩ => ⟨y, List.mem_cons_of_mem _ hy, q⟩
    split at h
    · rcases List.mem_append.mp h with h | h
      · obtain ⟨o, ho, e⟩ := List.mem_map.mp h
        exact ⟨k, List.mem_cons_self, o, ho, e⟩
      · exact up (see_mem h)
    · exact up (see_mem h)
/-- a pair (kind, class value) that is seen -/
def SeenK (ks : List Kd) (x : Str × List Nat) : Prop := ∃ k ∈ ks, x.1 = S k.nm ∧ x.2 ∈ seeN ks.reverse (some k.nm)
theorem seenK_of {zs : List (V × Kd)} {x : Str × List Nat} (h : SeenP zs x) : SeenK (zs.map (·.2)) x := by
  obtain ⟨z, hz, e, hm⟩ := h
  refine ⟨z.2, List.mem_map.mpr ⟨z, hz, rfl⟩, e, ?_⟩
  rw [see_chn, List.map_reverse] at hm
  exact hm
/-- what a kind's own methods may name -/
def OwsK (ks : List Kd) (n : List Nat) (x : Str × List Nat) : Prop := SeenK ks x ∨ (x.1 = "cls" ∧ x.2 ∈ seeN ks.reverse (some n))
theorem see_last {pre : List Kd} {k k' : Kd} (e1 : k'.nm = k.nm) (e2 : k'.root = k.root) (e3 : k'.own = k.own) (x : Option (List Nat)) : seeN (pre ++ [k']).reverse x = seeN (pre ++ [k]).reverse x := by
  rw [List.reverse_append, List.reverse_append]
  show seeN (k' :: pre.reverse) x = seeN (k :: pre.reverse) x
  cases x with
  | none => rw [see_none, see_none]
  | some n =>
    show (if k'.nm = n then k'.own.map (·.1) ++ seeN pre.reverse k'.root else seeN pre.reverse (some n)) = if k.nm = n then k.own.map (·.1) ++ seeN pre.reverse k.root else seeN pre.reverse (some n)
    rw [e1, e2, e3]
theorem owsK_last {pre : List Kd} {k k' : Kd} {n : List Nat} {x : Str × List Nat} (e1 : k'.nm = k.nm) (e2 : k'.root = k.root) (e3 : k'.own = k.own) (h : OwsK (pre ++ [k']) n x) : OwsK (pre ++ [k]) n x := by
  rcases h with ⟨y, hy, e, hm⟩ | ⟨e, hm⟩
  · rw [see_last e1 e2 e3] at hm
    rcases List.mem_append.mp hy with h | h
    · exact .inl ⟨y, List.mem_append_left _ h, e, hm⟩
    · rw [List.mem_singleton.mp h, e1] at e hm
      exact .inl ⟨k, List.mem_append_right _ (List.mem_singleton.mpr rfl), e, hm⟩
  · rw [see_last e1 e2 e3] at hm
    exact .inr ⟨e, hm⟩
/-- how a class value is made -/
def OwnG (ss : NmL) (pre : List Kd) (m : PyData) : Prop := (∃ ys, m = .tuple [.str "once", itsD ys] ∧ ItIn ss ys) ∨ ∃ x : Str × List Nat, m = .tuple [.str "early", .str x.1, .str (S x.2)] ∧ SeenK pre x
def VldK (ks : List Kd) : Option (List Nat) → Prop
  | none => True
  | some n => ∃ k ∈ ks, k.nm = n
theorem vldR_of {zs : List (V × Kd)} {x : Option (List Nat)} (h : VldK (zs.map (·.2)) x) : VldR zs x := by
  cases x with
  | none => trivial
  | some n =>
    obtain ⟨k, hk, e⟩ := h
    obtain ⟨z, hz, rfl⟩ := List.mem_map.mp hk
    exact ⟨z, hz, e⟩
/-- a drawn method of a kind is right -/
def MdG (ns ss : NmL) (many : Nat) (ks : List Kd) (n : List Nat) (m : Md) : Prop := m.nm ∈ (ns.drop 2).take 3 ∧ ∃ ows, (∀ x ∈ ows, OwsK ks n x) ∧ MG (ns.drop many) ss ows m.prs m.ds m.r
/-- a drawn kind is right, behind these -/
structure KdG (ns ss : NmL) (many : Nat) (pre : List Kd) (k : Kd) : Prop where
  root : VldK pre k.root
  own : ∀ o ∈ k.own, o.1 ∈ ns.take 2 ∧ OwnG ss pre o.2
  ond : (k.own.map (·.1)).Nodup
  ms : ∀ m ∈ k.ms, MdG ns ss many (pre ++ [k]) k.nm m
  mnd : (k.ms.map Md.nm).Nodup
def LGi (ns ss : NmL) (many : Nat) (ks : List Kd) : Prop := ∀ i k, ks[i]? = some k → KdG ns ss many (ks.take i) k
theorem LGi.snoc {ns ss : NmL} {many : Nat} {ks : List Kd} {k : Kd} (h : LGi ns ss many ks) (hk : KdG ns ss many ks k) : LGi ns ss many (ks ++ [k]) := fun i x e => by
  by_cases hi : i < ks.length
  · rw [List.getElem?_append_left hi] at e
    rw [List.take_append_of_le_length (Nat.le_of_lt hi)]
    exact h i x e
  · have hl := (List.getElem?_eq_some_iff.mp e).1
    rw [List.length_append] at hl
    have hl : i < ks.length + 1 := hl
    have e0 : i = ks.length := by omega
    subst e0
    rw [List.getElem?_append_right (Nat.le_refl _), Nat.sub_self] at e
    obtain rfl := Option.some.inj e
    rw [List.take_left']
    · exact hk
    · rfl
/-- while kinds are drawn -/
structure PhL (K : PySem.W.Frag) (H H' : Hp) (p q0 sg kl hl : Addr) (ns ss : NmL) (many : Nat) (zs : List (V × Kd)) (ex hd : NmL) (n : Nat) : Prop where
  kp : Kp p H H'
  nkl : H kl = none
  nhl : H hl = none
  kp' : kl ≠ p
  hp' : hl ≠ p
  qp : q0 ≠ p
  qk : q0 ≠ kl
  qh : q0 ≠ hl
  kh : kl ≠ hl
  hq : H' q0 = some (.lst (txts ns))
  hg : SgAt H' p sg ss
  hk : H' kl = some (.lst (zs.map (·.1)))
  hh : H' hl = some (.lst (txts hd))
  dt : ∀ z ∈ zs, Dt K H' z.1 z.2.data
  lg : LGi ns ss many (zs.map (·.2))
  nd : (zs.map (·.2.nm) ++ (ex ++ hd)).Nodup
  mem : ∀ x ∈ zs.map (·.2.nm) ++ (ex ++ hd), x ∈ ns
  hdl : hd.length + ex.length + zs.length = 12
  len : zs.length = n
  n4 : n ≤ 4
theorem PhL.re {K : PySem.W.Frag} {H H' H2 : Hp} {p q0 sg kl hl : Addr} {ns ss : NmL} {many : Nat} {zs : List (V × Kd)} {ex hd : NmL} {n : Nat} (h : PhL K H H' p q0 sg kl hl ns ss many zs ex hd n) (k : Kp p H H2) (te : TupE H' H2) (hq : H2 q0 = some (.lst (txts ns))) (hk : H2 kl = some (.lst (zs.map (·.1)))) (hh : H2 hl = some (.lst (txts hd))) : PhL K H H2 p q0 sg kl hl ns ss many zs ex hd n :=
  ⟨k, h.nkl, h.nhl, h.kp', h.hp', h.qp, h.qk, h.qh, h.kh, hq, ⟨h.hg.np, te _ _ h.hg.at_, h.hg.ne, h.hg.len, h.hg.nd, h.hg.gd⟩, hk, hh, fun z hz => (h.dt z hz).ext te, h.lg, h.nd, h.mem, h.hdl, h.len, h.n4⟩
theorem PhL.go {K : PySem.W.Frag} {H H' H2 : Hp} {p q0 sg kl hl : Addr} {ns ss : NmL} {many : Nat} {zs : List (V × Kd)} {ex hd : NmL} {n : Nat} (h : PhL K H H' p q0 sg kl hl ns ss many zs ex hd n) (k : Kp p H' H2) : PhL K H H2 p q0 sg kl hl ns ss many zs ex hd n :=
  h.re (h.kp.trans k) (TupE.kp h.kp.2 k) (k.1 _ _ h.qp h.hq) (k.1 _ _ h.kp' h.hk) (k.1 _ _ h.hp' h.hh)
/-- another new list is written -/
theorem PhL.put {K : PySem.W.Frag} {H H' : Hp} {p q0 sg kl hl a : Addr} {ns ss : NmL} {many : Nat} {zs : List (V × Kd)} {ex hd : NmL} {n : Nat} {us ys : List V} (h : PhL K H H' p q0 sg kl hl ns ss many zs ex hd n) (na : H a = none) (ap : a ≠ p) (aq : a ≠ q0) (ak : a ≠ kl) (ah : a ≠ hl) (e : H' a = some (.lst us)) : PhL K H (upd H' a (.lst ys)) p q0 sg kl hl ns ss many zs ex hd n :=
  h.re (kp_new h.kp na ap) (TupE.grow e) (by rw [upd_ne aq.symm]; exact h.hq) (by rw [upd_ne ak.symm]; exact h.hk) (by rw [upd_ne ah.symm]; exact h.hh)
theorem PhL.kds {K : PySem.W.Frag} {H H' : Hp} {p q0 sg kl hl : Addr} {ns ss : NmL} {many : Nat} {zs : List (V × Kd)} {ex hd : NmL} {n : Nat} (h : PhL K H H' p q0 sg kl hl ns ss many zs ex hd n) : KdsAt K H' kl zs := by
  refine ⟨SqL.of h.hk, h.dt, fun i z e => vldR_of ?_, by have := h.len; have := h.n4; omega⟩
  have := (h.lg i z.2 (by rw [List.getElem?_map, e]; rfl)).root
  rw [List.map_take]
  exact this
/-- the list of own values of the kind that is drawn -/
structure OlAt (K : PySem.W.Frag) (H H' : Hp) (p q0 kl hl ol : Addr) (os : List V) (own : List (List Nat × PyData)) : Prop where
  no : H ol = none
  op : ol ≠ p
  oq : ol ≠ q0
  ok : ol ≠ kl
  oh : ol ≠ hl
  at_ : H' ol = some (.lst os)
  dt : DtAll K H' os (own.map ownD)
theorem OlAt.go {K : PySem.W.Frag} {H H' H2 : Hp} {p q0 kl hl ol : Addr} {os : List V} {own : List (List Nat × PyData)} (h : OlAt K H H' p q0 kl hl ol os own) (hB : Bag H' p) (k : Kp p H' H2) : OlAt K H H2 p q0 kl hl ol os own := ⟨h.no, h.op, h.oq, h.ok, h.oh, k.1 _ _ h.op h.at_, h.dt.ext (TupE.kp hB k)⟩
/-- the own values of kinds have one of two names -/
theorem LGi.ownN {ns ss : NmL} {many : Nat} {ks : List Kd} (h : LGi ns ss many ks) {k : Kd} (hk : k ∈ ks) : (∀ o ∈ k.own, o.1 ∈ ns.take 2) ∧ k.own.length ≤ 2 := by
  obtain ⟨i, hi, e⟩ := List.mem_iff_getElem.mp hk
  have g := h i k (by rw [List.getElem?_eq_getElem hi, e])
  refine ⟨fun o ho => (g.own o ho).1, ?_⟩
  have := sub_len (vn := ns.take 2) g.ond fun x hx => by
    obtain ⟨o, ho, rfl⟩ := List.mem_map.mp hx
    exact (g.own o ho).1
  rw [List.length_map, List.length_take] at this
  omega
end Dr
namespace Dr
open PySem PySem.Spec PyProof.Rows L2
open SX (S S_len S_cat)
structure LG (ns ss : NmL) (many : Nat) (kds : List Kd) : Prop where
  nl : ns.length = 12
  nnd : ns.Nodup
  ng : ∀ z ∈ ns, GoodN z
  m1 : 1 ≤ many
  m4 : many ≤ 4
  ssp : ss.Perm (ns.take many)
  sss : sortedS (ss.map S) = true
  len : kds.length ≤ 4
  ne : 1 ≤ kds.length
  nms : (kds.map Kd.nm).Nodup
  nin : ∀ k ∈ kds, k.nm ∈ ns
  gd : LGi ns ss many kds
theorem kp_free {p a : Addr} {H H' : Hp} (hB : Bag H p) (k : Kp p H H') (n : H' a = none) : H a = none := by
  cases e : H a with
  | none => rfl
  | some o =>
    have := k.1 a o (bag_ne k.2 n) e
    rw [n] at this
    cases this
theorem cut_mid (xs : List V) (a b : Nat) (h1 : a ≤ b) (h2 : b ≤ xs.length) : cutV xs (some (a : Int)) (some (b : Int)) = (xs.drop a).take (b - a) := by
  unfold cutV
  rw [show HT.sIx xs.length 0 (some (a : Int)) = min a xs.length from HT.sIx_nat _ _ a, show HT.sIx xs.length xs.length (some (b : Int)) = min b xs.length from HT.sIx_nat _ _ b, Nat.min_eq_left h2, Nat.min_eq_left (show a ≤ xs.length by omega)]
theorem cut_from (xs : List V) (a : Nat) (h : a ≤ xs.length) : cutV xs (some (a : Int)) none = xs.drop a := by
  unfold cutV
  rw [show HT.sIx xs.length 0 (some (a : Int)) = min a xs.length from HT.sIx_nat _ _ a, HT.sIx_none, Nat.min_eq_left h, List.take_of_length_le (by rw [List.length_drop]; exact Nat.le_refl _)]
abbrev sPlain : Stmt := topS 49
abbrev nPlain : List Str := ["_law_bag_here", "_law_many", "_law_most", "_law_names_here", "_law_signs", "_law_kinds", "_law_heads", "_law_turn", "_law_name", "_law_root", "_law_own", "_law_value", "_law_seen_here", "_law_early", "_law_owned", "_law_methods", "_law_kind", "_law_one"]
abbrev psPlain : List Str := ["_law_bag_here", "_law_many", "_law_most"]
theorem scPlain : FnScope nPlain psPlain (defScope sPlain) := ⟨rfl, rfl, rfl, by decide +kernel, rfl, by decide +kernel, by decide +kernel⟩
section
variable {P : Program} {w : World} {K : PySem.W.Frag} {mg : Str → Option Value} {base : Heap}
def spPlain (K : PySem.W.Frag) : Sp := fun vs H Q _ => ∃ (p : Addr) (many most : Nat), vs = [.ref p, .int (many : Int), .int (most : Int)] ∧ Bag H p ∧ 1 ≤ many ∧ many ≤ 4 ∧ 1 ≤ most ∧ most ≤ 4 ∧
  ∀ (H' : Hp) (t sg kt : Addr) (zs : List (V × Kd)) (ns ss : NmL), Kp p H H' → H' t = some (.tup [.ref sg, .ref kt]) → H' sg = some (.tup (txts ss)) → H' kt = some (.tup (zs.map (·.1))) → (∀ z ∈ zs, Dt K H' z.1 z.2.data) → LG ns ss many (zs.map (·.2)) → Q (.ref t) H'
theorem ok_plain {f fN fT fO fA fI fS fM : Addr} {fd fdN fdT fdO fdA fdI fdS fdM : FuncData} (F : Fun K "_law_plain" "_law_plain" sPlain f fd) (B : BltP mg)
    (GN : FnOk P w K mg base CX0 3 fN fdN ["_law_bag_here", "_law_many"] (spNames K)) (mN : mg "_law_names" = some (.ref fN)) (kN : PySem.W.keepIn K (.ref fN) = true) (bN : Binds K fdN ["_law_bag_here", "_law_many"] [])
    (GT : FnOk P w K mg base CX0 1 fT fdT ["_law_bag_here", "_law_many"] spTake) (mT : mg "_law_take" = some (.ref fT)) (kT : PySem.W.keepIn K (.ref fT) = true) (bT : Binds K fdT ["_law_bag_here", "_law_many"] [])
    (GO : FnOk P w K mg base CX0 2 fO fdO ["_law_bag_here", "_law_some"] (spOf K)) (mO : mg "_law_of" = some (.ref fO)) (kO : PySem.W.keepIn K (.ref fO) = true) (bO : Binds K fdO ["_law_bag_here", "_law_some"] [])
    (GA : FnOk P w K mg base CX0 3 fA fdA ["_law_kinds"] (spAll K)) (mA : mg "_law_all_seen" = some (.ref fA)) (kA : PySem.W.keepIn K (.ref fA) = true) (bA : Binds K fdA ["_law_kinds"] [])
    (GI : FnOk P w K mg base CX0 2 fI fdI ["_law_bag_here", "_law_some", "_law_shares"] (spItems K)) (mI : mg "_law_items" = some (.ref fI)) (kI : PySem.W.keepIn K (.ref fI) = true) (bI : Binds K fdI ["_law_bag_here", "_law_some", "_law_shares"] [])
    (GS : FnOk P w K mg base CX0 2 fS fdS ["_law_kinds", "_law_name"] (spSeen K)) (mS : mg "_law_seen" = some (.ref fS)) (kS : PySem.W.keepIn K (.ref fS) = true) (bS : Binds K fdS ["_law_kinds", "_law_name"] [])
    (GM : FnOk P w K mg base CX0 5 fM fdM psMeth (spMeth K)) (mM : mg "_law_method" = some (.ref fM)) (kM : PySem.W.keepIn K (.ref fM) = true) (bM : Binds K fdM psMeth []) : FnOk P w K mg base CX0 6 f fd psPlain (spPlain K) := by
  refine F.ok scPlain (fun vs H Q E h => ?_) (fun cdv A outer s H vs Q E hr h => ?_)
  · obtain ⟨p, many, most, rfl, _⟩ := h
    rfl
  · obtain ⟨p, many, most, rfl, hB, m1, m4, o1, o4, q⟩ := h
    have hU : (A.deeper (envOfC "_law_plain" (defScope sPlain) s.heap.objs.size f cdv)).units + 64 < cLine := hr.units
    have hr1 : Room 1 _ := hr.mono (by decide)
    have hr2 : Room 2 _ := hr.mono (by decide)
    have hr3 : Room 3 _ := hr.mono (by decide)
    refine ⟨_, pss_cons (ps_set (i := 3) scPlain.nd rfl (.inr rfl) (pe_call GN hr3 (by rfl) mN kN bN .nil pass0 (pa_cons (pv 0) (pa_cons pe_int pa_nil))))
      (pss_cons (ps_asg (pe_tup (pa_cons (pe_callTy call_tuple_of (by rfl) B.tup (by decide +kernel) (pa_cons (pe_callB cr_sortedS (by rfl) B.srt (by decide +kernel) (pa_cons (pe_slice sl_list (pv 3) po_none (po_some (pv 1))) pa_nil)) pa_nil)) (pa_cons (pe_lst pa_nil) (pa_cons (pe_callTy call_list_of (by rfl) B.lis (by decide +kernel) (pa_cons (pv 3) pa_nil)) pa_nil))))
          (pg_tup rfl (pgs_cons (pg_name (i := 4) scPlain.nd rfl (.inr rfl)) (pgs_cons (pg_name (i := 5) scPlain.nd rfl (.inl rfl)) (pgs_cons (pg_name (i := 6) scPlain.nd rfl (.inl rfl)) pgs_nil)))))
      (pss_cons (ps_for PassesOwn.never rfl (pi_range1 rfl B.ran (pa_cons (pe_op op_add pe_int (pe_call GT hr1 (by rfl) mT kT bT .nil pass0 (pa_cons (pv 0) (pa_cons (pv 2) pa_nil)))) pa_nil)) (pg_name (i := 7) scPlain.nd rfl (.inl rfl))
        (pss_cons (ps_par3 (i := 8) (j := 9) (l := 10) (by rfl) scPlain.nd rfl rfl rfl (by decide) (by decide) (by decide) rfl rfl rfl (pa_cons (pe_bm PySem.F.plainAttrs_list PySem.F.slot_list_pop PySem.F.type_list_pop mt_popAt (pv 6) (pa_cons (pe_call GT hr1 (by rfl) mT kT bT .nil pass0 (pa_cons (pv 0) (pa_cons (pe_callB call_len_seq (by rfl) B.len PySem.boot_len (pa_cons (pv 6) pa_nil)) pa_nil))) pa_nil)) (pa_cons pe_non (pa_cons (pe_lst pa_nil) pa_nil))) (by rfl))
        (C8.pss_cut (ps_if (PW.pt (pw_and (pt_cmpR (op_neE hU) (pv 5) (pe_lst pa_nil) (nomark _)) (pw_and1 (pt_cmpR op_gt (pe_call GT hr1 (by rfl) mT kT bT .nil pass0 (pa_cons (pv 0) (pa_cons pe_int pa_nil))) pe_int (nomark _)))))
            (pss_one (ps_set (i := 9) scPlain.nd rfl (.inl rfl) (pe_call GO hr2 (by rfl) mO kO bO .nil pass0 (pa_cons (pv 0) (pa_cons (pe_lc (own := [("_law_kind", 16)]) (g := gName 16) (tt := tYes) rfl scPlain.nd (pi_list (pv 5)) (blkOk_by (N := nPlain) (sc := defScope sPlain) (by decide +kernel)) (fun _ _ _ _ _ => pg_name (i := 16) scPlain.nd rfl (Or.inl rfl)) (fun _ _ _ _ _ => pts_nil) (fun _ _ _ _ _ => pe_ix (show IxR _ (rIxT K) from ix_tup) (pv 16) pe_int (fun _ _ => rfl))) pa_nil))))) pss_nil)
        (C8.pss_cut (ps_for PassesOwn.never rfl (pi_list (pe_slice sl_list (pv 3) po_none (po_some pe_int))) (pg_name (i := 11) scPlain.nd rfl (.inl rfl))
            (pss_one (ps_if (pt_cmpR op_eq (pe_call GT hr1 (by rfl) mT kT bT .nil pass0 (pa_cons (pv 0) (pa_cons pe_int pa_nil))) pe_int (nomark _))
              (pss_cons (ps_set (i := 12) scPlain.nd rfl (.inl rfl) (pe_call GA hr3 (by rfl) mA kA bA .nil pass0 (pa_cons (pv 5) pa_nil)))
              (C8.pss_cut (ps_set (i := 13) scPlain.nd rfl (.inl rfl) (pe_ifExp (PW.pt (pw_and (pt_cmpR (op_neE hU) (pv 12) (pe_lst pa_nil) (nomark _)) (pw_and1 (pt_cmpR op_eq (pe_call GT hr1 (by rfl) mT kT bT .nil pass0 (pa_cons (pv 0) (pa_cons pe_int pa_nil))) pe_int (nomark _))))) (pe_op op_catT (pe_tup (pa_cons pe_str pa_nil)) (pe_call GO hr2 (by rfl) mO kO bO .nil pass0 (pa_cons (pv 0) (pa_cons (pv 12) pa_nil)))) pe_non))
              (pss_one (ps_expr (pe_bm PySem.F.plainAttrs_list PySem.F.slot_list_append PySem.F.type_list_append mt_append (pv 10) (pa_cons (pe_tup (pa_cons (pv 11) (pa_cons (pe_ifExp (pt_cmpR op_isN (pv 13) pe_non (nomark _)) (pe_tup (pa_cons pe_str (pa_cons (pe_call GI hr2 (by rfl) mI kI bI .nil pass0 (pa_cons (pv 0) (pa_cons (pv 4) (pa_cons pe_int pa_nil)))) pa_nil))) (pv 13)) pa_nil))) pa_nil)))))) pss_nil)))
        (pss_cons (ps_expr (pe_bm PySem.F.plainAttrs_list PySem.F.slot_list_append PySem.F.type_list_append mt_append (pv 5) (pa_cons (pe_tup (pa_cons (pv 8) (pa_cons (pv 9) (pa_cons (pe_callTy call_tuple_of (by rfl) B.tup (by decide +kernel) (pa_cons (pv 10) pa_nil)) (pa_cons (pe_tup pa_nil) pa_nil))))) pa_nil)))
        (pss_cons (ps_set (i := 14) scPlain.nd rfl (.inr rfl) (pe_op op_cat (pe_call GA hr3 (by rfl) mA kA bA .nil pass0 (pa_cons (pv 5) pa_nil)) (pe_op op_rep
            (pe_lc (own := [("_law_one", 17)]) (g := gName 17) (tt := tYes) rfl scPlain.nd (pi_list (pe_call GS hr2 (by rfl) mS kS bS .nil pass0 (pa_cons (pv 5) (pa_cons (pv 8) pa_nil)))) (blkOk_by (N := nPlain) (sc := defScope sPlain) (by decide +kernel)) (fun _ _ _ _ _ => pg_name (i := 17) scPlain.nd rfl (Or.inl rfl)) (fun _ _ _ _ _ => pts_nil) (fun _ _ _ _ _ => pe_tup (pa_cons pe_str (pa_cons (pv 17) pa_nil)))) pe_int)))
        (pss_cons (ps_setLc (i := 15) (own := [("_law_one", 17)]) (g := gName 17) rfl scPlain.nd rfl rfl (sw_true rfl rfl rfl (by decide +kernel)) (pi_list (pe_slice sl_list (pv 3) (po_some pe_int) (po_some pe_int))) (blkOk_by (N := nPlain) (sc := defScope sPlain) (by decide +kernel)) (fun _ _ _ _ _ => pg_name (i := 17) scPlain.nd rfl (Or.inl rfl))
            (fun _ _ _ _ _ => pts_one (pt_cmpR op_gt (pe_call GT hr1 (by rfl) mT kT bT .nil pass0 (pa_cons (pv 0) (pa_cons pe_int pa_nil))) pe_int (nomark _)))
            (fun _ _ _ _ _ => pe_call GM hr (by rfl) mM kM bM .nil pass0 (pa_cons (pv 0) (pa_cons (pv 17) (pa_cons (pe_slice (show SlR _ (rSlL K) from sl_list) (pv 3) (po_some (pv 1)) po_none) (pa_cons (pv 4) (pa_cons (pv 14) pa_nil)))))))
        (pss_one (ps_asg (pe_tup (pa_cons (pv 8) (pa_cons (pv 9) (pa_cons (pe_callTy call_tuple_of (by rfl) B.tup (by decide +kernel) (pa_cons (pv 10) pa_nil)) (pa_cons (pe_callTy call_tuple_of (by rfl) B.tup (by decide +kernel) (pa_cons (pv 15) pa_nil)) pa_nil))))) (pg_sub (pv 5) (pe_un un_neg pe_int) set_list))))))))))
      (pss_one (ps_ret (pe_tup (pa_cons (pv 4) (pa_cons (pe_callTy call_tuple_of (by rfl) B.tup (by decide +kernel) (pa_cons (pv 5) pa_nil)) pa_nil))))))), ?_⟩
    have hc12 : (12 : Int) = ((12 : Nat) : Int) := rfl
    refine ⟨_, rfl, p, 12, rfl, hB, by decide, fun H1 q0 ns k1 nq0 hq hnl hnd hng => ?_⟩
    have q0p := bag_ne hB nq0
    refine ⟨_, rfl, _, rfl, _, rfl, q0, txts ns, rfl, SqL.of hq, fun c nc => ?_⟩
    rw [cut_take _ many (by rw [txts_len]; omega)]
    have sc := same_upd (o := .lst ((txts ns).take many)) nc
    have htk : (txts ns).take many = ((ns.take many).map S).map V.str := by
      rw [txts_S, ← List.map_take, ← List.map_take]
    have htl : (ns.take many).length = many := by
      rw [List.length_take]
      omega
    refine ⟨c, (ns.take many).map S, rfl, SqL.of (upd_same.trans (by rw [htk])), by rw [List.length_map]; omega, fun ys a hperm hsrt na => ⟨a, _, rfl, .inl ⟨SqL.of upd_same, fun sg nsg => ⟨by show 0 ≤ sizeLine; decide, fun kl nkl => ?_⟩⟩⟩⟩
    obtain ⟨ss, rfl, hssp⟩ := perm_S hperm
    rw [← txts_S] at nsg nkl ⊢
    have sa := same_upd (o := .lst (txts ss)) na
    have ssg := same_upd (o := .tup (txts ss)) nsg
    have skl := same_upd (o := .lst []) nkl
    have s1 := ((sc.trans sa).trans ssg).trans skl
    refine ⟨_, rfl, q0, txts ns, rfl, .inl (SqL.of (s1 _ _ hq)), fun hl nhl => ⟨three_le, fun t nt => ?_⟩⟩
    have shl := same_upd (o := .lst (txts ns)) nhl
    have st := same_upd (o := .tup [.ref sg, .ref kl, .ref hl]) nt
    refine ⟨t, _, rfl, SqT.of upd_same, rfl, _, _, rfl, _, _, rfl, _, _, rfl, rfl, ?_⟩
    have hq2 := st _ _ (shl _ _ (s1 _ _ hq))
    have hg2 := st _ _ (shl _ _ (skl _ _ (upd_same (a := sg))))
    have hk2 := st _ _ (shl _ _ (upd_same (a := kl)))
    have hh2 := st _ _ (upd_same (a := hl))
    have k2 : Kp p H _ := ((k1.same s1).same shl).same st
    have hB1 := k1.2
    have nkl0 : H kl = none := kp_free hB k1 (((sc.trans sa).trans ssg).free nkl)
    have nhl0 : H hl = none := kp_free hB k1 (s1.free nhl)
    have klp : kl ≠ p := bag_ne (hB1.same ((sc.trans sa).trans ssg)) nkl
    have hlp : hl ≠ p := bag_ne (hB1.same s1) nhl
    have qkl : q0 ≠ kl := ne_of_none (((sc.trans sa).trans ssg) _ _ hq) nkl
    have qhl : q0 ≠ hl := ne_of_none (s1 _ _ hq) nhl
    have klh : kl ≠ hl := ne_of_none (upd_same (a := kl)) nhl
    have sgp : sg ≠ p := bag_ne (hB1.same (sc.trans sa)) nsg
    generalize (upd _ t _) = H2 at hq2 hg2 hk2 hh2 k2 ⊢
    have hssl : ss.length = many := by rw [hssp.length_eq, htl]
    have hssn : ss.Nodup := hssp.nodup_iff.mpr (List.Sublist.nodup (List.take_sublist _ _) hnd)
    have hssg : ∀ z ∈ ss, GoodN z := fun z hz => hng z (List.mem_of_mem_take (hssp.mem_iff.mp hz))
    have hS : SgAt H2 p sg ss := ⟨sgp, hg2, fun e => by rw [e] at hssl; simp at hssl; omega, by omega, hssn, hssg⟩
    have hL0 : PhL K H H2 p q0 sg kl hl ns ss many [] [] ns 0 := ⟨k2, nkl0, nhl0, klp, hlp, q0p, qkl, qhl, klh, hq2, hS, hk2, hh2, fun z hz => (nomatch hz), fun i k e => by simp at e, hnd, fun x hx => hx, by rw [hnl]; rfl, rfl, by decide⟩
    clear hq2 hg2 hk2 hh2 k2 hS st shl nt nhl s1 skl ssg sa nkl nsg na sc nc
    refine ⟨_, rfl, _, rfl, p, (most : Int), rfl, hL0.kp.2, by omega, by omega, fun H3 r k3 r0 r1 => ⟨_, _, rfl, rfl, 1 + r, rfl, by omega, by omega, for_it walk_range (fun i σ H3 => ∃ x7 x8 x9 x10 x11 x12 x13 x14 x15 zs hd, σ = [some (.ref p), some (.int (many : Int)), some (.int (most : Int)), some (.ref q0), some (.ref sg), some (.ref kl), some (.ref hl), x7, x8, x9, x10, x11, x12, x13, x14, x15, none, none] ∧ PhL K H H3 p q0 sg kl hl ns ss many zs [] hd i) ⟨none, none, none, none, none, none, none, none, none, [], ns, rfl, hL0.go k3⟩ (fun _ _ _ _ _ => trivial) ?_ ?_⟩⟩
    · clear hL0 k3
      rintro i x σ H3 H4 hi ⟨x7, x8, x9, x10, x11, x12, x13, x14, x15, zs, hd, rfl, hP⟩ ⟨rfl, rfl⟩
      have hi4 : i < 4 := by
        have : i < (1 + r).toNat := hi
        omega
      have hzl := hP.len
      have hhd := hP.hdl
      have hhd : hd.length + 0 + zs.length = 12 := hhd
      refine ⟨_, rfl, .inl ⟨rfl, _, SqL.of hP.hh⟩, _, rfl, _, rfl, hl, _, rfl, .inl (SqL.of hP.hh), p, _, rfl, hP.kp.2, by rw [txts_len]; omega, by rw [txts_len]; omega, fun H5 kk k5 kk0 kk1 => ?_⟩
      rw [txts_len] at kk1
      obtain ⟨j, rfl⟩ : ∃ j : Nat, kk = (j : Int) := ⟨kk.toNat, by omega⟩
      have hj : j < hd.length := by omega
      have hget : hd[j]? = some hd[j] := List.getElem?_eq_getElem hj
      have hP5 := hP.go k5
      refine ⟨hl, _, _, j, .str (S hd[j]), rfl, rfl, hP5.hh, by omega, by omega, seqIx (by rw [txts_len]; exact hj), txts_at hget, ?_⟩
      rw [txts_erase]
      have hperm2 : (hd[j] :: hd.eraseIdx j).Perm hd := erase_perm hget
      generalize hd[j] = nm at hperm2
      have hP6 : PhL K H (upd H5 hl (.lst (txts (hd.eraseIdx j)))) p q0 sg kl hl ns ss many zs [nm] (hd.eraseIdx j) i := by
        have hpp := hperm2.append_left (zs.map (·.2.nm))
        refine ⟨kp_new hP5.kp hP5.nhl hP5.hp', hP5.nkl, hP5.nhl, hP5.kp', hP5.hp', hP5.qp, hP5.qk, hP5.qh, hP5.kh, by rw [upd_ne hP5.qh]; exact hP5.hq, ?_, by rw [upd_ne hP5.kh]; exact hP5.hk, upd_same, fun z hz => (hP5.dt z hz).ext (TupE.grow hP5.hh), hP5.lg, hpp.nodup_iff.mpr hP5.nd, fun x hx => hP5.mem x (hpp.mem_iff.mp hx), ?_, hP5.len, hP5.n4⟩
        · exact ⟨hP5.hg.np, TupE.grow hP5.hh _ _ hP5.hg.at_, hP5.hg.ne, hP5.hg.len, hP5.hg.nd, hP5.hg.gd⟩
        · rw [List.length_eraseIdx_of_lt hj]
          show hd.length - 1 + 1 + zs.length = 12
          omega
      refine ⟨by show 0 ≤ sizeLine; decide, fun ol nol => ⟨_, _, _, rfl, ?_⟩⟩
      have sol := same_upd (o := .lst []) nol
      have hO : OlAt K H (upd (upd H5 hl (.lst (txts (hd.eraseIdx j)))) ol (.lst [])) p q0 kl hl ol [] [] := ⟨kp_free hB hP6.kp nol, bag_ne hP6.kp.2 nol, (ne_of_none hP6.hq nol).symm, (ne_of_none hP6.hk nol).symm, (ne_of_none hP6.hh nol).symm, upd_same, .nil⟩
      have hP7 := hP6.go (Kp.of hP6.kp.2 sol)
      generalize (upd (upd H5 hl (.lst (txts (hd.eraseIdx j)))) ol (.lst [])) = H7 at hP7 hO ⊢
      generalize hd.eraseIdx j = hd' at hP7
      clear hP6 hP5 hP hperm2 sol nol hget hj kk0 kk1 k5 hhd
      have hlen := hP7.len
      have hnm : nm ∈ ns := hP7.mem nm (List.mem_append_right _ (List.mem_cons_self))
      -- the base
      refine ⟨fun σ1 H1 => ∃ root, σ1 = [some (.ref p), some (.int (many : Int)), some (.int (most : Int)), some (.ref q0), some (.ref sg), some (.ref kl), some (.ref hl), some (.int (0 + (i : Int))), some (.str (S nm)), some (rootV root), some (.ref ol), x11, x12, x13, x14, x15, none, none] ∧ PhL K H H1 p q0 sg kl hl ns ss many zs [nm] hd' i ∧ OlAt K H H1 p q0 kl hl ol [] [] ∧ VldK (zs.map (·.2)) root, ?_, ?_⟩
      · refine ⟨_, rfl, by show 0 ≤ sizeLine; decide, fun le nle => ⟨kl, le, _, rfl, rfl, SqL.of (same_upd nle _ _ hP7.hk), SqL.of upd_same, _, rfl, ?_⟩⟩
        have kle := Kp.of hP7.kp.2 (same_upd (o := .lst []) nle)
        refine ite2 (fun hne => ?_) (fun _ => ⟨none, rfl, hP7.go kle, hO.go hP7.kp.2 kle, trivial⟩)
        refine ⟨_, rfl, p, 3, rfl, kle.2, by decide, by decide, fun H8 rr k8 _ _ => ⟨_, _, rfl, rfl, _, rfl, ?_⟩⟩
        have k78 := kle.trans k8
        have hP8 := hP7.go k78
        have hO8 := hO.go hP7.kp.2 k78
        refine ite2 (fun _ => ?_) (fun _ => ⟨none, rfl, hP8, hO8, trivial⟩)
        refine ⟨_, rfl, _, rfl, kl, rfl, ⟨_, SqL.of hP8.hk⟩, fun D nD => ?_⟩
        refine lc_it (walk_list (K := K) (a := kl) (xs := zs.map (·.1))) (fun j H9 => Same H8 H9 ∧ H9 D = some (.lst (txts ((zs.take j).map (·.2.nm))))) ⟨same_upd nD, upd_same⟩ (fun j H9 _ h => SqL.of (h.1 _ _ hP8.hk)) ?_ ?_
        · rintro j y H9 H10 hj ⟨s9, hD⟩ ⟨rfl, e2⟩
          obtain ⟨k, hz⟩ := zs_get e2
          obtain ⟨tk, ao, am, os, ms, rfl, hka⟩ := kind_at ((hP8.dt _ (List.mem_of_getElem? hz)).ext (TupE.same s9))
          have hka : KindAt K H10 k tk ao am os ms := hka
          refine ⟨rfl, ?_⟩
          unfold tYes
          refine iteT ⟨_, rfl, tk, _, 0, .str (S k.nm), rfl, rfl, hka.at_, atI_nat (j := 0) rfl, _, hD, ?_, same_grow s9 nD, ?_⟩
          · rw [txts_len, List.length_map, List.length_take]
            exact small1000 (by omega)
          · rw [upd_same, List.take_add_one, hz, List.map_append, ← txts_app]
            rfl
        · rintro H9 ⟨s9, hD⟩
          rw [List.length_map, List.take_length] at hD
          have hP9 := hP8.go (Kp.of hP8.kp.2 s9)
          refine of_lst hP9.kp.2 (bag_ne hP8.kp.2 nD) hD ?_ ?_ (fun H10 y k10 hy => ?_)
          · rw [txts_len, List.length_map]
            cases e : zs with
            | nil =>
              rw [e] at hne
              cases hne
            | cons _ _ => exact Nat.succ_le_succ (Nat.zero_le _)
          · rw [txts_len, List.length_map]
            omega
          · obtain ⟨z, hz, rfl⟩ := txts_mem hy
            obtain ⟨u, hu, rfl⟩ := List.mem_map.mp hz
            have k910 := (Kp.of hP8.kp.2 s9).trans k10
            exact ⟨some u.2.nm, rfl, hP8.go k910, hO8.go hP8.kp.2 k910, u.2, List.mem_map.mpr ⟨u, hu, rfl⟩, rfl⟩
      clear hP7 hO
      rintro σ1 H8 ⟨root, rfl, hP8, hO8, hroot⟩
      -- the own values
      have hns2 : (ns.take 2).length = 2 := by
        rw [List.length_take]
        omega
      refine ⟨fun σ1 H1 => ∃ y11 y12 y13 os own, σ1 = [some (.ref p), some (.int (many : Int)), some (.int (most : Int)), some (.ref q0), some (.ref sg), some (.ref kl), some (.ref hl), some (.int (0 + (i : Int))), some (.str (S nm)), some (rootV root), some (.ref ol), y11, y12, y13, x14, x15, none, none] ∧ PhL K H H1 p q0 sg kl hl ns ss many zs [nm] hd' i ∧ OlAt K H H1 p q0 kl hl ol os own ∧ (∀ o ∈ own, o.1 ∈ ns.take 2 ∧ OwnG ss (zs.map (·.2)) o.2) ∧ (own.map (·.1)).Nodup, ?_, ?_⟩
      · refine ⟨_, rfl, _, rfl, q0, txts ns, rfl, SqL.of hP8.hq, fun c nc => ?_⟩
        rw [show (2 : Int) = ((2 : Nat) : Int) from rfl, cut_take _ 2 (by rw [txts_len]; omega), show (txts ns).take 2 = txts (ns.take 2) by unfold txts; rw [List.map_take]]
        have sc := same_upd (o := .lst (txts (ns.take 2))) nc
        have cp : c ≠ p := bag_ne hP8.kp.2 nc
        have col : c ≠ ol := (ne_of_none hO8.at_ nc).symm
        refine ⟨c, rfl, ⟨_, SqL.of upd_same⟩, for_it (walk_list (K := K) (a := c) (xs := txts (ns.take 2))) (fun u σ H' => ∃ y11 y12 y13 os own, σ = [some (.ref p), some (.int (many : Int)), some (.int (most : Int)), some (.ref q0), some (.ref sg), some (.ref kl), some (.ref hl), some (.int (0 + (i : Int))), some (.str (S nm)), some (rootV root), some (.ref ol), y11, y12, y13, x14, x15, none, none] ∧ PhL K H H' p q0 sg kl hl ns ss many zs [nm] hd' i ∧ OlAt K H H' p q0 kl hl ol os own ∧ H' c = some (.lst (txts (ns.take 2))) ∧ (∀ o ∈ own, o.1 ∈ (ns.take 2).take u ∧ OwnG ss (zs.map (·.2)) o.2) ∧ (own.map (·.1)).Nodup) ⟨x11, x12, x13, [], [], rfl, hP8.go (Kp.of hP8.kp.2 sc), hO8.go hP8.kp.2 (Kp.of hP8.kp.2 sc), upd_same, fun o ho => (nomatch ho), .nil⟩ (fun u σ H' _ h => ?_) ?_ ?_⟩
        · obtain ⟨_, _, _, _, _, _, _, _, h, _⟩ := h
          exact SqL.of h
        · clear hP8 hO8
          rintro u y σ H9 H10 hu ⟨y11, y12, y13, os, own, rfl, hP9, hO9, hc9, how, hond⟩ ⟨rfl, e2⟩
          obtain ⟨v, hv, rfl⟩ := txts_get e2
          have hu2 : u < 2 := by
            rw [txts_len] at hu
            omega
          have hosl : os.length = own.length := by rw [dpAll_len hO9.dt, List.length_map]
          have hownl : own.length ≤ 2 := by
            have := sub_len (vn := ns.take 2) hond fun x hx => by
              obtain ⟨o, ho, rfl⟩ := List.mem_map.mp hx
              exact List.mem_of_mem_take (how o ho).1
            rw [List.length_map] at this
            omega
          have up : ∀ o ∈ own, o.1 ∈ (ns.take 2).take (u + 1) ∧ OwnG ss (zs.map (·.2)) o.2 := fun o ho => ⟨by
            rw [List.take_add_one]
            exact List.mem_append_left _ (how o ho).1, (how o ho).2⟩
          refine ⟨_, rfl, p, 2, rfl, hP9.kp.2, by decide, by decide, fun H11 r2 k11 _ _ => ⟨rfl, _, rfl, ite2 (fun _ => ?_) (fun _ => ?_)⟩⟩
          case refine_2 => exact ⟨_, _, _, _, _, rfl, hP9.go k11, hO9.go hP9.kp.2 k11, k11.1 _ _ cp hc9, up, hond⟩
          have hP11 := hP9.go k11
          have hO11 := hO9.go hP9.kp.2 k11
          have hc11 := k11.1 _ _ cp hc9
          clear hP9 hO9 hc9
          refine ⟨_, rfl, kl, zs, ns.take 2, rfl, hP11.kds, fun z hz => Nat.le_trans (hP11.lg.ownN (List.mem_map.mpr ⟨z, hz, rfl⟩)).2 (by decide), by omega, fun z hz => (hP11.lg.ownN (List.mem_map.mpr ⟨z, hz, rfl⟩)).1, fun H12 e oe ows s12 ne he hoe hse hle => ?_⟩
          have k12 := Kp.of hP11.kp.2 s12
          have hP12 := hP11.go k12
          have hO12 := hO11.go hP11.kp.2 k12
          have hc12 := s12 _ _ hc11
          have ep : e ≠ p := bag_ne hP11.kp.2 ne
          have eol : e ≠ ol := (ne_of_none hO11.at_ ne).symm
          have ec : e ≠ c := (ne_of_none hc11 ne).symm
          have hoel : oe.length = ows.length := by rw [dpAll_len hoe, List.length_map]
          clear hP11 hO11 hc11
          -- early
          refine ⟨fun σ1 H1 => ∃ v13, σ1 = [some (.ref p), some (.int (many : Int)), some (.int (most : Int)), some (.ref q0), some (.ref sg), some (.ref kl), some (.ref hl), some (.int (0 + (i : Int))), some (.str (S nm)), some (rootV root), some (.ref ol), some (.str (S v)), some (.ref e), some v13, x14, x15, none, none] ∧ PhL K H H1 p q0 sg kl hl ns ss many zs [nm] hd' i ∧ OlAt K H H1 p q0 kl hl ol os own ∧ H1 c = some (.lst (txts (ns.take 2))) ∧ (v13 = .non ∨ ∃ te d, v13 = .ref te ∧ Dt K H1 (.ref te) d ∧ OwnG ss (zs.map (·.2)) d), ?_, ?_⟩
          · refine ⟨_, rfl, by show 0 ≤ sizeLine; decide, fun le nle => ⟨e, le, _, rfl, rfl, SqL.of (same_upd nle _ _ he), SqL.of upd_same, _, rfl, ?_⟩⟩
            have kle := Kp.of hP12.kp.2 (same_upd (o := .lst []) nle)
            refine ite2 (fun hne => ?_) (fun _ => ⟨_, rfl, hP12.go kle, hO12.go hP12.kp.2 kle, kle.1 _ _ cp hc12, .inl rfl⟩)
            refine ⟨_, rfl, p, 3, rfl, kle.2, by decide, by decide, fun H13 r3 k13 _ _ => ⟨rfl, _, rfl, ?_⟩⟩
            have kk := kle.trans k13
            refine ite2 (fun _ => ?_) (fun _ => ⟨_, rfl, hP12.go kk, hO12.go hP12.kp.2 kk, kk.1 _ _ cp hc12, .inl rfl⟩)
            refine ⟨by show 1 ≤ sizeLine; decide, fun a na => ⟨_, rfl, _, rfl, ?_⟩⟩
            have sa := same_upd (o := .tup [.str "early"]) na
            have kka := kk.same sa
            have ap : a ≠ p := bag_ne kk.2 na
            refine of_lst kka.2 ep (kka.1 _ _ ep he) ?_ ?_ (fun H14 y k14 hy => ?_)
            · cases e3 : oe with
              | nil =>
                rw [e3] at hne
                cases hne
              | cons _ _ => exact Nat.succ_le_succ (Nat.zero_le _)
            · have : (ns.take 2).length * zs.length ≤ 2 * 4 := by
                rw [hns2]
                omega
              omega
            have kA := kka.trans k14
            obtain ⟨d0, hd0, hdy⟩ := dqAll_mem (hoe.ext (TupE.kp hP12.kp.2 kA)) hy
            obtain ⟨x, hxm, rfl⟩ := List.mem_map.mp hd0
            obtain ⟨ty, rfl, hty⟩ := dt_pair hdy
            refine ⟨a, ty, [.str "early"], [.str x.1, .str (S x.2)], rfl, rfl, SqT.of (k14.1 _ _ ap upd_same), hty, (fun e => by cases e), by show 1 + 2 ≤ sizeLine; decide, (fun e => by cases e), fun _ r nr => ?_⟩
            have sr := same_upd (o := .tup [.str "early", .str x.1, .str (S x.2)]) nr
            have kB := kA.same sr
            exact ⟨_, rfl, hP12.go kB, hO12.go hP12.kp.2 kB, kB.1 _ _ cp hc12, .inr ⟨r, _, rfl, df_seat_dt upd_same, .inr ⟨x, rfl, seenK_of (hse x hxm)⟩⟩⟩
          clear hP12 hO12 hc12 he hoe
          rintro σ2 H13 ⟨v13, rfl, hP13, hO13, hc13, hv13⟩
          have fin : ∀ (H15 : Hp) (t : Addr) (mv : V) (d : PyData), Kp p H13 H15 → H15 t = some (.tup [.str (S v), mv]) → Dt K H15 mv d → OwnG ss (zs.map (·.2)) d → PhL K H (upd H15 ol (.lst (os ++ [.ref t]))) p q0 sg kl hl ns ss many zs [nm] hd' i ∧ OlAt K H (upd H15 ol (.lst (os ++ [.ref t]))) p q0 kl hl ol (os ++ [.ref t]) (own ++ [(v, d)]) ∧ (upd H15 ol (.lst (os ++ [.ref t]))) c = some (.lst (txts (ns.take 2))) ∧ (∀ o ∈ own ++ [(v, d)], o.1 ∈ (ns.take 2).take (u + 1) ∧ OwnG ss (zs.map (·.2)) o.2) ∧ ((own ++ [(v, d)]).map (·.1)).Nodup := by
            intro H15 t mv d k15 ht hdt hog
            have hP15 := hP13.go k15
            have hO15 := hO13.go hP13.kp.2 k15
            refine ⟨hP15.put hO15.no hO15.op hO15.oq hO15.ok hO15.oh hO15.at_, ⟨hO15.no, hO15.op, hO15.oq, hO15.ok, hO15.oh, upd_same, ?_⟩, ?_, fun o ho => ?_, ?_⟩
            · rw [List.map_append]
              exact DtAll.ext (dpAll_app hO15.dt (.cons (Dt.tup ht (.cons (.str _) (.cons hdt .nil))) .nil)) (TupE.grow hO15.at_)
            · rw [upd_ne col]
              exact k15.1 _ _ cp hc13
            · rcases List.mem_append.mp ho with h | h
              · exact up o h
              · rw [List.mem_singleton.mp h]
                refine ⟨?_, hog⟩
                rw [List.take_add_one, hv]
                exact List.mem_append_right _ (List.mem_singleton.mpr rfl)
            · rw [List.map_append]
              refine List.nodup_append.mpr ⟨hond, by simp, fun x hx y hy => ?_⟩
              have hy : y ∈ [v] := hy
              obtain ⟨o, ho, rfl⟩ := List.mem_map.mp hx
              rw [List.mem_singleton.mp hy]
              intro e4
              obtain ⟨z, hz, e5⟩ := List.mem_take_iff_getElem.mp (how o ho).1
              obtain ⟨hvl, e6⟩ := List.getElem?_eq_some_iff.mp hv
              have hn2 : (ns.take 2).Nodup := List.Sublist.nodup (List.take_sublist _ _) hnd
              have := (List.getElem_inj hn2).mp (e5.trans (e4.trans e6.symm))
              omega
          refine ⟨_, rfl, .inl ⟨rfl, _, SqL.of hO13.at_⟩, _, rfl, _, rfl, ?_⟩
          rcases hv13 with rfl | ⟨te, d, rfl, hdt, hog⟩
          · refine ⟨rfl, _, rfl, iteT ⟨_, rfl, _, rfl, p, sg, 2, ss, rfl, hP13.kp.2, hP13.hg.np, .inr (SqT.of hP13.hg.at_), by decide, by decide, hP13.hg.len, hP13.hg.nd, hP13.hg.gd, fun H14 m ys k14 hm hys hsb => ⟨two_le, fun a na => ⟨two_le, fun t nt => ?_⟩⟩⟩⟩
            have sa := same_upd (o := .tup [.str "once", .ref m]) na
            have st := same_upd (o := .tup [.str (S v), .ref a]) nt
            have kA := (k14.same sa).same st
            have hO := hO13.go hP13.kp.2 kA
            refine ⟨ol, _, _, rfl, rfl, hO.at_, small1000 (by omega), ?_⟩
            obtain ⟨f1, f2, f3, f4, f5⟩ := fin _ t (.ref a) (.tuple [.str "once", itsD ys]) kA upd_same (Dt.tup (st _ _ upd_same) (.cons (.str _) (.cons (Dt.tup (st _ _ (sa _ _ hm)) (dpAll_strs ys)) .nil))) (.inl ⟨ys, rfl, hys, hsb⟩)
            exact ⟨_, _, _, _, _, rfl, f1, f2, f3, f4, f5⟩
          · refine ⟨rfl, _, rfl, iteF ⟨_, rfl, two_le, fun t nt => ?_⟩⟩
            have st := same_upd (o := .tup [.str (S v), .ref te]) nt
            have kA := Kp.of hP13.kp.2 st
            have hO := hO13.go hP13.kp.2 kA
            refine ⟨ol, _, _, rfl, rfl, hO.at_, small1000 (by omega), ?_⟩
            obtain ⟨f1, f2, f3, f4, f5⟩ := fin _ t (.ref te) d kA upd_same (hdt.ext (TupE.same st)) hog
            exact ⟨_, _, _, _, _, rfl, f1, f2, f3, f4, f5⟩
        · rintro σ H9 ⟨y11, y12, y13, os, own, rfl, hP9, hO9, _, how, hond⟩
          exact ⟨_, _, _, _, _, rfl, hP9, hO9, fun o ho => ⟨List.mem_of_mem_take (how o ho).1, (how o ho).2⟩, hond⟩
      have hP8lg := hP8.lg
      clear hP8 hO8
      rintro σ1 H9 ⟨y11, y12, y13, os, own, rfl, hP9, hO9, how, hond⟩
      have hosl : os.length = own.length := by rw [dpAll_len hO9.dt, List.length_map]
      have hown2 : own.length ≤ 2 := by
        have := sub_len (vn := ns.take 2) hond fun x hx => by
          obtain ⟨o, ho, rfl⟩ := List.mem_map.mp hx
          exact (how o ho).1
        rw [List.length_map] at this
        omega
      -- the kind without methods
      refine ⟨_, rfl, .inl ⟨rfl, _, SqL.of hP9.hk⟩, _, rfl, _, rfl, _, rfl, ol, os, rfl, .inl ⟨SqL.of hO9.at_, fun to nto => ⟨by show 0 ≤ sizeLine; decide, fun te nte => ⟨by show 4 ≤ sizeLine; decide, fun t nt => ?_⟩⟩⟩⟩
      have sto := same_upd (o := .tup os) nto
      have ste := same_upd (o := .tup []) nte
      have stt := same_upd (o := .tup [.str (S nm), rootV root, .ref to, .ref te]) nt
      have kX := Kp.of hP9.kp.2 ((sto.trans ste).trans stt)
      have hPx := hP9.go kX
      have hOx := hO9.go hP9.kp.2 kX
      have hkd : Dt K _ (.ref t) (Kd.mk nm root own []).data := kind_dt upd_same (stt _ _ (ste _ _ upd_same)) (hO9.dt.ext (TupE.kp hP9.kp.2 kX)) (stt _ _ upd_same) .nil
      refine ⟨kl, _, _, rfl, rfl, hPx.hk, small1000 (by rw [List.length_map]; omega), ?_⟩
      generalize (upd _ t _) = Hx at hPx hOx hkd
      have hzn : (zs ++ [((V.ref t), Kd.mk nm root own [])]).map (·.2) = zs.map (·.2) ++ [Kd.mk nm root own []] := by rw [List.map_append]; rfl
      have hP1 : PhL K H (upd Hx kl (.lst (zs.map (·.1) ++ [.ref t]))) p q0 sg kl hl ns ss many (zs ++ [((V.ref t), Kd.mk nm root own [])]) [] hd' (i + 1) := by
        have hnd' := hPx.nd
        refine ⟨kp_new hPx.kp hPx.nkl hPx.kp', hPx.nkl, hPx.nhl, hPx.kp', hPx.hp', hPx.qp, hPx.qk, hPx.qh, hPx.kh, by rw [upd_ne hPx.qk]; exact hPx.hq, ⟨hPx.hg.np, TupE.grow hPx.hk _ _ hPx.hg.at_, hPx.hg.ne, hPx.hg.len, hPx.hg.nd, hPx.hg.gd⟩, by rw [upd_same, List.map_append]; rfl, by rw [upd_ne hPx.kh.symm]; exact hPx.hh, fun z hz => ?_, ?_, ?_, fun x hx => ?_, ?_, ?_, by omega⟩
        · rcases List.mem_append.mp hz with h | h
          · exact (hPx.dt z h).ext (TupE.grow hPx.hk)
          · rw [List.mem_singleton.mp h]
            exact hkd.ext (TupE.grow hPx.hk)
        · rw [hzn]
          exact hPx.lg.snoc ⟨hroot, how, hond, fun m hm => (nomatch hm), .nil⟩
        · rw [List.map_append, List.append_assoc]
          exact hnd'
        · rw [List.map_append, List.append_assoc] at hx
          exact hPx.mem x hx
        · have := hPx.hdl
          rw [List.length_append]
          have this : hd'.length + 1 + zs.length = 12 := this
          show hd'.length + 0 + (zs.length + 1) = 12
          omega
        · rw [List.length_append]
          show zs.length + 1 = i + 1
          omega
      have hO1 : OlAt K H (upd Hx kl (.lst (zs.map (·.1) ++ [.ref t]))) p q0 kl hl ol os own := ⟨hOx.no, hOx.op, hOx.oq, hOx.ok, hOx.oh, by rw [upd_ne hOx.ok]; exact hOx.at_, hOx.dt.ext (TupE.grow hPx.hk)⟩
      generalize (upd Hx kl (.lst (zs.map (·.1) ++ [.ref t]))) = Hy at hP1 hO1
      clear hPx hOx hkd kX stt ste sto nt nte nto hP9 hO9
      -- what its methods may name
      have h3 : ∀ z ∈ zs ++ [((V.ref t), Kd.mk nm root own [])], z.2.own.length ≤ 3 := fun z hz => Nat.le_trans (hP1.lg.ownN (List.mem_map.mpr ⟨z, hz, rfl⟩)).2 (by decide)
      have hov : ∀ z ∈ zs ++ [((V.ref t), Kd.mk nm root own [])], ∀ o ∈ z.2.own, o.1 ∈ ns.take 2 := fun z hz => (hP1.lg.ownN (List.mem_map.mpr ⟨z, hz, rfl⟩)).1
      have hzl1 : (zs ++ [((V.ref t), Kd.mk nm root own [])]).length ≤ 4 := by
        rw [List.length_append]
        show zs.length + 1 ≤ 4
        omega
      refine ⟨_, rfl, kl, _, ns.take 2, rfl, hP1.kds, h3, by omega, hov, fun H10 e oe ows s10 ne he hoe hse hle => ⟨_, rfl, _, rfl, kl, _, nm, rfl, hP1.kds.same s10, ⟨_, List.mem_append_right _ (List.mem_singleton.mpr rfl), rfl⟩, h3, fun H11 c2 sn s11 nc2 hc2 hsn hsm _ => ⟨c2, rfl, ⟨_, SqL.of hc2⟩, fun D nD => ?_⟩⟩⟩
      have hsn2 : sn.length ≤ 2 := by
        have := sub_len (vn := ns.take 2) hsn fun x hx => by
          obtain ⟨z, hz1, o, ho1, rfl⟩ := ownNs_mem.mp ((hsm x).mp hx)
          exact hov z (List.mem_reverse.mp ((chn_sub _ _).subset hz1)) o ho1
        omega
      refine lc_it (walk_list (K := K) (a := c2) (xs := txts sn)) (fun j H12 => Same H11 H12 ∧ ∃ ps, H12 D = some (.lst ps) ∧ DtAll K H12 ps (((sn.take j).map fun v => (("cls" : Str), v)).map owD)) ⟨same_upd nD, [], upd_same, .nil⟩ (fun j H12 _ h => SqL.of (h.1 _ _ hc2)) ?_ ?_
      · rintro j y H12 H13 hj ⟨s12, ps, hD, hps⟩ ⟨rfl, e2⟩
        obtain ⟨v, hv, rfl⟩ := txts_get e2
        have hpl : ps.length ≤ j := by
          rw [dpAll_len hps, List.length_map, List.length_map, List.length_take]
          exact Nat.min_le_left _ _
        rw [txts_len] at hj
        refine ⟨rfl, ?_⟩
        unfold tYes
        refine iteT ⟨_, rfl, two_le, fun r nr => ?_⟩
        have sr := same_upd (o := .tup [.str "cls", .str (S v)]) nr
        refine ⟨_, sr _ _ hD, small1000 (by omega), same_grow (s12.trans sr) nD, ps ++ [.ref r], upd_same, ?_⟩
        rw [List.take_add_one, hv, List.map_append, List.map_append]
        refine DtAll.ext (dpAll_app (hps.ext (TupE.same sr)) (.cons ?_ .nil)) (TupE.grow (sr _ _ hD))
        exact Dt.tup upd_same (.cons (.str _) (.cons (.str _) .nil))
      rintro H12 ⟨s12, ps, hD, hps⟩
      rw [txts_len, List.take_length] at hps
      have hpl : ps.length = sn.length := by rw [dpAll_len hps, List.length_map, List.length_map]
      have hoel : oe.length = ows.length := by rw [dpAll_len hoe, List.length_map]
      have hle2 : ows.length ≤ 8 := by
        refine Nat.le_trans hle ?_
        rw [hns2]
        omega
      refine ⟨D, 2, ps, rfl, rfl, hD, by decide, by decide, Nat.le_of_lt (small1000 (by show ps.length * 2 ≤ 1000; omega)), fun r nr => ?_⟩
      rw [show (List.replicate (2 : Int).toNat ps).flatten = ps ++ ps by show ps ++ (ps ++ []) = _; rw [List.append_nil]]
      have sr := same_upd (o := .lst (ps ++ ps)) nr
      have s112 := (s11.trans s12).trans sr
      refine ⟨e, r, oe, _, rfl, rfl, s112 _ _ he, upd_same, Nat.le_of_lt (small1000 (by rw [List.length_append]; omega)), fun o no => ?_⟩
      have so := same_upd (o := .lst (oe ++ (ps ++ ps))) no
      have sA := (s10.trans s112).trans so
      have kA := Kp.of hP1.kp.2 sA
      have hP2 := hP1.go kA
      have hO2 := hO1.go hP1.kp.2 kA
      have op : o ≠ p := bag_ne (hP1.kp.2.same (s10.trans s112)) no
      have how2 : ∀ x ∈ ows ++ ((sn.map fun v => (("cls" : Str), v)) ++ (sn.map fun v => (("cls" : Str), v))), OwsK (zs.map (·.2) ++ [Kd.mk nm root own []]) nm x := fun x hx => by
        have cls : x ∈ (sn.map fun v => (("cls" : Str), v)) → OwsK (zs.map (·.2) ++ [Kd.mk nm root own []]) nm x := fun h => by
          obtain ⟨v, hv, rfl⟩ := List.mem_map.mp h
          have := (hsm v).mp hv
          rw [see_chn, List.map_reverse, hzn] at this
          exact .inr ⟨rfl, this⟩
        rcases List.mem_append.mp hx with h | h
        · have := seenK_of (hse x h)
          rw [hzn] at this
          exact .inl this
        · exact (List.mem_append.mp h).elim cls cls
      have hks : ∀ k ∈ zs.map (·.2) ++ [Kd.mk nm root own []], GoodN k.nm ∧ ∀ o ∈ k.own, GoodN o.1 := fun k hk => by
        rw [← hzn] at hk
        refine ⟨?_, fun o ho => hng _ (List.mem_of_mem_take ((hP1.lg.ownN hk).1 o ho))⟩
        obtain ⟨z, hz, rfl⟩ := List.mem_map.mp hk
        exact hng _ (hP1.mem _ (List.mem_append_left _ (List.mem_map.mpr ⟨z, hz, rfl⟩)))
      have hWs : OwsAt K (upd (upd H12 r (.lst (ps ++ ps))) o (.lst (oe ++ (ps ++ ps)))) p o (oe ++ (ps ++ ps)) (ows ++ ((sn.map fun v => (("cls" : Str), v)) ++ (sn.map fun v => (("cls" : Str), v)))) := by
        refine ⟨op, upd_same, ?_, fun x hx => ?_, ?_⟩
        · rw [List.map_append, List.map_append]
          exact DtAll.ext (dpAll_app (hoe.ext (TupE.same s112)) (dpAll_app (hps.ext (TupE.same sr)) (hps.ext (TupE.same sr)))) (TupE.same so)
        · rcases how2 x hx with ⟨k, hk, e1, hm⟩ | ⟨e1, hm⟩
          · obtain ⟨k2, hk2, o2, ho2, e2⟩ := see_mem hm
            exact ⟨.inr ⟨k.nm, e1, (hks k hk).1⟩, e2 ▸ (hks k2 (List.mem_reverse.mp hk2)).2 o2 ho2⟩
          · obtain ⟨k2, hk2, o2, ho2, e2⟩ := see_mem hm
            exact ⟨.inl e1, e2 ▸ (hks k2 (List.mem_reverse.mp hk2)).2 o2 ho2⟩
        · rw [List.length_append, List.length_append, List.length_map]
          omega
      generalize (upd (upd H12 r (.lst (ps ++ ps))) o (.lst (oe ++ (ps ++ ps)))) = Hz at hP2 hO2 hWs
      generalize (ows ++ ((sn.map fun v => (("cls" : Str), v)) ++ (sn.map fun v => (("cls" : Str), v)))) = owz at how2 hWs
      generalize (oe ++ (ps ++ ps)) = oz at hWs
      clear kA sA so s112 sr nr no hps hD s12 nD hpl hoel hle2 hsm hsn hc2 nc2 s11 hoe hse hle he ne s10 hP1 hO1
      -- its methods
      have hss10 : ss.length ≤ 10 := by omega
      have hdr : (ns.drop many).length = 12 - many := by rw [List.length_drop, hnl]
      have hdis : ∀ z ∈ ns.drop many, z ∉ ss := fun z hz hzs => by
        have h1 := hssp.mem_iff.mp hzs
        have h2 : (ns.take many ++ ns.drop many).Nodup := by rw [List.take_append_drop]; exact hnd
        exact (List.nodup_append.mp h2).2.2 z h1 z hz rfl
      refine ⟨_, rfl, _, rfl, _, rfl, q0, txts ns, rfl, SqL.of hP2.hq, fun c nc => ?_⟩
      rw [show (2 : Int) = ((2 : Nat) : Int) from rfl, show (5 : Int) = ((5 : Nat) : Int) from rfl, cut_mid _ 2 5 (by decide) (by rw [txts_len]; omega), show ((txts ns).drop 2).take (5 - 2) = txts ((ns.drop 2).take 3) by unfold txts; rw [List.map_take, List.map_drop]]
      have sc := same_upd (o := .lst (txts ((ns.drop 2).take 3))) nc
      have cp : c ≠ p := bag_ne hP2.kp.2 nc
      have hP3 := hP2.go (Kp.of hP2.kp.2 sc)
      have hO3 := hO2.go hP2.kp.2 (Kp.of hP2.kp.2 sc)
      have hW3 := hWs.go hP2.kp.2 (Kp.of hP2.kp.2 sc)
      have hc3 : (upd Hz c (.lst (txts ((ns.drop 2).take 3)))) c = some (.lst (txts ((ns.drop 2).take 3))) := upd_same
      generalize (upd Hz c (.lst (txts ((ns.drop 2).take 3)))) = Hw at hP3 hO3 hW3 hc3
      clear sc nc hWs hO2 hP2
      refine ⟨c, rfl, ⟨_, SqL.of hc3⟩, fun D nD => ?_⟩
      have Dp : D ≠ p := bag_ne hP3.kp.2 nD
      have hmn : ((ns.drop 2).take 3).Nodup := List.Sublist.nodup ((List.take_sublist _ _).trans (List.drop_sublist _ _)) hnd
      refine lc_it (walk_list (K := K) (a := c) (xs := txts ((ns.drop 2).take 3))) (fun j H9 => Kp p Hw H9 ∧ ∃ vs ms, H9 D = some (.lst vs) ∧ DtAll K H9 vs (ms.map Md.data) ∧ (∀ m ∈ ms, m.nm ∈ ((ns.drop 2).take 3).take j ∧ MdG ns ss many (zs.map (·.2) ++ [Kd.mk nm root own []]) nm m) ∧ (ms.map Md.nm).Nodup ∧ ms.length ≤ j) ⟨Kp.of hP3.kp.2 (same_upd nD), [], [], upd_same, .nil, fun m hm => (nomatch hm), .nil, Nat.le_refl _⟩ (fun j H9 _ h => SqL.of (h.1.1 _ _ cp hc3)) ?_ ?_
      · rintro j y H9 H10 hj ⟨k9, vs, ms, hD, hvs, hms, hmnd, hml⟩ ⟨rfl, e2⟩
        obtain ⟨v, hv, rfl⟩ := txts_get e2
        have hj3 : j < 3 := by
          rw [txts_len, List.length_take] at hj
          omega
        have hvsl : vs.length = ms.length := by rw [dpAll_len hvs, List.length_map]
        have upj : ∀ m ∈ ms, m.nm ∈ ((ns.drop 2).take 3).take (j + 1) ∧ MdG ns ss many (zs.map (·.2) ++ [Kd.mk nm root own []]) nm m := fun m hm => ⟨by
          rw [List.take_add_one]
          exact List.mem_append_left _ (hms m hm).1, (hms m hm).2⟩
        refine ⟨rfl, _, rfl, p, 3, rfl, k9.2, by decide, by decide, fun H11 r k11 _ _ => ⟨_, _, rfl, rfl, _, rfl, ite2 (fun _ => ?_) (fun _ => ?_)⟩⟩
        case refine_2 => exact ⟨k9.trans k11, vs, ms, k11.1 _ _ Dp hD, hvs.ext (TupE.kp k9.2 k11), upj, hmnd, by omega⟩
        have k911 := k9.trans k11
        have hP11 := hP3.go k911
        have hW11 := hW3.go hP3.kp.2 k911
        refine ⟨_, rfl, _, rfl, _, rfl, _, rfl, _, rfl, q0, txts ns, rfl, SqL.of hP11.hq, fun b nb => ?_⟩
        rw [cut_from _ many (by rw [txts_len]; omega), show (txts ns).drop many = txts (ns.drop many) by unfold txts; rw [List.map_drop]]
        have sb := same_upd (o := .lst (txts (ns.drop many))) nb
        have kB := k911.same sb
        have hPb := hP3.go kB
        have hWb := hW3.go hP3.kp.2 kB
        have bp : b ≠ p := bag_ne hP11.kp.2 nb
        refine ⟨_, rfl, _, rfl, p, b, sg, o, v, ns.drop many, ss, oz, owz, rfl, kB.2, ⟨bp, upd_same, by omega⟩, by omega, by omega, List.Sublist.nodup (List.drop_sublist _ _) hnd, fun z hz => hng z (List.mem_of_mem_drop hz), hPb.hg, hss10, hdis, hWb, fun H12 y prs ds rd k12 hdt hMG => ?_⟩
        have kC := kB.trans k12
        have hD12 : H12 D = some (.lst vs) := k12.1 _ _ Dp (sb _ _ (k11.1 _ _ Dp hD))
        refine ⟨_, hD12, small1000 (by omega), kp_new (H := Hw) kC nD Dp, vs ++ [y], ms ++ [⟨v, prs, ds, rd⟩], upd_same, ?_, fun m hm => ?_, ?_, ?_⟩
        · rw [List.map_append]
          exact DtAll.ext (dpAll_app (hvs.ext (((TupE.kp k9.2 k11).trans (TupE.same sb)).trans (TupE.kp kB.2 k12))) (.cons hdt .nil)) (TupE.grow hD12)
        · rcases List.mem_append.mp hm with h | h
          · exact upj m h
          · rw [List.mem_singleton.mp h]
            refine ⟨?_, List.mem_of_getElem? hv, owz, how2, hMG⟩
            rw [List.take_add_one, hv]
            exact List.mem_append_right _ (List.mem_singleton.mpr rfl)
        · rw [List.map_append]
          refine List.nodup_append.mpr ⟨hmnd, by simp, fun x hx y hy => ?_⟩
          have hy : y ∈ [v] := hy
          obtain ⟨m, hm, rfl⟩ := List.mem_map.mp hx
          rw [List.mem_singleton.mp hy]
          intro e4
          obtain ⟨z, hz, e5⟩ := List.mem_take_iff_getElem.mp (hms m hm).1
          obtain ⟨hvl, e6⟩ := List.getElem?_eq_some_iff.mp hv
          have := (List.getElem_inj hmn).mp (e5.trans (e4.trans e6.symm))
          omega
        · rw [List.length_append]
          show ms.length + 1 ≤ j + 1
          omega
      rintro H9 ⟨k9, vs, ms, hD, hvs, hms, hmnd, hml⟩
      have hP4 := hP3.go k9
      have hO4 := hO3.go hP3.kp.2 k9
      clear hP3 hO3 hW3 k9
      -- the kind with its methods
      refine ⟨_, rfl, _, rfl, _, rfl, ol, os, rfl, .inl ⟨SqL.of hO4.at_, fun to nto => ⟨_, rfl, D, vs, rfl, .inl ⟨SqL.of (same_upd nto _ _ hD), fun tm ntm => ⟨by show 4 ≤ sizeLine; decide, fun t2 nt2 => ?_⟩⟩⟩⟩⟩
      have sto := same_upd (o := .tup os) nto
      have stm := same_upd (o := .tup vs) ntm
      have st2 := same_upd (o := .tup [.str (S nm), rootV root, .ref to, .ref tm]) nt2
      have kX := Kp.of hP4.kp.2 ((sto.trans stm).trans st2)
      have hPx := hP4.go kX
      have hkd : Dt K _ (.ref t2) (Kd.mk nm root own ms).data := kind_dt upd_same (st2 _ _ (stm _ _ upd_same)) (hO4.dt.ext (TupE.kp hP4.kp.2 kX)) (st2 _ _ upd_same) (hvs.ext (TupE.kp hP4.kp.2 kX))
      have hixl : ixN ((zs ++ [((V.ref t), Kd.mk nm root own [])]).map (·.1)).length (-1) = some zs.length := by
        unfold ixN
        rw [List.length_map, List.length_append, if_neg (by decide), if_pos (by show -((zs.length + 1 : Nat) : Int) ≤ -1; omega)]
        congr 1
        show (-1 + ((zs.length + 1 : Nat) : Int)).toNat = zs.length
        omega
      refine ⟨_, rfl, 1, rfl, kl, _, -1, zs.length, rfl, rfl, hPx.hk, hixl, ?_⟩
      rw [show ((zs ++ [((V.ref t), Kd.mk nm root own [])]).map (·.1)).set zs.length (.ref t2) = (zs ++ [((V.ref t2), Kd.mk nm root own ms)]).map (·.1) by
        rw [List.map_append, List.map_append, List.set_append_right _ _ (by rw [List.length_map]; exact Nat.le_refl _), List.length_map, Nat.sub_self]
        rfl]
      generalize (upd _ t2 _) = Hx at hPx hkd
      have hzn2 : (zs ++ [((V.ref t2), Kd.mk nm root own ms)]).map (·.2) = zs.map (·.2) ++ [Kd.mk nm root own ms] := by rw [List.map_append]; rfl
      have hlg0 : LGi ns ss many (zs.map (·.2)) := hP8lg
      refine ⟨_, _, _, _, _, _, _, _, _, _, hd', rfl, kp_new hPx.kp hPx.nkl hPx.kp', hPx.nkl, hPx.nhl, hPx.kp', hPx.hp', hPx.qp, hPx.qk, hPx.qh, hPx.kh, by rw [upd_ne hPx.qk]; exact hPx.hq, ⟨hPx.hg.np, TupE.grow hPx.hk _ _ hPx.hg.at_, hPx.hg.ne, hPx.hg.len, hPx.hg.nd, hPx.hg.gd⟩, upd_same, by rw [upd_ne hPx.kh.symm]; exact hPx.hh, fun z hz => ?_, ?_, ?_, fun x hx => hPx.mem x ?_, ?_, ?_, by omega⟩
      · rcases List.mem_append.mp hz with h | h
        · exact (hPx.dt z (List.mem_append_left _ h)).ext (TupE.grow hPx.hk)
        · rw [List.mem_singleton.mp h]
          exact hkd.ext (TupE.grow hPx.hk)
      · rw [hzn2]
        refine hlg0.snoc ⟨hroot, how, hond, fun m hm => ?_, hmnd⟩
        obtain ⟨_, h1, ows, h2, h3⟩ := hms m hm
        exact ⟨h1, ows, fun x hx => owsK_last (k' := Kd.mk nm root own []) rfl rfl rfl (h2 x hx), h3⟩
      · have := hPx.nd
        rw [List.map_append] at this ⊢
        exact this
      · rw [List.map_append] at hx ⊢
        exact hx
      · have := hPx.hdl
        rw [List.length_append] at this ⊢
        exact this
      · have := hPx.len
        rw [List.length_append] at this ⊢
        exact this
    · rintro σ H3 ⟨x7, x8, x9, x10, x11, x12, x13, x14, x15, zs, hd, rfl, hP⟩
      have hzl := hP.len
      have hr : 1 ≤ (1 + r).toNat := by omega
      refine ⟨_, rfl, _, rfl, kl, _, rfl, .inl ⟨SqL.of hP.hk, fun kt nkt => ⟨two_le, fun t nt => ?_⟩⟩⟩
      have skt := same_upd (o := .tup (zs.map (·.1))) nkt
      have st := same_upd (o := .tup [.ref sg, .ref kt]) nt
      have sA := skt.trans st
      refine q _ t sg kt zs ns ss (hP.kp.same sA) upd_same (sA _ _ hP.hg.at_) (st _ _ upd_same) (fun z hz => (hP.dt z hz).ext (TupE.same sA)) ⟨hnl, hnd, hng, m1, m4, hssp, hsrt, ?_, ?_, ?_, fun k hk => ?_, hP.lg⟩
      · rw [List.length_map]
        have := hP.n4
        omega
      · rw [List.length_map]
        omega
      · have := (List.nodup_append.mp hP.nd).1
        rw [List.map_map]
        exact this
      · obtain ⟨z, hz, rfl⟩ := List.mem_map.mp hk
        exact hP.mem _ (List.mem_append_left _ (List.mem_map.mpr ⟨z, hz, rfl⟩))
end
end Dr
namespace Dr
open PySem PySem.Spec PyProof.Rows L2
open SX (S S_len S_cat)
theorem eqvR {d : PyData} (h : OkD d) : PyData.eqv d d = true := SeqAt.eqv_refl_plain _ (PyData.plain_of_canLay0 _ (SeqAt.canLay_of_shaped h.sh))
theorem mF_name {vn vp vr vx : V} : (mF vn vp vr vx).lookup ("name" : Str) = some vn := by
  unfold mF
  rw [lookup_putF, if_neg (by decide +kernel), lookup_putF, if_neg (by decide +kernel), lookup_putF, if_neg (by decide +kernel), lookup_putF, if_pos rfl]
theorem mF_params {vn vp vr vx : V} : (mF vn vp vr vx).lookup ("params" : Str) = some vp := by
  unfold mF
  rw [lookup_putF, if_neg (by decide +kernel), lookup_putF, if_neg (by decide +kernel), lookup_putF, if_pos rfl]
theorem mF_rows {vn vp vr vx : V} : (mF vn vp vr vx).lookup ("rows" : Str) = some vr := by
  unfold mF
  rw [lookup_putF, if_neg (by decide +kernel), lookup_putF, if_pos rfl]
theorem mF_returns {vn vp vr vx : V} : (mF vn vp vr vx).lookup ("returns" : Str) = some vx := by
  unfold mF
  rw [lookup_putF, if_pos rfl]
/-- either of two rules -/
theorem op_or {X : Cx} {op : Value → Value → Sem Value} {r1 r2 : R2} (h1 : OpR X op r1) (h2 : OpR X op r2) : OpR X op (fun x y H Q => r1 x y H Q ∨ r2 x y H Q) := fun pins s σ H x y v u Q I rx ry h =>
  h.elim (fun z => h1 pins s σ H x y v u Q I rx ry z) fun z => h2 pins s σ H x y v u Q I rx ry z
/-- two tuples that have the same instance at each place that both have -/
def rEqP (K : PySem.W.Frag) : R2 := fun x y H Q => ∃ a b xs ys, x = .ref a ∧ y = .ref b ∧ SqT K H a xs ∧ SqT K H b ys ∧ (∀ (i : Nat) (u v : V), xs[i]? = some u → ys[i]? = some v → ∃ c, u = .ref c ∧ v = .ref c) ∧ Q (.bl (decide (xs.length = ys.length))) H
theorem vals_get {xs : List V} {us : List Value} (r : Vals xs us) {j : Nat} (h : j < us.length) : ∃ x, xs[j]? = some x ∧ RelV x us[j] := by
  induction r generalizing j with
  | nil => exact absurd h (Nat.not_lt_zero j)
  | @cons x u xs us hx _ ih =>
    cases j with
    | zero => exact ⟨x, rfl, hx⟩
    | succ j => exact ih (j := j) (Nat.lt_of_succ_lt_succ h)
theorem op_eqP {X : Cx} (hu : X.A.units + 64 < cLine) : OpR X (compareOp .Eq) (rEqP X.K) := by
  intro pins s σ H x y v u Q I rx ry h
  obtain ⟨a, b, xs, ys, rfl, rfl, ha, hb, hp, q⟩ := h
  cases (show v = Value.ref a from rx)
  cases (show u = Value.ref b from ry)
  obtain ⟨us, r1, ⟨o1, ho1, hc1, n1, hd1⟩, _⟩ := I.tuple ha
  obtain ⟨ws, r2, ⟨o2, ho2, hc2, n2, hd2⟩, _⟩ := I.tuple hb
  refine SeqAt.rcIn_tuples (e := fun _ => true) ⟨o1, ho1, hc1, n1, hd1⟩ ⟨o2, ho2, hc2, n2, hd2⟩ (by omega) (fun j h1 h2 => ?_) ?_
  · obtain ⟨x, hx, rx⟩ := vals_get r1 (j := j) (by simpa using h1)
    obtain ⟨y, hy, ry⟩ := vals_get r2 (j := j) (by simpa using h2)
    obtain ⟨c, rfl, rfl⟩ := hp j _ _ hx hy
    have e1 : us.toArray[j] = Value.ref c := by
      have : us[j]'(by simpa using h1) = Value.ref c := rx
      simpa using this
    have e2 : ws.toArray[j] = Value.ref c := by
      have : ws[j]'(by simpa using h2) = Value.ref c := ry
      simpa using this
    rw [e1, e2]
    exact (SeqAt.EqAt.same _).inModel _ _
  · rw [show ((List.range (min us.toArray.size ws.toArray.size)).all fun _ => true) = true from List.all_eq_true.mpr fun _ _ => rfl]
    have e : (true && us.toArray.size == ws.toArray.size) = decide (xs.length = ys.length) := by
      rw [Bool.true_and, List.size_toArray, List.size_toArray, ← r1.length, ← r2.length]
      rfl
    rw [e]
    exact ⟨.bl _, H, I, rfl, q⟩
/-- a method of these parts stands at m -/
structure MtAt (K : PySem.W.Frag) (CM : Addr) (H : Hp) (m : Addr) (nm : Str) (as : List Addr) (tR : Addr) (dR dX : PyData) : Prop where
  ex : ∃ dx tP vX, H m = some (.ins CM dx (mF (.str nm) (.ref tP) (.ref tR) vX)) ∧ SqT K H tP (as.map V.ref) ∧ Dt K H (.ref tR) dR ∧ Dt K H vX dX
  oR : OkD dR
  oX : OkD dX
theorem MtAt.same {K : PySem.W.Frag} {CM : Addr} {H H' : Hp} {m : Addr} {nm : Str} {as : List Addr} {tR : Addr} {dR dX : PyData} (h : MtAt K CM H m nm as tR dR dX) (s : Same H H') : MtAt K CM H' m nm as tR dR dX := by
  obtain ⟨dx, tP, vX, h1, h2, h3, h4⟩ := h.ex
  exact ⟨⟨dx, tP, vX, s _ _ h1, Same.seqT s h2, h3.ext (TupE.same s), h4.ext (TupE.same s)⟩, h.oR, h.oX⟩
/-- a list is written elsewhere -/
theorem MtAt.grow {K : PySem.W.Frag} {CM : Addr} {H : Hp} {m D : Addr} {nm : Str} {as : List Addr} {tR : Addr} {dR dX : PyData} {us ys : List V} (h : MtAt K CM H m nm as tR dR dX) (hl : H D = some (.lst us)) : MtAt K CM (upd H D (.lst ys)) m nm as tR dR dX := by
  obtain ⟨dx, tP, vX, h1, h2, h3, h4⟩ := h.ex
  exact ⟨⟨dx, tP, vX, by rw [upd_ne (fun e => by rw [e, hl] at h1; cases h1)]; exact h1, sqT_grow h2 hl, h3.ext (TupE.grow hl), h4.ext (TupE.grow hl)⟩, h.oR, h.oX⟩
/-- two parameters of the same data -/
def RP (K : PySem.W.Frag) (CP : Addr) (a b : Addr) (H : Hp) : Prop := ∃ nm hs v v2 d nd, ParAt CP H a nm hs v nd ∧ ParAt CP H b nm hs v2 nd ∧ Dp K H v d ∧ Dp K H v2 d ∧ OkD d
theorem RP.ext {K : PySem.W.Frag} {CP a b : Addr} {H H' : Hp} (e : Ext H H') (h : RP K CP a b H) : RP K CP a b H' := by
  obtain ⟨nm, hs, v, v2, d, nd, ⟨dx, h1⟩, ⟨dy, h2⟩, h3, h4, h5⟩ := h
  exact ⟨nm, hs, v, v2, d, nd, ⟨dx, e _ _ h1⟩, ⟨dy, e _ _ h2⟩, dp_same e h3, dp_same e h4, h5⟩
/-- what == and isinstance read of the class Method -/
structure MtdE (K : PySem.W.Frag) (C : Addr) : Prop where
  ha : PySem.W.findIn K (.ref C) "__class__" = some (some (.builtin "object.__class__"))
  hn : PySem.W.specialIn K (.builtin "object.__class__") "__get__" = some (some (.builtin "getset_descriptor.__get__"))
  htk : PySem.W.takesIn K (.builtin "object.__class__") = some true
  hm : PySem.W.mroIn K C (.type "object") = some true
  isC : PySem.W.isClsIn K C = true
  tyC : PySem.W.typeIn K (.ref C) = some (.type "type")
abbrev sMEq : Stmt := inClass (topS 34) 6
abbrev sMPar : Stmt := inClass (topS 34) 5
theorem scMEq : FnScope ["self", "other"] ["self", "other"] (defScope sMEq) := ⟨rfl, rfl, rfl, by decide +kernel, rfl, by decide +kernel, by decide +kernel⟩
theorem scMPar : FnScope ["self", "name", "param"] ["self", "name"] (defScope sMPar) := ⟨rfl, rfl, rfl, by decide +kernel, rfl, by decide +kernel, by decide +kernel⟩
section
variable {P : Program} {w : World} {K : PySem.W.Frag} {mg : Str → Option Value} {base : Heap}
theorem peq_ext {CP f : Addr} {fd : FuncData} (G : FnOk P w K mg base CX0 1 f fd ["self", "other"] (spPEq K CP)) : FnOk P w K mg base CX0 1 f fd ["self", "other"] (spEq (RP K CP)) :=
  G.imp fun vs H Q E h => by
    obtain ⟨a, b, rfl, ⟨nm, hs, v, v2, d, nd, h1, h2, h3, h4, h5⟩, q⟩ := h
    refine ⟨a, nm, hs, v, d, nd, .ref b, rfl, h1, h3, h5, .inl ⟨b, nm, hs, v2, d, nd, rfl, h2, h4, h5, ?_⟩⟩
    rw [decide_eq_true rfl, decide_eq_true rfl, decide_eq_true rfl, eqvR h5]
    exact q H Ext.rfl'
def spMEq (K : PySem.W.Frag) (CM CP : Addr) : Sp := fun vs H Q _ => ∃ (a : Addr) (nm : Str) (as : List Addr) (tR : Addr) (dR dX : PyData) (y : V), vs = [.ref a, y] ∧ MtAt K CM H a nm as tR dR dX ∧
  ((∃ (b : Addr) (nm2 : Str) (bs : List Addr) (tR2 : Addr) (dR2 dX2 : PyData) (pe : Bool), y = .ref b ∧ MtAt K CM H b nm2 bs tR2 dR2 dX2 ∧ (((∀ (i : Nat) (c d : Addr), as[i]? = some c → bs[i]? = some d → c = d) ∧ pe = decide (as.length = bs.length)) ∨ (pe = true ∧ Prs (DIns CP (RP K CP)) (as.map V.ref) (bs.map V.ref) H)) ∧
      ∀ H', Same H H' → Q (.bl (((decide (nm = nm2) && pe) && PyData.eqv dR dR2) && PyData.eqv dX dX2)) H') ∨
    ∃ e : PyData, Dp K H y e ∧ Q (.bl false) H)
theorem ok_meq {CM CP f g : Addr} {mc : Value} {fd gd : FuncData} (F : Fun K "__eq__" "Method.__eq__" sMEq f fd) (W : Wds K mg) (TM : Mtd K mg CM mc) (T : MtdE K CM)
    (G : FnOk P w K mg base CX0 1 g gd ["self", "other"] (spPEq K CP)) (gs : PySem.W.findIn K (.ref CP) "__eq__" = some (some (.ref g))) (gf : PySem.W.isFn K (.ref g) = true) (gb : Binds K gd ["self", "other"] []) : FnOk P w K mg base CX0 3 f fd ["self", "other"] (spMEq K CM CP) := by
  refine F.ok scMEq (fun vs H Q E h => ?_) (fun cdv A outer s H vs Q E hr h => ?_)
  · obtain ⟨a, nm, as, tR, dR, dX, y, rfl, _⟩ := h
    rfl
  · obtain ⟨a, nm, as, tR, dR, dX, y, rfl, hA, hy⟩ := h
    obtain ⟨dx, tP, vX, ha, hP, hR0, hX0⟩ := hA.ex
    have hR := hR0.dp
    have hX := hX0.dp
    have hu : (A.deeper (envOfC "Method.__eq__" (defScope sMEq) s.heap.objs.size f cdv)).units + 64 < cLine := hr.units
    have G2 := peq_ext G
    refine ⟨_, pss_one (ps_ret (pe_and (pe_callB call_isi (by rfl) W.isi (by decide +kernel) (pa_cons (pv 1) (pa_cons (pe_glob (v := .ref CM) (by rfl) TM.mgC rfl) pa_nil)))
      (pe_and (pe_cmpR op_eq (pe_fld (pv 0) rfl) (pe_fld (pv 1) rfl) (nomark _))
        (pe_and (pe_cmpR (op_or (op_eqP hu) (op_eqG (rcG_tup (D := DIns CP (RP K CP)) (mon_ins (R := RP K CP) fun a b H H' e h => RP.ext e h) (eqG_ins (R := RP K CP) G2 gs gf gb pass0)) hr)) (pe_fld (pv 0) rfl) (pe_fld (pv 1) rfl) (nomark _))
        (pe_and (pe_cmpR (op_eqD hu) (pe_fld (pv 0) rfl) (pe_fld (pv 1) rfl) (nomark _)) (pe_one (pe_cmpR (op_eqD hu) (pe_fld (pv 0) rfl) (pe_fld (pv 1) rfl) (nomark _)))))))), ?_⟩
    rcases hy with ⟨b, nm2, bs, tR2, dR2, dX2, pe, rfl, hB, hpe, q⟩ | ⟨e, he, q⟩
    · obtain ⟨dy, tP2, vX2, hb0, hP2, hR20, hX20⟩ := hB.ex
      have hR2 := hR20.dp
      have hX2 := hX20.dp
      refine ⟨_, rfl, _, .ref CM, _, _, true, rfl, .own CM, .base (.ins hb0 TM.cl T.ha T.hn T.htk T.hm), kit_self CM, _, rfl, iteT ?_⟩
      have ds : decide (V.str nm = V.str nm2) = decide (nm = nm2) := decide_eq_decide.mpr ⟨fun e => V.str.inj e, fun e => by rw [e]⟩
      refine ⟨_, rfl, a, CM, dx, _, _, rfl, ha, TM.cl, TM.nN, mF_name, _, rfl, b, CM, dy, _, _, rfl, hb0, TM.cl, TM.nN, mF_name, rfl, _, rfl, ?_⟩
      rw [ds]
      cases e1 : decide (nm = nm2) with
      | false =>
        rw [e1] at q
        exact iteF (q H (Same.refl _))
      | true =>
      rw [e1] at q
      refine iteT ⟨_, rfl, a, CM, dx, _, _, rfl, ha, TM.cl, TM.nP, mF_params, _, rfl, b, CM, dy, _, _, rfl, hb0, TM.cl, TM.nP, mF_params, ?_⟩
      rcases hpe with ⟨hpre, rfl⟩ | ⟨rfl, hprs⟩
      · refine .inl ⟨tP, tP2, _, _, rfl, rfl, hP, hP2, fun i u v h1 h2 => ?_, _, rfl, ?_⟩
        · rw [List.getElem?_map] at h1 h2
          cases h3 : as[i]? with
          | none =>
            rw [h3] at h1
            cases h1
          | some c =>
            cases h4 : bs[i]? with
            | none =>
              rw [h4] at h2
              cases h2
            | some d =>
              rw [h3] at h1
              rw [h4] at h2
              obtain rfl := Option.some.inj h1
              obtain rfl := Option.some.inj h2
              obtain rfl := hpre i c d h3 h4
              exact ⟨c, rfl, rfl⟩
        rw [List.length_map, List.length_map]
        have sm := Same.refl H
        by_cases e2 : as.length = bs.length
        case neg =>
          rw [decide_eq_false e2] at q ⊢
          exact iteF (q _ sm)
        rw [decide_eq_true e2] at q ⊢
        refine iteT ⟨_, rfl, a, CM, dx, _, _, rfl, sm _ _ ha, TM.cl, TM.nR, mF_rows, _, rfl, b, CM, dy, _, _, rfl, sm _ _ hb0, TM.cl, TM.nR, mF_rows, dR, dR2, dp_same sm hR, dp_same sm hR2, hA.oR.sh, hB.oR.sh, _, rfl, ?_⟩
        cases e3 : PyData.eqv dR dR2 with
        | false =>
          rw [e3] at q
          exact iteF (q _ sm)
        | true =>
        rw [e3] at q
        exact iteT ⟨_, rfl, a, CM, dx, _, _, rfl, sm _ _ ha, TM.cl, TM.nX, mF_returns, _, rfl, b, CM, dy, _, _, rfl, sm _ _ hb0, TM.cl, TM.nX, mF_returns, dX, dX2, dp_same sm hX, dp_same sm hX2, hA.oX.sh, hB.oX.sh, q _ sm⟩
      · refine .inr ⟨⟨tP, tP2, _, _, rfl, rfl, hP, hP2, hprs⟩, fun H' sm => ⟨_, rfl, ?_⟩⟩
        have sm : Same H H' := sm
        refine iteT ⟨_, rfl, a, CM, dx, _, _, rfl, sm _ _ ha, TM.cl, TM.nR, mF_rows, _, rfl, b, CM, dy, _, _, rfl, sm _ _ hb0, TM.cl, TM.nR, mF_rows, dR, dR2, dp_same sm hR, dp_same sm hR2, hA.oR.sh, hB.oR.sh, _, rfl, ?_⟩
        cases e3 : PyData.eqv dR dR2 with
        | false =>
          rw [e3] at q
          exact iteF (q _ sm)
        | true =>
        rw [e3] at q
        exact iteT ⟨_, rfl, a, CM, dx, _, _, rfl, sm _ _ ha, TM.cl, TM.nX, mF_returns, _, rfl, b, CM, dy, _, _, rfl, sm _ _ hb0, TM.cl, TM.nX, mF_returns, dX, dX2, dp_same sm hX, dp_same sm hX2, hA.oX.sh, hB.oX.sh, q _ sm⟩
    · refine ⟨_, rfl, y, .ref CM, _, _, false, rfl, .own CM, dp_ty he, kit_own T.isC T.tyC e, _, rfl, iteF q⟩
end
end Dr
namespace Dr
open PySem PySem.Spec PyProof.Rows L2
open SX (S S_len S_cat)
theorem passX {X : Cx} {σ : L2.St} : PassesAt (L2.CX X.prog X.w) X σ E0 := fun _ _ _ _ _ _ c => by
  obtain ⟨_, _, _, _, _, _, _, _, _, _, _, _, h⟩ := c
  exact h.elim
theorem mF_param {vn vp vr vx : V} : (mF vn vp vr vx).lookup ("param" : Str) = none := by
  unfold mF
  rw [lookup_putF, if_neg (by decide +kernel), lookup_putF, if_neg (by decide +kernel), lookup_putF, if_neg (by decide +kernel), lookup_putF, if_neg (by decide +kernel)]
  rfl
/-- right parts of a method -/
structure MArgs (K : PySem.W.Frag) (CP : Addr) (H : Hp) (z : Str) (as : List Addr) (is : List Pi) (tR : Addr) (rows : List V) (ds : List PyData) (vX : V) (dX : PyData) : Prop where
  zk : OkD (.str z)
  zn : isNameD (.str z) = true
  ps : PsAt CP H as is
  le : as.length ≤ 4
  new : ∀ j, NewAt [] (is.map Pi.nm) j
  ord : ∀ (i : Nat) p q, is[i]? = some p → is[i + 1]? = some q → badPair p q = false
  bx : (holding "box" is).length ≤ 2
  hR : SqT K (tu H) tR rows
  hd : DtAll K H rows ds
  l8 : rows.length ≤ 8
  okd : ∀ d ∈ ds, OkD d
  okR : OkD (.tuple ds)
  hX : Dt K H vX dX
  okX : OkD dX
  fb : fbr (holding "mark" is) (holding "box" is) ds dX 0 = none
theorem MArgs.same {K : PySem.W.Frag} {CP : Addr} {H H' : Hp} {z : Str} {as : List Addr} {is : List Pi} {tR : Addr} {rows : List V} {ds : List PyData} {vX : V} {dX : PyData} (h : MArgs K CP H z as is tR rows ds vX dX) (s : Same H H') : MArgs K CP H' z as is tR rows ds vX dX :=
  ⟨h.zk, h.zn, h.ps.same s, h.le, h.new, h.ord, h.bx, Same.seqT (tu_ext (TupE.same s)) h.hR, h.hd.ext (TupE.same s), h.l8, h.okd, h.okR, h.hX.ext (TupE.same s), h.okX, h.fb⟩
section
variable {P : Program} {w : World} {K : PySem.W.Frag} {mg : Str → Option Value} {base : Heap}
theorem mi_ok {CM CP : Addr} {x : MErr} {H H1 : Hp} {z : Str} {as : List Addr} {is : List Pi} {tR : Addr} {rows : List V} {ds : List PyData} {vX : V} {dX : PyData} {p dx tP : Addr} {Q : VK} {E : XK} (h : MArgs K CP H z as is tR rows ds vX dX) (s : Same H H1) (hp : H1 p = some (.ins CM dx [])) (np : H p = none) (hP : SqT K H1 tP (as.map V.ref))
    (q : ∀ H' m, Same H H' → H m = none → MtAt K CM H' m z as tR (.tuple ds) dX → Q (.ref m) H') : spMI K CM CP x [.ref p, .str z, .ref tR, vX, .ref tP] H1 (fun v H3 => v = .non ∧ Q (.ref p) H3) E := by
  have h1 := h.same s
  refine ⟨p, dx, tR, tP, .str z, vX, .str z, dX, as, is, rows, ds, rfl, hp, ⟨.str _, h.zk, h.zn⟩, hP, h1.ps, h.le, h.new, h.ord, h.bx, Same.seqT tu_sub h1.hR, h1.hd.dp, h.l8, h.okd, h1.hX.dp, h.okX, fun i hf => ?_, fun _ H' hk hz => ⟨rfl, ?_⟩⟩
  · rw [h.fb] at hf
    cases hf
  have ip : ∀ {b : Addr} {xs : List V}, SqT K H1 b xs → SqT K H' b xs := fun {b xs} hb => by
    rcases hb with (hb | ⟨o, hb⟩) | hb
    · exact .inl (.inl (hk _ _ (fun e => by rw [e, hp] at hb; cases hb) hb))
    · exact .inl (.inr ⟨o, hk _ _ (fun e => by rw [e, hp] at hb; cases hb) hb⟩)
    · exact .inr hb
  have sm : Same H H' := fun b o e => hk b o (ne_of_none e np) (s _ _ e)
  exact q H' p sm np ⟨⟨dx, tP, vX, hz, ip hP, Dp.tup (Same.seqT (tu_ext (TupE.same sm)) h.hR) (h.hd.ext (TupE.same sm)), h.hX.ext (TupE.same sm)⟩, h.okR, h.okX⟩
theorem mof_ok {CM CP aL : Addr} {x : MErr} {H : Hp} {z : Str} {as : List Addr} {is : List Pi} {tR : Addr} {rows : List V} {ds : List PyData} {vX : V} {dX : PyData} {Q : VK} {E : XK} (hL : SqT K H aL (as.map V.ref) ∨ SqL K H aL (as.map V.ref)) (h : MArgs K CP H z as is tR rows ds vX dX)
    (q : ∀ H' m, Same H H' → H m = none → MtAt K CM H' m z as tR (.tuple ds) dX → Q (.ref m) H') : spMOf K CM CP x [.ref CM, .str z, .ref aL, .ref tR, vX] H Q E :=
  ⟨.str z, aL, .ref tR, vX, as, rfl, hL, by have := h.le; omega, fun p dx tP H1 s hp hT np => mi_ok h s hp np (SqT.of hT) q⟩
theorem bind_ofS {aE aX f : Addr} {fd : FuncData} (F : FMOf K aE aX f fd) : ∃ mv : List Value, KBn K fd psMOf 3 ["returns", "rows"] (fun us ws => us ++ (ws.reverse ++ mv)) (fun vs zs => vs ++ (zs.reverse ++ [])) := by
  exact F.kbinds0 (ps := psMOf) 3 ["returns", "rows"] [] (fun us mv ws => us ++ (ws.reverse ++ mv)) (by simp) (fun q hq => by cases hq) (fun r1 r2 r3 => r1.append (r3.reverse.append r2))
    (fun D doc pm an cdv ct us mv ws l1 l2 l3 => match us, mv, ws, l1, l2, l3 with | [_, _, _], [], [_, _], _, _, _ => rfl)
theorem bind_ofR {aE aX f : Addr} {fd : FuncData} (F : FMOf K aE aX f fd) : ∃ mv : List Value, KBn K fd psMOf 3 ["rows"] (fun us ws => us ++ (ws ++ mv)) (fun vs zs => vs ++ (zs ++ [.ref aX])) := by
  exact F.kbinds0 (ps := psMOf) 3 ["rows"] [("returns", .ref aX)] (fun us mv ws => us ++ (ws ++ mv)) (by simp) (fun q hq => by
      rcases List.mem_cons.mp hq with e | hq
      · rw [e]; simp
      · cases hq) (fun r1 r2 r3 => r1.append (r3.append r2))
    (fun D doc pm an cdv ct us mv ws l1 l2 l3 => match us, mv, ws, l1, l2, l3 with | [_, _, _], [_], [_], _, _, _ => ⟨_, _, _, _, _, _, rfl, rfl, rfl⟩)
theorem bind_of0 {aE aX f : Addr} {fd : FuncData} (F : FMOf K aE aX f fd) : ∃ mv : List Value, KBn K fd psMOf 3 [] (fun us ws => us ++ (ws ++ mv)) (fun vs zs => vs ++ (zs ++ [.ref aE, .ref aX])) := by
  exact F.kbinds0 (ps := psMOf) 3 [] [("rows", .ref aE), ("returns", .ref aX)] (fun us mv ws => us ++ (ws ++ mv)) (by simp) (fun q hq => hq) (fun r1 r2 r3 => r1.append (r3.append r2))
    (fun D doc pm an cdv ct us mv ws l1 l2 l3 => match us, mv, ws, l1, l2, l3 with | [_, _, _], [_, _], [], _, _, _ => ⟨_, _, _, _, _, _, rfl, rfl, ⟨_, _, _, _, _, _, rfl, rfl, rfl⟩⟩)
/-- the parameter of a name -/
def spMPar (K : PySem.W.Frag) (CM CP : Addr) : Sp := fun vs H Q _ => ∃ (m : Addr) (nm : Str) (as : List Addr) (is : List Pi) (tR : Addr) (dR dX : PyData) (y : V) (d : PyData), vs = [.ref m, y] ∧ MtAt K CM H m nm as tR dR dX ∧ PsAt CP H as is ∧ (∀ p ∈ is, OkD (.str p.nm)) ∧ Dp K H y d ∧ OkD d ∧
  (∀ (i : Nat) a p, as[i]? = some a → is[i]? = some p → PyData.eqv (.str p.nm) d = true → (∀ p' ∈ is.take i, PyData.eqv (.str p'.nm) d = false) → Q (.ref a) H) ∧ ((∀ p ∈ is, PyData.eqv (.str p.nm) d = false) → Q .non H)
theorem ok_mpar {CM CP f : Addr} {mc : Value} {fd : FuncData} (F : Fun K "param" "Method.param" sMPar f fd) (W : Wds K mg) (T : Prm K mg CP) (TM : Mtd K mg CM mc) : FnOk P w K mg base CX0 1 f fd ["self", "name"] (spMPar K CM CP) := by
  refine F.ok scMPar (fun vs H Q E h => ?_) (fun cdv A outer s H vs Q E hr h => ?_)
  · obtain ⟨m, nm, as, is, tR, dR, dX, y, d, rfl, _⟩ := h
    rfl
  · obtain ⟨m, nm, as, is, tR, dR, dX, y, d, rfl, hM, hps, hok, hy, hd, q1, q2⟩ := h
    obtain ⟨dx, tP, vX, hm, hP, hR, hX⟩ := hM.ex
    have hu : (A.deeper (envOfC "Method.param" (defScope sMPar) s.heap.objs.size f cdv)).units + 64 < cLine := hr.units
    refine ⟨_, pss_cons (ps_for PassesOwn.never rfl (pi_tup (pe_fld (pv 0) rfl)) (pg_name (i := 2) scMPar.nd rfl (.inl rfl)) (pss_one (ps_if (pt_cmpR (op_eqD hu) (pe_fld (pv 2) rfl) (pv 1) (nomark _)) (pss_one (ps_ret (pv 2))) pss_nil))) (pss_one (ps_ret pe_non)), ?_⟩
    refine ⟨_, rfl, m, CM, dx, _, _, rfl, hm, TM.cl, TM.nP, mF_params, tP, rfl, ⟨_, hP⟩, for_it (walk_tup (K := K) (a := tP) (xs := as.map V.ref)) (fun i σ H' => H' = H ∧ (∃ z, σ = [some (.ref m), some y, z]) ∧ ∀ p' ∈ is.take i, PyData.eqv (.str p'.nm) d = false) ⟨rfl, ⟨none, rfl⟩, fun p hp => by simp at hp⟩ (fun i σ H' _ h => h.1 ▸ hP) ?_ ?_⟩
    · rintro i x σ H3 H4 hi ⟨rfl, ⟨z, rfl⟩, hall⟩ ⟨rfl, e1⟩
      rw [List.getElem?_map] at e1
      cases ha : as[i]? with
      | none =>
        rw [ha] at e1
        cases e1
      | some a =>
        rw [ha] at e1
        obtain rfl := Option.some.inj e1
        obtain ⟨p, hp, dy, hat⟩ := hps.2 i a ha
        refine ⟨_, rfl, a, CP, dy, _, _, rfl, hat, T.cl, T.nN, pF_name, _, rfl, .str p.nm, d, .str _, hy, (hok p (List.mem_of_getElem? hp)).sh, hd.sh, _, rfl, ?_⟩
        cases e2 : PyData.eqv (.str p.nm) d with
        | true => exact iteT ⟨_, rfl, q1 i a p ha hp e2 hall⟩
        | false =>
          refine iteF ⟨rfl, ⟨_, rfl⟩, fun p' hp' => ?_⟩
          rw [List.take_add_one, hp] at hp'
          rcases List.mem_append.mp hp' with h | h
          · exact hall p' h
          · have h : p' ∈ [p] := h
            rw [List.mem_singleton.mp h]
            exact e2
    · rintro σ H3 ⟨rfl, ⟨z, rfl⟩, hall⟩
      rw [List.length_map, hps.1, List.take_length] at hall
      exact q2 hall
end
end Dr
namespace Dr
open PySem PySem.Spec PyProof.Rows L2
open SX (S S_len S_cat)
abbrev psP : List Str := ["self", "name", "holds", "default", "named"]
abbrev kwP : List (Str × V) := [("holds", .str "box"), ("default", .non), ("named", .bl false)]
abbrev FP (K : PySem.W.Frag) (f : Addr) (fd : FuncData) : Prop := FunD K "__init__" "Param.__init__" (defArgs sPInit) (defBody sPInit) (defScope sPInit) [] kwP f fd
theorem bind_hdn {K : PySem.W.Frag} {f : Addr} {fd : FuncData} (F : FP K f fd) : KBn K fd psP 2 ["holds", "default", "named"] (fun us ws => us ++ ws) (fun vs zs => vs ++ zs) := by
  obtain ⟨mv, h⟩ := F.kbinds0 (ps := psP) 2 ["holds", "default", "named"] [] (fun us _ ws => us ++ ws) (by simp) (fun q hq => by cases hq) (fun r1 _ r3 => r1.append r3)
    (fun D doc pm an cdv ct us mv ws l1 l2 l3 => match us, mv, ws, l1, l2, l3 with | [_, _], [], [_, _, _], _, _, _ => rfl)
  exact h
/-- a made parameter beside its datum -/
structure Pim (r : Pr) (q : Pi) : Prop where
  nm : q.nm = S r.nm
  hs : q.hs = r.hs
  nd : q.nd = r.nd
  df : decide (q.v = .non) = isNonD r.df
theorem pim_names : ∀ {prs : List Pr} {is : List Pi}, Paired Pim prs is → is.map Pi.nm = (prs.map Pr.nm).map S
  | _, _, .nil => rfl
  | _, _, .cons h hs => by
    rw [List.map_cons, List.map_cons, List.map_cons, pim_names hs, h.nm]
theorem pim_hold {w : Str} : ∀ {prs : List Pr} {is : List Pi}, Paired Pim prs is → holding w is = (ofHs w prs).map S
  | _, _, .nil => rfl
  | _, _, .cons h hs => by
    have ih := pim_hold (w := w) hs
    unfold holding ofHs at ih ⊢
    rw [List.filter_cons, List.filter_cons, h.hs]
    split
    · rw [List.map_cons, List.map_cons, List.map_cons, ih, h.nm]
    · exact ih
theorem pim_len : ∀ {prs : List Pr} {is : List Pi}, Paired Pim prs is → is.length = prs.length
  | _, _, .nil => rfl
  | _, _, .cons h hs => by
    rw [List.length_cons, List.length_cons, pim_len hs]
theorem pim_get : ∀ {prs : List Pr} {is : List Pi} {i : Nat} {q : Pi}, Paired Pim prs is → is[i]? = some q → ∃ r, prs[i]? = some r ∧ Pim r q
  | _, _, i, q, .nil, h => by simp at h
  | _, _, 0, q, .cons h _, e => ⟨_, rfl, Option.some.inj e ▸ h⟩
  | _, _, i + 1, q, .cons _ hs, e => pim_get (i := i) hs e
theorem pim_new {prs : List Pr} {is : List Pi} (h : Paired Pim prs is) (hn : (prs.map Pr.nm).Nodup) (j : Nat) : NewAt [] (is.map Pi.nm) j := by
  rw [pim_names h]
  have hn2 : ((prs.map Pr.nm).map S).Nodup := List.pairwise_map.mpr (hn.imp fun n e => n (SX.S_inj e))
  intro y hy
  refine ⟨List.not_mem_nil, fun hm => ?_⟩
  obtain ⟨k, hk, e⟩ := List.mem_take_iff_getElem.mp hm
  obtain ⟨hj, e2⟩ := List.getElem?_eq_some_iff.mp hy
  have hkj : k < j := by omega
  have := (List.nodup_iff_pairwise_ne.mp hn2)
  have h3 := List.pairwise_iff_getElem.mp this k j (by omega) hj hkj
  exact h3 (e.trans e2.symm)
theorem pim_ord {prs : List Pr} {is : List Pi} (h : Paired Pim prs is) (ho : prs.Pairwise fun a b => badPr a b = false) (i : Nat) (p q : Pi) (e1 : is[i]? = some p) (e2 : is[i + 1]? = some q) : badPair p q = false := by
  obtain ⟨a, ha, pa⟩ := pim_get h e1
  obtain ⟨b, hb, pb⟩ := pim_get h e2
  obtain ⟨h1, rfl⟩ := List.getElem?_eq_some_iff.mp ha
  obtain ⟨h2, rfl⟩ := List.getElem?_eq_some_iff.mp hb
  have := List.pairwise_iff_getElem.mp ho i (i + 1) h1 h2 (by omega)
  unfold badPr at this
  unfold badPair
  rw [pa.nd, pb.nd, pb.df, show decide (p.v ≠ .non) = !isNonD prs[i].df by rw [← pa.df]; simp]
  exact this
theorem PsAt.grow {C : Addr} {H : Hp} {as : List Addr} {is : List Pi} {l : Addr} {us ys : List V} (h : PsAt C H as is) (hl : H l = some (.lst us)) : PsAt C (upd H l (.lst ys)) as is := ⟨h.1, fun i a e => by
  obtain ⟨p, e1, dx, e2⟩ := h.2 i a e
  refine ⟨p, e1, dx, ?_⟩
  rw [upd_ne (fun q => by rw [q, hl] at e2; cases e2)]
  exact e2⟩
theorem PsAt.snoc {C : Addr} {H : Hp} {as : List Addr} {is : List Pi} {a : Addr} {q : Pi} (h : PsAt C H as is) (hq : ParAt C H a q.nm q.hs q.v q.nd) : PsAt C H (as ++ [a]) (is ++ [q]) := ⟨by rw [List.length_append, List.length_append, h.1]; rfl, fun i b e => by
  have hl := h.1
  by_cases hi : i < as.length
  · rw [List.getElem?_append_left hi] at e
    obtain ⟨p, e1, e2⟩ := h.2 i b e
    exact ⟨p, by rw [List.getElem?_append_left (by omega)]; exact e1, e2⟩
  · rw [List.getElem?_append_right (by omega)] at e
    have h0 : i - as.length = 0 := by
      by_cases h0 : i - as.length = 0
      · exact h0
      · rw [List.getElem?_eq_none (by show 1 ≤ _; omega)] at e
        cases e
    rw [h0] at e
    obtain rfl := Option.some.inj e
    exact ⟨q, by rw [List.getElem?_append_right (by omega), show i - is.length = 0 by omega]; rfl, hq⟩⟩
theorem paired_snocP : ∀ {xs : List Pr} {ys : List Pi} {x : Pr} {y : Pi}, Paired Pim xs ys → Pim x y → Paired Pim (xs ++ [x]) (ys ++ [y])
  | _, _, _, _, .nil, h => .cons h .nil
  | _, _, _, _, .cons a as, h => .cons a (paired_snocP as h)
theorem okN {c : List Nat} (g : GoodN c) : OkD (.str (S c)) := okD_sms (sms_good g)
theorem paired_imp {α β : Type} {R R' : α → β → Prop} (i : ∀ a b, R a b → R' a b) : ∀ {xs : List α} {ys : List β}, Paired R xs ys → Paired R' xs ys
  | _, _, .nil => .nil
  | _, _, .cons h hs => .cons (i _ _ h) (paired_imp i hs)
/-- a made parameter beside its datum, with its default -/
def PimD (K : PySem.W.Frag) (H : Hp) (r : Pr) (q : Pi) : Prop := Pim r q ∧ Dt K H q.v r.df.data
theorem pimD_ext {K : PySem.W.Frag} {H H' : Hp} (s : TupE H H') {prs : List Pr} {is : List Pi} (h : Paired (PimD K H) prs is) : Paired (PimD K H') prs is := paired_imp (fun _ _ h => ⟨h.1, h.2.ext s⟩) h
theorem pimD {K : PySem.W.Frag} {H : Hp} {prs : List Pr} {is : List Pi} (h : Paired (PimD K H) prs is) : Paired Pim prs is := paired_imp (fun _ _ h => h.1) h
abbrev sLP : Stmt := topS 50
abbrev nLP : List Str := ["_law_listed", "_law_one"]
theorem scLP : FnScope nLP ["_law_listed"] (defScope sLP) := ⟨rfl, rfl, rfl, by decide +kernel, rfl, by decide +kernel, by decide +kernel⟩
abbrev sDir : Stmt := topS 51
abbrev nDir : List Str := ["_law_name", "_law_params_here", "_law_listed", "_law_result"]
theorem scDir : FnScope nDir nDir (defScope sDir) := ⟨rfl, rfl, rfl, by decide +kernel, rfl, by decide +kernel, by decide +kernel⟩
section
variable {P : Program} {w : World} {K : PySem.W.Frag} {mg : Str → Option Value} {base : Heap}
def spLP (K : PySem.W.Frag) (CP : Addr) : Sp := fun vs H Q _ => ∃ (tp : Addr) (ps : List V) (prs : List Pr), vs = [.ref tp] ∧ SqT K H tp ps ∧ DtAll K H ps (prs.map Pr.data) ∧ prs.length ≤ 3 ∧ (∀ r ∈ prs, r.ok) ∧
  ∀ (H' : Hp) (D : Addr) (as : List Addr) (is : List Pi), Same H H' → H D = none → H' D = some (.lst (as.map V.ref)) → PsAt CP H' as is → Paired (PimD K H') prs is → Q (.ref D) H'
theorem ok_lp {kI : Nat} {CP f fI : Addr} {fd fdI : FuncData} (F : Fun K "_law_params" "_law_params" sLP f fd) (T : Prm K mg CP) (M : Mk K CP fI) (FI : FP K fI fdI)
    (GI : FnOk P w K mg base CX0 kI fI fdI psP (spPInit K CP)) : FnOk P w K mg base CX0 (kI + 2) f fd ["_law_listed"] (spLP K CP) := by
  have bA := bind_hdn FI
  refine F.ok scLP (fun vs H Q E h => ?_) (fun cdv A outer s H vs Q E hr h => ?_)
  · obtain ⟨tp, ps, prs, rfl, _⟩ := h
    rfl
  · obtain ⟨tp, ps, prs, rfl, htp, hdt, hpl, hok, q⟩ := h
    refine ⟨_, pss_one (ps_ret (pe_lc (own := [("_law_one", 1)]) (g := gName 1) (tt := tYes) rfl scLP.nd (pi_tup (pv 0)) (blkOk_by (N := nLP) (sc := defScope sLP) (by decide +kernel)) (fun _ _ _ _ _ => pg_name (i := 1) scLP.nd rfl (Or.inl rfl)) (fun _ _ _ _ _ => pts_nil)
          (fun _ _ _ _ _ => (pe_makeK M GI hr (by rfl) T.mgC bA pass0 (pa_cons (pe_ix (show IxR _ (rIxT K) from ix_tup) (pv 1) pe_int (fun _ _ => rfl)) pa_nil) (pk_cons (pe_ix (show IxR _ (rIxT K) from ix_tup) (pv 1) pe_int (fun _ _ => rfl)) (pk_cons (pe_ix (show IxR _ (rIxT K) from ix_tup) (pv 1) pe_int (fun _ _ => rfl)) (pk_cons (pe_ix (show IxR _ (rIxT K) from ix_tup) (pv 1) pe_int (fun _ _ => rfl)) pk_nil))))))), ?_⟩
    have hpsl : ps.length = prs.length := by rw [dpAll_len hdt, List.length_map]
    refine ⟨_, rfl, tp, rfl, ⟨_, htp⟩, fun D hD => ?_⟩
    refine lc_it (walk_tup (K := K) (a := tp) (xs := ps)) (fun i H3 => Same H H3 ∧ ∃ as is, H3 D = some (.lst (as.map V.ref)) ∧ PsAt CP H3 as is ∧ Paired (PimD K H3) (prs.take i) is) ⟨same_upd hD, [], [], upd_same, ⟨rfl, fun i a e => by simp at e⟩, .nil⟩ (fun _ _ _ h => Same.seqT h.1 htp) ?_ ?_
    · rintro i y H3 H4 hi ⟨sm, as, is, hl, hps, hpm⟩ ⟨rfl, e1⟩
      obtain ⟨d0, hd0, hdy⟩ := dpAll_get (hdt.ext (TupE.same sm)) e1
      rw [List.getElem?_map] at hd0
      cases hr1 : prs[i]? with
      | none =>
        rw [hr1] at hd0
        cases hd0
      | some r =>
        rw [hr1] at hd0
        obtain rfl := Option.some.inj hd0
        obtain ⟨t, v, rfl, hit⟩ := item_of hdy
        have hat := hit.at_
        have hrok := hok r (List.mem_of_getElem? hr1)
        have hi1 : i < prs.length := (List.getElem?_eq_some_iff.mp hr1).1
        have hfl : DflOk K H4 v r.df.data r.hs := ⟨hit.dt.dp, Df.okD hrok.df, by
          rcases Df.isDef hrok.df with z | z
          · have hd := hit.dt
            rw [z] at hd
            cases hd
            exact .inl rfl
          · exact .inr z⟩
        refine ⟨rfl, ?_⟩
        unfold tYes
        refine iteT ?_
        refine ⟨_, rfl, t, _, 0, .str (S r.nm), rfl, rfl, hat, atI_nat (j := 0) rfl, _, rfl, t, _, 1, .str r.hs, rfl, rfl, hat, atI_nat (j := 1) rfl, _, rfl, t, _, 2, v, rfl, rfl, hat, atI_nat (j := 2) rfl, _, rfl, t, _, 3, .bl r.nd, rfl, rfl, hat, atI_nat (j := 3) rfl, rfl, rfl, fun z dx hz hdx ne => ?_⟩
        have hz2 : (upd H4 dx (.own z)) z = none := by
          rw [upd_ne ne.symm]
          exact hz
        have s2 : Same H4 (upd (upd H4 dx (.own z)) z (.ins CP dx [])) := (same_upd hdx).trans (same_upd hz2)
        refine ⟨z, dx, S r.nm, r.hs, v, r.df.data, r.nd, rfl, upd_same, hrok.nm.ok, okN hrok.nm, hrok.hs, ⟨dp_same s2 hfl.1, hfl.2⟩, fun H' hk hz' => ⟨rfl, ?_⟩⟩
        have s3 : Same H4 H' := fun b o e => hk _ _ (ne_of_none e hz) (s2 _ _ e)
        have hl' := s3 _ _ hl
        have hisl := pim_len (pimD hpm)
        rw [List.length_take] at hisl
        have hps1 := hps.1
        have sg : Same H (upd H' D (.lst (as.map V.ref ++ [.ref z]))) := same_grow (sm.trans s3) hD
        refine ⟨_, hl', ?_, sg, as ++ [z], is ++ [⟨S r.nm, r.hs, v, r.nd⟩], by rw [upd_same, List.map_append]; rfl, ((hps.same s3).snoc ⟨dx, hz'⟩).grow hl', ?_⟩
        · rw [List.length_map]
          exact small1000 (by omega)
        · have te : TupE H4 (upd H' D (.lst (as.map V.ref ++ [.ref z]))) := (TupE.same s3).trans (TupE.grow hl')
          rw [List.take_add_one, hr1]
          exact paired_snoc (pimD_ext te hpm) ⟨⟨rfl, rfl, rfl, hit.non⟩, hit.dt.ext te⟩
    rintro H3 ⟨sm, as, is, hDl, hps, hpm⟩
    rw [hpsl, List.take_length] at hpm
    exact q H3 D as is sm hD hDl hps hpm
def spDir (K : PySem.W.Frag) (CM CP : Addr) : Sp := fun vs H Q _ => ∃ (z : Str) (aL tR : Addr) (as : List Addr) (is : List Pi) (rows : List V) (ds : List PyData) (vX : V) (dX : PyData), vs = [.str z, .ref aL, .ref tR, vX] ∧ SqL K H aL (as.map V.ref) ∧ as.length ≤ 3 ∧ MArgs K CP H z as is tR rows ds vX dX ∧
  ∀ H' m, Same H H' → H m = none → MtAt K CM H' m z as tR (.tuple ds) dX → Q (.ref m) H'
theorem ok_dir {k : Nat} {CM CP f fI : Addr} {mc : Value} {fd : FuncData} {x : MErr} (F : Fun K "_law_direct" "_law_direct" sDir f fd) (TM : Mtd K mg CM mc) (M : Mk K CM fI) (hlen : mg "len" = none)
    (GI : FnK P w K mg base (L2.CX P w) k fI ["rows", "returns"] (fun vs zs H Q E => ∃ xs rest, vs = xs ++ rest ∧ xs.length = 2 ∧ rest.length ≤ sizeLine ∧ ∀ p, H p = Option.none → spMI K CM CP x ((xs ++ zs) ++ [V.ref p]) (upd H p (.tup rest)) Q E)) : FnOk P w K mg base CX0 (k + 2) f fd nDir (spDir K CM CP) := by
  refine F.ok scDir (fun vs H Q E h => ?_) (fun cdv A outer s H vs Q E hr h => ?_)
  · obtain ⟨z, aL, tR, as, is, rows, ds, vX, dX, rfl, _⟩ := h
    rfl
  · obtain ⟨z, aL, tR, as, is, rows, ds, vX, dX, rfl, hL, hle, hA, q⟩ := h
    refine ⟨_, pss_cons (ps_if (pt_cmpR op_eq (pe_callB call_len_seq (by rfl) hlen PySem.boot_len (pa_cons (pv 1) pa_nil)) pe_int (nomark _)) (pss_one (ps_ret (pe_mkF M GI hr (by rfl) TM.mgC (fun σ => passX) (pa_cons (pv 0) pa_nil) (pk_cons (pv 2) (pk_cons (pv 3) pk_nil))))) pss_nil)
      (pss_cons (ps_if (pt_cmpR op_eq (pe_callB call_len_seq (by rfl) hlen PySem.boot_len (pa_cons (pv 1) pa_nil)) pe_int (nomark _)) (pss_one (ps_ret (pe_mkF M GI hr (by rfl) TM.mgC (fun σ => passX) (pa_cons (pv 0) (pa_cons (pe_ix ix_list (pv 1) pe_int (fun _ _ => rfl)) pa_nil)) (pk_cons (pv 2) (pk_cons (pv 3) pk_nil))))) pss_nil)
      (pss_cons (ps_if (pt_cmpR op_eq (pe_callB call_len_seq (by rfl) hlen PySem.boot_len (pa_cons (pv 1) pa_nil)) pe_int (nomark _)) (pss_one (ps_ret (pe_mkF M GI hr (by rfl) TM.mgC (fun σ => passX) (pa_cons (pv 0) (pa_cons (pe_ix ix_list (pv 1) pe_int (fun _ _ => rfl)) (pa_cons (pe_ix ix_list (pv 1) pe_int (fun _ _ => rfl)) pa_nil))) (pk_cons (pv 2) (pk_cons (pv 3) pk_nil))))) pss_nil)
      (pss_one (ps_ret (pe_mkF M GI hr (by rfl) TM.mgC (fun σ => passX) (pa_cons (pv 0) (pa_cons (pe_ix ix_list (pv 1) pe_int (fun _ _ => rfl)) (pa_cons (pe_ix ix_list (pv 1) pe_int (fun _ _ => rfl)) (pa_cons (pe_ix ix_list (pv 1) pe_int (fun _ _ => rfl)) pa_nil)))) (pk_cons (pv 2) (pk_cons (pv 3) pk_nil))))))), ?_⟩
    have fin : ∀ (x0 dx : Addr), H x0 = none → H dx = none → dx ≠ x0 → ∃ xs rest, (V.ref x0 :: .str z :: as.map V.ref) = xs ++ rest ∧ xs.length = 2 ∧ rest.length ≤ sizeLine ∧ ∀ p, (upd (upd H dx (.own x0)) x0 (.ins CM dx [])) p = Option.none → spMI K CM CP x ((xs ++ [.ref tR, vX]) ++ [V.ref p]) (upd (upd (upd H dx (.own x0)) x0 (.ins CM dx [])) p (.tup rest)) (fun v H3 => v = .non ∧ Q (.ref x0) H3) E0 := by
      intro x0 dx hx hdx ne
      refine ⟨[.ref x0, .str z], as.map V.ref, rfl, rfl, by rw [List.length_map]; exact Nat.le_of_lt (small1000 (by omega)), fun p np => ?_⟩
      have hx2 : (upd H dx (.own x0)) x0 = none := by
        rw [upd_ne ne.symm]
        exact hx
      have s1 := (same_upd (o := .own x0) hdx).trans (same_upd (o := .ins CM dx []) hx2)
      have s2 := same_upd (o := .tup (as.map V.ref)) np
      exact mi_ok hA (s1.trans s2) (s2 _ _ upd_same) hx (SqT.of upd_same) q
    cases as with
    | nil => exact ⟨_, rfl, aL, [], rfl, .inl hL, rfl, _, rfl, iteT ⟨_, rfl, _, rfl, _, rfl, rfl, fin⟩⟩
    | cons a r =>
      refine ⟨_, rfl, aL, _, rfl, .inl hL, rfl, _, rfl, ite2 (fun k => ?_) (fun _ => ?_)⟩
      · have := V.int.inj (of_decide_eq_true k)
        rw [List.length_map, List.length_cons] at this
        omega
      cases r with
      | nil => exact ⟨_, rfl, aL, [.ref a], rfl, .inl hL, rfl, _, rfl, iteT ⟨_, rfl, _, rfl, aL, [.ref a], 0, _, rfl, rfl, hL, atI_nat (j := 0) rfl, _, rfl, _, rfl, rfl, fin⟩⟩
      | cons b r =>
        refine ⟨_, rfl, aL, _, rfl, .inl hL, rfl, _, rfl, ite2 (fun k => ?_) (fun _ => ?_)⟩
        · have := V.int.inj (of_decide_eq_true k)
          rw [List.length_map, List.length_cons, List.length_cons] at this
          omega
        cases r with
        | nil => exact ⟨_, rfl, aL, [.ref a, .ref b], rfl, .inl hL, rfl, _, rfl, iteT ⟨_, rfl, _, rfl, aL, [.ref a, .ref b], 0, _, rfl, rfl, hL, atI_nat (j := 0) rfl, _, rfl, aL, [.ref a, .ref b], 1, _, rfl, rfl, hL, atI_nat (j := 1) rfl, _, rfl, _, rfl, rfl, fin⟩⟩
        | cons c r =>
          refine ⟨_, rfl, aL, _, rfl, .inl hL, rfl, _, rfl, ite2 (fun k => ?_) (fun _ => ?_)⟩
          · have := V.int.inj (of_decide_eq_true k)
            rw [List.length_map, List.length_cons, List.length_cons, List.length_cons] at this
            omega
          cases r with
          | nil => exact ⟨_, rfl, _, rfl, aL, [.ref a, .ref b, .ref c], 0, _, rfl, rfl, hL, atI_nat (j := 0) rfl, _, rfl, aL, [.ref a, .ref b, .ref c], 1, _, rfl, rfl, hL, atI_nat (j := 1) rfl, _, rfl, aL, [.ref a, .ref b, .ref c], 2, _, rfl, rfl, hL, atI_nat (j := 2) rfl, _, rfl, _, rfl, rfl, fin⟩
          | cons d r =>
            have hle : r.length + 1 + 1 + 1 + 1 ≤ 3 := hle
            omega
end
end Dr
namespace Dr
open PySem PySem.Spec PyProof.Rows L2
open SX (S S_len S_cat)
abbrev sFits : Stmt := topS 52
abbrev nFits : List Str := ["_law_method_here", "_law_plain_here", "_law_name", "_law_params_here", "_law_listed", "_law_result", "_law_one", "_law_told", "_law_found", "_law_thing"]
theorem scFits : FnScope nFits ["_law_method_here", "_law_plain_here"] (defScope sFits) := ⟨rfl, rfl, rfl, by decide +kernel, rfl, by decide +kernel, by decide +kernel⟩
theorem pim_at {K : PySem.W.Frag} {H : Hp} : ∀ {prs : List Pr} {is : List Pi} {i : Nat} {q : Pi}, Paired (PimD K H) prs is → is[i]? = some q → ∃ r, prs[i]? = some r ∧ PimD K H r q
  | _, _, i, q, .nil, h => by simp at h
  | _, _, 0, q, .cons h _, e => ⟨_, rfl, Option.some.inj e ▸ h⟩
  | _, _, i + 1, q, .cons _ hs, e => pim_at (i := i) hs e
theorem pim_at2 {K : PySem.W.Frag} {H : Hp} : ∀ {prs : List Pr} {is : List Pi} {i : Nat} {r : Pr}, Paired (PimD K H) prs is → prs[i]? = some r → ∃ q, is[i]? = some q ∧ PimD K H r q
  | _, _, i, q, .nil, h => by simp at h
  | _, _, 0, q, .cons h _, e => ⟨_, rfl, Option.some.inj e ▸ h⟩
  | _, _, i + 1, q, .cons _ hs, e => pim_at2 (i := i) hs e
theorem eqv_SS (a b : Str) : PyData.eqv (.str a) (.str b) = decide (a = b) := by
  show (a == b) = _
  by_cases h : a = b
  · rw [decide_eq_true h, h]
    exact beq_self_eq_true b
  · rw [decide_eq_false h]
    exact beq_eq_false_iff_ne.mpr h
theorem its_smnD {ys : List Str} (h : ItsOk ys) : Smn 1 (.tuple (ys.map PyData.str)) := smn_tup (n := 0) (smns_of fun d hd => by
  obtain ⟨z, hz, rfl⟩ := List.mem_map.mp hd
  exact smn_str (h.sm z hz)) (by rw [List.length_map]; have := h.len; omega)
theorem df_smn {hs : Str} : ∀ {f : Df}, f.ok hs → Smn 2 f.data
  | .non, _ => smn_non
  | .mk o, h => smn_tup (smn_cons (smn_lit (by decide +kernel)) (smn_cons (smn_str (sms_good h.2)) smn_nil)) (by show 2 ≤ 1000; decide)
  | .its w zs, h => by
    rcases h.2.1 with rfl | rfl <;> exact smn_tup (smn_cons (smn_lit (by decide +kernel)) (smn_cons (its_smnD h.2.2) smn_nil)) (by show 2 ≤ 1000; decide)
  | .seat w o x, h => by
    have ho : SmS o := by
      rcases h.2.1 with ⟨_, c, rfl, g⟩ | ⟨_, rfl | ⟨c, rfl, g⟩⟩
      · exact sms_good g
      · exact sms_lit (by decide +kernel)
      · exact sms_good g
    have hw : SmS w := by
      rcases h.2.1 with ⟨rfl, _⟩ | ⟨rfl, _⟩ <;> exact sms_lit (by decide +kernel)
    exact smn_tup (smn_cons (smn_str hw) (smn_cons (smn_str ho) (smn_cons (smn_str (sms_good h.2.2)) smn_nil))) (by show 3 ≤ 1000; decide)
theorem pr_smn {r : Pr} (h : r.ok) : Smn 3 r.data := by
  have hh : SmS r.hs := by
    rcases h.hs with e | e <;> rw [e] <;> exact sms_lit (by decide +kernel)
  exact smn_tup (smn_cons (smn_str (sms_good h.nm)) (smn_cons (smn_str hh) (smn_cons (df_smn h.df) (smn_cons (smn_bl _) smn_nil)))) (by show 4 ≤ 1000; decide)
theorem prs_smn {prs : List Pr} (h : ∀ r ∈ prs, r.ok) : Smns 3 (prs.map Pr.data) := smns_of fun d hd => by
  obtain ⟨r, hr, rfl⟩ := List.mem_map.mp hd
  exact pr_smn (h r hr)
/-- small letters -/
theorem sms_low {cs : List Nat} (h : ∀ c ∈ cs, lowC c = true) (l : cs.length ≤ 1000) : SmS (S cs) := by
  refine ⟨?_, by rw [S_len]; exact l⟩
  unfold PyData.strOk
  rw [← Array.all_toList]
  refine List.all_eq_true.mpr fun c hc => ?_
  have q := h c hc
  unfold lowC at q
  rw [Bool.and_eq_true] at q
  have := of_decide_eq_true q.2
  exact decide_eq_true (by omega)
theorem okZa {cs : List Nat} (g : GoodN cs) : OkD (.str (S cs ++ "a")) := by
  rw [show S cs ++ ("a" : Str) = S (cs ++ [97]) from S_cat cs [97]]
  refine okD_sms (sms_low (fun c hc => ?_) (by rw [List.length_append]; have := g.hi; show cs.length + 1 ≤ 1000; omega))
  rcases List.mem_append.mp hc with h | h
  · exact List.all_eq_true.mp g.low c h
  · rw [List.mem_singleton.mp h]
    decide
/-- parameters of one name are one -/
theorem pr_one {prs : List Pr} (hnd : (prs.map Pr.nm).Nodup) {r r' : Pr} (h : r ∈ prs) (h' : r' ∈ prs) (e : r.nm = r'.nm) : r = r' := by
  obtain ⟨i, hi, e1⟩ := List.mem_iff_getElem.mp h
  obtain ⟨j, hj, e2⟩ := List.mem_iff_getElem.mp h'
  have q : (prs.map Pr.nm)[i]'(by rw [List.length_map]; exact hi) = (prs.map Pr.nm)[j]'(by rw [List.length_map]; exact hj) := by
    rw [List.getElem_map, List.getElem_map, e1, e2, e]
  have := (List.getElem_inj hnd).mp q
  subst this
  exact e1.symm.trans e2
section
variable {P : Program} {w : World} {K : PySem.W.Frag} {mg : Str → Option Value} {base : Heap}
def spFits (K : PySem.W.Frag) (CM CP : Addr) : Sp := fun vs H Q _ => ∃ (m tpl tp tr : Addr) (nm : List Nat) (rv : V) (ps : List V) (prs : List Pr) (as : List Addr) (is : List Pi) (ds : List PyData) (dX : PyData), vs = [.ref m, .ref tpl] ∧ MtAt K CM H m (S nm) as tr (.tuple ds) dX ∧ SqT K H tpl [.str (S nm), .ref tp, .ref tr, rv] ∧ GoodN nm ∧ SqT K H tp ps ∧ DtAll K H ps (prs.map Pr.data) ∧ prs.length ≤ 3 ∧ (∀ r ∈ prs, r.ok) ∧ (prs.map Pr.nm).Nodup ∧ Dp K H (.ref tr) (.tuple ds) ∧ Dp K H rv dX ∧ PsAt CP H as is ∧ Paired (PimD K H) prs is ∧ ∀ H', Same H H' → Q (.bl true) H'
theorem ok_fits {CM CP f fP : Addr} {mc : Value} {fd fdP : FuncData} (F : Fun K "_law_fits" "_law_fits" sFits f fd) (W : Wds K mg) (hbo : mg "bool" = none) (hli : mg "list" = none) (T : Prm K mg CP) (TM : Mtd K mg CM mc)
    (GP : FnOk P w K mg base CX0 1 fP fdP ["self", "name"] (spMPar K CM CP)) (mP : Meth K CM "param" fP) (bP : Binds K fdP ["self", "name"] []) : FnOk P w K mg base CX0 2 f fd ["_law_method_here", "_law_plain_here"] (spFits K CM CP) := by
  refine F.ok scFits (fun vs H Q E h => ?_) (fun cdv A outer s H vs Q E hr h => ?_)
  · obtain ⟨m, tpl, tp, tr, nm, rv, ps, prs, as, is, ds, dX, rfl, _⟩ := h
    rfl
  · obtain ⟨m, tpl, tp, tr, nm, rv, ps, prs, as, is, ds, dX, rfl, hM, hpl, hnm, htp, hdt, hpr, hok, hnd, hdr, hdx, hps, hpm, q⟩ := h
    have hU : (A.deeper (envOfC "_law_fits" (defScope sFits) s.heap.objs.size f cdv)).units + 64 < cLine := hr.units
    have hU5 : (A.deeper (envOfC "_law_fits" (defScope sFits) s.heap.objs.size f cdv)).units + 65 < cLine := by
      have := hr.un
      omega
    refine ⟨_, pss_cons (ps_asg (pv 1) (pg_tup rfl (pgs_cons (pg_name (i := 2) scFits.nd rfl (.inl rfl)) (pgs_cons (pg_name (i := 3) scFits.nd rfl (.inl rfl)) (pgs_cons (pg_name (i := 4) scFits.nd rfl (.inl rfl)) (pgs_cons (pg_name (i := 5) scFits.nd rfl (.inl rfl)) pgs_nil))))))
      (pss_cons (ps_if (PW.pt (pw_or (pt_cmpR op_ne (pe_fld (pv 0) rfl) (pv 2) (nomark _)) (pw_or (pt_cmpR (op_neD hU) (pe_fld (pv 0) rfl) (pv 4) (nomark _)) (pw_or (pt_cmpR (op_neD hU) (pe_fld (pv 0) rfl) (pv 5) (nomark _)) (pw_or1 (pt_not (pt_val (pe_callB call_isi (by rfl) W.isi (by decide +kernel) (pa_cons (pe_fld (pv 0) rfl) (pa_cons (pe_bltn (v := .ty "tuple") (by rfl) W.tup (by decide +kernel) rfl) pa_nil))))))))))
          (pss_one (ps_ret pe_bl)) pss_nil)
      (pss_cons (ps_setLc (i := 7) (own := [("_law_one", 6)]) (g := gName 6) (tt := tYes) rfl scFits.nd rfl rfl (sw_true rfl rfl rfl (by decide +kernel)) (pi_tup (pe_fld (pv 0) rfl)) (blkOk_by (N := nFits) (sc := defScope sFits) (by decide +kernel)) (fun _ _ _ _ _ => pg_name (i := 6) scFits.nd rfl (Or.inl rfl)) (fun _ _ _ _ _ => pts_nil)
          (fun _ _ _ _ _ => pe_tup (pa_cons (show PE _ _ (tFld K (tVar 6) "name") from pe_fld (pv 6) rfl) (pa_cons (show PE _ _ (tFld K (tVar 6) "holds") from pe_fld (pv 6) rfl) (pa_cons (show PE _ _ (tFld K (tVar 6) "default") from pe_fld (pv 6) rfl) (pa_cons (show PE _ _ (tFld K (tVar 6) "named") from pe_fld (pv 6) rfl) pa_nil))))))
      (pss_cons (ps_if (PW.pt (pw_or (pt_cmpR (op_neD hU) (pv 7) (pe_callTy call_list_of (by rfl) hli (by decide +kernel) (pa_cons (pv 3) pa_nil)) (nomark _)) (pw_or1 (pt_cmpR (op_neE hU)
            (pe_lc (own := [("_law_one", 6)]) (g := gName 6) rfl scFits.nd (pi_list (pv 7)) (blkOk_by (N := nFits) (sc := defScope sFits) (by decide +kernel)) (fun _ _ _ _ _ => pg_name (i := 6) scFits.nd rfl (Or.inl rfl)) (fun _ _ _ _ _ => pts_one (pt_not (pt_val (pe_callB (show CallR _ _ (rIsi K) from call_isi) (by rfl) W.isi (by decide +kernel) (pa_cons (pe_ix (show IxR _ (rIxT K) from ix_tup) (pv 6) pe_int (fun _ _ => rfl)) (pa_cons (pe_bltn (v := .ty "bool") (by rfl) hbo (by decide +kernel) rfl) pa_nil)))))) (fun _ _ _ _ _ => pv 6))
            (pe_lst pa_nil) (nomark _))))) (pss_one (ps_ret pe_bl)) pss_nil)
      (pss_cons (ps_for PassesOwn.never rfl (pi_tup (pv 3)) (pg_name (i := 6) scFits.nd rfl (.inl rfl))
          (pss_cons (ps_set (i := 8) scFits.nd rfl (.inl rfl) (pe_meth (pv 0) TM.cl mP GP hr bP .nil pass0 (pa_cons (pe_ix (show IxR _ (rIxT K) from ix_tup) (pv 6) pe_int (fun _ _ => rfl)) pa_nil)))
          (pss_one (ps_if (PW.pt (pw_or (pt_cmpR op_isN (pv 8) pe_non (nomark _)) (pw_or (pt_cmpR op_ne (pe_fld (pv 8) rfl) (pe_ix (show IxR _ (rIxT K) from ix_tup) (pv 6) pe_int (fun _ _ => rfl)) (nomark _)) (pw_or1 (pt_cmpR op_ne (pe_fld (pv 8) rfl) (pe_ix (show IxR _ (rIxT K) from ix_tup) (pv 6) pe_int (fun _ _ => rfl)) (nomark _)))))) (pss_one (ps_ret pe_bl)) pss_nil))))
      (pss_cons (ps_for PassesOwn.never rfl (pi_list (pe_lst (pa_cons (pe_ifExp (pt_cmpR op_lt (pe_callB call_len_str (by rfl) W.len PySem.boot_len (pa_cons (pv 2) pa_nil)) pe_int (nomark _)) (pe_op op_add_str (pv 2) pe_str) pe_str) (pa_cons pe_non (pa_cons pe_int (pa_cons pe_bl (pa_cons (pe_lst (pa_cons (pv 2) pa_nil)) (pa_cons pe_str (pa_cons (pe_tup (pa_cons pe_str pa_nil)) pa_nil))))))))) (pg_name (i := 9) scFits.nd rfl (.inl rfl))
          (pss_one (ps_if (PW.pt (pw_and (pt_cmpR (op_notInD hU5) (pv 9)
              (pe_lc (own := [("_law_one", 6)]) (g := gName 6) (tt := tYes) rfl scFits.nd (pi_tup (pv 3)) (blkOk_by (N := nFits) (sc := defScope sFits) (by decide +kernel)) (fun _ _ _ _ _ => pg_name (i := 6) scFits.nd rfl (Or.inl rfl)) (fun _ _ _ _ _ => pts_nil) (fun _ _ _ _ _ => pe_ix (show IxR _ (rIxT K) from ix_tup) (pv 6) pe_int (fun _ _ => rfl))) rfl)
              (pw_and1 (pt_cmpR op_notN (pe_meth (pv 0) TM.cl mP GP hr bP .nil pass0 (pa_cons (pv 9) pa_nil)) pe_non (nomark _))))) (pss_one (ps_ret pe_bl)) pss_nil)))
      (pss_one (ps_ret pe_bl))))))), ?_⟩
    obtain ⟨dx, tP, vX, hm, hP, hR0, hX0⟩ := hM.ex
    have hR := hR0.dp
    have hX := hX0.dp
    have hpsl : ps.length = prs.length := by rw [dpAll_len hdt, List.length_map]
    have hisl := pim_len (pimD hpm)
    have hasl := hps.1
    have names : ∀ p ∈ is, OkD (.str p.nm) := fun p hp => by
      obtain ⟨i, hi, e⟩ := List.mem_iff_getElem.mp hp
      obtain ⟨r, hr, h⟩ := pim_at hpm (show is[i]? = some p by rw [List.getElem?_eq_getElem hi, e])
      rw [h.1.nm]
      exact okN (hok r (List.mem_of_getElem? hr)).nm
    have sst : ∀ {x : Str} {α : Prop}, (!decide (V.str x = V.str x)) = true → α := fun {x α} k => by
      rw [decide_eq_true rfl] at k
      cases k
    refine ⟨_, rfl, tpl, _, rfl, hpl, rfl, _, _, rfl, _, _, rfl, _, _, rfl, _, _, rfl, rfl, ?_⟩
    refine ⟨_, rfl, m, CM, dx, _, _, rfl, hm, TM.cl, TM.nN, mF_name, _, rfl, rfl, _, rfl, ite2 (fun k => sst k) (fun _ => ?_)⟩
    refine ⟨_, rfl, m, CM, dx, _, _, rfl, hm, TM.cl, TM.nR, mF_rows, _, rfl, .tuple ds, .tuple ds, hR, hdr, hM.oR.sh, hM.oR.sh, _, rfl, ite2 (fun k => by rw [eqvR hM.oR] at k; cases k) (fun _ => ?_)⟩
    refine ⟨_, rfl, m, CM, dx, _, _, rfl, hm, TM.cl, TM.nX, mF_returns, _, rfl, dX, dX, hX, hdx, hM.oX.sh, hM.oX.sh, _, rfl, ite2 (fun k => by rw [eqvR hM.oX] at k; cases k) (fun _ => ?_)⟩
    refine ⟨_, rfl, m, CM, dx, _, _, rfl, hm, TM.cl, TM.nP, mF_params, .ref tP, .ty "tuple", _, _, _, rfl, .ty _, tyx_tup hP, kit_tup (.tuple []), _, rfl, iteF ?_⟩
    -- what the parameters tell
    refine ⟨_, rfl, m, CM, dx, _, _, rfl, hm, TM.cl, TM.nP, mF_params, tP, rfl, ⟨_, hP⟩, fun D nD => ?_⟩
    refine lc_it (walk_tup (K := K) (a := tP) (xs := as.map V.ref)) (fun i H3 => Same H H3 ∧ ∃ ts, H3 D = some (.lst ts) ∧ DtAll K H3 ts ((prs.take i).map Pr.data)) ⟨same_upd nD, [], upd_same, .nil⟩ (fun i H3 _ h => Same.seqT h.1 hP) ?_ ?_
    · rintro i y H3 H4 hi ⟨sm, ts, hD, hts⟩ ⟨rfl, e1⟩
      rw [List.getElem?_map] at e1
      cases ha : as[i]? with
      | none =>
        rw [ha] at e1
        cases e1
      | some a =>
        rw [ha] at e1
        obtain rfl := Option.some.inj e1
        obtain ⟨p, hp, dy, hat⟩ := hps.2 i a ha
        have hat := sm _ _ hat
        obtain ⟨r, hr0, hpd⟩ := pim_at hpm hp
        have hil : i < prs.length := (List.getElem?_eq_some_iff.mp hr0).1
        have htl : ts.length ≤ 3 := by
          rw [dpAll_len hts, List.length_map, List.length_take]
          omega
        refine ⟨rfl, ?_⟩
        unfold tYes
        refine iteT ⟨_, rfl, a, CP, dy, _, _, rfl, hat, T.cl, T.nN, pF_name, _, rfl, a, CP, dy, _, _, rfl, hat, T.cl, T.nH, pF_holds, _, rfl, a, CP, dy, _, _, rfl, hat, T.cl, T.nD, pF_default, _, rfl, a, CP, dy, _, _, rfl, hat, T.cl, T.nA, pF_named, by show 4 ≤ sizeLine; decide, fun t nt => ?_⟩
        have st := same_upd (o := .tup [.str p.nm, .str p.hs, p.v, .bl p.nd]) nt
        refine ⟨_, st _ _ hD, small1000 (by omega), same_grow (sm.trans st) nD, ts ++ [.ref t], upd_same, ?_⟩
        rw [List.take_add_one, hr0, List.map_append]
        refine DtAll.ext (dpAll_app (hts.ext (TupE.same st)) (.cons ?_ .nil)) (TupE.grow (st _ _ hD))
        have e : r.data = .tuple [.str p.nm, .str p.hs, r.df.data, .bool p.nd] := by
          unfold Pr.data
          rw [hpd.1.nm, hpd.1.hs, hpd.1.nd]
        rw [e]
        exact Dt.tup upd_same (.cons (.str _) (.cons (.str _) (.cons (hpd.2.ext (TupE.same (sm.trans st))) (.cons (.bl _) .nil))))
    rintro H3 ⟨s3, ts, hD, hts⟩
    rw [List.length_map, hasl, hisl, List.take_length] at hts
    have htl : ts.length = prs.length := by rw [dpAll_len hts, List.length_map]
    have okL : OkD (.list (prs.map Pr.data)) := (smn_lst (prs_smn hok) (by rw [List.length_map]; omega)).okD (by decide)
    refine ⟨_, rfl, _, rfl, tp, ps, rfl, .inr (Same.seqT s3 htp), fun l nl => ⟨.list (prs.map Pr.data), .list (prs.map Pr.data), .lst (SqL.of (same_upd nl _ _ hD)) (hts.ext (TupE.same (same_upd nl))).dp, .lst (SqL.of upd_same) (hdt.ext (TupE.same (s3.trans (same_upd nl)))).dp, okL.sh, okL.sh, _, rfl, ite2 (fun k => by rw [eqvR okL] at k; cases k) (fun _ => ?_)⟩⟩
    have s4 := s3.trans (same_upd (o := .lst ps) nl)
    have hD4 := same_upd (o := .lst ps) nl _ _ hD
    have hts4 := hts.ext (TupE.same (same_upd (o := .lst ps) nl))
    generalize (upd H3 l (.lst ps)) = H4 at s4 hD4 hts4
    refine ⟨_, rfl, D, rfl, ⟨_, SqL.of hD4⟩, fun D2 nD2 => ?_⟩
    refine lc_it (walk_list (K := K) (a := D) (xs := ts)) (fun i H5 => Same H4 H5 ∧ H5 D2 = some (.lst [])) ⟨same_upd nD2, upd_same⟩ (fun i H5 _ h => SqL.of (h.1 _ _ hD4)) ?_ ?_
    · rintro i y H5 H6 hi ⟨sm, hD2⟩ ⟨rfl, e1⟩
      obtain ⟨d0, hd0, hdy⟩ := dpAll_get (hts4.ext (TupE.same sm)) e1
      rw [List.getElem?_map] at hd0
      cases hr0 : prs[i]? with
      | none =>
        rw [hr0] at hd0
        cases hd0
      | some r =>
        rw [hr0] at hd0
        obtain rfl := Option.some.inj hd0
        obtain ⟨t, v, rfl, hit⟩ := item_of hdy
        exact ⟨rfl, _, rfl, t, _, 3, .bl r.nd, rfl, rfl, hit.at_, atI_nat (j := 3) rfl, .bl r.nd, .ty "bool", _, _, _, rfl, .ty _, dp_ty (.bl r.nd), kit_bool _, _, rfl, iteF ⟨sm, hD2⟩⟩
    rintro H5 ⟨s5, hD2⟩
    refine ⟨by show 0 ≤ sizeLine; decide, fun le nle => ⟨D2, le, _, rfl, rfl, SqL.of (same_upd nle _ _ hD2), SqL.of upd_same, _, rfl, iteF ?_⟩⟩
    have s45 := (s4.trans s5).trans (same_upd (o := .lst []) nle)
    -- each parameter is found
    refine ⟨_, rfl, tp, rfl, ⟨_, Same.seqT s45 htp⟩, for_it (walk_tup (K := K) (a := tp) (xs := ps)) (fun i σ H' => Same H H' ∧ ∃ y6 y8, σ = [some (.ref m), some (.ref tpl), some (.str (S nm)), some (.ref tp), some (.ref tr), some rv, y6, some (.ref D), y8, none]) ⟨s45, none, none, rfl⟩ (fun i σ H' _ h => Same.seqT h.1 htp) ?_ ?_⟩
    · rintro i y σ H6 H7 hi ⟨sm, y6, y8, rfl⟩ ⟨rfl, e1⟩
      obtain ⟨d0, hd0, hdy⟩ := dpAll_get (hdt.ext (TupE.same sm)) e1
      rw [List.getElem?_map] at hd0
      cases hr0 : prs[i]? with
      | none =>
        rw [hr0] at hd0
        cases hd0
      | some r =>
        rw [hr0] at hd0
        obtain rfl := Option.some.inj hd0
        obtain ⟨t, v, rfl, hit⟩ := item_of hdy
        have hrm := List.mem_of_getElem? hr0
        have hgr := (hok r hrm).nm
        refine ⟨_, rfl, m, dx, _, rfl, sm _ _ hm, mF_param, _, rfl, t, _, 0, .str (S r.nm), rfl, rfl, hit.at_, atI_nat (j := 0) rfl, m, S nm, as, is, tr, .tuple ds, dX, .str (S r.nm), .str (S r.nm), rfl, hM.same sm, hps.same sm, names, .str _, okN hgr, fun j a p ha hp he _ => ?_, fun hno => ?_⟩
        · rw [eqv_SS] at he
          have he := of_decide_eq_true he
          obtain ⟨r2, hr2, hpd⟩ := pim_at hpm hp
          have e2 : r2 = r := pr_one hnd (List.mem_of_getElem? hr2) hrm (SX.S_inj (hpd.1.nm.symm.trans he))
          subst e2
          obtain ⟨p2, hp2, dy, hat⟩ := hps.2 j a ha
          obtain rfl := Option.some.inj (hp2.symm.trans hp)
          have hat := sm _ _ hat
          rw [hpd.1.nm, hpd.1.hs] at hat
          refine ⟨_, rfl, rfl, _, rfl, iteF ?_⟩
          refine ⟨_, rfl, a, CP, dy, _, _, rfl, hat, T.cl, T.nN, pF_name, _, rfl, t, _, 0, .str (S r2.nm), rfl, rfl, hit.at_, atI_nat (j := 0) rfl, rfl, _, rfl, ite2 (fun k => sst k) (fun _ => ?_)⟩
          refine ⟨_, rfl, a, CP, dy, _, _, rfl, hat, T.cl, T.nH, pF_holds, _, rfl, t, _, 1, .str r2.hs, rfl, rfl, hit.at_, atI_nat (j := 1) rfl, rfl, _, rfl, ite2 (fun k => sst k) (fun _ => ?_)⟩
          exact ⟨sm, _, _, rfl⟩
        · obtain ⟨q0, hq0, hpd⟩ := pim_at2 hpm hr0
          have := hno q0 (List.mem_of_getElem? hq0)
          rw [eqv_SS, hpd.1.nm, decide_eq_true rfl] at this
          cases this
    rintro σ H6 ⟨s6, y6, y8, rfl⟩
    -- no other is
    have hl8 : (S nm).length ≤ 8 := by
      rw [S_len]
      exact hnm.hi
    refine ⟨_, rfl, S nm, rfl, Nat.le_of_lt (small1000 (by omega)), _, _, rfl, rfl, _, rfl, ite2 (fun k => ?_) (fun k => ?_)⟩
    · refine ⟨_, rfl, S nm, "a", rfl, rfl, Nat.le_of_lt (small1000 (by show (S nm).length + 1 ≤ 1000; omega)), ?_⟩
      · have hzok : OkD (.str (S nm ++ "a")) := okZa hnm
        generalize hx : V.str (S nm ++ "a") = xz
        obtain ⟨dz, hdz, hokz⟩ : ∃ d, (∀ H2, Dp K H2 xz d) ∧ OkD d := ⟨.str (S nm ++ "a"), fun H2 => hx ▸ .str (S nm ++ "a"), hzok⟩
        refine ⟨_, rfl, by show 1 ≤ sizeLine; decide, fun l1 n1 => ⟨by show 1 ≤ sizeLine; decide, fun t1 nt1 => ⟨by show 7 ≤ sizeLine; decide, fun L nL => ?_⟩⟩⟩
        have s61 := same_upd (o := .lst [.str (S nm)]) n1
        have s62 := same_upd (o := .tup [.str "m"]) nt1
        have s63 := same_upd (o := .lst [xz, .non, .int 1, .bl true, .ref l1, .str "", .ref t1]) nL
        have hall : ∀ H2, Same (upd (upd (upd H6 l1 (.lst [.str (S nm)])) t1 (.tup [.str "m"])) L (.lst [xz, .non, .int 1, .bl true, .ref l1, .str "", .ref t1])) H2 → ∀ x ∈ [xz, .non, .int 1, .bl true, .ref l1, .str "", .ref t1], ∃ d, Dp K H2 x d ∧ OkD d := fun H2 sm x hx => by
          rcases List.mem_cons.mp hx with rfl | hx
          · exact ⟨dz, hdz H2, hokz⟩
          rcases List.mem_cons.mp hx with rfl | hx
          · exact ⟨.none, .non, ⟨by decide +kernel, by decide +kernel⟩⟩
          rcases List.mem_cons.mp hx with rfl | hx
          · exact ⟨.int 1, .int 1, ⟨by decide +kernel, by decide +kernel⟩⟩
          rcases List.mem_cons.mp hx with rfl | hx
          · exact ⟨.bool true, .bl true, ⟨by decide +kernel, by decide +kernel⟩⟩
          rcases List.mem_cons.mp hx with rfl | hx
          · exact ⟨.list [.str (S nm)], .lst (SqL.of (sm _ _ (s63 _ _ (s62 _ _ upd_same)))) (.cons (.str _) .nil), (smn_lst (n := 0) (smn_cons (smn_str (sms_good hnm)) smn_nil) (by show 1 ≤ 1000; decide)).okD (by decide)⟩
          rcases List.mem_cons.mp hx with rfl | hx
          · exact ⟨.str "", .str "", ⟨by decide +kernel, by decide +kernel⟩⟩
          · rw [List.mem_singleton.mp hx]
            exact ⟨.tuple [.str "m"], .tup (SqT.of (sm _ _ (s63 _ _ upd_same))) (.cons (.str _) .nil), ⟨by decide +kernel, by decide +kernel⟩⟩
        have s7 := s6.trans ((s61.trans s62).trans s63)
        have hL : (upd (upd (upd H6 l1 (.lst [.str (S nm)])) t1 (.tup [.str "m"])) L (.lst [xz, .non, .int 1, .bl true, .ref l1, .str "", .ref t1])) L = some (.lst [xz, .non, .int 1, .bl true, .ref l1, .str "", .ref t1]) := upd_same
        generalize (upd (upd (upd H6 l1 (.lst [.str (S nm)])) t1 (.tup [.str "m"])) L (.lst [xz, .non, .int 1, .bl true, .ref l1, .str "", .ref t1])) = H7 at hall s7 hL
        refine ⟨L, rfl, ⟨_, SqL.of hL⟩, for_it (walk_list (K := K) (a := L) (xs := [xz, .non, .int 1, .bl true, .ref l1, .str "", .ref t1])) (fun i σ H' => Same H7 H' ∧ ∃ y6 y9, σ = [some (.ref m), some (.ref tpl), some (.str (S nm)), some (.ref tp), some (.ref tr), some rv, y6, some (.ref D), y8, y9]) ⟨Same.refl _, y6, none, rfl⟩ (fun i σ H' _ h => SqL.of (h.1 _ _ hL)) ?_ ?_⟩
        · rintro i y σ H8 H9 hi ⟨sm, y6, y9, rfl⟩ ⟨rfl, e1⟩
          obtain ⟨d, hd, hokd⟩ := hall _ sm y (List.mem_of_getElem? e1)
          have s8 := s7.trans sm
          refine ⟨_, rfl, _, rfl, tp, rfl, ⟨_, Same.seqT s8 htp⟩, fun D3 nD3 => ?_⟩
          refine lc_it (walk_tup (K := K) (a := tp) (xs := ps)) (fun j H10 => Same _ H10 ∧ H10 D3 = some (.lst (txts ((prs.take j).map Pr.nm)))) ⟨same_upd nD3, upd_same⟩ (fun j H10 _ h => Same.seqT (s8.trans h.1) htp) ?_ ?_
          · rintro j y H10 H11 hj ⟨s10, hD3⟩ ⟨rfl, e2⟩
            obtain ⟨d0, hd0, hdy⟩ := dpAll_get (hdt.ext (TupE.same (s8.trans s10))) e2
            rw [List.getElem?_map] at hd0
            cases hr0 : prs[j]? with
            | none =>
              rw [hr0] at hd0
              cases hd0
            | some r =>
              rw [hr0] at hd0
              obtain rfl := Option.some.inj hd0
              obtain ⟨t, v, rfl, hit⟩ := item_of hdy
              refine ⟨rfl, ?_⟩
              unfold tYes
              refine iteT ⟨_, rfl, t, _, 0, .str (S r.nm), rfl, rfl, hit.at_, atI_nat (j := 0) rfl, _, hD3, ?_, same_grow s10 nD3, ?_⟩
              · rw [txts_len, List.length_map, List.length_take]
                exact small1000 (by omega)
              · rw [upd_same, List.take_add_one, hr0, List.map_append, ← txts_app]
                rfl
          rintro H10 ⟨s10, hD3⟩
          rw [hpsl, List.take_length] at hD3
          have hng : ∀ z ∈ prs.map Pr.nm, GoodN z := fun z hz => by
            obtain ⟨r, hr, rfl⟩ := List.mem_map.mp hz
            exact (hok r hr).nm
          have okl : OkD (.list (((prs.map Pr.nm).map S).map PyData.str)) := (smn_lst (n := 0) (smns_nms hng) (by rw [List.length_map, List.length_map, List.length_map]; omega)).okD (by decide)
          refine ⟨d, ((prs.map Pr.nm).map S).map PyData.str, dp_same s10 hd, .lst (SqL.of hD3) (by rw [txts_S]; exact dpAll_strs _), hokd.sh, okl.sh, _, rfl, ite2 (fun k => ?_) (fun _ => ⟨sm.trans s10, _, _, rfl⟩)⟩
          have hno : ∀ p ∈ is, PyData.eqv (.str p.nm) d = false := fun p hp => by
            obtain ⟨j, hj, e⟩ := List.mem_iff_getElem.mp hp
            obtain ⟨r, hr0, h⟩ := pim_at hpm (show is[j]? = some p by rw [List.getElem?_eq_getElem hj, e])
            rw [Bool.not_eq_true', List.any_eq_false] at k
            have := k (.str (S r.nm)) (List.mem_map.mpr ⟨S r.nm, List.mem_map.mpr ⟨r.nm, List.mem_map.mpr ⟨r, List.mem_of_getElem? hr0, rfl⟩, rfl⟩, rfl⟩)
            rw [h.1.nm]
            exact eq_false_of_ne_true this
          have s9 := s8.trans s10
          refine ⟨_, rfl, m, dx, _, rfl, s9 _ _ hm, mF_param, _, rfl, m, S nm, as, is, tr, .tuple ds, dX, y, d, rfl, hM.same s9, hps.same s9, names, dp_same s10 hd, hokd, fun j a p ha hp he _ => ?_, fun _ => ⟨rfl, _, rfl, iteF ⟨sm.trans s10, _, _, rfl⟩⟩⟩
          rw [hno p (List.mem_of_getElem? hp)] at he
          cases he
        · rintro σ H8 ⟨sm, y6, y9, rfl⟩
          exact q _ (s7.trans sm)
    · · have hzok : OkD (.str "a") := ⟨by decide +kernel, by decide +kernel⟩
        generalize hx : V.str "a" = xz
        obtain ⟨dz, hdz, hokz⟩ : ∃ d, (∀ H2, Dp K H2 xz d) ∧ OkD d := ⟨.str "a", fun H2 => hx ▸ .str "a", hzok⟩
        refine ⟨_, rfl, by show 1 ≤ sizeLine; decide, fun l1 n1 => ⟨by show 1 ≤ sizeLine; decide, fun t1 nt1 => ⟨by show 7 ≤ sizeLine; decide, fun L nL => ?_⟩⟩⟩
        have s61 := same_upd (o := .lst [.str (S nm)]) n1
        have s62 := same_upd (o := .tup [.str "m"]) nt1
        have s63 := same_upd (o := .lst [xz, .non, .int 1, .bl true, .ref l1, .str "", .ref t1]) nL
        have hall : ∀ H2, Same (upd (upd (upd H6 l1 (.lst [.str (S nm)])) t1 (.tup [.str "m"])) L (.lst [xz, .non, .int 1, .bl true, .ref l1, .str "", .ref t1])) H2 → ∀ x ∈ [xz, .non, .int 1, .bl true, .ref l1, .str "", .ref t1], ∃ d, Dp K H2 x d ∧ OkD d := fun H2 sm x hx => by
          rcases List.mem_cons.mp hx with rfl | hx
          · exact ⟨dz, hdz H2, hokz⟩
          rcases List.mem_cons.mp hx with rfl | hx
          · exact ⟨.none, .non, ⟨by decide +kernel, by decide +kernel⟩⟩
          rcases List.mem_cons.mp hx with rfl | hx
          · exact ⟨.int 1, .int 1, ⟨by decide +kernel, by decide +kernel⟩⟩
          rcases List.mem_cons.mp hx with rfl | hx
          · exact ⟨.bool true, .bl true, ⟨by decide +kernel, by decide +kernel⟩⟩
          rcases List.mem_cons.mp hx with rfl | hx
          · exact ⟨.list [.str (S nm)], .lst (SqL.of (sm _ _ (s63 _ _ (s62 _ _ upd_same)))) (.cons (.str _) .nil), (smn_lst (n := 0) (smn_cons (smn_str (sms_good hnm)) smn_nil) (by show 1 ≤ 1000; decide)).okD (by decide)⟩
          rcases List.mem_cons.mp hx with rfl | hx
          · exact ⟨.str "", .str "", ⟨by decide +kernel, by decide +kernel⟩⟩
          · rw [List.mem_singleton.mp hx]
            exact ⟨.tuple [.str "m"], .tup (SqT.of (sm _ _ (s63 _ _ upd_same))) (.cons (.str _) .nil), ⟨by decide +kernel, by decide +kernel⟩⟩
        have s7 := s6.trans ((s61.trans s62).trans s63)
        have hL : (upd (upd (upd H6 l1 (.lst [.str (S nm)])) t1 (.tup [.str "m"])) L (.lst [xz, .non, .int 1, .bl true, .ref l1, .str "", .ref t1])) L = some (.lst [xz, .non, .int 1, .bl true, .ref l1, .str "", .ref t1]) := upd_same
        generalize (upd (upd (upd H6 l1 (.lst [.str (S nm)])) t1 (.tup [.str "m"])) L (.lst [xz, .non, .int 1, .bl true, .ref l1, .str "", .ref t1])) = H7 at hall s7 hL
        refine ⟨L, rfl, ⟨_, SqL.of hL⟩, for_it (walk_list (K := K) (a := L) (xs := [xz, .non, .int 1, .bl true, .ref l1, .str "", .ref t1])) (fun i σ H' => Same H7 H' ∧ ∃ y6 y9, σ = [some (.ref m), some (.ref tpl), some (.str (S nm)), some (.ref tp), some (.ref tr), some rv, y6, some (.ref D), y8, y9]) ⟨Same.refl _, y6, none, rfl⟩ (fun i σ H' _ h => SqL.of (h.1 _ _ hL)) ?_ ?_⟩
        · rintro i y σ H8 H9 hi ⟨sm, y6, y9, rfl⟩ ⟨rfl, e1⟩
          obtain ⟨d, hd, hokd⟩ := hall _ sm y (List.mem_of_getElem? e1)
          have s8 := s7.trans sm
          refine ⟨_, rfl, _, rfl, tp, rfl, ⟨_, Same.seqT s8 htp⟩, fun D3 nD3 => ?_⟩
          refine lc_it (walk_tup (K := K) (a := tp) (xs := ps)) (fun j H10 => Same _ H10 ∧ H10 D3 = some (.lst (txts ((prs.take j).map Pr.nm)))) ⟨same_upd nD3, upd_same⟩ (fun j H10 _ h => Same.seqT (s8.trans h.1) htp) ?_ ?_
          · rintro j y H10 H11 hj ⟨s10, hD3⟩ ⟨rfl, e2⟩
            obtain ⟨d0, hd0, hdy⟩ := dpAll_get (hdt.ext (TupE.same (s8.trans s10))) e2
            rw [List.getElem?_map] at hd0
            cases hr0 : prs[j]? with
            | none =>
              rw [hr0] at hd0
              cases hd0
            | some r =>
              rw [hr0] at hd0
              obtain rfl := Option.some.inj hd0
              obtain ⟨t, v, rfl, hit⟩ := item_of hdy
              refine ⟨rfl, ?_⟩
              unfold tYes
              refine iteT ⟨_, rfl, t, _, 0, .str (S r.nm), rfl, rfl, hit.at_, atI_nat (j := 0) rfl, _, hD3, ?_, same_grow s10 nD3, ?_⟩
              · rw [txts_len, List.length_map, List.length_take]
                exact small1000 (by omega)
              · rw [upd_same, List.take_add_one, hr0, List.map_append, ← txts_app]
                rfl
          rintro H10 ⟨s10, hD3⟩
          rw [hpsl, List.take_length] at hD3
          have hng : ∀ z ∈ prs.map Pr.nm, GoodN z := fun z hz => by
            obtain ⟨r, hr, rfl⟩ := List.mem_map.mp hz
            exact (hok r hr).nm
          have okl : OkD (.list (((prs.map Pr.nm).map S).map PyData.str)) := (smn_lst (n := 0) (smns_nms hng) (by rw [List.length_map, List.length_map, List.length_map]; omega)).okD (by decide)
          refine ⟨d, ((prs.map Pr.nm).map S).map PyData.str, dp_same s10 hd, .lst (SqL.of hD3) (by rw [txts_S]; exact dpAll_strs _), hokd.sh, okl.sh, _, rfl, ite2 (fun k => ?_) (fun _ => ⟨sm.trans s10, _, _, rfl⟩)⟩
          have hno : ∀ p ∈ is, PyData.eqv (.str p.nm) d = false := fun p hp => by
            obtain ⟨j, hj, e⟩ := List.mem_iff_getElem.mp hp
            obtain ⟨r, hr0, h⟩ := pim_at hpm (show is[j]? = some p by rw [List.getElem?_eq_getElem hj, e])
            rw [Bool.not_eq_true', List.any_eq_false] at k
            have := k (.str (S r.nm)) (List.mem_map.mpr ⟨S r.nm, List.mem_map.mpr ⟨r.nm, List.mem_map.mpr ⟨r, List.mem_of_getElem? hr0, rfl⟩, rfl⟩, rfl⟩)
            rw [h.1.nm]
            exact eq_false_of_ne_true this
          have s9 := s8.trans s10
          refine ⟨_, rfl, m, dx, _, rfl, s9 _ _ hm, mF_param, _, rfl, m, S nm, as, is, tr, .tuple ds, dX, y, d, rfl, hM.same s9, hps.same s9, names, dp_same s10 hd, hokd, fun j a p ha hp he _ => ?_, fun _ => ⟨rfl, _, rfl, iteF ⟨sm.trans s10, _, _, rfl⟩⟩⟩
          rw [hno p (List.mem_of_getElem? hp)] at he
          cases he
        · rintro σ H8 ⟨sm, y6, y9, rfl⟩
          exact q _ (s7.trans sm)
end
end Dr
namespace Dr
open PySem PySem.Spec PyProof.Rows L2
open SX (S S_len S_cat)
theorem all_mono {l us us' : List Str} (h : ∀ z ∈ us, z ∈ us') (q : l.all us.contains = true) : l.all us'.contains = true := List.all_eq_true.mpr fun z hz => by
  have := List.all_eq_true.mp q z hz
  simp only [List.contains_iff_mem] at this ⊢
  exact h z this
theorem usesD_mono {us us' : List Str} {ps : List Part} (h : ∀ z ∈ us, z ∈ us') (q : usesD us ps = true) : usesD us' ps = true := all_mono h q
theorem rowB_mono {fx us us' : List Str} {d : PyData} (h : ∀ z ∈ us, z ∈ us') (q : rowB fx us d = true) : rowB fx us' d = true := by
  unfold rowB keepsD at q ⊢
  rw [Bool.and_eq_true, Bool.and_eq_true, Bool.and_eq_true, Bool.or_eq_true] at q ⊢
  exact ⟨q.1, q.2.1.imp_right (all_mono h), usesD_mono h q.2.2.1, q.2.2.2⟩
theorem resB_mono {us us' : List Str} {r : PyData} (h : ∀ z ∈ us, z ∈ us') (q : resB us r = true) : resB us' r = true := by
  unfold resB at q ⊢
  rw [Bool.and_eq_true] at q ⊢
  exact ⟨q.1, usesD_mono h q.2⟩
theorem okR_last {fx : List Str} {d : PyData} : ∀ {ds : List PyData} {us : List Str}, okR fx us (ds ++ [d]) = true → rowB fx (usA us ds) d = true
  | [], us, h => by
    have h : (rowB fx us d && true) = true := h
    rw [Bool.and_true] at h
    exact h
  | e :: r, us, h => by
    have h : (rowB fx us e && okR fx (us ++ asgD e) (r ++ [d])) = true := h
    rw [Bool.and_eq_true] at h
    exact okR_last (ds := r) h.2
/-- the last row once more is right -/
theorem okR_twice {fx us : List Str} {ds : List PyData} (hn : ds ≠ []) (h : okR fx us ds = true) : okR fx us (ds ++ ds.drop (ds.length - 1)) = true ∧ ∀ z ∈ usA us ds, z ∈ usA us (ds ++ ds.drop (ds.length - 1)) := by
  obtain ⟨ini, d, rfl⟩ : ∃ ini d, ds = ini ++ [d] := ⟨ds.dropLast, ds.getLast hn, (List.dropLast_concat_getLast hn).symm⟩
  have e : (ini ++ [d]).drop ((ini ++ [d]).length - 1) = [d] := by
    rw [List.length_append]
    show (ini ++ [d]).drop (ini.length + 1 - 1) = [d]
    rw [Nat.add_sub_cancel, List.drop_left']
    rfl
  rw [e]
  refine ⟨okR_snoc h (rowB_mono (fun z hz => ?_) (okR_last h)), fun z hz => ?_⟩
  · rw [usA_snoc]
    exact List.mem_append_left _ hz
  · rw [usA_snoc (ds := ini ++ [d])]
    exact List.mem_append_left _ hz
theorem eqvAll_len : ∀ {xs ys : List PyData}, xs.length ≠ ys.length → PyData.eqvAll xs ys = false
  | [], [], h => absurd rfl h
  | [], _ :: _, _ => rfl
  | _ :: _, [], _ => rfl
  | x :: xs, y :: ys, h => by
    show (PyData.eqv x y && PyData.eqvAll xs ys) = false
    rw [eqvAll_len (xs := xs) (ys := ys) fun e => h (by rw [List.length_cons, List.length_cons, e]), Bool.and_false]
theorem eqv_tup (xs ys : List PyData) : PyData.eqv (.tuple xs) (.tuple ys) = PyData.eqvAll xs ys := rfl
theorem eqvAll_cons (x y : PyData) (xs ys : List PyData) : PyData.eqvAll (x :: xs) (y :: ys) = (PyData.eqv x y && PyData.eqvAll xs ys) := rfl
theorem eqv_nil (xs : List PyData) : PyData.eqv (.tuple xs) (.tuple []) = decide (xs.length = 0) := by
  cases xs with
  | nil => rfl
  | cons x r => exact eqvAll_len (by simp)
/-- a slice t[-1:] -/
theorem last_of {K : PySem.W.Frag} {H : Hp} {a : Addr} {xs : List V} {Q : VK} (h : SqT K H a xs) (hn : 1 ≤ xs.length) (q : ∀ b H', Same H H' → SqT K H' b (xs.drop (xs.length - 1)) → Q (.ref b) H') : rSlA K (.ref a) (some (-1)) none H Q := by
  have e : HT.sIx xs.length 0 (some (-1)) = xs.length - 1 := by
    show (if (-1 : Int) < 0 then ((-1 : Int) + (xs.length : Int)).toNat else min (-1 : Int).toNat xs.length) = _
    rw [if_pos (by decide)]
    omega
  refine ⟨a, xs, rfl, h, fun k => ?_, fun k p np => ?_⟩
  · have k1 := k.1
    rw [e] at k1
    refine q a H (Same.refl _) ?_
    rw [k1]
    exact h
  · refine q p _ (same_upd np) (SqT.of ?_)
    rw [upd_same]
    unfold cutV
    rw [e, HT.sIx_none, List.take_of_length_le (by rw [List.length_drop]; exact Nat.le_refl _)]
section
variable {P : Program} {w : World} {K : PySem.W.Frag} {mg : Str → Option Value} {base : Heap}
/-- right parts, of drawn data -/
theorem margs_of {CP : Addr} {H : Hp} {z : Str} {prs : List Pr} {as : List Addr} {is : List Pi} {tR : Addr} {rows : List V} {ds : List PyData} {vX : V} {dX : PyData} (zs : SmS z) (zn : isNameD (.str z) = true) (hpa : PsAt CP H as is) (hpm : Paired (PimD K H) prs is) (plen : prs.length ≤ 3) (pnd : (prs.map Pr.nm).Nodup)
    (ord : prs.Pairwise fun a b => badPr a b = false) (bx : (ofHs "box" prs).length ≤ 2) (hR : SqT K (tu H) tR rows) (hd : DtAll K H rows ds) (l8 : ds.length ≤ 8) (sm : ∀ d ∈ ds, Smn 3 d) (hX : Dt K H vX dX) (sx : Smn 3 dX)
    (ok : okR ((ofHs "mark" prs).map S) ((ofHs "box" prs).map S) ds = true) (res : resB (usA ((ofHs "box" prs).map S) ds) dX = true) : MArgs K CP H z as is tR rows ds vX dX := by
  have hp := pimD hpm
  have hl := pim_len hp
  have h1 := hpa.1
  have hh1 := pim_hold (w := "mark") hp
  have hh2 := pim_hold (w := "box") hp
  have hrl := dpAll_len hd
  refine ⟨okD_sms zs, zn, hpa, by omega, pim_new hp pnd, pim_ord hp ord, ?_, hR, hd, by omega, fun d h => (sm d h).okD (by decide), (smn_tup (smns_of sm) (by omega)).okD (by decide), hX, sx.okD (by decide), ?_⟩
  · rw [hh2, List.length_map]
    exact bx
  · rw [hh1, hh2, fbr_ok ok, if_pos res]
theorem eqI_mm {CM CP a b : Addr} {H : Hp} {nm nm2 : Str} {as bs : List Addr} {tR tR2 : Addr} {dR dR2 dX dX2 : PyData} {pe : Bool} {Q : VK} (hA : MtAt K CM H a nm as tR dR dX) (hB : MtAt K CM H b nm2 bs tR2 dR2 dX2)
    (hpe : ((∀ (i : Nat) (c d : Addr), as[i]? = some c → bs[i]? = some d → c = d) ∧ pe = decide (as.length = bs.length)) ∨ (pe = true ∧ Prs (DIns CP (RP K CP)) (as.map V.ref) (bs.map V.ref) H)) (q : ∀ H', Same H H' → Q (.bl (((decide (nm = nm2) && pe) && PyData.eqv dR dR2) && PyData.eqv dX dX2)) H') :
    rEqI K CM (spMEq K CM CP) E0 (.ref a) (.ref b) H Q := by
  obtain ⟨dx, _, _, h1, _⟩ := hA.ex
  obtain ⟨dy, _, _, h2, _⟩ := hB.ex
  exact ⟨a, dx, _, rfl, h1, .inl ⟨b, dy, _, rfl, h2⟩, a, nm, as, tR, dR, dX, .ref b, rfl, hA, .inl ⟨b, nm2, bs, tR2, dR2, dX2, pe, rfl, hB, hpe, q⟩⟩
theorem eqI_md {CM CP a : Addr} {H : Hp} {nm : Str} {as : List Addr} {tR : Addr} {dR dX : PyData} {y : V} {e : PyData} {Q : VK} (hA : MtAt K CM H a nm as tR dR dX) (he : Dp K H y e) (q : Q (.bl false) H) : rEqI K CM (spMEq K CM CP) E0 (.ref a) y H Q := by
  obtain ⟨dx, _, _, h1, _⟩ := hA.ex
  exact ⟨a, dx, _, rfl, h1, .inr ⟨e, he⟩, a, nm, as, tR, dR, dX, y, rfl, hA, .inr ⟨e, he, q⟩⟩
theorem neI_mm {CM CP a b : Addr} {H : Hp} {nm nm2 : Str} {as bs : List Addr} {tR tR2 : Addr} {dR dR2 dX dX2 : PyData} {pe : Bool} {Q : VK} (hA : MtAt K CM H a nm as tR dR dX) (hB : MtAt K CM H b nm2 bs tR2 dR2 dX2)
    (hpe : ((∀ (i : Nat) (c d : Addr), as[i]? = some c → bs[i]? = some d → c = d) ∧ pe = decide (as.length = bs.length)) ∨ (pe = true ∧ Prs (DIns CP (RP K CP)) (as.map V.ref) (bs.map V.ref) H)) (q : ∀ H', Same H H' → Q (.bl (!(((decide (nm = nm2) && pe) && PyData.eqv dR dR2) && PyData.eqv dX dX2))) H') :
    rNeI K CM (spMEq K CM CP) E0 (.ref a) (.ref b) H Q := by
  obtain ⟨dx, _, _, h1, _⟩ := hA.ex
  obtain ⟨dy, _, _, h2, _⟩ := hB.ex
  exact ⟨a, dx, _, rfl, h1, .inl ⟨b, dy, _, rfl, h2⟩, a, nm, as, tR, dR, dX, .ref b, rfl, hA, .inl ⟨b, nm2, bs, tR2, dR2, dX2, pe, rfl, hB, hpe, fun H' s => ⟨_, rfl, q H' s⟩⟩⟩
/-- two makings of the same parameters -/
theorem prs_eq {CP : Addr} {H : Hp} {prs : List Pr} {as bs : List Addr} {is js : List Pi} (ok : ∀ r ∈ prs, r.ok) (h1 : PsAt CP H as is) (h2 : PsAt CP H bs js) (p1 : Paired (PimD K H) prs is) (p2 : Paired (PimD K H) prs js) : Prs (DIns CP (RP K CP)) (as.map V.ref) (bs.map V.ref) H := by
  have l1 := pim_len (pimD p1)
  have l2 := pim_len (pimD p2)
  have m1 := h1.1
  have m2 := h2.1
  refine ⟨by rw [List.length_map, List.length_map]; omega, fun i x y e1 e2 => ?_⟩
  rw [List.getElem?_map] at e1 e2
  cases ha : as[i]? with
  | none =>
    rw [ha] at e1
    cases e1
  | some a =>
    cases hb : bs[i]? with
    | none =>
      rw [hb] at e2
      cases e2
    | some b =>
      rw [ha] at e1
      rw [hb] at e2
      obtain rfl := Option.some.inj e1
      obtain rfl := Option.some.inj e2
      obtain ⟨p, hp, dx, hat⟩ := h1.2 i a ha
      obtain ⟨q, hq, dy, hbt⟩ := h2.2 i b hb
      obtain ⟨r, hr, k1⟩ := pim_at p1 hp
      obtain ⟨r', hr', k2⟩ := pim_at p2 hq
      obtain rfl := Option.some.inj (hr.symm.trans hr')
      have e3 : q.nm = p.nm := k2.1.nm.trans k1.1.nm.symm
      have e4 : q.hs = p.hs := k2.1.hs.trans k1.1.hs.symm
      have e5 : q.nd = p.nd := k2.1.nd.trans k1.1.nd.symm
      have hbt' : H b = some (.ins CP dy (pF p.nm p.hs q.v p.nd)) := by
        rw [← e3, ← e4, ← e5]
        exact hbt
      exact ⟨a, b, dx, dy, _, _, rfl, rfl, hat, hbt', p.nm, p.hs, p.v, q.v, r.df.data, p.nd, ⟨dx, hat⟩, ⟨dy, hbt'⟩, k1.2.dp, k2.2.dp, Df.okD (ok r (List.mem_of_getElem? hr)).df⟩
theorem same_ids (as : List Addr) : ∀ (i : Nat) (c d : Addr), as[i]? = some c → as[i]? = some d → c = d := fun i c d h1 h2 => Option.some.inj (h1.symm.trans h2)
end
end Dr
namespace Dr
open PySem PySem.Spec PyProof.Rows L2
open SX (S S_len S_cat)
abbrev sLaw : Stmt := topS 53
abbrev nLaw : List Str := ["_law_script", "_law_at", "_law_bag_here", "_law_name", "_law_root", "_law_own", "_law_methods", "_law_word", "_law_params_here", "_law_listed", "_law_result", "_law_made", "_law_plain_here", "_law_one", "_law_two", "_law_same", "_law_bare", "_law_other", "_law_box", "_law_row_here"]
theorem scLaw : FnScope nLaw ["_law_script"] (defScope sLaw) := ⟨rfl, rfl, rfl, by decide +kernel, rfl, by decide +kernel, by decide +kernel⟩
structure BltL (mg : Str → Option Value) : Prop where
  range : mg "range" = none
  max : mg "max" = none
  min : mg "min" = none
  len : mg "len" = none
  tup : mg "tuple" = none
/-- a drawn method's parts stand -/
structure MethAt (K : PySem.W.Frag) (H : Hp) (tm tp tr : Addr) (rv : V) (nm : List Nat) (ps rs : List V) (prs : List Pr) (ds : List PyData) (r : PyData) : Prop where
  at_ : SqT K (tu H) tm [.str (S nm), .ref tp, .ref tr, rv]
  hp : SqT K (tu H) tp ps
  dp : DtAll K H ps (prs.map Pr.data)
  hr : SqT K (tu H) tr rs
  dr : DtAll K H rs ds
  dx : Dt K H rv r
theorem meth_at {K : PySem.W.Frag} {H : Hp} {y : V} {nm : List Nat} {prs : List Pr} {ds : List PyData} {r : PyData} (h : Dt K H y (methD nm prs ds r)) : ∃ tm tp tr rv ps rs, y = .ref tm ∧ MethAt K H tm tp tr rv nm ps rs prs ds r := by
  unfold methD at h
  cases h with
  | tup hs hd =>
    cases hd with
    | cons h1 hd =>
      cases h1
      cases hd with
      | cons h2 hd =>
        cases h2 with
        | tup hs2 hd2 =>
          cases hd with
          | cons h3 hd =>
            cases h3 with
            | tup hs3 hd3 =>
              cases hd with
              | cons h4 hd =>
                cases hd
                exact ⟨_, _, _, _, _, _, rfl, hs, hs2, hd2, hs3, hd3, h4⟩
theorem MethAt.go {K : PySem.W.Frag} {H H' : Hp} {tm tp tr : Addr} {rv : V} {nm : List Nat} {ps rs : List V} {prs : List Pr} {ds : List PyData} {r : PyData} (h : MethAt K H tm tp tr rv nm ps rs prs ds r) (s : TupE H H') : MethAt K H' tm tp tr rv nm ps rs prs ds r :=
  ⟨Same.seqT (tu_ext s) h.at_, Same.seqT (tu_ext s) h.hp, h.dp.ext s, Same.seqT (tu_ext s) h.hr, h.dr.ext s, h.dx.ext s⟩
theorem MethAt.dp_ {K : PySem.W.Frag} {H : Hp} {tm tp tr : Addr} {rv : V} {nm : List Nat} {ps rs : List V} {prs : List Pr} {ds : List PyData} {r : PyData} (h : MethAt K H tm tp tr rv nm ps rs prs ds r) : Dt K H (.ref tm) (methD nm prs ds r) :=
  Dp.tup h.at_ (.cons (.str _) (.cons (Dp.tup h.hp h.dp) (.cons (Dp.tup h.hr h.dr) (.cons h.dx .nil))))
theorem lc_prsT {K : PySem.W.Frag} {a : Addr} {ps : List V} {prs : List Pr} {g : L2.TG} {tt : TT} {te : TE} {vs : List Nat} {σ : L2.St} {H1 : Hp} {D : Addr} {Qd : Hp → Prop} (f : Pr → Bool) (e : Pr → V → V) (ha : SqT K H1 a ps) (hd : DtAll K H1 ps (prs.map Pr.data)) (nD : H1 D = none) (hl : prs.length ≤ 100)
    (hs : ∀ r t v H, r ∈ prs → Item K H r t v → ∀ (R : V → Hp → Prop) (R' : Hp → Prop), (f r = true → R (e r (.ref t)) H) → (f r = false → R' H) → g (.ref t) (wipe σ vs) H fun σ2 H2 => wipe σ2 vs = wipe σ vs ∧ tt σ2 H2 fun b H3 => if b = true then te σ2 H3 fun y H4 => R y H4 else R' H3)
    (fin : ∀ H2, Same H1 H2 → H2 D = some (.lst (sel f e prs ps)) → Qd H2) :
    ∃ W : Nat → Nat → Hp → Prop, (∃ m, W 0 m (upd H1 D (.lst []))) ∧ ∀ i m H, W i m H →
      ((Itt K a).stop i H ∧ Qd H) ∨ ((Itt K a).go i H ∧ ∃ Nx : Hp → Prop, (∀ H', Nx H' → ∃ m', m' < m ∧ W (i + 1) m' H') ∧ ∀ x H', (Itt K a).yld i H x H' → g x (wipe σ vs) H' fun σ2 H2 => wipe σ2 vs = wipe σ vs ∧ tt σ2 H2 fun b H3 =>
        if b = true then te σ2 H3 fun y H4 => ∃ acc, H4 D = some (.lst acc) ∧ acc.length < sizeLine ∧ Nx (upd H4 D (.lst (acc ++ [y]))) else Nx H3) := by
  have hpl : ps.length = prs.length := by rw [dpAll_len hd, List.length_map]
  refine lc_it (walk_tup (K := K) (a := a) (xs := ps)) (fun i H => Same H1 H ∧ H D = some (.lst (sel f e (prs.take i) (ps.take i)))) ⟨same_upd nD, upd_same⟩ (fun i H _ h => Same.seqT h.1 ha) ?_ ?_
  · rintro i x H H' hi ⟨sm, hD⟩ ⟨rfl, ex⟩
    obtain ⟨d0, hd0, hdy⟩ := dpAll_get (hd.ext (TupE.same sm)) ex
    rw [List.getElem?_map] at hd0
    cases hr : prs[i]? with
    | none =>
      rw [hr] at hd0
      cases hd0
    | some r =>
      rw [hr] at hd0
      obtain rfl := Option.some.inj hd0
      obtain ⟨t, v, rfl, hit⟩ := item_of hdy
      refine hs r t v _ (List.mem_of_getElem? hr) hit _ _ (fun hf => ?_) (fun hf => ?_)
      · refine ⟨_, hD, ?_, same_grow sm nD, ?_⟩
        · have h1 := sel_len f e (prs.take i) (ps.take i)
          rw [List.length_take] at h1
          exact small1000 (by omega)
        · rw [upd_same, sel_next hr ex, hf]
          rfl
      · refine ⟨sm, ?_⟩
        rw [hD, sel_next hr ex, hf, if_neg Bool.false_ne_true, List.append_nil]
  · rintro H ⟨sm, hD⟩
    rw [List.take_length, List.take_of_length_le (by omega)] at hD
    exact fin H sm hD
theorem zz_name {cs : List Nat} (g : GoodN cs) : isNameD (.str (S (cs.take 1 ++ [122, 122]))) = true ∧ SmS (S (cs.take 1 ++ [122, 122])) := by
  have lo := g.lo
  have hl : (cs.take 1).length = 1 := by
    rw [List.length_take]
    omega
  have low : (cs.take 1 ++ [122, 122]).all lowC = true := by
    rw [List.all_append, Bool.and_eq_true]
    exact ⟨List.all_eq_true.mpr fun c hc => List.all_eq_true.mp g.low c (List.mem_of_mem_take hc), by decide⟩
  have hlen : (cs.take 1 ++ [122, 122]).length = 3 := by
    rw [List.length_append, hl]
    rfl
  refine ⟨good_name low (by omega) (by omega) ?_, sms_low (fun c hc => List.all_eq_true.mp low c hc) (by omega)⟩
  rw [List.any_append]
  exact Bool.or_eq_true _ _ ▸ .inr (by decide)
/-- a name that is its first letter and zz ends in zz -/
theorem zz_of {cs : List Nat} (g : GoodN cs) (e : S cs = S (cs.take 1 ++ [122, 122])) : cs.drop 1 = [122, 122] := by
  have e := SX.S_inj e
  have h := congrArg (List.drop 1) e
  rw [h, List.drop_left']
  have lo := g.lo
  rw [List.length_take]
  omega
def noneD : PyData := .tuple [.str "none"]
def boxD (z : Str) : PyData := .tuple [.str "box", .str z]
theorem box_ne {r : PyData} {z : Str} (h : PyData.eqv r noneD = true) : PyData.eqv r (boxD z) = false := by
  cases r with
  | tuple xs =>
    refine eqvAll_len fun e => ?_
    have h : PyData.eqvAll xs [.str "none"] = true := h
    rw [eqvAll_len (by rw [e]; show 2 ≠ 1; decide)] at h
    cases h
  | _ => cases h
/-- what stands while a method is asked -/
structure LwB (K : PySem.W.Frag) (CM CP : Addr) (H : Hp) (m1 m2 m3 pl tm tp tr : Addr) (rv : V) (nm : List Nat) (ps rs : List V) (prs : List Pr) (ds : List PyData) (r : PyData) (as : List Addr) (is : List Pi) : Prop where
  hm : MethAt K H tm tp tr rv nm ps rs prs ds r
  hpl : H pl = some (.tup [.str (S nm), .ref tp, .ref tr, rv])
  h1 : MtAt K CM H m1 (S nm) as tr (.tuple ds) r
  h2 : MtAt K CM H m2 (S nm) as tr (.tuple ds) r
  h3 : MtAt K CM H m3 (S nm) as tr (.tuple ds) r
  ps : PsAt CP H as is
  pm : Paired (PimD K H) prs is
theorem LwB.same {K : PySem.W.Frag} {CM CP : Addr} {H H' : Hp} {m1 m2 m3 pl tm tp tr : Addr} {rv : V} {nm : List Nat} {ps rs : List V} {prs : List Pr} {ds : List PyData} {r : PyData} {as : List Addr} {is : List Pi} (h : LwB K CM CP H m1 m2 m3 pl tm tp tr rv nm ps rs prs ds r as is) (s : Same H H') : LwB K CM CP H' m1 m2 m3 pl tm tp tr rv nm ps rs prs ds r as is :=
  ⟨h.hm.go (TupE.same s), s _ _ h.hpl, h.h1.same s, h.h2.same s, h.h3.same s, h.ps.same s, pimD_ext (TupE.same s) h.pm⟩
theorem LwB.grow {K : PySem.W.Frag} {CM CP : Addr} {H : Hp} {m1 m2 m3 pl tm tp tr D : Addr} {rv : V} {nm : List Nat} {ps rs : List V} {prs : List Pr} {ds : List PyData} {r : PyData} {as : List Addr} {is : List Pi} {us ys : List V} (h : LwB K CM CP H m1 m2 m3 pl tm tp tr rv nm ps rs prs ds r as is) (hl : H D = some (.lst us)) : LwB K CM CP (upd H D (.lst ys)) m1 m2 m3 pl tm tp tr rv nm ps rs prs ds r as is :=
  ⟨h.hm.go (TupE.grow hl), TupE.grow hl _ _ h.hpl, h.h1.grow hl, h.h2.grow hl, h.h3.grow hl, h.ps.grow hl, pimD_ext (TupE.grow hl) h.pm⟩
/-- the plain data of a method, as a tuple of its parts -/
theorem LwB.pd {K : PySem.W.Frag} {CM CP : Addr} {H : Hp} {m1 m2 m3 pl tm tp tr : Addr} {rv : V} {nm : List Nat} {ps rs : List V} {prs : List Pr} {ds : List PyData} {r : PyData} {as : List Addr} {is : List Pi} (h : LwB K CM CP H m1 m2 m3 pl tm tp tr rv nm ps rs prs ds r as is) : Dp K H (.ref pl) (methD nm prs ds r) :=
  (Dt.tup h.hpl (.cons (.str _) (.cons (Dp.tup h.hm.hp h.hm.dp) (.cons (Dp.tup h.hm.hr h.hm.dr) (.cons h.hm.dx .nil))))).dp
theorem LwB.rd {K : PySem.W.Frag} {CM CP : Addr} {H : Hp} {m1 m2 m3 pl tm tp tr : Addr} {rv : V} {nm : List Nat} {ps rs : List V} {prs : List Pr} {ds : List PyData} {r : PyData} {as : List Addr} {is : List Pi} (h : LwB K CM CP H m1 m2 m3 pl tm tp tr rv nm ps rs prs ds r as is) : Dp K H (.ref tr) (.tuple ds) :=
  dp_same tu_sub (Dp.tup h.hm.hr h.hm.dr)
theorem LwB.hp {K : PySem.W.Frag} {CM CP : Addr} {H : Hp} {m1 m2 m3 pl tm tp tr : Addr} {rv : V} {nm : List Nat} {ps rs : List V} {prs : List Pr} {ds : List PyData} {r : PyData} {as : List Addr} {is : List Pi} (h : LwB K CM CP H m1 m2 m3 pl tm tp tr rv nm ps rs prs ds r as is) : SqT K H tp ps := Same.seqT tu_sub h.hm.hp
theorem res_none (us : List Str) : resB us noneD = true := resB_mono (us := []) (fun z h => by cases h) (ResG.facts (us := []) (ts := []) .non (fun y h => by cases h) (fun y h => by cases h) (fun z => Iff.rfl))
theorem res_box {us : List Str} {z : List Nat} (g : GoodN z) (h : S z ∈ us) : resB us (boxD (S z)) = true := resB_mono (us := [S z]) (fun y hy => by
    rw [List.mem_singleton.mp hy]
    exact h) (ResG.facts (us := [z]) (ts := []) (.box z (List.mem_singleton.mpr rfl)) (fun y h => by
    rw [List.mem_singleton.mp h]
    exact g) (fun y h => by cases h) (fun z => Iff.rfl))
theorem usA_up {z : Str} : ∀ {ds : List PyData} {us : List Str}, z ∈ us → z ∈ usA us ds
  | [], _, h => h
  | _ :: r, _, h => usA_up (ds := r) (List.mem_append_left _ h)
theorem sms_none : SmS "none" := sms_lit (by decide +kernel)
theorem sm_none : Smn 3 noneD := smn_tup (n := 2) (smn_cons (smn_str sms_none) smn_nil) (by show 1 ≤ 1000; decide)
theorem sm_box {z : List Nat} (g : GoodN z) : Smn 3 (boxD (S z)) := smn_tup (n := 2) (smn_cons (smn_lit (by decide +kernel)) (smn_cons (smn_str (sms_good g)) smn_nil)) (by show 2 ≤ 1000; decide)
/-- no parameters, no rows, no result -/
theorem margs_bare {K : PySem.W.Frag} {CP aE aX : Addr} {H : Hp} {nm : List Nat} (gn : GoodN nm) (hE : ∀ H, SqT K H aE []) (hX : ∀ H, SqT K H aX [.str "none"]) : MArgs K CP H (S nm) [] [] aE [] [] (.ref aX) noneD :=
  margs_of (prs := []) (sms_good gn) gn.ok ⟨rfl, fun i a e => by simp at e⟩ .nil (by decide) List.nodup_nil .nil (by decide) (hE _) .nil (by decide) (fun d h => by cases h) (Dp.tup (hX _) (.cons (.str _) .nil)) sm_none rfl (res_none _)
theorem eqv_bare {nm : List Nat} {prs : List Pr} {ds : List PyData} {r : PyData} {n : Nat} (h : n = prs.length) : PyData.eqv (methD nm prs ds r) (methD nm [] [] noneD) = (((decide (S nm = S nm) && decide (n = 0)) && PyData.eqv (.tuple ds) (.tuple [])) && PyData.eqv r noneD) := by
  show (PyData.eqv (.str (S nm)) (.str (S nm)) && (PyData.eqv (.tuple (prs.map Pr.data)) (.tuple []) && (PyData.eqv (.tuple ds) (.tuple []) && (PyData.eqv r noneD && true)))) = _
  rw [eqv_SS, eqv_nil (prs.map _), List.length_map, h, Bool.and_true, Bool.and_assoc, Bool.and_assoc]
theorem ok_bool (b : Bool) : OkD (.bool b) := (smn_bl (n := 0) b).okD (by decide)
theorem meth_sm {nm : List Nat} {prs : List Pr} {ds : List PyData} {r : PyData} (gn : GoodN nm) (hp : ∀ x ∈ prs, x.ok) (l1 : prs.length ≤ 3) (hd : ∀ d ∈ ds, Smn 3 d) (l2 : ds.length ≤ 8) (hr : Smn 3 r) : OkD (methD nm prs ds r) :=
  (smn_tup (n := 4) (smn_cons (smn_str (sms_good gn)) (smn_cons (smn_tup (prs_smn hp) (by rw [List.length_map]; omega)) (smn_cons (smn_tup (smns_of hd) (by omega)) (smn_cons (hr.mono (by decide)) smn_nil)))) (by show 4 ≤ 1000; decide)).okD (by decide)
theorem okD_nil : OkD (.tuple []) := (smn_tup (n := 0) smn_nil (by decide)).okD (by decide)
theorem spMI_mono {K : PySem.W.Frag} {CM CP : Addr} {x : MErr} {vs : List V} {H : Hp} {Q Q' : VK} {E : XK} (h : spMI K CM CP x vs H Q E) (q : ∀ H', Q .non H' → Q' .non H') : spMI K CM CP x vs H Q' E := by
  obtain ⟨p, dx, tR, tP, vn, vX, dn, dX, as, is, rows, ds, e, h1, h2, h3, h4, h5, h6, h7, h8, h9, h10, h11, h12, h13, h14, h15, h16⟩ := h
  exact ⟨p, dx, tR, tP, vn, vX, dn, dX, as, is, rows, ds, e, h1, h2, h3, h4, h5, h6, h7, h8, h9, h10, h11, h12, h13, h14, h15, fun e H' k z => q _ (h16 e H' k z)⟩
theorem LwB.hrq {K : PySem.W.Frag} {CM CP : Addr} {H : Hp} {m1 m2 m3 pl tm tp tr : Addr} {rv : V} {nm : List Nat} {ps rs : List V} {prs : List Pr} {ds : List PyData} {r : PyData} {as : List Addr} {is : List Pi} (h : LwB K CM CP H m1 m2 m3 pl tm tp tr rv nm ps rs prs ds r as is) : SqT K H tr rs := Same.seqT tu_sub h.hm.hr
theorem dpAll_drop {K : PySem.W.Frag} {H : Hp} : ∀ {vs : List V} {ds : List PyData} {n : Nat}, DpAll K H vs ds → DpAll K H (vs.drop n) (ds.drop n)
  | _, _, 0, h => h
  | _, _, _ + 1, .nil => .nil
  | _, _, n + 1, .cons _ as => dpAll_drop (n := n) as
end Dr
namespace Dr
open PySem PySem.Spec PyProof.Rows L2
open SX (S S_len S_cat)
section
variable {P : Program} {w : World} {K : PySem.W.Frag} {mg : Str → Option Value} {base : Heap}
structure EqM (K : PySem.W.Frag) (C g : Addr) : Prop where
  eq : PySem.W.findIn K (.ref C) "__eq__" = some (some (.ref g))
  fn : PySem.W.isFn K (.ref g) = true
  ne : PySem.W.findIn K (.ref C) "__ne__" = some (some (.builtin "object.__ne__"))
def spLaw (K : PySem.W.Frag) : Sp := fun vs H Q _ => ∃ (a : Addr) (ns : List Int), vs = [.ref a] ∧ SqL K H a (ns.map V.int) ∧ ns.length ≤ 63 ∧ ∀ H', Q (.bl true) H'
set_option maxHeartbeats 16000000 in
theorem ok_law {CM CP f fB fT fP fL fD fO fF fI fE aE aX aE2 aX2 p0 : Addr} {mc : Value} {fd fdB fdT fdP fdL fdD fdO fdF fdE : FuncData} {x : MErr} (F : Fun K "law" "law" sLaw f fd) (L : BltL mg) (TM : Mtd K mg CM mc) (TE : MtdE K CM) (EQ : EqM K CM fE) (M : Mk K CM fI) (FO : FMOf K aE aX fO fdO) (c : ClX.CMet K CM mc "of" p0 fO) (hE : ∀ H, SqT K H aE []) (hX : ∀ H, SqT K H aX [.str "none"]) (hE2 : ∀ H, SqT K H aE2 []) (hX2 : ∀ H, SqT K H aX2 [.str "none"])
    (GB : FnOk P w K mg base CX0 1 fB fdB ["_law_script", "_law_at"] (spBag K)) (mB : mg "_law_bag" = some (.ref fB)) (kB : PySem.W.keepIn K (.ref fB) = true) (bB : Binds K fdB ["_law_script", "_law_at"] [])
    (GT : FnOk P w K mg base CX0 1 fT fdT ["_law_bag_here", "_law_many"] spTake) (mT : mg "_law_take" = some (.ref fT)) (kT : PySem.W.keepIn K (.ref fT) = true) (bT : Binds K fdT ["_law_bag_here", "_law_many"] [])
    (GP : FnOk P w K mg base CX0 6 fP fdP psPlain (spPlain K)) (mP : mg "_law_plain" = some (.ref fP)) (kP : PySem.W.keepIn K (.ref fP) = true) (bP : Binds K fdP psPlain [])
    (GL : FnOk P w K mg base CX0 8 fL fdL ["_law_listed"] (spLP K CP)) (mL : mg "_law_params" = some (.ref fL)) (kL : PySem.W.keepIn K (.ref fL) = true) (bL : Binds K fdL ["_law_listed"] [])
    (GD : FnOk P w K mg base CX0 10 fD fdD nDir (spDir K CM CP)) (mD : mg "_law_direct" = some (.ref fD)) (kD : PySem.W.keepIn K (.ref fD) = true) (bD : Binds K fdD nDir [])
    (GO : FnOk P w K mg base (L2.CX P w) 10 fO fdO psMOf (spMOf K CM CP x))
    (GF : FnOk P w K mg base CX0 2 fF fdF ["_law_method_here", "_law_plain_here"] (spFits K CM CP)) (mF : mg "_law_fits" = some (.ref fF)) (kF : PySem.W.keepIn K (.ref fF) = true) (bF : Binds K fdF ["_law_method_here", "_law_plain_here"] [])
    (GE : FnOk P w K mg base CX0 3 fE fdE ["self", "other"] (spMEq K CM CP)) (bE : Binds K fdE ["self", "other"] [])
    (GI : FnK P w K mg base (L2.CX P w) 8 fI [] (fun vs zs H Q E => ∃ xs rest, vs = xs ++ rest ∧ xs.length = 2 ∧ rest.length ≤ sizeLine ∧ ∀ p, H p = Option.none → spMI K CM CP x ((xs ++ [.ref aE2, .ref aX2]) ++ [V.ref p]) (upd H p (.tup rest)) Q E)) : FnOk P w K mg base CX0 11 f fd ["_law_script"] (spLaw K) := by
  obtain ⟨mv, bO⟩ := bind_of FO
  obtain ⟨mvS, bOS⟩ := bind_ofS FO
  obtain ⟨mvR, bOR⟩ := bind_ofR FO
  obtain ⟨mv0, bO0⟩ := bind_of0 FO
  have GK := FnK.of GO bO
  have GKS := FnK.of GO bOS
  have GKR := FnK.of GO bOR
  have GK0 := FnK.of GO bO0
  refine F.ok scLaw (fun vs H Q E h => ?_) (fun cdv A outer s H vs Q E hr h => ?_)
  · obtain ⟨a, ns, rfl, _⟩ := h
    rfl
  · obtain ⟨a, ns, rfl, hS, hlen, q⟩ := h
    have hu : (A.deeper (envOfC "law" (defScope sLaw) s.heap.objs.size f cdv)).units + 64 < cLine := hr.units
    have hr1 : Room 1 _ := hr.mono (by omega)
    have hr2 : Room 2 _ := hr.mono (by omega)
    have hr3 : Room 3 _ := hr.mono (by omega)
    have hr4 : Room 4 _ := hr.mono (by omega)
    have hr6 : Room 6 _ := hr.mono (by omega)
    have hr8 : Room 8 _ := hr.mono (by omega)
    have hr9 : Room 9 _ := hr.mono (by omega)
    refine ⟨_, pss_cons (ps_for PassesOwn.never rfl (pi_range1 rfl L.range (pa_cons (pe_callB (call_max2 rfl) (by rfl) L.max (by decide +kernel) (pa_cons pe_int (pa_cons (pe_callB (call_min2 rfl) (by rfl) L.min (by decide +kernel) (pa_cons pe_int (pa_cons (pe_callB call_len_seq (by rfl) L.len PySem.boot_len (pa_cons (pv 0) pa_nil)) pa_nil))) pa_nil))) pa_nil)) (pg_name (i := 1) scLaw.nd rfl (.inl rfl))
      (pss_cons (ps_set (i := 2) scLaw.nd rfl (.inl rfl) (pe_call GB hr1 (by rfl) mB kB bB .nil pass0 (pa_cons (pv 0) (pa_cons (pv 1) pa_nil))))
      (pss_one (ps_for PassesOwn.never rfl (pi_tup (pe_ix (show IxR _ (rIxT K) from ix_tup) (pe_call GP hr6 (by rfl) mP kP bP .nil pass0 (pa_cons (pv 2) (pa_cons (pe_op op_add pe_int (pe_call GT hr1 (by rfl) mT kT bT .nil pass0 (pa_cons (pv 2) (pa_cons pe_int pa_nil)))) (pa_cons pe_int pa_nil)))) pe_int (fun _ _ => rfl)))
          (pg_tup rfl (pgs_cons (pg_name (i := 3) scLaw.nd rfl (.inl rfl)) (pgs_cons (pg_name (i := 4) scLaw.nd rfl (.inl rfl)) (pgs_cons (pg_name (i := 5) scLaw.nd rfl (.inl rfl)) (pgs_cons (pg_name (i := 6) scLaw.nd rfl (.inl rfl)) pgs_nil)))))
        (pss_one (ps_for PassesOwn.never rfl (pi_tup (pv 6)) (pg_tup rfl (pgs_cons (pg_name (i := 7) scLaw.nd rfl (.inl rfl)) (pgs_cons (pg_name (i := 8) scLaw.nd rfl (.inl rfl)) (pgs_cons (pg_name (i := 9) scLaw.nd rfl (.inl rfl)) (pgs_cons (pg_name (i := 10) scLaw.nd rfl (.inl rfl)) pgs_nil)))))
        (pss_cons (ps_par (i := 11) (j := 12) (by rfl) scLaw.nd rfl rfl (by decide) rfl rfl (pa_cons (pe_call GL hr8 (by rfl) mL kL bL .nil pass0 (pa_cons (pv 8) pa_nil)) (pa_cons (pe_tup (pa_cons (pv 7) (pa_cons (pv 8) (pa_cons (pv 9) (pa_cons (pv 10) pa_nil))))) pa_nil)) (by rfl))
        (pss_cons (ps_par (i := 13) (j := 14) (by rfl) scLaw.nd rfl rfl (by decide) rfl rfl (pa_cons (pe_cmethK (E := fun _ => E0) (pe_glob (v := .ref CM) (by rfl) TM.mgC rfl) TM.rd c GK hr (fun σ => passX) (pa_cons (pv 7) (pa_cons (pv 11) pa_nil)) (pk_cons (pv 9) (pk_cons (pv 10) pk_nil))) (pa_cons (pe_call GD hr (by rfl) mD kD bD .nil pass0 (pa_cons (pv 7) (pa_cons (pv 11) (pa_cons (pv 9) (pa_cons (pv 10) pa_nil))))) pa_nil)) (by rfl))
        (pss_cons (ps_set (i := 15) scLaw.nd rfl (.inl rfl) (pe_cmethK (E := fun _ => E0) (pe_glob (v := .ref CM) (by rfl) TM.mgC rfl) TM.rd c GKS hr (fun σ => passX) (pa_cons (pv 7) (pa_cons (pe_callTy call_tuple_of (by rfl) L.tup (by decide +kernel) (pa_cons (pv 11) pa_nil)) pa_nil)) (pk_cons (pv 10) (pk_cons (pv 9) pk_nil))))
        (pss_cons (ps_expr (pe_bm PySem.F.plainAttrs_list PySem.F.slot_list_append PySem.F.type_list_append mt_append (pv 11) (pa_cons pe_non pa_nil)))
        (pss_cons (ps_if (PW.pt (pw_or (pt_not (pt_val (pe_call GF hr2 (by rfl) mF kF bF .nil pass0 (pa_cons (pv 13) (pa_cons (pv 12) pa_nil))))) (pw_or (pt_not (pt_val (pe_call GF hr2 (by rfl) mF kF bF .nil pass0 (pa_cons (pv 14) (pa_cons (pv 12) pa_nil))))) (pw_or1 (pt_not (pt_val (pe_call GF hr2 (by rfl) mF kF bF .nil pass0 (pa_cons (pv 15) (pa_cons (pv 12) pa_nil))))))))) (pss_one (ps_ret pe_bl)) pss_nil)
        (pss_cons (ps_if (PW.pt (pw_or (pt_not (pt_cmpR (op_eqI EQ.eq EQ.fn GE hr3 bE pass0) (pv 13) (pv 14) (nomark _))) (pw_or (pt_not (pt_cmpR (op_eqI EQ.eq EQ.fn GE hr3 bE pass0) (pv 14) (pv 15) (nomark _))) (pw_or (pt_cmpR (op_neI EQ.eq EQ.fn EQ.ne TE.hm GE hr4 bE pass0) (pv 13) (pv 15) (nomark _)) (pw_or (pt_cmpR (op_eqI EQ.eq EQ.fn GE hr3 bE pass0) (pv 13) (pv 7) (nomark _)) (pw_or1 (pt_cmpR (op_eqI EQ.eq EQ.fn GE hr3 bE pass0) (pv 13) (pv 12) (nomark _)))))))) (pss_one (ps_ret pe_bl)) pss_nil)
        (pss_cons (ps_set (i := 16) scLaw.nd rfl (.inl rfl) (pe_mkF0 (E := fun _ => E0) M GI hr9 (by rfl) TM.mgC (fun σ => passX) (pa_cons (pv 7) pa_nil)))
        (pss_cons (ps_if (PW.pt (pw_or (pt_cmpR (op_neD hu) (pe_fld (pv 16) rfl) (pe_tup pa_nil) (nomark _)) (pw_or (pt_cmpR (op_neD hu) (pe_fld (pv 16) rfl) (pe_tup pa_nil) (nomark _)) (pw_or (pt_cmpR (op_neD hu) (pe_fld (pv 16) rfl) (pe_tup (pa_cons pe_str pa_nil)) (nomark _))
            (pw_or1 (pt_not (pt_cmpR (op_eqI EQ.eq EQ.fn GE hr3 bE pass0) (pe_cmethK (E := fun _ => E0) (pe_glob (v := .ref CM) (by rfl) TM.mgC rfl) TM.rd c GK0 hr (fun σ => passX) (pa_cons (pv 7) (pa_cons (pe_lst pa_nil) pa_nil)) pk_nil) (pv 16) (nomark _)))))))) (pss_one (ps_ret pe_bl)) pss_nil)
        (pss_cons (ps_if (pt_cmpR (op_neD hu) (pe_cmpR (op_eqI EQ.eq EQ.fn GE hr3 bE pass0) (pv 13) (pv 16) (nomark _)) (pe_cmpR (op_eqD hu) (pv 12) (pe_tup (pa_cons (pv 7) (pa_cons (pe_tup pa_nil) (pa_cons (pe_tup pa_nil) (pa_cons (pe_tup (pa_cons pe_str pa_nil)) pa_nil))))) (nomark _)) (nomark _)) (pss_one (ps_ret pe_bl)) pss_nil)
        (C8.pss_cut (ps_if (PW.pt (pw_and (pt_cmpR op_gt (pe_callB call_len_seq (by rfl) L.len PySem.boot_len (pa_cons (pv 9) pa_nil)) pe_int (nomark _)) (pw_and1 (pt_cmpR (op_eqI EQ.eq EQ.fn GE hr3 bE pass0) (pv 13) (pe_cmethK (E := fun _ => E0) (pe_glob (v := .ref CM) (by rfl) TM.mgC rfl) TM.rd c GK hr (fun σ => passX) (pa_cons (pv 7) (pa_cons (pe_call GL hr8 (by rfl) mL kL bL .nil pass0 (pa_cons (pv 8) pa_nil)) pa_nil)) (pk_cons (pe_op op_catT (pv 9) (pe_slice sl_tupA (pv 9) (po_some (pe_un un_neg pe_int)) po_none)) (pk_cons (pv 10) pk_nil))) (nomark _))))) (pss_one (ps_ret pe_bl)) pss_nil)
        (C8.pss_cut (ps_set (i := 17) scLaw.nd rfl (.inl rfl) (pe_ifExp (pt_cmpR (op_eqD hu) (pv 10) (pe_tup (pa_cons pe_str pa_nil)) (nomark _)) pe_str pe_str))
        (pss_cons (ps_setLc (i := 18) (own := [("_law_row_here", 19)]) (g := gName 19) rfl scLaw.nd rfl rfl (sw_true rfl rfl rfl (by decide +kernel)) (pi_tup (pv 8)) (blkOk_by (N := nLaw) (sc := defScope sLaw) (by decide +kernel)) (fun _ _ _ _ _ => pg_name (i := 19) scLaw.nd rfl (Or.inl rfl)) (fun _ _ _ _ _ => pts_one (pt_cmpR op_eq (pe_ix (show IxR _ (rIxT K) from ix_tup) (pv 19) pe_int (fun _ _ => rfl)) pe_str (nomark _))) (fun _ _ _ _ _ => pe_ix (show IxR _ (rIxT K) from ix_tup) (pv 19) pe_int (fun _ _ => rfl)))
        (C8.pss_cut (ps_if (PW.pt (pw_and (pt_cmpR op_eq (pv 17) pe_str (nomark _)) (pw_and1 (pt_cmpR (op_eqI EQ.eq EQ.fn GE hr3 bE pass0) (pv 13) (pe_cmethK (E := fun _ => E0) (pe_glob (v := .ref CM) (by rfl) TM.mgC rfl) TM.rd c GKR hr (fun σ => passX) (pa_cons (pv 7) (pa_cons (pe_call GL hr8 (by rfl) mL kL bL .nil pass0 (pa_cons (pv 8) pa_nil)) pa_nil)) (pk_cons (pv 9) pk_nil)) (nomark _))))) (pss_one (ps_ret pe_bl)) pss_nil)
        (C8.pss_cut (ps_if (PW.pt (pw_and (pt_cmpR op_eq (pv 17) pe_str (nomark _)) (pw_and1 (pt_cmpR (op_neE hu) (pv 18) (pe_lst pa_nil) (nomark _))))) (pss_one (ps_if (pt_cmpR (op_eqI EQ.eq EQ.fn GE hr3 bE pass0) (pv 13) (pe_cmethK (E := fun _ => E0) (pe_glob (v := .ref CM) (by rfl) TM.mgC rfl) TM.rd c GK hr (fun σ => passX) (pa_cons (pv 7) (pa_cons (pe_call GL hr8 (by rfl) mL kL bL .nil pass0 (pa_cons (pv 8) pa_nil)) pa_nil)) (pk_cons (pv 9) (pk_cons (pe_tup (pa_cons pe_str (pa_cons (pe_ix ix_list (pv 18) pe_int (fun _ _ => rfl)) pa_nil))) pk_nil))) (nomark _)) (pss_one (ps_ret pe_bl)) pss_nil)) pss_nil)
        (pss_one (ps_if (PW.pt (pw_and (pt_cmpR (op_eqI EQ.eq EQ.fn GE hr3 bE pass0) (pv 13) (pe_cmethK (E := fun _ => E0) (pe_glob (v := .ref CM) (by rfl) TM.mgC rfl) TM.rd c GK hr (fun σ => passX) (pa_cons (pe_op op_add_str (pe_slice C8.sl_txt (pv 7) po_none (po_some pe_int)) pe_str) (pa_cons (pe_call GL hr8 (by rfl) mL kL bL .nil pass0 (pa_cons (pv 8) pa_nil)) pa_nil)) (pk_cons (pv 9) (pk_cons (pv 10) pk_nil))) (nomark _)) (pw_and1 (pt_cmpR op_ne (pe_slice C8.sl_txt (pv 7) (po_some pe_int) po_none) pe_str (nomark _))))) (pss_one (ps_ret pe_bl)) pss_nil))))))))))))))))))))))
      (pss_one (ps_ret (pe_cmpR (op_eqD hu) (pe_lst (pa_cons (ClX.pe_cval (pe_glob (v := .ref CM) (by rfl) TM.mgC rfl)) (pa_cons (ClX.pe_cval (pe_glob (v := .ref CM) (by rfl) TM.mgC rfl)) (pa_cons (ClX.pe_cval (pe_glob (v := .ref CM) (by rfl) TM.mgC rfl)) pa_nil)))) (pe_lst (pa_cons pe_int (pa_cons pe_int (pa_cons pe_int pa_nil)))) (nomark _)))), ?_⟩
    have hJ : ∀ n : Nat, 1 ≤ (if (if ((n : Nat) : Int) < 4 then ((n : Nat) : Int) else 4) > 1 then (if ((n : Nat) : Int) < 4 then ((n : Nat) : Int) else 4) else 1) ∧ (if (if ((n : Nat) : Int) < 4 then ((n : Nat) : Int) else 4) > 1 then (if ((n : Nat) : Int) < 4 then ((n : Nat) : Int) else 4) else 1) ≤ 4 := fun n => by
      split <;> split <;> omega
    refine ⟨_, rfl, a, _, rfl, .inl hS, _, _, rfl, _, _, rfl, _, rfl, ?_, ?_, ?_⟩
    · have := (hJ (ns.map V.int).length).1
      show -(2 ^ 62) ≤ _
      omega
    · have := (hJ (ns.map V.int).length).2
      show _ < 2 ^ 62
      omega
    have hJ2 := (hJ (ns.map V.int).length).2
    refine for_it walk_range (fun i σ H' => Same H H' ∧ ∃ y1 y2 y3 y4 y5 y6 y7 y8 y9 y10 y11 y12 y13 y14 y15 y16 y17 y18 : Option V, σ = [some (.ref a), y1, y2, y3, y4, y5, y6, y7, y8, y9, y10, y11, y12, y13, y14, y15, y16, y17, y18, none]) ⟨Same.refl _, none, none, none, none, none, none, none, none, none, none, none, none, none, none, none, none, none, none, rfl⟩ (fun _ _ _ _ _ => trivial) ?_ ?_
    case refine_2 =>
      rintro σ H1 ⟨_, y1, y2, y3, y4, y5, y6, y7, y8, y9, y10, y11, y12, y13, y14, y15, y16, y17, y18, rfl⟩
      obtain ⟨u1, k1⟩ := TM.k1
      obtain ⟨u2, k2⟩ := TM.k2
      obtain ⟨u3, k3⟩ := TM.k3
      refine ⟨CM, mc, .int 4, u1, rfl, TM.rd, k1, CM, mc, .int 2, u2, rfl, TM.rd, k2, CM, mc, .int 8, u3, rfl, TM.rd, k3, by show 3 ≤ sizeLine; decide, fun l1 n1 => ⟨by show 3 ≤ sizeLine; decide, fun l2 n2 => ?_⟩⟩
      have ok : OkD (.list [.int 4, .int 2, .int 8]) := (smn_lst (n := 0) (smn_cons (smn_int _) (smn_cons (smn_int _) (smn_cons (smn_int _) smn_nil))) (by show 3 ≤ 1000; decide)).okD (by decide)
      refine ⟨.list [.int 4, .int 2, .int 8], .list [.int 4, .int 2, .int 8], .lst (SqL.of (same_upd n2 _ _ upd_same)) (.cons (.int _) (.cons (.int _) (.cons (.int _) .nil))), .lst (SqL.of upd_same) (.cons (.int _) (.cons (.int _) (.cons (.int _) .nil))), ok.sh, ok.sh, ?_⟩
      rw [eqvR ok]
      exact q _
    rintro i x σ Hs Ht hi ⟨sm0, y1, y2, y3, y4, y5, y6, y7, y8, y9, y10, y11, y12, y13, y14, y15, y16, y17, y18, rfl⟩ ⟨rfl, rfl⟩
    have hi6 : i < 4 := by
      have : i < Int.toNat _ := hi
      omega
    refine ⟨_, rfl, _, rfl, a, ns, _, rfl, sm0.seq hS, hlen, by omega, by omega, fun Hb p sb np hB => ?_⟩
    refine ⟨_, rfl, _, rfl, p, 3, rfl, hB, by decide, by decide, fun H2 r k2 r0 r3 => ?_⟩
    obtain ⟨r, rfl⟩ : ∃ n : Nat, r = (n : Int) := ⟨r.toNat, by omega⟩
    refine ⟨_, _, rfl, rfl, p, 1 + r, 2, rfl, k2.2, by omega, by omega, by decide, by decide, fun Hw t sg kt zs qs ss kp ht hsg hkt hdt hLG => ?_⟩
    refine ⟨t, _, 1, .ref kt, rfl, rfl, SqT.of ht, atI_nat (j := 1) rfl, kt, rfl, ⟨_, SqT.of hkt⟩, ?_⟩
    have kpb := k2.trans kp
    have fin : ∀ H1, Same Hw H1 → Same H H1 := fun H1 k b o e => k _ _ (kpb.1 _ _ (ne_of_none (sm0 _ _ e) np) (sb _ _ (sm0 _ _ e)))
    refine for_it (walk_tup (K := K) (a := kt) (xs := zs.map (·.1))) (fun j σ H' => Same Hw H' ∧ ∃ y3 y4 y5 y6 y7 y8 y9 y10 y11 y12 y13 y14 y15 y16 y17 y18 : Option V, σ = [some (.ref a), some (.int (0 + (i : Int))), some (.ref p), y3, y4, y5, y6, y7, y8, y9, y10, y11, y12, y13, y14, y15, y16, y17, y18, none]) ⟨Same.refl _, _, _, _, _, _, _, _, _, _, _, _, _, _, _, _, _, rfl⟩ (fun _ _ _ _ h => Same.seqT h.1 (SqT.of hkt)) ?_ (fun σ H1 ⟨k1, y3, y4, y5, y6, y7, y8, y9, y10, y11, y12, y13, y14, y15, y16, y17, y18, e⟩ => ⟨fin H1 k1, _, _, _, _, _, _, _, _, _, _, _, _, _, _, _, _, _, _, e⟩)
    clear y3 y4 y5 y6 y7 y8 y9 y10 y11 y12 y13 y14 y15 y16 y17 y18
    rintro j x σ H3 H4 hj ⟨s3, y3, y4, y5, y6, y7, y8, y9, y10, y11, y12, y13, y14, y15, y16, y17, y18, rfl⟩ ⟨rfl, ex⟩
    rw [List.getElem?_map] at ex
    cases ez : zs[j]? with
    | none =>
      rw [ez] at ex
      cases ex
    | some z =>
    rw [ez] at ex
    obtain rfl := Option.some.inj ex
    obtain ⟨tk, ak, mk, os, ms, ey, hK0⟩ := kind_at (hdt z (List.mem_of_getElem? ez))
    have hKg := hLG.gd j z.2 (by rw [List.getElem?_map, ez]; rfl)
    refine ⟨tk, _, ey, Same.seqT s3 hK0.at_, rfl, _, _, rfl, _, _, rfl, _, _, rfl, _, _, rfl, rfl, ?_⟩
    refine ⟨_, rfl, mk, rfl, ⟨_, Same.seqT s3 hK0.hm⟩, ?_⟩
    refine for_it (walk_tup (K := K) (a := mk) (xs := ms)) (fun l σ H' => Same Hw H' ∧ ∃ y7 y8 y9 y10 y11 y12 y13 y14 y15 y16 y17 y18 : Option V, σ = [some (.ref a), some (.int (0 + (i : Int))), some (.ref p), some (.str (S z.2.nm)), some (rootV z.2.root), some (.ref ak), some (.ref mk), y7, y8, y9, y10, y11, y12, y13, y14, y15, y16, y17, y18, none]) ⟨s3, _, _, _, _, _, _, _, _, _, _, _, _, rfl⟩ (fun _ _ _ _ h => Same.seqT h.1 hK0.hm) ?_ (fun σ H1 ⟨k1, y7, y8, y9, y10, y11, y12, y13, y14, y15, y16, y17, y18, e⟩ => ⟨k1, _, _, _, _, _, _, _, _, _, _, _, _, _, _, _, _, e⟩)
    clear y3 y4 y5 y6 y7 y8 y9 y10 y11 y12 y13 y14 y15 y16 y17 y18
    rintro l x σ H5 H6 hl ⟨s5, y7, y8, y9, y10, y11, y12, y13, y14, y15, y16, y17, y18, rfl⟩ ⟨rfl, ex2⟩
    obtain ⟨d0, hd0, hdy⟩ := dpAll_get hK0.dm ex2
    rw [List.getElem?_map] at hd0
    cases em : z.2.ms[l]? with
    | none =>
      rw [em] at hd0
      cases hd0
    | some m =>
    rw [em] at hd0
    obtain rfl := Option.some.inj hd0
    obtain ⟨hmn, ows, _, hMG⟩ := hKg.ms m (List.mem_of_getElem? em)
    obtain ⟨nm, prs, ds, r⟩ := m
    obtain ⟨tm, tp, tr, rv, ps, rs, rfl, hm0⟩ := meth_at hdy
    have gn : GoodN nm := hLG.ng _ (List.mem_of_mem_drop (List.mem_of_mem_take hmn))
    have hm := hm0.go (TupE.same s5)
    refine ⟨tm, _, rfl, Same.seqT tu_sub hm.at_, rfl, _, _, rfl, _, _, rfl, _, _, rfl, _, _, rfl, rfl, ?_⟩
    have hplen : prs.length ≤ 3 := hMG.plen
    have hrlen : ds.length ≤ 5 := hMG.rlen
    have MA : ∀ {H' : Hp} {as : List Addr} {is : List Pi}, MethAt K H' tm tp tr rv nm ps rs prs ds r → PsAt CP H' as is → Paired (PimD K H') prs is → MArgs K CP H' (S nm) as is tr rs ds rv r := fun hm hps hpm =>
      margs_of (sms_good gn) gn.ok hps hpm hMG.plen hMG.pnd hMG.ord hMG.bx hm.hr hm.dr (by omega) hMG.sm hm.dx hMG.rsm hMG.rok hMG.res
    -- made, and the plain data
    refine ⟨_, rfl, tp, ps, prs, rfl, Same.seqT tu_sub hm.hp, hm.dp, hMG.plen, hMG.pok, fun H7 D as is s7 nD hD hps7 hpm7 => ?_⟩
    have hm7 := hm.go (TupE.same s7)
    refine ⟨_, rfl, _, rfl, _, rfl, _, rfl, by show 4 ≤ sizeLine; decide, fun pl npl => ⟨_, _, rfl, ?_⟩⟩
    have sp := same_upd (o := .tup [.str (S nm), .ref tp, .ref tr, rv]) npl
    have hasl : as.length ≤ 3 := by
      have h1 := hps7.1
      have h2 := pim_len (pimD hpm7)
      omega
    have hD8 := sp _ _ hD
    have hpl8 : (upd H7 pl (.tup [.str (S nm), .ref tp, .ref tr, rv])) pl = some (.tup [.str (S nm), .ref tp, .ref tr, rv]) := upd_same
    have hm8 := hm7.go (TupE.same sp)
    have hps8 := hps7.same sp
    have hpm8 := pimD_ext (TupE.same sp) hpm7
    have s8 := s7.trans sp
    generalize upd H7 pl (.tup [.str (S nm), .ref tp, .ref tr, rv]) = H8 at hD8 hpl8 hm8 hps8 hpm8 s8 ⊢
    clear sp npl hD hm7 hps7 hpm7 s7
    -- one and two
    refine ⟨rfl, _, rfl, _, rfl, _, rfl, _, rfl, rfl, rfl, mof_ok (.inr (SqL.of hD8)) (MA hm8 hps8 hpm8) fun H9 m1 s9 nm1 hM1 => ?_⟩
    refine ⟨_, rfl, _, rfl, _, rfl, _, rfl, S nm, D, tr, as, is, rs, ds, rv, r, rfl, SqL.of (s9 _ _ hD8), hasl, MA (hm8.go (TupE.same s9)) (hps8.same s9) (pimD_ext (TupE.same s9) hpm8), fun H10 m2 s10 nm2 hM2 => ⟨_, _, rfl, ?_⟩⟩
    have s810 := s9.trans s10
    -- the same, of a tuple
    refine ⟨rfl, _, rfl, _, rfl, D, as.map V.ref, rfl, .inl ⟨SqL.of (s810 _ _ hD8), fun tu ntu => ?_⟩⟩
    have s811 := s810.trans (same_upd (o := .tup (as.map V.ref)) ntu)
    refine ⟨_, rfl, _, rfl, rfl, rfl, mof_ok (.inl (SqT.of upd_same)) (MA (hm8.go (TupE.same s811)) (hps8.same s811) (pimD_ext (TupE.same s811) hpm8)) fun H12 m3 s12 nm3 hM3 => ?_⟩
    have s812 := s811.trans s12
    have hB12 : LwB K CM CP H12 m1 m2 m3 pl tm tp tr rv nm ps rs prs ds r as is := ⟨hm8.go (TupE.same s812), s812 _ _ hpl8, hM1.same ((s10.trans (same_upd ntu)).trans s12), hM2.same ((same_upd ntu).trans s12), hM3, hps8.same s812, pimD_ext (TupE.same s812) hpm8⟩
    have hD12 := s812 _ _ hD8
    have nDw : Hw D = none := by
      cases e : Hw D with
      | none => rfl
      | some o =>
        have := (s5 _ _ e)
        rw [nD] at this
        cases this
    clear hm8 hpl8 hps8 hpm8 hM1 hM2 hM3
    refine ⟨_, rfl, .inl ⟨rfl, _, SqL.of hD12⟩, D, _, _, rfl, rfl, hD12, small1000 (by rw [List.length_map]; omega), ?_⟩
    have hB13 := hB12.grow (ys := as.map V.ref ++ [.non]) hD12
    have s13 : Same Hw (upd H12 D (.lst (as.map V.ref ++ [.non]))) := same_grow ((s5.trans s8).trans s812) nDw
    generalize upd H12 D (.lst (as.map V.ref ++ [.non])) = H13 at hB13 s13 ⊢
    clear hB12 s12 s812 hD12 hD8 s811 s810 s9 s10 s8 ntu s5 hm
    refine ⟨_, rfl, _, rfl, m1, pl, tp, tr, nm, rv, ps, prs, as, is, ds, r, rfl, hB13.h1, SqT.of hB13.hpl, gn, hB13.hp, hB13.hm.dp, hMG.plen, hMG.pok, hMG.pnd, hB13.rd, hB13.hm.dx.dp, hB13.ps, hB13.pm, fun H14 s14 => ?_⟩
    have hB14 := hB13.same s14
    refine ⟨_, rfl, iteF ⟨_, rfl, _, rfl, m2, pl, tp, tr, nm, rv, ps, prs, as, is, ds, r, rfl, hB14.h2, SqT.of hB14.hpl, gn, hB14.hp, hB14.hm.dp, hMG.plen, hMG.pok, hMG.pnd, hB14.rd, hB14.hm.dx.dp, hB14.ps, hB14.pm, fun H15 s15 => ?_⟩⟩
    have hB15 := hB14.same s15
    refine ⟨_, rfl, iteF ⟨_, rfl, _, rfl, m3, pl, tp, tr, nm, rv, ps, prs, as, is, ds, r, rfl, hB15.h3, SqT.of hB15.hpl, gn, hB15.hp, hB15.hm.dp, hMG.plen, hMG.pok, hMG.pnd, hB15.rd, hB15.hm.dx.dp, hB15.ps, hB15.pm, fun H16 s16 => ?_⟩⟩
    have hB16 := hB15.same s16
    refine ⟨_, rfl, iteF ?_⟩
    have t4 : (((decide (S nm = S nm) && decide (as.length = as.length)) && PyData.eqv (.tuple ds) (.tuple ds)) && PyData.eqv r r) = true := by
      rw [decide_eq_true rfl, decide_eq_true rfl, eqvR hB16.h1.oR, eqvR hB16.h1.oX]
      rfl
    -- compared
    refine ⟨_, rfl, _, rfl, eqI_mm hB16.h1 hB16.h2 (.inl ⟨same_ids as, rfl⟩) fun H17 s17 => ⟨_, rfl, ite2 (fun k => by rw [t4] at k; cases k) (fun _ => ?_)⟩⟩
    have hB17 := hB16.same s17
    refine ⟨_, rfl, _, rfl, eqI_mm hB17.h2 hB17.h3 (.inl ⟨same_ids as, rfl⟩) fun H18 s18 => ⟨_, rfl, ite2 (fun k => by rw [t4] at k; cases k) (fun _ => ?_)⟩⟩
    have hB18 := hB17.same s18
    refine ⟨_, rfl, _, rfl, neI_mm hB18.h1 hB18.h3 (.inl ⟨same_ids as, rfl⟩) fun H19 s19 => ⟨_, rfl, ite2 (fun k => by rw [t4] at k; cases k) (fun _ => ?_)⟩⟩
    have hB19 := hB18.same s19
    refine ⟨_, rfl, _, rfl, eqI_md hB19.h1 (.str (S nm)) ⟨_, rfl, iteF ?_⟩⟩
    refine ⟨_, rfl, _, rfl, eqI_md hB19.h1 hB19.pd ⟨_, rfl, iteF ?_⟩⟩
    -- of nothing
    refine ⟨_, rfl, fun b dxb hbn hdx ne => ⟨[.ref b, .str (S nm)], [], rfl, rfl, by show 0 ≤ sizeLine; decide, fun pb npb => ?_⟩⟩
    have sb1 : Same H19 (upd (upd H19 dxb (.own b)) b (.ins CM dxb [])) := (same_upd hdx).trans (same_upd (by rw [upd_ne ne.symm]; exact hbn))
    have sb2 := same_upd (o := .tup ([] : List V)) npb
    refine spMI_mono (mi_ok (Q := fun y H' => ∃ m, y = .ref m ∧ Same H19 H' ∧ MtAt K CM H' m (S nm) [] aE2 (.tuple []) noneD) (margs_bare gn hE2 hX2) (sb1.trans sb2) (sb2 _ _ upd_same) hbn (SqT.of upd_same) fun H' m s' _ h => ⟨m, rfl, s', h⟩) ?_
    rintro H20 ⟨_, b', eb, s20, hMb⟩
    obtain rfl := V.ref.inj eb
    refine ⟨rfl, ?_⟩
    clear npb sb1 sb2
    have hB20 := hB19.same s20
    obtain ⟨dxb', tPb, vXb, hbI, hbP, hbR, hbX⟩ := hMb.ex
    have okn : OkD noneD := sm_none.okD (by decide)
    refine ⟨_, rfl, b, CM, dxb', _, _, rfl, hbI, TM.cl, TM.nP, mF_params, by show 0 ≤ sizeLine; decide, fun t1 nt1 => ?_⟩
    have q1 := same_upd (o := .tup ([] : List V)) nt1
    refine ⟨.tuple [], .tuple [], .tup (Same.seqT q1 hbP) .nil, .tup (SqT.of upd_same) .nil, okD_nil.sh, okD_nil.sh, _, rfl, ite2 (fun k => by cases k) (fun _ => ?_)⟩
    refine ⟨_, rfl, b, CM, dxb', _, _, rfl, q1 _ _ hbI, TM.cl, TM.nR, mF_rows, by show 0 ≤ sizeLine; decide, fun t2 nt2 => ?_⟩
    have q2 := q1.trans (same_upd (o := .tup ([] : List V)) nt2)
    refine ⟨.tuple [], .tuple [], dp_same q2 hbR.dp, .tup (SqT.of upd_same) .nil, okD_nil.sh, okD_nil.sh, _, rfl, ite2 (fun k => by cases k) (fun _ => ?_)⟩
    refine ⟨_, rfl, b, CM, dxb', _, _, rfl, q2 _ _ hbI, TM.cl, TM.nX, mF_returns, by show 1 ≤ sizeLine; decide, fun t3 nt3 => ?_⟩
    have q3 := q2.trans (same_upd (o := .tup [.str "none"]) nt3)
    refine ⟨noneD, noneD, dp_same q3 hbX.dp, .tup (SqT.of upd_same) (.cons (.str _) .nil), okn.sh, okn.sh, _, rfl, ite2 (fun k => by rw [eqvR okn] at k; cases k) (fun _ => ?_)⟩
    refine ⟨rfl, _, rfl, by show 0 ≤ sizeLine; decide, fun l4 nl4 => ⟨rfl, rfl, mof_ok (.inr (SqL.of upd_same)) (margs_bare gn hE hX) fun H24 m4 s24 nm4 hM4 => ?_⟩⟩
    have s24 := (q3.trans (same_upd (o := .lst ([] : List V)) nl4)).trans s24
    have hMb24 := hMb.same s24
    have hB24 := hB20.same s24
    clear q1 q2 q3 nt1 nt2 nt3 nl4 hbI hbP hbR hbX
    refine ⟨_, rfl, eqI_mm hM4 hMb24 (.inl ⟨same_ids [], rfl⟩) fun H25 s25 => ⟨_, rfl, ite2 (fun k => ?_) (fun _ => ?_)⟩⟩
    · rw [decide_eq_true rfl, eqvR okD_nil, eqvR okn] at k
      cases k
    have hMb25 := hMb24.same s25
    have hB25 := hB24.same s25
    have S25 := (((((((s13.trans s14).trans s15).trans s16).trans s17).trans s18).trans s19).trans s20).trans (s24.trans s25)
    clear hMb24 hB24 hM4 s24 s25 hB20 hMb s13 s14 s15 s16 s17 s18 s19 s20 hB13 hB14 hB15 hB16 hB17 hB18 hB19
    have hasp : as.length = prs.length := by
      rw [hB25.ps.1]
      exact pim_len (pimD hB25.pm)
    have okM : OkD (methD nm prs ds r) := meth_sm gn hMG.pok hplen hMG.sm (by omega) hMG.rsm
    have okB : OkD (methD nm [] [] noneD) := meth_sm gn (fun x h => by cases h) (by decide) (fun d h => by cases h) (by decide) sm_none
    refine ⟨_, rfl, _, rfl, eqI_mm hB25.h1 hMb25 (.inl ⟨fun i c d h1 h2 => by simp at h2, rfl⟩) fun H26 s26 => ?_⟩
    have hB26 := hB25.same s26
    refine ⟨_, rfl, _, rfl, by show 0 ≤ sizeLine; decide, fun t1 nt1 => ⟨by show 0 ≤ sizeLine; decide, fun t2 nt2 => ⟨by show 1 ≤ sizeLine; decide, fun t3 nt3 => ⟨by show 4 ≤ sizeLine; decide, fun t4 nt4 => ?_⟩⟩⟩⟩
    have q1 := same_upd (o := .tup ([] : List V)) nt1
    have q2 := same_upd (o := .tup ([] : List V)) nt2
    have q3 := same_upd (o := .tup [.str "none"]) nt3
    have q4 := same_upd (o := .tup [.str (S nm), .ref t1, .ref t2, .ref t3]) nt4
    have q14 := ((q1.trans q2).trans q3).trans q4
    have hB27 := hB26.same q14
    have S27 := (S25.trans s26).trans q14
    refine ⟨methD nm prs ds r, methD nm [] [] noneD, hB27.pd, .tup (SqT.of upd_same) (.cons (.str _) (.cons (.tup (SqT.of ((q2.trans (q3.trans q4)) _ _ upd_same)) .nil) (.cons (.tup (SqT.of ((q3.trans q4) _ _ upd_same)) .nil) (.cons (.tup (SqT.of (q4 _ _ upd_same)) (.cons (.str _) .nil)) .nil)))), okM.sh, okB.sh, ?_⟩
    rw [eqv_bare (n := as.length) hasp]
    refine ⟨.bool _, .bool _, .bl _, .bl _, (ok_bool _).sh, (ok_bool _).sh, _, rfl, ite2 (fun k => ?_) (fun _ => ?_)⟩
    · have k : (!PyData.eqv (.bool (((decide (S nm = S nm) && decide (as.length = 0)) && PyData.eqv (.tuple ds) (.tuple [])) && PyData.eqv r noneD)) (.bool (((decide (S nm = S nm) && decide (as.length = 0)) && PyData.eqv (.tuple ds) (.tuple [])) && PyData.eqv r noneD))) = true := k
      rw [eqvR (ok_bool _)] at k
      cases k
    generalize upd (upd (upd (upd H26 t1 (.tup [])) t2 (.tup [])) t3 (.tup [.str "none"])) t4 (.tup [.str (S nm), .ref t1, .ref t2, .ref t3]) = H27 at hB27 S27 ⊢
    clear q14 q4 q3 q2 q1 nt4 nt3 nt2 nt1 hB26 s26 hB25 hMb25 S25
    -- the last row twice
    refine ⟨fun σ1 H1 => σ1 = [some (.ref a), some (.int (0 + (i : Int))), some (.ref p), some (.str (S z.2.nm)), some (rootV z.2.root), some (.ref ak), some (.ref mk), some (.str (S nm)), some (.ref tp), some (.ref tr), some rv, some (.ref D), some (.ref pl), some (.ref m1), some (.ref m2), some (.ref m3), some (.ref b), y17, y18, none] ∧ Same Hw H1 ∧ LwB K CM CP H1 m1 m2 m3 pl tm tp tr rv nm ps rs prs ds r as is, ?_, ?_⟩
    · have hrsl : rs.length = ds.length := dpAll_len hB27.hm.dr
      refine ⟨_, rfl, tr, rs, rfl, .inr (Same.seqT tu_sub hB27.hm.hr), _, _, rfl, rfl, _, rfl, ite2 (fun k => ?_) (fun _ => iteF ⟨rfl, S27, hB27⟩)⟩
      have k : 0 < (rs.length : Int) := of_decide_eq_true k
      refine ⟨_, rfl, rfl, _, rfl, _, rfl, tp, ps, prs, rfl, hB27.hp, hB27.hm.dp, hMG.plen, hMG.pok, fun H28 D2 as2 is2 s28 nD2 hD2 hps2 hpm2 => ?_⟩
      have hB28 := hB27.same s28
      refine ⟨_, rfl, _, rfl, 1, rfl, -1, rfl, ?_⟩
      unfold tNoPart
      refine last_of hB28.hrq (by omega) fun tl H29 s29 htl => ?_
      have hB29 := hB28.same s29
      refine ⟨tr, tl, rs, rs.drop (rs.length - 1), rfl, rfl, hB29.hrq, htl, fun e => by rw [e] at k; simp at k, ?_⟩
      have hdl : (rs.drop (rs.length - 1)).length = 1 := by
        rw [List.length_drop]
        omega
      refine ⟨Nat.le_of_lt (small1000 (by omega)), ?_, ?_⟩
      · intro e
        rw [e] at hdl
        cases hdl
      intro _ t5 nt5
      have q5 := same_upd (o := .tup (rs ++ rs.drop (rs.length - 1))) nt5
      have hB30 := hB29.same q5
      have hne : ds ≠ [] := fun e => by rw [e] at hrsl; rw [hrsl] at k; simp at k
      obtain ⟨ok2, us2⟩ := okR_twice hne hMG.rok
      have s2930 := s29.trans q5
      have hps2' := hps2.same s2930
      have hpm2' := pimD_ext (TupE.same s2930) hpm2
      have hd2 : DtAll K (upd H29 t5 (.tup (rs ++ rs.drop (rs.length - 1)))) (rs ++ rs.drop (rs.length - 1)) (ds ++ ds.drop (ds.length - 1)) := by
        rw [show ds.drop (ds.length - 1) = ds.drop (rs.length - 1) by rw [hrsl]]
        exact dpAll_app hB30.hm.dr (dpAll_drop hB30.hm.dr)
      refine ⟨_, rfl, rfl, rfl, mof_ok (.inr (SqL.of (s2930 _ _ hD2))) (margs_of (sms_good gn) gn.ok hps2' hpm2' hMG.plen hMG.pnd hMG.ord hMG.bx (SqT.of (tu_at upd_same)) hd2 ?_ ?_ hB30.hm.dx hMG.rsm ok2 (resB_mono us2 hMG.res)) fun H31 m5 s31 nm5 hM5 => ?_⟩
      · rw [List.length_append, List.length_drop]
        omega
      · intro d hd
        rcases List.mem_append.mp hd with h | h
        · exact hMG.sm d h
        · exact hMG.sm d (List.mem_of_mem_drop h)
      have hB31 := hB30.same s31
      refine eqI_mm hB31.h1 hM5 (.inr ⟨rfl, prs_eq hMG.pok hB31.ps (hps2'.same s31) hB31.pm (pimD_ext (TupE.same s31) hpm2')⟩) fun H32 s32 => ⟨_, rfl, ite2 (fun k => ?_) (fun _ => ⟨rfl, ((S27.trans s28).trans s2930).trans (s31.trans s32), hB31.same s32⟩)⟩
      rw [eqv_tup, eqvAll_len (xs := ds) (ys := ds ++ ds.drop (ds.length - 1)) (by rw [List.length_append, List.length_drop]; omega), Bool.and_false, Bool.false_and] at k
      cases k
    clear hB27 S27
    rintro σ H27 ⟨rfl, S27, hB27⟩
    -- the other result
    refine ⟨fun σ1 H1 => ∃ o : Str, σ1 = [some (.ref a), some (.int (0 + (i : Int))), some (.ref p), some (.str (S z.2.nm)), some (rootV z.2.root), some (.ref ak), some (.ref mk), some (.str (S nm)), some (.ref tp), some (.ref tr), some rv, some (.ref D), some (.ref pl), some (.ref m1), some (.ref m2), some (.ref m3), some (.ref b), some (.str o), y18, none] ∧ (o = "box" ∧ PyData.eqv r noneD = true ∨ o = "none" ∧ PyData.eqv r noneD = false) ∧ Same Hw H1 ∧ LwB K CM CP H1 m1 m2 m3 pl tm tp tr rv nm ps rs prs ds r as is, ?_, ?_⟩
    · refine ⟨_, rfl, by show 1 ≤ sizeLine; decide, fun t5 nt5 => ?_⟩
      have q5 := same_upd (o := .tup [.str "none"]) nt5
      have hB28 := hB27.same q5
      refine ⟨r, noneD, hB28.hm.dx.dp, .tup (SqT.of upd_same) (.cons (.str _) .nil), hB28.h1.oX.sh, okn.sh, _, rfl, ite2 (fun k => ⟨_, rfl, .inl ⟨rfl, k⟩, S27.trans q5, hB28⟩) (fun k => ⟨_, rfl, .inr ⟨rfl, by simpa using k⟩, S27.trans q5, hB28⟩)⟩
    clear hB27 S27
    rintro σ H27 ⟨o, rfl, ho, S27, hB27⟩
    -- the boxes
    refine ⟨_, rfl, tp, rfl, ⟨_, hB27.hp⟩, fun D3 nD3 => ?_⟩
    refine lc_prsT (fun q => decide (q.hs = "box")) (fun q _ => .str (S q.nm)) hB27.hp hB27.hm.dp nD3 (by omega) (fun q t v H hr hit R R' h1 h2 => ?_) (fun H28 s28 hD3 => ?_)
    · refine ⟨rfl, _, rfl, t, _, 1, .str q.hs, rfl, rfl, hit.at_, atI_nat (j := 1) rfl, rfl, _, rfl, ?_⟩
      by_cases hw : q.hs = "box"
      · rw [decide_eq_true (by rw [hw])]
        exact iteT ⟨_, rfl, t, _, 0, .str (S q.nm), rfl, rfl, hit.at_, atI_nat (j := 0) rfl, h1 (decide_eq_true hw)⟩
      · rw [decide_eq_false (fun e => hw (V.str.inj e))]
        exact iteF (h2 (decide_eq_false hw))
    have hpsl : prs.length = ps.length := by rw [dpAll_len hB27.hm.dp, List.length_map]
    rw [sel_names hpsl] at hD3
    have hB28 := hB27.same s28
    have S28 := S27.trans s28
    clear S27 hB27
    have hD3 : H28 D3 = some (.lst (txts (ofHs "box" prs))) := hD3
    -- by default
    refine ⟨fun σ1 H1 => σ1 = [some (.ref a), some (.int (0 + (i : Int))), some (.ref p), some (.str (S z.2.nm)), some (rootV z.2.root), some (.ref ak), some (.ref mk), some (.str (S nm)), some (.ref tp), some (.ref tr), some rv, some (.ref D), some (.ref pl), some (.ref m1), some (.ref m2), some (.ref m3), some (.ref b), some (.str o), some (.ref D3), none] ∧ Same Hw H1 ∧ LwB K CM CP H1 m1 m2 m3 pl tm tp tr rv nm ps rs prs ds r as is ∧ H1 D3 = some (.lst (txts (ofHs "box" prs))), ?_, ?_⟩
    · refine ⟨_, rfl, rfl, _, rfl, ite2 (fun k => ?_) (fun _ => iteF ⟨rfl, S28, hB28, hD3⟩)⟩
      have ko : o = "none" := V.str.inj (of_decide_eq_true k)
      have hr0 : PyData.eqv r noneD = false := by
        rcases ho with ⟨e, _⟩ | ⟨_, h⟩
        · rw [ko] at e
          exact absurd e (by decide)
        · exact h
      refine ⟨_, rfl, rfl, _, rfl, _, rfl, tp, ps, prs, rfl, hB28.hp, hB28.hm.dp, hMG.plen, hMG.pok, fun H29 D4 as4 is4 s29 nD4 hD4 hps4 hpm4 => ?_⟩
      have hB29 := hB28.same s29
      refine ⟨_, rfl, rfl, rfl, mof_ok (.inr (SqL.of hD4)) (margs_of (sms_good gn) gn.ok hps4 hpm4 hMG.plen hMG.pnd hMG.ord hMG.bx hB29.hm.hr hB29.hm.dr (by omega) hMG.sm (Dp.tup (hX _) (.cons (.str _) .nil)) sm_none hMG.rok (res_none _)) fun H30 m5 s30 nm5 hM5 => ?_⟩
      have hB30 := hB29.same s30
      refine eqI_mm hB30.h1 hM5 (.inr ⟨rfl, prs_eq hMG.pok hB30.ps (hps4.same s30) hB30.pm (pimD_ext (TupE.same s30) hpm4)⟩) fun H31 s31 => ⟨_, rfl, ite2 (fun k => ?_) (fun _ => ⟨rfl, (S28.trans s29).trans (s30.trans s31), hB30.same s31, s31 _ _ (s30 _ _ (s29 _ _ hD3))⟩)⟩
      rw [show PyData.eqv r (.tuple [.str "none"]) = false from hr0, Bool.and_false] at k
      cases k
    clear hB28 S28 hD3
    rintro σ H28 ⟨rfl, S28, hB28, hD3⟩
    -- by a box
    refine ⟨fun σ1 H1 => σ1 = [some (.ref a), some (.int (0 + (i : Int))), some (.ref p), some (.str (S z.2.nm)), some (rootV z.2.root), some (.ref ak), some (.ref mk), some (.str (S nm)), some (.ref tp), some (.ref tr), some rv, some (.ref D), some (.ref pl), some (.ref m1), some (.ref m2), some (.ref m3), some (.ref b), some (.str o), some (.ref D3), none] ∧ Same Hw H1 ∧ LwB K CM CP H1 m1 m2 m3 pl tm tp tr rv nm ps rs prs ds r as is, ?_, ?_⟩
    · refine ⟨_, rfl, rfl, _, rfl, ite2 (fun k => ?_) (fun _ => iteF ⟨rfl, S28, hB28⟩)⟩
      have ko : o = "box" := V.str.inj (of_decide_eq_true k)
      have hr0 : PyData.eqv r noneD = true := by
        rcases ho with ⟨_, h⟩ | ⟨e, _⟩
        · exact h
        · rw [ko] at e
          exact absurd e (by decide)
      refine ⟨_, rfl, by show 0 ≤ sizeLine; decide, fun le nle => ?_⟩
      have qe := same_upd (o := .lst ([] : List V)) nle
      have hB29 := hB28.same qe
      have S29 := S28.trans qe
      have hD3' := qe _ _ hD3
      refine ⟨D3, le, txts (ofHs "box" prs), rfl, rfl, SqL.of hD3', SqL.of upd_same, _, rfl, ite2 (fun k2 => ?_) (fun _ => ⟨rfl, S29, hB29⟩)⟩
      cases hbx : ofHs "box" prs with
      | nil =>
        rw [hbx] at k2
        cases k2
      | cons bz rest =>
        have hmem : bz ∈ ofHs "box" prs := by
          rw [hbx]
          exact List.mem_cons_self ..
        have gz : GoodN bz := by
          obtain ⟨q, hq, e, _⟩ := ofHs_sub hmem
          exact e ▸ (hMG.pok q hq).nm
        refine ⟨_, rfl, rfl, _, rfl, _, rfl, tp, ps, prs, rfl, hB29.hp, hB29.hm.dp, hMG.plen, hMG.pok, fun H30 D4 as4 is4 s30 nD4 hD4 hps4 hpm4 => ?_⟩
        have hB30 := hB29.same s30
        refine ⟨_, rfl, _, rfl, D3, _, 0, .str (S bz), rfl, rfl, SqL.of (s30 _ _ hD3'), atI_nat (j := 0) (txts_at (by rw [hbx]; rfl)), two_le, fun t6 nt6 => ?_⟩
        have q6 := same_upd (o := .tup [.str "box", .str (S bz)]) nt6
        have hB31 := hB30.same q6
        have hps5 := hps4.same q6
        have hpm5 := pimD_ext (TupE.same q6) hpm4
        refine ⟨rfl, rfl, mof_ok (.inr (SqL.of (q6 _ _ hD4))) (margs_of (sms_good gn) gn.ok hps5 hpm5 hMG.plen hMG.pnd hMG.ord hMG.bx hB31.hm.hr hB31.hm.dr (by omega) hMG.sm (Dt.tup upd_same (.cons (.str _) (.cons (.str _) .nil))) (sm_box gz) hMG.rok (res_box gz (usA_up (List.mem_map.mpr ⟨bz, hmem, rfl⟩)))) fun H32 m5 s32 nm5 hM5 => ?_⟩
        have hB32 := hB31.same s32
        refine eqI_mm hB32.h1 hM5 (.inr ⟨rfl, prs_eq hMG.pok hB32.ps (hps5.same s32) hB32.pm (pimD_ext (TupE.same s32) hpm5)⟩) fun H33 s33 => ⟨_, rfl, ite2 (fun k => ?_) (fun _ => ⟨rfl, ((S29.trans s30).trans q6).trans (s32.trans s33), hB32.same s33⟩)⟩
        rw [show PyData.eqv r (.tuple [.str "box", .str (S bz)]) = false from box_ne hr0, Bool.and_false] at k
        cases k
    clear hB28 S28 hD3
    rintro σ H28 ⟨rfl, S28, hB28⟩
    -- another name
    have hsz : (S nm).length ≤ sizeLine := by
      rw [S_len]
      exact Nat.le_of_lt (small1000 (by have := gn.hi; omega))
    have e1 : Txt.slice (S nm) none (some 1) = S (nm.take 1) := SX.slice_to (by decide)
    have e2 : Txt.slice (S nm) (some 1) none = S (nm.drop 1) := SX.slice_from (by decide)
    refine ⟨_, rfl, rfl, _, rfl, 1, rfl, _, rfl, hsz, _, _, rfl, rfl, ?_, ?_⟩
    · rw [e1, S_len]
      exact Nat.le_of_lt (small1000 (by rw [List.length_take]; show min 1 nm.length + 2 ≤ 1000; omega))
    obtain ⟨zn, zs'⟩ := zz_name gn
    have ez : Txt.slice (S nm) none (some 1) ++ "zz" = S (nm.take 1 ++ [122, 122]) := by
      rw [e1]
      exact S_cat _ [122, 122]
    refine ⟨_, rfl, tp, ps, prs, rfl, hB28.hp, hB28.hm.dp, hMG.plen, hMG.pok, fun H29 D4 as4 is4 s29 nD4 hD4 hps4 hpm4 => ?_⟩
    have hB29 := hB28.same s29
    rw [ez]
    refine ⟨_, rfl, _, rfl, rfl, rfl, mof_ok (.inr (SqL.of hD4)) (margs_of zs' zn hps4 hpm4 hMG.plen hMG.pnd hMG.ord hMG.bx hB29.hm.hr hB29.hm.dr (by omega) hMG.sm hB29.hm.dx hMG.rsm hMG.rok hMG.res) fun H30 m5 s30 nm5 hM5 => ?_⟩
    have hB30 := hB29.same s30
    refine eqI_mm hB30.h1 hM5 (.inr ⟨rfl, prs_eq hMG.pok hB30.ps (hps4.same s30) hB30.pm (pimD_ext (TupE.same s30) hpm4)⟩) fun H31 s31 => ⟨_, rfl, ite2 (fun k => ?_) (fun _ => iteF ⟨(S28.trans s29).trans (s30.trans s31), _, _, _, _, _, _, _, _, _, _, _, _, rfl⟩)⟩
    have hnn : S nm = S (nm.take 1 ++ [122, 122]) := by
      cases e : decide (S nm = S (nm.take 1 ++ [122, 122])) with
      | true => exact of_decide_eq_true e
      | false =>
        rw [e] at k
        cases k
    have hd := zz_of gn hnn
    refine ⟨_, rfl, 1, rfl, _, rfl, hsz, rfl, _, rfl, ite2 (fun k => ?_) (fun _ => ⟨(S28.trans s29).trans (s30.trans s31), _, _, _, _, _, _, _, _, _, _, _, _, rfl⟩)⟩
    rw [e2, hd] at k
    cases k
end
end Dr
namespace Dr
open PySem PySem.Spec PyProof.Rows L2
open SX (S S_len S_cat)
/-- values that are these texts -/
def strsB : List Value → List Str → Bool
  | [], [] => true
  | .str x _ :: us, z :: zs => (x == z) && strsB us zs
  | _, _ => false
theorem strsB_vals : ∀ {us : List Value} {zs : List Str}, strsB us zs = true → Vals (zs.map V.str) us
  | [], [], _ => .nil
  | .str x t :: us, z :: zs, h => by
    have h' : ((x == z) && strsB us zs) = true := h
    rw [Bool.and_eq_true, beq_iff_eq] at h'
    obtain ⟨rfl, h2⟩ := h'
    exact .cons ⟨t, rfl⟩ (strsB_vals h2)
  | [], _ :: _, h => by cases h
  | .str _ _ :: _, [], h => by cases h
theorem strsB_len : ∀ {us : List Value} {zs : List Str}, strsB us zs = true → us.length = zs.length := fun h => by
  have := (strsB_vals h).length
  rw [List.length_map] at this
  exact this.symm
theorem fm_of {K : PySem.W.Frag} {a : Addr} {dd : Option Addr} {its : Array Value} {n : Nat} {sl : Array (Option Value)} {zs : List Str} (l : K.lookup a = some ⟨.type "tuple", dd, .seq its n, sl⟩) (h : strsB its.toList zs = true) (hz : zs.length ≤ 1000) : FmAt K a zs := fun H =>
  .inr ⟨_, its, n, l, rfl, rfl, by
    have := strsB_len h
    rw [Array.length_toList] at this
    rw [this]
    exact Nat.le_of_lt (small1000 hz), strsB_vals h⟩
theorem fms_of {K : PySem.W.Frag} {a : Addr} {dd : Option Addr} {n : Nat} {sl : Array (Option Value)} {as : List Addr} {fs : List Form} (l : K.lookup a = some ⟨.type "tuple", dd, .seq (as.map Value.ref).toArray n, sl⟩) (h : as.length ≤ 1000) (p : Paired (FmAt K) as fs) : Fms K a fs := by
  refine ⟨as, fun H => .inr ⟨_, _, n, l, rfl, rfl, ?_, ?_⟩, p⟩
  · show (as.map Value.ref).toArray.size ≤ sizeLine
    rw [List.size_toArray, List.length_map]
    exact Nat.le_of_lt (small1000 h)
  · show Vals (as.map V.ref) (as.map Value.ref)
    clear l h p
    induction as with
    | nil => exact .nil
    | cons b r ih => exact .cons rfl ih
theorem exm_val {K : PySem.W.Frag} {T S : Addr} {b : Bool} (h1 : PySem.W.subIn K (.ref S) (.type "BaseException") = some true) (h2 : PySem.W.isClsIn K S = true) (h3 : PySem.W.typeIn K (.ref S) = some (.type "type")) (h4 : PySem.W.subIn K (.ref T) (.ref S) = some b) :
    PySem.W.exmOne K (.ref T) (.ref S) = some b := by
  have e1 : (PySem.W.subIn K (.ref S) (.type "BaseException") == some true) = true := by rw [h1] <;> rfl
  have e2 : ((PySem.W.clsIn K S).isSome && PySem.W.typeIn K (.ref S) == some (.type "type")) = true := by
    have h2' : (PySem.W.clsIn K S).isSome = true := h2
    rw [h2', h3] <;> rfl
  show (if (PySem.W.subIn K (.ref S) (.type "BaseException") == some true) = true then (if ((PySem.W.clsIn K S).isSome && PySem.W.typeIn K (.ref S) == some (.type "type")) = true then PySem.W.subIn K (.ref T) (.ref S) else none) else none) = some b
  rw [if_pos e1, if_pos e2]
  exact h4
theorem all_mk {l : PySem.W.OpenLaw} {w : World} {K : PySem.W.Frag} {h : Heap} {mg : Str → Option Value} {fa C CM D DO DM aE aR0 aE2 aR2 pO fmi fmo fmq fmp CN CT CO CI CR gN gT gO gI gR aB aM aX aT aPl aBr aRo aRe m1 x1 x2 x3 x4 t1 t2 t3 p1 p2 p3 p4 p5 p6 p7 p8 p9 b1 b2 r1 r2 r3 r4 fnm fow fas fit fag ffo fso fhf fdf fpa ffb fke fus fco fbg ftk fof fns fti fte fro fpp fme fch fse fal fpn flp fdi fft flw fpi fpq : Addr} (X : K.In h) (G : h.Ns mainGlobals mg) (hfa : mg "law" = some (.ref fa))
    {odnm annm odow anow odas anas odit anit odag anag odfo anfo odso anso odhf anhf oddf andf odpa anpa odfb anfb odke anke odus anus odco anco odbg anbg odtk antk odof anof odns anns odti anti odte ante odro anro odpp anpp odme anme odch anch odse anse odal anal odpn anpn odlp anlp oddi andi odft anft odlw anlw odpi anpi odpq anpq odmi anmi odmq anmq odmp anmp odmo anmo odxN anxN odxT anxT odxO anxO odxI anxI odxR anxR ddaB ddaE ddaR0 ddaE2 ddaR2 ddaM ddaX ddaT ddaPl ddaBr ddaRo ddaRe ddm1 ddx1 ddx2 ddx3 ddx4 ddt1 ddt2 ddt3 ddp1 ddp2 ddp3 ddp4 ddp5 ddp6 ddp7 ddp8 ddp9 ddb1 ddb2 ddr1 ddr2 ddr3 ddr4 : Option Addr} {slnm slow slas slit slag slfo slso slhf sldf slpa slfb slke slus slco slbg sltk slof slns slti slte slro slpp slme slch slse slal slpn sllp sldi slft sllw slpi slpq slmi slmq slmp slmo slxN slxT slxO slxI slxR ssaB ssaE ssaR0 ssaE2 ssaR2 ssaM ssaX ssaT ssaPl ssaBr ssaRo ssaRe ssm1 ssx1 ssx2 ssx3 ssx4 sst1 sst2 sst3 ssp1 ssp2 ssp3 ssp4 ssp5 ssp6 ssp7 ssp8 ssp9 ssb1 ssb2 ssr1 ssr2 ssr3 ssr4 : Array (Option Value)} {ocnm dcnm pmnm cdnm ctnm kVnm ocow dcow pmow cdow ctow kVow ocas dcas pmas cdas ctas kVas ocit dcit pmit cdit ctit kVit ocag dcag pmag cdag ctag kVag ocfo dcfo pmfo cdfo ctfo kVfo ocso dcso pmso cdso ctso kVso ochf dchf pmhf cdhf cthf kVhf ocdf dcdf pmdf cddf ctdf kVdf ocpa dcpa pmpa cdpa ctpa kVpa ocfb dcfb pmfb cdfb ctfb kVfb ocke dcke pmke cdke ctke kVke ocus dcus pmus cdus ctus kVus occo dcco pmco cdco ctco kVco ocbg dcbg pmbg cdbg ctbg kVbg octk dctk pmtk cdtk cttk kVtk ocof dcof pmof cdof ctof kVof ocns dcns pmns cdns ctns kVns octi dcti pmti cdti ctti kVti octe dcte pmte cdte ctte kVte ocro dcro pmro cdro ctro kVro ocpp dcpp pmpp cdpp ctpp kVpp ocme dcme pmme cdme ctme kVme occh dcch pmch cdch ctch kVch ocse dcse pmse cdse ctse kVse ocal dcal pmal cdal ctal kVal ocpn dcpn pmpn cdpn ctpn kVpn oclp dclp pmlp cdlp ctlp kVlp ocdi dcdi pmdi cddi ctdi kVdi ocft dcft pmft cdft ctft kVft oclw dclw pmlw cdlw ctlw kVlw ocpi dcpi pmpi cdpi ctpi ocpq dcpq pmpq cdpq ctpq kVpq ocmi dcmi pmmi cdmi ctmi ocmq dcmq pmmq cdmq ctmq kVmq ocmp dcmp pmmp cdmp ctmp kVmp ocmo dcmo pmmo cdmo ctmo ocxN dcxN pmxN cdxN ctxN kVxN ocxT dcxT pmxT cdxT ctxT kVxT ocxO dcxO pmxO cdxO ctxO kVxO ocxI dcxI pmxI cdxI ctxI kVxI ocxR dcxR pmxR cdxR ctxR kVxR : Value} {th tl tk1 tk2 tk3 : Tok} {rst : List Value} {nmN qN nmT qT nmO qO nmI qI nmR qR : Str} {NN BAN NT BAT NO BAO NI BAI NR BAR : Addr} {bsN subN bsT subT bsO subO bsI subI bsR subR : List Value} {snN snT snO snI snR : List Str} {abN abT abO abI abR : Bool} {colN colT colO colI colR : Option Bool} {ddN ddT ddO ddI ddR : Option Addr} {u0N u1N u2N u3N u5N u0T u1T u2T u3T u5T u0O u1O u2O u3O u5O u0I u1I u2I u3I u5I u0R u1R u2R u3R u5R : Option Value} {itaB itaE itaR0 itaE2 itaR2 itm1 itx1 itx2 itx3 itx4 itt1 itt2 itt3 itp1 itp2 itp3 itp4 itp5 itp6 itp7 itp8 itp9 itb1 itb2 itr1 itr2 itr3 itr4 : Array Value} {nnaB nnaE nnaR0 nnaE2 nnaR2 nnaM nnaX nnaT nnaPl nnaBr nnaRo nnaRe nnm1 nnx1 nnx2 nnx3 nnx4 nnt1 nnt2 nnt3 nnp1 nnp2 nnp3 nnp4 nnp5 nnp6 nnp7 nnp8 nnp9 nnb1 nnb2 nnr1 nnr2 nnr3 nnr4 : Nat}
    (anm : PySem.W.nsIn K mainGlobals "is_name" = some (some (.ref fnm)))
    (lnm : K.lookup fnm = some ⟨ocnm, odnm, .func (PySem.W.fnOf "is_name" "is_name" (defArgs sIsName) (defBody sIsName) (defScope sIsName) .none kVnm dcnm pmnm annm cdnm ctnm), slnm⟩)
    (cnm : PySem.W.codeIn K cdnm "is_name" = true)
    (knm : PySem.W.keepIn K (.ref fnm) = true)
    (aow : PySem.W.nsIn K mainGlobals "is_owner" = some (some (.ref fow)))
    (low : K.lookup fow = some ⟨ocow, odow, .func (PySem.W.fnOf "is_owner" "is_owner" (defArgs sIsOwner) (defBody sIsOwner) (defScope sIsOwner) .none kVow dcow pmow anow cdow ctow), slow⟩)
    (cow : PySem.W.codeIn K cdow "is_owner" = true)
    (kow : PySem.W.keepIn K (.ref fow) = true)
    (aas : PySem.W.nsIn K mainGlobals "is_ascending" = some (some (.ref fas)))
    (las : K.lookup fas = some ⟨ocas, odas, .func (PySem.W.fnOf "is_ascending" "is_ascending" (defArgs sIsAsc) (defBody sIsAsc) (defScope sIsAsc) .none kVas dcas pmas anas cdas ctas), slas⟩)
    (cas : PySem.W.codeIn K cdas "is_ascending" = true)
    (kas : PySem.W.keepIn K (.ref fas) = true)
    (ait : PySem.W.nsIn K mainGlobals "is_items" = some (some (.ref fit)))
    (lit : K.lookup fit = some ⟨ocit, odit, .func (PySem.W.fnOf "is_items" "is_items" (defArgs sIsItems) (defBody sIsItems) (defScope sIsItems) .none kVit dcit pmit anit cdit ctit), slit⟩)
    (cit : PySem.W.codeIn K cdit "is_items" = true)
    (kit : PySem.W.keepIn K (.ref fit) = true)
    (aag : PySem.W.nsIn K mainGlobals "first_again" = some (some (.ref fag)))
    (lag : K.lookup fag = some ⟨ocag, odag, .func (PySem.W.fnOf "first_again" "first_again" (defArgs sAgain) (defBody sAgain) (defScope sAgain) .none kVag dcag pmag anag cdag ctag), slag⟩)
    (cag : PySem.W.codeIn K cdag "first_again" = true)
    (kag : PySem.W.keepIn K (.ref fag) = true)
    (afo : PySem.W.nsIn K mainGlobals "form_of" = some (some (.ref ffo)))
    (lfo : K.lookup ffo = some ⟨ocfo, odfo, .func (PySem.W.fnOf "form_of" "form_of" (defArgs sFormOf) (defBody sFormOf) (defScope sFormOf) .none kVfo dcfo pmfo anfo cdfo ctfo), slfo⟩)
    (cfo : PySem.W.codeIn K cdfo "form_of" = true)
    (kfo : PySem.W.keepIn K (.ref ffo) = true)
    (aso : PySem.W.nsIn K mainGlobals "is_of_sort" = some (some (.ref fso)))
    (lso : K.lookup fso = some ⟨ocso, odso, .func (PySem.W.fnOf "is_of_sort" "is_of_sort" (defArgs sIsSort) (defBody sIsSort) (defScope sIsSort) .none kVso dcso pmso anso cdso ctso), slso⟩)
    (cso : PySem.W.codeIn K cdso "is_of_sort" = true)
    (kso : PySem.W.keepIn K (.ref fso) = true)
    (ahf : PySem.W.nsIn K mainGlobals "has_form" = some (some (.ref fhf)))
    (lhf : K.lookup fhf = some ⟨ochf, odhf, .func (PySem.W.fnOf "has_form" "has_form" (defArgs sHasForm) (defBody sHasForm) (defScope sHasForm) .none kVhf dchf pmhf anhf cdhf cthf), slhf⟩)
    (chf : PySem.W.codeIn K cdhf "has_form" = true)
    (khf : PySem.W.keepIn K (.ref fhf) = true)
    (adf : PySem.W.nsIn K mainGlobals "is_default" = some (some (.ref fdf)))
    (ldf : K.lookup fdf = some ⟨ocdf, oddf, .func (PySem.W.fnOf "is_default" "is_default" (defArgs sIsDef) (defBody sIsDef) (defScope sIsDef) .none kVdf dcdf pmdf andf cddf ctdf), sldf⟩)
    (cdf : PySem.W.codeIn K cddf "is_default" = true)
    (kdf : PySem.W.keepIn K (.ref fdf) = true)
    (apa : PySem.W.nsIn K mainGlobals "parts_of" = some (some (.ref fpa)))
    (lpa : K.lookup fpa = some ⟨ocpa, odpa, .func (PySem.W.fnOf "parts_of" "parts_of" (defArgs sParts) (defBody sParts) (defScope sParts) .none kVpa dcpa pmpa anpa cdpa ctpa), slpa⟩)
    (cpa : PySem.W.codeIn K cdpa "parts_of" = true)
    (kpa : PySem.W.keepIn K (.ref fpa) = true)
    (afb : PySem.W.nsIn K mainGlobals "first_bad_row" = some (some (.ref ffb)))
    (lfb : K.lookup ffb = some ⟨ocfb, odfb, .func (PySem.W.fnOf "first_bad_row" "first_bad_row" (defArgs sFirst) (defBody sFirst) (defScope sFirst) .none kVfb dcfb pmfb anfb cdfb ctfb), slfb⟩)
    (cfb : PySem.W.codeIn K cdfb "first_bad_row" = true)
    (kfb : PySem.W.keepIn K (.ref ffb) = true)
    (ake : PySem.W.nsIn K mainGlobals "keeps_to" = some (some (.ref fke)))
    (lke : K.lookup fke = some ⟨ocke, odke, .func (PySem.W.fnOf "keeps_to" "keeps_to" (defArgs sKeeps) (defBody sKeeps) (defScope sKeeps) .none kVke dcke pmke anke cdke ctke), slke⟩)
    (cke : PySem.W.codeIn K cdke "keeps_to" = true)
    (kke : PySem.W.keepIn K (.ref fke) = true)
    (aus : PySem.W.nsIn K mainGlobals "uses_only" = some (some (.ref fus)))
    (lus : K.lookup fus = some ⟨ocus, odus, .func (PySem.W.fnOf "uses_only" "uses_only" (defArgs sUses) (defBody sUses) (defScope sUses) .none kVus dcus pmus anus cdus ctus), slus⟩)
    (cus : PySem.W.codeIn K cdus "uses_only" = true)
    (kus : PySem.W.keepIn K (.ref fus) = true)
    (aco : PySem.W.nsIn K mainGlobals "check_order" = some (some (.ref fco)))
    (lco : K.lookup fco = some ⟨occo, odco, .func (PySem.W.fnOf "check_order" "check_order" (defArgs sOrder) (defBody sOrder) (defScope sOrder) .none kVco dcco pmco anco cdco ctco), slco⟩)
    (cco : PySem.W.codeIn K cdco "check_order" = true)
    (kco : PySem.W.keepIn K (.ref fco) = true)
    (abg : PySem.W.nsIn K mainGlobals "_law_bag" = some (some (.ref fbg)))
    (lbg : K.lookup fbg = some ⟨ocbg, odbg, .func (PySem.W.fnOf "_law_bag" "_law_bag" (defArgs sBag) (defBody sBag) (defScope sBag) .none kVbg dcbg pmbg anbg cdbg ctbg), slbg⟩)
    (cbg : PySem.W.codeIn K cdbg "_law_bag" = true)
    (kbg : PySem.W.keepIn K (.ref fbg) = true)
    (atk : PySem.W.nsIn K mainGlobals "_law_take" = some (some (.ref ftk)))
    (ltk : K.lookup ftk = some ⟨octk, odtk, .func (PySem.W.fnOf "_law_take" "_law_take" (defArgs sTake) (defBody sTake) (defScope sTake) .none kVtk dctk pmtk antk cdtk cttk), sltk⟩)
    (ctk : PySem.W.codeIn K cdtk "_law_take" = true)
    (ktk : PySem.W.keepIn K (.ref ftk) = true)
    (aof : PySem.W.nsIn K mainGlobals "_law_of" = some (some (.ref fof)))
    (lof : K.lookup fof = some ⟨ocof, odof, .func (PySem.W.fnOf "_law_of" "_law_of" (defArgs sOf) (defBody sOf) (defScope sOf) .none kVof dcof pmof anof cdof ctof), slof⟩)
    (cof : PySem.W.codeIn K cdof "_law_of" = true)
    (kof : PySem.W.keepIn K (.ref fof) = true)
    (ans : PySem.W.nsIn K mainGlobals "_law_names" = some (some (.ref fns)))
    (lns : K.lookup fns = some ⟨ocns, odns, .func (PySem.W.fnOf "_law_names" "_law_names" (defArgs sNames) (defBody sNames) (defScope sNames) .none kVns dcns pmns anns cdns ctns), slns⟩)
    (cns : PySem.W.codeIn K cdns "_law_names" = true)
    (kns : PySem.W.keepIn K (.ref fns) = true)
    (ati : PySem.W.nsIn K mainGlobals "_law_items" = some (some (.ref fti)))
    (lti : K.lookup fti = some ⟨octi, odti, .func (PySem.W.fnOf "_law_items" "_law_items" (defArgs sItems) (defBody sItems) (defScope sItems) .none kVti dcti pmti anti cdti ctti), slti⟩)
    (cti : PySem.W.codeIn K cdti "_law_items" = true)
    (kti : PySem.W.keepIn K (.ref fti) = true)
    (ate : PySem.W.nsIn K mainGlobals "_law_test" = some (some (.ref fte)))
    (lte : K.lookup fte = some ⟨octe, odte, .func (PySem.W.fnOf "_law_test" "_law_test" (defArgs sTest) (defBody sTest) (defScope sTest) .none kVte dcte pmte ante cdte ctte), slte⟩)
    (cte : PySem.W.codeIn K cdte "_law_test" = true)
    (kte : PySem.W.keepIn K (.ref fte) = true)
    (aro : PySem.W.nsIn K mainGlobals "_law_row" = some (some (.ref fro)))
    (lro : K.lookup fro = some ⟨ocro, odro, .func (PySem.W.fnOf "_law_row" "_law_row" (defArgs sRow) (defBody sRow) (defScope sRow) .none kVro dcro pmro anro cdro ctro), slro⟩)
    (cro : PySem.W.codeIn K cdro "_law_row" = true)
    (kro : PySem.W.keepIn K (.ref fro) = true)
    (app : PySem.W.nsIn K mainGlobals "_law_param" = some (some (.ref fpp)))
    (lpp : K.lookup fpp = some ⟨ocpp, odpp, .func (PySem.W.fnOf "_law_param" "_law_param" (defArgs sPar) (defBody sPar) (defScope sPar) .none kVpp dcpp pmpp anpp cdpp ctpp), slpp⟩)
    (cpp : PySem.W.codeIn K cdpp "_law_param" = true)
    (kpp : PySem.W.keepIn K (.ref fpp) = true)
    (ame : PySem.W.nsIn K mainGlobals "_law_method" = some (some (.ref fme)))
    (lme : K.lookup fme = some ⟨ocme, odme, .func (PySem.W.fnOf "_law_method" "_law_method" (defArgs sMeth) (defBody sMeth) (defScope sMeth) .none kVme dcme pmme anme cdme ctme), slme⟩)
    (cme : PySem.W.codeIn K cdme "_law_method" = true)
    (kme : PySem.W.keepIn K (.ref fme) = true)
    (ach : PySem.W.nsIn K mainGlobals "_law_chain" = some (some (.ref fch)))
    (lch : K.lookup fch = some ⟨occh, odch, .func (PySem.W.fnOf "_law_chain" "_law_chain" (defArgs sChain) (defBody sChain) (defScope sChain) .none kVch dcch pmch anch cdch ctch), slch⟩)
    (cch : PySem.W.codeIn K cdch "_law_chain" = true)
    (kch : PySem.W.keepIn K (.ref fch) = true)
    (ase : PySem.W.nsIn K mainGlobals "_law_seen" = some (some (.ref fse)))
    (lse : K.lookup fse = some ⟨ocse, odse, .func (PySem.W.fnOf "_law_seen" "_law_seen" (defArgs sSeen) (defBody sSeen) (defScope sSeen) .none kVse dcse pmse anse cdse ctse), slse⟩)
    (cse : PySem.W.codeIn K cdse "_law_seen" = true)
    (kse : PySem.W.keepIn K (.ref fse) = true)
    (aal : PySem.W.nsIn K mainGlobals "_law_all_seen" = some (some (.ref fal)))
    (lal : K.lookup fal = some ⟨ocal, odal, .func (PySem.W.fnOf "_law_all_seen" "_law_all_seen" (defArgs sAll) (defBody sAll) (defScope sAll) .none kVal dcal pmal anal cdal ctal), slal⟩)
    (cal : PySem.W.codeIn K cdal "_law_all_seen" = true)
    (kal : PySem.W.keepIn K (.ref fal) = true)
    (apn : PySem.W.nsIn K mainGlobals "_law_plain" = some (some (.ref fpn)))
    (lpn : K.lookup fpn = some ⟨ocpn, odpn, .func (PySem.W.fnOf "_law_plain" "_law_plain" (defArgs sPlain) (defBody sPlain) (defScope sPlain) .none kVpn dcpn pmpn anpn cdpn ctpn), slpn⟩)
    (cpn : PySem.W.codeIn K cdpn "_law_plain" = true)
    (kpn : PySem.W.keepIn K (.ref fpn) = true)
    (alp : PySem.W.nsIn K mainGlobals "_law_params" = some (some (.ref flp)))
    (llp : K.lookup flp = some ⟨oclp, odlp, .func (PySem.W.fnOf "_law_params" "_law_params" (defArgs sLP) (defBody sLP) (defScope sLP) .none kVlp dclp pmlp anlp cdlp ctlp), sllp⟩)
    (clp : PySem.W.codeIn K cdlp "_law_params" = true)
    (klp : PySem.W.keepIn K (.ref flp) = true)
    (adi : PySem.W.nsIn K mainGlobals "_law_direct" = some (some (.ref fdi)))
    (ldi : K.lookup fdi = some ⟨ocdi, oddi, .func (PySem.W.fnOf "_law_direct" "_law_direct" (defArgs sDir) (defBody sDir) (defScope sDir) .none kVdi dcdi pmdi andi cddi ctdi), sldi⟩)
    (cdi : PySem.W.codeIn K cddi "_law_direct" = true)
    (kdi : PySem.W.keepIn K (.ref fdi) = true)
    (aft : PySem.W.nsIn K mainGlobals "_law_fits" = some (some (.ref fft)))
    (lft : K.lookup fft = some ⟨ocft, odft, .func (PySem.W.fnOf "_law_fits" "_law_fits" (defArgs sFits) (defBody sFits) (defScope sFits) .none kVft dcft pmft anft cdft ctft), slft⟩)
    (cft : PySem.W.codeIn K cdft "_law_fits" = true)
    (kft : PySem.W.keepIn K (.ref fft) = true)
    (alw : PySem.W.nsIn K mainGlobals "law" = some (some (.ref flw)))
    (llw : K.lookup flw = some ⟨oclw, odlw, .func (PySem.W.fnOf "law" "law" (defArgs sLaw) (defBody sLaw) (defScope sLaw) .none kVlw dclw pmlw anlw cdlw ctlw), sllw⟩)
    (clw : PySem.W.codeIn K cdlw "law" = true)
    (klw : PySem.W.keepIn K (.ref flw) = true)
    (aC : PySem.W.nsIn K mainGlobals "Param" = some (some (.ref C)))
    (api : PySem.W.findIn K (.ref C) "__init__" = some (some (.ref fpi)))
    (ipi : PySem.W.isFn K (.ref fpi) = true)
    (lpi : K.lookup fpi = some ⟨ocpi, odpi, .func (PySem.W.fnOf "__init__" "Param.__init__" (defArgs sPInit) (defBody sPInit) (defScope sPInit) .none (.ref D) dcpi pmpi anpi cdpi ctpi), slpi⟩)
    (cpi : PySem.W.codeIn K cdpi "Param.__init__" = true)
    (kpi : PySem.W.keepIn K (.ref fpi) = true)
    (apq : PySem.W.findIn K (.ref C) "__eq__" = some (some (.ref fpq)))
    (ipq : PySem.W.isFn K (.ref fpq) = true)
    (lpq : K.lookup fpq = some ⟨ocpq, odpq, .func (PySem.W.fnOf "__eq__" "Param.__eq__" (defArgs sPEq) (defBody sPEq) (defScope sPEq) .none kVpq dcpq pmpq anpq cdpq ctpq), slpq⟩)
    (cpq : PySem.W.codeIn K cdpq "Param.__eq__" = true)
    (kpq : PySem.W.keepIn K (.ref fpq) = true)
    (dh : PySem.W.nsIn K D "holds" = some (some (.str "box" th)))
    (dd0 : PySem.W.nsIn K D "default" = some (some .none))
    (dn : PySem.W.nsIn K D "named" = some (some (.bool false)))
    (gB : PySem.W.nsIn K mainGlobals "BARRED" = some (some (.ref aB)))
    (gaM : PySem.W.nsIn K mainGlobals "MARK_DEFAULTS" = some (some (.ref aM)))
    (gaX : PySem.W.nsIn K mainGlobals "BOX_DEFAULTS" = some (some (.ref aX)))
    (gaT : PySem.W.nsIn K mainGlobals "TESTS" = some (some (.ref aT)))
    (gaPl : PySem.W.nsIn K mainGlobals "PLAIN_ROWS" = some (some (.ref aPl)))
    (gaBr : PySem.W.nsIn K mainGlobals "BRANCHES" = some (some (.ref aBr)))
    (gaRo : PySem.W.nsIn K mainGlobals "ROWS" = some (some (.ref aRo)))
    (gaRe : PySem.W.nsIn K mainGlobals "RESULTS" = some (some (.ref aRe)))
    (gL : PySem.W.nsIn K mainGlobals "MOST_LETTERS" = some (some (.int 8 tl)))
    (taB : K.lookup aB = some ⟨.type "tuple", ddaB, .seq itaB nnaB, ssaB⟩)
    (taE : K.lookup aE = some ⟨.type "tuple", ddaE, .seq itaE nnaE, ssaE⟩)
    (taR0 : K.lookup aR0 = some ⟨.type "tuple", ddaR0, .seq itaR0 nnaR0, ssaR0⟩)
    (taE2 : K.lookup aE2 = some ⟨.type "tuple", ddaE2, .seq itaE2 nnaE2, ssaE2⟩)
    (taR2 : K.lookup aR2 = some ⟨.type "tuple", ddaR2, .seq itaR2 nnaR2, ssaR2⟩)
    (taM : K.lookup aM = some ⟨.type "tuple", ddaM, .seq #[.ref m1] nnaM, ssaM⟩)
    (taX : K.lookup aX = some ⟨.type "tuple", ddaX, .seq #[.ref x1, .ref x2, .ref x3, .ref x4] nnaX, ssaX⟩)
    (taT : K.lookup aT = some ⟨.type "tuple", ddaT, .seq #[.ref t1, .ref t2, .ref t3] nnaT, ssaT⟩)
    (taPl : K.lookup aPl = some ⟨.type "tuple", ddaPl, .seq #[.ref p1, .ref p2, .ref p3, .ref p4, .ref p5, .ref p6, .ref p7, .ref p8, .ref p9] nnaPl, ssaPl⟩)
    (taBr : K.lookup aBr = some ⟨.type "tuple", ddaBr, .seq #[.ref b1, .ref b2] nnaBr, ssaBr⟩)
    (taRo : K.lookup aRo = some ⟨.type "tuple", ddaRo, .seq #[.ref p1, .ref p2, .ref p3, .ref p4, .ref p5, .ref p6, .ref p7, .ref p8, .ref p9, .ref b1, .ref b2] nnaRo, ssaRo⟩)
    (taRe : K.lookup aRe = some ⟨.type "tuple", ddaRe, .seq #[.ref r1, .ref r2, .ref r3, .ref r4] nnaRe, ssaRe⟩)
    (tm1 : K.lookup m1 = some ⟨.type "tuple", ddm1, .seq itm1 nnm1, ssm1⟩)
    (tx1 : K.lookup x1 = some ⟨.type "tuple", ddx1, .seq itx1 nnx1, ssx1⟩)
    (tx2 : K.lookup x2 = some ⟨.type "tuple", ddx2, .seq itx2 nnx2, ssx2⟩)
    (tx3 : K.lookup x3 = some ⟨.type "tuple", ddx3, .seq itx3 nnx3, ssx3⟩)
    (tx4 : K.lookup x4 = some ⟨.type "tuple", ddx4, .seq itx4 nnx4, ssx4⟩)
    (tt1 : K.lookup t1 = some ⟨.type "tuple", ddt1, .seq itt1 nnt1, sst1⟩)
    (tt2 : K.lookup t2 = some ⟨.type "tuple", ddt2, .seq itt2 nnt2, sst2⟩)
    (tt3 : K.lookup t3 = some ⟨.type "tuple", ddt3, .seq itt3 nnt3, sst3⟩)
    (tp1 : K.lookup p1 = some ⟨.type "tuple", ddp1, .seq itp1 nnp1, ssp1⟩)
    (tp2 : K.lookup p2 = some ⟨.type "tuple", ddp2, .seq itp2 nnp2, ssp2⟩)
    (tp3 : K.lookup p3 = some ⟨.type "tuple", ddp3, .seq itp3 nnp3, ssp3⟩)
    (tp4 : K.lookup p4 = some ⟨.type "tuple", ddp4, .seq itp4 nnp4, ssp4⟩)
    (tp5 : K.lookup p5 = some ⟨.type "tuple", ddp5, .seq itp5 nnp5, ssp5⟩)
    (tp6 : K.lookup p6 = some ⟨.type "tuple", ddp6, .seq itp6 nnp6, ssp6⟩)
    (tp7 : K.lookup p7 = some ⟨.type "tuple", ddp7, .seq itp7 nnp7, ssp7⟩)
    (tp8 : K.lookup p8 = some ⟨.type "tuple", ddp8, .seq itp8 nnp8, ssp8⟩)
    (tp9 : K.lookup p9 = some ⟨.type "tuple", ddp9, .seq itp9 nnp9, ssp9⟩)
    (tb1 : K.lookup b1 = some ⟨.type "tuple", ddb1, .seq itb1 nnb1, ssb1⟩)
    (tb2 : K.lookup b2 = some ⟨.type "tuple", ddb2, .seq itb2 nnb2, ssb2⟩)
    (tr1 : K.lookup r1 = some ⟨.type "tuple", ddr1, .seq itr1 nnr1, ssr1⟩)
    (tr2 : K.lookup r2 = some ⟨.type "tuple", ddr2, .seq itr2 nnr2, ssr2⟩)
    (tr3 : K.lookup r3 = some ⟨.type "tuple", ddr3, .seq itr3 nnr3, ssr3⟩)
    (tr4 : K.lookup r4 = some ⟨.type "tuple", ddr4, .seq itr4 nnr4, ssr4⟩)
    (vaB : strsB itaB.toList barred = true)
    (vaE : strsB itaE.toList [] = true)
    (vaR0 : strsB itaR0.toList ["none"] = true)
    (vaE2 : strsB itaE2.toList [] = true)
    (vaR2 : strsB itaR2.toList ["none"] = true)
    (vm1 : strsB itm1.toList ["mark", "item"] = true)
    (vx1 : strsB itx1.toList ["once", "items"] = true)
    (vx2 : strsB itx2.toList ["early", "kind", "value"] = true)
    (vx3 : strsB itx3.toList ["anew", "items"] = true)
    (vx4 : strsB itx4.toList ["late", "owner", "value"] = true)
    (vt1 : strsB itt1.toList ["in", "item", "used"] = true)
    (vt2 : strsB itt2.toList ["equal", "used", "used"] = true)
    (vt3 : strsB itt3.toList ["is", "used", "used"] = true)
    (vp1 : strsB itp1.toList ["new", "assigned", "items"] = true)
    (vp2 : strsB itp2.toList ["name", "assigned", "used"] = true)
    (vp3 : strsB itp3.toList ["copy", "assigned", "used"] = true)
    (vp4 : strsB itp4.toList ["get", "assigned", "owner", "value"] = true)
    (vp5 : strsB itp5.toList ["set", "owner", "value", "used"] = true)
    (vp6 : strsB itp6.toList ["add", "used", "items"] = true)
    (vp7 : strsB itp7.toList ["drop", "used", "items"] = true)
    (vp8 : strsB itp8.toList ["grow", "owner", "value", "items"] = true)
    (vp9 : strsB itp9.toList ["shrink", "owner", "value", "items"] = true)
    (vb1 : strsB itb1.toList ["if", "test", "plain"] = true)
    (vb2 : strsB itb2.toList ["unless", "test", "plain"] = true)
    (vr1 : strsB itr1.toList ["none"] = true)
    (vr2 : strsB itr2.toList ["box", "used"] = true)
    (vr3 : strsB itr3.toList ["copy", "used"] = true)
    (vr4 : strsB itr4.toList ["test", "test"] = true)
    (pg : PySem.W.plainGet K C Str.empty = true)
    (hd : PySem.W.hasDictIn K C = true)
    (po : PySem.W.plainOver K C = true)
    (sa : PySem.W.findIn K (.ref C) "__setattr__" = some (some (.builtin "object.__setattr__")))
    (mk : PySem.W.makesIn K C = true)
    (kc : PySem.W.keepIn K (.ref C) = true)
    (nN : PySem.W.findIn K (.ref C) "name" = some none)
    (nH : PySem.W.findIn K (.ref C) "holds" = some none)
    (nD : PySem.W.findIn K (.ref C) "default" = some none)
    (nA : PySem.W.findIn K (.ref C) "named" = some none)
    (ha : PySem.W.findIn K (.ref C) "__class__" = some (some (.builtin "object.__class__")))
    (hn : PySem.W.specialIn K (.builtin "object.__class__") "__get__" = some (some (.builtin "getset_descriptor.__get__")))
    (htk : PySem.W.takesIn K (.builtin "object.__class__") = some true)
    (hm : PySem.W.mroIn K C (.type "object") = some true)
    (isC : PySem.W.isClsIn K C = true)
    (tyC : PySem.W.typeIn K (.ref C) = some (.type "type"))
    (aCM : PySem.W.nsIn K mainGlobals "Method" = some (some (.ref CM)))
    (Mpg : PySem.W.plainGet K CM Str.empty = true)
    (Mhd : PySem.W.hasDictIn K CM = true)
    (Mpo : PySem.W.plainOver K CM = true)
    (Msa : PySem.W.findIn K (.ref CM) "__setattr__" = some (some (.builtin "object.__setattr__")))
    (Mmk : PySem.W.makesIn K CM = true)
    (Mkc : PySem.W.keepIn K (.ref CM) = true)
    (MnN : PySem.W.findIn K (.ref CM) "name" = some none)
    (MnR : PySem.W.findIn K (.ref CM) "rows" = some none)
    (MnX : PySem.W.findIn K (.ref CM) "returns" = some none)
    (MnP : PySem.W.findIn K (.ref CM) "params" = some none)
    (Mrd : PySem.W.readsIn K CM (.type "type") = true)
    (Mga : PySem.W.specialIn K (.ref CM) "__getattribute__" = some (some (.builtin "type.__getattribute__")))
    (Mk1 : PySem.W.findCls K (.ref CM) (.type "type") "MOST_PARAMS" = some (.val (.int 4 tk1)))
    (Mk2 : PySem.W.findCls K (.ref CM) (.type "type") "MOST_BOXES" = some (.val (.int 2 tk2)))
    (Mk3 : PySem.W.findCls K (.ref CM) (.type "type") "MOST_ROWS" = some (.val (.int 8 tk3)))
    (Mof : PySem.W.findCls K (.ref CM) (.type "type") "of" = some (.get (.builtin "classmethod.__get__") (.ref pO) .none (.ref CM)))
    (Mrc : PySem.W.recIn K pO "classmethod" = some (.ref fmo :: rst))
    (Mfi : PySem.W.fnIn K fmo = true)
    (ami : PySem.W.findIn K (.ref CM) "__init__" = some (some (.ref fmi)))
    (imi : PySem.W.isFn K (.ref fmi) = true)
    (lmi : K.lookup fmi = some ⟨ocmi, odmi, .func (PySem.W.fnOf "__init__" "Method.__init__" (defArgs sMI) (defBody sMI) (defScope sMI) .none (.ref DM) dcmi pmmi anmi cdmi ctmi), slmi⟩)
    (cmi : PySem.W.codeIn K cdmi "Method.__init__" = true)
    (kmi : PySem.W.keepIn K (.ref fmi) = true)
    (dM1 : PySem.W.nsIn K DM "rows" = some (some (.ref aE2)))
    (dM2 : PySem.W.nsIn K DM "returns" = some (some (.ref aR2)))
    (amq : PySem.W.findIn K (.ref CM) "__eq__" = some (some (.ref fmq)))
    (imq : PySem.W.isFn K (.ref fmq) = true)
    (Mne : PySem.W.findIn K (.ref CM) "__ne__" = some (some (.builtin "object.__ne__")))
    (lmq : K.lookup fmq = some ⟨ocmq, odmq, .func (PySem.W.fnOf "__eq__" "Method.__eq__" (defArgs sMEq) (defBody sMEq) (defScope sMEq) .none kVmq dcmq pmmq anmq cdmq ctmq), slmq⟩)
    (cmq : PySem.W.codeIn K cdmq "Method.__eq__" = true)
    (kmq : PySem.W.keepIn K (.ref fmq) = true)
    (amp : PySem.W.findIn K (.ref CM) "param" = some (some (.ref fmp)))
    (imp : PySem.W.isFn K (.ref fmp) = true)
    (lmp : K.lookup fmp = some ⟨ocmp, odmp, .func (PySem.W.fnOf "param" "Method.param" (defArgs sMPar) (defBody sMPar) (defScope sMPar) .none kVmp dcmp pmmp anmp cdmp ctmp), slmp⟩)
    (cmp : PySem.W.codeIn K cdmp "Method.param" = true)
    (kmp : PySem.W.keepIn K (.ref fmp) = true)
    (Mha : PySem.W.findIn K (.ref CM) "__class__" = some (some (.builtin "object.__class__")))
    (Mhm : PySem.W.mroIn K CM (.type "object") = some true)
    (MisC : PySem.W.isClsIn K CM = true)
    (MtyC : PySem.W.typeIn K (.ref CM) = some (.type "type"))
    (lmo : K.lookup fmo = some ⟨ocmo, odmo, .func (PySem.W.fnOf "of" "Method.of" (defArgs sMOf) (defBody sMOf) (defScope sMOf) .none (.ref DO) dcmo pmmo anmo cdmo ctmo), slmo⟩)
    (cmo : PySem.W.codeIn K cdmo "Method.of" = true)
    (kmo : PySem.W.keepIn K (.ref fmo) = true)
    (dO1 : PySem.W.nsIn K DO "rows" = some (some (.ref aE)))
    (dO2 : PySem.W.nsIn K DO "returns" = some (some (.ref aR0)))
    (aCN : PySem.W.nsIn K mainGlobals "BadName" = some (some (.ref CN)))
    (xLN : K.lookup CN = some (excClassObj nmN qN CN NN bsN [.ref BAN, .type "ValueError", .type "Exception", .type "BaseException", .type "object"] true snN subN abN colN ddN u0N u1N u2N u3N u5N "ValueError.__new__"))
    (saN : PySem.W.findIn K (.ref CN) "__setattr__" = some (some (.builtin "object.__setattr__")))
    (gatN : PySem.W.findIn K (.ref CN) "__getattribute__" = some (some (.builtin "BaseException.__getattribute__")))
    (ggN : PySem.W.findIn K (.ref CN) "__getattr__" = some none)
    (nfN : PySem.W.findIn K (.ref CN) "name" = some none)
    (aiN : PySem.W.findIn K (.ref CN) "__init__" = some (some (.ref gN)))
    (tiN : PySem.W.typeIn K (.ref gN) = some (.type "function"))
    (liN : K.lookup gN = some ⟨ocxN, odxN, .func (PySem.W.fnOf "__init__" "BadName.__init__" (defArgs sENm) (defBody sENm) (defScope sENm) .none kVxN dcxN pmxN anxN cdxN ctxN), slxN⟩)
    (ciN : PySem.W.codeIn K cdxN "BadName.__init__" = true)
    (kiN : PySem.W.keepIn K (.ref gN) = true)
    (kCN : PySem.W.keepIn K (.ref CN) = true)
    (eCN : PySem.W.subIn K (.ref CN) (.type "BaseException") = some true)
    (tCN : PySem.W.typeIn K (.ref CN) = some (.type "type"))
    (hCN : PySem.W.hasDictIn K CN = true)
    (iCN : PySem.W.isClsIn K CN = true)
    (aCT : PySem.W.nsIn K mainGlobals "Twice" = some (some (.ref CT)))
    (xLT : K.lookup CT = some (excClassObj nmT qT CT NT bsT [.ref BAT, .type "ValueError", .type "Exception", .type "BaseException", .type "object"] true snT subT abT colT ddT u0T u1T u2T u3T u5T "ValueError.__new__"))
    (saT : PySem.W.findIn K (.ref CT) "__setattr__" = some (some (.builtin "object.__setattr__")))
    (gatT : PySem.W.findIn K (.ref CT) "__getattribute__" = some (some (.builtin "BaseException.__getattribute__")))
    (ggT : PySem.W.findIn K (.ref CT) "__getattr__" = some none)
    (nfT : PySem.W.findIn K (.ref CT) "name" = some none)
    (aiT : PySem.W.findIn K (.ref CT) "__init__" = some (some (.ref gT)))
    (tiT : PySem.W.typeIn K (.ref gT) = some (.type "function"))
    (liT : K.lookup gT = some ⟨ocxT, odxT, .func (PySem.W.fnOf "__init__" "Twice.__init__" (defArgs sETw) (defBody sETw) (defScope sETw) .none kVxT dcxT pmxT anxT cdxT ctxT), slxT⟩)
    (ciT : PySem.W.codeIn K cdxT "Twice.__init__" = true)
    (kiT : PySem.W.keepIn K (.ref gT) = true)
    (kCT : PySem.W.keepIn K (.ref CT) = true)
    (eCT : PySem.W.subIn K (.ref CT) (.type "BaseException") = some true)
    (tCT : PySem.W.typeIn K (.ref CT) = some (.type "type"))
    (hCT : PySem.W.hasDictIn K CT = true)
    (iCT : PySem.W.isClsIn K CT = true)
    (aCO : PySem.W.nsIn K mainGlobals "BadOrder" = some (some (.ref CO)))
    (xLO : K.lookup CO = some (excClassObj nmO qO CO NO bsO [.ref BAO, .type "ValueError", .type "Exception", .type "BaseException", .type "object"] true snO subO abO colO ddO u0O u1O u2O u3O u5O "ValueError.__new__"))
    (saO : PySem.W.findIn K (.ref CO) "__setattr__" = some (some (.builtin "object.__setattr__")))
    (gatO : PySem.W.findIn K (.ref CO) "__getattribute__" = some (some (.builtin "BaseException.__getattribute__")))
    (ggO : PySem.W.findIn K (.ref CO) "__getattr__" = some none)
    (nfO : PySem.W.findIn K (.ref CO) "name" = some none)
    (aiO : PySem.W.findIn K (.ref CO) "__init__" = some (some (.ref gO)))
    (tiO : PySem.W.typeIn K (.ref gO) = some (.type "function"))
    (liO : K.lookup gO = some ⟨ocxO, odxO, .func (PySem.W.fnOf "__init__" "BadOrder.__init__" (defArgs sEOr) (defBody sEOr) (defScope sEOr) .none kVxO dcxO pmxO anxO cdxO ctxO), slxO⟩)
    (ciO : PySem.W.codeIn K cdxO "BadOrder.__init__" = true)
    (kiO : PySem.W.keepIn K (.ref gO) = true)
    (kCO : PySem.W.keepIn K (.ref CO) = true)
    (eCO : PySem.W.subIn K (.ref CO) (.type "BaseException") = some true)
    (tCO : PySem.W.typeIn K (.ref CO) = some (.type "type"))
    (hCO : PySem.W.hasDictIn K CO = true)
    (iCO : PySem.W.isClsIn K CO = true)
    (aCI : PySem.W.nsIn K mainGlobals "TooMany" = some (some (.ref CI)))
    (xLI : K.lookup CI = some (excClassObj nmI qI CI NI bsI [.ref BAI, .type "ValueError", .type "Exception", .type "BaseException", .type "object"] true snI subI abI colI ddI u0I u1I u2I u3I u5I "ValueError.__new__"))
    (saI : PySem.W.findIn K (.ref CI) "__setattr__" = some (some (.builtin "object.__setattr__")))
    (gatI : PySem.W.findIn K (.ref CI) "__getattribute__" = some (some (.builtin "BaseException.__getattribute__")))
    (ggI : PySem.W.findIn K (.ref CI) "__getattr__" = some none)
    (nfI : PySem.W.findIn K (.ref CI) "what" = some none)
    (aiI : PySem.W.findIn K (.ref CI) "__init__" = some (some (.ref gI)))
    (tiI : PySem.W.typeIn K (.ref gI) = some (.type "function"))
    (liI : K.lookup gI = some ⟨ocxI, odxI, .func (PySem.W.fnOf "__init__" "TooMany.__init__" (defArgs sETm) (defBody sETm) (defScope sETm) .none kVxI dcxI pmxI anxI cdxI ctxI), slxI⟩)
    (ciI : PySem.W.codeIn K cdxI "TooMany.__init__" = true)
    (kiI : PySem.W.keepIn K (.ref gI) = true)
    (kCI : PySem.W.keepIn K (.ref CI) = true)
    (eCI : PySem.W.subIn K (.ref CI) (.type "BaseException") = some true)
    (tCI : PySem.W.typeIn K (.ref CI) = some (.type "type"))
    (hCI : PySem.W.hasDictIn K CI = true)
    (iCI : PySem.W.isClsIn K CI = true)
    (aCR : PySem.W.nsIn K mainGlobals "BadRow" = some (some (.ref CR)))
    (xLR : K.lookup CR = some (excClassObj nmR qR CR NR bsR [.ref BAR, .type "ValueError", .type "Exception", .type "BaseException", .type "object"] true snR subR abR colR ddR u0R u1R u2R u3R u5R "ValueError.__new__"))
    (saR : PySem.W.findIn K (.ref CR) "__setattr__" = some (some (.builtin "object.__setattr__")))
    (gatR : PySem.W.findIn K (.ref CR) "__getattribute__" = some (some (.builtin "BaseException.__getattribute__")))
    (ggR : PySem.W.findIn K (.ref CR) "__getattr__" = some none)
    (nfR : PySem.W.findIn K (.ref CR) "at" = some none)
    (aiR : PySem.W.findIn K (.ref CR) "__init__" = some (some (.ref gR)))
    (tiR : PySem.W.typeIn K (.ref gR) = some (.type "function"))
    (liR : K.lookup gR = some ⟨ocxR, odxR, .func (PySem.W.fnOf "__init__" "BadRow.__init__" (defArgs sERw) (defBody sERw) (defScope sERw) .none kVxR dcxR pmxR anxR cdxR ctxR), slxR⟩)
    (ciR : PySem.W.codeIn K cdxR "BadRow.__init__" = true)
    (kiR : PySem.W.keepIn K (.ref gR) = true)
    (kCR : PySem.W.keepIn K (.ref CR) = true)
    (eCR : PySem.W.subIn K (.ref CR) (.type "BaseException") = some true)
    (tCR : PySem.W.typeIn K (.ref CR) = some (.type "type"))
    (hCR : PySem.W.hasDictIn K CR = true)
    (iCR : PySem.W.isClsIn K CR = true)
    (sNN : PySem.W.subIn K (.ref CN) (.ref CN) = some true)
    (sTN : PySem.W.subIn K (.ref CT) (.ref CN) = some false)
    (sTT : PySem.W.subIn K (.ref CT) (.ref CT) = some true)
    (sON : PySem.W.subIn K (.ref CO) (.ref CN) = some false)
    (sOT : PySem.W.subIn K (.ref CO) (.ref CT) = some false)
    (sOO : PySem.W.subIn K (.ref CO) (.ref CO) = some true)
    (sIN : PySem.W.subIn K (.ref CI) (.ref CN) = some false)
    (sIT : PySem.W.subIn K (.ref CI) (.ref CT) = some false)
    (sIO : PySem.W.subIn K (.ref CI) (.ref CO) = some false)
    (sII : PySem.W.subIn K (.ref CI) (.ref CI) = some true)
    (sRN : PySem.W.subIn K (.ref CR) (.ref CN) = some false)
    (sRT : PySem.W.subIn K (.ref CR) (.ref CT) = some false)
    (sRO : PySem.W.subIn K (.ref CR) (.ref CO) = some false)
    (sRI : PySem.W.subIn K (.ref CR) (.ref CI) = some false)
    (sRR : PySem.W.subIn K (.ref CR) (.ref CR) = some true)
    (z_len : PySem.W.nsIn K mainGlobals "len" = some none)
    (z_isinstance : PySem.W.nsIn K mainGlobals "isinstance" = some none)
    (z_str : PySem.W.nsIn K mainGlobals "str" = some none)
    (z_tuple : PySem.W.nsIn K mainGlobals "tuple" = some none)
    (z_all : PySem.W.nsIn K mainGlobals "all" = some none)
    (z_any : PySem.W.nsIn K mainGlobals "any" = some none)
    (z_zip : PySem.W.nsIn K mainGlobals "zip" = some none)
    (z_int : PySem.W.nsIn K mainGlobals "int" = some none)
    (z_abs : PySem.W.nsIn K mainGlobals "abs" = some none)
    (z_enumerate : PySem.W.nsIn K mainGlobals "enumerate" = some none)
    (z_range : PySem.W.nsIn K mainGlobals "range" = some none)
    (z_max : PySem.W.nsIn K mainGlobals "max" = some none)
    (z_min : PySem.W.nsIn K mainGlobals "min" = some none)
    (z_bool : PySem.W.nsIn K mainGlobals "bool" = some none)
    (z_sorted : PySem.W.nsIn K mainGlobals "sorted" = some none)
    (z_list : PySem.W.nsIn K mainGlobals "list" = some none)
    (z_set : PySem.W.nsIn K mainGlobals "set" = some none) :
    ∃ fd : FuncData, (∀ (s : Shared) (v : Value), BindsTo s fd ⟨[v], []⟩ [("_law_script", v)]) ∧ ∀ base : Heap, K.In base → base.Ns mainGlobals mg → FnOk l.prog w K mg base CX0 11 fa fd ["_law_script"] (spLaw K) := by
  have e := hfa.symm.trans (PySem.W.mg_of X G alw)
  cases e
  have g : ∀ {n : Str} {v : Value}, PySem.W.nsIn K mainGlobals n = some (some v) → mg n = some v := fun h => PySem.W.mg_of X G h
  have z : ∀ {n : Str}, PySem.W.nsIn K mainGlobals n = some none → mg n = none := fun h => PySem.W.mg_none_of X G h
  have Fnm := fun_mk (st := sIsName) lnm cnm knm
  have bnm := Fnm.binds (ps := ["thing"]) fun _ _ _ _ _ _ us hl => match us, hl with | [_], _ => rfl
  have Fow := fun_mk (st := sIsOwner) low cow kow
  have bow := Fow.binds (ps := ["thing"]) fun _ _ _ _ _ _ us hl => match us, hl with | [_], _ => rfl
  have Fas := fun_mk (st := sIsAsc) las cas kas
  have bas := Fas.binds (ps := ["words"]) fun _ _ _ _ _ _ us hl => match us, hl with | [_], _ => rfl
  have Fit := fun_mk (st := sIsItems) lit cit kit
  have bit := Fit.binds (ps := ["thing"]) fun _ _ _ _ _ _ us hl => match us, hl with | [_], _ => rfl
  have Fag := fun_mk (st := sAgain) lag cag kag
  have bag := Fag.binds (ps := ["names", "taken"]) fun _ _ _ _ _ _ us hl => match us, hl with | [_, _], _ => rfl
  have Ffo := fun_mk (st := sFormOf) lfo cfo kfo
  have bfo := Ffo.binds (ps := ["thing", "forms"]) fun _ _ _ _ _ _ us hl => match us, hl with | [_, _], _ => rfl
  have Fso := fun_mk (st := sIsSort) lso cso kso
  have bso := Fso.binds (ps := ["part", "sort"]) fun _ _ _ _ _ _ us hl => match us, hl with | [_, _], _ => rfl
  have Fhf := fun_mk (st := sHasForm) lhf chf khf
  have bhf := Fhf.binds (ps := ["thing", "forms"]) fun _ _ _ _ _ _ us hl => match us, hl with | [_, _], _ => rfl
  have Fdf := fun_mk (st := sIsDef) ldf cdf kdf
  have bdf := Fdf.binds (ps := ["thing", "holds"]) fun _ _ _ _ _ _ us hl => match us, hl with | [_, _], _ => rfl
  have Fpa := fun_mk (st := sParts) lpa cpa kpa
  have bpa := Fpa.binds (ps := ["thing", "forms"]) fun _ _ _ _ _ _ us hl => match us, hl with | [_, _], _ => rfl
  have Ffb := fun_mk (st := sFirst) lfb cfb kfb
  have bfb := Ffb.binds (ps := ["params", "rows", "returns"]) fun _ _ _ _ _ _ us hl => match us, hl with | [_, _, _], _ => rfl
  have Fke := fun_mk (st := sKeeps) lke cke kke
  have bke := Fke.binds (ps := ["row", "fixed", "usable"]) fun _ _ _ _ _ _ us hl => match us, hl with | [_, _, _], _ => rfl
  have Fus := fun_mk (st := sUses) lus cus kus
  have bus := Fus.binds (ps := ["parts", "usable"]) fun _ _ _ _ _ _ us hl => match us, hl with | [_, _], _ => rfl
  have Fco := fun_mk (st := sOrder) lco cco kco
  have bco := Fco.binds (ps := ["params"]) fun _ _ _ _ _ _ us hl => match us, hl with | [_], _ => rfl
  have Fbg := fun_mk (st := sBag) lbg cbg kbg
  have bbg := Fbg.binds (ps := ["_law_script", "_law_at"]) fun _ _ _ _ _ _ us hl => match us, hl with | [_, _], _ => rfl
  have Ftk := fun_mk (st := sTake) ltk ctk ktk
  have btk := Ftk.binds (ps := ["_law_bag_here", "_law_many"]) fun _ _ _ _ _ _ us hl => match us, hl with | [_, _], _ => rfl
  have Fof := fun_mk (st := sOf) lof cof kof
  have bof := Fof.binds (ps := ["_law_bag_here", "_law_some"]) fun _ _ _ _ _ _ us hl => match us, hl with | [_, _], _ => rfl
  have Fns := fun_mk (st := sNames) lns cns kns
  have bns := Fns.binds (ps := ["_law_bag_here", "_law_many"]) fun _ _ _ _ _ _ us hl => match us, hl with | [_, _], _ => rfl
  have Fti := fun_mk (st := sItems) lti cti kti
  have bti := Fti.binds (ps := ["_law_bag_here", "_law_some", "_law_shares"]) fun _ _ _ _ _ _ us hl => match us, hl with | [_, _, _], _ => rfl
  have Fte := fun_mk (st := sTest) lte cte kte
  have bte := Fte.binds (ps := ["_law_bag_here", "_law_usable", "_law_things"]) fun _ _ _ _ _ _ us hl => match us, hl with | [_, _, _], _ => rfl
  have Fro := fun_mk (st := sRow) lro cro kro
  have bro := Fro.binds (ps := ["_law_bag_here", "_law_usable", "_law_free", "_law_things", "_law_owned"]) fun _ _ _ _ _ _ us hl => match us, hl with | [_, _, _, _, _], _ => rfl
  have Fpp := fun_mk (st := sPar) lpp cpp kpp
  have bpp := Fpp.binds (ps := ["_law_bag_here", "_law_name", "_law_signs", "_law_owned"]) fun _ _ _ _ _ _ us hl => match us, hl with | [_, _, _, _], _ => rfl
  have Fme := fun_mk (st := sMeth) lme cme kme
  have bme := Fme.binds (ps := ["_law_bag_here", "_law_name", "_law_names_here", "_law_signs", "_law_owned"]) fun _ _ _ _ _ _ us hl => match us, hl with | [_, _, _, _, _], _ => rfl
  have Fch := fun_mk (st := sChain) lch cch kch
  have bch := Fch.binds (ps := ["_law_kinds", "_law_name"]) fun _ _ _ _ _ _ us hl => match us, hl with | [_, _], _ => rfl
  have Fse := fun_mk (st := sSeen) lse cse kse
  have bse := Fse.binds (ps := ["_law_kinds", "_law_name"]) fun _ _ _ _ _ _ us hl => match us, hl with | [_, _], _ => rfl
  have Fal := fun_mk (st := sAll) lal cal kal
  have bal := Fal.binds (ps := ["_law_kinds"]) fun _ _ _ _ _ _ us hl => match us, hl with | [_], _ => rfl
  have Fpn := fun_mk (st := sPlain) lpn cpn kpn
  have bpn := Fpn.binds (ps := ["_law_bag_here", "_law_many", "_law_most"]) fun _ _ _ _ _ _ us hl => match us, hl with | [_, _, _], _ => rfl
  have Flp := fun_mk (st := sLP) llp clp klp
  have blp := Flp.binds (ps := ["_law_listed"]) fun _ _ _ _ _ _ us hl => match us, hl with | [_], _ => rfl
  have Fdi := fun_mk (st := sDir) ldi cdi kdi
  have bdi := Fdi.binds (ps := ["_law_name", "_law_params_here", "_law_listed", "_law_result"]) fun _ _ _ _ _ _ us hl => match us, hl with | [_, _, _, _], _ => rfl
  have Fft := fun_mk (st := sFits) lft cft kft
  have bft := Fft.binds (ps := ["_law_method_here", "_law_plain_here"]) fun _ _ _ _ _ _ us hl => match us, hl with | [_, _], _ => rfl
  have Flw := fun_mk (st := sLaw) llw clw klw
  have Fpi : FP K fpi _ := ⟨⟨_, _, _, _, _, _, _, _, _, _, rfl, lpi, cpi, .inl ⟨rfl, rfl⟩, .inr ⟨D, rfl, fun q hq => by
    rcases List.mem_cons.mp hq with rfl | hq
    · exact ⟨_, dh, ⟨_, rfl⟩⟩
    · rcases List.mem_cons.mp hq with rfl | hq
      · exact ⟨_, dd0, rfl⟩
      · rcases List.mem_cons.mp hq with rfl | hq
        · exact ⟨_, dn, rfl⟩
        · cases hq⟩⟩, kpi⟩
  have FxN := fun_mk (st := sENm) liN ciN kiN
  have bxN := FxN.binds (ps := ["self", "name"]) fun _ _ _ _ _ _ us hl => match us, hl with | [_, _], _ => rfl
  have EN : Erc K mg "BadName" "name" CN gN := ⟨⟨⟨nmN, qN, NN, bsN, _, snN, subN, abN, colN, ddN, u0N, u1N, u2N, u3N, u5N, xLN, rfl⟩, saN, eCN, tCN, kCN⟩, nfN, aiN, tiN, g aCN⟩
  have FxT := fun_mk (st := sETw) liT ciT kiT
  have bxT := FxT.binds (ps := ["self", "name"]) fun _ _ _ _ _ _ us hl => match us, hl with | [_, _], _ => rfl
  have ET : Erc K mg "Twice" "name" CT gT := ⟨⟨⟨nmT, qT, NT, bsT, _, snT, subT, abT, colT, ddT, u0T, u1T, u2T, u3T, u5T, xLT, rfl⟩, saT, eCT, tCT, kCT⟩, nfT, aiT, tiT, g aCT⟩
  have FxO := fun_mk (st := sEOr) liO ciO kiO
  have bxO := FxO.binds (ps := ["self", "name"]) fun _ _ _ _ _ _ us hl => match us, hl with | [_, _], _ => rfl
  have EO : Erc K mg "BadOrder" "name" CO gO := ⟨⟨⟨nmO, qO, NO, bsO, _, snO, subO, abO, colO, ddO, u0O, u1O, u2O, u3O, u5O, xLO, rfl⟩, saO, eCO, tCO, kCO⟩, nfO, aiO, tiO, g aCO⟩
  have FxI := fun_mk (st := sETm) liI ciI kiI
  have bxI := FxI.binds (ps := ["self", "what"]) fun _ _ _ _ _ _ us hl => match us, hl with | [_, _], _ => rfl
  have EI : Erc K mg "TooMany" "what" CI gI := ⟨⟨⟨nmI, qI, NI, bsI, _, snI, subI, abI, colI, ddI, u0I, u1I, u2I, u3I, u5I, xLI, rfl⟩, saI, eCI, tCI, kCI⟩, nfI, aiI, tiI, g aCI⟩
  have FxR := fun_mk (st := sERw) liR ciR kiR
  have bxR := FxR.binds (ps := ["self", "at"]) fun _ _ _ _ _ _ us hl => match us, hl with | [_, _], _ => rfl
  have ER : Erc K mg "BadRow" "at" CR gR := ⟨⟨⟨nmR, qR, NR, bsR, _, snR, subR, abR, colR, ddR, u0R, u1R, u2R, u3R, u5R, xLR, rfl⟩, saR, eCR, tCR, kCR⟩, nfR, aiR, tiR, g aCR⟩
  have W : Wds K mg := ⟨z z_len, z z_isinstance, z z_str, z z_tuple, z z_all, z z_zip, ⟨_, g gL⟩, ⟨aB, g gB, fm_of taB vaB (by decide)⟩⟩
  have B : Blt mg := ⟨z z_len, z z_int, z z_abs, z z_enumerate⟩
  have L : BltL mg := ⟨z z_range, z z_max, z z_min, z z_len, z z_tuple⟩
  have FT : FmT K mg := ⟨⟨aM, g gaM, fms_of (as := [m1]) taM (by show 1 ≤ 1000; decide) (.cons (fm_of tm1 vm1 (by decide)) .nil)⟩, ⟨aX, g gaX, fms_of (as := [x1, x2, x3, x4]) taX (by show 4 ≤ 1000; decide) (.cons (fm_of tx1 vx1 (by decide)) (.cons (fm_of tx2 vx2 (by decide)) (.cons (fm_of tx3 vx3 (by decide)) (.cons (fm_of tx4 vx4 (by decide)) .nil))))⟩⟩
  have TT : FmG K mg "TESTS" testForms := ⟨⟨aT, g gaT, fms_of (as := [t1, t2, t3]) taT (by show 3 ≤ 1000; decide) (.cons (fm_of tt1 vt1 (by decide)) (.cons (fm_of tt2 vt2 (by decide)) (.cons (fm_of tt3 vt3 (by decide)) .nil)))⟩⟩
  have TP : FmG K mg "PLAIN_ROWS" plainForms := ⟨⟨aPl, g gaPl, fms_of (as := [p1, p2, p3, p4, p5, p6, p7, p8, p9]) taPl (by show 9 ≤ 1000; decide) (.cons (fm_of tp1 vp1 (by decide)) (.cons (fm_of tp2 vp2 (by decide)) (.cons (fm_of tp3 vp3 (by decide)) (.cons (fm_of tp4 vp4 (by decide)) (.cons (fm_of tp5 vp5 (by decide)) (.cons (fm_of tp6 vp6 (by decide)) (.cons (fm_of tp7 vp7 (by decide)) (.cons (fm_of tp8 vp8 (by decide)) (.cons (fm_of tp9 vp9 (by decide)) .nil)))))))))⟩⟩
  have TB : FmG K mg "BRANCHES" branchForms := ⟨⟨aBr, g gaBr, fms_of (as := [b1, b2]) taBr (by show 2 ≤ 1000; decide) (.cons (fm_of tb1 vb1 (by decide)) (.cons (fm_of tb2 vb2 (by decide)) .nil))⟩⟩
  have TR : FmG K mg "ROWS" rowForms := ⟨⟨aRo, g gaRo, fms_of (as := [p1, p2, p3, p4, p5, p6, p7, p8, p9, b1, b2]) taRo (by show 11 ≤ 1000; decide) (.cons (fm_of tp1 vp1 (by decide)) (.cons (fm_of tp2 vp2 (by decide)) (.cons (fm_of tp3 vp3 (by decide)) (.cons (fm_of tp4 vp4 (by decide)) (.cons (fm_of tp5 vp5 (by decide)) (.cons (fm_of tp6 vp6 (by decide)) (.cons (fm_of tp7 vp7 (by decide)) (.cons (fm_of tp8 vp8 (by decide)) (.cons (fm_of tp9 vp9 (by decide)) (.cons (fm_of tb1 vb1 (by decide)) (.cons (fm_of tb2 vb2 (by decide)) .nil)))))))))))⟩⟩
  have TX : FmG K mg "RESULTS" resultForms := ⟨⟨aRe, g gaRe, fms_of (as := [r1, r2, r3, r4]) taRe (by show 4 ≤ 1000; decide) (.cons (fm_of tr1 vr1 (by decide)) (.cons (fm_of tr2 vr2 (by decide)) (.cons (fm_of tr3 vr3 (by decide)) (.cons (fm_of tr4 vr4 (by decide)) .nil))))⟩⟩
  have T : Prm K mg C := ⟨⟨pg, hd, po, sa⟩, nN, nH, nD, nA, g aC, ha, hn, htk, hm, isC, tyC⟩
  have TM : Mtd K mg CM (.type "type") := ⟨⟨Mpg, Mhd, Mpo, Msa⟩, MnN, MnP, MnR, MnX, g aCM, ⟨Mrd, Mga⟩, ⟨_, Mk1, ⟨_, rfl⟩⟩, ⟨_, Mk2, ⟨_, rfl⟩⟩, ⟨_, Mk3, ⟨_, rfl⟩⟩⟩
  have cO : ClX.CMet K CM (.type "type") "of" pO fmo := ⟨Mof, ⟨rst, Mrc⟩, Mfi⟩
  have TE : MtdE K CM := ⟨Mha, hn, htk, Mhm, MisC, MtyC⟩
  have EQ : EqM K CM fmq := ⟨amq, imq, Mne⟩
  have hE : ∀ H, SqT K H aE [] := fm_of taE vaE (by decide)
  have hR0 : ∀ H, SqT K H aR0 [.str "none"] := fm_of taR0 vaR0 (by decide)
  have hE2 : ∀ H, SqT K H aE2 [] := fm_of taE2 vaE2 (by decide)
  have hR2 : ∀ H, SqT K H aR2 [.str "none"] := fm_of taR2 vaR2 (by decide)
  have Fmi : FM K [("rows", .ref aE2), ("returns", .ref aR2)] fmi _ := ⟨⟨_, _, _, _, _, _, _, _, _, _, rfl, lmi, cmi, .inl ⟨rfl, rfl⟩, .inr ⟨DM, rfl, fun q hq => by
    rcases List.mem_cons.mp hq with rfl | hq
    · exact ⟨_, dM1, rfl⟩
    · rcases List.mem_cons.mp hq with rfl | hq
      · exact ⟨_, dM2, rfl⟩
      · cases hq⟩⟩, kmi⟩
  have Fmo : FMOf K aE aR0 fmo _ := ⟨⟨_, _, _, _, _, _, _, _, _, _, rfl, lmo, cmo, .inl ⟨rfl, rfl⟩, .inr ⟨DO, rfl, fun q hq => by
    rcases List.mem_cons.mp hq with rfl | hq
    · exact ⟨_, dO1, rfl⟩
    · rcases List.mem_cons.mp hq with rfl | hq
      · exact ⟨_, dO2, rfl⟩
      · cases hq⟩⟩, kmo⟩
  refine ⟨PySem.W.fnOf "law" "law" (defArgs sLaw) (defBody sLaw) (defScope sLaw) .none kVlw dclw pmlw anlw cdlw ctlw, fun s v => .of_eq rfl, fun base _ _ => ?_⟩
  have Gnm := ok_name (P := l.prog) (w := w) (base := base) Fnm W
  have Gow := ok_owner Fow Gnm (g anm) knm bnm
  have Gas := ok_asc (P := l.prog) (w := w) (base := base) Fas W
  have Git := ok_items Fit W Gnm (g anm) knm bnm Gas (g aas) kas bas
  have Gfo := ok_formOf (P := l.prog) (w := w) (base := base) Ffo W
  have Gso := ok_sort0 Fso Git (g ait) kit bit Gow (g aow) kow bow Gnm (g anm) knm bnm
  have Ghf := ok_hasForm (k := 2) Fhf W Gfo (g afo) kfo bfo Gso (g aso) kso bso
  have Gdf := ok_def (k := 3) Fdf FT Ghf (g ahf) khf bhf
  have Gs1 := ok_sort1 (k := 4) Fso TT TP Git (g ait) kit bit Gow (g aow) kow bow Gnm (g anm) knm bnm Ghf (g ahf) khf bhf (by decide)
  have Gh1 := ok_hasForm (k := 4) Fhf W Gfo (g afo) kfo bfo Gs1 (g aso) kso bso
  have Gag := ok_again (P := l.prog) (w := w) (base := base) Fag (z z_enumerate)
  have Gpa := ok_parts Fpa W Gfo (g afo) kfo bfo
  have Gus := ok_uses (P := l.prog) (w := w) (base := base) Fus W
  have GpG := ok_partsG Fpa W TT TP Gfo (g afo) kfo bfo Gpa (g apa) kpa bpa
  have Gke := ok_keepsG Fke W (z z_any) TR TB GpG (g apa) kpa bpa Gfo (g afo) kfo bfo Gus (g aus) kus bus
  have Gfb := ok_firstG (kH := 6) Ffb W T (z z_enumerate) TR TX Gh1 (g ahf) khf bhf Gke (g ake) kke bke GpG (g apa) kpa bpa Gus (g aus) kus bus (by decide)
  have GxN := ok_eNm (P := l.prog) (w := w) (base := base) FxN EN
  have GxT := ok_eTw (P := l.prog) (w := w) (base := base) FxT ET
  have GxO := ok_eOr (P := l.prog) (w := w) (base := base) FxO EO
  have GxI := ok_eTm (P := l.prog) (w := w) (base := base) FxI EI
  have GxR := ok_eRw (P := l.prog) (w := w) (base := base) FxR ER
  have Gco := ok_order Fco W T EO GxO bxO
  have Gmi := ok_mi (gO := gO) (kB := 7) (x := ⟨CN, CT, CO, CI, CR⟩) Fmi W (z z_any) T TM Gnm (g anm) knm bnm Gag (g aag) kag bag Gco (g aco) kco bco Gfb (g afb) kfb bfb EN GxN bxN ET GxT bxT EI GxI bxI ER GxR bxR (by decide)
  have Gm0 := ok_miD (gO := gO) (kB := 7) (x := ⟨CN, CT, CO, CI, CR⟩) Fmi W (z z_any) T TM Gnm (g anm) knm bnm Gag (g aag) kag bag Gco (g aco) kco bco Gfb (g afb) kfb bfb EN GxN bxN ET GxT bxT EI GxI bxI ER GxR bxR (by decide)
  have MM : Mk K CM fmi := ⟨Mmk, ami, imi, Mkc⟩
  have Gmo := ok_mof (k := 8) Fmo MM Gmi
  have Gpi := ok_pinit (kD := 4) Fpi W T (z z_bool) Gnm (g anm) knm bnm Gdf (g adf) kdf bdf
  have Gbg := ok_bag (P := l.prog) (w := w) (base := base) Fbg B
  have Gtk := ok_take (P := l.prog) (w := w) (base := base) Ftk B
  have Gof := ok_of Fof B Gtk (g atk) ktk btk
  have Gns := ok_names Fns B (z z_range) Gtk (g atk) ktk btk Gof (g aof) kof bof
  have BS : BltS mg := ⟨z z_tuple, z z_sorted⟩
  have BM : BltM mg := ⟨z z_tuple, z z_list, z z_range, z z_len⟩
  have Gti := ok_items_d Fti BS Gtk (g atk) ktk btk
  have Gte := ok_test Fte Gof (g aof) kof bof
  have Gro := ok_row Fro Gtk (g atk) ktk btk Gof (g aof) kof bof Gti (g ati) kti bti Gte (g ate) kte bte
  have Got := ok_ofT Fof B Gtk (g atk) ktk btk
  have Gpp := ok_par Fpp Gtk (g atk) ktk btk Gof Got (g aof) kof bof Gti (g ati) kti bti
  have Gme := ok_meth Fme BM Gtk (g atk) ktk btk Gof (g aof) kof bof Gte (g ate) kte bte Gpp (g app) kpp bpp Gro (g aro) kro bro
  have M : Mk K C fpi := ⟨mk, api, ipi, kc⟩
  have BP : BltP mg := ⟨z z_tuple, z z_list, z z_range, z z_len, z z_sorted, z z_set⟩
  have Gch := ok_chain (P := l.prog) (w := w) (mg := mg) (base := base) Fch
  have Gse := ok_seen Fse BP Gch (g ach) kch bch
  have Gal := ok_all Fal Gse (g ase) kse bse
  have Gpn := ok_plain Fpn BP Gns (g ans) kns bns Gtk (g atk) ktk btk Gof (g aof) kof bof Gal (g aal) kal bal Gti (g ati) kti bti Gse (g ase) kse bse Gme (g ame) kme bme
  have Glp := ok_lp (kI := 6) Flp T M Fpi Gpi
  have Gdi := ok_dir (k := 8) Fdi TM MM (z z_len) Gmi
  have Fpq := fun_mk (st := sPEq) lpq cpq kpq
  have bpq := Fpq.binds (ps := ["self", "other"]) fun _ _ _ _ _ _ us hl => match us, hl with | [_, _], _ => rfl
  have Gpq := ok_peq (P := l.prog) (w := w) (base := base) Fpq W T
  have Fmq := fun_mk (st := sMEq) lmq cmq kmq
  have bmq := Fmq.binds (ps := ["self", "other"]) fun _ _ _ _ _ _ us hl => match us, hl with | [_, _], _ => rfl
  have Gmq := ok_meq Fmq W TM TE Gpq apq ipq bpq
  have Fmp := fun_mk (st := sMPar) lmp cmp kmp
  have bmp := Fmp.binds (ps := ["self", "name"]) fun _ _ _ _ _ _ us hl => match us, hl with | [_, _], _ => rfl
  have Gmp := ok_mpar (P := l.prog) (w := w) (base := base) Fmp W T TM
  have Gft := ok_fits Fft W (z z_bool) (z z_list) T TM Gmp ⟨amp, imp, kmp⟩ bmp
  exact ok_law Flw L TM TE EQ MM Fmo cO hE hR0 hE2 hR2 Gbg (g abg) kbg bbg Gtk (g atk) ktk btk Gpn (g apn) kpn bpn Glp (g alp) klp blp Gdi (g adi) kdi bdi Gmo Gft (g aft) kft bft Gmq bmq Gm0
theorem walk {l : PySem.W.OpenLaw} {q : Program} {loose : List Str} {XP : (Str → Option Value) → Heap → Prop} {YP : World → Heap → Prop} {d : DefRec} {K : Params → PySem.W.Frag} (hn : l.most = some 63) (hdf : d.params.defaults = [])
    (hY : ∀ (w : World) (h : Heap), YP w h → (K w.params).In h)
    (F : ∀ (w : World) (mg : Str → Option Value) (fa : Addr) (h : Heap), (K w.params).In h → h.Ns mainGlobals mg → mg d.name = some (.ref fa) →
      ∃ fd : FuncData, (∀ (s : Shared) (u : Value), BindsTo s fd ⟨[u], []⟩ [("_law_script", u)]) ∧ ∀ base : Heap, (K w.params).In base → base.Ns mainGlobals mg → FnOk l.prog w (K w.params) mg base CX0 11 fa fd ["_law_script"] (spLaw (K w.params))) :
    PySem.W.WalkO q loose XP YP l.row.toRowW d [] (fun f vs => PySem.call f vs) :=
  L2.walk_of (n := 63) (k := 11) (x := "_law_script") (CX := fun _ => CX0) (sp := fun w => spLaw (K w.params)) hn (by decide) hdf ⟨rfl, by decide, by decide⟩ hY F (fun _ _ a ns hl _ hS => ⟨a, ns, rfl, hS, hl, fun _ => rfl⟩) fun _ _ _ _ _ z => z
end Dr
open PySem PySem.W PyProof.Rows in
set_option maxRecDepth 100000 in
set_option maxHeartbeats 0 in
theorem PySem.Challenge.cw_oncedefaults_k03_methods_made_holds : PySem.Challenge.rw_oncedefaults_k03_methods_made.Holds := by
  w_on; o_law; k_head; (case hw => w_witness2)
  k_fill
  refine Dr.walk (l := PySem.Challenge.rw_oncedefaults_k03_methods_made) rfl rfl (fun w h Y => PySem.W.kIn_of Y) ?F
  case F =>
    intro w mg fa h KX G hmg
    refine' Dr.all_mk KX G hmg ?anm ?lnm ?cnm ?knm ?aow ?low ?cow ?kow ?aas ?las ?cas ?kas ?ait ?lit ?cit ?kit ?aag ?lag ?cag ?kag ?afo ?lfo ?cfo ?kfo ?aso ?lso ?cso ?kso ?ahf ?lhf ?chf ?khf ?adf ?ldf ?cdf ?kdf ?apa ?lpa ?cpa ?kpa ?afb ?lfb ?cfb ?kfb ?ake ?lke ?cke ?kke ?aus ?lus ?cus ?kus ?aco ?lco ?cco ?kco ?abg ?lbg ?cbg ?kbg ?atk ?ltk ?ctk ?ktk ?aof ?lof ?cof ?kof ?ans ?lns ?cns ?kns ?ati ?lti ?cti ?kti ?ate ?lte ?cte ?kte ?aro ?lro ?cro ?kro ?app ?lpp ?cpp ?kpp ?ame ?lme ?cme ?kme ?ach ?lch ?cch ?kch ?ase ?lse ?cse ?kse ?aal ?lal ?cal ?kal ?apn ?lpn ?cpn ?kpn ?alp ?llp ?clp ?klp ?adi ?ldi ?cdi ?kdi ?aft ?lft ?cft ?kft ?alw ?llw ?clw ?klw ?aC ?api ?ipi ?lpi ?cpi ?kpi ?apq ?ipq ?lpq ?cpq ?kpq ?dh ?dd0 ?dn ?gB ?gaM ?gaX ?gaT ?gaPl ?gaBr ?gaRo ?gaRe ?gL ?taB ?taE ?taR0 ?taE2 ?taR2 ?taM ?taX ?taT ?taPl ?taBr ?taRo ?taRe ?tm1 ?tx1 ?tx2 ?tx3 ?tx4 ?tt1 ?tt2 ?tt3 ?tp1 ?tp2 ?tp3 ?tp4 ?tp5 ?tp6 ?tp7 ?tp8 ?tp9 ?tb1 ?tb2 ?tr1 ?tr2 ?tr3 ?tr4 ?vaB ?vaE ?vaR0 ?vaE2 ?vaR2 ?vm1 ?vx1 ?vx2 ?vx3 ?vx4 ?vt1 ?vt2 ?vt3 ?vp1 ?vp2 ?vp3 ?vp4 ?vp5 ?vp6 ?vp7 ?vp8 ?vp9 ?vb1 ?vb2 ?vr1 ?vr2 ?vr3 ?vr4 ?pg ?hd ?po ?sa ?mk ?kc ?nN ?nH ?nD ?nA ?ha ?hn ?htk ?hm ?isC ?tyC ?aCM ?Mpg ?Mhd ?Mpo ?Msa ?Mmk ?Mkc ?MnN ?MnR ?MnX ?MnP ?Mrd ?Mga ?Mk1 ?Mk2 ?Mk3 ?Mof ?Mrc ?Mfi ?ami ?imi ?lmi ?cmi ?kmi ?dM1 ?dM2 ?amq ?imq ?Mne ?lmq ?cmq ?kmq ?amp ?imp ?lmp ?cmp ?kmp ?Mha ?Mhm ?MisC ?MtyC ?lmo ?cmo ?kmo ?dO1 ?dO2 ?aCN ?xLN ?saN ?gatN ?ggN ?nfN ?aiN ?tiN ?liN ?ciN ?kiN ?kCN ?eCN ?tCN ?hCN ?iCN ?aCT ?xLT ?saT ?gatT ?ggT ?nfT ?aiT ?tiT ?liT ?ciT ?kiT ?kCT ?eCT ?tCT ?hCT ?iCT ?aCO ?xLO ?saO ?gatO ?ggO ?nfO ?aiO ?tiO ?liO ?ciO ?kiO ?kCO ?eCO ?tCO ?hCO ?iCO ?aCI ?xLI ?saI ?gatI ?ggI ?nfI ?aiI ?tiI ?liI ?ciI ?kiI ?kCI ?eCI ?tCI ?hCI ?iCI ?aCR ?xLR ?saR ?gatR ?ggR ?nfR ?aiR ?tiR ?liR ?ciR ?kiR ?kCR ?eCR ?tCR ?hCR ?iCR ?sNN ?sTN ?sTT ?sON ?sOT ?sOO ?sIN ?sIT ?sIO ?sII ?sRN ?sRT ?sRO ?sRI ?sRR ?z_len ?z_isinstance ?z_str ?z_tuple ?z_all ?z_any ?z_zip ?z_int ?z_abs ?z_enumerate ?z_range ?z_max ?z_min ?z_bool ?z_sorted ?z_list ?z_set
    (case anm => k_is)
    (case lnm => k_is)
    (case cnm => k_is)
    (case knm => k_is)
    (case aow => k_is)
    (case low => k_is)
    (case cow => k_is)
    (case kow => k_is)
    (case aas => k_is)
    (case las => k_is)
    (case cas => k_is)
    (case kas => k_is)
    (case ait => k_is)
    (case lit => k_is)
    (case cit => k_is)
    (case kit => k_is)
    (case aag => k_is)
    (case lag => k_is)
    (case cag => k_is)
    (case kag => k_is)
    (case afo => k_is)
    (case lfo => k_is)
    (case cfo => k_is)
    (case kfo => k_is)
    (case aso => k_is)
    (case lso => k_is)
    (case cso => k_is)
    (case kso => k_is)
    (case ahf => k_is)
    (case lhf => k_is)
    (case chf => k_is)
    (case khf => k_is)
    (case adf => k_is)
    (case ldf => k_is)
    (case cdf => k_is)
    (case kdf => k_is)
    (case apa => k_is)
    (case lpa => k_is)
    (case cpa => k_is)
    (case kpa => k_is)
    (case afb => k_is)
    (case lfb => k_is)
    (case cfb => k_is)
    (case kfb => k_is)
    (case ake => k_is)
    (case lke => k_is)
    (case cke => k_is)
    (case kke => k_is)
    (case aus => k_is)
    (case lus => k_is)
    (case cus => k_is)
    (case kus => k_is)
    (case aco => k_is)
    (case lco => k_is)
    (case cco => k_is)
    (case kco => k_is)
    (case abg => k_is)
    (case lbg => k_is)
    (case cbg => k_is)
    (case kbg => k_is)
    (case atk => k_is)
    (case ltk => k_is)
    (case ctk => k_is)
    (case ktk => k_is)
    (case aof => k_is)
    (case lof => k_is)
    (case cof => k_is)
    (case kof => k_is)
    (case ans => k_is)
    (case lns => k_is)
    (case cns => k_is)
    (case kns => k_is)
    (case ati => k_is)
    (case lti => k_is)
    (case cti => k_is)
    (case kti => k_is)
    (case ate => k_is)
    (case lte => k_is)
    (case cte => k_is)
    (case kte => k_is)
    (case aro => k_is)
    (case lro => k_is)
    (case cro => k_is)
    (case kro => k_is)
    (case app => k_is)
    (case lpp => k_is)
    (case cpp => k_is)
    (case kpp => k_is)
    (case ame => k_is)
    (case lme => k_is)
    (case cme => k_is)
    (case kme => k_is)
    (case ach => k_is)
    (case lch => k_is)
    (case cch => k_is)
    (case kch => k_is)
    (case ase => k_is)
    (case lse => k_is)
    (case cse => k_is)
    (case kse => k_is)
    (case aal => k_is)
    (case lal => k_is)
    (case cal => k_is)
    (case kal => k_is)
    (case apn => k_is)
    (case lpn => k_is)
    (case cpn => k_is)
    (case kpn => k_is)
    (case alp => k_is)
    (case llp => k_is)
    (case clp => k_is)
    (case klp => k_is)
    (case adi => k_is)
    (case ldi => k_is)
    (case cdi => k_is)
    (case kdi => k_is)
    (case aft => k_is)
    (case lft => k_is)
    (case cft => k_is)
    (case kft => k_is)
    (case alw => k_is)
    (case llw => k_is)
    (case clw => k_is)
    (case klw => k_is)
    (case aC => k_is)
    (case api => k_is)
    (case ipi => k_is)
    (case lpi => k_is)
    (case cpi => k_is)
    (case kpi => k_is)
    (case apq => k_is)
    (case ipq => k_is)
    (case lpq => k_is)
    (case cpq => k_is)
    (case kpq => k_is)
    (case dh => k_is)
    (case dd0 => k_is)
    (case dn => k_is)
    (case gB => k_is)
    (case gaM => k_is)
    (case gaX => k_is)
    (case gaT => k_is)
    (case gaPl => k_is)
    (case gaBr => k_is)
    (case gaRo => k_is)
    (case gaRe => k_is)
    (case gL => k_is)
    (case taB => k_is)
    (case taM => k_is)
    (case taX => k_is)
    (case taT => k_is)
    (case taPl => k_is)
    (case taBr => k_is)
    (case taRo => k_is)
    (case taRe => k_is)
    (case tm1 => k_is)
    (case tx1 => k_is)
    (case tx2 => k_is)
    (case tx3 => k_is)
    (case tx4 => k_is)
    (case tt1 => k_is)
    (case tt2 => k_is)
    (case tt3 => k_is)
    (case tp1 => k_is)
    (case tp2 => k_is)
    (case tp3 => k_is)
    (case tp4 => k_is)
    (case tp5 => k_is)
    (case tp6 => k_is)
    (case tp7 => k_is)
    (case tp8 => k_is)
    (case tp9 => k_is)
    (case tb1 => k_is)
    (case tb2 => k_is)
    (case tr1 => k_is)
    (case tr2 => k_is)
    (case tr3 => k_is)
    (case tr4 => k_is)
    (case vaB => decide +kernel)
    (case vm1 => decide +kernel)
    (case vx1 => decide +kernel)
    (case vx2 => decide +kernel)
    (case vx3 => decide +kernel)
    (case vx4 => decide +kernel)
    (case vt1 => decide +kernel)
    (case vt2 => decide +kernel)
    (case vt3 => decide +kernel)
    (case vp1 => decide +kernel)
    (case vp2 => decide +kernel)
    (case vp3 => decide +kernel)
    (case vp4 => decide +kernel)
    (case vp5 => decide +kernel)
    (case vp6 => decide +kernel)
    (case vp7 => decide +kernel)
    (case vp8 => decide +kernel)
    (case vp9 => decide +kernel)
    (case vb1 => decide +kernel)
    (case vb2 => decide +kernel)
    (case vr1 => decide +kernel)
    (case vr2 => decide +kernel)
    (case vr3 => decide +kernel)
    (case vr4 => decide +kernel)
    (case pg => k_is)
    (case hd => k_is)
    (case po => k_is)
    (case sa => k_is)
    (case mk => k_is)
    (case kc => k_is)
    (case nN => k_is)
    (case nH => k_is)
    (case nD => k_is)
    (case nA => k_is)
    (case ha => k_is)
    (case hn => k_is)
    (case htk => k_is)
    (case hm => k_is)
    (case isC => k_is)
    (case tyC => k_is)
    (case aCM => k_is)
    (case Mpg => k_is)
    (case Mhd => k_is)
    (case Mpo => k_is)
    (case Msa => k_is)
    (case Mmk => k_is)
    (case Mkc => k_is)
    (case MnN => k_is)
    (case MnR => k_is)
    (case MnX => k_is)
    (case MnP => k_is)
    (case Mrd => k_is)
    (case Mga => k_is)
    (case Mk1 => k_is)
    (case Mk2 => k_is)
    (case Mk3 => k_is)
    (case Mof => k_is)
    (case Mrc => k_is)
    (case Mfi => k_is)
    (case ami => k_is)
    (case imi => k_is)
    (case lmi => k_is)
    (case cmi => k_is)
    (case kmi => k_is)
    (case dM1 => k_is)
    (case dM2 => k_is)
    (case amq => k_is)
    (case imq => k_is)
    (case Mne => k_is)
    (case lmq => k_is)
    (case cmq => k_is)
    (case kmq => k_is)
    (case amp => k_is)
    (case imp => k_is)
    (case lmp => k_is)
    (case cmp => k_is)
    (case kmp => k_is)
    (case Mha => k_is)
    (case Mhm => k_is)
    (case MisC => k_is)
    (case MtyC => k_is)
    (case lmo => k_is)
    (case cmo => k_is)
    (case kmo => k_is)
    (case dO1 => k_is)
    (case dO2 => k_is)
    (case aCN => k_is)
    (case xLN => k_is)
    (case saN => k_is)
    (case gatN => k_is)
    (case ggN => k_is)
    (case nfN => k_is)
    (case aiN => k_is)
    (case tiN => k_is)
    (case liN => k_is)
    (case ciN => k_is)
    (case kiN => k_is)
    (case kCN => k_is)
    (case eCN => k_is)
    (case tCN => k_is)
    (case hCN => k_is)
    (case iCN => k_is)
    (case aCT => k_is)
    (case xLT => k_is)
    (case saT => k_is)
    (case gatT => k_is)
    (case ggT => k_is)
    (case nfT => k_is)
    (case aiT => k_is)
    (case tiT => k_is)
    (case liT => k_is)
    (case ciT => k_is)
    (case kiT => k_is)
    (case kCT => k_is)
    (case eCT => k_is)
    (case tCT => k_is)
    (case hCT => k_is)
    (case iCT => k_is)
    (case aCO => k_is)
    (case xLO => k_is)
    (case saO => k_is)
    (case gatO => k_is)
    (case ggO => k_is)
    (case nfO => k_is)
    (case aiO => k_is)
    (case tiO => k_is)
    (case liO => k_is)
    (case ciO => k_is)
    (case kiO => k_is)
    (case kCO => k_is)
    (case eCO => k_is)
    (case tCO => k_is)
    (case hCO => k_is)
    (case iCO => k_is)
    (case aCI => k_is)
    (case xLI => k_is)
    (case saI => k_is)
    (case gatI => k_is)
    (case ggI => k_is)
    (case nfI => k_is)
    (case aiI => k_is)
    (case tiI => k_is)
    (case liI => k_is)
    (case ciI => k_is)
    (case kiI => k_is)
    (case kCI => k_is)
    (case eCI => k_is)
    (case tCI => k_is)
    (case hCI => k_is)
    (case iCI => k_is)
    (case aCR => k_is)
    (case xLR => k_is)
    (case saR => k_is)
    (case gatR => k_is)
    (case ggR => k_is)
    (case nfR => k_is)
    (case aiR => k_is)
    (case tiR => k_is)
    (case liR => k_is)
    (case ciR => k_is)
    (case kiR => k_is)
    (case kCR => k_is)
    (case eCR => k_is)
    (case tCR => k_is)
    (case hCR => k_is)
    (case iCR => k_is)
    (case sNN => (first | rfl | k_is))
    (case sTN => k_is)
    (case sTT => (first | rfl | k_is))
    (case sON => k_is)
    (case sOT => k_is)
    (case sOO => (first | rfl | k_is))
    (case sIN => k_is)
    (case sIT => k_is)
    (case sIO => k_is)
    (case sII => (first | rfl | k_is))
    (case sRN => k_is)
    (case sRT => k_is)
    (case sRO => k_is)
    (case sRI => k_is)
    (case sRR => (first | rfl | k_is))
    (case z_len => k_is)
    (case z_isinstance => k_is)
    (case z_str => k_is)
    (case z_tuple => k_is)
    (case z_all => k_is)
    (case z_any => k_is)
    (case z_zip => k_is)
    (case z_int => k_is)
    (case z_abs => k_is)
    (case z_enumerate => k_is)
    (case z_range => k_is)
    (case z_max => k_is)
    (case z_min => k_is)
    (case z_bool => k_is)
    (case z_sorted => k_is)
    (case z_list => k_is)
    (case z_set => k_is)
    (case taE => k_is)
    (case taR0 => k_is)
    (case taE2 => k_is)
    (case taR2 => k_is)
    (case vaE => decide +kernel)
    (case vaR0 => decide +kernel)
    (case vaE2 => decide +kernel)
    (case vaR2 => decide +kernel)
