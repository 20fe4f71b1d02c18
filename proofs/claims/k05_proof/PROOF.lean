import PyProof.Rows.All
import Wide.All
import OpenK.AllK
import Wide.FinOn
import HandS.ForMost
import HandS.TryOnly
import HandS.Evl
import HandS.Wide
import HandS.ForExc
import HandS.ExcInit
import HandS.FStr
import HandS.CallLocal
import HandS.Walk
import KE.KExcIs
import HandS.ExcIs
import HandS.ExcField
import HandS.IsInst
import PyProof.ReprLen
import PyProof.StrLawsRepr
import KE.RegKIsAll
import PySem.Challenge.RW_countveil_k05_texts_of_no_plans
set_option Elab.async false
set_option linter.all false
set_option maxRecDepth 100000
set_option maxHeartbeats 4000000
namespace Cv
open PySem PySem.Spec PyProof.Rows L2
def topS (i : Nat) : Stmt := PySem.Challenge.pw_countveil_k05_texts_of_no_plans.main.body.getD i (.Pass ⟨0, 0, 0, 0⟩)
/-! ### the purse -/
def big : Int := (10 ^ 60) ^ 60
/-- a purse at p, its cells at c, at most T draws so far -/
def Pur (H : Hp) (p c : Addr) (T : Nat) : Prop := ∃ (cs : List Int) (k : Int), H p = some (.lst [.ref c, .int k]) ∧ H c = some (.lst (cs.map V.int)) ∧ 0 < cs.length ∧ cs.length ≤ 63 ∧ (∀ x ∈ cs, 0 ≤ x ∧ x < big) ∧ 0 ≤ k ∧ k ≤ T
/-- all but the purse is as it was -/
def Kp (p c : Addr) (H H' : Hp) : Prop := ∀ a o, a ≠ p → a ≠ c → H a = some o → H' a = some o
theorem Kp.refl {p c : Addr} {H : Hp} : Kp p c H H := fun _ _ _ _ h => h
theorem Kp.trans {p c : Addr} {H H1 H2 : Hp} (x : Kp p c H H1) (y : Kp p c H1 H2) : Kp p c H H2 := fun a o h1 h2 h => y a o h1 h2 (x a o h1 h2 h)
theorem Kp.of {p c : Addr} {H H1 : Hp} (x : Same H H1) : Kp p c H H1 := fun a o _ _ h => x a o h
theorem same_upd {H : Hp} {p : Addr} {o : HO} (h : H p = none) : Same H (upd H p o) := fun b x e => by
  rw [upd_ne (ne_of_none e h)]
  exact e
theorem Pur.ne {H : Hp} {p c : Addr} {T : Nat} (h : Pur H p c T) : p ≠ c := by
  obtain ⟨cs, k, hp, hc, h0, _⟩ := h
  refine ne_of hp hc fun e => ?_
  have e2 := HO.lst.inj e
  cases cs with
  | nil => simp at h0
  | cons x r => simp at e2
theorem Pur.same {H H' : Hp} {p c : Addr} {T : Nat} (h : Pur H p c T) (s : Same H H') : Pur H' p c T := by
  obtain ⟨cs, k, hp, hc, r⟩ := h
  exact ⟨cs, k, s _ _ hp, s _ _ hc, r⟩
theorem Pur.le {H : Hp} {p c : Addr} {T T' : Nat} (h : Pur H p c T) (l : T ≤ T') : Pur H p c T' := by
  obtain ⟨cs, k, hp, hc, h1, h2, h3, h4, h5⟩ := h
  exact ⟨cs, k, hp, hc, h1, h2, h3, h4, by omega⟩
theorem Pur.nep {H : Hp} {p c q : Addr} {T : Nat} (h : Pur H p c T) (n : H q = none) : q ≠ p ∧ q ≠ c := by
  obtain ⟨cs, k, hp, hc, _⟩ := h
  exact ⟨(ne_of_none hp n).symm, (ne_of_none hc n).symm⟩
/-- an object that isn't the purse's stays where the purse is changed -/
theorem Pur.upd {H : Hp} {p c q : Addr} {T : Nat} {o : HO} (h : Pur H p c T) (h1 : q ≠ p) (h2 : q ≠ c) : Pur (upd H q o) p c T := by
  obtain ⟨cs, k, hp, hc, r⟩ := h
  exact ⟨cs, k, by rw [upd_ne h1.symm]; exact hp, by rw [upd_ne h2.symm]; exact hc, r⟩
theorem Kp.upd {H H1 : Hp} {p c q : Addr} {o : HO} (h : Kp p c H H1) (n : H q = none) : Kp p c H (upd H1 q o) := fun a x h1 h2 e => by
  rw [upd_ne (ne_of_none e n)]
  exact h a x h1 h2 e
theorem seL {α : Type} {l : List α} {j : Nat} {x y : α} (h : y ∈ l.set j x) : y = x ∨ y ∈ l := by
  rcases List.mem_or_eq_of_mem_set h with h | h
  · exact .inr h
  · exact .inl h
/-! ### draw -/
theorem ixN_nat' {n j : Nat} (hj : j < n) : ixN n (j : Int) = some j := by
  unfold ixN
  rw [if_pos (by omega), if_pos (by omega)]
  simp
theorem modB {a b : Int} (h : 0 < b) (h2 : b ≤ 2147483647) : -(2 ^ 64) < a % b ∧ a % b < 2 ^ 64 := by
  have h3 := Int.emod_nonneg a (show b ≠ 0 by omega)
  have h4 := Int.emod_lt_of_pos a h
  omega
theorem c1 : (0 : Int) < 2147483629 := by decide
theorem c2 : (0 : Int) < 2147483647 := by decide
theorem c3 : (0 : Int) < 2147483587 := by decide
abbrev sDraw : Stmt := topS 23
theorem scD : FnScope ["_law_purse_here", "_law_out_of", "_law_cells", "_law_went", "_law_where", "_law_cell", "_law_num", "_law_other"] ["_law_purse_here", "_law_out_of"] (defScope sDraw) := ⟨rfl, rfl, rfl, by decide +kernel, rfl, by decide +kernel, by decide +kernel⟩
def spDraw : Sp := fun vs H Q _ => ∃ (p c : Addr) (T : Nat) (n : Int), vs = [.ref p, .int n] ∧ Pur H p c T ∧ T ≤ 1000000000 ∧ 1 ≤ n ∧ n ≤ 1000000000 ∧
  ∀ H' r, 0 ≤ r → r < n → Pur H' p c (T + 1) → Kp p c H H' → Q (.int r) H'
section
variable {P : Program} {w : World} {K : PySem.W.Frag} {mg : Str → Option Value} {base : Heap}
theorem ok_draw {f : Addr} {fd : FuncData} {k : Nat} (F : Fun K "_law_draw" "_law_draw" sDraw f fd) (ml : mg "len" = none) : FnOk P w K mg base CX0 (k + 1) f fd ["_law_purse_here", "_law_out_of"] spDraw := by
  refine F.ok scD (fun vs H Q E h => ?_) (fun cdv A outer s H vs Q E hr h => ?_)
  · obtain ⟨p, c, T, n, rfl, _⟩ := h
    rfl
  · obtain ⟨p, c, T, n, rfl, hP, hT, n1, n2, q⟩ := h
    have hpc := hP.ne
    obtain ⟨cs, g, hp, hc, h0, h63, hb, g0, gT⟩ := hP
    refine ⟨_, pss_cons (ps_asg (pv 0) (pg_lst rfl (pgs_cons (pg_name (i := 2) scD.nd rfl (.inl rfl)) (pgs_cons (pg_name (i := 3) scD.nd rfl (.inl rfl)) pgs_nil))))
      (pss_cons (ps_set (i := 4) scD.nd rfl (.inl rfl) (pe_op op_mod (pv 3) (pe_callB call_len_seq (by rfl) ml PySem.boot_len (pa_cons (pv 2) pa_nil))))
      (pss_cons (ps_set (i := 5) scD.nd rfl (.inl rfl) (pe_ix ix_list (pv 2) (pv 4) (fun _ _ => rfl)))
      (pss_cons (ps_asg (pe_op op_add (pv 3) pe_int) (pg_sub (pv 0) pe_int set_list))
      (pss_cons (ps_if (pt_cmpR op_ge (pv 5) (pe_op op_pow pe_int pe_int) (nomark _))
        (pss_cons (ps_asg (pe_op op_fdivN (pv 5) (pv 1)) (pg_sub (pv 2) (pv 4) set_list)) (pss_one (ps_ret (pe_op op_mod (pv 5) (pv 1))))) pss_nil)
      (pss_cons (ps_set (i := 6) scD.nd rfl (.inl rfl) (pe_op op_mod (pe_op op_add (pe_op op_add (pe_op op_mul (pe_op op_mod (pv 5) pe_int) pe_int) (pe_op op_mul (pe_op op_mul (pv 3) (pv 3)) pe_int)) pe_int) pe_int))
      (pss_cons (ps_set (i := 6) scD.nd rfl (.inl rfl) (pe_op op_mod (pe_op op_mul (pv 6) (pv 6)) pe_int))
      (pss_cons (ps_set (i := 6) scD.nd rfl (.inl rfl) (pe_op op_mod (pe_op op_mul (pv 6) (pv 6)) pe_int))
      (pss_cons (ps_if (pt_cmpR op_gt (pv 1) (pe_op op_pow pe_int pe_int) (nomark _))
        (pss_cons (ps_set (i := 7) scD.nd rfl (.inl rfl) (pe_op op_mod (pe_op op_add (pe_op op_add (pe_op op_mul (pv 6) pe_int) (pe_op op_mul (pv 3) pe_int)) pe_int) pe_int))
          (pss_one (ps_set (i := 6) scD.nd rfl (.inl rfl) (pe_op op_mul (pv 6) (pe_op op_add (pe_op op_mul (pe_op op_mul (pv 7) (pv 7)) (pv 7)) pe_int))))) pss_nil)
      (pss_one (ps_ret (pe_op op_mod (pv 6) (pv 1)))))))))))), ?_⟩
    -- the unpacked purse; where; the cell
    refine ⟨.ref p, rfl, p, _, rfl, SqL.of hp, rfl, _, _, rfl, _, _, rfl, rfl, ?_⟩
    have hl : (0 : Int) < (cs.map V.int).length := by
      rw [List.length_map]
      omega
    refine ⟨.int g, rfl, .ref c, rfl, c, _, rfl, .inl (SqL.of hc), g, _, rfl, rfl, hl, ?_⟩
    have j1 : 0 ≤ g % (cs.map V.int).length := Int.emod_nonneg _ (by omega)
    have j2 : g % (cs.map V.int).length < (cs.map V.int).length := Int.emod_lt_of_pos _ hl
    obtain ⟨j, ej⟩ : ∃ j : Nat, (j : Int) = g % (cs.map V.int).length := ⟨(g % (cs.map V.int).length).toNat, by omega⟩
    rw [← ej] at j1 j2
    have hj : j < cs.length := by
      rw [List.length_map] at j2
      omega
    have hcj : (cs.map V.int)[j]? = some (.int cs[j]) := by
      rw [List.getElem?_map, List.getElem?_eq_getElem hj]
      rfl
    have hx := hb cs[j] (List.getElem_mem hj)
    generalize cs[j] = x at hx hcj
    refine ⟨.ref c, rfl, _, rfl, c, _, _, .int x, rfl, rfl, SqL.of hc, (by rw [← ej]; exact atI_nat hcj), ?_⟩
    -- purse[1] = went + 1
    refine ⟨.int g, rfl, _, _, rfl, rfl, .ref p, rfl, p, _, _, 1, rfl, rfl, hp, rfl, ?_⟩
    have hc1 : (upd H p (.lst [.ref c, .int (g + 1)])) c = some (.lst (cs.map V.int)) := by
      rw [upd_ne hpc.symm]
      exact hc
    have K1 : Kp p c H (upd H p (.lst [.ref c, .int (g + 1)])) := fun a o h1 _ e => by
      rw [upd_ne h1]
      exact e
    have P1 : Pur (upd H p (.lst [.ref c, .int (g + 1)])) p c (T + 1) := ⟨cs, g + 1, upd_same, hc1, h0, h63, hb, by omega, by omega⟩
    -- cell >= 10 ** 18
    refine ⟨.int x, rfl, _, _, rfl, rfl, ⟨by decide, by decide, by decide⟩, _, _, rfl, rfl, _, rfl, ite2 (fun e => ?_) (fun e => ?_)⟩
    · refine ⟨.int x, rfl, .int n, rfl, _, _, rfl, rfl, ⟨by omega, by omega⟩, .ref c, rfl, _, rfl, c, _, _, j, rfl, rfl, hc1, ?_, ?_⟩
      · rw [← ej, List.length_map]
        exact ixN_nat' hj
      · refine ⟨.int x, rfl, .int n, rfl, _, _, rfl, rfl, by omega, ?_⟩
        refine q _ _ (Int.emod_nonneg _ (by omega)) (Int.emod_lt_of_pos _ (by omega)) ⟨cs.set j (x.fdiv n), g + 1, ?_, ?_, ?_, ?_, ?_, by omega, by omega⟩ ?_
        · rw [upd_ne hpc]
          exact upd_same
        · rw [upd_same, List.map_set]
        · rw [List.length_set]
          exact h0
        · rw [List.length_set]
          exact h63
        · intro y hy
          rcases seL hy with rfl | hy
          · rw [Int.fdiv_eq_ediv_of_nonneg _ (by omega)]
            have a1 : 0 ≤ x / n := Int.ediv_nonneg hx.1 (by omega)
            have a2 : x / n ≤ x := Int.ediv_le_self _ hx.1
            exact ⟨a1, by omega⟩
          · exact hb y hy
        · intro a o h1 h2 e
          rw [upd_ne h2]
          exact K1 a o h1 h2 e
    · -- num
      refine ⟨.int x, rfl, _, _, rfl, rfl, c1, _, _, rfl, rfl, .inr ⟨by decide, by decide⟩, .int g, rfl, .int g, rfl, _, _, rfl, rfl, .inl ⟨by omega, by omega⟩, _, _, rfl, rfl, .inr ⟨by decide, by decide⟩, _, _, rfl, rfl, _, _, rfl, rfl, _, _, rfl, rfl, c2, ?_⟩
      refine ⟨_, rfl, _, rfl, _, _, rfl, rfl, .inl (modB c2 (by decide)), _, _, rfl, rfl, c1, ?_⟩
      refine ⟨_, rfl, _, rfl, _, _, rfl, rfl, .inl (modB c1 (by decide)), _, _, rfl, rfl, c3, ?_⟩
      refine ⟨.int n, rfl, _, _, rfl, rfl, ⟨by decide, by decide, by decide⟩, _, _, rfl, rfl, _, rfl, ite2 (fun e => ?_) (fun e => ?_)⟩
      · have z2 := of_decide_eq_true e
        have z3 : (10 : Int) ^ (9 : Int).toNat = 1000000000 := by decide
        omega
      · refine ⟨_, rfl, .int n, rfl, _, _, rfl, rfl, by omega, ?_⟩
        exact q _ _ (Int.emod_nonneg _ (by omega)) (Int.emod_lt_of_pos _ (by omega)) P1 K1
end
end Cv
set_option Elab.async false
set_option linter.all false
set_option maxRecDepth 100000
set_option maxHeartbeats 4000000
namespace Cv
open PySem PySem.Spec PyProof.Rows L2
theorem glen (sep : Str) (ws : List Str) : (Txt.join sep ws).length ≤ (ws.map (·.length)).sum + ws.length * sep.length := by
  show (Builtin.Str.glued sep ws).length ≤ _
  rw [StrLaws.glued_eq_join]
  exact StrLaws.join_length_le sep ws
theorem sum_le {m : Nat} : ∀ {ws : List Str}, (∀ z ∈ ws, z.length ≤ m) → (ws.map (·.length)).sum ≤ ws.length * m
  | [], _ => Nat.zero_le _
  | x :: r, h => by
    have h1 := h x List.mem_cons_self
    have h2 := sum_le (ws := r) fun z hz => h z (List.mem_cons_of_mem _ hz)
    rw [List.map_cons, List.sum_cons, List.length_cons, Nat.succ_mul]
    omega
theorem Kp.seq {K : PySem.W.Frag} {H H' : Hp} {p c a : Addr} {xs : List V} (e : Kp p c H H') (h1 : a ≠ p) (h2 : a ≠ c) (h : SqL K H a xs) : SqL K H' a xs := by
  rcases h with (h | ⟨o, h⟩) | h
  · exact .inl (.inl (e _ _ h1 h2 h))
  · exact .inl (.inr ⟨o, e _ _ h1 h2 h⟩)
  · exact .inr h
theorem op_powW {X : Cx} : OpR X (binaryOp .Pow) (rI (fun i j => 0 ≤ j ∧ (Builtin.Int.intBits i : Int) * j ≤ 2 ^ 27) fun i j => .int (i ^ j.toNat)) := opI fun _ _ _ _ _ _ _ hc q => pow_int hc.1 hc.2 q
theorem mem_at {α : Type} {xs : List α} {i : Int} (h0 : 0 ≤ i) (h1 : i < xs.length) : ∃ v, v ∈ xs ∧ atI xs i = some v := by
  obtain ⟨j, rfl⟩ : ∃ j : Nat, i = (j : Int) := ⟨i.toNat, by omega⟩
  have hj : j < xs.length := by omega
  exact ⟨xs[j], List.getElem_mem hj, atI_nat (List.getElem?_eq_getElem hj)⟩
theorem ints_shaped (cs : List Int) : SeqAt.shaped (.list (cs.map PyData.int)) = true := by
  have h1 : ∀ cs : List Int, PyData.canLayAll0 (cs.map PyData.int) = true := by
    intro cs
    induction cs with
    | nil => simp [PyData.canLayAll0]
    | cons x r ih => simp [PyData.canLayAll0, PyData.canLay0, ih]
  have h2 : ∀ cs : List Int, PyData.depthAll (cs.map PyData.int) ≤ 1 := by
    intro cs
    induction cs with
    | nil => simp [PyData.depthAll]
    | cons x r ih =>
      simp only [List.map_cons, PyData.depthAll, PyData.depth]
      omega
  show (PyData.canLay0 (.list (cs.map PyData.int)) && decide (PyData.depth (.list (cs.map PyData.int)) ≤ 64)) = true
  rw [Bool.and_eq_true]
  refine ⟨by simp only [PyData.canLay0]; exact h1 cs, decide_eq_true ?_⟩
  have h3 := h2 cs
  simp only [PyData.depth]
  omega
theorem ints_dp {K : PySem.W.Frag} {H : Hp} : ∀ cs : List Int, DpAll K H (cs.map V.int) (cs.map PyData.int)
  | [] => .nil
  | x :: r => .cons (.int x) (ints_dp r)
/-! ### the purse is made -/
abbrev sPurse : Stmt := topS 22
theorem scP : FnScope ["_law_script", "_law_cells", "_law_cell"] ["_law_script"] (defScope sPurse) := ⟨rfl, rfl, rfl, by decide +kernel, rfl, by decide +kernel, by decide +kernel⟩
def spPurse (K : PySem.W.Frag) : Sp := fun vs H Q _ => ∃ (a : Addr) (ns : List Int), vs = [.ref a] ∧ SqL K H a (ns.map V.int) ∧
  ∀ H' p c, Same H H' → H p = none → H c = none → Pur H' p c 0 → Q (.ref p) H'
theorem cut63 (xs : List V) : cutV xs none (some 63) = xs.take 63 := by
  unfold cutV
  rw [show HT.sIx xs.length 0 none = 0 from HT.sIx_none _ _, show HT.sIx xs.length xs.length (some 63) = min 63 xs.length from HT.sIx_nat xs.length xs.length 63, List.drop_zero, Nat.sub_zero]
  by_cases h : 63 ≤ xs.length
  · rw [Nat.min_eq_left h]
  · rw [Nat.min_eq_right (by omega), List.take_of_length_le (Nat.le_refl _), List.take_of_length_le (by omega)]
theorem big_pos : (0 : Int) < ((10 : Int) ^ (60 : Int).toNat) ^ (60 : Int).toNat := by decide +kernel
theorem big_eq : ((10 : Int) ^ (60 : Int).toNat) ^ (60 : Int).toNat = big := rfl
theorem eqv_nil : ∀ cs : List Int, PyData.eqv (.list (cs.map PyData.int)) (.list []) = decide (cs = [])
  | [] => by simp [PyData.eqv, PyData.eqvAll]
  | x :: r => by simp [PyData.eqv, PyData.eqvAll]
section
variable {P : Program} {w : World} {K : PySem.W.Frag} {mg : Str → Option Value} {base : Heap}
theorem ok_purse {f : Addr} {fd : FuncData} {k : Nat} (F : Fun K "_law_purse" "_law_purse" sPurse f fd) : FnOk P w K mg base CX0 (k + 1) f fd ["_law_script"] (spPurse K) := by
  refine F.ok scP (fun vs H Q E h => ?_) (fun cdv A outer s H vs Q E hr h => ?_)
  · obtain ⟨a, ns, rfl, _⟩ := h
    rfl
  · obtain ⟨a, ns, rfl, hS, q⟩ := h
    refine ⟨_, pss_cons (ps_setLc (i := 1) (own := [("_law_cell", 2)]) (g := gName 2) (tt := tYes) rfl scP.nd rfl rfl (sw_true rfl rfl rfl (by decide +kernel)) (pi_list (pe_slice sl_list (pv 0) po_none (po_some pe_int)))
        (blkOk_by (own := [("_law_cell", 2)]) (N := ["_law_script", "_law_cells", "_law_cell"]) (sc := defScope sPurse) (by decide +kernel)) (fun _ _ _ _ _ => pg_name (i := 2) scP.nd rfl (Or.inl rfl)) (fun _ _ _ _ _ => pts_nil)
        (fun _ _ _ _ _ => pe_op op_mod (pv 2) (pe_op op_powW (pe_op op_pow pe_int pe_int) pe_int)))
      (pss_cons (ps_if (pt_cmpR (op_eqD hr.units) (pv 1) (pe_lst pa_nil) (nomark _)) (pss_one (ps_set (i := 1) scP.nd rfl (.inl rfl) (pe_lst (pa_cons pe_int pa_nil)))) pss_nil)
      (pss_one (ps_ret (pe_lst (pa_cons (pv 1) (pa_cons pe_int pa_nil)))))), ?_⟩
    refine ⟨.ref a, rfl, 63, rfl, a, _, rfl, hS, fun l nl => ?_⟩
    have f1 : (upd H l (.lst (cutV (ns.map V.int) none (some 63)))) l = some (.lst ((ns.take 63).map V.int)) := by
      rw [upd_same, cut63, List.map_take]
    have s1 : Same H (upd H l (.lst (cutV (ns.map V.int) none (some 63)))) := same_upd nl
    generalize upd H l (.lst (cutV (ns.map V.int) none (some 63))) = H1 at f1 s1 ⊢
    refine ⟨l, rfl, ⟨_, SqL.of f1⟩, fun D nD => ?_⟩
    have nDl : l ≠ D := ne_of_none f1 nD
    have lm : (ns.take 63).length ≤ 63 := by
      rw [List.length_take]
      omega
    generalize ns.take 63 = M at f1 lm
    refine lc_list (K := K) (a := l) (xs := M.map V.int) (fun i H' => Same H H' ∧ H' l = some (.lst (M.map V.int)) ∧ H' D = some (.lst (((M.take i).map (· % big)).map V.int))) ⟨s1.trans (same_upd nD), ?_, ?_⟩ (fun i H' _ h => SqL.of h.2.1) (fun i x H' hx h => ?_) (fun H' h => ?_)
    · rw [upd_ne nDl]
      exact f1
    · rw [upd_same]
      rfl
    · obtain ⟨g1, g2, g3⟩ := h
      have hi : i < M.length := by
        have z := (List.getElem?_eq_some_iff.mp hx).1
        rw [List.length_map] at z
        exact z
      have ex : x = .int M[i] := by
        rw [List.getElem?_map, List.getElem?_eq_getElem hi] at hx
        exact (Option.some.inj hx).symm
      subst ex
      refine ⟨rfl, _, rfl, _, _, rfl, rfl, ⟨by decide, by decide, by decide⟩, _, _, rfl, rfl, ⟨by decide, by decide +kernel⟩, _, _, rfl, rfl, big_pos, _, g3, ?_, ?_, ?_, ?_⟩
      · rw [List.length_map, List.length_map, List.length_take]
        exact Nat.lt_of_le_of_lt (Nat.min_le_left _ _) (small1000 (by omega))
      · exact fun b o e => by
          rw [upd_ne (fun z => by rw [z] at e; have := g1; exact absurd (s1 _ _ e) (by rw [nD]; exact fun z => nomatch z))]
          exact g1 _ _ e
      · rw [upd_ne nDl]
        exact g2
      · rw [upd_same, List.take_add_one, List.getElem?_eq_getElem hi, List.map_append, List.map_append]
        rfl
    · obtain ⟨g1, g2, g3⟩ := h
      rw [List.length_map, List.take_of_length_le (Nat.le_refl _)] at g3
      have hD : H D = none := s1.free nD
      have bm : ∀ x ∈ M.map (· % big), 0 ≤ x ∧ x < big := fun x hx => by
        obtain ⟨y, _, rfl⟩ := List.mem_map.mp hx
        exact ⟨Int.emod_nonneg _ (Int.ne_of_gt big_pos), Int.emod_lt_of_pos _ big_pos⟩
      have lm2 : (M.map (· % big)).length ≤ 63 := by
        rw [List.length_map]
        exact lm
      generalize M.map (· % big) = cs at g3 bm lm2
      refine ⟨.ref D, rfl, Nat.zero_le _, fun e ne => ?_⟩
      have s2 : Same H' (upd H' e (.lst [])) := same_upd ne
      refine ⟨.list (cs.map PyData.int), .list [], .lst (SqL.of (s2 _ _ g3)) (ints_dp cs), .lst (SqL.of upd_same) .nil, ints_shaped cs, ints_shaped [], _, rfl, ite2 (fun z => ?_) (fun z => ?_)⟩
      · refine ⟨by decide, fun c nc => ?_⟩
        refine ⟨_, rfl, (by show 2 ≤ sizeLine; decide), fun p np => ?_⟩
        have s3 := (g1.trans s2).trans ((same_upd nc (o := .lst [.int 0])).trans (same_upd np (o := .lst [.ref c, .int 0])))
        refine q _ p c s3 (((g1.trans s2).trans (same_upd nc)).free np) ((g1.trans s2).free nc) ⟨[0], 0, upd_same, ?_, by decide, by decide, fun x hx => ?_, Int.le_refl _, Int.le_refl _⟩
        · rw [upd_ne (ne_of_none upd_same np)]
          exact upd_same
        · rw [List.mem_singleton.mp hx]
          exact ⟨Int.le_refl _, big_pos⟩
      · rw [eqv_nil] at z
        have z2 : cs ≠ [] := fun y => z (decide_eq_true y)
        refine ⟨_, rfl, (by show 2 ≤ sizeLine; decide), fun p np => ?_⟩
        have s3 := (g1.trans s2).trans (same_upd np (o := .lst [.ref D, .int 0]))
        refine q _ p D s3 ((g1.trans s2).free np) hD ⟨cs, 0, upd_same, (same_upd np) _ _ (s2 _ _ g3), List.length_pos_iff.mpr z2, lm2, bm, Int.le_refl _, Int.le_refl _⟩
end
end Cv
set_option Elab.async false
set_option linter.all false
set_option maxRecDepth 100000
set_option maxHeartbeats 4000000
namespace Cv
open PySem PySem.Spec PyProof.Rows L2
theorem Kp.free {p c D : Addr} {H H' : Hp} (e : Kp p c H H') (h1 : D ≠ p) (h2 : D ≠ c) (h : H' D = none) : H D = none := by
  cases q : H D with
  | none => rfl
  | some o =>
    rw [e D o h1 h2 q] at h
    cases h
/-! ### pick -/
abbrev sPick : Stmt := topS 24
theorem scK : FnScope ["_law_purse_here", "_law_some"] ["_law_purse_here", "_law_some"] (defScope sPick) := ⟨rfl, rfl, rfl, by decide +kernel, rfl, by decide +kernel, by decide +kernel⟩
/-- of a text a sign, of a list an item -/
def spPick (K : PySem.W.Frag) : Sp := fun vs H Q _ => ∃ (p c : Addr) (T : Nat) (x : V), vs = [.ref p, x] ∧ Pur H p c T ∧ T ≤ 1000000000 ∧
  ((∃ z : Str, x = .str z ∧ 0 < z.length ∧ z.length ≤ 1000 ∧ ∀ H' ch, ch ∈ z.cps.toList → Pur H' p c (T + 1) → Kp p c H H' → Q (.str ⟨#[ch]⟩) H') ∨
   (∃ (l : Addr) (xs : List V), x = .ref l ∧ l ≠ p ∧ l ≠ c ∧ SqL K H l xs ∧ 0 < xs.length ∧ xs.length ≤ 1000 ∧ ∀ H' v, v ∈ xs → Pur H' p c (T + 1) → Kp p c H H' → Q v H'))
section
variable {P : Program} {w : World} {K : PySem.W.Frag} {mg : Str → Option Value} {base : Heap}
theorem ok_pick {f fD : Addr} {fd fdD : FuncData} {k : Nat} (F : Fun K "_law_pick" "_law_pick" sPick f fd) (FD : Fun K "_law_draw" "_law_draw" sDraw fD fdD) (bD : Binds K fdD ["_law_purse_here", "_law_out_of"] []) (gD : mg "_law_draw" = some (.ref fD)) (ml : mg "len" = none) :
    FnOk P w K mg base CX0 (k + 2) f fd ["_law_purse_here", "_law_some"] (spPick K) := by
  have GD : FnOk P w K mg base CX0 (k + 1) fD fdD ["_law_purse_here", "_law_out_of"] spDraw := ok_draw FD ml
  refine F.ok scK (fun vs H Q E h => ?_) (fun cdv A outer s H vs Q E hr h => ?_)
  · obtain ⟨p, c, T, x, rfl, _⟩ := h
    rfl
  · obtain ⟨p, c, T, x, rfl, hP, hT, h⟩ := h
    refine ⟨_, pss_one (ps_ret (pe_ix ix_seq (pv 1) (pe_call GD hr (by rfl) gD FD.kp bD .nil pass0 (pa_cons (pv 0) (pa_cons (pe_callB call_len (by rfl) ml PySem.boot_len (pa_cons (pv 1) pa_nil)) pa_nil))) (fun _ _ => rfl))), ?_⟩
    rcases h with ⟨z, rfl, z0, z1, q⟩ | ⟨l, xs, rfl, l1, l2, hl, z0, z1, q⟩
    · have hz : z.length ≤ sizeLine := Nat.le_of_lt (small1000 z1)
      refine ⟨.str z, rfl, .ref p, rfl, .str z, rfl, _, z.length, rfl, ⟨hz, rfl⟩, p, c, T, _, rfl, hP, hT, by omega, by omega, fun H' r r0 r1 hP' hK => ?_⟩
      obtain ⟨ch, hm, ha⟩ := mem_at (xs := z.cps.toList) r0 (by rw [Array.length_toList]; exact r1)
      exact .inr (.inr ⟨z, r, ch, rfl, rfl, hz, ha, q H' ch hm hP' hK⟩)
    · refine ⟨.ref l, rfl, .ref p, rfl, .ref l, rfl, _, xs.length, rfl, .inl ⟨_, hl, rfl⟩, p, c, T, _, rfl, hP, hT, by omega, by omega, fun H' r r0 r1 hP' hK => ?_⟩
      obtain ⟨v, hm, ha⟩ := mem_at (xs := xs) r0 r1
      exact .inl ⟨l, xs, r, v, rfl, rfl, hK.seq l1 l2 hl, ha, q H' v hm hP' hK⟩
end
/-! ### word -/
abbrev sWord : Stmt := topS 25
theorem scW : FnScope ["_law_purse_here", "_law_most", "_law_size", "_law_sign"] ["_law_purse_here", "_law_most"] (defScope sWord) := ⟨rfl, rfl, rfl, by decide +kernel, rfl, by decide +kernel, by decide +kernel⟩
def letters : Str := "aabeknorst"
def spWord : Sp := fun vs H Q _ => ∃ (p c : Addr) (T : Nat) (m : Int), vs = [.ref p, .int m] ∧ Pur H p c T ∧ T ≤ 999999000 ∧ 2 ≤ m ∧ m ≤ 8 ∧
  ∀ H' (z : Str), 1 ≤ z.length → (z.length : Int) ≤ m → (∀ ch ∈ z.cps.toList, ch ∈ letters.cps.toList) → Pur H' p c (T + 10) → Kp p c H H' → Q (.str z) H'
/-- signs put together -/
theorem glued1 : ∀ cs : List Nat, Txt.join (Str.ofString "") (cs.map fun ch => (⟨#[ch]⟩ : Str)) = ⟨cs.toArray⟩ := by
  intro cs
  show Builtin.Str.glued _ _ = _
  rw [StrLaws.glued_eq_join]
  apply TL.ext_tl
  rw [TL.tl_join]
  show TL.joinL [] _ = _
  rw [List.map_map]
  show TL.joinL [] (cs.map fun ch => [ch]) = cs
  induction cs with
  | nil => rfl
  | cons x r ih =>
    cases r with
    | nil => rfl
    | cons y r =>
      show [x] ++ ([] ++ TL.joinL [] ((y :: r).map fun ch => [ch])) = _
      rw [ih]
      rfl
section
variable {P : Program} {w : World} {K : PySem.W.Frag} {mg : Str → Option Value} {base : Heap}
theorem ok_word {f fD fK : Addr} {fd fdD fdK : FuncData} {k : Nat} (F : Fun K "_law_word" "_law_word" sWord f fd) (FD : Fun K "_law_draw" "_law_draw" sDraw fD fdD) (bD : Binds K fdD ["_law_purse_here", "_law_out_of"] []) (gD : mg "_law_draw" = some (.ref fD))
    (FK : Fun K "_law_pick" "_law_pick" sPick fK fdK) (bK : Binds K fdK ["_law_purse_here", "_law_some"] []) (gK : mg "_law_pick" = some (.ref fK)) (ml : mg "len" = none) (mr : mg "range" = none) :
    FnOk P w K mg base CX0 (k + 3) f fd ["_law_purse_here", "_law_most"] spWord := by
  have GD : FnOk P w K mg base CX0 (k + 2) fD fdD ["_law_purse_here", "_law_out_of"] spDraw := ok_draw FD ml
  have GK : FnOk P w K mg base CX0 (k + 2) fK fdK ["_law_purse_here", "_law_some"] (spPick K) := ok_pick FK FD bD gD ml
  refine F.ok scW (fun vs H Q E h => ?_) (fun cdv A outer s H vs Q E hr h => ?_)
  · obtain ⟨p, c, T, x, rfl, _⟩ := h
    rfl
  · obtain ⟨p, c, T, m, rfl, hP, hT, m1, m2, q⟩ := h
    refine ⟨_, pss_cons (ps_set (i := 2) scW.nd rfl (.inl rfl) (pe_op op_add pe_int (pe_call GD hr (by rfl) gD FD.kp bD .nil pass0 (pa_cons (pv 0) (pa_cons (pe_ix ix_list (pe_lst (pa_cons pe_int (pa_cons (pv 1) pa_nil)))
        (pe_call GD hr (by rfl) gD FD.kp bD .nil pass0 (pa_cons (pv 0) (pa_cons pe_int pa_nil))) (fun _ _ => rfl)) pa_nil)))))
      (pss_one (ps_ret (pe_join pe_str (pe_lc (own := [("_law_sign", 3)]) (g := gName 3) (tt := tYes) rfl scW.nd (pi_range1 (by rfl) mr (pa_cons (pv 2) pa_nil))
        (blkOk_by (own := [("_law_sign", 3)]) (N := ["_law_purse_here", "_law_most", "_law_size", "_law_sign"]) (sc := defScope sWord) (by decide +kernel)) (fun _ _ _ _ _ => pg_name (i := 3) scW.nd rfl (Or.inl rfl)) (fun _ _ _ _ _ => pts_nil)
        (fun _ _ _ _ _ => pe_call GK hr (by rfl) gK FK.kp bK .nil pass0 (pa_cons (pv 0) (pa_cons pe_str pa_nil))))))), ?_⟩
    refine ⟨.ref p, rfl, _, rfl, (by show 2 ≤ sizeLine; decide), fun l nl => ?_⟩
    have hP1 := hP.same (same_upd nl (o := .lst [.int 2, .int m]))
    obtain ⟨nlp, nlc⟩ := hP.nep nl
    refine ⟨.ref p, rfl, p, c, T, 2, rfl, hP1, by omega, by decide, by decide, fun H1 r r0 r1 hP2 hK1 => ?_⟩
    have hl1 := hK1 l _ nlp nlc upd_same
    have k1 : Kp p c H H1 := (Kp.of (same_upd nl)).trans hK1
    obtain ⟨n, ha, n1, n2⟩ : ∃ n : Int, atI ([.int 2, .int m] : List V) r = some (.int n) ∧ 2 ≤ n ∧ n ≤ m := by
      have hr' : r = 0 ∨ r = 1 := by omega
      rcases hr' with rfl | rfl
      · exact ⟨2, rfl, by omega, m1⟩
      · exact ⟨m, rfl, m1, Int.le_refl _⟩
    refine ⟨l, _, r, .int n, rfl, rfl, SqL.of hl1, ha, p, c, T + 1, n, rfl, hP2, by omega, by omega, by omega, fun H2 g g0 g1 hP3 hK2 => ?_⟩
    refine ⟨1, g, rfl, rfl, ?_⟩
    refine ⟨⟨_, rfl⟩, _, rfl, 1 + g, rfl, by omega, by omega, fun D nD => ?_⟩
    have k2 : Kp p c H H2 := k1.trans hK2
    obtain ⟨dp, dc⟩ := hP3.nep nD
    have nD0 := k2.free dp dc nD
    refine lc_range (lo := 0) (n := (1 + g).toNat) (fun i H' => ∃ chs : List Nat, chs.length = i ∧ (∀ ch ∈ chs, ch ∈ letters.cps.toList) ∧ H' D = some (.lst ((chs.map fun ch => (⟨#[ch]⟩ : Str)).map V.str)) ∧ Pur H' p c (T + 2 + i) ∧ Kp p c H H')
      ⟨[], rfl, (fun _ h => absurd h List.not_mem_nil), upd_same, hP3.upd dp dc, k2.upd nD0⟩ (fun i H' hi h => ?_) (fun H' h => ?_)
    · obtain ⟨chs, rfl, hc, hD, hPi, hKi⟩ := h
      refine ⟨rfl, .ref p, rfl, p, c, _, _, rfl, hPi, by omega, .inl ⟨letters, rfl, by decide, by decide, fun H3 ch hm hP4 hK4 => ?_⟩⟩
      refine ⟨_, hK4 D _ dp dc hD, ?_, chs ++ [ch], by simp, ?_, ?_, (hP4.le (by omega)).upd dp dc, (hKi.trans hK4).upd nD0⟩
      · rw [List.length_map, List.length_map]
        exact small1000 (by omega)
      · intro x hx
        rcases List.mem_append.mp hx with hx | hx
        · exact hc x hx
        · rw [List.mem_singleton.mp hx]
          exact hm
      · rw [upd_same, List.map_append, List.map_append]
        rfl
    · obtain ⟨chs, hl, hc, hD, hPi, hKi⟩ := h
      refine ⟨_, D, chs.map fun ch => (⟨#[ch]⟩ : Str), rfl, rfl, .inl (SqL.of hD), ?_, ?_⟩
      · have e1 : ((chs.map fun ch => (⟨#[ch]⟩ : Str)).map (·.length)).sum ≤ (chs.map fun ch => (⟨#[ch]⟩ : Str)).length * 1 := sum_le fun z hz => by
          obtain ⟨ch, _, rfl⟩ := List.mem_map.mp hz
          exact Nat.le_refl _
        have e2 : (Str.ofString "").length = 0 := by decide
        rw [e2]
        rw [List.length_map] at e1
        omega
      · rw [glued1]
        have hz : (⟨chs.toArray⟩ : Str).length = chs.length := by simp [Str.length]
        exact q _ _ (by rw [hz]; omega) (by rw [hz]; omega) (by simpa using hc) (hPi.le (by omega)) hKi
end
end Cv
set_option Elab.async false
set_option linter.all false
set_option maxRecDepth 100000
set_option maxHeartbeats 4000000
namespace Cv
open PySem PySem.Spec PyProof.Rows L2
theorem flat_strs (ws : List Str) : (ws.map V.str).all flatV = true := by
  rw [List.all_map]
  exact List.all_eq_true.mpr fun _ _ => rfl
theorem inV_str (z : Str) (ws : List Str) : inV (.str z) (ws.map V.str) = decide (z ∈ ws) := by
  unfold inV
  rw [List.any_map, Bool.eq_iff_iff, List.any_eq_true, decide_eq_true_iff]
  constructor
  · rintro ⟨y, hy, h⟩
    have e : y = z := by
      have h2 : eqV (.str y) (.str z) = true := h
      simpa [eqV] using h2
    rw [← e]
    exact hy
  · intro h
    refine ⟨z, h, ?_⟩
    show eqV (.str z) (.str z) = true
    simp [eqV]
/-- a tuple of two to six short texts -/
def CodesL (H : Hp) (t : Addr) (ws : List Str) : Prop := H t = some (.tup (ws.map V.str)) ∧ ws.length ≤ 8 ∧ ∀ z ∈ ws, z.length ≤ 4
/-- a sort: a name and such a tuple -/
def SortL (H : Hp) (v : V) : Prop := ∃ (a b : Addr) (n : Str) (ws : List Str), v = .ref a ∧ H a = some (.tup [.str n, .ref b]) ∧ CodesL H b ws ∧ n.length ≤ 8
theorem tup_ne {H : Hp} {p c a : Addr} {T : Nat} {xs : List V} (h : Pur H p c T) (e : H a = some (.tup xs)) : a ≠ p ∧ a ≠ c := by
  obtain ⟨cs, k, hp, hc, _⟩ := h
  exact ⟨ne_of e hp (fun z => nomatch z), ne_of e hc (fun z => nomatch z)⟩
theorem SortL.keep {H H' : Hp} {p c : Addr} {T : Nat} {v : V} (h : SortL H v) (hP : Pur H p c T) (k : Kp p c H H') : SortL H' v := by
  obtain ⟨a, b, n, ws, e, ha, ⟨hb, h1, h2⟩, h3⟩ := h
  obtain ⟨a1, a2⟩ := tup_ne hP ha
  obtain ⟨b1, b2⟩ := tup_ne hP hb
  exact ⟨a, b, n, ws, e, k _ _ a1 a2 ha, ⟨k _ _ b1 b2 hb, h1, h2⟩, h3⟩
/-! ### codes -/
abbrev sCodes : Stmt := topS 26
theorem scC : FnScope ["_law_purse_here", "_law_found", "_law_k", "_law_word_here"] ["_law_purse_here"] (defScope sCodes) := ⟨rfl, rfl, rfl, by decide +kernel, rfl, by decide +kernel, by decide +kernel⟩
def spCodes : Sp := fun vs H Q _ => ∃ (p c : Addr) (T : Nat), vs = [.ref p] ∧ Pur H p c T ∧ T ≤ 999990000 ∧
  ∀ H' t ws, H t = none → CodesL H' t ws → Pur H' p c (T + 100) → Kp p c H H' → Q (.ref t) H'
section
variable {P : Program} {w : World} {K : PySem.W.Frag} {mg : Str → Option Value} {base : Heap}
/-- where the draws' defs stand -/
structure Dr (K : PySem.W.Frag) (mg : Str → Option Value) (fD fK fW : Addr) (fdD fdK fdW : FuncData) : Prop where
  FD : Fun K "_law_draw" "_law_draw" sDraw fD fdD
  bD : Binds K fdD ["_law_purse_here", "_law_out_of"] []
  gD : mg "_law_draw" = some (.ref fD)
  FK : Fun K "_law_pick" "_law_pick" sPick fK fdK
  bK : Binds K fdK ["_law_purse_here", "_law_some"] []
  gK : mg "_law_pick" = some (.ref fK)
  FW : Fun K "_law_word" "_law_word" sWord fW fdW
  bW : Binds K fdW ["_law_purse_here", "_law_most"] []
  gW : mg "_law_word" = some (.ref fW)
  ml : mg "len" = none
  mr : mg "range" = none
  mm : mg "max" = none
  mt : mg "tuple" = none
theorem ok_codes {f fD fK fW : Addr} {fd fdD fdK fdW : FuncData} {k : Nat} (F : Fun K "_law_codes" "_law_codes" sCodes f fd) (d : Dr K mg fD fK fW fdD fdK fdW) :
    FnOk P w K mg base CX0 (k + 4) f fd ["_law_purse_here"] spCodes := by
  have GD : FnOk P w K mg base CX0 (k + 3) fD fdD ["_law_purse_here", "_law_out_of"] spDraw := ok_draw d.FD d.ml
  have GW : FnOk P w K mg base CX0 (k + 3) fW fdW ["_law_purse_here", "_law_most"] spWord := ok_word d.FW d.FD d.bD d.gD d.FK d.bK d.gK d.ml d.mr
  refine F.ok scC (fun vs H Q E h => ?_) (fun cdv A outer s H vs Q E hr h => ?_)
  · obtain ⟨p, c, T, rfl, _⟩ := h
    rfl
  · obtain ⟨p, c, T, rfl, hP, hT, q⟩ := h
    refine ⟨_, pss_cons (ps_set (i := 1) scC.nd rfl (.inl rfl) (pe_lst pa_nil))
      (pss_cons (ps_for PassesOwn.never rfl (pi_range1 (by rfl) d.mr (pa_cons (pe_op op_add pe_int (pe_call GD hr (by rfl) d.gD d.FD.kp d.bD .nil pass0 (pa_cons (pv 0) (pa_cons pe_int pa_nil)))) pa_nil)) (pg_name (i := 2) scC.nd rfl (.inl rfl))
        (pss_cons (ps_set (i := 3) scC.nd rfl (.inl rfl) (pe_call GW hr (by rfl) d.gW d.FW.kp d.bW .nil pass0 (pa_cons (pv 0) (pa_cons pe_int pa_nil))))
          (pss_one (ps_if (pt_cmpR op_notIn_seq (pv 3) (pv 1) rfl)
            (pss_one (ps_expr (pe_bm PySem.F.plainAttrs_list PySem.F.slot_list_append PySem.F.type_list_append mt_append (pv 1) (pa_cons (pv 3) pa_nil)))) pss_nil))))
      (pss_one (ps_ret (pe_callTy call_tuple_of (by rfl) d.mt (by decide +kernel) (pa_cons (pe_op op_cat (pv 1)
        (pe_slice sl_list (pe_lst (pa_cons pe_str (pa_cons pe_str pa_nil))) po_none (po_some (pe_callB (call_max2 rfl) (by rfl) d.mm (by decide +kernel)
          (pa_cons pe_int (pa_cons (pe_op op_sub pe_int (pe_callB call_len_seq (by rfl) d.ml PySem.boot_len (pa_cons (pv 1) pa_nil))) pa_nil)))))) pa_nil))))), ?_⟩
    refine ⟨Nat.zero_le _, fun o no => ?_⟩
    obtain ⟨op', oc⟩ := hP.nep no
    have hP1 := hP.same (same_upd no (o := .lst []))
    refine ⟨.ref p, rfl, p, c, T, 5, rfl, hP1, by omega, by decide, by decide, fun H1 r r0 r1 hP2 hK1 => ?_⟩
    have k1 : Kp p c H H1 := (Kp.of (same_upd no)).trans hK1
    have ho1 := hK1 o _ op' oc upd_same
    refine ⟨2, r, rfl, rfl, 2 + r, rfl, by omega, by omega, ?_⟩
    refine for_range (lo := 0) (n := (2 + r).toNat) (fun i σ H' => ∃ y2 y3 ws, σ = [some (.ref p), some (.ref o), y2, y3] ∧ H' o = some (.lst (ws.map V.str)) ∧ ws.length ≤ i ∧ (∀ z ∈ ws, z.length ≤ 4) ∧ Pur H' p c (T + 1 + 10 * i) ∧ Kp p c H H')
      ⟨none, none, [], rfl, ho1, Nat.le_refl _, (fun _ h => absurd h List.not_mem_nil), hP2, k1⟩ (fun i σ H' hi h => ?_) (fun σ H' h => ?_)
    · obtain ⟨y2, y3, ws, rfl, ho, hw, hl, hPi, hKi⟩ := h
      refine ⟨.ref p, rfl, p, c, _, 4, rfl, hPi, by omega, by decide, by decide, fun H2 z z1 z2 _ hP3 hK2 => ?_⟩
      have ho2 := hK2 o _ op' oc ho
      refine ⟨.str z, rfl, .ref o, rfl, o, _, rfl, .inl (SqL.of ho2), rfl, flat_strs ws, _, rfl, ite2 (fun e => ?_) (fun e => ?_)⟩
      · refine ⟨.ref o, rfl, .inl ⟨rfl, _, SqL.of ho2⟩, .str z, rfl, o, _, _, rfl, rfl, ho2, ?_, ?_⟩
        · rw [List.length_map]
          exact small1000 (by omega)
        · refine ⟨_, _, ws ++ [z], rfl, ?_, ?_, ?_, (hP3.le (by omega)).upd op' oc, (hKi.trans hK2).upd no⟩
          · rw [upd_same, List.map_append]
            rfl
          · rw [List.length_append]
            show ws.length + 1 ≤ i + 1
            omega
          · intro y hy
            rcases List.mem_append.mp hy with hy | hy
            · exact hl y hy
            · rw [List.mem_singleton.mp hy]
              omega
      · exact ⟨_, _, ws, rfl, ho2, by omega, hl, hP3.le (by omega), hKi.trans hK2⟩
    · obtain ⟨y2, y3, ws, rfl, ho, hw, hl, hPi, hKi⟩ := h
      refine ⟨.ref o, rfl, (by show 2 ≤ sizeLine; decide), fun l nl => ?_⟩
      have ho1 := (same_upd nl (o := .lst [.str "zz", .str "z"])) _ _ ho
      refine ⟨.ref o, rfl, o, _, rfl, .inl (SqL.of ho1), 2, _, rfl, rfl, 0, _, rfl, _, rfl, l, _, rfl, SqL.of upd_same, fun r nr => ?_⟩
      have hcut : ∃ us : List Str, cutV [V.str "zz", V.str "z"] none (some (if 2 - ((ws.map V.str).length : Int) > 0 then 2 - ((ws.map V.str).length : Int) else 0)) = us.map V.str ∧ us.length ≤ 2 ∧ ∀ z ∈ us, z.length ≤ 4 := by
        have e0 : ([V.str "zz", V.str "z"] : List V) = ([("zz" : Str), "z"] : List Str).map V.str := rfl
        unfold cutV
        rw [e0, ← List.map_drop, ← List.map_take]
        refine ⟨_, rfl, ?_, fun z hz => ?_⟩
        · rw [List.length_take, List.length_drop]
          exact Nat.le_trans (Nat.min_le_right _ _) (Nat.sub_le _ _)
        · have h1 : z ∈ ([("zz" : Str), "z"] : List Str) := List.mem_of_mem_drop (List.mem_of_mem_take hz)
          rcases List.mem_cons.mp h1 with rfl | h1
          · decide
          · rw [List.mem_singleton.mp h1]
            decide
      obtain ⟨us, eu, u1, u2⟩ := hcut
      have ho2 := (same_upd nr (o := .lst (cutV [V.str "zz", V.str "z"] none (some (if 2 - ((ws.map V.str).length : Int) > 0 then 2 - ((ws.map V.str).length : Int) else 0))))) _ _ ho1
      refine ⟨o, r, _, us.map V.str, rfl, rfl, ho2, by rw [upd_same, eu], ?_, fun v nv => ?_⟩
      · rw [List.length_map, List.length_map]
        exact Nat.le_of_lt (small1000 (by omega))
      · refine ⟨v, _, rfl, .inl ⟨SqL.of upd_same, fun t nt => ?_⟩⟩
        have s4 := ((same_upd nl (o := .lst [.str "zz", .str "z"])).trans (same_upd nr (o := .lst (cutV [V.str "zz", V.str "z"] none (some (if 2 - ((ws.map V.str).length : Int) > 0 then 2 - ((ws.map V.str).length : Int) else 0)))))).trans (same_upd nv (o := .lst (ws.map V.str ++ us.map V.str)))
        have hP4 := hPi.same (s4.trans (same_upd nt (o := .tup (ws.map V.str ++ us.map V.str))))
        have hK4 := hKi.trans (Kp.of (s4.trans (same_upd nt (o := .tup (ws.map V.str ++ us.map V.str)))))
        obtain ⟨t1, t2⟩ := (hPi.same s4).nep nt
        refine q _ t (ws ++ us) ((hKi.trans (Kp.of s4)).free t1 t2 nt) ⟨?_, ?_, ?_⟩ (hP4.le (by omega)) hK4
        · rw [upd_same, List.map_append]
        · rw [List.length_append]
          omega
        · intro y hy
          rcases List.mem_append.mp hy with hy | hy
          · exact hl y hy
          · exact u2 y hy
end
end Cv
set_option Elab.async false
set_option linter.all false
set_option maxRecDepth 100000
set_option maxHeartbeats 4000000
namespace Cv
open PySem PySem.Spec PyProof.Rows L2
theorem SortL.same {H H' : Hp} {v : V} (h : SortL H v) (k : Same H H') : SortL H' v := by
  obtain ⟨a, b, n, ws, e, ha, ⟨hb, h1, h2⟩, h3⟩ := h
  exact ⟨a, b, n, ws, e, k _ _ ha, ⟨k _ _ hb, h1, h2⟩, h3⟩
/-! ### plan -/
abbrev sPlan : Stmt := topS 27
abbrev nPlan : List Str := ["_law_purse_here", "_law_least", "_law_found", "_law_k", "_law_name", "_law_other", "_law_codes_here"]
theorem scN : FnScope nPlan ["_law_purse_here", "_law_least"] (defScope sPlan) := ⟨rfl, rfl, rfl, by decide +kernel, rfl, by decide +kernel, by decide +kernel⟩
def spPlan : Sp := fun vs H Q _ => ∃ (p c : Addr) (T : Nat), vs = [.ref p, .int 1] ∧ Pur H p c T ∧ T ≤ 999900000 ∧
  ∀ H' t xs, H t = none → H' t = some (.tup xs) → 1 ≤ xs.length → xs.length ≤ 4 → (∀ v ∈ xs, SortL H' v) → Pur H' p c (T + 1000) → Kp p c H H' → Q (.ref t) H'
section
variable {P : Program} {w : World} {K : PySem.W.Frag} {mg : Str → Option Value} {base : Heap}
theorem ok_plan {f fD fK fW fC : Addr} {fd fdD fdK fdW fdC : FuncData} {k : Nat} (F : Fun K "_law_plan" "_law_plan" sPlan f fd) (d : Dr K mg fD fK fW fdD fdK fdW) (FC : Fun K "_law_codes" "_law_codes" sCodes fC fdC) (bC : Binds K fdC ["_law_purse_here"] []) (gC : mg "_law_codes" = some (.ref fC)) :
    FnOk P w K mg base CX0 (k + 5) f fd ["_law_purse_here", "_law_least"] spPlan := by
  have GD : FnOk P w K mg base CX0 (k + 4) fD fdD ["_law_purse_here", "_law_out_of"] spDraw := ok_draw d.FD d.ml
  have GW : FnOk P w K mg base CX0 (k + 4) fW fdW ["_law_purse_here", "_law_most"] spWord := ok_word d.FW d.FD d.bD d.gD d.FK d.bK d.gK d.ml d.mr
  have GC : FnOk P w K mg base CX0 (k + 4) fC fdC ["_law_purse_here"] spCodes := ok_codes FC d
  refine F.ok scN (fun vs H Q E h => ?_) (fun cdv A outer s H vs Q E hr h => ?_)
  · obtain ⟨p, c, T, rfl, _⟩ := h
    rfl
  · obtain ⟨p, c, T, rfl, hP, hT, q⟩ := h
    refine ⟨_, pss_cons (ps_set (i := 2) scN.nd rfl (.inl rfl) (pe_lst pa_nil))
      (pss_cons (ps_for PassesOwn.never rfl (pi_range1 (by rfl) d.mr (pa_cons (pe_op op_add (pv 1) (pe_call GD hr (by rfl) d.gD d.FD.kp d.bD .nil pass0 (pa_cons (pv 0) (pa_cons (pe_op op_sub pe_int (pv 1)) pa_nil)))) pa_nil)) (pg_name (i := 3) scN.nd rfl (.inl rfl))
        (pss_cons (ps_set (i := 4) scN.nd rfl (.inl rfl) (pe_call GW hr (by rfl) d.gW d.FW.kp d.bW .nil pass0 (pa_cons (pv 0) (pa_cons pe_int pa_nil))))
        (pss_cons (ps_if (pt_cmpR op_in_seq (pv 4) (pe_lc (own := [("_law_other", 5), ("_law_codes_here", 6)]) (g := gTup K 2 (gCons (gName 5) (gCons (gName 6) gNil))) (tt := tYes) rfl scN.nd (pi_list (pv 2))
            (blkOk_by (own := [("_law_other", 5), ("_law_codes_here", 6)]) (N := nPlan) (sc := defScope sPlan) (by decide +kernel)) (fun _ _ _ _ _ => pg_tup rfl (pgs_cons (pg_name (i := 5) scN.nd rfl (Or.inl rfl)) (pgs_cons (pg_name (i := 6) scN.nd rfl (Or.inl rfl)) pgs_nil)))
            (fun _ _ _ _ _ => pts_nil) (fun _ _ _ _ _ => pv 5)) rfl)
          (pss_one (ps_set (i := 4) scN.nd rfl (.inl rfl) (pe_ix ix_list (pe_lst (pa_cons pe_str (pa_cons pe_str (pa_cons pe_str (pa_cons pe_str pa_nil))))) (pv 3) (fun _ _ => rfl)))) pss_nil)
        (pss_one (ps_expr (pe_bm PySem.F.plainAttrs_list PySem.F.slot_list_append PySem.F.type_list_append mt_append (pv 2) (pa_cons (pe_tup (pa_cons (pv 4) (pa_cons (pe_call GC hr (by rfl) gC FC.kp bC .nil pass0 (pa_cons (pv 0) pa_nil)) pa_nil))) pa_nil)))))))
      (pss_one (ps_ret (pe_callTy call_tuple_of (by rfl) d.mt (by decide +kernel) (pa_cons (pv 2) pa_nil))))), ?_⟩
    refine ⟨Nat.zero_le _, fun o no => ?_⟩
    obtain ⟨op', oc⟩ := hP.nep no
    have hP1 := hP.same (same_upd no (o := .lst []))
    refine ⟨.int 1, rfl, .ref p, rfl, .int 1, rfl, 5, 1, rfl, rfl, p, c, T, 4, rfl, hP1, by omega, by decide, by decide, fun H1 r r0 r1 hP2 hK1 => ?_⟩
    have k1 : Kp p c H H1 := (Kp.of (same_upd no)).trans hK1
    have ho1 := hK1 o _ op' oc upd_same
    refine ⟨1, r, rfl, rfl, 1 + r, rfl, by omega, by omega, ?_⟩
    refine for_range (lo := 0) (n := (1 + r).toNat) (fun i σ H' => ∃ y3 y4 y5 y6 xs, σ = [some (.ref p), some (.int 1), some (.ref o), y3, y4, y5, y6] ∧ H' o = some (.lst xs) ∧ xs.length = i ∧ (∀ v ∈ xs, SortL H' v) ∧ Pur H' p c (T + 1 + 110 * i) ∧ Kp p c H H')
      ⟨none, none, none, none, [], rfl, ho1, rfl, (fun _ h => absurd h List.not_mem_nil), hP2, k1⟩ (fun i σ H' hi h => ?_) (fun σ H' h => ?_)
    · obtain ⟨y3, y4, y5, y6, xs, rfl, ho, hw, hl, hPi, hKi⟩ := h
      refine ⟨.ref p, rfl, p, c, _, 8, rfl, hPi, by omega, by decide, by decide, fun H2 z z1 z2 _ hP3 hK2 => ?_⟩
      have ho2 := hK2 o _ op' oc ho
      have hl2 : ∀ v ∈ xs, SortL H2 v := fun v hv => (hl v hv).keep hPi hK2
      refine ⟨.str z, rfl, .ref o, rfl, o, rfl, ⟨_, SqL.of ho2⟩, fun D nD => ?_⟩
      have nDo : o ≠ D := ne_of_none ho2 nD
      refine lc_list (K := K) (a := o) (xs := xs) (fun j H3 => ∃ ns : List Str, Same H2 H3 ∧ H3 D = some (.lst (ns.map V.str)) ∧ ns.length = j) ⟨[], same_upd nD, upd_same, rfl⟩ (fun j H3 _ h => ?_) (fun j x H3 hx h => ?_) (fun H3 h => ?_)
      · obtain ⟨ns, h1, h2, h3⟩ := h
        exact SqL.of (h1 _ _ ho2)
      · obtain ⟨ns, h1, h2, h3⟩ := h
        obtain ⟨a, b, n, ws, rfl, ha, hb, hn⟩ := hl2 x (List.mem_of_getElem? hx)
        have hj : j < xs.length := (List.getElem?_eq_some_iff.mp hx).1
        refine ⟨a, _, rfl, SqT.of (h1 _ _ ha), rfl, _, _, rfl, _, _, rfl, rfl, rfl, .str n, rfl, _, h2, ?_, ns ++ [n], ?_, ?_, ?_⟩
        · rw [List.length_map]
          exact small1000 (by omega)
        · intro b' o' e
          rw [upd_ne (ne_of_none e nD)]
          exact h1 _ _ e
        · rw [upd_same, List.map_append]
          rfl
        · rw [List.length_append]
          show ns.length + 1 = j + 1
          omega
      · obtain ⟨ns, h1, h2, h3⟩ := h
        refine ⟨D, _, rfl, .inl (SqL.of h2), rfl, flat_strs ns, _, rfl, ?_⟩
        refine ite2 (fun e => ?_) (fun e => ?_)
        · refine ⟨(by show 4 ≤ sizeLine; decide), fun l nl => ?_⟩
          obtain ⟨zn, hat, hzn⟩ : ∃ zn : Str, atI [V.str "za", V.str "zb", V.str "zc", V.str "zd"] (0 + (i : Nat) : Int) = some (.str zn) ∧ zn.length ≤ 8 := by
            have hi4 : i < 4 := by omega
            match i, hi4 with
            | 0, _ => exact ⟨"za", rfl, by decide⟩
            | 1, _ => exact ⟨"zb", rfl, by decide⟩
            | 2, _ => exact ⟨"zc", rfl, by decide⟩
            | 3, _ => exact ⟨"zd", rfl, by decide⟩
          refine ⟨_, rfl, l, _, _, .str zn, rfl, rfl, SqL.of upd_same, hat, ?_⟩
          have s24 : Same H2 _ := h1.trans (same_upd nl (o := .lst [V.str "za", V.str "zb", V.str "zc", V.str "zd"]))
          have hP4 := hP3.same s24
          have ho4 := s24 _ _ ho2
          refine ⟨.ref o, rfl, .inl ⟨rfl, _, SqL.of ho4⟩, .str zn, rfl, .ref p, rfl, p, c, _, rfl, hP4, by omega, fun H5 t ws nt hC hP5 hK5 => ?_⟩
          refine ⟨(by show 2 ≤ sizeLine; decide), fun u nu => ?_⟩
          have ho5 := hK5 o _ op' oc ho4
          have s56 : Same H5 (upd H5 u (.tup [.str zn, .ref t])) := same_upd nu
          have nuo : o ≠ u := ne_of_none ho5 nu
          refine ⟨o, _, _, rfl, rfl, s56 _ _ ho5, ?_, ?_⟩
          · exact small1000 (by omega)
          · have k5 : Kp p c H H5 := (hKi.trans hK2).trans ((Kp.of s24).trans hK5)
            obtain ⟨u1, u2⟩ := hP5.nep nu
            have P6 : Pur (upd H5 u (.tup [.str zn, .ref t])) p c (T + 1 + 110 * (i + 1)) := (hP5.same s56).le (by omega)
            have keepS : ∀ {v : V} {H9 : Hp} {xs' : List V}, H9 o = some (.lst xs) → SortL H9 v → SortL (upd H9 o (.lst xs')) v := fun {v H9 xs'} e9 h => by
              obtain ⟨a, b, n, ws', e, ha, ⟨hb, h1', h2'⟩, h3'⟩ := h
              exact ⟨a, b, n, ws', e, by rw [upd_ne (ne_of ha e9 (fun z => nomatch z))]; exact ha, ⟨by rw [upd_ne (ne_of hb e9 (fun z => nomatch z))]; exact hb, h1', h2'⟩, h3'⟩
            refine ⟨_, _, _, _, xs ++ [.ref u], rfl, upd_same, ?_, ?_, P6.upd op' oc, (k5.trans (Kp.of s56)).upd no⟩
            · rw [List.length_append]
              show xs.length + 1 = i + 1
              omega
            · intro v hv
              refine keepS (s56 _ _ ho5) ?_
              rcases List.mem_append.mp hv with hv | hv
              · exact ((((hl2 v hv).same s24).keep hP4 hK5).same s56)
              · rw [List.mem_singleton.mp hv]
                exact ⟨u, t, zn, ws, rfl, upd_same, ⟨s56 _ _ hC.1, hC.2.1, hC.2.2⟩, hzn⟩
        · have s24 : Same H2 _ := h1
          have hP4 := hP3.same s24
          have ho4 := s24 _ _ ho2
          refine ⟨.ref o, rfl, .inl ⟨rfl, _, SqL.of ho4⟩, .str z, rfl, .ref p, rfl, p, c, _, rfl, hP4, by omega, fun H5 t ws nt hC hP5 hK5 => ?_⟩
          refine ⟨(by show 2 ≤ sizeLine; decide), fun u nu => ?_⟩
          have ho5 := hK5 o _ op' oc ho4
          have s56 : Same H5 (upd H5 u (.tup [.str z, .ref t])) := same_upd nu
          have nuo : o ≠ u := ne_of_none ho5 nu
          refine ⟨o, _, _, rfl, rfl, s56 _ _ ho5, ?_, ?_⟩
          · exact small1000 (by omega)
          · have k5 : Kp p c H H5 := (hKi.trans hK2).trans ((Kp.of s24).trans hK5)
            obtain ⟨u1, u2⟩ := hP5.nep nu
            have P6 : Pur (upd H5 u (.tup [.str z, .ref t])) p c (T + 1 + 110 * (i + 1)) := (hP5.same s56).le (by omega)
            have keepS : ∀ {v : V} {H9 : Hp} {xs' : List V}, H9 o = some (.lst xs) → SortL H9 v → SortL (upd H9 o (.lst xs')) v := fun {v H9 xs'} e9 h => by
              obtain ⟨a, b, n, ws', e, ha, ⟨hb, h1', h2'⟩, h3'⟩ := h
              exact ⟨a, b, n, ws', e, by rw [upd_ne (ne_of ha e9 (fun z => nomatch z))]; exact ha, ⟨by rw [upd_ne (ne_of hb e9 (fun z => nomatch z))]; exact hb, h1', h2'⟩, h3'⟩
            refine ⟨_, _, _, _, xs ++ [.ref u], rfl, upd_same, ?_, ?_, P6.upd op' oc, (k5.trans (Kp.of s56)).upd no⟩
            · rw [List.length_append]
              show xs.length + 1 = i + 1
              omega
            · intro v hv
              refine keepS (s56 _ _ ho5) ?_
              rcases List.mem_append.mp hv with hv | hv
              · exact ((((hl2 v hv).same s24).keep hP4 hK5).same s56)
              · rw [List.mem_singleton.mp hv]
                exact ⟨u, t, z, ws, rfl, upd_same, ⟨s56 _ _ hC.1, hC.2.1, hC.2.2⟩, by omega⟩
    · obtain ⟨y3, y4, y5, y6, xs, rfl, ho, hw, hl, hPi, hKi⟩ := h
      refine ⟨.ref o, rfl, o, _, rfl, .inl ⟨SqL.of ho, fun t nt => ?_⟩⟩
      obtain ⟨t1, t2⟩ := hPi.nep nt
      exact q _ t xs (hKi.free t1 t2 nt) upd_same (by omega) (by omega) (fun v hv => (hl v hv).same (same_upd nt)) ((hPi.same (same_upd nt)).le (by omega)) (hKi.trans (Kp.of (same_upd nt)))
end
end Cv
set_option Elab.async false
set_option linter.all false
set_option maxRecDepth 100000
set_option maxHeartbeats 4000000
namespace Cv
open PySem PySem.Spec PyProof.Rows L2
theorem line_eq : sizeLine = 16777216 := sizeLine_eq
/-! ### a plan's line -/
abbrev sPline : Stmt := topS 28
theorem scPl : FnScope ["_law_sort_here"] ["_law_sort_here"] (defScope sPline) := ⟨rfl, rfl, rfl, by decide +kernel, rfl, by decide +kernel, by decide +kernel⟩
def spPline : Sp := fun vs H Q _ => ∃ v : V, vs = [v] ∧ SortL H v ∧ ∀ z : Str, z.length ≤ 60 → Q (.str z) H
section
variable {P : Program} {w : World} {K : PySem.W.Frag} {mg : Str → Option Value} {base : Heap}
theorem ok_pline {f : Addr} {fd : FuncData} {k : Nat} (F : Fun K "_law_plan_line" "_law_plan_line" sPline f fd) : FnOk P w K mg base CX0 (k + 1) f fd ["_law_sort_here"] spPline := by
  refine F.ok scPl (fun vs H Q E h => ?_) (fun cdv A outer s H vs Q E hr h => ?_)
  · obtain ⟨v, rfl, _⟩ := h
    rfl
  · obtain ⟨v, rfl, ⟨a, b, n, ws, rfl, ha, ⟨hb, h1, h2⟩, h3⟩, q⟩ := h
    refine ⟨_, pss_one (ps_ret (pe_op op_add_str (pe_op op_add_str (pe_ix ix_tup (pv 0) pe_int (fun _ _ => rfl)) pe_str) (pe_join pe_str (pe_ix ix_tup (pv 0) pe_int (fun _ _ => rfl))))), ?_⟩
    have l1 : (ws.map (·.length)).sum ≤ ws.length * 4 := sum_le h2
    have e2 : (Str.ofString ": ").length = 2 := by decide
    have e1 : (Str.ofString " ").length = 1 := by decide
    have l2 := glen (Str.ofString " ") ws
    rw [e1] at l2
    have hs := line_eq
    refine ⟨.ref a, rfl, a, _, 0, .str n, rfl, rfl, SqT.of ha, rfl, n, _, rfl, rfl, ?_, ?_⟩
    · rw [e2]
      omega
    · refine ⟨⟨_, rfl⟩, .ref a, rfl, a, _, 1, .ref b, rfl, rfl, SqT.of ha, rfl, _, b, ws, rfl, rfl, .inr (SqT.of hb), ?_, _, _, rfl, rfl, ?_, ?_⟩
      · rw [e1]
        omega
      · rw [Str.length_append, e2]
        omega
      · refine q _ ?_
        rw [Str.length_append, Str.length_append, e2]
        omega
end
/-! ### a bent text -/
abbrev sBent : Stmt := topS 29
abbrev nBent : List Str := ["_law_purse_here", "_law_line", "_law_signs", "_law_words", "_law_at", "_law_other", "_law_sign", "_law_word_here", "_law_way"]
theorem scB : FnScope nBent ["_law_purse_here", "_law_line", "_law_signs", "_law_words"] (defScope sBent) := ⟨rfl, rfl, rfl, by decide +kernel, rfl, by decide +kernel, by decide +kernel⟩
def spBent (K : PySem.W.Frag) : Sp := fun vs H Q _ => ∃ (p c l : Addr) (T : Nat) (z g : Str) (ws : List Str), vs = [.ref p, .str z, .str g, .ref l] ∧ Pur H p c T ∧ T ≤ 999900000 ∧ z.length ≤ 100000 ∧ 0 < g.length ∧ g.length ≤ 1000 ∧
  l ≠ p ∧ l ≠ c ∧ SqL K H l (ws.map V.str) ∧ 0 < ws.length ∧ ws.length ≤ 1000 ∧ (∀ x ∈ ws, x.length ≤ 20) ∧
  ∀ H' z', z'.length ≤ 3 * z.length + 20 → Pur H' p c (T + 5) → Kp p c H H' → Q (.str z') H'
section
variable {P : Program} {w : World} {K : PySem.W.Frag} {mg : Str → Option Value} {base : Heap}
theorem ok_bent {f fD fK fW : Addr} {fd fdD fdK fdW : FuncData} {k : Nat} (F : Fun K "_law_bent" "_law_bent" sBent f fd) (d : Dr K mg fD fK fW fdD fdK fdW) (mi : mg "min" = none) :
    FnOk P w K mg base CX0 (k + 3) f fd ["_law_purse_here", "_law_line", "_law_signs", "_law_words"] (spBent K) := by
  have GD : FnOk P w K mg base CX0 (k + 2) fD fdD ["_law_purse_here", "_law_out_of"] spDraw := ok_draw d.FD d.ml
  have GK : FnOk P w K mg base CX0 (k + 2) fK fdK ["_law_purse_here", "_law_some"] (spPick K) := ok_pick d.FK d.FD d.bD d.gD d.ml
  refine F.ok scB (fun vs H Q E h => ?_) (fun cdv A outer s H vs Q E hr h => ?_)
  · obtain ⟨p, c, l, T, z, g, ws, rfl, _⟩ := h
    rfl
  · obtain ⟨p, c, l, T, z, g, ws, rfl, hP, hT, hz, g0, g1, lp, lc, hl, w0, w1, hw, q⟩ := h
    have hs := line_eq
    have DR := fun (t : Unit) => t
    refine ⟨_, pss_cons (ps_set (i := 4) scB.nd rfl (.inl rfl) (pe_call GD hr (by rfl) d.gD d.FD.kp d.bD .nil pass0 (pa_cons (pv 0) (pa_cons (pe_op op_add (pe_callB call_len_str (by rfl) d.ml PySem.boot_len (pa_cons (pv 1) pa_nil)) pe_int) pa_nil))))
      (pss_cons (ps_set (i := 5) scB.nd rfl (.inl rfl) (pe_call GD hr (by rfl) d.gD d.FD.kp d.bD .nil pass0 (pa_cons (pv 0) (pa_cons (pe_op op_add (pe_callB call_len_str (by rfl) d.ml PySem.boot_len (pa_cons (pv 1) pa_nil)) pe_int) pa_nil))))
      (pss_cons (ps_set (i := 6) scB.nd rfl (.inl rfl) (pe_call GK hr (by rfl) d.gK d.FK.kp d.bK .nil pass0 (pa_cons (pv 0) (pa_cons (pv 2) pa_nil))))
      (pss_cons (ps_set (i := 7) scB.nd rfl (.inl rfl) (pe_call GK hr (by rfl) d.gK d.FK.kp d.bK .nil pass0 (pa_cons (pv 0) (pa_cons (pv 3) pa_nil))))
      (pss_cons (ps_set (i := 8) scB.nd rfl (.inl rfl) (pe_call GD hr (by rfl) d.gD d.FD.kp d.bD .nil pass0 (pa_cons (pv 0) (pa_cons pe_int pa_nil))))
      (pss_cons (ps_if (pt_cmpR op_eq (pv 8) pe_int (nomark _)) (pss_one (ps_ret (pe_op op_add_str (pe_op op_add_str (pe_slice sl_str (pv 1) po_none (po_some (pv 4))) (pv 6)) (pe_slice sl_str (pv 1) (po_some (pv 4)) po_none)))) pss_nil)
      (pss_cons (ps_if (pt_cmpR op_eq (pv 8) pe_int (nomark _)) (pss_one (ps_ret (pe_op op_add_str (pe_op op_add_str (pe_slice sl_str (pv 1) po_none (po_some (pv 4))) (pv 6)) (pe_slice sl_str (pv 1) (po_some (pe_op op_add (pv 4) pe_int)) po_none)))) pss_nil)
      (pss_cons (ps_if (pt_cmpR op_eq (pv 8) pe_int (nomark _)) (pss_one (ps_ret (pe_op op_add_str (pe_slice sl_str (pv 1) po_none (po_some (pv 4))) (pe_slice sl_str (pv 1) (po_some (pe_op op_add (pv 4) pe_int)) po_none)))) pss_nil)
      (pss_cons (ps_if (pt_cmpR op_eq (pv 8) pe_int (nomark _)) (pss_one (ps_ret (pe_op op_add_str (pe_op op_add_str (pe_slice sl_str (pv 1) po_none (po_some (pv 4))) (pe_slice sl_str (pv 1) (po_some (pv 4)) (po_some (pe_op op_add (pv 4) pe_int)))) (pe_slice sl_str (pv 1) (po_some (pv 4)) po_none)))) pss_nil)
      (pss_cons (ps_if (pt_cmpR op_eq (pv 8) pe_int (nomark _)) (pss_one (ps_ret (pe_op op_add_str (pe_slice sl_str (pv 1) po_none (po_some (pe_callB (call_min2 rfl) (by rfl) mi (by decide +kernel) (pa_cons (pv 4) (pa_cons (pv 5) pa_nil))))) (pe_slice sl_str (pv 1) (po_some (pe_callB (call_max2 rfl) (by rfl) d.mm (by decide +kernel) (pa_cons (pv 4) (pa_cons (pv 5) pa_nil)))) po_none)))) pss_nil)
      (pss_cons (ps_if (pt_cmpR op_eq (pv 8) pe_int (nomark _)) (pss_one (ps_ret (pe_slice sl_str (pv 1) po_none (po_some (pv 4))))) pss_nil)
      (pss_cons (ps_if (pt_cmpR op_eq (pv 8) pe_int (nomark _)) (pss_one (ps_ret (pe_op op_add_str (pe_op op_add_str (pe_slice sl_str (pv 1) po_none (po_some (pv 4))) (pv 7)) (pe_slice sl_str (pv 1) (po_some (pv 4)) po_none)))) pss_nil)
      (pss_cons (ps_if (pt_cmpR op_eq (pv 8) pe_int (nomark _)) (pss_one (ps_ret (pe_op op_add_str (pv 1) (pv 7)))) pss_nil)
      (pss_one (ps_ret (pe_op op_add_str (pv 1) (pv 6)))))))))))))))), ?_⟩
    have hz' : z.length ≤ sizeLine := by omega
    refine ⟨.ref p, rfl, .str z, rfl, z, rfl, hz', _, _, rfl, rfl, p, c, T, _, rfl, hP, by omega, by omega, by omega, fun H1 a a0 a1 hP1 k1 => ?_⟩
    refine ⟨.ref p, rfl, .str z, rfl, z, rfl, hz', _, _, rfl, rfl, p, c, _, _, rfl, hP1, by omega, by omega, by omega, fun H2 b b0 b1 hP2 k2 => ?_⟩
    refine ⟨.ref p, rfl, .str g, rfl, p, c, _, _, rfl, hP2, by omega, .inl ⟨g, rfl, g0, g1, fun H3 ch _ hP3 k3 => ?_⟩⟩
    have k13 := (k1.trans k2).trans k3
    refine ⟨.ref p, rfl, .ref l, rfl, p, c, _, _, rfl, hP3, by omega, .inr ⟨l, _, rfl, lp, lc, k13.seq lp lc hl, by rw [List.length_map]; exact w0, by rw [List.length_map]; exact w1, fun H4 v hv hP4 k4 => ?_⟩⟩
    obtain ⟨x, hx, rfl⟩ := List.mem_map.mp hv
    have hx20 := hw x hx
    have hch : (⟨#[ch]⟩ : Str).length = 1 := rfl
    refine ⟨.ref p, rfl, p, c, _, 9, rfl, hP4, by omega, by decide, by decide, fun H5 y y0 y1 hP5 k5 => ?_⟩
    have kq : Kp p c H H5 := (k13.trans k4).trans k5
    have fin : ∀ z' : Str, z'.length ≤ 3 * z.length + 20 → Q (.str z') H5 := fun z' h => q H5 z' h (hP5.le (by omega)) kq
    have cl : ∀ lo hi, (cutS z lo hi).length ≤ z.length := cutS_length z
    have L := @Str.length_append
    generalize (⟨#[ch]⟩ : Str) = sg at hch
    refine ⟨_, rfl, rfl, _, rfl, ite2 (fun _ => ?_) (fun _ => ?_)⟩
    · have c1 := cl none (some a)
      have c2 := cl (some a) none
      refine ⟨.str z, rfl, _, rfl, _, rfl, z, rfl, hz', .str sg, rfl, _, _, rfl, rfl, by omega, .str z, rfl, _, rfl, _, rfl, z, rfl, hz', _, _, rfl, rfl, ?_, fin _ ?_⟩
      · rw [L]; omega
      · rw [L, L]; omega
    refine ⟨_, rfl, rfl, _, rfl, ite2 (fun _ => ?_) (fun _ => ?_)⟩
    · have c0 := cl none (some a)
      have c1 := cl (some (a + 1)) none
      refine ⟨.str z, rfl, _, rfl, _, rfl, z, rfl, hz', .str sg, rfl, _, _, rfl, rfl, by omega, .str z, rfl, _, rfl, _, _, rfl, rfl, _, rfl, z, rfl, hz', _, _, rfl, rfl, ?_, fin _ ?_⟩
      · rw [L]; omega
      · rw [L, L]; omega
    refine ⟨_, rfl, rfl, _, rfl, ite2 (fun _ => ?_) (fun _ => ?_)⟩
    · have c0 := cl none (some a)
      have c1 := cl (some (a + 1)) none
      refine ⟨.str z, rfl, _, rfl, _, rfl, z, rfl, hz', .str z, rfl, _, rfl, _, _, rfl, rfl, _, rfl, z, rfl, hz', _, _, rfl, rfl, by omega, fin _ ?_⟩
      rw [L]; omega
    refine ⟨_, rfl, rfl, _, rfl, ite2 (fun _ => ?_) (fun _ => ?_)⟩
    · have c0 := cl none (some a)
      have c1 := cl (some a) (some (a + 1))
      have c2 := cl (some a) none
      refine ⟨.str z, rfl, _, rfl, _, rfl, z, rfl, hz', .str z, rfl, _, rfl, _, rfl, _, rfl, _, _, rfl, rfl, _, rfl, z, rfl, hz', _, _, rfl, rfl, by omega, .str z, rfl, _, rfl, _, rfl, z, rfl, hz', _, _, rfl, rfl, ?_, fin _ ?_⟩
      · rw [L]; omega
      · rw [L, L]; omega
    refine ⟨_, rfl, rfl, _, rfl, ite2 (fun _ => ?_) (fun _ => ?_)⟩
    · have c0 := cl none (some (if b < a then b else a))
      have c1 := cl (some (if b > a then b else a)) none
      refine ⟨.str z, rfl, _, rfl, _, rfl, _, _, rfl, _, rfl, z, rfl, hz', .str z, rfl, _, rfl, _, rfl, _, _, rfl, _, rfl, z, rfl, hz', _, _, rfl, rfl, by omega, fin _ ?_⟩
      rw [L]; omega
    refine ⟨_, rfl, rfl, _, rfl, ite2 (fun _ => ?_) (fun _ => ?_)⟩
    · have c0 := cl none (some a)
      exact ⟨.str z, rfl, _, rfl, _, rfl, z, rfl, hz', fin _ (by omega)⟩
    refine ⟨_, rfl, rfl, _, rfl, ite2 (fun _ => ?_) (fun _ => ?_)⟩
    · have c0 := cl none (some a)
      have c1 := cl (some a) none
      refine ⟨.str z, rfl, _, rfl, _, rfl, z, rfl, hz', .str x, rfl, _, _, rfl, rfl, by omega, .str z, rfl, _, rfl, _, rfl, z, rfl, hz', _, _, rfl, rfl, ?_, fin _ ?_⟩
      · rw [L]; omega
      · rw [L, L]; omega
    refine ⟨_, rfl, rfl, _, rfl, ite2 (fun _ => ?_) (fun _ => ?_)⟩
    · refine ⟨.str z, rfl, .str x, rfl, _, _, rfl, rfl, by omega, fin _ ?_⟩
      rw [L]; omega
    refine ⟨.str z, rfl, .str sg, rfl, _, _, rfl, rfl, by omega, fin _ ?_⟩
    rw [L]; omega
end
end Cv
set_option Elab.async false
set_option linter.all false
set_option maxRecDepth 100000
set_option maxHeartbeats 4000000
namespace Cv
open PySem PySem.Spec PyProof.Rows L2
/-! ### texts as lists of signs: the beginning of lines -/
def S (z : Str) (a b : Nat) : Str := cutS z (some (a : Int)) (some (b : Int))
theorem S_tl (z : Str) (a b : Nat) : (S z a b).cps.toList = (z.cps.toList.drop (min a z.length)).take (min b z.length - min a z.length) := by
  show ((z.cps.toList.drop (HT.sIx z.length 0 (some (a : Int)))).take (HT.sIx z.length z.length (some (b : Int)) - HT.sIx z.length 0 (some (a : Int)))).toArray.toList = _
  rw [HT.sIx_nat, HT.sIx_nat]
theorem len_tl (z : Str) : z.length = z.cps.toList.length := by
  rw [Array.length_toList]
  rfl
theorem S_len (z : Str) {a b : Nat} (h1 : a ≤ b) (h2 : b ≤ z.length) : (S z a b).length = b - a := by
  rw [len_tl, S_tl, List.length_take, List.length_drop, ← len_tl]
  omega
theorem S_empty (z : Str) {a b : Nat} (h1 : a ≤ b) (h2 : b ≤ z.length) : S z a b = (Str.ofString "") ↔ b = a := by
  have h3 := S_len z h1 h2
  constructor
  · intro h
    rw [h] at h3
    have e : (Str.ofString "").length = 0 := by decide
    omega
  · intro h
    subst h
    apply TL.ext_tl
    show (S z b b).cps.toList = _
    rw [S_tl, Nat.sub_self, List.take_zero]
    rfl
theorem S_one (z : Str) {i ch : Nat} (h : z.cps.toList[i]? = some ch) : S z i (i + 1) = ⟨#[ch]⟩ := by
  have hi : i < z.cps.toList.length := (List.getElem?_eq_some_iff.mp h).1
  rw [← len_tl] at hi
  apply TL.ext_tl
  show (S z i (i + 1)).cps.toList = [ch]
  rw [S_tl, Nat.min_eq_left (by omega), Nat.min_eq_left (by omega), show i + 1 - i = 1 by omega]
  have e := List.drop_eq_getElem_cons (l := z.cps.toList) (i := i) (by rw [← len_tl]; exact hi)
  rw [e, List.take_succ_cons, List.take_zero]
  have e2 := (List.getElem?_eq_some_iff.mp h).2
  rw [e2]
theorem S_beyond (z : Str) {i : Nat} (h : z.length ≤ i) : S z i (i + 1) = (Str.ofString "") := by
  apply TL.ext_tl
  show (S z i (i + 1)).cps.toList = _
  rw [S_tl, Nat.min_eq_right h, Nat.min_eq_right (by omega), Nat.sub_self, List.take_zero]
  rfl
def isL (c : Nat) : Bool := decide (97 ≤ c) && decide (c ≤ 122)
def letAt (z : Str) (i : Nat) : Bool := match z.cps.toList[i]? with
  | some c => isL c
  | none => false
def runE (z : Str) (b : Nat) : Nat → Nat
  | 0 => b
  | m + 1 => if letAt z b = true then runE z (b + 1) m else b
theorem runE_ge (z : Str) : ∀ (m b : Nat), b ≤ runE z b m
  | 0, b => Nat.le_refl _
  | m + 1, b => by
    unfold runE
    split
    · exact Nat.le_trans (Nat.le_succ b) (runE_ge z m (b + 1))
    · exact Nat.le_refl _
theorem runE_le (z : Str) : ∀ (m b : Nat), runE z b m ≤ b + m
  | 0, b => Nat.le_refl _
  | m + 1, b => by
    unfold runE
    split
    · have := runE_le z m (b + 1)
      omega
    · omega
theorem letAt_lt {z : Str} {i : Nat} (h : letAt z i = true) : i < z.length := by
  unfold letAt at h
  cases e : z.cps.toList[i]? with
  | none =>
    rw [e] at h
    cases h
  | some c =>
    rw [len_tl]
    exact (List.getElem?_eq_some_iff.mp e).1
theorem runE_len (z : Str) : ∀ (m b : Nat), b ≤ z.length → runE z b m ≤ z.length
  | 0, b, h => h
  | m + 1, b, h => by
    unfold runE
    split
    · rename_i hl
      exact runE_len z m (b + 1) (letAt_lt hl)
    · exact h
theorem runE_let (z : Str) : ∀ (m b i : Nat), b ≤ i → i < runE z b m → letAt z i = true
  | 0, b, i, h1, h2 => by
    have h2' : i < b := h2
    omega
  | m + 1, b, i, h1, h2 => by
    unfold runE at h2
    split at h2
    · rename_i hl
      by_cases e : i = b
      · rw [e]
        exact hl
      · exact runE_let z m (b + 1) i (by omega) h2
    · omega
/-- a sign that is a letter is no blank, no colon -/
theorem let_ne {z : Str} {i : Nat} (h : letAt z i = true) (x : Str) (hx : ∀ ch, x = ⟨#[ch]⟩ → isL ch = false) : S z i (i + 1) ≠ x := by
  unfold letAt at h
  cases e : z.cps.toList[i]? with
  | none =>
    rw [e] at h
    cases h
  | some c =>
    rw [e] at h
    intro z2
    rw [S_one z e] at z2
    have h2 := hx c z2.symm
    have h3 : isL c = true := h
    rw [h3] at h2
    cases h2
theorem one_inj {a b : Nat} (h : (⟨#[a]⟩ : Str) = ⟨#[b]⟩) : a = b := by
  have h2 := congrArg (fun x : Str => x.cps.toList) h
  exact List.head_eq_of_cons_eq h2
theorem blank_not : ∀ ch, (Str.ofString " ") = ⟨#[ch]⟩ → isL ch = false := fun ch h => by
  have h2 : (⟨#[32]⟩ : Str) = ⟨#[ch]⟩ := h
  rw [← one_inj h2]
  rfl
theorem colon_not : ∀ ch, (Str.ofString ":") = ⟨#[ch]⟩ → isL ch = false := fun ch h => by
  have h2 : (⟨#[58]⟩ : Str) = ⟨#[ch]⟩ := h
  rw [← one_inj h2]
  rfl
theorem sign_lt {z x : Str} {i : Nat} (h : S z i (i + 1) = x) (hx : x ≠ Str.ofString "") : i < z.length := by
  by_cases e : i < z.length
  · exact e
  · rw [S_beyond z (by omega)] at h
    exact absurd h.symm hx
/-! ### words, codes, sorts, plans -/
def specW (z : Str) (b m : Nat) (tk : List Str) : Nat × Option Str :=
  if runE z b m = b + m ∧ S z b (runE z b m) ∈ tk then (runE z b m - 1, none)
  else if runE z b m = b ∨ S z b (runE z b m) ∈ tk then (runE z b m, none) else (runE z b m, some (S z b (runE z b m)))
theorem specW_cases (z : Str) (b m : Nat) (tk : List Str) (hm : 1 ≤ m) (hb : b ≤ z.length) :
    b ≤ (specW z b m tk).1 ∧ (specW z b m tk).1 ≤ z.length ∧
    ((specW z b m tk).2 = some (S z b (specW z b m tk).1) ∧ S z b (specW z b m tk).1 ≠ Str.ofString "" ∧ S z b (specW z b m tk).1 ∉ tk ∧ (S z b (specW z b m tk).1).length ≤ m ∨
     (specW z b m tk).2 = none ∧ ((S z b (specW z b m tk).1 = Str.ofString "" ∨ S z b (specW z b m tk).1 ∈ tk) ∨ letAt z (specW z b m tk).1 = true)) := by
  have g1 := runE_ge z m b
  have g2 := runE_le z m b
  have g3 := runE_len z m b hb
  unfold specW
  by_cases h1 : runE z b m = b + m ∧ S z b (runE z b m) ∈ tk
  · rw [if_pos h1]
    exact ⟨by show b ≤ runE z b m - 1; omega, by show runE z b m - 1 ≤ z.length; omega, .inr ⟨rfl, .inr (runE_let z m b _ (by show b ≤ runE z b m - 1; omega) (by show runE z b m - 1 < runE z b m; omega))⟩⟩
  · rw [if_neg h1]
    by_cases h2 : runE z b m = b ∨ S z b (runE z b m) ∈ tk
    · rw [if_pos h2]
      refine ⟨g1, g3, .inr ⟨rfl, .inl ?_⟩⟩
      rcases h2 with h2 | h2
      · exact .inl ((S_empty z g1 g3).mpr h2)
      · exact .inr h2
    · rw [if_neg h2]
      refine ⟨g1, g3, .inl ⟨rfl, fun h => h2 (.inl ((S_empty z g1 g3).mp h)), fun h => h2 (.inr h), ?_⟩⟩
      show (S z b (runE z b m)).length ≤ m
      rw [S_len z g1 g3]
      omega
def endC (z : Str) (cs : List Str) (i : Nat) : Nat × Option (List Str) := if i < z.length ∨ cs.length < 2 then (i, none) else (i, some cs)
def specC (z : Str) : Nat → List Str → Nat → Nat × Option (List Str)
  | 0, cs, i => endC z cs i
  | n + 1, cs, i => if S z i (i + 1) = Str.ofString " " then (match specW z (i + 1) 4 cs with
      | (e, none) => (e, none)
      | (e, some c) => specC z n (cs ++ [c]) e) else endC z cs i
theorem specC_stop {z : Str} {n : Nat} {cs : List Str} {i : Nat} (h : S z i (i + 1) ≠ Str.ofString " ") : specC z n cs i = endC z cs i := by
  cases n with
  | zero => rfl
  | succ n =>
    unfold specC
    rw [if_neg h]
theorem specC_go {z : Str} {n : Nat} {cs : List Str} {i : Nat} (h : S z i (i + 1) = Str.ofString " ") :
    specC z (n + 1) cs i = (match specW z (i + 1) 4 cs with
      | (e, none) => (e, none)
      | (e, some c) => specC z n (cs ++ [c]) e) := by
  rw [specC, if_pos h]
theorem specC_len (z : Str) : ∀ (n : Nat) (cs : List Str) (i : Nat), i ≤ z.length → cs.length + n ≤ 6 → (∀ c ∈ cs, c.length ≤ 4) → (specC z n cs i).1 ≤ z.length ∧ ∀ ds, (specC z n cs i).2 = some ds → ds.length ≤ 6 ∧ ∀ c ∈ ds, c.length ≤ 4
  | 0, cs, i, h1, h2, h3 => by
    unfold specC endC
    split
    · exact ⟨h1, fun ds e => nomatch e⟩
    · exact ⟨h1, fun ds e => by cases e; exact ⟨by omega, h3⟩⟩
  | n + 1, cs, i, h1, h2, h3 => by
    unfold specC
    split
    · rename_i hs
      have hi := sign_lt hs (by decide)
      obtain ⟨c1, c2, c3⟩ := specW_cases z (i + 1) 4 cs (by omega) (by omega)
      cases e : specW z (i + 1) 4 cs with
      | mk a b =>
        rw [e] at c1 c2 c3
        cases b with
        | none => exact ⟨c2, fun ds z => nomatch z⟩
        | some c =>
          rcases c3 with ⟨d1, d2, d3, d4⟩ | ⟨d1, _⟩
          · have ec : c = S z (i + 1) a := Option.some.inj d1
            refine specC_len z n (cs ++ [c]) a c2 (by rw [List.length_append]; show cs.length + 1 + n ≤ 6; omega) fun x hx => ?_
            rcases List.mem_append.mp hx with hx | hx
            · exact h3 x hx
            · rw [List.mem_singleton.mp hx, ec]
              exact d4
          · cases d1
    · unfold endC
      split
      · exact ⟨h1, fun ds e => nomatch e⟩
      · exact ⟨h1, fun ds e => by cases e; exact ⟨by omega, h3⟩⟩
def specS (z : Str) (ns : List Str) : Nat × Option (Str × List Str) :=
  match specW z 0 8 ns with
  | (e, none) => (e, none)
  | (e, some n) => if S z e (e + 1) = Str.ofString ":" then (match specC z 6 [] (e + 1) with
      | (a, none) => (a, none)
      | (a, some cs) => (a, some (n, cs))) else (e, none)
theorem specS_none {z : Str} {ns : List Str} {a : Nat} (e : specW z 0 8 ns = (a, none)) : specS z ns = (a, none) := by
  unfold specS
  rw [e]
theorem specS_not {z : Str} {ns : List Str} {a : Nat} {c : Str} (e : specW z 0 8 ns = (a, some c)) (h : S z a (a + 1) ≠ Str.ofString ":") : specS z ns = (a, none) := by
  unfold specS
  rw [e]
  exact if_neg h
theorem specS_bad {z : Str} {ns : List Str} {a b : Nat} {c : Str} (e : specW z 0 8 ns = (a, some c)) (h : S z a (a + 1) = Str.ofString ":") (e2 : specC z 6 [] (a + 1) = (b, none)) : specS z ns = (b, none) := by
  unfold specS
  rw [e]
  show (if S z a (a + 1) = Str.ofString ":" then _ else _ : Nat × Option (Str × List Str)) = _
  rw [if_pos h, e2]
theorem specS_good {z : Str} {ns : List Str} {a b : Nat} {c : Str} {cs : List Str} (e : specW z 0 8 ns = (a, some c)) (h : S z a (a + 1) = Str.ofString ":") (e2 : specC z 6 [] (a + 1) = (b, some cs)) : specS z ns = (b, some (c, cs)) := by
  unfold specS
  rw [e]
  show (if S z a (a + 1) = Str.ofString ":" then _ else _ : Nat × Option (Str × List Str)) = _
  rw [if_pos h, e2]
theorem specS_len (z : Str) (ns : List Str) : (specS z ns).1 ≤ z.length ∧ ∀ n cs, (specS z ns).2 = some (n, cs) → n.length ≤ 8 ∧ cs.length ≤ 6 ∧ ∀ c ∈ cs, c.length ≤ 4 := by
  obtain ⟨c1, c2, c3⟩ := specW_cases z 0 8 ns (by omega) (Nat.zero_le _)
  cases e : specW z 0 8 ns with
  | mk a b =>
    rw [e] at c1 c2 c3
    cases b with
    | none =>
      rw [specS_none e]
      exact ⟨c2, fun n cs z => nomatch z⟩
    | some c =>
      rcases c3 with ⟨d1, d2, d3, d4⟩ | ⟨d1, _⟩
      · have ec : c = S z 0 a := Option.some.inj d1
        by_cases hs : S z a (a + 1) = Str.ofString ":"
        · have hi := sign_lt hs (by decide)
          have l := specC_len z 6 [] (a + 1) (by omega) (by decide) (fun c h => absurd h List.not_mem_nil)
          cases e2 : specC z 6 [] (a + 1) with
          | mk a2 b2 =>
            rw [e2] at l
            cases b2 with
            | none =>
              rw [specS_bad e hs e2]
              exact ⟨l.1, fun n cs z => nomatch z⟩
            | some cs =>
              rw [specS_good e hs e2]
              exact ⟨l.1, fun n cs' z => by cases z; exact ⟨by rw [ec]; exact d4, l.2 _ rfl⟩⟩
        · rw [specS_not e hs]
          exact ⟨c2, fun n cs z => nomatch z⟩
      · cases d1
/-- the lines from row on: the row and the sign that break, or all sorts -/
def specP : List Str → Nat → List (Str × List Str) → Sum (Nat × Nat) (List (Str × List Str))
  | [], _, ss => .inr ss
  | z :: r, row, ss => if row = 4 then .inl (row, 0) else (match specS z (ss.map (·.1)) with
      | (e, none) => .inl (row, e)
      | (_, some s) => specP r (row + 1) (ss ++ [s]))
end Cv
set_option Elab.async false
set_option linter.all false
set_option maxRecDepth 100000
set_option maxHeartbeats 4000000
namespace Cv
open PySem PySem.Spec PyProof.Rows L2
/-! ### a small letter -/
abbrev sSl : Stmt := topS 8
theorem scSl : FnScope ["sign"] ["sign"] (defScope sSl) := ⟨rfl, rfl, rfl, by decide +kernel, rfl, by decide +kernel, by decide +kernel⟩
def spSl : Sp := fun vs H Q _ => ∃ ch : Nat, vs = [.str ⟨#[ch]⟩] ∧ Q (.bl (isL ch)) H
theorem lt1 (a b : Nat) : (([a] : List Nat) < [b]) ↔ a < b := by
  rw [List.cons_lt_cons_iff]
  simp
section
variable {P : Program} {w : World} {K : PySem.W.Frag} {mg : Str → Option Value} {base : Heap}
theorem ok_sl {f : Addr} {fd : FuncData} {k : Nat} (F : Fun K "is_small_letter" "is_small_letter" sSl f fd) : FnOk P w K mg base CX0 (k + 1) f fd ["sign"] spSl := by
  refine F.ok scSl (fun vs H Q E h => ?_) (fun cdv A outer s H vs Q E hr h => ?_)
  · obtain ⟨ch, rfl, _⟩ := h
    rfl
  · obtain ⟨ch, rfl, q⟩ := h
    refine ⟨_, pss_one (ps_ret (pe_chain op_le_str op_le_str pe_str (pv 0) pe_str)), ?_⟩
    have e1 : (!decide (([ch] : List Nat) < [97])) = decide (97 ≤ ch) := by
      rw [Bool.eq_iff_iff]
      simp only [Bool.not_eq_true', decide_eq_false_iff_not, decide_eq_true_eq, lt1]
      omega
    have e2 : (!decide (([122] : List Nat) < [ch])) = decide (ch ≤ 122) := by
      rw [Bool.eq_iff_iff]
      simp only [Bool.not_eq_true', decide_eq_false_iff_not, decide_eq_true_eq, lt1]
      omega
    refine ⟨_, rfl, _, _, rfl, rfl, decide (97 ≤ ch), congrArg V.bl e1, ite2 (fun e => ?_) (fun e => ?_)⟩
    · refine ⟨_, _, rfl, rfl, ?_⟩
      show Q (.bl (!decide (([122] : List Nat) < [ch]))) H
      rw [e2]
      unfold isL at q
      rw [e, Bool.true_and] at q
      exact q
    · unfold isL at q
      rw [Bool.eq_false_iff.mpr e, Bool.false_and] at q
      exact q
end
/-! ### the end of a word -/
abbrev sWe : Stmt := topS 15
theorem scWe : FnScope ["line", "begin", "most", "taken", "end"] ["line", "begin", "most", "taken"] (defScope sWe) := ⟨rfl, rfl, rfl, by decide +kernel, rfl, by decide +kernel, by decide +kernel⟩
def spWe (K : PySem.W.Frag) : Sp := fun vs H Q _ => ∃ (z : Str) (b m : Nat) (l : Addr) (tk : List Str), vs = [.str z, .int b, .int m, .ref l] ∧ z.length ≤ 1000000 ∧ b ≤ z.length ∧ 1 ≤ m ∧ m ≤ 8 ∧ SqL K H l (tk.map V.str) ∧ Q (.int ((specW z b m tk).1 : Nat)) H
theorem letAt_some {z : Str} {i ch : Nat} (h : z.cps.toList[i]? = some ch) : letAt z i = isL ch := by
  unfold letAt
  rw [h]
theorem runE_step {z : Str} {b m : Nat} (h : letAt z b = true) : runE z b (m + 1) = runE z (b + 1) m := by
  rw [runE, if_pos h]
theorem runE_stop {z : Str} {b m : Nat} (h : letAt z b = false) : runE z b m = b := by
  cases m with
  | zero => rfl
  | succ m => rw [runE, if_neg (by rw [h]; exact Bool.false_ne_true)]
theorem letAt_end {z : Str} {b : Nat} (h : z.length ≤ b) : letAt z b = false := by
  cases e : letAt z b with
  | false => rfl
  | true => exact absurd (letAt_lt e) (by omega)
section
variable {P : Program} {w : World} {K : PySem.W.Frag} {mg : Str → Option Value} {base : Heap}
theorem ok_we {f fS : Addr} {fd fdS : FuncData} {k : Nat} (F : Fun K "word_end" "word_end" sWe f fd) (FS : Fun K "is_small_letter" "is_small_letter" sSl fS fdS) (bS : Binds K fdS ["sign"] []) (gS : mg "is_small_letter" = some (.ref fS)) (ml : mg "len" = none) :
    FnOk P w K mg base CX0 (k + 2) f fd ["line", "begin", "most", "taken"] (spWe K) := by
  have GS : FnOk P w K mg base CX0 (k + 1) fS fdS ["sign"] spSl := ok_sl FS
  refine F.ok scWe (fun vs H Q E h => ?_) (fun cdv A outer s H vs Q E hr h => ?_)
  · obtain ⟨z, b, m, l, tk, rfl, _⟩ := h
    rfl
  · obtain ⟨z, b, m, l, tk, rfl, hz, hb, m1, m8, hl, q⟩ := h
    have hsl := line_eq
    have hz' : z.length ≤ sizeLine := by omega
    refine ⟨_, pss_cons (ps_set (i := 4) scWe.nd rfl (.inl rfl) (pv 1))
      (pss_cons (ps_while PassesOwn.never (PW.pt (pw_and (pt_cmpR op_lt (pv 4) (pe_callB call_len_str (by rfl) ml PySem.boot_len (pa_cons (pv 0) pa_nil)) (nomark _)) (pw_and (pt_cmpR op_lt (pe_op op_sub (pv 4) (pv 1)) (pv 2) (nomark _))
          (pw_and1 (pt_val (pe_call GS hr (by rfl) gS FS.kp bS .nil pass0 (pa_cons (pe_item_str (pv 0) (pv 4) (fun _ _ => rfl)) pa_nil)))))))
        (pss_one (ps_aug (i := 4) scWe.nd rfl (.inl rfl) pe_int ip_add)))
      (pss_cons (ps_if (PW.pt (pw_and (pt_cmpR op_eq (pe_op op_sub (pv 4) (pv 1)) (pv 2) (nomark _)) (pw_and1 (pt_cmpR op_in_seq (pe_slice sl_str (pv 0) (po_some (pv 1)) (po_some (pv 4))) (pv 3) rfl))))
        (pss_one (ps_ret (pe_op op_sub (pv 4) pe_int))) pss_nil)
      (pss_one (ps_ret (pv 4))))), ?_⟩
    refine ⟨.int b, rfl, fun μ σ H' => ∃ j : Nat, σ = [some (.str z), some (.int b), some (.int m), some (.ref l), some (.int ((b + j : Nat) : Int))] ∧ H' = H ∧ j ≤ m ∧ μ = m - j ∧ b + j ≤ z.length ∧ runE z (b + j) (m - j) = runE z b m, ⟨m, 0, rfl, rfl, Nat.zero_le _, rfl, hb, rfl⟩, fun μ σ H' hW => ?_⟩
    obtain ⟨j, rfl, rfl, hj, rfl, hbl, hrun⟩ := hW
    -- what follows the loop
    have after : ∀ e : Nat, e = runE z b m → b ≤ e → ((if e = b + m ∧ S z b e ∈ tk then e - 1 else e : Nat) = (specW z b m tk).1) := by
      intro e he hbe
      unfold specW
      rw [← he]
      split
      · rfl
      · split <;> rfl
    refine ⟨_, rfl, .str z, rfl, z, rfl, hz', _, _, rfl, rfl, _, rfl, ite2 (fun e => ?_) (fun e => ?_)⟩
    · have e1 := of_decide_eq_true e
      refine ⟨_, rfl, _, rfl, _, _, rfl, rfl, _, rfl, _, _, rfl, rfl, _, rfl, ite2 (fun e => ?_) (fun e => ?_)⟩
      · have e2 := of_decide_eq_true e
        have hi : b + j < z.cps.toList.length := by
          rw [← len_tl]
          omega
        have hch := List.getElem?_eq_getElem hi
        generalize z.cps.toList[b + j] = ch at hch
        refine ⟨.str z, rfl, _, rfl, z, _, ch, rfl, rfl, by omega, by omega, e1, ?_, ch, rfl, _, rfl, ite2 (fun e3 => ?_) (fun e3 => ?_)⟩
        · rw [← Array.getElem?_toList]
          exact hch
        · refine ⟨fun σ' H'' => σ' = [some (.str z), some (.int b), some (.int m), some (.ref l), some (.int ((b + j + 1 : Nat) : Int))] ∧ H'' = H', fun σ' H' hN => ?_, ?_⟩
          · obtain ⟨rfl, rfl⟩ := hN
            refine ⟨m - (j + 1), by omega, j + 1, rfl, rfl, by omega, rfl, by omega, ?_⟩
            rw [← hrun, show m - j = (m - (j + 1)) + 1 by omega, runE_step (by rw [letAt_some hch]; exact e3)]
            rfl
          · exact ⟨_, rfl, _, _, rfl, rfl, rfl, rfl⟩
        · have hs : letAt z (b + j) = false := by
            rw [letAt_some hch]
            exact Bool.eq_false_iff.mpr e3
          rw [runE_stop hs] at hrun
          have hin := inV_str (S z b (b + j)) tk
          have haf := after (b + j) hrun (by omega)
          refine ⟨_, rfl, _, rfl, _, _, rfl, rfl, _, rfl, rfl, _, rfl, ite2 (fun e9 => ?_) (fun e9 => ?_)⟩
          · have e10 := V.int.inj (of_decide_eq_true e9)
            refine ⟨.str z, rfl, _, rfl, _, rfl, _, rfl, _, rfl, z, rfl, hz', .ref l, rfl, l, _, rfl, .inl hl, rfl, flat_strs tk, _, rfl, ite2 (fun e11 => ?_) (fun e11 => ?_)⟩
            · have e12 : S z b (b + j) ∈ tk := of_decide_eq_true (hin.symm.trans e11)
              rw [if_pos ⟨by omega, e12⟩] at haf
              refine ⟨_, rfl, _, _, rfl, rfl, ?_⟩
              rw [← haf] at q
              have e13 : (((b + j - 1 : Nat) : Nat) : Int) = ((b + j : Nat) : Int) - 1 := by omega
              rw [e13] at q
              exact q
            · have e12 : S z b (b + j) ∉ tk := fun h => e11 (hin.trans (decide_eq_true h))
              rw [if_neg (fun h => e12 h.2)] at haf
              refine ⟨_, rfl, ?_⟩
              rw [← haf] at q
              exact q
          · rw [if_neg (fun h => e9 (decide_eq_true (congrArg V.int (by omega))))] at haf
            refine ⟨_, rfl, ?_⟩
            rw [← haf] at q
            exact q
      · have e2 : ¬ (((b + j : Nat) : Int) - b < m) := fun h => e (decide_eq_true h)
        have ej : m - j = 0 := by omega
        rw [ej] at hrun
        have hin := inV_str (S z b (b + j)) tk
        have haf := after (b + j) hrun (by omega)
        refine iteF ⟨_, rfl, _, rfl, _, _, rfl, rfl, _, rfl, rfl, _, rfl, ite2 (fun e9 => ?_) (fun e9 => ?_)⟩
        · have e10 := V.int.inj (of_decide_eq_true e9)
          refine ⟨.str z, rfl, _, rfl, _, rfl, _, rfl, _, rfl, z, rfl, hz', .ref l, rfl, l, _, rfl, .inl hl, rfl, flat_strs tk, _, rfl, ite2 (fun e11 => ?_) (fun e11 => ?_)⟩
          · have e12 : S z b (b + j) ∈ tk := of_decide_eq_true (hin.symm.trans e11)
            rw [if_pos ⟨by omega, e12⟩] at haf
            refine ⟨_, rfl, _, _, rfl, rfl, ?_⟩
            rw [← haf] at q
            have e13 : (((b + j - 1 : Nat) : Nat) : Int) = ((b + j : Nat) : Int) - 1 := by omega
            rw [e13] at q
            exact q
          · have e12 : S z b (b + j) ∉ tk := fun h => e11 (hin.trans (decide_eq_true h))
            rw [if_neg (fun h => e12 h.2)] at haf
            refine ⟨_, rfl, ?_⟩
            rw [← haf] at q
            exact q
        · rw [if_neg (fun h => e9 (decide_eq_true (congrArg V.int (by omega))))] at haf
          refine ⟨_, rfl, ?_⟩
          rw [← haf] at q
          exact q
    · have e1 : ¬ (((b + j : Nat) : Int) < z.length) := fun h => e (decide_eq_true h)
      rw [runE_stop (letAt_end (by omega))] at hrun
      have hin := inV_str (S z b (b + j)) tk
      have haf := after (b + j) hrun (by omega)
      refine iteF ⟨_, rfl, _, rfl, _, _, rfl, rfl, _, rfl, rfl, _, rfl, ite2 (fun e9 => ?_) (fun e9 => ?_)⟩
      · have e10 := V.int.inj (of_decide_eq_true e9)
        refine ⟨.str z, rfl, _, rfl, _, rfl, _, rfl, _, rfl, z, rfl, hz', .ref l, rfl, l, _, rfl, .inl hl, rfl, flat_strs tk, _, rfl, ite2 (fun e11 => ?_) (fun e11 => ?_)⟩
        · have e12 : S z b (b + j) ∈ tk := of_decide_eq_true (hin.symm.trans e11)
          rw [if_pos ⟨by omega, e12⟩] at haf
          refine ⟨_, rfl, _, _, rfl, rfl, ?_⟩
          rw [← haf] at q
          have e13 : (((b + j - 1 : Nat) : Nat) : Int) = ((b + j : Nat) : Int) - 1 := by omega
          rw [e13] at q
          exact q
        · have e12 : S z b (b + j) ∉ tk := fun h => e11 (hin.trans (decide_eq_true h))
          rw [if_neg (fun h => e12 h.2)] at haf
          refine ⟨_, rfl, ?_⟩
          rw [← haf] at q
          exact q
      · rw [if_neg (fun h => e9 (decide_eq_true (congrArg V.int (by omega))))] at haf
        refine ⟨_, rfl, ?_⟩
        rw [← haf] at q
        exact q
end
end Cv
set_option Elab.async false
set_option linter.all false
set_option maxRecDepth 100000
set_option maxHeartbeats 4000000
namespace Cv
open PySem PySem.Spec PyProof.Rows L2
/-! ### a free word -/
abbrev sFr : Stmt := topS 16
theorem scFr : FnScope ["word", "taken"] ["word", "taken"] (defScope sFr) := ⟨rfl, rfl, rfl, by decide +kernel, rfl, by decide +kernel, by decide +kernel⟩
def spFr (K : PySem.W.Frag) : Sp := fun vs H Q _ => ∃ (x : Str) (l : Addr) (tk : List Str), vs = [.str x, .ref l] ∧ SqL K H l (tk.map V.str) ∧ Q (.bl (decide (x ≠ Str.ofString "" ∧ x ∉ tk))) H
section
variable {P : Program} {w : World} {K : PySem.W.Frag} {mg : Str → Option Value} {base : Heap}
theorem ok_fr {f : Addr} {fd : FuncData} {k : Nat} (F : Fun K "is_free" "is_free" sFr f fd) : FnOk P w K mg base CX0 (k + 1) f fd ["word", "taken"] (spFr K) := by
  refine F.ok scFr (fun vs H Q E h => ?_) (fun cdv A outer s H vs Q E hr h => ?_)
  · obtain ⟨x, l, tk, rfl, _⟩ := h
    rfl
  · obtain ⟨x, l, tk, rfl, hl, q⟩ := h
    refine ⟨_, pss_one (ps_ret (pe_and (pe_cmpR op_ne (pv 0) pe_str (nomark _)) (pe_one (pe_cmpR op_notIn_seq (pv 0) (pv 1) rfl)))), ?_⟩
    refine ⟨_, rfl, rfl, _, rfl, ite2 (fun e => ?_) (fun e => ?_)⟩
    · have e1 : x ≠ Str.ofString "" := fun h => by
        rw [h, decide_eq_true rfl] at e
        cases e
      refine ⟨_, rfl, .ref l, rfl, l, _, rfl, .inl hl, rfl, flat_strs tk, ?_⟩
      have e2 : (!inV (.str x) (tk.map V.str)) = decide (x ≠ Str.ofString "" ∧ x ∉ tk) := by
        rw [inV_str, Bool.eq_iff_iff]
        simp only [Bool.not_eq_true', decide_eq_false_iff_not, decide_eq_true_eq]
        exact ⟨fun h => ⟨e1, h⟩, fun h => h.2⟩
      show Q (.bl (!inV (.str x) (tk.map V.str))) H
      rw [e2]
      exact q
    · have e1 : x = Str.ofString "" := by
        by_cases h : x = Str.ofString ""
        · exact h
        · refine absurd ?_ e
          rw [decide_eq_false (fun h2 => h (V.str.inj h2))]
          rfl
      rw [decide_eq_false (fun h => h.1 e1)] at q
      exact q
end
/-! ### codes read -/
abbrev sRc : Stmt := topS 17
abbrev nRc : List Str := ["line", "begin", "codes", "at", "first", "code"]
theorem scRc : FnScope nRc ["line", "begin"] (defScope sRc) := ⟨rfl, rfl, rfl, by decide +kernel, rfl, by decide +kernel, by decide +kernel⟩
/-- what a reader of one line tells -/
def Tells (H H' : Hp) (t : Addr) (e : Nat) (v : V) : Prop := Same H H' ∧ H t = none ∧ H' t = some (.tup [v, .int e])
def spRc : Sp := fun vs H Q _ => ∃ (z : Str) (b : Nat), vs = [.str z, .int b] ∧ z.length ≤ 1000000 ∧ b ≤ z.length ∧
  ((specC z 6 [] b).2 = none → ∀ H' t, Tells H H' t (specC z 6 [] b).1 .non → Q (.ref t) H') ∧
  (∀ cs, (specC z 6 [] b).2 = some cs → ∀ H' t u, Tells H H' t (specC z 6 [] b).1 (.ref u) → H' u = some (.tup (cs.map V.str)) → Q (.ref t) H')
/-- where the reading defs stand -/
structure Rd1 (K : PySem.W.Frag) (mg : Str → Option Value) (fS fW fF : Addr) (fdS fdW fdF : FuncData) : Prop where
  FS : Fun K "is_small_letter" "is_small_letter" sSl fS fdS
  bS : Binds K fdS ["sign"] []
  gS : mg "is_small_letter" = some (.ref fS)
  FW : Fun K "word_end" "word_end" sWe fW fdW
  bW : Binds K fdW ["line", "begin", "most", "taken"] []
  gW : mg "word_end" = some (.ref fW)
  FF : Fun K "is_free" "is_free" sFr fF fdF
  bF : Binds K fdF ["word", "taken"] []
  gF : mg "is_free" = some (.ref fF)
  ml : mg "len" = none
  mt : mg "tuple" = none
  c6 : ∃ t, mg "MOST_CODES" = some (.int 6 t)
  c4 : ∃ t, mg "MOST_CODE" = some (.int 4 t)
  c2 : ∃ t, mg "LEAST_CODES" = some (.int 2 t)
  c8 : ∃ t, mg "MOST_NAME" = some (.int 8 t)
section
variable {P : Program} {w : World} {K : PySem.W.Frag} {mg : Str → Option Value} {base : Heap}
theorem ok_rc {f fS fW fF : Addr} {fd fdS fdW fdF : FuncData} {k : Nat} (F : Fun K "read_codes" "read_codes" sRc f fd) (d : Rd1 K mg fS fW fF fdS fdW fdF) : FnOk P w K mg base CX0 (k + 3) f fd ["line", "begin"] spRc := by
  have GW : FnOk P w K mg base CX0 (k + 2) fW fdW ["line", "begin", "most", "taken"] (spWe K) := ok_we d.FW d.FS d.bS d.gS d.ml
  have GF : FnOk P w K mg base CX0 (k + 2) fF fdF ["word", "taken"] (spFr K) := ok_fr d.FF
  obtain ⟨t6, c6⟩ := d.c6
  obtain ⟨t4, c4⟩ := d.c4
  obtain ⟨t2, c2⟩ := d.c2
  refine F.ok scRc (fun vs H Q E h => ?_) (fun cdv A outer s H vs Q E hr h => ?_)
  · obtain ⟨z, b, rfl, _⟩ := h
    rfl
  · obtain ⟨z, b, rfl, hz, hb, q1, q2⟩ := h
    have hsl := line_eq
    have hz' : z.length ≤ sizeLine := by omega
    refine ⟨_, pss_cons (ps_set (i := 2) scRc.nd rfl (.inl rfl) (pe_lst pa_nil))
      (pss_cons (ps_set (i := 3) scRc.nd rfl (.inl rfl) (pv 1))
      (pss_cons (ps_while PassesOwn.never (PW.pt (pw_and (pt_cmpR op_lt (pe_callB call_len_seq (by rfl) d.ml PySem.boot_len (pa_cons (pv 2) pa_nil)) (pe_glob (v := .int 6) (by rfl) c6 ⟨_, rfl⟩) (nomark _))
          (pw_and1 (pt_cmpR op_eq (pe_slice sl_str (pv 0) (po_some (pv 3)) (po_some (pe_op op_add (pv 3) pe_int))) pe_str (nomark _)))))
        (pss_cons (ps_set (i := 4) scRc.nd rfl (.inl rfl) (pe_op op_add (pv 3) pe_int))
        (pss_cons (ps_set (i := 3) scRc.nd rfl (.inl rfl) (pe_call GW hr (by rfl) d.gW d.FW.kp d.bW .nil pass0 (pa_cons (pv 0) (pa_cons (pv 4) (pa_cons (pe_glob (v := .int 4) (by rfl) c4 ⟨_, rfl⟩) (pa_cons (pv 2) pa_nil))))))
        (pss_cons (ps_set (i := 5) scRc.nd rfl (.inl rfl) (pe_slice sl_str (pv 0) (po_some (pv 4)) (po_some (pv 3))))
        (pss_cons (ps_if (pt_not (pt_val (pe_call GF hr (by rfl) d.gF d.FF.kp d.bF .nil pass0 (pa_cons (pv 5) (pa_cons (pv 2) pa_nil))))) (pss_one (ps_ret (pe_tup (pa_cons pe_non (pa_cons (pv 3) pa_nil))))) pss_nil)
        (pss_one (ps_expr (pe_bm PySem.F.plainAttrs_list PySem.F.slot_list_append PySem.F.type_list_append mt_append (pv 2) (pa_cons (pv 5) pa_nil)))))))))
      (pss_cons (ps_if (PW.pt (pw_or (pt_cmpR op_lt (pv 3) (pe_callB call_len_str (by rfl) d.ml PySem.boot_len (pa_cons (pv 0) pa_nil)) (nomark _)) (pw_or1 (pt_cmpR op_lt (pe_callB call_len_seq (by rfl) d.ml PySem.boot_len (pa_cons (pv 2) pa_nil)) (pe_glob (v := .int 2) (by rfl) c2 ⟨_, rfl⟩) (nomark _)))))
        (pss_one (ps_ret (pe_tup (pa_cons pe_non (pa_cons (pv 3) pa_nil))))) pss_nil)
      (pss_one (ps_ret (pe_tup (pa_cons (pe_callTy call_tuple_of (by rfl) d.mt (by decide +kernel) (pa_cons (pv 2) pa_nil)) (pa_cons (pv 3) pa_nil)))))))), ?_⟩
    refine ⟨Nat.zero_le _, fun o no => ?_⟩
    refine ⟨.int b, rfl, fun μ σ H' => ∃ (cs : List Str) (i : Nat) (y4 y5 : Option V), σ = [some (.str z), some (.int b), some (.ref o), some (.int i), y4, y5] ∧ H' o = some (.lst (cs.map V.str)) ∧ cs.length ≤ 6 ∧ μ = 6 - cs.length ∧ i ≤ z.length ∧ Same H H' ∧ specC z (6 - cs.length) cs i = specC z 6 [] b,
      ⟨6, [], b, none, none, rfl, upd_same, by decide, rfl, hb, same_upd no, rfl⟩, fun μ σ H' hW => ?_⟩
    obtain ⟨cs, i, y4, y5, rfl, ho, h6, rfl, hi, hS, hR⟩ := hW
    -- what follows the loop
    have after : S z i (i + 1) ≠ Str.ofString " " ∨ 6 ≤ cs.length → endC z cs i = specC z 6 [] b := by
      intro h
      rw [← hR]
      rcases h with h | h
      · exact (specC_stop h).symm
      · rw [show 6 - cs.length = 0 by omega]
        rfl
    refine ⟨.ref o, rfl, o, _, rfl, .inl (SqL.of ho), _, _, rfl, rfl, _, rfl, ite2 (fun e => ?_) (fun e => ?_)⟩
    · have e1 := of_decide_eq_true e
      rw [List.length_map] at e1
      refine ⟨.str z, rfl, _, rfl, _, rfl, _, rfl, _, _, rfl, rfl, _, rfl, z, rfl, hz', rfl, _, rfl, ite2 (fun e => ?_) (fun e => ?_)⟩
      · have e2 : S z i (i + 1) = Str.ofString " " := V.str.inj (of_decide_eq_true e)
        have hlt := sign_lt e2 (by decide)
        obtain ⟨w1, w2, w3⟩ := specW_cases z (i + 1) 4 cs (by decide) hlt
        have hgo := hR
        rw [show 6 - cs.length = (6 - (cs.length + 1)) + 1 by omega, specC_go e2] at hgo
        generalize hsw : specW z (i + 1) 4 cs = sw at w1 w2 w3 hgo
        obtain ⟨a, r⟩ := sw
        refine ⟨fun σ' H'' => ∃ (cs' : List Str) (i' : Nat) (y4 y5 : Option V), σ' = [some (.str z), some (.int b), some (.ref o), some (.int i'), y4, y5] ∧ H'' o = some (.lst (cs'.map V.str)) ∧ cs'.length = cs.length + 1 ∧ i' ≤ z.length ∧ Same H H'' ∧ specC z (6 - cs'.length) cs' i' = specC z 6 [] b, fun σ' H'' hN => ?_, ?_⟩
        · obtain ⟨cs', i', y4', y5', rfl, g1, g2, g3, g4, g5⟩ := hN
          exact ⟨6 - cs'.length, by omega, cs', i', y4', y5', rfl, g1, by omega, rfl, g3, g4, g5⟩
        · refine ⟨_, rfl, _, _, rfl, rfl, .str z, rfl, _, rfl, .ref o, rfl, z, i + 1, 4, o, cs, rfl, hz, hlt, by decide, by decide, SqL.of ho, ?_⟩
          rw [hsw]
          refine ⟨.str z, rfl, _, rfl, _, rfl, _, rfl, _, rfl, z, rfl, hz', ?_⟩
          refine ⟨_, rfl, .ref o, rfl, S z (i + 1) a, o, cs, rfl, SqL.of ho, _, rfl, ?_⟩
          refine ite2 (fun e3 => ?_) (fun e3 => ?_)
          · have e4 : ¬ (S z (i + 1) a ≠ Str.ofString "" ∧ S z (i + 1) a ∉ cs) := fun h => by
              rw [decide_eq_true h] at e3
              cases e3
            rcases w3 with ⟨d1, d2, d3, _⟩ | ⟨d1, _⟩
            · exact absurd ⟨d2, d3⟩ e4
            · have d1' : r = none := d1
              subst d1'
              have hgo' : (a, none) = specC z 6 [] b := hgo
              refine ⟨_, rfl, (by show 2 ≤ sizeLine; decide), fun t nt => ?_⟩
              exact q1 (by rw [← hgo']) _ t ⟨hS.trans (same_upd nt), hS.free nt, by rw [← hgo']; exact upd_same⟩
          · have e4 : S z (i + 1) a ≠ Str.ofString "" ∧ S z (i + 1) a ∉ cs := by
              by_cases h : S z (i + 1) a ≠ Str.ofString "" ∧ S z (i + 1) a ∉ cs
              · exact h
              · refine absurd ?_ e3
                rw [decide_eq_false h]
                rfl
            refine ⟨.ref o, rfl, .inl ⟨rfl, _, SqL.of ho⟩, _, rfl, o, _, _, rfl, rfl, ho, ?_, cs ++ [S z (i + 1) a], a, _, _, rfl, ?_, ?_, w2, ?_, ?_⟩
            · rw [List.length_map]
              exact small1000 (by omega)
            · rw [upd_same, List.map_append]
              rfl
            · rw [List.length_append]
              rfl
            · intro b' o' e'
              rw [upd_ne (ne_of_none e' no)]
              exact hS _ _ e'
            · rw [show 6 - (cs ++ [S z (i + 1) a]).length = 6 - (cs.length + 1) by rw [List.length_append]; rfl]
              rcases w3 with ⟨d1, _⟩ | ⟨d1, d2⟩
              · have d1' : r = some (S z (i + 1) a) := d1
                subst d1'
                exact hgo
              · have d1' : r = none := d1
                subst d1'
                have hgo' : (a, none) = specC z 6 [] b := hgo
                rcases d2 with d2 | d2
                · rcases d2 with d2 | d2
                  · exact absurd d2 e4.1
                  · exact absurd d2 e4.2
                · have d3 : letAt z a = true := d2
                  rw [specC_stop (let_ne d3 _ blank_not), ← hgo']
                  exact if_pos (.inl (letAt_lt d3))
      · have e2 : S z i (i + 1) ≠ Str.ofString " " := fun h => e (decide_eq_true (congrArg V.str h))
        have hA := after (.inl e2)
        refine ⟨_, rfl, .str z, rfl, z, rfl, hz', _, _, rfl, rfl, _, rfl, ite2 (fun e9 => ?_) (fun e9 => ?_)⟩
        · have e10 := of_decide_eq_true e9
          have hE : endC z cs i = (i, none) := if_pos (.inl (by omega))
          rw [hE] at hA
          refine iteT ⟨_, rfl, (by show 2 ≤ sizeLine; decide), fun t nt => ?_⟩
          exact q1 (by rw [← hA]) _ t ⟨hS.trans (same_upd nt), hS.free nt, by rw [← hA]; exact upd_same⟩
        · have e10 : ¬ ((i : Int) < z.length) := fun h => e9 (decide_eq_true h)
          refine ⟨.ref o, rfl, o, _, rfl, .inl (SqL.of ho), _, _, rfl, rfl, _, rfl, ite2 (fun e11 => ?_) (fun e11 => ?_)⟩
          · have e12 := of_decide_eq_true e11
            rw [List.length_map] at e12
            have hE : endC z cs i = (i, none) := if_pos (.inr (by omega))
            rw [hE] at hA
            refine ⟨_, rfl, (by show 2 ≤ sizeLine; decide), fun t nt => ?_⟩
            exact q1 (by rw [← hA]) _ t ⟨hS.trans (same_upd nt), hS.free nt, by rw [← hA]; exact upd_same⟩
          · have e12 : ¬ (((cs.map V.str).length : Int) < 2) := fun h => e11 (decide_eq_true h)
            rw [List.length_map] at e12
            have hE : endC z cs i = (i, some cs) := if_neg (by omega)
            rw [hE] at hA
            refine ⟨.ref o, rfl, o, _, rfl, .inl ⟨SqL.of ho, fun u nu => ?_⟩⟩
            refine ⟨_, rfl, (by show 2 ≤ sizeLine; decide), fun t nt => ?_⟩
            have sU : Same H (upd H' u (.tup (cs.map V.str))) := hS.trans (same_upd nu)
            exact q2 cs (by rw [← hA]) _ t u ⟨sU.trans (same_upd nt), sU.free nt, by rw [← hA]; exact upd_same⟩ (by rw [upd_ne (ne_of_none upd_same nt)]; exact upd_same)
    · have e1 : ¬ (((cs.map V.str).length : Int) < 6) := fun h => e (decide_eq_true h)
      rw [List.length_map] at e1
      have hA := after (.inr (by omega))
      refine iteF ⟨_, rfl, .str z, rfl, z, rfl, hz', _, _, rfl, rfl, _, rfl, ite2 (fun e9 => ?_) (fun e9 => ?_)⟩
      · have e10 := of_decide_eq_true e9
        have hE : endC z cs i = (i, none) := if_pos (.inl (by omega))
        rw [hE] at hA
        refine iteT ⟨_, rfl, (by show 2 ≤ sizeLine; decide), fun t nt => ?_⟩
        exact q1 (by rw [← hA]) _ t ⟨hS.trans (same_upd nt), hS.free nt, by rw [← hA]; exact upd_same⟩
      · have e10 : ¬ ((i : Int) < z.length) := fun h => e9 (decide_eq_true h)
        refine ⟨.ref o, rfl, o, _, rfl, .inl (SqL.of ho), _, _, rfl, rfl, _, rfl, ite2 (fun e11 => ?_) (fun e11 => ?_)⟩
        · have e12 := of_decide_eq_true e11
          rw [List.length_map] at e12
          have hE : endC z cs i = (i, none) := if_pos (.inr (by omega))
          rw [hE] at hA
          refine ⟨_, rfl, (by show 2 ≤ sizeLine; decide), fun t nt => ?_⟩
          exact q1 (by rw [← hA]) _ t ⟨hS.trans (same_upd nt), hS.free nt, by rw [← hA]; exact upd_same⟩
        · have e12 : ¬ (((cs.map V.str).length : Int) < 2) := fun h => e11 (decide_eq_true h)
          rw [List.length_map] at e12
          have hE : endC z cs i = (i, some cs) := if_neg (by omega)
          rw [hE] at hA
          refine ⟨.ref o, rfl, o, _, rfl, .inl ⟨SqL.of ho, fun u nu => ?_⟩⟩
          refine ⟨_, rfl, (by show 2 ≤ sizeLine; decide), fun t nt => ?_⟩
          have sU : Same H (upd H' u (.tup (cs.map V.str))) := hS.trans (same_upd nu)
          exact q2 cs (by rw [← hA]) _ t u ⟨sU.trans (same_upd nt), sU.free nt, by rw [← hA]; exact upd_same⟩ (by rw [upd_ne (ne_of_none upd_same nt)]; exact upd_same)
end
end Cv
set_option Elab.async false
set_option linter.all false
set_option maxRecDepth 100000
set_option maxHeartbeats 4000000
namespace Cv
open PySem PySem.Spec PyProof.Rows L2
/-! ### a sort read -/
abbrev sRs : Stmt := topS 18
abbrev nRs : List Str := ["line", "ahead", "names", "at", "name", "codes", "sort"]
theorem scRs : FnScope nRs ["line", "ahead"] (defScope sRs) := ⟨rfl, rfl, rfl, by decide +kernel, rfl, by decide +kernel, by decide +kernel⟩
/-- v is the sort s -/
def SortR (H : Hp) (v : V) (s : Str × List Str) : Prop := ∃ a b, v = .ref a ∧ H a = some (.tup [.str s.1, .ref b]) ∧ H b = some (.tup (s.2.map V.str))
theorem SortR.same {H H' : Hp} {v : V} {s : Str × List Str} (h : SortR H v s) (k : Same H H') : SortR H' v s := by
  obtain ⟨a, b, e, ha, hb⟩ := h
  exact ⟨a, b, e, k _ _ ha, k _ _ hb⟩
theorem sorts_same {H H' : Hp} (k : Same H H') : ∀ {xs : List V} {ss : List (Str × List Str)}, Paired (SortR H) xs ss → Paired (SortR H') xs ss
  | _, _, .nil => .nil
  | _, _, .cons r t => .cons (r.same k) (sorts_same k t)
theorem sorts_get {H : Hp} : ∀ {xs : List V} {ss : List (Str × List Str)} {i : Nat} {x : V}, Paired (SortR H) xs ss → xs[i]? = some x → ∃ s, ss[i]? = some s ∧ SortR H x s
  | _, _, _, _, .nil, e => by simp at e
  | _, _, 0, _, .cons r _, e => by
    simp at e
    subst e
    exact ⟨_, rfl, r⟩
  | _, _, i + 1, x, .cons _ t, e => by
    obtain ⟨s, h1, h2⟩ := sorts_get (i := i) (x := x) t (by simpa using e)
    exact ⟨s, by simpa using h1, h2⟩
theorem cut0 (z : Str) (e : Nat) : cutS z none (some (e : Int)) = S z 0 e := by
  apply TL.ext_tl
  show ((z.cps.toList.drop (HT.sIx z.length 0 none)).take (HT.sIx z.length z.length (some (e : Int)) - HT.sIx z.length 0 none)).toArray.toList = (S z 0 e).cps.toList
  rw [S_tl, HT.sIx_nat, HT.sIx_none, Nat.zero_min]
def spRs (K : PySem.W.Frag) : Sp := fun vs H Q _ => ∃ (z : Str) (l : Addr) (xs : List V) (ss : List (Str × List Str)), vs = [.str z, .ref l] ∧ z.length ≤ 1000000 ∧ SqL K H l xs ∧ Paired (SortR H) xs ss ∧ ss.length ≤ 10 ∧
  ((specS z (ss.map (·.1))).2 = none → ∀ H' t, Tells H H' t (specS z (ss.map (·.1))).1 .non → Q (.ref t) H') ∧
  (∀ s, (specS z (ss.map (·.1))).2 = some s → ∀ H' t u, Tells H H' t (specS z (ss.map (·.1))).1 (.ref u) → SortR H' (.ref u) s → Q (.ref t) H')
section
variable {P : Program} {w : World} {K : PySem.W.Frag} {mg : Str → Option Value} {base : Heap}
theorem ok_rs {f fS fW fF fC : Addr} {fd fdS fdW fdF fdC : FuncData} {k : Nat} (F : Fun K "read_sort" "read_sort" sRs f fd) (d : Rd1 K mg fS fW fF fdS fdW fdF) (FC : Fun K "read_codes" "read_codes" sRc fC fdC) (bC : Binds K fdC ["line", "begin"] []) (gC : mg "read_codes" = some (.ref fC)) :
    FnOk P w K mg base CX0 (k + 4) f fd ["line", "ahead"] (spRs K) := by
  have GW : FnOk P w K mg base CX0 (k + 3) fW fdW ["line", "begin", "most", "taken"] (spWe K) := ok_we d.FW d.FS d.bS d.gS d.ml
  have GF : FnOk P w K mg base CX0 (k + 3) fF fdF ["word", "taken"] (spFr K) := ok_fr d.FF
  have GC : FnOk P w K mg base CX0 (k + 3) fC fdC ["line", "begin"] spRc := ok_rc FC d
  obtain ⟨t8, c8⟩ := d.c8
  refine F.ok scRs (fun vs H Q E h => ?_) (fun cdv A outer s H vs Q E hr h => ?_)
  · obtain ⟨z, l, xs, ss, rfl, _⟩ := h
    rfl
  · obtain ⟨z, l, xs, ss, rfl, hz, hl, hss, h10, q1, q2⟩ := h
    have hsl := line_eq
    have hz' : z.length ≤ sizeLine := by omega
    refine ⟨_, pss_cons (ps_setLc (i := 2) (own := [("sort", 6)]) (g := gName 6) (tt := tYes) (te := tOp (rIxT K) (tVar 6) (tC (.int 0))) rfl scRs.nd rfl rfl (sw_true rfl rfl rfl (by decide +kernel)) (pi_list (pv 1))
        (blkOk_by (own := [("sort", 6)]) (N := nRs) (sc := defScope sRs) (by decide +kernel)) (fun _ _ _ _ _ => pg_name (i := 6) scRs.nd rfl (Or.inl rfl)) (fun _ _ _ _ _ => pts_nil)
        (fun _ _ _ _ _ => pe_ix ix_tup (pv 6) pe_int (fun _ _ => rfl)))
      (pss_cons (ps_set (i := 3) scRs.nd rfl (.inl rfl) (pe_call GW hr (by rfl) d.gW d.FW.kp d.bW .nil pass0 (pa_cons (pv 0) (pa_cons pe_int (pa_cons (pe_glob (v := .int 8) (by rfl) c8 ⟨_, rfl⟩) (pa_cons (pv 2) pa_nil))))))
      (pss_cons (ps_set (i := 4) scRs.nd rfl (.inl rfl) (pe_slice sl_str (pv 0) po_none (po_some (pv 3))))
      (pss_cons (ps_if (PW.pt (pw_or (pt_not (pt_val (pe_call GF hr (by rfl) d.gF d.FF.kp d.bF .nil pass0 (pa_cons (pv 4) (pa_cons (pv 2) pa_nil))))) (pw_or1 (pt_cmpR op_ne (pe_slice sl_str (pv 0) (po_some (pv 3)) (po_some (pe_op op_add (pv 3) pe_int))) pe_str (nomark _)))))
        (pss_one (ps_ret (pe_tup (pa_cons pe_non (pa_cons (pv 3) pa_nil))))) pss_nil)
      (pss_cons (ps_asg (pe_call GC hr (by rfl) gC FC.kp bC .nil pass0 (pa_cons (pv 0) (pa_cons (pe_op op_add (pv 3) pe_int) pa_nil))) (pg_tup rfl (pgs_cons (pg_name (i := 5) scRs.nd rfl (.inl rfl)) (pgs_cons (pg_name (i := 3) scRs.nd rfl (.inl rfl)) pgs_nil))))
      (pss_cons (ps_if (pt_cmpR op_isN (pv 5) pe_non (nomark _)) (pss_one (ps_ret (pe_tup (pa_cons pe_non (pa_cons (pv 3) pa_nil))))) pss_nil)
      (pss_one (ps_ret (pe_tup (pa_cons (pe_tup (pa_cons (pv 4) (pa_cons (pv 5) pa_nil))) (pa_cons (pv 3) pa_nil)))))))))), ?_⟩
    refine ⟨.ref l, rfl, l, rfl, ⟨_, hl⟩, fun D nD => ?_⟩
    refine lc_list (K := K) (a := l) (xs := xs) (fun j H3 => Same H H3 ∧ H3 D = some (.lst (((ss.take j).map (·.1)).map V.str))) ⟨same_upd nD, upd_same⟩ (fun j H3 _ h => h.1.seq hl) (fun j x H3 hx h => ?_) (fun H3 h => ?_)
    · obtain ⟨h1, h2⟩ := h
      obtain ⟨sx, es, a, b, rfl, ha, hb⟩ := sorts_get hss hx
      have hj : j < ss.length := (List.getElem?_eq_some_iff.mp es).1
      refine ⟨rfl, _, rfl, a, _, 0, .str sx.1, rfl, rfl, SqT.of (h1 _ _ ha), rfl, _, h2, ?_, ?_, ?_⟩
      · rw [List.length_map, List.length_map, List.length_take]
        exact small1000 (by omega)
      · intro b' o' e
        rw [upd_ne (ne_of_none e nD)]
        exact h1 _ _ e
      · rw [upd_same, List.take_add_one, es, List.map_append, List.map_append]
        rfl
    · obtain ⟨h1, h2⟩ := h
      have hlen : xs.length = ss.length := Paired.length hss
      rw [hlen, List.take_of_length_le (Nat.le_refl _)] at h2
      generalize hns : ss.map (·.1) = ns at h2 q1 q2
      obtain ⟨w1, w2, w3⟩ := specW_cases z 0 8 ns (by decide) (Nat.zero_le _)
      refine ⟨.str z, rfl, .ref D, rfl, z, 0, 8, D, ns, rfl, hz, Nat.zero_le _, by decide, by decide, SqL.of h2, ?_⟩
      generalize hsw : specW z 0 8 ns = sw at w1 w2 w3
      obtain ⟨a, r⟩ := sw
      refine ⟨.str z, rfl, _, rfl, _, rfl, z, rfl, hz', ?_⟩
      have hcut : cutS z none (some (((a, r).1 : Nat) : Int)) = S z 0 a := cut0 z a
      rw [hcut]
      refine ⟨_, rfl, .ref D, rfl, S z 0 a, D, ns, rfl, SqL.of h2, _, rfl, ite2 (fun e3 => ?_) (fun e3 => ?_)⟩
      · have e4 : ¬ (S z 0 a ≠ Str.ofString "" ∧ S z 0 a ∉ ns) := fun h => by
          rw [decide_eq_true h] at e3
          cases e3
        rcases w3 with ⟨d1, d2, d3, _⟩ | ⟨d1, _⟩
        · exact absurd ⟨d2, d3⟩ e4
        · have d1' : r = none := d1
          subst d1'
          have hE := specS_none hsw
          refine iteT ⟨_, rfl, (by show 2 ≤ sizeLine; decide), fun t nt => ?_⟩
          exact q1 (by rw [hE]) _ t ⟨h1.trans (same_upd nt), h1.free nt, by rw [hE]; exact upd_same⟩
      · have e4 : S z 0 a ≠ Str.ofString "" ∧ S z 0 a ∉ ns := by
          by_cases h : S z 0 a ≠ Str.ofString "" ∧ S z 0 a ∉ ns
          · exact h
          · refine absurd ?_ e3
            rw [decide_eq_false h]
            rfl
        refine ⟨.str z, rfl, _, rfl, _, rfl, _, rfl, _, _, rfl, rfl, _, rfl, z, rfl, hz', rfl, _, rfl, ite2 (fun e5 => ?_) (fun e5 => ?_)⟩
        · have e6 : S z a (a + 1) ≠ Str.ofString ":" := fun h => by
            have h' : cutS z (some ((a : Nat) : Int)) (some (((a : Nat) : Int) + 1)) = Str.ofString ":" := h
            rw [show decide (V.str (cutS z (some ((a : Nat) : Int)) (some (((a : Nat) : Int) + 1))) = V.str (Str.ofString ":")) = true from decide_eq_true (congrArg V.str h')] at e5
            cases e5
          have hE : specS z ns = (a, none) := by
            cases r with
            | none => exact specS_none hsw
            | some c => exact specS_not hsw e6
          refine ⟨_, rfl, (by show 2 ≤ sizeLine; decide), fun t nt => ?_⟩
          exact q1 (by rw [hE]) _ t ⟨h1.trans (same_upd nt), h1.free nt, by rw [hE]; exact upd_same⟩
        · have e6 : S z a (a + 1) = Str.ofString ":" := by
            by_cases h : S z a (a + 1) = Str.ofString ":"
            · exact h
            · refine absurd ?_ e5
              rw [show decide (V.str (cutS z (some ((a : Nat) : Int)) (some (((a : Nat) : Int) + 1))) = V.str (Str.ofString ":")) = false from decide_eq_false (fun h2 => h (V.str.inj h2))]
              rfl
          have hlt := sign_lt e6 (by decide)
          obtain rfl : r = some (S z 0 a) := by
            rcases w3 with ⟨d1, _⟩ | ⟨d1, d2⟩
            · exact d1
            · rcases d2 with (d2 | d2) | d2
              · exact absurd d2 e4.1
              · exact absurd d2 e4.2
              · exact absurd e6 (let_ne (show letAt z a = true from d2) _ colon_not)
          refine ⟨.str z, rfl, _, rfl, _, _, rfl, rfl, z, a + 1, rfl, hz, hlt, fun hn H4 t T1 => ?_, fun cs hc H4 t u T1 hu => ?_⟩
          · obtain ⟨s1, n1, ht⟩ := T1
            have hE : specS z ns = ((specC z 6 [] (a + 1)).1, none) := specS_bad hsw e6 (by
              rw [← hn])
            refine ⟨t, _, rfl, SqT.of ht, rfl, _, _, rfl, _, _, rfl, rfl, ?_⟩
            refine ⟨_, rfl, rfl, _, rfl, ite2 (fun _ => ?_) (fun e7 => absurd (decide_eq_true rfl) e7)⟩
            refine ⟨_, rfl, (by show 2 ≤ sizeLine; decide), fun t' nt => ?_⟩
            exact q1 (by rw [hE]) _ t' ⟨(h1.trans s1).trans (same_upd nt), (h1.trans s1).free nt, by rw [hE]; exact upd_same⟩
          · obtain ⟨s1, n1, ht⟩ := T1
            have hE : specS z ns = ((specC z 6 [] (a + 1)).1, some (S z 0 a, cs)) := specS_good hsw e6 (by
              rw [← hc])
            refine ⟨t, _, rfl, SqT.of ht, rfl, _, _, rfl, _, _, rfl, rfl, ?_⟩
            refine ⟨_, rfl, rfl, _, rfl, ite2 (fun e7 => ?_) (fun _ => ?_)⟩
            · exact absurd (of_decide_eq_true e7) (fun h => nomatch h)
            refine ⟨_, rfl, _, rfl, (by show 2 ≤ sizeLine; decide), fun v nv => ?_⟩
            refine ⟨_, rfl, (by show 2 ≤ sizeLine; decide), fun t' nt => ?_⟩
            have sv : Same H (upd H4 v (.tup [.str (S z 0 a), .ref u])) := (h1.trans s1).trans (same_upd nv)
            exact q2 _ (by rw [hE]) _ t' v ⟨sv.trans (same_upd nt), sv.free nt, by rw [hE]; exact upd_same⟩ ⟨v, u, rfl, (same_upd nt) _ _ upd_same, (same_upd nt) _ _ ((same_upd nv) _ _ hu)⟩
end
end Cv
set_option Elab.async false
set_option linter.all false
set_option maxRecDepth 100000
set_option maxHeartbeats 4000000
namespace Cv
open PySem PySem.Spec PyProof.Rows L2
section
variable {X : Cx} {e : Expr} {es : List Expr} {ta : TA} {p p1 p2 pos : Pos}
/-- C0.__init__(self, ..), C0 an own class without an __init__ over ValueError -/
theorem pe_cinit {pl : Sem Bool} {x : Str} {C0 : Addr} (hg : Gl X x) (hm : X.mg x = some (.ref C0)) (hsp : PySem.W.specialIn X.K (.ref C0) "__getattribute__" = some (some (.builtin "type.__getattribute__"))) (hrd : PySem.W.readsIn X.K C0 (.type "type") = true)
    (vV : PySem.W.findCls X.K (.ref C0) (.type "type") "__init__" = some (.val (.builtin "ValueError.__init__"))) (ha : PA X (e :: es) ta)
    (hc : eval (.Call (.Attribute (.Name x p1) "__init__" p2) (e :: es) [] pos) X.env = (do
      let ov ← eval (.Name x p1) X.env
      standAt p2.atName
      let (f, first) ← holding [ov] (getMethod ov "__init__" pl)
      callWith pos f first (backTo pos (starEach (e :: es) X.env)) (backToKw pos (keywordEach [] X.env))) := by rfl)
    (he : starEach (e :: es) X.env = (false, eval e X.env) :: starEach es X.env := by rfl) (hpl : (backTo pos (starEach es X.env)).any (·.1) = false := by rfl) (hdb : (x == ("__debug__" : Str)) = false := by decide) :
    PE X (.Call (.Attribute (.Name x p1) "__init__" p2) (e :: es) [] pos) (tVeI X.K ta) := by
  refine ⟨fun pins s σ H Q I h => ?_⟩
  refine PySem.W.methodCall_KW (ld_glob I hg hm ?_ hdb) hc
  refine PySem.W.method_cls I.kIn hsp (PySem.W.cls_value I.kIn hrd vV (by decide +kernel) ?_)
  show wpAny _ _ (callWith pos (Value.builtin "ValueError.__init__") [] (backTo pos (starEach (e :: es) X.env)) []) _ _ _
  refine PyProof.Rows.callWith_method1 (thn (ha.run pos pins _ σ H _ (I.tok _) h) fun us s1 ⟨vs, H1, I1, r1, a, C, ws, ev, hl, T, ea, q⟩ => ?_) he hpl
  subst ev
  cases r1 with
  | @cons _ u0 _ ur ra rw' =>
    obtain rfl : u0 = Value.ref a := ra
    have hlen : ur.length ≤ sizeLine := by
      rw [← Paired.length rw', sizeLine_eq]
      omega
    exact oinit_ok T I1 ea hlen fun s' J => ⟨.non, H1, J, rfl, q⟩
end
def inC (i j : Nat) : Stmt := match topS i with
  | .ClassDef _ _ _ body .. => body.getD j (.Pass ⟨0, 0, 0, 0⟩)
  | s => s
abbrev sNt : Stmt := inC 6 0
theorem scNt : FnScope ["self", "row", "at"] ["self", "row", "at"] (defScope sNt) := ⟨rfl, rfl, rfl, by decide +kernel, rfl, by decide +kernel, by decide +kernel⟩
/-- the class NoText at C, CountError at C0 -/
structure NtC (K : PySem.W.Frag) (mg : Str → Option Value) (C C0 fI : Addr) (fdI : FuncData) : Prop where
  T : OexC K C
  nR : PySem.W.findIn K (.ref C) "row" = some none
  nA : PySem.W.findIn K (.ref C) "at" = some none
  iC : PySem.W.findIn K (.ref C) "__init__" = some (some (.ref fI))
  tI : PySem.W.typeIn K (.ref fI) = some (.type "function")
  FI : Fun K "__init__" "NoText.__init__" sNt fI fdI
  bI : Binds K fdI ["self", "row", "at"] []
  gC : mg "NoText" = some (.ref C)
  g0 : mg "CountError" = some (.ref C0)
  s0 : PySem.W.specialIn K (.ref C0) "__getattribute__" = some (some (.builtin "type.__getattribute__"))
  r0 : PySem.W.readsIn K C0 (.type "type") = true
  v0 : PySem.W.findCls K (.ref C0) (.type "type") "__init__" = some (.val (.builtin "ValueError.__init__"))
def spNt (C : Addr) : Sp := fun vs H Q _ => ∃ (a : Addr) (r i : Nat), vs = [.ref a, .int r, .int i] ∧ r ≤ 1000000 ∧ i ≤ 1000000 ∧ H a = some (exo a C none) ∧
  ∀ d H', H d = none → (∀ b, b ≠ a → b ≠ d → H' b = H b) → d ≠ a → H' a = some (exo a C (some d)) → H' d = some (exd d [("at", .int i), ("row", .int r)]) → Q .non H'
section
variable {P : Program} {w : World} {K : PySem.W.Frag} {mg : Str → Option Value} {base : Heap}
theorem num_len {r : Nat} (h : r ≤ 1000000) : (Str.ofString (toString ((r : Nat) : Int))).length ≤ 10 := toString_length_le (by omega) (by decide) (by omega)
theorem num_log {r : Nat} (h : r ≤ 1000000) : ((r : Nat) : Int).natAbs.log2 < 1920 := by
  have h2 : ((r : Nat) : Int).natAbs = r := by omega
  rw [h2]
  by_cases h0 : r = 0
  · subst h0
    decide
  · exact (Nat.log2_lt h0).mpr (Nat.lt_of_le_of_lt h (by decide +kernel))
theorem ok_nt {C C0 fI : Addr} {fdI : FuncData} {k : Nat} (d : NtC K mg C C0 fI fdI) : FnOk P w K mg base CX0 (k + 1) fI fdI ["self", "row", "at"] (spNt C) := by
  refine d.FI.ok scNt (fun vs H Q E h => ?_) (fun cdv A outer s H vs Q E hr h => ?_)
  · obtain ⟨a, r, i, rfl, _⟩ := h
    rfl
  · obtain ⟨a, r, i, rfl, hr1, hi1, ha, q⟩ := h
    have hsl := line_eq
    refine ⟨_, pss_cons (ps_expr (pe_cinit (by rfl) d.g0 d.s0 d.r0 d.v0 (pa_cons (pv 0) (pa_cons (pe_joined (.cons pe_str (.cons (pe_fmt (pv 1)) (.cons pe_str (.cons (pe_fmt (pv 2)) .nil))))) pa_nil))))
      (pss_cons (ps_ost (pv 0) (pv 1)) (pss_one (ps_ost (pv 0) (pv 2)))), ?_⟩
    have l1 := num_len hr1
    have l2 := num_len hi1
    have L := @Str.length_append
    refine ⟨.ref a, rfl, _, rfl, ?_, _, rfl, .inr ⟨_, rfl, num_log hr1, _, rfl, ?_, _, rfl, ?_, _, rfl, .inr ⟨_, rfl, num_log hi1, _, rfl, ?_, ?_⟩⟩⟩
    · decide
    · rw [L, L]
      have e1 : Str.empty.length = 0 := by decide
      have e2 : (Str.ofString "line ").length = 5 := by decide
      omega
    · rw [L, L, L]
      have e1 : Str.empty.length = 0 := by decide
      have e2 : (Str.ofString "line ").length = 5 := by decide
      have e3 : (Str.ofString " breaks off at ").length = 15 := by decide
      omega
    · rw [L, L, L, L]
      have e1 : Str.empty.length = 0 := by decide
      have e2 : (Str.ofString "line ").length = 5 := by decide
      have e3 : (Str.ofString " breaks off at ").length = 15 := by decide
      omega
    · refine ⟨a, C, _, rfl, by show 1 ≤ 1000; decide, d.T, ha, ?_⟩
      refine ⟨_, rfl, .ref a, rfl, a, C, rfl, d.T, d.nR, .inl ⟨ha, fun dx nx ne => ?_⟩⟩
      refine ⟨_, rfl, .ref a, rfl, a, C, rfl, d.T, d.nA, .inr ⟨dx, [("row", .int r)], upd_same, ?_, (by show 1 ≤ 900; decide), ?_⟩⟩
      · rw [upd_ne ne]
        exact upd_same
      · refine q dx _ nx (fun b h1 h2 => ?_) ne ?_ upd_same
        · rw [upd_ne h2, upd_ne h1, upd_ne h2]
        · rw [upd_ne ne.symm]
          exact upd_same
end
end Cv
set_option Elab.async false
set_option linter.all false
set_option maxRecDepth 100000
set_option maxHeartbeats 4000000
namespace Cv
open PySem PySem.Spec PyProof.Rows L2
theorem split_len (x y : Str) : ∀ z ∈ Txt.split x y, z.length ≤ x.length := by
  intro z hz
  unfold Txt.split at hz
  split at hz
  · rw [List.mem_singleton.mp hz]
    exact Nat.le_refl _
  · split at hz
    · rw [List.mem_singleton.mp hz]
      exact Nat.le_refl _
    · unfold Builtin.Str.partsBetween at hz
      obtain ⟨p, _, rfl⟩ := List.mem_map.mp hz
      obtain ⟨i, j⟩ := p
      show (Builtin.Str.strSub x i j).length ≤ x.length
      rw [len_tl, show (Builtin.Str.strSub x i j).cps.toList = _ from TL.tl_strSub x i j, List.length_take, List.length_drop, len_tl x]
      exact Nat.le_trans (Nat.min_le_right _ _) (Nat.sub_le _ _)
/-! ### lines read -/
abbrev sRl : Stmt := topS 19
abbrev nRl : List Str := ["text", "most", "read_line", "things", "row", "line", "thing", "at"]
theorem scRl : FnScope nRl ["text", "most", "read_line"] (defScope sRl) := ⟨rfl, rfl, rfl, by decide +kernel, rfl, by decide +kernel, by decide +kernel⟩
/-- the text breaks off -/
def Broken (C : Addr) (H : Hp) (E : XK) (r i : Nat) : Prop := ∀ H' d, Same H H' → H d = none → H' d = some (.xd [("at", .int i), ("row", .int r)]) → E (.ref C) (some d) H'
def spRl (C fR : Addr) : Sp := fun vs H Q E => ∃ z : Str, vs = [.str z, .int 4, .ref fR] ∧ z.length ≤ 999999 ∧
  (∀ r i, specP (Txt.split z (Str.ofString "\n")) 0 [] = .inl (r, i) → Broken C H E r i) ∧
  (∀ ss, specP (Txt.split z (Str.ofString "\n")) 0 [] = .inr ss → ∀ H' o xs, Same H H' → H o = none → H' o = some (.lst xs) → Paired (SortR H') xs ss → Q (.ref o) H')
theorem paired_snoc {H : Hp} {x : V} {s : Str × List Str} (r : SortR H x s) : ∀ {xs : List V} {ss : List (Str × List Str)}, Paired (SortR H) xs ss → Paired (SortR H) (xs ++ [x]) (ss ++ [s])
  | _, _, .nil => .cons r .nil
  | _, _, .cons a t => .cons a (paired_snoc r t)
section
variable {P : Program} {w : World} {K : PySem.W.Frag} {mg : Str → Option Value} {base : Heap}
theorem ok_rl {f fR C C0 fI : Addr} {fd fdR fdI : FuncData} {k : Nat} (F : Fun K "read_lines" "read_lines" sRl f fd) (n : NtC K mg C C0 fI fdI) (me : mg "enumerate" = none) (GR : FnOk P w K mg base CX0 (k + 4) fR fdR ["line", "ahead"] (spRs K)) (kR : PySem.W.keepIn K (.ref fR) = true) (bR : Binds K fdR ["line", "ahead"] []) :
    FnOk P w K mg base (CX P w) (k + 5) f fd ["text", "most", "read_line"] (spRl C fR) := by
  have GI : FnOk P w K mg base CX0 (k + 3) fI fdI ["self", "row", "at"] (spNt C) := ok_nt n
  refine F.okX scRl (fun vs H Q E h => ?_) (fun cdv A outer s H vs Q E hr h => ?_)
  · obtain ⟨z, rfl, _⟩ := h
    rfl
  · obtain ⟨z, rfl, hz, q1, q2⟩ := h
    have hsl := line_eq
    refine ⟨_, pss_cons (ps_set (i := 3) scRl.nd rfl (.inl rfl) (pe_lst pa_nil))
      (pss_cons (ps_for (passes_of rfl) rfl (pi_enum (by rfl) me (pa_cons (pe_split (pv 0) pe_str) pa_nil)) (pg_tup rfl (pgs_cons (pg_name (i := 4) scRl.nd rfl (.inl rfl)) (pgs_cons (pg_name (i := 5) scRl.nd rfl (.inl rfl)) pgs_nil)))
        (pss_cons (ps_if (pt_cmpR op_eq (pv 4) (pv 1) (nomark _)) (pss_one (ps_raise rfl (takes_of rfl rfl rfl rfl) (pmk_oex n.T n.iC n.tI GI hr n.bI .nil pass0 (by rfl) n.gC (pa_cons (pv 4) (pa_cons pe_int pa_nil))))) pss_nil)
        (pss_cons (ps_asg (pe_callL (i := 2) GR hr rfl (.inl rfl) kR bR .nil pass0 (pa_cons (pv 5) (pa_cons (pv 3) pa_nil))) (pg_tup rfl (pgs_cons (pg_name (i := 6) scRl.nd rfl (.inl rfl)) (pgs_cons (pg_name (i := 7) scRl.nd rfl (.inl rfl)) pgs_nil))))
        (pss_cons (ps_if (pt_cmpR op_isN (pv 6) pe_non (nomark _)) (pss_one (ps_raise rfl (takes_of rfl rfl rfl rfl) (pmk_oex n.T n.iC n.tI GI hr n.bI .nil pass0 (by rfl) n.gC (pa_cons (pv 4) (pa_cons (pv 7) pa_nil))))) pss_nil)
        (pss_one (ps_expr (pe_bm PySem.F.plainAttrs_list PySem.F.slot_list_append PySem.F.type_list_append mt_append (pv 3) (pa_cons (pv 6) pa_nil))))))))
      (pss_one (ps_ret (pv 3)))), ?_⟩
    refine ⟨Nat.zero_le _, fun o no => ?_⟩
    refine ⟨.str z, rfl, ⟨_, rfl⟩, z, _, rfl, rfl, by decide, by omega, fun L nL => ?_⟩
    have hlines := split_len z (Str.ofString "\n")
    generalize Txt.split z (Str.ofString "\n") = zs at q1 q2 hlines
    refine ⟨L, _, rfl, SqL.of upd_same, ?_⟩
    have s1 : Same H (upd H o (.lst [])) := same_upd no
    have nLo : o ≠ L := ne_of_none upd_same nL
    -- a break: NoText(row, i)
    have brk : ∀ (H' : Hp) (r i : Nat), Same H H' → r ≤ 1000000 → i ≤ 1000000 → Broken C H E r i → ∀ a, H' a = none →
        spNt C [.ref a, .int r, .int i] (upd H' a (exo a C none)) (fun v H2 => v = .non ∧ ∃ (d : Addr) (fs : List (Str × V)), H2 a = some (exo a C (some d)) ∧ H2 d = some (exd d fs) ∧ H' d = none ∧ E (.ref C) (some d) (upd (del H2 a) d (.xd fs))) (fun _ _ _ => False) := by
      intro H' r i hS hr1 hi1 hB a na
      refine ⟨a, r, i, rfl, hr1, hi1, upd_same, fun d H2 nd same nda e1 e2 => ⟨rfl, d, _, e1, e2, ?_, ?_⟩⟩
      · rw [upd_ne nda] at nd
        exact nd
      · rw [upd_ne nda] at nd
        refine hB _ d (fun b x e => ?_) (hS.free nd) upd_same
        have h1 : b ≠ a := ne_of_none (hS _ _ e) na
        have h2 : b ≠ d := ne_of_none (hS _ _ e) nd
        rw [upd_ne h2, del_ne h1, same b h1 h2, upd_ne h1]
        exact hS _ _ e
    have keepO : ∀ {H9 : Hp} {xs xs' ys : List V} {ss : List (Str × List Str)}, H9 o = some (.lst xs) → Paired (SortR H9) ys ss → Paired (SortR (upd H9 o (.lst xs'))) ys ss := fun {H9 xs xs' ys ss} e9 h => by
      induction h with
      | nil => exact .nil
      | cons r t ih =>
        obtain ⟨a, b, e, ha, hb⟩ := r
        exact .cons ⟨a, b, e, by rw [upd_ne (ne_of ha e9 (fun z => nomatch z))]; exact ha, by rw [upd_ne (ne_of hb e9 (fun z => nomatch z))]; exact hb⟩ ih
    refine for_it (walk_enum (K := K) (a := L) (xs := zs.map V.str)) (fun i σ H' => ∃ (y4 y5 y6 y7 : Option V) (xs : List V) (ss : List (Str × List Str)), σ = [some (.str z), some (.int 4), some (.ref fR), some (.ref o), y4, y5, y6, y7] ∧ Same H H' ∧ H' L = some (.lst (zs.map V.str)) ∧
        H' o = some (.lst xs) ∧ Paired (SortR H') xs ss ∧ ss.length = i ∧ i ≤ 4 ∧ specP (zs.drop i) i ss = specP zs 0 [])
      ⟨none, none, none, none, [], [], rfl, s1.trans (same_upd nL), upd_same, (same_upd nL) _ _ upd_same, .nil, rfl, Nat.zero_le _, by rw [List.drop_zero]⟩ (fun i σ H' _ h => ?_) (fun i x σ H1 H2 hi h hy => ?_) (fun σ H' h => ?_)
    · obtain ⟨_, _, _, _, _, _, _, _, hL, _⟩ := h
      exact SqL.of hL
    · obtain ⟨y4, y5, y6, y7, xs, ss, rfl, hS, hL, ho, hp, hsl2, h4, hspec⟩ := h
      obtain ⟨T, x1, x2, rfl, nT, rfl, e1, e2⟩ := hy
      have e1' : x1 = .int (i : Nat) := (Option.some.inj e1).symm
      subst e1'
      rw [List.length_map] at hi
      have e2' : x2 = .str zs[i] := by
        have e3 : (zs.map V.str)[i]? = some x2 := e2
        rw [List.getElem?_map, List.getElem?_eq_getElem hi] at e3
        exact (Option.some.inj e3).symm
      subst e2'
      have hzi := hlines zs[i] (List.getElem_mem hi)
      rw [List.drop_eq_getElem_cons hi] at hspec
      generalize zs[i] = zi at hzi hspec
      have sT : Same H1 (upd H1 T (.tup [.int (i : Nat), .str zi])) := same_upd nT
      refine ⟨T, _, rfl, SqT.of upd_same, rfl, _, _, rfl, _, _, rfl, rfl, ?_⟩
      refine ⟨_, rfl, _, rfl, rfl, _, rfl, ite2 (fun e => ?_) (fun e => ?_)⟩
      · have e4 := V.int.inj (of_decide_eq_true e)
        have ei : i = 4 := by omega
        subst ei
        have hB : Broken C H E 4 0 := q1 4 0 hspec.symm
        refine ⟨_, rfl, by show 2 ≤ 1000; decide, fun a na => ?_⟩
        exact brk _ 4 0 (hS.trans sT) (by decide) (by decide) hB a na
      · have e4 : ¬ i = 4 := fun h => e (decide_eq_true (by rw [h]; rfl))
        rw [specP, if_neg e4] at hspec
        have hl := (specS_len zi (ss.map (·.1))).1
        refine ⟨rfl, .str zi, rfl, .ref o, rfl, zi, o, xs, ss, rfl, by omega, SqL.of (sT _ _ ho), sorts_same sT hp, by omega, fun hn H4 t T1 => ?_, fun sx hsx H4 t u T1 hu => ?_⟩
        · obtain ⟨s4, n4, ht⟩ := T1
          have hB : Broken C H E i (specS zi (ss.map (·.1))).1 := q1 _ _ (by
            rw [← hspec]
            cases hq : specS zi (ss.map (·.1)) with
            | mk a b =>
              rw [hq] at hn
              have hn' : b = none := hn
              subst hn'
              rfl)
          refine ⟨t, _, rfl, SqT.of ht, rfl, _, _, rfl, _, _, rfl, rfl, ?_⟩
          refine ⟨_, rfl, rfl, _, rfl, ite2 (fun _ => ?_) (fun e7 => absurd (decide_eq_true rfl) e7)⟩
          refine ⟨_, rfl, _, rfl, by show 2 ≤ 1000; decide, fun a na => ?_⟩
          exact brk _ i _ ((hS.trans sT).trans s4) (by omega) (by omega) hB a na
        · obtain ⟨s4, n4, ht⟩ := T1
          have hnext : specP (zs.drop (i + 1)) (i + 1) (ss ++ [sx]) = specP zs 0 [] := by
            rw [← hspec]
            cases hq : specS zi (ss.map (·.1)) with
            | mk a b =>
              rw [hq] at hsx
              have hn' : b = some sx := hsx
              subst hn'
              rfl
          refine ⟨t, _, rfl, SqT.of ht, rfl, _, _, rfl, _, _, rfl, rfl, ?_⟩
          refine ⟨_, rfl, rfl, _, rfl, ite2 (fun e7 => ?_) (fun _ => ?_)⟩
          · exact absurd (of_decide_eq_true e7) (fun h => nomatch h)
          have hS4 := (hS.trans sT).trans s4
          have ho4 := s4 _ _ (sT _ _ ho)
          have hxl : xs.length = ss.length := Paired.length hp
          refine ⟨.ref o, rfl, .inl ⟨rfl, _, SqL.of ho4⟩, _, rfl, o, _, _, rfl, rfl, ho4, small1000 (by omega), ?_⟩
          refine ⟨_, _, _, _, xs ++ [.ref u], ss ++ [sx], rfl, fun b o' e' => ?_, ?_, upd_same, ?_, ?_, by omega, hnext⟩
          · rw [upd_ne (ne_of_none e' no)]
            exact hS4 _ _ e'
          · rw [upd_ne nLo.symm]
            exact s4 _ _ (sT _ _ hL)
          · exact keepO ho4 (paired_snoc hu (sorts_same s4 (sorts_same sT hp)))
          · rw [List.length_append, hsl2]
            rfl
    · obtain ⟨y4, y5, y6, y7, xs, ss, rfl, hS, hL, ho, hp, hsl2, h4, hspec⟩ := h
      rw [List.length_map, List.drop_of_length_le (Nat.le_refl _)] at hspec
      exact ⟨.ref o, rfl, q2 ss hspec.symm _ o xs hS no ho hp⟩
end
end Cv
set_option Elab.async false
set_option linter.all false
set_option maxRecDepth 100000
set_option maxHeartbeats 4000000
namespace Cv
open PySem PySem.Spec PyProof.Rows L2
/-! ### a plan read -/
abbrev sRp : Stmt := topS 20
theorem scRp : FnScope ["text"] ["text"] (defScope sRp) := ⟨rfl, rfl, rfl, by decide +kernel, rfl, by decide +kernel, by decide +kernel⟩
def spRp (C : Addr) : Sp := fun vs H Q E => ∃ z : Str, vs = [.str z] ∧ z.length ≤ 999999 ∧
  (∀ r i, specP (Txt.split z (Str.ofString "\n")) 0 [] = .inl (r, i) → Broken C H E r i) ∧
  (∀ ss, specP (Txt.split z (Str.ofString "\n")) 0 [] = .inr ss → ∀ H' t xs, Same H H' → H t = none → H' t = some (.tup xs) → Paired (SortR H') xs ss → Q (.ref t) H')
section
variable {P : Program} {w : World} {K : PySem.W.Frag} {mg : Str → Option Value} {base : Heap}
theorem ok_rp {f fL fR C : Addr} {fd fdL : FuncData} {k : Nat} (F : Fun K "read_plan" "read_plan" sRp f fd) (GL : FnOk P w K mg base (CX P w) k fL fdL ["text", "most", "read_line"] (spRl C fR)) (kL : PySem.W.keepIn K (.ref fL) = true) (bL : Binds K fdL ["text", "most", "read_line"] []) (gL : mg "read_lines" = some (.ref fL))
    (gR : mg "read_sort" = some (.ref fR)) (c4 : ∃ t, mg "MOST_SORTS" = some (.int 4 t)) (mt : mg "tuple" = none) : FnOk P w K mg base (CX P w) (k + 1) f fd ["text"] (spRp C) := by
  obtain ⟨t4, c4⟩ := c4
  refine F.okX scRp (fun vs H Q E h => ?_) (fun cdv A outer s H vs Q E hr h => ?_)
  · obtain ⟨z, rfl, _⟩ := h
    rfl
  · obtain ⟨z, rfl, hz, q1, q2⟩ := h
    refine ⟨_, pss_one (ps_ret (pe_callTy call_tuple_of (by rfl) mt (by decide +kernel) (pa_cons (pe_call (E := E) GL hr (by rfl) gL kL bL .nil (passes_call (takes_of rfl rfl rfl rfl) (fun _ _ _ _ h => h)) (pa_cons (pv 0) (pa_cons (pe_glob (v := .int 4) (by rfl) c4 ⟨_, rfl⟩) (pa_cons (pe_glob (v := .ref fR) (by rfl) gR rfl) pa_nil)))) pa_nil))), ?_⟩
    refine ⟨.str z, rfl, z, rfl, hz, q1, fun ss hss H' o xs hS no ho hp => ?_⟩
    exact ⟨o, _, rfl, .inl ⟨SqL.of ho, fun t nt => q2 ss hss _ t xs (hS.trans (same_upd nt)) (hS.free nt) upd_same (sorts_same (same_upd nt) hp)⟩⟩
end
/-! ### list(text) -/
theorem vals_get : ∀ {xs : List V} {us : List Value}, xs.length = us.length → (∀ (j : Nat) (u : Value), us[j]? = some u → ∃ x, xs[j]? = some x ∧ RelV x u) → Vals xs us
  | [], [], _, _ => .nil
  | [], _ :: _, h, _ => by simp at h
  | _ :: _, [], h, _ => by simp at h
  | x :: xs, u :: us, h, f => by
    obtain ⟨y, e, r⟩ := f 0 u rfl
    have ey : x = y := Option.some.inj e
    subst ey
    exact .cons r (vals_get (by simpa using h) fun j v e => by
      obtain ⟨y, e2, r2⟩ := f (j + 1) v (by simpa using e)
      exact ⟨y, by simpa using e2, r2⟩)
theorem call_list_txt {X : Cx} (hc : X.calm = true) : CallR X (.type "list") (fun xs H Q => ∃ z : Str, xs = [.str z] ∧ z.length ≤ sizeLine ∧ ∀ l, H l = none → Q (.ref l) (upd H l (.lst ((z.cps.toList.map fun c => (⟨#[c]⟩ : Str)).map V.str)))) := by
  intro pins s σ H xs us Q I r h
  obtain ⟨z, rfl, hz, q⟩ := h
  obtain ⟨u, rfl, rx⟩ := vals1 r
  obtain ⟨t, rfl⟩ := rx
  refine call_list_str (I.ok.hd hc) z t (hn := hz) fun h' tk acc' c' hk hS' hacc => ?_
  have hv : Vals ((z.cps.toList.map fun c => (⟨#[c]⟩ : Str)).map V.str) acc'.toList := by
    refine vals_get ?_ fun j v e => ?_
    · rw [List.length_map, List.length_map, Array.length_toList, Array.length_toList, hacc.1]
    · obtain ⟨c, u, hc, rfl⟩ := hacc.2 j v (by simpa using e)
      refine ⟨.str ⟨#[c]⟩, ?_, ⟨u, rfl⟩⟩
      rw [List.getElem?_map, List.getElem?_map, Array.getElem?_toList, hc]
      rfl
  refine ⟨.ref s.heap.objs.size, _, I.laid (t' := tk) hk (Nat.le_refl _) (show ObjOk X.prog X.w _ h' _ (.lst _) from ⟨?_, acc'.toList, c', hv, hS'⟩), rfl, q _ (I.hok.fresh (Nat.le_refl _))⟩
  rw [List.length_map, List.length_map, ← len_tl]
  exact hz
def abcs : Str := "abcdefghijklmnopqrstuvwxyz"
theorem abcs_eq : abcs.cps.toList = (List.range 26).map (· + 97) := by decide +kernel
theorem abcs_mem (c : Nat) : c ∈ abcs.cps.toList ↔ isL c = true := by
  rw [abcs_eq, List.mem_map]
  unfold isL
  rw [Bool.and_eq_true, decide_eq_true_iff, decide_eq_true_iff]
  constructor
  · rintro ⟨a, ha, rfl⟩
    have := List.mem_range.mp ha
    omega
  · intro ⟨h1, h2⟩
    exact ⟨c - 97, List.mem_range.mpr (by omega), by omega⟩
theorem in_abcs (z : Str) (i : Nat) : inV (.str (S z i (i + 1))) ((abcs.cps.toList.map fun c => (⟨#[c]⟩ : Str)).map V.str) = letAt z i := by
  rw [inV_str, Bool.eq_iff_iff, decide_eq_true_iff, List.mem_map]
  unfold letAt
  cases e : z.cps.toList[i]? with
  | none =>
    have hl : z.length ≤ i := by
      rw [len_tl]
      exact List.getElem?_eq_none_iff.mp e
    rw [S_beyond z hl]
    constructor
    · rintro ⟨c, _, h⟩
      have h2 := congrArg (fun x : Str => x.cps.toList.length) h
      exact absurd h2 (by decide +revert)
    · intro h
      cases h
  | some c =>
    rw [S_one z e]
    constructor
    · rintro ⟨c', hc, h⟩
      rw [← one_inj h]
      exact (abcs_mem c').mp hc
    · intro h
      exact ⟨c, (abcs_mem c).mpr h, rfl⟩
/-! ### the law's end of a word -/
abbrev sLw : Stmt := topS 30
theorem scLw : FnScope ["_law_line", "_law_at", "_law_most", "_law_known", "_law_begin"] ["_law_line", "_law_at", "_law_most", "_law_known"] (defScope sLw) := ⟨rfl, rfl, rfl, by decide +kernel, rfl, by decide +kernel, by decide +kernel⟩
def optV : Option Str → V
  | none => .non
  | some x => .str x
def TellsL (H H' : Hp) (t : Addr) (e : Nat) (v : V) : Prop := Same H H' ∧ H t = none ∧ H' t = some (.lst [.int e, v])
def spLw (K : PySem.W.Frag) : Sp := fun vs H Q _ => ∃ (z : Str) (b m : Nat) (l : Addr) (tk : List Str), vs = [.str z, .int b, .int m, .ref l] ∧ z.length ≤ 1000000 ∧ b ≤ z.length ∧ 1 ≤ m ∧ m ≤ 8 ∧ SqL K H l (tk.map V.str) ∧
  ∀ H' t, TellsL H H' t (specW z b m tk).1 (optV (specW z b m tk).2) → Q (.ref t) H'
section
variable {P : Program} {w : World} {K : PySem.W.Frag} {mg : Str → Option Value} {base : Heap}
theorem ok_lw {f : Addr} {fd : FuncData} {k : Nat} (F : Fun K "_law_word_end" "_law_word_end" sLw f fd) (mli : mg "list" = none) : FnOk P w K mg base CX0 (k + 1) f fd ["_law_line", "_law_at", "_law_most", "_law_known"] (spLw K) := by
  refine F.ok scLw (fun vs H Q E h => ?_) (fun cdv A outer s H vs Q E hr h => ?_)
  · obtain ⟨z, b, m, l, tk, rfl, _⟩ := h
    rfl
  · obtain ⟨z, b, m, l, tk, rfl, hz, hb, m1, m8, hl, q⟩ := h
    have hsl := line_eq
    have hz' : z.length ≤ sizeLine := by omega
    refine ⟨_, pss_cons (ps_set (i := 4) scLw.nd rfl (.inl rfl) (pv 1))
      (pss_cons (ps_while PassesOwn.never (PW.pt (pw_and (pt_cmpR op_in_seq (pe_slice sl_str (pv 0) (po_some (pv 1)) (po_some (pe_op op_add (pv 1) pe_int))) (pe_callTy (call_list_txt rfl) (by rfl) mli (by decide +kernel) (pa_cons pe_str pa_nil)) rfl)
          (pw_and1 (pt_cmpR op_lt (pe_op op_sub (pv 1) (pv 4)) (pv 2) (nomark _)))))
        (pss_cons (ps_if (PW.pt (pw_and (pt_cmpR op_eq (pe_op op_sub (pv 1) (pv 4)) (pe_op op_sub (pv 2) pe_int) (nomark _)) (pw_and1 (pt_cmpR op_in_seq (pe_slice sl_str (pv 0) (po_some (pv 4)) (po_some (pe_op op_add (pv 1) pe_int))) (pv 3) rfl))))
          (pss_one (ps_ret (pe_lst (pa_cons (pv 1) (pa_cons pe_non pa_nil))))) pss_nil)
        (pss_one (ps_set (i := 1) scLw.nd rfl (.inl rfl) (pe_op op_add (pv 1) pe_int)))))
      (pss_cons (ps_if (PW.pt (pw_or (pt_cmpR op_eq (pv 1) (pv 4) (nomark _)) (pw_or1 (pt_cmpR op_in_seq (pe_slice sl_str (pv 0) (po_some (pv 4)) (po_some (pv 1))) (pv 3) rfl))))
        (pss_one (ps_ret (pe_lst (pa_cons (pv 1) (pa_cons pe_non pa_nil))))) pss_nil)
      (pss_one (ps_ret (pe_lst (pa_cons (pv 1) (pa_cons (pe_slice sl_str (pv 0) (po_some (pv 4)) (po_some (pv 1))) pa_nil))))))), ?_⟩
    refine ⟨.int b, rfl, fun μ σ H' => ∃ j : Nat, σ = [some (.str z), some (.int ((b + j : Nat) : Int)), some (.int m), some (.ref l), some (.int b)] ∧ Same H H' ∧ j ≤ m ∧ μ = m - j ∧ b + j ≤ z.length ∧ runE z (b + j) (m - j) = runE z b m ∧ (j = m → S z b (b + m) ∉ tk),
      ⟨m, 0, rfl, Same.refl H, Nat.zero_le _, rfl, hb, rfl, fun h => by omega⟩, fun μ σ H' hW => ?_⟩
    obtain ⟨j, rfl, hS, hj, rfl, hbl, hrun, hfull⟩ := hW
    refine ⟨.str z, rfl, _, rfl, _, rfl, _, rfl, _, _, rfl, rfl, _, rfl, z, rfl, hz', abcs, rfl, by decide, fun L nL => ?_⟩
    have s1 := hS.trans (same_upd nL (o := .lst ((abcs.cps.toList.map fun c => (⟨#[c]⟩ : Str)).map V.str)))
    have hl1 := s1.seq hl
    have hin := in_abcs z (b + j)
    refine ⟨L, _, rfl, .inl (SqL.of upd_same), rfl, flat_strs _, _, rfl, ite2 (fun e => ?_) (fun e => ?_)⟩
    · have e1 : letAt z (b + j) = true := hin.symm.trans e
      have hlt := letAt_lt e1
      refine ⟨_, rfl, _, rfl, _, _, rfl, rfl, _, rfl, _, _, rfl, rfl, _, rfl, ite2 (fun e2 => ?_) (fun e2 => ?_)⟩
      · have e3 := of_decide_eq_true e2
        have hin3 := inV_str (S z b (b + j + 1)) tk
        refine ⟨fun σ' H'' => σ' = [some (.str z), some (.int ((b + j + 1 : Nat) : Int)), some (.int m), some (.ref l), some (.int b)] ∧ Same H H'' ∧ (j + 1 = m → S z b (b + m) ∉ tk), fun σ' H'' hN => ?_, ?_⟩
        · obtain ⟨rfl, hS2, hf2⟩ := hN
          refine ⟨m - (j + 1), by omega, j + 1, rfl, hS2, by omega, rfl, by omega, ?_, hf2⟩
          rw [← hrun, show m - j = (m - (j + 1)) + 1 by omega, runE_step e1]
          rfl
        · refine ⟨_, rfl, _, rfl, _, _, rfl, rfl, _, rfl, _, _, rfl, rfl, rfl, _, rfl, ite2 (fun e4 => ?_) (fun e4 => ?_)⟩
          · have e5 := V.int.inj (of_decide_eq_true e4)
            have ej : j + 1 = m := by omega
            refine ⟨.str z, rfl, _, rfl, _, rfl, _, rfl, _, _, rfl, rfl, _, rfl, z, rfl, hz', .ref l, rfl, l, _, rfl, .inl hl1, rfl, flat_strs tk, _, rfl, ite2 (fun e6 => ?_) (fun e6 => ?_)⟩
            · have e7 : S z b (b + j + 1) ∈ tk := of_decide_eq_true (hin3.symm.trans e6)
              have hR : runE z b m = b + j + 1 := by
                rw [← hrun, show m - j = 0 + 1 by omega, runE_step e1]
                rfl
              have hsp : specW z b m tk = (b + j, none) := by
                unfold specW
                rw [hR, if_pos ⟨by omega, e7⟩]
                rfl
              refine ⟨_, rfl, (by show 2 ≤ sizeLine; decide), fun t nt => ?_⟩
              exact q _ t ⟨s1.trans (same_upd nt), s1.free nt, by rw [hsp]; exact upd_same⟩
            · have e7 : S z b (b + j + 1) ∉ tk := fun h => e6 (hin3.trans (decide_eq_true h))
              exact ⟨_, rfl, _, _, rfl, rfl, rfl, s1, fun h => by rw [← h]; exact e7⟩
          · have e5 : ¬ j + 1 = m := fun h => e4 (decide_eq_true (congrArg V.int (by omega)))
            exact iteF ⟨_, rfl, _, _, rfl, rfl, rfl, s1, fun h => absurd h e5⟩
      · have e3 : ¬ (((b + j : Nat) : Int) - b < m) := fun h => e2 (decide_eq_true h)
        have ej : m - j = 0 := by omega
        rw [ej] at hrun
        have hE : b + j = runE z b m := hrun
        have hsp : specW z b m tk = if b + j = b ∨ S z b (b + j) ∈ tk then (b + j, none) else (b + j, some (S z b (b + j))) := by
          unfold specW
          rw [← hE, if_neg]
          intro h
          have ej : j = m := by omega
          subst ej
          exact hfull rfl h.2
        have hin2 := inV_str (S z b (b + j)) tk
        refine ⟨_, rfl, _, rfl, rfl, _, rfl, ite2 (fun e9 => ?_) (fun e9 => ?_)⟩
        · have e10 := V.int.inj (of_decide_eq_true e9)
          rw [if_pos (.inl (by omega))] at hsp
          refine iteT ⟨_, rfl, (by show 2 ≤ sizeLine; decide), fun t nt => ?_⟩
          exact q _ t ⟨s1.trans (same_upd nt), s1.free nt, by rw [hsp]; exact upd_same⟩
        · have e10 : ¬ (b + j = b) := fun h => e9 (decide_eq_true (by rw [h]))
          refine ⟨.str z, rfl, _, rfl, _, rfl, _, rfl, _, rfl, z, rfl, hz', .ref l, rfl, l, _, rfl, .inl hl1, rfl, flat_strs tk, _, rfl, ite2 (fun e11 => ?_) (fun e11 => ?_)⟩
          · have e12 : S z b (b + j) ∈ tk := of_decide_eq_true (hin2.symm.trans e11)
            rw [if_pos (.inr e12)] at hsp
            refine ⟨_, rfl, (by show 2 ≤ sizeLine; decide), fun t nt => ?_⟩
            exact q _ t ⟨s1.trans (same_upd nt), s1.free nt, by rw [hsp]; exact upd_same⟩
          · have e12 : S z b (b + j) ∉ tk := fun h => e11 (hin2.trans (decide_eq_true h))
            rw [if_neg (fun h => h.elim e10 e12)] at hsp
            refine ⟨_, rfl, .str z, rfl, _, rfl, _, rfl, _, rfl, _, rfl, z, rfl, hz', (by show 2 ≤ sizeLine; decide), fun t nt => ?_⟩
            exact q _ t ⟨s1.trans (same_upd nt), s1.free nt, by rw [hsp]; exact upd_same⟩
    · have e1 : letAt z (b + j) = false := by
        rw [← hin]
        exact Bool.eq_false_iff.mpr e
      rw [runE_stop e1] at hrun
      have hE : b + j = runE z b m := hrun
      have hsp : specW z b m tk = if b + j = b ∨ S z b (b + j) ∈ tk then (b + j, none) else (b + j, some (S z b (b + j))) := by
        unfold specW
        rw [← hE, if_neg]
        intro h
        have ej : j = m := by omega
        subst ej
        exact hfull rfl h.2
      have hin2 := inV_str (S z b (b + j)) tk
      refine iteF ⟨_, rfl, _, rfl, rfl, _, rfl, ite2 (fun e9 => ?_) (fun e9 => ?_)⟩
      · have e10 := V.int.inj (of_decide_eq_true e9)
        rw [if_pos (.inl (by omega))] at hsp
        refine iteT ⟨_, rfl, (by show 2 ≤ sizeLine; decide), fun t nt => ?_⟩
        exact q _ t ⟨s1.trans (same_upd nt), s1.free nt, by rw [hsp]; exact upd_same⟩
      · have e10 : ¬ (b + j = b) := fun h => e9 (decide_eq_true (by rw [h]))
        refine ⟨.str z, rfl, _, rfl, _, rfl, _, rfl, _, rfl, z, rfl, hz', .ref l, rfl, l, _, rfl, .inl hl1, rfl, flat_strs tk, _, rfl, ite2 (fun e11 => ?_) (fun e11 => ?_)⟩
        · have e12 : S z b (b + j) ∈ tk := of_decide_eq_true (hin2.symm.trans e11)
          rw [if_pos (.inr e12)] at hsp
          refine ⟨_, rfl, (by show 2 ≤ sizeLine; decide), fun t nt => ?_⟩
          exact q _ t ⟨s1.trans (same_upd nt), s1.free nt, by rw [hsp]; exact upd_same⟩
        · have e12 : S z b (b + j) ∉ tk := fun h => e11 (hin2.trans (decide_eq_true h))
          rw [if_neg (fun h => h.elim e10 e12)] at hsp
          refine ⟨_, rfl, .str z, rfl, _, rfl, _, rfl, _, rfl, _, rfl, z, rfl, hz', (by show 2 ≤ sizeLine; decide), fun t nt => ?_⟩
          exact q _ t ⟨s1.trans (same_upd nt), s1.free nt, by rw [hsp]; exact upd_same⟩
end
end Cv
set_option Elab.async false
set_option linter.all false
set_option maxRecDepth 100000
set_option maxHeartbeats 4000000
namespace Cv
open PySem PySem.Spec PyProof.Rows L2
theorem ndT {p : Prop} [Decidable p] (h : (!decide p) = true) : ¬ p := fun hp => by
  rw [decide_eq_true hp] at h
  cases h
theorem ndF {p : Prop} [Decidable p] (h : ¬ (!decide p) = true) : p := by
  by_cases hp : p
  · exact hp
  · rw [decide_eq_false hp] at h
    exact absurd rfl h
/-! ### the law's sort -/
abbrev sLs : Stmt := topS 31
abbrev nLs : List Str := ["_law_line", "_law_names", "_law_at", "_law_name", "_law_codes_here", "_law_code"]
theorem scLs : FnScope nLs ["_law_line", "_law_names"] (defScope sLs) := ⟨rfl, rfl, rfl, by decide +kernel, rfl, by decide +kernel, by decide +kernel⟩
def spLs (K : PySem.W.Frag) : Sp := fun vs H Q _ => ∃ (z : Str) (l : Addr) (ns : List Str), vs = [.str z, .ref l] ∧ z.length ≤ 1000000 ∧ SqL K H l (ns.map V.str) ∧
  ((specS z ns).2 = none → ∀ H' t, TellsL H H' t (specS z ns).1 .non → Q (.ref t) H') ∧
  (∀ s, (specS z ns).2 = some s → ∀ H' t u, TellsL H H' t (specS z ns).1 (.ref u) → SortR H' (.ref u) s → Q (.ref t) H')
section
variable {P : Program} {w : World} {K : PySem.W.Frag} {mg : Str → Option Value} {base : Heap}
theorem ok_ls {f fW : Addr} {fd fdW : FuncData} {k : Nat} (F : Fun K "_law_sort" "_law_sort" sLs f fd) (FW : Fun K "_law_word_end" "_law_word_end" sLw fW fdW) (bW : Binds K fdW ["_law_line", "_law_at", "_law_most", "_law_known"] []) (gW : mg "_law_word_end" = some (.ref fW)) (mli : mg "list" = none) (ml : mg "len" = none) (mt : mg "tuple" = none) :
    FnOk P w K mg base CX0 (k + 2) f fd ["_law_line", "_law_names"] (spLs K) := by
  have GW : FnOk P w K mg base CX0 (k + 1) fW fdW ["_law_line", "_law_at", "_law_most", "_law_known"] (spLw K) := ok_lw FW mli
  refine F.ok scLs (fun vs H Q E h => ?_) (fun cdv A outer s H vs Q E hr h => ?_)
  · obtain ⟨z, l, ns, rfl, _⟩ := h
    rfl
  · obtain ⟨z, l, ns, rfl, hz, hl, q1, q2⟩ := h
    have hsl := line_eq
    have hz' : z.length ≤ sizeLine := by omega
    refine ⟨_, pss_cons (ps_asg (pe_call GW hr (by rfl) gW FW.kp bW .nil pass0 (pa_cons (pv 0) (pa_cons pe_int (pa_cons pe_int (pa_cons (pv 1) pa_nil))))) (pg_lst rfl (pgs_cons (pg_name (i := 2) scLs.nd rfl (.inl rfl)) (pgs_cons (pg_name (i := 3) scLs.nd rfl (.inl rfl)) pgs_nil))))
      (pss_cons (ps_if (pt_cmpR op_isN (pv 3) pe_non (nomark _)) (pss_one (ps_ret (pe_lst (pa_cons (pv 2) (pa_cons pe_non pa_nil))))) pss_nil)
      (pss_cons (ps_if (pt_cmpR op_ne (pe_slice sl_str (pv 0) (po_some (pv 2)) (po_some (pe_op op_add (pv 2) pe_int))) pe_str (nomark _)) (pss_one (ps_ret (pe_lst (pa_cons (pv 2) (pa_cons pe_non pa_nil))))) pss_nil)
      (pss_cons (ps_set (i := 2) scLs.nd rfl (.inl rfl) (pe_op op_add (pv 2) pe_int))
      (pss_cons (ps_set (i := 4) scLs.nd rfl (.inl rfl) (pe_lst pa_nil))
      (pss_cons (ps_while PassesOwn.never (PW.pt (pw_or (pt_cmpR op_lt (pe_callB call_len_seq (by rfl) ml PySem.boot_len (pa_cons (pv 4) pa_nil)) pe_int (nomark _)) (pw_or1 (pt_cmpR op_lt (pv 2) (pe_callB call_len_str (by rfl) ml PySem.boot_len (pa_cons (pv 0) pa_nil)) (nomark _)))))
        (pss_cons (ps_if (PW.pt (pw_or (pt_cmpR op_eq (pe_callB call_len_seq (by rfl) ml PySem.boot_len (pa_cons (pv 4) pa_nil)) pe_int (nomark _)) (pw_or1 (pt_cmpR op_ne (pe_slice sl_str (pv 0) (po_some (pv 2)) (po_some (pe_op op_add (pv 2) pe_int))) pe_str (nomark _)))))
          (pss_one (ps_ret (pe_lst (pa_cons (pv 2) (pa_cons pe_non pa_nil))))) pss_nil)
        (pss_cons (ps_asg (pe_call GW hr (by rfl) gW FW.kp bW .nil pass0 (pa_cons (pv 0) (pa_cons (pe_op op_add (pv 2) pe_int) (pa_cons pe_int (pa_cons (pv 4) pa_nil))))) (pg_lst rfl (pgs_cons (pg_name (i := 2) scLs.nd rfl (.inl rfl)) (pgs_cons (pg_name (i := 5) scLs.nd rfl (.inl rfl)) pgs_nil))))
        (pss_cons (ps_if (pt_cmpR op_isN (pv 5) pe_non (nomark _)) (pss_one (ps_ret (pe_lst (pa_cons (pv 2) (pa_cons pe_non pa_nil))))) pss_nil)
        (pss_one (ps_expr (pe_bm PySem.F.plainAttrs_list PySem.F.slot_list_append PySem.F.type_list_append mt_append (pv 4) (pa_cons (pv 5) pa_nil))))))))
      (pss_one (ps_ret (pe_lst (pa_cons (pv 2) (pa_cons (pe_tup (pa_cons (pv 3) (pa_cons (pe_callTy call_tuple_of (by rfl) mt (by decide +kernel) (pa_cons (pv 4) pa_nil)) pa_nil))) pa_nil)))))))))), ?_⟩
    obtain ⟨w1, w2, w3⟩ := specW_cases z 0 8 ns (by decide) (Nat.zero_le _)
    refine ⟨.str z, rfl, .ref l, rfl, z, 0, 8, l, ns, rfl, hz, Nat.zero_le _, by decide, by decide, hl, fun H1 t1 T1 => ?_⟩
    generalize hsw : specW z 0 8 ns = sw at w1 w2 w3 T1
    obtain ⟨a, r⟩ := sw
    obtain ⟨s1, n1, ht1⟩ := T1
    refine ⟨t1, _, rfl, SqL.of ht1, rfl, _, _, rfl, _, _, rfl, rfl, ?_⟩
    refine ⟨_, rfl, rfl, _, rfl, ite2 (fun e => ?_) (fun e => ?_)⟩
    · have e1 := of_decide_eq_true e
      cases r with
      | some c => exact absurd e1 (fun h => nomatch h)
      | none =>
        have hE := specS_none hsw
        refine ⟨_, rfl, (by show 2 ≤ sizeLine; decide), fun t nt => ?_⟩
        exact q1 (by rw [hE]) _ t ⟨s1.trans (same_upd nt), s1.free nt, by rw [hE]; exact upd_same⟩
    cases r with
    | none => exact absurd (decide_eq_true rfl) e
    | some c =>
    refine ⟨.str z, rfl, _, rfl, _, rfl, _, rfl, _, _, rfl, rfl, _, rfl, z, rfl, hz', rfl, _, rfl, ite2 (fun e5 => ?_) (fun e5 => ?_)⟩
    · have e6 : S z a (a + 1) ≠ Str.ofString ":" := fun h => ndT e5 (congrArg V.str h)
      have hE := specS_not hsw e6
      refine ⟨_, rfl, (by show 2 ≤ sizeLine; decide), fun t nt => ?_⟩
      exact q1 (by rw [hE]) _ t ⟨s1.trans (same_upd nt), s1.free nt, by rw [hE]; exact upd_same⟩
    have e6 : S z a (a + 1) = Str.ofString ":" := V.str.inj (ndF e5)
    have hlt := sign_lt e6 (by decide)
    refine ⟨_, rfl, _, _, rfl, rfl, Nat.zero_le _, fun o no => ?_⟩
    have so := s1.trans (same_upd no (o := .lst []))
    refine ⟨fun μ σ H' => ∃ (cs : List Str) (i : Nat) (y5 : Option V), σ = [some (.str z), some (.ref l), some (.int i), some (.str c), some (.ref o), y5] ∧ H' o = some (.lst (cs.map V.str)) ∧ cs.length ≤ 6 ∧ μ = 6 - cs.length ∧ i ≤ z.length ∧ Same H H' ∧ specC z (6 - cs.length) cs i = specC z 6 [] (a + 1),
      ⟨6, [], a + 1, none, rfl, upd_same, by decide, rfl, hlt, so, rfl⟩, fun μ σ H' hW => ?_⟩
    obtain ⟨cs, i, y5, rfl, ho, h6, rfl, hi, hS, hR⟩ := hW
    have no' : H o = none := s1.free no
    -- nothing goes on
    have bad : ∀ (b : Nat) (H9 : Hp), Same H H9 → specC z 6 [] (a + 1) = (b, none) → ∀ t, H9 t = none → Q (.ref t) (upd H9 t (.lst [.int b, .non])) := fun b H9 h9 e9 t nt => by
      have hE := specS_bad hsw e6 e9
      exact q1 (by rw [hE]) _ t ⟨h9.trans (same_upd nt), h9.free nt, by rw [hE]; exact upd_same⟩
    refine ⟨.ref o, rfl, o, _, rfl, .inl (SqL.of ho), _, _, rfl, rfl, _, rfl, ite2 (fun e1 => ?_) (fun e1 => ?_)⟩
    · have e2 := of_decide_eq_true e1
      rw [List.length_map] at e2
      have hend : endC z cs i = (i, none) := if_pos (.inr (by omega))
      refine iteT ⟨fun σ' H'' => ∃ (cs' : List Str) (i' : Nat) (y5 : Option V), σ' = [some (.str z), some (.ref l), some (.int i'), some (.str c), some (.ref o), y5] ∧ H'' o = some (.lst (cs'.map V.str)) ∧ cs'.length = cs.length + 1 ∧ cs.length < 6 ∧ i' ≤ z.length ∧ Same H H'' ∧ specC z (6 - cs'.length) cs' i' = specC z 6 [] (a + 1), fun σ' H'' hN => ?_, ?_⟩
      · obtain ⟨cs', i', y5', rfl, g1, g2, g2', g3, g4, g5⟩ := hN
        exact ⟨6 - cs'.length, by omega, cs', i', y5', rfl, g1, by omega, rfl, g3, g4, g5⟩
      · refine ⟨.ref o, rfl, o, _, rfl, .inl (SqL.of ho), rfl, _, rfl, ite2 (fun e3 => ?_) (fun e3 => ?_)⟩
        · have e4 := V.int.inj (of_decide_eq_true e3)
          rw [List.length_map] at e4
          have hR2 : specC z 6 [] (a + 1) = (i, none) := by
            rw [← hR, show 6 - cs.length = 0 by omega]
            exact hend
          exact iteT ⟨_, rfl, (by show 2 ≤ sizeLine; decide), fun t nt => bad i H' hS hR2 t nt⟩
        · have e4 : ¬ cs.length = 6 := fun h => e3 (decide_eq_true (congrArg V.int (by rw [List.length_map, h]; rfl)))
          refine ⟨.str z, rfl, _, rfl, _, rfl, _, rfl, _, _, rfl, rfl, _, rfl, z, rfl, hz', rfl, _, rfl, ite2 (fun e7 => ?_) (fun e7 => ?_)⟩
          · have e8 : S z i (i + 1) ≠ Str.ofString " " := fun h => ndT e7 (congrArg V.str h)
            have hR2 : specC z 6 [] (a + 1) = (i, none) := by
              rw [← hR, specC_stop e8]
              exact hend
            exact ⟨_, rfl, (by show 2 ≤ sizeLine; decide), fun t nt => bad i H' hS hR2 t nt⟩
          · have e8 : S z i (i + 1) = Str.ofString " " := V.str.inj (ndF e7)
            have hlt2 := sign_lt e8 (by decide)
            obtain ⟨v1, v2, v3⟩ := specW_cases z (i + 1) 4 cs (by decide) hlt2
            have hgo := hR
            rw [show 6 - cs.length = (6 - (cs.length + 1)) + 1 by omega, specC_go e8] at hgo
            refine ⟨.str z, rfl, _, rfl, _, _, rfl, rfl, .ref o, rfl, z, i + 1, 4, o, cs, rfl, hz, hlt2, by decide, by decide, SqL.of ho, fun H2 t2 T2 => ?_⟩
            generalize hsw2 : specW z (i + 1) 4 cs = sw2 at v1 v2 v3 T2 hgo
            obtain ⟨a2, r2⟩ := sw2
            obtain ⟨s2, n2, ht2⟩ := T2
            refine ⟨t2, _, rfl, SqL.of ht2, rfl, _, _, rfl, _, _, rfl, rfl, ?_⟩
            refine ⟨_, rfl, rfl, _, rfl, ite2 (fun e9 => ?_) (fun e9 => ?_)⟩
            · have e10 := of_decide_eq_true e9
              cases r2 with
              | some c2 => exact absurd e10 (fun h => nomatch h)
              | none => exact ⟨_, rfl, (by show 2 ≤ sizeLine; decide), fun t nt => bad a2 H2 (hS.trans s2) hgo.symm t nt⟩
            · cases r2 with
              | none => exact absurd (decide_eq_true rfl) e9
              | some c2 =>
                have ho2 := s2 _ _ ho
                refine ⟨.ref o, rfl, .inl ⟨rfl, _, SqL.of ho2⟩, _, rfl, o, _, _, rfl, rfl, ho2, ?_, cs ++ [c2], a2, _, rfl, ?_, ?_, by omega, v2, ?_, ?_⟩
                · rw [List.length_map]
                  exact small1000 (by omega)
                · rw [upd_same, List.map_append]
                  rfl
                · rw [List.length_append]
                  rfl
                · intro b' o' e'
                  rw [upd_ne (ne_of_none e' no')]
                  exact s2 _ _ (hS _ _ e')
                · rw [show 6 - (cs ++ [c2]).length = 6 - (cs.length + 1) by rw [List.length_append]; rfl]
                  exact hgo
    · have e2 : ¬ (((cs.map V.str).length : Int) < 2) := fun h => e1 (decide_eq_true h)
      rw [List.length_map] at e2
      refine ⟨_, rfl, .str z, rfl, z, rfl, hz', _, _, rfl, rfl, _, rfl, ite2 (fun e11 => ?_) (fun e11 => ?_)⟩
      · have e12 := of_decide_eq_true e11
        have hend : endC z cs i = (i, none) := if_pos (.inl (by omega))
        refine ⟨fun σ' H'' => ∃ (cs' : List Str) (i' : Nat) (y5 : Option V), σ' = [some (.str z), some (.ref l), some (.int i'), some (.str c), some (.ref o), y5] ∧ H'' o = some (.lst (cs'.map V.str)) ∧ cs'.length = cs.length + 1 ∧ cs.length < 6 ∧ i' ≤ z.length ∧ Same H H'' ∧ specC z (6 - cs'.length) cs' i' = specC z 6 [] (a + 1), fun σ' H'' hN => ?_, ?_⟩
        · obtain ⟨cs', i', y5', rfl, g1, g2, g2', g3, g4, g5⟩ := hN
          exact ⟨6 - cs'.length, by omega, cs', i', y5', rfl, g1, by omega, rfl, g3, g4, g5⟩
        · refine ⟨.ref o, rfl, o, _, rfl, .inl (SqL.of ho), rfl, _, rfl, ite2 (fun e3 => ?_) (fun e3 => ?_)⟩
          · have e4 := V.int.inj (of_decide_eq_true e3)
            rw [List.length_map] at e4
            have hR2 : specC z 6 [] (a + 1) = (i, none) := by
              rw [← hR, show 6 - cs.length = 0 by omega]
              exact hend
            exact iteT ⟨_, rfl, (by show 2 ≤ sizeLine; decide), fun t nt => bad i H' hS hR2 t nt⟩
          · have e4 : ¬ cs.length = 6 := fun h => e3 (decide_eq_true (congrArg V.int (by rw [List.length_map, h]; rfl)))
            refine ⟨.str z, rfl, _, rfl, _, rfl, _, rfl, _, _, rfl, rfl, _, rfl, z, rfl, hz', rfl, _, rfl, ite2 (fun e7 => ?_) (fun e7 => ?_)⟩
            · have e8 : S z i (i + 1) ≠ Str.ofString " " := fun h => ndT e7 (congrArg V.str h)
              have hR2 : specC z 6 [] (a + 1) = (i, none) := by
                rw [← hR, specC_stop e8]
                exact hend
              exact ⟨_, rfl, (by show 2 ≤ sizeLine; decide), fun t nt => bad i H' hS hR2 t nt⟩
            · have e8 : S z i (i + 1) = Str.ofString " " := V.str.inj (ndF e7)
              have hlt2 := sign_lt e8 (by decide)
              obtain ⟨v1, v2, v3⟩ := specW_cases z (i + 1) 4 cs (by decide) hlt2
              have hgo := hR
              rw [show 6 - cs.length = (6 - (cs.length + 1)) + 1 by omega, specC_go e8] at hgo
              refine ⟨.str z, rfl, _, rfl, _, _, rfl, rfl, .ref o, rfl, z, i + 1, 4, o, cs, rfl, hz, hlt2, by decide, by decide, SqL.of ho, fun H2 t2 T2 => ?_⟩
              generalize hsw2 : specW z (i + 1) 4 cs = sw2 at v1 v2 v3 T2 hgo
              obtain ⟨a2, r2⟩ := sw2
              obtain ⟨s2, n2, ht2⟩ := T2
              refine ⟨t2, _, rfl, SqL.of ht2, rfl, _, _, rfl, _, _, rfl, rfl, ?_⟩
              refine ⟨_, rfl, rfl, _, rfl, ite2 (fun e9 => ?_) (fun e9 => ?_)⟩
              · have e10 := of_decide_eq_true e9
                cases r2 with
                | some c2 => exact absurd e10 (fun h => nomatch h)
                | none => exact ⟨_, rfl, (by show 2 ≤ sizeLine; decide), fun t nt => bad a2 H2 (hS.trans s2) hgo.symm t nt⟩
              · cases r2 with
                | none => exact absurd (decide_eq_true rfl) e9
                | some c2 =>
                  have ho2 := s2 _ _ ho
                  refine ⟨.ref o, rfl, .inl ⟨rfl, _, SqL.of ho2⟩, _, rfl, o, _, _, rfl, rfl, ho2, ?_, cs ++ [c2], a2, _, rfl, ?_, ?_, by omega, v2, ?_, ?_⟩
                  · rw [List.length_map]
                    exact small1000 (by omega)
                  · rw [upd_same, List.map_append]
                    rfl
                  · rw [List.length_append]
                    rfl
                  · intro b' o' e'
                    rw [upd_ne (ne_of_none e' no')]
                    exact s2 _ _ (hS _ _ e')
                  · rw [show 6 - (cs ++ [c2]).length = 6 - (cs.length + 1) by rw [List.length_append]; rfl]
                    exact hgo
      · have e12 : ¬ ((i : Int) < z.length) := fun h => e11 (decide_eq_true h)
        have hR2 : specC z 6 [] (a + 1) = (i, some cs) := by
          rw [← hR, specC_stop (fun h => e12 (by have := sign_lt h (by decide); omega))]
          exact if_neg (by omega)
        have hE := specS_good hsw e6 hR2
        refine ⟨_, rfl, _, rfl, .ref o, rfl, o, _, rfl, .inl ⟨SqL.of ho, fun u nu => ?_⟩⟩
        refine ⟨(by show 2 ≤ sizeLine; decide), fun v nv => ?_⟩
        refine ⟨(by show 2 ≤ sizeLine; decide), fun t nt => ?_⟩
        have sv := (hS.trans (same_upd nu (o := .tup (cs.map V.str)))).trans (same_upd nv (o := .tup [.str c, .ref u]))
        exact q2 _ (by rw [hE]) _ t v ⟨sv.trans (same_upd nt), sv.free nt, by rw [hE]; exact upd_same⟩ ⟨v, u, rfl, (same_upd nt) _ _ upd_same, (same_upd nt) _ _ ((same_upd nv) _ _ upd_same)⟩
end
end Cv
set_option Elab.async false
set_option linter.all false
set_option maxRecDepth 100000
set_option maxHeartbeats 4000000
namespace Cv
open PySem PySem.Spec PyProof.Rows L2
/-! ### what is due, as data -/
def sortD (s : Str × List Str) : PyData := .tuple [.str s.1, .tuple (s.2.map PyData.str)]
def dataP : Sum (Nat × Nat) (List (Str × List Str)) → PyData
  | .inl (r, i) => .list [.str "text", .int r, .int i]
  | .inr ss => .list [.str "told", .tuple (ss.map sortD)]
theorem strs_dp {K : PySem.W.Frag} {H : Hp} : ∀ ws : List Str, DpAll K H (ws.map V.str) (ws.map PyData.str)
  | [] => .nil
  | x :: r => .cons (.str x) (strs_dp r)
theorem sort_dp {K : PySem.W.Frag} {H : Hp} {v : V} {s : Str × List Str} (h : SortR H v s) : Dp K H v (sortD s) := by
  obtain ⟨a, b, rfl, ha, hb⟩ := h
  exact .tup (SqT.of ha) (.cons (.str _) (.cons (.tup (SqT.of hb) (strs_dp _)) .nil))
theorem sorts_dp {K : PySem.W.Frag} {H : Hp} : ∀ {xs : List V} {ss : List (Str × List Str)}, Paired (SortR H) xs ss → DpAll K H xs (ss.map sortD)
  | _, _, .nil => .nil
  | _, _, .cons r t => .cons (sort_dp r) (sorts_dp t)
abbrev sLd : Stmt := topS 32
abbrev nLd : List Str := ["_law_text", "_law_found", "_law_row", "_law_line", "_law_at", "_law_sort_here", "_law_name", "_law_codes_here"]
theorem scLd : FnScope nLd ["_law_text"] (defScope sLd) := ⟨rfl, rfl, rfl, by decide +kernel, rfl, by decide +kernel, by decide +kernel⟩
def spLd (K : PySem.W.Frag) : Sp := fun vs H Q _ => ∃ z : Str, vs = [.str z] ∧ z.length ≤ 999999 ∧
  ∀ H' t, Same H H' → H t = none → Dp K H' (.ref t) (dataP (specP (Txt.split z (Str.ofString "\n")) 0 [])) → Q (.ref t) H'
section
variable {P : Program} {w : World} {K : PySem.W.Frag} {mg : Str → Option Value} {base : Heap}
theorem ok_ld {f fS : Addr} {fd fdS : FuncData} {k : Nat} (F : Fun K "_law_due" "_law_due" sLd f fd) (GS : FnOk P w K mg base CX0 k fS fdS ["_law_line", "_law_names"] (spLs K)) (kS : PySem.W.keepIn K (.ref fS) = true) (bS : Binds K fdS ["_law_line", "_law_names"] []) (gS : mg "_law_sort" = some (.ref fS)) (me : mg "enumerate" = none) (mt : mg "tuple" = none) :
    FnOk P w K mg base CX0 (k + 1) f fd ["_law_text"] (spLd K) := by
  refine F.ok scLd (fun vs H Q E h => ?_) (fun cdv A outer s H vs Q E hr h => ?_)
  · obtain ⟨z, rfl, _⟩ := h
    rfl
  · obtain ⟨z, rfl, hz, q⟩ := h
    have hsl := line_eq
    refine ⟨_, pss_cons (ps_set (i := 1) scLd.nd rfl (.inl rfl) (pe_lst pa_nil))
      (pss_cons (ps_for PassesOwn.never rfl (pi_enum (by rfl) me (pa_cons (pe_split (pv 0) pe_str) pa_nil)) (pg_tup rfl (pgs_cons (pg_name (i := 2) scLd.nd rfl (.inl rfl)) (pgs_cons (pg_name (i := 3) scLd.nd rfl (.inl rfl)) pgs_nil)))
        (pss_cons (ps_if (pt_cmpR op_gt (pv 2) pe_int (nomark _)) (pss_one (ps_ret (pe_lst (pa_cons pe_str (pa_cons (pv 2) (pa_cons pe_int pa_nil)))))) pss_nil)
        (pss_cons (ps_asg (pe_call GS hr (by rfl) gS kS bS .nil pass0 (pa_cons (pv 3) (pa_cons (pe_lc (own := [("_law_name", 6), ("_law_codes_here", 7)]) (g := gTup K 2 (gCons (gName 6) (gCons (gName 7) gNil))) (tt := tYes) rfl scLd.nd (pi_list (pv 1))
            (blkOk_by (own := [("_law_name", 6), ("_law_codes_here", 7)]) (N := nLd) (sc := defScope sLd) (by decide +kernel)) (fun _ _ _ _ _ => pg_tup rfl (pgs_cons (pg_name (i := 6) scLd.nd rfl (Or.inl rfl)) (pgs_cons (pg_name (i := 7) scLd.nd rfl (Or.inl rfl)) pgs_nil)))
            (fun _ _ _ _ _ => pts_nil) (fun _ _ _ _ _ => pv 6)) pa_nil))) (pg_lst rfl (pgs_cons (pg_name (i := 4) scLd.nd rfl (.inl rfl)) (pgs_cons (pg_name (i := 5) scLd.nd rfl (.inl rfl)) pgs_nil))))
        (pss_cons (ps_if (pt_cmpR op_isN (pv 5) pe_non (nomark _)) (pss_one (ps_ret (pe_lst (pa_cons pe_str (pa_cons (pv 2) (pa_cons (pv 4) pa_nil)))))) pss_nil)
        (pss_one (ps_expr (pe_bm PySem.F.plainAttrs_list PySem.F.slot_list_append PySem.F.type_list_append mt_append (pv 1) (pa_cons (pv 5) pa_nil))))))))
      (pss_one (ps_ret (pe_lst (pa_cons pe_str (pa_cons (pe_callTy call_tuple_of (by rfl) mt (by decide +kernel) (pa_cons (pv 1) pa_nil)) pa_nil)))))), ?_⟩
    refine ⟨Nat.zero_le _, fun o no => ?_⟩
    refine ⟨.str z, rfl, ⟨_, rfl⟩, z, _, rfl, rfl, by decide, by omega, fun L nL => ?_⟩
    have hlines := split_len z (Str.ofString "\n")
    generalize Txt.split z (Str.ofString "\n") = zs at q hlines
    refine ⟨L, _, rfl, SqL.of upd_same, ?_⟩
    have s1 : Same H (upd H o (.lst [])) := same_upd no
    have nLo : o ≠ L := ne_of_none upd_same nL
    have keepO : ∀ {H9 : Hp} {xs xs' ys : List V} {ss : List (Str × List Str)}, H9 o = some (.lst xs) → Paired (SortR H9) ys ss → Paired (SortR (upd H9 o (.lst xs'))) ys ss := fun {H9 xs xs' ys ss} e9 h => by
      induction h with
      | nil => exact .nil
      | cons r t ih =>
        obtain ⟨a, b, e, ha, hb⟩ := r
        exact .cons ⟨a, b, e, by rw [upd_ne (ne_of ha e9 (fun z => nomatch z))]; exact ha, by rw [upd_ne (ne_of hb e9 (fun z => nomatch z))]; exact hb⟩ ih
    -- a break is told
    have brk : ∀ (H9 : Hp) (r i : Nat), Same H H9 → specP zs 0 [] = .inl (r, i) → ∀ t, H9 t = none → Q (.ref t) (upd H9 t (.lst [.str "text", .int r, .int i])) := fun H9 r i h9 e9 t nt => by
      rw [e9] at q
      exact q _ t (h9.trans (same_upd nt)) (h9.free nt) (.lst (SqL.of upd_same) (.cons (.str _) (.cons (.int _) (.cons (.int _) .nil))))
    refine for_it (walk_enum (K := K) (a := L) (xs := zs.map V.str)) (fun i σ H' => ∃ (y2 y3 y4 y5 y6 y7 : Option V) (xs : List V) (ss : List (Str × List Str)), σ = [some (.str z), some (.ref o), y2, y3, y4, y5, y6, y7] ∧ Same H H' ∧ H' L = some (.lst (zs.map V.str)) ∧
        H' o = some (.lst xs) ∧ Paired (SortR H') xs ss ∧ ss.length = i ∧ i ≤ 4 ∧ specP (zs.drop i) i ss = specP zs 0 [])
      ⟨none, none, none, none, none, none, [], [], rfl, s1.trans (same_upd nL), upd_same, (same_upd nL) _ _ upd_same, .nil, rfl, Nat.zero_le _, by rw [List.drop_zero]⟩ (fun i σ H' _ h => ?_) (fun i x σ H1 H2 hi h hy => ?_) (fun σ H' h => ?_)
    · obtain ⟨_, _, _, _, _, _, _, _, _, _, hL, _⟩ := h
      exact SqL.of hL
    · obtain ⟨y2, y3, y4, y5, y6, y7, xs, ss, rfl, hS, hL, ho, hp, hsl2, h4, hspec⟩ := h
      obtain ⟨T, x1, x2, rfl, nT, rfl, e1, e2⟩ := hy
      have e1' : x1 = .int (i : Nat) := (Option.some.inj e1).symm
      subst e1'
      rw [List.length_map] at hi
      have e2' : x2 = .str zs[i] := by
        have e3 : (zs.map V.str)[i]? = some x2 := e2
        rw [List.getElem?_map, List.getElem?_eq_getElem hi] at e3
        exact (Option.some.inj e3).symm
      subst e2'
      have hzi := hlines zs[i] (List.getElem_mem hi)
      rw [List.drop_eq_getElem_cons hi] at hspec
      generalize zs[i] = zi at hzi hspec
      have sT : Same H1 (upd H1 T (.tup [.int (i : Nat), .str zi])) := same_upd nT
      have hxl : xs.length = ss.length := Paired.length hp
      refine ⟨T, _, rfl, SqT.of upd_same, rfl, _, _, rfl, _, _, rfl, rfl, ?_⟩
      refine ⟨_, rfl, _, _, rfl, rfl, _, rfl, ite2 (fun e => ?_) (fun e => ?_)⟩
      · have e4 := of_decide_eq_true e
        have ei : i = 4 := by omega
        subst ei
        exact ⟨_, rfl, (by show 3 ≤ sizeLine; decide), fun t nt => brk _ 4 0 (hS.trans sT) hspec.symm t nt⟩
      · have e4 : ¬ i = 4 := fun h => e (decide_eq_true (by rw [h]; decide))
        rw [specP, if_neg e4] at hspec
        have hl := (specS_len zi (ss.map (·.1))).1
        have hoT := sT _ _ ho
        have hpT := sorts_same sT hp
        refine ⟨.str zi, rfl, .ref o, rfl, o, rfl, ⟨_, SqL.of hoT⟩, fun D nD => ?_⟩
        refine lc_list (K := K) (a := o) (xs := xs) (fun j H3 => Same (upd H1 T (.tup [.int (i : Nat), .str zi])) H3 ∧ H3 D = some (.lst (((ss.take j).map (·.1)).map V.str))) ⟨same_upd nD, upd_same⟩ (fun j H3 _ h => SqL.of (h.1 _ _ hoT)) (fun j x H3 hx h => ?_) (fun H3 h => ?_)
        · obtain ⟨h1, h2⟩ := h
          obtain ⟨sx, es, a, b, rfl, ha, hb⟩ := sorts_get hpT hx
          have hj : j < ss.length := (List.getElem?_eq_some_iff.mp es).1
          refine ⟨a, _, rfl, SqT.of (h1 _ _ ha), rfl, _, _, rfl, _, _, rfl, rfl, rfl, _, rfl, _, h2, ?_, ?_, ?_⟩
          · rw [List.length_map, List.length_map, List.length_take]
            exact small1000 (by omega)
          · intro b' o' e
            rw [upd_ne (ne_of_none e nD)]
            exact h1 _ _ e
          · rw [upd_same, List.take_add_one, es, List.map_append, List.map_append]
            rfl
        · obtain ⟨h1, h2⟩ := h
          rw [hxl, List.take_of_length_le (Nat.le_refl _)] at h2
          refine ⟨zi, D, ss.map (·.1), rfl, by omega, SqL.of h2, fun hn H4 t T1 => ?_, fun sx hsx H4 t u T1 hu => ?_⟩
          · obtain ⟨s4, n4, ht⟩ := T1
            have hB : specP zs 0 [] = .inl (i, (specS zi (ss.map (·.1))).1) := by
              rw [← hspec]
              cases hq : specS zi (ss.map (·.1)) with
              | mk a b =>
                rw [hq] at hn
                have hn' : b = none := hn
                subst hn'
                rfl
            refine ⟨t, _, rfl, SqL.of ht, rfl, _, _, rfl, _, _, rfl, rfl, ?_⟩
            refine ⟨_, rfl, rfl, _, rfl, ite2 (fun _ => ?_) (fun e7 => absurd (decide_eq_true rfl) e7)⟩
            exact ⟨_, rfl, _, rfl, (by show 3 ≤ sizeLine; decide), fun t' nt => brk _ i _ (((hS.trans sT).trans h1).trans s4) hB t' nt⟩
          · obtain ⟨s4, n4, ht⟩ := T1
            have hnext : specP (zs.drop (i + 1)) (i + 1) (ss ++ [sx]) = specP zs 0 [] := by
              rw [← hspec]
              cases hq : specS zi (ss.map (·.1)) with
              | mk a b =>
                rw [hq] at hsx
                have hn' : b = some sx := hsx
                subst hn'
                rfl
            refine ⟨t, _, rfl, SqL.of ht, rfl, _, _, rfl, _, _, rfl, rfl, ?_⟩
            refine ⟨_, rfl, rfl, _, rfl, ite2 (fun e7 => ?_) (fun _ => ?_)⟩
            · exact absurd (of_decide_eq_true e7) (fun h => nomatch h)
            have hS4 := ((hS.trans sT).trans h1).trans s4
            have ho4 := s4 _ _ (h1 _ _ hoT)
            refine ⟨.ref o, rfl, .inl ⟨rfl, _, SqL.of ho4⟩, _, rfl, o, _, _, rfl, rfl, ho4, small1000 (by omega), ?_⟩
            refine ⟨_, _, _, _, _, _, xs ++ [.ref u], ss ++ [sx], rfl, fun b o' e' => ?_, ?_, upd_same, ?_, ?_, by omega, hnext⟩
            · rw [upd_ne (ne_of_none e' no)]
              exact hS4 _ _ e'
            · rw [upd_ne nLo.symm]
              exact s4 _ _ (h1 _ _ (sT _ _ hL))
            · exact keepO ho4 (paired_snoc hu (sorts_same s4 (sorts_same h1 hpT)))
            · rw [List.length_append, hsl2]
              rfl
    · obtain ⟨y2, y3, y4, y5, y6, y7, xs, ss, rfl, hS, hL, ho, hp, hsl2, h4, hspec⟩ := h
      rw [List.length_map, List.drop_of_length_le (Nat.le_refl _)] at hspec
      refine ⟨.ref o, rfl, o, _, rfl, .inl ⟨SqL.of ho, fun u nu => ?_⟩⟩
      refine ⟨(by show 2 ≤ sizeLine; decide), fun t nt => ?_⟩
      rw [← hspec] at q
      have su := hS.trans (same_upd nu (o := .tup xs))
      exact q _ t (su.trans (same_upd nt)) (su.free nt) (.lst (SqL.of upd_same) (.cons (.str _) (.cons (.tup (SqT.of ((same_upd nt) _ _ upd_same)) (sorts_dp (sorts_same (same_upd nt) (sorts_same (same_upd nu) hp)))) .nil)))
end
end Cv
set_option Elab.async false
set_option linter.all false
set_option maxRecDepth 100000
set_option maxHeartbeats 4000000
namespace Cv
open PySem PySem.Spec PyProof.Rows L2
/-! ### an exception that is kept behind its except suite -/
/-- at a: an exception of the class C, its dict at d -/
def xob (a C d : Addr) : HO := .ext fun h => ∃ oe vs, h.get? a = some oe ∧ Zc (.ref C) (some d) oe ∧ oe.data = .fields vs
theorem xob_ok {P : Program} {w : World} {H : Hp} {h : Heap} {a C d : Addr} {oe : Obj} {vs : Array Value} (e : h.get? a = some oe) (hz : Zc (.ref C) (some d) oe) (hd : oe.data = .fields vs) : ObjOk P w H h a (xob a C d) :=
  ⟨⟨oe, vs, e, hz, hd⟩, ⟨oe, e⟩, fun h1 h2 ⟨o1, v1, g1, g2, g3⟩ k => ⟨o1, v1, k _ g1, g2, g3⟩⟩
theorem xob_at {P : Program} {w : World} {H : Hp} {h : Heap} {a C d : Addr} (hok : HOk P w H h) (e : H a = some (xob a C d)) : ∃ oe vs, h.get? a = some oe ∧ Zc (.ref C) (some d) oe ∧ oe.data = .fields vs := by
  have x : ObjOk P w H h a (.ext fun h => ∃ oe vs, h.get? a = some oe ∧ Zc (.ref C) (some d) oe ∧ oe.data = .fields vs) := hok a _ e
  exact x.1
section
variable {X : Cx} {pins : List (Addr × Obj)} {σ : L2.St} {H : Hp} {s : Shared}
theorem track {a C d : Addr} {oe : Obj} {vs : Array Value} (I : Inv X pins σ H s) (ha : s.heap.get? a = some oe) (hz : Zc (.ref C) (some d) oe) (hd : oe.data = .fields vs) (na : H a = none) (nL : a ≠ X.env.locals)
    (nC : ∀ x c, X.env.cells.lookup x = some c → c ≠ a) (nP : ∀ p ∈ X.pn ++ pins, p.1 ≠ a) (n0 : X.s_0.heap.get? a = none) : Inv X pins σ (upd H a (xob a C d)) s := by
  have ne : ∀ {b : Addr} {o : HO}, H b = some o → b ≠ a := fun h => ne_of_none h na
  have up : ∀ {b : Addr}, b ≠ a → upd H a (xob a C d) b = H b := fun h => upd_ne h
  refine ⟨I.ok, I.os, I.bare, ?_, I.loc, I.cell, ?_, fun x c e => ?_, fun p hp => ?_, ?_, I.len⟩
  · refine ⟨I.base.keep, I.base.slot, fun b o e n hx => ?_, I.base.there, fun b xs e => ?_, fun b o u e => ?_, fun b ps e => ?_⟩
    · have hb : b ≠ a := fun z => by
        rw [z, n0] at e
        cases e
      rw [up hb]
      exact I.base.free b o e n hx
    · have h := I.base.tups b xs e
      rw [up (ne h)]
      exact h
    · have h := I.base.frzs b o u e
      rw [up (ne h)]
      exact h
    · obtain ⟨more, h⟩ := I.base.tbls b ps e
      exact ⟨more, by rw [up (ne h)]; exact h⟩
  · rw [up nL.symm]
    exact I.free
  · rw [up (nC x c e)]
    exact I.freeC x c e
  · obtain ⟨g1, g2, g3, g4, g5⟩ := I.pin p hp
    exact ⟨g1, by rw [up (nP p hp)]; exact g2, g3, g4, g5⟩
  · intro b o e
    by_cases hb : b = a
    · subst hb
      rw [upd_same] at e
      cases e
      exact xob_ok ha hz hd
    · rw [up hb] at e
      exact (I.hok b o e).stay (fun _ _ _ g => g) (fun c g => by rw [up (ne g)]; exact g) fun c xs g => by rw [up (ne g)]; exact g
end
/-- what the clause wishes: behind the suite the exception at a stays known -/
def wKeep (K : PySem.W.Frag) (c : Value) (i : Nat) (ts : Addr → Value → Option Addr → TS) (D : Ends) : WX := fun cls d σ H =>
  PySem.W.exmOne K cls c = some true ∧ ∃ C dd, cls = .ref C ∧ d = some dd ∧ ∀ a, H a = none → ts a cls d { nx := fun σ2 H2 => D.nx (σ2.set i none) (upd H2 a (xob a C dd)), rt := fun _ _ => False } (σ.set i (some (.ref a))) H
section
variable {X : Cx} {x n : Str} {c : Value} {i : Nat} {body su : List Stmt} {st0 : Stmt} {np pos pos2 : Pos} {tb : WX → TS} {ts : Addr → Value → Option Addr → TS}
theorem ps_try_keep (hst : X.stack = X.env :: X.outer) (hfr : X.env.frame = some X.env.locals) (hex : X.ex = []) (nd : X.N.Nodup) (hni : X.N[i]? = some n) (hnl : X.env.kindOf n = some .local) (hnm : Names X x c)
    (hbody : ∀ (W : WX) (pn : List (Addr × Obj)) (xe : Value → Shared → Prop), Takes (X.tr pn xe) W → PassesOwn (model X.prog X.w) X.A X.env xe → PSs (X.tr pn xe) body (tb W))
    (hsuite : ∀ (a : Addr) (oe : Obj) (cls : Value) (d : Option Addr) (pn : List (Addr × Obj)), Zc cls d oe → (∃ vs, oe.data = .fields vs) → PSs (X.suite a ((a, oe) :: pn)) (st0 :: su) (ts a cls d)) :
    PS X (.Try body [.ExceptHandler (some (.Name x np)) (some n) (st0 :: su) pos2] [] [] pos) (fun D σ H => tb (wKeep X.K c i ts D) D σ H) := by
  refine ⟨fun pins s σ H D I hread => ?_⟩
  have ok := I.ok
  have frA : X.A.frames = some (X.env :: X.outer) := ok.frames.trans (congrArg some hst)
  let after : Value → Shared → Prop := fun er sA =>
    wpAny (model X.prog X.w) X.A (noteFrame er X.env) (fun _ sB => wpAny (model X.prog X.w) X.A (setFlight er none) (fun _ sC => wpAny (model X.prog X.w) X.A
      (handleBy er X.env [.ExceptHandler (some (.Name x np)) (some n) (st0 :: su) pos2]) (SP X pins D) X.xe sC) X.xe sB) X.xe sA
  refine wpAny_Try_except (wpAny_mono ((hbody (wKeep X.K c i ts D) (X.pn ++ pins) after (fun u sE xx => ?_) PassesOwn.looking).run [] s σ H D (I.toTry after) hread) (fun fl sE hE => ?_) (fun _ _ z => z))
  · obtain ⟨a, B, sI, pins', σI, HI, cls, d, rfl, JT, grd, upT, skyT, na, osE, bareE, hmat, C, dd, rfl, rfl, hnext⟩ := xx
    have J : Inv X pins σI HI sI := JT.ofTry ok
    show wpAny (model X.prog X.w) X.A (noteFrame (.ref a) X.env) _ _ _
    refine Sky.land (s := sE) (Z := Zc (.ref C) (some dd)) Zc.steady frA hfr (by rw [← hst]; exact skyT) fun hG flG upG => ?_
    have JG : Inv X pins σI HI { sE with heap := hG } := J.landed grd flG.1 (upT.trans upG) osE bareE
    have off : ∀ {hh : Heap}, HandSPX.FlyingZ B (X.env :: X.outer) a (Zc (.ref C) (some dd)) hh → a ∉ frs (X.env :: X.outer) := fun {hh} fl hm => by
      obtain ⟨o1, v1, g1, _, g3⟩ := fl.there
      obtain ⟨_, o2, g4, g5⟩ := fl.2.2.1.mem hm
      rw [g1] at g4
      cases g4
      exact g5 _ g3
    have offS : a ∉ frs X.stack := by rw [hst]; exact off flG
    have nL : a ≠ X.env.locals := fun z => off flG (List.mem_filterMap.mpr ⟨X.env, List.mem_cons_self, by rw [z]; exact hfr⟩)
    have nF : a ∉ X.fs := fun hm => by
      obtain ⟨e1, g1, g2⟩ := List.mem_filterMap.mp hm
      exact off flG (List.mem_filterMap.mpr ⟨e1, List.mem_cons_of_mem _ g1, g2⟩)
    have nB : ∀ {b : Addr} {o : Obj}, sI.heap.get? b = some o → b ≠ a := fun {b o} g z => by
      have g2 := grd b o g (by rw [z]; exact offS)
      rw [z, flG.2.1] at g2
      cases g2
    obtain ⟨oG, vG, gG, zG, dG⟩ := flG.there
    have SG := JG.suite gG dG na nL nF
    refine wpAny_handleBy_cons (codeAny_handlers_test ?_) (by intro z; cases z)
    have LT : PySem.W.Looks (model X.prog X.w) hG (typeOf (.ref a)) (.ref C) := fun A1 Q1 E1 s1 keep hq => wpAny_typeOf_ref (keep _ _ gG) (by rw [zG.1]; exact hq)
    have LM := PySem.W.exm_one (M := model X.prog X.w) JG.kIn LT hmat
    have load : ∀ {Q1 : Value → Shared → Prop} {E1 : Value → Shared → Prop}, Q1 c { sE with heap := hG } → wpAny (model X.prog X.w) (X.A.mark (some (.ref a))) (eval (.Name x np) X.env) Q1 E1 { sE with heap := hG } := fun {Q1 E1} hq => by
      obtain ⟨g1, g2, g3 | ⟨g3, g4, g5⟩⟩ := hnm
      · exact ld_glob (X := X.suite a ((a, oG) :: (X.pn ++ pins))) SG g1 g3 hq g2
      · exact ld_blt (X := X.suite a ((a, oG) :: (X.pn ++ pins))) SG g1 g3 g4 hq g5 g2
    refine load (LM.here (codeAny_handlers_suite_as (HandSPX.lands_againZ flG fun hK flK upK => ?_)))
    have JK : Inv X pins σI HI { sE with heap := hK } := J.landed grd flK.1 ((upT.trans upG).trans upK) osE bareE
    obtain ⟨oK, vK, gK, zK, dK⟩ := flK.there
    refine store_ok (X := X.suite a ((a, oK) :: (X.pn ++ pins))) (v := .ref a) (JK.suite gK dK na nL nF) nd hni (.inl hnl) rfl (fun sM SM => ?_) (.inr hnl)
    refine wpAny_mono ((hsuite a oK (.ref C) (some dd) (X.pn ++ pins) zK ⟨_, dK⟩).run [] sM _ HI _ SM (hnext a na)) (fun fl sN hN => ?_) (fun _ _ z => z.elim)
    cases fl with
    | next =>
      obtain ⟨σN, HN, SN, qN⟩ := hN
      obtain ⟨gN, nN, _⟩ := SN.pin (a, oK) (List.mem_append_left _ List.mem_cons_self)
      have JN : Inv X pins σN HN sN := SN.unsuite ok
      have TN : Inv X pins σN (upd HN a (xob a C dd)) sN := track JN gN zK dK nN nL (fun y cc g => by
          obtain ⟨v, o, g1, _⟩ := J.cell y cc g
          exact nB g1) (fun p hp => nB (J.pin p hp).1) (by
          cases g0 : X.s_0.heap.get? a with
          | none => rfl
          | some o =>
            obtain ⟨o2, g2⟩ := J.base.there a o g0 (by rw [hex]; exact List.not_mem_nil)
            exact absurd rfl (nB g2))
      exact gone_ok TN nd hni hnl fun s9 J9 => ⟨_, _, J9, qN⟩
    | brk =>
      obtain ⟨_, _, _, z⟩ := hN
      exact z.elim
    | cont =>
      obtain ⟨_, _, _, z⟩ := hN
      exact z.elim
    | ret u =>
      obtain ⟨_, _, _, _, _, z⟩ := hN
      exact z.elim
  · cases fl with
    | next =>
      obtain ⟨σN, HN, JN, qN⟩ := hE
      exact wpAny_execs_nil ⟨σN, HN, JN.ofTry ok, qN⟩
    | brk =>
      obtain ⟨σN, HN, JN, qN⟩ := hE
      exact ⟨σN, HN, JN.ofTry ok, qN⟩
    | cont =>
      obtain ⟨σN, HN, JN, qN⟩ := hE
      exact ⟨σN, HN, JN.ofTry ok, qN⟩
    | ret u =>
      obtain ⟨vN, σN, HN, JN, rN, qN⟩ := hE
      exact ⟨vN, σN, HN, JN.ofTry ok, rN, qN⟩
end
end Cv
set_option Elab.async false
set_option linter.all false
set_option maxRecDepth 100000
set_option maxHeartbeats 4000000
namespace Cv
open PySem PySem.Spec PyProof.Rows L2
/-! ### the law's own def runs where nothing is being shown (no guards): its promise there alone -/
structure FnAt (A : Around) (P : Program) (w : World) (K : PySem.W.Frag) (mg : Str → Option Value) (base : Heap) (k : Nat) (f : Addr) (fd : FuncData) (ps : List Str) (sp : Sp) : Prop where
  run : ∀ (outer : List Env) (s : Shared) (H : Hp) (args : Args) (us : List Value) (vs : List V) (Q : VK) (E : XK), Room k A → Env0 P w K mg base A outer s H → BindsTo s fd args (ps.zip us) → Vals vs us → sp vs H Q E →
    codeAny (model P w) A (.call (.ref f) args) (CR CX0 outer P w H s Q E) s
section
variable {P : Program} {w : World} {K : PySem.W.Frag} {mg : Str → Option Value} {base : Heap} {A : Around}
theorem fn_at {x qual : Str} {st : Stmt} {f : Addr} {fd : FuncData} {N ps : List Str} {k : Nat} {sp : Sp} (F : Fun K x qual st f fd) (S : FnScope N ps (defScope st)) (hlen : ∀ vs H Q E, sp vs H Q E → vs.length = ps.length)
    (hwalk : ∀ (cdv : Value) (outer : List Env) (s : Shared) (H : Hp) (vs : List V) (Q : VK) (E : XK), Room k (A.deeper (envOfC qual (defScope st) s.heap.objs.size f cdv)) → sp vs H Q E →
      ∃ t, PSs (cxOf CX0 P w K mg base N qual (defScope st) f cdv A outer s H E).nox (defBody st) t ∧ t { nx := fun _ H2 => Q .non H2, rt := Q } (start N vs) H) : FnAt A P w K mg base (k + 1) f fd ps sp := by
  obtain ⟨oc, od, kV, doc, pm, an, cdv, ct, osl, rfl, lk, hcd⟩ := F.ex
  constructor
  intro outer s H args us vs Q E room env0 bind vals asked
  have whole : K.In s.heap := env0.mod.kin.keeps fun b o g => (env0.bs b o g).1
  have nolim : s.heap.NoLimit := env0.mod.nolimit.keeps fun b o g => (env0.bs b o g).1
  refine codeAny_call_function room.depth (whole _ _ lk) rfl S.co S.gen rfl (PySem.W.codeRec_of whole hcd) (bind _ _ _ _ (wpAny_newFunctionEnv_cells S.kind (fun y hy => ?_) fun env he s1 made => ?_))
  · rcases S.par y.1 (List.of_mem_zip (show (y.1, y.2) ∈ ps.zip us from hy)).1 with g | g
    · exact .inl g
    · exact .inr ⟨g, PySem.W.cellsFrom_some _ _ _ (.inl g)⟩
  · subst he
    obtain ⟨t, term, reads⟩ := hwalk cdv outer s H vs Q E (room.deeper _) asked
    have I0 : Inv (cxOf CX0 P w K mg base N qual (defScope st) f cdv A outer s H E) [] (start N vs) H s1 := inv_start S room.hd env0 (hlen _ _ _ _ asked) vals made
    refine ⟨nolim.keeps made.toInCall.keep, codeAny_func (wpAny_mono (term.nox.run [] s1 _ H _ I0 reads) (fun fl s2 hs => ?_) fun _ _ hs => hs)⟩
    cases fl with
    | ret u =>
      obtain ⟨v, _, H2, J, rv, g⟩ := hs
      exact ⟨v, H2, J.os, J.bare, J.base, J.hok, rv, g⟩
    | next =>
      obtain ⟨_, H2, J, g⟩ := hs
      exact ⟨.non, H2, J.os, J.bare, J.base, J.hok, rfl, g⟩
    | brk =>
      obtain ⟨_, _, _, g⟩ := hs
      exact g.elim
    | cont =>
      obtain ⟨_, _, _, g⟩ := hs
      exact g.elim
end
/-- nothing is tracked but the script -/
theorem law_at {P : Program} {w : World} {K : PySem.W.Frag} {mg mb : Str → Option Value} {k : Nat} {fa a : Addr} {fd : FuncData} {x : Str} {sp : Sp} {s1 : Shared} {vs : List Value} {ns : List Int}
    (kin : K.In s1.heap) (glob : s1.heap.Ns mainGlobals mg) (blt : s1.heap.Ns builtinsNs mb) (bltB : ∀ y : Str, y ≠ "__name__" → mb y = bootBuiltins y) (nolim : s1.heap.NoLimit) (hgen : s1.gens = #[])
    (ha : s1.heap.get? a = some { cls := .type "list", data := .seq vs.toArray }) (hin : IntsAre vs ns) (hlen : ns.length ≤ sizeLine) (room : Room k callerA)
    (F : ∀ base : Heap, K.In base → base.Ns mainGlobals mg → FnAt callerA P w K mg base k fa fd [x] sp) (bind : ∀ (s : Shared) (u : Value), BindsTo s fd ⟨[u], []⟩ [(x, u)])
    (asked : ∀ H : Hp, SqL K H a (ns.map V.int) → sp [.ref a] H (fun v _ => v = .bl true) fun _ _ _ => False) :
    codeAny (model P w) callerA (.call (.ref fa) ⟨[.ref a], []⟩) (fun r s2 => r = .ok (.ret (.bool true)) ∧ OldK s1.heap s2.heap ∧ s2.os = s1.os ∧ AllBare s2.gens) s1 := by
  have nvs : vs.length = ns.length := hin.length
  let ob : Obj := { cls := .type "list", data := .seq vs.toArray }
  -- H tracks nothing, or the script alone as it stands
  have main : ∀ H : Hp, (∀ b, H b = none ∨ (b = a ∧ K.lookup a = none ∧ H b = some (.frz ob (.lst (ns.map V.int))))) → SqL K H a (ns.map V.int) →
      codeAny (model P w) callerA (.call (.ref fa) ⟨[.ref a], []⟩) (fun r s2 => r = .ok (.ret (.bool true)) ∧ OldK s1.heap s2.heap ∧ s2.os = s1.os ∧ AllBare s2.gens) s1 := by
    intro H only seq
    have held : HOk P w H s1.heap := fun b o g => by
      rcases only b with z | ⟨rfl, _, z⟩
      · rw [z] at g
        cases g
      · rw [z] at g
        cases g
        exact ⟨ha, by rw [List.length_map]; exact hlen, vs, _, vals_ints hin, ha⟩
    have put : ∀ {b : Addr} {m : Str → Option Value}, s1.heap.Ns b m → (hidT s1.heap H).Ns b m := fun {b m} h => by
      obtain ⟨o, es, ep, g, dat, more⟩ := h
      refine ⟨o, es, ep, hidT_get g ?_, dat, more⟩
      rcases only b with z | ⟨rfl, _, z⟩
      · exact z
      · rw [ha] at g
        cases g
        cases (show Data.seq vs.toArray _ = Data.dict es ep from dat)
    have kinB : K.In (hidT s1.heap H) := fun b o g => hidT_get (kin b o g) (by
      rcases only b with z | ⟨rfl, z2, _⟩
      · exact z
      · rw [z2] at g
        cases g)
    have noLB : (hidT s1.heap H).NoLimit := by
      obtain ⟨mc, g1, g2⟩ := nolim
      exact ⟨mc, put g1, g2⟩
    have env0 : Env0 P w K mg (hidT s1.heap H) callerA [] s1 H := by
      refine ⟨rfl, ⟨kinB, put glob, ⟨mb, put blt, bltB⟩, noLB⟩, fun b o g => of_hidT g, Nat.le_of_eq (hidT_size _ _), trivial, fun b hb => ?_, held, .of_eq hgen⟩
      exact absurd (show b ∈ ([] : List Addr) from hb) List.not_mem_nil
    refine codeAny_mono ((F _ kinB (put glob)).run [] s1 H ⟨[.ref a], []⟩ [.ref a] [.ref a] (fun v _ => v = .bl true) (fun _ _ _ => False) room env0 (bind s1 (.ref a)) (.cons rfl .nil) (asked H seq)) fun r s2 hr => ?_
    cases r with
    | error er => exact False.elim hr
    | ok fl =>
      cases fl with
      | ret u =>
        obtain ⟨v, H2, os2, bare2, un2, held2, rv, told⟩ := hr
        have told2 : v = .bl true := told
        subst told2
        obtain rfl : u = Value.bool true := rv
        refine ⟨rfl, OldK.of_keep fun b o g => ?_, os2, bare2⟩
        rcases only b with z | ⟨rfl, _, z⟩
        · exact un2.keep b o g z (fun hb => absurd (show b ∈ ([] : List Addr) from hb) List.not_mem_nil) List.not_mem_nil
        · have z2 := un2.frzs b ob _ z
          obtain ⟨g2, _⟩ := held2 b _ z2
          rw [ha] at g
          cases g
          exact g2
      | next => exact False.elim hr
      | brk => exact False.elim hr
      | cont => exact False.elim hr
  cases hk : K.lookup a with
  | none =>
    refine main (fun b => if b = a then some (.frz ob (.lst (ns.map V.int))) else none) (fun b => ?_) (.inl (.inr ⟨ob, if_pos rfl⟩))
    by_cases hb : b = a
    · exact .inr ⟨hb, hk, if_pos hb⟩
    · exact .inl (if_neg hb)
  | some o =>
    have g := kin a o hk
    rw [ha] at g
    cases g
    exact main (fun _ => none) (fun _ => .inl rfl) (.inr ⟨_, vs.toArray, _, hk, rfl, rfl, rfl, by rw [List.size_toArray, nvs]; exact hlen, by simpa using vals_ints hin⟩)
/-- the goal behind the head -/
theorem walk_at {l : PySem.W.OpenLaw} {n k : Nat} {q : Program} {loose : List Str} {XP : (Str → Option Value) → Heap → Prop} {YP : World → Heap → Prop} {d : DefRec} {K : Params → PySem.W.Frag} {sp : PySem.W.Frag → Sp} {x : Str}
    (hn : l.most = some n) (hn2 : n ≤ sizeLine) (hdf : d.params.defaults = []) (room : Room k callerA) (hY : ∀ (w : World) (h : Heap), YP w h → (K w.params).In h)
    (F : ∀ (w : World) (mg : Str → Option Value) (fa : Addr) (h : Heap), (K w.params).In h → h.Ns mainGlobals mg → mg d.name = some (.ref fa) →
      ∃ fd : FuncData, (∀ (s : Shared) (u : Value), BindsTo s fd ⟨[u], []⟩ [(x, u)]) ∧ ∀ base : Heap, (K w.params).In base → base.Ns mainGlobals mg → FnAt callerA l.prog w (K w.params) mg base k fa fd [x] (sp (K w.params)))
    (asked : ∀ (K : PySem.W.Frag) (H : Hp) (a : Addr) (ns : List Int), ns.length ≤ n → SqL K H a (ns.map V.int) → sp K [.ref a] H (fun v _ => v = .bl true) fun _ _ _ => False) :
    PySem.W.WalkO q loose XP YP l.row.toRowW d [] (fun f vs => PySem.call f vs) := by
  refine Att.attach_call hn hdf fun w s0 s1 mg mb fa o pm cd doc a vs ns G Y ho hd hcd hmg hobj hints hlen hgen => ?_
  obtain ⟨fd, bind, prom⟩ := F w mg fa _ (hY w _ Y) G.T.g hmg
  exact law_at (hY w _ Y) G.T.g G.T.b G.T.builtins G.T.nolimit hgen hobj hints (Nat.le_trans hlen hn2) room prom bind fun H seq => asked _ H a ns hlen seq
end Cv
set_option Elab.async false
set_option linter.all false
set_option maxRecDepth 100000
set_option maxHeartbeats 4000000
namespace Cv
open PySem PySem.Spec PyProof.Rows L2
section
variable {X : Cx}
theorem inst_at {pins : List (Addr × Obj)} {σ : L2.St} {H : Hp} {s : Shared} {a C d : Addr} {fs : List (Str × V)} (I : Inv X pins σ H s) (ha : H a = some (xob a C d)) (hd : H d = some (.xd fs)) :
    ∃ (oe od : Obj) (mA : Str → Option Value), PySem.W.InstAt s.heap a oe C (some od) ∧ (∀ nm, PySem.W.lookIn nm od = some (mA nm)) ∧ ∀ f, RelO (fs.lookup f) (mA f) := by
  obtain ⟨oe, vs, g, hz, dat⟩ := xob_at I.hok ha
  have hx : ObjOk X.prog X.w H s.heap d (.xd fs) := I.hok d _ hd
  obtain ⟨mA, hns, hr⟩ := hx
  obtain ⟨od, ho, hl⟩ := lookIn_ns hns
  refine ⟨oe, od, mA, ⟨g, hz.1, ?_, ?_⟩, hl, hr⟩
  · unfold PySem.W.notCls
    rw [dat] <;> rfl
  · rw [hz.2]
    exact ho
def rIsX (K : PySem.W.Frag) : List V → Hp → VK → Prop := fun xs H Q => ∃ (a C d : Addr) (fs : List (Str × V)) (c : V) (u : Value) (b : Bool), xs = [.ref a, c] ∧ H a = some (xob a C d) ∧ H d = some (.xd fs) ∧ ClsV c u ∧ ExcC K C ∧ PySem.W.kitOne K (.ref C) u = some b ∧ Q (.bl b) H
def rIsXT (K : PySem.W.Frag) : List V → Hp → VK → Prop := fun xs H Q => ∃ (a C d tp : Addr) (fs : List (Str × V)) (cs : List V) (us : List Value) (b : Bool), xs = [.ref a, .ref tp] ∧ H a = some (xob a C d) ∧ H d = some (.xd fs) ∧ H tp = some (.tup cs) ∧ Paired ClsV cs us ∧ ExcC K C ∧ PySem.W.kitAny K (.ref C) us = some b ∧ Q (.bl b) H
theorem kit_x {K : PySem.W.Frag} {a C : Addr} {oe : Obj} {od : Option Obj} (T : ExcC K C) : PySem.W.KitX K (.ref a) (.ref C) (fun h => PySem.W.InstAt h a oe C od) := by
  obtain ⟨cd, hc, _⟩ := PySem.W.any_some T.hd
  exact PySem.W.kitx_exc (by rw [hc]; rfl) T.hg T.hk T.hs T.ha T.hn T.ht T.hm
theorem call_isX : CallR X (.builtin "isinstance") (rIsX X.K) := by
  intro pins s σ H xs us Q I r h
  obtain ⟨a, C, d, fs, c, u, b, rfl, ha, hd, k, T, e, q⟩ := h
  obtain ⟨u1, u2, rfl, r1, r2⟩ := vals2 r
  obtain rfl := k.eq r2
  cases (show u1 = Value.ref a from r1)
  obtain ⟨oe, od, mA, J, _⟩ := inst_at I ha hd
  exact PySem.W.kia_one (kit_x T) I.kIn J e (fun z => nomatch z) fun tk => ⟨.bl b, H, I.tok tk, rfl, q⟩
theorem call_isXT : CallR X (.builtin "isinstance") (rIsXT X.K) := by
  intro pins s σ H xs us Q I r h
  obtain ⟨a, C, d, tp, fs, cs, ws, b, rfl, ha, hd, hT, k, T, e, q⟩ := h
  obtain ⟨u1, u2, rfl, r1, r2⟩ := vals2 r
  cases (show u1 = Value.ref a from r1)
  cases (show u2 = Value.ref tp from r2)
  obtain ⟨oe, od, mA, J, _⟩ := inst_at I ha hd
  obtain ⟨_, its, rv, ⟨oc, odd, dt, sl⟩, g1, g2, n, g3⟩ := (show ObjOk X.prog X.w H s.heap tp (.tup cs) from I.hok tp _ hT)
  obtain rfl := ClsV.all k rv
  simp only at g2 g3
  subst g2 g3
  exact PySem.W.kia_tup (kit_x T) I.kIn J g1 e (fun z => nomatch z) fun tk => ⟨.bl b, H, I.tok tk, rfl, q⟩
/-- e.f, e a kept exception -/
def tXk (K : PySem.W.Frag) (f : Str) (te : TE) : TE := fun σ H Q => te σ H fun x H1 => ∃ (a C d : Addr) (fs : List (Str × V)) (v : V), x = .ref a ∧ H1 a = some (xob a C d) ∧ H1 d = some (.xd fs) ∧ XfC K C ∧ PySem.W.findIn K (.ref C) f = some none ∧ fs.lookup f = some v ∧ Q v H1
theorem pe_xk {e : Expr} {te : TE} {pos : Pos} {n : Str} (he : PE X e te) (hb : attributeBase e n X.env (eval e X.env) = eval e X.env := by rfl) : PE X (.Attribute e n pos) (tXk X.K n te) := by
  refine ⟨fun pins s σ H Q I h => attr_of hb (thn (he.run pins s σ H _ I h) fun u s1 hh => ?_)⟩
  obtain ⟨x, H1, I1, rx, a, C, d, fs, v, rfl, ha, hd, T, hno, hl, q⟩ := hh
  obtain rfl : u = Value.ref a := rx
  obtain ⟨oe, od, mA, J, look, rel⟩ := inst_at I1 ha hd
  obtain ⟨uv, hu, ru⟩ := RelO.some_of (v := v) (o := mA n) (by rw [← hl]; exact rel n)
  exact HandSPX.exc_get I1.kIn J T.ga T.gg T.exC (PySem.W.findObj_own T.hdC hno rfl (by rw [look, hu])) (handed_of ru) ⟨v, H1, I1.tok _, ru, q⟩
/-- repr(x), x a list or a tuple of data, where nothing is being shown -/
theorem call_reprD (hg : X.A.guards = some []) : CallR X (.builtin "repr") (fun xs H Q => ∃ (a : Addr) (d : PyData), xs = [.ref a] ∧ Dp X.K H (.ref a) d ∧ d.showable = true ∧ d.hasDict = false ∧ X.A.units + (d.depth + 1) < cLine ∧ d.shown.length ≤ sizeLine ∧ Q (.str d.shown) H) := by
  intro pins s σ H xs us Q I r h
  obtain ⟨a, d, rfl, hd, h1, h2, h3, h4, q⟩ := h
  obtain ⟨u, rfl, rx⟩ := vals1 r
  obtain rfl : u = Value.ref a := rx
  obtain ⟨as, rd⟩ := Dp.reads I d (.ref a) (.ref a) hd rfl
  exact repr_of_reads' rd h1 (PyData.noDict_hsm h2) hg h3 (fun _ _ g => g) (fun h' u tk hk => ⟨.str d.shown, H, I.kept (t' := tk) hk, ⟨u, rfl⟩, q⟩) h4
end
/-! ### the told words are short, of letters -/
def Lets (z : Str) : Prop := ∀ ch ∈ z.cps.toList, isL ch = true
theorem S_lets {z : Str} {b e : Nat} (h : ∀ i, b ≤ i → i < e → letAt z i = true) (h1 : b ≤ e) (h2 : e ≤ z.length) : Lets (S z b e) := by
  intro ch hc
  rw [S_tl, show min b z.length = b by omega, show min e z.length = e by omega] at hc
  obtain ⟨i, hi, rfl⟩ := List.getElem_of_mem hc
  have hi2 : i < e - b := by
    rw [List.length_take] at hi
    omega
  rw [List.getElem_take, List.getElem_drop]
  have hl := h (b + i) (by omega) (by omega)
  have hlt : b + i < z.cps.toList.length := by
    rw [← len_tl]
    omega
  rw [letAt_some (List.getElem?_eq_getElem hlt)] at hl
  exact hl
theorem specW_lets {z : Str} {b m : Nat} {tk : List Str} {e : Nat} {c : Str} (hb : b ≤ z.length) (h : specW z b m tk = (e, some c)) : Lets c := by
  unfold specW at h
  split at h
  · cases h
  · split at h
    · cases h
    · cases h
      exact S_lets (fun i h1 h2 => runE_let z m b i h1 h2) (runE_ge z m b) (runE_len z m b hb)
theorem specC_lets (z : Str) : ∀ (n : Nat) (cs : List Str) (i : Nat), i ≤ z.length → (∀ c ∈ cs, Lets c) → ∀ ds, (specC z n cs i).2 = some ds → ∀ c ∈ ds, Lets c
  | 0, cs, i, h1, h3, ds, e => by
    unfold specC endC at e
    split at e
    · cases e
    · cases e
      exact h3
  | n + 1, cs, i, h1, h3, ds, e => by
    unfold specC at e
    split at e
    · rename_i hs
      have hi := sign_lt hs (by decide)
      obtain ⟨c1, c2, _⟩ := specW_cases z (i + 1) 4 cs (by omega) (by omega)
      cases e2 : specW z (i + 1) 4 cs with
      | mk a b =>
        rw [e2] at e c1 c2
        cases b with
        | none => cases e
        | some c =>
          refine specC_lets z n (cs ++ [c]) a c2 (fun x hx => ?_) ds e
          rcases List.mem_append.mp hx with hx | hx
          · exact h3 x hx
          · rw [List.mem_singleton.mp hx]
            exact specW_lets (by omega) e2
    · unfold endC at e
      split at e
      · cases e
      · cases e
        exact h3
/-- a short sort of letters -/
def SortG (s : Str × List Str) : Prop := s.1.length ≤ 8 ∧ Lets s.1 ∧ s.2.length ≤ 6 ∧ ∀ c ∈ s.2, c.length ≤ 4 ∧ Lets c
theorem specS_good' {z : Str} {ns : List Str} {s : Str × List Str} (h : (specS z ns).2 = some s) : SortG s := by
  obtain ⟨n, cs⟩ := s
  obtain ⟨l1, l2⟩ := specS_len z ns
  obtain ⟨g1, g2, g3⟩ := l2 n cs h
  have hl : Lets n ∧ ∀ c ∈ cs, Lets c := by
    unfold specS at h
    cases e : specW z 0 8 ns with
    | mk a b =>
      rw [e] at h
      cases b with
      | none => cases h
      | some c =>
        have h' : (if S z a (a + 1) = Str.ofString ":" then (match specC z 6 [] (a + 1) with
            | (a, none) => (a, none)
            | (a, some cs) => (a, some (c, cs))) else (a, none) : Nat × Option (Str × List Str)).2 = some (n, cs) := h
        split at h'
        · rename_i hs
          have hi := sign_lt hs (by decide)
          cases e2 : specC z 6 [] (a + 1) with
          | mk a2 b2 =>
            rw [e2] at h'
            cases b2 with
            | none => cases h'
            | some ds =>
              cases h'
              exact ⟨specW_lets (Nat.zero_le _) e, specC_lets z 6 [] (a + 1) (by omega) (fun c h => absurd h List.not_mem_nil) _ (by rw [e2])⟩
        · cases h'
  exact ⟨g1, hl.1, g2, fun c hc => ⟨g3 c hc, hl.2 c hc⟩⟩
/-- what a text tells is small -/
def SpecG : Sum (Nat × Nat) (List (Str × List Str)) → Prop
  | .inl (r, i) => r ≤ 4 ∧ i ≤ 1000000
  | .inr ss => ss.length ≤ 4 ∧ ∀ s ∈ ss, SortG s
theorem specP_good : ∀ (zs : List Str) (row : Nat) (ss : List (Str × List Str)), (∀ z ∈ zs, z.length ≤ 1000000) → row = ss.length → row ≤ 4 → (∀ s ∈ ss, SortG s) → SpecG (specP zs row ss)
  | [], row, ss, _, h1, h2, h3 => ⟨by omega, h3⟩
  | z :: r, row, ss, h0, h1, h2, h3 => by
    unfold specP
    split
    · exact ⟨by omega, Nat.zero_le _⟩
    · have hz := h0 z List.mem_cons_self
      have hl := (specS_len z (ss.map (·.1))).1
      cases e : specS z (ss.map (·.1)) with
      | mk a b =>
        rw [e] at hl
        cases b with
        | none => exact ⟨h2, Nat.le_trans hl hz⟩
        | some s =>
          refine specP_good r (row + 1) (ss ++ [s]) (fun x hx => h0 x (List.mem_cons_of_mem _ hx)) (by rw [List.length_append, h1]; rfl) (by omega) fun x hx => ?_
          rcases List.mem_append.mp hx with hx | hx
          · exact h3 x hx
          · rw [List.mem_singleton.mp hx]
            exact specS_good' (z := z) (ns := ss.map (·.1)) (by rw [e])
theorem split_good (z : Str) (hz : z.length ≤ 999999) : SpecG (specP (Txt.split z (Str.ofString "\n")) 0 []) :=
  specP_good _ 0 [] (fun x hx => by have := split_len z (Str.ofString "\n") x hx; omega) rfl (Nat.zero_le _) (fun s h => absurd h List.not_mem_nil)
/-- data that can be shown -/
def Shows (d : PyData) : Prop := d.showable = true ∧ d.hasDict = false ∧ d.depth ≤ 8 ∧ d.shown.length ≤ 100000
theorem lets_repr {z : Str} (h : Lets z) : (reprText z).length ≤ 10 * z.length + 2 := StrLaws.reprText_len z fun c hc => by
  have := h c hc
  unfold isL at this
  rw [Bool.and_eq_true, decide_eq_true_iff, decide_eq_true_iff] at this
  have e : (16 : Nat) ^ 8 = 4294967296 := by decide
  omega
theorem strs_show : ∀ cs : List Str, (∀ c ∈ cs, c.length ≤ 4 ∧ Lets c) → PyData.showableAll (cs.map PyData.str) = true ∧ PyData.hasDictAll (cs.map PyData.str) = false ∧ PyData.depthAll (cs.map PyData.str) ≤ 1 ∧ ((PyData.shownAll (cs.map PyData.str)).map (·.length)).sum ≤ cs.length * 42 ∧ (PyData.shownAll (cs.map PyData.str)).length = cs.length
  | [], _ => by simp [PyData.showableAll, PyData.hasDictAll, PyData.depthAll, PyData.shownAll]
  | x :: r, h => by
    obtain ⟨h1, h2, h3, h4, h5⟩ := strs_show r fun c hc => h c (List.mem_cons_of_mem _ hc)
    have hx := h x List.mem_cons_self
    have hr := lets_repr hx.2
    refine ⟨by simp [PyData.showableAll, PyData.showable, h1], by simp [PyData.hasDictAll, PyData.hasDict, h2], ?_, ?_, ?_⟩
    · simp only [List.map_cons, PyData.depthAll, PyData.depth]
      omega
    · simp only [List.map_cons, PyData.shownAll, PyData.shown, List.sum_cons, List.length_cons]
      omega
    · simp only [List.map_cons, PyData.shownAll, List.length_cons, h5]
theorem sort_show {s : Str × List Str} (h : SortG s) : (sortD s).showable = true ∧ (sortD s).hasDict = false ∧ (sortD s).depth ≤ 5 ∧ (sortD s).shown.length ≤ 400 := by
  obtain ⟨g1, g2, g3, g4⟩ := h
  obtain ⟨h1, h2, h3, h4, h5⟩ := strs_show s.2 g4
  have hr := lets_repr g2
  have t1 := tupleText_len_le (PyData.shownAll (s.2.map PyData.str))
  have t2 := tupleText_len_le [reprText s.1, tupleText (PyData.shownAll (s.2.map PyData.str))]
  refine ⟨by simp [sortD, PyData.showable, PyData.showableAll, h1], by simp [sortD, PyData.hasDict, PyData.hasDictAll, h2], ?_, ?_⟩
  · simp only [sortD, PyData.depth, PyData.depthAll]
    omega
  · simp only [sortD, PyData.shown, PyData.shownAll]
    simp only [List.map_cons, List.map_nil, List.sum_cons, List.sum_nil, List.length_cons, List.length_nil] at t2
    omega
theorem sorts_show : ∀ ss : List (Str × List Str), (∀ s ∈ ss, SortG s) → PyData.showableAll (ss.map sortD) = true ∧ PyData.hasDictAll (ss.map sortD) = false ∧ PyData.depthAll (ss.map sortD) ≤ 5 ∧ ((PyData.shownAll (ss.map sortD)).map (·.length)).sum ≤ ss.length * 400 ∧ (PyData.shownAll (ss.map sortD)).length = ss.length
  | [], _ => by simp [PyData.showableAll, PyData.hasDictAll, PyData.depthAll, PyData.shownAll]
  | x :: r, h => by
    obtain ⟨h1, h2, h3, h4, h5⟩ := sorts_show r fun c hc => h c (List.mem_cons_of_mem _ hc)
    obtain ⟨g1, g2, g3, g4⟩ := sort_show (h x List.mem_cons_self)
    refine ⟨by simp [PyData.showableAll, g1, h1], by simp [PyData.hasDictAll, g2, h2], ?_, ?_, ?_⟩
    · simp only [List.map_cons, PyData.depthAll]
      omega
    · simp only [List.map_cons, PyData.shownAll, List.sum_cons, List.length_cons]
      omega
    · simp only [List.map_cons, PyData.shownAll, List.length_cons, h5]
theorem data_show {r : Sum (Nat × Nat) (List (Str × List Str))} (h : SpecG r) : Shows (dataP r) := by
  cases r with
  | inl p =>
    obtain ⟨r, i⟩ := p
    obtain ⟨h1, h2⟩ := h
    have l1 := num_len (r := r) (by omega)
    have l2 := num_len (r := i) (by omega)
    have t := listText_len_le [reprText (Str.ofString "text"), Str.ofString (toString ((r : Nat) : Int)), Str.ofString (toString ((i : Nat) : Int))]
    have e : (reprText (Str.ofString "text")).length = 6 := by decide +kernel
    refine ⟨?_, by simp [dataP, PyData.hasDict, PyData.hasDictAll], ?_, ?_⟩
    · simp [dataP, PyData.showable, PyData.showableAll]
      exact ⟨num_log (by omega), num_log (by omega)⟩
    · simp only [dataP, PyData.depth, PyData.depthAll]
      omega
    · simp only [dataP, PyData.shown, PyData.shownAll]
      simp only [List.map_cons, List.map_nil, List.sum_cons, List.sum_nil, List.length_cons, List.length_nil] at t
      omega
  | inr ss =>
    obtain ⟨h1, h2⟩ := h
    obtain ⟨g1, g2, g3, g4, g5⟩ := sorts_show ss h2
    have t1 := tupleText_len_le (PyData.shownAll (ss.map sortD))
    have t2 := listText_len_le [reprText (Str.ofString "told"), tupleText (PyData.shownAll (ss.map sortD))]
    have e : (reprText (Str.ofString "told")).length = 6 := by decide +kernel
    refine ⟨by simp [dataP, PyData.showable, PyData.showableAll, g1], by simp [dataP, PyData.hasDict, PyData.hasDictAll, g2], ?_, ?_⟩
    · simp only [dataP, PyData.depth, PyData.depthAll]
      omega
    · simp only [dataP, PyData.shown, PyData.shownAll]
      simp only [List.map_cons, List.map_nil, List.sum_cons, List.sum_nil, List.length_cons, List.length_nil] at t2
      omega
end Cv
set_option Elab.async false
set_option linter.all false
set_option maxRecDepth 100000
set_option maxHeartbeats 4000000
namespace Cv
open PySem PySem.Spec PyProof.Rows L2
/-! ### what is told -/
abbrev sTo : Stmt := topS 33
theorem scTo : FnScope ["_law_text", "_law_caught", "_law_found", "e"] ["_law_text"] (defScope sTo) := ⟨rfl, rfl, rfl, by decide +kernel, rfl, by decide +kernel, by decide +kernel⟩
/-- the classes: NoText at C, CountError at C0, the four others -/
structure Exs (K : PySem.W.Frag) (mg : Str → Option Value) (C C0 c1 c2 c3 c4 : Addr) : Prop where
  g0 : mg "CountError" = some (.ref C0)
  gC : mg "NoText" = some (.ref C)
  g1 : mg "NoBook" = some (.ref c1)
  g2 : mg "NoCodes" = some (.ref c2)
  g3 : mg "NoPlan" = some (.ref c3)
  g4 : mg "NoRecord" = some (.ref c4)
  mi : mg "isinstance" = none
  mv : mg "ValueError" = none
  ex : PySem.W.exmOne K (.ref C) (.ref C0) = some true
  xc : ExcC K C
  xf : XfC K C
  nR : PySem.W.findIn K (.ref C) "row" = some none
  nA : PySem.W.findIn K (.ref C) "at" = some none
  k4 : PySem.W.kitAny K (.ref C) [.ref c1, .ref c2, .ref c3, .ref c4] = some false
  kv : PySem.W.kitOne K (.ref C) (.type "ValueError") = some true
  kc : PySem.W.kitOne K (.ref C) (.ref C) = some true
section
variable {P : Program} {w : World} {K : PySem.W.Frag} {mg : Str → Option Value} {base : Heap}
theorem ok_to {f fP C C0 c1 c2 c3 c4 : Addr} {fd fdP : FuncData} {k : Nat} (F : Fun K "_law_told" "_law_told" sTo f fd) (x : Exs K mg C C0 c1 c2 c3 c4) (GP : FnOk P w K mg base (CX P w) k fP fdP ["text"] (spRp C)) (kP : PySem.W.keepIn K (.ref fP) = true) (bP : Binds K fdP ["text"] []) (gP : mg "read_plan" = some (.ref fP)) :
    FnOk P w K mg base CX0 (k + 1) f fd ["_law_text"] (spLd K) := by
  refine F.ok scTo (fun vs H Q E h => ?_) (fun cdv A outer s H vs Q E hr h => ?_)
  · obtain ⟨z, rfl, _⟩ := h
    rfl
  · obtain ⟨z, rfl, hz, q⟩ := h
    refine ⟨_, pss_cons (ps_set (i := 1) scTo.nd rfl (.inl rfl) pe_non)
      (pss_cons (ps_set (i := 2) scTo.nd rfl (.inl rfl) pe_non)
      (pss_cons (ps_try_keep (i := 3) rfl rfl rfl scTo.nd rfl rfl ⟨rfl, by decide, .inl x.g0⟩
        (fun W pn xe tk _ => pss_one (ps_set (i := 2) scTo.nd rfl (.inl rfl) (pe_callS GP hr (by rfl) gP kP bP (fun σ => passAt tk σ) (pa_cons (pv 0) pa_nil))))
        (fun a oe cls d pn hz hf => pss_one (ps_set (i := 1) scTo.nd rfl (.inl rfl) (pv 3))))
      (pss_cons (ps_if (pt_cmpR op_isN (pv 1) pe_non (nomark _)) (pss_one (ps_ret (pe_lst (pa_cons pe_str (pa_cons (pv 2) pa_nil))))) pss_nil)
      (pss_cons (ps_if (PW.pt (pw_or (pt_val (pe_callB call_isXT (by rfl) x.mi PyProof.Rows.boot_isinstance (pa_cons (pv 1) (pa_cons (pe_tup (pa_cons (pe_glob (v := .ref c1) (by rfl) x.g1 rfl) (pa_cons (pe_glob (v := .ref c2) (by rfl) x.g2 rfl) (pa_cons (pe_glob (v := .ref c3) (by rfl) x.g3 rfl) (pa_cons (pe_glob (v := .ref c4) (by rfl) x.g4 rfl) pa_nil))))) pa_nil))))
          (pw_or1 (pt_not (pt_val (pe_callB call_isX (by rfl) x.mi PyProof.Rows.boot_isinstance (pa_cons (pv 1) (pa_cons (pe_bltn (v := .ty "ValueError") (by rfl) x.mv PyProof.Rows.Boot.«ValueError» rfl) pa_nil))))))))
        (pss_one (ps_ret (pe_lst (pa_cons pe_str pa_nil)))) pss_nil)
      (pss_cons (ps_if (pt_not (pt_val (pe_callB call_isX (by rfl) x.mi PyProof.Rows.boot_isinstance (pa_cons (pv 1) (pa_cons (pe_glob (v := .ref C) (by rfl) x.gC rfl) pa_nil))))) (pss_one (ps_ret (pe_lst (pa_cons pe_str pa_nil)))) pss_nil)
      (pss_one (ps_ret (pe_lst (pa_cons pe_str (pa_cons (pe_xk (pv 1)) (pa_cons (pe_xk (pv 1)) pa_nil))))))))))), ?_⟩
    refine ⟨.str z, rfl, z, rfl, hz, fun r i hspec H' d hS nd hd => ?_, fun ss hspec H' t xs hS nt ht hp => ?_⟩
    · refine ⟨x.ex, C, d, rfl, rfl, fun a na => ⟨.ref a, rfl, ?_⟩⟩
      rw [hspec] at q
      have sA := hS.trans (same_upd na (o := xob a C d))
      have ha : (upd H' a (xob a C d)) a = some (xob a C d) := upd_same
      have hd2 := (same_upd na (o := xob a C d)) _ _ hd
      refine ⟨.ref a, rfl, rfl, _, rfl, ite2 (fun e => absurd (of_decide_eq_true e) (fun h => nomatch h)) (fun _ => ?_)⟩
      refine ⟨.ref a, rfl, (by show 4 ≤ sizeLine; decide), fun tp ntp => ?_⟩
      have s3 := same_upd ntp (o := .tup [.ref c1, .ref c2, .ref c3, .ref c4])
      refine ⟨a, C, d, tp, _, _, _, false, rfl, s3 _ _ ha, s3 _ _ hd2, upd_same, .cons (.own _) (.cons (.own _) (.cons (.own _) (.cons (.own _) .nil))), x.xc, x.k4, false, rfl, ?_⟩
      refine iteF ⟨.ref a, rfl, a, C, d, _, _, _, true, rfl, s3 _ _ ha, s3 _ _ hd2, .ty _, x.xc, x.kv, true, rfl, ?_⟩
      refine iteF ⟨.ref a, rfl, a, C, d, _, _, _, true, rfl, s3 _ _ ha, s3 _ _ hd2, .own _, x.xc, x.kc, true, rfl, ?_⟩
      refine iteF ⟨.ref a, rfl, a, C, d, _, .int r, rfl, s3 _ _ ha, s3 _ _ hd2, x.xf, x.nR, rfl, .ref a, rfl, a, C, d, _, .int i, rfl, s3 _ _ ha, s3 _ _ hd2, x.xf, x.nA, rfl, (by show 3 ≤ sizeLine; decide), fun t nt => ?_⟩
      have s4 := sA.trans s3
      exact q _ t (s4.trans (same_upd nt)) (s4.free nt) (.lst (SqL.of upd_same) (.cons (.str _) (.cons (.int _) (.cons (.int _) .nil))))
    · rw [hspec] at q
      refine ⟨_, rfl, rfl, _, rfl, ite2 (fun _ => ?_) (fun e => absurd (decide_eq_true rfl) e)⟩
      refine ⟨.ref t, rfl, (by show 2 ≤ sizeLine; decide), fun u nu => ?_⟩
      exact q _ u (hS.trans (same_upd nu)) (hS.free nu) (.lst (SqL.of upd_same) (.cons (.str _) (.cons (.tup (SqT.of ((same_upd nu) _ _ ht)) (sorts_dp (sorts_same (same_upd nu) hp))) .nil)))
end
end Cv
set_option Elab.async false
set_option linter.all false
set_option maxRecDepth 100000
set_option maxHeartbeats 8000000
namespace Cv
open PySem PySem.Spec PyProof.Rows L2
/-! ### texts by hand -/
abbrev sBh : Stmt := topS 34
theorem scBh : FnScope ["_law_some"] [] (defScope sBh) := ⟨rfl, rfl, rfl, by decide +kernel, rfl, by decide +kernel, by decide +kernel⟩
def spBh : Sp := fun vs H Q _ => vs = [] ∧ ∀ (H' : Hp) (l : Addr) (ws : List Str), Same H H' → H l = none → H' l = some (.lst (ws.map V.str)) → ws.length ≤ 100 → (∀ z ∈ ws, z.length ≤ 100) → Q (.ref l) H'
theorem same_via {H H1 : Hp} {p : Addr} (s : Same H H1) (n : H1 p = none) (o : HO) : Same H (upd H1 p o) := s.trans (same_upd n)
theorem same_new {H H1 : Hp} {p : Addr} (s : Same H H1) (n : H p = none) (o : HO) : Same H (upd H1 p o) := fun b x e => by
  rw [upd_ne (ne_of_none e n)]
  exact s b x e
def Short (ws : List Str) : Prop := ∀ z ∈ ws, z.length ≤ 100
theorem short_app {a b : List Str} (h1 : Short a) (h2 : Short b) : Short (a ++ b) := fun z hz => (List.mem_append.mp hz).elim (h1 z) (h2 z)
section
variable {P : Program} {w : World} {K : PySem.W.Frag} {mg : Str → Option Value} {base : Heap}
/-- a written list of texts -/
def shortV : V → Bool
  | .str z => decide (z.length ≤ 100)
  | _ => false
theorem some_strs {vs : List V} : vs.all shortV = true → ∃ ws : List Str, vs = ws.map V.str ∧ Short ws := by
  intro h
  induction vs with
  | nil => exact ⟨[], rfl, fun z hz => absurd hz List.not_mem_nil⟩
  | cons v r ih =>
    rw [List.all_cons, Bool.and_eq_true] at h
    obtain ⟨ws, e, hs⟩ := ih h.2
    cases v with
    | str z =>
      refine ⟨z :: ws, by rw [e]; rfl, fun y hy => ?_⟩
      rcases List.mem_cons.mp hy with rfl | hy
      · exact of_decide_eq_true h.1
      · exact hs y hy
    | _ => exact absurd h.1 Bool.false_ne_true
theorem ok_bh {f : Addr} {fd : FuncData} {k : Nat} (F : Fun K "_law_by_hand" "_law_by_hand" sBh f fd) : FnOk P w K mg base CX0 (k + 1) f fd [] spBh := by
  refine F.ok scBh (fun vs H Q E h => ?_) (fun cdv A outer s H vs Q E hr h => ?_)
  · obtain ⟨rfl, _⟩ := h
    rfl
  · obtain ⟨rfl, q⟩ := h
    refine ⟨_, pss_cons (ps_set (i := 0) scBh.nd rfl (.inl rfl) (pe_lst (pa_cons pe_str (pa_cons pe_str (pa_cons pe_str (pa_cons pe_str (pa_cons pe_str (pa_cons pe_str (pa_cons pe_str (pa_cons pe_str (pa_cons pe_str (pa_cons pe_str pa_nil))))))))))))
      (pss_cons (ps_set (i := 0) scBh.nd rfl (.inl rfl) (pe_op op_cat (pv 0) (pe_lst (pa_cons pe_str (pa_cons pe_str (pa_cons pe_str (pa_cons pe_str (pa_cons pe_str pa_nil))))))))
      (pss_cons (ps_set (i := 0) scBh.nd rfl (.inl rfl) (pe_op op_cat (pv 0) (pe_lst (pa_cons pe_str (pa_cons pe_str (pa_cons pe_str (pa_cons pe_str (pa_cons pe_str (pa_cons pe_str pa_nil)))))))))
      (pss_cons (ps_set (i := 0) scBh.nd rfl (.inl rfl) (pe_op op_cat (pv 0) (pe_lst (pa_cons pe_str (pa_cons pe_str (pa_cons pe_str (pa_cons pe_str pa_nil)))))))
      (pss_cons (ps_expr (pe_bm PySem.F.plainAttrs_list PySem.F.slot_list_append PySem.F.type_list_append mt_append (pv 0) (pa_cons pe_str pa_nil)))
      (pss_one (ps_ret (pe_op op_cat (pv 0) (pe_lst (pa_cons pe_str (pa_cons pe_str (pa_cons pe_str (pa_cons pe_str (pa_cons pe_str pa_nil))))))))))))), ?_⟩
    have fin : ∀ (H' : Hp) (l : Addr) (L : List V), Same H H' → H l = none → H' l = some (.lst L) → L.length ≤ 100 → L.all shortV = true → Q (.ref l) H' := fun H' l L h1 h2 h3 h4 h5 => by
      obtain ⟨ws, rfl, hs⟩ := some_strs h5
      exact q H' l ws h1 h2 h3 (by rw [List.length_map] at h4; exact h4) hs
    refine ⟨(by show 10 ≤ sizeLine; decide), fun a1 n1 => ?_⟩
    refine ⟨.ref a1, rfl, (by show 5 ≤ sizeLine; decide), fun b1 m1 => ?_⟩
    refine ⟨a1, b1, _, _, rfl, rfl, (same_upd m1) _ _ upd_same, upd_same, (by show 15 ≤ sizeLine; decide), fun a2 n2 => ?_⟩
    refine ⟨.ref a2, rfl, (by show 6 ≤ sizeLine; decide), fun b2 m2 => ?_⟩
    refine ⟨a2, b2, _, _, rfl, rfl, (same_upd m2) _ _ upd_same, upd_same, (by show 21 ≤ sizeLine; decide), fun a3 n3 => ?_⟩
    refine ⟨.ref a3, rfl, (by show 4 ≤ sizeLine; decide), fun b3 m3 => ?_⟩
    refine ⟨a3, b3, _, _, rfl, rfl, (same_upd m3) _ _ upd_same, upd_same, (by show 25 ≤ sizeLine; decide), fun a4 n4 => ?_⟩
    refine ⟨.ref a4, rfl, .inl ⟨rfl, _, SqL.of upd_same⟩, a4, _, _, rfl, rfl, upd_same, (by show 25 < sizeLine; decide), ?_⟩
    refine ⟨.ref a4, rfl, (by show 5 ≤ sizeLine; decide), fun b5 m5 => ?_⟩
    refine ⟨a4, b5, _, _, rfl, rfl, (same_upd m5) _ _ upd_same, upd_same, (by show 31 ≤ sizeLine; decide), fun a6 n6 => ?_⟩
    have c1 := same_via (Same.refl H) n1
    have c2 := same_via (c1 _) m1
    have c3 := same_via (c2 _) n2
    have c4 := same_via (c3 _) m2
    have c5 := same_via (c4 _) n3
    have c6 := same_via (c5 _) m3
    have n40 : H a4 = none := (c6 _).free n4
    have c7 := same_via (c6 _) n4
    have c9 := same_via (same_new (c7 _) n40 _) m5
    have c10 := same_via (c9 _) n6
    exact fin _ a6 _ (c10 _) ((c9 _).free n6) upd_same (by decide) (by decide +kernel)
end
end Cv
set_option Elab.async false
set_option linter.all false
set_option maxRecDepth 100000
set_option maxHeartbeats 8000000
namespace Cv
open PySem PySem.Spec PyProof.Rows L2
/-! ### the law -/
abbrev sLaw : Stmt := topS 35
abbrev nLaw : List Str := ["_law_script", "_law_purse_here", "_law_line", "_law_words", "_law_turn", "_law_plan_here", "_law_lines", "_law_at", "_law_some", "_law_again", "_law_due_here", "_law_sort_here"]
theorem scLaw : FnScope nLaw ["_law_script"] (defScope sLaw) := ⟨rfl, rfl, rfl, by decide +kernel, rfl, by decide +kernel, by decide +kernel⟩
def spLaw (K : PySem.W.Frag) : Sp := fun vs H Q _ => ∃ (a : Addr) (ns : List Int), vs = [.ref a] ∧ SqL K H a (ns.map V.int) ∧ ∀ H', Q (.bl true) H'
/-- a def's promise, where it stands -/
structure At (P : Program) (w : World) (K : PySem.W.Frag) (mg : Str → Option Value) (base : Heap) (k : Nat) (nm : Str) (f : Addr) (fd : FuncData) (ps : List Str) (sp : Sp) : Prop where
  G : FnOk P w K mg base CX0 k f fd ps sp
  kp : PySem.W.keepIn K (.ref f) = true
  b : Binds K fd ps []
  g : mg nm = some (.ref f)
theorem cut_strs (zs : List Str) (lo hi : Option Int) : ∃ us : List Str, cutV (zs.map V.str) lo hi = us.map V.str ∧ us.length ≤ zs.length ∧ ∀ z ∈ us, z ∈ zs := by
  unfold cutV
  rw [← List.map_drop, ← List.map_take]
  refine ⟨_, rfl, ?_, fun z hz => List.mem_of_mem_drop (List.mem_of_mem_take hz)⟩
  rw [List.length_take, List.length_drop]
  exact Nat.le_trans (Nat.min_le_right _ _) (Nat.sub_le _ _)
theorem join_short {us : List Str} (h1 : us.length ≤ 10) (h2 : ∀ z ∈ us, z.length ≤ 60) : (us.map (·.length)).sum + us.length * (Str.ofString "\n").length ≤ 16777216 ∧ (Txt.join (Str.ofString "\n") us).length ≤ 1000 := by
  have a1 := sum_le h2
  have a2 := glen (Str.ofString "\n") us
  have a3 : (Str.ofString "\n").length = 1 := by decide
  rw [a3] at a2 ⊢
  omega
def wds : List Str := [": ", " ab", "\n", "za: a b", " a", "abcd", "zz", "\nzz: b a", "  ", ":"]
theorem pow4 {j : Nat} (h : j ≤ 3) : 1000 * 4 ^ j ≤ 64000 := by
  match j, h with
  | 0, _ => decide
  | 1, _ => decide
  | 2, _ => decide
  | 3, _ => decide
section
variable {P : Program} {w : World} {K : PySem.W.Frag} {mg : Str → Option Value} {base : Heap}
theorem ok_law {f f1 f2 f3 f4 f5 f6 f7 f8 : Addr} {fd d1 d2 d3 d4 d5 d6 d7 d8 : FuncData} {k : Nat} (F : Fun K "law" "law" sLaw f fd) (A1 : At P w K mg base k "_law_purse" f1 d1 ["_law_script"] (spPurse K)) (A2 : At P w K mg base k "_law_by_hand" f2 d2 [] spBh) (A3 : At P w K mg base k "_law_told" f3 d3 ["_law_text"] (spLd K))
    (A4 : At P w K mg base k "_law_due" f4 d4 ["_law_text"] (spLd K)) (A5 : At P w K mg base k "_law_plan" f5 d5 ["_law_purse_here", "_law_least"] spPlan) (A6 : At P w K mg base k "_law_plan_line" f6 d6 ["_law_sort_here"] spPline) (A7 : At P w K mg base k "_law_draw" f7 d7 ["_law_purse_here", "_law_out_of"] spDraw)
    (A8 : At P w K mg base k "_law_bent" f8 d8 ["_law_purse_here", "_law_line", "_law_signs", "_law_words"] (spBent K)) (ml : mg "len" = none) (mr : mg "range" = none) (mp : mg "repr" = none) : FnAt callerA P w K mg base (k + 1) f fd ["_law_script"] (spLaw K) := by
  refine fn_at F scLaw (fun vs H Q E h => ?_) (fun cdv outer s H vs Q E hr h => ?_)
  · obtain ⟨a, ns, rfl, _⟩ := h
    rfl
  · obtain ⟨a, ns, rfl, hS, q⟩ := h
    have hsl := line_eq
    have hun := hr.un
    refine ⟨_, (pss_cons (ps_set (i := 1) scLaw.nd rfl (.inl rfl) (pe_call A1.G hr (by rfl) A1.g A1.kp A1.b .nil pass0 (pa_cons (pv 0) pa_nil)))
      (pss_cons (ps_for PassesOwn.never rfl (pi_list (pe_call0 A2.G hr (by rfl) A2.g A2.kp A2.b .nil pass0)) (pg_name (i := 2) scLaw.nd rfl (.inl rfl))
      (pss_one (ps_if (pt_cmpR op_ne (pe_callB (call_reprD rfl) (by rfl) mp (by decide +kernel) (pa_cons (pe_call A3.G hr (by rfl) A3.g A3.kp A3.b .nil pass0 (pa_cons (pv 2) pa_nil)) pa_nil)) (pe_callB (call_reprD rfl) (by rfl) mp (by decide +kernel) (pa_cons (pe_call A4.G hr (by rfl) A4.g A4.kp A4.b .nil pass0 (pa_cons (pv 2) pa_nil)) pa_nil)) (nomark _)) (pss_one (ps_ret pe_bl)) pss_nil)))
      (pss_cons (ps_set (i := 3) scLaw.nd rfl (.inl rfl) (pe_lst (pa_cons pe_str (pa_cons pe_str (pa_cons pe_str (pa_cons pe_str (pa_cons pe_str (pa_cons pe_str (pa_cons pe_str (pa_cons pe_str (pa_cons pe_str (pa_cons pe_str pa_nil))))))))))))
      (pss_cons (ps_for PassesOwn.never rfl (pi_range1 (by rfl) mr (pa_cons pe_int pa_nil)) (pg_name (i := 4) scLaw.nd rfl (.inl rfl))
      (pss_cons (ps_set (i := 5) scLaw.nd rfl (.inl rfl) (pe_call A5.G hr (by rfl) A5.g A5.kp A5.b .nil pass0 (pa_cons (pv 1) (pa_cons pe_int pa_nil))))
      (pss_cons (ps_setLc (i := 6) (own := [("_law_sort_here", 11)]) (g := gName 11) (tt := tYes) rfl scLaw.nd rfl rfl (sw_true rfl rfl rfl (by decide +kernel)) (pi_tup (pv 5))
        (blkOk_by (own := [("_law_sort_here", 11)]) (N := nLaw) (sc := defScope sLaw) (by decide +kernel)) (fun _ _ _ _ _ => pg_name (i := 11) scLaw.nd rfl (Or.inl rfl)) (fun _ _ _ _ _ => pts_nil)
        (fun _ _ _ _ _ => (pe_call A6.G hr (by rfl) A6.g A6.kp A6.b .nil pass0 (pa_cons (pv 11) pa_nil))))
      (pss_cons (ps_set (i := 7) scLaw.nd rfl (.inl rfl) (pe_call A7.G hr (by rfl) A7.g A7.kp A7.b .nil pass0 (pa_cons (pv 1) (pa_cons (pe_callB call_len_seq (by rfl) ml PySem.boot_len (pa_cons (pv 6) pa_nil)) pa_nil))))
      (pss_cons (ps_set (i := 8) scLaw.nd rfl (.inl rfl) (pe_lst (pa_cons (pe_join pe_str (pv 6)) (pa_cons (pe_join pe_str (pe_op op_cat (pe_slice sl_list (pv 6) po_none (po_some (pv 7))) (pe_slice sl_list (pv 6) (po_some (pe_op op_add (pv 7) pe_int)) po_none))) (pa_cons (pe_join pe_str (pe_op op_cat (pv 6) (pe_slice sl_list (pv 6) (po_some (pv 7)) (po_some (pe_op op_add (pv 7) pe_int))))) pa_nil)))))
      (pss_one (ps_for PassesOwn.never rfl (pi_list (pv 8)) (pg_name (i := 2) scLaw.nd rfl (.inl rfl))
      (pss_one (ps_for PassesOwn.never rfl (pi_range1 (by rfl) mr (pa_cons pe_int pa_nil)) (pg_name (i := 9) scLaw.nd rfl (.inl rfl))
      (pss_cons (ps_set (i := 10) scLaw.nd rfl (.inl rfl) (pe_callB (call_reprD rfl) (by rfl) mp (by decide +kernel) (pa_cons (pe_call A4.G hr (by rfl) A4.g A4.kp A4.b .nil pass0 (pa_cons (pv 2) pa_nil)) pa_nil)))
      (pss_cons (ps_if (PW.pt (pw_or (pt_cmpR op_ne (pe_callB (call_reprD rfl) (by rfl) mp (by decide +kernel) (pa_cons (pe_call A3.G hr (by rfl) A3.g A3.kp A3.b .nil pass0 (pa_cons (pv 2) pa_nil)) pa_nil)) (pv 10) (nomark _)) (pw_or1 (pt_cmpR op_ne (pe_callB (call_reprD rfl) (by rfl) mp (by decide +kernel) (pa_cons (pe_call A3.G hr (by rfl) A3.g A3.kp A3.b .nil pass0 (pa_cons (pv 2) pa_nil)) pa_nil)) (pv 10) (nomark _))))) (pss_one (ps_ret pe_bl)) pss_nil)
      (pss_one (ps_set (i := 2) scLaw.nd rfl (.inl rfl) (pe_call A8.G hr (by rfl) A8.g A8.kp A8.b .nil pass0 (pa_cons (pv 1) (pa_cons (pv 2) (pa_cons pe_str (pa_cons (pv 3) pa_nil))))))))))))))))))
      (pss_one (ps_ret pe_bl)))))), ?_⟩
    -- the purse
    refine ⟨.ref a, rfl, a, ns, rfl, hS, fun H1 p c s1 np nc hP => ?_⟩
    -- texts by hand
    refine ⟨rfl, fun H2 l ws s2 nl hl hlw hws => ?_⟩
    refine ⟨l, rfl, ⟨_, SqL.of hl⟩, ?_⟩
    have showU : ∀ {r : Sum (Nat × Nat) (List (Str × List Str))}, SpecG r → (callerA.deeper (envOfC (Str.ofString "law") (defScope sLaw) s.heap.objs.size f cdv)).units + ((dataP r).depth + 1) < cLine := fun {r} h => by
      have := (data_show h).2.2.1
      omega
    have showL : ∀ {r : Sum (Nat × Nat) (List (Str × List Str))}, SpecG r → (dataP r).shown.length ≤ sizeLine := fun {r} h => by
      have := (data_show h).2.2.2
      omega
    refine for_list (K := K) (a := l) (xs := ws.map V.str) (fun i σ H' => ∃ y2, σ = [some (.ref a), some (.ref p), y2, none, none, none, none, none, none, none, none, none] ∧ Same H2 H') ⟨none, rfl, Same.refl _⟩ (fun i σ H' _ h => ?_) (fun i x σ H' hx h => ?_) (fun σ H' h => ?_)
    · obtain ⟨y2, rfl, hS2⟩ := h
      exact SqL.of (hS2 _ _ hl)
    · obtain ⟨y2, rfl, hS2⟩ := h
      obtain ⟨z, hz, rfl⟩ := List.mem_map.mp (List.mem_of_getElem? hx)
      have hz1 := hws z hz
      have G := split_good z (by omega)
      have D := data_show G
      refine ⟨.str z, rfl, z, rfl, by omega, fun H3 t3 s3 n3 e3 => ⟨t3, _, rfl, e3, D.1, D.2.1, showU G, showL G, ?_⟩⟩
      refine ⟨.str z, rfl, z, rfl, by omega, fun H4 t4 s4 n4 e4 => ⟨t4, _, rfl, e4, D.1, D.2.1, showU G, showL G, ?_⟩⟩
      exact ⟨rfl, _, rfl, ite2 (fun e => absurd rfl (ndT e)) (fun _ => ⟨_, rfl, (hS2.trans s3).trans s4⟩)⟩
    obtain ⟨y2, rfl, hS2⟩ := h
    refine ⟨(by show 10 ≤ sizeLine; decide), fun wl nwl => ?_⟩
    have hPw := (hP.same (s2.trans hS2))
    obtain ⟨wp, wc⟩ := hPw.nep nwl
    refine ⟨6, rfl, by decide, by decide, ?_⟩
    refine for_range (lo := 0) (n := (6 : Int).toNat) (fun i σ H' => ∃ y2 y4 y5 y6 y7 y8 y9 y10 y11, σ = [some (.ref a), some (.ref p), y2, some (.ref wl), y4, y5, y6, y7, y8, y9, y10, y11] ∧ Pur H' p c (2000 * i) ∧ H' wl = some (.lst (wds.map V.str)))
      ⟨y2, none, none, none, none, none, none, none, none, rfl, hPw.same (same_upd nwl), upd_same⟩ (fun i σ H' hi h => ?_) (fun σ H' h => q H')
    have hi6 : i < 6 := hi
    obtain ⟨y2, y4, y5, y6, y7, y8, y9, y10, y11, rfl, hP2, hwl⟩ := h
    -- a plan
    refine ⟨.ref p, rfl, p, c, _, rfl, hP2, by omega, fun H5 t xs nt ht x1 x4 hxs hP5 hK5 => ?_⟩
    have hwl5 := hK5 _ _ wp wc hwl
    -- its lines
    refine ⟨.ref t, rfl, t, rfl, ⟨_, SqT.of ht⟩, fun D nD => ?_⟩
    refine lc_tup (K := K) (a := t) (xs := xs) (fun j H6 => ∃ zs : List Str, Same H5 H6 ∧ H6 D = some (.lst (zs.map V.str)) ∧ zs.length = j ∧ ∀ z ∈ zs, z.length ≤ 60) ⟨[], same_upd nD, upd_same, rfl, (fun _ h => absurd h List.not_mem_nil)⟩ (fun j H6 _ h => ?_) (fun j x H6 hx h => ?_) (fun H6 h => ?_)
    · obtain ⟨zs, g1, _⟩ := h
      exact SqT.of (g1 _ _ ht)
    · obtain ⟨zs, g1, g2, g3, g4⟩ := h
      have hj : j < xs.length := (List.getElem?_eq_some_iff.mp hx).1
      refine ⟨rfl, _, rfl, x, rfl, (hxs x (List.mem_of_getElem? hx)).same g1, fun z hz => ⟨_, g2, ?_, zs ++ [z], ?_, ?_, ?_, ?_⟩⟩
      · rw [List.length_map]
        exact small1000 (by omega)
      · intro b o e
        rw [upd_ne (ne_of_none e nD)]
        exact g1 _ _ e
      · rw [upd_same, List.map_append]
        rfl
      · rw [List.length_append, g3]
        rfl
      · intro y hy
        rcases List.mem_append.mp hy with hy | hy
        · exact g4 y hy
        · rw [List.mem_singleton.mp hy]
          exact hz
    obtain ⟨zs, g1, g2, g3, g4⟩ := h
    have hP6 := hP5.same g1
    have hwl6 := g1 _ _ hwl5
    obtain ⟨Dp', Dc⟩ := hP5.nep nD
    -- a place
    refine ⟨.ref p, rfl, .ref D, rfl, D, _, rfl, .inl (SqL.of g2), p, c, _, _, rfl, hP6, by omega, by rw [List.length_map]; omega, by rw [List.length_map]; omega, fun H7 r r0 r1 hP7 hK7 => ?_⟩
    have hD7 := hK7 _ _ Dp' Dc g2
    have hwl7 := hK7 _ _ wp wc hwl6
    -- three texts
    obtain ⟨us1, eu1, l1, m1⟩ := cut_strs zs none (some r)
    obtain ⟨us2, eu2, l2, m2⟩ := cut_strs zs (some (r + 1)) none
    obtain ⟨us3, eu3, l3, m3⟩ := cut_strs zs (some r) (some (r + 1))
    obtain ⟨j1, k1⟩ := join_short (us := zs) (by omega) g4
    obtain ⟨j2, k2⟩ := join_short (us := us1 ++ us2) (by rw [List.length_append]; omega) (fun z hz => (List.mem_append.mp hz).elim (fun h => g4 z (m1 z h)) (fun h => g4 z (m2 z h)))
    obtain ⟨j3, k3⟩ := join_short (us := zs ++ us3) (by rw [List.length_append]; omega) (fun z hz => (List.mem_append.mp hz).elim (fun h => g4 z h) (fun h => g4 z (m3 z h)))
    refine ⟨⟨_, rfl⟩, .ref D, rfl, _, D, zs, rfl, rfl, .inl (SqL.of hD7), j1, ?_⟩
    refine ⟨⟨_, rfl⟩, .ref D, rfl, _, rfl, _, rfl, D, _, rfl, SqL.of hD7, fun u1 n1 => ?_⟩
    have c1 := same_via (Same.refl H7) n1 (.lst (cutV (zs.map V.str) none (some r)))
    refine ⟨.ref D, rfl, _, rfl, _, _, rfl, rfl, _, rfl, D, _, rfl, SqL.of (c1 _ _ hD7), fun u2 n2 => ?_⟩
    have c2 := same_via c1 n2 (.lst (cutV (zs.map V.str) (some (r + 1)) none))
    refine ⟨u1, u2, us1.map V.str, us2.map V.str, rfl, rfl, ?_, ?_, ?_, fun u3 n3 => ?_⟩
    · rw [← eu1]
      exact (same_upd n2) _ _ upd_same
    · rw [upd_same, eu2]
    · rw [List.length_map, List.length_map]
      omega
    have c3 := same_via c2 n3 (.lst (us1.map V.str ++ us2.map V.str))
    refine ⟨_, u3, us1 ++ us2, rfl, rfl, .inl (SqL.of (by rw [upd_same, List.map_append])), j2, ?_⟩
    refine ⟨⟨_, rfl⟩, .ref D, rfl, .ref D, rfl, _, rfl, _, rfl, _, rfl, _, _, rfl, rfl, _, rfl, D, _, rfl, SqL.of (c3 _ _ hD7), fun u4 n4 => ?_⟩
    have c4 := same_via c3 n4 (.lst (cutV (zs.map V.str) (some r) (some (r + 1))))
    refine ⟨D, u4, _, us3.map V.str, rfl, rfl, c4 _ _ hD7, ?_, ?_, fun u5 n5 => ?_⟩
    · rw [upd_same, eu3]
    · rw [List.length_map, List.length_map]
      omega
    have c5 := same_via c4 n5 (.lst (zs.map V.str ++ us3.map V.str))
    refine ⟨_, u5, zs ++ us3, rfl, rfl, .inl (SqL.of (by rw [upd_same, List.map_append])), j3, ?_⟩
    refine ⟨(by show 3 ≤ sizeLine; decide), fun sm nsm => ?_⟩
    have hjs : ∀ x ∈ [V.str (Txt.join (Str.ofString "\n") zs), V.str (Txt.join (Str.ofString "\n") (us1 ++ us2)), V.str (Txt.join (Str.ofString "\n") (zs ++ us3))], ∃ z : Str, x = .str z ∧ z.length ≤ 1000 := fun x hx => by
      rcases List.mem_cons.mp hx with rfl | hx
      · exact ⟨_, rfl, k1⟩
      · rcases List.mem_cons.mp hx with rfl | hx
        · exact ⟨_, rfl, k2⟩
        · rw [List.mem_singleton.mp hx]
          exact ⟨_, rfl, k3⟩
    have c6 := same_via c5 nsm (.lst [V.str (Txt.join (Str.ofString "\n") zs), V.str (Txt.join (Str.ofString "\n") (us1 ++ us2)), V.str (Txt.join (Str.ofString "\n") (zs ++ us3))])
    obtain ⟨sp', sc⟩ := (hP7.same c5).nep nsm
    refine ⟨.ref sm, rfl, sm, rfl, ⟨_, SqL.of upd_same⟩, ?_⟩
    refine for_list (K := K) (a := sm) (xs := [V.str (Txt.join (Str.ofString "\n") zs), V.str (Txt.join (Str.ofString "\n") (us1 ++ us2)), V.str (Txt.join (Str.ofString "\n") (zs ++ us3))]) (fun n σ H' => ∃ y2 y4 y5 y6 y7 y9 y10 y11, σ = [some (.ref a), some (.ref p), y2, some (.ref wl), y4, y5, y6, y7, some (.ref sm), y9, y10, y11] ∧ Pur H' p c (2000 * i + 1001 + 20 * n) ∧ H' wl = some (.lst (wds.map V.str)) ∧ H' sm = some (.lst [V.str (Txt.join (Str.ofString "\n") zs), V.str (Txt.join (Str.ofString "\n") (us1 ++ us2)), V.str (Txt.join (Str.ofString "\n") (zs ++ us3))]))
      ⟨_, _, _, _, _, _, _, _, rfl, hP7.same c6, c6 _ _ hwl7, upd_same⟩ (fun n σ H' _ h => ?_) (fun n x σ H' hx h => ?_) (fun σ H' h => ?_)
    · obtain ⟨_, _, _, _, _, _, _, _, _, _, _, h⟩ := h
      exact SqL.of h
    · obtain ⟨y2, y4, y5, y6, y7, y9, y10, y11, rfl, hP8, hw8, hs8⟩ := h
      have hn3 : n < 3 := (List.getElem?_eq_some_iff.mp hx).1
      obtain ⟨z, rfl, hz⟩ := hjs x (List.mem_of_getElem? hx)
      refine ⟨4, rfl, by decide, by decide, ?_⟩
      refine for_range (lo := 0) (n := (4 : Int).toNat) (fun j σ H' => ∃ (z : Str) (y4 y5 y6 y7 y9 y10 y11 : Option V), σ = [some (.ref a), some (.ref p), some (.str z), some (.ref wl), y4, y5, y6, y7, some (.ref sm), y9, y10, y11] ∧ z.length ≤ 1000 * 4 ^ j ∧ Pur H' p c (2000 * i + 1001 + 20 * n + 5 * j) ∧ H' wl = some (.lst (wds.map V.str)) ∧ H' sm = some (.lst [V.str (Txt.join (Str.ofString "\n") zs), V.str (Txt.join (Str.ofString "\n") (us1 ++ us2)), V.str (Txt.join (Str.ofString "\n") (zs ++ us3))]))
        ⟨z, _, _, _, _, _, _, _, rfl, by omega, hP8, hw8, hs8⟩ (fun j σ H' hj h => ?_) (fun σ H' h => ?_)
      · have hj4 : j < 4 := hj
        obtain ⟨z, y4, y5, y6, y7, y9, y10, y11, rfl, hz, hP9, hw9, hs9⟩ := h
        have hp4 := pow4 (j := j) (by omega)
        have G := split_good z (by omega)
        have D := data_show G
        refine ⟨.str z, rfl, z, rfl, by omega, fun H3 t3 s3 n3 e3 => ⟨t3, _, rfl, e3, D.1, D.2.1, showU G, showL G, ?_⟩⟩
        refine ⟨.str z, rfl, z, rfl, by omega, fun H4 t4 s4 n4 e4 => ⟨t4, _, rfl, e4, D.1, D.2.1, showU G, showL G, _, rfl, rfl, _, rfl, ite2 (fun e => absurd rfl (ndT e)) (fun _ => ?_)⟩⟩
        refine ⟨.str z, rfl, z, rfl, by omega, fun H5 t5 s5 n5 e5 => ⟨t5, _, rfl, e5, D.1, D.2.1, showU G, showL G, _, rfl, rfl, _, rfl, ite2 (fun e => absurd rfl (ndT e)) (fun _ => ?_)⟩⟩
        have sA := (s3.trans s4).trans s5
        refine ⟨.ref p, rfl, .str z, rfl, .ref wl, rfl, p, c, wl, _, z, _, wds, rfl, hP9.same sA, by omega, by omega, by decide, by decide, wp, wc, SqL.of (sA _ _ hw9), by decide, by decide, by decide, fun H6 z2 hz2 hP10 hK10 => ?_⟩
        refine ⟨z2, _, _, _, _, _, _, _, rfl, ?_, hP10.le (by omega), hK10 _ _ wp wc (sA _ _ hw9), hK10 _ _ sp' sc (sA _ _ hs9)⟩
        have e4 : 1000 * 4 ^ (j + 1) = 4 * (1000 * 4 ^ j) := by
          rw [Nat.pow_succ]
          omega
        have e1 : 1 ≤ 4 ^ j := Nat.one_le_pow _ _ (by decide)
        omega
      · obtain ⟨z, y4, y5, y6, y7, y9, y10, y11, rfl, _, hP9, hw9, hs9⟩ := h
        have e4 : (4 : Int).toNat = 4 := rfl
        exact ⟨_, _, _, _, _, _, _, _, rfl, hP9.le (by omega), hw9, hs9⟩
    · obtain ⟨y2, y4, y5, y6, y7, y9, y10, y11, rfl, hP8, hw8, hs8⟩ := h
      have e3 : ([V.str (Txt.join (Str.ofString "\n") zs), V.str (Txt.join (Str.ofString "\n") (us1 ++ us2)), V.str (Txt.join (Str.ofString "\n") (zs ++ us3))] : List V).length = 3 := rfl
      rw [e3] at hP8
      exact ⟨_, _, _, _, _, _, _, _, _, rfl, hP8.le (by omega), hw8⟩
end
end Cv
set_option Elab.async false
set_option linter.all false
set_option maxRecDepth 100000
set_option maxHeartbeats 8000000
namespace Cv
open PySem PySem.Spec PyProof.Rows L2
/-! ### what the top has left -/
theorem all_mk {P : Program} {w : World} {K : PySem.W.Frag} {h : Heap} {mg : Str → Option Value} {fa f0 f1 f2 f3 f4 f5 f6 f7 f8 f9 f10 f11 f12 f13 f14 f15 f16 f17 f18 f19 f20 fI C C0 c1 c2 c3 c4 : Addr} (X : K.In h) (G : h.Ns mainGlobals mg) (hfa : mg "law" = some (.ref fa))
    {nm q : Str} {N : Addr} {bs bm : List Value} {sn : List Str} {sub : List Value} {ab : Bool} {col : Option Bool} {dd : Option Addr} {m0' m1' m2' m3' m5' : Option Value}
    {od0 an0 od1 an1 od2 an2 od3 an3 od4 an4 od5 an5 od6 an6 od7 an7 od8 an8 od9 an9 od10 an10 od11 an11 od12 an12 od13 an13 od14 an14 od15 an15 od16 an16 od17 an17 od18 an18 od19 an19 od20 an20 od99 an99 : Option Addr} {sl0 sl1 sl2 sl3 sl4 sl5 sl6 sl7 sl8 sl9 sl10 sl11 sl12 sl13 sl14 sl15 sl16 sl17 sl18 sl19 sl20 sl99 : Array (Option Value)} {oc0 kV0 dc0 pm0 cd0 ct0 oc1 kV1 dc1 pm1 cd1 ct1 oc2 kV2 dc2 pm2 cd2 ct2 oc3 kV3 dc3 pm3 cd3 ct3 oc4 kV4 dc4 pm4 cd4 ct4 oc5 kV5 dc5 pm5 cd5 ct5 oc6 kV6 dc6 pm6 cd6 ct6 oc7 kV7 dc7 pm7 cd7 ct7 oc8 kV8 dc8 pm8 cd8 ct8 oc9 kV9 dc9 pm9 cd9 ct9 oc10 kV10 dc10 pm10 cd10 ct10 oc11 kV11 dc11 pm11 cd11 ct11 oc12 kV12 dc12 pm12 cd12 ct12 oc13 kV13 dc13 pm13 cd13 ct13 oc14 kV14 dc14 pm14 cd14 ct14 oc15 kV15 dc15 pm15 cd15 ct15 oc16 kV16 dc16 pm16 cd16 ct16 oc17 kV17 dc17 pm17 cd17 ct17 oc18 kV18 dc18 pm18 cd18 ct18 oc19 kV19 dc19 pm19 cd19 ct19 oc20 kV20 dc20 pm20 cd20 ct20 oc99 kV99 dc99 pm99 cd99 ct99 : Value} {tk0 tk1 tk2 tk3 tk4 : Tok}
    (a0 : PySem.W.nsIn K mainGlobals "is_small_letter" = some (some (.ref f0)))
    (l0 : K.lookup f0 = some ⟨oc0, od0, .func (PySem.W.fnOf "is_small_letter" "is_small_letter" (defArgs sSl) (defBody sSl) (defScope sSl) .none kV0 dc0 pm0 an0 cd0 ct0), sl0⟩)
    (c0x : PySem.W.codeIn K cd0 "is_small_letter" = true)
    (k0 : PySem.W.keepIn K (.ref f0) = true)
    (a1 : PySem.W.nsIn K mainGlobals "word_end" = some (some (.ref f1)))
    (l1 : K.lookup f1 = some ⟨oc1, od1, .func (PySem.W.fnOf "word_end" "word_end" (defArgs sWe) (defBody sWe) (defScope sWe) .none kV1 dc1 pm1 an1 cd1 ct1), sl1⟩)
    (c1x : PySem.W.codeIn K cd1 "word_end" = true)
    (k1 : PySem.W.keepIn K (.ref f1) = true)
    (a2 : PySem.W.nsIn K mainGlobals "is_free" = some (some (.ref f2)))
    (l2 : K.lookup f2 = some ⟨oc2, od2, .func (PySem.W.fnOf "is_free" "is_free" (defArgs sFr) (defBody sFr) (defScope sFr) .none kV2 dc2 pm2 an2 cd2 ct2), sl2⟩)
    (c2x : PySem.W.codeIn K cd2 "is_free" = true)
    (k2 : PySem.W.keepIn K (.ref f2) = true)
    (a3 : PySem.W.nsIn K mainGlobals "read_codes" = some (some (.ref f3)))
    (l3 : K.lookup f3 = some ⟨oc3, od3, .func (PySem.W.fnOf "read_codes" "read_codes" (defArgs sRc) (defBody sRc) (defScope sRc) .none kV3 dc3 pm3 an3 cd3 ct3), sl3⟩)
    (c3x : PySem.W.codeIn K cd3 "read_codes" = true)
    (k3 : PySem.W.keepIn K (.ref f3) = true)
    (a4 : PySem.W.nsIn K mainGlobals "read_sort" = some (some (.ref f4)))
    (l4 : K.lookup f4 = some ⟨oc4, od4, .func (PySem.W.fnOf "read_sort" "read_sort" (defArgs sRs) (defBody sRs) (defScope sRs) .none kV4 dc4 pm4 an4 cd4 ct4), sl4⟩)
    (c4x : PySem.W.codeIn K cd4 "read_sort" = true)
    (k4 : PySem.W.keepIn K (.ref f4) = true)
    (a5 : PySem.W.nsIn K mainGlobals "read_lines" = some (some (.ref f5)))
    (l5 : K.lookup f5 = some ⟨oc5, od5, .func (PySem.W.fnOf "read_lines" "read_lines" (defArgs sRl) (defBody sRl) (defScope sRl) .none kV5 dc5 pm5 an5 cd5 ct5), sl5⟩)
    (c5x : PySem.W.codeIn K cd5 "read_lines" = true)
    (k5 : PySem.W.keepIn K (.ref f5) = true)
    (a6 : PySem.W.nsIn K mainGlobals "read_plan" = some (some (.ref f6)))
    (l6 : K.lookup f6 = some ⟨oc6, od6, .func (PySem.W.fnOf "read_plan" "read_plan" (defArgs sRp) (defBody sRp) (defScope sRp) .none kV6 dc6 pm6 an6 cd6 ct6), sl6⟩)
    (c6x : PySem.W.codeIn K cd6 "read_plan" = true)
    (k6 : PySem.W.keepIn K (.ref f6) = true)
    (a7 : PySem.W.nsIn K mainGlobals "_law_purse" = some (some (.ref f7)))
    (l7 : K.lookup f7 = some ⟨oc7, od7, .func (PySem.W.fnOf "_law_purse" "_law_purse" (defArgs sPurse) (defBody sPurse) (defScope sPurse) .none kV7 dc7 pm7 an7 cd7 ct7), sl7⟩)
    (c7x : PySem.W.codeIn K cd7 "_law_purse" = true)
    (k7 : PySem.W.keepIn K (.ref f7) = true)
    (a8 : PySem.W.nsIn K mainGlobals "_law_draw" = some (some (.ref f8)))
    (l8 : K.lookup f8 = some ⟨oc8, od8, .func (PySem.W.fnOf "_law_draw" "_law_draw" (defArgs sDraw) (defBody sDraw) (defScope sDraw) .none kV8 dc8 pm8 an8 cd8 ct8), sl8⟩)
    (c8x : PySem.W.codeIn K cd8 "_law_draw" = true)
    (k8 : PySem.W.keepIn K (.ref f8) = true)
    (a9 : PySem.W.nsIn K mainGlobals "_law_pick" = some (some (.ref f9)))
    (l9 : K.lookup f9 = some ⟨oc9, od9, .func (PySem.W.fnOf "_law_pick" "_law_pick" (defArgs sPick) (defBody sPick) (defScope sPick) .none kV9 dc9 pm9 an9 cd9 ct9), sl9⟩)
    (c9x : PySem.W.codeIn K cd9 "_law_pick" = true)
    (k9 : PySem.W.keepIn K (.ref f9) = true)
    (a10 : PySem.W.nsIn K mainGlobals "_law_word" = some (some (.ref f10)))
    (l10 : K.lookup f10 = some ⟨oc10, od10, .func (PySem.W.fnOf "_law_word" "_law_word" (defArgs sWord) (defBody sWord) (defScope sWord) .none kV10 dc10 pm10 an10 cd10 ct10), sl10⟩)
    (c10x : PySem.W.codeIn K cd10 "_law_word" = true)
    (k10 : PySem.W.keepIn K (.ref f10) = true)
    (a11 : PySem.W.nsIn K mainGlobals "_law_codes" = some (some (.ref f11)))
    (l11 : K.lookup f11 = some ⟨oc11, od11, .func (PySem.W.fnOf "_law_codes" "_law_codes" (defArgs sCodes) (defBody sCodes) (defScope sCodes) .none kV11 dc11 pm11 an11 cd11 ct11), sl11⟩)
    (c11x : PySem.W.codeIn K cd11 "_law_codes" = true)
    (k11 : PySem.W.keepIn K (.ref f11) = true)
    (a12 : PySem.W.nsIn K mainGlobals "_law_plan" = some (some (.ref f12)))
    (l12 : K.lookup f12 = some ⟨oc12, od12, .func (PySem.W.fnOf "_law_plan" "_law_plan" (defArgs sPlan) (defBody sPlan) (defScope sPlan) .none kV12 dc12 pm12 an12 cd12 ct12), sl12⟩)
    (c12x : PySem.W.codeIn K cd12 "_law_plan" = true)
    (k12 : PySem.W.keepIn K (.ref f12) = true)
    (a13 : PySem.W.nsIn K mainGlobals "_law_plan_line" = some (some (.ref f13)))
    (l13 : K.lookup f13 = some ⟨oc13, od13, .func (PySem.W.fnOf "_law_plan_line" "_law_plan_line" (defArgs sPline) (defBody sPline) (defScope sPline) .none kV13 dc13 pm13 an13 cd13 ct13), sl13⟩)
    (c13x : PySem.W.codeIn K cd13 "_law_plan_line" = true)
    (k13 : PySem.W.keepIn K (.ref f13) = true)
    (a14 : PySem.W.nsIn K mainGlobals "_law_bent" = some (some (.ref f14)))
    (l14 : K.lookup f14 = some ⟨oc14, od14, .func (PySem.W.fnOf "_law_bent" "_law_bent" (defArgs sBent) (defBody sBent) (defScope sBent) .none kV14 dc14 pm14 an14 cd14 ct14), sl14⟩)
    (c14x : PySem.W.codeIn K cd14 "_law_bent" = true)
    (k14 : PySem.W.keepIn K (.ref f14) = true)
    (a15 : PySem.W.nsIn K mainGlobals "_law_word_end" = some (some (.ref f15)))
    (l15 : K.lookup f15 = some ⟨oc15, od15, .func (PySem.W.fnOf "_law_word_end" "_law_word_end" (defArgs sLw) (defBody sLw) (defScope sLw) .none kV15 dc15 pm15 an15 cd15 ct15), sl15⟩)
    (c15x : PySem.W.codeIn K cd15 "_law_word_end" = true)
    (k15 : PySem.W.keepIn K (.ref f15) = true)
    (a16 : PySem.W.nsIn K mainGlobals "_law_sort" = some (some (.ref f16)))
    (l16 : K.lookup f16 = some ⟨oc16, od16, .func (PySem.W.fnOf "_law_sort" "_law_sort" (defArgs sLs) (defBody sLs) (defScope sLs) .none kV16 dc16 pm16 an16 cd16 ct16), sl16⟩)
    (c16x : PySem.W.codeIn K cd16 "_law_sort" = true)
    (k16 : PySem.W.keepIn K (.ref f16) = true)
    (a17 : PySem.W.nsIn K mainGlobals "_law_due" = some (some (.ref f17)))
    (l17 : K.lookup f17 = some ⟨oc17, od17, .func (PySem.W.fnOf "_law_due" "_law_due" (defArgs sLd) (defBody sLd) (defScope sLd) .none kV17 dc17 pm17 an17 cd17 ct17), sl17⟩)
    (c17x : PySem.W.codeIn K cd17 "_law_due" = true)
    (k17 : PySem.W.keepIn K (.ref f17) = true)
    (a18 : PySem.W.nsIn K mainGlobals "_law_told" = some (some (.ref f18)))
    (l18 : K.lookup f18 = some ⟨oc18, od18, .func (PySem.W.fnOf "_law_told" "_law_told" (defArgs sTo) (defBody sTo) (defScope sTo) .none kV18 dc18 pm18 an18 cd18 ct18), sl18⟩)
    (c18x : PySem.W.codeIn K cd18 "_law_told" = true)
    (k18 : PySem.W.keepIn K (.ref f18) = true)
    (a19 : PySem.W.nsIn K mainGlobals "_law_by_hand" = some (some (.ref f19)))
    (l19 : K.lookup f19 = some ⟨oc19, od19, .func (PySem.W.fnOf "_law_by_hand" "_law_by_hand" (defArgs sBh) (defBody sBh) (defScope sBh) .none kV19 dc19 pm19 an19 cd19 ct19), sl19⟩)
    (c19x : PySem.W.codeIn K cd19 "_law_by_hand" = true)
    (k19 : PySem.W.keepIn K (.ref f19) = true)
    (a20 : PySem.W.nsIn K mainGlobals "law" = some (some (.ref f20)))
    (l20 : K.lookup f20 = some ⟨oc20, od20, .func (PySem.W.fnOf "law" "law" (defArgs sLaw) (defBody sLaw) (defScope sLaw) .none kV20 dc20 pm20 an20 cd20 ct20), sl20⟩)
    (c20x : PySem.W.codeIn K cd20 "law" = true)
    (k20 : PySem.W.keepIn K (.ref f20) = true)
    (m0 : PySem.W.nsIn K mainGlobals "MOST_SORTS" = some (some (.int 4 tk0)))
    (m1 : PySem.W.nsIn K mainGlobals "LEAST_CODES" = some (some (.int 2 tk1)))
    (m2 : PySem.W.nsIn K mainGlobals "MOST_CODES" = some (some (.int 6 tk2)))
    (m3 : PySem.W.nsIn K mainGlobals "MOST_NAME" = some (some (.int 8 tk3)))
    (m4 : PySem.W.nsIn K mainGlobals "MOST_CODE" = some (some (.int 4 tk4)))
    (z_len : PySem.W.nsIn K mainGlobals "len" = some none)
    (z_range : PySem.W.nsIn K mainGlobals "range" = some none)
    (z_max : PySem.W.nsIn K mainGlobals "max" = some none)
    (z_min : PySem.W.nsIn K mainGlobals "min" = some none)
    (z_tuple : PySem.W.nsIn K mainGlobals "tuple" = some none)
    (z_list : PySem.W.nsIn K mainGlobals "list" = some none)
    (z_enumerate : PySem.W.nsIn K mainGlobals "enumerate" = some none)
    (z_isinstance : PySem.W.nsIn K mainGlobals "isinstance" = some none)
    (z_ValueError : PySem.W.nsIn K mainGlobals "ValueError" = some none)
    (z_repr : PySem.W.nsIn K mainGlobals "repr" = some none)
    (q_C0 : PySem.W.nsIn K mainGlobals "CountError" = some (some (.ref C0)))
    (q_c1 : PySem.W.nsIn K mainGlobals "NoBook" = some (some (.ref c1)))
    (q_c2 : PySem.W.nsIn K mainGlobals "NoCodes" = some (some (.ref c2)))
    (q_c3 : PySem.W.nsIn K mainGlobals "NoPlan" = some (some (.ref c3)))
    (q_c4 : PySem.W.nsIn K mainGlobals "NoRecord" = some (some (.ref c4)))
    (q_C : PySem.W.nsIn K mainGlobals "NoText" = some (some (.ref C)))
    (xL : K.lookup C = some (excClassObj nm q C N bs bm true sn sub ab col dd m0' m1' m2' m3' m5' "ValueError.__new__"))
    (hbm : PySem.HandSPX.refsVE bm = true)
    (sa : PySem.W.findIn K (.ref C) "__setattr__" = some (some (.builtin "object.__setattr__")))
    (eC : PySem.W.subIn K (.ref C) (.type "BaseException") = some true)
    (tC : PySem.W.typeIn K (.ref C) = some (.type "type"))
    (kC : PySem.W.keepIn K (.ref C) = true)
    (nR : PySem.W.findIn K (.ref C) "row" = some none)
    (nA : PySem.W.findIn K (.ref C) "at" = some none)
    (iC : PySem.W.findIn K (.ref C) "__init__" = some (some (.ref fI)))
    (tI : PySem.W.typeIn K (.ref fI) = some (.type "function"))
    (l99 : K.lookup fI = some ⟨oc99, od99, .func (PySem.W.fnOf "__init__" "NoText.__init__" (defArgs sNt) (defBody sNt) (defScope sNt) .none kV99 dc99 pm99 an99 cd99 ct99), sl99⟩)
    (c99x : PySem.W.codeIn K cd99 "NoText.__init__" = true)
    (k99 : PySem.W.keepIn K (.ref fI) = true)
    (s0 : PySem.W.specialIn K (.ref C0) "__getattribute__" = some (some (.builtin "type.__getattribute__")))
    (r0 : PySem.W.readsIn K C0 (.type "type") = true)
    (v0 : PySem.W.findCls K (.ref C0) (.type "type") "__init__" = some (.val (.builtin "ValueError.__init__")))
    (e0 : PySem.W.subIn K (.ref C0) (.type "BaseException") = some true)
    (d0 : PySem.W.hasDictIn K C0 = true)
    (t0 : PySem.W.typeIn K (.ref C0) = some (.type "type"))
    (u0 : PySem.W.subIn K (.ref C) (.ref C0) = some true)
    (ga : PySem.W.findIn K (.ref C) "__getattribute__" = some (some (.builtin "BaseException.__getattribute__")))
    (gg : PySem.W.findIn K (.ref C) "__getattr__" = some none)
    (dC : PySem.W.hasDictIn K C = true)
    (ha : PySem.W.findIn K (.ref C) "__class__" = some (some (.builtin "object.__class__")))
    (hn : PySem.W.specialIn K (.builtin "object.__class__") "__get__" = some (some (.builtin "getset_descriptor.__get__")))
    (ht : PySem.W.takesIn K (.builtin "object.__class__") = some true)
    (hm : PySem.W.mroIn K C (.type "object") = some true)
    (y4 : PySem.W.kitAny K (.ref C) [.ref c1, .ref c2, .ref c3, .ref c4] = some false)
    (yv : PySem.W.kitOne K (.ref C) (.type "ValueError") = some true)
    (yc : PySem.W.kitOne K (.ref C) (.ref C) = some true)
    : ∃ fd : FuncData, (∀ (s : Shared) (v : Value), BindsTo s fd ⟨[v], []⟩ [("_law_script", v)]) ∧ ∀ base : Heap, K.In base → base.Ns mainGlobals mg → FnAt callerA P w K mg base 11 fa fd ["_law_script"] (spLaw K) := by
  have e := hfa.symm.trans (PySem.W.mg_of X G a20)
  cases e
  have F0 := fun_mk (st := sSl) l0 c0x k0
  have b0 := F0.binds (ps := ["sign"]) fun _ _ _ _ _ _ us hl => match us, hl with | [_], _ => rfl
  have g0 := PySem.W.mg_of X G a0
  have F1 := fun_mk (st := sWe) l1 c1x k1
  have b1 := F1.binds (ps := ["line", "begin", "most", "taken"]) fun _ _ _ _ _ _ us hl => match us, hl with | [_, _, _, _], _ => rfl
  have g1 := PySem.W.mg_of X G a1
  have F2 := fun_mk (st := sFr) l2 c2x k2
  have b2 := F2.binds (ps := ["word", "taken"]) fun _ _ _ _ _ _ us hl => match us, hl with | [_, _], _ => rfl
  have g2 := PySem.W.mg_of X G a2
  have F3 := fun_mk (st := sRc) l3 c3x k3
  have b3 := F3.binds (ps := ["line", "begin"]) fun _ _ _ _ _ _ us hl => match us, hl with | [_, _], _ => rfl
  have g3 := PySem.W.mg_of X G a3
  have F4 := fun_mk (st := sRs) l4 c4x k4
  have b4 := F4.binds (ps := ["line", "ahead"]) fun _ _ _ _ _ _ us hl => match us, hl with | [_, _], _ => rfl
  have g4 := PySem.W.mg_of X G a4
  have F5 := fun_mk (st := sRl) l5 c5x k5
  have b5 := F5.binds (ps := ["text", "most", "read_line"]) fun _ _ _ _ _ _ us hl => match us, hl with | [_, _, _], _ => rfl
  have g5 := PySem.W.mg_of X G a5
  have F6 := fun_mk (st := sRp) l6 c6x k6
  have b6 := F6.binds (ps := ["text"]) fun _ _ _ _ _ _ us hl => match us, hl with | [_], _ => rfl
  have g6 := PySem.W.mg_of X G a6
  have F7 := fun_mk (st := sPurse) l7 c7x k7
  have b7 := F7.binds (ps := ["_law_script"]) fun _ _ _ _ _ _ us hl => match us, hl with | [_], _ => rfl
  have g7 := PySem.W.mg_of X G a7
  have F8 := fun_mk (st := sDraw) l8 c8x k8
  have b8 := F8.binds (ps := ["_law_purse_here", "_law_out_of"]) fun _ _ _ _ _ _ us hl => match us, hl with | [_, _], _ => rfl
  have g8 := PySem.W.mg_of X G a8
  have F9 := fun_mk (st := sPick) l9 c9x k9
  have b9 := F9.binds (ps := ["_law_purse_here", "_law_some"]) fun _ _ _ _ _ _ us hl => match us, hl with | [_, _], _ => rfl
  have g9 := PySem.W.mg_of X G a9
  have F10 := fun_mk (st := sWord) l10 c10x k10
  have b10 := F10.binds (ps := ["_law_purse_here", "_law_most"]) fun _ _ _ _ _ _ us hl => match us, hl with | [_, _], _ => rfl
  have g10 := PySem.W.mg_of X G a10
  have F11 := fun_mk (st := sCodes) l11 c11x k11
  have b11 := F11.binds (ps := ["_law_purse_here"]) fun _ _ _ _ _ _ us hl => match us, hl with | [_], _ => rfl
  have g11 := PySem.W.mg_of X G a11
  have F12 := fun_mk (st := sPlan) l12 c12x k12
  have b12 := F12.binds (ps := ["_law_purse_here", "_law_least"]) fun _ _ _ _ _ _ us hl => match us, hl with | [_, _], _ => rfl
  have g12 := PySem.W.mg_of X G a12
  have F13 := fun_mk (st := sPline) l13 c13x k13
  have b13 := F13.binds (ps := ["_law_sort_here"]) fun _ _ _ _ _ _ us hl => match us, hl with | [_], _ => rfl
  have g13 := PySem.W.mg_of X G a13
  have F14 := fun_mk (st := sBent) l14 c14x k14
  have b14 := F14.binds (ps := ["_law_purse_here", "_law_line", "_law_signs", "_law_words"]) fun _ _ _ _ _ _ us hl => match us, hl with | [_, _, _, _], _ => rfl
  have g14 := PySem.W.mg_of X G a14
  have F15 := fun_mk (st := sLw) l15 c15x k15
  have b15 := F15.binds (ps := ["_law_line", "_law_at", "_law_most", "_law_known"]) fun _ _ _ _ _ _ us hl => match us, hl with | [_, _, _, _], _ => rfl
  have g15 := PySem.W.mg_of X G a15
  have F16 := fun_mk (st := sLs) l16 c16x k16
  have b16 := F16.binds (ps := ["_law_line", "_law_names"]) fun _ _ _ _ _ _ us hl => match us, hl with | [_, _], _ => rfl
  have g16 := PySem.W.mg_of X G a16
  have F17 := fun_mk (st := sLd) l17 c17x k17
  have b17 := F17.binds (ps := ["_law_text"]) fun _ _ _ _ _ _ us hl => match us, hl with | [_], _ => rfl
  have g17 := PySem.W.mg_of X G a17
  have F18 := fun_mk (st := sTo) l18 c18x k18
  have b18 := F18.binds (ps := ["_law_text"]) fun _ _ _ _ _ _ us hl => match us, hl with | [_], _ => rfl
  have g18 := PySem.W.mg_of X G a18
  have F19 := fun_mk (st := sBh) l19 c19x k19
  have b19 := F19.binds (ps := []) fun _ _ _ _ _ _ us hl => match us, hl with | [], _ => rfl
  have g19 := PySem.W.mg_of X G a19
  have F20 := fun_mk (st := sLaw) l20 c20x k20
  have FI := fun_mk (st := sNt) l99 c99x k99
  have bI := FI.binds (ps := ["self", "row", "at"]) fun _ _ _ _ _ _ us hl => match us, hl with | [_, _, _], _ => rfl
  have n_len := PySem.W.mg_none_of X G z_len
  have n_range := PySem.W.mg_none_of X G z_range
  have n_max := PySem.W.mg_none_of X G z_max
  have n_min := PySem.W.mg_none_of X G z_min
  have n_tuple := PySem.W.mg_none_of X G z_tuple
  have n_list := PySem.W.mg_none_of X G z_list
  have n_enumerate := PySem.W.mg_none_of X G z_enumerate
  have n_isinstance := PySem.W.mg_none_of X G z_isinstance
  have n_ValueError := PySem.W.mg_none_of X G z_ValueError
  have n_repr := PySem.W.mg_none_of X G z_repr
  have v_MOST_SORTS : ∃ t, mg "MOST_SORTS" = some (.int 4 t) := ⟨_, PySem.W.mg_of X G m0⟩
  have v_LEAST_CODES : ∃ t, mg "LEAST_CODES" = some (.int 2 t) := ⟨_, PySem.W.mg_of X G m1⟩
  have v_MOST_CODES : ∃ t, mg "MOST_CODES" = some (.int 6 t) := ⟨_, PySem.W.mg_of X G m2⟩
  have v_MOST_NAME : ∃ t, mg "MOST_NAME" = some (.int 8 t) := ⟨_, PySem.W.mg_of X G m3⟩
  have v_MOST_CODE : ∃ t, mg "MOST_CODE" = some (.int 4 t) := ⟨_, PySem.W.mg_of X G m4⟩
  have p_C0 := PySem.W.mg_of X G q_C0
  have p_c1 := PySem.W.mg_of X G q_c1
  have p_c2 := PySem.W.mg_of X G q_c2
  have p_c3 := PySem.W.mg_of X G q_c3
  have p_c4 := PySem.W.mg_of X G q_c4
  have p_C := PySem.W.mg_of X G q_C
  have T : OexC K C := ⟨⟨nm, q, N, bs, bm, sn, sub, ab, col, dd, m0', m1', m2', m3', m5', xL, hbm⟩, sa, eC, tC, kC⟩
  have nt : NtC K mg C C0 fI _ := ⟨T, nR, nA, iC, tI, FI, bI, p_C, p_C0, s0, r0, v0⟩
  have xs : Exs K mg C C0 c1 c2 c3 c4 := ⟨p_C0, p_C, p_c1, p_c2, p_c3, p_c4, n_isinstance, n_ValueError, PySem.W.exm_ref e0 d0 t0 u0, ⟨ga, gg, eC, dC, ha, hn, ht, hm⟩, ⟨ga, gg, eC, dC⟩, nR, nA, y4, yv, yc⟩
  have dr : Dr K mg f8 f9 f10 _ _ _ := ⟨F8, b8, g8, F9, b9, g9, F10, b10, g10, n_len, n_range, n_max, n_tuple⟩
  have rd : Rd1 K mg f0 f1 f2 _ _ _ := ⟨F0, b0, g0, F1, b1, g1, F2, b2, g2, n_len, n_tuple, v_MOST_CODES, v_MOST_CODE, v_LEAST_CODES, v_MOST_NAME⟩
  refine ⟨PySem.W.fnOf "law" "law" (defArgs sLaw) (defBody sLaw) (defScope sLaw) .none kV20 dc20 pm20 an20 cd20 ct20, fun s v => .of_eq rfl, fun base _ _ => ?_⟩
  · have G1 : FnOk P w K mg base CX0 (3 + 4) f4 _ _ (spRs K) := ok_rs F4 rd F3 b3 g3
    have G2 : FnOk P w K mg base (CX P w) (3 + 5) f5 _ _ (spRl C f4) := ok_rl F5 nt n_enumerate G1 k4 b4
    have G3 : FnOk P w K mg base (CX P w) (8 + 1) f6 _ _ (spRp C) := ok_rp F6 G2 k5 b5 g5 g4 v_MOST_SORTS n_tuple
    have G4 : FnOk P w K mg base CX0 (7 + 2) f16 _ _ (spLs K) := ok_ls F16 F15 b15 g15 n_list n_len n_tuple
    exact ok_law (k := 10) F20 ⟨ok_purse (k := 9) F7, k7, b7, g7⟩ ⟨ok_bh (k := 9) F19, k19, b19, g19⟩ ⟨ok_to (k := 9) F18 xs G3 k6 b6 g6, k18, b18, g18⟩ ⟨ok_ld (k := 9) F17 G4 k16 b16 g16 n_enumerate n_tuple, k17, b17, g17⟩ ⟨ok_plan (k := 5) F12 dr F11 b11 g11, k12, b12, g12⟩ ⟨ok_pline (k := 9) F13, k13, b13, g13⟩ ⟨ok_draw (k := 9) F8 n_len, k8, b8, g8⟩ ⟨ok_bent (k := 7) F14 dr n_min, k14, b14, g14⟩ n_len n_range n_repr
end Cv
open PySem PySem.W PyProof.Rows
set_option maxRecDepth 100000 in
set_option maxHeartbeats 0 in
theorem PySem.Challenge.cw_countveil_k05_texts_of_no_plans_holds : PySem.Challenge.rw_countveil_k05_texts_of_no_plans.Holds := by
  w_on; o_law; k_head; (case hw => w_witness2)
  k_fill
  refine Cv.walk_at (l := PySem.Challenge.rw_countveil_k05_texts_of_no_plans) (n := 63) (k := 11) (x := "_law_script") (sp := Cv.spLaw) rfl (by decide) rfl ⟨rfl, by decide, by decide⟩ (fun w h Y => PySem.W.kIn_of Y) ?F (fun K H a ns hl hS => ⟨a, ns, rfl, hS, fun _ => rfl⟩)
  case F =>
    intro w mg fa h KX G hmg
    refine' Cv.all_mk KX G hmg ?a0 ?l0 ?c0x ?k0 ?a1 ?l1 ?c1x ?k1 ?a2 ?l2 ?c2x ?k2 ?a3 ?l3 ?c3x ?k3 ?a4 ?l4 ?c4x ?k4 ?a5 ?l5 ?c5x ?k5 ?a6 ?l6 ?c6x ?k6 ?a7 ?l7 ?c7x ?k7 ?a8 ?l8 ?c8x ?k8 ?a9 ?l9 ?c9x ?k9 ?a10 ?l10 ?c10x ?k10 ?a11 ?l11 ?c11x ?k11 ?a12 ?l12 ?c12x ?k12 ?a13 ?l13 ?c13x ?k13 ?a14 ?l14 ?c14x ?k14 ?a15 ?l15 ?c15x ?k15 ?a16 ?l16 ?c16x ?k16 ?a17 ?l17 ?c17x ?k17 ?a18 ?l18 ?c18x ?k18 ?a19 ?l19 ?c19x ?k19 ?a20 ?l20 ?c20x ?k20 ?m0 ?m1 ?m2 ?m3 ?m4 ?z_len ?z_range ?z_max ?z_min ?z_tuple ?z_list ?z_enumerate ?z_isinstance ?z_ValueError ?z_repr ?q_C0 ?q_c1 ?q_c2 ?q_c3 ?q_c4 ?q_C ?xL ?hbm ?sa ?eC ?tC ?kC ?nR ?nA ?iC ?tI ?l99 ?c99x ?k99 ?s0 ?r0 ?v0 ?e0 ?d0 ?t0 ?u0 ?ga ?gg ?dC ?ha ?hn ?ht ?hm ?y4 ?yv ?yc
    (case a0 => k_is)
    (case l0 => k_is)
    (case c0x => k_is)
    (case k0 => k_is)
    (case a1 => k_is)
    (case l1 => k_is)
    (case c1x => k_is)
    (case k1 => k_is)
    (case a2 => k_is)
    (case l2 => k_is)
    (case c2x => k_is)
    (case k2 => k_is)
    (case a3 => k_is)
    (case l3 => k_is)
    (case c3x => k_is)
    (case k3 => k_is)
    (case a4 => k_is)
    (case l4 => k_is)
    (case c4x => k_is)
    (case k4 => k_is)
    (case a5 => k_is)
    (case l5 => k_is)
    (case c5x => k_is)
    (case k5 => k_is)
    (case a6 => k_is)
    (case l6 => k_is)
    (case c6x => k_is)
    (case k6 => k_is)
    (case a7 => k_is)
    (case l7 => k_is)
    (case c7x => k_is)
    (case k7 => k_is)
    (case a8 => k_is)
    (case l8 => k_is)
    (case c8x => k_is)
    (case k8 => k_is)
    (case a9 => k_is)
    (case l9 => k_is)
    (case c9x => k_is)
    (case k9 => k_is)
    (case a10 => k_is)
    (case l10 => k_is)
    (case c10x => k_is)
    (case k10 => k_is)
    (case a11 => k_is)
    (case l11 => k_is)
    (case c11x => k_is)
    (case k11 => k_is)
    (case a12 => k_is)
    (case l12 => k_is)
    (case c12x => k_is)
    (case k12 => k_is)
    (case a13 => k_is)
    (case l13 => k_is)
    (case c13x => k_is)
    (case k13 => k_is)
    (case a14 => k_is)
    (case l14 => k_is)
    (case c14x => k_is)
    (case k14 => k_is)
    (case a15 => k_is)
    (case l15 => k_is)
    (case c15x => k_is)
    (case k15 => k_is)
    (case a16 => k_is)
    (case l16 => k_is)
    (case c16x => k_is)
    (case k16 => k_is)
    (case a17 => k_is)
    (case l17 => k_is)
    (case c17x => k_is)
    (case k17 => k_is)
    (case a18 => k_is)
    (case l18 => k_is)
    (case c18x => k_is)
    (case k18 => k_is)
    (case a19 => k_is)
    (case l19 => k_is)
    (case c19x => k_is)
    (case k19 => k_is)
    (case a20 => k_is)
    (case l20 => k_is)
    (case c20x => k_is)
    (case k20 => k_is)
    (case m0 => k_is)
    (case m1 => k_is)
    (case m2 => k_is)
    (case m3 => k_is)
    (case m4 => k_is)
    (case z_len => k_is)
    (case z_range => k_is)
    (case z_max => k_is)
    (case z_min => k_is)
    (case z_tuple => k_is)
    (case z_list => k_is)
    (case z_enumerate => k_is)
    (case z_isinstance => k_is)
    (case z_ValueError => k_is)
    (case z_repr => k_is)
    (case q_C0 => k_is)
    (case q_c1 => k_is)
    (case q_c2 => k_is)
    (case q_c3 => k_is)
    (case q_c4 => k_is)
    (case q_C => k_is)
    (case xL => k_is)
    (case hbm => decide +kernel)
    (case sa => k_is)
    (case eC => k_is)
    (case tC => k_is)
    (case kC => k_is)
    (case nR => k_is)
    (case nA => k_is)
    (case iC => k_is)
    (case tI => k_is)
    (case l99 => k_is)
    (case c99x => k_is)
    (case k99 => k_is)
    (case s0 => k_is)
    (case r0 => k_is)
    (case v0 => k_is)
    (case e0 => k_is)
    (case d0 => k_is)
    (case t0 => k_is)
    (case u0 => first | rfl | k_is)
    (case ga => k_is)
    (case gg => k_is)
    (case dC => k_is)
    (case ha => k_is)
    (case hn => k_is)
    (case ht => k_is)
    (case hm => k_is)
    (case y4 => first | rfl | kit_is | decide +kernel)
    (case yv => first | rfl | kit_is | decide +kernel)
    (case yc => first | rfl | kit_is | decide +kernel)
