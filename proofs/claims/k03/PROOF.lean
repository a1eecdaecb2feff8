import PyProof.Rows.All
import Wide.All
import OpenK.AllK
import Wide.FinOn
import PySem.Challenge.RW_lanewright_k03_counts_by_their_sums
import HandS.ForMost
import HandS.TupAny
import HandS.Evl
import HandS.Walk
import HandS.IsInst
import HandS.Defaults
import KE.GoesNew
import KE.GoesMore
import PyProof.Rows.StrSigns2
import HandS.TupMul
import HandS.Style
import KE.KRevSl
import PyProof.NeData
import PyProof.ReprRoads
import HandS.ListItems
import PyProof.CallFns
import PyProof.Rows.SeqMore
import HandS.OwnEq
set_option Elab.async false
set_option linter.all false
set_option maxRecDepth 100000
set_option maxHeartbeats 4000000
namespace K3
open PySem PySem.Spec PyProof.Rows L2

/-! ### the text -/
def topS (i : Nat) : Stmt := PySem.Challenge.pw_lanewright_k03_counts_by_their_sums.main.body.getD i (.Pass ⟨0, 0, 0, 0⟩)
abbrev sMixed : Stmt := topS 19
abbrev sTake : Stmt := topS 20
abbrev sOf : Stmt := topS 21
theorem scMixed : FnScope ["drawn", "k"] ["drawn", "k"] (defScope sMixed) := ⟨rfl, rfl, rfl, by decide +kernel, rfl, by decide +kernel, by decide +kernel⟩
theorem scTake : FnScope ["stream", "many", "cell", "drawn"] ["stream", "many"] (defScope sTake) := ⟨rfl, rfl, rfl, by decide +kernel, rfl, by decide +kernel, by decide +kernel⟩
theorem scOf : FnScope ["stream", "some"] ["stream", "some"] (defScope sOf) := ⟨rfl, rfl, rfl, by decide +kernel, rfl, by decide +kernel, by decide +kernel⟩

/-! ### heaps -/
/-- all but the objects at s and c is as it was -/
def Kp (s c : Addr) (H H' : Hp) : Prop := ∀ b o, b ≠ s → b ≠ c → H b = some o → H' b = some o
theorem Kp.refl {s c : Addr} (H : Hp) : Kp s c H H := fun _ _ _ _ h => h
theorem Kp.trans {s c : Addr} {H H1 H2 : Hp} (a : Kp s c H H1) (b : Kp s c H1 H2) : Kp s c H H2 := fun d o h1 h2 h => b d o h1 h2 (a d o h1 h2 h)
theorem Kp.of_same {s c : Addr} {H H' : Hp} (a : Same H H') : Kp s c H H' := fun b o _ _ h => a b o h
theorem Kp.atS {s c : Addr} {H : Hp} {o : HO} : Kp s c H (upd H s o) := fun b _ h1 _ h => by rw [upd_ne h1]; exact h
theorem Kp.atC {s c : Addr} {H : Hp} {o : HO} : Kp s c H (upd H c o) := fun b _ _ h2 h => by rw [upd_ne h2]; exact h
theorem same_upd {H : Hp} {p : Addr} {o : HO} (h : H p = none) : Same H (upd H p o) := fun b x e => by
  rw [upd_ne (ne_of_none e h)]
  exact e
theorem Kp.new {s c : Addr} {H : Hp} {p : Addr} {o : HO} (h : H p = none) : Kp s c H (upd H p o) := .of_same (same_upd h)
/-- the stream at s, its cells at c; at most n were drawn -/
def Sm (s c : Addr) (n : Int) (H : Hp) : Prop := s ≠ c ∧ ∃ (cells : List Int) (a b d : Int), H s = some (.lst [.ref c, .int a, .int b, .int d, .int 0]) ∧ H c = some (.lst (cells.map V.int)) ∧ 0 ≤ b ∧ b ≤ n
theorem Sm.same {s c : Addr} {n : Int} {H H' : Hp} (h : Sm s c n H) (e : Same H H') : Sm s c n H' := by
  obtain ⟨ne, cells, a, b, d, h1, h2, h3, h4⟩ := h
  exact ⟨ne, cells, a, b, d, e _ _ h1, e _ _ h2, h3, h4⟩
theorem Sm.le {s c : Addr} {n m : Int} {H : Hp} (h : Sm s c n H) (e : n ≤ m) : Sm s c m H := by
  obtain ⟨ne, cells, a, b, d, h1, h2, h3, h4⟩ := h
  exact ⟨ne, cells, a, b, d, h1, h2, h3, Int.le_trans h4 e⟩
theorem Sm.ns {s c : Addr} {n : Int} {H : Hp} (h : Sm s c n H) {p : Addr} (e : H p = none) : p ≠ s ∧ p ≠ c := by
  obtain ⟨ne, cells, a, b, d, h1, h2, h3, h4⟩ := h
  exact ⟨(ne_of_none h1 e).symm, (ne_of_none h2 e).symm⟩

/-! ### drawing -/
section
variable {P : Program} {w : World} {K : PySem.W.Frag} {mg : Str → Option Value} {base : Heap}
def spMixed : Sp := fun vs H Q _ => ∃ (x k : Int), vs = [.int x, .int k] ∧ 0 ≤ k ∧ k ≤ 1000000 ∧ ∀ r : Int, 0 ≤ r → Q (.int r) H
theorem ok_mixed {f : Addr} {fd : FuncData} (F : Fun K "_law_mixed" "_law_mixed" sMixed f fd) : FnOk P w K mg base CX0 1 f fd ["drawn", "k"] spMixed := by
  refine F.ok scMixed (fun vs H Q E h => ?_) (fun cdv A outer s H vs Q E hr h => ?_)
  · obtain ⟨x, k, rfl, _⟩ := h
    rfl
  · obtain ⟨x, k, rfl, h0, h1, q⟩ := h
    refine ⟨_, pss_cons (ps_set (i := 0) scMixed.nd rfl (.inl rfl) (pe_op op_mod (pe_op op_pow (pe_op op_add (pe_op op_add (pe_op op_add (pe_op op_mod (pv 0) pe_int) (pe_op op_mul (pe_op op_mul pe_int (pv 1)) (pv 1))) (pe_op op_mul pe_int (pv 1))) pe_int) pe_int) pe_int))
      (pss_one (ps_ret (pe_op op_fdiv (pe_op op_mod (pe_op op_mul (pv 0) (pe_op op_add pe_int (pe_op op_mul pe_int (pv 1)))) pe_int) pe_int))), ?_⟩
    have hx0 : 0 ≤ x % 2147483647 := Int.emod_nonneg _ (by decide)
    have hx1 : x % 2147483647 < 2147483647 := Int.emod_lt_of_pos _ (by decide)
    have hk1 : 7919 * k * k ≤ 7919 * 1000000 * 1000000 := by
      have e1 : 7919 * k ≤ 7919 * 1000000 := by omega
      exact Int.le_trans (Int.mul_le_mul_of_nonneg_right e1 h0) (Int.mul_le_mul_of_nonneg_left h1 (by decide))
    have hk0 : 0 ≤ 7919 * k * k := Int.mul_nonneg (by omega) h0
    refine ⟨_, rfl, _, _, rfl, rfl, (by show (0:Int) < 2147483647; decide), _, rfl, _, _, rfl, rfl, .inl ⟨by decide, by decide⟩, _, rfl, _, _, rfl, rfl, .inr ⟨by omega, by omega⟩, _, _, rfl, rfl, _, rfl, _, _, rfl, rfl, .inl ⟨by decide, by decide⟩, _, _, rfl, rfl, _, _, rfl, rfl,
      _, _, rfl, rfl, ⟨by decide, by decide, by omega⟩, _, _, rfl, rfl, (by show (0:Int) < 2147483629; decide), ?_⟩
    generalize (x % 2147483647 + 7919 * k * k + 31 * k + 5) ^ (5 : Int).toNat = y
    have hy0 : 0 ≤ y % 2147483629 := Int.emod_nonneg _ (by decide)
    have hy1 : y % 2147483629 < 2147483629 := Int.emod_lt_of_pos _ (by decide)
    refine ⟨_, rfl, _, rfl, _, _, rfl, rfl, .inl ⟨by decide, by decide⟩, _, _, rfl, rfl, _, _, rfl, rfl, .inl ⟨by omega, by omega⟩, _, _, rfl, rfl, (by show (0:Int) < 2147483587; decide), _, _, rfl, rfl, ⟨by decide, by decide⟩, ?_⟩
    exact q _ (Int.ediv_nonneg (Int.emod_nonneg _ (by decide)) (by decide))
end
end K3

set_option Elab.async false
set_option linter.all false
set_option maxRecDepth 100000
set_option maxHeartbeats 4000000
namespace K3
open PySem PySem.Spec PyProof.Rows L2
theorem canLay_ints : ∀ ns : List Int, PyData.canLayAll0 (ns.map PyData.int) = true
  | [] => by simp [PyData.canLayAll0]
  | n :: ns => by simp [PyData.canLayAll0, PyData.canLay0, canLay_ints ns]
theorem depth_ints : ∀ ns : List Int, PyData.depthAll (ns.map PyData.int) = 0
  | [] => by simp [PyData.depthAll]
  | n :: ns => by simp [PyData.depthAll, PyData.depth, depth_ints ns]
theorem shaped_ints (ns : List Int) : SeqAt.shaped (.list (ns.map PyData.int)) = true := by
  show (PyData.canLay0 (.list _) && decide (PyData.depth (.list _) ≤ 64)) = true
  rw [Bool.and_eq_true]
  exact ⟨by simp only [PyData.canLay0]; exact canLay_ints ns, decide_eq_true (by simp only [PyData.depth, depth_ints]; omega)⟩
theorem dp_ints {K : PySem.W.Frag} {H : Hp} : ∀ ns : List Int, DpAll K H (ns.map V.int) (ns.map PyData.int)
  | [] => .nil
  | n :: ns => .cons (.int n) (dp_ints ns)
theorem eqv_nil (ns : List Int) : PyData.eqv (.list (ns.map PyData.int)) (.list []) = ns.isEmpty := by
  cases ns with
  | nil => simp [PyData.eqv, PyData.eqvAll]
  | cons x r => simp [PyData.eqv, PyData.eqvAll]
section
variable {P : Program} {w : World} {K : PySem.W.Frag} {mg : Str → Option Value} {base : Heap}
def spTake : Sp := fun vs H Q _ => ∃ (s c : Addr) (m n : Int), vs = [.ref s, .int m] ∧ 1 ≤ m ∧ m ≤ 1000000 ∧ n ≤ 900000 ∧ Sm s c n H ∧ ∀ (r : Int) (H' : Hp), 0 ≤ r → r < m → Kp s c H H' → Sm s c (n + 1) H' → Q (.int r) H'
theorem ok_take {f fM : Addr} {fd fdM : FuncData} (F : Fun K "_law_take" "_law_take" sTake f fd) (FM : Fun K "_law_mixed" "_law_mixed" sMixed fM fdM) (bM : Binds K fdM ["drawn", "k"] []) (gM : mg "_law_mixed" = some (.ref fM)) :
    FnOk P w K mg base CX0 2 f fd ["stream", "many"] spTake := by
  have GM : FnOk P w K mg base CX0 1 fM fdM ["drawn", "k"] spMixed := ok_mixed FM
  refine F.ok scTake (fun vs H Q E h => ?_) (fun cdv A outer s0 H vs Q E hr h => ?_)
  · obtain ⟨s, c, m, n, rfl, _⟩ := h
    rfl
  · obtain ⟨s, c, m, n, rfl, m1, m2, hn, ⟨ne, cells, a, b, d, hs, hc, b0, b1⟩, q⟩ := h
    refine ⟨_, pss_cons (ps_asg (pe_op op_add (pe_ix ix_list (pv 0) pe_int (fun _ _ => rfl)) pe_int) (pg_sub (pv 0) pe_int set_list))
      (Evl.pss_cut (ps_if (PW.pt (pw_and (pt_cmpR op_lt (pe_ix ix_list (pv 0) pe_int (fun _ _ => rfl)) pe_int (nomark _)) (pw_and1 (pt_cmpR (op_neD hr.units) (pe_ix ix_list (pv 0) pe_int (fun _ _ => rfl)) (pe_lst pa_nil) (nomark _)))))
          (pss_cons (ps_set (i := 2) scTake.nd rfl (.inl rfl) (pe_bm PySem.F.plainAttrs_list PySem.F.slot_list_pop PySem.F.type_list_pop mt_popAt (pe_ix ix_list (pv 0) pe_int (fun _ _ => rfl)) (pa_cons pe_int pa_nil)))
          (Evl.pss_cut (ps_asg (pe_ifExp (pt_cmpR op_ge (pv 2) (pe_op op_pow pe_int pe_int) (nomark _)) (pv 2) pe_int) (pg_sub (pv 0) pe_int set_list))
          (pss_one (ps_asg (pe_call GM hr (by rfl) gM FM.kp bM .nil pass0 (pa_cons (pe_op op_add (pe_ix ix_list (pv 0) pe_int (fun _ _ => rfl)) (pv 2)) (pa_cons (pe_ix ix_list (pv 0) pe_int (fun _ _ => rfl)) pa_nil))) (pg_sub (pv 0) pe_int set_list))))) pss_nil)
      (pss_cons (ps_if (pt_cmpR op_gt (pe_ix ix_list (pv 0) pe_int (fun _ _ => rfl)) pe_int (nomark _))
          (pss_cons (ps_set (i := 3) scTake.nd rfl (.inl rfl) (pe_op op_mod (pe_ix ix_list (pv 0) pe_int (fun _ _ => rfl)) (pv 1)))
          (pss_cons (ps_asg (pe_op op_fdiv (pe_ix ix_list (pv 0) pe_int (fun _ _ => rfl)) (pv 1)) (pg_sub (pv 0) pe_int set_list))
          (pss_one (ps_ret (pv 3))))) pss_nil)
      (pss_one (ps_ret (pe_op op_mod (pe_op op_fdiv (pe_call GM hr (by rfl) gM FM.kp bM .nil pass0 (pa_cons (pe_op op_add (pe_ix ix_list (pv 0) pe_int (fun _ _ => rfl)) (pe_op op_mul pe_int (pe_ix ix_list (pv 0) pe_int (fun _ _ => rfl)))) (pa_cons (pe_ix ix_list (pv 0) pe_int (fun _ _ => rfl)) pa_nil))) pe_int) (pv 1)))))), ?_⟩
    -- stream[2] = stream[2] + 1
    refine ⟨_, rfl, s, _, _, _, rfl, rfl, .inl (.inl hs), rfl, _, _, rfl, rfl, _, rfl, s, _, _, 2, rfl, rfl, hs, rfl, ?_⟩
    generalize e1 : upd H s (.lst ([V.ref c, .int a, .int b, .int d, .int 0].set 2 (.int (b + 1)))) = H1
    have hs1 : H1 s = some (.lst [.ref c, .int a, .int (b + 1), .int d, .int 0]) := by rw [← e1, upd_same]; rfl
    have hc1 : H1 c = some (.lst (cells.map V.int)) := by rw [← e1, upd_ne ne.symm]; exact hc
    have k1 : Kp s c H H1 := by rw [← e1]; exact Kp.atS
    refine ⟨fun σ' H2 => ∃ (x2 x3 : Option V) (cells : List Int) (a d : Int), σ' = [some (.ref s), some (.int m), x2, x3] ∧ Kp s c H H2 ∧ H2 s = some (.lst [.ref c, .int a, .int (b + 1), .int d, .int 0]) ∧ H2 c = some (.lst (cells.map V.int)), ?_, ?_⟩
    · -- the first if
      refine ⟨_, rfl, s, _, _, _, rfl, rfl, .inl (.inl hs1), rfl, _, _, rfl, rfl, _, rfl, ite2 (fun ha => ?_) (fun ha => ?_)⟩
      · refine ⟨_, rfl, s, _, _, _, rfl, rfl, .inl (.inl hs1), rfl, Nat.zero_le _, fun p np => ?_⟩
        have sp1 : Same H1 (upd H1 p (.lst [])) := same_upd np
        refine ⟨.list (cells.map PyData.int), .list [], .lst (.inl (.inl (sp1 _ _ hc1))) (dp_ints cells), .lst (.inl (.inl upd_same)) .nil, shaped_ints cells, shaped_ints [], _, rfl, ?_⟩
        rw [eqv_nil]
        have hs2 := sp1 _ _ hs1
        have hc2 := sp1 _ _ hc1
        have k2 : Kp s c H (upd H1 p (.lst [])) := k1.trans (.of_same sp1)
        revert hs2 hc2 k2
        generalize upd H1 p (.lst []) = H2
        intro hs2 hc2 k2
        cases cells with
        | nil => exact iteF ⟨_, _, _, _, _, rfl, k2, hs2, hc2⟩
        | cons x r =>
          refine iteT ?_
          refine ⟨_, rfl, s, _, _, _, rfl, rfl, .inl (.inl hs2), rfl, .inl ⟨rfl, _, .inl (.inl hc2)⟩, c, _, 0, 0, .int x, rfl, rfl, hc2, by decide, by decide, seqIndex?_zero (Nat.succ_pos _), rfl, ?_⟩
          have hs3 : (upd H2 c (.lst ((List.map V.int (x :: r)).eraseIdx 0))) s = some (.lst [.ref c, .int a, .int (b + 1), .int d, .int 0]) := by rw [upd_ne ne]; exact hs2
          have hc3 : (upd H2 c (.lst ((List.map V.int (x :: r)).eraseIdx 0))) c = some (.lst (r.map V.int)) := by rw [upd_same]; rfl
          have k3 : Kp s c H (upd H2 c (.lst ((List.map V.int (x :: r)).eraseIdx 0))) := k2.trans Kp.atC
          revert hs3 hc3 k3
          generalize upd H2 c (.lst ((List.map V.int (x :: r)).eraseIdx 0)) = H3
          intro hs3 hc3 k3
          refine ⟨fun σ' H4 => ∃ (y : Int), σ' = [some (.ref s), some (.int m), some (.int x), none] ∧ Kp s c H H4 ∧ H4 s = some (.lst [.ref c, .int y, .int (b + 1), .int d, .int 0]) ∧ H4 c = some (.lst (r.map V.int)), ?_, ?_⟩
          · have hs4 : ∀ y : Int, (upd H3 s (.lst ([V.ref c, .int a, .int (b + 1), .int d, .int 0].set 1 (.int y)))) s = some (.lst [.ref c, .int y, .int (b + 1), .int d, .int 0]) := fun y => by rw [upd_same]; rfl
            have hc4 : ∀ y : Int, (upd H3 s (.lst ([V.ref c, .int a, .int (b + 1), .int d, .int 0].set 1 (.int y)))) c = some (.lst (r.map V.int)) := fun y => by rw [upd_ne ne.symm]; exact hc3
            have k4 : ∀ y : Int, Kp s c H (upd H3 s (.lst ([V.ref c, .int a, .int (b + 1), .int d, .int 0].set 1 (.int y)))) := fun y => k3.trans Kp.atS
            refine ⟨_, rfl, _, _, rfl, rfl, ⟨by decide, by decide, by decide⟩, _, _, rfl, rfl, _, rfl, ite2 (fun hx => ?_) (fun hx => ?_)⟩
            · exact ⟨_, rfl, _, rfl, s, _, _, 1, rfl, rfl, hs3, rfl, x, rfl, k4 x, hs4 x, hc4 x⟩
            · exact ⟨_, rfl, s, _, _, 1, rfl, rfl, hs3, rfl, 0, rfl, k4 0, hs4 0, hc4 0⟩
          · rintro σ' H4 ⟨y, rfl, k4, hs4, hc4⟩
            refine ⟨_, rfl, s, _, _, _, rfl, rfl, .inl (.inl hs4), rfl, _, rfl, _, _, rfl, rfl, _, rfl, s, _, _, _, rfl, rfl, .inl (.inl hs4), rfl, _, _, rfl, by omega, by omega, fun z hz => ?_⟩
            refine ⟨_, rfl, s, _, _, 3, rfl, rfl, hs4, rfl, ?_⟩
            exact ⟨_, _, r, y, z, rfl, k4.trans Kp.atS, by rw [upd_same]; rfl, by rw [upd_ne ne.symm]; exact hc4⟩
      · exact iteF ⟨_, _, _, _, _, rfl, k1, hs1, hc1⟩
    · rintro σ' H2 ⟨x2, x3, cells, a, d, rfl, k2, hs2, hc2⟩
      refine ⟨_, rfl, s, _, _, _, rfl, rfl, .inl (.inl hs2), rfl, _, _, rfl, rfl, _, rfl, ite2 (fun ha => ?_) (fun ha => ?_)⟩
      · refine ⟨_, rfl, s, _, _, _, rfl, rfl, .inl (.inl hs2), rfl, _, rfl, _, _, rfl, rfl, (by show (0:Int) < m; omega), ?_⟩
        refine ⟨_, rfl, s, _, _, _, rfl, rfl, .inl (.inl hs2), rfl, _, rfl, _, _, rfl, rfl, ⟨by omega, by omega⟩, _, rfl, s, _, _, 1, rfl, rfl, hs2, rfl, ?_⟩
        exact ⟨_, rfl, q _ _ (Int.emod_nonneg _ (by omega)) (Int.emod_lt_of_pos _ (by omega)) (k2.trans Kp.atS) ⟨ne, cells, a / m, b + 1, d, by rw [upd_same]; rfl, by rw [upd_ne ne.symm]; exact hc2, by omega, by omega⟩⟩
      · refine ⟨_, rfl, s, _, _, _, rfl, rfl, .inl (.inl hs2), rfl, _, rfl, s, _, _, _, rfl, rfl, .inl (.inl hs2), rfl, _, _, rfl, rfl, .inl ⟨by decide, by decide⟩, _, _, rfl, rfl, _, rfl, s, _, _, _, rfl, rfl, .inl (.inl hs2), rfl, _, _, rfl, by omega, by omega, fun r hr0 => ?_⟩
        refine ⟨_, _, rfl, rfl, ⟨by decide, by decide⟩, _, rfl, _, _, rfl, rfl, (by show (0:Int) < m; omega), ?_⟩
        exact q _ _ (Int.emod_nonneg _ (by omega)) (Int.emod_lt_of_pos _ (by omega)) k2 ⟨ne, cells, a, b + 1, d, hs2, hc2, by omega, by omega⟩
end
end K3

set_option Elab.async false
set_option linter.all false
set_option maxRecDepth 100000
set_option maxHeartbeats 4000000
namespace K3
open PySem L2

/-! ### terms -/
abbrev Tms := List (Str × Int)
abbrev Cnt := Int × Tms
def nms (m : Tms) : List Str := m.map (·.1)
def look : Tms → Str → Option Int
  | [], _ => none
  | p :: r, n => if p.1 = n then some p.2 else look r n
def coef (m : Tms) (n : Str) : Int := (look m n).getD 0
def put : Tms → Str → Int → Tms
  | [], n, k => [(n, k)]
  | p :: r, n, k => if p.1 = n then (p.1, k) :: r else p :: put r n k
def enc (m : Tms) : List (Key × V) := m.map fun p => (Sum.inr p.1, V.int p.2)
theorem look_none : ∀ {m : Tms} {n : Str}, n ∉ nms m → look m n = none
  | [], _, _ => rfl
  | p :: r, n, h => by
    have h1 : ¬ p.1 = n := fun e => h (by rw [← e]; exact List.mem_cons_self ..)
    show (if p.1 = n then _ else _) = _
    rw [if_neg h1]
    exact look_none fun q => h (List.mem_cons_of_mem _ q)
theorem coef_none {m : Tms} {n : Str} (h : n ∉ nms m) : coef m n = 0 := by
  unfold coef; rw [look_none h]; rfl
theorem look_some : ∀ {m : Tms} {p : Str × Int}, (nms m).Nodup → p ∈ m → look m p.1 = some p.2
  | [], _, _, h => by cases h
  | q :: r, p, hn, h => by
    have hn' : q.1 ∉ nms r ∧ (nms r).Nodup := List.nodup_cons.mp hn
    show (if q.1 = p.1 then _ else _) = _
    rcases List.mem_cons.mp h with e | h
    · subst e; rw [if_pos rfl]
    · have : ¬ q.1 = p.1 := fun e => hn'.1 (by rw [e]; exact List.mem_map_of_mem h)
      rw [if_neg this]
      exact look_some hn'.2 h
theorem look_put (n : Str) (k : Int) (j : Str) : ∀ m : Tms, look (put m n k) j = if j = n then some k else look m j
  | [] => by
    show (if n = j then some k else look [] j) = _
    by_cases e : j = n
    · rw [if_pos e, if_pos e.symm]
    · rw [if_neg e, if_neg fun q => e q.symm]
  | p :: r => by
    by_cases e : p.1 = n
    · show look (if p.1 = n then _ else _) j = _
      rw [if_pos e]
      show (if p.1 = j then some k else look r j) = if j = n then some k else (if p.1 = j then some p.2 else look r j)
      by_cases e2 : j = n
      · rw [if_pos e2, if_pos (e.trans e2.symm)]
      · rw [if_neg e2, if_neg fun q => e2 (q.symm.trans e), if_neg fun q => e2 (q.symm.trans e)]
    · show look (if p.1 = n then _ else _) j = _
      rw [if_neg e]
      show (if p.1 = j then some p.2 else look (put r n k) j) = if j = n then some k else (if p.1 = j then some p.2 else look r j)
      rw [look_put n k j r]
      by_cases e2 : j = n
      · rw [if_pos e2, if_pos e2, if_neg fun q => e (q.trans e2)]
      · rw [if_neg e2, if_neg e2]
theorem coef_put (m : Tms) (n : Str) (k : Int) (j : Str) : coef (put m n k) j = if j = n then k else coef m j := by
  unfold coef
  rw [look_put]
  by_cases e : j = n
  · rw [if_pos e, if_pos e]; rfl
  · rw [if_neg e, if_neg e]
theorem nms_put (n : Str) (k : Int) : ∀ m : Tms, nms (put m n k) = if n ∈ nms m then nms m else nms m ++ [n]
  | [] => by show [n] = _; rw [if_neg (by intro h; cases h)]; rfl
  | p :: r => by
    show nms (if p.1 = n then _ else _) = _
    by_cases e : p.1 = n
    · rw [if_pos e, if_pos (by rw [← e]; exact List.mem_cons_self ..)]; rfl
    · rw [if_neg e]
      show p.1 :: nms (put r n k) = _
      rw [nms_put n k r]
      by_cases h : n ∈ nms r
      · rw [if_pos h, if_pos (show n ∈ nms (p :: r) from List.mem_cons_of_mem _ h)]; rfl
      · rw [if_neg h, if_neg (show ¬ n ∈ nms (p :: r) from fun q => (List.mem_cons.mp q).elim (fun q => e q.symm) h)]; rfl
theorem nd_put {n : Str} {k : Int} {m : Tms} (h : (nms m).Nodup) : (nms (put m n k)).Nodup := by
  rw [nms_put]
  by_cases e : n ∈ nms m
  · rw [if_pos e]; exact h
  · rw [if_neg e]
    exact List.nodup_append.mpr ⟨h, List.nodup_cons.mpr ⟨(fun q => nomatch q), List.nodup_nil⟩, fun a ha b hb => by
      rcases List.mem_cons.mp hb with q | q
      · subst q; intro z; subst z; exact e ha
      · cases q⟩
theorem mem_put {n j : Str} {k : Int} {m : Tms} (h : j ∈ nms (put m n k)) : j = n ∨ j ∈ nms m := by
  rw [nms_put] at h
  by_cases e : n ∈ nms m
  · rw [if_pos e] at h; exact .inr h
  · rw [if_neg e] at h
    rcases List.mem_append.mp h with h | h
    · exact .inr h
    · rcases List.mem_cons.mp h with h | h
      · exact .inl h
      · cases h
theorem inr_ne {a b : Str} (h : ¬ a = b) : ¬ (Sum.inr a : Key) = Sum.inr b := fun q => h (Sum.inr.inj q)
theorem enc_val (n : Str) : ∀ m : Tms, valV (enc m) (Sum.inr n : Key) = (look m n).map V.int
  | [] => rfl
  | p :: r => by
    show valV ((Sum.inr p.1, V.int p.2) :: enc r) (Sum.inr n : Key) = _
    by_cases e : p.1 = n
    · rw [valV_pos (by show (Sum.inr p.1 : Key) = _; rw [e])]
      show _ = Option.map _ (if p.1 = n then _ else _)
      rw [if_pos e]; rfl
    · rw [valV_neg (inr_ne e), enc_val n r]
      show _ = Option.map _ (if p.1 = n then _ else _)
      rw [if_neg e]
theorem map_off {α : Type} {n : Str} (k : Int) : ∀ {r : Tms}, n ∉ nms r → (enc r).map (fun kv => if kv.1 = (Sum.inr n : Key) then (kv.1, V.int k) else kv) = enc r
  | [], _ => rfl
  | p :: r, h => by
    have h1 : ¬ p.1 = n := fun e => h (by rw [← e]; exact List.mem_cons_self ..)
    show (if (Sum.inr p.1 : Key) = Sum.inr n then _ else _) :: (enc r).map _ = _
    rw [if_neg (inr_ne h1), map_off (α := α) k fun q => h (List.mem_cons_of_mem _ q)]; rfl
theorem enc_put (n : Str) (k : Int) : ∀ m : Tms, (nms m).Nodup → putK (enc m) (Sum.inr n : Key) (V.int k) = enc (put m n k)
  | [], _ => rfl
  | p :: r, hn => by
    have hn' : p.1 ∉ nms r ∧ (nms r).Nodup := List.nodup_cons.mp hn
    by_cases e : p.1 = n
    · show putK ((Sum.inr p.1, V.int p.2) :: enc r) (Sum.inr n : Key) (V.int k) = enc (if p.1 = n then _ else _)
      rw [if_pos e]
      unfold putK
      rw [if_pos (by rw [List.any_cons, decide_eq_true (by show (Sum.inr p.1 : Key) = _; rw [e])]; rfl)]
      show (if (Sum.inr p.1 : Key) = Sum.inr n then _ else _) :: (enc r).map _ = _
      rw [if_pos (by rw [e]), map_off (α := Unit) k (by rw [← e]; exact hn'.1)]; rfl
    · have ih := enc_put n k r hn'.2
      show putK ((Sum.inr p.1, V.int p.2) :: enc r) (Sum.inr n : Key) (V.int k) = enc (if p.1 = n then _ else _)
      rw [if_neg e]
      show _ = (Sum.inr p.1, V.int p.2) :: enc (put r n k)
      rw [← ih]
      unfold putK
      rw [List.any_cons, decide_eq_false (inr_ne e), Bool.false_or]
      by_cases c : ((enc r).any fun kv => decide (kv.1 = (Sum.inr n : Key))) = true
      · rw [if_pos c, if_pos c]
        show (if (Sum.inr p.1 : Key) = Sum.inr n then _ else _) :: _ = _
        rw [if_neg (inr_ne e)]
      · rw [if_neg c, if_neg c]; rfl

theorem coef_cons (p : Str × Int) (r : Tms) (n : Str) : coef (p :: r) n = if p.1 = n then p.2 else coef r n := by
  unfold coef
  show Option.getD (if p.1 = n then _ else _) 0 = _
  by_cases e : p.1 = n
  · rw [if_pos e, if_pos e]; rfl
  · rw [if_neg e, if_neg e]
/-- a good row of terms -/
structure Good (ts : Tms) : Prop where
  nd : (nms ts).Nodup
  lo : ∀ p ∈ ts, 1 ≤ p.2 ∧ p.2 ≤ 3
  few : ts.length ≤ 3
def val (c : Cnt) (ρ : Str → Int) : Int := c.1 + (c.2.map fun p => p.2 * ρ p.1).sum
def leastv (c : Cnt) : Int := c.1 + (c.2.map (·.2)).sum
def greatv (c : Cnt) : Int := c.1 + 12 * (c.2.map (·.2)).sum
end K3

set_option Elab.async false
set_option linter.all false
set_option maxRecDepth 100000
set_option maxHeartbeats 4000000
namespace K3
open PySem PySem.Spec PyProof.Rows L2
abbrev sCountAt : Stmt := topS 15
abbrev sLeast : Stmt := topS 16
abbrev sGreatest : Stmt := topS 17
theorem scCountAt : FnScope ["count", "sizes", "fixed", "terms", "name", "times"] ["count", "sizes"] (defScope sCountAt) := ⟨rfl, rfl, rfl, by decide +kernel, rfl, by decide +kernel, by decide +kernel⟩
theorem scLeast : FnScope ["count", "fixed", "terms", "term"] ["count"] (defScope sLeast) := ⟨rfl, rfl, rfl, by decide +kernel, rfl, by decide +kernel, by decide +kernel⟩
theorem scGreatest : FnScope ["count", "fixed", "terms", "term"] ["count"] (defScope sGreatest) := ⟨rfl, rfl, rfl, by decide +kernel, rfl, by decide +kernel, by decide +kernel⟩

/-! ### counts in the heap -/
def Kt (H H' : Hp) : Prop := ∀ b xs, H b = some (.tup xs) → H' b = some (.tup xs)
theorem Kt.refl (H : Hp) : Kt H H := fun _ _ h => h
theorem Kt.trans {H H1 H2 : Hp} (a : Kt H H1) (b : Kt H1 H2) : Kt H H2 := fun c xs h => b c xs (a c xs h)
theorem Kt.of_same {H H' : Hp} (a : Same H H') : Kt H H' := fun b xs h => a b _ h
theorem Kt.of_kp {s c : Addr} {n : Int} {H H' : Hp} (h : Sm s c n H) (k : Kp s c H H') : Kt H H' := fun b xs e => by
  obtain ⟨_, cells, a, b', d, h1, h2, _⟩ := h
  exact k b _ (ne_of e h1 (by intro z; cases z)) (ne_of e h2 (by intro z; cases z)) e
theorem Kt.upd {H : Hp} {a : Addr} {o : HO} (h : ∀ xs, H a ≠ some (.tup xs)) : Kt H (upd H a o) := fun b xs e => by
  by_cases q : b = a
  · subst q; exact absurd e (h xs)
  · rw [upd_ne q]; exact e
/-- v is the pair of a name and a number -/
def IsT (H : Hp) (v : V) (p : Str × Int) : Prop := ∃ b, v = .ref b ∧ H b = some (.tup [.str p.1, .int p.2])
theorem IsT.kt {H H' : Hp} {v : V} {p : Str × Int} (h : IsT H v p) (k : Kt H H') : IsT H' v p := by
  obtain ⟨b, e, h⟩ := h
  exact ⟨b, e, k _ _ h⟩
def AllT (H : Hp) (vs : List V) (ts : Tms) : Prop := vs.length = ts.length ∧ ∀ (i : Nat) (p : Str × Int), ts[i]? = some p → ∃ v, vs[i]? = some v ∧ IsT H v p
theorem AllT.kt {H H' : Hp} {vs : List V} {ts : Tms} (h : AllT H vs ts) (k : Kt H H') : AllT H' vs ts :=
  ⟨h.1, fun i p e => by obtain ⟨v, h1, h2⟩ := h.2 i p e; exact ⟨v, h1, h2.kt k⟩⟩
theorem AllT.at {H : Hp} {vs : List V} {ts : Tms} (h : AllT H vs ts) {i : Nat} {v : V} (e : vs[i]? = some v) : ∃ p, ts[i]? = some p ∧ IsT H v p := by
  obtain ⟨hi, _⟩ := List.getElem?_eq_some_iff.mp e
  have hi' : i < ts.length := by rw [← h.1]; exact hi
  obtain ⟨u, h1, h2⟩ := h.2 i _ (List.getElem?_eq_getElem hi')
  rw [e] at h1
  cases h1
  exact ⟨_, List.getElem?_eq_getElem hi', h2⟩
def IsC (H : Hp) (v : V) (c : Cnt) : Prop := ∃ a t ts, v = .ref a ∧ H a = some (.tup [.int c.1, .ref t]) ∧ H t = some (.tup ts) ∧ AllT H ts c.2
theorem IsC.kt {H H' : Hp} {v : V} {c : Cnt} (h : IsC H v c) (k : Kt H H') : IsC H' v c := by
  obtain ⟨a, t, ts, e, h1, h2, h3⟩ := h
  exact ⟨a, t, ts, e, k _ _ h1, k _ _ h2, h3.kt k⟩
theorem take_snoc {α : Type} {l : List α} {i : Nat} {p : α} (h : l[i]? = some p) : l.take (i + 1) = l.take i ++ [p] := by
  rw [List.take_add_one, h]; rfl
theorem lt_size {n : Nat} (h : n ≤ 5000) : n < sizeLine := Nat.lt_of_le_of_lt h (by decide)
theorem le_size {n : Nat} (h : n ≤ 5000) : n ≤ sizeLine := Nat.le_of_lt (lt_size h)

section
variable {P : Program} {w : World} {K : PySem.W.Frag} {mg : Str → Option Value} {base : Heap}
/-! ### a count by sizes -/
def spCountAt : Sp := fun vs H Q _ => ∃ (v : V) (d : Addr) (c : Cnt) (m : Tms), vs = [v, .ref d] ∧ IsC H v c ∧ Good c.2 ∧ H d = some (.dK (enc m)) ∧ (∀ p ∈ c.2, p.1 ∈ nms m) ∧ ∀ H', Same H H' → Q (.int (val c (coef m))) H'
theorem look_mem : ∀ {m : Tms} {n : Str}, n ∈ nms m → look m n = some (coef m n)
  | [], _, h => by cases h
  | p :: r, n, h => by
    rw [coef_cons]
    show (if p.1 = n then _ else _) = _
    by_cases e : p.1 = n
    · rw [if_pos e, if_pos e]
    · rw [if_neg e, if_neg e]
      refine look_mem ?_
      rcases List.mem_cons.mp h with q | q
      · exact absurd q.symm e
      · exact q
theorem dget_enc {H : Hp} {d : Addr} {m : Tms} {n : Str} (h : H d = some (.dK (enc m))) (hn : n ∈ nms m) : DGet H d (.str n) (some (.int (coef m n))) := by
  have := DGet.k (k := (Sum.inr n : Key)) h
  rw [enc_val, look_mem hn] at this
  exact this
theorem dget_any {H : Hp} {d : Addr} {m : Tms} {n : Str} (h : H d = some (.dK (enc m))) : DGet H d (.str n) ((look m n).map V.int) := by
  have := DGet.k (k := (Sum.inr n : Key)) h
  rw [enc_val] at this
  exact this
theorem ok_count_at {f : Addr} {fd : FuncData} (F : Fun K "count_at" "count_at" sCountAt f fd) (ms : mg "sum" = none) : FnOk P w K mg base CX0 1 f fd ["count", "sizes"] spCountAt := by
  refine F.ok scCountAt (fun vs H Q E h => ?_) (fun cdv A outer s0 H vs Q E hr h => ?_)
  · obtain ⟨v, d, c, m, rfl, _⟩ := h
    rfl
  · obtain ⟨v, d, c, m, rfl, ⟨a, t, ts, rfl, ha, ht, hT⟩, hg, hd, hm, q⟩ := h
    have hu := hu_of hr
    refine ⟨_, pss_cons (ps_asg (pv 0) (pg_tup (by rfl) (pgs_cons (pg_name (i := 2) scCountAt.nd rfl (.inl rfl)) (pgs_cons (pg_name (i := 3) scCountAt.nd rfl (.inl rfl)) pgs_nil))))
      (pss_one (ps_ret (pe_op op_add (pv 2) (pe_callB (cr_sum rfl) (by rfl) ms (by decide +kernel)
        (pa_cons (pe_lc (own := [("name", 4), ("times", 5)]) (g := gTup K 2 (gCons (gName 4) (gCons (gName 5) gNil))) (tt := tYes) rfl scCountAt.nd (pi_tup (pv 3)) (blkOk_by (N := ["count", "sizes", "fixed", "terms", "name", "times"]) (sc := defScope sCountAt) (by decide +kernel))
          (fun _ _ _ _ _ => pg_tup rfl (pgs_cons (pg_name (i := 4) scCountAt.nd rfl (.inl rfl)) (pgs_cons (pg_name (i := 5) scCountAt.nd rfl (.inl rfl)) pgs_nil))) (fun _ _ _ _ _ => pts_nil)
          (fun _ _ _ _ _ => pe_op op_mul (pv 5) (pe_dget hu (pv 1) (pv 4) (fun _ _ => rfl)))) pa_nil))))), ?_⟩
    refine ⟨_, rfl, a, _, rfl, .inl (.inl ha), rfl, _, _, rfl, _, _, rfl, rfl, ?_⟩
    refine ⟨_, rfl, _, rfl, t, rfl, ⟨_, .inl (.inl ht)⟩, fun D nD => ?_⟩
    refine lc_tup (K := K) (a := t) (xs := ts) (fun i H' => Same H H' ∧ H' D = some (.lst (((c.2.take i).map fun p => p.2 * coef m p.1).map V.int))) ⟨same_upd nD, upd_same⟩ (fun i H' hi h => .inl (.inl (h.1 _ _ ht))) (fun i x H' hx h => ?_) (fun H' h => ?_)
    · obtain ⟨sm, hD⟩ := h
      obtain ⟨p, hp, b, rfl, hb⟩ := hT.at hx
      refine ⟨b, _, rfl, .inl (.inl (sm _ _ hb)), rfl, _, _, rfl, _, _, rfl, rfl, rfl, ?_⟩
      have hp1 := hg.lo p (List.mem_of_getElem? hp)
      refine ⟨_, rfl, _, rfl, _, rfl, d, .int (coef m p.1), rfl, dget_enc (sm _ _ hd) (hm p (List.mem_of_getElem? hp)), _, _, rfl, rfl, .inl ⟨by omega, by omega⟩, _, hD, ?_, ?_⟩
      · rw [List.length_map, List.length_map, List.length_take]
        have := hg.few
        exact lt_size (by omega)
      · refine ⟨fun b' o e => ?_, ?_⟩
        · rw [upd_ne (ne_of_none e nD)]; exact sm _ _ e
        · rw [upd_same, take_snoc hp, List.map_append, List.map_append]; rfl
    · obtain ⟨sm, hD⟩ := h
      have e1 : c.2.take ts.length = c.2 := List.take_of_length_le (by rw [hT.1]; exact Nat.le_refl _)
      rw [e1] at hD
      exact ⟨D, _, rfl, .inl (.inl hD), _, _, rfl, rfl, q H' sm⟩
end
end K3

set_option Elab.async false
set_option linter.all false
set_option maxRecDepth 100000
set_option maxHeartbeats 4000000
namespace K3
open PySem PySem.Spec PyProof.Rows L2
section
variable {P : Program} {w : World} {K : PySem.W.Frag} {mg : Str → Option Value} {base : Heap}
/-! ### the least, the greatest -/
def spOne (f : Cnt → Int) : Sp := fun vs H Q _ => ∃ (v : V) (c : Cnt), vs = [v] ∧ IsC H v c ∧ Good c.2 ∧ ∀ H', Same H H' → Q (.int (f c)) H'
theorem ok_least {f : Addr} {fd : FuncData} (F : Fun K "least_of" "least_of" sLeast f fd) (ms : mg "sum" = none) : FnOk P w K mg base CX0 1 f fd ["count"] (spOne leastv) := by
  refine F.ok scLeast (fun vs H Q E h => ?_) (fun cdv A outer s0 H vs Q E hr h => ?_)
  · obtain ⟨v, c, rfl, _⟩ := h
    rfl
  · obtain ⟨v, c, rfl, ⟨a, t, ts, rfl, ha, ht, hT⟩, hg, q⟩ := h
    refine ⟨_, pss_cons (ps_asg (pv 0) (pg_tup (by rfl) (pgs_cons (pg_name (i := 1) scLeast.nd rfl (.inl rfl)) (pgs_cons (pg_name (i := 2) scLeast.nd rfl (.inl rfl)) pgs_nil))))
      (pss_one (ps_ret (pe_op op_add (pv 1) (pe_callB (cr_sum rfl) (by rfl) ms (by decide +kernel)
        (pa_cons (pe_lc (own := [("term", 3)]) (g := gName 3) (tt := tYes) rfl scLeast.nd (pi_tup (pv 2)) (blkOk_by (N := ["count", "fixed", "terms", "term"]) (sc := defScope sLeast) (by decide +kernel))
          (fun _ _ _ _ _ => pg_name (i := 3) scLeast.nd rfl (.inl rfl)) (fun _ _ _ _ _ => pts_nil)
          (fun _ _ _ _ _ => pe_ix (r := rIxT K) ix_tup (pv 3) pe_int (fun _ _ => rfl))) pa_nil))))), ?_⟩
    refine ⟨_, rfl, a, _, rfl, .inl (.inl ha), rfl, _, _, rfl, _, _, rfl, rfl, ?_⟩
    refine ⟨_, rfl, _, rfl, t, rfl, ⟨_, .inl (.inl ht)⟩, fun D nD => ?_⟩
    refine lc_tup (K := K) (a := t) (xs := ts) (fun i H' => Same H H' ∧ H' D = some (.lst (((c.2.take i).map (·.2)).map V.int))) ⟨same_upd nD, upd_same⟩ (fun i H' hi h => .inl (.inl (h.1 _ _ ht))) (fun i x H' hx h => ?_) (fun H' h => ?_)
    · obtain ⟨sm, hD⟩ := h
      obtain ⟨p, hp, b, rfl, hb⟩ := hT.at hx
      refine ⟨rfl, ?_⟩
      refine ⟨_, rfl, b, _, _, .int p.2, rfl, rfl, .inl (.inl (sm _ _ hb)), rfl, _, hD, ?_, ?_⟩
      · rw [List.length_map, List.length_map, List.length_take]
        have := hg.few
        exact lt_size (by omega)
      · refine ⟨fun b' o e => ?_, ?_⟩
        · rw [upd_ne (ne_of_none e nD)]; exact sm _ _ e
        · rw [upd_same, take_snoc hp, List.map_append, List.map_append]; rfl
    · obtain ⟨sm, hD⟩ := h
      have e1 : c.2.take ts.length = c.2 := List.take_of_length_le (by rw [hT.1]; exact Nat.le_refl _)
      rw [e1] at hD
      exact ⟨D, _, rfl, .inl (.inl hD), _, _, rfl, rfl, q H' sm⟩
theorem ok_greatest {f : Addr} {fd : FuncData} (F : Fun K "greatest_of" "greatest_of" sGreatest f fd) (ms : mg "sum" = none) (gM : ∃ t, mg "MOST_SIZE" = some (.int 12 t)) : FnOk P w K mg base CX0 1 f fd ["count"] (spOne greatv) := by
  obtain ⟨tk, gM⟩ := gM
  refine F.ok scGreatest (fun vs H Q E h => ?_) (fun cdv A outer s0 H vs Q E hr h => ?_)
  · obtain ⟨v, c, rfl, _⟩ := h
    rfl
  · obtain ⟨v, c, rfl, ⟨a, t, ts, rfl, ha, ht, hT⟩, hg, q⟩ := h
    refine ⟨_, pss_cons (ps_asg (pv 0) (pg_tup (by rfl) (pgs_cons (pg_name (i := 1) scGreatest.nd rfl (.inl rfl)) (pgs_cons (pg_name (i := 2) scGreatest.nd rfl (.inl rfl)) pgs_nil))))
      (pss_one (ps_ret (pe_op op_add (pv 1) (pe_op op_mul (pe_glob (v := .int 12) rfl gM ⟨_, rfl⟩) (pe_callB (cr_sum rfl) (by rfl) ms (by decide +kernel)
        (pa_cons (pe_lc (own := [("term", 3)]) (g := gName 3) (tt := tYes) rfl scGreatest.nd (pi_tup (pv 2)) (blkOk_by (N := ["count", "fixed", "terms", "term"]) (sc := defScope sGreatest) (by decide +kernel))
          (fun _ _ _ _ _ => pg_name (i := 3) scGreatest.nd rfl (.inl rfl)) (fun _ _ _ _ _ => pts_nil)
          (fun _ _ _ _ _ => pe_ix (r := rIxT K) ix_tup (pv 3) pe_int (fun _ _ => rfl))) pa_nil)))))), ?_⟩
    refine ⟨_, rfl, a, _, rfl, .inl (.inl ha), rfl, _, _, rfl, _, _, rfl, rfl, ?_⟩
    refine ⟨_, rfl, _, rfl, t, rfl, ⟨_, .inl (.inl ht)⟩, fun D nD => ?_⟩
    refine lc_tup (K := K) (a := t) (xs := ts) (fun i H' => Same H H' ∧ H' D = some (.lst (((c.2.take i).map (·.2)).map V.int))) ⟨same_upd nD, upd_same⟩ (fun i H' hi h => .inl (.inl (h.1 _ _ ht))) (fun i x H' hx h => ?_) (fun H' h => ?_)
    · obtain ⟨sm, hD⟩ := h
      obtain ⟨p, hp, b, rfl, hb⟩ := hT.at hx
      refine ⟨rfl, ?_⟩
      refine ⟨_, rfl, b, _, _, .int p.2, rfl, rfl, .inl (.inl (sm _ _ hb)), rfl, _, hD, ?_, ?_⟩
      · rw [List.length_map, List.length_map, List.length_take]
        have := hg.few
        exact lt_size (by omega)
      · refine ⟨fun b' o e => ?_, ?_⟩
        · rw [upd_ne (ne_of_none e nD)]; exact sm _ _ e
        · rw [upd_same, take_snoc hp, List.map_append, List.map_append]; rfl
    · obtain ⟨sm, hD⟩ := h
      have e1 : c.2.take ts.length = c.2 := List.take_of_length_le (by rw [hT.1]; exact Nat.le_refl _)
      rw [e1] at hD
      exact ⟨D, _, rfl, .inl (.inl hD), _, _, rfl, rfl, .inl ⟨by decide, by decide⟩, _, _, rfl, rfl, q H' sm⟩

end
end K3

set_option Elab.async false
set_option linter.all false
set_option maxRecDepth 100000
set_option maxHeartbeats 4000000
namespace K3
open PySem PySem.Spec PyProof.Rows L2

/-! ### data of any kind in the heap, apart from the stream -/
mutual
def Dq (s c : Addr) (H : Hp) : PyData → V → Prop
  | .none, v => v = .non
  | .bool b, v => v = .bl b
  | .int i, v => v = .int i
  | .str x, v => v = .str x
  | .list ds, v => ∃ a xs, v = .ref a ∧ a ≠ s ∧ a ≠ c ∧ H a = some (.lst xs) ∧ DqL s c H ds xs
  | .tuple ds, v => ∃ a xs, v = .ref a ∧ a ≠ s ∧ a ≠ c ∧ H a = some (.tup xs) ∧ DqL s c H ds xs
  | .dict kvs, v => kvs = [] ∧ ∃ a, v = .ref a ∧ a ≠ s ∧ a ≠ c ∧ H a = some (.dK [])
def DqL (s c : Addr) (H : Hp) : List PyData → List V → Prop
  | [], vs => vs = []
  | d :: ds, vs => ∃ v r, vs = v :: r ∧ Dq s c H d v ∧ DqL s c H ds r
end
mutual
theorem Dq.kp {s c : Addr} {H H' : Hp} (k : Kp s c H H') : ∀ {d : PyData} {v : V}, Dq s c H d v → Dq s c H' d v
  | .none, _, h => h
  | .bool _, _, h => h
  | .int _, _, h => h
  | .str _, _, h => h
  | .list _, _, h => by
    obtain ⟨a, xs, e, h1, h2, h3, h4⟩ := h
    exact ⟨a, xs, e, h1, h2, k _ _ h1 h2 h3, DqL.kp k h4⟩
  | .tuple _, _, h => by
    obtain ⟨a, xs, e, h1, h2, h3, h4⟩ := h
    exact ⟨a, xs, e, h1, h2, k _ _ h1 h2 h3, DqL.kp k h4⟩
  | .dict _, _, h => by
    obtain ⟨e0, a, e, h1, h2, h3⟩ := h
    exact ⟨e0, a, e, h1, h2, k _ _ h1 h2 h3⟩
theorem DqL.kp {s c : Addr} {H H' : Hp} (k : Kp s c H H') : ∀ {ds : List PyData} {vs : List V}, DqL s c H ds vs → DqL s c H' ds vs
  | [], _, h => h
  | _ :: _, _, h => by
    obtain ⟨v, r, e, h1, h2⟩ := h
    exact ⟨v, r, e, Dq.kp k h1, DqL.kp k h2⟩
end
theorem DqL.len {s c : Addr} {H : Hp} : ∀ {ds : List PyData} {vs : List V}, DqL s c H ds vs → vs.length = ds.length
  | [], _, h => by rw [show _ = [] from h]; rfl
  | _ :: _, _, h => by
    obtain ⟨v, r, rfl, h1, h2⟩ := h
    rw [List.length_cons, List.length_cons, DqL.len h2]
theorem DqL.get {s c : Addr} {H : Hp} : ∀ {ds : List PyData} {vs : List V} {i : Nat} {v : V}, DqL s c H ds vs → vs[i]? = some v → ∃ d, ds[i]? = some d ∧ Dq s c H d v
  | [], _, i, v, h, e => by rw [show _ = [] from h] at e; cases e
  | d :: _, _, 0, v, h, e => by
    obtain ⟨u, r, rfl, h1, h2⟩ := h
    cases e
    exact ⟨d, rfl, h1⟩
  | _ :: _, _, i + 1, v, h, e => by
    obtain ⟨u, r, rfl, h1, h2⟩ := h
    obtain ⟨d, e1, e2⟩ := DqL.get h2 (i := i) e
    exact ⟨d, e1, e2⟩
theorem DqL.app {s c : Addr} {H : Hp} : ∀ {ds es : List PyData} {vs us : List V}, DqL s c H ds vs → DqL s c H es us → DqL s c H (ds ++ es) (vs ++ us)
  | [], _, _, _, h, g => by rw [show _ = [] from h]; exact g
  | _ :: _, _, _, _, h, g => by
    obtain ⟨u, r, rfl, h1, h2⟩ := h
    exact ⟨u, _, rfl, h1, DqL.app h2 g⟩
theorem DqL.take {s c : Addr} {H : Hp} : ∀ {n : Nat} {ds : List PyData} {vs : List V}, DqL s c H ds vs → DqL s c H (ds.take n) (vs.take n)
  | 0, _, _, _ => rfl
  | _ + 1, [], _, h => by rw [show _ = [] from h]; rfl
  | n + 1, _ :: _, _, h => by
    obtain ⟨u, r, rfl, h1, h2⟩ := h
    exact ⟨u, _, rfl, h1, DqL.take h2⟩
theorem DqL.drop {s c : Addr} {H : Hp} : ∀ {n : Nat} {ds : List PyData} {vs : List V}, DqL s c H ds vs → DqL s c H (ds.drop n) (vs.drop n)
  | 0, _, _, h => h
  | _ + 1, [], _, h => by rw [show _ = [] from h]; rfl
  | n + 1, _ :: ds, _, h => by
    obtain ⟨u, r, rfl, h1, h2⟩ := h
    show DqL s c H (ds.drop n) (r.drop n)
    exact DqL.drop h2
theorem DqL.rev {s c : Addr} {H : Hp} : ∀ {ds : List PyData} {vs : List V}, DqL s c H ds vs → DqL s c H ds.reverse vs.reverse
  | [], _, h => by rw [show _ = [] from h]; rfl
  | d :: ds, _, h => by
    obtain ⟨u, r, rfl, h1, h2⟩ := h
    rw [List.reverse_cons, List.reverse_cons]
    exact DqL.app (DqL.rev h2) ⟨u, [], rfl, h1, rfl⟩
def tyN : PyData → String
  | .none => "NoneType"
  | .bool _ => "bool"
  | .int _ => "int"
  | .str _ => "str"
  | .list _ => "list"
  | .tuple _ => "tuple"
  | .dict _ => "dict"
theorem dq_ty {K : PySem.W.Frag} {s c : Addr} {H : Hp} : ∀ {d : PyData} {v : V}, Dq s c H d v → TyX K H v (.type (tyN d))
  | .none, _, h => by rw [show _ = V.non from h]; exact .base .non
  | .bool b, _, h => by rw [show _ = V.bl b from h]; exact .base (.bl b)
  | .int i, _, h => by rw [show _ = V.int i from h]; exact .base (.int i)
  | .str x, _, h => by rw [show _ = V.str x from h]; exact .base (.str x)
  | .list _, _, h => by obtain ⟨a, xs, rfl, h1, h2, h3, h4⟩ := h; exact .base (.lst h3)
  | .tuple _, _, h => by obtain ⟨a, xs, rfl, h1, h2, h3, h4⟩ := h; exact .base (.tup h3)
  | .dict _, _, h => by obtain ⟨e0, a, rfl, h1, h2, h3⟩ := h; exact .base (.dK h3)
def isIntB : PyData → Bool
  | .bool _ => true
  | .int _ => true
  | _ => false
def isBoolB : PyData → Bool
  | .bool _ => true
  | _ => false
def isStrB : PyData → Bool
  | .str _ => true
  | _ => false
def isTupB : PyData → Bool
  | .tuple _ => true
  | _ => false
theorem kit_int {K : PySem.W.Frag} : ∀ d : PyData, PySem.W.kitOne K (.type (tyN d)) (.type "int") = some (isIntB d)
  | .none => kit_ty (show kitB "NoneType" "int" = some false by decide +kernel)
  | .bool _ => kit_ty (show kitB "bool" "int" = some true by decide +kernel)
  | .int _ => kit_ty (show kitB "int" "int" = some true by decide +kernel)
  | .str _ => kit_ty (show kitB "str" "int" = some false by decide +kernel)
  | .list _ => kit_ty (show kitB "list" "int" = some false by decide +kernel)
  | .tuple _ => kit_ty (show kitB "tuple" "int" = some false by decide +kernel)
  | .dict _ => kit_ty (show kitB "dict" "int" = some false by decide +kernel)
theorem kit_bool {K : PySem.W.Frag} : ∀ d : PyData, PySem.W.kitOne K (.type (tyN d)) (.type "bool") = some (isBoolB d)
  | .none => kit_ty (show kitB "NoneType" "bool" = some false by decide +kernel)
  | .bool _ => kit_ty (show kitB "bool" "bool" = some true by decide +kernel)
  | .int _ => kit_ty (show kitB "int" "bool" = some false by decide +kernel)
  | .str _ => kit_ty (show kitB "str" "bool" = some false by decide +kernel)
  | .list _ => kit_ty (show kitB "list" "bool" = some false by decide +kernel)
  | .tuple _ => kit_ty (show kitB "tuple" "bool" = some false by decide +kernel)
  | .dict _ => kit_ty (show kitB "dict" "bool" = some false by decide +kernel)
theorem kit_str {K : PySem.W.Frag} : ∀ d : PyData, PySem.W.kitOne K (.type (tyN d)) (.type "str") = some (isStrB d)
  | .none => kit_ty (show kitB "NoneType" "str" = some false by decide +kernel)
  | .bool _ => kit_ty (show kitB "bool" "str" = some false by decide +kernel)
  | .int _ => kit_ty (show kitB "int" "str" = some false by decide +kernel)
  | .str _ => kit_ty (show kitB "str" "str" = some true by decide +kernel)
  | .list _ => kit_ty (show kitB "list" "str" = some false by decide +kernel)
  | .tuple _ => kit_ty (show kitB "tuple" "str" = some false by decide +kernel)
  | .dict _ => kit_ty (show kitB "dict" "str" = some false by decide +kernel)
theorem kit_tup {K : PySem.W.Frag} : ∀ d : PyData, PySem.W.kitOne K (.type (tyN d)) (.type "tuple") = some (isTupB d)
  | .none => kit_ty (show kitB "NoneType" "tuple" = some false by decide +kernel)
  | .bool _ => kit_ty (show kitB "bool" "tuple" = some false by decide +kernel)
  | .int _ => kit_ty (show kitB "int" "tuple" = some false by decide +kernel)
  | .str _ => kit_ty (show kitB "str" "tuple" = some false by decide +kernel)
  | .list _ => kit_ty (show kitB "list" "tuple" = some false by decide +kernel)
  | .tuple _ => kit_ty (show kitB "tuple" "tuple" = some true by decide +kernel)
  | .dict _ => kit_ty (show kitB "dict" "tuple" = some false by decide +kernel)

/-! ### what a count is -/
def inR : PyData → Int → Int → Bool
  | .int n, lo, hi => decide (lo ≤ n) && decide (n ≤ hi)
  | _, _, _ => false
def numB : PyData → Bool
  | .int _ => true
  | _ => false
def ltS (x y : Str) : Bool := decide (x.cps.toList < y.cps.toList)
/-- a term of these names -/
def okT (ns : List Str) : PyData → Bool
  | .tuple [.str x, k] => decide (x ∈ ns) && inR k 1 3
  | _ => false
def nmT : PyData → Str
  | .tuple (.str x :: _) => x
  | _ => ""
/-- terms, each behind the name last -/
def okTs (ns : List Str) : Str → List PyData → Bool
  | _, [] => true
  | last, t :: r => okT ns t && ltS last (nmT t) && okTs ns (nmT t) r
def isCnt (ns : List Str) : PyData → Bool
  | .tuple [a, .tuple ts] => inR a (-20) 20 && decide (ts.length ≤ 3) && okTs ns "" ts
  | _ => false

abbrev sIsNumber : Stmt := topS 3
abbrev sIsWhole : Stmt := topS 4
abbrev sIsOneOf : Stmt := topS 6
abbrev sIsRow : Stmt := topS 7
abbrev sIsCount : Stmt := topS 12
abbrev sAreTerms : Stmt := topS 13
abbrev sIsTerm : Stmt := topS 14
theorem scIsNumber : FnScope ["thing"] ["thing"] (defScope sIsNumber) := ⟨rfl, rfl, rfl, by decide +kernel, rfl, by decide +kernel, by decide +kernel⟩
theorem scIsWhole : FnScope ["thing", "least", "most"] ["thing", "least", "most"] (defScope sIsWhole) := ⟨rfl, rfl, rfl, by decide +kernel, rfl, by decide +kernel, by decide +kernel⟩
theorem scIsOneOf : FnScope ["thing", "words"] ["thing", "words"] (defScope sIsOneOf) := ⟨rfl, rfl, rfl, by decide +kernel, rfl, by decide +kernel, by decide +kernel⟩
theorem scIsRow : FnScope ["thing", "least", "most"] ["thing", "least", "most"] (defScope sIsRow) := ⟨rfl, rfl, rfl, by decide +kernel, rfl, by decide +kernel, by decide +kernel⟩
theorem scIsCount : FnScope ["thing", "names", "fixed", "terms"] ["thing", "names"] (defScope sIsCount) := ⟨rfl, rfl, rfl, by decide +kernel, rfl, by decide +kernel, by decide +kernel⟩
theorem scAreTerms : FnScope ["thing", "names", "last", "term"] ["thing", "names"] (defScope sAreTerms) := ⟨rfl, rfl, rfl, by decide +kernel, rfl, by decide +kernel, by decide +kernel⟩
theorem scIsTerm : FnScope ["thing", "names"] ["thing", "names"] (defScope sIsTerm) := ⟨rfl, rfl, rfl, by decide +kernel, rfl, by decide +kernel, by decide +kernel⟩
section
variable {P : Program} {w : World} {K : PySem.W.Frag} {mg : Str → Option Value} {base : Heap}
structure TxB (mg : Str → Option Value) : Prop where
  isi : mg "isinstance" = none
  int : mg "int" = none
  bool : mg "bool" = none
  str : mg "str" = none
  tup : mg "tuple" = none
  len : mg "len" = none
def spNumber : Sp := fun vs H Q _ => ∃ (s c : Addr) (v : V) (d : PyData), vs = [v] ∧ Dq s c H d v ∧ Q (.bl (numB d)) H
theorem ok_number {f : Addr} {fd : FuncData} (F : Fun K "is_number" "is_number" sIsNumber f fd) (T : TxB mg) : FnOk P w K mg base CX0 1 f fd ["thing"] spNumber := by
  refine F.ok scIsNumber (fun vs H Q E h => ?_) (fun cdv A outer s0 H vs Q E hr h => ?_)
  · obtain ⟨s, c, v, d, rfl, _⟩ := h
    rfl
  · obtain ⟨s, c, v, d, rfl, hd, q⟩ := h
    refine ⟨_, pss_one (ps_ret (pe_and (pe_callB call_isi (by rfl) T.isi (by decide +kernel) (pa_cons (pv 0) (pa_cons (pe_bltn (v := .ty "int") (by rfl) T.int (by decide +kernel) rfl) pa_nil)))
      (pe_one (pe_not (pe_callB call_isi (by rfl) T.isi (by decide +kernel) (pa_cons (pv 0) (pa_cons (pe_bltn (v := .ty "bool") (by rfl) T.bool (by decide +kernel) rfl) pa_nil))))))), ?_⟩
    refine ⟨_, rfl, v, .ty "int", _, _, _, rfl, .ty _, dq_ty hd, kit_int d, _, rfl, ?_⟩
    cases d with
    | int i => exact iteT ⟨_, rfl, v, .ty "bool", _, _, _, rfl, .ty _, dq_ty hd, kit_bool _, _, rfl, q⟩
    | bool b => exact iteT ⟨_, rfl, v, .ty "bool", _, _, _, rfl, .ty _, dq_ty hd, kit_bool _, _, rfl, q⟩
    | _ => exact iteF q
def spWhole : Sp := fun vs H Q _ => ∃ (s c : Addr) (v : V) (d : PyData) (lo hi : Int), vs = [v, .int lo, .int hi] ∧ Dq s c H d v ∧ Q (.bl (inR d lo hi)) H
theorem ok_whole {f fN : Addr} {fd fdN : FuncData} (F : Fun K "is_whole" "is_whole" sIsWhole f fd) (FN : Fun K "is_number" "is_number" sIsNumber fN fdN) (bN : Binds K fdN ["thing"] []) (gN : mg "is_number" = some (.ref fN)) (T : TxB mg) :
    FnOk P w K mg base CX0 2 f fd ["thing", "least", "most"] spWhole := by
  have GN : FnOk P w K mg base CX0 1 fN fdN ["thing"] spNumber := ok_number FN T
  refine F.ok scIsWhole (fun vs H Q E h => ?_) (fun cdv A outer s0 H vs Q E hr h => ?_)
  · obtain ⟨s, c, v, d, lo, hi, rfl, _⟩ := h
    rfl
  · obtain ⟨s, c, v, d, lo, hi, rfl, hd, q⟩ := h
    refine ⟨_, pss_one (ps_ret (pe_and (pe_call GN hr (by rfl) gN FN.kp bN .nil pass0 (pa_cons (pv 0) pa_nil)) (pe_one (pe_chain op_le op_le (pv 1) (pv 0) (pv 2))))), ?_⟩
    refine ⟨_, rfl, s, c, v, d, rfl, hd, _, rfl, ?_⟩
    cases d with
    | int i =>
      cases (show v = V.int i from hd)
      refine iteT ⟨_, rfl, _, rfl, _, _, rfl, rfl, _, rfl, ?_⟩
      have q' : Q (.bl (decide (lo ≤ i) && decide (i ≤ hi))) H := q
      by_cases h1 : lo ≤ i
      · rw [decide_eq_true h1] at q' ⊢
        exact iteT ⟨_, rfl, _, _, rfl, rfl, q'⟩
      · rw [decide_eq_false h1] at q' ⊢
        exact iteF q'
    | _ => exact iteF q
/-- names, in a list or a tuple, apart from the stream -/
def NmAt (H : Hp) (a : Addr) (ws : List Str) : Prop := H a = some (.lst (ws.map V.str)) ∨ H a = some (.tup (ws.map V.str))
theorem flat_strs : ∀ ws : List Str, (ws.map V.str).all flatV = true
  | [] => rfl
  | _ :: ws => by rw [List.map_cons, List.all_cons, flat_strs ws]; rfl
theorem inV_strs (x : Str) : ∀ ws : List Str, inV (.str x) (ws.map V.str) = decide (x ∈ ws)
  | [] => rfl
  | y :: ws => by
    show (eqV (.str y) (.str x) || inV (.str x) (ws.map V.str)) = _
    rw [inV_strs x ws]
    show ((y == x) || _) = _
    by_cases e : y = x
    · subst e; simp
    · have e2 : ¬ x = y := fun q => e q.symm
      simp [e, e2]
def spOneOf : Sp := fun vs H Q _ => ∃ (s c : Addr) (v : V) (d : PyData) (a : Addr) (ws : List Str), vs = [v, .ref a] ∧ Dq s c H d v ∧ NmAt H a ws ∧ Q (.bl (match d with | .str x => decide (x ∈ ws) | _ => false)) H
theorem ok_one_of {f : Addr} {fd : FuncData} (F : Fun K "is_one_of" "is_one_of" sIsOneOf f fd) (T : TxB mg) : FnOk P w K mg base CX0 1 f fd ["thing", "words"] spOneOf := by
  refine F.ok scIsOneOf (fun vs H Q E h => ?_) (fun cdv A outer s0 H vs Q E hr h => ?_)
  · obtain ⟨s, c, v, d, a, ws, rfl, _⟩ := h
    rfl
  · obtain ⟨s, c, v, d, a, ws, rfl, hd, hn, q⟩ := h
    refine ⟨_, pss_one (ps_ret (pe_and (pe_callB call_isi (by rfl) T.isi (by decide +kernel) (pa_cons (pv 0) (pa_cons (pe_bltn (v := .ty "str") (by rfl) T.str (by decide +kernel) rfl) pa_nil))) (pe_one (pe_cmpR op_in_seq (pv 0) (pv 1) (by rfl))))), ?_⟩
    refine ⟨_, rfl, v, .ty "str", _, _, _, rfl, .ty _, dq_ty hd, kit_str d, _, rfl, ?_⟩
    cases d with
    | str x =>
      cases (show v = V.str x from hd)
      refine iteT ⟨_, rfl, _, rfl, a, ws.map V.str, rfl, hn.imp (fun h => .inl (.inl h)) (fun h => .inl (.inl h)), rfl, flat_strs ws, ?_⟩
      show Q (.bl (inV (.str x) (ws.map V.str))) H
      rw [inV_strs]
      exact q
    | _ => exact iteF q
def rowB : PyData → Int → Int → Bool
  | .tuple ds, lo, hi => decide (lo ≤ (ds.length : Int)) && decide ((ds.length : Int) ≤ hi)
  | _, _, _ => false
def spRow : Sp := fun vs H Q _ => ∃ (s c : Addr) (v : V) (d : PyData) (lo hi : Int), vs = [v, .int lo, .int hi] ∧ Dq s c H d v ∧ Q (.bl (rowB d lo hi)) H
theorem ok_row {f : Addr} {fd : FuncData} (F : Fun K "is_row" "is_row" sIsRow f fd) (T : TxB mg) : FnOk P w K mg base CX0 1 f fd ["thing", "least", "most"] spRow := by
  refine F.ok scIsRow (fun vs H Q E h => ?_) (fun cdv A outer s0 H vs Q E hr h => ?_)
  · obtain ⟨s, c, v, d, lo, hi, rfl, _⟩ := h
    rfl
  · obtain ⟨s, c, v, d, lo, hi, rfl, hd, q⟩ := h
    refine ⟨_, pss_one (ps_ret (pe_and (pe_callB call_isi (by rfl) T.isi (by decide +kernel) (pa_cons (pv 0) (pa_cons (pe_bltn (v := .ty "tuple") (by rfl) T.tup (by decide +kernel) rfl) pa_nil)))
      (pe_one (pe_chain op_le op_le (pv 1) (pe_callB call_len_seq (by rfl) T.len PySem.boot_len (pa_cons (pv 0) pa_nil)) (pv 2))))), ?_⟩
    refine ⟨_, rfl, v, .ty "tuple", _, _, _, rfl, .ty _, dq_ty hd, kit_tup d, _, rfl, ?_⟩
    cases d with
    | tuple ds =>
      obtain ⟨a, xs, rfl, h1, h2, h3, h4⟩ := hd
      refine iteT ⟨_, rfl, _, rfl, a, xs, rfl, .inr (.inl (.inl h3)), _, _, rfl, rfl, _, rfl, ?_⟩
      have q' : Q (.bl (decide (lo ≤ (ds.length : Int)) && decide ((ds.length : Int) ≤ hi))) H := q
      rw [← h4.len] at q'
      by_cases e1 : lo ≤ (xs.length : Int)
      · rw [decide_eq_true e1] at q' ⊢
        exact iteT ⟨_, rfl, _, _, rfl, rfl, q'⟩
      · rw [decide_eq_false e1] at q' ⊢
        exact iteF q'
    | _ => exact iteF q
end
end K3

set_option Elab.async false
set_option linter.all false
set_option maxRecDepth 100000
set_option maxHeartbeats 8000000
/-! for k, x in enumerate(t), t a tuple. -/
namespace KEn
open PySem PySem.Spec PyProof.Rows L2
open AutoSeq1 (wpAny_loadPart')
theorem new_enumT (t : Addr) (items : Array Value) (n : Nat) (dct : Option Addr) (sl : Array (Option Value)) :
    Meets (Builtin.«enumerate.__new__» ⟨[.type "enumerate", .ref t], []⟩) (fun _ R s => s.heap.get? t = some { cls := .type "tuple", dict := dct, data := .seq items n, slots := sl } ∧
      R (.ok (.ret (.ref (s.heap.push { cls := .type "tuple_iterator", data := .fields #[.ref t, .int 0 0] }).objs.size)))
        { s with heap := (s.heap.push { cls := .type "tuple_iterator", data := .fields #[.ref t, .int 0 0] }).push { cls := .type "enumerate", data := .fields #[.none, .bool false, .ref s.heap.objs.size, rawInt 0, .none, .none] } }) := by
  refine .of_wp (fun prog w A R s h => ?_)
  obtain ⟨hp, g, d, tk, os⟩ := s
  obtain ⟨hl, h⟩ := h
  have subE := sub_enumerate
  have hT : Heap.IsTuple (Shared.heap ⟨hp, g, d, tk, os⟩) t items := ⟨_, hl, rfl, n, rfl⟩
  wp_walk using wpAny_loadPart' hl
  refine wpAny_stack_any (fun st => wpAny_pure ?_)
  split
  · rename_i c _ _ _ _ _
    cases (c == Value.type "enumerate") <;> (wp_walk using wpAny_loadPart' hl, wpAny_pyIter_tuple hT) <;> exact ⟨_, rfl, h⟩
  · (wp_walk using wpAny_loadPart' hl, wpAny_pyIter_tuple hT); exact ⟨_, rfl, h⟩
theorem call_enumT {prog : Program} {w : World} {A : Around} {E : Value → Shared → Prop} {s : Shared} {t : Addr} {items : Array Value} {Q : Value → Shared → Prop} (hT : s.heap.IsTuple t items)
    (h : ∀ h', IsEnum h' (s.heap.objs.size + 1) s.heap.objs.size 0 .none → h'.IsTupleIter s.heap.objs.size t 0 → (∀ b o, s.heap.get? b = some o → h'.get? b = some o) → Q (.ref (s.heap.objs.size + 1)) { s with heap := h' }) :
    wpAny (model prog w) A (call (.type "enumerate") [.ref t]) Q E s := by
  obtain ⟨⟨c, dct, dt, sl⟩, hl, hc, n, hd⟩ := hT
  replace hc : c = .type "tuple" := hc
  replace hd : dt = .seq items n := hd
  subst hc hd
  have one := Heap.size_push s.heap { cls := .type "tuple_iterator", data := .fields #[.ref t, .int 0 0] }
  refine callType_new F.called_enumerate (by decide) (F.typeCall_enumerate_1 _) (F.newCall_enumerate_1 _) (fun obj => F.args_object_init_2 obj _) F.entry_enumerate_new (new_enumT t items n dct sl) ⟨hl, ?_⟩
  have there : IsEnum ((s.heap.push { cls := .type "tuple_iterator", data := .fields #[.ref t, .int 0 0] }).push { cls := .type "enumerate", data := .fields #[.none, .bool false, .ref s.heap.objs.size, rawInt 0, .none, .none] }) (s.heap.objs.size + 1) s.heap.objs.size 0 .none := by
    have q := Heap.get?_push_size (s.heap.push { cls := .type "tuple_iterator", data := .fields #[.ref t, .int 0 0] }) (o := { cls := .type "enumerate", data := .fields #[.none, .bool false, .ref s.heap.objs.size, rawInt 0, .none, .none] }) rfl
    rwa [one] at q
  show _ ∧ _
  rw [one]
  exact ⟨⟨_, there, rfl⟩, h _ there ⟨_, Heap.get?_push_of_some _ (Heap.get?_push_size _ rfl), rfl, rfl⟩ fun b o x => Heap.get?_push_of_some _ (Heap.get?_push_of_some _ x)⟩

/-- the tuple at a, its items numbered, in new pairs -/
def Inum (K : PySem.W.Frag) (a : Addr) : It :=
  ⟨fun i H => ∃ xs x, SqT K H a xs ∧ xs[i]? = some x, fun i H v H' => ∃ T x, v = .ref T ∧ H T = none ∧ H' = upd H T (.tup [.int (i : Nat), x]) ∧ ∀ xs, SqT K H a xs → xs[i]? = some x, fun i H => ∃ xs, SqT K H a xs ∧ xs.length = i⟩
theorem turn_num {P : Program} {w : World} {K : PySem.W.Frag} {elts : List Expr} {kk : Nat} {tpos : Pos} (a e it : Addr) (hne : e ≠ it) (ha1 : a ≠ it) (ha2 : a ≠ e) :
    Turn P w K (.Tuple elts kk tpos) (Inum K a) [e, it] e (fun i h => (∃ old, IsEnum h e it (i : Int) old) ∧ h.IsTupleIter it a i) := by
  have part : ∀ (X : Cx), X.calm = true → X.Ok → ∀ its : Array Value, GoesN P w X.A (.Tuple elts kk tpos) e (e :: [it, a]) [e, it] its.size (fun i h₀ v h => ∃ T t x, v = .ref T ∧ h₀.objs.size ≤ T ∧ its[i]? = some x ∧ h.IsTuple T #[.int ((0 : Int) + (i : Int)) t, x])
      (fun i h => (∃ old, IsEnum h e it ((0 : Int) + (i : Int)) old) ∧ h.IsTupleIter it a i ∧ h.IsTuple a its) := fun X hc ok its =>
    GoesN.enumFrom 0 (Draws.tuple (A := X.A.in1) (ok.hd hc) it a ha1 its) e hne (by simp [hne, ha2.symm]) (by simp)
  refine ⟨by simp, ?_, ?_, ?_, ?_, ?_⟩
  · rintro i h ⟨⟨old, he⟩, ⟨o, ho, hc, hd⟩⟩ b hb
    rcases List.mem_cons.mp hb with rfl | hb
    · exact ⟨_, he, fun v z => by cases z⟩
    · rw [List.mem_singleton.mp hb]
      exact ⟨o, ho, fun v z => by rw [hd] at z; cases z⟩
  · rintro i h h' ⟨⟨old, he⟩, hit⟩ hk
    exact ⟨⟨old, hk e (by simp) _ he⟩, hit.at fun o q => hk it (by simp) o q⟩
  · intro X hP hw hK hc i pins s σ H E I hf st hg
    subst hP hw hK
    obtain ⟨⟨old, he⟩, hit⟩ := st
    obtain ⟨xs, x, hq, hx⟩ := hg
    obtain ⟨its, rv, p, hz⟩ := I.tuple hq
    obtain ⟨u, hu, ru⟩ := rv.get hx
    have hi : i < its.toArray.size := by
      rw [List.size_toArray]; exact (List.getElem?_eq_some_iff.mp hu).1
    have el : e < s.heap.objs.size := Heap.lt_size he
    have il : it < s.heap.objs.size := by obtain ⟨_, q, _⟩ := hit; exact Heap.lt_size q
    refine (part X hc I.ok its.toArray).goes i s _ E hi ⟨⟨old, by rw [Int.zero_add]; exact he⟩, hit, p⟩ ?_
    rintro v h' tk ⟨T, t, y, rfl, hT, hy, tupT⟩ ⟨⟨old', he'⟩, hit', p'⟩ hk htk
    have ey : y = u := by
      have : its.toArray[i]? = some u := by simpa using hu
      rw [this] at hy; cases hy; rfl
    subst ey
    rw [Int.zero_add] at tupT
    have new : ObjOk X.prog X.w (upd H T (.tup [.int (i : Nat), x])) h' T (.tup [.int (i : Nat), x]) := ⟨by show 2 ≤ sizeLine; decide, [.int (i : Nat) t, y], .cons ⟨_, rfl⟩ (.cons ru .nil), tupT⟩
    have I1 : Inv X pins σ (upd H T (.tup [.int (i : Nat), x])) { s with heap := h', toks := tk } := I.turnedNew (ch := [e, it]) hk hf hT new
    refine ⟨.ref T, _, I1, rfl, ⟨T, x, rfl, I.hok.fresh hT, rfl, fun ys hy => by rw [I.tuple_inj hy hq]; exact hx⟩, ⟨⟨old', ?_⟩, hit'⟩, fun b hb => ?_⟩
    · have e1 : (0 : Int) + ((i + 1 : Nat) : Int) = ((i + 1 : Nat) : Int) := Int.zero_add _
      rw [e1] at he'; exact he'
    · have hb' : b < s.heap.objs.size := by
        rcases List.mem_cons.mp hb with z | z
        · rw [z]; exact el
        · rw [List.mem_singleton.mp z]; exact il
      rw [upd_ne (Nat.ne_of_lt (Nat.lt_of_lt_of_le hb' hT))]
      exact (hf b hb).1
  · intro X hP hw hK hc i pins s σ H E I hf st hg
    subst hP hw hK
    obtain ⟨⟨old, he⟩, hit⟩ := st
    obtain ⟨xs, hq, hx⟩ := hg
    obtain ⟨its, rv, p, hz⟩ := I.tuple hq
    have hi : i = its.toArray.size := by
      rw [List.size_toArray, ← rv.length]; exact hx.symm
    subst hi
    exact (part X hc I.ok its.toArray).stops s _ E ⟨⟨old, by rw [Int.zero_add]; exact he⟩, hit, p⟩ fun h' tk hk _ => I.turnedL (ch := [e, it]) hk hf
  · rintro A i s Q E ⟨⟨old, he⟩, hit⟩ h
    exact wpAny_pyIter_enum he h
def iNum (K : PySem.W.Frag) (ta : TA) : TI := fun σ H R => ta σ H fun vs H1 => ∃ a xs, vs = [.ref a] ∧ SqT K H1 a xs ∧ R (Inum K a) H1
theorem pi_num {X : Cx} {e : Expr} {ta : TA} {p pos tpos : Pos} {elts : List Expr} {kk : Nat} (hg : Gl X "enumerate") (hm : X.mg "enumerate" = none) (ha : PA X [e] ta) (hs : starEach [e] X.env = [(false, eval e X.env)] := by rfl) :
    PI X (.Tuple elts kk tpos) (.Call (.Name "enumerate" p) [e] [] pos) (iNum X.K ta) := by
  constructor
  intro pins s σ H R I h
  refine Call_ (ld_blt I hg hm boot_enumerate (PyProof.Rows.callWith_type1 (thn (ha.run pos pins s σ H _ I h) ?_) hs rfl))
  rintro us s1 ⟨vs, H1, I1, r1, a, xs, rfl, hq, q⟩
  obtain ⟨u, rfl, ru⟩ := vals1 r1
  cases (show u = Value.ref a from ru)
  obtain ⟨its, rv, p', hz⟩ := I1.tuple hq
  have la : a < s1.heap.objs.size := p'.lt
  refine call_enumT p' (fun h' he hit hk => wpAny_pyIter_enum he ?_)
  refine ⟨s1.heap.objs.size + 1, [s1.heap.objs.size + 1, s1.heap.objs.size], _, _, H1, rfl, I1.kept (t' := s1.toks) hk, turn_num a (s1.heap.objs.size + 1) s1.heap.objs.size (Nat.succ_ne_self _) (Nat.ne_of_lt la) (Nat.ne_of_lt (Nat.lt_succ_of_lt la)), ⟨⟨.none, he⟩, hit⟩, fun b hb => ?_, q⟩
  have hle : s1.heap.objs.size ≤ b := by
    rcases List.mem_cons.mp hb with z | z
    · rw [z]; exact Nat.le_succ _
    · rw [List.mem_singleton.mp z]; exact Nat.le_refl _
  exact I1.fpOk hle (I1.hok.fresh hle)
/-- the loop: an invariant over the turn -/
theorem for_num {K : PySem.W.Frag} {a : Addr} {xs : List V} {g : TG} {tb : TS} {D : Ends} {σ : L2.St} {H : Hp} (Pv : Nat → L2.St → Hp → Prop) (h0 : Pv 0 σ H) (hl : ∀ i σ H, i ≤ xs.length → Pv i σ H → SqT K H a xs)
    (hs : ∀ i x T σ H, xs[i]? = some x → H T = none → Pv i σ H → g (.ref T) σ (upd H T (.tup [.int (i : Nat), x])) fun σ2 H2 => tb { D with nx := Pv (i + 1), ct := Pv (i + 1), bk := D.nx } σ2 H2) (hd : ∀ σ H, Pv xs.length σ H → D.nx σ H) :
    ∃ W : Nat → Nat → L2.St → Hp → Prop, (∃ m, W 0 m σ H) ∧ ∀ i m σ H, W i m σ H →
      ((Inum K a).stop i H ∧ D.nx σ H) ∨ ((Inum K a).go i H ∧ ∃ N : L2.St → Hp → Prop, (∀ σ' H', N σ' H' → ∃ m', m' < m ∧ W (i + 1) m' σ' H') ∧ ∀ x H', (Inum K a).yld i H x H' → g x σ H' fun σ2 H2 => tb { D with nx := N, ct := N, bk := D.nx } σ2 H2) := by
  refine ⟨fun i m σ H => m = xs.length - i ∧ i ≤ xs.length ∧ Pv i σ H, ⟨_, rfl, Nat.zero_le _, h0⟩, ?_⟩
  rintro i m σ H ⟨rfl, hi, p⟩
  have there := hl i σ H hi p
  rcases Nat.lt_or_ge i xs.length with lt | ge
  · refine .inr ⟨⟨xs, xs[i], there, List.getElem?_eq_getElem lt⟩, Pv (i + 1), fun σ' H' p' => ⟨xs.length - (i + 1), by omega, rfl, lt, p'⟩, ?_⟩
    rintro x H' ⟨T, y, rfl, hT, rfl, hy⟩
    exact hs i y T σ H (hy xs there) hT p
  · have e : i = xs.length := Nat.le_antisymm hi ge
    subst e
    exact .inl ⟨⟨xs, there, rfl⟩, hd σ H p⟩
end KEn

set_option Elab.async false
set_option linter.all false
set_option maxRecDepth 100000
set_option maxHeartbeats 4000000
namespace K3
open PySem PySem.Spec PyProof.Rows L2
section
variable {P : Program} {w : World} {K : PySem.W.Frag} {mg : Str → Option Value} {base : Heap}
/-- the program's forms, as they stand in the text -/
structure TxF (K : PySem.W.Frag) (mg : Str → Option Value) where
  B : TxB mg
  fN : Addr
  fW : Addr
  fO : Addr
  fR : Addr
  fA : Addr
  fT : Addr
  dN : FuncData
  dW : FuncData
  dO : FuncData
  dR : FuncData
  dA : FuncData
  dT : FuncData
  FN : Fun K "is_number" "is_number" sIsNumber fN dN
  FW : Fun K "is_whole" "is_whole" sIsWhole fW dW
  FO : Fun K "is_one_of" "is_one_of" sIsOneOf fO dO
  FR : Fun K "is_row" "is_row" sIsRow fR dR
  FA : Fun K "are_terms" "are_terms" sAreTerms fA dA
  FT : Fun K "is_term" "is_term" sIsTerm fT dT
  bN : Binds K dN ["thing"] []
  bO : Binds K dO ["thing", "words"] []
  bR : Binds K dR ["thing", "least", "most"] []
  bA : Binds K dA ["thing", "names"] []
  bT : Binds K dT ["thing", "names"] []
  bW : KBn K dW ["thing", "least", "most"] 1 ["least", "most"] (fun us ws => us ++ ws) (fun vs zs => vs ++ zs)
  gN : mg "is_number" = some (.ref fN)
  gW : mg "is_whole" = some (.ref fW)
  gO : mg "is_one_of" = some (.ref fO)
  gR : mg "is_row" = some (.ref fR)
  gA : mg "are_terms" = some (.ref fA)
  gT : mg "is_term" = some (.ref fT)
  c20 : ∃ t, mg "MOST_FIXED" = some (.int 20 t)
  c3 : ∃ t, mg "MOST_TERMS" = some (.int 3 t)
  c3' : ∃ t, mg "MOST_TIMES" = some (.int 3 t)
theorem kbn_whole {f : Addr} {fd : FuncData} (F : Fun K "is_whole" "is_whole" sIsWhole f fd) : KBn K fd ["thing", "least", "most"] 1 ["least", "most"] (fun us ws => us ++ ws) (fun vs zs => vs ++ zs) := by
  obtain ⟨oc, od, kV, doc, pm, an, cdv, ct, osl, rfl, lk, hcd⟩ := F.ex
  exact ⟨fun s us ws _ h1 h2 => match us, ws, h1, h2 with | [_], [_, _], _, _ => .of_eq rfl, fun r1 r2 => r1.append r2⟩
def spForm (f : List Str → PyData → Bool) : Sp := fun vs H Q _ => ∃ (s c : Addr) (v : V) (d : PyData) (a : Addr) (ns : List Str), vs = [v, .ref a] ∧ Dq s c H d v ∧ NmAt H a ns ∧ Q (.bl (f ns d)) H
theorem ok_term (T : TxF K mg) : FnOk P w K mg base CX0 3 T.fT T.dT ["thing", "names"] (spForm okT) := by
  have GR : FnOk P w K mg base CX0 1 T.fR T.dR ["thing", "least", "most"] spRow := ok_row T.FR T.B
  have GO : FnOk P w K mg base CX0 1 T.fO T.dO ["thing", "words"] spOneOf := ok_one_of T.FO T.B
  have GW : FnOk P w K mg base CX0 2 T.fW T.dW ["thing", "least", "most"] spWhole := ok_whole T.FW T.FN T.bN T.gN T.B
  obtain ⟨t3, g3⟩ := T.c3'
  refine T.FT.ok scIsTerm (fun vs H Q E h => ?_) (fun cdv A outer s0 H vs Q E hr h => ?_)
  · obtain ⟨s, c, v, d, a, ns, rfl, _⟩ := h
    rfl
  · obtain ⟨s, c, v, d, a, ns, rfl, hd, hn, q⟩ := h
    have hr1 := hr.mono (show 1 ≤ 2 by decide)
    refine ⟨_, pss_one (ps_ret (pe_and (pe_call GR hr1 (by rfl) T.gR T.FR.kp T.bR .nil pass0 (pa_cons (pv 0) (pa_cons pe_int (pa_cons pe_int pa_nil))))
      (pe_and (pe_call GO hr1 (by rfl) T.gO T.FO.kp T.bO .nil pass0 (pa_cons (pe_ix ix_tup (pv 0) pe_int (fun _ _ => rfl)) (pa_cons (pv 1) pa_nil)))
        (pe_one (pe_callN GW hr (by rfl) T.gW T.FW.kp T.bW pass0 (pa_cons (pe_ix ix_tup (pv 0) pe_int (fun _ _ => rfl)) pa_nil) (pk_cons pe_int (pk_cons (pe_glob (v := .int 3) rfl g3 ⟨_, rfl⟩) pk_nil))))))), ?_⟩
    refine ⟨_, rfl, s, c, v, d, 2, 2, rfl, hd, _, rfl, ?_⟩
    match d, hd, q with
    | .tuple [x, k], hd, q =>
      obtain ⟨b, xs, rfl, h1, h2, h3, vx, r1, rfl, hx, vk, r2, rfl, hk, rfl⟩ := hd
      refine iteT ⟨_, rfl, b, _, _, vx, rfl, rfl, .inl (.inl h3), rfl, _, rfl, s, c, vx, x, a, ns, rfl, hx, hn, _, rfl, ?_⟩
      cases x with
      | str z =>
        have q' : Q (.bl (decide (z ∈ ns) && inR k 1 3)) H := q
        by_cases e : z ∈ ns
        · rw [decide_eq_true e] at q'
          show if decide (z ∈ ns) = true then _ else _
          rw [if_pos (decide_eq_true e)]
          exact ⟨_, rfl, b, _, _, vk, rfl, rfl, .inl (.inl h3), rfl, rfl, rfl, s, c, vk, k, 1, 3, rfl, hk, q'⟩
        · rw [decide_eq_false e] at q'
          show if decide (z ∈ ns) = true then _ else _
          rw [if_neg (by rw [decide_eq_false e]; exact Bool.false_ne_true)]
          exact q'
      | _ => exact iteF q
    | .tuple [], hd, q => exact iteF q
    | .tuple [x], hd, q =>
      have e : okT ns (.tuple [x]) = false := by cases x <;> rfl
      rw [e] at q
      exact iteF q
    | .tuple (x :: y :: z :: r), hd, q =>
      have e : rowB (.tuple (x :: y :: z :: r)) 2 2 = false := by
        show (decide _ && decide ((((x :: y :: z :: r : List PyData).length : Nat) : Int) ≤ 2)) = false
        rw [decide_eq_false (show ¬ ((((x :: y :: z :: r : List PyData).length : Nat) : Int) ≤ 2) by simp only [List.length_cons]; omega), Bool.and_false]
      have e2 : okT ns (.tuple (x :: y :: z :: r)) = false := by cases x <;> rfl
      rw [e]
      rw [e2] at q
      exact iteF q
    | .none, hd, q => exact iteF q
    | .bool _, hd, q => exact iteF q
    | .int _, hd, q => exact iteF q
    | .str _, hd, q => exact iteF q
    | .list _, hd, q => exact iteF q
    | .dict _, hd, q => exact iteF q
theorem okT_form {ns : List Str} : ∀ {d : PyData}, okT ns d = true → ∃ x k, d = .tuple [.str x, .int k] ∧ x ∈ ns ∧ 1 ≤ k ∧ k ≤ 3
  | .tuple [.str x, k], h => by
    have h' : (decide (x ∈ ns) && inR k 1 3) = true := h
    rw [Bool.and_eq_true] at h'
    cases k with
    | int n =>
      have h2 : (decide ((1 : Int) ≤ n) && decide (n ≤ 3)) = true := h'.2
      rw [Bool.and_eq_true] at h2
      exact ⟨x, n, rfl, of_decide_eq_true h'.1, of_decide_eq_true h2.1, of_decide_eq_true h2.2⟩
    | _ => exact absurd h'.2 Bool.false_ne_true
  | .none, h => nomatch h
  | .bool _, h => nomatch h
  | .int _, h => nomatch h
  | .str _, h => nomatch h
  | .list _, h => nomatch h
  | .dict _, h => nomatch h
  | .tuple [], h => nomatch h
  | .tuple [x], h => by cases x <;> exact nomatch h
  | .tuple (.str _ :: _ :: _ :: _), h => nomatch h
  | .tuple (.none :: _ :: _), h => nomatch h
  | .tuple (.bool _ :: _ :: _), h => nomatch h
  | .tuple (.int _ :: _ :: _), h => nomatch h
  | .tuple (.list _ :: _ :: _), h => nomatch h
  | .tuple (.tuple _ :: _ :: _), h => nomatch h
  | .tuple (.dict _ :: _ :: _), h => nomatch h
def areB (ns : List Str) : PyData → Bool
  | .tuple ts => decide (ts.length ≤ 3) && okTs ns "" ts
  | _ => false
theorem okTs_cons (ns : List Str) (last : Str) (t : PyData) (r : List PyData) : okTs ns last (t :: r) = (okT ns t && ltS last (nmT t) && okTs ns (nmT t) r) := rfl
theorem drop_at {α : Type} {l : List α} {i : Nat} {x : α} (h : l[i]? = some x) : l.drop i = x :: l.drop (i + 1) := by
  obtain ⟨h1, h2⟩ := List.getElem?_eq_some_iff.mp h
  rw [List.drop_eq_getElem_cons h1, h2]
theorem ok_are (T : TxF K mg) : FnOk P w K mg base CX0 4 T.fA T.dA ["thing", "names"] (spForm areB) := by
  have GR : FnOk P w K mg base CX0 1 T.fR T.dR ["thing", "least", "most"] spRow := ok_row T.FR T.B
  have GT : FnOk P w K mg base CX0 3 T.fT T.dT ["thing", "names"] (spForm okT) := ok_term T
  obtain ⟨t3, g3⟩ := T.c3
  refine T.FA.ok scAreTerms (fun vs H Q E h => ?_) (fun cdv A outer s0 H vs Q E hr h => ?_)
  · obtain ⟨s, c, v, d, a, ns, rfl, _⟩ := h
    rfl
  · obtain ⟨s, c, v, d, a, ns, rfl, hd, hn, q⟩ := h
    have hr1 := hr.mono (show 1 ≤ 3 by decide)
    refine ⟨_, pss_cons (ps_if (pt_not (pt_val (pe_call GR hr1 (by rfl) T.gR T.FR.kp T.bR .nil pass0 (pa_cons (pv 0) (pa_cons pe_int (pa_cons (pe_glob (v := .int 3) rfl g3 ⟨_, rfl⟩) pa_nil)))))) (pss_one (ps_ret pe_bl)) pss_nil)
      (pss_cons (ps_set (i := 2) scAreTerms.nd rfl (.inl rfl) pe_str)
      (pss_cons (ps_for PassesOwn.never rfl (pi_tup (pv 0)) (pg_name (i := 3) scAreTerms.nd rfl (.inl rfl))
        (pss_cons (ps_if (PW.pt (pw_or (pt_not (pt_val (pe_call GT hr (by rfl) T.gT T.FT.kp T.bT .nil pass0 (pa_cons (pv 3) (pa_cons (pv 1) pa_nil))))) (pw_or1 (pt_cmpR op_le_str (pe_ix ix_tup (pv 3) pe_int (fun _ _ => rfl)) (pv 2) (nomark _))))) (pss_one (ps_ret pe_bl)) pss_nil)
        (pss_one (ps_set (i := 2) scAreTerms.nd rfl (.inl rfl) (pe_ix ix_tup (pv 3) pe_int (fun _ _ => rfl))))))
      (pss_one (ps_ret pe_bl)))), ?_⟩
    refine ⟨_, rfl, s, c, v, d, 0, 3, rfl, hd, _, rfl, ?_⟩
    cases d with
    | tuple ts =>
      obtain ⟨b, xs, rfl, h1, h2, h3, hL⟩ := hd
      have hlen := hL.len
      by_cases e : ts.length ≤ 3
      · have er : rowB (.tuple ts) 0 3 = true := by
          show (decide ((0 : Int) ≤ (ts.length : Int)) && decide ((ts.length : Int) ≤ 3)) = true
          rw [decide_eq_true (by omega), decide_eq_true (by omega)]; rfl
        rw [er]
        have eq : areB ns (.tuple ts) = okTs ns "" ts := by
          show (decide (ts.length ≤ 3) && okTs ns "" ts) = _
          rw [decide_eq_true e, Bool.true_and]
        rw [eq] at q
        refine iteF ?_
        refine ⟨_, rfl, b, rfl, ⟨_, .inl (.inl h3)⟩, ?_⟩
        refine for_tup (K := K) (a := b) (xs := xs) (fun i σ H' => ∃ (last : Str) (x3 : Option V), σ = [some (.ref b), some (.ref a), some (.str last), x3] ∧ H' = H ∧ okTs ns "" ts = okTs ns last (ts.drop i)) ⟨"", none, rfl, rfl, rfl⟩
          (fun i σ H' hi h => by obtain ⟨_, _, _, rfl, _⟩ := h; exact .inl (.inl h3)) (fun i x σ H' hx h => ?_) (fun σ H' h => ?_)
        · obtain ⟨last, x3, rfl, rfl, ek⟩ := h
          obtain ⟨t, ht, dt⟩ := hL.get hx
          rw [drop_at ht, okTs_cons] at ek
          refine ⟨_, rfl, _, rfl, s, c, x, t, a, ns, rfl, dt, hn, _, rfl, ?_⟩
          cases o : okT ns t with
          | false =>
            rw [o, Bool.false_and, Bool.false_and] at ek
            rw [ek] at q
            exact iteT (iteT q)
          | true =>
            rw [o, Bool.true_and] at ek
            obtain ⟨z, k, rfl, hz, _, _⟩ := okT_form o
            obtain ⟨y, ys, rfl, y1, y2, y3, vz, r1, rfl, hz2, _⟩ := dt
            cases (show vz = V.str z from hz2)
            refine iteF ?_
            refine ⟨_, rfl, y, _, _, .str z, rfl, rfl, .inl (.inl y3), atI_nat (j := 0) rfl, _, rfl, _, _, rfl, rfl, _, rfl, ?_⟩
            have ez : ltS last (nmT (.tuple [.str z, .int k])) = decide (last.cps.toList < z.cps.toList) := rfl
            rw [ez] at ek
            by_cases l : last.cps.toList < z.cps.toList
            · rw [decide_eq_true l] at ek ⊢
              refine iteF ?_
              refine ⟨_, rfl, y, _, _, .str z, rfl, rfl, .inl (.inl y3), atI_nat (j := 0) rfl, ?_⟩
              exact ⟨z, _, rfl, rfl, ek⟩
            · rw [decide_eq_false l] at ek ⊢
              rw [Bool.false_and] at ek
              rw [ek] at q
              exact iteT q
        · obtain ⟨last, x3, rfl, rfl, ek⟩ := h
          rw [List.drop_of_length_le (by omega)] at ek
          rw [ek] at q
          exact q
      · have er : rowB (.tuple ts) 0 3 = false := by
          show (decide ((0 : Int) ≤ (ts.length : Int)) && decide ((ts.length : Int) ≤ 3)) = false
          rw [decide_eq_false (show ¬ (ts.length : Int) ≤ 3 by omega), Bool.and_false]
        rw [er]
        have eq : areB ns (.tuple ts) = false := by
          show (decide (ts.length ≤ 3) && okTs ns "" ts) = false
          rw [decide_eq_false e, Bool.false_and]
        rw [eq] at q
        exact iteT q
    | _ => exact iteT q
theorem ok_count {f : Addr} {fd : FuncData} (F : Fun K "is_count" "is_count" sIsCount f fd) (T : TxF K mg) : FnOk P w K mg base CX0 5 f fd ["thing", "names"] (spForm isCnt) := by
  have GR : FnOk P w K mg base CX0 1 T.fR T.dR ["thing", "least", "most"] spRow := ok_row T.FR T.B
  have GA : FnOk P w K mg base CX0 4 T.fA T.dA ["thing", "names"] (spForm areB) := ok_are T
  have GW : FnOk P w K mg base CX0 2 T.fW T.dW ["thing", "least", "most"] spWhole := ok_whole T.FW T.FN T.bN T.gN T.B
  obtain ⟨t20, g20⟩ := T.c20
  refine F.ok scIsCount (fun vs H Q E h => ?_) (fun cdv A outer s0 H vs Q E hr h => ?_)
  · obtain ⟨s, c, v, d, a, ns, rfl, _⟩ := h
    rfl
  · obtain ⟨s, c, v, d, a, ns, rfl, hd, hn, q⟩ := h
    have hr1 := hr.mono (show 1 ≤ 4 by decide)
    have hr2 := hr.mono (show 2 ≤ 4 by decide)
    refine ⟨_, pss_cons (ps_if (pt_not (pt_val (pe_call GR hr1 (by rfl) T.gR T.FR.kp T.bR .nil pass0 (pa_cons (pv 0) (pa_cons pe_int (pa_cons pe_int pa_nil)))))) (pss_one (ps_ret pe_bl)) pss_nil)
      (pss_cons (ps_asg (pv 0) (pg_tup (by rfl) (pgs_cons (pg_name (i := 2) scIsCount.nd rfl (.inl rfl)) (pgs_cons (pg_name (i := 3) scIsCount.nd rfl (.inl rfl)) pgs_nil))))
      (pss_one (ps_ret (pe_and (pe_callN GW hr2 (by rfl) T.gW T.FW.kp T.bW pass0 (pa_cons (pv 2) pa_nil) (pk_cons (pe_un un_neg (pe_glob (v := .int 20) rfl g20 ⟨_, rfl⟩)) (pk_cons (pe_glob (v := .int 20) rfl g20 ⟨_, rfl⟩) pk_nil)))
        (pe_one (pe_call GA hr (by rfl) T.gA T.FA.kp T.bA .nil pass0 (pa_cons (pv 3) (pa_cons (pv 1) pa_nil)))))))), ?_⟩
    refine ⟨_, rfl, s, c, v, d, 2, 2, rfl, hd, _, rfl, ?_⟩
    match d, hd, q with
    | .tuple [x, k], hd, q =>
      obtain ⟨b, xs, rfl, h1, h2, h3, vx, r1, rfl, hx, vk, r2, rfl, hk, rfl⟩ := hd
      refine iteF ?_
      refine ⟨_, rfl, b, _, rfl, .inl (.inl h3), rfl, _, _, rfl, _, _, rfl, rfl, ?_⟩
      refine ⟨_, rfl, _, rfl, rfl, rfl, s, c, vx, x, -20, 20, rfl, hx, _, rfl, ?_⟩
      have eq : isCnt ns (.tuple [x, k]) = (inR x (-20) 20 && areB ns k) := by
        cases k with
        | tuple ts =>
          show (inR x (-20) 20 && decide (ts.length ≤ 3) && okTs ns "" ts) = (inR x (-20) 20 && (decide (ts.length ≤ 3) && okTs ns "" ts))
          rw [Bool.and_assoc]
        | _ => exact (Bool.and_false _).symm
      rw [eq] at q
      cases o : inR x (-20) 20 with
      | true =>
        rw [o, Bool.true_and] at q
        exact iteT ⟨_, rfl, _, rfl, s, c, vk, k, a, ns, rfl, hk, hn, q⟩
      | false =>
        rw [o, Bool.false_and] at q
        exact iteF q
    | .tuple [], hd, q => exact iteT q
    | .tuple [x], hd, q =>
      have e : isCnt ns (.tuple [x]) = false := rfl
      rw [e] at q
      exact iteT q
    | .tuple (x :: y :: z :: r), hd, q =>
      have e : rowB (.tuple (x :: y :: z :: r)) 2 2 = false := by
        show (decide _ && decide ((((x :: y :: z :: r : List PyData).length : Nat) : Int) ≤ 2)) = false
        rw [decide_eq_false (show ¬ ((((x :: y :: z :: r : List PyData).length : Nat) : Int) ≤ 2) by simp only [List.length_cons]; omega), Bool.and_false]
      have e2 : isCnt ns (.tuple (x :: y :: z :: r)) = false := by cases y <;> rfl
      rw [e]
      rw [e2] at q
      exact iteT q
    | .none, hd, q => exact iteT q
    | .bool _, hd, q => exact iteT q
    | .int _, hd, q => exact iteT q
    | .str _, hd, q => exact iteT q
    | .list _, hd, q => exact iteT q
    | .dict _, hd, q => exact iteT q
end
end K3

set_option Elab.async false
set_option linter.all false
set_option maxRecDepth 100000
set_option maxHeartbeats 4000000
namespace K3
open PySem PySem.Spec PyProof.Rows L2
abbrev sLNumber : Stmt := topS 27
abbrev sLCount : Stmt := topS 28
theorem scLNumber : FnScope ["item", "low", "high"] ["item", "low", "high"] (defScope sLNumber) := ⟨rfl, rfl, rfl, by decide +kernel, rfl, by decide +kernel, by decide +kernel⟩
theorem scLCount : FnScope ["item", "words", "k", "piece"] ["item", "words"] (defScope sLCount) := ⟨rfl, rfl, rfl, by decide +kernel, rfl, by decide +kernel, by decide +kernel⟩
section
variable {P : Program} {w : World} {K : PySem.W.Frag} {mg : Str → Option Value} {base : Heap}
theorem ok_lnumber {f : Addr} {fd : FuncData} (F : Fun K "_law_is_number" "_law_is_number" sLNumber f fd) (T : TxB mg) : FnOk P w K mg base CX0 1 f fd ["item", "low", "high"] spWhole := by
  refine F.ok scLNumber (fun vs H Q E h => ?_) (fun cdv A outer s0 H vs Q E hr h => ?_)
  · obtain ⟨s, c, v, d, lo, hi, rfl, _⟩ := h
    rfl
  · obtain ⟨s, c, v, d, lo, hi, rfl, hd, q⟩ := h
    refine ⟨_, pss_one (ps_ret (pe_and (pe_callB call_isi (by rfl) T.isi (by decide +kernel) (pa_cons (pv 0) (pa_cons (pe_bltn (v := .ty "int") (by rfl) T.int (by decide +kernel) rfl) pa_nil)))
      (pe_and (pe_not (pe_callB call_isi (by rfl) T.isi (by decide +kernel) (pa_cons (pv 0) (pa_cons (pe_bltn (v := .ty "bool") (by rfl) T.bool (by decide +kernel) rfl) pa_nil))))
        (pe_one (pe_chain op_le op_le (pv 1) (pv 0) (pv 2)))))), ?_⟩
    refine ⟨_, rfl, v, .ty "int", _, _, _, rfl, .ty _, dq_ty hd, kit_int d, _, rfl, ?_⟩
    cases d with
    | int i =>
      refine iteT ⟨_, rfl, v, .ty "bool", _, _, _, rfl, .ty _, dq_ty hd, kit_bool _, _, rfl, _, rfl, ?_⟩
      cases (show v = V.int i from hd)
      refine iteT ⟨_, rfl, _, rfl, _, _, rfl, rfl, _, rfl, ?_⟩
      have q' : Q (.bl (decide (lo ≤ i) && decide (i ≤ hi))) H := q
      by_cases h1 : lo ≤ i
      · rw [decide_eq_true h1] at q' ⊢
        exact iteT ⟨_, rfl, _, _, rfl, rfl, q'⟩
      · rw [decide_eq_false h1] at q' ⊢
        exact iteF q'
    | bool b => exact iteT ⟨_, rfl, v, .ty "bool", _, _, _, rfl, .ty _, dq_ty hd, kit_bool _, _, rfl, _, rfl, iteF q⟩
    | _ => exact iteF q
def spLForm : Sp := fun vs H Q _ => ∃ (s c : Addr) (v : V) (d : PyData) (a : Addr) (ns : List Str), vs = [v, .ref a] ∧ Dq s c H d v ∧ NmAt H a ns ∧ (∀ n ∈ ns, n.cps.toList ≠ []) ∧ ∀ H', Same H H' → Q (.bl (isCnt ns d)) H'
theorem NmAt.same {H H' : Hp} {a : Addr} {ns : List Str} (h : NmAt H a ns) (e : Same H H') : NmAt H' a ns := h.imp (e _ _) (e _ _)
theorem lt_nil {x : Str} (h : x.cps.toList ≠ []) : ltS "" x = true := by
  unfold ltS
  refine decide_eq_true ?_
  have e : ("" : Str).cps.toList = [] := by decide
  rw [e]
  cases q : x.cps.toList with
  | nil => exact absurd q h
  | cons y r => exact List.Lex.nil
theorem ok_lcount {f fN : Addr} {fd dN : FuncData} (F : Fun K "_law_is_count" "_law_is_count" sLCount f fd) (FN : Fun K "_law_is_number" "_law_is_number" sLNumber fN dN) (bN : Binds K dN ["item", "low", "high"] []) (gN : mg "_law_is_number" = some (.ref fN)) (T : TxB mg) (me : mg "enumerate" = none) :
    FnOk P w K mg base CX0 2 f fd ["item", "words"] spLForm := by
  have GN : FnOk P w K mg base CX0 1 fN dN ["item", "low", "high"] spWhole := ok_lnumber FN T
  refine F.ok scLCount (fun vs H Q E h => ?_) (fun cdv A outer s0 H vs Q E hr h => ?_)
  · obtain ⟨s, c, v, d, a, ns, rfl, _⟩ := h
    rfl
  · obtain ⟨s, c, v, d, a, ns, rfl, hd, hn, hne, q⟩ := h
    refine ⟨_, (pss_cons (ps_if (PW.pt (pw_or (pt_not (pt_val (pe_callB call_isi (by rfl) T.isi (by decide +kernel) (pa_cons (pv 0) (pa_cons (pe_bltn (v := .ty "tuple") (by rfl) T.tup (by decide +kernel) rfl) pa_nil))))) (pw_or (pt_cmpR op_ne (pe_callB call_len_seq (by rfl) T.len (by decide +kernel) (pa_cons (pv 0) pa_nil)) pe_int (nomark _)) (pw_or1 (pt_not (pt_val (pe_call GN hr (by rfl) gN FN.kp bN .nil pass0 (pa_cons (pe_ix ix_tup (pv 0) pe_int (fun _ _ => rfl)) (pa_cons (pe_un un_neg pe_int) (pa_cons pe_int pa_nil)))))))))) (pss_one (ps_ret pe_bl)) pss_nil)
      (pss_cons (ps_if (PW.pt (pw_or (pt_not (pt_val (pe_callB call_isi (by rfl) T.isi (by decide +kernel) (pa_cons (pe_ix ix_tup (pv 0) pe_int (fun _ _ => rfl)) (pa_cons (pe_bltn (v := .ty "tuple") (by rfl) T.tup (by decide +kernel) rfl) pa_nil))))) (pw_or1 (pt_cmpR op_gt (pe_callB call_len_seq (by rfl) T.len (by decide +kernel) (pa_cons (pe_ix ix_tup (pv 0) pe_int (fun _ _ => rfl)) pa_nil)) pe_int (nomark _))))) (pss_one (ps_ret pe_bl)) pss_nil)
      (pss_cons (ps_for PassesOwn.never rfl (KEn.pi_num (by rfl) me (pa_cons (pe_ix ix_tup (pv 0) pe_int (fun _ _ => rfl)) pa_nil)) (pg_tup rfl (pgs_cons (pg_name (i := 2) scLCount.nd rfl (.inl rfl)) (pgs_cons (pg_name (i := 3) scLCount.nd rfl (.inl rfl)) pgs_nil))) (pss_cons (ps_if (PW.pt (pw_or (pt_not (pt_val (pe_callB call_isi (by rfl) T.isi (by decide +kernel) (pa_cons (pv 3) (pa_cons (pe_bltn (v := .ty "tuple") (by rfl) T.tup (by decide +kernel) rfl) pa_nil))))) (pw_or (pt_cmpR op_ne (pe_callB call_len_seq (by rfl) T.len (by decide +kernel) (pa_cons (pv 3) pa_nil)) pe_int (nomark _)) (pw_or (pt_not (pt_val (pe_callB call_isi (by rfl) T.isi (by decide +kernel) (pa_cons (pe_ix ix_tup (pv 3) pe_int (fun _ _ => rfl)) (pa_cons (pe_bltn (v := .ty "str") (by rfl) T.str (by decide +kernel) rfl) pa_nil))))) (pw_or1 (pt_cmpR op_notIn_seq (pe_ix ix_tup (pv 3) pe_int (fun _ _ => rfl)) (pv 1) (by rfl))))))) (pss_one (ps_ret pe_bl)) pss_nil)
      (pss_one (ps_if (PW.pt (pw_or (pt_not (pt_val (pe_call GN hr (by rfl) gN FN.kp bN .nil pass0 (pa_cons (pe_ix ix_tup (pv 3) pe_int (fun _ _ => rfl)) (pa_cons pe_int (pa_cons pe_int pa_nil)))))) (pw_or1 (PW.pt (pw_and (pt_cmpR op_gt (pv 2) pe_int (nomark _)) (pw_and1 (pt_cmpR op_ge_str (pe_ix ix_tup (pe_ix ix_tup (pe_ix ix_tup (pv 0) pe_int (fun _ _ => rfl)) (pe_op op_sub (pv 2) pe_int) (fun _ _ => rfl)) pe_int (fun _ _ => rfl)) (pe_ix ix_tup (pv 3) pe_int (fun _ _ => rfl)) (nomark _)))))))) (pss_one (ps_ret pe_bl)) pss_nil))))
      (pss_one (ps_ret pe_bl))))), ?_⟩
    have qf : isCnt ns d = false → Q (.bl false) H := fun e => by rw [← e]; exact q H (Same.refl H)
    refine ⟨_, rfl, v, .ty "tuple", _, _, _, rfl, .ty _, dq_ty hd, kit_tup d, _, rfl, ?_⟩
    cases d with
    | tuple ds =>
      refine iteF ?_
      have hd' := hd
      obtain ⟨b, xs, rfl, h1, h2, h3, hL⟩ := hd
      refine ⟨_, rfl, b, xs, rfl, .inr (.inl (.inl h3)), rfl, _, rfl, ?_⟩
      rw [hL.len]
      by_cases l2 : ds.length = 2
      · have e2 : decide (V.int ((ds.length : Nat) : Int) = V.int 2) = true := decide_eq_true (by rw [l2]; rfl)
        rw [e2]
        refine iteF ?_
        obtain ⟨x, k, rfl⟩ : ∃ x k, ds = [x, k] := by
          match ds, l2 with
          | [x, k], _ => exact ⟨x, k, rfl⟩
        obtain ⟨vx, r1, rfl, hx, vk, r2, rfl, hk, rfl⟩ := hL
        refine ⟨_, rfl, b, _, _, vx, rfl, rfl, .inl (.inl h3), rfl, _, rfl, s, c, vx, x, -20, 20, rfl, hx, _, rfl, ?_⟩
        cases o : inR x (-20) 20 with
        | false =>
          refine iteT (qf ?_)
          cases k with
          | tuple ts => show (inR x (-20) 20 && _ && _) = false; rw [o]; rfl
          | _ => rfl
        | true =>
          refine iteF ?_
          refine ⟨_, rfl, b, _, _, vk, rfl, rfl, .inl (.inl h3), rfl, vk, .ty "tuple", _, _, _, rfl, .ty _, dq_ty hk, kit_tup k, _, rfl, ?_⟩
          cases k with
          | tuple ts =>
            refine iteF ?_
            have eq : isCnt ns (.tuple [x, .tuple ts]) = (decide (ts.length ≤ 3) && okTs ns "" ts) := by
              show (inR x (-20) 20 && decide (ts.length ≤ 3) && okTs ns "" ts) = _
              rw [o, Bool.true_and]
            rw [eq] at q qf
            obtain ⟨t, ys, rfl, t1, t2, t3, hT⟩ := hk
            have tl := hT.len
            refine ⟨_, rfl, b, _, _, .ref t, rfl, rfl, .inl (.inl h3), rfl, t, ys, rfl, .inr (.inl (.inl t3)), _, _, rfl, rfl, _, rfl, ?_⟩
            rw [tl]
            by_cases l3 : ts.length ≤ 3
            · rw [decide_eq_false (show ¬ (3 : Int) < (ts.length : Int) by omega)]
              rw [decide_eq_true l3, Bool.true_and] at q qf
              refine iteF ?_
              refine ⟨_, rfl, b, _, _, .ref t, rfl, rfl, .inl (.inl h3), rfl, t, ys, rfl, .inl (.inl t3), ?_⟩
              refine KEn.for_num (K := K) (a := t) (xs := ys) (fun i σ H' => ∃ (x2 x3 : Option V) (last : Str), σ = [some (.ref b), some (.ref a), x2, x3] ∧ Same H H' ∧ okTs ns "" ts = okTs ns last (ts.drop i) ∧
                  ((i = 0 ∧ last = "") ∨ ∃ j k, i = j + 1 ∧ ts[j]? = some (.tuple [.str last, .int k]))) ⟨none, none, "", rfl, Same.refl H, rfl, .inl ⟨rfl, rfl⟩⟩
                (fun i σ H' hi h => by obtain ⟨_, _, _, _, sm, _⟩ := h; exact .inl (.inl (sm _ _ t3))) (fun i p N σ H' hx hN h => ?_) (fun σ H' h => ?_)
              · obtain ⟨x2, x3, last, rfl, sm, ek, hlast⟩ := h
                obtain ⟨pd, hp, dp⟩ := hT.get hx
                have sm2 : Same H (upd H' N (.tup [.int (i : Nat), p])) := sm.trans (same_upd hN)
                have at_ : (upd H' N (.tup [.int (i : Nat), p])) N = some (.tup [.int (i : Nat), p]) := upd_same
                revert sm2 at_
                generalize upd H' N (.tup [.int (i : Nat), p]) = H2
                intro sm2 at_
                have kp2 : Kp s c H H2 := .of_same sm2
                rw [drop_at hp, okTs_cons] at ek
                refine ⟨N, _, rfl, .inl (.inl at_), rfl, _, _, rfl, _, _, rfl, rfl, ?_⟩
                refine ⟨_, rfl, p, .ty "tuple", _, _, _, rfl, .ty _, dq_ty (dp.kp kp2), kit_tup pd, _, rfl, ?_⟩
                have stop : okT ns pd = false → Q (.bl false) H2 := fun e => by
                  rw [e, Bool.false_and, Bool.false_and] at ek
                  rw [← ek]
                  exact q H2 sm2
                cases pd with
                | tuple es =>
                  refine iteF ?_
                  obtain ⟨y, zs, rfl, y1, y2, y3, hE⟩ := dp.kp kp2
                  refine ⟨_, rfl, y, zs, rfl, .inr (.inl (.inl y3)), rfl, _, rfl, ?_⟩
                  rw [hE.len]
                  by_cases el : es.length = 2
                  · have e3 : decide (V.int ((es.length : Nat) : Int) = V.int 2) = true := decide_eq_true (by rw [el]; rfl)
                    rw [e3]
                    refine iteF ?_
                    obtain ⟨n, k, rfl⟩ : ∃ n k, es = [n, k] := by
                      match es, el with
                      | [n, k], _ => exact ⟨n, k, rfl⟩
                    obtain ⟨vn, r1, rfl, hn1, vk, r2, rfl, hk1, rfl⟩ := hE
                    refine ⟨_, rfl, y, _, _, vn, rfl, rfl, .inl (.inl y3), rfl, vn, .ty "str", _, _, _, rfl, .ty _, dq_ty hn1, kit_str n, _, rfl, ?_⟩
                    cases n with
                    | str z =>
                      cases (show vn = V.str z from hn1)
                      refine iteF ?_
                      refine ⟨_, rfl, y, _, _, .str z, rfl, rfl, .inl (.inl y3), rfl, _, rfl, a, ns.map V.str, rfl, (hn.same sm2).imp (fun h => .inl (.inl h)) (fun h => .inl (.inl h)), rfl, flat_strs ns, _, rfl, ?_⟩
                      show if (!inV (.str z) (ns.map V.str)) = true then _ else _
                      rw [inV_strs]
                      have eo : okT ns (.tuple [.str z, k]) = (decide (z ∈ ns) && inR k 1 3) := rfl
                      by_cases hz : z ∈ ns
                      · rw [decide_eq_true hz]
                        refine iteF ?_
                        rw [decide_eq_true hz, Bool.true_and] at eo
                        refine ⟨_, rfl, y, _, _, vk, rfl, rfl, .inl (.inl y3), rfl, s, c, vk, k, 1, 3, rfl, hk1, _, rfl, ?_⟩
                        cases ok : inR k 1 3 with
                        | false => exact iteT (iteT (stop (by rw [eo, ok])))
                        | true =>
                          refine iteF ?_
                          rw [eo, ok, Bool.true_and] at ek
                          obtain ⟨m, rfl⟩ : ∃ m, k = .int m := by
                            cases k with
                            | int m => exact ⟨m, rfl⟩
                            | _ => cases ok
                          have go : ltS last z = true → ∃ (x2 x3 : Option V) (last' : Str), [some (V.ref b), some (V.ref a), some (V.int (i : Nat)), some (V.ref y)] = [some (.ref b), some (.ref a), x2, x3] ∧ Same H H2 ∧ okTs ns "" ts = okTs ns last' (ts.drop (i + 1)) ∧
                              ((i + 1 = 0 ∧ last' = "") ∨ ∃ j k, i + 1 = j + 1 ∧ ts[j]? = some (.tuple [.str last', .int k])) := fun e => by
                            have e' : ltS last (nmT (.tuple [.str z, .int m])) = true := e
                            rw [e', Bool.true_and] at ek
                            exact ⟨_, _, z, rfl, sm2, ek, .inr ⟨i, m, rfl, hp⟩⟩
                          refine ⟨_, rfl, _, _, rfl, rfl, _, rfl, ?_⟩
                          rcases hlast with ⟨rfl, rfl⟩ | ⟨j, k', rfl, hj⟩
                          · refine iteF (iteF ?_)
                            exact go (lt_nil (hne z hz))
                          · rw [decide_eq_true (show (0 : Int) < ((j + 1 : Nat) : Int) by omega)]
                            refine iteT ?_
                            obtain ⟨vj, hvj, dj⟩ : ∃ vj, ys[j]? = some vj ∧ Dq s c H (.tuple [.str last, .int k']) vj := by
                              have hj2 : j < ys.length := by rw [tl]; exact (List.getElem?_eq_some_iff.mp hj).1
                              obtain ⟨d', e1, e2⟩ := hT.get (List.getElem?_eq_getElem hj2)
                              rw [hj] at e1
                              cases e1
                              exact ⟨_, List.getElem?_eq_getElem hj2, e2⟩
                            obtain ⟨u, us, rfl, u1, u2, u3, vl, r3, rfl, hl3, _⟩ := dj.kp kp2
                            cases (show vl = V.str last from hl3)
                            refine ⟨_, rfl, b, _, _, .ref t, rfl, rfl, .inl (.inl (sm2 _ _ h3)), rfl, _, rfl, _, _, rfl, rfl, t, _, _, .ref u, rfl, rfl, .inl (.inl (sm2 _ _ t3)), ?_, u, _, _, .str last, rfl, rfl, .inl (.inl u3), atI_nat (j := 0) rfl, _, rfl, y, _, _, .str z, rfl, rfl, .inl (.inl y3), rfl, _, _, rfl, rfl, _, rfl, ?_⟩
                            · exact at_of (by omega) hvj
                            · cases ol : ltS last z with
                              | true =>
                                have ol' : decide (last.cps.toList < z.cps.toList) = true := ol
                                rw [ol']
                                exact iteF (go ol)
                              | false =>
                                have ol' : decide (last.cps.toList < z.cps.toList) = false := ol
                                rw [ol']
                                refine iteT ?_
                                have e' : ltS last (nmT (.tuple [.str z, .int m])) = false := ol
                                rw [e', Bool.false_and] at ek
                                show Q (.bl false) H2
                                rw [← ek]
                                exact q H2 sm2
                      · rw [decide_eq_false hz]
                        rw [decide_eq_false hz, Bool.false_and] at eo
                        exact iteT (stop eo)
                    | _ => exact iteT (iteT (stop rfl))
                  · have e3 : decide (V.int ((es.length : Nat) : Int) = V.int 2) = false := decide_eq_false (fun z => el (by
                      have := V.int.inj z
                      omega))
                    rw [e3]
                    refine iteT (iteT (stop ?_))
                    match es, el with
                    | [], _ => rfl
                    | [z], _ => cases z <;> rfl
                    | [_, _], el => exact absurd rfl el
                    | z :: _ :: _ :: _, _ => cases z <;> rfl
                | _ => exact iteT (iteT (stop rfl))
              · obtain ⟨x2, x3, last, rfl, sm, ek, _⟩ := h
                rw [List.drop_of_length_le (by omega)] at ek
                rw [ek] at q
                exact q H' sm
            · rw [decide_eq_true (show (3 : Int) < (ts.length : Int) by omega)]
              rw [decide_eq_false l3, Bool.false_and] at qf
              exact iteT (qf rfl)
          | _ => exact iteT (iteT (qf rfl))
      · have e2 : decide (V.int ((ds.length : Nat) : Int) = V.int 2) = false := decide_eq_false (fun z => l2 (by
          have := V.int.inj z
          omega))
        rw [e2]
        refine iteT (iteT (qf ?_))
        match ds, l2 with
        | [], _ => rfl
        | [z], _ => rfl
        | [_, _], el => exact absurd rfl el
        | _ :: k :: _ :: _, _ => cases k <;> rfl
    | _ => exact iteT (iteT (qf rfl))
end
end K3

set_option Elab.async false
set_option linter.all false
set_option maxRecDepth 100000
set_option maxHeartbeats 4000000
namespace K3
open PySem PySem.Spec PyProof.Rows L2
abbrev sNameBy : Stmt := topS 22
abbrev sNamesBy : Stmt := topS 23
theorem scNameBy : FnScope ["stream", "some", "k"] ["stream"] (defScope sNameBy) := ⟨rfl, rfl, rfl, by decide +kernel, rfl, by decide +kernel, by decide +kernel⟩
theorem scNamesBy : FnScope ["stream", "many", "found", "k", "some", "name"] ["stream", "many"] (defScope sNamesBy) := ⟨rfl, rfl, rfl, by decide +kernel, rfl, by decide +kernel, by decide +kernel⟩
theorem Sm.kp1 {s c : Addr} {n : Int} {H : Hp} (h : Sm s c n H) {p : Addr} (e : H p = none) (o : HO) : Sm s c n (upd H p o) := h.same (same_upd e)
theorem Kp.free {s c D : Addr} {H H' : Hp} (k : Kp s c H H') (h1 : D ≠ s) (h2 : D ≠ c) (e : H' D = none) : H D = none := by
  cases h : H D with
  | none => rfl
  | some o => rw [k _ _ h1 h2 h] at e; cases e
theorem Kp.put {s c D : Addr} {H H' : Hp} {o : HO} (k : Kp s c H H') (e : H D = none) : Kp s c H (upd H' D o) := fun b x b1 b2 h => by
  rw [upd_ne (ne_of_none h e)]
  exact k b x b1 b2 h
theorem Sm.put {s c D : Addr} {n : Int} {H : Hp} {o : HO} (h : Sm s c n H) (h1 : D ≠ s) (h2 : D ≠ c) : Sm s c n (upd H D o) := by
  obtain ⟨ne, cells, a, b, d, e1, e2, e3, e4⟩ := h
  exact ⟨ne, cells, a, b, d, by rw [upd_ne h1.symm]; exact e1, by rw [upd_ne h2.symm]; exact e2, e3, e4⟩

section
variable {P : Program} {w : World} {K : PySem.W.Frag} {mg : Str → Option Value} {base : Heap}
/-- the drawing's text -/
structure TxS (K : PySem.W.Frag) (mg : Str → Option Value) where
  len : mg "len" = none
  rng : mg "range" = none
  fM : Addr
  fT : Addr
  fO : Addr
  dM : FuncData
  dT : FuncData
  dO : FuncData
  FM : Fun K "_law_mixed" "_law_mixed" sMixed fM dM
  FT : Fun K "_law_take" "_law_take" sTake fT dT
  FO : Fun K "_law_of" "_law_of" sOf fO dO
  bM : Binds K dM ["drawn", "k"] []
  bT : Binds K dT ["stream", "many"] []
  bO : Binds K dO ["stream", "some"] []
  gM : mg "_law_mixed" = some (.ref fM)
  gT : mg "_law_take" = some (.ref fT)
  gO : mg "_law_of" = some (.ref fO)
def spOf : Sp := fun vs H Q _ => ∃ (s c p : Addr) (n : Int) (xs : List V), vs = [.ref s, .ref p] ∧ n ≤ 900000 ∧ Sm s c n H ∧ p ≠ s ∧ p ≠ c ∧ H p = some (.lst xs) ∧ xs ≠ [] ∧ xs.length ≤ 1000 ∧
  ∀ (y : V) (H' : Hp), y ∈ xs → Kp s c H H' → Sm s c (n + 1) H' → Q y H'
theorem ok_of (T : TxS K mg) : FnOk P w K mg base CX0 3 T.fO T.dO ["stream", "some"] spOf := by
  have GT : FnOk P w K mg base CX0 2 T.fT T.dT ["stream", "many"] spTake := ok_take T.FT T.FM T.bM T.gM
  refine T.FO.ok scOf (fun vs H Q E h => ?_) (fun cdv A outer s0 H vs Q E hr h => ?_)
  · obtain ⟨s, c, p, n, xs, rfl, _⟩ := h
    rfl
  · obtain ⟨s, c, p, n, xs, rfl, hn, hS, p1, p2, hp, ne, hz, q⟩ := h
    refine ⟨_, pss_one (ps_ret (pe_ix ix_list (pv 1) (pe_call GT hr (by rfl) T.gT T.FT.kp T.bT .nil pass0 (pa_cons (pv 0) (pa_cons (pe_callB call_len_seq (by rfl) T.len (by decide +kernel) (pa_cons (pv 1) pa_nil)) pa_nil))) (fun _ _ => rfl))), ?_⟩
    have hl : 0 < xs.length := List.length_pos_iff.mpr ne
    refine ⟨_, rfl, _, rfl, _, rfl, p, xs, rfl, .inl (.inl (.inl hp)), s, c, _, n, rfl, by omega, by omega, hn, hS, fun r H' r0 r1 kp sm => ?_⟩
    obtain ⟨j, rfl⟩ := Int.eq_ofNat_of_zero_le r0
    have hj : j < xs.length := by omega
    exact ⟨p, xs, _, xs[j], rfl, rfl, .inl (.inl (kp _ _ p1 p2 hp)), at_of rfl (List.getElem?_eq_getElem hj), q _ _ (List.getElem_mem hj) kp sm⟩
def spOfT : Sp := fun vs H Q _ => ∃ (s c : Addr) (n : Int) (z : Str), vs = [.ref s, .str z] ∧ n ≤ 900000 ∧ Sm s c n H ∧ 1 ≤ z.length ∧ z.length ≤ 1000 ∧
  ∀ (y : Nat) (H' : Hp), y ∈ z.cps.toList → Kp s c H H' → Sm s c (n + 1) H' → Q (.str ⟨#[y]⟩) H'
theorem ok_ofT (T : TxS K mg) : FnOk P w K mg base CX0 3 T.fO T.dO ["stream", "some"] spOfT := by
  have GT : FnOk P w K mg base CX0 2 T.fT T.dT ["stream", "many"] spTake := ok_take T.FT T.FM T.bM T.gM
  refine T.FO.ok scOf (fun vs H Q E h => ?_) (fun cdv A outer s0 H vs Q E hr h => ?_)
  · obtain ⟨s, c, n, z, rfl, _⟩ := h
    rfl
  · obtain ⟨s, c, n, z, rfl, hn, hS, z1, z2, q⟩ := h
    refine ⟨_, pss_one (ps_ret (pe_ix ix_str (pv 1) (pe_call GT hr (by rfl) T.gT T.FT.kp T.bT .nil pass0 (pa_cons (pv 0) (pa_cons (pe_callB call_len_str (by rfl) T.len (by decide +kernel) (pa_cons (pv 1) pa_nil)) pa_nil))) (fun _ _ => rfl))), ?_⟩
    have hl : z.cps.toList.length = z.length := by simp [Str.length]
    refine ⟨_, rfl, _, rfl, _, rfl, z, rfl, le_size (by omega), s, c, _, n, rfl, by omega, by omega, hn, hS, fun r H' r0 r1 kp sm => ?_⟩
    obtain ⟨j, rfl⟩ := Int.eq_ofNat_of_zero_le r0
    have hj : j < z.cps.toList.length := by omega
    exact ⟨z, _, z.cps.toList[j], rfl, rfl, le_size (by omega), atI_nat (List.getElem?_eq_getElem hj), q _ _ (List.getElem_mem hj) kp sm⟩

/-- a name, as the law draws it -/
def NmOk (z : Str) : Prop := z.cps.toList ≠ [] ∧ z.length ≤ 8 ∧ ∀ ch ∈ z.cps.toList, ch < 128
def nmOkB (z : Str) : Bool := !z.cps.toList.isEmpty && decide (z.length ≤ 8) && z.cps.toList.all fun ch => decide (ch < 128)
theorem NmOk.of {z : Str} (h : nmOkB z = true) : NmOk z := by
  unfold nmOkB at h
  rw [Bool.and_eq_true, Bool.and_eq_true] at h
  refine ⟨fun e => ?_, of_decide_eq_true h.1.2, fun ch hc => of_decide_eq_true (List.all_eq_true.mp h.2 ch hc)⟩
  have := h.1.1
  rw [e] at this
  cases this
theorem all_nm {z : V} {ns : List Str} (hb : ns.all nmOkB = true) (h : z ∈ ns.map V.str) : ∃ y, z = .str y ∧ NmOk y := by
  obtain ⟨y, hy, rfl⟩ := List.mem_map.mp h
  exact ⟨y, rfl, .of (List.all_eq_true.mp hb y hy)⟩
theorem join_signs (cs : List Nat) : Txt.join "" (cs.map fun ch => (⟨#[ch]⟩ : Str)) = ⟨cs.toArray⟩ := by
  have e1 : Txt.join "" (cs.map fun ch => (⟨#[ch]⟩ : Str)) = Str.join ⟨#[]⟩ (signs ⟨cs.toArray⟩) := StrLaws.glued_eq_join "" _
  rw [e1, join_nil_signs]
def spName : Sp := fun vs H Q _ => ∃ (s c : Addr) (n : Int), vs = [.ref s] ∧ n + 20 ≤ 900000 ∧ Sm s c n H ∧ ∀ (z : Str) (H' : Hp), NmOk z → Kp s c H H' → Sm s c (n + 20) H' → Q (.str z) H'
theorem ok_name {f : Addr} {fd : FuncData} (F : Fun K "_law_name_by" "_law_name_by" sNameBy f fd) (T : TxS K mg) : FnOk P w K mg base CX0 4 f fd ["stream"] spName := by
  have GT : FnOk P w K mg base CX0 2 T.fT T.dT ["stream", "many"] spTake := ok_take T.FT T.FM T.bM T.gM
  have GO : FnOk P w K mg base CX0 3 T.fO T.dO ["stream", "some"] spOf := ok_of T
  have GZ : FnOk P w K mg base CX0 3 T.fO T.dO ["stream", "some"] spOfT := ok_ofT T
  refine F.ok scNameBy (fun vs H Q E h => ?_) (fun cdv A outer s0 H vs Q E hr h => ?_)
  · obtain ⟨s, c, n, rfl, _⟩ := h
    rfl
  · obtain ⟨s, c, n, rfl, hn, hS, q⟩ := h
    have hr2 := hr.mono (show 2 ≤ 3 by decide)
    refine ⟨_, pss_cons (ps_set (i := 1) scNameBy.nd rfl (.inl rfl) (pe_lst (pa_cons pe_str (pa_cons pe_str (pa_cons pe_str (pa_cons pe_str (pa_cons pe_str (pa_cons pe_str (pa_cons pe_str pa_nil)))))))))
      (pss_cons (ps_if (pt_cmpR op_gt (pe_call GT hr2 (by rfl) T.gT T.FT.kp T.bT .nil pass0 (pa_cons (pv 0) (pa_cons pe_int pa_nil))) pe_int (nomark _)) (pss_one (ps_ret (pe_call GO hr (by rfl) T.gO T.FO.kp T.bO .nil pass0 (pa_cons (pv 0) (pa_cons (pv 1) pa_nil))))) pss_nil)
      (pss_one (ps_ret (pe_join pe_str (pe_lc (own := [("k", 2)]) (g := gName 2) (tt := tYes) rfl scNameBy.nd (pi_range1 (by rfl) T.rng (pa_cons (pe_op op_add pe_int (pe_call GT hr2 (by rfl) T.gT T.FT.kp T.bT .nil pass0 (pa_cons (pv 0) (pa_cons pe_int pa_nil)))) pa_nil)) (blkOk_by (N := ["stream", "some", "k"]) (sc := defScope sNameBy) (by decide +kernel))
          (fun _ _ _ _ _ => pg_name (i := 2) scNameBy.nd rfl (.inl rfl)) (fun _ _ _ _ _ => pts_nil)
          (fun _ _ _ _ _ => pe_call GZ hr (by rfl) T.gO T.FO.kp T.bO .nil pass0 (pa_cons (pv 0) (pa_cons pe_str pa_nil)))))))), ?_⟩
    refine ⟨by show 7 ≤ sizeLine; exact le_size (by decide), fun p np => ?_⟩
    have s1 : Same H (upd H p (.lst ([("a" : Str), "b", "n", "m", "size", "count", "zzzzzzzz"].map V.str))) := same_upd np
    have pn := hS.ns np
    refine ⟨_, rfl, s, c, 3, n, rfl, by decide, by decide, by omega, hS.same s1, fun r H1 r0 r1 k1 m1 => ?_⟩
    have kk1 : Kp s c H H1 := (Kp.of_same s1).trans k1
    refine ⟨_, _, rfl, rfl, _, rfl, ite2 (fun hx => ?_) (fun hx => ?_)⟩
    · refine ⟨_, rfl, _, rfl, s, c, p, n + 1, _, rfl, by omega, m1, pn.1, pn.2, k1 _ _ pn.1 pn.2 upd_same, by decide, by decide, fun y H2 hy k2 m2 => ?_⟩
      obtain ⟨z, rfl, hz⟩ := all_nm (ns := [("a" : Str), "b", "n", "m", "size", "count", "zzzzzzzz"]) (by decide +kernel) hy
      exact q z H2 hz (kk1.trans k2) (m2.le (by omega))
    · refine ⟨⟨_, rfl⟩, ?_⟩
      refine ⟨_, rfl, s, c, 8, n + 1, rfl, by decide, by decide, by omega, m1, fun r2 H2 r20 r21 k2 m2 => ?_⟩
      refine ⟨_, _, rfl, rfl, _, rfl, by omega, by omega, fun D nD => ?_⟩
      have kk2 : Kp s c H H2 := kk1.trans k2
      have dn : D ≠ s ∧ D ≠ c := m2.ns nD
      have d0 : H D = none := kk2.free dn.1 dn.2 nD
      refine lc_range (n := (1 + r2).toNat) (fun i H' => Kp s c H H' ∧ Sm s c (n + 2 + (i : Nat)) H' ∧ ∃ cs : List Nat, H' D = some (.lst (cs.map fun ch => V.str ⟨#[ch]⟩)) ∧ cs.length = i ∧ ∀ ch ∈ cs, ch < 128) ?_ (fun i H' hi h => ?_) (fun H' h => ?_)
      · exact ⟨kk2.trans (Kp.new nD), (m2.kp1 nD _).le (by omega), [], upd_same, rfl, fun ch hc => by cases hc⟩
      · obtain ⟨k3, m3, cs, hD, hl, hc⟩ := h
        refine ⟨rfl, ?_⟩
        refine ⟨_, rfl, s, c, _, _, rfl, by omega, m3, by decide, by decide, fun y H4 hy k4 m4 => ?_⟩
        refine ⟨_, k4 _ _ dn.1 dn.2 hD, ?_, ?_⟩
        · rw [List.length_map, hl]; exact lt_size (by omega)
        · refine ⟨(k3.trans k4).put d0, (m4.put dn.1 dn.2).le (by omega), cs ++ [y], ?_, by rw [List.length_append, hl]; rfl, fun ch h => ?_⟩
          · rw [upd_same, List.map_append]; rfl
          · rcases List.mem_append.mp h with h | h
            · exact hc ch h
            · rcases List.mem_cons.mp h with h | h
              · subst h
                have : (("abcdefghijklmnopqrstuvwxyz" : Str).cps.toList.all fun ch => decide (ch < 128)) = true := by decide +kernel
                exact of_decide_eq_true (List.all_eq_true.mp this _ hy)
              · cases h
      · obtain ⟨k3, m3, cs, hD, hl, hc⟩ := h
        refine ⟨_, D, cs.map fun ch => (⟨#[ch]⟩ : Str), rfl, rfl, .inl (.inl (.inl ?_)), ?_, ?_⟩
        · rw [hD, List.map_map]; rfl
        · have e : ∀ l : List Nat, ((l.map fun ch => (⟨#[ch]⟩ : Str)).map (·.length)).sum = l.length := fun l => by
            induction l with
            | nil => rfl
            | cons x r ih => rw [List.map_cons, List.map_cons, List.sum_cons, ih, List.length_cons, Nat.add_comm]; rfl
          rw [e]
          show cs.length + _ * 0 ≤ _
          omega
        · rw [join_signs]
          refine q _ H' ⟨fun e => ?_, ?_, fun ch h => ?_⟩ k3 (m3.le (by omega))
          · have : cs = [] := by simpa using e
            rw [this] at hl
            have : (1 + r2).toNat = 0 := hl.symm
            omega
          · show cs.toArray.size ≤ 8
            rw [List.size_toArray]; omega
          · exact hc ch (by simpa using h)
end
end K3

set_option Elab.async false
set_option linter.all false
set_option maxRecDepth 100000
set_option maxHeartbeats 4000000
namespace K3
open PySem PySem.Spec PyProof.Rows L2
theorem free3 {ws : List Str} (h : ws.length ≤ 2) : (("qa" : Str) ∉ ws) ∨ (("qb" : Str) ∉ ws) ∨ (("qc" : Str) ∉ ws) := by
  have n1 : ¬ ("qa" : Str) = "qb" := by decide
  have n2 : ¬ ("qa" : Str) = "qc" := by decide
  have n3 : ¬ ("qb" : Str) = "qc" := by decide
  by_cases a : ("qa" : Str) ∈ ws
  · by_cases b : ("qb" : Str) ∈ ws
    · refine .inr (.inr fun c => ?_)
      match ws, h with
      | [], _ => cases a
      | [x], _ =>
        rw [List.mem_singleton] at a b
        exact n1 (a.trans b.symm)
      | [x, y], _ =>
        rw [List.mem_cons, List.mem_singleton] at a b c
        rcases a with a | a <;> rcases b with b | b <;> rcases c with c | c
        · exact n1 (a.trans b.symm)
        · exact n1 (a.trans b.symm)
        · exact n2 (a.trans c.symm)
        · exact n3 (b.trans c.symm)
        · exact n3 (b.trans c.symm)
        · exact n2 (a.trans c.symm)
        · exact n1 (a.trans b.symm)
        · exact n1 (a.trans b.symm)
    · exact .inr (.inl b)
  · exact .inl a
section
variable {P : Program} {w : World} {K : PySem.W.Frag} {mg : Str → Option Value} {base : Heap}
def spNames : Sp := fun vs H Q _ => ∃ (s c : Addr) (n m : Int), vs = [.ref s, .int m] ∧ 0 ≤ m ∧ m ≤ 3 ∧ n + 100 ≤ 900000 ∧ Sm s c n H ∧
  ∀ (p : Addr) (ws : List Str) (H' : Hp), p ≠ s → p ≠ c → H p = none → H' p = some (.lst (ws.map V.str)) → (ws.length : Int) = m → ws.Nodup → (∀ z ∈ ws, NmOk z) → Kp s c H H' → Sm s c (n + 100) H' → Q (.ref p) H'
theorem ok_names {f fN : Addr} {fd dN : FuncData} (F : Fun K "_law_names_by" "_law_names_by" sNamesBy f fd) (FN : Fun K "_law_name_by" "_law_name_by" sNameBy fN dN) (bN : Binds K dN ["stream"] []) (gN : mg "_law_name_by" = some (.ref fN)) (T : TxS K mg) :
    FnOk P w K mg base CX0 5 f fd ["stream", "many"] spNames := by
  have GN : FnOk P w K mg base CX0 4 fN dN ["stream"] spName := ok_name FN T
  refine F.ok scNamesBy (fun vs H Q E h => ?_) (fun cdv A outer s0 H vs Q E hr h => ?_)
  · obtain ⟨s, c, n, m, rfl, _⟩ := h
    rfl
  · obtain ⟨s, c, n, m, rfl, m0, m3, hn, hS, q⟩ := h
    refine ⟨_, pss_cons (ps_set (i := 2) scNamesBy.nd rfl (.inr rfl) (pe_lst pa_nil))
      (pss_cons (ps_for PassesOwn.never rfl (pi_range1 (by rfl) T.rng (pa_cons (pv 1) pa_nil)) (pg_name (i := 3) scNamesBy.nd rfl (.inl rfl))
        (pss_cons (ps_set (i := 4) scNamesBy.nd rfl (.inl rfl) (pe_lst (pa_cons (pe_call GN hr (by rfl) gN FN.kp bN .nil pass0 (pa_cons (pv 0) pa_nil)) (pa_cons pe_str (pa_cons pe_str (pa_cons pe_str pa_nil))))))
        (pss_one (ps_expr (pe_bm PySem.F.plainAttrs_list PySem.F.slot_list_append PySem.F.type_list_append mt_append (pv 2) (pa_cons (pe_ix ix_list
          (pe_lc (own := [("name", 5)]) (g := gName 5) rfl scNamesBy.nd (pi_list (pv 4)) (blkOk_by (N := ["stream", "many", "found", "k", "some", "name"]) (sc := defScope sNamesBy) (by decide +kernel))
            (fun _ _ _ _ _ => pg_name (i := 5) scNamesBy.nd rfl (.inl rfl)) (fun _ _ _ _ _ => pts_one (pt_cmpR (r := rIn K true) op_notIn_seq (pv 5) (pv 2) (by rfl))) (fun _ _ _ _ _ => pv 5)) pe_int (fun _ _ => rfl)) pa_nil))))))
      (pss_one (ps_ret (pv 2)))), ?_⟩
    refine ⟨Nat.zero_le _, fun F nF => ?_⟩
    have fn := hS.ns nF
    refine ⟨_, rfl, m, rfl, by omega, by omega, ?_⟩
    refine for_range (n := m.toNat) (fun i σ H' => ∃ (x3 x4 : Option V) (ws : List Str), σ = [some (.ref s), some (.int m), some (.ref F), x3, x4, none] ∧ Kp s c H H' ∧ Sm s c (n + 20 * (i : Nat)) H' ∧ H' F = some (.lst (ws.map V.str)) ∧ ws.length = i ∧ ws.Nodup ∧ ∀ z ∈ ws, NmOk z)
      ⟨none, none, [], rfl, Kp.new nF, (hS.kp1 nF _).le (by omega), upd_same, rfl, List.nodup_nil, fun z h => by cases h⟩ (fun i σ H' hi h => ?_) (fun σ H' h => ?_)
    · obtain ⟨x3, x4, ws, rfl, k1, m1, hF, hl, hnd, hok⟩ := h
      refine ⟨_, rfl, s, c, _, rfl, by omega, m1, fun z H1 hz k2 m2 => ?_⟩
      refine ⟨by show 4 ≤ sizeLine; exact le_size (by decide), fun L nL => ?_⟩
      have hF1 := k2 _ _ fn.1 fn.2 hF
      have s1 : Same H1 (upd H1 L (.lst [.str z, .str "qa", .str "qb", .str "qc"])) := same_upd nL
      have ln := m2.ns nL
      have hL1 : (upd H1 L (.lst [.str z, .str "qa", .str "qb", .str "qc"])) L = some (.lst ([z, "qa", "qb", "qc"].map V.str)) := upd_same
      have hF2 := s1 _ _ hF1
      have m3' := m2.same s1
      have k3 := k1.trans (k2.trans (.of_same s1))
      have nLH : H L = none := (k1.trans k2).free ln.1 ln.2 nL
      revert hL1 hF2 m3' k3
      generalize upd H1 L (.lst [.str z, .str "qa", .str "qb", .str "qc"]) = H2
      intro hL1 hF2 m3' k3
      refine ⟨_, rfl, .inl ⟨rfl, _, .inl (.inl hF2)⟩, _, rfl, L, rfl, ⟨_, .inl (.inl hL1)⟩, fun D nD => ?_⟩
      have s3 : Same H2 (upd H2 D (.lst [])) := same_upd nD
      refine lc_list (K := K) (a := L) (xs := [z, "qa", "qb", "qc"].map V.str) (fun j H' => Same H2 H' ∧ H' D = some (.lst ((([z, "qa", "qb", "qc"].take j).filter fun x => decide (x ∉ ws)).map V.str))) ⟨s3, upd_same⟩ (fun j H' hj h => .inl (.inl (h.1 _ _ hL1))) (fun j x H' hx h => ?_) (fun H' h => ?_)
      · obtain ⟨s4, hD⟩ := h
        obtain ⟨y, hy, rfl⟩ : ∃ y, [z, "qa", "qb", "qc"][j]? = some y ∧ x = .str y := by
          rw [List.getElem?_map] at hx
          cases e : [z, "qa", "qb", "qc"][j]? with
          | none => rw [e] at hx; cases hx
          | some y => rw [e] at hx; cases hx; exact ⟨y, rfl, rfl⟩
        refine ⟨rfl, ?_⟩
        refine ⟨_, rfl, _, rfl, F, ws.map V.str, rfl, .inl (.inl (.inl (s4 _ _ hF2))), rfl, flat_strs ws, _, rfl, ?_⟩
        show if (!inV (.str y) (ws.map V.str)) = true then _ else _
        rw [inV_strs]
        rw [take_snoc hy, List.filter_append]
        by_cases hw : y ∈ ws
        · rw [decide_eq_true hw]
          refine iteF ⟨s4, ?_⟩
          rw [List.filter_cons_of_neg (by simpa using hw), List.filter_nil, List.append_nil]
          exact hD
        · rw [decide_eq_false hw]
          refine iteT ⟨_, rfl, _, hD, ?_, fun b o e => ?_, ?_⟩
          · rw [List.length_map]
            refine Nat.lt_of_le_of_lt (List.length_filter_le _ _) ?_
            rw [List.length_take]
            have : [z, "qa", "qb", "qc"].length = 4 := rfl
            exact lt_size (by omega)
          · rw [upd_ne (ne_of_none e nD)]; exact s4 _ _ e
          · rw [upd_same, List.filter_cons_of_pos (by simpa using hw), List.filter_nil, List.map_append]; rfl
      · obtain ⟨s4, hD⟩ := h
        have e4 : ([z, "qa", "qb", "qc"].take ([z, "qa", "qb", "qc"].map V.str).length) = [z, "qa", "qb", "qc"] := rfl
        rw [e4] at hD
        have hne : ([z, "qa", "qb", "qc"].filter fun x => decide (x ∉ ws)) ≠ [] := fun e => by
          have all := List.filter_eq_nil_iff.mp e
          rcases free3 (ws := ws) (by omega) with h | h | h
          · exact all "qa" (by simp) (decide_eq_true h)
          · exact all "qb" (by simp) (decide_eq_true h)
          · exact all "qc" (by simp) (decide_eq_true h)
        cases eq : ([z, "qa", "qb", "qc"].filter fun x => decide (x ∉ ws)) with
        | nil => exact absurd eq hne
        | cons y r =>
          rw [eq] at hD
          have hy : y ∈ ([z, "qa", "qb", "qc"].filter fun x => decide (x ∉ ws)) := by rw [eq]; exact List.mem_cons_self ..
          obtain ⟨hy1, hy2⟩ := List.mem_filter.mp hy
          have hy3 : y ∉ ws := of_decide_eq_true hy2
          have hyok : NmOk y := by
            rcases List.mem_cons.mp hy1 with h | h
            · subst h; exact hz
            · have : (["qa", "qb", "qc"] : List Str).all nmOkB = true := by decide +kernel
              exact .of (List.all_eq_true.mp this y h)
          refine ⟨D, _, 0, .str y, rfl, rfl, .inl (.inl hD), atI_nat (j := 0) rfl, F, _, _, rfl, rfl, s4 _ _ hF2, ?_, ?_⟩
          · rw [List.length_map, hl]; exact lt_size (by omega)
          · have nFH : H F = none := nF
            refine ⟨_, _, ws ++ [y], rfl, (k3.trans (.of_same s4)).put nFH, ((m3'.same s4).put fn.1 fn.2).le (by omega), ?_, by rw [List.length_append, hl]; rfl, ?_, fun x hx => ?_⟩
            · rw [upd_same, List.map_append]; rfl
            · refine List.nodup_append.mpr ⟨hnd, List.nodup_cons.mpr ⟨(fun q => nomatch q), List.nodup_nil⟩, fun a ha b hb => ?_⟩
              rcases List.mem_cons.mp hb with q | q
              · subst q; intro z; subst z; exact hy3 ha
              · cases q
            · rcases List.mem_append.mp hx with h | h
              · exact hok x h
              · rcases List.mem_cons.mp h with h | h
                · subst h; exact hyok
                · cases h
    · obtain ⟨x3, x4, ws, rfl, k1, m1, hF, hl, hnd, hok⟩ := h
      exact ⟨_, rfl, q F ws H' fn.1 fn.2 nF hF (by omega) hnd hok k1 (m1.le (by omega))⟩
end
end K3

set_option Elab.async false
set_option linter.all false
set_option maxRecDepth 100000
set_option maxHeartbeats 4000000
namespace K3
open PySem PySem.Spec PyProof.Rows L2
abbrev sCountBy : Stmt := topS 24
theorem scCountBy : FnScope ["stream", "words", "own", "alone", "name"] ["stream", "words"] (defScope sCountBy) := ⟨rfl, rfl, rfl, by decide +kernel, rfl, by decide +kernel, by decide +kernel⟩
/-! ### counts as data -/
def td (p : Str × Int) : PyData := .tuple [.str p.1, .int p.2]
def dat (c : Cnt) : PyData := .tuple [.int c.1, .tuple (c.2.map td)]
theorem Sm.ne {s c : Addr} {n : Int} {H : Hp} (h : Sm s c n H) {p : Addr} {xs : List V} (e : H p = some (.tup xs)) : p ≠ s ∧ p ≠ c := by
  obtain ⟨_, cells, a, b, d, e1, e2, _⟩ := h
  exact ⟨ne_of e e1 (by intro z; cases z), ne_of e e2 (by intro z; cases z)⟩
theorem allT_dq {s c : Addr} {n : Int} {H : Hp} (S : Sm s c n H) : ∀ {ts : Tms} {vs : List V}, AllT H vs ts → DqL s c H (ts.map td) vs
  | [], vs, h => by
    have := h.1
    exact List.length_eq_zero_iff.mp this
  | p :: r, vs, h => by
    obtain ⟨v, e1, b, rfl, hb⟩ := h.2 0 p rfl
    cases vs with
    | nil => cases e1
    | cons u us =>
      cases e1
      refine ⟨_, _, rfl, ⟨b, _, rfl, (S.ne hb).1, (S.ne hb).2, hb, _, _, rfl, rfl, _, _, rfl, rfl, rfl⟩, allT_dq S ⟨Nat.succ.inj h.1, fun i q hq => h.2 (i + 1) q hq⟩⟩
theorem dq_allT {s c : Addr} {H : Hp} : ∀ {ts : Tms} {vs : List V}, DqL s c H (ts.map td) vs → AllT H vs ts
  | [], vs, h => by
    rw [show vs = [] from h]
    exact ⟨rfl, fun i p e => by cases e⟩
  | p :: r, vs, h => by
    obtain ⟨v, us, rfl, ⟨b, xs, rfl, h1, h2, hb, vx, r1, rfl, hx, vk, r2, rfl, hk, rfl⟩, h3⟩ := h
    have ih := dq_allT h3
    cases (show vx = V.str p.1 from hx)
    cases (show vk = V.int p.2 from hk)
    refine ⟨by rw [List.length_cons, List.length_cons, ih.1], fun i q e => ?_⟩
    cases i with
    | zero => cases e; exact ⟨_, rfl, b, rfl, hb⟩
    | succ i => exact ih.2 i q e
theorem isC_dq {s c : Addr} {n : Int} {H : Hp} {v : V} {cn : Cnt} (S : Sm s c n H) (h : IsC H v cn) : Dq s c H (dat cn) v := by
  obtain ⟨a, t, ts, rfl, ha, ht, hT⟩ := h
  exact ⟨a, _, rfl, (S.ne ha).1, (S.ne ha).2, ha, _, _, rfl, rfl, _, _, rfl, ⟨t, _, rfl, (S.ne ht).1, (S.ne ht).2, ht, allT_dq S hT⟩, rfl⟩
theorem dq_isC {s c : Addr} {H : Hp} {v : V} {cn : Cnt} (h : Dq s c H (dat cn) v) : IsC H v cn := by
  obtain ⟨a, xs, rfl, h1, h2, ha, vx, r1, rfl, hx, vk, r2, rfl, ⟨t, ys, rfl, t1, t2, ht, hT⟩, rfl⟩ := h
  cases (show vx = V.int cn.1 from hx)
  exact ⟨a, t, ys, rfl, ha, ht, dq_allT hT⟩
def risT : Str → List Str → Bool
  | _, [] => true
  | last, x :: r => ltS last x && risT x r
theorem okTs_of {ws : List Str} : ∀ {ts : Tms} {last : Str}, (∀ p ∈ ts, p.1 ∈ ws ∧ 1 ≤ p.2 ∧ p.2 ≤ 3) → risT last (nms ts) = true → okTs ws last (ts.map td) = true
  | [], _, _, _ => rfl
  | p :: r, last, h, k => by
    have k' : (ltS last p.1 && risT p.1 (nms r)) = true := k
    rw [Bool.and_eq_true] at k'
    obtain ⟨h1, h2, h3⟩ := h p (List.mem_cons_self ..)
    show (okT ws (td p) && ltS last (nmT (td p)) && okTs ws (nmT (td p)) (r.map td)) = true
    rw [show okTs ws (nmT (td p)) (r.map td) = true from okTs_of (fun q hq => h q (List.mem_cons_of_mem _ hq)) k'.2, show ltS last (nmT (td p)) = true from k'.1, Bool.and_true, Bool.and_true]
    show (decide (p.1 ∈ ws) && (decide (1 ≤ p.2) && decide (p.2 ≤ 3))) = true
    rw [decide_eq_true h1, decide_eq_true h2, decide_eq_true h3]; rfl
theorem str_ext {x y : Str} (h : x.cps.toList = y.cps.toList) : x = y := by
  cases x; cases y
  simpa using h
theorem lt_of_not {x y : Str} (h : ltCps y.cps.toList x.cps.toList = false) (ne : x ≠ y) : ltS x y = true := by
  rw [ltCps_eq] at h
  have h' : ¬ y.cps.toList < x.cps.toList := of_decide_eq_false h
  refine decide_eq_true ?_
  rcases Std.lt_trichotomy x.cps.toList y.cps.toList with a | a | a
  · exact a
  · exact absurd (str_ext a) ne
  · exact absurd a h'
theorem risT_of : ∀ {ys : List Str} {p : Str}, risingS p ys = true → (p :: ys).Nodup → risT p ys = true
  | [], _, _, _ => rfl
  | y :: r, p, h, nd => by
    have h' : (!ltCps y.cps.toList p.cps.toList && risingS y r) = true := h
    rw [Bool.and_eq_true] at h'
    have nd' := List.nodup_cons.mp nd
    show (ltS p y && risT y r) = true
    rw [risT_of h'.2 nd'.2, lt_of_not (by simpa using h'.1) (fun e => nd'.1 (by rw [e]; exact List.mem_cons_self ..))]; rfl
theorem risT_sorted : ∀ {ys : List Str}, sortedS ys = true → ys.Nodup → (∀ y ∈ ys, y.cps.toList ≠ []) → risT "" ys = true
  | [], _, _, _ => rfl
  | y :: r, h, nd, ne => by
    show (ltS "" y && risT y r) = true
    rw [lt_nil (ne y (List.mem_cons_self ..)), risT_of h nd]; rfl
/-- a good count by these names -/
structure GoodC (ws : List Str) (cn : Cnt) : Prop where
  g : Good cn.2
  a : -20 ≤ cn.1 ∧ cn.1 ≤ 20
  w : ∀ p ∈ cn.2, p.1 ∈ ws
  r : risT "" (nms cn.2) = true
theorem GoodC.is {ws : List Str} {cn : Cnt} (h : GoodC ws cn) : isCnt ws (dat cn) = true := by
  show (inR (.int cn.1) (-20) 20 && decide ((cn.2.map td).length ≤ 3) && okTs ws "" (cn.2.map td)) = true
  rw [okTs_of (fun p hp => ⟨h.w p hp, h.g.lo p hp⟩) h.r, decide_eq_true (by rw [List.length_map]; exact h.g.few), Bool.and_true, Bool.and_true]
  show (decide _ && decide _) = true
  rw [decide_eq_true h.a.1, decide_eq_true h.a.2]; rfl

section
variable {P : Program} {w : World} {K : PySem.W.Frag} {mg : Str → Option Value} {base : Heap}
def spCountBy : Sp := fun vs H Q _ => ∃ (s c p : Addr) (n : Int) (ws : List Str), vs = [.ref s, .ref p] ∧ n + 20 ≤ 900000 ∧ Sm s c n H ∧ p ≠ s ∧ p ≠ c ∧ H p = some (.lst (ws.map V.str)) ∧ ws.length ≤ 3 ∧ ws.Nodup ∧ (∀ z ∈ ws, NmOk z) ∧
  ∀ (v : V) (cn : Cnt) (H' : Hp), IsC H' v cn → GoodC ws cn → Kp s c H H' → Sm s c (n + 20) H' → Q v H'
theorem ok_countBy {f : Addr} {fd : FuncData} (F : Fun K "_law_count_by" "_law_count_by" sCountBy f fd) (T : TxS K mg) (mS : mg "sorted" = none) (mT : mg "tuple" = none) : FnOk P w K mg base CX0 4 f fd ["stream", "words"] spCountBy := by
  have GT : FnOk P w K mg base CX0 2 T.fT T.dT ["stream", "many"] spTake := ok_take T.FT T.FM T.bM T.gM
  have GO : FnOk P w K mg base CX0 3 T.fO T.dO ["stream", "some"] spOf := ok_of T
  refine F.ok scCountBy (fun vs H Q E h => ?_) (fun cdv A outer s0 H vs Q E hr h => ?_)
  · obtain ⟨s, c, p, n, ws, rfl, _⟩ := h
    rfl
  · obtain ⟨s, c, p, n, ws, rfl, hn, hS, p1, p2, hp, hl, hnd, hok, q⟩ := h
    have hr2 := hr.mono (show 2 ≤ 3 by decide)
    refine ⟨_, pss_cons (ps_set (i := 2) scCountBy.nd rfl (.inl rfl) (pe_callB cr_sortedS (by rfl) mS (by decide +kernel) (pa_cons
          (pe_lc (own := [("name", 4)]) (g := gName 4) rfl scCountBy.nd (pi_list (pv 1)) (blkOk_by (N := ["stream", "words", "own", "alone", "name"]) (sc := defScope sCountBy) (by decide +kernel))
            (fun _ _ _ _ _ => pg_name (i := 4) scCountBy.nd rfl (.inl rfl)) (fun _ _ _ _ _ => pts_one (pt_cmpR op_gt (pe_call GT hr2 (by rfl) T.gT T.FT.kp T.bT .nil pass0 (pa_cons (pv 0) (pa_cons pe_int pa_nil))) pe_int (nomark _))) (fun _ _ _ _ _ => pv 4)) pa_nil)))
      (pss_cons (ps_set (i := 3) scCountBy.nd rfl (.inl rfl) (pe_call GO hr (by rfl) T.gO T.FO.kp T.bO .nil pass0 (pa_cons (pv 0) (pa_cons (pe_lst (pa_cons pe_int (pa_cons pe_int (pa_cons (pe_un un_neg pe_int) (pa_cons pe_int (pa_cons (pe_un un_neg pe_int)
          (pa_cons (pe_op op_sub (pe_call GT hr2 (by rfl) T.gT T.FT.kp T.bT .nil pass0 (pa_cons (pv 0) (pa_cons pe_int pa_nil))) pe_int) pa_nil))))))) pa_nil))))
      (pss_one (ps_ret (pe_tup (pa_cons (pv 3) (pa_cons (pe_callTy call_tuple_of (by rfl) mT (by decide +kernel) (pa_cons
          (pe_lc (own := [("name", 4)]) (g := gName 4) (tt := tYes) rfl scCountBy.nd (pi_list (pv 2)) (blkOk_by (N := ["stream", "words", "own", "alone", "name"]) (sc := defScope sCountBy) (by decide +kernel))
            (fun _ _ _ _ _ => pg_name (i := 4) scCountBy.nd rfl (.inl rfl)) (fun _ _ _ _ _ => pts_nil)
            (fun _ _ _ _ _ => pe_tup (pa_cons (pv 4) (pa_cons (pe_op op_add pe_int (pe_call GT hr2 (by rfl) T.gT T.FT.kp T.bT .nil pass0 (pa_cons (pv 0) (pa_cons pe_int pa_nil)))) pa_nil)))) pa_nil)) pa_nil)))))), ?_⟩
    refine ⟨_, rfl, p, rfl, ⟨_, .inl (.inl hp)⟩, fun D nD => ?_⟩
    have dn := hS.ns nD
    refine lc_list (K := K) (a := p) (xs := ws.map V.str) (fun i H' => Kp s c H H' ∧ Sm s c (n + (i : Nat)) H' ∧ ∃ zs : List Str, H' D = some (.lst (zs.map V.str)) ∧ zs.Sublist (ws.take i)) ⟨Kp.new nD, (hS.kp1 nD _).le (by omega), [], upd_same, List.Sublist.slnil⟩
      (fun i H' hi h => .inl (.inl (h.1 _ _ p1 p2 hp))) (fun i x H' hx h => ?_) (fun H' h => ?_)
    · obtain ⟨k1, m1, zs, hD, sub⟩ := h
      obtain ⟨y, hy, rfl⟩ : ∃ y, ws[i]? = some y ∧ x = .str y := by
        rw [List.getElem?_map] at hx
        cases e : ws[i]? with
        | none => rw [e] at hx; cases hx
        | some y => rw [e] at hx; cases hx; exact ⟨y, rfl, rfl⟩
      have hi : i < ws.length := (List.getElem?_eq_some_iff.mp hy).1
      refine ⟨rfl, ?_⟩
      refine ⟨_, rfl, s, c, 3, _, rfl, by decide, by decide, by omega, m1, fun r H1 r0 r1 k2 m2 => ?_⟩
      refine ⟨_, _, rfl, rfl, _, rfl, ?_⟩
      rw [take_snoc hy]
      refine ite2 (fun hx => ?_) (fun hx => ?_)
      · refine ⟨_, rfl, _, k2 _ _ dn.1 dn.2 hD, ?_, ?_⟩
        · rw [List.length_map]
          have := sub.length_le
          rw [List.length_take] at this
          exact lt_size (by omega)
        · refine ⟨(k1.trans k2).put nD, (m2.put dn.1 dn.2).le (by omega), zs ++ [y], ?_, ?_⟩
          · rw [upd_same, List.map_append]; rfl
          · exact sub.append (List.Sublist.refl _)
      · refine ⟨k1.trans k2, m2.le (by omega), zs, k2 _ _ dn.1 dn.2 hD, ?_⟩
        exact sub.trans (List.sublist_append_left _ _)
    · obtain ⟨k1, m1, zs, hD, sub⟩ := h
      rw [List.take_of_length_le (by rw [List.length_map]; exact Nat.le_refl _)] at sub
      rw [List.length_map] at m1
      have zl := sub.length_le
      refine ⟨D, zs, rfl, .inl (.inl hD), by omega, fun ys p3 pm srt np3 => ?_⟩
      have k2 := k1.trans (Kp.new (o := .lst (ys.map V.str)) np3)
      have m2 := m1.kp1 np3 (.lst (ys.map V.str))
      have pn3 := m1.ns np3
      have hp3 : (upd H' p3 (.lst (ys.map V.str))) p3 = some (.lst (ys.map V.str)) := upd_same
      revert k2 m2 hp3
      generalize upd H' p3 (.lst (ys.map V.str)) = H2
      intro k2 m2 hp3
      have ynd : ys.Nodup := pm.nodup_iff.mpr (sub.nodup hnd)
      have yin : ∀ y ∈ ys, y ∈ ws := fun y hy => sub.subset (pm.subset hy)
      have yl : ys.length ≤ 3 := by rw [pm.length_eq]; omega
      refine ⟨_, rfl, _, rfl, _, rfl, _, rfl, s, c, 41, _, rfl, by decide, by decide, by omega, m2, fun r H3 r0 r1 k3 m3 => ?_⟩
      refine ⟨_, _, rfl, rfl, by show 6 ≤ sizeLine; exact le_size (by decide), fun L nL => ?_⟩
      have hp4 := (Kp.new (s := s) (c := c) (o := .lst [.int 0, .int 1, .int (-1), .int 20, .int (-20), .int (r - 20)]) nL) _ _ pn3.1 pn3.2 (k3 _ _ pn3.1 pn3.2 hp3)
      have k4 := k2.trans (k3.trans (Kp.new (o := .lst [.int 0, .int 1, .int (-1), .int 20, .int (-20), .int (r - 20)]) nL))
      have m4 := m3.kp1 nL (.lst [.int 0, .int 1, .int (-1), .int 20, .int (-20), .int (r - 20)])
      have ln := m3.ns nL
      refine ⟨s, c, L, _, _, rfl, by omega, m4, ln.1, ln.2, upd_same, List.cons_ne_nil _ _, (by show 6 ≤ 1000; decide), fun y H5 hy k5 m5 => ?_⟩
      obtain ⟨a, rfl, a0, a1⟩ : ∃ a : Int, y = .int a ∧ -20 ≤ a ∧ a ≤ 20 := by
        simp only [List.mem_cons, List.not_mem_nil, or_false] at hy
        rcases hy with h | h | h | h | h | h <;> subst h
        · exact ⟨_, rfl, by decide, by decide⟩
        · exact ⟨_, rfl, by decide, by decide⟩
        · exact ⟨_, rfl, by decide, by decide⟩
        · exact ⟨_, rfl, by decide, by decide⟩
        · exact ⟨_, rfl, by decide, by decide⟩
        · exact ⟨_, rfl, by omega, by omega⟩
      have hp5 := k5 _ _ pn3.1 pn3.2 hp4
      have k6 := k4.trans k5
      refine ⟨_, rfl, _, rfl, p3, rfl, ⟨_, .inl (.inl hp5)⟩, fun D2 nD2 => ?_⟩
      have d2n := m5.ns nD2
      have nD2H : H D2 = none := k6.free d2n.1 d2n.2 nD2
      refine lc_list (K := K) (a := p3) (xs := ys.map V.str) (fun i H' => Kp s c H5 H' ∧ Sm s c (n + 10 + (i : Nat)) H' ∧ ∃ (vs : List V) (ts : Tms), H' D2 = some (.lst vs) ∧ AllT H' vs ts ∧ nms ts = ys.take i ∧ ∀ p ∈ ts, 1 ≤ p.2 ∧ p.2 ≤ 3)
        ⟨Kp.new nD2, (m5.kp1 nD2 _).le (by omega), [], [], upd_same, ⟨rfl, fun i p e => by cases e⟩, rfl, fun p h => by cases h⟩ (fun i H' hi h => .inl (.inl (h.1 _ _ pn3.1 pn3.2 hp5))) (fun i x H' hx h => ?_) (fun H' h => ?_)
      · obtain ⟨k7, m7, vs, ts, hD2, hT, hN, hLo⟩ := h
        obtain ⟨y, hy, rfl⟩ : ∃ y, ys[i]? = some y ∧ x = .str y := by
          rw [List.getElem?_map] at hx
          cases e : ys[i]? with
          | none => rw [e] at hx; cases hx
          | some y => rw [e] at hx; cases hx; exact ⟨y, rfl, rfl⟩
        have hi : i < ys.length := (List.getElem?_eq_some_iff.mp hy).1
        refine ⟨rfl, ?_⟩
        refine ⟨_, rfl, _, rfl, s, c, 3, _, rfl, by decide, by decide, by omega, m7, fun r H8 r0 r1 k8 m8 => ?_⟩
        refine ⟨_, _, rfl, rfl, by show 2 ≤ sizeLine; exact le_size (by decide), fun u nu => ?_⟩
        have un := m8.ns nu
        have hD3 := k8 _ _ d2n.1 d2n.2 hD2
        have du : D2 ≠ u := ne_of_none hD3 nu
        have len : vs.length = i := by
          rw [hT.1]
          have : (nms ts).length = (ys.take i).length := by rw [hN]
          rw [nms, List.length_map, List.length_take] at this
          omega
        refine ⟨_, by rw [upd_ne du]; exact hD3, by rw [len]; exact lt_size (by omega), ?_, ?_, _, ts ++ [(y, 1 + r)], upd_same, ?_, ?_, fun p hp => ?_⟩
        · refine Kp.put ((k7.trans k8).trans (Kp.new nu)) nD2
        · exact ((m8.kp1 nu _).put d2n.1 d2n.2).le (by omega)
        · have kt : Kt H' (upd (upd H8 u (.tup [.str y, .int (1 + r)])) D2 (.lst (vs ++ [V.ref u]))) := ((Kt.of_kp m7 k8).trans (.of_same (same_upd nu))).trans (Kt.upd fun xs e => by
            rw [upd_ne du, hD3] at e; cases e)
          have hu : (upd (upd H8 u (.tup [.str y, .int (1 + r)])) D2 (.lst (vs ++ [V.ref u]))) u = some (.tup [.str y, .int (1 + r)]) := by rw [upd_ne (fun e => du e.symm), upd_same]
          have hT2 := hT.kt kt
          refine ⟨by rw [List.length_append, List.length_append, hT.1]; rfl, fun j p e => ?_⟩
          by_cases hj : j < ts.length
          · rw [List.getElem?_append_left hj] at e
            obtain ⟨v, e1, e2⟩ := hT2.2 j p e
            exact ⟨v, by rw [List.getElem?_append_left (by rw [hT.1]; exact hj)]; exact e1, e2⟩
          · rw [List.getElem?_append_right (by omega)] at e
            rw [List.getElem?_append_right (by rw [hT.1]; omega), hT.1]
            generalize j - ts.length = m at e
            cases m with
            | zero => cases e; exact ⟨_, rfl, u, rfl, hu⟩
            | succ m => cases e
        · rw [nms, List.map_append, take_snoc hy]
          show nms ts ++ [y] = _
          rw [hN]
        · rcases List.mem_append.mp hp with h | h
          · exact hLo p h
          · rcases List.mem_cons.mp h with h | h
            · subst h; exact ⟨by show 1 ≤ 1 + r; omega, by show 1 + r ≤ 3; omega⟩
            · cases h
      · obtain ⟨k7, m7, vs, ts, hD2, hT, hN, hLo⟩ := h
        rw [List.take_of_length_le (by rw [List.length_map]; exact Nat.le_refl _)] at hN
        rw [List.length_map] at m7
        refine ⟨D2, vs, rfl, .inl ⟨.inl (.inl hD2), fun t nt => ?_⟩⟩
        refine ⟨by show 2 ≤ sizeLine; exact le_size (by decide), fun a2 na2 => ?_⟩
        have m8 := m7.kp1 nt (.tup vs)
        have sT : Same H' (upd H' t (.tup vs)) := same_upd nt
        have sA : Same (upd H' t (.tup vs)) (upd (upd H' t (.tup vs)) a2 (.tup [.int a, .ref t])) := same_upd na2
        refine q _ (a, ts) _ ⟨a2, t, vs, rfl, upd_same, sA _ _ upd_same, hT.kt ((Kt.of_same sT).trans (.of_same sA))⟩ ⟨⟨by rw [hN]; exact ynd, hLo, ?_⟩, ⟨a0, a1⟩, fun p hp => ?_, ?_⟩ (k6.trans (k7.trans ((Kp.of_same sT).trans (.of_same sA)))) (((m8.same sA).le (by omega)))
        · have : (nms ts).length = ys.length := by rw [hN]
          rw [nms, List.length_map] at this
          show ts.length ≤ 3
          omega
        · refine yin _ ?_
          rw [← hN]
          exact List.mem_map_of_mem hp
        · rw [hN]
          exact risT_sorted srt ynd fun y hy => (hok y (yin y hy)).1
end
end K3

set_option Elab.async false
set_option linter.all false
set_option maxRecDepth 100000
set_option maxHeartbeats 400000
namespace K3
open PySem PySem.Spec PyProof.Rows L2
/-! ### what an expression of parts builds -/
def Bld (t : TE) (d : PyData) : Prop := ∀ (s c : Addr) (n : Int) (σ : L2.St) (H : Hp) (Q : VK), Sm s c n H → (∀ (v : V) (H' : Hp), Dq s c H' d v → Same H H' → Q v H') → t σ H Q
def BldA (t : TA) (ds : List PyData) : Prop := ∀ (s c : Addr) (n : Int) (σ : L2.St) (H : Hp) (Q : List V → Hp → Prop), Sm s c n H → (∀ (vs : List V) (H' : Hp), DqL s c H' ds vs → Same H H' → Q vs H') → t σ H Q
theorem bld_int {i : Int} : Bld (tC (.int i)) (.int i) := fun s c n σ H Q _ q => q _ H rfl (Same.refl H)
theorem bld_str {i : Str} : Bld (tC (.str i)) (.str i) := fun s c n σ H Q _ q => q _ H rfl (Same.refl H)
theorem bld_bl {i : Bool} : Bld (tC (.bl i)) (.bool i) := fun s c n σ H Q _ q => q _ H rfl (Same.refl H)
theorem bld_non : Bld (tC .non) .none := fun s c n σ H Q _ q => q _ H rfl (Same.refl H)
theorem bld_neg {i : Int} : Bld (tUn (rU fun i => .int (-i)) (tC (.int i))) (.int (-i)) := fun s c n σ H Q _ q => ⟨_, rfl, q _ H rfl (Same.refl H)⟩
theorem blda_nil : BldA tNil [] := fun s c n σ H Q _ q => q [] H rfl (Same.refl H)
theorem blda_cons {t : TE} {ta : TA} {d : PyData} {ds : List PyData} (h : Bld t d) (hr : BldA ta ds) : BldA (tCons t ta) (d :: ds) := fun s c n σ H Q S q =>
  h s c n σ H _ S fun v H1 dv s1 => hr s c n σ H1 _ (S.same s1) fun vs H2 dvs s2 => q _ H2 ⟨v, vs, rfl, dv.kp (Kp.of_same s2), dvs⟩ (s1.trans s2)
theorem bld_tup {ta : TA} {ds : List PyData} (h : BldA ta ds) (hl : ds.length ≤ 100) : Bld (tTup ta) (.tuple ds) := fun s c n σ H Q S q =>
  h s c n σ H _ S fun vs H1 dvs s1 => ⟨by rw [dvs.len]; exact le_size (by omega), fun p np => by
    have pn := (S.same s1).ns np
    exact q _ _ ⟨p, vs, rfl, pn.1, pn.2, upd_same, dvs.kp (Kp.new np)⟩ (s1.trans (same_upd np))⟩
theorem bld_lst {ta : TA} {ds : List PyData} (h : BldA ta ds) (hl : ds.length ≤ 100) : Bld (tLst ta) (.list ds) := fun s c n σ H Q S q =>
  h s c n σ H _ S fun vs H1 dvs s1 => ⟨by rw [dvs.len]; exact le_size (by omega), fun p np => by
    have pn := (S.same s1).ns np
    exact q _ _ ⟨p, vs, rfl, pn.1, pn.2, upd_same, dvs.kp (Kp.new np)⟩ (s1.trans (same_upd np))⟩
theorem bld_dict : Bld tDNewK (.dict []) := fun s c n σ H Q S q => fun p np => by
  have pn := S.ns np
  exact q _ _ ⟨rfl, p, rfl, pn.1, pn.2, upd_same⟩ (same_upd np)
theorem DqL.mem {s c : Addr} {H : Hp} {ds : List PyData} {vs : List V} {v : V} (h : DqL s c H ds vs) (e : v ∈ vs) : ∃ d, d ∈ ds ∧ Dq s c H d v := by
  obtain ⟨i, hi, rfl⟩ := List.getElem_of_mem e
  obtain ⟨d, e1, e2⟩ := h.get (List.getElem?_eq_getElem hi)
  exact ⟨d, List.mem_of_getElem? e1, e2⟩
/-- at most so deep, at most L at each place -/
def fit (L : Nat) : Nat → PyData → Bool
  | 0, .tuple _ => false
  | k + 1, .tuple ds => decide (ds.length ≤ L) && ds.all (fit L k)
  | _, _ => true
def tBd (d : PyData) : TE := fun σ H Q => ∃ (s c : Addr) (n : Int), Sm s c n H ∧ ∀ (v : V) (H' : Hp), Dq s c H' d v → Same H H' → Q v H'
theorem pe_bld {X : Cx} {e : Expr} {t : TE} {d : PyData} (h : PE X e t) (b : Bld t d) : PE X e (tBd d) := ⟨fun pins s σ H Q I q => by
  obtain ⟨s', c, n, S, q⟩ := q
  exact h.run pins s σ H Q I (b s' c n σ H Q S q)⟩
def oddD1 : List PyData := [.none, .bool true, .bool false, .int 0, .int 1, .int 3, .int 4, .int (-1), .int 20, .int 21, .int (-20), .int (-21), .int (10 ^ 30), .str "", .str "a", .str "A", .str "nosuch", .str "abcdefghi", .tuple [], .list []]
def oddD2 : List PyData := [.dict [], .tuple [.str "a"], .tuple [.str "a", .int 1], .tuple [.str "a", .int 0], .tuple [.str "a", .int 4], .list [.str "a", .int 1], .tuple [.str "a", .int 1, .int 1], .tuple [.tuple [.str "a", .int 1]], .tuple [.tuple []]]
theorem odd_not (ns : List Str) : ∀ d ∈ oddD1 ++ oddD2, isCnt ns d = false := by
  intro d h
  simp only [oddD1, oddD2, List.cons_append, List.nil_append, List.mem_cons, List.not_mem_nil, or_false] at h
  rcases h with h | h | h | h | h | h | h | h | h | h | h | h | h | h | h | h | h | h | h | h | h | h | h | h | h | h | h | h | h <;> subst h <;> rfl
theorem odd_fit : ∀ d ∈ oddD1 ++ oddD2, fit 3 2 d = true := by
  intro d h
  simp only [oddD1, oddD2, List.cons_append, List.nil_append, List.mem_cons, List.not_mem_nil, or_false] at h
  rcases h with h | h | h | h | h | h | h | h | h | h | h | h | h | h | h | h | h | h | h | h | h | h | h | h | h | h | h | h | h <;> subst h <;> rfl
mutual
def noL : PyData → Bool
  | .list ds => decide (ds.length ≤ 2) && noLs ds
  | .tuple ds => noLs ds
  | .none => true
  | .bool _ => true
  | .int _ => true
  | .str _ => true
  | .dict _ => true
def noLs : List PyData → Bool
  | [] => true
  | d :: ds => noL d && noLs ds
end
theorem odd_noL : ∀ d ∈ oddD1 ++ oddD2, noL d = true := by
  intro d h
  simp only [oddD1, oddD2, List.cons_append, List.nil_append, List.mem_cons, List.not_mem_nil, or_false] at h
  rcases h with h | h | h | h | h | h | h | h | h | h | h | h | h | h | h | h | h | h | h | h | h | h | h | h | h | h | h | h | h <;> subst h <;> rfl
/-- all but the objects at s, c, x is as it was -/
def K3p (s c x : Addr) (H H' : Hp) : Prop := ∀ b o, b ≠ s → b ≠ c → b ≠ x → H b = some o → H' b = some o
theorem K3p.of_kp {s c x : Addr} {H H' : Hp} (k : Kp s c H H') : K3p s c x H H' := fun b o h1 h2 _ h => k b o h1 h2 h
theorem K3p.at {s c x : Addr} {H : Hp} {o : HO} : K3p s c x H (upd H x o) := fun b _ _ _ h3 h => by rw [upd_ne h3]; exact h
mutual
theorem Dq.kp3 {s c x : Addr} {H H' : Hp} (k : K3p s c x H H') : ∀ {d : PyData} {v : V}, Dq s c H d v → Dq x x H d v → Dq s c H' d v ∧ Dq x x H' d v
  | .none, _, h, g => ⟨h, g⟩
  | .bool _, _, h, g => ⟨h, g⟩
  | .int _, _, h, g => ⟨h, g⟩
  | .str _, _, h, g => ⟨h, g⟩
  | .list _, _, h, g => by
    obtain ⟨a, xs, rfl, h1, h2, h3, h4⟩ := h
    obtain ⟨a', xs', e, g1, _, g3, g4⟩ := g
    cases e
    rw [h3] at g3
    cases g3
    have z := DqL.kp3 k h4 g4
    exact ⟨⟨a, xs, rfl, h1, h2, k _ _ h1 h2 g1 h3, z.1⟩, ⟨a, xs, rfl, g1, g1, k _ _ h1 h2 g1 h3, z.2⟩⟩
  | .tuple _, _, h, g => by
    obtain ⟨a, xs, rfl, h1, h2, h3, h4⟩ := h
    obtain ⟨a', xs', e, g1, _, g3, g4⟩ := g
    cases e
    rw [h3] at g3
    cases g3
    have z := DqL.kp3 k h4 g4
    exact ⟨⟨a, xs, rfl, h1, h2, k _ _ h1 h2 g1 h3, z.1⟩, ⟨a, xs, rfl, g1, g1, k _ _ h1 h2 g1 h3, z.2⟩⟩
  | .dict _, _, h, g => by
    obtain ⟨e0, a, rfl, h1, h2, h3⟩ := h
    obtain ⟨_, a', e, g1, _, g3⟩ := g
    cases e
    exact ⟨⟨e0, a, rfl, h1, h2, k _ _ h1 h2 g1 h3⟩, ⟨e0, a, rfl, g1, g1, k _ _ h1 h2 g1 h3⟩⟩
theorem DqL.kp3 {s c x : Addr} {H H' : Hp} (k : K3p s c x H H') : ∀ {ds : List PyData} {vs : List V}, DqL s c H ds vs → DqL x x H ds vs → DqL s c H' ds vs ∧ DqL x x H' ds vs
  | [], _, h, g => ⟨h, g⟩
  | _ :: _, _, h, g => by
    obtain ⟨v, r, rfl, h1, h2⟩ := h
    obtain ⟨v', r', e, g1, g2⟩ := g
    cases e
    have z1 := Dq.kp3 k h1 g1
    have z2 := DqL.kp3 k h2 g2
    exact ⟨⟨v, r, rfl, z1.1, z2.1⟩, ⟨v, r, rfl, z1.2, z2.2⟩⟩
end
mutual
theorem dq_free {s c x : Addr} {H : Hp} (n : H x = none) : ∀ {d : PyData} {v : V}, Dq s c H d v → Dq x x H d v
  | .none, _, h => h
  | .bool _, _, h => h
  | .int _, _, h => h
  | .str _, _, h => h
  | .list _, _, h => by
    obtain ⟨a, xs, e, h1, h2, h3, h4⟩ := h
    exact ⟨a, xs, e, ne_of_none h3 n, ne_of_none h3 n, h3, dqL_free n h4⟩
  | .tuple _, _, h => by
    obtain ⟨a, xs, e, h1, h2, h3, h4⟩ := h
    exact ⟨a, xs, e, ne_of_none h3 n, ne_of_none h3 n, h3, dqL_free n h4⟩
  | .dict _, _, h => by
    obtain ⟨e0, a, e, h1, h2, h3⟩ := h
    exact ⟨e0, a, e, ne_of_none h3 n, ne_of_none h3 n, h3⟩
theorem dqL_free {s c x : Addr} {H : Hp} (n : H x = none) : ∀ {ds : List PyData} {vs : List V}, DqL s c H ds vs → DqL x x H ds vs
  | [], _, h => h
  | _ :: _, _, h => by
    obtain ⟨v, r, e, h1, h2⟩ := h
    exact ⟨v, r, e, dq_free n h1, dqL_free n h2⟩
end
mutual
theorem dq_noL {s c x : Addr} {H : Hp} {ys : List V} (n : H x = some (.lst ys)) (l : 3 ≤ ys.length) : ∀ {d : PyData} {v : V}, noL d = true → Dq s c H d v → Dq x x H d v
  | .none, _, _, h => h
  | .bool _, _, _, h => h
  | .int _, _, _, h => h
  | .str _, _, _, h => h
  | .list ds, _, k, h => by
    obtain ⟨a, xs, e, h1, h2, h3, h4⟩ := h
    have k' : (decide (ds.length ≤ 2) && noLs ds) = true := by simpa only [noL] using k
    rw [Bool.and_eq_true] at k'
    have ax : a ≠ x := fun e => by
      subst e
      rw [h3] at n
      cases n
      have := of_decide_eq_true k'.1
      have := h4.len
      omega
    exact ⟨a, xs, e, ax, ax, h3, dqL_noL n l k'.2 h4⟩
  | .tuple ds, _, k, h => by
    obtain ⟨a, xs, e, h1, h2, h3, h4⟩ := h
    have k' : noLs ds = true := by simpa only [noL] using k
    have ax : a ≠ x := ne_of h3 n (by intro z; cases z)
    exact ⟨a, xs, e, ax, ax, h3, dqL_noL n l k' h4⟩
  | .dict _, _, _, h => by
    obtain ⟨e0, a, e, h1, h2, h3⟩ := h
    have ax : a ≠ x := ne_of h3 n (by intro z; cases z)
    exact ⟨e0, a, e, ax, ax, h3⟩
theorem dqL_noL {s c x : Addr} {H : Hp} {ys : List V} (n : H x = some (.lst ys)) (l : 3 ≤ ys.length) : ∀ {ds : List PyData} {vs : List V}, noLs ds = true → DqL s c H ds vs → DqL x x H ds vs
  | [], _, _, h => h
  | d :: ds, _, k, h => by
    obtain ⟨v, r, e, h1, h2⟩ := h
    have k' : (noL d && noLs ds) = true := by simpa only [noLs] using k
    rw [Bool.and_eq_true] at k'
    exact ⟨v, r, e, dq_noL n l k'.1 h1, dqL_noL n l k'.2 h2⟩
end
abbrev sOddBy : Stmt := topS 25
theorem scOddBy : FnScope ["stream", "some"] ["stream"] (defScope sOddBy) := ⟨rfl, rfl, rfl, by decide +kernel, rfl, by decide +kernel, by decide +kernel⟩
section
variable {P : Program} {w : World} {K : PySem.W.Frag} {mg : Str → Option Value} {base : Heap}
theorem bld_pow : Bld (tOp (rI CPow fun i j => .int (i ^ j.toNat)) (tC (.int 10)) (tC (.int 30))) (.int (10 ^ 30)) := fun s c n σ H Q _ q =>
  ⟨_, _, rfl, rfl, ⟨by decide, by decide, by decide⟩, q _ H rfl (Same.refl H)⟩
def spOdd : Sp := fun vs H Q _ => ∃ (s c : Addr) (n : Int), vs = [.ref s] ∧ n + 1 ≤ 900000 ∧ Sm s c n H ∧ ∀ (v : V) (d : PyData) (H' : Hp), Dq s c H' d v → d ∈ oddD1 ++ oddD2 → Kp s c H H' → Sm s c (n + 1) H' → Q v H'
theorem ok_odd {f : Addr} {fd : FuncData} (F : Fun K "_law_odd_by" "_law_odd_by" sOddBy f fd) (T : TxS K mg) : FnOk P w K mg base CX0 4 f fd ["stream"] spOdd := by
  have GO : FnOk P w K mg base CX0 3 T.fO T.dO ["stream", "some"] spOf := ok_of T
  refine F.ok scOddBy (fun vs H Q E h => ?_) (fun cdv A outer s0 H vs Q E hr h => ?_)
  · obtain ⟨s, c, n, rfl, _⟩ := h
    rfl
  · obtain ⟨s, c, n, rfl, hn, hS, q⟩ := h
    refine ⟨_, (pss_cons (ps_set (i := 1) scOddBy.nd rfl (.inl rfl) (pe_bld (d := .list oddD1) (pe_lst (pa_cons pe_non (pa_cons pe_bl (pa_cons pe_bl (pa_cons pe_int (pa_cons pe_int (pa_cons pe_int (pa_cons pe_int (pa_cons (pe_un un_neg pe_int) (pa_cons pe_int (pa_cons pe_int (pa_cons (pe_un un_neg pe_int) (pa_cons (pe_un un_neg pe_int) (pa_cons (pe_op op_pow pe_int pe_int) (pa_cons pe_str (pa_cons pe_str (pa_cons pe_str (pa_cons pe_str (pa_cons pe_str (pa_cons (pe_tup pa_nil) (pa_cons (pe_lst pa_nil) pa_nil))))))))))))))))))))) (bld_lst (blda_cons bld_non (blda_cons bld_bl (blda_cons bld_bl (blda_cons bld_int (blda_cons bld_int (blda_cons bld_int (blda_cons bld_int (blda_cons bld_neg (blda_cons bld_int (blda_cons bld_int (blda_cons bld_neg (blda_cons bld_neg (blda_cons bld_pow (blda_cons bld_str (blda_cons bld_str (blda_cons bld_str (blda_cons bld_str (blda_cons bld_str (blda_cons (bld_tup blda_nil (by decide)) (blda_cons (bld_lst blda_nil (by decide)) blda_nil)))))))))))))))))))) (by decide))))
      (pss_one (ps_ret (pe_call GO hr (by rfl) T.gO T.FO.kp T.bO .nil pass0 (pa_cons (pv 0) (pa_cons (pe_op op_cat (pv 1) (pe_bld (d := .list oddD2) (pe_lst (pa_cons pe_dnewK (pa_cons (pe_tup (pa_cons pe_str pa_nil)) (pa_cons (pe_tup (pa_cons pe_str (pa_cons pe_int pa_nil))) (pa_cons (pe_tup (pa_cons pe_str (pa_cons pe_int pa_nil))) (pa_cons (pe_tup (pa_cons pe_str (pa_cons pe_int pa_nil))) (pa_cons (pe_lst (pa_cons pe_str (pa_cons pe_int pa_nil))) (pa_cons (pe_tup (pa_cons pe_str (pa_cons pe_int (pa_cons pe_int pa_nil)))) (pa_cons (pe_tup (pa_cons (pe_tup (pa_cons pe_str (pa_cons pe_int pa_nil))) pa_nil)) (pa_cons (pe_tup (pa_cons (pe_tup pa_nil) pa_nil)) pa_nil)))))))))) (bld_lst (blda_cons bld_dict (blda_cons (bld_tup (blda_cons bld_str blda_nil) (by decide)) (blda_cons (bld_tup (blda_cons bld_str (blda_cons bld_int blda_nil)) (by decide)) (blda_cons (bld_tup (blda_cons bld_str (blda_cons bld_int blda_nil)) (by decide)) (blda_cons (bld_tup (blda_cons bld_str (blda_cons bld_int blda_nil)) (by decide))
      (blda_cons (bld_lst (blda_cons bld_str (blda_cons bld_int blda_nil)) (by decide)) (blda_cons (bld_tup (blda_cons bld_str (blda_cons bld_int (blda_cons bld_int blda_nil))) (by decide)) (blda_cons (bld_tup (blda_cons (bld_tup (blda_cons bld_str (blda_cons bld_int blda_nil)) (by decide)) blda_nil) (by decide)) (blda_cons (bld_tup (blda_cons (bld_tup blda_nil (by decide)) blda_nil) (by decide)) blda_nil))))))))) (by decide)))) pa_nil)))))), ?_⟩
    refine ⟨s, c, n, hS, fun v1 H1 dv1 s1 => ?_⟩
    obtain ⟨a1, xs1, rfl, n1, n1', h1, L1⟩ := dv1
    refine ⟨_, rfl, _, rfl, ?_⟩
    refine ⟨s, c, n, hS.same s1, fun v2 H2 dv2 s2 => ?_⟩
    obtain ⟨a2, xs2, rfl, n2, n2', h2, L2⟩ := dv2
    have l1 : xs1.length = 20 := L1.len
    have l2 : xs2.length = 9 := L2.len
    refine ⟨a1, a2, xs1, xs2, rfl, rfl, s2 _ _ h1, h2, le_size (by omega), fun p np => ?_⟩
    have S2 := (hS.same s1).same s2
    have pn := S2.ns np
    refine ⟨s, c, p, n, xs1 ++ xs2, rfl, by omega, S2.kp1 np _, pn.1, pn.2, upd_same, ?_, by rw [List.length_append]; omega, fun y H3 hy k3 m3 => ?_⟩
    · intro e
      have : (xs1 ++ xs2).length = 0 := by rw [e]; rfl
      rw [List.length_append] at this
      omega
    · have LL := DqL.kp ((Kp.new (o := .lst (xs1 ++ xs2)) np).trans k3) (DqL.app (L1.kp (Kp.of_same s2)) L2)
      obtain ⟨d, hd, dy⟩ := LL.mem hy
      exact q y d H3 dy hd ((Kp.of_same (s1.trans s2)).trans ((Kp.new np).trans k3)) m3
end
end K3

set_option Elab.async false
set_option linter.all false
set_option maxRecDepth 100000
set_option maxHeartbeats 4000000
/-! t[::-1] of a tuple, t * k of any tuple, t != (). -/
namespace KT
open PySem PySem.Spec PyProof.Rows L2 HT
section
variable {prog : Program} {w : World} {A : Around} {E : Value → Shared → Prop} {s : Shared}
theorem adjust_rev (n : Nat) : Builtin.Slice.sliceAdjust none none (-1) (n : Int) = ((n : Int) - 1, -1) := by
  unfold Builtin.Slice.sliceAdjust
  have h1 : ((-1 : Int) < 0) := by omega
  simp only [h1, if_true]
theorem places_rev (n : Nat) : Builtin.Slice.slicePlaces ((n : Int) - 1) (-1) (-1) = n := by
  unfold Builtin.Slice.slicePlaces
  have h1 : ¬ ((-1 : Int) > 0) := by omega
  simp only [h1, if_false]
  rw [show (- -1 : Int) = 1 by decide, Int.ediv_one]
  split <;> omega
theorem fm_congr {α β : Type} {f g : α → Option β} : ∀ {l : List α}, (∀ x ∈ l, f x = g x) → l.filterMap f = l.filterMap g
  | [], _ => rfl
  | x :: r, h => by
    rw [List.filterMap_cons, List.filterMap_cons, h x (List.mem_cons_self ..), fm_congr fun y hy => h y (List.mem_cons_of_mem _ hy)]
theorem pick_rev (xs : Array Value) : ((List.range xs.size).filterMap fun (k : Nat) => xs[(((xs.size : Nat) : Int) - 1 + (k : Int) * (-1)).toNat]?).toArray = xs.toList.reverse.toArray := by
  have e : ((List.range xs.size).filterMap fun (k : Nat) => xs[(((xs.size : Nat) : Int) - 1 + (k : Int) * (-1)).toNat]?) = ((List.range xs.size).map fun k => xs.size - 1 - k).filterMap (xs[·]?) := by
    rw [List.filterMap_map]
    refine fm_congr fun k hk => ?_
    have := List.mem_range.mp hk
    have e1 : (((xs.size : Nat) : Int) - 1 + (k : Int) * (-1)).toNat = xs.size - 1 - k := by omega
    rw [e1]
    rfl
  rw [e, PySem.W.krv_range, List.filterMap_reverse, PySem.W.krv_all]
theorem sliceApplied_rev {sl : Addr} {vl vu vs : Value} {n : Nat} {Q : Int × Int × Nat → Shared → Prop} (hs : s.heap.IsSliceOf sl vl vu vs) (pl : IsPart vl none) (pu : IsPart vu none) (ps : IsPart vs (some (-1)))
    (h : Q ((n : Int) - 1, -1, n) s) : wpAny (model prog w) A (Builtin.Slice.sliceApplied (.ref sl) (pure (n : Int))) Q E s := by
  obtain ⟨os, hos, hcs, hds⟩ := id hs
  unfold Builtin.Slice.sliceApplied Builtin.Slice.sliceFields
  refine wpAny_bind (wpAny_bind (wpAny_field hos hds (x := vl) rfl (wpAny_bind (wpAny_field hos hds (x := vu) rfl (wpAny_bind (wpAny_field hos hds (x := vs) rfl (wpAny_pure ?_)))))))
  refine wpAny_bind (slicePart_ ps ?_)
  show wpAny _ _ (if ((-1 : Int) == 0) = true then _ else _) _ _ s
  rw [if_neg (by decide)]
  refine wpAny_bind (slicePart_ pl (wpAny_bind (slicePart_ pu (wpAny_bind (wpAny_pure ?_)))))
  show wpAny _ _ (match Builtin.Slice.sliceAdjust none none (-1) (n : Int) with | (lo, hi) => pure (lo, (-1 : Int), Builtin.Slice.slicePlaces lo hi (-1))) _ _ s
  rw [adjust_rev n]
  show wpAny _ _ (pure ((n : Int) - 1, (-1 : Int), Builtin.Slice.slicePlaces ((n : Int) - 1) (-1) (-1))) _ _ s
  rw [places_rev]
  exact wpAny_pure h
theorem getItem_tuple_rev {t sl : Addr} {items : Array Value} {vl vu vs : Value} {Q : Value → Shared → Prop} (ht : IsTup s.heap t items) (hs : s.heap.IsSliceOf sl vl vu vs) (pl : IsPart vl none) (pu : IsPart vu none) (ps : IsPart vs (some (-1)))
    (h : Q (.ref s.heap.objs.size) { s with heap := s.heap.push { cls := .type "tuple", data := .seq items.toList.reverse.toArray } }) (hsz : items.size ≤ sizeLine) : wpAny (model prog w) A (getItem (.ref t) (.ref sl)) Q E s := by
  have htake : sizeOk (.seq items.toList.reverse.toArray) := by
    show items.toList.reverse.toArray.size ≤ sizeLine
    rw [List.size_toArray, List.length_reverse, Array.length_toList]
    exact hsz
  obtain ⟨os, hos, hcs, hds⟩ := id hs
  have hTs : s.TypeIs (.ref sl) "slice" := ⟨os, hos, hcs⟩
  unfold getItem
  try with_reducible refine wpAny_holding ?_
  first | refine wpAny_bind (wpAny_pure ?_) | skip
  refine wpAny_bind (wpAny_sequenceKey ht.typeIs (by decide) ?_)
  refine wpAny_bind (wpAny_callSpecial?_slot (name := Str.ofString "__getitem__") ht.typeIs PyProof.Rows.slot_tuple_getitem
    (wpAny_call_entry PyProof.Rows.slot_tuple_getitem ht.typeIs entry_tuple_getitem ?_ (args_tuple_getitem _ _)))
  show wpAny _ _ (Builtin.Tuple.tupleItemsOf (.ref t) >>= _) _ _ s
  refine wpAny_bind (tupleItemsOf_ ht ?_)
  refine wpAny_bind (wpAny_typeOf hTs ?_)
  rw [if_pos (by decide)]
  refine wpAny_bind (sliceApplied_rev hs pl pu ps ?_)
  show wpAny _ _ (if ((((items.size : Nat) : Int) - 1) == 0 && (-1 : Int) == 1 && items.size == items.size) = true then _ else _) _ _ s
  have hno : ¬ (((((items.size : Nat) : Int) - 1) == 0 && (-1 : Int) == 1 && items.size == items.size) = true) := by
    rw [show ((-1 : Int) == 1) = false by decide, Bool.and_false, Bool.false_and]
    exact Bool.false_ne_true
  rw [if_neg hno, pick_rev]
  first
    | exact wpAny_bind (m := Builtin.Tuple.tupleExact _) (wpAny_newObj_type (wpAny_pure ⟨_, rfl, wpAny_pure h⟩) htake)
    | exact wpAny_bind (m := Builtin.Tuple.tupleExact _) (wpAny_newObj_type (wpAny_bind (wpAny_pure (wpAny_pure ⟨_, rfl, wpAny_pure h⟩))) htake)
    | exact wpAny_bind (wpAny_bind (m := Builtin.Tuple.tupleExact _) (wpAny_newObj_type (wpAny_pure (wpAny_pure ⟨_, rfl, wpAny_pure h⟩)) htake))
    | exact wpAny_bind (wpAny_bind (m := Builtin.Tuple.tupleExact _) (wpAny_newObj_type (wpAny_pure ⟨_, rfl, wpAny_pure h⟩) htake))
section
variable {X : Cx}
theorem op_ne_unit (hu : X.A.units < cLine) : OpR X (compareOp .NotEq) (fun x y H Q => ∃ a b xs, x = .ref a ∧ y = .ref b ∧ SqT X.K H a xs ∧ SqT X.K H b [] ∧ Q (.bl (!xs.isEmpty)) H) := by
  intro pins s σ H x y v u Q I rx ry h
  obtain ⟨a, b, xs, rfl, rfl, ha, hb, q⟩ := h
  cases rx
  cases ry
  obtain ⟨its, r1, p1, _⟩ := I.tuple ha
  obtain ⟨its2, r2, p2, _⟩ := I.tuple hb
  cases r2
  have hx : (!((List.range (min its.toArray.size ([] : List Value).toArray.size)).all (fun _ => true) && its.toArray.size == ([] : List Value).toArray.size)) = !xs.isEmpty := by
    have hl := r1.length
    rw [List.size_toArray, ← hl]
    cases xs with
    | nil => rfl
    | cons x r => simp
  have := SeqAt.RcNeAt.tuples (e := fun _ => true) p1 p2 hu (fun j j1 j2 => absurd j2 (Nat.not_lt_zero _))
  refine this _ _ _ _ ?_
  rw [hx]
  exact ⟨.bl _, H, I, rfl, q⟩
def tRevT (K : PySem.W.Frag) (te : TE) : TE := fun σ H Q => te σ H fun x H1 => ∃ a xs, x = .ref a ∧ SqT K H1 a xs ∧ ∀ p, H1 p = none → Q (.ref p) (upd H1 p (.tup xs.reverse))
theorem pe_revT {e : Expr} {te : TE} {k : Nat} {p1 p2 p3 pos : Pos} (he : PE X e te) : PE X (.Subscript e (.Slice none none (some (.UnaryOp .USub (.Constant (.int 1) k p1) p2)) p3) pos) (tRevT X.K te) := by
  refine ⟨fun pins s σ H Q I h => ?_⟩
  refine Subscript_ (thn (he.run pins s σ H _ I h) fun v s1 ⟨x, H1, I1, r1, q1⟩ => ?_)
  obtain ⟨a, xs, ex, hx, q⟩ := q1
  subst ex
  cases r1
  have hst : PO X (some (.UnaryOp .USub (.Constant (.int 1) k p1) p2)) (tPart (tUn (rU fun i => .int (-i)) (tC (.int 1)))) := po_some (pe_un un_neg pe_int)
  refine wpAny_Slice (thn (po_none.run pins s1 σ H1 (fun o H2 => o = none ∧ H2 = H1) I1 ⟨rfl, rfl⟩) fun vl s2 ⟨l, H2, I2, pl, el, e2⟩ => ?_)
  subst el e2
  refine thn (po_none.run pins s2 σ H2 (fun o H3 => o = none ∧ H3 = H2) I2 ⟨rfl, rfl⟩) fun vu s3 ⟨u, H3, I3, pu, eu, e3⟩ => ?_
  subst eu e3
  refine thn (hst.run pins s3 σ H3 (fun o H4 => o = some (-1) ∧ H4 = H3) I3 ⟨1, rfl, -1, rfl, rfl, rfl⟩) fun vs s4 ⟨o, H4, I4, ps, eo, e4⟩ => ?_
  subst eo e4
  have I5 : Inv X pins σ H4 { s4 with heap := s4.heap.push { cls := .type "slice", data := .fields #[vl, vu, vs] } } := I4.kept (t' := s4.toks) fun b ob q => Heap.get?_push_of_some _ q
  obtain ⟨its, r, ht, hz⟩ := I5.tuple hx
  have hlen := r.length
  show wpAny (model X.prog X.w) X.A (subscriptTail e (.Slice none none (some (.UnaryOp .USub (.Constant (.int 1) k p1) p2)) p3) (.ref a) (.ref s4.heap.objs.size)) (EP X pins σ Q) X.xe { s4 with heap := s4.heap.push { cls := .type "slice", data := .fields #[vl, vu, vs] } }
  refine tail_any (ops := [.ref a, .ref s4.heap.objs.size]) ht.typeIs (PyProof.Rows.slot_tuple_getitem.lookup) ?_ (by with_unfolding_all rfl)
  refine getItem_tuple_rev ht (Heap.IsSliceOf.new _ vl vu vs) pl pu ps ?_ (by rw [List.size_toArray]; omega)
  refine ⟨.ref _, _, I5.laid (t' := s4.toks) (o := .tup xs.reverse) (fun b ob q => Heap.get?_push_of_some _ q) (Nat.le_refl _) ?_, rfl, q _ (I5.hok.fresh (Nat.le_refl _))⟩
  exact ⟨by rw [List.length_reverse]; exact hz, _, r.reverse, IsTup.new _ _⟩
theorem tuple_mul0 (l : Addr) (n : Nat) (dd : Option Addr) (sl : Array (Option Value)) (x : Int) (u : Tok) (c0 : (decide (x < -(2 ^ 63)) || decide (x ≥ 2 ^ 63)) = false) :
    Meets (Builtin.«tuple.__mul__» ⟨[.ref l, .int x u], []⟩) (fun _ R s => s.heap.get? l = some { cls := .type "tuple", dict := dd, data := .seq #[] n, slots := sl } ∧ R (.ok (.ret (Value.ref l))) s) :=
  .of_wp fun prog w A R s h => by
    obtain ⟨hp, g, d, tk, os⟩ := s
    obtain ⟨hl, h⟩ := h
    have f1 := AutoSeq1.idx_int
    wp_walk using wpAny_loadPart' hl
    repeat (first
      | (refine wpAny_ite_false (decide_eq_false (by rw [c0]; exact Bool.false_ne_true)) ?_; wp_walk using wpAny_loadPart' hl))
    exact ⟨_, rfl, h⟩
def rRepA (K : PySem.W.Frag) : R2 := fun x y H Q => ∃ l k xs, x = .ref l ∧ y = .int k ∧ SqT K H l xs ∧ 2 ≤ k ∧ k ≤ 1000 ∧ xs.length ≤ 1000 ∧ (xs = [] → Q (.ref l) H) ∧ (xs ≠ [] → ∀ p, H p = none → Q (.ref p) (upd H p (.tup (List.replicate k.toNat xs).flatten)))
theorem op_repA : OpR X (binaryOp .Mult) (rRepA X.K) := by
  intro pins s σ H x y v u Q I rx ry h
  obtain ⟨l, k, xs, rfl, rfl, hT, h1, h2, hz, q0, q1⟩ := h
  by_cases hx : xs = []
  · subst hx
    cases rx
    obtain ⟨t, rfl⟩ := ry
    obtain ⟨its, r, ⟨⟨cls, dd, data, sl⟩, ho, hc, n, hd⟩, hs⟩ := I.tuple hT
    simp only at hc hd
    subst hc hd
    cases r
    have c0 : (decide (k < -(2 ^ 63)) || decide (k ≥ 2 ^ 63)) = false := by
      rw [decide_eq_false (by omega), decide_eq_false (by omega)] <;> rfl
    refine wpAny_binaryOp_repeat_ref (T := "tuple") (U := "int") (by decide) ⟨_, ho, rfl⟩ (fun s' => typeIs_int s' k t) noFill_tuple_mul F.fills_int_mul F.slot_int_rmul repeat_tuple F.slot_int_index.lookup
      (call_meets F.slot_int_rmul (typeIs_int s k t) F.entry_int_rmul (F.args_int_rmul_2 _ _) (int_rmul_tuple k t l ([] : List Value).toArray n dd sl)
        ⟨ho, rfl, ⟨_, ho, rfl⟩, call_meets F.slot_tuple_mul ⟨_, ho, rfl⟩ F.entry_tuple_mul (F.args_tuple_mul_2 _ _) (tuple_mul0 l n dd sl k t c0) ⟨ho, ?_⟩⟩)
    exact ⟨.ref l, H, I, rfl, q0 rfl⟩
  · exact op_repT pins s σ H _ _ v u Q I rx ry ⟨l, k, xs, rfl, rfl, hT, hx, h1, h2, hz, q1 hx⟩
end
end
end KT

set_option Elab.async false
set_option linter.all false
set_option maxRecDepth 100000
set_option maxHeartbeats 1000000
namespace K3
open PySem PySem.Spec PyProof.Rows L2
abbrev sBent : Stmt := topS 26
theorem scBent : FnScope ["stream", "item", "at", "some"] ["stream", "item"] (defScope sBent) := ⟨rfl, rfl, rfl, by decide +kernel, rfl, by decide +kernel, by decide +kernel⟩
theorem fit_mono {L L' : Nat} (hL : L ≤ L') : ∀ {k k' : Nat} {d : PyData}, k ≤ k' → fit L k d = true → fit L' k' d = true
  | 0, 0, .tuple _, _, h => nomatch h
  | 0, _ + 1, .tuple _, _, h => nomatch h
  | k + 1, 0, .tuple _, e, _ => absurd e (Nat.not_succ_le_zero _)
  | k + 1, k' + 1, .tuple ds, e, h => by
    have h' : (decide (ds.length ≤ L) && ds.all (fit L k)) = true := h
    rw [Bool.and_eq_true] at h'
    show (decide (ds.length ≤ L') && ds.all (fit L' k')) = true
    rw [Bool.and_eq_true]
    refine ⟨decide_eq_true (Nat.le_trans (of_decide_eq_true h'.1) hL), List.all_eq_true.mpr fun d hd => fit_mono hL (Nat.le_of_succ_le_succ e) (List.all_eq_true.mp h'.2 d hd)⟩
  | _, 0, .none, _, _ => rfl
  | _, _ + 1, .none, _, _ => rfl
  | _, 0, .bool _, _, _ => rfl
  | _, _ + 1, .bool _, _, _ => rfl
  | _, 0, .int _, _, _ => rfl
  | _, _ + 1, .int _, _, _ => rfl
  | _, 0, .str _, _, _ => rfl
  | _, _ + 1, .str _, _, _ => rfl
  | _, 0, .list _, _, _ => rfl
  | _, _ + 1, .list _, _, _ => rfl
  | _, 0, .dict _, _, _ => rfl
  | _, _ + 1, .dict _, _, _ => rfl
theorem fit_tup {L k : Nat} {ds : List PyData} (h : fit L (k + 1) (.tuple ds) = true) : ds.length ≤ L ∧ ∀ d ∈ ds, fit L k d = true := by
  have h' : (decide (ds.length ≤ L) && ds.all (fit L k)) = true := h
  rw [Bool.and_eq_true] at h'
  exact ⟨of_decide_eq_true h'.1, fun d hd => List.all_eq_true.mp h'.2 d hd⟩
theorem fit_of {L k : Nat} {ds : List PyData} (h1 : ds.length ≤ L) (h2 : ∀ d ∈ ds, fit L k d = true) : fit L (k + 1) (.tuple ds) = true := by
  show (decide (ds.length ≤ L) && ds.all (fit L k)) = true
  rw [Bool.and_eq_true]
  exact ⟨decide_eq_true h1, List.all_eq_true.mpr h2⟩
section
variable {K : PySem.W.Frag} {s c : Addr} {H : Hp} {n : Int} {Q : VK}
theorem slice_dq {v : V} {ds : List PyData} {lo hi : Option Int} (S : Sm s c n H) (hd : Dq s c H (.tuple ds) v)
    (q : ∀ (v' : V) (ds' : List PyData) (H' : Hp), Dq s c H' (.tuple ds') v' → (∀ d ∈ ds', d ∈ ds) → ds'.length ≤ ds.length → Same H H' → Q v' H') : rSlA K v lo hi H Q := by
  have hd' := hd
  obtain ⟨a, xs, rfl, h1, h2, h3, hL⟩ := hd
  refine ⟨a, xs, rfl, .inl (.inl h3), fun _ => q (.ref a) ds H hd' (fun _ h => h) (Nat.le_refl _) (Same.refl H), fun _ p np => ?_⟩
  have pn := S.ns np
  refine q (.ref p) ((ds.drop (HT.sIx xs.length 0 lo)).take (HT.sIx xs.length xs.length hi - HT.sIx xs.length 0 lo)) _ ⟨p, cutV xs lo hi, rfl, pn.1, pn.2, upd_same, DqL.kp (Kp.new np) (DqL.take (DqL.drop hL))⟩ (fun d h => List.mem_of_mem_drop (List.mem_of_mem_take h)) ?_ (same_upd np)
  rw [List.length_take, List.length_drop]
  omega
theorem slice_dqN {v : V} {ds : List PyData} {lo : Option Int} {σ : L2.St} (S : Sm s c n H) (hd : Dq s c H (.tuple ds) v)
    (q : ∀ (v' : V) (ds' : List PyData) (H' : Hp), Dq s c H' (.tuple ds') v' → (∀ d ∈ ds', d ∈ ds) → ds'.length ≤ ds.length → Same H H' → Q v' H') : tNoPart σ H fun u H3 => rSlA K v lo u H3 Q :=
  slice_dq (K := K) (lo := lo) (hi := none) S hd q
theorem cat_dq {v1 v2 : V} {d1 d2 : List PyData} (S : Sm s c n H) (h1 : Dq s c H (.tuple d1) v1) (h2 : Dq s c H (.tuple d2) v2) (l1 : d1.length ≤ 2000) (l2 : d2.length ≤ 2000)
    (q : ∀ (v' : V) (H' : Hp), Dq s c H' (.tuple (d1 ++ d2)) v' → Same H H' → Q v' H') : rCatA K v1 v2 H Q := by
  have h1' := h1
  have h2' := h2
  obtain ⟨a, xs, rfl, a1, a2, a3, aL⟩ := h1
  obtain ⟨b, ys, rfl, b1, b2, b3, bL⟩ := h2
  have e1 := aL.len
  have e2 := bL.len
  refine ⟨a, b, xs, ys, rfl, rfl, .inl (.inl a3), .inl (.inl b3), by rw [e1, e2]; exact le_size (by omega), fun hx => ?_, fun _ hy => ?_, fun _ _ p np => ?_⟩
  · subst hx
    have : d1 = [] := List.length_eq_zero_iff.mp e1.symm
    subst this
    exact q _ H h2' (Same.refl H)
  · subst hy
    have : d2 = [] := List.length_eq_zero_iff.mp e2.symm
    subst this
    rw [List.append_nil] at q
    exact q _ H h1' (Same.refl H)
  · have pn := S.ns np
    exact q _ _ ⟨p, xs ++ ys, rfl, pn.1, pn.2, upd_same, DqL.kp (Kp.new np) (DqL.app aL bL)⟩ (same_upd np)
theorem rep_dq {v : V} {ds : List PyData} (S : Sm s c n H) (h : Dq s c H (.tuple ds) v) (l : ds.length ≤ 1000) (q : ∀ (v' : V) (H' : Hp), Dq s c H' (.tuple (ds ++ ds)) v' → Same H H' → Q v' H') : KT.rRepA K v (.int 2) H Q := by
  have h' := h
  obtain ⟨a, xs, rfl, a1, a2, a3, aL⟩ := h
  have e1 := aL.len
  refine ⟨a, 2, xs, rfl, rfl, .inl (.inl a3), by decide, by decide, by omega, fun hx => ?_, fun _ p np => ?_⟩
  · subst hx
    have : ds = [] := List.length_eq_zero_iff.mp e1.symm
    subst this
    exact q _ H h' (Same.refl H)
  · have pn := S.ns np
    have e : (List.replicate (2 : Int).toNat xs).flatten = xs ++ xs := by
      show xs ++ (xs ++ []) = _
      rw [List.append_nil]
    rw [e]
    exact q _ _ ⟨p, xs ++ xs, rfl, pn.1, pn.2, upd_same, DqL.kp (Kp.new np) (DqL.app aL aL)⟩ (same_upd np)
theorem rep_dqN {v : V} {ds : List PyData} {σ : L2.St} (S : Sm s c n H) (h : Dq s c H (.tuple ds) v) (l : ds.length ≤ 1000) (q : ∀ (v' : V) (H' : Hp), Dq s c H' (.tuple (ds ++ ds)) v' → Same H H' → Q v' H') :
    tC (.int 2) σ H fun y H2 => KT.rRepA K v y H2 Q := rep_dq (K := K) S h l q
end
section
variable {K : PySem.W.Frag} {s c x : Addr} {H : Hp} {n : Int} {Q : VK}
def DD (x s c : Addr) (H : Hp) (d : PyData) (v : V) : Prop := Dq s c H d v ∧ Dq x x H d v
theorem DD.same {H' : Hp} {d : PyData} {v : V} (h : DD x s c H d v) (e : Same H H') : DD x s c H' d v := ⟨h.1.kp (.of_same e), h.2.kp (.of_same e)⟩
theorem DD.kp {H' : Hp} {d : PyData} {v : V} (h : DD x s c H d v) (e : K3p s c x H H') : DD x s c H' d v := Dq.kp3 e h.1 h.2
theorem slice_dd {v : V} {ds : List PyData} {lo hi : Option Int} {z : HO} (S : Sm s c n H) (hx : H x = some z) (hd : DD x s c H (.tuple ds) v)
    (q : ∀ (v' : V) (ds' : List PyData) (H' : Hp), DD x s c H' (.tuple ds') v' → (∀ d ∈ ds', d ∈ ds) → ds'.length ≤ ds.length → Same H H' → Q v' H') : rSlA K v lo hi H Q := by
  have hd' := hd
  obtain ⟨⟨a, xs, rfl, h1, h2, h3, hL⟩, a', xs', e, g1, _, g3, gL⟩ := hd
  cases e
  rw [h3] at g3
  cases g3
  refine ⟨a, xs, rfl, .inl (.inl h3), fun _ => q (.ref a) ds H hd' (fun _ h => h) (Nat.le_refl _) (Same.refl H), fun _ p np => ?_⟩
  have pn := S.ns np
  have px : p ≠ x := fun e => by subst e; rw [np] at hx; cases hx
  refine q (.ref p) ((ds.drop (HT.sIx xs.length 0 lo)).take (HT.sIx xs.length xs.length hi - HT.sIx xs.length 0 lo)) _ ⟨⟨p, cutV xs lo hi, rfl, pn.1, pn.2, upd_same, DqL.kp (Kp.new np) (DqL.take (DqL.drop hL))⟩, ⟨p, cutV xs lo hi, rfl, px, px, upd_same, DqL.kp (Kp.new np) (DqL.take (DqL.drop gL))⟩⟩
    (fun d h => List.mem_of_mem_drop (List.mem_of_mem_take h)) ?_ (same_upd np)
  rw [List.length_take, List.length_drop]
  omega
theorem slice_ddN {v : V} {ds : List PyData} {lo : Option Int} {σ : L2.St} {z : HO} (S : Sm s c n H) (hx : H x = some z) (hd : DD x s c H (.tuple ds) v)
    (q : ∀ (v' : V) (ds' : List PyData) (H' : Hp), DD x s c H' (.tuple ds') v' → (∀ d ∈ ds', d ∈ ds) → ds'.length ≤ ds.length → Same H H' → Q v' H') : tNoPart σ H fun u H3 => rSlA K v lo u H3 Q :=
  slice_dd (K := K) (lo := lo) (hi := none) S hx hd q
theorem cat_dd {v1 v2 : V} {d1 d2 : List PyData} {z : HO} (S : Sm s c n H) (hx : H x = some z) (h1 : DD x s c H (.tuple d1) v1) (h2 : DD x s c H (.tuple d2) v2) (l1 : d1.length ≤ 2000) (l2 : d2.length ≤ 2000)
    (q : ∀ (v' : V) (H' : Hp), DD x s c H' (.tuple (d1 ++ d2)) v' → Same H H' → Q v' H') : rCatA K v1 v2 H Q := by
  have h1' := h1
  have h2' := h2
  obtain ⟨⟨a, xs, rfl, a1, a2, a3, aL⟩, a', xs', ea, g1, _, g3, gL⟩ := h1
  cases ea
  rw [a3] at g3
  cases g3
  obtain ⟨⟨b, ys, rfl, b1, b2, b3, bL⟩, b', ys', eb, f1, _, f3, fL⟩ := h2
  cases eb
  rw [b3] at f3
  cases f3
  have e1 := aL.len
  have e2 := bL.len
  refine ⟨a, b, xs, ys, rfl, rfl, .inl (.inl a3), .inl (.inl b3), by rw [e1, e2]; exact le_size (by omega), fun hx => ?_, fun _ hy => ?_, fun _ _ p np => ?_⟩
  · subst hx
    have : d1 = [] := List.length_eq_zero_iff.mp e1.symm
    subst this
    exact q _ H h2' (Same.refl H)
  · subst hy
    have : d2 = [] := List.length_eq_zero_iff.mp e2.symm
    subst this
    rw [List.append_nil] at q
    exact q _ H h1' (Same.refl H)
  · have pn := S.ns np
    have px : p ≠ x := fun e => by subst e; rw [np] at hx; cases hx
    exact q _ _ ⟨⟨p, xs ++ ys, rfl, pn.1, pn.2, upd_same, DqL.kp (Kp.new np) (DqL.app aL bL)⟩, ⟨p, xs ++ ys, rfl, px, px, upd_same, DqL.kp (Kp.new np) (DqL.app gL fL)⟩⟩ (same_upd np)
def G0 (L k : Nat) (s c : Addr) (H : Hp) (v : V) : Prop := ∃ d, Dq s c H d v ∧ fit L k d = true
theorem G0.same {L k : Nat} {H' : Hp} {v : V} (h : G0 L k s c H v) (e : Same H H') : G0 L k s c H' v := by
  obtain ⟨d, h1, h2⟩ := h
  exact ⟨d, h1.kp (.of_same e), h2⟩
def GG (L k : Nat) (x s c : Addr) (H : Hp) (v : V) : Prop := ∃ d, DD x s c H d v ∧ fit L k d = true
theorem GG.kp {L k : Nat} {H' : Hp} {v : V} (h : GG L k x s c H v) (e : K3p s c x H H') : GG L k x s c H' v := by
  obtain ⟨d, h1, h2⟩ := h
  exact ⟨d, h1.kp e, h2⟩
theorem G0.dd {L k : Nat} {v : V} (h : G0 L k s c H v) (e : H x = none) : GG L k x s c H v := by
  obtain ⟨d, h1, h2⟩ := h
  exact ⟨d, ⟨h1, dq_free e h1⟩, h2⟩
end
section
variable {P : Program} {w : World} {K : PySem.W.Frag} {mg : Str → Option Value} {base : Heap}
def spBent (k : Nat) : Sp := fun vs H Q _ => ∃ (s c : Addr) (n : Int) (L : Nat) (v : V) (ds : List PyData), vs = [.ref s, v] ∧ Dq s c H (.tuple ds) v ∧ fit L k (.tuple ds) = true ∧ 3 ≤ L ∧ L ≤ 60 ∧ n + 10 * ((k : Int) + 1) ≤ 900000 ∧ Sm s c n H ∧
  ∀ (v' : V) (d' : PyData) (H' : Hp), Dq s c H' d' v' → fit (4 * L + 1) (k + 2) d' = true → Kp s c H H' → Sm s c (n + 10 * ((k : Int) + 1)) H' → Q v' H'
theorem ok_bent {f fD : Addr} {fd dD : FuncData} (F : Fun K "_law_bent" "_law_bent" sBent f fd) (FD : Fun K "_law_odd_by" "_law_odd_by" sOddBy fD dD) (bB : Binds K fd ["stream", "item"] []) (bD : Binds K dD ["stream"] []) (gB : mg "_law_bent" = some (.ref f)) (gD : mg "_law_odd_by" = some (.ref fD))
    (S : TxS K mg) (T : TxB mg) (mM : mg "max" = none) (mL : mg "list" = none) : ∀ k : Nat, FnOk P w K mg base CX0 (4 + k) f fd ["stream", "item"] (spBent k)
  | 0 => by
    refine F.ok (k := 3) scBent (fun vs H Q E h => ?_) (fun cdv A outer s0 H vs Q E hr h => ?_)
    · obtain ⟨s, c, n, L, v, ds, rfl, _⟩ := h
      rfl
    · obtain ⟨s, c, n, L, v, ds, rfl, hd, hf, _⟩ := h
      cases hf
  | k + 1 => by
    have GB : FnOk P w K mg base CX0 (4 + k) f fd ["stream", "item"] (spBent k) := ok_bent F FD bB bD gB gD S T mM mL k
    have GT : FnOk P w K mg base CX0 2 S.fT S.dT ["stream", "many"] spTake := ok_take S.FT S.FM S.bM S.gM
    have GD : FnOk P w K mg base CX0 4 fD dD ["stream"] spOdd := ok_odd FD S
    refine F.ok (k := 4 + k) scBent (fun vs H Q E h => ?_) (fun cdv A outer s0 H vs Q E hr h => ?_)
    · obtain ⟨s, c, n, L, v, ds, rfl, _⟩ := h
      rfl
    · obtain ⟨s, c, n, L, v, ds, rfl, hd, hf, l3, l60, hn, hS, q⟩ := h
      have hr2 := hr.mono (show 2 ≤ 4 + k by omega)
      have hr4 := hr.mono (show 4 ≤ 4 + k by omega)
      have hu0 := hr.units0
      obtain ⟨hlen, hall⟩ := fit_tup hf
      refine ⟨_, (pss_cons (ps_set (i := 2) scBent.nd rfl (.inl rfl) (pe_call GT hr2 (by rfl) S.gT S.FT.kp S.bT .nil pass0 (pa_cons (pv 0) (pa_cons (pe_callB (call_max2 rfl) (by rfl) mM (by decide +kernel) (pa_cons pe_int (pa_cons (pe_callB call_len_seq (by rfl) T.len (by decide +kernel) (pa_cons (pv 1) pa_nil)) pa_nil))) pa_nil))))
      (Evl.pss_cut (ps_if (PW.pt (pw_and (pt_cmpR (KT.op_ne_unit hu0) (pv 1) (pe_tup pa_nil) (nomark _)) (pw_and (pt_val (pe_callB call_isi (by rfl) T.isi (by decide +kernel) (pa_cons (pe_ix ix_tup (pv 1) (pv 2) (fun _ _ => rfl)) (pa_cons (pe_bltn (v := .ty "tuple") (by rfl) T.tup (by decide +kernel) rfl) pa_nil)))) (pw_and1 (pt_cmpR op_gt (pe_call GT hr2 (by rfl) S.gT S.FT.kp S.bT .nil pass0 (pa_cons (pv 0) (pa_cons pe_int pa_nil))) pe_int (nomark _)))))) (pss_one (ps_ret (pe_op op_catA (pe_op op_catA (pe_slice sl_tupA (pv 1) po_none (po_some (pv 2))) (pe_tup (pa_cons (pe_call GB hr (by rfl) gB F.kp bB .nil pass0 (pa_cons (pv 0) (pa_cons (pe_ix ix_tup (pv 1) (pv 2) (fun _ _ => rfl)) pa_nil))) pa_nil))) (pe_slice sl_tupA (pv 1) (po_some (pe_op op_add (pv 2) pe_int)) po_none)))) pss_nil)
      (pss_cons (ps_set (i := 3) scBent.nd rfl (.inl rfl) (pe_lst (pa_cons (pe_callTy call_list_of (by rfl) mL (by decide +kernel) (pa_cons (pv 1) pa_nil)) (pa_cons (pe_op op_catA (pe_slice sl_tupA (pv 1) po_none (po_some (pv 2))) (pe_slice sl_tupA (pv 1) (po_some (pe_op op_add (pv 2) pe_int)) po_none)) (pa_cons (pe_op op_catA (pe_op op_catA (pe_slice sl_tupA (pv 1) po_none (po_some (pv 2))) (pe_op KT.op_repA (pe_slice sl_tupA (pv 1) (po_some (pv 2)) (po_some (pe_op op_add (pv 2) pe_int))) pe_int)) (pe_slice sl_tupA (pv 1) (po_some (pe_op op_add (pv 2) pe_int)) po_none)) (pa_cons (KT.pe_revT (pv 1)) pa_nil))))))
      (pss_cons (ps_expr (pe_bm PySem.F.plainAttrs_list PySem.F.slot_list_append PySem.F.type_list_append mt_append (pv 3) (pa_cons (pe_op op_catA (pe_op op_catA (pe_slice sl_tupA (pv 1) po_none (po_some (pv 2))) (pe_tup (pa_cons (pe_call GD hr4 (by rfl) gD FD.kp bD .nil pass0 (pa_cons (pv 0) pa_nil)) pa_nil))) (pe_slice sl_tupA (pv 1) (po_some (pv 2)) po_none)) pa_nil)))
      (pss_cons (ps_expr (pe_bm PySem.F.plainAttrs_list PySem.F.slot_list_append PySem.F.type_list_append mt_append (pv 3) (pa_cons (pe_op op_catA (pe_op op_catA (pe_slice sl_tupA (pv 1) po_none (po_some (pv 2))) (pe_tup (pa_cons (pe_call GD hr4 (by rfl) gD FD.kp bD .nil pass0 (pa_cons (pv 0) pa_nil)) pa_nil))) (pe_slice sl_tupA (pv 1) (po_some (pe_op op_add (pv 2) pe_int)) po_none)) pa_nil)))
      (pss_one (ps_ret (pe_ix ix_list (pv 3) (pe_ix ix_list (pe_lst (pa_cons pe_int (pa_cons pe_int (pa_cons pe_int (pa_cons pe_int (pa_cons pe_int (pa_cons pe_int (pa_cons pe_int (pa_cons pe_int pa_nil))))))))) (pe_call GT hr2 (by rfl) S.gT S.FT.kp S.bT .nil pass0 (pa_cons (pv 0) (pa_cons pe_int pa_nil))) (fun _ _ => rfl)) (fun _ _ => rfl))))))))), ?_⟩
      have hd0 := hd
      obtain ⟨a, xs, rfl, a1, a2, a3, aL⟩ := hd
      have al := aL.len
      refine ⟨_, rfl, _, rfl, a, xs, rfl, .inr (.inl (.inl a3)), _, _, rfl, s, c, _, n, rfl, ?_, ?_, by omega, hS, fun r H1 r0 r1 k1 m1 => ?_⟩
      · split <;> omega
      · split <;> omega
      have hd1 := hd0.kp k1
      refine ⟨fun σ' H2 => σ' = [some (.ref s), some (.ref a), some (.int r), none] ∧ Kp s c H H2 ∧ Sm s c (n + 2) H2, ?_, ?_⟩
      · -- the if
        have up : ∀ d ∈ ds, fit (4 * L + 1) (k + 2) d = true := fun d h => fit_mono (by omega) (by omega) (hall d h)
        have h1 := k1 _ _ a1 a2 a3
        refine ⟨_, rfl, by show 0 ≤ sizeLine; exact Nat.zero_le _, fun p np => ?_⟩
        have s2 : Same H1 (upd H1 p (.tup [])) := same_upd np
        refine ⟨a, p, xs, rfl, rfl, .inl (.inl (s2 _ _ h1)), .inl (.inl upd_same), _, rfl, ?_⟩
        have m2 := m1.same s2
        have k2 := k1.trans (.of_same s2)
        have hd2 := hd1.kp (.of_same s2)
        have h2 := s2 _ _ h1
        revert m2 k2 hd2 h2
        generalize upd H1 p (.tup []) = H2
        intro m2 k2 hd2 h2
        by_cases hx : xs = []
        · subst hx
          exact iteF (iteF ⟨rfl, k2, m2.le (by omega)⟩)
        · have hl : 0 < xs.length := List.length_pos_iff.mpr hx
          have er : xs.isEmpty = false := by cases xs with
            | nil => exact absurd rfl hx
            | cons _ _ => rfl
          rw [er]
          refine iteT ?_
          have hr1 : r < (xs.length : Int) := by
            revert r1
            split <;> intro r1 <;> omega
          obtain ⟨j, rfl⟩ := Int.eq_ofNat_of_zero_le r0
          have hj : j < xs.length := by omega
          obtain ⟨e, he, de⟩ := aL.get (List.getElem?_eq_getElem hj)
          have hem : e ∈ ds := List.mem_of_getElem? he
          have de2 := de.kp k2
          refine ⟨_, rfl, _, rfl, a, xs, _, xs[j], rfl, rfl, .inl (.inl h2), at_of rfl (List.getElem?_eq_getElem hj), xs[j], .ty "tuple", _, _, _, rfl, .ty _, dq_ty de2, kit_tup e, _, rfl, ?_⟩
          cases e with
          | tuple es =>
            refine iteT ⟨_, rfl, s, c, 4, _, rfl, by decide, by decide, by omega, m2, fun r2 H3 r20 r21 k3 m3 => ?_⟩
            refine ⟨_, _, rfl, rfl, _, rfl, ite2 (fun hx => ?_) (fun hx => ?_)⟩
            · have hd3 := hd2.kp k3
              refine ⟨_, rfl, _, rfl, _, rfl, slice_dq m3 hd3 fun v1 d1 H4 dv1 me1 le1 s4 => ?_⟩
              have h4 := s4 _ _ (k3 _ _ a1 a2 h2)
              refine ⟨_, rfl, _, rfl, _, rfl, a, xs, _, xs[j], rfl, rfl, .inl (.inl h4), at_of rfl (List.getElem?_eq_getElem hj), s, c, _, L, xs[j], es, rfl, (de2.kp k3).kp (.of_same s4), hall _ hem, l3, l60, by omega, m3.same s4, fun v2 d2 H5 dv2 f2 k5 m5 => ?_⟩
              refine ⟨by show 1 ≤ sizeLine; exact le_size (by decide), fun p2 np2 => ?_⟩
              have pn2 := m5.ns np2
              have s6 : Same H5 (upd H5 p2 (.tup [v2])) := same_upd np2
              have dv3 : Dq s c (upd H5 p2 (.tup [v2])) (.tuple [d2]) (.ref p2) := ⟨p2, _, rfl, pn2.1, pn2.2, upd_same, v2, [], rfl, dv2.kp (.of_same s6), rfl⟩
              have dv1' := (dv1.kp k5).kp (.of_same s6)
              have hd6 := ((hd3.kp (.of_same s4)).kp k5).kp (.of_same s6)
              have m6 := m5.same s6
              have k6 := ((k2.trans k3).trans (.of_same s4)).trans (k5.trans (.of_same s6))
              revert dv3 dv1' hd6 m6 k6
              generalize upd H5 p2 (.tup [v2]) = H6
              intro dv3 dv1' hd6 m6 k6
              refine cat_dq m6 dv1' dv3 (by omega) (by show 1 ≤ 2000; decide) fun v4 H7 dv4 s7 => ?_
              refine ⟨_, rfl, _, rfl, _, _, rfl, rfl, _, rfl, slice_dqN (m6.same s7) (hd6.kp (.of_same s7)) fun v5 d5 H8 dv5 me5 le5 s8 => ?_⟩
              refine cat_dq ((m6.same s7).same s8) (dv4.kp (.of_same s8)) dv5 (by rw [List.length_append]; show _ + 1 ≤ _; omega) (by omega) fun v6 H9 dv6 s9 => ?_
              refine q v6 _ H9 dv6 (fit_of ?_ fun d h => ?_) (k6.trans ((Kp.of_same s7).trans ((Kp.of_same s8).trans (.of_same s9)))) ((((m6.same s7).same s8).same s9).le (by omega))
              · rw [List.length_append, List.length_append]
                show _ + 1 + _ ≤ _
                omega
              · rcases List.mem_append.mp h with h | h
                · rcases List.mem_append.mp h with h | h
                  · exact up d (me1 d h)
                  · rcases List.mem_cons.mp h with h | h
                    · subst h; exact f2
                    · cases h
                · exact up d (me5 d h)
            · exact ⟨rfl, k2.trans k3, m3.le (by omega)⟩
          | _ => exact iteF (iteF ⟨rfl, k2, m2.le (by omega)⟩)
      · rintro σ' H2 ⟨rfl, k2, m2⟩
        have up : ∀ d ∈ ds, fit (4 * L + 1) (k + 2) d = true := fun d h => fit_mono (by omega) (by omega) (hall d h)
        have upo : ∀ d ∈ oddD1 ++ oddD2, fit (4 * L + 1) (k + 2) d = true := fun d h => fit_mono (by omega) (by omega) (odd_fit d h)
        have hd2 := hd0.kp k2
        have h2 := k2 _ _ a1 a2 a3
        have hL2 := aL.kp k2
        refine ⟨_, rfl, a, xs, rfl, .inr (.inl (.inl h2)), fun l nl => ?_⟩
        have ln := m2.ns nl
        have s3 : Same H2 (upd H2 l (.lst xs)) := same_upd nl
        have s3' := s3
        have g1 : G0 (4 * L + 1) (k + 3) s c (upd H2 l (.lst xs)) (.ref l) := ⟨.list ds, ⟨l, xs, rfl, ln.1, ln.2, upd_same, hL2.kp (.of_same s3)⟩, rfl⟩
        have m3 := m2.same s3
        have hd3 := hd2.kp (.of_same s3)
        have k3 := k2.trans (.of_same s3)
        have h3 := s3 _ _ h2
        revert g1 m3 hd3 k3 h3 s3'
        generalize upd H2 l (.lst xs) = H3
        intro s3' g1 m3 hd3 k3 h3
        -- the second
        refine ⟨_, rfl, _, rfl, _, rfl, slice_dq m3 hd3 fun v1 d1 H4 dv1 me1 le1 s4 => ?_⟩
        refine ⟨_, rfl, _, rfl, _, _, rfl, rfl, _, rfl, slice_dqN (m3.same s4) (hd3.kp (.of_same s4)) fun v2 d2 H5 dv2 me2 le2 s5 => ?_⟩
        refine cat_dq ((m3.same s4).same s5) (dv1.kp (.of_same s5)) dv2 (by omega) (by omega) fun v3 H6 dv3 s6 => ?_
        have s36 : Same H3 H6 := (s4.trans s5).trans s6
        have g2 : G0 (4 * L + 1) (k + 3) s c H6 v3 := ⟨_, dv3, fit_of (by rw [List.length_append]; omega) fun d h => (List.mem_append.mp h).elim (fun h => up d (me1 d h)) fun h => up d (me2 d h)⟩
        have m6 := m3.same s36
        have hd6 := hd3.kp (.of_same s36)
        replace g1 := g1.same s36
        -- the third
        refine ⟨_, rfl, _, rfl, _, rfl, slice_dq m6 hd6 fun v4 d4 H7 dv4 me4 le4 s7 => ?_⟩
        refine ⟨_, rfl, _, rfl, _, rfl, _, rfl, _, _, rfl, rfl, _, rfl, slice_dq (m6.same s7) (hd6.kp (.of_same s7)) fun v5 d5 H8 dv5 me5 le5 s8 => ?_⟩
        refine rep_dqN ((m6.same s7).same s8) dv5 (by omega) fun v6 H9 dv6 s9 => ?_
        have s79 : Same H7 H9 := s8.trans s9
        have s69 := s7.trans s79
        refine cat_dq (m6.same s69) (dv4.kp (.of_same s79)) dv6 (by omega) (by rw [List.length_append]; omega) fun v7 H10 dv7 s10 => ?_
        have s610 := s69.trans s10
        refine ⟨_, rfl, _, rfl, _, _, rfl, rfl, _, rfl, slice_dqN (m6.same s610) (hd6.kp (.of_same s610)) fun v8 d8 H11 dv8 me8 le8 s11 => ?_⟩
        refine cat_dq ((m6.same s610).same s11) (dv7.kp (.of_same s11)) dv8 (by rw [List.length_append, List.length_append]; omega) (by omega) fun v9 H12 dv9 s12 => ?_
        have s612 := (s610.trans s11).trans s12
        have g3 : G0 (4 * L + 1) (k + 3) s c H12 v9 := ⟨_, dv9, fit_of (by rw [List.length_append, List.length_append, List.length_append]; omega) fun d h => (List.mem_append.mp h).elim (fun h => (List.mem_append.mp h).elim (fun h => up d (me4 d h)) fun h => (List.mem_append.mp h).elim (fun h => up d (me5 d h)) fun h => up d (me5 d h)) fun h => up d (me8 d h)⟩
        have m12 := m6.same s612
        have hd12 := hd6.kp (.of_same s612)
        replace g1 := g1.same s612
        replace g2 := g2.same s612
        have h12 := s612 _ _ (s36 _ _ h3)
        have hL12 : DqL s c H12 ds xs := by
          obtain ⟨a', xs', e, _, _, g, gL⟩ := hd12
          cases e
          rw [h12] at g
          cases g
          exact gL
        -- the fourth
        refine ⟨_, rfl, a, xs, rfl, .inl (.inl h12), fun p np => ?_⟩
        have pn := m12.ns np
        have s13 : Same H12 (upd H12 p (.tup xs.reverse)) := same_upd np
        have g4 : G0 (4 * L + 1) (k + 3) s c (upd H12 p (.tup xs.reverse)) (.ref p) := ⟨.tuple ds.reverse, ⟨p, _, rfl, pn.1, pn.2, upd_same, (hL12.kp (.of_same s13)).rev⟩, fit_of (by rw [List.length_reverse]; omega) fun d h => up d (List.mem_reverse.mp h)⟩
        have m13 := m12.same s13
        have hd13 := hd12.kp (.of_same s13)
        have k13 : Kp s c H2 (upd H12 p (.tup xs.reverse)) := .of_same (((s3'.trans s36).trans s612).trans s13)
        replace g1 := g1.same s13
        replace g2 := g2.same s13
        replace g3 := g3.same s13
        revert g1 g2 g3 g4 m13 hd13 k13
        generalize upd H12 p (.tup xs.reverse) = H13
        intro g4 m13 hd13 k13 g1 g2 g3
        -- the list of them
        refine ⟨by show 4 ≤ sizeLine; exact le_size (by decide), fun so nso => ?_⟩
        have son := m13.ns nso
        have s14 : Same H13 (upd H13 so (.lst [.ref l, v3, v9, .ref p])) := same_upd nso
        have G1 := (g1.dd nso).kp (.of_kp (.of_same s14))
        have G2 := (g2.dd nso).kp (.of_kp (.of_same s14))
        have G3 := (g3.dd nso).kp (.of_kp (.of_same s14))
        have G4 := (g4.dd nso).kp (.of_kp (.of_same s14))
        have D14 := (show DD so s c H13 (.tuple ds) (.ref a) from ⟨hd13, dq_free nso hd13⟩).same s14
        have m14 := m13.same s14
        have k14 := k2.trans (k13.trans (.of_same s14))
        have nsoH : H so = none := (k2.trans k13).free son.1 son.2 nso
        have o14 : (upd H13 so (.lst [.ref l, v3, v9, .ref p])) so = some (.lst [.ref l, v3, v9, .ref p]) := upd_same
        revert G1 G2 G3 G4 D14 m14 k14 o14
        generalize upd H13 so (.lst [.ref l, v3, v9, .ref p]) = H14
        intro G1 G2 G3 G4 D14 m14 k14 o14
        -- the first append
        refine ⟨_, rfl, .inl ⟨rfl, _, .inl (.inl o14)⟩, ?_⟩
        refine ⟨_, rfl, _, rfl, _, rfl, slice_dd m14 o14 D14 fun w1 e1 H15 dw1 ne1 lw1 s15 => ?_⟩
        refine ⟨_, rfl, s, c, _, rfl, ?_, m14.same s15, fun w2 o2 H16 do2 ho2 k16 m16 => ?_⟩
        · omega
        have o15 := s15 _ _ o14
        have o16 := k16 _ _ son.1 son.2 o15
        refine ⟨by show 1 ≤ sizeLine; exact le_size (by decide), fun p2 np2 => ?_⟩
        have pn2 := m16.ns np2
        have p2so : p2 ≠ so := fun e => by subst e; rw [np2] at o16; cases o16
        have s17 : Same H16 (upd H16 p2 (.tup [w2])) := same_upd np2
        have dw3 : DD so s c (upd H16 p2 (.tup [w2])) (.tuple [o2]) (.ref p2) := ⟨⟨p2, _, rfl, pn2.1, pn2.2, upd_same, w2, [], rfl, do2.kp (.of_same s17), rfl⟩, ⟨p2, _, rfl, p2so, p2so, upd_same, w2, [], rfl, (dq_noL o16 (by show 3 ≤ 4; decide) (odd_noL o2 ho2) do2).kp (.of_same s17), rfl⟩⟩
        have k17 : K3p s c so H14 (upd H16 p2 (.tup [w2])) := .of_kp ((Kp.of_same s15).trans (k16.trans (.of_same s17)))
        have dw1' := dw1.kp (x := so) (.of_kp (k16.trans (.of_same s17)))
        have m17 := m16.same s17
        have o17 := s17 _ _ o16
        have D17 := D14.kp k17
        have kk17 := k14.trans ((Kp.of_same s15).trans (k16.trans (.of_same s17)))
        revert dw3 k17 dw1' m17 o17 D17 kk17
        generalize upd H16 p2 (.tup [w2]) = H17
        intro dw3 k17 dw1' m17 o17 D17 kk17
        refine cat_dd m17 o17 dw1' dw3 (by omega) (by show 1 ≤ 2000; decide) fun w4 H18 dw4 s18 => ?_
        refine ⟨_, rfl, _, rfl, _, rfl, slice_ddN (m17.same s18) (s18 _ _ o17) (D17.same s18) fun w5 e5 H19 dw5 ne5 lw5 s19 => ?_⟩
        refine cat_dd ((m17.same s18).same s19) (s19 _ _ (s18 _ _ o17)) (dw4.same s19) dw5 (by rw [List.length_append]; show _ + 1 ≤ _; omega) (by omega) fun w6 H20 dw6 s20 => ?_
        have s1720 := (s18.trans s19).trans s20
        have o20 := s1720 _ _ o17
        refine ⟨so, _, w6, rfl, rfl, o20, by show 4 < sizeLine; exact lt_size (by decide), ?_⟩
        have G5 : GG (4 * L + 1) (k + 3) so s c H20 w6 := ⟨_, dw6, fit_of (by rw [List.length_append, List.length_append]; show _ + 1 + _ ≤ _; omega) fun d h => (List.mem_append.mp h).elim (fun h => (List.mem_append.mp h).elim (fun h => up d (ne1 d h)) fun h => by
          rcases List.mem_cons.mp h with h | h
          · subst h; exact upo _ ho2
          · cases h) fun h => up d (ne5 d h)⟩
        have m20 := m17.same s1720
        have k1420 : K3p s c so H14 H20 := fun b o h1 h2 h3 h => s1720 _ _ (k17 b o h1 h2 h3 h)
        have kA : K3p s c so H20 (upd H20 so (.lst ([.ref l, v3, v9, .ref p] ++ [w6]))) := .at
        replace G1 := (G1.kp k1420).kp kA
        replace G2 := (G2.kp k1420).kp kA
        replace G3 := (G3.kp k1420).kp kA
        replace G4 := (G4.kp k1420).kp kA
        replace G5 := G5.kp kA
        have D21 := (D14.kp k1420).kp kA
        have m21 := m20.put son.1 son.2 (o := .lst ([.ref l, v3, v9, .ref p] ++ [w6]))
        have kk21 := (kk17.trans (.of_same s1720)).put nsoH (o := .lst ([.ref l, v3, v9, .ref p] ++ [w6]))
        have o21 : (upd H20 so (.lst ([.ref l, v3, v9, .ref p] ++ [w6]))) so = some (.lst [.ref l, v3, v9, .ref p, w6]) := upd_same
        revert G1 G2 G3 G4 G5 D21 m21 kk21 o21
        generalize upd H20 so (.lst ([.ref l, v3, v9, .ref p] ++ [w6])) = H21
        intro G1 G2 G3 G4 G5 D21 m21 kk21 o21
        -- the second append
        refine ⟨_, rfl, .inl ⟨rfl, _, .inl (.inl o21)⟩, ?_⟩
        refine ⟨_, rfl, _, rfl, _, rfl, slice_dd m21 o21 D21 fun w1 e1 H15 dw1 ne1 lw1 s15 => ?_⟩
        refine ⟨_, rfl, s, c, _, rfl, ?_, m21.same s15, fun w2 o2 H16 do2 ho2 k16 m16 => ?_⟩
        · omega
        have o15 := s15 _ _ o21
        have o16 := k16 _ _ son.1 son.2 o15
        refine ⟨by show 1 ≤ sizeLine; exact le_size (by decide), fun p2 np2 => ?_⟩
        have pn2 := m16.ns np2
        have p2so : p2 ≠ so := fun e => by subst e; rw [np2] at o16; cases o16
        have s17 : Same H16 (upd H16 p2 (.tup [w2])) := same_upd np2
        have dw3 : DD so s c (upd H16 p2 (.tup [w2])) (.tuple [o2]) (.ref p2) := ⟨⟨p2, _, rfl, pn2.1, pn2.2, upd_same, w2, [], rfl, do2.kp (.of_same s17), rfl⟩, ⟨p2, _, rfl, p2so, p2so, upd_same, w2, [], rfl, (dq_noL o16 (by show 3 ≤ 5; decide) (odd_noL o2 ho2) do2).kp (.of_same s17), rfl⟩⟩
        have k17 : K3p s c so H21 (upd H16 p2 (.tup [w2])) := .of_kp ((Kp.of_same s15).trans (k16.trans (.of_same s17)))
        have dw1' := dw1.kp (x := so) (.of_kp (k16.trans (.of_same s17)))
        have m17 := m16.same s17
        have o17 := s17 _ _ o16
        have D17 := D21.kp k17
        have kk17 := kk21.trans ((Kp.of_same s15).trans (k16.trans (.of_same s17)))
        revert dw3 k17 dw1' m17 o17 D17 kk17
        generalize upd H16 p2 (.tup [w2]) = H17
        intro dw3 k17 dw1' m17 o17 D17 kk17
        refine cat_dd m17 o17 dw1' dw3 (by omega) (by show 1 ≤ 2000; decide) fun w4 H18 dw4 s18 => ?_
        refine ⟨_, rfl, _, rfl, _, _, rfl, rfl, _, rfl, slice_ddN (m17.same s18) (s18 _ _ o17) (D17.same s18) fun w5 e5 H19 dw5 ne5 lw5 s19 => ?_⟩
        refine cat_dd ((m17.same s18).same s19) (s19 _ _ (s18 _ _ o17)) (dw4.same s19) dw5 (by rw [List.length_append]; show _ + 1 ≤ _; omega) (by omega) fun w7 H20 dw7 s20 => ?_
        have s1720 := (s18.trans s19).trans s20
        have o20 := s1720 _ _ o17
        refine ⟨so, _, w7, rfl, rfl, o20, by show 5 < sizeLine; exact lt_size (by decide), ?_⟩
        have G6 : GG (4 * L + 1) (k + 3) so s c H20 w7 := ⟨_, dw7, fit_of (by rw [List.length_append, List.length_append]; show _ + 1 + _ ≤ _; omega) fun d h => (List.mem_append.mp h).elim (fun h => (List.mem_append.mp h).elim (fun h => up d (ne1 d h)) fun h => by
          rcases List.mem_cons.mp h with h | h
          · subst h; exact upo _ ho2
          · cases h) fun h => up d (ne5 d h)⟩
        have m20 := m17.same s1720
        have k2120 : K3p s c so H21 H20 := fun b o h1 h2 h3 h => s1720 _ _ (k17 b o h1 h2 h3 h)
        have kA : K3p s c so H20 (upd H20 so (.lst ([.ref l, v3, v9, .ref p, w6] ++ [w7]))) := .at
        replace G1 := (G1.kp k2120).kp kA
        replace G2 := (G2.kp k2120).kp kA
        replace G3 := (G3.kp k2120).kp kA
        replace G4 := (G4.kp k2120).kp kA
        replace G5 := (G5.kp k2120).kp kA
        replace G6 := G6.kp kA
        have m22 := m20.put son.1 son.2 (o := .lst ([.ref l, v3, v9, .ref p, w6] ++ [w7]))
        have kk22 := (kk17.trans (.of_same s1720)).put nsoH (o := .lst ([.ref l, v3, v9, .ref p, w6] ++ [w7]))
        have o22 : (upd H20 so (.lst ([.ref l, v3, v9, .ref p, w6] ++ [w7]))) so = some (.lst [.ref l, v3, v9, .ref p, w6, w7]) := upd_same
        revert G1 G2 G3 G4 G5 G6 m22 kk22 o22
        generalize upd H20 so (.lst ([.ref l, v3, v9, .ref p, w6] ++ [w7])) = H22
        intro G1 G2 G3 G4 G5 G6 m22 kk22 o22
        -- the drawn one
        refine ⟨_, rfl, by show 8 ≤ sizeLine; exact le_size (by decide), fun pi npi => ?_⟩
        have pin := m22.ns npi
        refine ⟨_, rfl, s, c, 8, _, rfl, by decide, by decide, ?_, m22.kp1 npi _, fun r3 H23 r30 r31 k23 m23 => ?_⟩
        · omega
        have o23 := k23 _ _ son.1 son.2 ((same_upd npi) _ _ o22)
        have p23 := k23 _ _ pin.1 pin.2 upd_same
        have kf := (Kp.new (o := .lst [.int 0, .int 1, .int 2, .int 3, .int 4, .int 5, .int 5, .int 5]) npi).trans k23
        have fin : ∀ v, GG (4 * L + 1) (k + 3) so s c H22 v → Q v H23 := fun v G => by
          obtain ⟨d, hd, hf⟩ := G.kp (.of_kp kf)
          exact q v d H23 hd.1 hf (kk22.trans kf) (m23.le (by omega))
        obtain ⟨j, hj, e⟩ : ∃ j : Nat, j < 6 ∧ atI [V.int 0, .int 1, .int 2, .int 3, .int 4, .int 5, .int 5, .int 5] r3 = some (.int (j : Nat)) := by
          have : r3 = 0 ∨ r3 = 1 ∨ r3 = 2 ∨ r3 = 3 ∨ r3 = 4 ∨ r3 = 5 ∨ r3 = 6 ∨ r3 = 7 := by omega
          rcases this with rfl | rfl | rfl | rfl | rfl | rfl | rfl | rfl
          · exact ⟨0, by decide, rfl⟩
          · exact ⟨1, by decide, rfl⟩
          · exact ⟨2, by decide, rfl⟩
          · exact ⟨3, by decide, rfl⟩
          · exact ⟨4, by decide, rfl⟩
          · exact ⟨5, by decide, rfl⟩
          · exact ⟨5, by decide, rfl⟩
          · exact ⟨5, by decide, rfl⟩
        have pick : ∃ v, [V.ref l, v3, v9, .ref p, w6, w7][j]? = some v ∧ GG (4 * L + 1) (k + 3) so s c H22 v := by
          match j, hj with
          | 0, _ => exact ⟨_, rfl, G1⟩
          | 1, _ => exact ⟨_, rfl, G2⟩
          | 2, _ => exact ⟨_, rfl, G3⟩
          | 3, _ => exact ⟨_, rfl, G4⟩
          | 4, _ => exact ⟨_, rfl, G5⟩
          | 5, _ => exact ⟨_, rfl, G6⟩
        obtain ⟨v, hv, G⟩ := pick
        exact ⟨pi, _, r3, .int (j : Nat), rfl, rfl, .inl (.inl p23), e, so, _, _, v, rfl, rfl, .inl (.inl o23), atI_nat hv, fin v G⟩
end
end K3

set_option Elab.async false
set_option linter.all false
set_option maxRecDepth 100000
set_option maxHeartbeats 4000000
/-! repr of data, and the defs in which it is called: there no repr may be on its way, so what stands around a call must say so. -/
namespace KG
open PySem PySem.Spec PyProof.Rows L2

def shows : PyData → Bool
  | .list _ => true
  | .tuple _ => true
  | _ => false
def rRepr (K : PySem.W.Frag) : List V → Hp → VK → Prop := fun xs H Q => ∃ x d, xs = [x] ∧ Dp K H x d ∧ shows d = true ∧ SeqAt.shaped d = true ∧ d.showable = true ∧ d.shown.length ≤ sizeLine ∧ Q (.str d.shown) H
theorem call_reprD {X : Cx} (hg : X.A.guards = some []) (hu : X.A.units + 66 < cLine) : CallR X (.builtin "repr") (rRepr X.K) := by
  intro pins s σ H xs us Q I r h
  obtain ⟨x, d, rfl, hd, h1, h2, h3, h4, q⟩ := h
  obtain ⟨u, rfl, rx⟩ := vals1 r
  have hs : (PyData.canLay0 d && decide (PyData.depth d ≤ 64)) = true := h2
  rw [Bool.and_eq_true] at hs
  have hdep : d.depth ≤ 64 := of_decide_eq_true hs.2
  obtain ⟨as, hr⟩ := Dp.reads I d x u hd rx
  have hx : ∃ a, u = .ref a := by
    cases hd with
    | non => cases h1
    | bl b => cases h1
    | int i => cases h1
    | str z => cases h1
    | lst _ _ => exact ⟨_, rx⟩
    | tup _ _ => exact ⟨_, rx⟩
  obtain ⟨a, rfl⟩ := hx
  refine repr_of_reads' hr h3 (PyData.noDict_hsm (PyData.hasDict_of_canLay d hs.1)) hg (by omega) (fun _ _ e => e) (fun h' t tk hk => ?_) h4
  exact ⟨.str d.shown, H, I.kept hk, ⟨_, rfl⟩, q⟩

/-! ### a def that is called where no repr is on its way -/
section
variable {P : Program} {w : World} {K : PySem.W.Frag} {mg : Str → Option Value} {base : Heap}
structure FnG (P : Program) (w : World) (K : PySem.W.Frag) (mg : Str → Option Value) (base : Heap) (k : Nat) (f : Addr) (fd : FuncData) (ps : List Str) (sp : Sp) : Prop where
  many : ∀ vs H Q E, sp vs H Q E → vs.length = ps.length
  goes : ∀ (A : Around) (outer : List Env) (s : Shared) (H : Hp) (args : Args) (us : List Value) (vs : List V) (Q : VK) (E : XK), Room k A → A.guards = some [] → Env0 P w K mg base A outer s H → BindsTo s fd args (ps.zip us) → Vals vs us →
    sp vs H Q E → codeAny (model P w) A (.call (.ref f) args) (CR CX0 outer P w H s Q E) s
theorem FnG.of {x qual : Str} {st : Stmt} {f : Addr} {fd : FuncData} {N ps : List Str} {k : Nat} {sp : Sp} (F : Fun K x qual st f fd) (S : FnScope N ps (defScope st)) (len : ∀ vs H Q E, sp vs H Q E → vs.length = ps.length)
    (body : ∀ (cdv : Value) (A : Around) (outer : List Env) (s : Shared) (H : Hp) (vs : List V) (Q : VK) (E : XK), Room k (A.deeper (envOfC qual (defScope st) s.heap.objs.size f cdv)) → A.guards = some [] → sp vs H Q E →
      ∃ t, PSs (cxOf CX0 P w K mg base N qual (defScope st) f cdv A outer s H E).nox (defBody st) t ∧ t { nx := fun _ H' => Q .non H', rt := Q } (start N vs) H) : FnG P w K mg base (k + 1) f fd ps sp := by
  obtain ⟨oc, od, kV, doc, pm, an, cdv, ct, osl, rfl, lk, hcd⟩ := F.ex
  constructor
  · exact len
  · intro A outer s H args us vs Q E room none0 e0 hb r hsp
    have stays : ∀ b o, base.get? b = some o → s.heap.get? b = some o := fun b o e => (e0.bs b o e).1
    have KX : K.In s.heap := e0.mod.kin.keeps stays
    have lim : s.heap.NoLimit := e0.mod.nolimit.keeps stays
    have kinds : ∀ y ∈ ps.zip us, (defScope st).names.lookup y.1 = some .local ∨ ((defScope st).names.lookup y.1 = some .cell ∧ ((cellsFrom (s.heap.objs.size + 1) (defScope st).names []).lookup y.1).isSome = true) := by
      rintro ⟨n, v⟩ hy
      exact (S.par n (List.of_mem_zip hy).1).elim .inl fun q => .inr ⟨q, PySem.W.cellsFrom_some _ _ _ (.inl q)⟩
    refine codeAny_call_function room.depth (KX f _ lk) rfl S.co S.gen rfl (PySem.W.codeRec_of KX hcd) (hb _ _ _ _ (wpAny_newFunctionEnv_cells S.kind kinds fun env he s1 x => ?_))
    subst he
    have hl := len vs H Q E hsp
    obtain ⟨t, ht, hq⟩ := body cdv A outer s H vs Q E (room.deeper _) none0 hsp
    refine ⟨lim.keeps x.toInCall.keep, codeAny_func (wpAny_mono (ht.nox.run [] s1 (start N vs) H _ (inv_start (CX := CX0) (E := E) S room.hd e0 hl r x) hq) (fun fl s' hs => ?_) fun e s' hs => hs)⟩
    cases fl with
    | next =>
      obtain ⟨σ', H', J, q⟩ := hs
      exact ⟨.non, H', J.os, J.bare, J.base, J.hok, rfl, q⟩
    | ret u =>
      obtain ⟨v, σ', H', J, rv, q⟩ := hs
      exact ⟨v, H', J.os, J.bare, J.base, J.hok, rv, q⟩
    | cont => exact hs.elim fun _ h => h.elim fun _ h => h.2.elim
    | brk => exact hs.elim fun _ h => h.elim fun _ h => h.2.elim
section
variable {X : Cx} {k : Nat} {f : Addr} {fd : FuncData} {ps : List Str} {sp : Sp} {x : Str} {p pos : Pos} {e : Expr} {es : List Expr} {t : TA}
/-- f(e, ..), no repr on its way -/
theorem pe_callG (F : FnG X.prog X.w X.K X.mg X.base k f fd ps sp) (hr : Room k X.A) (none0 : X.A.guards = some []) (hg : Gl X x) (hm : X.mg x = some (.ref f)) (hk : PySem.W.keepIn X.K (.ref f) = true) (hb : Binds X.K fd ps []) (ha : PA X (e :: es) t)
    (hdb : (x == ("__debug__" : Str)) = false := by decide) (he : starEach (e :: es) X.env = (false, eval e X.env) :: starEach es X.env := by rfl) (hpl : (backTo pos (starEach es X.env)).any (·.1) = false := by rfl) :
    PE X (.Call (.Name x p) (e :: es) [] pos) (tCall sp [] E0 t) := by
  constructor
  intro pins s σ H Q I h
  refine wpAny_Call_Name_kw (ld_glob I hg hm (PySem.W.callWith_K (h₀ := X.base) I.ok.mod.kin hk (thn (ha.run pos pins s σ H _ I h) ?_) he hpl) hdb)
  rintro us s1 ⟨vs, H1, I1, r, q⟩
  have q' : sp vs H1 Q E0 := by
    have q0 : sp (vs ++ []) H1 Q E0 := q
    rwa [List.append_nil] at q0
  have hl : us.length = ps.length := by rw [← r.length]; exact F.many _ _ _ _ q'
  have hb1 : BindsTo s1 fd ⟨us, []⟩ (ps.zip us) := by
    have := hb s1 us I1.kIn (by rw [List.append_nil]; exact hl)
    rwa [List.append_nil] at this
  refine ⟨I1.kIn, wpAny_call (codeAny_mono (F.goes X.A X.stack s1 H1 ⟨us, []⟩ us vs Q E0 hr none0 I1.env0 hb1 r q') fun res s' hq => ?_)⟩
  match res, hq with
  | .ok (.ret u), hq => exact I1.after hq
end
end

/-! ### the law's end -/
theorem law_end {P : Program} {w : World} {K : PySem.W.Frag} {mg mb : Str → Option Value} {k : Nat} {fa a : Addr} {fd : FuncData} {x : Str} {sp : Sp} {s1 : Shared} {vs : List Value} {ns : List Int}
    (KX : K.In s1.heap) (hns : s1.heap.Ns mainGlobals mg) (hb : s1.heap.Ns builtinsNs mb) (hbb : ∀ x : Str, x ≠ "__name__" → mb x = bootBuiltins x) (hlim : s1.heap.NoLimit) (hg : s1.gens = #[])
    (ha : s1.heap.get? a = some { cls := .type "list", data := .seq vs.toArray }) (hi : IntsAre vs ns) (hl : ns.length ≤ sizeLine) (hr : Room k callerA)
    (F : ∀ base : Heap, K.In base → base.Ns mainGlobals mg → FnG P w K mg base k fa fd [x] sp) (hbind : ∀ (s : Shared) (u : Value), BindsTo s fd ⟨[u], []⟩ [(x, u)])
    (hsp : ∀ H : Hp, Only H → SqL K H a (ns.map V.int) → sp [.ref a] H (fun v _ => v = .bl true) fun _ _ _ => False) :
    codeAny (model P w) callerA (.call (.ref fa) ⟨[.ref a], []⟩) (fun r s' => r = .ok (.ret (.bool true)) ∧ OldK s1.heap s'.heap ∧ s'.os = s1.os ∧ AllBare s'.gens) s1 := by
  -- where the abstract heap holds the script at most
  have main : ∀ H : Hp, Only H → SqL K H a (ns.map V.int) → HOk P w H s1.heap → (∀ b, b ≠ a → H b = none) → (K.lookup a ≠ none → H a = none) →
      codeAny (model P w) callerA (.call (.ref fa) ⟨[.ref a], []⟩) (fun r s' => r = .ok (.ret (.bool true)) ∧ OldK s1.heap s'.heap ∧ s'.os = s1.os ∧ AllBare s'.gens) s1 := by
    intro H hO hS hok off onK
    have dictFree : ∀ {b : Addr} {o : Obj} {es : Array DictEntry} {ep : Nat}, s1.heap.get? b = some o → o.data = .dict es ep → H b = none := by
      intro b o es ep e d
      by_cases hb : b = a
      · rw [hb, ha] at e
        cases e
        cases (show Data.seq vs.toArray _ = Data.dict es ep from d)
      · exact off b hb
    have nsB : ∀ {b : Addr} {m : Str → Option Value}, s1.heap.Ns b m → (hidT s1.heap H).Ns b m := by
      rintro b m ⟨o, es, ep, e, d, r⟩
      exact ⟨o, es, ep, hidT_get e (dictFree e d), d, r⟩
    have kB : K.In (hidT s1.heap H) := by
      intro b o e
      refine hidT_get (KX b o e) ?_
      by_cases hb : b = a
      · subst hb; exact onK (by rw [e]; simp)
      · exact off b hb
    obtain ⟨mc, l1, l2⟩ := hlim
    have e0 : Env0 P w K mg (hidT s1.heap H) callerA [] s1 H := by
      refine ⟨rfl, ⟨kB, nsB hns, ⟨mb, nsB hb, hbb⟩, ⟨mc, nsB l1, l2⟩⟩, fun b o e => of_hidT e, Nat.le_of_eq (hidT_size _ _), trivial, ?_, hok, .of_eq hg⟩
      intro b z
      cases z
    refine codeAny_mono ((F _ kB (nsB hns)).goes callerA [] s1 H ⟨[.ref a], []⟩ [.ref a] [.ref a] _ _ hr rfl e0 (hbind s1 (.ref a)) (.cons rfl .nil) (hsp H hO hS)) ?_
    intro r s' h
    match r, h with
    | .ok (.ret u), h =>
      obtain ⟨v, H', os, bare, un, hok', rv, rfl⟩ := h
      cases (show u = Value.bool true from rv)
      refine ⟨rfl, OldK.of_keep (fun b o e => ?_), os, bare⟩
      rcases hO b with z | ⟨ob, xs, z⟩
      · exact un.keep b o e z (by intro q; cases q) (by simp)
      · have e1 := (hok b _ z).1
        rw [e] at e1
        cases e1
        exact (hok' b _ (un.frzs b _ _ z)).1
  have rv := vals_ints hi
  by_cases hk : K.lookup a = none
  · let H0 : Hp := fun b => if b = a then some (.frz { cls := .type "list", data := .seq vs.toArray } (.lst (ns.map V.int))) else none
    have at0 : H0 a = some (.frz { cls := .type "list", data := .seq vs.toArray } (.lst (ns.map V.int))) := if_pos rfl
    have off0 : ∀ b, b ≠ a → H0 b = none := fun b hb => if_neg hb
    refine main H0 (fun b => ?_) (.inl (.inr ⟨_, at0⟩)) (fun b u z => ?_) off0 (fun z => absurd hk z)
    · by_cases hb : b = a
      · rw [hb]; exact .inr ⟨_, _, at0⟩
      · exact .inl (off0 b hb)
    · by_cases hb : b = a
      · subst hb
        rw [at0] at z
        cases z
        exact ⟨ha, by rw [List.length_map]; exact hl, vs, _, rv, ha⟩
      · rw [off0 b hb] at z; cases z
  · obtain ⟨o, ho⟩ := Option.ne_none_iff_exists'.mp hk
    have e := KX a o ho
    rw [ha] at e
    cases e
    have lenV := hi.length
    refine main (fun _ => none) (fun _ => .inl rfl) (.inr ⟨_, vs.toArray, _, ho, rfl, rfl, rfl, by rw [List.size_toArray, lenV]; exact hl, by simpa using rv⟩) ?_ (fun _ _ => rfl) (fun _ => rfl)
    intro b u z
    cases (show (none : Option HO) = some u from z)

/-- what k_head leaves, from the promise of the law's def -/
theorem walk_end {l : PySem.W.OpenLaw} {n k : Nat} {q : Program} {loose : List Str} {XP : (Str → Option Value) → Heap → Prop} {YP : World → Heap → Prop} {d : DefRec} {K : Params → PySem.W.Frag} {sp : World → Sp} {x : Str}
    (hn : l.most = some n) (hn2 : n ≤ sizeLine) (hdf : d.params.defaults = []) (hr : Room k callerA) (hY : ∀ (w : World) (h : Heap), YP w h → (K w.params).In h)
    (F : ∀ (w : World) (mg : Str → Option Value) (fa : Addr) (h : Heap), (K w.params).In h → h.Ns mainGlobals mg → mg d.name = some (.ref fa) →
      ∃ fd : FuncData, (∀ (s : Shared) (u : Value), BindsTo s fd ⟨[u], []⟩ [(x, u)]) ∧ ∀ base : Heap, (K w.params).In base → base.Ns mainGlobals mg → FnG l.prog w (K w.params) mg base k fa fd [x] (sp w))
    (hsp : ∀ (w : World) (H : Hp) (a : Addr) (ns : List Int), ns.length ≤ n → Only H → SqL (K w.params) H a (ns.map V.int) → sp w [.ref a] H (fun v _ => v = .bl true) fun _ _ _ => False) :
    PySem.W.WalkO q loose XP YP l.row.toRowW d [] (fun f vs => PySem.call f vs) := by
  apply Att.attach_call hn hdf
  intro w s₀ s₁ mg mb fa o pm cd doc a vs ns G Y ho hd hcd hmg hobj hints hlen hg
  have KX := hY w _ Y
  obtain ⟨fd, hb, hF⟩ := F w mg fa _ KX G.T.g hmg
  exact law_end KX G.T.g G.T.b G.T.builtins G.T.nolimit hg hobj hints (Nat.le_trans hlen hn2) hr hF hb (hsp w · a ns hlen)
end KG

set_option Elab.async false
set_option linter.all false
set_option maxRecDepth 100000
set_option maxHeartbeats 1000000
namespace K3
open PySem PySem.Spec PyProof.Rows L2
/-! ### a call by keywords alone -/
section
variable {X : Cx} {CX : CXT} {k : Nat} {f : Addr} {fd : FuncData} {ps ks : List Str} {sp : Sp} {E : XK} {x : Str} {p pos : Pos} {kws : List Keyword} {tk : TA} {g : List Value → List Value → List Value} {gV : List V → List V → List V}
theorem pe_callN0 (F : FnOk X.prog X.w X.K X.mg X.base CX k f fd ps sp) (hr : Room k X.A) (hg : Gl X x) (hm : X.mg x = some (.ref f)) (hk : PySem.W.keepIn X.K (.ref f) = true) (hb : KBn X.K fd ps 0 ks g gV) (hx : Passes CX X E)
    (hkw : PK X kws tk) (hall : (backToKw pos (keywordEach kws X.env)).all (·.1.isSome) = true := by rfl) (hks : (backToKw pos (keywordEach kws X.env)).filterMap (·.1) = ks := by rfl)
    (hdb : (x == ("__debug__" : Str)) = false := by decide)
    (hpl : ((backTo pos (starEach [] X.env)).any (·.1) || (backToKw pos (keywordEach kws X.env)).any (·.1.isNone)) = false := by rfl) :
    PE X (.Call (.Name x p) [] kws pos) (fun σ H Q => tk σ H fun zs H2 => zs.length = ks.length ∧ sp (gV [] zs) H2 Q E) := by
  refine ⟨fun pins s σ H Q I h => ?_⟩
  refine wpAny_Call_Name_kw (ld_glob I hg hm ?_ hdb)
  refine PySem.W.callWith_KW0 (h₀ := X.base) I.ok.mod.kin hk hall (thn (hkw.run pos pins s σ H _ I h) fun ws s2 ⟨zs, H2, I2, rz, l2, q2⟩ => ⟨I2.kIn, ?_⟩) hpl
  rw [hks]
  exact run_fnN F hr hb hx I2 .nil rz rfl l2 q2
end
section
variable {K : PySem.W.Frag} {f : Addr} {fd : FuncData}
theorem kbn_count {f : Addr} {fd : FuncData} (F : Fun K "count_at" "count_at" sCountAt f fd) : KBn K fd ["count", "sizes"] 0 ["sizes", "count"] (fun _ ws => ws.reverse) (fun _ zs => zs.reverse) := by
  obtain ⟨oc, od, kV, doc, pm, an, cdv, ct, osl, rfl, lk, hcd⟩ := F.ex
  exact ⟨fun s us ws _ h1 h2 => match us, ws, h1, h2 with | [], [_, _], _, _ => .of_eq rfl, fun r1 r2 => r2.reverse⟩
theorem kbn_least (F : Fun K "least_of" "least_of" sLeast f fd) : KBn K fd ["count"] 0 ["count"] (fun _ ws => ws) (fun _ zs => zs) := by
  obtain ⟨oc, od, kV, doc, pm, an, cdv, ct, osl, rfl, lk, hcd⟩ := F.ex
  exact ⟨fun s us ws _ h1 h2 => match us, ws, h1, h2 with | [], [_], _, _ => .of_eq rfl, fun r1 r2 => r2⟩
theorem kbn_greatest (F : Fun K "greatest_of" "greatest_of" sGreatest f fd) : KBn K fd ["count"] 0 ["count"] (fun _ ws => ws) (fun _ zs => zs) := by
  obtain ⟨oc, od, kV, doc, pm, an, cdv, ct, osl, rfl, lk, hcd⟩ := F.ex
  exact ⟨fun s us ws _ h1 h2 => match us, ws, h1, h2 with | [], [_], _, _ => .of_eq rfl, fun r1 r2 => r2⟩
theorem kbn_is1 (F : Fun K "is_count" "is_count" sIsCount f fd) : KBn K fd ["thing", "names"] 0 ["thing", "names"] (fun _ ws => ws) (fun _ zs => zs) := by
  obtain ⟨oc, od, kV, doc, pm, an, cdv, ct, osl, rfl, lk, hcd⟩ := F.ex
  exact ⟨fun s us ws _ h1 h2 => match us, ws, h1, h2 with | [], [_, _], _, _ => .of_eq rfl, fun r1 r2 => r2⟩
theorem kbn_is2 (F : Fun K "is_count" "is_count" sIsCount f fd) : KBn K fd ["thing", "names"] 0 ["names", "thing"] (fun _ ws => ws.reverse) (fun _ zs => zs.reverse) := by
  obtain ⟨oc, od, kV, doc, pm, an, cdv, ct, osl, rfl, lk, hcd⟩ := F.ex
  exact ⟨fun s us ws _ h1 h2 => match us, ws, h1, h2 with | [], [_, _], _, _ => .of_eq rfl, fun r1 r2 => r2.reverse⟩
end
/-! ### data that repr shows -/
structure Fin1 (d : PyData) (wt dp : Nat) : Prop where
  lay : PyData.canLay0 d = true
  lv : PyData.leavesShort 13 d = true
  sh : PyData.showable d = true
  w : PyData.weight d ≤ wt
  d : PyData.depth d ≤ dp
structure FinL (ds : List PyData) (wt dp : Nat) : Prop where
  lay : PyData.canLayAll0 ds = true
  lv : PyData.leavesShortAll 13 ds = true
  sh : PyData.showableAll ds = true
  w : PyData.weightAll ds ≤ wt
  d : PyData.depthAll ds ≤ dp
theorem fin_nil : FinL [] 0 0 := ⟨rfl, rfl, rfl, Nat.le_refl _, Nat.le_refl _⟩
theorem fin_cons {x : PyData} {r : List PyData} {w1 w2 d1 d2 : Nat} (h : Fin1 x w1 d1) (g : FinL r w2 d2) : FinL (x :: r) (w1 + 1 + w2) (max d1 d2) :=
  ⟨by simp only [PyData.canLayAll0, h.lay, g.lay, Bool.and_true], by simp only [PyData.leavesShortAll, h.lv, g.lv, Bool.and_true], by simp only [PyData.showableAll, h.sh, g.sh, Bool.and_true],
    by have := h.w; have := g.w; simp only [PyData.weightAll]; omega, by have := h.d; have := g.d; simp only [PyData.depthAll]; omega⟩
theorem FinL.le {r : List PyData} {w1 w2 d1 d2 : Nat} (h : FinL r w1 d1) (a : w1 ≤ w2) (b : d1 ≤ d2) : FinL r w2 d2 := ⟨h.lay, h.lv, h.sh, Nat.le_trans h.w a, Nat.le_trans h.d b⟩
theorem fin_all {w d : Nat} : ∀ {r : List PyData}, (∀ x ∈ r, Fin1 x w d) → FinL r (r.length * (w + 1)) d
  | [], _ => fin_nil.le (Nat.zero_le _) (Nat.zero_le _)
  | x :: r, h => (fin_cons (h x (List.mem_cons_self ..)) (fin_all fun y hy => h y (List.mem_cons_of_mem _ hy))).le (by rw [List.length_cons, Nat.succ_mul]; omega) (by omega)
theorem fin_tup {ds : List PyData} {w d : Nat} (h : FinL ds w d) : Fin1 (.tuple ds) w (d + 1) :=
  ⟨by simp only [PyData.canLay0, h.lay], by simp only [PyData.leavesShort, h.lv], by simp only [PyData.showable, h.sh], by simp only [PyData.weight, h.w], by simp only [PyData.depth]; have := h.d; omega⟩
theorem fin_lst {ds : List PyData} {w d : Nat} (h : FinL ds w d) : Fin1 (.list ds) w (d + 1) :=
  ⟨by simp only [PyData.canLay0, h.lay], by simp only [PyData.leavesShort, h.lv], by simp only [PyData.showable, h.sh], by simp only [PyData.weight, h.w], by simp only [PyData.depth]; have := h.d; omega⟩
theorem fin_bl {b : Bool} : Fin1 (.bool b) 0 0 := ⟨by simp only [PyData.canLay0], by simp only [PyData.leavesShort], by simp only [PyData.showable], by simp only [PyData.weight, Nat.le_refl], by simp only [PyData.depth, Nat.le_refl]⟩
theorem fin_int {i : Int} (h1 : -1000000 ≤ i) (h2 : i ≤ 1000000) : Fin1 (.int i) 31 0 := by
  have e : i.natAbs < 2 ^ 30 := by
    have : (2 : Nat) ^ 30 = 1073741824 := by decide
    omega
  have lg : i.natAbs.log2 < 30 := by
    by_cases z : i.natAbs = 0
    · rw [z]; decide
    · exact (Nat.log2_lt z).mpr e
  refine ⟨by simp only [PyData.canLay0], ?_, ?_, ?_, by simp only [PyData.depth, Nat.le_refl]⟩
  · simp only [PyData.leavesShort]
    refine decide_eq_true (PyData.shown_int_le ?_)
    have : (10 : Nat) ^ 12 = 1000000000000 := by decide
    omega
  · simp only [PyData.showable]
    exact decide_eq_true (by omega)
  · simp only [PyData.weight]
    split <;> omega
theorem fin_str {z : Str} (h : NmOk z) : Fin1 (.str z) 8 0 := by
  refine ⟨?_, ?_, by simp only [PyData.showable], ?_, by simp only [PyData.depth, Nat.le_refl]⟩
  · simp only [PyData.canLay0, PyData.strOk]
    rw [Array.all_eq_true]
    intro i hi
    have := h.2.2 z.cps[i] (by simp)
    exact decide_eq_true (by omega)
  · simp only [PyData.leavesShort]
    refine List.all_eq_true.mpr fun ch hc => decide_eq_true ?_
    have := h.2.2 ch hc
    have : (128 : Nat) < 16 ^ 8 := by decide
    omega
  · simp only [PyData.weight]
    exact h.2.1
mutual
theorem dq_dp {K : PySem.W.Frag} {s c : Addr} {H : Hp} : ∀ {d : PyData} {v : V}, PyData.canLay0 d = true → Dq s c H d v → Dp K H v d
  | .none, _, _, h => by rw [show _ = V.non from h]; exact .non
  | .bool b, _, _, h => by rw [show _ = V.bl b from h]; exact .bl b
  | .int i, _, _, h => by rw [show _ = V.int i from h]; exact .int i
  | .str x, _, _, h => by rw [show _ = V.str x from h]; exact .str x
  | .list ds, _, k, h => by
    obtain ⟨a, xs, rfl, _, _, h3, h4⟩ := h
    exact .lst (.inl (.inl h3)) (dqL_dp (by simpa only [PyData.canLay0] using k) h4)
  | .tuple ds, _, k, h => by
    obtain ⟨a, xs, rfl, _, _, h3, h4⟩ := h
    exact .tup (.inl (.inl h3)) (dqL_dp (by simpa only [PyData.canLay0] using k) h4)
  | .dict _, _, k, _ => by simp only [PyData.canLay0] at k; cases k
theorem dqL_dp {K : PySem.W.Frag} {s c : Addr} {H : Hp} : ∀ {ds : List PyData} {vs : List V}, PyData.canLayAll0 ds = true → DqL s c H ds vs → DpAll K H vs ds
  | [], _, _, h => by rw [show _ = [] from h]; exact .nil
  | d :: ds, _, k, h => by
    obtain ⟨v, r, rfl, h1, h2⟩ := h
    have k' : (PyData.canLay0 d && PyData.canLayAll0 ds) = true := by simpa only [PyData.canLayAll0] using k
    rw [Bool.and_eq_true] at k'
    exact .cons (dq_dp k'.1 h1) (dqL_dp k'.2 h2)
end
theorem repr_dq {K : PySem.W.Frag} {s c : Addr} {H : Hp} {Q : VK} {d : PyData} {v : V} {wt dp : Nat} (h : Dq s c H d v) (F : Fin1 d wt dp) (hw : wt ≤ 1000000) (hd : dp ≤ 64) (hs : KG.shows d = true) (q : Q (.str d.shown) H) : KG.rRepr K [v] H Q := by
  have h1 := F.w
  have h2 := F.d
  refine ⟨v, d, rfl, dq_dp F.lay h, hs, ?_, F.sh, PyData.shown_fits (B := 13) (by decide) (by decide) F.lv ?_, q⟩
  · show (PyData.canLay0 d && decide (PyData.depth d ≤ 64)) = true
    rw [F.lay, decide_eq_true (by omega)]; rfl
  · have : (2 : Nat) ^ 20 = 1048576 := by decide
    omega
theorem dq_ints {s c : Addr} {H : Hp} : ∀ (ns : List Int), DqL s c H (ns.map PyData.int) (ns.map V.int)
  | [] => rfl
  | n :: r => ⟨_, _, rfl, rfl, dq_ints r⟩
theorem dq_bls {s c : Addr} {H : Hp} : ∀ (ns : List Bool), DqL s c H (ns.map PyData.bool) (ns.map V.bl)
  | [] => rfl
  | n :: r => ⟨_, _, rfl, rfl, dq_bls r⟩
theorem dq_strs {s c : Addr} {H : Hp} : ∀ (ns : List Str), DqL s c H (ns.map PyData.str) (ns.map V.str)
  | [] => rfl
  | n :: r => ⟨_, _, rfl, rfl, dq_strs r⟩
end K3

set_option Elab.async false
set_option linter.all false
set_option maxRecDepth 100000
set_option maxHeartbeats 1000000
namespace K3
open PySem PySem.Spec PyProof.Rows L2
abbrev sSums : Stmt := topS 29
theorem scSums : FnScope ["stream", "whole", "words", "name", "known", "kept", "due", "times", "k", "ends", "told", "size"] ["stream", "whole", "words"] (defScope sSums) := ⟨rfl, rfl, rfl, by decide +kernel, rfl, by decide +kernel, by decide +kernel⟩
/-! ### a dict of pairs -/
def mergeT (m l : Tms) : Tms := l.foldl (fun a p => put a p.1 p.2) m
theorem mergeT_cons (m : Tms) (p : Str × Int) (l : Tms) : mergeT m (p :: l) = mergeT (put m p.1 p.2) l := rfl
theorem merge_enc : ∀ {l m : Tms}, (nms m).Nodup → mergeK (enc m) (enc l) = enc (mergeT m l) ∧ (nms (mergeT m l)).Nodup
  | [], m, h => ⟨rfl, h⟩
  | p :: l, m, h => by
    have ih := merge_enc (l := l) (nd_put (n := p.1) (k := p.2) h)
    refine ⟨?_, ih.2⟩
    rw [mergeT_cons, ← ih.1, ← enc_put p.1 p.2 m h]
    rfl
theorem put_val {m : Tms} {n : Str} {k : Int} {P : Str × Int → Prop} (hm : ∀ p ∈ m, P p) (hp : ∀ x, P (x, k) ) : ∀ p ∈ put m n k, P p := by
  induction m with
  | nil =>
    intro p h
    rcases List.mem_cons.mp (show p ∈ [(n, k)] from h) with h | h
    · subst h; exact hp n
    · cases h
  | cons q r ih =>
    intro p h
    have h' : p ∈ (if q.1 = n then (q.1, k) :: r else q :: put r n k) := h
    by_cases e : q.1 = n
    · rw [if_pos e] at h'
      rcases List.mem_cons.mp h' with h | h
      · subst h; exact hp _
      · exact hm p (List.mem_cons_of_mem _ h)
    · rw [if_neg e] at h'
      rcases List.mem_cons.mp h' with h | h
      · subst h; exact hm _ (List.mem_cons_self ..)
      · exact ih (fun p hp => hm p (List.mem_cons_of_mem _ hp)) p h
/-- names and numbers at their bounds -/
def TOk (p : Str × Int) : Prop := NmOk p.1 ∧ 0 ≤ p.2 ∧ p.2 ≤ 12
theorem put_ok {n : Str} {k : Int} (h : TOk (n, k)) : ∀ {m : Tms}, (∀ p ∈ m, TOk p) → ∀ p ∈ put m n k, TOk p
  | [], _, p, hp => by
    rcases List.mem_cons.mp (show p ∈ [(n, k)] from hp) with e | e
    · subst e; exact h
    · cases e
  | q :: r, hm, p, hp => by
    have h' : p ∈ (if q.1 = n then (q.1, k) :: r else q :: put r n k) := hp
    by_cases e : q.1 = n
    · rw [if_pos e] at h'
      rcases List.mem_cons.mp h' with z | z
      · subst z; rw [e]; exact h
      · exact hm p (List.mem_cons_of_mem _ z)
    · rw [if_neg e] at h'
      rcases List.mem_cons.mp h' with z | z
      · subst z; exact hm _ (List.mem_cons_self ..)
      · exact put_ok h (fun p hp => hm p (List.mem_cons_of_mem _ hp)) p z
theorem len_put {n : Str} {k : Int} : ∀ {m : Tms}, (put m n k).length ≤ m.length + 1
  | [] => Nat.le_refl _
  | q :: r => by
    show (if q.1 = n then (q.1, k) :: r else q :: put r n k).length ≤ _
    by_cases e : q.1 = n
    · rw [if_pos e]; simp only [List.length_cons]; omega
    · rw [if_neg e]; have := len_put (n := n) (k := k) (m := r); simp only [List.length_cons]; omega
theorem mem_put_of {n j : Str} {k : Int} {m : Tms} (h : j = n ∨ j ∈ nms m) : j ∈ nms (put m n k) := by
  rw [nms_put]
  by_cases e : n ∈ nms m
  · rw [if_pos e]
    rcases h with h | h
    · rw [h]; exact e
    · exact h
  · rw [if_neg e]
    rcases h with h | h
    · rw [h]; exact List.mem_append_right _ (List.mem_cons_self ..)
    · exact List.mem_append_left _ h
theorem merge_facts : ∀ {l m : Tms}, (∀ p ∈ m, TOk p) → (∀ p ∈ l, TOk p) → (∀ p ∈ mergeT m l, TOk p) ∧ (mergeT m l).length ≤ m.length + l.length ∧ (∀ j, j ∈ nms m ∨ j ∈ nms l → j ∈ nms (mergeT m l))
  | [], m, h, _ => ⟨h, Nat.le_refl _, fun j e => e.elim id fun e => nomatch e⟩
  | p :: l, m, h, g => by
    obtain ⟨a, b, c⟩ := merge_facts (l := l) (m := put m p.1 p.2) (put_ok (g p (List.mem_cons_self ..)) h) fun q hq => g q (List.mem_cons_of_mem _ hq)
    refine ⟨a, ?_, fun j e => ?_⟩
    · rw [mergeT_cons, List.length_cons]
      have := len_put (n := p.1) (k := p.2) (m := m)
      omega
    · rw [mergeT_cons]
      refine c j ?_
      rcases e with e | e
      · exact .inl (mem_put_of (.inr e))
      · rcases List.mem_cons.mp (show j ∈ p.1 :: nms l from e) with e | e
        · exact .inl (mem_put_of (.inl e))
        · exact .inr e
theorem coef_bd : ∀ {m : Tms} (n : Str), (∀ p ∈ m, TOk p) → 0 ≤ coef m n ∧ coef m n ≤ 12
  | [], n, _ => ⟨Int.le_refl _, by show (0 : Int) ≤ 12; decide⟩
  | p :: r, n, h => by
    rw [coef_cons]
    by_cases e : p.1 = n
    · rw [if_pos e]; exact (h p (List.mem_cons_self ..)).2
    · rw [if_neg e]; exact coef_bd n fun q hq => h q (List.mem_cons_of_mem _ hq)
theorem allT_paired {H : Hp} : ∀ {l : Tms} {vs : List V}, AllT H vs l → ∃ ps : List Addr, vs = ps.map V.ref ∧ Paired (fun p (kv : Key × V) => H p = some (.tup [kV kv.1, kv.2])) ps (enc l)
  | [], vs, h => ⟨[], List.length_eq_zero_iff.mp h.1, .nil⟩
  | p :: l, vs, h => by
    obtain ⟨v, e1, b, rfl, hb⟩ := h.2 0 p rfl
    cases vs with
    | nil => cases e1
    | cons u us =>
      cases e1
      obtain ⟨ps, rfl, hp⟩ := allT_paired (l := l) (vs := us) ⟨Nat.succ.inj h.1, fun i q hq => h.2 (i + 1) q hq⟩
      exact ⟨b :: ps, rfl, .cons hb hp⟩
theorem paired_dq {s c : Addr} {H H0 : Hp} (S1 : H0 s ≠ none) (S2 : H0 c ≠ none) : ∀ {m : Tms} {ts : List Addr}, (∀ t ∈ ts, H0 t = none) → Paired (fun (t : Addr) (q : Key × V) => H t = some (.tup [kV q.1, q.2])) ts (enc m) → DqL s c H (m.map td) (ts.map V.ref)
  | [], ts, n, h => by
    cases h
    rfl
  | p :: m, ts, n, h => by
    cases h with
    | cons h1 h2 =>
      rename_i a l
      have na := n a (List.mem_cons_self ..)
      refine ⟨_, _, rfl, ⟨a, _, rfl, fun e => S1 (by rw [← e]; exact na), fun e => S2 (by rw [← e]; exact na), h1, _, _, rfl, rfl, _, _, rfl, rfl, rfl⟩, paired_dq S1 S2 (fun t ht => n t (List.mem_cons_of_mem _ ht)) h2⟩
theorem sum_mul (k : Int) : ∀ ts : Tms, (ts.map fun p => p.2 * k).sum = k * (ts.map (·.2)).sum
  | [] => by simp
  | p :: r => by
    rw [List.map_cons, List.map_cons, List.sum_cons, List.sum_cons, sum_mul k r, Int.mul_add, Int.mul_comm p.2 k]
theorem fin_td {p : Str × Int} (h : TOk p) : Fin1 (td p) 50 1 := by
  have := fin_tup (fin_cons (fin_str h.1) (fin_cons (fin_int (i := p.2) (by have := h.2.1; omega) (by have := h.2.2; omega)) fin_nil))
  exact ⟨this.lay, this.lv, this.sh, Nat.le_trans this.w (by decide), Nat.le_trans this.d (by decide)⟩
theorem fin_tds {m : Tms} (h : ∀ p ∈ m, TOk p) : FinL (m.map td) (m.length * 51) 1 := by
  have := fin_all (r := m.map td) (w := 50) (d := 1) fun x hx => by
    obtain ⟨p, hp, rfl⟩ := List.mem_map.mp hx
    exact fin_td (h p hp)
  rw [List.length_map] at this
  exact this
end K3

set_option Elab.async false
set_option linter.all false
set_option maxRecDepth 100000
set_option maxHeartbeats 1000000
namespace K3
open PySem PySem.Spec PyProof.Rows L2
section
variable {P : Program} {w : World} {K : PySem.W.Frag} {mg : Str → Option Value} {base : Heap}
def scEnds : Scope := { kind := .function, names := [(".0", .local), ("size", .cell), ("sum", .globalImplicit), ("whole", .cell)], isGenerator := false, isCoroutine := false, more := [] }
theorem paired_sq {H : Hp} : ∀ {ps : List Addr} {l : List (Key × V)}, Paired (fun p (kv : Key × V) => H p = some (.tup [kV kv.1, kv.2])) ps l → Paired (fun p kv => SqT K H p [kV kv.1, kv.2]) ps l
  | _, _, .nil => .nil
  | _, _, .cons h r => .cons (.inl (.inl h)) (paired_sq r)
theorem sum_bd {m : Tms} (h : ∀ p ∈ m, TOk p) : ∀ {ts : Tms}, (∀ p ∈ ts, 1 ≤ p.2 ∧ p.2 ≤ 3) → 0 ≤ (ts.map fun p => p.2 * coef m p.1).sum ∧ (ts.map fun p => p.2 * coef m p.1).sum ≤ 36 * ts.length ∧ 0 ≤ (ts.map (·.2)).sum ∧ (ts.map (·.2)).sum ≤ 3 * ts.length
  | [], _ => by simp
  | p :: r, g => by
    obtain ⟨a, b, c, d⟩ := sum_bd h (ts := r) fun q hq => g q (List.mem_cons_of_mem _ hq)
    obtain ⟨g1, g2⟩ := g p (List.mem_cons_self ..)
    obtain ⟨c1, c2⟩ := coef_bd p.1 h
    have e1 : 0 ≤ p.2 * coef m p.1 := Int.mul_nonneg (by omega) c1
    have e2 : p.2 * coef m p.1 ≤ 3 * 12 := Int.le_trans (Int.mul_le_mul_of_nonneg_right g2 c1) (Int.mul_le_mul_of_nonneg_left c2 (by decide))
    rw [List.map_cons, List.map_cons, List.sum_cons, List.sum_cons, List.length_cons]
    refine ⟨by omega, by omega, by omega, by omega⟩
theorem fin_ints {ns : List Int} (h : ∀ n ∈ ns, -1000000 ≤ n ∧ n ≤ 1000000) : FinL (ns.map PyData.int) (ns.length * 32) 0 := by
  have := fin_all (r := ns.map PyData.int) (w := 31) (d := 0) fun x hx => by
    obtain ⟨n, hn, rfl⟩ := List.mem_map.mp hx
    exact fin_int (h n hn).1 (h n hn).2
  rw [List.length_map] at this
  exact this
theorem repr_dqN {K : PySem.W.Frag} {s c : Addr} {H : Hp} {Q : VK} {σ : L2.St} {d : PyData} {v : V} {wt dp : Nat} (h : Dq s c H d v) (F : Fin1 d wt dp) (hw : wt ≤ 1000000) (hd : dp ≤ 64) (hs : KG.shows d = true) (q : Q (.str d.shown) H) :
    tNil σ H fun xs H2 => KG.rRepr K (v :: xs) H2 Q := repr_dq (K := K) h F hw hd hs q
/-- the sums' text -/
structure TxC (K : PySem.W.Frag) (mg : Str → Option Value) where
  dict : mg "dict" = none
  list : mg "list" = none
  repr : mg "repr" = none
  range : mg "range" = none
  sum : mg "sum" = none
  fC : Addr
  fL : Addr
  fG : Addr
  dC : FuncData
  dL : FuncData
  dG : FuncData
  FC : Fun K "count_at" "count_at" sCountAt fC dC
  FL : Fun K "least_of" "least_of" sLeast fL dL
  FG : Fun K "greatest_of" "greatest_of" sGreatest fG dG
  bC : Binds K dC ["count", "sizes"] []
  bL : Binds K dL ["count"] []
  bG : Binds K dG ["count"] []
  kC : KBn K dC ["count", "sizes"] 0 ["sizes", "count"] (fun _ ws => ws.reverse) (fun _ zs => zs.reverse)
  kL : KBn K dL ["count"] 0 ["count"] (fun _ ws => ws) (fun _ zs => zs)
  kG : KBn K dG ["count"] 0 ["count"] (fun _ ws => ws) (fun _ zs => zs)
  gC : mg "count_at" = some (.ref fC)
  gL : mg "least_of" = some (.ref fL)
  gG : mg "greatest_of" = some (.ref fG)
  c12 : ∃ t, mg "MOST_SIZE" = some (.int 12 t)
def spSums : Sp := fun vs H Q _ => ∃ (s c p : Addr) (n : Int) (v : V) (cn : Cnt) (ws : List Str), vs = [.ref s, v, .ref p] ∧ n + 40 ≤ 900000 ∧ Sm s c n H ∧ p ≠ s ∧ p ≠ c ∧ H p = some (.lst (ws.map V.str)) ∧ ws.length ≤ 4 ∧ (∀ z ∈ ws, NmOk z) ∧
  IsC H v cn ∧ Good cn.2 ∧ -20 ≤ cn.1 ∧ cn.1 ≤ 20 ∧ (∀ q ∈ cn.2, q.1 ∈ ws) ∧ ∀ H' : Hp, Kp s c H H' → Sm s c (n + 40) H' → Q (.bl true) H'
theorem ok_sums {f : Addr} {fd : FuncData} (F : Fun K "_law_sums_right" "_law_sums_right" sSums f fd) (S : TxS K mg) (C : TxC K mg) : KG.FnG P w K mg base 4 f fd ["stream", "whole", "words"] spSums := by
  have GT : FnOk P w K mg base CX0 2 S.fT S.dT ["stream", "many"] spTake := ok_take S.FT S.FM S.bM S.gM
  have GO : FnOk P w K mg base CX0 3 S.fO S.dO ["stream", "some"] spOf := ok_of S
  have GC : FnOk P w K mg base CX0 1 C.fC C.dC ["count", "sizes"] spCountAt := ok_count_at C.FC C.sum
  have GL : FnOk P w K mg base CX0 1 C.fL C.dL ["count"] (spOne leastv) := ok_least C.FL C.sum
  have GG : FnOk P w K mg base CX0 1 C.fG C.dG ["count"] (spOne greatv) := ok_greatest C.FG C.sum C.c12
  refine KG.FnG.of F scSums (fun vs H Q E h => ?_) (fun cdv A outer s0 H vs Q E hr hg0 h => ?_)
  · obtain ⟨s, c, p, n, v, cn, ws, rfl, _⟩ := h
    rfl
  · obtain ⟨s, c, p, n, v, cn, ws, rfl, hn, hS, p1, p2, hp, hl, hok, hC, hgd, ha0, ha1, hw, q⟩ := h
    have hr2 := hr.mono (show 2 ≤ 3 by decide)
    have hr1 := hr.mono (show 1 ≤ 3 by decide)
    have hu := hu_of hr
    have hrG : (A.deeper (envOfC "_law_sums_right" (defScope sSums) s0.heap.objs.size f cdv)).units + 66 < cLine := by
      have := hr.un
      omega
    refine ⟨_, (pss_cons (ps_set (i := 4) scSums.nd rfl (.inl rfl) (pe_callTy (call_dictP rfl) (by rfl) C.dict (by decide +kernel) (pa_cons (pe_lc (own := [("name", 3)]) (g := gName 3) (tt := tYes) rfl scSums.nd (pi_list (pv 2)) (blkOk_by (N := ["stream", "whole", "words", "name", "known", "kept", "due", "times", "k", "ends", "told", "size"]) (sc := (defScope sSums)) (by decide +kernel)) (fun _ _ _ _ _ => (pg_name (i := 3) scSums.nd rfl (.inl rfl))) (fun _ _ _ _ _ => pts_nil) (fun _ _ _ _ _ => (pe_tup (pa_cons (pv 3) (pa_cons (pe_call GO hr (by rfl) S.gO S.FO.kp S.bO .nil pass0 (pa_cons (pv 0) (pa_cons (pe_lst (pa_cons pe_int (pa_cons pe_int (pa_cons pe_int (pa_cons pe_int (pa_cons (pe_op op_add pe_int (pe_call GT hr2 (by rfl) S.gT S.FT.kp S.bT .nil pass0 (pa_cons (pv 0) (pa_cons pe_int pa_nil)))) pa_nil)))))) pa_nil))) pa_nil))))) pa_nil)))
      (pss_cons (ps_set (i := 5) scSums.nd rfl (.inl rfl) (pe_callB (KG.call_reprD hg0 hrG) (by rfl) C.repr (by decide +kernel) (pa_cons (LiI.pe_listItems rfl (pv 4) (by rfl) C.list (by decide +kernel)) pa_nil)))
      (pss_cons (ps_set (i := 6) scSums.nd rfl (.inl rfl) (pe_ix ix_tup (pv 1) pe_int (fun _ _ => rfl)))
      (pss_cons (ps_for PassesOwn.never rfl (pi_tup (pe_ix ix_tup (pv 1) pe_int (fun _ _ => rfl))) (pg_tup rfl (pgs_cons (pg_name (i := 3) scSums.nd rfl (.inl rfl)) (pgs_cons (pg_name (i := 7) scSums.nd rfl (.inl rfl)) pgs_nil))) (pss_one (ps_for PassesOwn.never rfl (pi_range1 (by rfl) C.range (pa_cons (pv 7) pa_nil)) (pg_name (i := 8) scSums.nd rfl (.inl rfl)) (pss_one (ps_set (i := 6) scSums.nd rfl (.inl rfl) (pe_op op_add (pv 6) (pe_dget hu (pv 4) (pv 3) (fun _ _ => rfl))))))))
      (pss_cons (ps_if (pt_cmpR op_ne (pe_callB (KG.call_reprD hg0 hrG) (by rfl) C.repr (by decide +kernel) (pa_cons (pe_lst (pa_cons (pe_call GC hr1 (by rfl) C.gC C.FC.kp C.bC .nil pass0 (pa_cons (pv 1) (pa_cons (pv 4) pa_nil))) (pa_cons (K3.pe_callN0 GC hr1 (by rfl) C.gC C.FC.kp C.kC pass0 (pk_cons (pv 4) (pk_cons (pv 1) pk_nil))) pa_nil))) pa_nil)) (pe_callB (KG.call_reprD hg0 hrG) (by rfl) C.repr (by decide +kernel) (pa_cons (pe_op op_rep (pe_lst (pa_cons (pv 6) pa_nil)) pe_int) pa_nil)) (nomark _)) (pss_one (ps_ret pe_bl)) pss_nil)
      (pss_cons (ps_setLc (i := 9) (own := [("size", 11)]) (g := gName 11) (tt := tYes) rfl scSums.nd rfl rfl (sw_true rfl rfl rfl (by decide +kernel)) (pi_tup (pe_tup (pa_cons pe_int (pa_cons pe_int pa_nil)))) (blkOk_by (N := ["stream", "whole", "words", "name", "known", "kept", "due", "times", "k", "ends", "told", "size"]) (sc := (defScope sSums)) (by decide +kernel)) (fun _ _ _ _ _ => (pg_name (i := 11) scSums.nd rfl (.inr rfl))) (fun _ _ _ _ _ => pts_nil) (fun _ _ _ _ _ => (pe_op op_add (pe_ix (r := rIxT K) ix_tup (pv 1) pe_int (fun _ _ => rfl)) (pe_callB (id := "sum") (r := rSum K) (cr_sum rfl) (by rfl) C.sum (by decide +kernel) (pa_cons (pe_lc (own := [("name", 3), ("times", 7)]) (wi := iTup K (tOp (rIxT K) (tVar 1) (tC (.int 1)))) (g := gTup K 2 (gCons (gName 3) (gCons (gName 7) gNil))) (tt := tYes) rfl scSums.nd (pi_tup (pe_ix (r := rIxT K) ix_tup (pv 1) pe_int (fun _ _ => rfl))) (blkOk_by (N := ["stream", "whole", "words", "name", "known", "kept", "due", "times", "k", "ends", "told", "size"]) (sc := scEnds) (by decide +kernel)) (fun _ _ _ _ _ => (pg_tup rfl (pgs_cons (pg_name (i := 3) scSums.nd rfl (.inl rfl)) (pgs_cons (pg_name (i := 7) scSums.nd rfl (.inl rfl)) pgs_nil)))) (fun _ _ _ _ _ => pts_nil) (fun _ _ _ _ _ => (pe_op op_mul (pv 7) (pv 11)))) pa_nil)))))
      (pss_cons (ps_set (i := 10) scSums.nd rfl (.inl rfl) (pe_lst (pa_cons (pe_call GL hr1 (by rfl) C.gL C.FL.kp C.bL .nil pass0 (pa_cons (pv 1) pa_nil)) (pa_cons (pe_call GG hr1 (by rfl) C.gG C.FG.kp C.bG .nil pass0 (pa_cons (pv 1) pa_nil)) (pa_cons (K3.pe_callN0 GL hr1 (by rfl) C.gL C.FL.kp C.kL pass0 (pk_cons (pv 1) pk_nil)) (pa_cons (K3.pe_callN0 GG hr1 (by rfl) C.gG C.FG.kp C.kG pass0 (pk_cons (pv 1) pk_nil)) pa_nil))))))
      (pss_one (ps_ret (pe_and (pe_cmpR op_eq (pe_callB (KG.call_reprD hg0 hrG) (by rfl) C.repr (by decide +kernel) (pa_cons (pv 10) pa_nil)) (pe_callB (KG.call_reprD hg0 hrG) (by rfl) C.repr (by decide +kernel) (pa_cons (pe_op op_rep (pv 9) pe_int) pa_nil)) (nomark _)) (pe_one (pe_cmpR op_eq (pe_callB (KG.call_reprD hg0 hrG) (by rfl) C.repr (by decide +kernel) (pa_cons (LiI.pe_listItems rfl (pv 4) (by rfl) C.list (by decide +kernel)) pa_nil)) (pv 5) (nomark _))))))))))))), ?_⟩
    -- known
    refine ⟨_, rfl, p, rfl, ⟨_, .inl (.inl hp)⟩, fun D nD => ?_⟩
    have dn := hS.ns nD
    refine lc_list (K := K) (a := p) (xs := ws.map V.str) (fun i H' => Kp s c H H' ∧ Sm s c (n + 2 * (i : Nat)) H' ∧ ∃ (vs : List V) (l : Tms), H' D = some (.lst vs) ∧ AllT H' vs l ∧ nms l = ws.take i ∧ ∀ q ∈ l, 0 ≤ q.2 ∧ q.2 ≤ 12)
      ⟨Kp.new nD, (hS.kp1 nD _).le (by omega), [], [], upd_same, ⟨rfl, fun i p e => by cases e⟩, rfl, fun q h => by cases h⟩ (fun i H' hi h => .inl (.inl (h.1 _ _ p1 p2 hp))) (fun i x H' hx h => ?_) (fun H' h => ?_)
    · obtain ⟨k1, m1, vs, l, hD, hT, hN, hLo⟩ := h
      obtain ⟨y, hy, rfl⟩ : ∃ y, ws[i]? = some y ∧ x = .str y := by
        rw [List.getElem?_map] at hx
        cases e : ws[i]? with
        | none => rw [e] at hx; cases hx
        | some y => rw [e] at hx; cases hx; exact ⟨y, rfl, rfl⟩
      have hi : i < ws.length := (List.getElem?_eq_some_iff.mp hy).1
      refine ⟨rfl, ?_⟩
      refine ⟨_, rfl, _, rfl, _, rfl, s, c, 12, _, rfl, by decide, by decide, by omega, m1, fun r H1 r0 r1 k2 m2 => ?_⟩
      refine ⟨_, _, rfl, rfl, by show 5 ≤ sizeLine; exact le_size (by decide), fun L nL => ?_⟩
      have ln := m2.ns nL
      have s3 : Same H1 (upd H1 L (.lst [.int 1, .int 2, .int 3, .int 12, .int (1 + r)])) := same_upd nL
      refine ⟨s, c, L, _, _, rfl, by omega, m2.same s3, ln.1, ln.2, upd_same, List.cons_ne_nil _ _, (by show 5 ≤ 1000; decide), fun y2 H2 hy2 k3 m3 => ?_⟩
      obtain ⟨z, rfl, z0, z1⟩ : ∃ z : Int, y2 = .int z ∧ 0 ≤ z ∧ z ≤ 12 := by
        simp only [List.mem_cons, List.not_mem_nil, or_false] at hy2
        rcases hy2 with h | h | h | h | h <;> subst h
        · exact ⟨_, rfl, by decide, by decide⟩
        · exact ⟨_, rfl, by decide, by decide⟩
        · exact ⟨_, rfl, by decide, by decide⟩
        · exact ⟨_, rfl, by decide, by decide⟩
        · exact ⟨_, rfl, by omega, by omega⟩
      refine ⟨by show 2 ≤ sizeLine; exact le_size (by decide), fun u nu => ?_⟩
      have k4 : Kp s c H' H2 := k2.trans ((Kp.of_same s3).trans k3)
      have un := m3.ns nu
      have hD3 := k4 _ _ dn.1 dn.2 hD
      have du : D ≠ u := ne_of_none hD3 nu
      have len : vs.length = i := by
        rw [hT.1]
        have : (nms l).length = (ws.take i).length := by rw [hN]
        rw [nms, List.length_map, List.length_take] at this
        omega
      refine ⟨_, by rw [upd_ne du]; exact hD3, by rw [len]; exact lt_size (by omega), ?_, ?_, _, l ++ [(y, z)], upd_same, ?_, ?_, fun p hp => ?_⟩
      · exact Kp.put ((k1.trans k4).trans (Kp.new nu)) nD
      · exact ((m3.kp1 nu _).put dn.1 dn.2).le (by omega)
      · have kt : Kt H' (upd (upd H2 u (.tup [.str y, .int z])) D (.lst (vs ++ [V.ref u]))) := ((Kt.of_kp m1 k4).trans (.of_same (same_upd nu))).trans (Kt.upd fun xs e => by
          rw [upd_ne du, hD3] at e; cases e)
        have hu : (upd (upd H2 u (.tup [.str y, .int z])) D (.lst (vs ++ [V.ref u]))) u = some (.tup [.str y, .int z]) := by rw [upd_ne (fun e => du e.symm), upd_same]
        have hT2 := hT.kt kt
        refine ⟨by rw [List.length_append, List.length_append, hT.1]; rfl, fun j p e => ?_⟩
        by_cases hj : j < l.length
        · rw [List.getElem?_append_left hj] at e
          obtain ⟨v, e1, e2⟩ := hT2.2 j p e
          exact ⟨v, by rw [List.getElem?_append_left (by rw [hT.1]; exact hj)]; exact e1, e2⟩
        · rw [List.getElem?_append_right (by omega)] at e
          rw [List.getElem?_append_right (by rw [hT.1]; omega), hT.1]
          generalize j - l.length = m at e
          cases m with
          | zero => cases e; exact ⟨_, rfl, u, rfl, hu⟩
          | succ m => cases e
      · rw [nms, List.map_append, take_snoc hy]
        show nms l ++ [y] = _
        rw [hN]
      · rcases List.mem_append.mp hp with h | h
        · exact hLo p h
        · rcases List.mem_cons.mp h with h | h
          · subst h; exact ⟨z0, z1⟩
          · cases h
    · obtain ⟨k1, m1, vs, l, hD, hT, hN, hLo⟩ := h
      rw [List.take_of_length_le (by rw [List.length_map]; exact Nat.le_refl _)] at hN
      rw [List.length_map] at m1
      obtain ⟨ps, rfl, hP⟩ := allT_paired hT
      refine ⟨D, ps, enc l, rfl, .inl (.inl hD), paired_sq hP, fun d nd => ?_⟩
      have mo := merge_enc (l := l) (m := []) List.nodup_nil
      have lok : ∀ q ∈ l, TOk q := fun q hq => ⟨hok _ (by rw [← hN]; exact List.mem_map_of_mem hq), hLo q hq⟩
      have ll : l.length ≤ 4 := by
        have : (nms l).length = ws.length := by rw [hN]
        rw [nms, List.length_map] at this
        omega
      obtain ⟨f1, f2, f3⟩ := merge_facts (l := l) (m := []) (fun q h => nomatch h) lok
      have eM : mergeK [] (enc l) = enc (mergeT [] l) := mo.1
      rw [eM]
      have fm : ∀ q ∈ cn.2, q.1 ∈ nms (mergeT [] l) := fun q hq => f3 _ (.inr (by rw [hN]; exact hw q hq))
      have lm : (mergeT [] l).length ≤ 4 := by
        have : ([] : Tms).length = 0 := rfl
        omega
      revert f1 fm lm
      generalize mergeT [] l = m
      intro f1 fm lm
      have s3 : Same H' (upd H' d (.dK (enc m))) := same_upd nd
      have m3 := m1.same s3
      have k3 := k1.trans (.of_same s3)
      have hd3 : (upd H' d (.dK (enc m))) d = some (.dK (enc m)) := upd_same
      have hC3 := hC.kt (Kt.of_kp hS k3)
      revert m3 k3 hd3 hC3
      generalize upd H' d (.dK (enc m)) = H3
      intro m3 k3 hd3 hC3
      obtain ⟨a, t, ts, rfl, ha, ht, hT⟩ := hC3
      have S1 : H3 s ≠ none ∧ H3 c ≠ none := by
        obtain ⟨_, cells, x, b, e, e1, e2, _⟩ := m3
        exact ⟨by rw [e1]; exact Option.some_ne_none _, by rw [e2]; exact Option.some_ne_none _⟩
      have items : ∀ {H9 : Hp} {σ9 : L2.St} (Q9 : VK), Same H3 H9 → Sm s c (n + 2 * (ws.length : Nat)) H9 → (∀ H', Same H9 H' → Q9 (.str (PyData.list (m.map td)).shown) H') → LiI.rItemsL (.ref d) H9 fun x H1 => tNil σ9 H1 fun xs H2 => KG.rRepr K (x :: xs) H2 Q9 := fun {H9} {σ9} Q9 s9 m9 q9 => by
        refine ⟨d, enc m, rfl, s9 _ _ hd3, fun H4 p4 ts4 s4 np4 nts4 pnt4 hp4 pr4 => ?_⟩
        have pn := m9.ns np4
        have T1 : H9 s ≠ none ∧ H9 c ≠ none := by
          obtain ⟨_, cells, x, b, e, e1, e2, _⟩ := m9
          exact ⟨by rw [e1]; exact Option.some_ne_none _, by rw [e2]; exact Option.some_ne_none _⟩
        exact repr_dq (s := s) (c := c) (d := .list (m.map td)) ⟨p4, _, rfl, pn.1, pn.2, hp4, paired_dq T1.1 T1.2 nts4 pr4⟩ (fin_lst (fin_tds f1)) (by omega) (by decide) rfl (q9 H4 s4)
      refine ⟨_, rfl, ?_⟩
      refine items _ (Same.refl H3) m3 fun H4 s4 => ?_
      generalize hκ : (PyData.list (m.map td)).shown = κ
      have ha4 := s4 _ _ ha
      have ht4 := s4 _ _ ht
      have hd4 := s4 _ _ hd3
      have hT4 := hT.kt (Kt.of_same s4)
      have m4 := m3.same s4
      -- due
      refine ⟨_, rfl, a, _, _, .int cn.1, rfl, rfl, .inl (.inl ha4), rfl, ?_⟩
      refine ⟨_, rfl, a, _, _, .ref t, rfl, rfl, .inl (.inl ha4), rfl, t, rfl, ⟨_, .inl (.inl ht4)⟩, ?_⟩
      refine for_tup (K := K) (a := t) (xs := ts) (fun i σ H' => ∃ x3 x7 x8, σ = [some (.ref s), some (.ref a), some (.ref p), x3, some (.ref d), some (.str κ), some (.int (cn.1 + ((cn.2.take i).map fun p => p.2 * coef m p.1).sum)), x7, x8, none, none, none] ∧ H' = H4)
        ⟨none, none, none, by simp only [List.take_zero, List.map_nil, List.sum_nil, Int.add_zero]; rfl, rfl⟩ (fun i σ H' hi h => by obtain ⟨_, _, _, _, rfl⟩ := h; exact .inl (.inl ht4)) (fun i x σ H' hx h => ?_) (fun σ H' h => ?_)
      · obtain ⟨x3, x7, x8, rfl, rfl⟩ := h
        obtain ⟨qp, hq, b, rfl, hb⟩ := hT4.at hx
        have hqm := List.mem_of_getElem? hq
        have hlo := hgd.lo qp hqm
        refine ⟨b, _, rfl, .inl (.inl hb), rfl, _, _, rfl, _, _, rfl, rfl, ?_⟩
        generalize hD0 : cn.1 + ((cn.2.take i).map fun p => p.2 * coef m p.1).sum = D0
        refine ⟨_, rfl, qp.2, rfl, by omega, by omega, ?_⟩
        refine for_range (n := qp.2.toNat) (fun j σ H'' => ∃ x8, σ = [some (.ref s), some (.ref a), some (.ref p), some (.str qp.1), some (.ref d), some (.str κ), some (.int (D0 + (j : Nat) * coef m qp.1)), some (.int qp.2), x8, none, none, none] ∧ H'' = H')
          ⟨x8, by rw [show ((0 : Nat) : Int) * coef m qp.1 = 0 by simp, Int.add_zero]; rfl, rfl⟩ (fun j σ H'' hj h => ?_) (fun σ H'' h => ?_)
        · obtain ⟨x8, rfl, rfl⟩ := h
          refine ⟨_, rfl, _, rfl, _, rfl, d, .int (coef m qp.1), rfl, dget_enc hd4 (fm qp hqm), _, _, rfl, rfl, ?_⟩
          refine ⟨some (.int (0 + (j : Nat))), ?_, rfl⟩
          have e : D0 + ((j + 1 : Nat) : Int) * coef m qp.1 = D0 + (j : Nat) * coef m qp.1 + coef m qp.1 := by
            rw [Int.natCast_add, Int.add_mul, Int.natCast_one, Int.one_mul, Int.add_assoc]
          rw [e]
          rfl
        · obtain ⟨x8, rfl, rfl⟩ := h
          refine ⟨some (.str qp.1), some (.int qp.2), x8, ?_, rfl⟩
          have e : cn.1 + ((cn.2.take (i + 1)).map fun p => p.2 * coef m p.1).sum = D0 + (qp.2.toNat : Nat) * coef m qp.1 := by
            rw [take_snoc hq, List.map_append, List.sum_append, ← Int.add_assoc, hD0, Int.toNat_of_nonneg (by omega)]
            simp
          rw [e]
      · obtain ⟨x3, x7, x8, rfl, rfl⟩ := h
        have eL : cn.2.take ts.length = cn.2 := List.take_of_length_le (by rw [hT4.1]; exact Nat.le_refl _)
        rw [eL]
        have hC4 : IsC H' (.ref a) cn := ⟨a, t, ts, rfl, ha4, ht4, hT4⟩
        have k4 : Kp s c H H' := k3.trans (.of_same s4)
        obtain ⟨v0, v1, l0, l1⟩ := sum_bd f1 hgd.lo
        have hfew := hgd.few
        generalize hx : cn.1 + (cn.2.map fun p => p.2 * coef m p.1).sum = x
        have hxv : val cn (coef m) = x := hx
        have bx : -1000000 ≤ x ∧ x ≤ 1000000 := by omega
        -- both ways of asking
        refine ⟨_, rfl, _, rfl, .ref a, d, cn, m, rfl, hC4, hgd, hd4, fm, fun H5 s5 => ?_⟩
        refine ⟨_, rfl, _, rfl, rfl, .ref a, d, cn, m, rfl, hC4.kt (.of_same s5), hgd, s5 _ _ hd4, fm, fun H6 s6 => ?_⟩
        rw [hxv]
        refine ⟨by show 2 ≤ sizeLine; exact le_size (by decide), fun L nL => ?_⟩
        have s46 := s5.trans s6
        have m6 := m4.same s46
        have ln := m6.ns nL
        have s7 : Same H6 (upd H6 L (.lst [.int x, .int x])) := same_upd nL
        refine repr_dqN (s := s) (c := c) (d := .list ([x, x].map PyData.int)) ⟨L, _, rfl, ln.1, ln.2, upd_same, dq_ints [x, x]⟩ (fin_lst (fin_ints (ns := [x, x]) fun n hn => by
          rcases List.mem_cons.mp hn with h | h
          · subst h; exact bx
          · rw [List.mem_singleton] at h; subst h; exact bx)) (by show 2 * 32 ≤ 1000000; decide) (by decide) rfl ?_
        have s47 := s46.trans s7
        revert s47
        generalize upd H6 L (.lst [.int x, .int x]) = H7
        intro s47
        refine ⟨_, rfl, by show 1 ≤ sizeLine; exact le_size (by decide), fun L2 nL2 => ?_⟩
        have s8 : Same H7 (upd H7 L2 (.lst [.int x])) := same_upd nL2
        refine ⟨L2, 2, [.int x], rfl, rfl, upd_same, by decide, by decide, by show 1 * 2 ≤ sizeLine; exact le_size (by decide), fun L3 nL3 => ?_⟩
        have s48 := s47.trans s8
        revert nL3 s48
        generalize upd H7 L2 (.lst [.int x]) = H8
        intro nL3 s48
        have l3n := (m4.same s48).ns nL3
        have s9 : Same H8 (upd H8 L3 (.lst (List.replicate (Int.toNat 2) [V.int x]).flatten)) := same_upd nL3
        refine repr_dqN (s := s) (c := c) (d := .list ([x, x].map PyData.int)) ⟨L3, _, rfl, l3n.1, l3n.2, upd_same, dq_ints [x, x]⟩ (fin_lst (fin_ints (ns := [x, x]) fun n hn => by
          rcases List.mem_cons.mp hn with h | h
          · subst h; exact bx
          · rw [List.mem_singleton] at h; subst h; exact bx)) (by show 2 * 32 ≤ 1000000; decide) (by decide) rfl ?_
        have s49 := s48.trans s9
        revert s49
        generalize upd H8 L3 (.lst (List.replicate (Int.toNat 2) [V.int x]).flatten) = H9
        intro s49
        refine ⟨rfl, _, rfl, ?_⟩
        rw [decide_eq_true rfl]
        refine iteF ?_
        -- the ends
        refine ⟨by show 2 ≤ sizeLine; exact le_size (by decide), fun E1 nE1 => ?_⟩
        have s10 : Same H' (upd H9 E1 (.tup [.int 1, .int 12])) := s49.trans (same_upd nE1)
        have hE1 : (upd H9 E1 (.tup [.int 1, .int 12])) E1 = some (.tup [.int 1, .int 12]) := upd_same
        revert s10 hE1
        generalize upd H9 E1 (.tup [.int 1, .int 12]) = HA
        intro s10 hE1
        refine ⟨E1, rfl, ⟨_, .inl (.inl hE1)⟩, fun D2 nD2 => ?_⟩
        refine lc_tup (K := K) (a := E1) (xs := ([1, 12] : List Int).map V.int) (fun i H'' => Same HA H'' ∧ H'' D2 = some (.lst (((([1, 12] : List Int).take i).map fun k => cn.1 + (cn.2.map fun p => p.2 * k).sum).map V.int))) ⟨same_upd nD2, upd_same⟩
          (fun i H'' hi h => .inl (.inl (h.1 _ _ hE1))) (fun i y H'' hy h => ?_) (fun H'' h => ?_)
        · obtain ⟨sA, hD2⟩ := h
          obtain ⟨k, hk, rfl⟩ : ∃ k, ([1, 12] : List Int)[i]? = some k ∧ y = .int k := by
            rw [List.getElem?_map] at hy
            cases e : ([1, 12] : List Int)[i]? with
            | none => rw [e] at hy; cases hy
            | some k => rw [e] at hy; cases hy; exact ⟨k, rfl, rfl⟩
          have kb : 0 ≤ k ∧ k ≤ 12 := by
            have := List.mem_of_getElem? hk
            simp only [List.mem_cons, List.not_mem_nil, or_false] at this
            rcases this with h | h <;> subst h <;> exact ⟨by decide, by decide⟩
          have s1A := s10.trans sA
          refine ⟨rfl, ?_⟩
          refine ⟨_, rfl, a, _, _, .int cn.1, rfl, rfl, .inl (.inl (s1A _ _ ha4)), rfl, ?_⟩
          refine ⟨_, rfl, a, _, _, .ref t, rfl, rfl, .inl (.inl (s1A _ _ ha4)), rfl, t, rfl, ⟨_, .inl (.inl (s1A _ _ ht4))⟩, fun D3 nD3 => ?_⟩
          refine lc_tup (K := K) (a := t) (xs := ts) (fun j H3 => Same H'' H3 ∧ H3 D3 = some (.lst (((cn.2.take j).map fun p => p.2 * k).map V.int))) ⟨same_upd nD3, upd_same⟩
            (fun j H3 hj h => .inl (.inl (h.1 _ _ (s1A _ _ ht4)))) (fun j z H3 hz h => ?_) (fun H3 h => ?_)
          · obtain ⟨sB, hD3⟩ := h
            obtain ⟨qp, hq, b, rfl, hb⟩ := hT4.at hz
            have hlo := hgd.lo qp (List.mem_of_getElem? hq)
            refine ⟨b, _, rfl, .inl (.inl (sB _ _ (s1A _ _ hb))), rfl, _, _, rfl, _, _, rfl, rfl, rfl, ?_⟩
            refine ⟨_, rfl, _, rfl, _, _, rfl, rfl, .inl ⟨by omega, by omega⟩, _, hD3, ?_, ?_⟩
            · rw [List.length_map, List.length_map, List.length_take]
              exact lt_size (by omega)
            · refine ⟨fun b' o e => ?_, ?_⟩
              · rw [upd_ne (ne_of_none e nD3)]; exact sB _ _ e
              · rw [upd_same, take_snoc hq, List.map_append, List.map_append]; rfl
          · obtain ⟨sB, hD3⟩ := h
            rw [eL] at hD3
            refine ⟨D3, _, rfl, .inl (.inl hD3), _, _, rfl, rfl, _, sB _ _ hD2, ?_, ?_⟩
            · rw [List.length_map, List.length_map, List.length_take]
              have : ([1, 12] : List Int).length = 2 := rfl
              exact lt_size (by omega)
            · refine ⟨fun b' o e => ?_, ?_⟩
              · rw [upd_ne (ne_of_none e nD2)]; exact sB _ _ (sA _ _ e)
              · rw [upd_same, take_snoc hk, List.map_append, List.map_append]; rfl
        · obtain ⟨sA, hD2⟩ := h
          have s1A := s10.trans sA
          have hD2' : H'' D2 = some (.lst [.int (leastv cn), .int (greatv cn)]) := by
            rw [hD2]
            show some (HO.lst [V.int (cn.1 + (cn.2.map fun p => p.2 * 1).sum), V.int (cn.1 + (cn.2.map fun p => p.2 * 12).sum)]) = _
            rw [sum_mul 1, sum_mul 12, Int.one_mul]
            rfl
          have hC5 := hC4.kt (.of_same s1A)
          have bl : -1000000 ≤ leastv cn ∧ leastv cn ≤ 1000000 := by
            show -1000000 ≤ cn.1 + (cn.2.map (·.2)).sum ∧ cn.1 + (cn.2.map (·.2)).sum ≤ 1000000
            omega
          have bg : -1000000 ≤ greatv cn ∧ greatv cn ≤ 1000000 := by
            show -1000000 ≤ cn.1 + 12 * (cn.2.map (·.2)).sum ∧ cn.1 + 12 * (cn.2.map (·.2)).sum ≤ 1000000
            omega
          have fins : Fin1 (.list ([leastv cn, greatv cn, leastv cn, greatv cn].map PyData.int)) (4 * 32) 1 := fin_lst (fin_ints (ns := [leastv cn, greatv cn, leastv cn, greatv cn]) fun n hn => by
            simp only [List.mem_cons, List.not_mem_nil, or_false] at hn
            rcases hn with h | h | h | h <;> subst h
            · exact bl
            · exact bg
            · exact bl
            · exact bg)
          refine ⟨_, rfl, .ref a, cn, rfl, hC5, hgd, fun HB sB => ?_⟩
          refine ⟨_, rfl, .ref a, cn, rfl, hC5.kt (.of_same sB), hgd, fun HC sC => ?_⟩
          have sBC := sB.trans sC
          refine ⟨_, rfl, rfl, .ref a, cn, rfl, hC5.kt (.of_same sBC), hgd, fun HD sD => ?_⟩
          have sBD := sBC.trans sD
          refine ⟨_, rfl, rfl, .ref a, cn, rfl, hC5.kt (.of_same sBD), hgd, fun HE sE => ?_⟩
          have sBE := sBD.trans sE
          refine ⟨by show 4 ≤ sizeLine; exact le_size (by decide), fun T1 nT1 => ?_⟩
          have s1E := s1A.trans sBE
          have t1n := (m4.same s1E).ns nT1
          have sF : Same HE (upd HE T1 (.lst [.int (leastv cn), .int (greatv cn), .int (leastv cn), .int (greatv cn)])) := same_upd nT1
          refine ⟨_, rfl, ?_⟩
          refine repr_dqN (s := s) (c := c) (d := .list ([leastv cn, greatv cn, leastv cn, greatv cn].map PyData.int)) ⟨T1, _, rfl, t1n.1, t1n.2, upd_same, dq_ints [leastv cn, greatv cn, leastv cn, greatv cn]⟩ fins (by decide) (by decide) rfl ?_
          have s1F := s1E.trans sF
          have hD3' := sF _ _ (sBE _ _ hD2')
          revert s1F hD3'
          generalize upd HE T1 (.lst [.int (leastv cn), .int (greatv cn), .int (leastv cn), .int (greatv cn)]) = HF
          intro s1F hD3'
          refine ⟨_, rfl, D2, 2, [.int (leastv cn), .int (greatv cn)], rfl, rfl, hD3', by decide, by decide, by show 2 * 2 ≤ sizeLine; exact le_size (by decide), fun T2 nT2 => ?_⟩
          have t2n := (m4.same s1F).ns nT2
          have sG : Same H' (upd HF T2 (.lst (List.replicate (Int.toNat 2) [V.int (leastv cn), V.int (greatv cn)]).flatten)) := s1F.trans (same_upd nT2)
          refine repr_dqN (s := s) (c := c) (d := .list ([leastv cn, greatv cn, leastv cn, greatv cn].map PyData.int)) ⟨T2, _, rfl, t2n.1, t2n.2, upd_same, dq_ints [leastv cn, greatv cn, leastv cn, greatv cn]⟩ fins (by decide) (by decide) rfl ?_
          refine ⟨rfl, _, rfl, ?_⟩
          rw [decide_eq_true rfl]
          refine iteT ?_
          revert sG
          generalize upd HF T2 (.lst (List.replicate (Int.toNat 2) [V.int (leastv cn), V.int (greatv cn)]).flatten) = HG
          intro sG
          refine ⟨_, rfl, ?_⟩
          refine items _ (s4.trans sG) (m4.same sG) fun HH sH => ?_
          rw [hκ]
          refine ⟨_, rfl, rfl, ?_⟩
          rw [decide_eq_true rfl]
          have k5 : Kp s c H HH := k4.trans (.of_same (sG.trans sH))
          exact q HH k5 (((m4.same sG).same sH).le (by omega))
end
end K3

set_option Elab.async false
set_option linter.all false
set_option maxRecDepth 100000
set_option maxHeartbeats 1000000
/-! repr of a truth value; list + list, where either may be the script. -/
namespace KB
open PySem PySem.Spec PyProof.Rows L2
section
variable {X : Cx}
theorem call_repr_bl : CallR X (.builtin "repr") (fun xs H Q => ∃ b : Bool, xs = [.bl b] ∧ Q (.str (if b then "True" else "False")) H) := by
  intro pins s σ H xs us Q I r h
  obtain ⟨b, rfl, q⟩ := h
  obtain ⟨u, rfl, rx⟩ := vals1 r
  cases (show u = Value.bool b from rx)
  exact PySem.P.repr_of_bool ⟨.str _, H, I.tok _, ⟨_, rfl⟩, q⟩
theorem op_catF : OpR X (binaryOp .Add) (fun x y H Q => ∃ a b xs ys, x = .ref a ∧ y = .ref b ∧ SqL X.K H a xs ∧ SqL X.K H b ys ∧ xs.length + ys.length ≤ sizeLine ∧ ∀ p, H p = none → Q (.ref p) (upd H p (.lst (xs ++ ys)))) := by
  intro pins s σ H x y v u Q I rx ry h
  obtain ⟨a, b, xs, ys, rfl, rfl, ha, hb, hz, q⟩ := h
  cases rx
  cases ry
  obtain ⟨vs, r, pl, _⟩ := I.list ha
  obtain ⟨ws, r2, pl2, _⟩ := I.list hb
  have hl : s.heap.IsList a vs.toArray := pl.isList
  have hb2 : s.heap.IsList b ws.toArray := pl2.isList
  obtain ⟨⟨cls, dd, data, sl⟩, ho, hc, n, hd⟩ := id hl
  obtain ⟨⟨cls2, dd2, data2, sl2⟩, ho2, hc2, n2, hd2⟩ := id hb2
  simp only at hc hd hc2 hd2
  subst hc hd hc2 hd2
  have e : vs.toArray ++ ws.toArray = (vs ++ ws).toArray := by simp
  have l1 := r.length
  have l2 := r2.length
  refine concat_meets ⟨_, ho, rfl⟩ ⟨_, ho2, rfl⟩ noFill_list_add seq_list_add PySem.F.slot_list_add PySem.F.entry_list_add (PySem.F.args_list_add_2 _ _) (list_addW a b vs.toArray ws.toArray n n2 dd dd2 sl sl2 (by rw [List.size_toArray, List.size_toArray]; omega)) ⟨ho, ho2, ?_⟩
  rw [e]
  refine ⟨.ref s.heap.objs.size, upd H s.heap.objs.size (.lst (xs ++ ys)), I.laid (t' := s.toks) (fun b u e => Heap.get?_push_of_some _ e) (Nat.le_refl _) ?_, rfl, q _ (I.hok.fresh (Nat.le_refl _))⟩
  exact ⟨by rw [List.length_append]; exact hz, vs ++ ws, 0, r.append r2, Heap.get?_push_size _ rfl⟩
end
end KB

set_option Elab.async false
set_option linter.all false
set_option maxRecDepth 100000
set_option maxHeartbeats 1000000
namespace K3
open PySem PySem.Spec PyProof.Rows L2
abbrev sLaw : Stmt := topS 30
theorem scLaw : FnScope ["script", "stream", "turn", "words", "whole", "kept", "told", "step", "bent", "again", "due", "some"] ["script"] (defScope sLaw) := ⟨rfl, rfl, rfl, by decide +kernel, rfl, by decide +kernel, by decide +kernel⟩
theorem fin_dat {ws : List Str} {cn : Cnt} (h : GoodC ws cn) (hok : ∀ z ∈ ws, NmOk z) : Fin1 (dat cn) 300 3 := by
  have a0 := h.a
  have tk : ∀ p ∈ cn.2, TOk p := fun p hp => ⟨hok _ (h.w p hp), by have := h.g.lo p hp; omega, by have := h.g.lo p hp; omega⟩
  have := fin_tup (fin_cons (fin_int (i := cn.1) (by omega) (by omega)) (fin_cons (fin_tup (fin_tds tk)) fin_nil))
  have hf := h.g.few
  exact ⟨this.lay, this.lv, this.sh, Nat.le_trans this.w (by omega), Nat.le_trans this.d (by decide)⟩
theorem fin_strs {ws : List Str} (hok : ∀ z ∈ ws, NmOk z) : FinL (ws.map PyData.str) (ws.length * 9) 0 := by
  have := fin_all (r := ws.map PyData.str) (w := 8) (d := 0) fun x hx => by
    obtain ⟨n, hn, rfl⟩ := List.mem_map.mp hx
    exact fin_str (hok n hn)
  rw [List.length_map] at this
  exact this
theorem fin_bls {ns : List Bool} : FinL (ns.map PyData.bool) (ns.length * 1) 0 := by
  have := fin_all (r := ns.map PyData.bool) (w := 0) (d := 0) fun x hx => by
    obtain ⟨n, hn, rfl⟩ := List.mem_map.mp hx
    exact fin_bl
  rw [List.length_map] at this
  exact this
theorem GoodC.rev {ws : List Str} {cn : Cnt} (h : GoodC ws cn) : GoodC ws.reverse cn := ⟨h.g, h.a, fun p hp => List.mem_reverse.mpr (h.w p hp), h.r⟩
theorem fit_dat {ws : List Str} {cn : Cnt} (h : GoodC ws cn) : fit 3 3 (dat cn) = true := by
  refine fit_of (by show 2 ≤ 3; decide) fun d hd => ?_
  simp only [List.mem_cons, List.not_mem_nil, or_false] at hd
  rcases hd with rfl | rfl
  · rfl
  · refine fit_of (by rw [List.length_map]; exact h.g.few) fun d hd => ?_
    obtain ⟨p, hp, rfl⟩ := List.mem_map.mp hd
    rfl
theorem sqL_same {K : PySem.W.Frag} {H H' : Hp} {a : Addr} {xs : List V} (h : SqL K H a xs) (e : Same H H') : SqL K H' a xs := by
  rcases h with (h | ⟨o, h⟩) | h
  · exact .inl (.inl (e _ _ h))
  · exact .inl (.inr ⟨o, e _ _ h⟩)
  · exact .inr h
section
variable {P : Program} {w : World} {K : PySem.W.Frag} {mg : Str → Option Value} {base : Heap}
/-- the whole text -/
structure TxA (K : PySem.W.Frag) (mg : Str → Option Value) where
  S : TxS K mg
  F : TxF K mg
  C : TxC K mg
  mMin : mg "min" = none
  mMax : mg "max" = none
  mSorted : mg "sorted" = none
  mEnum : mg "enumerate" = none
  fN : Addr
  fNs : Addr
  fCb : Addr
  fD : Addr
  fB : Addr
  fLn : Addr
  fLc : Addr
  fSm : Addr
  fI : Addr
  dN : FuncData
  dNs : FuncData
  dCb : FuncData
  dD : FuncData
  dB : FuncData
  dLn : FuncData
  dLc : FuncData
  dSm : FuncData
  dI : FuncData
  FN : Fun K "_law_name_by" "_law_name_by" sNameBy fN dN
  FNs : Fun K "_law_names_by" "_law_names_by" sNamesBy fNs dNs
  FCb : Fun K "_law_count_by" "_law_count_by" sCountBy fCb dCb
  FD : Fun K "_law_odd_by" "_law_odd_by" sOddBy fD dD
  FB : Fun K "_law_bent" "_law_bent" sBent fB dB
  FLn : Fun K "_law_is_number" "_law_is_number" sLNumber fLn dLn
  FLc : Fun K "_law_is_count" "_law_is_count" sLCount fLc dLc
  FSm : Fun K "_law_sums_right" "_law_sums_right" sSums fSm dSm
  FI : Fun K "is_count" "is_count" sIsCount fI dI
  bN : Binds K dN ["stream"] []
  bNs : Binds K dNs ["stream", "many"] []
  bCb : Binds K dCb ["stream", "words"] []
  bD : Binds K dD ["stream"] []
  bB : Binds K dB ["stream", "item"] []
  bLn : Binds K dLn ["item", "low", "high"] []
  bLc : Binds K dLc ["item", "words"] []
  bSm : Binds K dSm ["stream", "whole", "words"] []
  bI : Binds K dI ["thing", "names"] []
  kI1 : KBn K dI ["thing", "names"] 0 ["thing", "names"] (fun _ ws => ws) (fun _ zs => zs)
  kI2 : KBn K dI ["thing", "names"] 0 ["names", "thing"] (fun _ ws => ws.reverse) (fun _ zs => zs.reverse)
  gN : mg "_law_name_by" = some (.ref fN)
  gNs : mg "_law_names_by" = some (.ref fNs)
  gCb : mg "_law_count_by" = some (.ref fCb)
  gD : mg "_law_odd_by" = some (.ref fD)
  gB : mg "_law_bent" = some (.ref fB)
  gLn : mg "_law_is_number" = some (.ref fLn)
  gLc : mg "_law_is_count" = some (.ref fLc)
  gSm : mg "_law_sums_right" = some (.ref fSm)
  gI : mg "is_count" = some (.ref fI)
def spLaw : Sp := fun vs H Q _ => ∃ (sa : Addr) (ns : List Int), vs = [.ref sa] ∧ SqL K H sa (ns.map V.int) ∧ ns.length ≤ 63 ∧ ∀ H', Q (.bl true) H'
theorem ok_law {f : Addr} {fd : FuncData} (F : Fun K "law" "law" sLaw f fd) (A : TxA K mg) : KG.FnG P w K mg base 10 f fd ["script"] (spLaw (K := K)) := by
  have GT : FnOk P w K mg base CX0 2 A.S.fT A.S.dT ["stream", "many"] spTake := ok_take A.S.FT A.S.FM A.S.bM A.S.gM
  have GNs : FnOk P w K mg base CX0 5 A.fNs A.dNs ["stream", "many"] spNames := ok_names A.FNs A.FN A.bN A.gN A.S
  have GCb : FnOk P w K mg base CX0 4 A.fCb A.dCb ["stream", "words"] spCountBy := ok_countBy A.FCb A.S A.mSorted A.F.B.tup
  have GSm : KG.FnG P w K mg base 4 A.fSm A.dSm ["stream", "whole", "words"] spSums := ok_sums A.FSm A.S A.C
  have GI : FnOk P w K mg base CX0 5 A.fI A.dI ["thing", "names"] (spForm isCnt) := ok_count A.FI A.F
  have GB3 : FnOk P w K mg base CX0 (4 + 3) A.fB A.dB ["stream", "item"] (spBent 3) := ok_bent A.FB A.FD A.bB A.bD A.gB A.gD A.S A.F.B A.mMax A.C.list 3
  have GB5 : FnOk P w K mg base CX0 (4 + 5) A.fB A.dB ["stream", "item"] (spBent 5) := ok_bent A.FB A.FD A.bB A.bD A.gB A.gD A.S A.F.B A.mMax A.C.list 5
  have GLc : FnOk P w K mg base CX0 2 A.fLc A.dLc ["item", "words"] spLForm := ok_lcount A.FLc A.FLn A.bLn A.gLn A.F.B A.mEnum
  have GD : FnOk P w K mg base CX0 4 A.fD A.dD ["stream"] spOdd := ok_odd A.FD A.S
  refine KG.FnG.of F scLaw (fun vs H Q E h => ?_) (fun cdv Ar outer s0 H vs Q E hr hg0 h => ?_)
  · obtain ⟨sa, ns, rfl, _⟩ := h
    rfl
  · obtain ⟨sa, ns, rfl, hsa, hl, q⟩ := h
    have hr2 := hr.mono (show 2 ≤ 9 by decide)
    have hr4 := hr.mono (show 4 ≤ 9 by decide)
    have hr5 := hr.mono (show 5 ≤ 9 by decide)
    have hr7 := hr.mono (show 4 + 3 ≤ 9 by decide)
    have hrG : (Ar.deeper (envOfC "law" (defScope sLaw) s0.heap.objs.size f cdv)).units + 66 < cLine := by
      have := hr.un
      omega
    refine ⟨_, (pss_cons (ps_set (i := 1) scLaw.nd rfl (.inl rfl) (pe_lst (pa_cons (pe_slice sl_list (pe_op KB.op_catF (pv 0) (pe_lst (pa_cons pe_int pa_nil))) po_none (po_some pe_int)) (pa_cons pe_int (pa_cons pe_int (pa_cons pe_int (pa_cons pe_int pa_nil)))))))
      (pss_cons (ps_for PassesOwn.never rfl (pi_range1 (by rfl) A.C.range (pa_cons (pe_op op_add pe_int (pe_callB (call_min2 rfl) (by rfl) A.mMin (by decide +kernel) (pa_cons pe_int (pa_cons (pe_callB call_len_seq (by rfl) A.F.B.len (by decide +kernel) (pa_cons (pv 0) pa_nil)) pa_nil)))) pa_nil)) (pg_name (i := 2) scLaw.nd rfl (.inl rfl)) (pss_cons (ps_set (i := 3) scLaw.nd rfl (.inl rfl) (pe_call GNs hr5 (by rfl) A.gNs A.FNs.kp A.bNs .nil pass0 (pa_cons (pv 1) (pa_cons (pe_op op_add pe_int (pe_call GT hr2 (by rfl) A.S.gT A.S.FT.kp A.S.bT .nil pass0 (pa_cons (pv 1) (pa_cons pe_int pa_nil)))) pa_nil))))
      (pss_cons (ps_set (i := 4) scLaw.nd rfl (.inl rfl) (pe_call GCb hr4 (by rfl) A.gCb A.FCb.kp A.bCb .nil pass0 (pa_cons (pv 1) (pa_cons (pv 3) pa_nil))))
      (pss_cons (ps_set (i := 5) scLaw.nd rfl (.inl rfl) (pe_callB (KG.call_reprD hg0 hrG) (by rfl) A.C.repr (by decide +kernel) (pa_cons (pe_lst (pa_cons (pv 4) (pa_cons (pv 3) pa_nil))) pa_nil)))
      (pss_cons (ps_if (PW.pt (pw_or (pt_not (pt_val (KG.pe_callG GSm hr4 hg0 (by rfl) A.gSm A.FSm.kp A.bSm (pa_cons (pv 1) (pa_cons (pv 4) (pa_cons (pv 3) pa_nil)))))) (pw_or1 (pt_not (pt_val (KG.pe_callG GSm hr4 hg0 (by rfl) A.gSm A.FSm.kp A.bSm (pa_cons (pv 1) (pa_cons (pv 4) (pa_cons (pe_op op_cat (pv 3) (pe_lst (pa_cons pe_str pa_nil))) pa_nil))))))))) (pss_one (ps_ret pe_bl)) pss_nil)
      (pss_cons (ps_set (i := 6) scLaw.nd rfl (.inl rfl) (pe_lst (pa_cons (pe_call GI hr5 (by rfl) A.gI A.FI.kp A.bI .nil pass0 (pa_cons (pv 4) (pa_cons (pv 3) pa_nil))) (pa_cons (pe_call GI hr5 (by rfl) A.gI A.FI.kp A.bI .nil pass0 (pa_cons (pv 4) (pa_cons (pe_callTy call_tuple_of (by rfl) A.F.B.tup (by decide +kernel) (pa_cons (pv 3) pa_nil)) pa_nil))) (pa_cons (K3.pe_callN0 GI hr5 (by rfl) A.gI A.FI.kp A.kI2 pass0 (pk_cons (pe_revL (pv 3)) (pk_cons (pv 4) pk_nil))) pa_nil)))))
      (pss_cons (ps_if (PW.pt (pw_or (pt_cmpR op_ne (pe_callB (KG.call_reprD hg0 hrG) (by rfl) A.C.repr (by decide +kernel) (pa_cons (pv 6) pa_nil)) pe_str (nomark _)) (pw_or1 (pt_cmpR op_ne (pe_callB (KG.call_reprD hg0 hrG) (by rfl) A.C.repr (by decide +kernel) (pa_cons (pe_lst (pa_cons (pv 4) (pa_cons (pv 3) pa_nil))) pa_nil)) (pv 5) (nomark _))))) (pss_one (ps_ret pe_bl)) pss_nil)
      (pss_cons (ps_for PassesOwn.never rfl (pi_range1 (by rfl) A.C.range (pa_cons pe_int pa_nil)) (pg_name (i := 7) scLaw.nd rfl (.inl rfl)) (pss_cons (ps_set (i := 8) scLaw.nd rfl (.inl rfl) (pe_call GB3 hr7 (by rfl) A.gB A.FB.kp A.bB .nil pass0 (pa_cons (pv 1) (pa_cons (pv 4) pa_nil))))
      (pss_cons (ps_for PassesOwn.never rfl (pi_range1 (by rfl) A.C.range (pa_cons (pe_call GT hr2 (by rfl) A.S.gT A.S.FT.kp A.S.bT .nil pass0 (pa_cons (pv 1) (pa_cons pe_int pa_nil))) pa_nil)) (pg_name (i := 9) scLaw.nd rfl (.inl rfl)) (pss_one (ps_set (i := 8) scLaw.nd rfl (.inl rfl) (pe_ifExp (pt_val (pe_callB call_isi (by rfl) A.F.B.isi (by decide +kernel) (pa_cons (pv 8) (pa_cons (pe_bltn (v := .ty "tuple") (by rfl) A.F.B.tup (by decide +kernel) rfl) pa_nil)))) (pe_call GB5 hr (by rfl) A.gB A.FB.kp A.bB .nil pass0 (pa_cons (pv 1) (pa_cons (pv 8) pa_nil))) (pv 8)))))
      (pss_cons (ps_set (i := 10) scLaw.nd rfl (.inl rfl) (pe_call GLc hr2 (by rfl) A.gLc A.FLc.kp A.bLc .nil pass0 (pa_cons (pv 8) (pa_cons (pv 3) pa_nil))))
      (pss_cons (ps_if (pt_cmpR op_ne (pe_callB (KG.call_reprD hg0 hrG) (by rfl) A.C.repr (by decide +kernel) (pa_cons (pe_lst (pa_cons (pe_call GI hr5 (by rfl) A.gI A.FI.kp A.bI .nil pass0 (pa_cons (pv 8) (pa_cons (pv 3) pa_nil))) (pa_cons (K3.pe_callN0 GI hr5 (by rfl) A.gI A.FI.kp A.kI1 pass0 (pk_cons (pv 8) (pk_cons (pe_callTy call_tuple_of (by rfl) A.F.B.tup (by decide +kernel) (pa_cons (pv 3) pa_nil)) pk_nil))) pa_nil))) pa_nil)) (pe_callB (KG.call_reprD hg0 hrG) (by rfl) A.C.repr (by decide +kernel) (pa_cons (pe_op op_rep (pe_lst (pa_cons (pv 10) pa_nil)) pe_int) pa_nil)) (nomark _)) (pss_one (ps_ret pe_bl)) pss_nil)
      (pss_cons (ps_set (i := 11) scLaw.nd rfl (.inl rfl) (pe_op op_cat (pe_slice sl_list (pv 3) (po_some pe_int) po_none) (pe_lst (pa_cons pe_str pa_nil))))
      (pss_one (ps_if (pt_cmpR op_ne (pe_callB KB.call_repr_bl (by rfl) A.C.repr (by decide +kernel) (pa_cons (pe_call GI hr5 (by rfl) A.gI A.FI.kp A.bI .nil pass0 (pa_cons (pv 4) (pa_cons (pv 11) pa_nil))) pa_nil)) (pe_callB KB.call_repr_bl (by rfl) A.C.repr (by decide +kernel) (pa_cons (pe_call GLc hr2 (by rfl) A.gLc A.FLc.kp A.bLc .nil pass0 (pa_cons (pv 4) (pa_cons (pv 11) pa_nil))) pa_nil)) (nomark _)) (pss_one (ps_ret pe_bl)) pss_nil))))))))
      (pss_one (ps_if (pt_cmpR op_ne (pe_callB (KG.call_reprD hg0 hrG) (by rfl) A.C.repr (by decide +kernel) (pa_cons (pe_lst (pa_cons (pe_call GI hr5 (by rfl) A.gI A.FI.kp A.bI .nil pass0 (pa_cons (pe_call GD hr4 (by rfl) A.gD A.FD.kp A.bD .nil pass0 (pa_cons (pv 1) pa_nil)) (pa_cons (pv 3) pa_nil))) (pa_cons (pe_call GI hr5 (by rfl) A.gI A.FI.kp A.bI .nil pass0 (pa_cons (pe_lst (pa_cons (pv 4) pa_nil)) (pa_cons (pv 3) pa_nil))) pa_nil))) pa_nil)) pe_str (nomark _)) (pss_one (ps_ret pe_bl)) pss_nil))))))))))
      (pss_one (ps_ret (pe_and (pe_cmpR op_isBl (pe_call GI hr5 (by rfl) A.gI A.FI.kp A.bI .nil pass0 (pa_cons (pe_tup (pa_cons pe_int (pa_cons (pe_tup pa_nil) pa_nil))) (pa_cons (pe_tup pa_nil) pa_nil))) pe_bl (nomark _)) (pe_one (pe_cmpR op_isBl (pe_call GI hr5 (by rfl) A.gI A.FI.kp A.bI .nil pass0 (pa_cons (pe_tup (pa_cons pe_int (pa_cons (pe_tup (pa_cons (pe_tup (pa_cons pe_str (pa_cons pe_int pa_nil))) pa_nil)) pa_nil))) (pa_cons (pe_lst pa_nil) pa_nil))) pe_bl (nomark _)))))))), ?_⟩
    refine ⟨_, rfl, by show 1 ≤ sizeLine; exact le_size (by decide), fun L0 nL0 => ?_⟩
    have hsa1 := sqL_same hsa (same_upd nL0 (o := .lst [.int 0]))
    have hz0 : (upd H L0 (.lst [.int 0])) L0 = some (.lst [.int 0]) := upd_same
    revert hsa1 hz0
    generalize upd H L0 (.lst [.int 0]) = H1
    intro hsa1 hz0
    refine ⟨sa, L0, _, [.int 0], rfl, rfl, hsa1, .inl (.inl hz0), by rw [List.length_map]; exact le_size (by show _ + 1 ≤ _; omega), fun L1 nL1 => ?_⟩
    refine ⟨_, rfl, L1, _, rfl, .inl (.inl upd_same), fun cc ncc => ?_⟩
    obtain ⟨cells, hcells⟩ : ∃ cells : List Int, cutV (ns.map V.int ++ [V.int 0]) none (some 63) = cells.map V.int := by
      have e : ns.map V.int ++ [V.int 0] = (ns ++ [0]).map V.int := by rw [List.map_append]; rfl
      unfold cutV
      rw [e, ← List.map_drop, ← List.map_take]
      exact ⟨_, rfl⟩
    have s12 : Same H1 (upd (upd H1 L1 (.lst (ns.map V.int ++ [V.int 0]))) cc (.lst (cutV (ns.map V.int ++ [V.int 0]) none (some 63)))) := (same_upd nL1).trans (same_upd ncc)
    have hcc : (upd (upd H1 L1 (.lst (ns.map V.int ++ [V.int 0]))) cc (.lst (cutV (ns.map V.int ++ [V.int 0]) none (some 63)))) cc = some (.lst (cells.map V.int)) := by rw [upd_same, hcells]
    have hsa2 := sqL_same hsa1 s12
    clear s12
    revert hcc hsa2
    generalize upd (upd H1 L1 (.lst (ns.map V.int ++ [V.int 0]))) cc (.lst (cutV (ns.map V.int ++ [V.int 0]) none (some 63))) = H2
    intro hcc hsa2
    refine ⟨by show 5 ≤ sizeLine; exact le_size (by decide), fun s nst => ?_⟩
    have nsc : s ≠ cc := (ne_of_none hcc nst).symm
    have m0 : Sm s cc 0 (upd H2 s (.lst [.ref cc, .int 0, .int 0, .int 7, .int 0])) := ⟨nsc, cells, 0, 0, 7, upd_same, by rw [upd_ne nsc.symm]; exact hcc, Int.le_refl _, Int.le_refl _⟩
    have hsa3 := sqL_same hsa2 (same_upd nst (o := .lst [.ref cc, .int 0, .int 0, .int 7, .int 0]))
    revert m0 hsa3
    generalize upd H2 s (.lst [.ref cc, .int 0, .int 0, .int 7, .int 0]) = H3
    intro m0 hsa3
    have hlm : (ns.map V.int).length ≤ 63 := by rw [List.length_map]; exact hl
    refine ⟨_, rfl, sa, _, rfl, .inl hsa3, _, _, rfl, _, _, rfl, rfl, _, rfl, ?_, ?_, ?_⟩
    · show -(2 ^ 62) ≤ (6 : Int) + _
      split <;> omega
    · show (6 : Int) + _ < 2 ^ 62
      split <;> omega
    refine for_range (fun i σ H' => ∃ x2 x3 x4 x5 x6 x7 x8 x9 x10 x11, σ = [some (.ref sa), some (.ref s), x2, x3, x4, x5, x6, x7, x8, x9, x10, x11] ∧ Sm s cc (1000 * (i : Nat)) H') ⟨_, _, _, _, _, _, _, _, _, _, rfl, m0.le (by decide)⟩ (fun i σ H' hi h => ?_) (fun σ H' h => ?_)
    · obtain ⟨x2, x3, x4, x5, x6, x7, x8, x9, x10, x11, rfl, m⟩ := h
      have hi' : i < 47 := by
        revert hi
        show i < ((6 : Int) + _).toNat → _
        split <;> intro hi <;> omega
      refine ⟨_, rfl, _, rfl, s, cc, 3, _, rfl, by decide, by decide, by omega, m, fun r H1 r0 r1 k1 m1 => ?_⟩
      refine ⟨_, _, rfl, rfl, s, cc, _, _, rfl, by omega, by omega, by omega, m1, fun p ws H4 p1 p2 np hp wl wnd wok k2 m2 => ?_⟩
      have wl3 : ws.length ≤ 3 := by omega
      have wne : ∀ z ∈ ws, z.cps.toList ≠ [] := fun z hz => (wok z hz).1
      refine ⟨_, rfl, _, rfl, s, cc, p, _, ws, rfl, by omega, m2, p1, p2, hp, wl3, wnd, wok, fun v cn H5 hC hG k3 m3 => ?_⟩
      have hp5 := k3 _ _ p1 p2 hp
      have hd5 := isC_dq m3 hC
      have finW : Fin1 (.list [dat cn, .list (ws.map PyData.str)]) 400 4 := by
        have := fin_lst (fin_cons (fin_dat hG wok) (fin_cons (fin_lst (fin_strs wok)) fin_nil))
        exact ⟨this.lay, this.lv, this.sh, Nat.le_trans this.w (by omega), Nat.le_trans this.d (by decide)⟩
      have both : ∀ {H9 : Hp} {n9 : Int} {σ9 : L2.St} (Q9 : VK), Kp s cc H5 H9 → Sm s cc n9 H9 → (∀ H', Same H9 H' → Q9 (.str (PyData.list [dat cn, .list (ws.map PyData.str)]).shown) H') →
          [v, V.ref p].length ≤ sizeLine ∧ ∀ L, H9 L = none → tNil σ9 (upd H9 L (.lst [v, V.ref p])) fun xs H2 => KG.rRepr K (.ref L :: xs) H2 Q9 := fun {H9} {n9} {σ9} Q9 k9 m9 q9 => by
        refine ⟨by show 2 ≤ sizeLine; exact le_size (by decide), fun L nL => ?_⟩
        have ln := m9.ns nL
        have s9 : Same H9 (upd H9 L (.lst [v, V.ref p])) := same_upd nL
        exact repr_dqN (s := s) (c := cc) (d := .list [dat cn, .list (ws.map PyData.str)]) ⟨L, _, rfl, ln.1, ln.2, upd_same, v, _, rfl, (hd5.kp k9).kp (.of_same s9), _, [], rfl, ⟨p, _, rfl, p1, p2, s9 _ _ (k9 _ _ p1 p2 hp5), dq_strs ws⟩, rfl⟩ finW (by decide) (by decide) rfl (q9 _ s9)
      generalize hκ : (PyData.list [dat cn, .list (ws.map PyData.str)]).shown = κ at both
      refine ⟨_, rfl, _, rfl, both _ (fun _ _ _ _ h => h) m3 fun H6 s6 => ?_⟩
      have m6 := m3.same s6
      have hC6 := hC.kt (.of_same s6)
      have hp6 := s6 _ _ hp5
      have k56 : Kp s cc H5 H6 := .of_same s6
      -- the sums
      refine ⟨_, rfl, _, rfl, _, rfl, s, cc, p, _, v, cn, ws, rfl, by omega, m6, p1, p2, hp6, by omega, wok, hC6, hG.g, hG.a.1, hG.a.2, hG.w, fun H7 k7 m7 => ?_⟩
      refine ⟨_, rfl, iteF ?_⟩
      have hp7 := k7 _ _ p1 p2 hp6
      refine ⟨_, rfl, _, rfl, _, rfl, by show 1 ≤ sizeLine; exact le_size (by decide), fun La nLa => ?_⟩
      have sa8 : Same H7 (upd H7 La (.lst [.str "qqq"])) := same_upd nLa
      refine ⟨p, La, _, [.str "qqq"], rfl, rfl, sa8 _ _ hp7, upd_same, by rw [List.length_map]; exact le_size (by show _ + 1 ≤ _; omega), fun Lb nLb => ?_⟩
      have lbn := (m7.same sa8).ns nLb
      have sb8 : Same H7 (upd (upd H7 La (.lst [.str "qqq"])) Lb (.lst (ws.map V.str ++ [.str "qqq"]))) := sa8.trans (same_upd nLb)
      have hLb : (upd (upd H7 La (.lst [.str "qqq"])) Lb (.lst (ws.map V.str ++ [.str "qqq"]))) Lb = some (.lst ((ws ++ [("qqq" : Str)]).map V.str)) := by rw [upd_same, List.map_append]; rfl
      clear sa8 nLb
      revert sb8 hLb
      generalize upd (upd H7 La (.lst [.str "qqq"])) Lb (.lst (ws.map V.str ++ [.str "qqq"])) = H8
      intro sb8 hLb
      have m8 := m7.same sb8
      have k58 : Kp s cc H5 H8 := (k56.trans k7).trans (.of_same sb8)
      have wok2 : ∀ z ∈ ws ++ [("qqq" : Str)], NmOk z := fun z hz => by
        rcases List.mem_append.mp hz with h | h
        · exact wok z h
        · rw [List.mem_singleton] at h
          subst h
          exact .of (by decide +kernel)
      refine ⟨s, cc, Lb, _, v, cn, ws ++ [("qqq" : Str)], rfl, by omega, m8, lbn.1, lbn.2, hLb, by rw [List.length_append]; show _ + 1 ≤ _; omega, wok2, dq_isC (hd5.kp k58), hG.g, hG.a.1, hG.a.2, fun q hq => List.mem_append_left _ (hG.w q hq), fun H9 k9 m9 => ?_⟩
      refine ⟨_, rfl, iteF ?_⟩
      have k59 : Kp s cc H5 H9 := k58.trans k9
      have hp9 := k59 _ _ p1 p2 hp5
      have hd9 := hd5.kp k59
      have hI : isCnt ws (dat cn) = true := hG.is
      have hIr : isCnt ws.reverse (dat cn) = true := hG.rev.is
      -- told
      refine ⟨_, rfl, _, rfl, s, cc, v, dat cn, p, ws, rfl, hd9, .inl hp9, ?_⟩
      rw [hI]
      refine ⟨_, rfl, _, rfl, p, _, rfl, .inl ⟨.inl (.inl hp9), fun t1 nt1 => ?_⟩⟩
      have sa' : Same H9 (upd H9 t1 (.tup (ws.map V.str))) := same_upd nt1
      refine ⟨s, cc, v, dat cn, t1, ws, rfl, hd9.kp (.of_same sa'), .inr upd_same, ?_⟩
      rw [hI]
      revert sa'
      generalize upd H9 t1 (.tup (ws.map V.str)) = Ha
      intro sa'
      have hpa := sa' _ _ hp9
      refine ⟨_, rfl, p, _, rfl, .inl (.inl hpa), fun t2 nt2 => ?_⟩
      have sb : Same Ha (upd Ha t2 (.lst (ws.map V.str).reverse)) := same_upd nt2
      have hsab := sa'.trans sb
      refine ⟨_, rfl, rfl, s, cc, v, dat cn, t2, ws.reverse, rfl, hd9.kp (.of_same hsab), .inl (by rw [upd_same, List.map_reverse]), ?_⟩
      rw [hIr]
      revert hsab
      generalize upd Ha t2 (.lst (ws.map V.str).reverse) = Hb
      intro hsab
      refine ⟨by show 3 ≤ sizeLine; exact le_size (by decide), fun tt ntt => ?_⟩
      have mb := m9.same hsab
      have ttn := mb.ns ntt
      have sc : Same Hb (upd Hb tt (.lst [.bl true, .bl true, .bl true])) := same_upd ntt
      have htt : (upd Hb tt (.lst [.bl true, .bl true, .bl true])) tt = some (.lst [.bl true, .bl true, .bl true]) := upd_same
      have sac := hsab.trans sc
      clear sc
      revert htt sac
      generalize upd Hb tt (.lst [.bl true, .bl true, .bl true]) = Hc
      intro htt sac
      have mc := m9.same sac
      -- the comparisons
      refine ⟨_, rfl, ?_⟩
      refine repr_dqN (s := s) (c := cc) (d := .list ([true, true, true].map PyData.bool)) ⟨tt, _, rfl, ttn.1, ttn.2, htt, dq_bls [true, true, true]⟩ (fin_lst fin_bls) (by decide) (by decide) rfl ?_
      refine ⟨rfl, _, rfl, ?_⟩
      have e3 : (PyData.list ([true, true, true].map PyData.bool)).shown = ("[True, True, True]" : Str) := by decide +kernel
      rw [e3, decide_eq_true rfl]
      refine iteF ?_
      have k5c : Kp s cc H5 Hc := k59.trans (.of_same sac)
      refine ⟨_, rfl, _, rfl, both _ k5c mc fun Hd sd => ?_⟩
      refine ⟨_, rfl, rfl, _, rfl, ?_⟩
      rw [decide_eq_true rfl]
      refine iteF ?_
      have k5d : Kp s cc H5 Hd := k5c.trans (.of_same sd)
      have md := (mc.same sd).le (m := 1000 * (i : Int) + 300) (by omega)
      have hpd := k5d _ _ p1 p2 hp5
      have hdd := hd5.kp k5d
      -- the steps
      refine ⟨6, rfl, by decide, by decide, ?_⟩
      refine for_range (n := 6) (fun j σ H'' => ∃ x7 x8 x9 x10 x11, σ = [some (.ref sa), some (.ref s), some (.int (0 + (i : Nat))), some (.ref p), some v, some (.str κ), some (.ref tt), x7, x8, x9, x10, x11] ∧ Kp s cc Hd H'' ∧ Sm s cc (1000 * (i : Int) + 300 + 110 * (j : Nat)) H'')
        ⟨_, _, _, _, _, rfl, fun _ _ _ _ h => h, md.le (by omega)⟩ (fun j σ H'' hj h => ?_) (fun σ H'' h => ?_)
      · obtain ⟨x7, x8, x9, x10, x11, rfl, kj, mj⟩ := h
        have hpj := kj _ _ p1 p2 hpd
        have hdj := hdd.kp kj
        refine ⟨_, rfl, _, rfl, s, cc, _, 3, v, [.int cn.1, .tuple (cn.2.map td)], rfl, hdj, fit_dat hG, by decide, by decide, by omega, mj, fun bv bd He db fb ke me => ?_⟩
        -- again
        refine ⟨_, rfl, s, cc, 2, _, rfl, by decide, by decide, by omega, me, fun r2 Hf r20 r21 kf mf => ?_⟩
        refine ⟨r2, rfl, by omega, by omega, ?_⟩
        refine for_range (n := r2.toNat) (fun k σ H3' => ∃ bv' bd' x9', σ = [some (.ref sa), some (.ref s), some (.int (0 + (i : Nat))), some (.ref p), some v, some (.str κ), some (.ref tt), some (.int (0 + (j : Nat))), some bv', x9', x10, x11] ∧ Kp s cc H'' H3' ∧ Sm s cc (1000 * (i : Int) + 300 + 110 * (j : Nat) + 42 + 60 * (k : Nat)) H3' ∧ Dq s cc H3' bd' bv' ∧ (k = 0 → fit 13 5 bd' = true))
          ⟨bv, bd, x9, rfl, ke.trans kf, mf.le (by omega), db.kp kf, fun _ => fb⟩ (fun k σ H3' hk h => ?_) (fun σ H3' h => ?_)
        · obtain ⟨bv', bd', x9', rfl, kk, mk, dk, fk⟩ := h
          have k0 : k = 0 := by omega
          subst k0
          have fk' := fk rfl
          refine ⟨_, rfl, bv', .ty "tuple", _, _, _, rfl, .ty _, dq_ty dk, kit_tup bd', _, rfl, ?_⟩
          cases bd' with
          | tuple es =>
            refine iteT ⟨_, rfl, _, rfl, s, cc, _, 13, bv', es, rfl, dk, fk', by decide, by decide, by omega, mk, fun bv2 bd2 Hg db2 fb2 kg mg' => ?_⟩
            exact ⟨bv2, bd2, _, rfl, kk.trans kg, mg'.le (by omega), db2, fun h => by cases h⟩
          | _ => exact iteF ⟨_, rfl, bv', _, _, rfl, kk, mk.le (by omega), dk, fun h => by cases h⟩
        · obtain ⟨bv', bd', x9', rfl, kk, mk, dk, _⟩ := h
          have hpk := kk _ _ p1 p2 hpj
          -- due
          refine ⟨_, rfl, _, rfl, s, cc, bv', bd', p, ws, rfl, dk, .inl hpk, wne, fun Hg sg => ?_⟩
          have mg2 := mk.same sg
          have hpg := sg _ _ hpk
          have dg := dk.kp (.of_same sg)
          generalize hb : isCnt ws bd' = b
          refine ⟨_, rfl, _, rfl, s, cc, bv', bd', p, ws, rfl, dg, .inl hpg, ?_⟩
          rw [hb]
          refine ⟨_, rfl, _, rfl, p, _, rfl, .inl ⟨.inl (.inl hpg), fun t1 nt1 => ?_⟩⟩
          have sh : Same Hg (upd Hg t1 (.tup (ws.map V.str))) := same_upd nt1
          refine ⟨rfl, s, cc, bv', bd', t1, ws, rfl, dg.kp (.of_same sh), .inr upd_same, ?_⟩
          rw [hb]
          revert sh
          generalize upd Hg t1 (.tup (ws.map V.str)) = Hh
          intro sh
          refine ⟨by show 2 ≤ sizeLine; exact le_size (by decide), fun L nL => ?_⟩
          have mh := mg2.same sh
          have ln := mh.ns nL
          have si : Same Hh (upd Hh L (.lst [.bl b, .bl b])) := same_upd nL
          refine repr_dqN (s := s) (c := cc) (d := .list ([b, b].map PyData.bool)) ⟨L, _, rfl, ln.1, ln.2, upd_same, dq_bls [b, b]⟩ (fin_lst fin_bls) (by show 2 * 1 ≤ 1000000; decide) (by decide) rfl ?_
          have sgi := sh.trans si
          clear si
          revert sgi
          generalize upd Hh L (.lst [.bl b, .bl b]) = Hi
          intro sgi
          refine ⟨_, rfl, by show 1 ≤ sizeLine; exact le_size (by decide), fun L2 nL2 => ?_⟩
          have sj : Same Hi (upd Hi L2 (.lst [.bl b])) := same_upd nL2
          refine ⟨L2, 2, [.bl b], rfl, rfl, upd_same, by decide, by decide, by show 1 * 2 ≤ sizeLine; exact le_size (by decide), fun L3 nL3 => ?_⟩
          have sgj := sgi.trans sj
          clear sj
          revert nL3 sgj
          generalize upd Hi L2 (.lst [.bl b]) = Hj
          intro nL3 sgj
          have l3n := (mg2.same sgj).ns nL3
          have sk : Same Hj (upd Hj L3 (.lst (List.replicate (Int.toNat 2) [V.bl b]).flatten)) := same_upd nL3
          refine repr_dqN (s := s) (c := cc) (d := .list ([b, b].map PyData.bool)) ⟨L3, _, rfl, l3n.1, l3n.2, upd_same, dq_bls [b, b]⟩ (fin_lst fin_bls) (by show 2 * 1 ≤ 1000000; decide) (by decide) rfl ?_
          refine ⟨rfl, _, rfl, ?_⟩
          rw [decide_eq_true rfl]
          refine iteF ?_
          have sgk := sgj.trans sk
          clear sk
          revert sgk
          generalize upd Hj L3 (.lst (List.replicate (Int.toNat 2) [V.bl b]).flatten) = Hk
          intro sgk
          have hpk2 := sgk _ _ hpg
          -- other names
          refine ⟨_, rfl, _, rfl, p, _, rfl, .inl (.inl hpk2), fun M1 nM1 => ?_⟩
          refine ⟨by show 1 ≤ sizeLine; exact le_size (by decide), fun M2 nM2 => ?_⟩
          refine ⟨M1, M2, _, _, rfl, rfl, (same_upd nM2) _ _ upd_same, upd_same, ?_, fun M3 nM3 => ?_⟩
          · have := cutV_length (ws.map V.str) (some 1) none
            rw [List.length_map] at this
            show (cutV (ws.map V.str) (some 1) none).length + 1 ≤ _
            exact le_size (by omega)
          obtain ⟨ws2, hws2, w2ne⟩ : ∃ ws2 : List Str, cutV (ws.map V.str) (some 1) none ++ [V.str "nosuch"] = ws2.map V.str ∧ ∀ z ∈ ws2, z.cps.toList ≠ [] := by
            unfold cutV
            rw [← List.map_drop, ← List.map_take]
            refine ⟨_ ++ [("nosuch" : Str)], by rw [List.map_append]; rfl, fun z hz => ?_⟩
            rcases List.mem_append.mp hz with h | h
            · exact wne z (List.mem_of_mem_drop (List.mem_of_mem_take h))
            · rw [List.mem_singleton] at h
              subst h
              decide
          have sl : Same Hk (upd (upd (upd Hk M1 (.lst (cutV (ws.map V.str) (some 1) none))) M2 (.lst [.str "nosuch"])) M3 (.lst (cutV (ws.map V.str) (some 1) none ++ [V.str "nosuch"]))) := ((same_upd nM1).trans (same_upd nM2)).trans (same_upd nM3)
          have hM3 : (upd (upd (upd Hk M1 (.lst (cutV (ws.map V.str) (some 1) none))) M2 (.lst [.str "nosuch"])) M3 (.lst (cutV (ws.map V.str) (some 1) none ++ [V.str "nosuch"]))) M3 = some (.lst (ws2.map V.str)) := by rw [upd_same, hws2]
          have sgl := sgk.trans sl
          clear sl nM2 nM3
          revert sgl hM3
          generalize upd (upd (upd Hk M1 (.lst (cutV (ws.map V.str) (some 1) none))) M2 (.lst [.str "nosuch"])) M3 (.lst (cutV (ws.map V.str) (some 1) none ++ [V.str "nosuch"])) = Hl
          intro hM3 sgl
          have dl := ((hdj.kp kk).kp (.of_same sg)).kp (.of_same sgl)
          refine ⟨_, rfl, _, rfl, s, cc, v, dat cn, M3, ws2, rfl, dl, .inl hM3, ?_⟩
          refine ⟨_, rfl, ?_⟩
          refine ⟨_, rfl, _, rfl, s, cc, v, dat cn, M3, ws2, rfl, dl, .inl hM3, w2ne, fun Hm sm => ?_⟩
          refine ⟨_, rfl, rfl, _, rfl, ?_⟩
          rw [decide_eq_true rfl]
          exact iteF ⟨_, _, _, _, _, rfl, kj.trans (kk.trans ((Kp.of_same sg).trans ((Kp.of_same sgl).trans (.of_same sm)))), ((mg2.same sgl).same sm).le (by omega)⟩
      · obtain ⟨x7, x8, x9, x10, x11, rfl, kj, mj⟩ := h
        have hpj := kj _ _ p1 p2 hpd
        have hdj := hdd.kp kj
        refine ⟨_, rfl, s, cc, _, rfl, by omega, mj, fun ov od He do' ho ke me => ?_⟩
        have hpe := ke _ _ p1 p2 hpj
        refine ⟨_, rfl, s, cc, ov, od, p, ws, rfl, do', .inl hpe, ?_⟩
        rw [odd_not ws od ho]
        refine ⟨_, rfl, by show 1 ≤ sizeLine; exact le_size (by decide), fun L nL => ?_⟩
        have ln := me.ns nL
        have sl : Same He (upd He L (.lst [v])) := same_upd nL
        refine ⟨_, rfl, s, cc, .ref L, .list [dat cn], p, ws, rfl, ⟨L, _, rfl, ln.1, ln.2, upd_same, v, [], rfl, (hdj.kp ke).kp (.of_same sl), rfl⟩, .inl (sl _ _ hpe), ?_⟩
        refine ⟨by show 2 ≤ sizeLine; exact le_size (by decide), fun L2 nL2 => ?_⟩
        have ml := me.same sl
        have l2n := ml.ns nL2
        have sm : Same (upd He L (.lst [v])) (upd (upd He L (.lst [v])) L2 (.lst [.bl false, .bl false])) := same_upd nL2
        refine repr_dqN (s := s) (c := cc) (d := .list ([false, false].map PyData.bool)) ⟨L2, _, rfl, l2n.1, l2n.2, upd_same, dq_bls [false, false]⟩ (fin_lst fin_bls) (by decide) (by decide) rfl ?_
        refine ⟨rfl, _, rfl, ?_⟩
        have e2 : (PyData.list ([false, false].map PyData.bool)).shown = ("[False, False]" : Str) := by decide +kernel
        rw [e2, decide_eq_true rfl]
        refine iteF ⟨_, _, _, _, _, _, _, _, _, _, rfl, (ml.same sm).le (by omega)⟩
    · obtain ⟨x2, x3, x4, x5, x6, x7, x8, x9, x10, x11, rfl, m⟩ := h
      refine ⟨by show 0 ≤ sizeLine; exact Nat.zero_le _, fun a1 n1 => ?_⟩
      refine ⟨by show 2 ≤ sizeLine; exact le_size (by decide), fun a2 n2 => ?_⟩
      refine ⟨by show 0 ≤ sizeLine; exact Nat.zero_le _, fun a3 n3 => ?_⟩
      have z1 := m.ns n1
      have m1 := m.kp1 n1 (.tup [])
      have z2 := m1.ns n2
      have h1 : (upd (upd (upd H' a1 (.tup [])) a2 (.tup [.int 20, .ref a1])) a3 (.tup [])) a1 = some (.tup []) := (same_upd n3) _ _ ((same_upd n2) _ _ upd_same)
      have h2 : (upd (upd (upd H' a1 (.tup [])) a2 (.tup [.int 20, .ref a1])) a3 (.tup [])) a2 = some (.tup [.int 20, .ref a1]) := (same_upd n3) _ _ upd_same
      have h3 : (upd (upd (upd H' a1 (.tup [])) a2 (.tup [.int 20, .ref a1])) a3 (.tup [])) a3 = some (.tup []) := upd_same
      have m3 := (m1.kp1 n2 (.tup [.int 20, .ref a1])).kp1 n3 (.tup [])
      revert h1 h2 h3 m3
      generalize upd (upd (upd H' a1 (.tup [])) a2 (.tup [.int 20, .ref a1])) a3 (.tup []) = Ha
      intro h1 h2 h3 m3
      refine ⟨s, cc, .ref a2, .tuple [.int 20, .tuple []], a3, [], rfl, ⟨a2, _, rfl, z2.1, z2.2, h2, _, _, rfl, rfl, _, _, rfl, ⟨a1, _, rfl, z1.1, z1.2, h1, rfl⟩, rfl⟩, .inr h3, ?_⟩
      refine ⟨true, true, rfl, rfl, _, rfl, iteT ?_⟩
      refine ⟨by show 2 ≤ sizeLine; exact le_size (by decide), fun b1 o1 => ?_⟩
      refine ⟨by show 1 ≤ sizeLine; exact le_size (by decide), fun b2 o2 => ?_⟩
      refine ⟨by show 2 ≤ sizeLine; exact le_size (by decide), fun b3 o3 => ?_⟩
      refine ⟨by show 0 ≤ sizeLine; exact Nat.zero_le _, fun b4 o4 => ?_⟩
      have y1 := m3.ns o1
      have m4 := m3.kp1 o1 (.tup [.str "a", .int 1])
      have y2 := m4.ns o2
      have m5 := m4.kp1 o2 (.tup [.ref b1])
      have y3 := m5.ns o3
      refine ⟨s, cc, .ref b3, .tuple [.int 0, .tuple [.tuple [.str "a", .int 1]]], b4, [], rfl, ⟨b3, _, rfl, y3.1, y3.2, (same_upd o4) _ _ upd_same, _, _, rfl, rfl, _, _, rfl, ⟨b2, _, rfl, y2.1, y2.2, (same_upd o4) _ _ ((same_upd o3) _ _ upd_same), _, _, rfl,
        ⟨b1, _, rfl, y1.1, y1.2, (same_upd o4) _ _ ((same_upd o3) _ _ ((same_upd o2) _ _ upd_same)), _, _, rfl, rfl, _, _, rfl, rfl, rfl⟩, rfl⟩, rfl⟩, .inl upd_same, ?_⟩
      exact ⟨false, false, rfl, rfl, q _⟩
end
end K3

set_option Elab.async false
set_option linter.all false
set_option maxRecDepth 100000
set_option maxHeartbeats 4000000
namespace K3
open PySem PySem.Spec PyProof.Rows L2
theorem all_mk {l : PySem.W.OpenLaw} {w : World} {K : PySem.W.Frag} {h : Heap} {mg : Str → Option Value} {fa : Addr} (X : K.In h) (G : h.Ns mainGlobals mg) (hfa : mg "law" = some (.ref fa))
    {fNm : Addr} {odNm anNm : Option Addr} {slNm : Array (Option Value)} {ocNm kVNm dcNm pmNm cdNm ctNm : Value}
    {fWh : Addr} {odWh anWh : Option Addr} {slWh : Array (Option Value)} {ocWh kVWh dcWh pmWh cdWh ctWh : Value}
    {fOo : Addr} {odOo anOo : Option Addr} {slOo : Array (Option Value)} {ocOo kVOo dcOo pmOo cdOo ctOo : Value}
    {fRw : Addr} {odRw anRw : Option Addr} {slRw : Array (Option Value)} {ocRw kVRw dcRw pmRw cdRw ctRw : Value}
    {fIc : Addr} {odIc anIc : Option Addr} {slIc : Array (Option Value)} {ocIc kVIc dcIc pmIc cdIc ctIc : Value}
    {fAt : Addr} {odAt anAt : Option Addr} {slAt : Array (Option Value)} {ocAt kVAt dcAt pmAt cdAt ctAt : Value}
    {fIt : Addr} {odIt anIt : Option Addr} {slIt : Array (Option Value)} {ocIt kVIt dcIt pmIt cdIt ctIt : Value}
    {fCa : Addr} {odCa anCa : Option Addr} {slCa : Array (Option Value)} {ocCa kVCa dcCa pmCa cdCa ctCa : Value}
    {fLo : Addr} {odLo anLo : Option Addr} {slLo : Array (Option Value)} {ocLo kVLo dcLo pmLo cdLo ctLo : Value}
    {fGo : Addr} {odGo anGo : Option Addr} {slGo : Array (Option Value)} {ocGo kVGo dcGo pmGo cdGo ctGo : Value}
    {fMx : Addr} {odMx anMx : Option Addr} {slMx : Array (Option Value)} {ocMx kVMx dcMx pmMx cdMx ctMx : Value}
    {fTk : Addr} {odTk anTk : Option Addr} {slTk : Array (Option Value)} {ocTk kVTk dcTk pmTk cdTk ctTk : Value}
    {fOf : Addr} {odOf anOf : Option Addr} {slOf : Array (Option Value)} {ocOf kVOf dcOf pmOf cdOf ctOf : Value}
    {fNb : Addr} {odNb anNb : Option Addr} {slNb : Array (Option Value)} {ocNb kVNb dcNb pmNb cdNb ctNb : Value}
    {fNs : Addr} {odNs anNs : Option Addr} {slNs : Array (Option Value)} {ocNs kVNs dcNs pmNs cdNs ctNs : Value}
    {fCb : Addr} {odCb anCb : Option Addr} {slCb : Array (Option Value)} {ocCb kVCb dcCb pmCb cdCb ctCb : Value}
    {fOd : Addr} {odOd anOd : Option Addr} {slOd : Array (Option Value)} {ocOd kVOd dcOd pmOd cdOd ctOd : Value}
    {fBt : Addr} {odBt anBt : Option Addr} {slBt : Array (Option Value)} {ocBt kVBt dcBt pmBt cdBt ctBt : Value}
    {fLn : Addr} {odLn anLn : Option Addr} {slLn : Array (Option Value)} {ocLn kVLn dcLn pmLn cdLn ctLn : Value}
    {fLc : Addr} {odLc anLc : Option Addr} {slLc : Array (Option Value)} {ocLc kVLc dcLc pmLc cdLc ctLc : Value}
    {fSm : Addr} {odSm anSm : Option Addr} {slSm : Array (Option Value)} {ocSm kVSm dcSm pmSm cdSm ctSm : Value}
    {fLw : Addr} {odLw anLw : Option Addr} {slLw : Array (Option Value)} {ocLw kVLw dcLw pmLw cdLw ctLw : Value}
    {t0 t1 t2 t3 : Tok}
    (aNm : PySem.W.nsIn K mainGlobals "is_number" = some (some (.ref fNm))) (lNm : K.lookup fNm = some ⟨ocNm, odNm, .func (PySem.W.fnOf "is_number" "is_number" (defArgs sIsNumber) (defBody sIsNumber) (defScope sIsNumber) .none kVNm dcNm pmNm anNm cdNm ctNm), slNm⟩) (cNm : PySem.W.codeIn K cdNm "is_number" = true) (kNm : PySem.W.keepIn K (.ref fNm) = true)
    (aWh : PySem.W.nsIn K mainGlobals "is_whole" = some (some (.ref fWh))) (lWh : K.lookup fWh = some ⟨ocWh, odWh, .func (PySem.W.fnOf "is_whole" "is_whole" (defArgs sIsWhole) (defBody sIsWhole) (defScope sIsWhole) .none kVWh dcWh pmWh anWh cdWh ctWh), slWh⟩) (cWh : PySem.W.codeIn K cdWh "is_whole" = true) (kWh : PySem.W.keepIn K (.ref fWh) = true)
    (aOo : PySem.W.nsIn K mainGlobals "is_one_of" = some (some (.ref fOo))) (lOo : K.lookup fOo = some ⟨ocOo, odOo, .func (PySem.W.fnOf "is_one_of" "is_one_of" (defArgs sIsOneOf) (defBody sIsOneOf) (defScope sIsOneOf) .none kVOo dcOo pmOo anOo cdOo ctOo), slOo⟩) (cOo : PySem.W.codeIn K cdOo "is_one_of" = true) (kOo : PySem.W.keepIn K (.ref fOo) = true)
    (aRw : PySem.W.nsIn K mainGlobals "is_row" = some (some (.ref fRw))) (lRw : K.lookup fRw = some ⟨ocRw, odRw, .func (PySem.W.fnOf "is_row" "is_row" (defArgs sIsRow) (defBody sIsRow) (defScope sIsRow) .none kVRw dcRw pmRw anRw cdRw ctRw), slRw⟩) (cRw : PySem.W.codeIn K cdRw "is_row" = true) (kRw : PySem.W.keepIn K (.ref fRw) = true)
    (aIc : PySem.W.nsIn K mainGlobals "is_count" = some (some (.ref fIc))) (lIc : K.lookup fIc = some ⟨ocIc, odIc, .func (PySem.W.fnOf "is_count" "is_count" (defArgs sIsCount) (defBody sIsCount) (defScope sIsCount) .none kVIc dcIc pmIc anIc cdIc ctIc), slIc⟩) (cIc : PySem.W.codeIn K cdIc "is_count" = true) (kIc : PySem.W.keepIn K (.ref fIc) = true)
    (aAt : PySem.W.nsIn K mainGlobals "are_terms" = some (some (.ref fAt))) (lAt : K.lookup fAt = some ⟨ocAt, odAt, .func (PySem.W.fnOf "are_terms" "are_terms" (defArgs sAreTerms) (defBody sAreTerms) (defScope sAreTerms) .none kVAt dcAt pmAt anAt cdAt ctAt), slAt⟩) (cAt : PySem.W.codeIn K cdAt "are_terms" = true) (kAt : PySem.W.keepIn K (.ref fAt) = true)
    (aIt : PySem.W.nsIn K mainGlobals "is_term" = some (some (.ref fIt))) (lIt : K.lookup fIt = some ⟨ocIt, odIt, .func (PySem.W.fnOf "is_term" "is_term" (defArgs sIsTerm) (defBody sIsTerm) (defScope sIsTerm) .none kVIt dcIt pmIt anIt cdIt ctIt), slIt⟩) (cIt : PySem.W.codeIn K cdIt "is_term" = true) (kIt : PySem.W.keepIn K (.ref fIt) = true)
    (aCa : PySem.W.nsIn K mainGlobals "count_at" = some (some (.ref fCa))) (lCa : K.lookup fCa = some ⟨ocCa, odCa, .func (PySem.W.fnOf "count_at" "count_at" (defArgs sCountAt) (defBody sCountAt) (defScope sCountAt) .none kVCa dcCa pmCa anCa cdCa ctCa), slCa⟩) (cCa : PySem.W.codeIn K cdCa "count_at" = true) (kCa : PySem.W.keepIn K (.ref fCa) = true)
    (aLo : PySem.W.nsIn K mainGlobals "least_of" = some (some (.ref fLo))) (lLo : K.lookup fLo = some ⟨ocLo, odLo, .func (PySem.W.fnOf "least_of" "least_of" (defArgs sLeast) (defBody sLeast) (defScope sLeast) .none kVLo dcLo pmLo anLo cdLo ctLo), slLo⟩) (cLo : PySem.W.codeIn K cdLo "least_of" = true) (kLo : PySem.W.keepIn K (.ref fLo) = true)
    (aGo : PySem.W.nsIn K mainGlobals "greatest_of" = some (some (.ref fGo))) (lGo : K.lookup fGo = some ⟨ocGo, odGo, .func (PySem.W.fnOf "greatest_of" "greatest_of" (defArgs sGreatest) (defBody sGreatest) (defScope sGreatest) .none kVGo dcGo pmGo anGo cdGo ctGo), slGo⟩) (cGo : PySem.W.codeIn K cdGo "greatest_of" = true) (kGo : PySem.W.keepIn K (.ref fGo) = true)
    (aMx : PySem.W.nsIn K mainGlobals "_law_mixed" = some (some (.ref fMx))) (lMx : K.lookup fMx = some ⟨ocMx, odMx, .func (PySem.W.fnOf "_law_mixed" "_law_mixed" (defArgs sMixed) (defBody sMixed) (defScope sMixed) .none kVMx dcMx pmMx anMx cdMx ctMx), slMx⟩) (cMx : PySem.W.codeIn K cdMx "_law_mixed" = true) (kMx : PySem.W.keepIn K (.ref fMx) = true)
    (aTk : PySem.W.nsIn K mainGlobals "_law_take" = some (some (.ref fTk))) (lTk : K.lookup fTk = some ⟨ocTk, odTk, .func (PySem.W.fnOf "_law_take" "_law_take" (defArgs sTake) (defBody sTake) (defScope sTake) .none kVTk dcTk pmTk anTk cdTk ctTk), slTk⟩) (cTk : PySem.W.codeIn K cdTk "_law_take" = true) (kTk : PySem.W.keepIn K (.ref fTk) = true)
    (aOf : PySem.W.nsIn K mainGlobals "_law_of" = some (some (.ref fOf))) (lOf : K.lookup fOf = some ⟨ocOf, odOf, .func (PySem.W.fnOf "_law_of" "_law_of" (defArgs sOf) (defBody sOf) (defScope sOf) .none kVOf dcOf pmOf anOf cdOf ctOf), slOf⟩) (cOf : PySem.W.codeIn K cdOf "_law_of" = true) (kOf : PySem.W.keepIn K (.ref fOf) = true)
    (aNb : PySem.W.nsIn K mainGlobals "_law_name_by" = some (some (.ref fNb))) (lNb : K.lookup fNb = some ⟨ocNb, odNb, .func (PySem.W.fnOf "_law_name_by" "_law_name_by" (defArgs sNameBy) (defBody sNameBy) (defScope sNameBy) .none kVNb dcNb pmNb anNb cdNb ctNb), slNb⟩) (cNb : PySem.W.codeIn K cdNb "_law_name_by" = true) (kNb : PySem.W.keepIn K (.ref fNb) = true)
    (aNs : PySem.W.nsIn K mainGlobals "_law_names_by" = some (some (.ref fNs))) (lNs : K.lookup fNs = some ⟨ocNs, odNs, .func (PySem.W.fnOf "_law_names_by" "_law_names_by" (defArgs sNamesBy) (defBody sNamesBy) (defScope sNamesBy) .none kVNs dcNs pmNs anNs cdNs ctNs), slNs⟩) (cNs : PySem.W.codeIn K cdNs "_law_names_by" = true) (kNs : PySem.W.keepIn K (.ref fNs) = true)
    (aCb : PySem.W.nsIn K mainGlobals "_law_count_by" = some (some (.ref fCb))) (lCb : K.lookup fCb = some ⟨ocCb, odCb, .func (PySem.W.fnOf "_law_count_by" "_law_count_by" (defArgs sCountBy) (defBody sCountBy) (defScope sCountBy) .none kVCb dcCb pmCb anCb cdCb ctCb), slCb⟩) (cCb : PySem.W.codeIn K cdCb "_law_count_by" = true) (kCb : PySem.W.keepIn K (.ref fCb) = true)
    (aOd : PySem.W.nsIn K mainGlobals "_law_odd_by" = some (some (.ref fOd))) (lOd : K.lookup fOd = some ⟨ocOd, odOd, .func (PySem.W.fnOf "_law_odd_by" "_law_odd_by" (defArgs sOddBy) (defBody sOddBy) (defScope sOddBy) .none kVOd dcOd pmOd anOd cdOd ctOd), slOd⟩) (cOd : PySem.W.codeIn K cdOd "_law_odd_by" = true) (kOd : PySem.W.keepIn K (.ref fOd) = true)
    (aBt : PySem.W.nsIn K mainGlobals "_law_bent" = some (some (.ref fBt))) (lBt : K.lookup fBt = some ⟨ocBt, odBt, .func (PySem.W.fnOf "_law_bent" "_law_bent" (defArgs sBent) (defBody sBent) (defScope sBent) .none kVBt dcBt pmBt anBt cdBt ctBt), slBt⟩) (cBt : PySem.W.codeIn K cdBt "_law_bent" = true) (kBt : PySem.W.keepIn K (.ref fBt) = true)
    (aLn : PySem.W.nsIn K mainGlobals "_law_is_number" = some (some (.ref fLn))) (lLn : K.lookup fLn = some ⟨ocLn, odLn, .func (PySem.W.fnOf "_law_is_number" "_law_is_number" (defArgs sLNumber) (defBody sLNumber) (defScope sLNumber) .none kVLn dcLn pmLn anLn cdLn ctLn), slLn⟩) (cLn : PySem.W.codeIn K cdLn "_law_is_number" = true) (kLn : PySem.W.keepIn K (.ref fLn) = true)
    (aLc : PySem.W.nsIn K mainGlobals "_law_is_count" = some (some (.ref fLc))) (lLc : K.lookup fLc = some ⟨ocLc, odLc, .func (PySem.W.fnOf "_law_is_count" "_law_is_count" (defArgs sLCount) (defBody sLCount) (defScope sLCount) .none kVLc dcLc pmLc anLc cdLc ctLc), slLc⟩) (cLc : PySem.W.codeIn K cdLc "_law_is_count" = true) (kLc : PySem.W.keepIn K (.ref fLc) = true)
    (aSm : PySem.W.nsIn K mainGlobals "_law_sums_right" = some (some (.ref fSm))) (lSm : K.lookup fSm = some ⟨ocSm, odSm, .func (PySem.W.fnOf "_law_sums_right" "_law_sums_right" (defArgs sSums) (defBody sSums) (defScope sSums) .none kVSm dcSm pmSm anSm cdSm ctSm), slSm⟩) (cSm : PySem.W.codeIn K cdSm "_law_sums_right" = true) (kSm : PySem.W.keepIn K (.ref fSm) = true)
    (aLw : PySem.W.nsIn K mainGlobals "law" = some (some (.ref fLw))) (lLw : K.lookup fLw = some ⟨ocLw, odLw, .func (PySem.W.fnOf "law" "law" (defArgs sLaw) (defBody sLaw) (defScope sLaw) .none kVLw dcLw pmLw anLw cdLw ctLw), slLw⟩) (cLw : PySem.W.codeIn K cdLw "law" = true) (kLw : PySem.W.keepIn K (.ref fLw) = true)
    (z0 : PySem.W.nsIn K mainGlobals "isinstance" = some none)
    (z1 : PySem.W.nsIn K mainGlobals "int" = some none)
    (z2 : PySem.W.nsIn K mainGlobals "bool" = some none)
    (z3 : PySem.W.nsIn K mainGlobals "str" = some none)
    (z4 : PySem.W.nsIn K mainGlobals "tuple" = some none)
    (z5 : PySem.W.nsIn K mainGlobals "len" = some none)
    (z6 : PySem.W.nsIn K mainGlobals "range" = some none)
    (z7 : PySem.W.nsIn K mainGlobals "dict" = some none)
    (z8 : PySem.W.nsIn K mainGlobals "list" = some none)
    (z9 : PySem.W.nsIn K mainGlobals "repr" = some none)
    (z10 : PySem.W.nsIn K mainGlobals "sum" = some none)
    (z11 : PySem.W.nsIn K mainGlobals "min" = some none)
    (z12 : PySem.W.nsIn K mainGlobals "max" = some none)
    (z13 : PySem.W.nsIn K mainGlobals "sorted" = some none)
    (z14 : PySem.W.nsIn K mainGlobals "enumerate" = some none)
    (y0 : PySem.W.nsIn K mainGlobals "MOST_FIXED" = some (some (.int 20 t0)))
    (y1 : PySem.W.nsIn K mainGlobals "MOST_TERMS" = some (some (.int 3 t1)))
    (y2 : PySem.W.nsIn K mainGlobals "MOST_TIMES" = some (some (.int 3 t2)))
    (y3 : PySem.W.nsIn K mainGlobals "MOST_SIZE" = some (some (.int 12 t3))) :
    ∃ fd : FuncData, (∀ (s : Shared) (v : Value), BindsTo s fd ⟨[v], []⟩ [("script", v)]) ∧ ∀ base : Heap, K.In base → base.Ns mainGlobals mg → KG.FnG l.prog w K mg base 10 fa fd ["script"] (spLaw (K := K)) := by
  have e := hfa.symm.trans (PySem.W.mg_of X G aLw)
  cases e
  have FNm := fun_mk (st := sIsNumber) lNm cNm kNm
  have FWh := fun_mk (st := sIsWhole) lWh cWh kWh
  have FOo := fun_mk (st := sIsOneOf) lOo cOo kOo
  have FRw := fun_mk (st := sIsRow) lRw cRw kRw
  have FIc := fun_mk (st := sIsCount) lIc cIc kIc
  have FAt := fun_mk (st := sAreTerms) lAt cAt kAt
  have FIt := fun_mk (st := sIsTerm) lIt cIt kIt
  have FCa := fun_mk (st := sCountAt) lCa cCa kCa
  have FLo := fun_mk (st := sLeast) lLo cLo kLo
  have FGo := fun_mk (st := sGreatest) lGo cGo kGo
  have FMx := fun_mk (st := sMixed) lMx cMx kMx
  have FTk := fun_mk (st := sTake) lTk cTk kTk
  have FOf := fun_mk (st := sOf) lOf cOf kOf
  have FNb := fun_mk (st := sNameBy) lNb cNb kNb
  have FNs := fun_mk (st := sNamesBy) lNs cNs kNs
  have FCb := fun_mk (st := sCountBy) lCb cCb kCb
  have FOd := fun_mk (st := sOddBy) lOd cOd kOd
  have FBt := fun_mk (st := sBent) lBt cBt kBt
  have FLn := fun_mk (st := sLNumber) lLn cLn kLn
  have FLc := fun_mk (st := sLCount) lLc cLc kLc
  have FSm := fun_mk (st := sSums) lSm cSm kSm
  have FLw := fun_mk (st := sLaw) lLw cLw kLw
  have bNm := FNm.binds (ps := ["thing"]) fun _ _ _ _ _ _ us hl => match us, hl with | [_], _ => rfl
  have bOo := FOo.binds (ps := ["thing", "words"]) fun _ _ _ _ _ _ us hl => match us, hl with | [_, _], _ => rfl
  have bRw := FRw.binds (ps := ["thing", "least", "most"]) fun _ _ _ _ _ _ us hl => match us, hl with | [_, _, _], _ => rfl
  have bIc := FIc.binds (ps := ["thing", "names"]) fun _ _ _ _ _ _ us hl => match us, hl with | [_, _], _ => rfl
  have bAt := FAt.binds (ps := ["thing", "names"]) fun _ _ _ _ _ _ us hl => match us, hl with | [_, _], _ => rfl
  have bIt := FIt.binds (ps := ["thing", "names"]) fun _ _ _ _ _ _ us hl => match us, hl with | [_, _], _ => rfl
  have bCa := FCa.binds (ps := ["count", "sizes"]) fun _ _ _ _ _ _ us hl => match us, hl with | [_, _], _ => rfl
  have bLo := FLo.binds (ps := ["count"]) fun _ _ _ _ _ _ us hl => match us, hl with | [_], _ => rfl
  have bGo := FGo.binds (ps := ["count"]) fun _ _ _ _ _ _ us hl => match us, hl with | [_], _ => rfl
  have bMx := FMx.binds (ps := ["drawn", "k"]) fun _ _ _ _ _ _ us hl => match us, hl with | [_, _], _ => rfl
  have bTk := FTk.binds (ps := ["stream", "many"]) fun _ _ _ _ _ _ us hl => match us, hl with | [_, _], _ => rfl
  have bOf := FOf.binds (ps := ["stream", "some"]) fun _ _ _ _ _ _ us hl => match us, hl with | [_, _], _ => rfl
  have bNb := FNb.binds (ps := ["stream"]) fun _ _ _ _ _ _ us hl => match us, hl with | [_], _ => rfl
  have bNs := FNs.binds (ps := ["stream", "many"]) fun _ _ _ _ _ _ us hl => match us, hl with | [_, _], _ => rfl
  have bCb := FCb.binds (ps := ["stream", "words"]) fun _ _ _ _ _ _ us hl => match us, hl with | [_, _], _ => rfl
  have bOd := FOd.binds (ps := ["stream"]) fun _ _ _ _ _ _ us hl => match us, hl with | [_], _ => rfl
  have bBt := FBt.binds (ps := ["stream", "item"]) fun _ _ _ _ _ _ us hl => match us, hl with | [_, _], _ => rfl
  have bLn := FLn.binds (ps := ["item", "low", "high"]) fun _ _ _ _ _ _ us hl => match us, hl with | [_, _, _], _ => rfl
  have bLc := FLc.binds (ps := ["item", "words"]) fun _ _ _ _ _ _ us hl => match us, hl with | [_, _], _ => rfl
  have bSm := FSm.binds (ps := ["stream", "whole", "words"]) fun _ _ _ _ _ _ us hl => match us, hl with | [_, _, _], _ => rfl
  have TB : TxB mg := ⟨(PySem.W.mg_none_of X G z0), (PySem.W.mg_none_of X G z1), (PySem.W.mg_none_of X G z2), (PySem.W.mg_none_of X G z3), (PySem.W.mg_none_of X G z4), (PySem.W.mg_none_of X G z5)⟩
  let TF : TxF K mg := { B := TB, fN := _, fW := _, fO := _, fR := _, fA := _, fT := _, dN := _, dW := _, dO := _, dR := _, dA := _, dT := _, FN := FNm, FW := FWh, FO := FOo, FR := FRw, FA := FAt, FT := FIt, bN := bNm, bO := bOo, bR := bRw, bA := bAt, bT := bIt, bW := kbn_whole FWh, gN := (PySem.W.mg_of X G aNm), gW := (PySem.W.mg_of X G aWh), gO := (PySem.W.mg_of X G aOo), gR := (PySem.W.mg_of X G aRw), gA := (PySem.W.mg_of X G aAt), gT := (PySem.W.mg_of X G aIt), c20 := ⟨_, PySem.W.mg_of X G y0⟩, c3 := ⟨_, PySem.W.mg_of X G y1⟩, c3' := ⟨_, PySem.W.mg_of X G y2⟩ }
  let TS : TxS K mg := { len := (PySem.W.mg_none_of X G z5), rng := (PySem.W.mg_none_of X G z6), fM := _, fT := _, fO := _, dM := _, dT := _, dO := _, FM := FMx, FT := FTk, FO := FOf, bM := bMx, bT := bTk, bO := bOf, gM := (PySem.W.mg_of X G aMx), gT := (PySem.W.mg_of X G aTk), gO := (PySem.W.mg_of X G aOf) }
  let TC : TxC K mg := { dict := (PySem.W.mg_none_of X G z7), list := (PySem.W.mg_none_of X G z8), repr := (PySem.W.mg_none_of X G z9), range := (PySem.W.mg_none_of X G z6), sum := (PySem.W.mg_none_of X G z10), fC := _, fL := _, fG := _, dC := _, dL := _, dG := _, FC := FCa, FL := FLo, FG := FGo, bC := bCa, bL := bLo, bG := bGo, kC := kbn_count FCa, kL := kbn_least FLo, kG := kbn_greatest FGo, gC := (PySem.W.mg_of X G aCa), gL := (PySem.W.mg_of X G aLo), gG := (PySem.W.mg_of X G aGo), c12 := ⟨_, PySem.W.mg_of X G y3⟩ }
  let TA : TxA K mg := { S := TS, F := TF, C := TC, mMin := (PySem.W.mg_none_of X G z11), mMax := (PySem.W.mg_none_of X G z12), mSorted := (PySem.W.mg_none_of X G z13), mEnum := (PySem.W.mg_none_of X G z14), fN := _, fNs := _, fCb := _, fD := _, fB := _, fLn := _, fLc := _, fSm := _, fI := _, dN := _, dNs := _, dCb := _, dD := _, dB := _, dLn := _, dLc := _, dSm := _, dI := _, FN := FNb, FNs := FNs, FCb := FCb, FD := FOd, FB := FBt, FLn := FLn, FLc := FLc, FSm := FSm, FI := FIc, bN := bNb, bNs := bNs, bCb := bCb, bD := bOd, bB := bBt, bLn := bLn, bLc := bLc, bSm := bSm, bI := bIc, kI1 := kbn_is1 FIc, kI2 := kbn_is2 FIc, gN := (PySem.W.mg_of X G aNb), gNs := (PySem.W.mg_of X G aNs), gCb := (PySem.W.mg_of X G aCb), gD := (PySem.W.mg_of X G aOd), gB := (PySem.W.mg_of X G aBt), gLn := (PySem.W.mg_of X G aLn), gLc := (PySem.W.mg_of X G aLc), gSm := (PySem.W.mg_of X G aSm), gI := (PySem.W.mg_of X G aIc) }
  exact ⟨_, fun s v => .of_eq rfl, fun base _ _ => ok_law FLw TA⟩
end K3
open PySem PySem.W PyProof.Rows
set_option maxHeartbeats 0 in
theorem PySem.Challenge.cw_lanewright_k03_counts_by_their_sums_holds : PySem.Challenge.rw_lanewright_k03_counts_by_their_sums.Holds := by
  w_on; o_law; k_head; (case hw => w_witness2)
  k_fill
  refine KG.walk_end (l := PySem.Challenge.rw_lanewright_k03_counts_by_their_sums) (n := 63) (k := 10) (x := "script") (sp := fun w => K3.spLaw) rfl (by decide) rfl ⟨rfl, by decide, by decide⟩ (fun w h Y => PySem.W.kIn_of Y) ?F (fun _ _ a ns hl _ hS => ⟨a, ns, rfl, hS, hl, fun _ => rfl⟩)
  case F =>
    intro w mg fa h KX G hmg
    refine' K3.all_mk KX G hmg ?aNm ?lNm ?cNm ?kNm ?aWh ?lWh ?cWh ?kWh ?aOo ?lOo ?cOo ?kOo ?aRw ?lRw ?cRw ?kRw ?aIc ?lIc ?cIc ?kIc ?aAt ?lAt ?cAt ?kAt ?aIt ?lIt ?cIt ?kIt ?aCa ?lCa ?cCa ?kCa ?aLo ?lLo ?cLo ?kLo ?aGo ?lGo ?cGo ?kGo ?aMx ?lMx ?cMx ?kMx ?aTk ?lTk ?cTk ?kTk ?aOf ?lOf ?cOf ?kOf ?aNb ?lNb ?cNb ?kNb ?aNs ?lNs ?cNs ?kNs ?aCb ?lCb ?cCb ?kCb ?aOd ?lOd ?cOd ?kOd ?aBt ?lBt ?cBt ?kBt ?aLn ?lLn ?cLn ?kLn ?aLc ?lLc ?cLc ?kLc ?aSm ?lSm ?cSm ?kSm ?aLw ?lLw ?cLw ?kLw ?z0 ?z1 ?z2 ?z3 ?z4 ?z5 ?z6 ?z7 ?z8 ?z9 ?z10 ?z11 ?z12 ?z13 ?z14 ?y0 ?y1 ?y2 ?y3
    (case aNm => k_is); (case lNm => k_is); (case cNm => k_is); (case kNm => k_is); (case aWh => k_is); (case lWh => k_is); (case cWh => k_is); (case kWh => k_is); (case aOo => k_is); (case lOo => k_is); (case cOo => k_is); (case kOo => k_is); (case aRw => k_is); (case lRw => k_is); (case cRw => k_is); (case kRw => k_is); (case aIc => k_is); (case lIc => k_is); (case cIc => k_is); (case kIc => k_is); (case aAt => k_is); (case lAt => k_is); (case cAt => k_is); (case kAt => k_is); (case aIt => k_is); (case lIt => k_is); (case cIt => k_is); (case kIt => k_is); (case aCa => k_is); (case lCa => k_is); (case cCa => k_is); (case kCa => k_is); (case aLo => k_is); (case lLo => k_is); (case cLo => k_is); (case kLo => k_is); (case aGo => k_is); (case lGo => k_is); (case cGo => k_is); (case kGo => k_is); (case aMx => k_is); (case lMx => k_is); (case cMx => k_is); (case kMx => k_is); (case aTk => k_is); (case lTk => k_is); (case cTk => k_is); (case kTk => k_is); (case aOf => k_is); (case lOf => k_is); (case cOf => k_is); (case kOf => k_is); (case aNb => k_is); (case lNb => k_is); (case cNb => k_is); (case kNb => k_is); (case aNs => k_is); (case lNs => k_is); (case cNs => k_is); (case kNs => k_is); (case aCb => k_is); (case lCb => k_is); (case cCb => k_is); (case kCb => k_is); (case aOd => k_is); (case lOd => k_is); (case cOd => k_is); (case kOd => k_is); (case aBt => k_is); (case lBt => k_is); (case cBt => k_is); (case kBt => k_is); (case aLn => k_is); (case lLn => k_is); (case cLn => k_is); (case kLn => k_is); (case aLc => k_is); (case lLc => k_is); (case cLc => k_is); (case kLc => k_is); (case aSm => k_is); (case lSm => k_is); (case cSm => k_is); (case kSm => k_is); (case aLw => k_is); (case lLw => k_is); (case cLw => k_is); (case kLw => k_is); (case z0 => k_is); (case z1 => k_is); (case z2 => k_is); (case z3 => k_is); (case z4 => k_is); (case z5 => k_is); (case z6 => k_is); (case z7 => k_is); (case z8 => k_is); (case z9 => k_is); (case z10 => k_is); (case z11 => k_is); (case z12 => k_is); (case z13 => k_is); (case z14 => k_is); (case y0 => k_is); (case y1 => k_is); (case y2 => k_is); (case y3 => k_is)
