import PyProof.Rows.All
import Wide.All
import OpenK.AllK
import Wide.FinOn
import PySem.Challenge.RW_lanewright_k04_whole_at_most_all_sizes
import HandS.ForMost
import HandS.TupAny
import HandS.Evl
import HandS.Walk
import PyProof.NeData
import KE.GoesMore
import KE.KDictZip
import PyProof.ListNew
import HandS.ListItems
import KE.GoesEnum
import PyProof.ReprRoads
import HandS.Defaults
import PyProof.CallFns
import PyProof.Rows.SeqMore
import HandS.Style
import HandS.OwnEq
set_option Elab.async false
set_option linter.all false
set_option maxRecDepth 100000
set_option maxHeartbeats 4000000
namespace K4
open PySem PySem.Spec PyProof.Rows L2

/-! ### the text -/
def topS (i : Nat) : Stmt := PySem.Challenge.pw_lanewright_k04_whole_at_most_all_sizes.main.body.getD i (.Pass ⟨0, 0, 0, 0⟩)
abbrev sMixed : Stmt := topS 12
abbrev sTake : Stmt := topS 13
abbrev sOf : Stmt := topS 14
theorem scMixed : FnScope ["drawn", "k"] ["drawn", "k"] (defScope sMixed) := ⟨rfl, rfl, rfl, by decide +kernel, rfl, by decide +kernel, by decide +kernel⟩
theorem scTake : FnScope ["stream", "many", "cell", "drawn"] ["stream", "many"] (defScope sTake) := ⟨rfl, rfl, rfl, by decide +kernel, rfl, by decide +kernel, by decide +kernel⟩
theorem scOf : FnScope ["stream", "some"] ["stream", "some"] (defScope sOf) := ⟨rfl, rfl, rfl, by decide +kernel, rfl, by decide +kernel, by decide +kernel⟩

/-! ### heaps -/
/-- all but the objects at s and c is as it was -/
def Kp (s c : Addr) (H H' : Hp) : Prop := ∀ b o, b ≠ s → b ≠ c → H b = some o → H' b = some o
theorem Kp.refl {s c : Addr} (H : Hp) : Kp s c H H := fun _ _ _ _ h => h
theorem Kp.trans {s c : Addr} {H H1 H2 : Hp} (a : Kp s c H H1) (b : Kp s c H1 H2) : Kp s c H H2 := fun d o h1 h2 h => b d o h1 h2 (a d o h1 h2 h)
theorem Kp.of_same {s c : Addr} {H H' : Hp} (a : Same H H') : Kp s c H H' := fun b o _ _ h => a b o h
theorem Kp.atS {s c : Addr} {H : Hp} {o : HO} : Kp s c H (upd H s o) := fun b _ h1 _ h => by rw [upd_ne h1]; exact h
theorem Kp.atC {s c : Addr} {H : Hp} {o : HO} : Kp s c H (upd H c o) := fun b _ _ h2 h => by rw [upd_ne h2]; exact h
theorem same_upd {H : Hp} {p : Addr} {o : HO} (h : H p = none) : Same H (upd H p o) := fun b x e => by
  rw [upd_ne (ne_of_none e h)]
  exact e
theorem Kp.new {s c : Addr} {H : Hp} {p : Addr} {o : HO} (h : H p = none) : Kp s c H (upd H p o) := .of_same (same_upd h)
/-- the stream at s, its cells at c; at most n were drawn -/
def Sm (s c : Addr) (n : Int) (H : Hp) : Prop := s ≠ c ∧ ∃ (cells : List Int) (a b d : Int), H s = some (.lst [.ref c, .int a, .int b, .int d, .int 0]) ∧ H c = some (.lst (cells.map V.int)) ∧ 0 ≤ b ∧ b ≤ n
theorem Sm.same {s c : Addr} {n : Int} {H H' : Hp} (h : Sm s c n H) (e : Same H H') : Sm s c n H' := by
  obtain ⟨ne, cells, a, b, d, h1, h2, h3, h4⟩ := h
  exact ⟨ne, cells, a, b, d, e _ _ h1, e _ _ h2, h3, h4⟩
theorem Sm.le {s c : Addr} {n m : Int} {H : Hp} (h : Sm s c n H) (e : n ≤ m) : Sm s c m H := by
  obtain ⟨ne, cells, a, b, d, h1, h2, h3, h4⟩ := h
  exact ⟨ne, cells, a, b, d, h1, h2, h3, Int.le_trans h4 e⟩
theorem Sm.ns {s c : Addr} {n : Int} {H : Hp} (h : Sm s c n H) {p : Addr} (e : H p = none) : p ≠ s ∧ p ≠ c := by
  obtain ⟨ne, cells, a, b, d, h1, h2, h3, h4⟩ := h
  exact ⟨(ne_of_none h1 e).symm, (ne_of_none h2 e).symm⟩

/-! ### drawing -/
section
variable {P : Program} {w : World} {K : PySem.W.Frag} {mg : Str → Option Value} {base : Heap}
def spMixed : Sp := fun vs H Q _ => ∃ (x k : Int), vs = [.int x, .int k] ∧ 0 ≤ k ∧ k ≤ 1000000 ∧ ∀ r : Int, 0 ≤ r → Q (.int r) H
theorem ok_mixed {f : Addr} {fd : FuncData} (F : Fun K "_law_mixed" "_law_mixed" sMixed f fd) : FnOk P w K mg base CX0 1 f fd ["drawn", "k"] spMixed := by
  refine F.ok scMixed (fun vs H Q E h => ?_) (fun cdv A outer s H vs Q E hr h => ?_)
  · obtain ⟨x, k, rfl, _⟩ := h
    rfl
  · obtain ⟨x, k, rfl, h0, h1, q⟩ := h
    refine ⟨_, pss_cons (ps_set (i := 0) scMixed.nd rfl (.inl rfl) (pe_op op_mod (pe_op op_pow (pe_op op_add (pe_op op_add (pe_op op_add (pe_op op_mod (pv 0) pe_int) (pe_op op_mul (pe_op op_mul pe_int (pv 1)) (pv 1))) (pe_op op_mul pe_int (pv 1))) pe_int) pe_int) pe_int))
      (pss_one (ps_ret (pe_op op_fdiv (pe_op op_mod (pe_op op_mul (pv 0) (pe_op op_add pe_int (pe_op op_mul pe_int (pv 1)))) pe_int) pe_int))), ?_⟩
    have hx0 : 0 ≤ x % 2147483647 := Int.emod_nonneg _ (by decide)
    have hx1 : x % 2147483647 < 2147483647 := Int.emod_lt_of_pos _ (by decide)
    have hk1 : 7919 * k * k ≤ 7919 * 1000000 * 1000000 := by
      have e1 : 7919 * k ≤ 7919 * 1000000 := by omega
      exact Int.le_trans (Int.mul_le_mul_of_nonneg_right e1 h0) (Int.mul_le_mul_of_nonneg_left h1 (by decide))
    have hk0 : 0 ≤ 7919 * k * k := Int.mul_nonneg (by omega) h0
    refine ⟨_, rfl, _, _, rfl, rfl, (by show (0:Int) < 2147483647; decide), _, rfl, _, _, rfl, rfl, .inl ⟨by decide, by decide⟩, _, rfl, _, _, rfl, rfl, .inr ⟨by omega, by omega⟩, _, _, rfl, rfl, _, rfl, _, _, rfl, rfl, .inl ⟨by decide, by decide⟩, _, _, rfl, rfl, _, _, rfl, rfl,
      _, _, rfl, rfl, ⟨by decide, by decide, by omega⟩, _, _, rfl, rfl, (by show (0:Int) < 2147483629; decide), ?_⟩
    generalize (x % 2147483647 + 7919 * k * k + 31 * k + 5) ^ (5 : Int).toNat = y
    have hy0 : 0 ≤ y % 2147483629 := Int.emod_nonneg _ (by decide)
    have hy1 : y % 2147483629 < 2147483629 := Int.emod_lt_of_pos _ (by decide)
    refine ⟨_, rfl, _, rfl, _, _, rfl, rfl, .inl ⟨by decide, by decide⟩, _, _, rfl, rfl, _, _, rfl, rfl, .inl ⟨by omega, by omega⟩, _, _, rfl, rfl, (by show (0:Int) < 2147483587; decide), _, _, rfl, rfl, ⟨by decide, by decide⟩, ?_⟩
    exact q _ (Int.ediv_nonneg (Int.emod_nonneg _ (by decide)) (by decide))
end
end K4

set_option Elab.async false
set_option linter.all false
set_option maxRecDepth 100000
set_option maxHeartbeats 4000000
namespace K4
open PySem PySem.Spec PyProof.Rows L2
theorem canLay_ints : ∀ ns : List Int, PyData.canLayAll0 (ns.map PyData.int) = true
  | [] => by simp [PyData.canLayAll0]
  | n :: ns => by simp [PyData.canLayAll0, PyData.canLay0, canLay_ints ns]
theorem depth_ints : ∀ ns : List Int, PyData.depthAll (ns.map PyData.int) = 0
  | [] => by simp [PyData.depthAll]
  | n :: ns => by simp [PyData.depthAll, PyData.depth, depth_ints ns]
theorem shaped_ints (ns : List Int) : SeqAt.shaped (.list (ns.map PyData.int)) = true := by
  show (PyData.canLay0 (.list _) && decide (PyData.depth (.list _) ≤ 64)) = true
  rw [Bool.and_eq_true]
  exact ⟨by simp only [PyData.canLay0]; exact canLay_ints ns, decide_eq_true (by simp only [PyData.depth, depth_ints]; omega)⟩
theorem dp_ints {K : PySem.W.Frag} {H : Hp} : ∀ ns : List Int, DpAll K H (ns.map V.int) (ns.map PyData.int)
  | [] => .nil
  | n :: ns => .cons (.int n) (dp_ints ns)
theorem eqv_nil (ns : List Int) : PyData.eqv (.list (ns.map PyData.int)) (.list []) = ns.isEmpty := by
  cases ns with
  | nil => simp [PyData.eqv, PyData.eqvAll]
  | cons x r => simp [PyData.eqv, PyData.eqvAll]
section
variable {P : Program} {w : World} {K : PySem.W.Frag} {mg : Str → Option Value} {base : Heap}
def spTake : Sp := fun vs H Q _ => ∃ (s c : Addr) (m n : Int), vs = [.ref s, .int m] ∧ 1 ≤ m ∧ m ≤ 1000000 ∧ n ≤ 900000 ∧ Sm s c n H ∧ ∀ (r : Int) (H' : Hp), 0 ≤ r → r < m → Kp s c H H' → Sm s c (n + 1) H' → Q (.int r) H'
theorem ok_take {f fM : Addr} {fd fdM : FuncData} (F : Fun K "_law_take" "_law_take" sTake f fd) (FM : Fun K "_law_mixed" "_law_mixed" sMixed fM fdM) (bM : Binds K fdM ["drawn", "k"] []) (gM : mg "_law_mixed" = some (.ref fM)) :
    FnOk P w K mg base CX0 2 f fd ["stream", "many"] spTake := by
  have GM : FnOk P w K mg base CX0 1 fM fdM ["drawn", "k"] spMixed := ok_mixed FM
  refine F.ok scTake (fun vs H Q E h => ?_) (fun cdv A outer s0 H vs Q E hr h => ?_)
  · obtain ⟨s, c, m, n, rfl, _⟩ := h
    rfl
  · obtain ⟨s, c, m, n, rfl, m1, m2, hn, ⟨ne, cells, a, b, d, hs, hc, b0, b1⟩, q⟩ := h
    refine ⟨_, pss_cons (ps_asg (pe_op op_add (pe_ix ix_list (pv 0) pe_int (fun _ _ => rfl)) pe_int) (pg_sub (pv 0) pe_int set_list))
      (Evl.pss_cut (ps_if (PW.pt (pw_and (pt_cmpR op_lt (pe_ix ix_list (pv 0) pe_int (fun _ _ => rfl)) pe_int (nomark _)) (pw_and1 (pt_cmpR (op_neD hr.units) (pe_ix ix_list (pv 0) pe_int (fun _ _ => rfl)) (pe_lst pa_nil) (nomark _)))))
          (pss_cons (ps_set (i := 2) scTake.nd rfl (.inl rfl) (pe_bm PySem.F.plainAttrs_list PySem.F.slot_list_pop PySem.F.type_list_pop mt_popAt (pe_ix ix_list (pv 0) pe_int (fun _ _ => rfl)) (pa_cons pe_int pa_nil)))
          (Evl.pss_cut (ps_asg (pe_ifExp (pt_cmpR op_ge (pv 2) (pe_op op_pow pe_int pe_int) (nomark _)) (pv 2) pe_int) (pg_sub (pv 0) pe_int set_list))
          (pss_one (ps_asg (pe_call GM hr (by rfl) gM FM.kp bM .nil pass0 (pa_cons (pe_op op_add (pe_ix ix_list (pv 0) pe_int (fun _ _ => rfl)) (pv 2)) (pa_cons (pe_ix ix_list (pv 0) pe_int (fun _ _ => rfl)) pa_nil))) (pg_sub (pv 0) pe_int set_list))))) pss_nil)
      (pss_cons (ps_if (pt_cmpR op_gt (pe_ix ix_list (pv 0) pe_int (fun _ _ => rfl)) pe_int (nomark _))
          (pss_cons (ps_set (i := 3) scTake.nd rfl (.inl rfl) (pe_op op_mod (pe_ix ix_list (pv 0) pe_int (fun _ _ => rfl)) (pv 1)))
          (pss_cons (ps_asg (pe_op op_fdiv (pe_ix ix_list (pv 0) pe_int (fun _ _ => rfl)) (pv 1)) (pg_sub (pv 0) pe_int set_list))
          (pss_one (ps_ret (pv 3))))) pss_nil)
      (pss_one (ps_ret (pe_op op_mod (pe_op op_fdiv (pe_call GM hr (by rfl) gM FM.kp bM .nil pass0 (pa_cons (pe_op op_add (pe_ix ix_list (pv 0) pe_int (fun _ _ => rfl)) (pe_op op_mul pe_int (pe_ix ix_list (pv 0) pe_int (fun _ _ => rfl)))) (pa_cons (pe_ix ix_list (pv 0) pe_int (fun _ _ => rfl)) pa_nil))) pe_int) (pv 1)))))), ?_⟩
    -- stream[2] = stream[2] + 1
    refine ⟨_, rfl, s, _, _, _, rfl, rfl, .inl (.inl hs), rfl, _, _, rfl, rfl, _, rfl, s, _, _, 2, rfl, rfl, hs, rfl, ?_⟩
    generalize e1 : upd H s (.lst ([V.ref c, .int a, .int b, .int d, .int 0].set 2 (.int (b + 1)))) = H1
    have hs1 : H1 s = some (.lst [.ref c, .int a, .int (b + 1), .int d, .int 0]) := by rw [← e1, upd_same]; rfl
    have hc1 : H1 c = some (.lst (cells.map V.int)) := by rw [← e1, upd_ne ne.symm]; exact hc
    have k1 : Kp s c H H1 := by rw [← e1]; exact Kp.atS
    refine ⟨fun σ' H2 => ∃ (x2 x3 : Option V) (cells : List Int) (a d : Int), σ' = [some (.ref s), some (.int m), x2, x3] ∧ Kp s c H H2 ∧ H2 s = some (.lst [.ref c, .int a, .int (b + 1), .int d, .int 0]) ∧ H2 c = some (.lst (cells.map V.int)), ?_, ?_⟩
    · -- the first if
      refine ⟨_, rfl, s, _, _, _, rfl, rfl, .inl (.inl hs1), rfl, _, _, rfl, rfl, _, rfl, ite2 (fun ha => ?_) (fun ha => ?_)⟩
      · refine ⟨_, rfl, s, _, _, _, rfl, rfl, .inl (.inl hs1), rfl, Nat.zero_le _, fun p np => ?_⟩
        have sp1 : Same H1 (upd H1 p (.lst [])) := same_upd np
        refine ⟨.list (cells.map PyData.int), .list [], .lst (.inl (.inl (sp1 _ _ hc1))) (dp_ints cells), .lst (.inl (.inl upd_same)) .nil, shaped_ints cells, shaped_ints [], _, rfl, ?_⟩
        rw [eqv_nil]
        have hs2 := sp1 _ _ hs1
        have hc2 := sp1 _ _ hc1
        have k2 : Kp s c H (upd H1 p (.lst [])) := k1.trans (.of_same sp1)
        revert hs2 hc2 k2
        generalize upd H1 p (.lst []) = H2
        intro hs2 hc2 k2
        cases cells with
        | nil => exact iteF ⟨_, _, _, _, _, rfl, k2, hs2, hc2⟩
        | cons x r =>
          refine iteT ?_
          refine ⟨_, rfl, s, _, _, _, rfl, rfl, .inl (.inl hs2), rfl, .inl ⟨rfl, _, .inl (.inl hc2)⟩, c, _, 0, 0, .int x, rfl, rfl, hc2, by decide, by decide, seqIndex?_zero (Nat.succ_pos _), rfl, ?_⟩
          have hs3 : (upd H2 c (.lst ((List.map V.int (x :: r)).eraseIdx 0))) s = some (.lst [.ref c, .int a, .int (b + 1), .int d, .int 0]) := by rw [upd_ne ne]; exact hs2
          have hc3 : (upd H2 c (.lst ((List.map V.int (x :: r)).eraseIdx 0))) c = some (.lst (r.map V.int)) := by rw [upd_same]; rfl
          have k3 : Kp s c H (upd H2 c (.lst ((List.map V.int (x :: r)).eraseIdx 0))) := k2.trans Kp.atC
          revert hs3 hc3 k3
          generalize upd H2 c (.lst ((List.map V.int (x :: r)).eraseIdx 0)) = H3
          intro hs3 hc3 k3
          refine ⟨fun σ' H4 => ∃ (y : Int), σ' = [some (.ref s), some (.int m), some (.int x), none] ∧ Kp s c H H4 ∧ H4 s = some (.lst [.ref c, .int y, .int (b + 1), .int d, .int 0]) ∧ H4 c = some (.lst (r.map V.int)), ?_, ?_⟩
          · have hs4 : ∀ y : Int, (upd H3 s (.lst ([V.ref c, .int a, .int (b + 1), .int d, .int 0].set 1 (.int y)))) s = some (.lst [.ref c, .int y, .int (b + 1), .int d, .int 0]) := fun y => by rw [upd_same]; rfl
            have hc4 : ∀ y : Int, (upd H3 s (.lst ([V.ref c, .int a, .int (b + 1), .int d, .int 0].set 1 (.int y)))) c = some (.lst (r.map V.int)) := fun y => by rw [upd_ne ne.symm]; exact hc3
            have k4 : ∀ y : Int, Kp s c H (upd H3 s (.lst ([V.ref c, .int a, .int (b + 1), .int d, .int 0].set 1 (.int y)))) := fun y => k3.trans Kp.atS
            refine ⟨_, rfl, _, _, rfl, rfl, ⟨by decide, by decide, by decide⟩, _, _, rfl, rfl, _, rfl, ite2 (fun hx => ?_) (fun hx => ?_)⟩
            · exact ⟨_, rfl, _, rfl, s, _, _, 1, rfl, rfl, hs3, rfl, x, rfl, k4 x, hs4 x, hc4 x⟩
            · exact ⟨_, rfl, s, _, _, 1, rfl, rfl, hs3, rfl, 0, rfl, k4 0, hs4 0, hc4 0⟩
          · rintro σ' H4 ⟨y, rfl, k4, hs4, hc4⟩
            refine ⟨_, rfl, s, _, _, _, rfl, rfl, .inl (.inl hs4), rfl, _, rfl, _, _, rfl, rfl, _, rfl, s, _, _, _, rfl, rfl, .inl (.inl hs4), rfl, _, _, rfl, by omega, by omega, fun z hz => ?_⟩
            refine ⟨_, rfl, s, _, _, 3, rfl, rfl, hs4, rfl, ?_⟩
            exact ⟨_, _, r, y, z, rfl, k4.trans Kp.atS, by rw [upd_same]; rfl, by rw [upd_ne ne.symm]; exact hc4⟩
      · exact iteF ⟨_, _, _, _, _, rfl, k1, hs1, hc1⟩
    · rintro σ' H2 ⟨x2, x3, cells, a, d, rfl, k2, hs2, hc2⟩
      refine ⟨_, rfl, s, _, _, _, rfl, rfl, .inl (.inl hs2), rfl, _, _, rfl, rfl, _, rfl, ite2 (fun ha => ?_) (fun ha => ?_)⟩
      · refine ⟨_, rfl, s, _, _, _, rfl, rfl, .inl (.inl hs2), rfl, _, rfl, _, _, rfl, rfl, (by show (0:Int) < m; omega), ?_⟩
        refine ⟨_, rfl, s, _, _, _, rfl, rfl, .inl (.inl hs2), rfl, _, rfl, _, _, rfl, rfl, ⟨by omega, by omega⟩, _, rfl, s, _, _, 1, rfl, rfl, hs2, rfl, ?_⟩
        exact ⟨_, rfl, q _ _ (Int.emod_nonneg _ (by omega)) (Int.emod_lt_of_pos _ (by omega)) (k2.trans Kp.atS) ⟨ne, cells, a / m, b + 1, d, by rw [upd_same]; rfl, by rw [upd_ne ne.symm]; exact hc2, by omega, by omega⟩⟩
      · refine ⟨_, rfl, s, _, _, _, rfl, rfl, .inl (.inl hs2), rfl, _, rfl, s, _, _, _, rfl, rfl, .inl (.inl hs2), rfl, _, _, rfl, rfl, .inl ⟨by decide, by decide⟩, _, _, rfl, rfl, _, rfl, s, _, _, _, rfl, rfl, .inl (.inl hs2), rfl, _, _, rfl, by omega, by omega, fun r hr0 => ?_⟩
        refine ⟨_, _, rfl, rfl, ⟨by decide, by decide⟩, _, rfl, _, _, rfl, rfl, (by show (0:Int) < m; omega), ?_⟩
        exact q _ _ (Int.emod_nonneg _ (by omega)) (Int.emod_lt_of_pos _ (by omega)) k2 ⟨ne, cells, a, b + 1, d, hs2, hc2, by omega, by omega⟩
end
end K4

set_option Elab.async false
set_option linter.all false
set_option maxRecDepth 100000
set_option maxHeartbeats 4000000
namespace K4
open PySem L2

/-! ### terms -/
abbrev Tms := List (Str × Int)
abbrev Cnt := Int × Tms
def nms (m : Tms) : List Str := m.map (·.1)
def look : Tms → Str → Option Int
  | [], _ => none
  | p :: r, n => if p.1 = n then some p.2 else look r n
def coef (m : Tms) (n : Str) : Int := (look m n).getD 0
def put : Tms → Str → Int → Tms
  | [], n, k => [(n, k)]
  | p :: r, n, k => if p.1 = n then (p.1, k) :: r else p :: put r n k
def enc (m : Tms) : List (Key × V) := m.map fun p => (Sum.inr p.1, V.int p.2)
theorem look_none : ∀ {m : Tms} {n : Str}, n ∉ nms m → look m n = none
  | [], _, _ => rfl
  | p :: r, n, h => by
    have h1 : ¬ p.1 = n := fun e => h (by rw [← e]; exact List.mem_cons_self ..)
    show (if p.1 = n then _ else _) = _
    rw [if_neg h1]
    exact look_none fun q => h (List.mem_cons_of_mem _ q)
theorem coef_none {m : Tms} {n : Str} (h : n ∉ nms m) : coef m n = 0 := by
  unfold coef; rw [look_none h]; rfl
theorem look_some : ∀ {m : Tms} {p : Str × Int}, (nms m).Nodup → p ∈ m → look m p.1 = some p.2
  | [], _, _, h => by cases h
  | q :: r, p, hn, h => by
    have hn' : q.1 ∉ nms r ∧ (nms r).Nodup := List.nodup_cons.mp hn
    show (if q.1 = p.1 then _ else _) = _
    rcases List.mem_cons.mp h with e | h
    · subst e; rw [if_pos rfl]
    · have : ¬ q.1 = p.1 := fun e => hn'.1 (by rw [e]; exact List.mem_map_of_mem h)
      rw [if_neg this]
      exact look_some hn'.2 h
theorem look_put (n : Str) (k : Int) (j : Str) : ∀ m : Tms, look (put m n k) j = if j = n then some k else look m j
  | [] => by
    show (if n = j then some k else look [] j) = _
    by_cases e : j = n
    · rw [if_pos e, if_pos e.symm]
    · rw [if_neg e, if_neg fun q => e q.symm]
  | p :: r => by
    by_cases e : p.1 = n
    · show look (if p.1 = n then _ else _) j = _
      rw [if_pos e]
      show (if p.1 = j then some k else look r j) = if j = n then some k else (if p.1 = j then some p.2 else look r j)
      by_cases e2 : j = n
      · rw [if_pos e2, if_pos (e.trans e2.symm)]
      · rw [if_neg e2, if_neg fun q => e2 (q.symm.trans e), if_neg fun q => e2 (q.symm.trans e)]
    · show look (if p.1 = n then _ else _) j = _
      rw [if_neg e]
      show (if p.1 = j then some p.2 else look (put r n k) j) = if j = n then some k else (if p.1 = j then some p.2 else look r j)
      rw [look_put n k j r]
      by_cases e2 : j = n
      · rw [if_pos e2, if_pos e2, if_neg fun q => e (q.trans e2)]
      · rw [if_neg e2, if_neg e2]
theorem coef_put (m : Tms) (n : Str) (k : Int) (j : Str) : coef (put m n k) j = if j = n then k else coef m j := by
  unfold coef
  rw [look_put]
  by_cases e : j = n
  · rw [if_pos e, if_pos e]; rfl
  · rw [if_neg e, if_neg e]
theorem nms_put (n : Str) (k : Int) : ∀ m : Tms, nms (put m n k) = if n ∈ nms m then nms m else nms m ++ [n]
  | [] => by show [n] = _; rw [if_neg (by intro h; cases h)]; rfl
  | p :: r => by
    show nms (if p.1 = n then _ else _) = _
    by_cases e : p.1 = n
    · rw [if_pos e, if_pos (by rw [← e]; exact List.mem_cons_self ..)]; rfl
    · rw [if_neg e]
      show p.1 :: nms (put r n k) = _
      rw [nms_put n k r]
      by_cases h : n ∈ nms r
      · rw [if_pos h, if_pos (show n ∈ nms (p :: r) from List.mem_cons_of_mem _ h)]; rfl
      · rw [if_neg h, if_neg (show ¬ n ∈ nms (p :: r) from fun q => (List.mem_cons.mp q).elim (fun q => e q.symm) h)]; rfl
theorem nd_put {n : Str} {k : Int} {m : Tms} (h : (nms m).Nodup) : (nms (put m n k)).Nodup := by
  rw [nms_put]
  by_cases e : n ∈ nms m
  · rw [if_pos e]; exact h
  · rw [if_neg e]
    exact List.nodup_append.mpr ⟨h, List.nodup_cons.mpr ⟨(fun q => nomatch q), List.nodup_nil⟩, fun a ha b hb => by
      rcases List.mem_cons.mp hb with q | q
      · subst q; intro z; subst z; exact e ha
      · cases q⟩
theorem mem_put {n j : Str} {k : Int} {m : Tms} (h : j ∈ nms (put m n k)) : j = n ∨ j ∈ nms m := by
  rw [nms_put] at h
  by_cases e : n ∈ nms m
  · rw [if_pos e] at h; exact .inr h
  · rw [if_neg e] at h
    rcases List.mem_append.mp h with h | h
    · exact .inr h
    · rcases List.mem_cons.mp h with h | h
      · exact .inl h
      · cases h
theorem inr_ne {a b : Str} (h : ¬ a = b) : ¬ (Sum.inr a : Key) = Sum.inr b := fun q => h (Sum.inr.inj q)
theorem enc_val (n : Str) : ∀ m : Tms, valV (enc m) (Sum.inr n : Key) = (look m n).map V.int
  | [] => rfl
  | p :: r => by
    show valV ((Sum.inr p.1, V.int p.2) :: enc r) (Sum.inr n : Key) = _
    by_cases e : p.1 = n
    · rw [valV_pos (by show (Sum.inr p.1 : Key) = _; rw [e])]
      show _ = Option.map _ (if p.1 = n then _ else _)
      rw [if_pos e]; rfl
    · rw [valV_neg (inr_ne e), enc_val n r]
      show _ = Option.map _ (if p.1 = n then _ else _)
      rw [if_neg e]
theorem map_off {α : Type} {n : Str} (k : Int) : ∀ {r : Tms}, n ∉ nms r → (enc r).map (fun kv => if kv.1 = (Sum.inr n : Key) then (kv.1, V.int k) else kv) = enc r
  | [], _ => rfl
  | p :: r, h => by
    have h1 : ¬ p.1 = n := fun e => h (by rw [← e]; exact List.mem_cons_self ..)
    show (if (Sum.inr p.1 : Key) = Sum.inr n then _ else _) :: (enc r).map _ = _
    rw [if_neg (inr_ne h1), map_off (α := α) k fun q => h (List.mem_cons_of_mem _ q)]; rfl
theorem enc_put (n : Str) (k : Int) : ∀ m : Tms, (nms m).Nodup → putK (enc m) (Sum.inr n : Key) (V.int k) = enc (put m n k)
  | [], _ => rfl
  | p :: r, hn => by
    have hn' : p.1 ∉ nms r ∧ (nms r).Nodup := List.nodup_cons.mp hn
    by_cases e : p.1 = n
    · show putK ((Sum.inr p.1, V.int p.2) :: enc r) (Sum.inr n : Key) (V.int k) = enc (if p.1 = n then _ else _)
      rw [if_pos e]
      unfold putK
      rw [if_pos (by rw [List.any_cons, decide_eq_true (by show (Sum.inr p.1 : Key) = _; rw [e])]; rfl)]
      show (if (Sum.inr p.1 : Key) = Sum.inr n then _ else _) :: (enc r).map _ = _
      rw [if_pos (by rw [e]), map_off (α := Unit) k (by rw [← e]; exact hn'.1)]; rfl
    · have ih := enc_put n k r hn'.2
      show putK ((Sum.inr p.1, V.int p.2) :: enc r) (Sum.inr n : Key) (V.int k) = enc (if p.1 = n then _ else _)
      rw [if_neg e]
      show _ = (Sum.inr p.1, V.int p.2) :: enc (put r n k)
      rw [← ih]
      unfold putK
      rw [List.any_cons, decide_eq_false (inr_ne e), Bool.false_or]
      by_cases c : ((enc r).any fun kv => decide (kv.1 = (Sum.inr n : Key))) = true
      · rw [if_pos c, if_pos c]
        show (if (Sum.inr p.1 : Key) = Sum.inr n then _ else _) :: _ = _
        rw [if_neg (inr_ne e)]
      · rw [if_neg c, if_neg c]; rfl

/-! ### how often more -/
def fst1 (m ts : Tms) : Tms := ts.foldl (fun m p => put m p.1 p.2) m
def snd1 (m ts : Tms) : Tms := ts.foldl (fun m p => put m p.1 (coef m p.1 - p.2)) m
def tmore (c o : Tms) : Tms := snd1 (fst1 [] c) o
theorem coef_cons (p : Str × Int) (r : Tms) (n : Str) : coef (p :: r) n = if p.1 = n then p.2 else coef r n := by
  unfold coef
  show Option.getD (if p.1 = n then _ else _) 0 = _
  by_cases e : p.1 = n
  · rw [if_pos e, if_pos e]; rfl
  · rw [if_neg e, if_neg e]
theorem coef_fst1 (n : Str) : ∀ (ts m : Tms), (nms ts).Nodup → (∀ k ∈ nms ts, k ∉ nms m) → coef (fst1 m ts) n = coef m n + coef ts n
  | [], m, _, _ => by show coef m n = coef m n + 0; omega
  | p :: r, m, hn, hm => by
    have hn' : p.1 ∉ nms r ∧ (nms r).Nodup := List.nodup_cons.mp hn
    show coef (fst1 (put m p.1 p.2) r) n = _
    rw [coef_fst1 n r (put m p.1 p.2) hn'.2 (fun k hk q => by
      rcases mem_put q with q | q
      · subst q; exact hn'.1 hk
      · exact hm k (List.mem_cons_of_mem _ hk) q), coef_put, coef_cons]
    by_cases e : n = p.1
    · rw [if_pos e, if_pos e.symm, e, coef_none hn'.1, coef_none (hm p.1 (List.mem_cons_self ..))]; omega
    · rw [if_neg e, if_neg fun q => e q.symm]
theorem coef_snd1 (n : Str) : ∀ (ts m : Tms), (nms ts).Nodup → coef (snd1 m ts) n = coef m n - coef ts n
  | [], m, _ => by show coef m n = coef m n - 0; omega
  | p :: r, m, hn => by
    have hn' : p.1 ∉ nms r ∧ (nms r).Nodup := List.nodup_cons.mp hn
    show coef (snd1 (put m p.1 (coef m p.1 - p.2)) r) n = _
    rw [coef_snd1 n r _ hn'.2, coef_put, coef_cons]
    by_cases e : n = p.1
    · rw [if_pos e, if_pos e.symm, e, coef_none hn'.1]; omega
    · rw [if_neg e, if_neg fun q => e q.symm]
theorem nd_fst1 : ∀ (ts m : Tms), (nms m).Nodup → (nms (fst1 m ts)).Nodup
  | [], m, h => h
  | p :: r, m, h => nd_fst1 r _ (nd_put h)
theorem nd_snd1 : ∀ (ts m : Tms), (nms m).Nodup → (nms (snd1 m ts)).Nodup
  | [], m, h => h
  | p :: r, m, h => nd_snd1 r _ (nd_put h)
theorem in_fst1 {N : List Str} : ∀ (ts m : Tms), (∀ k ∈ nms ts, k ∈ N) → (∀ k ∈ nms m, k ∈ N) → ∀ k ∈ nms (fst1 m ts), k ∈ N
  | [], m, _, h => h
  | p :: r, m, h1, h2 => in_fst1 r _ (fun k hk => h1 k (List.mem_cons_of_mem _ hk)) fun k hk => by
    rcases mem_put hk with q | q
    · rw [q]; exact h1 _ (List.mem_cons_self ..)
    · exact h2 k q
theorem in_snd1 {N : List Str} : ∀ (ts m : Tms), (∀ k ∈ nms ts, k ∈ N) → (∀ k ∈ nms m, k ∈ N) → ∀ k ∈ nms (snd1 m ts), k ∈ N
  | [], m, _, h => h
  | p :: r, m, h1, h2 => in_snd1 r _ (fun k hk => h1 k (List.mem_cons_of_mem _ hk)) fun k hk => by
    rcases mem_put hk with q | q
    · rw [q]; exact h1 _ (List.mem_cons_self ..)
    · exact h2 k q
/-- a good row of terms -/
structure Good (ts : Tms) : Prop where
  nd : (nms ts).Nodup
  lo : ∀ p ∈ ts, 1 ≤ p.2 ∧ p.2 ≤ 3
  few : ts.length ≤ 3
theorem coef_tmore {c o : Tms} (hc : (nms c).Nodup) (ho : (nms o).Nodup) (n : Str) : coef (tmore c o) n = coef c n - coef o n := by
  unfold tmore
  rw [coef_snd1 n o _ ho, coef_fst1 n c [] hc (fun k _ q => by cases q)]
  show coef [] n + coef c n - _ = _
  have : coef [] n = 0 := rfl
  omega
theorem nd_tmore (c o : Tms) : (nms (tmore c o)).Nodup := nd_snd1 o _ (nd_fst1 c [] List.nodup_nil)
theorem in_tmore {N : List Str} {c o : Tms} (hc : ∀ k ∈ nms c, k ∈ N) (ho : ∀ k ∈ nms o, k ∈ N) : ∀ k ∈ nms (tmore c o), k ∈ N :=
  in_snd1 o _ ho (in_fst1 c [] hc fun k q => by cases q)

/-! ### sums over names -/
theorem sum_off {g h : Str → Int} {k : Str} : ∀ {N : List Str}, k ∉ N → (∀ n, n ≠ k → g n = h n) → (N.map g).sum = (N.map h).sum
  | [], _, _ => rfl
  | n :: N, hk, e => by
    have h1 : n ≠ k := fun q => hk (by rw [q]; exact List.mem_cons_self ..)
    rw [List.map_cons, List.map_cons, List.sum_cons, List.sum_cons, e n h1, sum_off (N := N) (fun q => hk (List.mem_cons_of_mem _ q)) e]
theorem sum_at {g h : Str → Int} {k : Str} (e : ∀ n, n ≠ k → g n = h n) : ∀ {N : List Str}, N.Nodup → k ∈ N → (N.map g).sum = (N.map h).sum + (g k - h k)
  | [], _, hk => by cases hk
  | n :: N, hn, hk => by
    have hn' := List.nodup_cons.mp hn
    rw [List.map_cons, List.map_cons, List.sum_cons, List.sum_cons]
    by_cases q : n = k
    · subst q
      rw [sum_off hn'.1 e]; omega
    · have hk' : k ∈ N := by
        rcases List.mem_cons.mp hk with z | z
        · exact absurd z.symm q
        · exact z
      rw [e n q, sum_at e hn'.2 hk']; omega
theorem sum_zero : ∀ N : List Str, (N.map fun _ => (0 : Int)).sum = 0
  | [] => rfl
  | n :: N => by rw [List.map_cons, List.sum_cons, sum_zero N]; rfl
theorem sum_names {f : Int → Int} (hf : f 0 = 0) {N : List Str} (hN : N.Nodup) : ∀ m : Tms, (nms m).Nodup → (∀ k ∈ nms m, k ∈ N) → (m.map fun p => f p.2).sum = (N.map fun n => f (coef m n)).sum
  | [], _, _ => by
    show (0 : Int) = (N.map fun n => f 0).sum
    rw [hf, sum_zero]
  | p :: r, hn, hs => by
    have hn' : p.1 ∉ nms r ∧ (nms r).Nodup := List.nodup_cons.mp hn
    have ih := sum_names hf hN r hn'.2 fun k hk => hs k (List.mem_cons_of_mem _ hk)
    rw [List.map_cons, List.sum_cons, ih, sum_at (g := fun n => f (coef (p :: r) n)) (h := fun n => f (coef r n)) (k := p.1) (fun n hne => by
      show f (coef (p :: r) n) = f (coef r n)
      rw [coef_cons, if_neg fun q => hne q.symm]) hN (hs p.1 (List.mem_cons_self ..))]
    show f p.2 + _ = _ + (f (coef (p :: r) p.1) - f (coef r p.1))
    rw [coef_cons, if_pos rfl, coef_none hn'.1, hf]; omega

/-! ### values by sizes -/
def val (c : Cnt) (ρ : Str → Int) : Int := c.1 + (c.2.map fun p => p.2 * ρ p.1).sum
def dot : List Int → List Int → Int
  | t :: ts, x :: xs => t * x + dot ts xs
  | _, _ => 0
def rho (ws : List Str) (xs : List Int) (n : Str) : Int := coef (ws.zip xs) n
theorem rho_cons (w : Str) (ws : List Str) (x : Int) (xs : List Int) (n : Str) : rho (w :: ws) (x :: xs) n = if w = n then x else rho ws xs n := coef_cons _ _ _
theorem dot_off {g h : Str → Int} {k : Str} : ∀ {N : List Str} {xs : List Int}, k ∉ N → (∀ n, n ≠ k → g n = h n) → dot (N.map g) xs = dot (N.map h) xs
  | [], _, _, _ => rfl
  | n :: N, [], _, _ => rfl
  | n :: N, x :: xs, hk, e => by
    have h1 : n ≠ k := fun q => hk (by rw [q]; exact List.mem_cons_self ..)
    show g n * x + dot (N.map g) xs = h n * x + dot (N.map h) xs
    rw [e n h1, dot_off (N := N) (fun q => hk (List.mem_cons_of_mem _ q)) e]
theorem dot_at {g h : Str → Int} {k : Str} (e : ∀ n, n ≠ k → g n = h n) : ∀ {N : List Str} {xs : List Int}, N.length = xs.length → N.Nodup → k ∈ N → dot (N.map g) xs = dot (N.map h) xs + (g k - h k) * rho N xs k
  | [], _, _, _, hk => by cases hk
  | n :: N, [], hl, _, _ => by cases hl
  | n :: N, x :: xs, hl, hn, hk => by
    have hn' := List.nodup_cons.mp hn
    show g n * x + dot (N.map g) xs = h n * x + dot (N.map h) xs + (g k - h k) * rho (n :: N) (x :: xs) k
    rw [rho_cons]
    by_cases q : n = k
    · subst q
      rw [if_pos rfl, dot_off hn'.1 e, Int.sub_mul]; omega
    · have hk' : k ∈ N := by
        rcases List.mem_cons.mp hk with z | z
        · exact absurd z.symm q
        · exact z
      rw [if_neg q, e n q, dot_at e (Nat.succ.inj hl) hn'.2 hk']; omega
theorem dot_zero : ∀ (N : List Str) (xs : List Int), dot (N.map fun _ => (0 : Int)) xs = 0
  | [], _ => rfl
  | _ :: _, [] => rfl
  | n :: N, x :: xs => by show 0 * x + dot (N.map fun _ => (0 : Int)) xs = 0; rw [dot_zero N xs]; omega
theorem sum_rho {N : List Str} {xs : List Int} (hl : N.length = xs.length) (hN : N.Nodup) : ∀ ts : Tms, (nms ts).Nodup → (∀ k ∈ nms ts, k ∈ N) → (ts.map fun p => p.2 * rho N xs p.1).sum = dot (N.map (coef ts)) xs
  | [], _, _ => by
    show (0 : Int) = dot (N.map fun _ => (0 : Int)) xs
    rw [dot_zero]
  | p :: r, hn, hs => by
    have hn' : p.1 ∉ nms r ∧ (nms r).Nodup := List.nodup_cons.mp hn
    have ih := sum_rho hl hN r hn'.2 fun k hk => hs k (List.mem_cons_of_mem _ hk)
    rw [List.map_cons, List.sum_cons, ih, dot_at (g := coef (p :: r)) (h := coef r) (k := p.1) (fun n hne => by rw [coef_cons, if_neg fun q => hne q.symm]) hl hN (hs p.1 (List.mem_cons_self ..)),
      coef_cons, if_pos rfl, coef_none hn'.1, Int.sub_zero]; omega
theorem dot_sub (f g : Str → Int) : ∀ (N : List Str) (xs : List Int), dot (N.map f) xs - dot (N.map g) xs = dot (N.map fun n => f n - g n) xs
  | [], _ => rfl
  | _ :: _, [] => rfl
  | n :: N, x :: xs => by
    show f n * x + dot (N.map f) xs - (g n * x + dot (N.map g) xs) = (f n - g n) * x + dot (N.map fun n => f n - g n) xs
    rw [← dot_sub f g N xs, Int.sub_mul]; omega

/-! ### the grid, the first of it -/
def s12 : List Int := [1, 2, 3, 4, 5, 6, 7, 8, 9, 10, 11, 12]
def grid : Nat → List (List Int)
  | 0 => [[]]
  | n + 1 => s12.flatMap fun s => (grid n).map (s :: ·)
def wider (f : List Int) : List (List Int) := s12.map fun s => f ++ [s]
theorem wider_cons (s : Int) (f : List Int) : wider (s :: f) = (wider f).map (s :: ·) := by
  unfold wider; rw [List.map_map]; rfl
theorem grid_snoc : ∀ n, grid (n + 1) = (grid n).flatMap wider
  | 0 => by decide
  | n + 1 => by
    have ih := grid_snoc n
    show (s12.flatMap fun s => (grid (n + 1)).map (s :: ·)) = (s12.flatMap fun s => (grid n).map (s :: ·)).flatMap wider
    rw [List.flatMap_assoc]
    congr 1
    funext s
    rw [ih, List.map_flatMap, List.flatMap_map]
    congr 1
theorem mem_s12 {s : Int} : s ∈ s12 ↔ 1 ≤ s ∧ s ≤ 12 := by
  constructor
  · intro h
    have : ∀ s ∈ s12, 1 ≤ s ∧ s ≤ 12 := by decide
    exact this s h
  · rintro ⟨h1, h2⟩
    have : s = 1 ∨ s = 2 ∨ s = 3 ∨ s = 4 ∨ s = 5 ∨ s = 6 ∨ s = 7 ∨ s = 8 ∨ s = 9 ∨ s = 10 ∨ s = 11 ∨ s = 12 := by omega
    rcases this with h | h | h | h | h | h | h | h | h | h | h | h <;> subst h <;> decide
theorem mem_grid : ∀ {n : Nat} {xs : List Int}, xs ∈ grid n ↔ xs.length = n ∧ ∀ x ∈ xs, 1 ≤ x ∧ x ≤ 12
  | 0, xs => by
    constructor
    · intro h
      rcases List.mem_cons.mp h with h | h
      · subst h; exact ⟨rfl, fun x q => by cases q⟩
      · cases h
    · rintro ⟨h, _⟩
      rw [List.length_eq_zero_iff.mp h]; exact List.mem_cons_self ..
  | n + 1, xs => by
    constructor
    · intro h
      obtain ⟨s, hs, h⟩ := List.mem_flatMap.mp h
      obtain ⟨ys, hy, rfl⟩ := List.mem_map.mp h
      obtain ⟨h1, h2⟩ := mem_grid.mp hy
      refine ⟨by rw [List.length_cons, h1], fun x hx => ?_⟩
      rcases List.mem_cons.mp hx with e | e
      · rw [e]; exact mem_s12.mp hs
      · exact h2 x e
    · rintro ⟨h1, h2⟩
      cases xs with
      | nil => cases h1
      | cons s ys =>
        refine List.mem_flatMap.mpr ⟨s, mem_s12.mpr (h2 s (List.mem_cons_self ..)), List.mem_map.mpr ⟨ys, mem_grid.mpr ⟨Nat.succ.inj h1, fun x hx => h2 x (List.mem_cons_of_mem _ hx)⟩, rfl⟩⟩
def mostby (t : Int) : Int := if t * 12 > t then t * 12 else t
def Lst (r t s : Int) : Prop := 1 ≤ s ∧ s ≤ 12 ∧ 0 < r + t * s ∧ ∀ j : Int, 1 ≤ j → j < s → r + t * j ≤ 0
def Grd : Int → List Int → List Int → Prop
  | _, [], [] => True
  | r, t :: ts, s :: xs => Lst (r - mostby t) t s ∧ Grd (r - mostby t + t * s) ts xs
  | _, _, _ => False
theorem mostby_ge {t s : Int} (h1 : 1 ≤ s) (h2 : s ≤ 12) : t * s ≤ mostby t := by
  unfold mostby
  by_cases h : 0 < t
  · rw [if_pos (by omega)]
    exact Int.mul_le_mul_of_nonneg_left h2 (by omega)
  · have e : t * s ≤ t * 1 := by
      have := Int.mul_le_mul_of_nonneg_left h1 (show 0 ≤ -t by omega)
      rw [Int.neg_mul, Int.neg_mul] at this; omega
    by_cases h0 : t * 12 > t
    · rw [if_pos h0]; omega
    · rw [if_neg h0]; omega
def maxes (ts : List Int) : Int := (ts.map mostby).sum
theorem dot_le : ∀ {ts xs : List Int}, xs.length = ts.length → (∀ x ∈ xs, 1 ≤ x ∧ x ≤ 12) → dot ts xs ≤ maxes ts
  | [], [], _, _ => Int.le_refl _
  | [], _ :: _, h, _ => by cases h
  | _ :: _, [], h, _ => by cases h
  | t :: ts, x :: xs, h, hx => by
    have h1 := mostby_ge (t := t) (hx x (List.mem_cons_self ..)).1 (hx x (List.mem_cons_self ..)).2
    have h2 := dot_le (ts := ts) (xs := xs) (Nat.succ.inj h) fun y hy => hx y (List.mem_cons_of_mem _ hy)
    show t * x + dot ts xs ≤ ((t :: ts).map mostby).sum
    rw [List.map_cons, List.sum_cons]
    show _ ≤ mostby t + maxes ts
    omega
theorem find_none {b : Int} {ts : List Int} (h : b + maxes ts ≤ 0) : (grid ts.length).find? (fun ys => decide (0 < b + dot ts ys)) = none := by
  rw [List.find?_eq_none]
  intro ys hy
  obtain ⟨h1, h2⟩ := mem_grid.mp hy
  have := dot_le h1 h2
  simp only [decide_eq_true_eq]
  omega
theorem find_map {p : List Int → Bool} {s : Int} : ∀ l : List (List Int), (l.map (s :: ·)).find? p = (l.find? fun ys => p (s :: ys)).map (s :: ·)
  | [] => rfl
  | y :: l => by
    rw [List.map_cons, List.find?_cons, List.find?_cons]
    cases p (s :: y) with
    | true => rfl
    | false => exact find_map l
theorem find_flat {p : List Int → Bool} {f : Int → List (List Int)} {s : Int} {xs : List Int} : ∀ {l1 l2 : List Int}, (∀ j ∈ l1, (f j).find? p = none) → (f s).find? p = some xs → ((l1 ++ s :: l2).flatMap f).find? p = some xs
  | [], l2, _, h => by
    rw [List.nil_append, List.flatMap_cons, List.find?_append, h]; rfl
  | j :: l1, l2, hj, h => by
    rw [List.cons_append, List.flatMap_cons, List.find?_append, hj j (List.mem_cons_self ..)]
    exact find_flat (fun i hi => hj i (List.mem_cons_of_mem _ hi)) h
theorem split12 {s : Int} (h1 : 1 ≤ s) (h2 : s ≤ 12) : ∃ l1 l2, s12 = l1 ++ s :: l2 ∧ ∀ j ∈ l1, 1 ≤ j ∧ j < s := by
  have : s = 1 ∨ s = 2 ∨ s = 3 ∨ s = 4 ∨ s = 5 ∨ s = 6 ∨ s = 7 ∨ s = 8 ∨ s = 9 ∨ s = 10 ∨ s = 11 ∨ s = 12 := by omega
  rcases this with h | h | h | h | h | h | h | h | h | h | h | h <;> subst h
  · exact ⟨[], _, rfl, by decide⟩
  · exact ⟨[1], _, rfl, by decide⟩
  · exact ⟨[1, 2], _, rfl, by decide⟩
  · exact ⟨[1, 2, 3], _, rfl, by decide⟩
  · exact ⟨[1, 2, 3, 4], _, rfl, by decide⟩
  · exact ⟨[1, 2, 3, 4, 5], _, rfl, by decide⟩
  · exact ⟨[1, 2, 3, 4, 5, 6], _, rfl, by decide⟩
  · exact ⟨[1, 2, 3, 4, 5, 6, 7], _, rfl, by decide⟩
  · exact ⟨[1, 2, 3, 4, 5, 6, 7, 8], _, rfl, by decide⟩
  · exact ⟨[1, 2, 3, 4, 5, 6, 7, 8, 9], _, rfl, by decide⟩
  · exact ⟨[1, 2, 3, 4, 5, 6, 7, 8, 9, 10], _, rfl, by decide⟩
  · exact ⟨[1, 2, 3, 4, 5, 6, 7, 8, 9, 10, 11], _, rfl, by decide⟩
theorem find_some : ∀ {ts xs : List Int} {b : Int}, 0 < b + maxes ts → Grd (b + maxes ts) ts xs → (grid ts.length).find? (fun ys => decide (0 < b + dot ts ys)) = some xs
  | [], [], b, h, _ => by
    show ([[]] : List (List Int)).find? _ = _
    rw [List.find?_cons]
    have h0 : 0 < b + dot ([] : List Int) [] := h
    rw [decide_eq_true h0]
  | [], _ :: _, _, _, h => h.elim
  | _ :: _, [], _, _, h => h.elim
  | t :: ts, s :: xs, b, h, hg => by
    have em : maxes (t :: ts) = mostby t + maxes ts := by unfold maxes; rw [List.map_cons, List.sum_cons]
    rw [em] at h hg
    obtain ⟨⟨h1, h2, h3, h4⟩, hg2⟩ := hg
    have e3 : b + (mostby t + maxes ts) - mostby t = b + maxes ts := by omega
    rw [e3] at h3 h4 hg2
    obtain ⟨l1, l2, el, hl⟩ := split12 h1 h2
    show ((s12.flatMap fun s => (grid ts.length).map (s :: ·)).find? _) = _
    rw [el]
    have inner : ∀ j : Int, ((grid ts.length).map (j :: ·)).find? (fun ys => decide (0 < b + dot (t :: ts) ys)) = ((grid ts.length).find? fun ys => decide (0 < (b + t * j) + dot ts ys)).map (j :: ·) := fun j => by
      rw [find_map]
      congr 1
      congr 1
      funext ys
      have : b + dot (t :: ts) (j :: ys) = (b + t * j) + dot ts ys := by
        show b + (t * j + dot ts ys) = _
        omega
      rw [this]
    refine find_flat (fun j hj => ?_) ?_
    · obtain ⟨q1, q2⟩ := hl j hj
      rw [inner j, find_none (by have := h4 j q1 q2; omega)]; rfl
    · rw [inner s, find_some (ts := ts) (xs := xs) (b := b + t * s) (by omega) (by rw [show b + t * s + maxes ts = b + maxes ts + t * s by omega]; exact hg2)]; rfl
theorem grd_len : ∀ {ts xs : List Int} {r : Int}, Grd r ts xs → xs.length = ts.length ∧ ∀ x ∈ xs, 1 ≤ x ∧ x ≤ 12
  | [], [], _, _ => ⟨rfl, fun x h => by cases h⟩
  | [], _ :: _, _, h => h.elim
  | _ :: _, [], _, h => h.elim
  | t :: ts, s :: xs, r, h => by
    obtain ⟨⟨h1, h2, _⟩, h3⟩ := h
    obtain ⟨q1, q2⟩ := grd_len h3
    refine ⟨by rw [List.length_cons, List.length_cons, q1], fun x hx => ?_⟩
    rcases List.mem_cons.mp hx with e | e
    · rw [e]; exact ⟨h1, h2⟩
    · exact q2 x e

/-! ### the law's numbers -/
/-- how much more the one is where that is most -/
def apart (c o : Cnt) : Int := c.1 - o.1 + ((tmore c.2 o.2).map fun p => mostby p.2).sum
/-- a count by sizes of the names ws -/
structure CntOk (ws : List Str) (c : Cnt) : Prop where
  good : Good c.2
  sub : ∀ k ∈ nms c.2, k ∈ ws
  lo : -100 ≤ c.1 ∧ c.1 ≤ 100
section
variable {ws : List Str} {c o e : Cnt} {xs : List Int}
def tms (ws : List Str) (c o : Cnt) : List Int := ws.map (coef (tmore c.2 o.2))
theorem apart_eq (hN : ws.Nodup) (hc : CntOk ws c) (ho : CntOk ws o) : apart c o = (c.1 - o.1) + maxes (tms ws c o) := by
  unfold apart maxes tms
  rw [sum_names (f := mostby) (by decide) hN _ (nd_tmore _ _) (in_tmore hc.sub ho.sub), List.map_map]; rfl
theorem val_diff (hN : ws.Nodup) (hl : ws.length = xs.length) (hc : CntOk ws c) (ho : CntOk ws o) : val c (rho ws xs) - val o (rho ws xs) = (c.1 - o.1) + dot (tms ws c o) xs := by
  unfold val tms
  rw [sum_rho hl hN c.2 hc.good.nd hc.sub, sum_rho hl hN o.2 ho.good.nd ho.sub]
  have e1 := dot_sub (coef c.2) (coef o.2) ws xs
  have e2 : (ws.map fun n => coef c.2 n - coef o.2 n) = ws.map (coef (tmore c.2 o.2)) := by
    congr 1
    funext n
    exact (coef_tmore hc.good.nd ho.good.nd n).symm
  rw [e2] at e1
  omega
/-- the first sizes by which the one is more -/
def worst (ws : List Str) (c o : Cnt) : Option (List Int) := (grid ws.length).find? fun xs => decide (val c (rho ws xs) > val o (rho ws xs))
theorem worst_eq (hN : ws.Nodup) (hc : CntOk ws c) (ho : CntOk ws o) : worst ws c o = (grid (tms ws c o).length).find? fun xs => decide (0 < (c.1 - o.1) + dot (tms ws c o) xs) := by
  unfold worst
  have el : (tms ws c o).length = ws.length := by unfold tms; rw [List.length_map]
  rw [el]
  have : ∀ l : List (List Int), (∀ xs ∈ l, xs.length = ws.length) → l.find? (fun xs => decide (val c (rho ws xs) > val o (rho ws xs))) = l.find? fun xs => decide (0 < (c.1 - o.1) + dot (tms ws c o) xs) := by
    intro l
    induction l with
    | nil => intro _; rfl
    | cons y l ih =>
      intro h
      have hd := val_diff hN (h y (List.mem_cons_self ..)).symm hc ho
      have e : decide (val c (rho ws y) > val o (rho ws y)) = decide (0 < (c.1 - o.1) + dot (tms ws c o) y) := by
        rw [← hd]
        by_cases q : val c (rho ws y) > val o (rho ws y)
        · rw [decide_eq_true q, decide_eq_true (by omega)]
        · rw [decide_eq_false q, decide_eq_false (by omega)]
      rw [List.find?_cons, List.find?_cons, e, ih fun xs hx => h xs (List.mem_cons_of_mem _ hx)]
  exact this _ fun xs hx => (mem_grid.mp hx).1
theorem worst_none (hN : ws.Nodup) (hc : CntOk ws c) (ho : CntOk ws o) (h : apart c o ≤ 0) : worst ws c o = none := by
  rw [worst_eq hN hc ho]
  exact find_none (by rw [← apart_eq hN hc ho]; exact h)
theorem worst_some (hN : ws.Nodup) (hc : CntOk ws c) (ho : CntOk ws o) (h : 0 < apart c o) (hg : Grd (apart c o) (tms ws c o) xs) : worst ws c o = some xs := by
  rw [worst_eq hN hc ho]
  rw [apart_eq hN hc ho] at h hg
  exact find_some h hg
theorem worst_none_iff (hN : ws.Nodup) (hc : CntOk ws c) (ho : CntOk ws o) : worst ws c o = none ↔ ∀ xs ∈ grid ws.length, val c (rho ws xs) ≤ val o (rho ws xs) := by
  unfold worst
  rw [List.find?_eq_none]
  constructor
  · intro h xs hx
    have := h xs hx
    simp only [decide_eq_true_eq] at this
    omega
  · intro h xs hx
    have := h xs hx
    simp only [decide_eq_true_eq]
    omega
/-- there are greedy sizes -/
theorem lst_ex {r t : Int} (h : 0 < r + mostby t) : ∃ s, Lst r t s := by
  unfold mostby at h
  by_cases ht : 0 < t
  · rw [if_pos (by omega)] at h
    have : ∀ n : Nat, (n : Int) ≤ 12 → 0 < r + t * n → 1 ≤ n → ∃ s, Lst r t s := by
      intro n
      induction n with
      | zero => intro _ _ h; omega
      | succ n ih =>
        intro h1 h2 _
        by_cases q : 0 < r + t * (n : Int) ∧ 1 ≤ n
        · exact ih (by omega) q.1 q.2
        · refine ⟨((n + 1 : Nat) : Int), by omega, h1, h2, fun j j1 j2 => ?_⟩
          have hj : j ≤ (n : Int) := by omega
          have hn : 1 ≤ n := by omega
          have hq : r + t * (n : Int) ≤ 0 := by
            by_cases z : 0 < r + t * (n : Int)
            · exact absurd ⟨z, hn⟩ q
            · omega
          have := Int.mul_le_mul_of_nonneg_left hj (show 0 ≤ t by omega)
          omega
    exact this 12 (by decide) (by omega) (by decide)
  · refine ⟨1, by decide, by decide, ?_, fun j j1 j2 => by omega⟩
    by_cases h0 : t * 12 > t
    · rw [if_pos h0] at h; omega
    · rw [if_neg h0] at h; omega
theorem grd_ex : ∀ (ts : List Int) {b : Int}, 0 < b + maxes ts → ∃ xs, Grd (b + maxes ts) ts xs
  | [], b, _ => ⟨[], trivial⟩
  | t :: ts, b, h => by
    have em : maxes (t :: ts) = mostby t + maxes ts := by unfold maxes; rw [List.map_cons, List.sum_cons]
    rw [em] at h ⊢
    have e3 : b + (mostby t + maxes ts) - mostby t = b + maxes ts := by omega
    obtain ⟨s, hs⟩ := lst_ex (r := b + maxes ts) (t := t) (by omega)
    obtain ⟨xs, hx⟩ := grd_ex ts (b := b + t * s) (by have := hs.2.2.1; omega)
    refine ⟨s :: xs, ?_⟩
    show Lst (b + (mostby t + maxes ts) - mostby t) t s ∧ Grd (b + (mostby t + maxes ts) - mostby t + t * s) ts xs
    rw [e3]
    exact ⟨hs, by rw [show b + maxes ts + t * s = b + t * s + maxes ts by omega]; exact hx⟩
theorem at_most_iff (hN : ws.Nodup) (hc : CntOk ws c) (ho : CntOk ws o) : apart c o ≤ 0 ↔ ∀ xs ∈ grid ws.length, val c (rho ws xs) ≤ val o (rho ws xs) := by
  rw [← worst_none_iff hN hc ho]
  constructor
  · exact worst_none hN hc ho
  · intro h
    apply Classical.byContradiction
    intro q
    have q' : 0 < apart c o := by omega
    obtain ⟨xs, hx⟩ := grd_ex (tms ws c o) (b := c.1 - o.1) (by rw [← apart_eq hN hc ho]; exact q')
    rw [← apart_eq hN hc ho] at hx
    rw [worst_some hN hc ho q' hx] at h
    cases h
theorem at_most_trans (hN : ws.Nodup) (hc : CntOk ws c) (ho : CntOk ws o) (he : CntOk ws e) (h1 : apart c o ≤ 0) (h2 : apart o e ≤ 0) : apart c e ≤ 0 :=
  (at_most_iff hN hc he).mpr fun xs hx => Int.le_trans ((at_most_iff hN hc ho).mp h1 xs hx) ((at_most_iff hN ho he).mp h2 xs hx)

/-! ### the least, the greatest -/
def leastv (c : Cnt) : Int := c.1 + (c.2.map (·.2)).sum
def greatv (c : Cnt) : Int := c.1 + 12 * (c.2.map (·.2)).sum
theorem sum_by {ρ : Str → Int} {k : Int} : ∀ {ts : Tms}, (∀ p ∈ ts, ρ p.1 = k) → (ts.map fun p => p.2 * ρ p.1).sum = k * (ts.map (·.2)).sum
  | [], _ => by show (0 : Int) = k * 0; omega
  | p :: r, h => by
    rw [List.map_cons, List.map_cons, List.sum_cons, List.sum_cons, sum_by (ts := r) fun q hq => h q (List.mem_cons_of_mem _ hq), h p (List.mem_cons_self ..), Int.mul_add, Int.mul_comm p.2 k]
theorem sum_le {ρ : Str → Int} : ∀ {ts : Tms}, (∀ p ∈ ts, 1 ≤ p.2) → (∀ p ∈ ts, 1 ≤ ρ p.1 ∧ ρ p.1 ≤ 12) → (ts.map (·.2)).sum ≤ (ts.map fun p => p.2 * ρ p.1).sum ∧ (ts.map fun p => p.2 * ρ p.1).sum ≤ 12 * (ts.map (·.2)).sum
  | [], _, _ => by show (0 : Int) ≤ 0 ∧ (0 : Int) ≤ 12 * 0; omega
  | p :: r, h1, h2 => by
    have ih := sum_le (ts := r) (fun q hq => h1 q (List.mem_cons_of_mem _ hq)) fun q hq => h2 q (List.mem_cons_of_mem _ hq)
    have a := h1 p (List.mem_cons_self ..)
    have b := h2 p (List.mem_cons_self ..)
    have q1 := Int.mul_le_mul_of_nonneg_left b.1 (show 0 ≤ p.2 by omega)
    have q2 := Int.mul_le_mul_of_nonneg_left b.2 (show 0 ≤ p.2 by omega)
    rw [List.map_cons, List.map_cons, List.sum_cons, List.sum_cons]
    omega
theorem rho_in : ∀ {N : List Str} {xs : List Int} {k : Str}, N.length = xs.length → k ∈ N → rho N xs k ∈ xs
  | [], _, _, _, h => by cases h
  | n :: N, [], _, hl, _ => by cases hl
  | n :: N, x :: xs, k, hl, h => by
    rw [rho_cons]
    by_cases e : n = k
    · rw [if_pos e]; exact List.mem_cons_self ..
    · rw [if_neg e]
      refine List.mem_cons_of_mem _ (rho_in (Nat.succ.inj hl) ?_)
      rcases List.mem_cons.mp h with z | z
      · exact absurd z.symm e
      · exact z
theorem val_bounds (hl : ws.length = xs.length) (hx : ∀ x ∈ xs, 1 ≤ x ∧ x ≤ 12) (hc : CntOk ws c) : leastv c ≤ val c (rho ws xs) ∧ val c (rho ws xs) ≤ greatv c := by
  have := sum_le (ρ := rho ws xs) (ts := c.2) (fun p hp => (hc.good.lo p hp).1) fun p hp => hx _ (rho_in hl (hc.sub _ (List.mem_map_of_mem hp)))
  unfold leastv greatv val
  omega
theorem val_rep (k : Int) (hc : CntOk ws c) : val c (rho ws (List.replicate ws.length k)) = c.1 + k * (c.2.map (·.2)).sum := by
  unfold val
  rw [sum_by (k := k) fun p hp => ?_]
  exact List.eq_of_mem_replicate (rho_in (by rw [List.length_replicate]) (hc.sub _ (List.mem_map_of_mem hp)))
theorem rep_grid (n : Nat) {k : Int} (h1 : 1 ≤ k) (h2 : k ≤ 12) : List.replicate n k ∈ grid n := mem_grid.mpr ⟨List.length_replicate, fun x hx => by rw [List.eq_of_mem_replicate hx]; exact ⟨h1, h2⟩⟩
theorem min_is {m : Int} (hc : CntOk ws c) (h1 : m ∈ (grid ws.length).map fun xs => val c (rho ws xs)) (h2 : ∀ y ∈ (grid ws.length).map (fun xs => val c (rho ws xs)), m ≤ y) : m = leastv c := by
  obtain ⟨xs, hx, rfl⟩ := List.mem_map.mp h1
  have a := mem_grid.mp hx
  have b := (val_bounds a.1.symm a.2 hc).1
  have d := h2 _ (List.mem_map.mpr ⟨_, rep_grid ws.length (k := 1) (by decide) (by decide), rfl⟩)
  rw [val_rep 1 hc] at d
  unfold leastv at b ⊢
  omega
theorem max_is {m : Int} (hc : CntOk ws c) (h1 : m ∈ (grid ws.length).map fun xs => val c (rho ws xs)) (h2 : ∀ y ∈ (grid ws.length).map (fun xs => val c (rho ws xs)), y ≤ m) : m = greatv c := by
  obtain ⟨xs, hx, rfl⟩ := List.mem_map.mp h1
  have a := mem_grid.mp hx
  have b := (val_bounds a.1.symm a.2 hc).2
  have d := h2 _ (List.mem_map.mpr ⟨_, rep_grid ws.length (k := 12) (by decide) (by decide), rfl⟩)
  rw [val_rep 12 hc] at d
  unfold greatv at b ⊢
  omega
end
end K4

set_option Elab.async false
set_option linter.all false
set_option maxRecDepth 100000
set_option maxHeartbeats 4000000
namespace K4
open PySem PySem.Spec PyProof.Rows L2
abbrev sCountAt : Stmt := topS 2
abbrev sLeast : Stmt := topS 3
abbrev sGreatest : Stmt := topS 4
abbrev sTimes : Stmt := topS 5
abbrev sMostBy : Stmt := topS 6
abbrev sApart : Stmt := topS 7
abbrev sAtMost : Stmt := topS 8
abbrev sWorstS : Stmt := topS 9
abbrev sLeastS : Stmt := topS 10
theorem scCountAt : FnScope ["count", "sizes", "fixed", "terms", "name", "times"] ["count", "sizes"] (defScope sCountAt) := ⟨rfl, rfl, rfl, by decide +kernel, rfl, by decide +kernel, by decide +kernel⟩
theorem scLeast : FnScope ["count", "fixed", "terms", "term"] ["count"] (defScope sLeast) := ⟨rfl, rfl, rfl, by decide +kernel, rfl, by decide +kernel, by decide +kernel⟩
theorem scGreatest : FnScope ["count", "fixed", "terms", "term"] ["count"] (defScope sGreatest) := ⟨rfl, rfl, rfl, by decide +kernel, rfl, by decide +kernel, by decide +kernel⟩
theorem scTimes : FnScope ["count", "other", "more", "name", "times"] ["count", "other"] (defScope sTimes) := ⟨rfl, rfl, rfl, by decide +kernel, rfl, by decide +kernel, by decide +kernel⟩
theorem scMostBy : FnScope ["times"] ["times"] (defScope sMostBy) := ⟨rfl, rfl, rfl, by decide +kernel, rfl, by decide +kernel, by decide +kernel⟩
theorem scApart : FnScope ["count", "other", "more", "times"] ["count", "other"] (defScope sApart) := ⟨rfl, rfl, rfl, by decide +kernel, rfl, by decide +kernel, by decide +kernel⟩
theorem scAtMost : FnScope ["count", "other"] ["count", "other"] (defScope sAtMost) := ⟨rfl, rfl, rfl, by decide +kernel, rfl, by decide +kernel, by decide +kernel⟩
theorem scWorstS : FnScope ["count", "other", "names", "rest", "more", "found", "name", "times", "size"] ["count", "other", "names"] (defScope sWorstS) := ⟨rfl, rfl, rfl, by decide +kernel, rfl, by decide +kernel, by decide +kernel⟩
theorem scLeastS : FnScope ["rest", "times", "size"] ["rest", "times"] (defScope sLeastS) := ⟨rfl, rfl, rfl, by decide +kernel, rfl, by decide +kernel, by decide +kernel⟩

/-! ### counts in the heap -/
def Kt (H H' : Hp) : Prop := ∀ b xs, H b = some (.tup xs) → H' b = some (.tup xs)
theorem Kt.refl (H : Hp) : Kt H H := fun _ _ h => h
theorem Kt.trans {H H1 H2 : Hp} (a : Kt H H1) (b : Kt H1 H2) : Kt H H2 := fun c xs h => b c xs (a c xs h)
theorem Kt.of_same {H H' : Hp} (a : Same H H') : Kt H H' := fun b xs h => a b _ h
theorem Kt.of_kp {s c : Addr} {n : Int} {H H' : Hp} (h : Sm s c n H) (k : Kp s c H H') : Kt H H' := fun b xs e => by
  obtain ⟨_, cells, a, b', d, h1, h2, _⟩ := h
  exact k b _ (ne_of e h1 (by intro z; cases z)) (ne_of e h2 (by intro z; cases z)) e
theorem Kt.upd {H : Hp} {a : Addr} {o : HO} (h : ∀ xs, H a ≠ some (.tup xs)) : Kt H (upd H a o) := fun b xs e => by
  by_cases q : b = a
  · subst q; exact absurd e (h xs)
  · rw [upd_ne q]; exact e
/-- v is the pair of a name and a number -/
def IsT (H : Hp) (v : V) (p : Str × Int) : Prop := ∃ b, v = .ref b ∧ H b = some (.tup [.str p.1, .int p.2])
theorem IsT.kt {H H' : Hp} {v : V} {p : Str × Int} (h : IsT H v p) (k : Kt H H') : IsT H' v p := by
  obtain ⟨b, e, h⟩ := h
  exact ⟨b, e, k _ _ h⟩
def AllT (H : Hp) (vs : List V) (ts : Tms) : Prop := vs.length = ts.length ∧ ∀ (i : Nat) (p : Str × Int), ts[i]? = some p → ∃ v, vs[i]? = some v ∧ IsT H v p
theorem AllT.kt {H H' : Hp} {vs : List V} {ts : Tms} (h : AllT H vs ts) (k : Kt H H') : AllT H' vs ts :=
  ⟨h.1, fun i p e => by obtain ⟨v, h1, h2⟩ := h.2 i p e; exact ⟨v, h1, h2.kt k⟩⟩
theorem AllT.at {H : Hp} {vs : List V} {ts : Tms} (h : AllT H vs ts) {i : Nat} {v : V} (e : vs[i]? = some v) : ∃ p, ts[i]? = some p ∧ IsT H v p := by
  obtain ⟨hi, _⟩ := List.getElem?_eq_some_iff.mp e
  have hi' : i < ts.length := by rw [← h.1]; exact hi
  obtain ⟨u, h1, h2⟩ := h.2 i _ (List.getElem?_eq_getElem hi')
  rw [e] at h1
  cases h1
  exact ⟨_, List.getElem?_eq_getElem hi', h2⟩
def IsC (H : Hp) (v : V) (c : Cnt) : Prop := ∃ a t ts, v = .ref a ∧ H a = some (.tup [.int c.1, .ref t]) ∧ H t = some (.tup ts) ∧ AllT H ts c.2
theorem IsC.kt {H H' : Hp} {v : V} {c : Cnt} (h : IsC H v c) (k : Kt H H') : IsC H' v c := by
  obtain ⟨a, t, ts, e, h1, h2, h3⟩ := h
  exact ⟨a, t, ts, e, k _ _ h1, k _ _ h2, h3.kt k⟩
theorem take_snoc {α : Type} {l : List α} {i : Nat} {p : α} (h : l[i]? = some p) : l.take (i + 1) = l.take i ++ [p] := by
  rw [List.take_add_one, h]; rfl
theorem lt_size {n : Nat} (h : n ≤ 5000) : n < sizeLine := Nat.lt_of_le_of_lt h (by decide)
theorem le_size {n : Nat} (h : n ≤ 5000) : n ≤ sizeLine := Nat.le_of_lt (lt_size h)

section
variable {P : Program} {w : World} {K : PySem.W.Frag} {mg : Str → Option Value} {base : Heap}
/-! ### a count by sizes -/
def spCountAt : Sp := fun vs H Q _ => ∃ (v : V) (d : Addr) (c : Cnt) (m : Tms), vs = [v, .ref d] ∧ IsC H v c ∧ Good c.2 ∧ H d = some (.dK (enc m)) ∧ (∀ p ∈ c.2, p.1 ∈ nms m) ∧ ∀ H', Same H H' → Q (.int (val c (coef m))) H'
theorem look_mem : ∀ {m : Tms} {n : Str}, n ∈ nms m → look m n = some (coef m n)
  | [], _, h => by cases h
  | p :: r, n, h => by
    rw [coef_cons]
    show (if p.1 = n then _ else _) = _
    by_cases e : p.1 = n
    · rw [if_pos e, if_pos e]
    · rw [if_neg e, if_neg e]
      refine look_mem ?_
      rcases List.mem_cons.mp h with q | q
      · exact absurd q.symm e
      · exact q
theorem dget_enc {H : Hp} {d : Addr} {m : Tms} {n : Str} (h : H d = some (.dK (enc m))) (hn : n ∈ nms m) : DGet H d (.str n) (some (.int (coef m n))) := by
  have := DGet.k (k := (Sum.inr n : Key)) h
  rw [enc_val, look_mem hn] at this
  exact this
theorem dget_any {H : Hp} {d : Addr} {m : Tms} {n : Str} (h : H d = some (.dK (enc m))) : DGet H d (.str n) ((look m n).map V.int) := by
  have := DGet.k (k := (Sum.inr n : Key)) h
  rw [enc_val] at this
  exact this
theorem ok_count_at {f : Addr} {fd : FuncData} (F : Fun K "count_at" "count_at" sCountAt f fd) (ms : mg "sum" = none) : FnOk P w K mg base CX0 1 f fd ["count", "sizes"] spCountAt := by
  refine F.ok scCountAt (fun vs H Q E h => ?_) (fun cdv A outer s0 H vs Q E hr h => ?_)
  · obtain ⟨v, d, c, m, rfl, _⟩ := h
    rfl
  · obtain ⟨v, d, c, m, rfl, ⟨a, t, ts, rfl, ha, ht, hT⟩, hg, hd, hm, q⟩ := h
    have hu := hu_of hr
    refine ⟨_, pss_cons (ps_asg (pv 0) (pg_tup (by rfl) (pgs_cons (pg_name (i := 2) scCountAt.nd rfl (.inl rfl)) (pgs_cons (pg_name (i := 3) scCountAt.nd rfl (.inl rfl)) pgs_nil))))
      (pss_one (ps_ret (pe_op op_add (pv 2) (pe_callB (cr_sum rfl) (by rfl) ms (by decide +kernel)
        (pa_cons (pe_lc (own := [("name", 4), ("times", 5)]) (g := gTup K 2 (gCons (gName 4) (gCons (gName 5) gNil))) (tt := tYes) rfl scCountAt.nd (pi_tup (pv 3)) (blkOk_by (N := ["count", "sizes", "fixed", "terms", "name", "times"]) (sc := defScope sCountAt) (by decide +kernel))
          (fun _ _ _ _ _ => pg_tup rfl (pgs_cons (pg_name (i := 4) scCountAt.nd rfl (.inl rfl)) (pgs_cons (pg_name (i := 5) scCountAt.nd rfl (.inl rfl)) pgs_nil))) (fun _ _ _ _ _ => pts_nil)
          (fun _ _ _ _ _ => pe_op op_mul (pv 5) (pe_dget hu (pv 1) (pv 4) (fun _ _ => rfl)))) pa_nil))))), ?_⟩
    refine ⟨_, rfl, a, _, rfl, .inl (.inl ha), rfl, _, _, rfl, _, _, rfl, rfl, ?_⟩
    refine ⟨_, rfl, _, rfl, t, rfl, ⟨_, .inl (.inl ht)⟩, fun D nD => ?_⟩
    refine lc_tup (K := K) (a := t) (xs := ts) (fun i H' => Same H H' ∧ H' D = some (.lst (((c.2.take i).map fun p => p.2 * coef m p.1).map V.int))) ⟨same_upd nD, upd_same⟩ (fun i H' hi h => .inl (.inl (h.1 _ _ ht))) (fun i x H' hx h => ?_) (fun H' h => ?_)
    · obtain ⟨sm, hD⟩ := h
      obtain ⟨p, hp, b, rfl, hb⟩ := hT.at hx
      refine ⟨b, _, rfl, .inl (.inl (sm _ _ hb)), rfl, _, _, rfl, _, _, rfl, rfl, rfl, ?_⟩
      have hp1 := hg.lo p (List.mem_of_getElem? hp)
      refine ⟨_, rfl, _, rfl, _, rfl, d, .int (coef m p.1), rfl, dget_enc (sm _ _ hd) (hm p (List.mem_of_getElem? hp)), _, _, rfl, rfl, .inl ⟨by omega, by omega⟩, _, hD, ?_, ?_⟩
      · rw [List.length_map, List.length_map, List.length_take]
        have := hg.few
        exact lt_size (by omega)
      · refine ⟨fun b' o e => ?_, ?_⟩
        · rw [upd_ne (ne_of_none e nD)]; exact sm _ _ e
        · rw [upd_same, take_snoc hp, List.map_append, List.map_append]; rfl
    · obtain ⟨sm, hD⟩ := h
      have e1 : c.2.take ts.length = c.2 := List.take_of_length_le (by rw [hT.1]; exact Nat.le_refl _)
      rw [e1] at hD
      exact ⟨D, _, rfl, .inl (.inl hD), _, _, rfl, rfl, q H' sm⟩
end
end K4

set_option Elab.async false
set_option linter.all false
set_option maxRecDepth 100000
set_option maxHeartbeats 4000000
namespace K4
open PySem PySem.Spec PyProof.Rows L2
section
variable {P : Program} {w : World} {K : PySem.W.Frag} {mg : Str → Option Value} {base : Heap}
/-! ### the least, the greatest -/
def spOne (f : Cnt → Int) : Sp := fun vs H Q _ => ∃ (v : V) (c : Cnt), vs = [v] ∧ IsC H v c ∧ Good c.2 ∧ ∀ H', Same H H' → Q (.int (f c)) H'
theorem ok_least {f : Addr} {fd : FuncData} (F : Fun K "least_of" "least_of" sLeast f fd) (ms : mg "sum" = none) : FnOk P w K mg base CX0 1 f fd ["count"] (spOne leastv) := by
  refine F.ok scLeast (fun vs H Q E h => ?_) (fun cdv A outer s0 H vs Q E hr h => ?_)
  · obtain ⟨v, c, rfl, _⟩ := h
    rfl
  · obtain ⟨v, c, rfl, ⟨a, t, ts, rfl, ha, ht, hT⟩, hg, q⟩ := h
    refine ⟨_, pss_cons (ps_asg (pv 0) (pg_tup (by rfl) (pgs_cons (pg_name (i := 1) scLeast.nd rfl (.inl rfl)) (pgs_cons (pg_name (i := 2) scLeast.nd rfl (.inl rfl)) pgs_nil))))
      (pss_one (ps_ret (pe_op op_add (pv 1) (pe_callB (cr_sum rfl) (by rfl) ms (by decide +kernel)
        (pa_cons (pe_lc (own := [("term", 3)]) (g := gName 3) (tt := tYes) rfl scLeast.nd (pi_tup (pv 2)) (blkOk_by (N := ["count", "fixed", "terms", "term"]) (sc := defScope sLeast) (by decide +kernel))
          (fun _ _ _ _ _ => pg_name (i := 3) scLeast.nd rfl (.inl rfl)) (fun _ _ _ _ _ => pts_nil)
          (fun _ _ _ _ _ => pe_ix (r := rIxT K) ix_tup (pv 3) pe_int (fun _ _ => rfl))) pa_nil))))), ?_⟩
    refine ⟨_, rfl, a, _, rfl, .inl (.inl ha), rfl, _, _, rfl, _, _, rfl, rfl, ?_⟩
    refine ⟨_, rfl, _, rfl, t, rfl, ⟨_, .inl (.inl ht)⟩, fun D nD => ?_⟩
    refine lc_tup (K := K) (a := t) (xs := ts) (fun i H' => Same H H' ∧ H' D = some (.lst (((c.2.take i).map (·.2)).map V.int))) ⟨same_upd nD, upd_same⟩ (fun i H' hi h => .inl (.inl (h.1 _ _ ht))) (fun i x H' hx h => ?_) (fun H' h => ?_)
    · obtain ⟨sm, hD⟩ := h
      obtain ⟨p, hp, b, rfl, hb⟩ := hT.at hx
      refine ⟨rfl, ?_⟩
      refine ⟨_, rfl, b, _, _, .int p.2, rfl, rfl, .inl (.inl (sm _ _ hb)), rfl, _, hD, ?_, ?_⟩
      · rw [List.length_map, List.length_map, List.length_take]
        have := hg.few
        exact lt_size (by omega)
      · refine ⟨fun b' o e => ?_, ?_⟩
        · rw [upd_ne (ne_of_none e nD)]; exact sm _ _ e
        · rw [upd_same, take_snoc hp, List.map_append, List.map_append]; rfl
    · obtain ⟨sm, hD⟩ := h
      have e1 : c.2.take ts.length = c.2 := List.take_of_length_le (by rw [hT.1]; exact Nat.le_refl _)
      rw [e1] at hD
      exact ⟨D, _, rfl, .inl (.inl hD), _, _, rfl, rfl, q H' sm⟩
theorem ok_greatest {f : Addr} {fd : FuncData} (F : Fun K "greatest_of" "greatest_of" sGreatest f fd) (ms : mg "sum" = none) (gM : ∃ t, mg "MOST_SIZE" = some (.int 12 t)) : FnOk P w K mg base CX0 1 f fd ["count"] (spOne greatv) := by
  obtain ⟨tk, gM⟩ := gM
  refine F.ok scGreatest (fun vs H Q E h => ?_) (fun cdv A outer s0 H vs Q E hr h => ?_)
  · obtain ⟨v, c, rfl, _⟩ := h
    rfl
  · obtain ⟨v, c, rfl, ⟨a, t, ts, rfl, ha, ht, hT⟩, hg, q⟩ := h
    refine ⟨_, pss_cons (ps_asg (pv 0) (pg_tup (by rfl) (pgs_cons (pg_name (i := 1) scGreatest.nd rfl (.inl rfl)) (pgs_cons (pg_name (i := 2) scGreatest.nd rfl (.inl rfl)) pgs_nil))))
      (pss_one (ps_ret (pe_op op_add (pv 1) (pe_op op_mul (pe_glob (v := .int 12) rfl gM ⟨_, rfl⟩) (pe_callB (cr_sum rfl) (by rfl) ms (by decide +kernel)
        (pa_cons (pe_lc (own := [("term", 3)]) (g := gName 3) (tt := tYes) rfl scGreatest.nd (pi_tup (pv 2)) (blkOk_by (N := ["count", "fixed", "terms", "term"]) (sc := defScope sGreatest) (by decide +kernel))
          (fun _ _ _ _ _ => pg_name (i := 3) scGreatest.nd rfl (.inl rfl)) (fun _ _ _ _ _ => pts_nil)
          (fun _ _ _ _ _ => pe_ix (r := rIxT K) ix_tup (pv 3) pe_int (fun _ _ => rfl))) pa_nil)))))), ?_⟩
    refine ⟨_, rfl, a, _, rfl, .inl (.inl ha), rfl, _, _, rfl, _, _, rfl, rfl, ?_⟩
    refine ⟨_, rfl, _, rfl, t, rfl, ⟨_, .inl (.inl ht)⟩, fun D nD => ?_⟩
    refine lc_tup (K := K) (a := t) (xs := ts) (fun i H' => Same H H' ∧ H' D = some (.lst (((c.2.take i).map (·.2)).map V.int))) ⟨same_upd nD, upd_same⟩ (fun i H' hi h => .inl (.inl (h.1 _ _ ht))) (fun i x H' hx h => ?_) (fun H' h => ?_)
    · obtain ⟨sm, hD⟩ := h
      obtain ⟨p, hp, b, rfl, hb⟩ := hT.at hx
      refine ⟨rfl, ?_⟩
      refine ⟨_, rfl, b, _, _, .int p.2, rfl, rfl, .inl (.inl (sm _ _ hb)), rfl, _, hD, ?_, ?_⟩
      · rw [List.length_map, List.length_map, List.length_take]
        have := hg.few
        exact lt_size (by omega)
      · refine ⟨fun b' o e => ?_, ?_⟩
        · rw [upd_ne (ne_of_none e nD)]; exact sm _ _ e
        · rw [upd_same, take_snoc hp, List.map_append, List.map_append]; rfl
    · obtain ⟨sm, hD⟩ := h
      have e1 : c.2.take ts.length = c.2 := List.take_of_length_le (by rw [hT.1]; exact Nat.le_refl _)
      rw [e1] at hD
      exact ⟨D, _, rfl, .inl (.inl hD), _, _, rfl, rfl, .inl ⟨by decide, by decide⟩, _, _, rfl, rfl, q H' sm⟩

/-! ### how often more -/
def spTimes : Sp := fun vs H Q _ => ∃ (v u : V) (c o : Cnt), vs = [v, u] ∧ IsC H v c ∧ IsC H u o ∧ Good c.2 ∧ Good o.2 ∧ ∀ H' d, H d = none → Same H H' → H' d = some (.dK (enc (tmore c.2 o.2))) → Q (.ref d) H'
theorem fst1_snoc (m ts : Tms) (p : Str × Int) : fst1 m (ts ++ [p]) = put (fst1 m ts) p.1 p.2 := by unfold fst1; rw [List.foldl_append]; rfl
theorem snd1_snoc (m ts : Tms) (p : Str × Int) : snd1 m (ts ++ [p]) = put (snd1 m ts) p.1 (coef (snd1 m ts) p.1 - p.2) := by unfold snd1; rw [List.foldl_append]; rfl
theorem len_put (n : Str) (k : Int) : ∀ m : Tms, (put m n k).length ≤ m.length + 1
  | [] => Nat.le_refl _
  | p :: r => by
    show (if p.1 = n then _ else _ : Tms).length ≤ _
    by_cases e : p.1 = n
    · rw [if_pos e]; exact Nat.le_succ _
    · rw [if_neg e]; exact Nat.succ_le_succ (len_put n k r)
theorem len_fst1 : ∀ (ts m : Tms), (fst1 m ts).length ≤ m.length + ts.length
  | [], m => Nat.le_refl _
  | p :: r, m => by
    have h1 := len_fst1 r (put m p.1 p.2)
    have h2 := len_put p.1 p.2 m
    show (fst1 (put m p.1 p.2) r).length ≤ _
    rw [List.length_cons]; omega
theorem len_snd1 : ∀ (ts m : Tms), (snd1 m ts).length ≤ m.length + ts.length
  | [], m => Nat.le_refl _
  | p :: r, m => by
    have h1 := len_snd1 r (put m p.1 (coef m p.1 - p.2))
    have h2 := len_put p.1 (coef m p.1 - p.2) m
    show (snd1 (put m p.1 (coef m p.1 - p.2)) r).length ≤ _
    rw [List.length_cons]; omega
theorem len_enc (m : Tms) : (enc m).length = m.length := List.length_map ..
theorem dput_enc {H : Hp} {d : Addr} {m : Tms} {n : Str} {k : Int} (h : H d = some (.dK (enc m))) (hn : (nms m).Nodup) (hl : m.length ≤ 100) : DPut H d (.str n) (.int k) (upd H d (.dK (enc (put m n k)))) := by
  have := DPut.k (k := (Sum.inr n : Key)) (v := .int k) h (by rw [len_enc]; exact lt_size (by omega))
  rw [enc_put _ _ _ hn] at this
  exact this
theorem ok_times {f : Addr} {fd : FuncData} (F : Fun K "times_more" "times_more" sTimes f fd) : FnOk P w K mg base CX0 1 f fd ["count", "other"] spTimes := by
  refine F.ok scTimes (fun vs H Q E h => ?_) (fun cdv A outer s0 H vs Q E hr h => ?_)
  · obtain ⟨v, u, c, o, rfl, _⟩ := h
    rfl
  · obtain ⟨v, u, c, o, rfl, ⟨a, t, ts, rfl, ha, ht, hT⟩, ⟨a2, t2, ts2, rfl, ha2, ht2, hT2⟩, gc, go, q⟩ := h
    have hu := hu_of hr
    have fc := gc.few
    have fo := go.few
    refine ⟨_, pss_cons (ps_set (i := 2) scTimes.nd rfl (.inl rfl) pe_dnewK)
      (pss_cons (ps_for PassesOwn.never rfl (pi_tup (pe_ix ix_tup (pv 0) pe_int (fun _ _ => rfl))) (pg_tup rfl (pgs_cons (pg_name (i := 3) scTimes.nd rfl (.inl rfl)) (pgs_cons (pg_name (i := 4) scTimes.nd rfl (.inl rfl)) pgs_nil)))
        (pss_one (ps_dput hu (pv 2) (pv 3) (pv 4) rfl)))
      (pss_cons (ps_for PassesOwn.never rfl (pi_tup (pe_ix ix_tup (pv 1) pe_int (fun _ _ => rfl))) (pg_tup rfl (pgs_cons (pg_name (i := 3) scTimes.nd rfl (.inl rfl)) (pgs_cons (pg_name (i := 4) scTimes.nd rfl (.inl rfl)) pgs_nil)))
        (pss_one (ps_dput hu (pv 2) (pv 3) (pe_op op_sub (pe_dget2 hu (pv 2) (pv 3) pe_int ⟨rfl, rfl, rfl, rfl⟩) (pv 4)) rfl)))
      (pss_one (ps_ret (pv 2))))), ?_⟩
    refine fun d nd => ?_
    have s1 : Same H (upd H d (.dK [])) := same_upd nd
    refine ⟨_, rfl, a, _, _, .ref t, rfl, rfl, .inl (.inl (s1 _ _ ha)), rfl, t, rfl, ⟨_, .inl (.inl (s1 _ _ ht))⟩, ?_⟩
    refine for_tup (K := K) (a := t) (xs := ts) (fun i σ H' => ∃ x3 x4, σ = [some (.ref a), some (.ref a2), some (.ref d), x3, x4] ∧ Same H H' ∧ H' d = some (.dK (enc (fst1 [] (c.2.take i))))) ⟨none, none, rfl, s1, upd_same⟩
      (fun i σ H' hi h => by obtain ⟨_, _, _, sm, _⟩ := h; exact .inl (.inl (sm _ _ ht))) (fun i x σ H' hx h => ?_) (fun σ H' h => ?_)
    · obtain ⟨x3, x4, rfl, sm, hd⟩ := h
      obtain ⟨p, hp, b, rfl, hb⟩ := hT.at hx
      have l1 := len_fst1 (c.2.take i) []
      rw [List.length_take] at l1
      refine ⟨b, _, rfl, .inl (.inl (sm _ _ hb)), rfl, _, _, rfl, _, _, rfl, rfl, ?_⟩
      refine ⟨_, rfl, _, rfl, _, rfl, d, _, rfl, dput_enc hd (nd_fst1 _ _ List.nodup_nil) (by simp at l1; omega), ?_⟩
      refine ⟨_, _, rfl, fun b' o' e => ?_, ?_⟩
      · rw [upd_ne (ne_of_none e nd)]; exact sm _ _ e
      · rw [upd_same, take_snoc hp, fst1_snoc]
    · obtain ⟨x3, x4, rfl, sm, hd⟩ := h
      have e1 : c.2.take ts.length = c.2 := List.take_of_length_le (by rw [hT.1]; exact Nat.le_refl _)
      rw [e1] at hd
      have l0 := len_fst1 c.2 []
      simp at l0
      refine ⟨_, rfl, a2, _, _, .ref t2, rfl, rfl, .inl (.inl (sm _ _ ha2)), rfl, t2, rfl, ⟨_, .inl (.inl (sm _ _ ht2))⟩, ?_⟩
      refine for_tup (K := K) (a := t2) (xs := ts2) (fun i σ H' => ∃ x3 x4, σ = [some (.ref a), some (.ref a2), some (.ref d), x3, x4] ∧ Same H H' ∧ H' d = some (.dK (enc (snd1 (fst1 [] c.2) (o.2.take i))))) ⟨_, _, rfl, sm, hd⟩
        (fun i σ H' hi h => by obtain ⟨_, _, _, sm, _⟩ := h; exact .inl (.inl (sm _ _ ht2))) (fun i x σ H' hx h => ?_) (fun σ H' h => ?_)
      · obtain ⟨x3, x4, rfl, sm, hd⟩ := h
        obtain ⟨p, hp, b, rfl, hb⟩ := hT2.at hx
        have l1 := len_snd1 (o.2.take i) (fst1 [] c.2)
        rw [List.length_take] at l1
        refine ⟨b, _, rfl, .inl (.inl (sm _ _ hb)), rfl, _, _, rfl, _, _, rfl, rfl, ?_⟩
        refine ⟨_, rfl, d, rfl, .inl ⟨_, .inl hd⟩, _, rfl, _, dget_any hd, _, rfl, coef (snd1 (fst1 [] c.2) (o.2.take i)) p.1, p.2, ?_, rfl, _, rfl, _, rfl, d, _, rfl, dput_enc hd (nd_snd1 _ _ (nd_fst1 _ _ List.nodup_nil)) (by omega), ?_⟩
        · unfold coef
          cases look (snd1 (fst1 [] c.2) (o.2.take i)) p.1 <;> rfl
        · refine ⟨_, _, rfl, fun b' o' e => ?_, ?_⟩
          · rw [upd_ne (ne_of_none e nd)]; exact sm _ _ e
          · rw [upd_same, take_snoc hp, snd1_snoc]
      · obtain ⟨x3, x4, rfl, sm, hd⟩ := h
        have e2 : o.2.take ts2.length = o.2 := List.take_of_length_le (by rw [hT2.1]; exact Nat.le_refl _)
        rw [e2] at hd
        exact ⟨_, rfl, q H' d nd sm hd⟩
end
end K4

set_option Elab.async false
set_option linter.all false
set_option maxRecDepth 100000
set_option maxHeartbeats 4000000
namespace K4
open PySem PySem.Spec PyProof.Rows L2
section
variable {P : Program} {w : World} {K : PySem.W.Frag} {mg : Str → Option Value} {base : Heap}
def spMostBy : Sp := fun vs H Q _ => ∃ (t : Int), vs = [.int t] ∧ Q (.int (mostby t)) H
theorem ok_most_by {f : Addr} {fd : FuncData} (F : Fun K "most_by" "most_by" sMostBy f fd) (mm : mg "max" = none) (gM : ∃ t, mg "MOST_SIZE" = some (.int 12 t)) : FnOk P w K mg base CX0 1 f fd ["times"] spMostBy := by
  obtain ⟨tk, gM⟩ := gM
  refine F.ok scMostBy (fun vs H Q E h => ?_) (fun cdv A outer s0 H vs Q E hr h => ?_)
  · obtain ⟨t, rfl, _⟩ := h
    rfl
  · obtain ⟨t, rfl, q⟩ := h
    refine ⟨_, pss_one (ps_ret (pe_callB (call_max2 rfl) (by rfl) mm (by decide +kernel) (pa_cons (pv 0) (pa_cons (pe_op op_mul (pv 0) (pe_glob (v := .int 12) rfl gM ⟨_, rfl⟩)) pa_nil)))), ?_⟩
    exact ⟨_, rfl, _, rfl, _, _, rfl, rfl, .inr ⟨by decide, by decide⟩, _, _, rfl, q⟩

def spTwo (f : Cnt → Cnt → V) : Sp := fun vs H Q _ => ∃ (v u : V) (c o : Cnt), vs = [v, u] ∧ IsC H v c ∧ IsC H u o ∧ Good c.2 ∧ Good o.2 ∧ ∀ H', Same H H' → Q (f c o) H'
theorem len_tmore {c o : Tms} (hc : Good c) (ho : Good o) : (tmore c o).length ≤ 6 := by
  have h1 := len_snd1 o (fst1 [] c)
  have h2 := len_fst1 c []
  have := hc.few
  have := ho.few
  simp at h2
  unfold tmore
  omega
theorem ok_apart {f fT fM : Addr} {fd fdT fdM : FuncData} (F : Fun K "most_apart" "most_apart" sApart f fd) (FT : Fun K "times_more" "times_more" sTimes fT fdT) (bT : Binds K fdT ["count", "other"] []) (gT : mg "times_more" = some (.ref fT))
    (FM : Fun K "most_by" "most_by" sMostBy fM fdM) (bM : Binds K fdM ["times"] []) (gMb : mg "most_by" = some (.ref fM)) (mm : mg "max" = none) (ms : mg "sum" = none) (gM : ∃ t, mg "MOST_SIZE" = some (.int 12 t)) :
    FnOk P w K mg base CX0 2 f fd ["count", "other"] (spTwo fun c o => .int (apart c o)) := by
  have GT : FnOk P w K mg base CX0 1 fT fdT ["count", "other"] spTimes := ok_times FT
  have GM : FnOk P w K mg base CX0 1 fM fdM ["times"] spMostBy := ok_most_by FM mm gM
  refine F.ok scApart (fun vs H Q E h => ?_) (fun cdv A outer s0 H vs Q E hr h => ?_)
  · obtain ⟨v, u, c, o, rfl, _⟩ := h
    rfl
  · obtain ⟨v, u, c, o, rfl, hc, ho, gc, go, q⟩ := h
    have lm := len_tmore gc go
    refine ⟨_, pss_cons (ps_set (i := 2) scApart.nd rfl (.inl rfl) (pe_call GT hr (by rfl) gT FT.kp bT .nil pass0 (pa_cons (pv 0) (pa_cons (pv 1) pa_nil))))
      (pss_one (ps_ret (pe_op op_add (pe_op op_sub (pe_ix ix_tup (pv 0) pe_int (fun _ _ => rfl)) (pe_ix ix_tup (pv 1) pe_int (fun _ _ => rfl)))
        (pe_callB (cr_sum rfl) (by rfl) ms (by decide +kernel) (pa_cons (pe_lock (pe_lc (own := [("times", 3)]) (g := gName 3) (tt := tYes) rfl scApart.nd (pi_values (pv 2)) (blkOk_by (N := ["count", "other", "more", "times"]) (sc := defScope sApart) (by decide +kernel))
          (fun _ _ _ _ _ => pg_name (i := 3) scApart.nd rfl (.inl rfl)) (fun _ _ _ _ _ => pts_nil)
          (fun _ _ _ _ _ => pe_call GM hr (by rfl) gMb FM.kp bM .nil pass0 (pa_cons (pv 3) pa_nil)))) pa_nil))))), ?_⟩
    refine ⟨_, rfl, _, rfl, v, u, c, o, rfl, hc, ho, gc, go, fun H1 d nd s1 hd => ?_⟩
    obtain ⟨a, t, ts, rfl, ha, ht, hT⟩ := hc
    obtain ⟨a2, t2, ts2, rfl, ha2, ht2, hT2⟩ := ho
    refine ⟨_, rfl, a, _, _, .int c.1, rfl, rfl, .inl (.inl (s1 _ _ ha)), rfl, _, rfl, a2, _, _, .int o.1, rfl, rfl, .inl (.inl (s1 _ _ ha2)), rfl, _, _, rfl, rfl, ?_⟩
    refine ⟨d, _, hd, trivial, fun od => ?_⟩
    refine ⟨_, rfl, d, od, _, rfl, upd_same, fun D nD => ?_⟩
    have nDd : D ≠ d := fun e => by rw [e, upd_same] at nD; cases nD
    have nD1 : H1 D = none := by rw [upd_ne nDd] at nD; exact nD
    refine lc_it walk_values (fun i H' => (∀ b o', b ≠ d → H1 b = some o' → H' b = some o') ∧ H' d = some (.frz od (.dK (enc (tmore c.2 o.2)))) ∧ H' D = some (.lst ((((tmore c.2 o.2).take i).map fun p => mostby p.2).map V.int)))
      ⟨fun b o' hb e => by rw [upd_ne (ne_of_none e nD1), upd_ne hb]; exact e, by rw [upd_ne nDd.symm, upd_same], upd_same⟩ (fun i H' hi h => h.2.1) (fun i x H2 H' hi h hy => ?_) (fun H' h => ?_)
    · obtain ⟨sm, hf, hD⟩ := h
      obtain ⟨rfl, k, hk⟩ := hy
      have hp : ∃ p, (tmore c.2 o.2)[i]? = some p ∧ x = .int p.2 := by
        unfold enc at hk
        rw [List.getElem?_map] at hk
        cases e : (tmore c.2 o.2)[i]? with
        | none => rw [e] at hk; cases hk
        | some p => rw [e] at hk; cases hk; exact ⟨p, rfl, rfl⟩
      obtain ⟨p, hp, rfl⟩ := hp
      refine ⟨rfl, ?_⟩
      refine ⟨_, rfl, p.2, rfl, _, hD, ?_, ?_⟩
      · rw [List.length_map, List.length_map, List.length_take]
        exact lt_size (by omega)
      · refine ⟨fun b o' hb e => ?_, ?_, ?_⟩
        · rw [upd_ne (ne_of_none e nD1)]; exact sm _ _ hb e
        · rw [upd_ne nDd.symm]; exact hf
        · rw [upd_same, take_snoc hp, List.map_append, List.map_append]; rfl
    · obtain ⟨sm, hf, hD⟩ := h
      rw [len_enc, List.take_length] at hD
      refine ⟨hf, D, _, rfl, .inl (.inl (by rw [upd_ne nDd]; exact hD)), _, _, rfl, rfl, ?_⟩
      refine q _ fun b o' e => ?_
      by_cases hb : b = d
      · subst hb
        rw [upd_same]
        have := s1 _ _ e
        rw [hd] at this
        exact this
      · rw [upd_ne hb]; exact sm _ _ hb (s1 _ _ e)
/-- what the program's counts need of the text -/
structure TxP (K : PySem.W.Frag) (mg : Str → Option Value) where
  fT : Addr
  fM : Addr
  fA : Addr
  fL : Addr
  fdT : FuncData
  fdM : FuncData
  fdA : FuncData
  fdL : FuncData
  FT : Fun K "times_more" "times_more" sTimes fT fdT
  bT : Binds K fdT ["count", "other"] []
  gT : mg "times_more" = some (.ref fT)
  FM : Fun K "most_by" "most_by" sMostBy fM fdM
  bM : Binds K fdM ["times"] []
  gMb : mg "most_by" = some (.ref fM)
  FA : Fun K "most_apart" "most_apart" sApart fA fdA
  bA : Binds K fdA ["count", "other"] []
  gA : mg "most_apart" = some (.ref fA)
  FL : Fun K "least_size" "least_size" sLeastS fL fdL
  bL : Binds K fdL ["rest", "times"] []
  gL : mg "least_size" = some (.ref fL)
  mm : mg "max" = none
  ms : mg "sum" = none
  mt : mg "tuple" = none
  gM : ∃ t, mg "MOST_SIZE" = some (.int 12 t)
theorem ok_apartT (T : TxP K mg) : FnOk P w K mg base CX0 2 T.fA T.fdA ["count", "other"] (spTwo fun c o => .int (apart c o)) := ok_apart T.FA T.FT T.bT T.gT T.FM T.bM T.gMb T.mm T.ms T.gM
theorem ok_at_most {f : Addr} {fd : FuncData} (F : Fun K "at_most" "at_most" sAtMost f fd) (T : TxP K mg) : FnOk P w K mg base CX0 3 f fd ["count", "other"] (spTwo fun c o => .bl (decide (apart c o ≤ 0))) := by
  have GA : FnOk P w K mg base CX0 2 T.fA T.fdA ["count", "other"] (spTwo fun c o => .int (apart c o)) := ok_apartT T
  refine F.ok scAtMost (fun vs H Q E h => ?_) (fun cdv A outer s0 H vs Q E hr h => ?_)
  · obtain ⟨v, u, c, o, rfl, _⟩ := h
    rfl
  · obtain ⟨v, u, c, o, rfl, hc, ho, gc, go, q⟩ := h
    refine ⟨_, pss_one (ps_ret (pe_cmpR op_le (pe_call GA hr (by rfl) T.gA T.FA.kp T.bA .nil pass0 (pa_cons (pv 0) (pa_cons (pv 1) pa_nil))) pe_int (nomark _))), ?_⟩
    exact ⟨_, rfl, _, rfl, v, u, c, o, rfl, hc, ho, gc, go, fun H1 s1 => ⟨_, _, rfl, rfl, q H1 s1⟩⟩
/-! ### the first sizes -/
def spLeastS : Sp := fun vs H Q _ => ∃ (r t : Int), vs = [.int r, .int t] ∧ 0 < r + mostby t ∧ ∀ s, Lst r t s → Q (.int s) H
theorem ok_least_size {f : Addr} {fd : FuncData} (F : Fun K "least_size" "least_size" sLeastS f fd) : FnOk P w K mg base CX0 1 f fd ["rest", "times"] spLeastS := by
  refine F.ok scLeastS (fun vs H Q E h => ?_) (fun cdv A outer s0 H vs Q E hr h => ?_)
  · obtain ⟨r, t, rfl, _⟩ := h
    rfl
  · obtain ⟨r, t, rfl, h0, q⟩ := h
    refine ⟨_, pss_cons (ps_set (i := 2) scLeastS.nd rfl (.inl rfl) pe_int)
      (pss_cons (ps_while PassesOwn.never (pt_cmpR op_le (pe_op op_add (pv 0) (pe_op op_mul (pv 1) (pv 2))) pe_int (nomark _)) (pss_one (ps_aug (i := 2) scLeastS.nd rfl (.inl rfl) pe_int ip_add)))
      (pss_one (ps_ret (pv 2)))), ?_⟩
    refine ⟨fun m σ H' => ∃ s : Int, σ = [some (.int r), some (.int t), some (.int s)] ∧ H' = H ∧ 1 ≤ s ∧ s ≤ 12 ∧ m = (12 - s).toNat ∧ ∀ j : Int, 1 ≤ j → j < s → r + t * j ≤ 0, ⟨_, 1, rfl, rfl, by decide, by decide, rfl, fun j h1 h2 => by omega⟩, ?_⟩
    rintro m σ H' ⟨s, rfl, rfl, s1, s2, rfl, hs⟩
    refine ⟨_, rfl, _, rfl, _, rfl, _, _, rfl, rfl, .inr ⟨by omega, by omega⟩, _, _, rfl, rfl, _, _, rfl, rfl, _, rfl, ?_⟩
    by_cases hle : r + t * s ≤ 0
    · rw [decide_eq_true hle]
      have hs12 : s < 12 := by
        apply Classical.byContradiction
        intro z
        have e : s = 12 := by omega
        subst e
        unfold mostby at h0
        by_cases h1 : t * 12 > t
        · rw [if_pos h1] at h0; omega
        · rw [if_neg h1] at h0
          have := hs 1 (by decide) (by decide)
          omega
      refine iteT ⟨fun σ' H'' => σ' = [some (.int r), some (.int t), some (.int (s + 1))] ∧ H'' = H', fun σ' H'' hN => ?_, ?_⟩
      · obtain ⟨rfl, rfl⟩ := hN
        refine ⟨(12 - (s + 1)).toNat, by omega, s + 1, rfl, rfl, by omega, by omega, rfl, fun j j1 j2 => ?_⟩
        by_cases e : j = s
        · rw [e]; exact hle
        · exact hs j j1 (by omega)
      · exact ⟨_, rfl, _, _, rfl, rfl, rfl, rfl⟩
    · rw [decide_eq_false hle]
      refine iteF ⟨_, rfl, q s ⟨s1, s2, by omega, hs⟩⟩
/-- names, in a list or a tuple -/
def NmAt (K : PySem.W.Frag) (H : Hp) (a : Addr) (ws : List Str) : Prop := H a = some (.lst (ws.map V.str)) ∨ H a = some (.tup (ws.map V.str))
def spWorstS (K : PySem.W.Frag) : Sp := fun vs H Q _ => ∃ (v u : V) (a : Addr) (c o : Cnt) (ws : List Str), vs = [v, u, .ref a] ∧ IsC H v c ∧ IsC H u o ∧ NmAt K H a ws ∧ ws.Nodup ∧ ws.length ≤ 3 ∧ CntOk ws c ∧ CntOk ws o ∧
  (apart c o ≤ 0 → ∀ H', Same H H' → Q .non H') ∧ (0 < apart c o → ∀ H' p xs, Same H H' → Grd (apart c o) (tms ws c o) xs → H' p = some (.tup (xs.map V.int)) → Q (.ref p) H')
theorem drop_at {α : Type} {l : List α} {i : Nat} {x : α} (h : l[i]? = some x) : l.drop i = x :: l.drop (i + 1) := by
  obtain ⟨h1, h2⟩ := List.getElem?_eq_some_iff.mp h
  rw [List.drop_eq_getElem_cons h1, h2]
theorem ok_worst_sizes {f : Addr} {fd : FuncData} (F : Fun K "worst_sizes" "worst_sizes" sWorstS f fd) (T : TxP K mg) : FnOk P w K mg base CX0 3 f fd ["count", "other", "names"] (spWorstS K) := by
  have GA : FnOk P w K mg base CX0 2 T.fA T.fdA ["count", "other"] (spTwo fun c o => .int (apart c o)) := ok_apartT T
  have GT : FnOk P w K mg base CX0 1 T.fT T.fdT ["count", "other"] spTimes := ok_times T.FT
  have GM : FnOk P w K mg base CX0 1 T.fM T.fdM ["times"] spMostBy := ok_most_by T.FM T.mm T.gM
  have GL : FnOk P w K mg base CX0 1 T.fL T.fdL ["rest", "times"] spLeastS := ok_least_size T.FL
  refine F.ok scWorstS (fun vs H Q E h => ?_) (fun cdv A outer s0 H vs Q E hr h => ?_)
  · obtain ⟨v, u, a, c, o, ws, rfl, _⟩ := h
    rfl
  · obtain ⟨v, u, a, c, o, ws, rfl, hc, ho, hn, nd, fw, kc, ko, q1, q2⟩ := h
    have hu := hu_of hr
    have hr1 := hr.mono (show 1 ≤ 2 by decide)
    -- a turn, and what stands behind the loop, whatever is walked
    let inv : Nat → L2.St → Hp → Prop := fun i σ H' => ∃ (x6 x7 x8 : Option V) (r : Int) (d fo : Addr) (ys : List Int), σ = [some v, some u, some (.ref a), some (.int r), some (.ref d), some (.ref fo), x6, x7, x8] ∧ Same H H' ∧ H' d = some (.dK (enc (tmore c.2 o.2))) ∧ H fo = none ∧ H' fo = some (.lst (ys.map V.int)) ∧ ys.length = i ∧ i ≤ ws.length ∧
      0 < r ∧ ∀ zs, Grd r ((tms ws c o).drop i) zs → Grd (apart c o) (tms ws c o) (ys ++ zs)
    have tl : (tms ws c o).length = ws.length := by unfold tms; rw [List.length_map]
    rcases hn with hn | hn
    · refine ⟨_, pss_cons (ps_set (i := 3) scWorstS.nd rfl (.inl rfl) (pe_call GA hr (by rfl) T.gA T.FA.kp T.bA .nil pass0 (pa_cons (pv 0) (pa_cons (pv 1) pa_nil))))
        (pss_cons (ps_if (pt_cmpR op_le (pv 3) pe_int (nomark _)) (pss_one (ps_ret pe_non)) pss_nil)
        (pss_cons (ps_set (i := 4) scWorstS.nd rfl (.inl rfl) (pe_call GT hr1 (by rfl) T.gT T.FT.kp T.bT .nil pass0 (pa_cons (pv 0) (pa_cons (pv 1) pa_nil))))
        (pss_cons (ps_set (i := 5) scWorstS.nd rfl (.inl rfl) (pe_lst pa_nil))
        (pss_cons (ps_for PassesOwn.never rfl (pi_list (pv 2)) (pg_name (i := 6) scWorstS.nd rfl (.inl rfl))
          (pss_cons (ps_set (i := 7) scWorstS.nd rfl (.inl rfl) (pe_dget2 hu (pv 4) (pv 6) pe_int ⟨rfl, rfl, rfl, rfl⟩))
          (pss_cons (ps_set (i := 3) scWorstS.nd rfl (.inl rfl) (pe_op op_sub (pv 3) (pe_call GM hr1 (by rfl) T.gMb T.FM.kp T.bM .nil pass0 (pa_cons (pv 7) pa_nil))))
          (pss_cons (ps_set (i := 8) scWorstS.nd rfl (.inl rfl) (pe_call GL hr1 (by rfl) T.gL T.FL.kp T.bL .nil pass0 (pa_cons (pv 3) (pa_cons (pv 7) pa_nil))))
          (pss_cons (ps_set (i := 3) scWorstS.nd rfl (.inl rfl) (pe_op op_add (pv 3) (pe_op op_mul (pv 7) (pv 8))))
          (pss_one (ps_expr (pe_bm PySem.F.plainAttrs_list PySem.F.slot_list_append PySem.F.type_list_append mt_append (pv 5) (pa_cons (pv 8) pa_nil)))))))))
        (pss_one (ps_ret (pe_callTy call_tuple_of (by rfl) T.mt (by decide +kernel) (pa_cons (pv 5) pa_nil)))))))), ?_⟩
      refine ⟨_, rfl, _, rfl, v, u, c, o, rfl, hc, ho, kc.good, ko.good, fun H1 s1 => ?_⟩
      refine ⟨_, rfl, _, _, rfl, rfl, _, rfl, ite2 (fun hle => ?_) (fun hle => ?_)⟩
      · exact q1 (of_decide_eq_true hle) H1 s1
      · have hgt : 0 < apart c o := Int.not_le.mp fun z => hle (decide_eq_true z)
        refine ⟨_, rfl, _, rfl, v, u, c, o, rfl, hc.kt (.of_same s1), ho.kt (.of_same s1), kc.good, ko.good, fun H2 d nd1 s2 hd => ?_⟩
        refine ⟨Nat.zero_le _, fun fo nf => ?_⟩
        have s3 : Same H (upd H2 fo (.lst [])) := (s1.trans s2).trans (same_upd nf)
        refine ⟨_, rfl, a, rfl, ⟨_, .inl (.inl (s3 _ _ hn))⟩, ?_⟩
        refine for_list (K := K) (a := a) (xs := ws.map V.str) inv ⟨none, none, none, apart c o, d, fo, [], rfl, s3, by rw [upd_ne (ne_of_none hd nf)]; exact hd, (s1.trans s2).free nf, upd_same, rfl, Nat.zero_le _, hgt, fun zs h => h⟩
          (fun i σ H' hi h => by obtain ⟨_, _, _, _, _, _, _, _, sm, _⟩ := h; exact .inl (.inl (sm _ _ hn))) (fun i x σ H' hx h => ?_) (fun σ H' h => ?_)
        · obtain ⟨x6, x7, x8, r, d, fo, ys, rfl, sm, hd, nfo, hf, hl, hi, hr0, hG⟩ := h
          obtain ⟨n, hn1, rfl⟩ : ∃ n, ws[i]? = some n ∧ x = .str n := by
            rw [List.getElem?_map] at hx
            cases e : ws[i]? with
            | none => rw [e] at hx; cases hx
            | some n => rw [e] at hx; cases hx; exact ⟨n, rfl, rfl⟩
          have hi2 : i < ws.length := (List.getElem?_eq_some_iff.mp hn1).1
          have ht : (tms ws c o)[i]? = some (coef (tmore c.2 o.2) n) := by unfold tms; rw [List.getElem?_map, hn1]; rfl
          have hdr := drop_at ht
          refine ⟨_, rfl, d, rfl, .inl ⟨_, .inl hd⟩, _, rfl, _, dget_any hd, ?_⟩
          have ev : ((look (tmore c.2 o.2) n).map V.int).getD (.int 0) = .int (coef (tmore c.2 o.2) n) := by
            unfold coef
            cases look (tmore c.2 o.2) n <;> rfl
          rw [ev]
          revert ht hdr
          generalize coef (tmore c.2 o.2) n = t
          intro ht hdr
          refine ⟨_, rfl, _, rfl, t, rfl, _, _, rfl, rfl, ?_⟩
          refine ⟨_, rfl, _, rfl, _, t, rfl, by omega, fun s hs => ?_⟩
          refine ⟨_, rfl, _, rfl, _, rfl, _, _, rfl, rfl, .inr ⟨by have := hs.1; omega, by have := hs.2.1; omega⟩, _, _, rfl, rfl, ?_⟩
          refine ⟨_, rfl, .inl ⟨rfl, _, .inl (.inl hf)⟩, _, rfl, fo, _, _, rfl, rfl, hf, ?_, ?_⟩
          · rw [List.length_map]; exact lt_size (by omega)
          · refine ⟨_, _, _, r - mostby t + t * s, d, fo, ys ++ [s], rfl, fun b' o' e => ?_, ?_, nfo, ?_, by rw [List.length_append, hl]; rfl, hi2, hs.2.2.1, fun zs hz => ?_⟩
            · rw [upd_ne (ne_of_none e nfo)]; exact sm _ _ e
            · rw [upd_ne (ne_of hd hf (by intro z; cases z))]; exact hd
            · rw [upd_same, List.map_append]; rfl
            · rw [List.append_assoc]
              refine hG _ ?_
              rw [hdr]
              exact ⟨hs, hz⟩
        · obtain ⟨x6, x7, x8, r, d, fo, ys, rfl, sm, hd, nfo, hf, hl, hi, hr0, hG⟩ := h
          have hg := hG [] (by
            rw [List.drop_of_length_le (by rw [tl, List.length_map]; exact Nat.le_refl _)]
            trivial)
          rw [List.append_nil] at hg
          exact ⟨_, rfl, fo, _, rfl, .inl ⟨.inl (.inl hf), fun l hl => q2 hgt _ l ys (sm.trans (same_upd hl)) hg upd_same⟩⟩
    · refine ⟨_, pss_cons (ps_set (i := 3) scWorstS.nd rfl (.inl rfl) (pe_call GA hr (by rfl) T.gA T.FA.kp T.bA .nil pass0 (pa_cons (pv 0) (pa_cons (pv 1) pa_nil))))
        (pss_cons (ps_if (pt_cmpR op_le (pv 3) pe_int (nomark _)) (pss_one (ps_ret pe_non)) pss_nil)
        (pss_cons (ps_set (i := 4) scWorstS.nd rfl (.inl rfl) (pe_call GT hr1 (by rfl) T.gT T.FT.kp T.bT .nil pass0 (pa_cons (pv 0) (pa_cons (pv 1) pa_nil))))
        (pss_cons (ps_set (i := 5) scWorstS.nd rfl (.inl rfl) (pe_lst pa_nil))
        (pss_cons (ps_for PassesOwn.never rfl (pi_tup (pv 2)) (pg_name (i := 6) scWorstS.nd rfl (.inl rfl))
          (pss_cons (ps_set (i := 7) scWorstS.nd rfl (.inl rfl) (pe_dget2 hu (pv 4) (pv 6) pe_int ⟨rfl, rfl, rfl, rfl⟩))
          (pss_cons (ps_set (i := 3) scWorstS.nd rfl (.inl rfl) (pe_op op_sub (pv 3) (pe_call GM hr1 (by rfl) T.gMb T.FM.kp T.bM .nil pass0 (pa_cons (pv 7) pa_nil))))
          (pss_cons (ps_set (i := 8) scWorstS.nd rfl (.inl rfl) (pe_call GL hr1 (by rfl) T.gL T.FL.kp T.bL .nil pass0 (pa_cons (pv 3) (pa_cons (pv 7) pa_nil))))
          (pss_cons (ps_set (i := 3) scWorstS.nd rfl (.inl rfl) (pe_op op_add (pv 3) (pe_op op_mul (pv 7) (pv 8))))
          (pss_one (ps_expr (pe_bm PySem.F.plainAttrs_list PySem.F.slot_list_append PySem.F.type_list_append mt_append (pv 5) (pa_cons (pv 8) pa_nil)))))))))
        (pss_one (ps_ret (pe_callTy call_tuple_of (by rfl) T.mt (by decide +kernel) (pa_cons (pv 5) pa_nil)))))))), ?_⟩
      refine ⟨_, rfl, _, rfl, v, u, c, o, rfl, hc, ho, kc.good, ko.good, fun H1 s1 => ?_⟩
      refine ⟨_, rfl, _, _, rfl, rfl, _, rfl, ite2 (fun hle => ?_) (fun hle => ?_)⟩
      · exact q1 (of_decide_eq_true hle) H1 s1
      · have hgt : 0 < apart c o := Int.not_le.mp fun z => hle (decide_eq_true z)
        refine ⟨_, rfl, _, rfl, v, u, c, o, rfl, hc.kt (.of_same s1), ho.kt (.of_same s1), kc.good, ko.good, fun H2 d nd1 s2 hd => ?_⟩
        refine ⟨Nat.zero_le _, fun fo nf => ?_⟩
        have s3 : Same H (upd H2 fo (.lst [])) := (s1.trans s2).trans (same_upd nf)
        refine ⟨_, rfl, a, rfl, ⟨_, .inl (.inl (s3 _ _ hn))⟩, ?_⟩
        refine for_tup (K := K) (a := a) (xs := ws.map V.str) inv ⟨none, none, none, apart c o, d, fo, [], rfl, s3, by rw [upd_ne (ne_of_none hd nf)]; exact hd, (s1.trans s2).free nf, upd_same, rfl, Nat.zero_le _, hgt, fun zs h => h⟩
          (fun i σ H' hi h => by obtain ⟨_, _, _, _, _, _, _, _, sm, _⟩ := h; exact .inl (.inl (sm _ _ hn))) (fun i x σ H' hx h => ?_) (fun σ H' h => ?_)
        · obtain ⟨x6, x7, x8, r, d, fo, ys, rfl, sm, hd, nfo, hf, hl, hi, hr0, hG⟩ := h
          obtain ⟨n, hn1, rfl⟩ : ∃ n, ws[i]? = some n ∧ x = .str n := by
            rw [List.getElem?_map] at hx
            cases e : ws[i]? with
            | none => rw [e] at hx; cases hx
            | some n => rw [e] at hx; cases hx; exact ⟨n, rfl, rfl⟩
          have hi2 : i < ws.length := (List.getElem?_eq_some_iff.mp hn1).1
          have ht : (tms ws c o)[i]? = some (coef (tmore c.2 o.2) n) := by unfold tms; rw [List.getElem?_map, hn1]; rfl
          have hdr := drop_at ht
          refine ⟨_, rfl, d, rfl, .inl ⟨_, .inl hd⟩, _, rfl, _, dget_any hd, ?_⟩
          have ev : ((look (tmore c.2 o.2) n).map V.int).getD (.int 0) = .int (coef (tmore c.2 o.2) n) := by
            unfold coef
            cases look (tmore c.2 o.2) n <;> rfl
          rw [ev]
          revert ht hdr
          generalize coef (tmore c.2 o.2) n = t
          intro ht hdr
          refine ⟨_, rfl, _, rfl, t, rfl, _, _, rfl, rfl, ?_⟩
          refine ⟨_, rfl, _, rfl, _, t, rfl, by omega, fun s hs => ?_⟩
          refine ⟨_, rfl, _, rfl, _, rfl, _, _, rfl, rfl, .inr ⟨by have := hs.1; omega, by have := hs.2.1; omega⟩, _, _, rfl, rfl, ?_⟩
          refine ⟨_, rfl, .inl ⟨rfl, _, .inl (.inl hf)⟩, _, rfl, fo, _, _, rfl, rfl, hf, ?_, ?_⟩
          · rw [List.length_map]; exact lt_size (by omega)
          · refine ⟨_, _, _, r - mostby t + t * s, d, fo, ys ++ [s], rfl, fun b' o' e => ?_, ?_, nfo, ?_, by rw [List.length_append, hl]; rfl, hi2, hs.2.2.1, fun zs hz => ?_⟩
            · rw [upd_ne (ne_of_none e nfo)]; exact sm _ _ e
            · rw [upd_ne (ne_of hd hf (by intro z; cases z))]; exact hd
            · rw [upd_same, List.map_append]; rfl
            · rw [List.append_assoc]
              refine hG _ ?_
              rw [hdr]
              exact ⟨hs, hz⟩
        · obtain ⟨x6, x7, x8, r, d, fo, ys, rfl, sm, hd, nfo, hf, hl, hi, hr0, hG⟩ := h
          have hg := hG [] (by
            rw [List.drop_of_length_le (by rw [tl, List.length_map]; exact Nat.le_refl _)]
            trivial)
          rw [List.append_nil] at hg
          exact ⟨_, rfl, fo, _, rfl, .inl ⟨.inl (.inl hf), fun l hl => q2 hgt _ l ys (sm.trans (same_upd hl)) hg upd_same⟩⟩
end
end K4

set_option Elab.async false
set_option linter.all false
set_option maxRecDepth 100000
set_option maxHeartbeats 1000000
namespace K4
open PySem PySem.Spec PyProof.Rows L2
abbrev sCountBy : Stmt := topS 15
theorem scCountBy : FnScope ["stream", "words", "own", "alone", "name"] ["stream", "words"] (defScope sCountBy) := ⟨rfl, rfl, rfl, by decide +kernel, rfl, by decide +kernel, by decide +kernel⟩
theorem Sm.kp1 {s c : Addr} {n : Int} {H : Hp} (h : Sm s c n H) {p : Addr} (e : H p = none) (o : HO) : Sm s c n (upd H p o) := h.same (same_upd e)
theorem Kp.free {s c D : Addr} {H H' : Hp} (k : Kp s c H H') (h1 : D ≠ s) (h2 : D ≠ c) (e : H' D = none) : H D = none := by
  cases h : H D with
  | none => rfl
  | some o => rw [k _ _ h1 h2 h] at e; cases e
theorem Kp.put {s c D : Addr} {H H' : Hp} {o : HO} (k : Kp s c H H') (e : H D = none) : Kp s c H (upd H' D o) := fun b x b1 b2 h => by
  rw [upd_ne (ne_of_none h e)]
  exact k b x b1 b2 h
theorem Sm.put {s c D : Addr} {n : Int} {H : Hp} {o : HO} (h : Sm s c n H) (h1 : D ≠ s) (h2 : D ≠ c) : Sm s c n (upd H D o) := by
  obtain ⟨ne, cells, a, b, d, e1, e2, e3, e4⟩ := h
  exact ⟨ne, cells, a, b, d, by rw [upd_ne h1.symm]; exact e1, by rw [upd_ne h2.symm]; exact e2, e3, e4⟩

section
variable {P : Program} {w : World} {K : PySem.W.Frag} {mg : Str → Option Value} {base : Heap}
/-- the drawing's text -/
structure TxS (K : PySem.W.Frag) (mg : Str → Option Value) where
  len : mg "len" = none
  rng : mg "range" = none
  fM : Addr
  fT : Addr
  fO : Addr
  dM : FuncData
  dT : FuncData
  dO : FuncData
  FM : Fun K "_law_mixed" "_law_mixed" sMixed fM dM
  FT : Fun K "_law_take" "_law_take" sTake fT dT
  FO : Fun K "_law_of" "_law_of" sOf fO dO
  bM : Binds K dM ["drawn", "k"] []
  bT : Binds K dT ["stream", "many"] []
  bO : Binds K dO ["stream", "some"] []
  gM : mg "_law_mixed" = some (.ref fM)
  gT : mg "_law_take" = some (.ref fT)
  gO : mg "_law_of" = some (.ref fO)
def spOf : Sp := fun vs H Q _ => ∃ (s c p : Addr) (n : Int) (xs : List V), vs = [.ref s, .ref p] ∧ n ≤ 900000 ∧ Sm s c n H ∧ p ≠ s ∧ p ≠ c ∧ H p = some (.lst xs) ∧ xs ≠ [] ∧ xs.length ≤ 1000 ∧
  ∀ (y : V) (H' : Hp), y ∈ xs → Kp s c H H' → Sm s c (n + 1) H' → Q y H'
theorem ok_of (T : TxS K mg) : FnOk P w K mg base CX0 3 T.fO T.dO ["stream", "some"] spOf := by
  have GT : FnOk P w K mg base CX0 2 T.fT T.dT ["stream", "many"] spTake := ok_take T.FT T.FM T.bM T.gM
  refine T.FO.ok scOf (fun vs H Q E h => ?_) (fun cdv A outer s0 H vs Q E hr h => ?_)
  · obtain ⟨s, c, p, n, xs, rfl, _⟩ := h
    rfl
  · obtain ⟨s, c, p, n, xs, rfl, hn, hS, p1, p2, hp, ne, hz, q⟩ := h
    refine ⟨_, pss_one (ps_ret (pe_ix ix_list (pv 1) (pe_call GT hr (by rfl) T.gT T.FT.kp T.bT .nil pass0 (pa_cons (pv 0) (pa_cons (pe_callB call_len_seq (by rfl) T.len (by decide +kernel) (pa_cons (pv 1) pa_nil)) pa_nil))) (fun _ _ => rfl))), ?_⟩
    have hl : 0 < xs.length := List.length_pos_iff.mpr ne
    refine ⟨_, rfl, _, rfl, _, rfl, p, xs, rfl, .inl (.inl (.inl hp)), s, c, _, n, rfl, by omega, by omega, hn, hS, fun r H' r0 r1 kp sm => ?_⟩
    obtain ⟨j, rfl⟩ := Int.eq_ofNat_of_zero_le r0
    have hj : j < xs.length := by omega
    exact ⟨p, xs, _, xs[j], rfl, rfl, .inl (.inl (kp _ _ p1 p2 hp)), at_of rfl (List.getElem?_eq_getElem hj), q _ _ (List.getElem_mem hj) kp sm⟩
def spCountBy : Sp := fun vs H Q _ => ∃ (s c p : Addr) (n : Int) (ws : List Str), vs = [.ref s, .ref p] ∧ n + 30 ≤ 900000 ∧ Sm s c n H ∧ p ≠ s ∧ p ≠ c ∧ H p = some (.lst (ws.map V.str)) ∧ ws.length ≤ 3 ∧ ws.Nodup ∧
  ∀ (v : V) (cn : Cnt) (H' : Hp), IsC H' v cn → CntOk ws cn → Kp s c H H' → Sm s c (n + 30) H' → Q v H'
theorem ok_countBy {f : Addr} {fd : FuncData} (F : Fun K "_law_count_by" "_law_count_by" sCountBy f fd) (T : TxS K mg) (mS : mg "sorted" = none) (mT : mg "tuple" = none) : FnOk P w K mg base CX0 4 f fd ["stream", "words"] spCountBy := by
  have GT : FnOk P w K mg base CX0 2 T.fT T.dT ["stream", "many"] spTake := ok_take T.FT T.FM T.bM T.gM
  have GO : FnOk P w K mg base CX0 3 T.fO T.dO ["stream", "some"] spOf := ok_of T
  refine F.ok scCountBy (fun vs H Q E h => ?_) (fun cdv A outer s0 H vs Q E hr h => ?_)
  · obtain ⟨s, c, p, n, ws, rfl, _⟩ := h
    rfl
  · obtain ⟨s, c, p, n, ws, rfl, hn, hS, p1, p2, hp, hl, hnd, q⟩ := h
    have hr2 := hr.mono (show 2 ≤ 3 by decide)
    refine ⟨_, pss_cons (ps_set (i := 2) scCountBy.nd rfl (.inl rfl) (pe_callB cr_sortedS (by rfl) mS (by decide +kernel) (pa_cons
          (pe_lc (own := [("name", 4)]) (g := gName 4) rfl scCountBy.nd (pi_list (pv 1)) (blkOk_by (N := ["stream", "words", "own", "alone", "name"]) (sc := defScope sCountBy) (by decide +kernel))
            (fun _ _ _ _ _ => pg_name (i := 4) scCountBy.nd rfl (.inl rfl)) (fun _ _ _ _ _ => pts_one (pt_cmpR op_gt (pe_call GT hr2 (by rfl) T.gT T.FT.kp T.bT .nil pass0 (pa_cons (pv 0) (pa_cons pe_int pa_nil))) pe_int (nomark _))) (fun _ _ _ _ _ => pv 4)) pa_nil)))
      (pss_cons (ps_set (i := 3) scCountBy.nd rfl (.inl rfl) (pe_call GO hr (by rfl) T.gO T.FO.kp T.bO .nil pass0 (pa_cons (pv 0) (pa_cons (pe_lst (pa_cons pe_int (pa_cons pe_int (pa_cons (pe_un un_neg pe_int) (pa_cons pe_int (pa_cons (pe_un un_neg pe_int)
          (pa_cons (pe_op op_sub (pe_call GT hr2 (by rfl) T.gT T.FT.kp T.bT .nil pass0 (pa_cons (pv 0) (pa_cons pe_int pa_nil))) pe_int) (pa_cons (pe_op op_sub (pe_call GT hr2 (by rfl) T.gT T.FT.kp T.bT .nil pass0 (pa_cons (pv 0) (pa_cons pe_int pa_nil))) pe_int) pa_nil)))))))) pa_nil))))
      (pss_one (ps_ret (pe_tup (pa_cons (pv 3) (pa_cons (pe_callTy call_tuple_of (by rfl) mT (by decide +kernel) (pa_cons
          (pe_lc (own := [("name", 4)]) (g := gName 4) (tt := tYes) rfl scCountBy.nd (pi_list (pv 2)) (blkOk_by (N := ["stream", "words", "own", "alone", "name"]) (sc := defScope sCountBy) (by decide +kernel))
            (fun _ _ _ _ _ => pg_name (i := 4) scCountBy.nd rfl (.inl rfl)) (fun _ _ _ _ _ => pts_nil)
            (fun _ _ _ _ _ => pe_tup (pa_cons (pv 4) (pa_cons (pe_call GO hr (by rfl) T.gO T.FO.kp T.bO .nil pass0 (pa_cons (pv 0) (pa_cons (pe_lst (pa_cons pe_int (pa_cons pe_int (pa_cons pe_int (pa_cons pe_int pa_nil))))) pa_nil))) pa_nil)))) pa_nil)) pa_nil)))))), ?_⟩
    refine ⟨_, rfl, p, rfl, ⟨_, .inl (.inl hp)⟩, fun D nD => ?_⟩
    have dn := hS.ns nD
    refine lc_list (K := K) (a := p) (xs := ws.map V.str) (fun i H' => Kp s c H H' ∧ Sm s c (n + (i : Nat)) H' ∧ ∃ zs : List Str, H' D = some (.lst (zs.map V.str)) ∧ zs.Sublist (ws.take i)) ⟨Kp.new nD, (hS.kp1 nD _).le (by omega), [], upd_same, List.Sublist.slnil⟩
      (fun i H' hi h => .inl (.inl (h.1 _ _ p1 p2 hp))) (fun i x H' hx h => ?_) (fun H' h => ?_)
    · obtain ⟨k1, m1, zs, hD, sub⟩ := h
      obtain ⟨y, hy, rfl⟩ : ∃ y, ws[i]? = some y ∧ x = .str y := by
        rw [List.getElem?_map] at hx
        cases e : ws[i]? with
        | none => rw [e] at hx; cases hx
        | some y => rw [e] at hx; cases hx; exact ⟨y, rfl, rfl⟩
      have hi : i < ws.length := (List.getElem?_eq_some_iff.mp hy).1
      refine ⟨rfl, ?_⟩
      refine ⟨_, rfl, s, c, 4, _, rfl, by decide, by decide, by omega, m1, fun r H1 r0 r1 k2 m2 => ?_⟩
      refine ⟨_, _, rfl, rfl, _, rfl, ?_⟩
      rw [take_snoc hy]
      refine ite2 (fun hx => ?_) (fun hx => ?_)
      · refine ⟨_, rfl, _, k2 _ _ dn.1 dn.2 hD, ?_, ?_⟩
        · rw [List.length_map]
          have := sub.length_le
          rw [List.length_take] at this
          exact lt_size (by omega)
        · refine ⟨(k1.trans k2).put nD, (m2.put dn.1 dn.2).le (by omega), zs ++ [y], ?_, ?_⟩
          · rw [upd_same, List.map_append]; rfl
          · exact sub.append (List.Sublist.refl _)
      · refine ⟨k1.trans k2, m2.le (by omega), zs, k2 _ _ dn.1 dn.2 hD, ?_⟩
        exact sub.trans (List.sublist_append_left _ _)
    · obtain ⟨k1, m1, zs, hD, sub⟩ := h
      rw [List.take_of_length_le (by rw [List.length_map]; exact Nat.le_refl _)] at sub
      rw [List.length_map] at m1
      have zl := sub.length_le
      refine ⟨D, zs, rfl, .inl (.inl hD), by omega, fun ys p3 pm srt np3 => ?_⟩
      have k2 := k1.trans (Kp.new (o := .lst (ys.map V.str)) np3)
      have m2 := m1.kp1 np3 (.lst (ys.map V.str))
      have pn3 := m1.ns np3
      have hp3 : (upd H' p3 (.lst (ys.map V.str))) p3 = some (.lst (ys.map V.str)) := upd_same
      revert k2 m2 hp3
      generalize upd H' p3 (.lst (ys.map V.str)) = H2
      intro k2 m2 hp3
      have ynd : ys.Nodup := pm.nodup_iff.mpr (sub.nodup hnd)
      have yin : ∀ y ∈ ys, y ∈ ws := fun y hy => sub.subset (pm.subset hy)
      have yl : ys.length ≤ 3 := by rw [pm.length_eq]; omega
      refine ⟨_, rfl, _, rfl, _, rfl, _, rfl, s, c, 41, _, rfl, by decide, by decide, by omega, m2, fun r H3 r0 r1 k3 m3 => ?_⟩
      refine ⟨_, _, rfl, rfl, _, rfl, s, c, 7, _, rfl, by decide, by decide, by omega, m3, fun r' H3' r0' r1' k3' m3' => ?_⟩
      refine ⟨_, _, rfl, rfl, by show 7 ≤ sizeLine; exact le_size (by decide), fun L nL => ?_⟩
      have hp4 := (Kp.new (s := s) (c := c) (o := .lst [.int 0, .int 1, .int (-1), .int 20, .int (-20), .int (r - 20), .int (r' - 3)]) nL) _ _ pn3.1 pn3.2 (k3' _ _ pn3.1 pn3.2 (k3 _ _ pn3.1 pn3.2 hp3))
      have k4 := k2.trans (k3.trans (k3'.trans (Kp.new (o := .lst [.int 0, .int 1, .int (-1), .int 20, .int (-20), .int (r - 20), .int (r' - 3)]) nL)))
      have m4 := m3'.kp1 nL (.lst [.int 0, .int 1, .int (-1), .int 20, .int (-20), .int (r - 20), .int (r' - 3)])
      have ln := m3'.ns nL
      refine ⟨s, c, L, _, _, rfl, by omega, m4, ln.1, ln.2, upd_same, List.cons_ne_nil _ _, (by show 7 ≤ 1000; decide), fun y H5 hy k5 m5 => ?_⟩
      obtain ⟨a, rfl, a0, a1⟩ : ∃ a : Int, y = .int a ∧ -20 ≤ a ∧ a ≤ 20 := by
        simp only [List.mem_cons, List.not_mem_nil, or_false] at hy
        rcases hy with h | h | h | h | h | h | h <;> subst h
        · exact ⟨_, rfl, by decide, by decide⟩
        · exact ⟨_, rfl, by decide, by decide⟩
        · exact ⟨_, rfl, by decide, by decide⟩
        · exact ⟨_, rfl, by decide, by decide⟩
        · exact ⟨_, rfl, by decide, by decide⟩
        · exact ⟨_, rfl, by omega, by omega⟩
        · exact ⟨_, rfl, by omega, by omega⟩
      have hp5 := k5 _ _ pn3.1 pn3.2 hp4
      have k6 := k4.trans k5
      refine ⟨_, rfl, _, rfl, p3, rfl, ⟨_, .inl (.inl hp5)⟩, fun D2 nD2 => ?_⟩
      have d2n := m5.ns nD2
      have nD2H : H D2 = none := k6.free d2n.1 d2n.2 nD2
      refine lc_list (K := K) (a := p3) (xs := ys.map V.str) (fun i H' => Kp s c H5 H' ∧ Sm s c (n + 12 + (i : Nat)) H' ∧ ∃ (vs : List V) (ts : Tms), H' D2 = some (.lst vs) ∧ AllT H' vs ts ∧ nms ts = ys.take i ∧ ∀ p ∈ ts, 1 ≤ p.2 ∧ p.2 ≤ 3)
        ⟨Kp.new nD2, (m5.kp1 nD2 _).le (by omega), [], [], upd_same, ⟨rfl, fun i p e => by cases e⟩, rfl, fun p h => by cases h⟩ (fun i H' hi h => .inl (.inl (h.1 _ _ pn3.1 pn3.2 hp5))) (fun i x H' hx h => ?_) (fun H' h => ?_)
      · obtain ⟨k7, m7, vs, ts, hD2, hT, hN, hLo⟩ := h
        obtain ⟨y, hy, rfl⟩ : ∃ y, ys[i]? = some y ∧ x = .str y := by
          rw [List.getElem?_map] at hx
          cases e : ys[i]? with
          | none => rw [e] at hx; cases hx
          | some y => rw [e] at hx; cases hx; exact ⟨y, rfl, rfl⟩
        have hi : i < ys.length := (List.getElem?_eq_some_iff.mp hy).1
        refine ⟨rfl, ?_⟩
        refine ⟨_, rfl, _, rfl, by show 4 ≤ sizeLine; exact le_size (by decide), fun L8 nL8 => ?_⟩
        have l8n := m7.ns nL8
        have s78 : Same H' (upd H' L8 (.lst [.int 1, .int 1, .int 2, .int 3])) := same_upd nL8
        refine ⟨s, c, L8, _, _, rfl, by omega, m7.same s78, l8n.1, l8n.2, upd_same, List.cons_ne_nil _ _, (by show 4 ≤ 1000; decide), fun y8 H8 hy8 k8' m8 => ?_⟩
        have k8 := (Kp.of_same s78).trans k8'
        obtain ⟨z, rfl, z0, z1⟩ : ∃ z : Int, y8 = .int z ∧ 1 ≤ z ∧ z ≤ 3 := by
          simp only [List.mem_cons, List.not_mem_nil, or_false] at hy8
          rcases hy8 with h | h | h | h <;> subst h <;> exact ⟨_, rfl, by decide, by decide⟩
        refine ⟨by show 2 ≤ sizeLine; exact le_size (by decide), fun u nu => ?_⟩
        have un := m8.ns nu
        have hD3 := k8 _ _ d2n.1 d2n.2 hD2
        have du : D2 ≠ u := ne_of_none hD3 nu
        have len : vs.length = i := by
          rw [hT.1]
          have : (nms ts).length = (ys.take i).length := by rw [hN]
          rw [nms, List.length_map, List.length_take] at this
          omega
        refine ⟨_, by rw [upd_ne du]; exact hD3, by rw [len]; exact lt_size (by omega), ?_, ?_, _, ts ++ [(y, z)], upd_same, ?_, ?_, fun p hp => ?_⟩
        · refine Kp.put ((k7.trans k8).trans (Kp.new nu)) nD2
        · exact ((m8.kp1 nu _).put d2n.1 d2n.2).le (by omega)
        · have kt : Kt H' (upd (upd H8 u (.tup [.str y, .int z])) D2 (.lst (vs ++ [V.ref u]))) := ((Kt.of_kp m7 k8).trans (.of_same (same_upd nu))).trans (Kt.upd fun xs e => by
            rw [upd_ne du, hD3] at e; cases e)
          have hu : (upd (upd H8 u (.tup [.str y, .int z])) D2 (.lst (vs ++ [V.ref u]))) u = some (.tup [.str y, .int z]) := by rw [upd_ne (fun e => du e.symm), upd_same]
          have hT2 := hT.kt kt
          refine ⟨by rw [List.length_append, List.length_append, hT.1]; rfl, fun j p e => ?_⟩
          by_cases hj : j < ts.length
          · rw [List.getElem?_append_left hj] at e
            obtain ⟨v, e1, e2⟩ := hT2.2 j p e
            exact ⟨v, by rw [List.getElem?_append_left (by rw [hT.1]; exact hj)]; exact e1, e2⟩
          · rw [List.getElem?_append_right (by omega)] at e
            rw [List.getElem?_append_right (by rw [hT.1]; omega), hT.1]
            generalize j - ts.length = m at e
            cases m with
            | zero => cases e; exact ⟨_, rfl, u, rfl, hu⟩
            | succ m => cases e
        · rw [nms, List.map_append, take_snoc hy]
          show nms ts ++ [y] = _
          rw [hN]
        · rcases List.mem_append.mp hp with h | h
          · exact hLo p h
          · rcases List.mem_cons.mp h with h | h
            · subst h; exact ⟨z0, z1⟩
            · cases h
      · obtain ⟨k7, m7, vs, ts, hD2, hT, hN, hLo⟩ := h
        rw [List.take_of_length_le (by rw [List.length_map]; exact Nat.le_refl _)] at hN
        rw [List.length_map] at m7
        refine ⟨D2, vs, rfl, .inl ⟨.inl (.inl hD2), fun t nt => ?_⟩⟩
        refine ⟨by show 2 ≤ sizeLine; exact le_size (by decide), fun a2 na2 => ?_⟩
        have m8 := m7.kp1 nt (.tup vs)
        have sT : Same H' (upd H' t (.tup vs)) := same_upd nt
        have sA : Same (upd H' t (.tup vs)) (upd (upd H' t (.tup vs)) a2 (.tup [.int a, .ref t])) := same_upd na2
        refine q _ (a, ts) _ ⟨a2, t, vs, rfl, upd_same, sA _ _ upd_same, hT.kt ((Kt.of_same sT).trans (.of_same sA))⟩ ⟨⟨by show (nms ts).Nodup; rw [hN]; exact ynd, hLo, ?_⟩, fun k hk => ?_, ?_⟩ (k6.trans (k7.trans ((Kp.of_same sT).trans (.of_same sA)))) (((m8.same sA).le (by omega)))
        · have : (nms ts).length = ys.length := by rw [hN]
          rw [nms, List.length_map] at this
          show ts.length ≤ 3
          omega
        · have hk' : k ∈ nms ts := hk
          rw [hN] at hk'
          exact yin k hk'
        · show -100 ≤ a ∧ a ≤ 100
          omega
end
end K4

set_option Elab.async false
set_option linter.all false
set_option maxRecDepth 100000
set_option maxHeartbeats 1000000
/-! xs != [] of a list of anything. -/
namespace KT4
open PySem PySem.Spec PyProof.Rows L2
section
variable {X : Cx}
theorem op_ne_nil (hu : X.A.units < cLine) : OpR X (compareOp .NotEq) (fun x y H Q => ∃ a b xs, x = .ref a ∧ y = .ref b ∧ SqL X.K H a xs ∧ SqL X.K H b [] ∧ Q (.bl (!xs.isEmpty)) H) := by
  intro pins s σ H x y v u Q I rx ry h
  obtain ⟨a, b, xs, rfl, rfl, ha, hb, q⟩ := h
  cases rx
  cases ry
  obtain ⟨its, r1, p1, _⟩ := I.list ha
  obtain ⟨its2, r2, p2, _⟩ := I.list hb
  cases r2
  have hl := r1.length
  cases xs with
  | nil =>
    cases r1
    have := SeqAt.RcNeAt.lists (e := fun _ => true) p1.isList p2.isList rfl hu (fun j j1 j2 => absurd j2 (Nat.not_lt_zero _))
    exact this _ _ _ _ ⟨.bl false, H, I, rfl, q⟩
  | cons x r =>
    have hs : (its.toArray.size != ([] : List Value).toArray.size) = true := by
      rw [List.size_toArray, ← hl]
      simp
    have := SeqAt.RcNeAt.lists_lengths p1.isList p2.isList hs hu
    exact this _ _ _ _ ⟨.bl true, H, I, rfl, q⟩
end
end KT4

set_option Elab.async false
set_option linter.all false
set_option maxRecDepth 100000
set_option maxHeartbeats 1000000
namespace K4
open PySem PySem.Spec PyProof.Rows L2
abbrev sNear : Stmt := topS 16
theorem scNear : FnScope ["stream", "words", "whole", "way", "alone", "terms", "at", "name", "times"] ["stream", "words", "whole"] (defScope sNear) := ⟨rfl, rfl, rfl, by decide +kernel, rfl, by decide +kernel, by decide +kernel⟩
theorem AllT.eraseIdx {H : Hp} : ∀ {ts : Tms} {vs : List V}, AllT H vs ts → ∀ k : Nat, AllT H (vs.take k ++ vs.drop (k + 1)) (ts.take k ++ ts.drop (k + 1)) := fun {ts} {vs} h k => by
  refine ⟨by simp only [List.length_append, List.length_take, List.length_drop, h.1], fun i p e => ?_⟩
  by_cases hi : i < (ts.take k).length
  · rw [List.getElem?_append_left hi] at e
    have hi2 : i < (vs.take k).length := by rw [List.length_take, h.1, ← List.length_take]; exact hi
    rw [List.getElem?_append_left hi2]
    rw [List.length_take] at hi
    have ik : i < k := by omega
    rw [List.getElem?_take_of_lt ik] at e ⊢
    exact h.2 i p e
  · have e1 : (vs.take k).length = (ts.take k).length := by rw [List.length_take, List.length_take, h.1]
    rw [List.getElem?_append_right (by omega)] at e
    rw [List.getElem?_append_right (by omega), e1]
    rw [List.getElem?_drop] at e ⊢
    exact h.2 _ p e
theorem cutV_take (vs : List V) {j : Nat} (h : j ≤ vs.length) : cutV vs none (some (j : Int)) = vs.take j := by
  unfold cutV
  rw [HT.sIx_none, HT.sIx_nat, Nat.min_eq_left h]
  rfl
theorem cutV_drop (vs : List V) {j : Nat} (h : j ≤ vs.length) : cutV vs (some (j : Int)) none = vs.drop j := by
  unfold cutV
  rw [HT.sIx_none, HT.sIx_nat, Nat.min_eq_left h]
  exact List.take_of_length_le (by rw [List.length_drop]; exact Nat.le_refl _)
theorem good_sub {ts us : Tms} (g : Good ts) (h : us.Sublist ts) : Good us :=
  ⟨List.Sublist.nodup (show (us.map (·.1)).Sublist (ts.map (·.1)) from h.map _) g.nd, fun p hp => g.lo p (h.subset hp), Nat.le_trans h.length_le g.few⟩
section
variable {P : Program} {w : World} {K : PySem.W.Frag} {mg : Str → Option Value} {base : Heap}
def spNear : Sp := fun vs H Q _ => ∃ (s c p : Addr) (n : Int) (v : V) (cn : Cnt) (ws : List Str), vs = [.ref s, .ref p, v] ∧ n + 60 ≤ 900000 ∧ Sm s c n H ∧ p ≠ s ∧ p ≠ c ∧ H p = some (.lst (ws.map V.str)) ∧ ws.length ≤ 3 ∧ ws.Nodup ∧ IsC H v cn ∧ CntOk ws cn ∧
  ∀ (v' : V) (cn' : Cnt) (H' : Hp), IsC H' v' cn' → CntOk ws cn' → Kp s c H H' → Sm s c (n + 60) H' → Q v' H'
theorem ok_near {f fC : Addr} {fd dC : FuncData} (F : Fun K "_law_near_by" "_law_near_by" sNear f fd) (FC : Fun K "_law_count_by" "_law_count_by" sCountBy fC dC) (bC : Binds K dC ["stream", "words"] []) (gC : mg "_law_count_by" = some (.ref fC))
    (T : TxS K mg) (mS : mg "sorted" = none) (mT : mg "tuple" = none) (mMax : mg "max" = none) (mMin : mg "min" = none) : FnOk P w K mg base CX0 5 f fd ["stream", "words", "whole"] spNear := by
  have GT : FnOk P w K mg base CX0 2 T.fT T.dT ["stream", "many"] spTake := ok_take T.FT T.FM T.bM T.gM
  have GO : FnOk P w K mg base CX0 3 T.fO T.dO ["stream", "some"] spOf := ok_of T
  have GC : FnOk P w K mg base CX0 4 fC dC ["stream", "words"] spCountBy := ok_countBy FC T mS mT
  refine F.ok scNear (fun vs H Q E h => ?_) (fun cdv A outer s0 H vs Q E hr h => ?_)
  · obtain ⟨s, c, p, n, v, cn, ws, rfl, _⟩ := h
    rfl
  · obtain ⟨s, c, p, n, v, cn, ws, rfl, hn, hS, p1, p2, hp, hl, hnd, hC, hO, q⟩ := h
    have hr2 := hr.mono (show 2 ≤ 4 by decide)
    have hr3 := hr.mono (show 3 ≤ 4 by decide)
    have hu0 := hr.units0
    have hfew := hO.good.few
    refine ⟨_, (pss_cons (ps_set (i := 3) scNear.nd rfl (.inl rfl) (pe_call GT hr2 (by rfl) T.gT T.FT.kp T.bT .nil pass0 (pa_cons (pv 0) (pa_cons pe_int pa_nil))))
      (pss_cons (ps_if (pt_cmpR op_eq (pv 3) pe_int (nomark _)) (pss_one (ps_ret (pe_call GC hr (by rfl) gC FC.kp bC .nil pass0 (pa_cons (pv 0) (pa_cons (pv 1) pa_nil))))) pss_nil)
      (pss_cons (ps_set (i := 4) scNear.nd rfl (.inl rfl) (pe_callB (call_max2 rfl) (by rfl) mMax (by decide +kernel) (pa_cons (pe_un un_neg pe_int) (pa_cons (pe_callB (call_min2 rfl) (by rfl) mMin (by decide +kernel) (pa_cons pe_int (pa_cons (pe_op op_add (pe_ix ix_tup (pv 2) pe_int (fun _ _ => rfl)) (pe_call GO hr3 (by rfl) T.gO T.FO.kp T.bO .nil pass0 (pa_cons (pv 0) (pa_cons (pe_lst (pa_cons pe_int (pa_cons pe_int (pa_cons (pe_un un_neg pe_int) (pa_cons pe_int (pa_cons (pe_un un_neg pe_int) (pa_cons pe_int (pa_cons (pe_un un_neg pe_int) (pa_cons pe_int (pa_cons (pe_un un_neg pe_int) (pa_cons pe_int (pa_cons (pe_un un_neg pe_int) pa_nil)))))))))))) pa_nil)))) pa_nil))) pa_nil))))
      (pss_cons (ps_setLc (i := 5) (own := [("name", 7), ("times", 8)]) (g := gTup K 2 (gCons (gName 7) (gCons (gName 8) gNil))) (tt := tYes) rfl scNear.nd rfl rfl (sw_true rfl rfl rfl (by decide +kernel)) (pi_tup (pe_ix ix_tup (pv 2) pe_int (fun _ _ => rfl))) (blkOk_by (N := ["stream", "words", "whole", "way", "alone", "terms", "at", "name", "times"]) (sc := (defScope sNear)) (by decide +kernel)) (fun _ _ _ _ _ => (pg_tup rfl (pgs_cons (pg_name (i := 7) scNear.nd rfl (.inl rfl)) (pgs_cons (pg_name (i := 8) scNear.nd rfl (.inl rfl)) pgs_nil)))) (fun _ _ _ _ _ => pts_nil) (fun _ _ _ _ _ => (pe_tup (pa_cons (pv 7) (pa_cons (pe_ifExp (pt_cmpR op_gt (pe_call GT hr2 (by rfl) T.gT T.FT.kp T.bT .nil pass0 (pa_cons (pv 0) (pa_cons pe_int pa_nil))) pe_int (nomark _)) (pv 8) (pe_op op_add pe_int (pe_call GT hr2 (by rfl) T.gT T.FT.kp T.bT .nil pass0 (pa_cons (pv 0) (pa_cons pe_int pa_nil))))) pa_nil)))))
      (Evl.pss_cut (ps_if (PW.pt (pw_and (pt_cmpR op_eq (pv 3) pe_int (nomark _)) (pw_and1 (pt_cmpR (KT4.op_ne_nil hu0) (pv 5) (pe_lst pa_nil) (nomark _))))) (pss_cons (ps_set (i := 6) scNear.nd rfl (.inl rfl) (pe_call GT hr2 (by rfl) T.gT T.FT.kp T.bT .nil pass0 (pa_cons (pv 0) (pa_cons (pe_callB call_len_seq (by rfl) T.len (by decide +kernel) (pa_cons (pv 5) pa_nil)) pa_nil))))
      (pss_one (ps_set (i := 5) scNear.nd rfl (.inl rfl) (pe_op op_cat (pe_slice sl_list (pv 5) po_none (po_some (pv 6))) (pe_slice sl_list (pv 5) (po_some (pe_op op_add (pv 6) pe_int)) po_none))))) pss_nil)
      (pss_one (ps_ret (pe_tup (pa_cons (pv 4) (pa_cons (pe_callTy call_tuple_of (by rfl) mT (by decide +kernel) (pa_cons (pv 5) pa_nil)) pa_nil)))))))))), ?_⟩
    refine ⟨_, rfl, s, c, 4, _, rfl, by decide, by decide, by omega, hS, fun way H1 w0 w1 k1 m1 => ?_⟩
    have hp1 := k1 _ _ p1 p2 hp
    have hC1 := hC.kt (Kt.of_kp hS k1)
    refine ⟨_, rfl, rfl, _, rfl, ite2 (fun hw => ?_) (fun hw => ?_)⟩
    · exact ⟨_, rfl, _, rfl, s, c, p, _, ws, rfl, by omega, m1, p1, p2, hp1, hl, hnd, fun v' cn' H' hC' hO' k' m' => q v' cn' H' hC' hO' (k1.trans k') (m'.le (by omega))⟩
    obtain ⟨a, t, ts, rfl, ha, ht, hT⟩ := hC1
    refine ⟨_, rfl, _, rfl, a, _, _, .int cn.1, rfl, rfl, .inl (.inl ha), rfl, ?_⟩
    refine ⟨_, rfl, _, rfl, _, rfl, _, rfl, _, rfl, _, rfl, by show 11 ≤ sizeLine; exact le_size (by decide), fun L nL => ?_⟩
    have ln := m1.ns nL
    have s1 : Same H1 (upd H1 L (.lst [.int 0, .int 1, .int (-1), .int 2, .int (-2), .int 11, .int (-11), .int 12, .int (-12), .int 24, .int (-24)])) := same_upd nL
    refine ⟨s, c, L, _, _, rfl, by omega, m1.same s1, ln.1, ln.2, upd_same, List.cons_ne_nil _ _, (by show 11 ≤ 1000; decide), fun y H2 hy k2' m2 => ?_⟩
    obtain ⟨z, rfl⟩ : ∃ z : Int, y = .int z := by
      simp only [List.mem_cons, List.not_mem_nil, or_false] at hy
      rcases hy with h | h | h | h | h | h | h | h | h | h | h <;> exact ⟨_, h⟩
    have k2 : Kp s c H1 H2 := (Kp.of_same s1).trans k2'
    clear k2' s1
    refine ⟨_, _, rfl, rfl, _, _, rfl, _, _, rfl, ?_⟩
    obtain ⟨A0, hA, hA0, hA1⟩ : ∃ A0 : Int, (if (if (cn.1 + z) < 20 then (cn.1 + z) else 20) > -20 then (if (cn.1 + z) < 20 then (cn.1 + z) else 20) else -20) = A0 ∧ -20 ≤ A0 ∧ A0 ≤ 20 := by
      refine ⟨_, rfl, ?_, ?_⟩
      · split <;> (try split) <;> omega
      · split <;> (try split) <;> omega
    show ∃ v, _
    have kt2 := Kt.of_kp m1 k2
    have ha2 := kt2 _ _ ha
    have ht2 := kt2 _ _ ht
    have hT2 := hT.kt kt2
    refine ⟨_, rfl, a, _, _, .ref t, rfl, rfl, .inl (.inl ha2), rfl, t, rfl, ⟨_, .inl (.inl ht2)⟩, fun D nD => ?_⟩
    have dn := m2.ns nD
    refine lc_tup (K := K) (a := t) (xs := ts) (fun i H' => Kp s c H2 H' ∧ Sm s c (n + 3 + 2 * (i : Nat)) H' ∧ ∃ (vs : List V) (us : Tms), H' D = some (.lst vs) ∧ AllT H' vs us ∧ nms us = (nms cn.2).take i ∧ ∀ p ∈ us, 1 ≤ p.2 ∧ p.2 ≤ 3)
      ⟨Kp.new nD, (m2.kp1 nD _).le (by omega), [], [], upd_same, ⟨rfl, fun i p e => by cases e⟩, rfl, fun p h => by cases h⟩ (fun i H' hi h => .inl (.inl (Kt.of_kp m2 h.1 _ _ ht2))) (fun i x H' hx h => ?_) (fun H' h => ?_)
    · obtain ⟨k7, m7, vs, us, hD2, hU, hN, hLo⟩ := h
      obtain ⟨pp, hpp, b, rfl, hb⟩ := hT2.at hx
      have hb7 := Kt.of_kp m2 k7 _ _ hb
      have hlo := hO.good.lo pp (List.mem_of_getElem? hpp)
      have hi : i < cn.2.length := (List.getElem?_eq_some_iff.mp hpp).1
      refine ⟨b, _, rfl, .inl (.inl hb7), rfl, _, _, rfl, _, _, rfl, rfl, rfl, ?_⟩
      have fin : ∀ (z : Int) (H8 : Hp) (k8 : Kp s c H' H8) (m8 : Sm s c (n + 3 + 2 * (i : Nat) + 2) H8), 1 ≤ z → z ≤ 3 → [V.str pp.1, V.int z].length ≤ sizeLine ∧ ∀ u, H8 u = none → ∃ acc, (upd H8 u (.tup [.str pp.1, .int z])) D = some (.lst acc) ∧ acc.length < sizeLine ∧
          (Kp s c H2 (upd (upd H8 u (.tup [.str pp.1, .int z])) D (.lst (acc ++ [V.ref u]))) ∧ Sm s c (n + 3 + 2 * ((i + 1 : Nat) : Int)) (upd (upd H8 u (.tup [.str pp.1, .int z])) D (.lst (acc ++ [V.ref u]))) ∧
            ∃ (vs : List V) (us : Tms), (upd (upd H8 u (.tup [.str pp.1, .int z])) D (.lst (acc ++ [V.ref u]))) D = some (.lst vs) ∧ AllT (upd (upd H8 u (.tup [.str pp.1, .int z])) D (.lst (acc ++ [V.ref u]))) vs us ∧ nms us = (nms cn.2).take (i + 1) ∧ ∀ p ∈ us, 1 ≤ p.2 ∧ p.2 ≤ 3) := fun z H8 k8 m8 z0 z1 => by
        refine ⟨by show 2 ≤ sizeLine; exact le_size (by decide), fun u nu => ?_⟩
        have un := m8.ns nu
        have hD3 := k8 _ _ dn.1 dn.2 hD2
        have du : D ≠ u := ne_of_none hD3 nu
        have len : vs.length = i := by
          rw [hU.1]
          have : (nms us).length = ((nms cn.2).take i).length := by rw [hN]
          rw [nms, List.length_map, List.length_take, nms, List.length_map] at this
          omega
        refine ⟨_, by rw [upd_ne du]; exact hD3, by rw [len]; exact lt_size (by omega), ?_, ?_, _, us ++ [(pp.1, z)], upd_same, ?_, ?_, fun p hp => ?_⟩
        · exact Kp.put ((k7.trans k8).trans (Kp.new nu)) nD
        · exact ((m8.kp1 nu _).put dn.1 dn.2).le (by omega)
        · have kt : Kt H' (upd (upd H8 u (.tup [.str pp.1, .int z])) D (.lst (vs ++ [V.ref u]))) := ((Kt.of_kp m7 k8).trans (.of_same (same_upd nu))).trans (Kt.upd fun xs e => by
            rw [upd_ne du, hD3] at e; cases e)
          have hu : (upd (upd H8 u (.tup [.str pp.1, .int z])) D (.lst (vs ++ [V.ref u]))) u = some (.tup [.str pp.1, .int z]) := by rw [upd_ne (fun e => du e.symm), upd_same]
          have hU2 := hU.kt kt
          refine ⟨by rw [List.length_append, List.length_append, hU.1]; rfl, fun j p e => ?_⟩
          by_cases hj : j < us.length
          · rw [List.getElem?_append_left hj] at e
            obtain ⟨v, e1, e2⟩ := hU2.2 j p e
            exact ⟨v, by rw [List.getElem?_append_left (by rw [hU.1]; exact hj)]; exact e1, e2⟩
          · rw [List.getElem?_append_right (by omega)] at e
            rw [List.getElem?_append_right (by rw [hU.1]; omega), hU.1]
            generalize j - us.length = m at e
            cases m with
            | zero => cases e; exact ⟨_, rfl, u, rfl, hu⟩
            | succ m => cases e
        · have hy : (nms cn.2)[i]? = some pp.1 := by rw [nms, List.getElem?_map, hpp]; rfl
          rw [nms, List.map_append, take_snoc hy]
          show nms us ++ [pp.1] = _
          rw [hN]
        · rcases List.mem_append.mp hp with h | h
          · exact hLo p h
          · rcases List.mem_cons.mp h with h | h
            · subst h; exact ⟨z0, z1⟩
            · cases h
      refine ⟨_, rfl, _, rfl, s, c, 3, _, rfl, by decide, by decide, by omega, m7, fun r H8 r0 r1 k8 m8 => ?_⟩
      refine ⟨_, _, rfl, rfl, _, rfl, ite2 (fun hr => ?_) (fun hr => ?_)⟩
      · exact ⟨_, rfl, fin pp.2 H8 k8 (m8.le (by omega)) hlo.1 hlo.2⟩
      · refine ⟨_, rfl, s, c, 3, _, rfl, by decide, by decide, by omega, m8, fun r' H9 r0' r1' k9 m9 => ?_⟩
        exact ⟨_, _, rfl, rfl, fin (1 + r') H9 (k8.trans k9) (m9.le (by omega)) (by omega) (by omega)⟩
    · obtain ⟨k7, m7, vs, us, hD2, hU, hN, hLo⟩ := h
      have tl : (nms cn.2).length = cn.2.length := by rw [nms, List.length_map]
      rw [List.take_of_length_le (by rw [tl, hT.1]; exact Nat.le_refl _)] at hN
      have ul : us.length = cn.2.length := by
        have : (nms us).length = (nms cn.2).length := by rw [hN]
        rw [nms, List.length_map, tl] at this
        exact this
      have gU : Good us := ⟨by rw [hN]; exact hO.good.nd, hLo, by omega⟩
      have hl2 := hT.1
      have m7' : Sm s c (n + 12) H' := m7.le (by omega)
      have kH := (k1.trans k2).trans k7
      refine ⟨fun σ' H3 => ∃ (x6 : Option V) (A : Int) (D' : Addr) (vs : List V) (us : Tms), σ' = [some (.ref s), some (.ref p), some (.ref a), some (.int way), some (.int A), some (.ref D'), x6, none, none] ∧ -20 ≤ A ∧ A ≤ 20 ∧ H3 D' = some (.lst vs) ∧ AllT H3 vs us ∧ Good us ∧ (∀ k ∈ nms us, k ∈ nms cn.2) ∧ Kp s c H H3 ∧ Sm s c (n + 20) H3, ?_, ?_⟩
      · have stay : ∃ (x6 : Option V) (A : Int) (D' : Addr) (vs' : List V) (us' : Tms), [some (V.ref s), some (.ref p), some (.ref a), some (.int way), some (.int A0), some (.ref D), none, none, none] = [some (.ref s), some (.ref p), some (.ref a), some (.int way), some (.int A), some (.ref D'), x6, none, none] ∧ -20 ≤ A ∧ A ≤ 20 ∧ H' D' = some (.lst vs') ∧ AllT H' vs' us' ∧ Good us' ∧ (∀ k ∈ nms us', k ∈ nms cn.2) ∧ Kp s c H H' ∧ Sm s c (n + 20) H' :=
          ⟨none, A0, D, vs, us, rfl, hA0, hA1, hD2, hU, gU, fun k hk => by rw [hN] at hk; exact hk, kH, m7'.le (by omega)⟩
        rw [← hA] at stay
        refine ⟨_, rfl, rfl, _, rfl, ite2 (fun hw1 => ?_) (fun hw1 => ?_)⟩
        · refine ⟨_, rfl, Nat.zero_le _, fun e0 ne0 => ?_⟩
          have s0 : Same H' (upd H' e0 (.lst [])) := same_upd ne0
          refine ⟨D, e0, vs, rfl, rfl, .inl (.inl (s0 _ _ hD2)), .inl (.inl upd_same), _, rfl, ?_⟩
          have m8 := m7'.same s0
          have k8 := kH.trans (Kp.of_same s0)
          have hD8 := s0 _ _ hD2
          have hU8 := hU.kt (Kt.of_same s0)
          clear stay
          revert m8 k8 hD8 hU8
          generalize upd H' e0 (.lst []) = H8
          intro m8 k8 hD8 hU8
          cases vs with
          | nil =>
            refine iteF ⟨none, A0, D, [], us, ?_, hA0, hA1, hD8, hU8, gU, fun k hk => by rw [hN] at hk; exact hk, k8, m8.le (by omega)⟩
            rw [← hA]; rfl
          | cons v0 vr =>
            refine iteT ?_
            have vl : (v0 :: vr).length = us.length := hU8.1
            have vl2 : (v0 :: vr).length = vr.length + 1 := rfl
            refine ⟨_, rfl, _, rfl, D, _, rfl, .inl (.inl (.inl hD8)), s, c, _, _, rfl, by omega, by omega, by omega, m8, fun at' H9 t0 t1 k9 m9 => ?_⟩
            obtain ⟨j, rfl⟩ := Int.eq_ofNat_of_zero_le t0
            have hj : j < (v0 :: vr).length := by omega
            have hD9 := k9 _ _ dn.1 dn.2 hD8
            have hU9 := hU8.kt (Kt.of_kp m8 k9)
            refine ⟨_, rfl, _, rfl, _, rfl, D, _, rfl, .inl (.inl hD9), fun e1 ne1 => ?_⟩
            have sa : Same H9 (upd H9 e1 (.lst (cutV (v0 :: vr) none (some (j : Int))))) := same_upd ne1
            refine ⟨_, rfl, _, rfl, _, _, rfl, rfl, _, rfl, D, _, rfl, .inl (.inl (sa _ _ hD9)), fun e2 ne2 => ?_⟩
            have sb := sa.trans (same_upd ne2 (o := .lst (cutV (v0 :: vr) (some ((j : Int) + 1)) none)))
            have c1 := cutV_take (v0 :: vr) (j := j) (by omega)
            have c2 : cutV (v0 :: vr) (some ((j : Int) + 1)) none = (v0 :: vr).drop (j + 1) := cutV_drop (v0 :: vr) (j := j + 1) (by omega)
            have h1 := (same_upd ne2 (o := .lst (cutV (v0 :: vr) (some ((j : Int) + 1)) none))) e1 _ (upd_same (H := H9) (o := .lst (cutV (v0 :: vr) none (some (j : Int)))))
            refine ⟨e1, e2, _, _, rfl, rfl, h1, upd_same, ?_, fun e3 ne3 => ?_⟩
            · have z1 := cutV_length (v0 :: vr) none (some (j : Int))
              have z2 := cutV_length (v0 :: vr) (some ((j : Int) + 1)) none
              exact le_size (by omega)
            · have sc := sb.trans (same_upd ne3 (o := .lst (cutV (v0 :: vr) none (some (j : Int)) ++ cutV (v0 :: vr) (some ((j : Int) + 1)) none)))
              have sub : (us.take j ++ us.drop (j + 1)).Sublist us := by
                rw [← List.eraseIdx_eq_take_drop_succ]
                exact List.eraseIdx_sublist ..
              refine ⟨some (.int (j : Nat)), A0, e3, (v0 :: vr).take j ++ (v0 :: vr).drop (j + 1), us.take j ++ us.drop (j + 1), ?_, hA0, hA1, by rw [upd_same, c1, c2], (hU9.kt (Kt.of_same sc)).eraseIdx j, good_sub gU sub, fun k hk => ?_, (k8.trans k9).trans (Kp.of_same sc), (m9.same sc).le (by omega)⟩
              · rw [← hA]; rfl
              · have := (sub.map (·.1)).subset hk
                rw [show us.map (·.1) = nms cn.2 from hN] at this
                exact this
        · exact iteF stay
      · rintro σ' H3 ⟨x6, A, D', vs', us', rfl, A1, A2, hD', hU', gU', hs', kH', m'⟩
        refine ⟨_, rfl, _, rfl, D', vs', rfl, .inl ⟨.inl (.inl hD'), fun t' nt' => ?_⟩⟩
        refine ⟨by show 2 ≤ sizeLine; exact le_size (by decide), fun a' na' => ?_⟩
        have sT : Same H3 (upd H3 t' (.tup vs')) := same_upd nt'
        have sA : Same (upd H3 t' (.tup vs')) (upd (upd H3 t' (.tup vs')) a' (.tup [.int A, .ref t'])) := same_upd na'
        exact q _ (A, us') _ ⟨a', t', vs', rfl, upd_same, sA _ _ upd_same, hU'.kt ((Kt.of_same sT).trans (.of_same sA))⟩ ⟨gU', fun k hk => hO.sub k (hs' k hk), by show -100 ≤ A ∧ A ≤ 100; omega⟩ (kH'.trans ((Kp.of_same sT).trans (.of_same sA))) (((m'.same sT).same sA).le (by omega))
end
end K4

set_option Elab.async false
set_option linter.all false
set_option maxRecDepth 100000
set_option maxHeartbeats 1000000
namespace K4
open PySem PySem.Spec PyProof.Rows L2
abbrev sAll : Stmt := topS 17
theorem scAll : FnScope ["many", "found", "k", "wider", "first", "size"] ["many"] (defScope sAll) := ⟨rfl, rfl, rfl, by decide +kernel, rfl, by decide +kernel, by decide +kernel⟩
/-! ### rows of tuples of numbers -/
def IsX (H : Hp) (v : V) (xs : List Int) : Prop := ∃ b, v = .ref b ∧ H b = some (.tup (xs.map V.int))
theorem IsX.kt {H H' : Hp} {v : V} {xs : List Int} (h : IsX H v xs) (k : Kt H H') : IsX H' v xs := by
  obtain ⟨b, e, h⟩ := h
  exact ⟨b, e, k _ _ h⟩
def AllX (H : Hp) (vs : List V) (g : List (List Int)) : Prop := vs.length = g.length ∧ ∀ (i : Nat) (xs : List Int), g[i]? = some xs → ∃ v, vs[i]? = some v ∧ IsX H v xs
theorem AllX.kt {H H' : Hp} {vs : List V} {g : List (List Int)} (h : AllX H vs g) (k : Kt H H') : AllX H' vs g :=
  ⟨h.1, fun i p e => by obtain ⟨v, h1, h2⟩ := h.2 i p e; exact ⟨v, h1, h2.kt k⟩⟩
theorem AllX.at {H : Hp} {vs : List V} {g : List (List Int)} (h : AllX H vs g) {i : Nat} {v : V} (e : vs[i]? = some v) : ∃ p, g[i]? = some p ∧ IsX H v p := by
  obtain ⟨hi, _⟩ := List.getElem?_eq_some_iff.mp e
  have hi' : i < g.length := by rw [← h.1]; exact hi
  obtain ⟨u, h1, h2⟩ := h.2 i _ (List.getElem?_eq_getElem hi')
  rw [e] at h1
  cases h1
  exact ⟨_, List.getElem?_eq_getElem hi', h2⟩
theorem AllX.app {H : Hp} {vs us : List V} {g f : List (List Int)} (h : AllX H vs g) (k : AllX H us f) : AllX H (vs ++ us) (g ++ f) := by
  refine ⟨by rw [List.length_append, List.length_append, h.1, k.1], fun i p e => ?_⟩
  by_cases hi : i < g.length
  · rw [List.getElem?_append_left hi] at e
    rw [List.getElem?_append_left (by rw [h.1]; exact hi)]
    exact h.2 i p e
  · rw [List.getElem?_append_right (by omega)] at e
    rw [List.getElem?_append_right (by rw [h.1]; omega), h.1]
    exact k.2 _ p e
theorem AllX.nil {H : Hp} : AllX H [] [] := ⟨rfl, fun i p e => by cases e⟩
theorem AllX.one {H : Hp} {v : V} {xs : List Int} (h : IsX H v xs) : AllX H [v] [xs] := ⟨rfl, fun i p e => by
  cases i with
  | zero => cases e; exact ⟨_, rfl, h⟩
  | succ i => cases e⟩
def GridAt (H : Hp) (p : Addr) (g : List (List Int)) : Prop := ∃ vs, H p = some (.lst vs) ∧ AllX H vs g
theorem flat_len : ∀ (g : List (List Int)), (g.flatMap wider).length = 12 * g.length
  | [] => rfl
  | f :: g => by
    rw [List.flatMap_cons, List.length_append, flat_len g, List.length_cons]
    show (wider f).length + _ = _
    have : (wider f).length = 12 := rfl
    omega
theorem grid_len : ∀ n, (grid n).length = 12 ^ n
  | 0 => rfl
  | n + 1 => by rw [grid_snoc, flat_len, grid_len n, Nat.pow_succ, Nat.mul_comm]
theorem grid_small {n : Nat} (h : n ≤ 3) : (grid n).length ≤ 1728 := by
  rw [grid_len]
  exact Nat.pow_le_pow_right (by decide) h
section
variable {P : Program} {w : World} {K : PySem.W.Frag} {mg : Str → Option Value} {base : Heap}
def spAll : Sp := fun vs H Q _ => ∃ (m : Int), vs = [.int m] ∧ 0 ≤ m ∧ m ≤ 3 ∧ ∀ (p : Addr) (H' : Hp), H p = none → Same H H' → GridAt H' p (grid m.toNat) → Q (.ref p) H'
theorem ok_all {f : Addr} {fd : FuncData} (F : Fun K "_law_all_sizes" "_law_all_sizes" sAll f fd) (mR : mg "range" = none) : FnOk P w K mg base CX0 1 f fd ["many"] spAll := by
  refine F.ok scAll (fun vs H Q E h => ?_) (fun cdv A outer s0 H vs Q E hr h => ?_)
  · obtain ⟨m, rfl, _⟩ := h
    rfl
  · obtain ⟨m, rfl, m0, m3, q⟩ := h
    refine ⟨_, (pss_cons (ps_set (i := 1) scAll.nd rfl (.inl rfl) (pe_lst (pa_cons (pe_tup pa_nil) pa_nil)))
      (pss_cons (ps_for PassesOwn.never rfl (pi_range1 (by rfl) mR (pa_cons (pv 0) pa_nil)) (pg_name (i := 2) scAll.nd rfl (.inl rfl)) (pss_cons (ps_set (i := 3) scAll.nd rfl (.inl rfl) (pe_lst pa_nil))
      (pss_cons (ps_for PassesOwn.never rfl (pi_list (pv 1)) (pg_name (i := 4) scAll.nd rfl (.inr rfl)) (pss_one (ps_expr (pe_bm PySem.F.plainAttrs_list PySem.F.slot_list_extend PySem.F.type_list_extend mt_extend (pv 3) (pa_cons (pe_lc (own := [("size", 5)]) (g := gName 5) (tt := tYes) rfl scAll.nd (pi_range2 (by rfl) mR (pa_cons pe_int (pa_cons pe_int pa_nil))) (blkOk_by (N := ["many", "found", "k", "wider", "first", "size"]) (sc := (defScope sAll)) (by decide +kernel)) (fun _ _ _ _ _ => (pg_name (i := 5) scAll.nd rfl (.inl rfl))) (fun _ _ _ _ _ => pts_nil) (fun _ _ _ _ _ => (pe_op (r := rCatA K) op_catA (pv 4) (pe_tup (pa_cons (pv 5) pa_nil))))) pa_nil)))))
      (pss_one (ps_set (i := 1) scAll.nd rfl (.inl rfl) (pv 3))))))
      (pss_one (ps_ret (pv 1))))), ?_⟩
    refine ⟨by show 0 ≤ sizeLine; exact Nat.zero_le _, fun p0 np0 => ?_⟩
    refine ⟨by show 1 ≤ sizeLine; exact le_size (by decide), fun F0 nF0 => ?_⟩
    have s0' : Same H (upd H p0 (.tup [])) := same_upd np0
    have nF : H F0 = none := by
      cases e : H F0 with
      | none => rfl
      | some o => rw [s0' _ _ e] at nF0; cases nF0
    have s1 : Same H (upd (upd H p0 (.tup [])) F0 (.lst [.ref p0])) := s0'.trans (same_upd nF0)
    have g1 : GridAt (upd (upd H p0 (.tup [])) F0 (.lst [.ref p0])) F0 (grid 0) := ⟨_, upd_same, AllX.one ⟨p0, rfl, (same_upd nF0) _ _ upd_same⟩⟩
    revert s1 g1
    generalize upd (upd H p0 (.tup [])) F0 (.lst [.ref p0]) = H1
    intro s1 g1
    refine ⟨_, rfl, m, rfl, by omega, by omega, ?_⟩
    refine for_range (n := m.toNat) (fun i σ H' => ∃ (x2 x3 x4 : Option V) (F1 : Addr), σ = [some (.int m), some (.ref F1), x2, x3, x4, none] ∧ Same H H' ∧ H F1 = none ∧ GridAt H' F1 (grid i))
      ⟨none, none, none, F0, rfl, s1, nF, g1⟩ (fun i σ H' hi h => ?_) (fun σ H' h => ?_)
    · obtain ⟨x2, x3, x4, F1, rfl, sm, nF1, vs, hF1, hX⟩ := h
      have gl : (grid i).length ≤ 144 := by
        rw [grid_len]
        exact Nat.pow_le_pow_right (n := 12) (by decide) (show i ≤ 2 by omega)
      refine ⟨Nat.zero_le _, fun W nW => ?_⟩
      have nWH : H W = none := by
        cases e : H W with
        | none => rfl
        | some o => rw [sm _ _ e] at nW; cases nW
      have FW : F1 ≠ W := ne_of_none hF1 nW
      have s2 : Same H' (upd H' W (.lst [])) := same_upd nW
      refine ⟨_, rfl, F1, rfl, ⟨_, .inl (.inl (s2 _ _ hF1))⟩, ?_⟩
      refine for_list (K := K) (a := F1) (xs := vs) (fun j σ H'' => ∃ (x4 : Option V), σ = [some (.int m), some (.ref F1), some (.int (0 + (i : Nat))), some (.ref W), x4, none] ∧ Same H H'' ∧ H'' F1 = some (.lst vs) ∧ AllX H'' vs (grid i) ∧ GridAt H'' W (((grid i).take j).flatMap wider))
        ⟨x4, rfl, sm.trans s2, s2 _ _ hF1, hX.kt (Kt.of_same s2), [], upd_same, AllX.nil⟩ (fun j σ H'' hj h => by obtain ⟨_, _, _, h, _⟩ := h; exact .inl (.inl h)) (fun j y σ H'' hy h => ?_) (fun σ H'' h => ?_)
      · obtain ⟨x4, rfl, sm2, hF2, hX2, ws, hW, hY⟩ := h
        obtain ⟨fx, hf, b, rfl, hb⟩ := hX2.at hy
        have hjl : j < (grid i).length := (List.getElem?_eq_some_iff.mp hf).1
        have wl : ws.length = 12 * j := by
          rw [hY.1, flat_len, List.length_take, Nat.min_eq_left (by omega)]
        refine ⟨_, rfl, .inl ⟨rfl, _, .inl (.inl hW)⟩, 1, 13, rfl, ⟨by decide, by decide, by decide, by decide⟩, fun D nD => ?_⟩
        refine lc_range (lo := 1) (n := 12) (fun k H3 => Same H'' H3 ∧ ∃ us, H3 D = some (.lst us) ∧ AllX H3 us ((wider fx).take k)) ⟨same_upd nD, [], upd_same, AllX.nil⟩ (fun k H3 hk h => ?_) (fun H3 h => ?_)
        · obtain ⟨sm3, us, hD, hU⟩ := h
          refine ⟨rfl, ?_⟩
          refine ⟨_, rfl, _, rfl, by show 1 ≤ sizeLine; exact le_size (by decide), fun t nt => ?_⟩
          have st : Same H3 (upd H3 t (.tup [.int (1 + (k : Nat))])) := same_upd nt
          have hk12 : (wider fx)[k]? = some (fx ++ [1 + (k : Int)]) := by
            have : s12[k]? = some (1 + (k : Int)) := by
              match k, hk with
              | 0, _ => rfl
              | 1, _ => rfl
              | 2, _ => rfl
              | 3, _ => rfl
              | 4, _ => rfl
              | 5, _ => rfl
              | 6, _ => rfl
              | 7, _ => rfl
              | 8, _ => rfl
              | 9, _ => rfl
              | 10, _ => rfl
              | 11, _ => rfl
            unfold wider
            rw [List.getElem?_map, this]
            rfl
          have ul : us.length = k := by
            have : (wider fx).length = 12 := rfl
            rw [hU.1, List.length_take]; omega
          have fin : ∀ (r : Addr) (H4 : Hp), Same H3 H4 → H4 r = some (.tup ((fx ++ [1 + (k : Int)]).map V.int)) → ∃ acc, H4 D = some (.lst acc) ∧ acc.length < sizeLine ∧ (Same H'' (upd H4 D (.lst (acc ++ [V.ref r]))) ∧ ∃ us, (upd H4 D (.lst (acc ++ [V.ref r]))) D = some (.lst us) ∧ AllX (upd H4 D (.lst (acc ++ [V.ref r]))) us ((wider fx).take (k + 1))) := fun r H4 s4 h4 => by
            have hD4 := s4 _ _ hD
            have kt : Kt H4 (upd H4 D (.lst (us ++ [V.ref r]))) := Kt.upd fun xs e => by rw [hD4] at e; cases e
            refine ⟨us, hD4, by rw [ul]; exact lt_size (by omega), fun b' o e => ?_, _, upd_same, ?_⟩
            · rw [upd_ne (ne_of_none e nD)]; exact s4 _ _ (sm3 _ _ e)
            · rw [take_snoc hk12]
              exact ((hU.kt (Kt.of_same s4)).kt kt).app (AllX.one ⟨r, rfl, kt _ _ h4⟩)
          have hb3 := st _ _ (sm3 _ _ hb)
          refine ⟨b, t, _, _, rfl, rfl, .inl (.inl hb3), .inl (.inl upd_same), ?_, fun hx => ?_, fun _ hy => absurd hy (List.cons_ne_nil _ _), fun _ _ r nr => ?_⟩
          · have fl : fx.length ≤ 3 := by
              have := (mem_grid.mp (List.mem_of_getElem? hf)).1
              omega
            rw [List.length_map]
            show fx.length + 1 ≤ sizeLine
            exact le_size (by omega)
          · have : fx = [] := List.map_eq_nil_iff.mp hx
            subst this
            exact fin t _ st upd_same
          · refine fin r _ (st.trans (same_upd nr)) ?_
            rw [upd_same, List.map_append]
            rfl
        · obtain ⟨sm3, us, hD, hU⟩ := h
          have e12 : (wider fx).take 12 = wider fx := rfl
          rw [e12] at hU
          have ul : us.length = 12 := hU.1
          have hW3 := sm3 _ _ hW
          refine ⟨W, D, ws, us, rfl, rfl, hW3, hD, le_size (by omega), ?_⟩
          have kt : Kt H3 (upd H3 W (.lst (ws ++ us))) := Kt.upd fun xs e => by rw [hW3] at e; cases e
          refine ⟨_, rfl, fun b' o e => ?_, ?_, (hX2.kt (Kt.of_same sm3)).kt kt, _, upd_same, ?_⟩
          · rw [upd_ne (ne_of_none e nWH)]; exact sm3 _ _ (sm2 _ _ e)
          · rw [upd_ne FW]; exact sm3 _ _ hF2
          · rw [take_snoc hf, List.flatMap_append]
            have e1 : [fx].flatMap wider = wider fx := by rw [List.flatMap_cons, List.flatMap_nil, List.append_nil]
            rw [e1]
            exact ((hY.kt (Kt.of_same sm3)).kt kt).app (hU.kt kt)
      · obtain ⟨x4, rfl, sm2, hF2, hX2, hW⟩ := h
        rw [List.take_of_length_le (by rw [hX.1]; exact Nat.le_refl _), ← grid_snoc] at hW
        exact ⟨_, rfl, _, _, _, W, rfl, sm2, nWH, hW⟩
    · obtain ⟨x2, x3, x4, F1, rfl, sm, nF1, hG⟩ := h
      exact ⟨_, rfl, q F1 H' nF1 sm hG⟩
end
end K4

set_option Elab.async false
set_option linter.all false
set_option maxRecDepth 100000
set_option maxHeartbeats 1000000
/-! list(zip(xs, t)): a list and a tuple that are as long; every pair is a tuple of its own. -/
namespace ZL
open PySem PyProof.Rows
section
variable {prog : Program} {w : World} {A : Around} {E : Value → Shared → Prop} {s : Shared}
/-- the zip at N + 4, its iterators at N and N + 1; i pairs were told, all beyond N + 5 -/
structure ZS (h : Heap) (N l t : Nat) (xs ys : Array Value) (i : Nat) : Prop where
  pr : IsPair h (N + 2) (.ref N) (.ref (N + 1))
  a1 : h.IsListIter N l i
  a2 : h.IsTupleIter (N + 1) t i
  li : h.IsList l xs
  tu : h.IsTuple t ys
  zz : (i = 0 ∧ IsZip h (N + 4) (N + 2) (N + 3) .none ∧ IsTupOf2 h (N + 3) .none .none) ∨ ∃ (T : Nat) (f : Bool) (o : Obj), IsZipHeld h (N + 4) (N + 2) (N + 3) T f ∧ h.get? T = some o ∧ N + 5 < T
theorem ZS.keep {h h' : Heap} {N l t : Nat} {xs ys : Array Value} {i : Nat} (z : ZS h N l t xs ys i) (hl : l < N) (ht : t < N) (k : ∀ b o, b ≠ N + 5 → h.get? b = some o → h'.get? b = some o) : ZS h' N l t xs ys i := by
  refine ⟨k _ _ (by omega) z.pr, z.a1.at fun o e => k _ o (by omega) e, z.a2.at fun o e => k _ o (by omega) e, z.li.at fun o e => k _ o (by omega) e, z.tu.at fun o e => k _ o (by omega) e, ?_⟩
  rcases z.zz with ⟨e, b, c⟩ | ⟨T, f, o, b, c, d⟩
  · exact .inl ⟨e, k _ _ (by omega) b, k _ _ (by omega) c⟩
  · exact .inr ⟨T, f, o, k _ _ (by omega) b, k _ _ (by omega) c, d⟩
/-- one pair more -/
theorem held_item {N l t T : Nat} {f : Bool} {oT : Obj} {i : Nat} {xs ys : Array Value} {x y : Value} {Q : Option Value → Shared → Prop} (hl : l < N) (ht : t < N)
    (zh : IsZipHeld s.heap (N + 4) (N + 2) (N + 3) T f) (al : s.heap.get? T = some oT) (pr : IsPair s.heap (N + 2) (.ref N) (.ref (N + 1)))
    (j1 : s.heap.IsListIter N l i) (j2 : s.heap.IsTupleIter (N + 1) t i) (k1 : s.heap.IsList l xs) (k2 : s.heap.IsTuple t ys) (ex : xs[i]? = some x) (ey : ys[i]? = some y)
    (fin : ∀ g, IsZipHeld g (N + 4) (N + 2) (N + 3) T true → g.IsListIter N l (i + 1) → g.IsTupleIter (N + 1) t (i + 1) → IsPair g s.heap.objs.size x y → g.objs.size = s.heap.objs.size + 1 →
      (∀ (c : Nat) o, c ≠ N + 4 → c ≠ N → c ≠ N + 1 → s.heap.get? c = some o → g.get? c = some o) → Q (some (.ref s.heap.objs.size)) { s with heap := g }) :
    wpAny (model prog w) A (pyNext (.ref (N + 4))) Q E s := by
  have isz : s.TypeIs (.ref (N + 4)) "zip" := ⟨_, zh, rfl⟩
  unfold pyNext
  refine wpAny_bind (wpAny_attempt (wpAny_callSpecial?_slot (name := Str.ofString "__next__") isz F.slot_zip_next (wpAny_call_entry F.slot_zip_next isz F.entry_zip_next ?_ (F.args_zip_next_1 _))))
  show wpAny _ _ (field (.ref (N + 4)) 2 >>= _) _ _ _
  refine wpAny_bind (wpAny_field zh rfl (x := .bool false) rfl ?_)
  show wpAny _ _ (field (.ref (N + 4)) 3 >>= _) _ _ _
  refine wpAny_bind (wpAny_field zh rfl (x := .ref (N + 2)) rfl ?_)
  refine wpAny_bind (wpAny_seqItems pr rfl ?_)
  show wpAny _ _ (Builtin.SmallTypes.ownedTupleIsFree (.ref (N + 4)) >>= _) _ _ _
  refine wpAny_bind (wpAny_tupleHeld_zip zh al fun g1 z1 b1 => ?_)
  simp only [Bool.false_eq_true, if_false]
  refine wpAny_bind ?_
  rw [← Array.forIn_toList]; simp only [List.forIn_cons, List.forIn_nil]
  refine wpAny_bind (wpAny_bind (wpAny_holding ?_))
  show wpAny _ _ (Builtin.SmallTypes.nextOf (.ref N) >>= _) _ _ _
  refine wpAny_bind (wpAny_nextOf_list_item (s := { s with heap := g1 }) (j1.extBut b1.extBut (by show @Ne Nat _ _; omega)) (k1.extBut b1.extBut (by show @Ne Nat _ _; omega)) ex fun g2 q2 b2 => wpAny_pure ?_)
  refine wpAny_pure ?_
  refine wpAny_bind (wpAny_bind (wpAny_holding ?_))
  show wpAny _ _ (Builtin.SmallTypes.nextOf (.ref (N + 1)) >>= _) _ _ _
  have keepT : ∀ o, s.heap.get? t = some o → g2.get? t = some o := fun o e => b2.extBut _ _ (by show @Ne Nat _ _; omega) (b1.extBut _ _ (by show @Ne Nat _ _; omega) e)
  have keep2 : ∀ o, s.heap.get? (N + 1) = some o → g2.get? (N + 1) = some o := fun o e => b2.extBut _ _ (by show @Ne Nat _ _; omega) (b1.extBut _ _ (by show @Ne Nat _ _; omega) e)
  refine wpAny_bind (wpAny_nextOf_tuple_item (s := { s with heap := g2 }) (j2.at keep2) (k2.at keepT) ey fun g3 q3 b3 => wpAny_pure ?_)
  refine wpAny_pure (wpAny_pure ?_)
  show wpAny _ _ (newTuple [x, y] >>= _) _ _ _
  refine wpAny_bind (wpAny_newTuple ?_)
  have sz : g3.objs.size = s.heap.objs.size := by rw [b3.1, b2.1, b1.1]
  have z3 : IsZipHeld g3 (N + 4) (N + 2) (N + 3) T true := b3.extBut _ _ (by show @Ne Nat _ _; omega) (b2.extBut _ _ (by show @Ne Nat _ _; omega) z1)
  have kk : ∀ (c : Nat) o, c ≠ N + 4 → c ≠ N → c ≠ N + 1 → s.heap.get? c = some o → g3.get? c = some o := fun c o c1 c2 c3 e => b3.extBut _ _ c3 (b2.extBut _ _ c2 (b1.extBut _ _ c1 e))
  have q23 : g3.IsListIter N l (i + 1) := q2.extBut b3.extBut (by show @Ne Nat _ _; omega)
  refine wpAny_pure ⟨_, rfl, wpAny_pure ?_⟩
  show Q (some (.ref g3.objs.size)) _
  have pp : IsPair (g3.push { cls := .type "tuple", data := .seq #[x, y] }) g3.objs.size x y := Heap.get?_push_size _ rfl
  have ps : (g3.push { cls := .type "tuple", data := .seq #[x, y] }).objs.size = g3.objs.size + 1 := Heap.size_push ..
  rw [sz] at pp ps ⊢
  exact fin _ (Heap.get?_push_of_some _ z3) (q23.at fun o e => Heap.get?_push_of_some _ e) (q3.at fun o e => Heap.get?_push_of_some _ e) pp ps fun c o c1 c2 c3 e => Heap.get?_push_of_some _ (kk c o c1 c2 c3 e)
/-- the end -/
theorem held_end {N l T : Nat} {f : Bool} {oT : Obj} {i : Nat} {xs : Array Value} {Q : Option Value → Shared → Prop} (hh : A.handled = none) (hl : l < N)
    (zh : IsZipHeld s.heap (N + 4) (N + 2) (N + 3) T f) (al : s.heap.get? T = some oT) (pr : IsPair s.heap (N + 2) (.ref N) (.ref (N + 1)))
    (j1 : s.heap.IsListIter N l i) (k1 : s.heap.IsList l xs) (ex : xs[i]? = none)
    (fin : ∀ g, (∀ (c : Nat) o, c ≠ N + 4 → c ≠ N → s.heap.get? c = some o → g.get? c = some o) → Q none { s with heap := g }) :
    wpAny (model prog w) A (pyNext (.ref (N + 4))) Q E s := by
  have isz : s.TypeIs (.ref (N + 4)) "zip" := ⟨_, zh, rfl⟩
  unfold pyNext
  refine wpAny_bind (wpAny_attempt (wpAny_callSpecial?_slot (name := Str.ofString "__next__") isz F.slot_zip_next (wpAny_call_entry F.slot_zip_next isz F.entry_zip_next ?_ (F.args_zip_next_1 _))))
  show wpAny _ _ (field (.ref (N + 4)) 2 >>= _) _ _ _
  refine wpAny_bind (wpAny_field zh rfl (x := .bool false) rfl ?_)
  show wpAny _ _ (field (.ref (N + 4)) 3 >>= _) _ _ _
  refine wpAny_bind (wpAny_field zh rfl (x := .ref (N + 2)) rfl ?_)
  refine wpAny_bind (wpAny_seqItems pr rfl ?_)
  show wpAny _ _ (Builtin.SmallTypes.ownedTupleIsFree (.ref (N + 4)) >>= _) _ _ _
  refine wpAny_bind (wpAny_tupleHeld_zip zh al fun g1 z1 b1 => ?_)
  simp only [Bool.false_eq_true, if_false]
  refine wpAny_bind ?_
  rw [← Array.forIn_toList]; simp only [List.forIn_cons, List.forIn_nil]
  refine wpAny_bind (wpAny_bind (wpAny_holding ?_))
  show wpAny _ _ (Builtin.SmallTypes.nextOf (.ref N) >>= _) _ _ _
  refine wpAny_bind (wpAny_nextOf_list_end (s := { s with heap := g1 }) hh (j1.extBut b1.extBut (by show @Ne Nat _ _; omega)) (k1.extBut b1.extBut (by show @Ne Nat _ _; omega)) ex fun g2 e b2 he => ?_)
  obtain ⟨o, ho, hc⟩ := he
  refine wpAny_bind (wpAny_isInstance (T := "StopIteration") (b := true) ⟨o, ho, hc⟩ isSubtype_stop ?_)
  exact wpAny_pure (fin _ fun c o c1 c2 x => b2 _ _ c2 (b1.extBut _ _ c1 x))
end
end ZL

set_option Elab.async false
set_option linter.all false
set_option maxRecDepth 100000
set_option maxHeartbeats 1000000
namespace ZL
open PySem PyProof.Rows
section
variable {prog : Program} {w : World} {A : Around} {E : Value → Shared → Prop} {s : Shared} {N l t : Nat} {xs ys : Array Value}
theorem ZS.next {i : Nat} {x y : Value} {Q : Option Value → Shared → Prop} (hh : A.handled = none) (z : ZS s.heap N l t xs ys i) (hl : l < N) (ht : t < N) (hS : N + 5 < s.heap.objs.size) (ex : xs[i]? = some x) (ey : ys[i]? = some y)
    (fin : ∀ g tk, ZS g N l t xs ys (i + 1) → IsPair g s.heap.objs.size x y → g.objs.size = s.heap.objs.size + 1 →
      (∀ (c : Nat) o, c ≠ N → c ≠ N + 1 → c ≠ N + 3 → c ≠ N + 4 → s.heap.get? c = some o → g.get? c = some o) → Q (some (.ref s.heap.objs.size)) { s with heap := g, toks := tk }) :
    wpAny (model prog w) A (pyNext (.ref (N + 4))) Q E s := by
  rcases z.zz with ⟨rfl, zi, zt⟩ | ⟨T, f, o, zh, al, hT⟩
  · have D1 := Draws.list (prog := prog) (w := w) (A := A.in1) hh N l (by show @Ne Nat _ _; omega) xs
    have D2 := Draws.tuple (prog := prog) (w := w) (A := A.in1) hh (N + 1) t (by show @Ne Nat _ _; omega) ys
    have sp : ZipSep2 (N + 4) (N + 2) (N + 3) N (N + 1) [N, l] [N + 1, t] := zip_sep2 (fp1 := [l]) (fp2 := [t]) (fun b hb => by rw [List.mem_singleton.mp hb]; exact hl) (fun b hb => by rw [List.mem_singleton.mp hb]; exact ht)
    have l1 : 0 < xs.size := (Array.getElem?_eq_some_iff.mp ex).1
    have l2 : 0 < ys.size := (Array.getElem?_eq_some_iff.mp ey).1
    refine wpAny_pyNext_zipD2_item sp D1 D2 zi z.pr zt ⟨z.a1, z.li⟩ ⟨z.a2, z.tu⟩ l1 l2 fun x1 x2 g tk e1 e2 b1 b2 d1 d2 b5 b6 b7 => ?_
    have q1 : x = x1 := Option.some.inj (ex.symm.trans e1)
    have q2 : y = x2 := Option.some.inj (ey.symm.trans e2)
    subst q1 q2
    refine fin g tk ⟨b7 _ _ (by show @Ne Nat _ _; omega) (by show @Ne Nat _ _; omega) (by show @Ne Nat _ _; omega) (by show @Ne Nat _ _; omega) z.pr, d1.1, d2.1, d1.2, d2.2, .inr ⟨s.heap.objs.size, false, _, b1, b5, hS⟩⟩ b5 b6 fun c o c1 c2 c3 c4 e => b7 c o c4 c3 c1 c2 e
  · refine held_item hl ht zh al z.pr z.a1 z.a2 z.li z.tu ex ey fun g b1 b2 b3 b4 b5 b6 => ?_
    refine fin g s.toks ⟨b6 _ _ (by show @Ne Nat _ _; omega) (by show @Ne Nat _ _; omega) (by show @Ne Nat _ _; omega) z.pr, b2, b3, z.li.at fun o e => b6 _ o (by show @Ne Nat _ _; omega) (by show @Ne Nat _ _; omega) (by show @Ne Nat _ _; omega) e,
      z.tu.at fun o e => b6 _ o (by show @Ne Nat _ _; omega) (by show @Ne Nat _ _; omega) (by show @Ne Nat _ _; omega) e, .inr ⟨T, true, o, b1, b6 _ _ (by show @Ne Nat _ _; omega) (by show @Ne Nat _ _; omega) (by show @Ne Nat _ _; omega) al, hT⟩⟩ b4 b5 fun c o c1 c2 c3 c4 e => b6 c o c4 c1 c2 e
theorem ZS.over {i : Nat} {Q : Option Value → Shared → Prop} (hh : A.handled = none) (z : ZS s.heap N l t xs ys i) (hl : l < N) (hi : 0 < i) (ex : xs[i]? = none)
    (fin : ∀ g, (∀ (c : Nat) o, c ≠ N → c ≠ N + 4 → s.heap.get? c = some o → g.get? c = some o) → Q none { s with heap := g }) : wpAny (model prog w) A (pyNext (.ref (N + 4))) Q E s := by
  rcases z.zz with ⟨rfl, _, _⟩ | ⟨T, f, o, zh, al, hT⟩
  · exact absurd hi (Nat.lt_irrefl _)
  · exact held_end hh hl zh al z.pr z.a1 z.li ex fun g k => fin g fun c o c1 c2 e => k c o c2 c1 e
end
/-- the pairs so far, rising, beyond N + 5 -/
structure ZG (h : Heap) (N : Nat) (xs ys : Array Value) (as : List Addr) : Prop where
  rise : as.Pairwise (fun a b : Nat => a < b)
  above : ∀ a ∈ as, N + 5 < (a : Nat)
  pairs : ∀ (j : Nat) (a : Addr), as[j]? = some a → ∃ x y, xs[j]? = some x ∧ ys[j]? = some y ∧ IsPair h a x y
theorem ZG.there {h : Heap} {N : Nat} {xs ys : Array Value} {as : List Addr} (g : ZG h N xs ys as) {a : Addr} (ha : a ∈ as) : a < h.objs.size := by
  obtain ⟨j, hj⟩ := List.mem_iff_getElem?.mp ha
  obtain ⟨_, _, _, _, e⟩ := g.pairs j a hj
  exact Heap.lt_size e
section
variable {prog : Program} {w : World} {A : Around} {s : Shared} {R : Result → Shared → Prop} {N l t : Nat} {xs ys : Array Value} {n : Nat}
theorem zl_loop (hh : A.handled = none) (hl : l < N) (ht : t < N) (hx : xs.size = n) (hy : ys.size = n) (h1 : 1 ≤ n) (hn : n ≤ 1000) (res : Value) {h0 : Heap}
    (fin : ∀ g tk acc c as, (∀ (b : Nat) o, b < N → h0.get? b = some o → g.get? b = some o) → g.get? (N + 5) = some { cls := .type "list", dict := none, data := .seq acc c, slots := #[] } → as.length = n → ZG g N xs ys as → acc.toList = as.map Value.ref → R (.ok (.ret res)) { s with heap := g, toks := tk }) :
    ∀ (k i : Nat) (h : Heap) (tk c : Nat) (acc : Array Value) (as : List Addr), n - i = k → i ≤ n → ZS h N l t xs ys i → (∀ (b : Nat) o, b < N → h0.get? b = some o → h.get? b = some o) →
      h.get? (N + 5) = some { cls := .type "list", dict := none, data := .seq acc c, slots := #[] } → acc.toList = as.map Value.ref → as.length = i → ZG h N xs ys as →
      codeAny (model prog w) A (.builtin "list.extend.loop" ⟨[.ref (N + 5), .ref (N + 4), res], []⟩) R { s with heap := h, toks := tk } := by
  intro k
  induction k with
  | zero =>
    intro i h tk c acc as hk hi st kp hS hacc hal hG
    refine codeAny_builtin PySem.F.entry_extend_loop ?_
    rw [Around.under_plainId PySem.F.plain_extend_loop _]
    show wpAny _ A.in1 (pyNext (.ref (N + 4)) >>= _) _ _ _
    refine wpAny_bind (ZS.over (s := { s with heap := h, toks := tk }) (A := A.in1) hh st hl (by omega) (Array.getElem?_eq_none (by omega)) fun g kg => ?_)
    refine wpAny_pure (fin g tk acc c as (fun b o hb e => kg b o (by omega) (by omega) (kp b o hb e)) (kg _ _ (by omega) (by omega) hS) (by omega) ⟨hG.rise, hG.above, fun j a hj => ?_⟩ hacc)
    obtain ⟨x, y, e1, e2, e3⟩ := hG.pairs j a hj
    have ab := hG.above a (List.mem_of_getElem? hj)
    exact ⟨x, y, e1, e2, kg a _ (by omega) (by omega) e3⟩
  | succ k ih =>
    intro i h tk c acc as hk hi st kp hS hacc hal hG
    have lt : i < n := by omega
    obtain ⟨x, ex⟩ : ∃ x, xs[i]? = some x := ⟨xs[i], Array.getElem?_eq_getElem (by omega)⟩
    obtain ⟨y, ey⟩ : ∃ y, ys[i]? = some y := ⟨ys[i], Array.getElem?_eq_getElem (by omega)⟩
    have asz : acc.size = i := by rw [← Array.length_toList, hacc, List.length_map, hal]
    have hSl : N + 5 < h.objs.size := Heap.lt_size hS
    refine codeAny_builtin PySem.F.entry_extend_loop ?_
    rw [Around.under_plainId PySem.F.plain_extend_loop _]
    show wpAny _ A.in1 (pyNext (.ref (N + 4)) >>= _) _ _ _
    refine wpAny_bind (ZS.next (s := { s with heap := h, toks := tk }) (A := A.in1) hh st hl ht hSl ex ey fun g tk2 st2 pp gz kg => ?_)
    dsimp only at pp gz kg ⊢
    have hS2 := kg (N + 5) _ (by omega) (by omega) (by omega) (by omega) hS
    have up : ∀ (b : Nat) o, b ≠ N + 5 → g.get? b = some o → (g.update (N + 5) (Obj.mapSeq (·.push (Value.ref h.objs.size)))).get? b = some o := fun b o hb e => (Heap.get?_update_other _ _ (Ne.symm hb)).trans e
    have sok : acc.size ≤ sizeLine := Nat.le_trans (show acc.size ≤ 5000 by omega) (by decide)
    have pok : (acc.push (Value.ref h.objs.size)).size ≤ sizeLine + 1 := by rw [Array.size_push]; omega
    show wpAny _ A.in1 (updateSeq (N + 5) (·.push (Value.ref h.objs.size)) >>= _) _ _ _
    refine wpAny_bind ?_
    refine wpAny_updateSeq hS2 rfl (wpAny_pure ⟨plainId_quiet PySem.F.plain_extend_loop _, ih (i + 1) _ tk2 _ (acc.push (Value.ref h.objs.size)) (as ++ [h.objs.size]) (by omega) lt (st2.keep hl ht up)
      (fun b o hb e => up b o (by omega) (kg b o (by omega) (by omega) (by omega) (by omega) (kp b o hb e))) (Heap.get?_update_self _ hS2 rfl) (by rw [Array.toList_push, hacc, List.map_append]; rfl) (by rw [List.length_append, hal]; rfl) ⟨?_, ?_, ?_⟩⟩) (by first | exact sok | omega) (by first | exact pok | omega)
    · refine List.pairwise_append.mpr ⟨hG.rise, List.pairwise_singleton _ _, fun a ha b hb => ?_⟩
      rw [List.mem_singleton.mp hb]
      exact hG.there ha
    · intro a ha
      rcases List.mem_append.mp ha with ha | ha
      · exact hG.above a ha
      · rw [List.mem_singleton.mp ha]; exact hSl
    · intro j b hj
      rcases Nat.lt_trichotomy j as.length with q | q | q
      · rw [List.getElem?_append_left q] at hj
        obtain ⟨x', y', e1, e2, e3⟩ := hG.pairs j b hj
        have ab := hG.above b (List.mem_of_getElem? hj)
        exact ⟨x', y', e1, e2, up b _ (by omega) (kg b _ (by omega) (by omega) (by omega) (by omega) e3)⟩
      · subst q
        have eb : h.objs.size = b := by simpa using hj
        subst eb
        exact ⟨x, y, by rw [hal]; exact ex, by rw [hal]; exact ey, up _ _ (by omega) pp⟩
      · rw [List.getElem?_eq_none (by rw [List.length_append, List.length_singleton]; omega)] at hj
        cases hj
end
end ZL

set_option Elab.async false
set_option linter.all false
set_option maxRecDepth 100000
set_option maxHeartbeats 1000000
namespace ZL
open PySem PyProof.Rows
theorem zip_lens : typeLookup (.type "zip") "__len__" = pure none := by rw [typeLookup_type, builtinLookup_eq_fast]; kernel_rfl
theorem zip_hints : typeLookup (.type "zip") "__length_hint__" = pure none := by rw [typeLookup_type, builtinLookup_eq_fast]; kernel_rfl
section
variable {prog : Program} {w : World} {A : Around} {E : Value → Shared → Prop} {s : Shared} {N l t : Nat} {xs ys : Array Value} {n : Nat}
theorem zl_extend {R : Result → Shared → Prop} (hh : A.handled = none) (z : ZS s.heap N l t xs ys 0) (zi : IsZip s.heap (N + 4) (N + 2) (N + 3) .none) (hl : l < N) (ht : t < N) (hx : xs.size = n) (hy : ys.size = n) (h1 : 1 ≤ n) (hn : n ≤ 1000) (res : Value) (c0 : Nat)
    (hS : s.heap.get? (N + 5) = some { cls := .type "list", data := .seq #[] c0 })
    (fin : ∀ g tk acc c as, (∀ (b : Nat) o, b < N → s.heap.get? b = some o → g.get? b = some o) → g.get? (N + 5) = some { cls := .type "list", dict := none, data := .seq acc c, slots := #[] } → as.length = n → ZG g N xs ys as → acc.toList = as.map Value.ref → R (.ok (.ret res)) { s with heap := g, toks := tk }) :
    wpAny (model prog w) A.in1 (Builtin.List.listExtendWith (.ref (N + 5)) (.ref (N + 4)) res)
      (fun e s' => match e with | .done f => R (.ok f) s' | .again c' => c'.quiet = true ∧ codeAny (model prog w) A c' R s') (fun e s' => R (.error e) s') s := by
  have ty : s.TypeIs (.ref (N + 4)) "zip" := ⟨_, zi, rfl⟩
  unfold Builtin.List.listExtendWith
  refine wpAny_bind (wpAny_typeOf (T := "zip") ty ?_)
  have e1 : Builtin.List.listSameRef (.ref (N + 5)) (.ref (N + 4)) = false := by
    have : ¬ (N + 5 = N + 4) := by omega
    simp [Builtin.List.listSameRef]
  have e2 : (Value.type "zip" == Value.type "list") = false := by decide
  have e3 : (Value.type "zip" == Value.type "tuple") = false := by decide
  simp only [e1, e2, e3, Bool.or_false, Bool.false_eq_true, if_false]
  refine wpAny_bind (wpAny_pyIter_zip zi ?_)
  refine wpAny_bind (wpAny_holding ?_)
  unfold Builtin.List.listLengthHint
  refine wpAny_bind (wpAny_specialOf ty zip_lens ?_)
  show wpAny _ A.in1 (specialOf (Value.ref (N + 4)) (Str.ofString "__length_hint__") >>= _) _ _ _
  refine wpAny_bind (wpAny_specialOf ty zip_hints ?_)
  refine wpAny_pure ?_
  show wpAny _ A.in1 (rule "list.extend.makes-room" >>= fun _ => Builtin.List.listTouch (.ref (N + 5)) >>= fun _ => again (.builtin "list.extend.loop" ⟨[.ref (N + 5), .ref (N + 4), res], []⟩)) _ _ _
  refine wpAny_bind (wpAny_rule (wpAny_bind ?_))
  show wpAny _ A.in1 (updateSeq (N + 5) (·.push .none) >>= fun _ => updateSeq (N + 5) (·.pop)) _ _ _
  refine wpAny_bind (wpAny_updateSeq hS rfl ?_)
  have u1 := Heap.get?_update_self (Obj.mapSeq (·.push Value.none)) hS rfl
  refine wpAny_updateSeq (hz := by seq_fits) u1 rfl ?_
  have u2 := Heap.get?_update_self (Obj.mapSeq (·.pop)) u1 rfl
  have oth : ∀ (b : Nat) o, b ≠ N + 5 → s.heap.get? b = some o → ((s.heap.update (N + 5) (Obj.mapSeq (·.push Value.none))).update (N + 5) (Obj.mapSeq (·.pop))).get? b = some o :=
    fun b o hb e => (Heap.get?_update_other _ _ (Ne.symm hb)).trans ((Heap.get?_update_other _ _ (Ne.symm hb)).trans e)
  refine wpAny_pure ⟨plainId_quiet PySem.F.plain_extend_loop _, zl_loop (h0 := s.heap) hh hl ht hx hy h1 hn res fin n 0 _ s.toks _ #[] [] (Nat.sub_zero _) (Nat.zero_le _) (z.keep hl ht oth) (fun b o hb e => oth b o (by omega) e) u2 rfl rfl
    ⟨List.Pairwise.nil, (fun _ ha => nomatch ha), (fun j a hj => by simp at hj)⟩⟩
theorem zl_init {R : Result → Shared → Prop} (hh : A.handled = none) (z : ZS s.heap N l t xs ys 0) (zi : IsZip s.heap (N + 4) (N + 2) (N + 3) .none) (hl : l < N) (ht : t < N) (hx : xs.size = n) (hy : ys.size = n) (h1 : 1 ≤ n) (hn : n ≤ 1000)
    (hS : s.heap.get? (N + 5) = some { cls := .type "list", data := .seq #[] })
    (fin : ∀ g tk acc c as, (∀ (b : Nat) o, b < N → s.heap.get? b = some o → g.get? b = some o) → g.get? (N + 5) = some { cls := .type "list", dict := none, data := .seq acc c, slots := #[] } → as.length = n → ZG g N xs ys as → acc.toList = as.map Value.ref → R (.ok (.ret .none)) { s with heap := g, toks := tk }) :
    wpAny (model prog w) A.in1 (Builtin.«list.__init__» ⟨[.ref (N + 5), .ref (N + 4)], []⟩)
      (fun e s' => match e with | .done f => R (.ok f) s' | .again c' => c'.quiet = true ∧ codeAny (model prog w) A c' R s') (fun e s' => R (.error e) s') s := by
  show wpAny _ _ (do let old ← Builtin.List.listItems (.ref (N + 5)); Builtin.List.listUpdate (.ref (N + 5)) (fun _ => #[]); letGo old.toList.reverse; Builtin.List.listExtendWith (.ref (N + 5)) (.ref (N + 4)) .none) _ _ s
  refine wpAny_bind ?_
  unfold Builtin.List.listItems
  refine wpAny_bind (wpAny_seqItems hS rfl (wpAny_pure ?_))
  show wpAny _ _ (updateSeq (N + 5) (fun _ => #[]) >>= fun _ => letGo (#[] : Array Value).toList.reverse >>= fun _ => Builtin.List.listExtendWith (.ref (N + 5)) (.ref (N + 4)) .none) _ _ s
  refine wpAny_bind (wpAny_updateSeq hS rfl ?_)
  have u1 := Heap.get?_update_self (Obj.mapSeq (fun _ => (#[] : Array Value))) hS rfl
  have oth : ∀ (b : Nat) o, b ≠ N + 5 → s.heap.get? b = some o → (s.heap.update (N + 5) (Obj.mapSeq (fun _ => (#[] : Array Value)))).get? b = some o := fun b o hb e => (Heap.get?_update_other _ _ (Ne.symm hb)).trans e
  refine wpAny_bind (wpAny_letGo ?_)
  exact zl_extend (s := { s with heap := s.heap.update (N + 5) (Obj.mapSeq (fun _ => (#[] : Array Value))) }) hh (z.keep hl ht oth) (oth _ _ (by omega) zi) hl ht hx hy h1 hn .none _ u1 fun g tk acc c as k a b d e => fin g tk acc c as (fun q o hq x => k q o hq (oth q o (by omega) x)) a b d e
/-- list(zip(..)), both parts there at s -/
theorem zl_call {Q : Value → Shared → Prop} (hh : A.handled = none) (z : ZS s.heap N l t xs ys 0) (zi : IsZip s.heap (N + 4) (N + 2) (N + 3) .none) (hN : s.heap.objs.size = N + 5) (hl : l < N) (ht : t < N) (hx : xs.size = n) (hy : ys.size = n) (h1 : 1 ≤ n) (hn : n ≤ 1000)
    (fin : ∀ g tk acc c as, (∀ (b : Nat) o, b < N → s.heap.get? b = some o → g.get? b = some o) → g.get? (N + 5) = some { cls := .type "list", dict := none, data := .seq acc c, slots := #[] } → as.length = n → ZG g N xs ys as → acc.toList = as.map Value.ref → Q (.ref (N + 5)) { s with heap := g, toks := tk }) :
    wpAny (model prog w) A (call (.type "list") [.ref (N + 4)]) Q E s := by
  refine callType_codes (Q₁ := fun obj s1 => obj = .ref (N + 5) ∧ s1 = { s with heap := s.heap.push { cls := .type "list", data := .seq #[] } }) PySem.F.called_list (PySem.F.typeCall_list_1 _) PySem.F.entry_list_init
    (code_list_new _ (by rw [hN]; exact ⟨rfl, rfl⟩)) fun obj s1 q1 => ?_
  obtain ⟨rfl, rfl⟩ := q1
  have hS : (s.heap.push { cls := .type "list", data := .seq #[] }).get? (N + 5) = some { cls := .type "list", data := .seq #[] } := by rw [← hN]; exact Heap.get?_push_size _ rfl
  refine ⟨⟨_, hS, rfl⟩, PySem.F.args_list_init_2 _ _, zl_init (A := A.in1) hh (z.keep hl ht fun b o _ e => Heap.get?_push_of_some _ e) (Heap.get?_push_of_some _ zi) hl ht hx hy h1 hn hS fun g tk acc c as k a b d e => ?_⟩
  exact ⟨rfl, fin g tk acc c as (fun q o hq x => k q o hq (Heap.get?_push_of_some _ x)) a b d e⟩
end
end ZL

set_option Elab.async false
set_option linter.all false
set_option maxRecDepth 100000
set_option maxHeartbeats 1000000
namespace ZL
open PySem PySem.Spec PyProof.Rows L2 LiI
def rZipL (K : PySem.W.Frag) : List V → Hp → VK → Prop := fun vs H Q => ∃ (a b : Addr) (ks : List Key) (zs : List V), vs = [.ref a, .ref b] ∧ SqL K H a (ks.map kV) ∧ SqT K H b zs ∧ ks.length = zs.length ∧ 1 ≤ ks.length ∧ ks.length ≤ 1000 ∧
  ∀ (H' : Hp) (p : Addr) (ts : List Addr), (∀ b o, H b = some o → H' b = some o) → H p = none → (∀ t ∈ ts, H t = none) → p ∉ ts → H' p = some (.lst (ts.map V.ref)) → Paired (fun (t : Addr) (q : Key × V) => H' t = some (.tup [kV q.1, q.2])) ts (ks.zip zs) → Q (.ref p) H'
section
variable {X : Cx} {pins : List (Addr × Obj)} {σ : L2.St} {H : Hp} {s : Shared}
theorem laid2 {g : Heap} {tk : Nat} {xs ys : List Value} {ks : List Key} {zs : List V} {acc : Array Value} {c : Nat} {as : List Addr} {N : Nat} (I : Inv X pins σ H s) (hN : s.heap.objs.size = N) (hx : Vals (ks.map kV) xs) (hy : Vals zs ys) (el : ks.length = zs.length) (hz : ks.length ≤ 1000)
    (hk : ∀ b o, s.heap.get? b = some o → g.get? b = some o) (hS : g.get? (N + 5) = some { cls := .type "list", dict := none, data := .seq acc c, slots := #[] }) (hl : as.length = ks.length) (hG : ZG g N xs.toArray ys.toArray as) (hacc : acc.toList = as.map Value.ref) :
    ∃ H' : Hp, (∀ b o, H b = some o → H' b = some o) ∧ H (N + 5) = none ∧ (∀ t ∈ as, H t = none) ∧ (N + 5 : Nat) ∉ as ∧ H' (N + 5) = some (.lst (as.map V.ref)) ∧ Paired (fun (t : Addr) (q : Key × V) => H' t = some (.tup [kV q.1, q.2])) as (ks.zip zs) ∧ Inv X pins σ H' { s with heap := g, toks := tk } := by
  have kl : (ks.zip zs).length = ks.length := by rw [List.length_zip, ← el, Nat.min_self]
  have Sn : (N + 5 : Nat) ∉ as := fun q => Nat.lt_irrefl _ (hG.above _ q)
  have nd : as.Nodup := List.Pairwise.imp (fun {a b} (h : (a : Nat) < b) => Nat.ne_of_lt h) hG.rise
  have new : ∀ t ∈ as, H t = none := fun t ht => I.hok.fresh (by
    have := hG.above t ht
    show s.heap.objs.size ≤ t
    omega)
  have newS : H (N + 5) = none := I.hok.fresh (by rw [hN]; exact Nat.le_add_right _ _)
  have atP := putT_at as (ks.zip zs) (upd H (N + 5) (.lst (as.map V.ref))) (by omega) nd
  have off : ∀ b, b ∉ as → b ≠ N + 5 → putT (upd H (N + 5) (.lst (as.map V.ref))) as (ks.zip zs) b = H b := fun b q1 q2 => by rw [putT_off as (ks.zip zs) _ q1, upd_ne q2]
  have low : ∀ b o, s.heap.get? b = some o → b ∉ as ∧ b ≠ N + 5 := fun b o e => by
    have lb : Nat.lt b N := by rw [← hN]; exact Heap.lt_size e
    exact ⟨fun q => absurd (Nat.lt_trans (hG.above b q) lb) (by omega), fun q => absurd (show Nat.lt (N + 5) N by rw [← q]; exact lb) (Nat.not_lt.mpr (Nat.le_add_right _ _))⟩
  have kp : ∀ b u, H b = some u → (putT (upd H (N + 5) (.lst (as.map V.ref))) as (ks.zip zs)) b = some u := fun b u e => by
    rw [off b (fun q => by rw [new b q] at e; cases e) (fun q => by rw [q, newS] at e; cases e)]; exact e
  have eS : putT (upd H (N + 5) (.lst (as.map V.ref))) as (ks.zip zs) (N + 5) = some (.lst (as.map V.ref)) := by rw [putT_off as (ks.zip zs) _ Sn, upd_same]
  refine ⟨_, kp, newS, new, Sn, eS, atP, ?_⟩
  refine I.call' (ch := []) rfl ⟨fun b o q _ _ _ => hk b o q, fun b o q _ _ _ => ⟨o.slots, hk b o q⟩, fun b o q n _ => ?_, fun b o q _ => ⟨o, hk b o q⟩, fun b xs q => kp b _ q, fun b o u q => kp b _ q, fun b ps q => ⟨#[], by rw [kp b _ q]; simp⟩⟩ (fun b u q => ?_) I.bare fun b z => by simp at z
  · obtain ⟨z1, z2⟩ := low b o q
    rw [off b z1 z2]; exact n
  · by_cases hb : b ∈ as
    · obtain ⟨j, pk, e1, e2, e3⟩ := paired_ix atP hb
      rw [e3] at q
      cases q
      obtain ⟨x, y, f1, f2, f3⟩ := hG.pairs j b e1
      have kz : ks[j]? = some pk.1 ∧ zs[j]? = some pk.2 := by
        rw [List.getElem?_zip_eq_some] at e2
        exact e2
      obtain ⟨x', g1, r1⟩ := hx.get (i := j) (x := kV pk.1) (by rw [List.getElem?_map, kz.1]; rfl)
      obtain ⟨y', g2, r2⟩ := hy.get kz.2
      rw [show xs.toArray[j]? = xs[j]? by simp, g1] at f1
      rw [show ys.toArray[j]? = ys[j]? by simp, g2] at f2
      cases f1
      cases f2
      exact ⟨by show 2 ≤ sizeLine; decide, [_, _], .cons r1 (.cons r2 .nil), ⟨_, f3, rfl, _, rfl⟩⟩
    · by_cases hb2 : b = N + 5
      · rw [hb2] at q ⊢
        rw [eS] at q
        cases q
        refine ⟨by rw [List.length_map, hl]; exact Nat.le_trans (show ks.length ≤ 5000 by omega) (by decide), acc.toList, c, by rw [hacc]; exact vals_refs as, ?_⟩
        rw [Array.toArray_toList]; exact hS
      · rw [off b hb hb2] at q
        exact (I.hok b u q).stay (fun d v _ y => hk d v y) (fun d y => kp d _ y) fun d xs y => kp d _ y
theorem pe_listZip {e1 e2 : Expr} {ta : TA} {p p2 pos pos2 : Pos} (hc : X.calm = true) (ha : PA X [e1, e2] ta) (hgl : Gl X "list") (hml : X.mg "list" = none) (hgz : Gl X "zip") (hmz : X.mg "zip" = none)
    (bl : bootBuiltins "list" = some (.type "list") := by decide +kernel) (bz : bootBuiltins "zip" = some (.type "zip") := by decide +kernel)
    (hs : starEach [.Call (.Name "zip" p2) [e1, e2] [] pos2] X.env = (false, eval (.Call (.Name "zip" p2) [e1, e2] [] pos2) X.env) :: starEach [] X.env := by rfl)
    (hs2 : starEach [e1, e2] X.env = (false, eval e1 X.env) :: starEach [e2] X.env := by rfl) (hp2 : (backTo pos2 (starEach [e2] X.env)).any (·.1) = false := by rfl) :
    PE X (.Call (.Name "list" p) [.Call (.Name "zip" p2) [e1, e2] [] pos2] [] pos) (fun σ H Q => ta σ H fun vs H1 => rZipL X.K vs H1 Q) := by
  refine ⟨fun pins s σ H Q I h => ?_⟩
  refine wpAny_Call_Name_kw (ld_blt I hgl hml bl ?_)
  refine PyProof.Rows.callWith_type1 ?_ hs rfl
  rw [hs]
  show wpAny _ _ (spliced ((false, eval (.Call (.Name "zip" p2) [e1, e2] [] pos2) X.env) :: backTo pos (starEach [] X.env))) _ _ s
  refine Calls.spliced_cons ?_
  refine wpAny_Call_Name_kw (ld_blt I hgz hmz bz ?_)
  refine PyProof.Rows.callWith_type1 (thn (ha.run pos2 pins s σ H _ I h) fun us s1 ⟨vs, H1, I1, r1, q1⟩ => ?_) hs2 hp2
  obtain ⟨a, b, ks, zs, ev, qa, qb, el, l1, l2, q⟩ := q1
  subst ev
  cases r1 with
  | cons r rr =>
    cases rr with
    | cons r' rr =>
      cases rr
      cases r
      cases r'
      obtain ⟨its, rv, pa, _⟩ := I1.list qa
      obtain ⟨its2, rv2, pb, _⟩ := I1.tuple qb
      have la : Nat.lt a s1.heap.objs.size := pa.lt
      have lb : Nat.lt b s1.heap.objs.size := pb.lt
      have n1 : its.toArray.size = ks.length := by rw [List.size_toArray, ← rv.length, List.length_map]
      have n2 : its2.toArray.size = ks.length := by rw [List.size_toArray, ← rv2.length, el]
      refine zip_begins2 (begins_list a its.toArray) (begins_tuple b its2.toArray) pa.isList pb fun g hz hT hO g1 g2 gs gk => ?_
      refine Calls.spliced_nil ?_
      have st : ZS g s1.heap.objs.size a b its.toArray its2.toArray 0 := ⟨hT, ⟨_, g1, rfl, rfl⟩, ⟨_, g2, rfl, rfl⟩, pa.isList.at fun o e => gk _ o e, (show s1.heap.IsTuple b its2.toArray from pb).at fun o e => gk _ o e, .inl ⟨rfl, hz, hO⟩⟩
      refine zl_call (s := { s1 with heap := g }) (I1.ok.hd hc) st hz gs la lb n1 n2 l1 l2 fun g' tk acc c as k hS hl hG hacc => ?_
      obtain ⟨H', k1, k2, k3, k4, k5, k6, J⟩ := laid2 (tk := tk) I1 rfl rv rv2 el l2 (fun d o e => k d o (Heap.lt_size e) (gk d o e)) hS hl hG hacc
      exact ⟨.ref _, H', J, rfl, q H' _ as k1 k2 k3 k4 k5 k6⟩
end
end ZL

set_option Elab.async false
set_option linter.all false
set_option maxRecDepth 100000
set_option maxHeartbeats 1000000
namespace K4
open PySem PySem.Spec PyProof.Rows L2
abbrev sValue : Stmt := topS 18
abbrev sWorst : Stmt := topS 19
theorem scValue : FnScope ["whole", "words", "some", "own", "name", "times"] ["whole", "words", "some"] (defScope sValue) := ⟨rfl, rfl, rfl, by decide +kernel, rfl, by decide +kernel, by decide +kernel⟩
theorem scWorst : FnScope ["first", "second", "words", "every", "some"] ["first", "second", "words", "every"] (defScope sWorst) := ⟨rfl, rfl, rfl, by decide +kernel, rfl, by decide +kernel, by decide +kernel⟩
theorem merge_enc : ∀ {l m : Tms}, (nms m).Nodup → mergeK (enc m) (enc l) = enc (fst1 m l) ∧ (nms (fst1 m l)).Nodup
  | [], m, h => ⟨rfl, h⟩
  | p :: l, m, h => by
    have ih := merge_enc (l := l) (nd_put (n := p.1) (k := p.2) h)
    refine ⟨?_, ih.2⟩
    rw [show fst1 m (p :: l) = fst1 (put m p.1 p.2) l from rfl, ← ih.1, ← enc_put p.1 p.2 m h]
    rfl
theorem mem_put_of {n j : Str} {k : Int} {m : Tms} (h : j = n ∨ j ∈ nms m) : j ∈ nms (put m n k) := by
  rw [nms_put]
  by_cases e : n ∈ nms m
  · rw [if_pos e]
    rcases h with h | h
    · rw [h]; exact e
    · exact h
  · rw [if_neg e]
    rcases h with h | h
    · rw [h]; exact List.mem_append_right _ (List.mem_cons_self ..)
    · exact List.mem_append_left _ h
theorem mem_fst1 : ∀ {l m : Tms} {j : Str}, j ∈ nms m ∨ j ∈ nms l → j ∈ nms (fst1 m l)
  | [], m, j, e => e.elim id fun e => nomatch e
  | p :: l, m, j, e => by
    rw [show fst1 m (p :: l) = fst1 (put m p.1 p.2) l from rfl]
    refine mem_fst1 ?_
    rcases e with e | e
    · exact .inl (mem_put_of (.inr e))
    · rcases List.mem_cons.mp (show j ∈ p.1 :: nms l from e) with e | e
      · exact .inl (mem_put_of (.inl e))
      · exact .inr e
theorem nms_zip : ∀ {ws : List Str} {xs : List Int}, ws.length = xs.length → nms (ws.zip xs) = ws
  | [], [], _ => rfl
  | w :: ws, x :: xs, h => by
    show w :: nms (ws.zip xs) = _
    rw [nms_zip (Nat.succ.inj h)]
theorem zip_enc : ∀ (ws : List Str) (xs : List Int), (ws.map (Sum.inr : Str → Key)).zip (xs.map V.int) = enc (ws.zip xs)
  | [], _ => rfl
  | _ :: _, [] => rfl
  | w :: ws, x :: xs => by
    show (Sum.inr w, V.int x) :: (ws.map (Sum.inr : Str → Key)).zip (xs.map V.int) = (Sum.inr w, V.int x) :: enc (ws.zip xs)
    rw [zip_enc ws xs]
section
variable {P : Program} {w : World} {K : PySem.W.Frag} {mg : Str → Option Value} {base : Heap}
def spValue : Sp := fun vs H Q _ => ∃ (v : V) (p a : Addr) (cn : Cnt) (ws : List Str) (xs : List Int), vs = [v, .ref p, .ref a] ∧ IsC H v cn ∧ CntOk ws cn ∧ H p = some (.lst (ws.map V.str)) ∧ H a = some (.tup (xs.map V.int)) ∧ ws.length = xs.length ∧ 1 ≤ ws.length ∧ ws.length ≤ 3 ∧ ws.Nodup ∧
  ∀ H', Same H H' → Q (.int (val cn (rho ws xs))) H'
structure TxV (mg : Str → Option Value) : Prop where
  dict : mg "dict" = none
  list : mg "list" = none
  zip : mg "zip" = none
  sum : mg "sum" = none
def rDict (K : PySem.W.Frag) : List V → Hp → VK → Prop := fun xs H Q => ∃ (a : Addr) (ps : List Addr) (kvs : List (Key × V)), xs = [.ref a] ∧ SqL K H a (ps.map V.ref) ∧ Paired (fun p kv => SqT K H p [kV kv.1, kv.2]) ps kvs ∧ ∀ p, H p = none → Q (.ref p) (upd H p (.dK (mergeK [] kvs)))
/-- dict(list(zip(ws, xs))) -/
theorem dict_zip {H : Hp} {Q : VK} {p a : Addr} {ws : List Str} {xs : List Int} {σ : L2.St} (hp : H p = some (.lst (ws.map V.str))) (ha : H a = some (.tup (xs.map V.int))) (el : ws.length = xs.length) (l1 : 1 ≤ ws.length) (l3 : ws.length ≤ 3) (nd : ws.Nodup)
    (q : ∀ (d : Addr) (H' : Hp) (m : Tms), Same H H' → H d = none → H' d = some (.dK (enc m)) → (∀ n, coef m n = rho ws xs n) → (∀ n ∈ ws, n ∈ nms m) → Q (.ref d) H') :
    ZL.rZipL K [.ref p, .ref a] H fun y H1 => tNil σ H1 fun ys H2 => rDict K (y :: ys) H2 Q := by
  refine ⟨p, a, ws.map Sum.inr, xs.map V.int, rfl, .inl (.inl ?_), .inl (.inl ha), by rw [List.length_map, List.length_map]; exact el, by rw [List.length_map]; exact l1, by rw [List.length_map]; omega, fun H1 r ts k1 nr nts nrt hr pr => ?_⟩
  · rw [hp, List.map_map]; rfl
  · rw [zip_enc] at pr
    have sq : ∀ {ps : List Addr} {l : List (Key × V)}, Paired (fun p (kv : Key × V) => H1 p = some (.tup [kV kv.1, kv.2])) ps l → Paired (fun p kv => SqT K H1 p [kV kv.1, kv.2]) ps l := fun h => by
      induction h with
      | nil => exact .nil
      | cons h r ih => exact .cons (.inl (.inl h)) ih
    refine ⟨r, ts, enc (ws.zip xs), rfl, .inl (.inl hr), sq pr, fun d nd' => ?_⟩
    have mo := merge_enc (l := ws.zip xs) (m := []) List.nodup_nil
    have eM : mergeK [] (enc (ws.zip xs)) = enc (fst1 [] (ws.zip xs)) := mo.1
    rw [eM]
    have s1 : Same H H1 := k1
    have ndH : H d = none := by
      cases e : H d with
      | none => rfl
      | some o => rw [s1 _ _ e] at nd'; cases nd'
    refine q d _ (fst1 [] (ws.zip xs)) (s1.trans (same_upd nd')) ndH upd_same (fun n => ?_) fun n hn => mem_fst1 (.inr (by rw [nms_zip el]; exact hn))
    rw [coef_fst1 n (ws.zip xs) [] (by rw [nms_zip el]; exact nd) (fun k _ q => by cases q)]
    show coef [] n + coef (ws.zip xs) n = coef (ws.zip xs) n
    have : coef [] n = 0 := rfl
    omega
theorem dict_zipN {H : Hp} {Q : VK} {p a : Addr} {ws : List Str} {xs : List Int} {σ σ2 : L2.St} (hp : H p = some (.lst (ws.map V.str))) (ha : H a = some (.tup (xs.map V.int))) (el : ws.length = xs.length) (l1 : 1 ≤ ws.length) (l3 : ws.length ≤ 3) (nd : ws.Nodup)
    (q : ∀ (d : Addr) (H' : Hp) (m : Tms), Same H H' → H d = none → H' d = some (.dK (enc m)) → (∀ n, coef m n = rho ws xs n) → (∀ n ∈ ws, n ∈ nms m) → Q (.ref d) H') :
    tNil σ2 H fun zs H0 => ZL.rZipL K (V.ref p :: V.ref a :: zs) H0 fun y H1 => tNil σ H1 fun ys H2 => rDict K (y :: ys) H2 Q :=
  dict_zip hp ha el l1 l3 nd q
theorem ok_value {f : Addr} {fd : FuncData} (F : Fun K "_law_value" "_law_value" sValue f fd) (T : TxV mg) : FnOk P w K mg base CX0 1 f fd ["whole", "words", "some"] spValue := by
  refine F.ok scValue (fun vs H Q E h => ?_) (fun cdv A outer s0 H vs Q E hr h => ?_)
  · obtain ⟨v, p, a, cn, ws, xs, rfl, _⟩ := h
    rfl
  · obtain ⟨v, p, a, cn, ws, xs, rfl, hC, hO, hp, ha, el, l1, l3, nd, q⟩ := h
    have hu := hu_of hr
    refine ⟨_, pss_cons (ps_set (i := 3) scValue.nd rfl (.inr rfl) (pe_callTy (r := rDict K) (call_dictP rfl) (by rfl) T.dict (by decide +kernel) (pa_cons (ZL.pe_listZip rfl (pa_cons (pv 1) (pa_cons (pv 2) pa_nil)) (by rfl) T.list (by rfl) T.zip) pa_nil)))
      (pss_one (ps_ret (pe_op op_add (pe_ix ix_tup (pv 0) pe_int (fun _ _ => rfl)) (pe_callB (cr_sum rfl) (by rfl) T.sum (by decide +kernel)
        (pa_cons (pe_lc (own := [("name", 4), ("times", 5)]) (g := gTup K 2 (gCons (gName 4) (gCons (gName 5) gNil))) (tt := tYes) rfl scValue.nd (pi_tup (pe_ix ix_tup (pv 0) pe_int (fun _ _ => rfl))) (blkOk_by (N := ["whole", "words", "some", "own", "name", "times"]) (sc := defScope sValue) (by decide +kernel))
          (fun _ _ _ _ _ => pg_tup rfl (pgs_cons (pg_name (i := 4) scValue.nd rfl (.inl rfl)) (pgs_cons (pg_name (i := 5) scValue.nd rfl (.inl rfl)) pgs_nil))) (fun _ _ _ _ _ => pts_nil)
          (fun _ _ _ _ _ => pe_op op_mul (pv 5) (pe_dget hu (pv 3) (pv 4) (fun _ _ => rfl)))) pa_nil))))), ?_⟩
    refine ⟨_, rfl, _, rfl, ?_⟩
    refine dict_zipN hp ha el l1 l3 nd fun d H1 m s1 ndH hd hco hmem => ?_
    obtain ⟨b, t, ts, rfl, hb, ht, hT⟩ := hC.kt (Kt.of_same s1)
    refine ⟨_, rfl, b, _, _, .int cn.1, rfl, rfl, .inl (.inl hb), rfl, ?_⟩
    refine ⟨_, rfl, b, _, _, .ref t, rfl, rfl, .inl (.inl hb), rfl, t, rfl, ⟨_, .inl (.inl ht)⟩, fun D nD => ?_⟩
    refine lc_tup (K := K) (a := t) (xs := ts) (fun i H' => Same H1 H' ∧ H' D = some (.lst (((cn.2.take i).map fun p => p.2 * rho ws xs p.1).map V.int))) ⟨same_upd nD, upd_same⟩ (fun i H' hi h => .inl (.inl (h.1 _ _ ht))) (fun i x H' hx h => ?_) (fun H' h => ?_)
    · obtain ⟨sm, hD⟩ := h
      obtain ⟨pp, hpp, c, rfl, hc⟩ := hT.at hx
      refine ⟨c, _, rfl, .inl (.inl (sm _ _ hc)), rfl, _, _, rfl, _, _, rfl, rfl, rfl, ?_⟩
      have hp1 := hO.good.lo pp (List.mem_of_getElem? hpp)
      have hin : pp.1 ∈ nms m := hmem _ (hO.sub _ (List.mem_map_of_mem (List.mem_of_getElem? hpp)))
      refine ⟨_, rfl, _, rfl, _, rfl, d, .int (coef m pp.1), rfl, dget_enc (sm _ _ hd) hin, _, _, rfl, rfl, .inl ⟨by omega, by omega⟩, _, hD, ?_, ?_⟩
      · rw [List.length_map, List.length_map, List.length_take]
        have := hO.good.few
        exact lt_size (by omega)
      · refine ⟨fun b' o e => ?_, ?_⟩
        · rw [upd_ne (ne_of_none e nD)]; exact sm _ _ e
        · rw [upd_same, take_snoc hpp, List.map_append, List.map_append, hco]; rfl
    · obtain ⟨sm, hD⟩ := h
      have e1 : cn.2.take ts.length = cn.2 := List.take_of_length_le (by rw [hT.1]; exact Nat.le_refl _)
      rw [e1] at hD
      exact ⟨D, _, rfl, .inl (.inl hD), _, _, rfl, rfl, q H' (s1.trans sm)⟩
end
end K4

set_option Elab.async false
set_option linter.all false
set_option maxRecDepth 100000
set_option maxHeartbeats 1000000
namespace K4
open PySem PySem.Spec PyProof.Rows L2
theorem find_at {α : Type} {p : α → Bool} {l : List α} {i : Nat} {x : α} (h : l[i]? = some x) (hp : p x = true) (no : ∀ y ∈ l.take i, p y = false) : l.find? p = some x := by
  have e : l = l.take i ++ x :: l.drop (i + 1) := by rw [← drop_at h, List.take_append_drop]
  rw [e, List.find?_append, List.find?_eq_none.mpr (fun y hy => by rw [no y hy]; exact Bool.false_ne_true), List.find?_cons_of_pos hp]
  rfl
section
variable {P : Program} {w : World} {K : PySem.W.Frag} {mg : Str → Option Value} {base : Heap}
def spWorst : Sp := fun vs H Q _ => ∃ (v u : V) (p e : Addr) (c o : Cnt) (ws : List Str), vs = [v, u, .ref p, .ref e] ∧ IsC H v c ∧ IsC H u o ∧ CntOk ws c ∧ CntOk ws o ∧ H p = some (.lst (ws.map V.str)) ∧ 1 ≤ ws.length ∧ ws.length ≤ 3 ∧ ws.Nodup ∧ GridAt H e (grid ws.length) ∧
  (worst ws c o = none → ∀ H', Same H H' → Q .non H') ∧ (∀ xs, worst ws c o = some xs → ∀ H' r, Same H H' → IsX H' r xs → Q r H')
theorem ok_worst {f fV : Addr} {fd dV : FuncData} (F : Fun K "_law_worst" "_law_worst" sWorst f fd) (FV : Fun K "_law_value" "_law_value" sValue fV dV) (bV : Binds K dV ["whole", "words", "some"] []) (gV : mg "_law_value" = some (.ref fV)) (T : TxV mg) :
    FnOk P w K mg base CX0 2 f fd ["first", "second", "words", "every"] spWorst := by
  have GV : FnOk P w K mg base CX0 1 fV dV ["whole", "words", "some"] spValue := ok_value FV T
  refine F.ok scWorst (fun vs H Q E h => ?_) (fun cdv A outer s0 H vs Q E hr h => ?_)
  · obtain ⟨v, u, p, e, c, o, ws, rfl, _⟩ := h
    rfl
  · obtain ⟨v, u, p, e, c, o, ws, rfl, hC, hO, kC, kO, hp, l1, l3, nd, ⟨gs, he, hX⟩, q0, q1⟩ := h
    refine ⟨_, pss_cons (ps_for PassesOwn.never rfl (pi_list (pv 3)) (pg_name (i := 4) scWorst.nd rfl (.inl rfl))
        (pss_one (ps_if (pt_cmpR op_gt (pe_call GV hr (by rfl) gV FV.kp bV .nil pass0 (pa_cons (pv 0) (pa_cons (pv 2) (pa_cons (pv 4) pa_nil)))) (pe_call GV hr (by rfl) gV FV.kp bV .nil pass0 (pa_cons (pv 1) (pa_cons (pv 2) (pa_cons (pv 4) pa_nil)))) (nomark _)) (pss_one (ps_ret (pv 4))) pss_nil)))
      (pss_one (ps_ret pe_non)), ?_⟩
    refine ⟨_, rfl, e, rfl, ⟨_, .inl (.inl he)⟩, ?_⟩
    refine for_list (K := K) (a := e) (xs := gs) (fun i σ H' => ∃ x4 : Option V, σ = [some v, some u, some (.ref p), some (.ref e), x4] ∧ Same H H' ∧ ∀ ys ∈ (grid ws.length).take i, decide (val c (rho ws ys) > val o (rho ws ys)) = false)
      ⟨none, rfl, Same.refl H, fun ys h => by cases h⟩ (fun i σ H' hi h => by obtain ⟨_, _, sm, _⟩ := h; exact .inl (.inl (sm _ _ he))) (fun i x σ H' hx h => ?_) (fun σ H' h => ?_)
    · obtain ⟨x4, rfl, sm, no⟩ := h
      obtain ⟨xs, hxs, a, rfl, ha⟩ := hX.at hx
      have xl : ws.length = xs.length := (mem_grid.mp (List.mem_of_getElem? hxs)).1.symm
      refine ⟨_, rfl, _, rfl, _, rfl, v, p, a, c, ws, xs, rfl, hC.kt (Kt.of_same sm), kC, sm _ _ hp, sm _ _ ha, xl, l1, l3, nd, fun H1 s1 => ?_⟩
      have sm1 := sm.trans s1
      refine ⟨_, rfl, _, rfl, _, rfl, u, p, a, o, ws, xs, rfl, hO.kt (Kt.of_same sm1), kO, sm1 _ _ hp, sm1 _ _ ha, xl, l1, l3, nd, fun H2 s2 => ?_⟩
      have sm2 := sm1.trans s2
      refine ⟨_, _, rfl, rfl, _, rfl, ite2 (fun hg => ?_) (fun hg => ?_)⟩
      · exact ⟨_, rfl, q1 xs (find_at hxs hg no) H2 _ sm2 ⟨a, rfl, sm2 _ _ ha⟩⟩
      · refine ⟨_, rfl, sm2, fun ys hy => ?_⟩
        rw [take_snoc hxs] at hy
        rcases List.mem_append.mp hy with h | h
        · exact no ys h
        · rw [List.mem_singleton] at h
          subst h
          cases z : decide (val c (rho ws ys) > val o (rho ws ys)) with
          | false => rfl
          | true => exact absurd z hg
    · obtain ⟨x4, rfl, sm, no⟩ := h
      rw [List.take_of_length_le (by rw [hX.1]; exact Nat.le_refl _)] at no
      exact q0 (List.find?_eq_none.mpr fun ys hy => by rw [no ys hy]; exact Bool.false_ne_true) H' sm
end
end K4

set_option Elab.async false
set_option linter.all false
set_option maxRecDepth 100000
set_option maxHeartbeats 4000000
/-! repr of data, and the defs in which it is called: there no repr may be on its way, so what stands around a call must say so. -/
namespace KG
open PySem PySem.Spec PyProof.Rows L2

def shows : PyData → Bool
  | .list _ => true
  | .tuple _ => true
  | _ => false
def rRepr (K : PySem.W.Frag) : List V → Hp → VK → Prop := fun xs H Q => ∃ x d, xs = [x] ∧ Dp K H x d ∧ shows d = true ∧ SeqAt.shaped d = true ∧ d.showable = true ∧ d.shown.length ≤ sizeLine ∧ Q (.str d.shown) H
theorem call_reprD {X : Cx} (hg : X.A.guards = some []) (hu : X.A.units + 66 < cLine) : CallR X (.builtin "repr") (rRepr X.K) := by
  intro pins s σ H xs us Q I r h
  obtain ⟨x, d, rfl, hd, h1, h2, h3, h4, q⟩ := h
  obtain ⟨u, rfl, rx⟩ := vals1 r
  have hs : (PyData.canLay0 d && decide (PyData.depth d ≤ 64)) = true := h2
  rw [Bool.and_eq_true] at hs
  have hdep : d.depth ≤ 64 := of_decide_eq_true hs.2
  obtain ⟨as, hr⟩ := Dp.reads I d x u hd rx
  have hx : ∃ a, u = .ref a := by
    cases hd with
    | non => cases h1
    | bl b => cases h1
    | int i => cases h1
    | str z => cases h1
    | lst _ _ => exact ⟨_, rx⟩
    | tup _ _ => exact ⟨_, rx⟩
  obtain ⟨a, rfl⟩ := hx
  refine repr_of_reads' hr h3 (PyData.noDict_hsm (PyData.hasDict_of_canLay d hs.1)) hg (by omega) (fun _ _ e => e) (fun h' t tk hk => ?_) h4
  exact ⟨.str d.shown, H, I.kept hk, ⟨_, rfl⟩, q⟩

/-! ### a def that is called where no repr is on its way -/
section
variable {P : Program} {w : World} {K : PySem.W.Frag} {mg : Str → Option Value} {base : Heap}
structure FnG (P : Program) (w : World) (K : PySem.W.Frag) (mg : Str → Option Value) (base : Heap) (k : Nat) (f : Addr) (fd : FuncData) (ps : List Str) (sp : Sp) : Prop where
  many : ∀ vs H Q E, sp vs H Q E → vs.length = ps.length
  goes : ∀ (A : Around) (outer : List Env) (s : Shared) (H : Hp) (args : Args) (us : List Value) (vs : List V) (Q : VK) (E : XK), Room k A → A.guards = some [] → Env0 P w K mg base A outer s H → BindsTo s fd args (ps.zip us) → Vals vs us →
    sp vs H Q E → codeAny (model P w) A (.call (.ref f) args) (CR CX0 outer P w H s Q E) s
theorem FnG.of {x qual : Str} {st : Stmt} {f : Addr} {fd : FuncData} {N ps : List Str} {k : Nat} {sp : Sp} (F : Fun K x qual st f fd) (S : FnScope N ps (defScope st)) (len : ∀ vs H Q E, sp vs H Q E → vs.length = ps.length)
    (body : ∀ (cdv : Value) (A : Around) (outer : List Env) (s : Shared) (H : Hp) (vs : List V) (Q : VK) (E : XK), Room k (A.deeper (envOfC qual (defScope st) s.heap.objs.size f cdv)) → A.guards = some [] → sp vs H Q E →
      ∃ t, PSs (cxOf CX0 P w K mg base N qual (defScope st) f cdv A outer s H E).nox (defBody st) t ∧ t { nx := fun _ H' => Q .non H', rt := Q } (start N vs) H) : FnG P w K mg base (k + 1) f fd ps sp := by
  obtain ⟨oc, od, kV, doc, pm, an, cdv, ct, osl, rfl, lk, hcd⟩ := F.ex
  constructor
  · exact len
  · intro A outer s H args us vs Q E room none0 e0 hb r hsp
    have stays : ∀ b o, base.get? b = some o → s.heap.get? b = some o := fun b o e => (e0.bs b o e).1
    have KX : K.In s.heap := e0.mod.kin.keeps stays
    have lim : s.heap.NoLimit := e0.mod.nolimit.keeps stays
    have kinds : ∀ y ∈ ps.zip us, (defScope st).names.lookup y.1 = some .local ∨ ((defScope st).names.lookup y.1 = some .cell ∧ ((cellsFrom (s.heap.objs.size + 1) (defScope st).names []).lookup y.1).isSome = true) := by
      rintro ⟨n, v⟩ hy
      exact (S.par n (List.of_mem_zip hy).1).elim .inl fun q => .inr ⟨q, PySem.W.cellsFrom_some _ _ _ (.inl q)⟩
    refine codeAny_call_function room.depth (KX f _ lk) rfl S.co S.gen rfl (PySem.W.codeRec_of KX hcd) (hb _ _ _ _ (wpAny_newFunctionEnv_cells S.kind kinds fun env he s1 x => ?_))
    subst he
    have hl := len vs H Q E hsp
    obtain ⟨t, ht, hq⟩ := body cdv A outer s H vs Q E (room.deeper _) none0 hsp
    refine ⟨lim.keeps x.toInCall.keep, codeAny_func (wpAny_mono (ht.nox.run [] s1 (start N vs) H _ (inv_start (CX := CX0) (E := E) S room.hd e0 hl r x) hq) (fun fl s' hs => ?_) fun e s' hs => hs)⟩
    cases fl with
    | next =>
      obtain ⟨σ', H', J, q⟩ := hs
      exact ⟨.non, H', J.os, J.bare, J.base, J.hok, rfl, q⟩
    | ret u =>
      obtain ⟨v, σ', H', J, rv, q⟩ := hs
      exact ⟨v, H', J.os, J.bare, J.base, J.hok, rv, q⟩
    | cont => exact hs.elim fun _ h => h.elim fun _ h => h.2.elim
    | brk => exact hs.elim fun _ h => h.elim fun _ h => h.2.elim
section
variable {X : Cx} {k : Nat} {f : Addr} {fd : FuncData} {ps : List Str} {sp : Sp} {x : Str} {p pos : Pos} {e : Expr} {es : List Expr} {t : TA}
/-- f(e, ..), no repr on its way -/
theorem pe_callG (F : FnG X.prog X.w X.K X.mg X.base k f fd ps sp) (hr : Room k X.A) (none0 : X.A.guards = some []) (hg : Gl X x) (hm : X.mg x = some (.ref f)) (hk : PySem.W.keepIn X.K (.ref f) = true) (hb : Binds X.K fd ps []) (ha : PA X (e :: es) t)
    (hdb : (x == ("__debug__" : Str)) = false := by decide) (he : starEach (e :: es) X.env = (false, eval e X.env) :: starEach es X.env := by rfl) (hpl : (backTo pos (starEach es X.env)).any (·.1) = false := by rfl) :
    PE X (.Call (.Name x p) (e :: es) [] pos) (tCall sp [] E0 t) := by
  constructor
  intro pins s σ H Q I h
  refine wpAny_Call_Name_kw (ld_glob I hg hm (PySem.W.callWith_K (h₀ := X.base) I.ok.mod.kin hk (thn (ha.run pos pins s σ H _ I h) ?_) he hpl) hdb)
  rintro us s1 ⟨vs, H1, I1, r, q⟩
  have q' : sp vs H1 Q E0 := by
    have q0 : sp (vs ++ []) H1 Q E0 := q
    rwa [List.append_nil] at q0
  have hl : us.length = ps.length := by rw [← r.length]; exact F.many _ _ _ _ q'
  have hb1 : BindsTo s1 fd ⟨us, []⟩ (ps.zip us) := by
    have := hb s1 us I1.kIn (by rw [List.append_nil]; exact hl)
    rwa [List.append_nil] at this
  refine ⟨I1.kIn, wpAny_call (codeAny_mono (F.goes X.A X.stack s1 H1 ⟨us, []⟩ us vs Q E0 hr none0 I1.env0 hb1 r q') fun res s' hq => ?_)⟩
  match res, hq with
  | .ok (.ret u), hq => exact I1.after hq
end
end

/-! ### the law's end -/
theorem law_end {P : Program} {w : World} {K : PySem.W.Frag} {mg mb : Str → Option Value} {k : Nat} {fa a : Addr} {fd : FuncData} {x : Str} {sp : Sp} {s1 : Shared} {vs : List Value} {ns : List Int}
    (KX : K.In s1.heap) (hns : s1.heap.Ns mainGlobals mg) (hb : s1.heap.Ns builtinsNs mb) (hbb : ∀ x : Str, x ≠ "__name__" → mb x = bootBuiltins x) (hlim : s1.heap.NoLimit) (hg : s1.gens = #[])
    (ha : s1.heap.get? a = some { cls := .type "list", data := .seq vs.toArray }) (hi : IntsAre vs ns) (hl : ns.length ≤ sizeLine) (hr : Room k callerA)
    (F : ∀ base : Heap, K.In base → base.Ns mainGlobals mg → FnG P w K mg base k fa fd [x] sp) (hbind : ∀ (s : Shared) (u : Value), BindsTo s fd ⟨[u], []⟩ [(x, u)])
    (hsp : ∀ H : Hp, Only H → SqL K H a (ns.map V.int) → sp [.ref a] H (fun v _ => v = .bl true) fun _ _ _ => False) :
    codeAny (model P w) callerA (.call (.ref fa) ⟨[.ref a], []⟩) (fun r s' => r = .ok (.ret (.bool true)) ∧ OldK s1.heap s'.heap ∧ s'.os = s1.os ∧ AllBare s'.gens) s1 := by
  -- where the abstract heap holds the script at most
  have main : ∀ H : Hp, Only H → SqL K H a (ns.map V.int) → HOk P w H s1.heap → (∀ b, b ≠ a → H b = none) → (K.lookup a ≠ none → H a = none) →
      codeAny (model P w) callerA (.call (.ref fa) ⟨[.ref a], []⟩) (fun r s' => r = .ok (.ret (.bool true)) ∧ OldK s1.heap s'.heap ∧ s'.os = s1.os ∧ AllBare s'.gens) s1 := by
    intro H hO hS hok off onK
    have dictFree : ∀ {b : Addr} {o : Obj} {es : Array DictEntry} {ep : Nat}, s1.heap.get? b = some o → o.data = .dict es ep → H b = none := by
      intro b o es ep e d
      by_cases hb : b = a
      · rw [hb, ha] at e
        cases e
        cases (show Data.seq vs.toArray _ = Data.dict es ep from d)
      · exact off b hb
    have nsB : ∀ {b : Addr} {m : Str → Option Value}, s1.heap.Ns b m → (hidT s1.heap H).Ns b m := by
      rintro b m ⟨o, es, ep, e, d, r⟩
      exact ⟨o, es, ep, hidT_get e (dictFree e d), d, r⟩
    have kB : K.In (hidT s1.heap H) := by
      intro b o e
      refine hidT_get (KX b o e) ?_
      by_cases hb : b = a
      · subst hb; exact onK (by rw [e]; simp)
      · exact off b hb
    obtain ⟨mc, l1, l2⟩ := hlim
    have e0 : Env0 P w K mg (hidT s1.heap H) callerA [] s1 H := by
      refine ⟨rfl, ⟨kB, nsB hns, ⟨mb, nsB hb, hbb⟩, ⟨mc, nsB l1, l2⟩⟩, fun b o e => of_hidT e, Nat.le_of_eq (hidT_size _ _), trivial, ?_, hok, .of_eq hg⟩
      intro b z
      cases z
    refine codeAny_mono ((F _ kB (nsB hns)).goes callerA [] s1 H ⟨[.ref a], []⟩ [.ref a] [.ref a] _ _ hr rfl e0 (hbind s1 (.ref a)) (.cons rfl .nil) (hsp H hO hS)) ?_
    intro r s' h
    match r, h with
    | .ok (.ret u), h =>
      obtain ⟨v, H', os, bare, un, hok', rv, rfl⟩ := h
      cases (show u = Value.bool true from rv)
      refine ⟨rfl, OldK.of_keep (fun b o e => ?_), os, bare⟩
      rcases hO b with z | ⟨ob, xs, z⟩
      · exact un.keep b o e z (by intro q; cases q) (by simp)
      · have e1 := (hok b _ z).1
        rw [e] at e1
        cases e1
        exact (hok' b _ (un.frzs b _ _ z)).1
  have rv := vals_ints hi
  by_cases hk : K.lookup a = none
  · let H0 : Hp := fun b => if b = a then some (.frz { cls := .type "list", data := .seq vs.toArray } (.lst (ns.map V.int))) else none
    have at0 : H0 a = some (.frz { cls := .type "list", data := .seq vs.toArray } (.lst (ns.map V.int))) := if_pos rfl
    have off0 : ∀ b, b ≠ a → H0 b = none := fun b hb => if_neg hb
    refine main H0 (fun b => ?_) (.inl (.inr ⟨_, at0⟩)) (fun b u z => ?_) off0 (fun z => absurd hk z)
    · by_cases hb : b = a
      · rw [hb]; exact .inr ⟨_, _, at0⟩
      · exact .inl (off0 b hb)
    · by_cases hb : b = a
      · subst hb
        rw [at0] at z
        cases z
        exact ⟨ha, by rw [List.length_map]; exact hl, vs, _, rv, ha⟩
      · rw [off0 b hb] at z; cases z
  · obtain ⟨o, ho⟩ := Option.ne_none_iff_exists'.mp hk
    have e := KX a o ho
    rw [ha] at e
    cases e
    have lenV := hi.length
    refine main (fun _ => none) (fun _ => .inl rfl) (.inr ⟨_, vs.toArray, _, ho, rfl, rfl, rfl, by rw [List.size_toArray, lenV]; exact hl, by simpa using rv⟩) ?_ (fun _ _ => rfl) (fun _ => rfl)
    intro b u z
    cases (show (none : Option HO) = some u from z)

/-- what k_head leaves, from the promise of the law's def -/
theorem walk_end {l : PySem.W.OpenLaw} {n k : Nat} {q : Program} {loose : List Str} {XP : (Str → Option Value) → Heap → Prop} {YP : World → Heap → Prop} {d : DefRec} {K : Params → PySem.W.Frag} {sp : World → Sp} {x : Str}
    (hn : l.most = some n) (hn2 : n ≤ sizeLine) (hdf : d.params.defaults = []) (hr : Room k callerA) (hY : ∀ (w : World) (h : Heap), YP w h → (K w.params).In h)
    (F : ∀ (w : World) (mg : Str → Option Value) (fa : Addr) (h : Heap), (K w.params).In h → h.Ns mainGlobals mg → mg d.name = some (.ref fa) →
      ∃ fd : FuncData, (∀ (s : Shared) (u : Value), BindsTo s fd ⟨[u], []⟩ [(x, u)]) ∧ ∀ base : Heap, (K w.params).In base → base.Ns mainGlobals mg → FnG l.prog w (K w.params) mg base k fa fd [x] (sp w))
    (hsp : ∀ (w : World) (H : Hp) (a : Addr) (ns : List Int), ns.length ≤ n → Only H → SqL (K w.params) H a (ns.map V.int) → sp w [.ref a] H (fun v _ => v = .bl true) fun _ _ _ => False) :
    PySem.W.WalkO q loose XP YP l.row.toRowW d [] (fun f vs => PySem.call f vs) := by
  apply Att.attach_call hn hdf
  intro w s₀ s₁ mg mb fa o pm cd doc a vs ns G Y ho hd hcd hmg hobj hints hlen hg
  have KX := hY w _ Y
  obtain ⟨fd, hb, hF⟩ := F w mg fa _ KX G.T.g hmg
  exact law_end KX G.T.g G.T.b G.T.builtins G.T.nolimit hg hobj hints (Nat.le_trans hlen hn2) hr hF hb (hsp w · a ns hlen)
end KG

set_option Elab.async false
set_option linter.all false
set_option maxRecDepth 100000
set_option maxHeartbeats 1000000
namespace K4
open PySem PySem.Spec PyProof.Rows L2
/-! ### a call by keywords alone -/
section
variable {X : Cx} {CX : CXT} {k : Nat} {f : Addr} {fd : FuncData} {ps ks : List Str} {sp : Sp} {E : XK} {x : Str} {p pos : Pos} {kws : List Keyword} {tk : TA} {g : List Value → List Value → List Value} {gV : List V → List V → List V}
theorem pe_callN0 (F : FnOk X.prog X.w X.K X.mg X.base CX k f fd ps sp) (hr : Room k X.A) (hg : Gl X x) (hm : X.mg x = some (.ref f)) (hk : PySem.W.keepIn X.K (.ref f) = true) (hb : KBn X.K fd ps 0 ks g gV) (hx : Passes CX X E)
    (hkw : PK X kws tk) (hall : (backToKw pos (keywordEach kws X.env)).all (·.1.isSome) = true := by rfl) (hks : (backToKw pos (keywordEach kws X.env)).filterMap (·.1) = ks := by rfl)
    (hdb : (x == ("__debug__" : Str)) = false := by decide)
    (hpl : ((backTo pos (starEach [] X.env)).any (·.1) || (backToKw pos (keywordEach kws X.env)).any (·.1.isNone)) = false := by rfl) :
    PE X (.Call (.Name x p) [] kws pos) (fun σ H Q => tk σ H fun zs H2 => zs.length = ks.length ∧ sp (gV [] zs) H2 Q E) := by
  refine ⟨fun pins s σ H Q I h => ?_⟩
  refine wpAny_Call_Name_kw (ld_glob I hg hm ?_ hdb)
  refine PySem.W.callWith_KW0 (h₀ := X.base) I.ok.mod.kin hk hall (thn (hkw.run pos pins s σ H _ I h) fun ws s2 ⟨zs, H2, I2, rz, l2, q2⟩ => ⟨I2.kIn, ?_⟩) hpl
  rw [hks]
  exact run_fnN F hr hb hx I2 .nil rz rfl l2 q2
end
def td (p : Str × Int) : PyData := .tuple [.str p.1, .int p.2]
def dat (c : Cnt) : PyData := .tuple [.int c.1, .tuple (c.2.map td)]
/-- a name, as the law draws it -/
def NmOk (z : Str) : Prop := z.cps.toList ≠ [] ∧ z.length ≤ 8 ∧ ∀ ch ∈ z.cps.toList, ch < 128
def nmOkB (z : Str) : Bool := !z.cps.toList.isEmpty && decide (z.length ≤ 8) && z.cps.toList.all fun ch => decide (ch < 128)
theorem NmOk.of {z : Str} (h : nmOkB z = true) : NmOk z := by
  unfold nmOkB at h
  rw [Bool.and_eq_true, Bool.and_eq_true] at h
  refine ⟨fun e => ?_, of_decide_eq_true h.1.2, fun ch hc => of_decide_eq_true (List.all_eq_true.mp h.2 ch hc)⟩
  have := h.1.1
  rw [e] at this
  cases this
/-! ### data that repr shows -/
structure Fin1 (d : PyData) (wt dp : Nat) : Prop where
  lay : PyData.canLay0 d = true
  lv : PyData.leavesShort 13 d = true
  sh : PyData.showable d = true
  w : PyData.weight d ≤ wt
  d : PyData.depth d ≤ dp
structure FinL (ds : List PyData) (wt dp : Nat) : Prop where
  lay : PyData.canLayAll0 ds = true
  lv : PyData.leavesShortAll 13 ds = true
  sh : PyData.showableAll ds = true
  w : PyData.weightAll ds ≤ wt
  d : PyData.depthAll ds ≤ dp
theorem fin_nil : FinL [] 0 0 := ⟨rfl, rfl, rfl, Nat.le_refl _, Nat.le_refl _⟩
theorem fin_cons {x : PyData} {r : List PyData} {w1 w2 d1 d2 : Nat} (h : Fin1 x w1 d1) (g : FinL r w2 d2) : FinL (x :: r) (w1 + 1 + w2) (max d1 d2) :=
  ⟨by simp only [PyData.canLayAll0, h.lay, g.lay, Bool.and_true], by simp only [PyData.leavesShortAll, h.lv, g.lv, Bool.and_true], by simp only [PyData.showableAll, h.sh, g.sh, Bool.and_true],
    by have := h.w; have := g.w; simp only [PyData.weightAll]; omega, by have := h.d; have := g.d; simp only [PyData.depthAll]; omega⟩
theorem FinL.le {r : List PyData} {w1 w2 d1 d2 : Nat} (h : FinL r w1 d1) (a : w1 ≤ w2) (b : d1 ≤ d2) : FinL r w2 d2 := ⟨h.lay, h.lv, h.sh, Nat.le_trans h.w a, Nat.le_trans h.d b⟩
theorem fin_all {w d : Nat} : ∀ {r : List PyData}, (∀ x ∈ r, Fin1 x w d) → FinL r (r.length * (w + 1)) d
  | [], _ => fin_nil.le (Nat.zero_le _) (Nat.zero_le _)
  | x :: r, h => (fin_cons (h x (List.mem_cons_self ..)) (fin_all fun y hy => h y (List.mem_cons_of_mem _ hy))).le (by rw [List.length_cons, Nat.succ_mul]; omega) (by omega)
theorem fin_tup {ds : List PyData} {w d : Nat} (h : FinL ds w d) : Fin1 (.tuple ds) w (d + 1) :=
  ⟨by simp only [PyData.canLay0, h.lay], by simp only [PyData.leavesShort, h.lv], by simp only [PyData.showable, h.sh], by simp only [PyData.weight, h.w], by simp only [PyData.depth]; have := h.d; omega⟩
theorem fin_lst {ds : List PyData} {w d : Nat} (h : FinL ds w d) : Fin1 (.list ds) w (d + 1) :=
  ⟨by simp only [PyData.canLay0, h.lay], by simp only [PyData.leavesShort, h.lv], by simp only [PyData.showable, h.sh], by simp only [PyData.weight, h.w], by simp only [PyData.depth]; have := h.d; omega⟩
theorem fin_bl {b : Bool} : Fin1 (.bool b) 0 0 := ⟨by simp only [PyData.canLay0], by simp only [PyData.leavesShort], by simp only [PyData.showable], by simp only [PyData.weight, Nat.le_refl], by simp only [PyData.depth, Nat.le_refl]⟩
theorem fin_int {i : Int} (h1 : -1000000 ≤ i) (h2 : i ≤ 1000000) : Fin1 (.int i) 31 0 := by
  have e : i.natAbs < 2 ^ 30 := by
    have : (2 : Nat) ^ 30 = 1073741824 := by decide
    omega
  have lg : i.natAbs.log2 < 30 := by
    by_cases z : i.natAbs = 0
    · rw [z]; decide
    · exact (Nat.log2_lt z).mpr e
  refine ⟨by simp only [PyData.canLay0], ?_, ?_, ?_, by simp only [PyData.depth, Nat.le_refl]⟩
  · simp only [PyData.leavesShort]
    refine decide_eq_true (PyData.shown_int_le ?_)
    have : (10 : Nat) ^ 12 = 1000000000000 := by decide
    omega
  · simp only [PyData.showable]
    exact decide_eq_true (by omega)
  · simp only [PyData.weight]
    split <;> omega
theorem fin_str {z : Str} (h : NmOk z) : Fin1 (.str z) 8 0 := by
  refine ⟨?_, ?_, by simp only [PyData.showable], ?_, by simp only [PyData.depth, Nat.le_refl]⟩
  · simp only [PyData.canLay0, PyData.strOk]
    rw [Array.all_eq_true]
    intro i hi
    have := h.2.2 z.cps[i] (by simp)
    exact decide_eq_true (by omega)
  · simp only [PyData.leavesShort]
    refine List.all_eq_true.mpr fun ch hc => decide_eq_true ?_
    have := h.2.2 ch hc
    have : (128 : Nat) < 16 ^ 8 := by decide
    omega
  · simp only [PyData.weight]
    exact h.2.1
/-- names and numbers at their bounds -/
def TOk (p : Str × Int) : Prop := NmOk p.1 ∧ 0 ≤ p.2 ∧ p.2 ≤ 12
theorem fin_td {p : Str × Int} (h : TOk p) : Fin1 (td p) 50 1 := by
  have := fin_tup (fin_cons (fin_str h.1) (fin_cons (fin_int (i := p.2) (by have := h.2.1; omega) (by have := h.2.2; omega)) fin_nil))
  exact ⟨this.lay, this.lv, this.sh, Nat.le_trans this.w (by decide), Nat.le_trans this.d (by decide)⟩
theorem fin_tds {m : Tms} (h : ∀ p ∈ m, TOk p) : FinL (m.map td) (m.length * 51) 1 := by
  have := fin_all (r := m.map td) (w := 50) (d := 1) fun x hx => by
    obtain ⟨p, hp, rfl⟩ := List.mem_map.mp hx
    exact fin_td (h p hp)
  rw [List.length_map] at this
  exact this
theorem fin_ints {ns : List Int} (h : ∀ n ∈ ns, -1000000 ≤ n ∧ n ≤ 1000000) : FinL (ns.map PyData.int) (ns.length * 32) 0 := by
  have := fin_all (r := ns.map PyData.int) (w := 31) (d := 0) fun x hx => by
    obtain ⟨n, hn, rfl⟩ := List.mem_map.mp hx
    exact fin_int (h n hn).1 (h n hn).2
  rw [List.length_map] at this
  exact this

theorem repr_dp {K : PySem.W.Frag} {H : Hp} {Q : VK} {σ : L2.St} {d : PyData} {v : V} {wt dp : Nat} (h : Dp K H v d) (F : Fin1 d wt dp) (hw : wt ≤ 1000000) (hd : dp ≤ 64) (hs : KG.shows d = true) (q : Q (.str d.shown) H) : tNil σ H fun xs H2 => KG.rRepr K (v :: xs) H2 Q := by
  have h1 := F.w
  have h2 := F.d
  refine ⟨v, d, rfl, h, hs, ?_, F.sh, PyData.shown_fits (B := 13) (by decide) (by decide) F.lv ?_, q⟩
  · show (PyData.canLay0 d && decide (PyData.depth d ≤ 64)) = true
    rw [F.lay, decide_eq_true (by omega)]; rfl
  · have : (2 : Nat) ^ 20 = 1048576 := by decide
    omega
theorem dpa_ints {K : PySem.W.Frag} {H : Hp} : ∀ ns : List Int, DpAll K H (ns.map V.int) (ns.map PyData.int)
  | [] => .nil
  | n :: r => .cons (.int n) (dpa_ints r)
theorem dpa_strs {K : PySem.W.Frag} {H : Hp} : ∀ ns : List Str, DpAll K H (ns.map V.str) (ns.map PyData.str)
  | [] => .nil
  | n :: r => .cons (.str n) (dpa_strs r)
theorem dpa_terms {K : PySem.W.Frag} {H : Hp} : ∀ {ts : Tms} {vs : List V}, AllT H vs ts → DpAll K H vs (ts.map td)
  | [], vs, h => by rw [List.length_eq_zero_iff.mp h.1]; exact .nil
  | p :: r, vs, h => by
    obtain ⟨v, e1, b, rfl, hb⟩ := h.2 0 p rfl
    cases vs with
    | nil => cases e1
    | cons u us =>
      cases e1
      exact .cons (.tup (.inl (.inl hb)) (.cons (.str _) (.cons (.int _) .nil))) (dpa_terms ⟨Nat.succ.inj h.1, fun i q hq => h.2 (i + 1) q hq⟩)
theorem dp_count {K : PySem.W.Frag} {H : Hp} {v : V} {c : Cnt} (h : IsC H v c) : Dp K H v (dat c) := by
  obtain ⟨a, t, ts, rfl, ha, ht, hT⟩ := h
  exact .tup (.inl (.inl ha)) (.cons (.int _) (.cons (.tup (.inl (.inl ht)) (dpa_terms hT)) .nil))
/-- what is told of the first sizes -/
def optD : Option (List Int) → PyData
  | none => .none
  | some xs => .tuple (xs.map .int)
def IsO (H : Hp) (v : V) : Option (List Int) → Prop
  | none => v = .non
  | some xs => IsX H v xs
theorem IsO.same {H H' : Hp} {v : V} : ∀ {o : Option (List Int)}, IsO H v o → Same H H' → IsO H' v o
  | none, h, _ => h
  | some _, h, e => IsX.kt h (Kt.of_same e)
theorem dp_opt {K : PySem.W.Frag} {H : Hp} {v : V} : ∀ {o : Option (List Int)}, IsO H v o → Dp K H v (optD o)
  | none, h => by rw [show v = V.non from h]; exact .non
  | some xs, h => by
    obtain ⟨b, rfl, hb⟩ := h
    exact .tup (.inl (.inl hb)) (dpa_ints xs)
theorem fin_non : Fin1 .none 0 0 := ⟨by simp only [PyData.canLay0], by simp only [PyData.leavesShort], by simp only [PyData.showable], by simp only [PyData.weight, Nat.le_refl], by simp only [PyData.depth, Nat.le_refl]⟩
theorem fin_opt : ∀ {o : Option (List Int)}, (∀ xs, o = some xs → xs.length ≤ 3 ∧ ∀ x ∈ xs, 1 ≤ x ∧ x ≤ 12) → Fin1 (optD o) 100 1
  | none, _ => ⟨fin_non.lay, fin_non.lv, fin_non.sh, Nat.le_trans fin_non.w (by decide), Nat.le_trans fin_non.d (by decide)⟩
  | some xs, h => by
    obtain ⟨h1, h2⟩ := h xs rfl
    have := fin_tup (fin_ints (ns := xs) fun n hn => ⟨by have := h2 n hn; omega, by have := h2 n hn; omega⟩)
    exact ⟨this.lay, this.lv, this.sh, Nat.le_trans this.w (by omega), Nat.le_trans this.d (by decide)⟩
theorem fin_bls {ns : List Bool} : FinL (ns.map PyData.bool) (ns.length * 1) 0 := by
  have := fin_all (r := ns.map PyData.bool) (w := 0) (d := 0) fun x hx => by
    obtain ⟨n, hn, rfl⟩ := List.mem_map.mp hx
    exact fin_bl
  rw [List.length_map] at this
  exact this
end K4

set_option Elab.async false
set_option linter.all false
set_option maxRecDepth 100000
set_option maxHeartbeats 1000000
namespace K4
open PySem PySem.Spec PyProof.Rows L2
abbrev sTwo : Stmt := topS 20
theorem scTwo : FnScope ["first", "second", "words", "every", "due", "told"] ["first", "second", "words", "every"] (defScope sTwo) := ⟨rfl, rfl, rfl, by decide +kernel, rfl, by decide +kernel, by decide +kernel⟩
theorem kbn_ws {K : PySem.W.Frag} {f : Addr} {fd : FuncData} (F : Fun K "worst_sizes" "worst_sizes" sWorstS f fd) : KBn K fd ["count", "other", "names"] 0 ["names", "other", "count"] (fun _ ws => ws.reverse) (fun _ zs => zs.reverse) := by
  obtain ⟨oc, od, kV, doc, pm, an, cdv, ct, osl, rfl, lk, hcd⟩ := F.ex
  exact ⟨fun s us ws _ h1 h2 => match us, ws, h1, h2 with | [], [_, _, _], _, _ => .of_eq rfl, fun r1 r2 => r2.reverse⟩
theorem kbn_am {K : PySem.W.Frag} {f : Addr} {fd : FuncData} (F : Fun K "at_most" "at_most" sAtMost f fd) : KBn K fd ["count", "other"] 0 ["other", "count"] (fun _ ws => ws.reverse) (fun _ zs => zs.reverse) := by
  obtain ⟨oc, od, kV, doc, pm, an, cdv, ct, osl, rfl, lk, hcd⟩ := F.ex
  exact ⟨fun s us ws _ h1 h2 => match us, ws, h1, h2 with | [], [_, _], _, _ => .of_eq rfl, fun r1 r2 => r2.reverse⟩
section
variable {P : Program} {w : World} {K : PySem.W.Frag} {mg : Str → Option Value} {base : Heap}
structure TxQ (K : PySem.W.Frag) (mg : Str → Option Value) where
  P : TxP K mg
  V : TxV mg
  mRepr : mg "repr" = none
  fV : Addr
  fWo : Addr
  fWs : Addr
  fAm : Addr
  dV : FuncData
  dWo : FuncData
  dWs : FuncData
  dAm : FuncData
  FV : Fun K "_law_value" "_law_value" sValue fV dV
  FWo : Fun K "_law_worst" "_law_worst" sWorst fWo dWo
  FWs : Fun K "worst_sizes" "worst_sizes" sWorstS fWs dWs
  FAm : Fun K "at_most" "at_most" sAtMost fAm dAm
  bV : Binds K dV ["whole", "words", "some"] []
  bWo : Binds K dWo ["first", "second", "words", "every"] []
  bWs : Binds K dWs ["count", "other", "names"] []
  bAm : Binds K dAm ["count", "other"] []
  kWs : KBn K dWs ["count", "other", "names"] 0 ["names", "other", "count"] (fun _ ws => ws.reverse) (fun _ zs => zs.reverse)
  kAm : KBn K dAm ["count", "other"] 0 ["other", "count"] (fun _ ws => ws.reverse) (fun _ zs => zs.reverse)
  gV : mg "_law_value" = some (.ref fV)
  gWo : mg "_law_worst" = some (.ref fWo)
  gWs : mg "worst_sizes" = some (.ref fWs)
  gAm : mg "at_most" = some (.ref fAm)
def spTwoR : Sp := fun vs H Q _ => ∃ (v u : V) (p e : Addr) (c o : Cnt) (ws : List Str), vs = [v, u, .ref p, .ref e] ∧ IsC H v c ∧ IsC H u o ∧ CntOk ws c ∧ CntOk ws o ∧ H p = some (.lst (ws.map V.str)) ∧ 1 ≤ ws.length ∧ ws.length ≤ 3 ∧ ws.Nodup ∧ GridAt H e (grid ws.length) ∧
  ∀ H', Same H H' → Q (.bl true) H'
theorem GridAt.same {H H' : Hp} {e : Addr} {g : List (List Int)} (h : GridAt H e g) (s : Same H H') : GridAt H' e g := by
  obtain ⟨vs, h1, h2⟩ := h
  exact ⟨vs, s _ _ h1, h2.kt (Kt.of_same s)⟩
theorem apart_worst {ws : List Str} {c o : Cnt} (hN : ws.Nodup) (hc : CntOk ws c) (ho : CntOk ws o) : apart c o ≤ 0 ↔ worst ws c o = none := (at_most_iff hN hc ho).trans (worst_none_iff hN hc ho).symm
theorem sp_ws {H : Hp} {Q : VK} {E : XK} {v u : V} {a : Addr} {c o : Cnt} {ws : List Str} (hC : IsC H v c) (hO : IsC H u o) (hA : NmAt K H a ws) (nd : ws.Nodup) (l3 : ws.length ≤ 3) (kC : CntOk ws c) (kO : CntOk ws o)
    (q : ∀ (r : V) (H' : Hp), Same H H' → IsO H' r (worst ws c o) → Q r H') : spWorstS K [v, u, .ref a] H Q E :=
  ⟨v, u, a, c, o, ws, rfl, hC, hO, hA, nd, l3, kC, kO, fun hz H' s => q _ H' s (by rw [worst_none nd kC kO hz]; rfl), fun hz H' p xs s hg hp => q _ H' s (by rw [worst_some nd kC kO hz hg]; exact ⟨p, rfl, hp⟩)⟩
theorem sp_wo {H : Hp} {Q : VK} {E : XK} {v u : V} {p e : Addr} {c o : Cnt} {ws : List Str} (hC : IsC H v c) (hO : IsC H u o) (kC : CntOk ws c) (kO : CntOk ws o) (hp : H p = some (.lst (ws.map V.str))) (l1 : 1 ≤ ws.length) (l3 : ws.length ≤ 3) (nd : ws.Nodup) (hG : GridAt H e (grid ws.length))
    (q : ∀ (r : V) (H' : Hp), Same H H' → IsO H' r (worst ws c o) → Q r H') : spWorst [v, u, .ref p, .ref e] H Q E :=
  ⟨v, u, p, e, c, o, ws, rfl, hC, hO, kC, kO, hp, l1, l3, nd, hG, fun hz H1 s1 => q .non H1 s1 (by rw [hz]; rfl), fun xs hz H1 r s1 hx => q r H1 s1 (by rw [hz]; exact hx)⟩
theorem sp_woN {H : Hp} {Q : VK} {E : XK} {σ : L2.St} {v u : V} {p e : Addr} {c o : Cnt} {ws : List Str} (hC : IsC H v c) (hO : IsC H u o) (kC : CntOk ws c) (kO : CntOk ws o) (hp : H p = some (.lst (ws.map V.str))) (l1 : 1 ≤ ws.length) (l3 : ws.length ≤ 3) (nd : ws.Nodup) (hG : GridAt H e (grid ws.length))
    (q : ∀ (r : V) (H' : Hp), Same H H' → IsO H' r (worst ws c o) → Q r H') : tNil σ H fun zs H2 => spWorst ((v :: u :: V.ref p :: V.ref e :: zs) ++ []) H2 Q E := sp_wo (E := E) hC hO kC kO hp l1 l3 nd hG q
theorem sp_wsN {H : Hp} {Q : VK} {E : XK} {σ : L2.St} {v u : V} {a : Addr} {c o : Cnt} {ws : List Str} (hC : IsC H v c) (hO : IsC H u o) (hA : NmAt K H a ws) (nd : ws.Nodup) (l3 : ws.length ≤ 3) (kC : CntOk ws c) (kO : CntOk ws o)
    (q : ∀ (r : V) (H' : Hp), Same H H' → IsO H' r (worst ws c o) → Q r H') : tNil σ H fun zs H2 => spWorstS K ((v :: u :: V.ref a :: zs) ++ []) H2 Q E := sp_ws (E := E) hC hO hA nd l3 kC kO q
theorem ok_two {f : Addr} {fd : FuncData} (F : Fun K "_law_two_right" "_law_two_right" sTwo f fd) (A : TxQ K mg) : KG.FnG P w K mg base 4 f fd ["first", "second", "words", "every"] spTwoR := by
  have GW : FnOk P w K mg base CX0 2 A.fWo A.dWo ["first", "second", "words", "every"] spWorst := ok_worst A.FWo A.FV A.bV A.gV A.V
  have GS : FnOk P w K mg base CX0 3 A.fWs A.dWs ["count", "other", "names"] (spWorstS K) := ok_worst_sizes A.FWs A.P
  have GA : FnOk P w K mg base CX0 3 A.fAm A.dAm ["count", "other"] (spTwo fun c o => .bl (decide (apart c o ≤ 0))) := ok_at_most A.FAm A.P
  refine KG.FnG.of F scTwo (fun vs H Q E h => ?_) (fun cdv Ar outer s0 H vs Q E hr hg0 h => ?_)
  · obtain ⟨v, u, p, e, c, o, ws, rfl, _⟩ := h
    rfl
  · obtain ⟨v, u, p, e, c, o, ws, rfl, hC, hO, kC, kO, hp, l1, l3, nd, hG, q⟩ := h
    have hr2 := hr.mono (show 2 ≤ 3 by decide)
    have hr3 := hr
    have hrG : (Ar.deeper (envOfC "_law_two_right" (defScope sTwo) s0.heap.objs.size f cdv)).units + 66 < cLine := by
      have := hr.un
      omega
    refine ⟨_, (pss_cons (ps_set (i := 4) scTwo.nd rfl (.inl rfl) (pe_call GW hr2 (by rfl) A.gWo A.FWo.kp A.bWo .nil pass0 (pa_cons (pv 0) (pa_cons (pv 1) (pa_cons (pv 2) (pa_cons (pv 3) pa_nil))))))
      (pss_cons (ps_set (i := 5) scTwo.nd rfl (.inl rfl) (pe_lst (pa_cons (pe_call GS hr3 (by rfl) A.gWs A.FWs.kp A.bWs .nil pass0 (pa_cons (pv 0) (pa_cons (pv 1) (pa_cons (pv 2) pa_nil)))) (pa_cons (pe_call GS hr3 (by rfl) A.gWs A.FWs.kp A.bWs .nil pass0 (pa_cons (pv 0) (pa_cons (pv 1) (pa_cons (pe_callTy call_tuple_of (by rfl) A.P.mt (by decide +kernel) (pa_cons (pv 2) pa_nil)) pa_nil)))) pa_nil))))
      (pss_cons (ps_expr (pe_bm PySem.F.plainAttrs_list PySem.F.slot_list_append PySem.F.type_list_append mt_append (pv 5) (pa_cons (pe_callN0 GS hr3 (by rfl) A.gWs A.FWs.kp A.kWs pass0 (pk_cons (pv 2) (pk_cons (pv 1) (pk_cons (pv 0) pk_nil)))) pa_nil)))
      (pss_cons (ps_if (pt_cmpR op_ne (pe_callB (KG.call_reprD hg0 hrG) (by rfl) A.mRepr (by decide +kernel) (pa_cons (pv 5) pa_nil)) (pe_callB (KG.call_reprD hg0 hrG) (by rfl) A.mRepr (by decide +kernel) (pa_cons (pe_op op_rep (pe_lst (pa_cons (pv 4) pa_nil)) pe_int) pa_nil)) (nomark _)) (pss_one (ps_ret pe_bl)) pss_nil)
      (pss_one (ps_ret (pe_cmpR op_eq (pe_callB (KG.call_reprD hg0 hrG) (by rfl) A.mRepr (by decide +kernel) (pa_cons (pe_lst (pa_cons (pe_call GA hr3 (by rfl) A.gAm A.FAm.kp A.bAm .nil pass0 (pa_cons (pv 0) (pa_cons (pv 1) pa_nil))) (pa_cons (pe_callN0 GA hr3 (by rfl) A.gAm A.FAm.kp A.kAm pass0 (pk_cons (pv 1) (pk_cons (pv 0) pk_nil))) pa_nil))) pa_nil)) (pe_callB (KG.call_reprD hg0 hrG) (by rfl) A.mRepr (by decide +kernel) (pa_cons (pe_op op_rep (pe_lst (pa_cons (pe_cmpR op_isN (pv 4) pe_non (nomark _)) pa_nil)) pe_int) pa_nil)) (nomark _)))))))), ?_⟩
    have opt : ∀ xs, worst ws c o = some xs → xs.length ≤ 3 ∧ ∀ x ∈ xs, 1 ≤ x ∧ x ≤ 12 := fun xs h => by
      have := mem_grid.mp (List.mem_of_find?_eq_some h)
      exact ⟨by rw [this.1]; exact l3, this.2⟩
    have fo := fin_opt opt
    have ex := apart_worst nd kC kO
    -- due
    refine ⟨_, rfl, _, rfl, _, rfl, _, rfl, sp_woN hC hO kC kO hp l1 l3 nd hG fun x4 H1 s1 hx => ?_⟩
    have hC1 := hC.kt (Kt.of_same s1)
    have hO1 := hO.kt (Kt.of_same s1)
    -- told
    refine ⟨_, rfl, _, rfl, _, rfl, sp_wsN hC1 hO1 (.inl (s1 _ _ hp)) nd l3 kC kO fun y1 H2 s2 hy1 => ?_⟩
    have s12 := s1.trans s2
    refine ⟨_, rfl, _, rfl, _, rfl, p, _, rfl, .inl ⟨.inl (.inl (s12 _ _ hp)), fun t1 nt1 => ?_⟩⟩
    have s3 : Same H (upd H2 t1 (.tup (ws.map V.str))) := s12.trans (same_upd nt1)
    have s23 : Same H1 (upd H2 t1 (.tup (ws.map V.str))) := s2.trans (same_upd nt1)
    refine sp_wsN (hC.kt (Kt.of_same s3)) (hO.kt (Kt.of_same s3)) (.inr upd_same) nd l3 kC kO fun y2 H4 s4 hy2 => ?_
    have s34 := (same_upd nt1 (o := .tup (ws.map V.str))).trans s4
    have hy1' := hy1.same s34
    refine ⟨by show 2 ≤ sizeLine; exact le_size (by decide), fun T1 nT1 => ?_⟩
    have sT : Same H4 (upd H4 T1 (.lst [y1, y2])) := same_upd nT1
    have s0T : Same H (upd H4 T1 (.lst [y1, y2])) := (s3.trans s4).trans sT
    have s1T : Same H1 (upd H4 T1 (.lst [y1, y2])) := (s23.trans s4).trans sT
    have hT1 : (upd H4 T1 (.lst [y1, y2])) T1 = some (.lst [y1, y2]) := upd_same
    have nT1H : H T1 = none := by
      cases z : H T1 with
      | none => rfl
      | some ob => rw [(s3.trans s4) _ _ z] at nT1; cases nT1
    have nT1H1 : H1 T1 = none := by
      cases z : H1 T1 with
      | none => rfl
      | some ob => rw [(s23.trans s4) _ _ z] at nT1; cases nT1
    have hy1T := hy1'.same sT
    have hy2T := hy2.same sT
    clear sT nT1
    revert s0T s1T hT1 hy1T hy2T
    generalize upd H4 T1 (.lst [y1, y2]) = H5
    intro s0T s1T hT1 hy1T hy2T
    -- append
    refine ⟨_, rfl, .inl ⟨rfl, _, .inl (.inl hT1)⟩, ?_⟩
    refine ⟨_, rfl, _, rfl, _, rfl, rfl, sp_ws (hC.kt (Kt.of_same s0T)) (hO.kt (Kt.of_same s0T)) (.inl (s0T _ _ hp)) nd l3 kC kO fun y3 H6 s6 hy3 => ?_⟩
    have hT6 := s6 _ _ hT1
    refine ⟨T1, _, y3, rfl, rfl, hT6, by show 2 < sizeLine; exact lt_size (by decide), ?_⟩
    have kt : Kt H6 (upd H6 T1 (.lst ([y1, y2] ++ [y3]))) := Kt.upd fun xs z => by rw [hT6] at z; cases z
    have io : ∀ {r : V} {ov : Option (List Int)}, IsO H6 r ov → IsO (upd H6 T1 (.lst ([y1, y2] ++ [y3]))) r ov := fun {r} {ov} z => by
      cases ov with
      | none => exact z
      | some xs => exact IsX.kt z kt
    have z1 := io (hy1T.same s6)
    have z2 := io (hy2T.same s6)
    have z3 := io hy3
    have s7 : Same H (upd H6 T1 (.lst ([y1, y2] ++ [y3]))) := fun b ob z => by rw [upd_ne (ne_of_none z nT1H)]; exact s6 _ _ (s0T _ _ z)
    have zx := io ((hx.same s1T).same s6)
    have hT7 : (upd H6 T1 (.lst ([y1, y2] ++ [y3]))) T1 = some (.lst [y1, y2, y3]) := upd_same
    clear kt io
    revert z1 z2 z3 s7 zx hT7
    generalize upd H6 T1 (.lst ([y1, y2] ++ [y3])) = H7
    intro z1 z2 z3 s7 zx hT7
    generalize hW : worst ws c o = W at *
    have fin3 : Fin1 (.list [optD W, optD W, optD W]) 400 2 := by
      have := fin_lst (fin_cons fo (fin_cons fo (fin_cons fo fin_nil)))
      exact ⟨this.lay, this.lv, this.sh, Nat.le_trans this.w (by decide), Nat.le_trans this.d (by decide)⟩
    refine ⟨_, rfl, ?_⟩
    refine repr_dp (d := .list [optD W, optD W, optD W]) (.lst (.inl (.inl hT7)) (.cons (dp_opt z1) (.cons (dp_opt z2) (.cons (dp_opt z3) .nil)))) fin3 (by decide) (by decide) rfl ?_
    refine ⟨_, rfl, by show 1 ≤ sizeLine; exact le_size (by decide), fun L1 nL1 => ?_⟩
    have s8 : Same H7 (upd H7 L1 (.lst [x4])) := same_upd nL1
    refine ⟨L1, 3, [x4], rfl, rfl, upd_same, by decide, by decide, by show 1 * 3 ≤ sizeLine; exact le_size (by decide), fun L2 nL2 => ?_⟩
    have s9 : Same H7 (upd (upd H7 L1 (.lst [x4])) L2 (.lst (List.replicate (Int.toNat 3) [x4]).flatten)) := s8.trans (same_upd nL2)
    have hx9 := zx.same s9
    have hL2 : (upd (upd H7 L1 (.lst [x4])) L2 (.lst (List.replicate (Int.toNat 3) [x4]).flatten)) L2 = some (.lst [x4, x4, x4]) := upd_same
    clear s8 nL2
    revert s9 hx9 hL2
    generalize upd (upd H7 L1 (.lst [x4])) L2 (.lst (List.replicate (Int.toNat 3) [x4]).flatten) = H9
    intro s9 hx9 hL2
    refine repr_dp (d := .list [optD W, optD W, optD W]) (.lst (.inl (.inl hL2)) (.cons (dp_opt hx9) (.cons (dp_opt hx9) (.cons (dp_opt hx9) .nil)))) fin3 (by decide) (by decide) rfl ?_
    refine ⟨rfl, _, rfl, ?_⟩
    rw [decide_eq_true rfl]
    refine iteF ?_
    have s79 := s7.trans s9
    -- at most
    refine ⟨_, rfl, _, rfl, v, u, c, o, rfl, hC.kt (Kt.of_same s79), hO.kt (Kt.of_same s79), kC.good, kO.good, fun Ha sa => ?_⟩
    have s7a := s79.trans sa
    refine ⟨_, rfl, _, rfl, rfl, v, u, c, o, rfl, hC.kt (Kt.of_same s7a), hO.kt (Kt.of_same s7a), kC.good, kO.good, fun Hb sb => ?_⟩
    refine ⟨by show 2 ≤ sizeLine; exact le_size (by decide), fun M1 nM1 => ?_⟩
    have sc : Same Hb (upd Hb M1 (.lst [.bl (decide (apart c o ≤ 0)), .bl (decide (apart c o ≤ 0))])) := same_upd nM1
    refine repr_dp (d := .list ([(decide (apart c o ≤ 0)), (decide (apart c o ≤ 0))].map PyData.bool)) (.lst (.inl (.inl upd_same)) (.cons (.bl (decide (apart c o ≤ 0))) (.cons (.bl (decide (apart c o ≤ 0))) .nil))) (fin_lst fin_bls) (by show 2 * 1 ≤ 1000000; decide) (by decide) rfl ?_
    have s7c := (s7a.trans sb).trans sc
    clear sc
    revert s7c
    generalize upd Hb M1 (.lst [.bl (decide (apart c o ≤ 0)), .bl (decide (apart c o ≤ 0))]) = Hc
    intro s7c
    have hbx : decide (x4 = V.non) = (decide (apart c o ≤ 0)) := by
      cases W with
      | none =>
        rw [show x4 = V.non from hx9, decide_eq_true rfl, decide_eq_true (ex.mpr rfl)]
      | some xs =>
        obtain ⟨a, rfl, _⟩ := hx9
        rw [decide_eq_false (by intro z; cases z), decide_eq_false (fun z => by have := ex.mp z; cases this)]
    refine ⟨_, rfl, rfl, ?_⟩
    rw [hbx]
    refine ⟨by show 1 ≤ sizeLine; exact le_size (by decide), fun M2 nM2 => ?_⟩
    refine ⟨M2, 2, [.bl (decide (apart c o ≤ 0))], rfl, rfl, upd_same, by decide, by decide, by show 1 * 2 ≤ sizeLine; exact le_size (by decide), fun M3 nM3 => ?_⟩
    have se := (same_upd nM2 (o := .lst [.bl (decide (apart c o ≤ 0))])).trans (same_upd nM3 (o := .lst (List.replicate (Int.toNat 2) [V.bl (decide (apart c o ≤ 0))]).flatten))
    refine repr_dp (d := .list ([(decide (apart c o ≤ 0)), (decide (apart c o ≤ 0))].map PyData.bool)) (.lst (xs := [.bl (decide (apart c o ≤ 0)), .bl (decide (apart c o ≤ 0))]) (.inl (.inl upd_same)) (.cons (.bl (decide (apart c o ≤ 0))) (.cons (.bl (decide (apart c o ≤ 0))) .nil))) (fin_lst fin_bls) (by show 2 * 1 ≤ 1000000; decide) (by decide) rfl ?_
    refine ⟨rfl, ?_⟩
    rw [decide_eq_true rfl]
    exact q _ (s7c.trans se)
end
end K4

set_option Elab.async false
set_option linter.all false
set_option maxRecDepth 100000
set_option maxHeartbeats 1000000
/-! repr of a truth value; list + list, where either may be the script. -/
namespace KB
open PySem PySem.Spec PyProof.Rows L2
section
variable {X : Cx}
theorem call_repr_bl : CallR X (.builtin "repr") (fun xs H Q => ∃ b : Bool, xs = [.bl b] ∧ Q (.str (if b then "True" else "False")) H) := by
  intro pins s σ H xs us Q I r h
  obtain ⟨b, rfl, q⟩ := h
  obtain ⟨u, rfl, rx⟩ := vals1 r
  cases (show u = Value.bool b from rx)
  exact PySem.P.repr_of_bool ⟨.str _, H, I.tok _, ⟨_, rfl⟩, q⟩
theorem op_catF : OpR X (binaryOp .Add) (fun x y H Q => ∃ a b xs ys, x = .ref a ∧ y = .ref b ∧ SqL X.K H a xs ∧ SqL X.K H b ys ∧ xs.length + ys.length ≤ sizeLine ∧ ∀ p, H p = none → Q (.ref p) (upd H p (.lst (xs ++ ys)))) := by
  intro pins s σ H x y v u Q I rx ry h
  obtain ⟨a, b, xs, ys, rfl, rfl, ha, hb, hz, q⟩ := h
  cases rx
  cases ry
  obtain ⟨vs, r, pl, _⟩ := I.list ha
  obtain ⟨ws, r2, pl2, _⟩ := I.list hb
  have hl : s.heap.IsList a vs.toArray := pl.isList
  have hb2 : s.heap.IsList b ws.toArray := pl2.isList
  obtain ⟨⟨cls, dd, data, sl⟩, ho, hc, n, hd⟩ := id hl
  obtain ⟨⟨cls2, dd2, data2, sl2⟩, ho2, hc2, n2, hd2⟩ := id hb2
  simp only at hc hd hc2 hd2
  subst hc hd hc2 hd2
  have e : vs.toArray ++ ws.toArray = (vs ++ ws).toArray := by simp
  have l1 := r.length
  have l2 := r2.length
  refine concat_meets ⟨_, ho, rfl⟩ ⟨_, ho2, rfl⟩ noFill_list_add seq_list_add PySem.F.slot_list_add PySem.F.entry_list_add (PySem.F.args_list_add_2 _ _) (list_addW a b vs.toArray ws.toArray n n2 dd dd2 sl sl2 (by rw [List.size_toArray, List.size_toArray]; omega)) ⟨ho, ho2, ?_⟩
  rw [e]
  refine ⟨.ref s.heap.objs.size, upd H s.heap.objs.size (.lst (xs ++ ys)), I.laid (t' := s.toks) (fun b u e => Heap.get?_push_of_some _ e) (Nat.le_refl _) ?_, rfl, q _ (I.hok.fresh (Nat.le_refl _))⟩
  exact ⟨by rw [List.length_append]; exact hz, vs ++ ws, 0, r.append r2, Heap.get?_push_size _ rfl⟩
end
end KB

set_option Elab.async false
set_option linter.all false
set_option maxRecDepth 100000
set_option maxHeartbeats 1000000
namespace K4
open PySem PySem.Spec PyProof.Rows L2
abbrev sLaw : Stmt := topS 21
theorem scLaw : FnScope ["script", "stream", "grids", "turn", "words", "every", "first", "second", "third", "kept", "pair", "values", "some", "many"] ["script"] (defScope sLaw) := ⟨rfl, rfl, rfl, by decide +kernel, rfl, by decide +kernel, by decide +kernel⟩
theorem sqL_same {K : PySem.W.Frag} {H H' : Hp} {a : Addr} {xs : List V} (h : SqL K H a xs) (e : Same H H') : SqL K H' a xs := by
  rcases h with (h | ⟨o, h⟩) | h
  · exact .inl (.inl (e _ _ h))
  · exact .inl (.inr ⟨o, e _ _ h⟩)
  · exact .inr h
/-! ### lists of names, built in one go -/
def WL (t : TE) (ws : List Str) : Prop := ∀ (s c : Addr) (n : Int) (σ : L2.St) (H : Hp) (Q : VK), Sm s c n H → (∀ (p : Addr) (H' : Hp), Same H H' → p ≠ s → p ≠ c → H' p = some (.lst (ws.map V.str)) → Q (.ref p) H') → t σ H Q
def WLA (ta : TA) (wss : List (List Str)) : Prop := ∀ (s c : Addr) (n : Int) (σ : L2.St) (H : Hp) (Q : List V → Hp → Prop), Sm s c n H →
  (∀ (ps : List V) (H' : Hp), Same H H' → ps.length = wss.length → (∀ (i : Nat) (ws : List Str), wss[i]? = some ws → ∃ p : Addr, ps[i]? = some (.ref p) ∧ p ≠ s ∧ p ≠ c ∧ H' p = some (.lst (ws.map V.str))) → Q ps H') → ta σ H Q
def CS (ta : TA) (ws : List Str) : Prop := ∀ (σ : L2.St) (H : Hp) (Q : List V → Hp → Prop), Q (ws.map V.str) H → ta σ H Q
theorem cs_nil : CS tNil [] := fun σ H Q q => q
theorem cs_cons {ta : TA} {ws : List Str} {x : Str} (h : CS ta ws) : CS (tCons (tC (.str x)) ta) (x :: ws) := fun σ H Q q => h σ H _ q
theorem wl_of {ta : TA} {ws : List Str} (h : CS ta ws) (l : ws.length ≤ 10) : WL (tLst ta) ws := fun s c n σ H Q S q => h σ H _ ⟨by rw [List.length_map]; exact le_size (by omega), fun p np => by
  have pn := S.ns np
  exact q p _ (same_upd np) pn.1 pn.2 upd_same⟩
theorem wla_nil : WLA tNil [] := fun s c n σ H Q S q => q [] H (Same.refl H) rfl fun i ws e => by cases e
theorem wla_cons {t : TE} {ta : TA} {ws : List Str} {wss : List (List Str)} (h : WL t ws) (k : WLA ta wss) : WLA (tCons t ta) (ws :: wss) := fun s c n σ H Q S q =>
  h s c n σ H _ S fun p H1 s1 p1 p2 hp => k s c n σ H1 _ (S.same s1) fun ps H2 s2 l f => q _ H2 (s1.trans s2) (by rw [List.length_cons, List.length_cons, l]) fun i vs e => by
    cases i with
    | zero => cases e; exact ⟨p, rfl, p1, p2, s2 _ _ hp⟩
    | succ i => exact f i vs e
def tWs (wss : List (List Str)) : TE := fun σ H Q => ∃ (s c : Addr) (n : Int), Sm s c n H ∧ ∀ (o : Addr) (ps : List V) (H' : Hp), Same H H' → o ≠ s → o ≠ c → H' o = some (.lst ps) → ps.length = wss.length →
  (∀ (i : Nat) (ws : List Str), wss[i]? = some ws → ∃ p : Addr, ps[i]? = some (.ref p) ∧ p ≠ s ∧ p ≠ c ∧ H' p = some (.lst (ws.map V.str))) → Q (.ref o) H'
theorem pe_ws {X : Cx} {e : Expr} {ta : TA} {wss : List (List Str)} (h : PE X e (tLst ta)) (b : WLA ta wss) (l : wss.length ≤ 10) : PE X e (tWs wss) := ⟨fun pins s σ H Q I q => by
  obtain ⟨s', c, n, S, q⟩ := q
  refine h.run pins s σ H Q I (b s' c n σ H _ S fun ps H1 s1 pl f => ⟨by rw [pl]; exact le_size (by omega), fun o no => ?_⟩)
  have on := (S.same s1).ns no
  exact q o ps _ (s1.trans (same_upd no)) on.1 on.2 upd_same pl fun i ws e => by
    obtain ⟨p, e1, e2, e3, e4⟩ := f i ws e
    exact ⟨p, e1, e2, e3, (same_upd no) _ _ e4⟩⟩
def six : List (List Str) := [["n"], ["m", "n"], ["n", "m"], ["b", "a", "c"], ["a", "c", "b"], ["n", "mm"]]
theorem six_ok : ∀ ws ∈ six, 1 ≤ ws.length ∧ ws.length ≤ 3 ∧ ws.Nodup ∧ ∀ z ∈ ws, NmOk z := by
  intro ws h
  have hb : ∀ z ∈ ws, nmOkB z = true := by
    have : (six.all fun ws => ws.all nmOkB) = true := by decide +kernel
    exact fun z hz => List.all_eq_true.mp (List.all_eq_true.mp this ws h) z hz
  have hc : (decide (1 ≤ ws.length) && decide (ws.length ≤ 3) && decide ws.Nodup) = true := by
    have : (six.all fun ws => decide (1 ≤ ws.length) && decide (ws.length ≤ 3) && decide ws.Nodup) = true := by decide +kernel
    exact List.all_eq_true.mp this ws h
  rw [Bool.and_eq_true, Bool.and_eq_true] at hc
  exact ⟨of_decide_eq_true hc.1.1, of_decide_eq_true hc.1.2, of_decide_eq_true hc.2, fun z hz => NmOk.of (hb z hz)⟩
theorem fin_dat {ws : List Str} {cn : Cnt} (h : CntOk ws cn) (hok : ∀ z ∈ ws, NmOk z) : Fin1 (dat cn) 300 3 := by
  have a0 := h.lo
  have tk : ∀ p ∈ cn.2, TOk p := fun p hp => ⟨hok _ (h.sub _ (List.mem_map_of_mem hp)), by have := h.good.lo p hp; omega, by have := h.good.lo p hp; omega⟩
  have := fin_tup (fin_cons (fin_int (i := cn.1) (by omega) (by omega)) (fin_cons (fin_tup (fin_tds tk)) fin_nil))
  have hf := h.good.few
  exact ⟨this.lay, this.lv, this.sh, Nat.le_trans this.w (by omega), Nat.le_trans this.d (by decide)⟩
theorem fin_strs {ws : List Str} (hok : ∀ z ∈ ws, NmOk z) : FinL (ws.map PyData.str) (ws.length * 9) 0 := by
  have := fin_all (r := ws.map PyData.str) (w := 8) (d := 0) fun x hx => by
    obtain ⟨n, hn, rfl⟩ := List.mem_map.mp hx
    exact fin_str (hok n hn)
  rw [List.length_map] at this
  exact this
theorem GridAt.kp {s c : Addr} {n : Int} {H H' : Hp} {e : Addr} {g : List (List Int)} (h : GridAt H e g) (S : Sm s c n H) (k : Kp s c H H') (e1 : e ≠ s) (e2 : e ≠ c) : GridAt H' e g := by
  obtain ⟨vs, h1, h2⟩ := h
  exact ⟨vs, k _ _ e1 e2 h1, h2.kt (Kt.of_kp S k)⟩
theorem sum_bd0 : ∀ {ts : Tms}, (∀ p ∈ ts, 1 ≤ p.2 ∧ p.2 ≤ 3) → 0 ≤ (ts.map (·.2)).sum ∧ (ts.map (·.2)).sum ≤ 3 * ts.length
  | [], _ => by simp
  | p :: r, g => by
    obtain ⟨c, d⟩ := sum_bd0 (ts := r) fun q hq => g q (List.mem_cons_of_mem _ hq)
    obtain ⟨g1, g2⟩ := g p (List.mem_cons_self ..)
    rw [List.map_cons, List.sum_cons, List.length_cons]
    refine ⟨by omega, by omega⟩
/-- the grids of none to three sizes -/
def Gds (s c : Addr) (H : Hp) (G : Addr) : Prop := G ≠ s ∧ G ≠ c ∧ ∃ ps : List V, H G = some (.lst ps) ∧ ∀ k, k < 4 → ∃ g : Addr, ps[k]? = some (.ref g) ∧ g ≠ s ∧ g ≠ c ∧ GridAt H g (grid k)
theorem Gds.kp {s c : Addr} {n : Int} {H H' : Hp} {G : Addr} (h : Gds s c H G) (S : Sm s c n H) (k : Kp s c H H') : Gds s c H' G := by
  obtain ⟨g1, g2, ps, g3, g4⟩ := h
  refine ⟨g1, g2, ps, k _ _ g1 g2 g3, fun j hj => ?_⟩
  obtain ⟨g, e1, e2, e3, e4⟩ := g4 j hj
  exact ⟨g, e1, e2, e3, e4.kp S k e2 e3⟩
section
variable {P : Program} {w : World} {K : PySem.W.Frag} {mg : Str → Option Value} {base : Heap}
structure TxA (K : PySem.W.Frag) (mg : Str → Option Value) where
  S : TxS K mg
  Q : TxQ K mg
  mRange : mg "range" = none
  mMin : mg "min" = none
  mSorted : mg "sorted" = none
  fAll : Addr
  fCb : Addr
  fNe : Addr
  fTw : Addr
  fC : Addr
  fL : Addr
  fG : Addr
  dAll : FuncData
  dCb : FuncData
  dNe : FuncData
  dTw : FuncData
  dC : FuncData
  dL : FuncData
  dG : FuncData
  FAll : Fun K "_law_all_sizes" "_law_all_sizes" sAll fAll dAll
  FCb : Fun K "_law_count_by" "_law_count_by" sCountBy fCb dCb
  FNe : Fun K "_law_near_by" "_law_near_by" sNear fNe dNe
  FTw : Fun K "_law_two_right" "_law_two_right" sTwo fTw dTw
  FC : Fun K "count_at" "count_at" sCountAt fC dC
  FL : Fun K "least_of" "least_of" sLeast fL dL
  FG : Fun K "greatest_of" "greatest_of" sGreatest fG dG
  bAll : Binds K dAll ["many"] []
  bCb : Binds K dCb ["stream", "words"] []
  bNe : Binds K dNe ["stream", "words", "whole"] []
  bTw : Binds K dTw ["first", "second", "words", "every"] []
  bC : Binds K dC ["count", "sizes"] []
  bL : Binds K dL ["count"] []
  bG : Binds K dG ["count"] []
  gAll : mg "_law_all_sizes" = some (.ref fAll)
  gCb : mg "_law_count_by" = some (.ref fCb)
  gNe : mg "_law_near_by" = some (.ref fNe)
  gTw : mg "_law_two_right" = some (.ref fTw)
  gC : mg "count_at" = some (.ref fC)
  gL : mg "least_of" = some (.ref fL)
  gG : mg "greatest_of" = some (.ref fG)
def spLaw : Sp := fun vs H Q _ => ∃ (sa : Addr) (ns : List Int), vs = [.ref sa] ∧ SqL K H sa (ns.map V.int) ∧ ns.length ≤ 63 ∧ ∀ H', Q (.bl true) H'
theorem ok_law {f : Addr} {fd : FuncData} (F : Fun K "law" "law" sLaw f fd) (A : TxA K mg) : KG.FnG P w K mg base 6 f fd ["script"] (spLaw (K := K)) := by
  have GT : FnOk P w K mg base CX0 2 A.S.fT A.S.dT ["stream", "many"] spTake := ok_take A.S.FT A.S.FM A.S.bM A.S.gM
  have GAll : FnOk P w K mg base CX0 1 A.fAll A.dAll ["many"] spAll := ok_all A.FAll A.mRange
  have GCb : FnOk P w K mg base CX0 4 A.fCb A.dCb ["stream", "words"] spCountBy := ok_countBy A.FCb A.S A.mSorted A.Q.P.mt
  have GNe : FnOk P w K mg base CX0 5 A.fNe A.dNe ["stream", "words", "whole"] spNear := ok_near A.FNe A.FCb A.bCb A.gCb A.S A.mSorted A.Q.P.mt A.Q.P.mm A.mMin
  have GTw : KG.FnG P w K mg base 4 A.fTw A.dTw ["first", "second", "words", "every"] spTwoR := ok_two A.FTw A.Q
  have GV : FnOk P w K mg base CX0 1 A.Q.fV A.Q.dV ["whole", "words", "some"] spValue := ok_value A.Q.FV A.Q.V
  have GL : FnOk P w K mg base CX0 1 A.fL A.dL ["count"] (spOne leastv) := ok_least A.FL A.Q.V.sum
  have GG : FnOk P w K mg base CX0 1 A.fG A.dG ["count"] (spOne greatv) := ok_greatest A.FG A.Q.V.sum A.Q.P.gM
  have GA : FnOk P w K mg base CX0 3 A.Q.fAm A.Q.dAm ["count", "other"] (spTwo fun c o => .bl (decide (apart c o ≤ 0))) := ok_at_most A.Q.FAm A.Q.P
  have GS : FnOk P w K mg base CX0 3 A.Q.fWs A.Q.dWs ["count", "other", "names"] (spWorstS K) := ok_worst_sizes A.Q.FWs A.Q.P
  have GC : FnOk P w K mg base CX0 1 A.fC A.dC ["count", "sizes"] spCountAt := ok_count_at A.FC A.Q.V.sum
  refine KG.FnG.of F scLaw (fun vs H Q E h => ?_) (fun cdv Ar outer s0 H vs Q E hr hg0 h => ?_)
  · obtain ⟨sa, ns, rfl, _⟩ := h
    rfl
  · obtain ⟨sa, ns, rfl, hsa, hl, q⟩ := h
    have hr1 := hr.mono (show 1 ≤ 5 by decide)
    have hr2 := hr.mono (show 2 ≤ 5 by decide)
    have hr3 := hr.mono (show 3 ≤ 5 by decide)
    have hr4 := hr.mono (show 4 ≤ 5 by decide)
    have hrG : (Ar.deeper (envOfC "law" (defScope sLaw) s0.heap.objs.size f cdv)).units + 66 < cLine := by
      have := hr.un
      omega
    refine ⟨_, (pss_cons (ps_set (i := 1) scLaw.nd rfl (.inl rfl) (pe_lst (pa_cons (pe_slice sl_list (pe_op KB.op_catF (pv 0) (pe_lst (pa_cons pe_int pa_nil))) po_none (po_some pe_int)) (pa_cons pe_int (pa_cons pe_int (pa_cons pe_int (pa_cons pe_int pa_nil)))))))
      (pss_cons (ps_setLc (i := 2) (own := [("many", 13)]) (g := gName 13) (tt := tYes) rfl scLaw.nd rfl rfl (sw_true rfl rfl rfl (by decide +kernel)) (pi_range1 (by rfl) A.mRange (pa_cons pe_int pa_nil)) (blkOk_by (N := ["script", "stream", "grids", "turn", "words", "every", "first", "second", "third", "kept", "pair", "values", "some", "many"]) (sc := (defScope sLaw)) (by decide +kernel)) (fun _ _ _ _ _ => (pg_name (i := 13) scLaw.nd rfl (.inl rfl))) (fun _ _ _ _ _ => pts_nil) (fun _ _ _ _ _ => (pe_call GAll hr1 (by rfl) A.gAll A.FAll.kp A.bAll .nil pass0 (pa_cons (pv 13) pa_nil))))
      (pss_cons (ps_for PassesOwn.never rfl (pi_range1 (by rfl) A.mRange (pa_cons (pe_op op_add pe_int (pe_callB (call_min2 rfl) (by rfl) A.mMin (by decide +kernel) (pa_cons pe_int (pa_cons (pe_callB call_len_seq (by rfl) A.S.len (by decide +kernel) (pa_cons (pv 0) pa_nil)) pa_nil)))) pa_nil)) (pg_name (i := 3) scLaw.nd rfl (.inl rfl)) (pss_cons (ps_set (i := 4) scLaw.nd rfl (.inr rfl) (pe_ix ix_list (pe_ws (wss := six) (pe_lst (pa_cons (pe_lst (pa_cons pe_str pa_nil)) (pa_cons (pe_lst (pa_cons pe_str (pa_cons pe_str pa_nil))) (pa_cons (pe_lst (pa_cons pe_str (pa_cons pe_str pa_nil))) (pa_cons (pe_lst (pa_cons pe_str (pa_cons pe_str (pa_cons pe_str pa_nil)))) (pa_cons (pe_lst (pa_cons pe_str (pa_cons pe_str (pa_cons pe_str pa_nil)))) (pa_cons (pe_lst (pa_cons pe_str (pa_cons pe_str pa_nil))) pa_nil))))))) (wla_cons (wl_of (cs_cons cs_nil) (by decide)) (wla_cons (wl_of (cs_cons (cs_cons cs_nil)) (by decide)) (wla_cons (wl_of (cs_cons (cs_cons cs_nil)) (by decide)) (wla_cons (wl_of (cs_cons (cs_cons (cs_cons cs_nil))) (by decide)) (wla_cons (wl_of (cs_cons (cs_cons (cs_cons cs_nil))) (by decide)) (wla_cons (wl_of (cs_cons (cs_cons cs_nil)) (by decide)) wla_nil)))))) (by decide)) (pe_call GT hr2 (by rfl) A.S.gT A.S.FT.kp A.S.bT .nil pass0 (pa_cons (pv 1) (pa_cons pe_int pa_nil))) (fun _ _ => rfl)))
      (pss_cons (ps_set (i := 5) scLaw.nd rfl (.inl rfl) (pe_ix ix_list (pv 2) (pe_callB call_len_seq (by rfl) A.S.len (by decide +kernel) (pa_cons (pv 4) pa_nil)) (fun _ _ => rfl)))
      (pss_cons (ps_set (i := 6) scLaw.nd rfl (.inr rfl) (pe_call GCb hr4 (by rfl) A.gCb A.FCb.kp A.bCb .nil pass0 (pa_cons (pv 1) (pa_cons (pv 4) pa_nil))))
      (pss_cons (ps_set (i := 7) scLaw.nd rfl (.inl rfl) (pe_call GNe hr (by rfl) A.gNe A.FNe.kp A.bNe .nil pass0 (pa_cons (pv 1) (pa_cons (pv 4) (pa_cons (pv 6) pa_nil)))))
      (pss_cons (ps_set (i := 8) scLaw.nd rfl (.inl rfl) (pe_call GNe hr (by rfl) A.gNe A.FNe.kp A.bNe .nil pass0 (pa_cons (pv 1) (pa_cons (pv 4) (pa_cons (pv 7) pa_nil)))))
      (pss_cons (ps_set (i := 9) scLaw.nd rfl (.inl rfl) (pe_callB (KG.call_reprD hg0 hrG) (by rfl) A.Q.mRepr (by decide +kernel) (pa_cons (pe_lst (pa_cons (pv 6) (pa_cons (pv 7) (pa_cons (pv 8) (pa_cons (pv 4) pa_nil))))) pa_nil)))
      (pss_cons (ps_for PassesOwn.never rfl (pi_list (pe_lst (pa_cons (pe_tup (pa_cons (pv 6) (pa_cons (pv 7) pa_nil))) (pa_cons (pe_tup (pa_cons (pv 7) (pa_cons (pv 6) pa_nil))) (pa_cons (pe_tup (pa_cons (pv 6) (pa_cons (pv 6) pa_nil))) (pa_cons (pe_tup (pa_cons (pv 7) (pa_cons (pv 8) pa_nil))) (pa_cons (pe_tup (pa_cons (pv 6) (pa_cons (pv 8) pa_nil))) pa_nil))))))) (pg_name (i := 10) scLaw.nd rfl (.inl rfl)) (pss_one (ps_if (pt_not (pt_val (KG.pe_callG GTw hr4 hg0 (by rfl) A.gTw A.FTw.kp A.bTw (pa_cons (pe_ix ix_tup (pv 10) pe_int (fun _ _ => rfl)) (pa_cons (pe_ix ix_tup (pv 10) pe_int (fun _ _ => rfl)) (pa_cons (pv 4) (pa_cons (pv 5) pa_nil))))))) (pss_one (ps_ret pe_bl)) pss_nil)))
      (pss_cons (ps_setLc (i := 11) (own := [("some", 12)]) (g := gName 12) (tt := tYes) rfl scLaw.nd rfl rfl (sw_true rfl rfl rfl (by decide +kernel)) (pi_list (pv 5)) (blkOk_by (N := ["script", "stream", "grids", "turn", "words", "every", "first", "second", "third", "kept", "pair", "values", "some", "many"]) (sc := (defScope sLaw)) (by decide +kernel)) (fun _ _ _ _ _ => (pg_name (i := 12) scLaw.nd rfl (.inl rfl))) (fun _ _ _ _ _ => pts_nil) (fun _ _ _ _ _ => (pe_call GV hr1 (by rfl) A.Q.gV A.Q.FV.kp A.Q.bV .nil pass0 (pa_cons (pv 6) (pa_cons (pv 4) (pa_cons (pv 12) pa_nil))))))
      (pss_cons (ps_if (pt_cmpR op_ne (pe_callB (KG.call_reprD hg0 hrG) (by rfl) A.Q.mRepr (by decide +kernel) (pa_cons (pe_lst (pa_cons (pe_call GL hr1 (by rfl) A.gL A.FL.kp A.bL .nil pass0 (pa_cons (pv 6) pa_nil)) (pa_cons (pe_call GG hr1 (by rfl) A.gG A.FG.kp A.bG .nil pass0 (pa_cons (pv 6) pa_nil)) pa_nil))) pa_nil)) (pe_callB (KG.call_reprD hg0 hrG) (by rfl) A.Q.mRepr (by decide +kernel) (pa_cons (pe_lst (pa_cons (pe_callB (cr_min rfl) (by rfl) A.mMin (by decide +kernel) (pa_cons (pv 11) pa_nil)) (pa_cons (pe_callB (cr_max rfl) (by rfl) A.Q.P.mm (by decide +kernel) (pa_cons (pv 11) pa_nil)) pa_nil))) pa_nil)) (nomark _)) (pss_one (ps_ret pe_bl)) pss_nil)
      (Evl.pss_cut (ps_if (PW.pt (pw_and (pt_val (pe_call GA hr3 (by rfl) A.Q.gAm A.Q.FAm.kp A.Q.bAm .nil pass0 (pa_cons (pv 6) (pa_cons (pv 7) pa_nil)))) (pw_and (pt_val (pe_call GA hr3 (by rfl) A.Q.gAm A.Q.FAm.kp A.Q.bAm .nil pass0 (pa_cons (pv 7) (pa_cons (pv 8) pa_nil)))) (pw_and1 (pt_not (pt_val (pe_call GA hr3 (by rfl) A.Q.gAm A.Q.FAm.kp A.Q.bAm .nil pass0 (pa_cons (pv 6) (pa_cons (pv 8) pa_nil))))))))) (pss_one (ps_ret pe_bl)) pss_nil)
      (pss_cons (ps_set (i := 12) scLaw.nd rfl (.inl rfl) (pe_ix ix_list (pv 5) (pe_call GT hr2 (by rfl) A.S.gT A.S.FT.kp A.S.bT .nil pass0 (pa_cons (pv 1) (pa_cons (pe_callB call_len_seq (by rfl) A.S.len (by decide +kernel) (pa_cons (pv 5) pa_nil)) pa_nil))) (fun _ _ => rfl)))
      (pss_cons (ps_if (pt_cmpR op_ne (pe_call GC hr1 (by rfl) A.gC A.FC.kp A.bC .nil pass0 (pa_cons (pv 6) (pa_cons (pe_callTy (r := rDict K) (call_dictP rfl) (by rfl) A.Q.V.dict (by decide +kernel) (pa_cons (ZL.pe_listZip rfl (pa_cons (pv 4) (pa_cons (pv 12) pa_nil)) (by rfl) A.Q.V.list (by rfl) A.Q.V.zip) pa_nil)) pa_nil))) (pe_call GV hr1 (by rfl) A.Q.gV A.Q.FV.kp A.Q.bV .nil pass0 (pa_cons (pv 6) (pa_cons (pv 4) (pa_cons (pv 12) pa_nil)))) (nomark _)) (pss_one (ps_ret pe_bl)) pss_nil)
      (pss_one (ps_if (pt_cmpR op_ne (pe_callB (KG.call_reprD hg0 hrG) (by rfl) A.Q.mRepr (by decide +kernel) (pa_cons (pe_lst (pa_cons (pv 6) (pa_cons (pv 7) (pa_cons (pv 8) (pa_cons (pv 4) pa_nil))))) pa_nil)) (pv 9) (nomark _)) (pss_one (ps_ret pe_bl)) pss_nil)))))))))))))))
      (pss_one (ps_ret (pe_and (pe_call GA hr3 (by rfl) A.Q.gAm A.Q.FAm.kp A.Q.bAm .nil pass0 (pa_cons (pe_tup (pa_cons pe_int (pa_cons (pe_tup pa_nil) pa_nil))) (pa_cons (pe_tup (pa_cons pe_int (pa_cons (pe_tup pa_nil) pa_nil))) pa_nil))) (pe_one (pe_cmpR op_eq (pe_callB (KG.call_reprD hg0 hrG) (by rfl) A.Q.mRepr (by decide +kernel) (pa_cons (pe_call GS hr3 (by rfl) A.Q.gWs A.Q.FWs.kp A.Q.bWs .nil pass0 (pa_cons (pe_tup (pa_cons pe_int (pa_cons (pe_tup pa_nil) pa_nil))) (pa_cons (pe_tup (pa_cons pe_int (pa_cons (pe_tup pa_nil) pa_nil))) (pa_cons (pe_tup (pa_cons pe_str (pa_cons pe_str pa_nil))) pa_nil)))) pa_nil)) pe_str (nomark _))))))))), ?_⟩
    refine ⟨_, rfl, by show 1 ≤ sizeLine; exact le_size (by decide), fun L0 nL0 => ?_⟩
    have hsa1 := sqL_same hsa (same_upd nL0 (o := .lst [.int 0]))
    have hz0 : (upd H L0 (.lst [.int 0])) L0 = some (.lst [.int 0]) := upd_same
    revert hsa1 hz0
    generalize upd H L0 (.lst [.int 0]) = H1
    intro hsa1 hz0
    refine ⟨sa, L0, _, [.int 0], rfl, rfl, hsa1, .inl (.inl hz0), by rw [List.length_map]; exact le_size (by show _ + 1 ≤ _; omega), fun L1 nL1 => ?_⟩
    refine ⟨_, rfl, L1, _, rfl, .inl (.inl upd_same), fun cc ncc => ?_⟩
    obtain ⟨cells, hcells⟩ : ∃ cells : List Int, cutV (ns.map V.int ++ [V.int 0]) none (some 63) = cells.map V.int := by
      have e : ns.map V.int ++ [V.int 0] = (ns ++ [0]).map V.int := by rw [List.map_append]; rfl
      unfold cutV
      rw [e, ← List.map_drop, ← List.map_take]
      exact ⟨_, rfl⟩
    have s12 : Same H1 (upd (upd H1 L1 (.lst (ns.map V.int ++ [V.int 0]))) cc (.lst (cutV (ns.map V.int ++ [V.int 0]) none (some 63)))) := (same_upd nL1).trans (same_upd ncc)
    have hcc : (upd (upd H1 L1 (.lst (ns.map V.int ++ [V.int 0]))) cc (.lst (cutV (ns.map V.int ++ [V.int 0]) none (some 63)))) cc = some (.lst (cells.map V.int)) := by rw [upd_same, hcells]
    have hsa2 := sqL_same hsa1 s12
    clear s12
    revert hcc hsa2
    generalize upd (upd H1 L1 (.lst (ns.map V.int ++ [V.int 0]))) cc (.lst (cutV (ns.map V.int ++ [V.int 0]) none (some 63))) = H2
    intro hcc hsa2
    refine ⟨by show 5 ≤ sizeLine; exact le_size (by decide), fun s nst => ?_⟩
    have nsc : s ≠ cc := (ne_of_none hcc nst).symm
    have m0 : Sm s cc 0 (upd H2 s (.lst [.ref cc, .int 0, .int 0, .int 7, .int 0])) := ⟨nsc, cells, 0, 0, 7, upd_same, by rw [upd_ne nsc.symm]; exact hcc, Int.le_refl _, Int.le_refl _⟩
    have hsa3 := sqL_same hsa2 (same_upd nst (o := .lst [.ref cc, .int 0, .int 0, .int 7, .int 0]))
    revert m0 hsa3
    generalize upd H2 s (.lst [.ref cc, .int 0, .int 0, .int 7, .int 0]) = H3
    intro m0 hsa3
    -- the grids
    refine ⟨4, rfl, by decide, by decide, fun D nD => ?_⟩
    have dn := m0.ns nD
    refine lc_range (n := 4) (fun i H' => Same H3 H' ∧ ∃ ps : List V, H' D = some (.lst ps) ∧ ps.length = i ∧ ∀ k, k < i → ∃ g : Addr, ps[k]? = some (.ref g) ∧ g ≠ s ∧ g ≠ cc ∧ g ≠ D ∧ GridAt H' g (grid k))
      ⟨same_upd nD, [], upd_same, rfl, fun k h => absurd h (Nat.not_lt_zero _)⟩ (fun i H' hi h => ?_) (fun H' h => ?_)
    · obtain ⟨sm, ps, hD, pl, hG⟩ := h
      refine ⟨rfl, ?_⟩
      refine ⟨_, rfl, (0 + (i : Int)), rfl, by omega, by omega, fun g H1 ng s1 hg => ?_⟩
      have hD1 := s1 _ _ hD
      have gn := (m0.same sm).ns ng
      have gD : g ≠ D := (ne_of_none hD ng).symm
      have e0 : (0 + (i : Int)).toNat = i := by omega
      rw [e0] at hg
      refine ⟨_, hD1, by rw [pl]; exact lt_size (by omega), ?_, _, upd_same, by rw [List.length_append, pl]; rfl, fun k hk => ?_⟩
      · intro b o e
        rw [upd_ne (ne_of_none e nD)]; exact s1 _ _ (sm _ _ e)
      · have kt : Kt H1 (upd H1 D (.lst (ps ++ [V.ref g]))) := Kt.upd fun xs e => by rw [hD1] at e; cases e
        have up : ∀ {a : Addr} {gr : List (List Int)}, a ≠ D → GridAt H1 a gr → GridAt (upd H1 D (.lst (ps ++ [V.ref g]))) a gr := fun {a} {gr} na h => by
          obtain ⟨vs, z1, z2⟩ := h
          exact ⟨vs, by rw [upd_ne na]; exact z1, z2.kt kt⟩
        by_cases hk2 : k < i
        · obtain ⟨g', e1, e2, e3, e5, e4⟩ := hG k hk2
          exact ⟨g', by rw [List.getElem?_append_left (by omega)]; exact e1, e2, e3, e5, up e5 (e4.same s1)⟩
        · have ek : k = i := by omega
          subst ek
          exact ⟨g, by rw [List.getElem?_append_right (by omega), pl, Nat.sub_self]; rfl, gn.1, gn.2, gD, up gD hg⟩
    · obtain ⟨sm, ps, hD, pl, hG⟩ := h
      have mG := m0.same sm
      have gds : Gds s cc H' D := ⟨dn.1, dn.2, ps, hD, fun k hk => by
        obtain ⟨g, e1, e2, e3, _, e4⟩ := hG k hk
        exact ⟨g, e1, e2, e3, e4⟩⟩
      have hsaG := sqL_same hsa3 sm
      have hlm : (ns.map V.int).length ≤ 63 := by rw [List.length_map]; exact hl
      refine ⟨_, rfl, sa, _, rfl, .inl hsaG, _, _, rfl, _, _, rfl, rfl, _, rfl, ?_, ?_, ?_⟩
      · show -(2 ^ 62) ≤ (3 : Int) + _
        split <;> omega
      · show (3 : Int) + _ < 2 ^ 62
        split <;> omega
      refine for_range (fun i σ H' => ∃ x3 x4 x5 x6 x7 x8 x9 x10 x11 x12, σ = [some (.ref sa), some (.ref s), some (.ref D), x3, x4, x5, x6, x7, x8, x9, x10, x11, x12, none] ∧ Sm s cc (1000 * (i : Nat)) H' ∧ Gds s cc H' D) ⟨_, _, _, _, _, _, _, _, _, _, rfl, mG.le (by decide), gds⟩ (fun i σ H1 hi h => ?_) (fun σ H1 h => ?_)
      · obtain ⟨x3, x4, x5, x6, x7, x8, x9, x10, x11, x12, rfl, m, gd⟩ := h
        have hi' : i < 47 := by
          revert hi
          show i < ((3 : Int) + _).toNat → _
          split <;> intro hi <;> omega
        refine ⟨s, cc, _, m, fun o ps H2 s2 o1 o2 ho pl fps => ?_⟩
        refine ⟨_, rfl, s, cc, 6, _, rfl, by decide, by decide, by omega, m.same s2, fun r H3' r0 r1 k3 m3 => ?_⟩
        obtain ⟨j, rfl⟩ := Int.eq_ofNat_of_zero_le r0
        have hj : j < six.length := by show j < 6; omega
        obtain ⟨ws, hws⟩ : ∃ ws, six[j]? = some ws := ⟨six[j], List.getElem?_eq_getElem hj⟩
        obtain ⟨p, hp0, p1, p2, hp2⟩ := fps j ws hws
        have ho3 := k3 _ _ o1 o2 ho
        refine ⟨o, ps, _, .ref p, rfl, rfl, .inl (.inl ho3), at_of rfl hp0, ?_⟩
        have hp := k3 _ _ p1 p2 hp2
        obtain ⟨l1, l3, nd, wok⟩ := six_ok ws (List.mem_of_getElem? hws)
        have gd3 := (gd.kp m (Kp.of_same s2)).kp (m.same s2) k3
        obtain ⟨_, _, gps, hG, hgs⟩ := id gd3
        obtain ⟨e, he, e1, e2, hE⟩ := hgs ws.length (by omega)
        refine ⟨_, rfl, _, rfl, p, _, rfl, .inl (.inl (.inl hp)), D, gps, _, .ref e, rfl, rfl, .inl (.inl hG), at_of (by rw [List.length_map]) he, ?_⟩
        refine ⟨_, rfl, _, rfl, s, cc, p, _, ws, rfl, by omega, m3, p1, p2, hp, l3, nd, fun v1 c1 H4 hC1 hO1 k4 m4 => ?_⟩
        have hp4 := k4 _ _ p1 p2 hp
        refine ⟨_, rfl, _, rfl, _, rfl, s, cc, p, _, v1, c1, ws, rfl, by omega, m4, p1, p2, hp4, l3, nd, hC1, hO1, fun v2 c2 H5 hC2 hO2 k5 m5 => ?_⟩
        have hp5 := k5 _ _ p1 p2 hp4
        refine ⟨_, rfl, _, rfl, _, rfl, s, cc, p, _, v2, c2, ws, rfl, by omega, m5, p1, p2, hp5, l3, nd, hC2, hO2, fun v3 c3 H6 hC3 hO3 k6 m6 => ?_⟩
        have hp6 := k6 _ _ p1 p2 hp5
        have C1 := (hC1.kt (Kt.of_kp m4 k5)).kt (Kt.of_kp m5 k6)
        have C2 := hC2.kt (Kt.of_kp m5 k6)
        have hE6 := ((hE.kp m3 k4 e1 e2).kp m4 k5 e1 e2).kp m5 k6 e1 e2
        have gd6 := ((gd3.kp m3 k4).kp m4 k5).kp m5 k6
        have fin4 : Fin1 (.list [dat c1, dat c2, dat c3, .list (ws.map PyData.str)]) 1000 4 := by
          have := fin_lst (fin_cons (fin_dat hO1 wok) (fin_cons (fin_dat hO2 wok) (fin_cons (fin_dat hO3 wok) (fin_cons (fin_lst (fin_strs wok)) fin_nil))))
          exact ⟨this.lay, this.lv, this.sh, Nat.le_trans this.w (by omega), Nat.le_trans this.d (by decide)⟩
        have four : ∀ {H9 : Hp} {σ9 : L2.St} (Q9 : VK), IsC H9 v1 c1 → IsC H9 v2 c2 → IsC H9 v3 c3 → H9 p = some (.lst (ws.map V.str)) → (∀ H', Same H9 H' → Q9 (.str (PyData.list [dat c1, dat c2, dat c3, .list (ws.map PyData.str)]).shown) H') →
            [v1, v2, v3, V.ref p].length ≤ sizeLine ∧ ∀ L, H9 L = none → tNil σ9 (upd H9 L (.lst [v1, v2, v3, V.ref p])) fun xs H2 => KG.rRepr K (.ref L :: xs) H2 Q9 := fun {H9} {σ9} Q9 a1 a2 a3 a4 q9 => by
          refine ⟨by show 4 ≤ sizeLine; exact le_size (by decide), fun L nL => ?_⟩
          have s9 : Same H9 (upd H9 L (.lst [v1, v2, v3, V.ref p])) := same_upd nL
          exact repr_dp (.lst (.inl (.inl upd_same)) (.cons (dp_count (a1.kt (Kt.of_same s9))) (.cons (dp_count (a2.kt (Kt.of_same s9))) (.cons (dp_count (a3.kt (Kt.of_same s9))) (.cons (.lst (.inl (.inl (s9 _ _ a4))) (dpa_strs ws)) .nil))))) fin4 (by decide) (by decide) rfl (q9 _ s9)
        generalize hκ : (PyData.list [dat c1, dat c2, dat c3, .list (ws.map PyData.str)]).shown = κ at four
        refine ⟨_, rfl, _, rfl, _, rfl, _, rfl, four _ C1 C2 hC3 hp6 fun H7 s7 => ?_⟩
        -- the pairs
        refine ⟨_, rfl, _, rfl, by show 2 ≤ sizeLine; exact le_size (by decide), fun t1 n1 => ?_⟩
        refine ⟨_, rfl, _, rfl, by show 2 ≤ sizeLine; exact le_size (by decide), fun t2 n2 => ?_⟩
        refine ⟨_, rfl, _, rfl, by show 2 ≤ sizeLine; exact le_size (by decide), fun t3 n3 => ?_⟩
        refine ⟨_, rfl, _, rfl, by show 2 ≤ sizeLine; exact le_size (by decide), fun t4 n4 => ?_⟩
        refine ⟨_, rfl, _, rfl, by show 2 ≤ sizeLine; exact le_size (by decide), fun t5 n5 => ?_⟩
        refine ⟨by show 5 ≤ sizeLine; exact le_size (by decide), fun LL nLL => ?_⟩
        have T5 := same_upd nLL (o := .lst [.ref t1, .ref t2, .ref t3, .ref t4, .ref t5])
        have T4 := (same_upd n5 (o := .tup [v1, v3])).trans T5
        have T3 := (same_upd n4 (o := .tup [v2, v3])).trans T4
        have T2 := (same_upd n3 (o := .tup [v1, v1])).trans T3
        have T1 := (same_upd n2 (o := .tup [v2, v1])).trans T2
        have T0 := s7.trans ((same_upd n1 (o := .tup [v1, v2])).trans T1)
        have f1 := T1 t1 _ upd_same
        have f2 := T2 t2 _ upd_same
        have f3 := T3 t3 _ upd_same
        have f4 := T4 t4 _ upd_same
        have f5 := T5 t5 _ upd_same
        have fL := upd_same (H := upd (upd (upd (upd (upd H7 t1 (.tup [v1, v2])) t2 (.tup [v2, v1])) t3 (.tup [v1, v1])) t4 (.tup [v2, v3])) t5 (.tup [v1, v3])) (a := LL) (o := .lst [.ref t1, .ref t2, .ref t3, .ref t4, .ref t5])
        clear T1 T2 T3 T4 T5 nLL n5 n4 n3 n2
        revert T0 f1 f2 f3 f4 f5 fL
        generalize upd (upd (upd (upd (upd (upd H7 t1 (.tup [v1, v2])) t2 (.tup [v2, v1])) t3 (.tup [v1, v1])) t4 (.tup [v2, v3])) t5 (.tup [v1, v3])) LL (.lst [.ref t1, .ref t2, .ref t3, .ref t4, .ref t5]) = H8
        intro T0 f1 f2 f3 f4 f5 fL
        have C1' := C1.kt (Kt.of_same T0)
        have C2' := C2.kt (Kt.of_same T0)
        have C3' := hC3.kt (Kt.of_same T0)
        have hp8 := T0 _ _ hp6
        have hE8 := hE6.same T0
        have m8 := m6.same T0
        have pairs : ∀ x ∈ [V.ref t1, .ref t2, .ref t3, .ref t4, .ref t5], ∃ (t : Addr) (va vb : V) (ca cb : Cnt), x = .ref t ∧ H8 t = some (.tup [va, vb]) ∧ IsC H8 va ca ∧ IsC H8 vb cb ∧ CntOk ws ca ∧ CntOk ws cb := fun x hx => by
          simp only [List.mem_cons, List.not_mem_nil, or_false] at hx
          rcases hx with h | h | h | h | h
          · exact ⟨t1, v1, v2, c1, c2, h, f1, C1', C2', hO1, hO2⟩
          · exact ⟨t2, v2, v1, c2, c1, h, f2, C2', C1', hO2, hO1⟩
          · exact ⟨t3, v1, v1, c1, c1, h, f3, C1', C1', hO1, hO1⟩
          · exact ⟨t4, v2, v3, c2, c3, h, f4, C2', C3', hO2, hO3⟩
          · exact ⟨t5, v1, v3, c1, c3, h, f5, C1', C3', hO1, hO3⟩
        refine ⟨LL, rfl, ⟨_, .inl (.inl fL)⟩, ?_⟩
        refine for_list (K := K) (a := LL) (xs := [V.ref t1, .ref t2, .ref t3, .ref t4, .ref t5]) (fun i' σ H' => ∃ x10 : Option V, σ = [some (.ref sa), some (.ref s), some (.ref D), some (.int (0 + (i : Nat))), some (.ref p), some (.ref e), some v1, some v2, some v3, some (.str κ), x10, x11, x12, none] ∧ Same H8 H')
          ⟨x10, rfl, Same.refl H8⟩ (fun i' σ H' hi h => by obtain ⟨_, _, h⟩ := h; exact .inl (.inl (h _ _ fL))) (fun i' x σ H' hx h => ?_) (fun σ H9 h => ?_)
        · obtain ⟨x10', rfl, sm⟩ := h
          obtain ⟨t, va, vb, ca, cb, rfl, ht, hca, hcb, ka, kb⟩ := pairs x (List.mem_of_getElem? hx)
          refine ⟨_, rfl, t, _, _, va, rfl, rfl, .inl (.inl (sm _ _ ht)), rfl, _, rfl, t, _, _, vb, rfl, rfl, .inl (.inl (sm _ _ ht)), rfl, _, rfl, _, rfl, va, vb, p, e, ca, cb, ws, rfl, hca.kt (Kt.of_same sm), hcb.kt (Kt.of_same sm), ka, kb, sm _ _ hp8, l1, l3, nd, hE8.same sm, fun H'' s'' => ?_⟩
          exact ⟨_, rfl, iteF ⟨_, rfl, sm.trans s''⟩⟩
        · obtain ⟨x10', rfl, sm9⟩ := h
          have C19 := C1'.kt (Kt.of_same sm9)
          have C29 := C2'.kt (Kt.of_same sm9)
          have C39 := C3'.kt (Kt.of_same sm9)
          have hp9 := sm9 _ _ hp8
          have m9 := m8.same sm9
          obtain ⟨gs, hgsE, hX⟩ := hE8.same sm9
          have gl := grid_small (n := ws.length) l3
          have gpos : 0 < (grid ws.length).length := by rw [grid_len]; exact Nat.pow_pos (by decide)
          -- values
          refine ⟨_, rfl, e, rfl, ⟨_, .inl (.inl hgsE)⟩, fun D3 nD3 => ?_⟩
          refine lc_list (K := K) (a := e) (xs := gs) (fun i' H' => Same H9 H' ∧ H' D3 = some (.lst ((((grid ws.length).take i').map fun xs => val c1 (rho ws xs)).map V.int))) ⟨same_upd nD3, upd_same⟩
            (fun i' H' hi h => .inl (.inl (h.1 _ _ hgsE))) (fun i' x H' hx h => ?_) (fun HA h => ?_)
          · obtain ⟨sm, hD3⟩ := h
            obtain ⟨xs, hxs, a, rfl, ha⟩ := hX.at hx
            have xl : ws.length = xs.length := (mem_grid.mp (List.mem_of_getElem? hxs)).1.symm
            refine ⟨rfl, ?_⟩
            refine ⟨_, rfl, _, rfl, _, rfl, v1, p, a, c1, ws, xs, rfl, C19.kt (Kt.of_same sm), hO1, sm _ _ hp9, sm _ _ ha, xl, l1, l3, nd, fun H'' s'' => ?_⟩
            refine ⟨_, s'' _ _ hD3, ?_, fun b' ob z => ?_, ?_⟩
            · rw [List.length_map, List.length_map, List.length_take]
              exact lt_size (by omega)
            · rw [upd_ne (ne_of_none z nD3)]; exact s'' _ _ (sm _ _ z)
            · rw [upd_same, take_snoc hxs, List.map_append, List.map_append]; rfl
          · obtain ⟨sA, hD3⟩ := h
            rw [List.take_of_length_le (by rw [hX.1]; exact Nat.le_refl _)] at hD3
            have CA := C19.kt (Kt.of_same sA)
            -- the least, the greatest
            refine ⟨_, rfl, v1, c1, rfl, CA, hO1.good, fun HB sB => ?_⟩
            refine ⟨_, rfl, v1, c1, rfl, CA.kt (Kt.of_same sB), hO1.good, fun HC sC => ?_⟩
            refine ⟨by show 2 ≤ sizeLine; exact le_size (by decide), fun L1' nL1 => ?_⟩
            have sAC := sB.trans sC
            have bs := (sum_bd0 hO1.good.lo)
            have few1 := hO1.good.few
            have lo1 := hO1.lo
            have bl : -1000000 ≤ leastv c1 ∧ leastv c1 ≤ 1000000 := by
              show -1000000 ≤ c1.1 + (c1.2.map (·.2)).sum ∧ c1.1 + (c1.2.map (·.2)).sum ≤ 1000000
              omega
            have bg : -1000000 ≤ greatv c1 ∧ greatv c1 ≤ 1000000 := by
              show -1000000 ≤ c1.1 + 12 * (c1.2.map (·.2)).sum ∧ c1.1 + 12 * (c1.2.map (·.2)).sum ≤ 1000000
              omega
            have fins : Fin1 (.list ([leastv c1, greatv c1].map PyData.int)) (2 * 32) 1 := fin_lst (fin_ints (ns := [leastv c1, greatv c1]) fun n hn => by
              simp only [List.mem_cons, List.not_mem_nil, or_false] at hn
              rcases hn with h | h <;> subst h
              · exact bl
              · exact bg)
            refine repr_dp (d := .list ([leastv c1, greatv c1].map PyData.int)) (.lst (.inl (.inl upd_same)) (dpa_ints [leastv c1, greatv c1])) fins (by decide) (by decide) rfl ?_
            have sAD := sAC.trans (same_upd nL1 (o := .lst [.int (leastv c1), .int (greatv c1)]))
            have hD4 := sAD _ _ hD3
            refine ⟨_, rfl, D3, _, rfl, .inl (.inl hD4), by rw [List.length_map]; exact gpos, fun mn mn1 mn2 => ?_⟩
            refine ⟨_, rfl, D3, _, rfl, .inl (.inl hD4), by rw [List.length_map]; exact gpos, fun mx mx1 mx2 => ?_⟩
            have emn : mn = leastv c1 := min_is hO1 mn1 mn2
            have emx : mx = greatv c1 := max_is hO1 mx1 mx2
            subst emn emx
            refine ⟨by show 2 ≤ sizeLine; exact le_size (by decide), fun L2' nL2 => ?_⟩
            refine repr_dp (d := .list ([leastv c1, greatv c1].map PyData.int)) (.lst (.inl (.inl upd_same)) (dpa_ints [leastv c1, greatv c1])) fins (by decide) (by decide) rfl ?_
            refine ⟨rfl, _, rfl, ?_⟩
            rw [decide_eq_true rfl]
            refine iteF ?_
            have sAE := sAD.trans (same_upd nL2 (o := .lst [.int (leastv c1), .int (greatv c1)]))
            have s9E := sA.trans sAE
            clear sAE nL2 hD4 sAD nL1
            revert s9E
            generalize upd (upd HC L1' (.lst [.int (leastv c1), .int (greatv c1)])) L2' (.lst [.int (leastv c1), .int (greatv c1)]) = HE
            intro s9E
            -- three of them
            refine ⟨fun σ' H' => σ' = [some (.ref sa), some (.ref s), some (.ref D), some (.int (0 + (i : Nat))), some (.ref p), some (.ref e), some v1, some v2, some v3, some (.str κ), x10', some (.ref D3), x12, none] ∧ Same H9 H', ?_, ?_⟩
            · refine ⟨_, rfl, _, rfl, v1, v2, c1, c2, rfl, C19.kt (Kt.of_same s9E), C29.kt (Kt.of_same s9E), hO1.good, hO2.good, fun HF sF => ?_⟩
              have s9F := s9E.trans sF
              refine ⟨_, rfl, ite2 (fun q1 => ?_) (fun q1 => iteF ⟨rfl, s9F⟩)⟩
              refine ⟨_, rfl, _, rfl, v2, v3, c2, c3, rfl, C29.kt (Kt.of_same s9F), C39.kt (Kt.of_same s9F), hO2.good, hO3.good, fun HG' sG => ?_⟩
              have s9G := s9F.trans sG
              refine ⟨_, rfl, ite2 (fun q2 => ?_) (fun q2 => iteF ⟨rfl, s9G⟩)⟩
              refine ⟨_, rfl, _, rfl, v1, v3, c1, c3, rfl, C19.kt (Kt.of_same s9G), C39.kt (Kt.of_same s9G), hO1.good, hO3.good, fun HH sH => ?_⟩
              have h13 : apart c1 c3 ≤ 0 := at_most_trans nd hO1 hO2 hO3 (of_decide_eq_true q1) (of_decide_eq_true q2)
              refine ⟨_, rfl, ?_⟩
              show if (!decide (apart c1 c3 ≤ 0)) = true then _ else _
              rw [decide_eq_true h13]
              exact iteF ⟨rfl, s9G.trans sH⟩
            · rintro σ' HI ⟨rfl, s9I⟩
              have m9I := m9.same s9I
              have gI := s9I _ _ hgsE
              have gsl : gs.length = (grid ws.length).length := hX.1
              refine ⟨_, rfl, _, rfl, _, rfl, e, gs, rfl, .inl (.inl (.inl gI)), s, cc, _, _, rfl, by omega, by omega, by omega, m9I, fun r' HJ r0' r1' kJ mJ => ?_⟩
              obtain ⟨j', rfl⟩ := Int.eq_ofNat_of_zero_le r0'
              have hj' : j' < gs.length := by omega
              obtain ⟨xs, hxs, a, hga, ha⟩ := hX.at (List.getElem?_eq_getElem hj')
              have gJ := kJ _ _ e1 e2 gI
              refine ⟨e, gs, _, gs[j'], rfl, rfl, .inl (.inl gJ), at_of rfl (List.getElem?_eq_getElem hj'), ?_⟩
              rw [hga]
              have xl : ws.length = xs.length := (mem_grid.mp (List.mem_of_getElem? hxs)).1.symm
              have ktJ := (Kt.of_same s9I).trans (Kt.of_kp m9I kJ)
              have haJ := ktJ _ _ ha
              have hpJ := kJ _ _ p1 p2 (s9I _ _ hp9)
              have C1J := C19.kt ktJ
              have C2J := C29.kt ktJ
              have C3J := C39.kt ktJ
              refine ⟨_, rfl, _, rfl, _, rfl, ?_⟩
              refine dict_zipN hpJ haJ xl l1 l3 nd fun d HK mm sK ndK hdK hco hmem => ?_
              refine ⟨v1, d, c1, mm, rfl, C1J.kt (Kt.of_same sK), hO1.good, hdK, fun pp hpp => hmem _ (hO1.sub _ (List.mem_map_of_mem hpp)), fun HL sL => ?_⟩
              have sJL := sK.trans sL
              refine ⟨_, rfl, _, rfl, _, rfl, v1, p, a, c1, ws, xs, rfl, C1J.kt (Kt.of_same sJL), hO1, sJL _ _ hpJ, sJL _ _ haJ, xl, l1, l3, nd, fun HM sM => ?_⟩
              have ev : coef mm = rho ws xs := funext hco
              rw [ev]
              refine ⟨rfl, _, rfl, ?_⟩
              rw [decide_eq_true rfl]
              refine iteF ?_
              have sJM := sJL.trans sM
              refine ⟨_, rfl, _, rfl, _, rfl, _, rfl, four _ (C1J.kt (Kt.of_same sJM)) (C2J.kt (Kt.of_same sJM)) (C3J.kt (Kt.of_same sJM)) (sJM _ _ hpJ) fun HN sN => ?_⟩
              refine ⟨_, rfl, rfl, _, rfl, ?_⟩
              rw [decide_eq_true rfl]
              exact iteF ⟨_, _, _, _, _, _, _, _, _, _, rfl, ((mJ.same sJM).same sN).le (by omega), (((((gd6.kp m6 (Kp.of_same T0)).kp m8 (Kp.of_same sm9)).kp m9 (Kp.of_same s9I)).kp m9I kJ).kp mJ (Kp.of_same sJM)).kp (mJ.same sJM) (Kp.of_same sN)⟩
      · obtain ⟨x3, x4, x5, x6, x7, x8, x9, x10, x11, x12, rfl, m, gd⟩ := h
        refine ⟨by show 0 ≤ sizeLine; exact Nat.zero_le _, fun a1 n1 => ?_⟩
        refine ⟨by show 2 ≤ sizeLine; exact le_size (by decide), fun a2 n2 => ?_⟩
        refine ⟨by show 0 ≤ sizeLine; exact Nat.zero_le _, fun a3 n3 => ?_⟩
        refine ⟨by show 2 ≤ sizeLine; exact le_size (by decide), fun a4 n4 => ?_⟩
        have g0 : Good ([] : Tms) := ⟨List.nodup_nil, (fun p h => nomatch h), Nat.zero_le _⟩
        have iz : ∀ {Hx : Hp} {t a : Addr} {i : Int}, Hx a = some (.tup [.int i, .ref t]) → Hx t = some (.tup []) → IsC Hx (.ref a) (i, []) := fun {Hx} {t} {a} {i} h1 h2 => ⟨a, t, [], rfl, h1, h2, rfl, (fun j p e => nomatch e)⟩
        have c1 := iz (i := 0) (Hx := upd (upd (upd (upd H1 a1 (.tup [])) a2 (.tup [.int 0, .ref a1])) a3 (.tup [])) a4 (.tup [.int 0, .ref a3])) ((same_upd n4) _ _ ((same_upd n3) _ _ upd_same)) ((same_upd n4) _ _ ((same_upd n3) _ _ ((same_upd n2) _ _ upd_same)))
        have c2 := iz (i := 0) (Hx := upd (upd (upd (upd H1 a1 (.tup [])) a2 (.tup [.int 0, .ref a1])) a3 (.tup [])) a4 (.tup [.int 0, .ref a3])) upd_same ((same_upd n4) _ _ upd_same)
        refine ⟨.ref a2, .ref a4, (0, []), (0, []), rfl, c1, c2, g0, g0, fun H5 s5 => ?_⟩
        refine ⟨_, rfl, iteT ?_⟩
        refine ⟨by show 0 ≤ sizeLine; exact Nat.zero_le _, fun b1 o1 => ?_⟩
        refine ⟨by show 2 ≤ sizeLine; exact le_size (by decide), fun b2 o2 => ?_⟩
        refine ⟨by show 0 ≤ sizeLine; exact Nat.zero_le _, fun b3 o3 => ?_⟩
        refine ⟨by show 2 ≤ sizeLine; exact le_size (by decide), fun b4 o4 => ?_⟩
        refine ⟨by show 2 ≤ sizeLine; exact le_size (by decide), fun b5 o5 => ?_⟩
        have ko : ∀ i : Int, -100 ≤ i → i ≤ 100 → CntOk [("n" : Str), "m"] (i, []) := fun i h1 h2 => ⟨g0, (fun k hk => nomatch hk), h1, h2⟩
        refine sp_wsN (ws := ["n", "m"]) (c := (1, [])) (o := (0, [])) (iz (t := b1) ((same_upd o5) _ _ ((same_upd o4) _ _ ((same_upd o3) _ _ upd_same))) ((same_upd o5) _ _ ((same_upd o4) _ _ ((same_upd o3) _ _ ((same_upd o2) _ _ upd_same))))) (iz (t := b3) ((same_upd o5) _ _ upd_same) ((same_upd o5) _ _ ((same_upd o4) _ _ upd_same))) (.inr upd_same) (by decide) (by decide) (ko 1 (by decide) (by decide)) (ko 0 (by decide) (by decide)) fun r H6 s6 hr => ?_
        have hw : worst [("n" : Str), "m"] (1, []) (0, []) = some [1, 1] := by decide +kernel
        rw [hw] at hr
        have fo : Fin1 (optD (some [1, 1])) 100 1 := fin_opt fun xs h => by
          cases h
          exact ⟨by decide, by decide⟩
        refine repr_dp (d := optD (some [1, 1])) (dp_opt hr) fo (by decide) (by decide) rfl ?_
        have e2 : (optD (some [1, 1])).shown = ("(1, 1)" : Str) := by decide +kernel
        rw [e2]
        refine ⟨rfl, ?_⟩
        rw [decide_eq_true rfl]
        exact q _
end
end K4

set_option Elab.async false
set_option linter.all false
set_option maxRecDepth 100000
set_option maxHeartbeats 4000000
namespace K4
open PySem PySem.Spec PyProof.Rows L2
theorem all_mk {l : PySem.W.OpenLaw} {w : World} {K : PySem.W.Frag} {h : Heap} {mg : Str → Option Value} {fa : Addr} (X : K.In h) (G : h.Ns mainGlobals mg) (hfa : mg "law" = some (.ref fa))
    {fCa : Addr} {odCa anCa : Option Addr} {slCa : Array (Option Value)} {ocCa kVCa dcCa pmCa cdCa ctCa : Value}
    {fLo : Addr} {odLo anLo : Option Addr} {slLo : Array (Option Value)} {ocLo kVLo dcLo pmLo cdLo ctLo : Value}
    {fGo : Addr} {odGo anGo : Option Addr} {slGo : Array (Option Value)} {ocGo kVGo dcGo pmGo cdGo ctGo : Value}
    {fTm : Addr} {odTm anTm : Option Addr} {slTm : Array (Option Value)} {ocTm kVTm dcTm pmTm cdTm ctTm : Value}
    {fMb : Addr} {odMb anMb : Option Addr} {slMb : Array (Option Value)} {ocMb kVMb dcMb pmMb cdMb ctMb : Value}
    {fMa : Addr} {odMa anMa : Option Addr} {slMa : Array (Option Value)} {ocMa kVMa dcMa pmMa cdMa ctMa : Value}
    {fAm : Addr} {odAm anAm : Option Addr} {slAm : Array (Option Value)} {ocAm kVAm dcAm pmAm cdAm ctAm : Value}
    {fWs : Addr} {odWs anWs : Option Addr} {slWs : Array (Option Value)} {ocWs kVWs dcWs pmWs cdWs ctWs : Value}
    {fLs : Addr} {odLs anLs : Option Addr} {slLs : Array (Option Value)} {ocLs kVLs dcLs pmLs cdLs ctLs : Value}
    {fMx : Addr} {odMx anMx : Option Addr} {slMx : Array (Option Value)} {ocMx kVMx dcMx pmMx cdMx ctMx : Value}
    {fTk : Addr} {odTk anTk : Option Addr} {slTk : Array (Option Value)} {ocTk kVTk dcTk pmTk cdTk ctTk : Value}
    {fOf : Addr} {odOf anOf : Option Addr} {slOf : Array (Option Value)} {ocOf kVOf dcOf pmOf cdOf ctOf : Value}
    {fCb : Addr} {odCb anCb : Option Addr} {slCb : Array (Option Value)} {ocCb kVCb dcCb pmCb cdCb ctCb : Value}
    {fNe : Addr} {odNe anNe : Option Addr} {slNe : Array (Option Value)} {ocNe kVNe dcNe pmNe cdNe ctNe : Value}
    {fAl : Addr} {odAl anAl : Option Addr} {slAl : Array (Option Value)} {ocAl kVAl dcAl pmAl cdAl ctAl : Value}
    {fVa : Addr} {odVa anVa : Option Addr} {slVa : Array (Option Value)} {ocVa kVVa dcVa pmVa cdVa ctVa : Value}
    {fWo : Addr} {odWo anWo : Option Addr} {slWo : Array (Option Value)} {ocWo kVWo dcWo pmWo cdWo ctWo : Value}
    {fTw : Addr} {odTw anTw : Option Addr} {slTw : Array (Option Value)} {ocTw kVTw dcTw pmTw cdTw ctTw : Value}
    {fLw : Addr} {odLw anLw : Option Addr} {slLw : Array (Option Value)} {ocLw kVLw dcLw pmLw cdLw ctLw : Value}
    {t0 : Tok}
    (aCa : PySem.W.nsIn K mainGlobals "count_at" = some (some (.ref fCa))) (lCa : K.lookup fCa = some ⟨ocCa, odCa, .func (PySem.W.fnOf "count_at" "count_at" (defArgs sCountAt) (defBody sCountAt) (defScope sCountAt) .none kVCa dcCa pmCa anCa cdCa ctCa), slCa⟩) (cCa : PySem.W.codeIn K cdCa "count_at" = true) (kCa : PySem.W.keepIn K (.ref fCa) = true)
    (aLo : PySem.W.nsIn K mainGlobals "least_of" = some (some (.ref fLo))) (lLo : K.lookup fLo = some ⟨ocLo, odLo, .func (PySem.W.fnOf "least_of" "least_of" (defArgs sLeast) (defBody sLeast) (defScope sLeast) .none kVLo dcLo pmLo anLo cdLo ctLo), slLo⟩) (cLo : PySem.W.codeIn K cdLo "least_of" = true) (kLo : PySem.W.keepIn K (.ref fLo) = true)
    (aGo : PySem.W.nsIn K mainGlobals "greatest_of" = some (some (.ref fGo))) (lGo : K.lookup fGo = some ⟨ocGo, odGo, .func (PySem.W.fnOf "greatest_of" "greatest_of" (defArgs sGreatest) (defBody sGreatest) (defScope sGreatest) .none kVGo dcGo pmGo anGo cdGo ctGo), slGo⟩) (cGo : PySem.W.codeIn K cdGo "greatest_of" = true) (kGo : PySem.W.keepIn K (.ref fGo) = true)
    (aTm : PySem.W.nsIn K mainGlobals "times_more" = some (some (.ref fTm))) (lTm : K.lookup fTm = some ⟨ocTm, odTm, .func (PySem.W.fnOf "times_more" "times_more" (defArgs sTimes) (defBody sTimes) (defScope sTimes) .none kVTm dcTm pmTm anTm cdTm ctTm), slTm⟩) (cTm : PySem.W.codeIn K cdTm "times_more" = true) (kTm : PySem.W.keepIn K (.ref fTm) = true)
    (aMb : PySem.W.nsIn K mainGlobals "most_by" = some (some (.ref fMb))) (lMb : K.lookup fMb = some ⟨ocMb, odMb, .func (PySem.W.fnOf "most_by" "most_by" (defArgs sMostBy) (defBody sMostBy) (defScope sMostBy) .none kVMb dcMb pmMb anMb cdMb ctMb), slMb⟩) (cMb : PySem.W.codeIn K cdMb "most_by" = true) (kMb : PySem.W.keepIn K (.ref fMb) = true)
    (aMa : PySem.W.nsIn K mainGlobals "most_apart" = some (some (.ref fMa))) (lMa : K.lookup fMa = some ⟨ocMa, odMa, .func (PySem.W.fnOf "most_apart" "most_apart" (defArgs sApart) (defBody sApart) (defScope sApart) .none kVMa dcMa pmMa anMa cdMa ctMa), slMa⟩) (cMa : PySem.W.codeIn K cdMa "most_apart" = true) (kMa : PySem.W.keepIn K (.ref fMa) = true)
    (aAm : PySem.W.nsIn K mainGlobals "at_most" = some (some (.ref fAm))) (lAm : K.lookup fAm = some ⟨ocAm, odAm, .func (PySem.W.fnOf "at_most" "at_most" (defArgs sAtMost) (defBody sAtMost) (defScope sAtMost) .none kVAm dcAm pmAm anAm cdAm ctAm), slAm⟩) (cAm : PySem.W.codeIn K cdAm "at_most" = true) (kAm : PySem.W.keepIn K (.ref fAm) = true)
    (aWs : PySem.W.nsIn K mainGlobals "worst_sizes" = some (some (.ref fWs))) (lWs : K.lookup fWs = some ⟨ocWs, odWs, .func (PySem.W.fnOf "worst_sizes" "worst_sizes" (defArgs sWorstS) (defBody sWorstS) (defScope sWorstS) .none kVWs dcWs pmWs anWs cdWs ctWs), slWs⟩) (cWs : PySem.W.codeIn K cdWs "worst_sizes" = true) (kWs : PySem.W.keepIn K (.ref fWs) = true)
    (aLs : PySem.W.nsIn K mainGlobals "least_size" = some (some (.ref fLs))) (lLs : K.lookup fLs = some ⟨ocLs, odLs, .func (PySem.W.fnOf "least_size" "least_size" (defArgs sLeastS) (defBody sLeastS) (defScope sLeastS) .none kVLs dcLs pmLs anLs cdLs ctLs), slLs⟩) (cLs : PySem.W.codeIn K cdLs "least_size" = true) (kLs : PySem.W.keepIn K (.ref fLs) = true)
    (aMx : PySem.W.nsIn K mainGlobals "_law_mixed" = some (some (.ref fMx))) (lMx : K.lookup fMx = some ⟨ocMx, odMx, .func (PySem.W.fnOf "_law_mixed" "_law_mixed" (defArgs sMixed) (defBody sMixed) (defScope sMixed) .none kVMx dcMx pmMx anMx cdMx ctMx), slMx⟩) (cMx : PySem.W.codeIn K cdMx "_law_mixed" = true) (kMx : PySem.W.keepIn K (.ref fMx) = true)
    (aTk : PySem.W.nsIn K mainGlobals "_law_take" = some (some (.ref fTk))) (lTk : K.lookup fTk = some ⟨ocTk, odTk, .func (PySem.W.fnOf "_law_take" "_law_take" (defArgs sTake) (defBody sTake) (defScope sTake) .none kVTk dcTk pmTk anTk cdTk ctTk), slTk⟩) (cTk : PySem.W.codeIn K cdTk "_law_take" = true) (kTk : PySem.W.keepIn K (.ref fTk) = true)
    (aOf : PySem.W.nsIn K mainGlobals "_law_of" = some (some (.ref fOf))) (lOf : K.lookup fOf = some ⟨ocOf, odOf, .func (PySem.W.fnOf "_law_of" "_law_of" (defArgs sOf) (defBody sOf) (defScope sOf) .none kVOf dcOf pmOf anOf cdOf ctOf), slOf⟩) (cOf : PySem.W.codeIn K cdOf "_law_of" = true) (kOf : PySem.W.keepIn K (.ref fOf) = true)
    (aCb : PySem.W.nsIn K mainGlobals "_law_count_by" = some (some (.ref fCb))) (lCb : K.lookup fCb = some ⟨ocCb, odCb, .func (PySem.W.fnOf "_law_count_by" "_law_count_by" (defArgs sCountBy) (defBody sCountBy) (defScope sCountBy) .none kVCb dcCb pmCb anCb cdCb ctCb), slCb⟩) (cCb : PySem.W.codeIn K cdCb "_law_count_by" = true) (kCb : PySem.W.keepIn K (.ref fCb) = true)
    (aNe : PySem.W.nsIn K mainGlobals "_law_near_by" = some (some (.ref fNe))) (lNe : K.lookup fNe = some ⟨ocNe, odNe, .func (PySem.W.fnOf "_law_near_by" "_law_near_by" (defArgs sNear) (defBody sNear) (defScope sNear) .none kVNe dcNe pmNe anNe cdNe ctNe), slNe⟩) (cNe : PySem.W.codeIn K cdNe "_law_near_by" = true) (kNe : PySem.W.keepIn K (.ref fNe) = true)
    (aAl : PySem.W.nsIn K mainGlobals "_law_all_sizes" = some (some (.ref fAl))) (lAl : K.lookup fAl = some ⟨ocAl, odAl, .func (PySem.W.fnOf "_law_all_sizes" "_law_all_sizes" (defArgs sAll) (defBody sAll) (defScope sAll) .none kVAl dcAl pmAl anAl cdAl ctAl), slAl⟩) (cAl : PySem.W.codeIn K cdAl "_law_all_sizes" = true) (kAl : PySem.W.keepIn K (.ref fAl) = true)
    (aVa : PySem.W.nsIn K mainGlobals "_law_value" = some (some (.ref fVa))) (lVa : K.lookup fVa = some ⟨ocVa, odVa, .func (PySem.W.fnOf "_law_value" "_law_value" (defArgs sValue) (defBody sValue) (defScope sValue) .none kVVa dcVa pmVa anVa cdVa ctVa), slVa⟩) (cVa : PySem.W.codeIn K cdVa "_law_value" = true) (kVa : PySem.W.keepIn K (.ref fVa) = true)
    (aWo : PySem.W.nsIn K mainGlobals "_law_worst" = some (some (.ref fWo))) (lWo : K.lookup fWo = some ⟨ocWo, odWo, .func (PySem.W.fnOf "_law_worst" "_law_worst" (defArgs sWorst) (defBody sWorst) (defScope sWorst) .none kVWo dcWo pmWo anWo cdWo ctWo), slWo⟩) (cWo : PySem.W.codeIn K cdWo "_law_worst" = true) (kWo : PySem.W.keepIn K (.ref fWo) = true)
    (aTw : PySem.W.nsIn K mainGlobals "_law_two_right" = some (some (.ref fTw))) (lTw : K.lookup fTw = some ⟨ocTw, odTw, .func (PySem.W.fnOf "_law_two_right" "_law_two_right" (defArgs sTwo) (defBody sTwo) (defScope sTwo) .none kVTw dcTw pmTw anTw cdTw ctTw), slTw⟩) (cTw : PySem.W.codeIn K cdTw "_law_two_right" = true) (kTw : PySem.W.keepIn K (.ref fTw) = true)
    (aLw : PySem.W.nsIn K mainGlobals "law" = some (some (.ref fLw))) (lLw : K.lookup fLw = some ⟨ocLw, odLw, .func (PySem.W.fnOf "law" "law" (defArgs sLaw) (defBody sLaw) (defScope sLaw) .none kVLw dcLw pmLw anLw cdLw ctLw), slLw⟩) (cLw : PySem.W.codeIn K cdLw "law" = true) (kLw : PySem.W.keepIn K (.ref fLw) = true)
    (z0 : PySem.W.nsIn K mainGlobals "tuple" = some none)
    (z1 : PySem.W.nsIn K mainGlobals "len" = some none)
    (z2 : PySem.W.nsIn K mainGlobals "range" = some none)
    (z3 : PySem.W.nsIn K mainGlobals "dict" = some none)
    (z4 : PySem.W.nsIn K mainGlobals "list" = some none)
    (z5 : PySem.W.nsIn K mainGlobals "repr" = some none)
    (z6 : PySem.W.nsIn K mainGlobals "sum" = some none)
    (z7 : PySem.W.nsIn K mainGlobals "min" = some none)
    (z8 : PySem.W.nsIn K mainGlobals "max" = some none)
    (z9 : PySem.W.nsIn K mainGlobals "sorted" = some none)
    (z10 : PySem.W.nsIn K mainGlobals "zip" = some none)
    (y0 : PySem.W.nsIn K mainGlobals "MOST_SIZE" = some (some (.int 12 t0))) :
    ∃ fd : FuncData, (∀ (s : Shared) (v : Value), BindsTo s fd ⟨[v], []⟩ [("script", v)]) ∧ ∀ base : Heap, K.In base → base.Ns mainGlobals mg → KG.FnG l.prog w K mg base 6 fa fd ["script"] (spLaw (K := K)) := by
  have e := hfa.symm.trans (PySem.W.mg_of X G aLw)
  cases e
  have FCa := fun_mk (st := sCountAt) lCa cCa kCa
  have FLo := fun_mk (st := sLeast) lLo cLo kLo
  have FGo := fun_mk (st := sGreatest) lGo cGo kGo
  have FTm := fun_mk (st := sTimes) lTm cTm kTm
  have FMb := fun_mk (st := sMostBy) lMb cMb kMb
  have FMa := fun_mk (st := sApart) lMa cMa kMa
  have FAm := fun_mk (st := sAtMost) lAm cAm kAm
  have FWs := fun_mk (st := sWorstS) lWs cWs kWs
  have FLs := fun_mk (st := sLeastS) lLs cLs kLs
  have FMx := fun_mk (st := sMixed) lMx cMx kMx
  have FTk := fun_mk (st := sTake) lTk cTk kTk
  have FOf := fun_mk (st := sOf) lOf cOf kOf
  have FCb := fun_mk (st := sCountBy) lCb cCb kCb
  have FNe := fun_mk (st := sNear) lNe cNe kNe
  have FAl := fun_mk (st := sAll) lAl cAl kAl
  have FVa := fun_mk (st := sValue) lVa cVa kVa
  have FWo := fun_mk (st := sWorst) lWo cWo kWo
  have FTw := fun_mk (st := sTwo) lTw cTw kTw
  have FLw := fun_mk (st := sLaw) lLw cLw kLw
  have bCa := FCa.binds (ps := ["count", "sizes"]) fun _ _ _ _ _ _ us hl => match us, hl with | [_, _], _ => rfl
  have bLo := FLo.binds (ps := ["count"]) fun _ _ _ _ _ _ us hl => match us, hl with | [_], _ => rfl
  have bGo := FGo.binds (ps := ["count"]) fun _ _ _ _ _ _ us hl => match us, hl with | [_], _ => rfl
  have bTm := FTm.binds (ps := ["count", "other"]) fun _ _ _ _ _ _ us hl => match us, hl with | [_, _], _ => rfl
  have bMb := FMb.binds (ps := ["times"]) fun _ _ _ _ _ _ us hl => match us, hl with | [_], _ => rfl
  have bMa := FMa.binds (ps := ["count", "other"]) fun _ _ _ _ _ _ us hl => match us, hl with | [_, _], _ => rfl
  have bAm := FAm.binds (ps := ["count", "other"]) fun _ _ _ _ _ _ us hl => match us, hl with | [_, _], _ => rfl
  have bWs := FWs.binds (ps := ["count", "other", "names"]) fun _ _ _ _ _ _ us hl => match us, hl with | [_, _, _], _ => rfl
  have bLs := FLs.binds (ps := ["rest", "times"]) fun _ _ _ _ _ _ us hl => match us, hl with | [_, _], _ => rfl
  have bMx := FMx.binds (ps := ["drawn", "k"]) fun _ _ _ _ _ _ us hl => match us, hl with | [_, _], _ => rfl
  have bTk := FTk.binds (ps := ["stream", "many"]) fun _ _ _ _ _ _ us hl => match us, hl with | [_, _], _ => rfl
  have bOf := FOf.binds (ps := ["stream", "some"]) fun _ _ _ _ _ _ us hl => match us, hl with | [_, _], _ => rfl
  have bCb := FCb.binds (ps := ["stream", "words"]) fun _ _ _ _ _ _ us hl => match us, hl with | [_, _], _ => rfl
  have bNe := FNe.binds (ps := ["stream", "words", "whole"]) fun _ _ _ _ _ _ us hl => match us, hl with | [_, _, _], _ => rfl
  have bAl := FAl.binds (ps := ["many"]) fun _ _ _ _ _ _ us hl => match us, hl with | [_], _ => rfl
  have bVa := FVa.binds (ps := ["whole", "words", "some"]) fun _ _ _ _ _ _ us hl => match us, hl with | [_, _, _], _ => rfl
  have bWo := FWo.binds (ps := ["first", "second", "words", "every"]) fun _ _ _ _ _ _ us hl => match us, hl with | [_, _, _, _], _ => rfl
  have bTw := FTw.binds (ps := ["first", "second", "words", "every"]) fun _ _ _ _ _ _ us hl => match us, hl with | [_, _, _, _], _ => rfl
  let TP : TxP K mg := { fT := _, fM := _, fA := _, fL := _, fdT := _, fdM := _, fdA := _, fdL := _, FT := FTm, bT := bTm, gT := (PySem.W.mg_of X G aTm), FM := FMb, bM := bMb, gMb := (PySem.W.mg_of X G aMb), FA := FMa, bA := bMa, gA := (PySem.W.mg_of X G aMa), FL := FLs, bL := bLs, gL := (PySem.W.mg_of X G aLs), mm := (PySem.W.mg_none_of X G z8), ms := (PySem.W.mg_none_of X G z6), mt := (PySem.W.mg_none_of X G z0), gM := ⟨_, PySem.W.mg_of X G y0⟩ }
  have TV : TxV mg := ⟨(PySem.W.mg_none_of X G z3), (PySem.W.mg_none_of X G z4), (PySem.W.mg_none_of X G z10), (PySem.W.mg_none_of X G z6)⟩
  let TS : TxS K mg := { len := (PySem.W.mg_none_of X G z1), rng := (PySem.W.mg_none_of X G z2), fM := _, fT := _, fO := _, dM := _, dT := _, dO := _, FM := FMx, FT := FTk, FO := FOf, bM := bMx, bT := bTk, bO := bOf, gM := (PySem.W.mg_of X G aMx), gT := (PySem.W.mg_of X G aTk), gO := (PySem.W.mg_of X G aOf) }
  let TQ : TxQ K mg := { P := TP, V := TV, mRepr := (PySem.W.mg_none_of X G z5), fV := _, fWo := _, fWs := _, fAm := _, dV := _, dWo := _, dWs := _, dAm := _, FV := FVa, FWo := FWo, FWs := FWs, FAm := FAm, bV := bVa, bWo := bWo, bWs := bWs, bAm := bAm, kWs := kbn_ws FWs, kAm := kbn_am FAm, gV := (PySem.W.mg_of X G aVa), gWo := (PySem.W.mg_of X G aWo), gWs := (PySem.W.mg_of X G aWs), gAm := (PySem.W.mg_of X G aAm) }
  let TA : TxA K mg := { S := TS, Q := TQ, mRange := (PySem.W.mg_none_of X G z2), mMin := (PySem.W.mg_none_of X G z7), mSorted := (PySem.W.mg_none_of X G z9), fAll := _, fCb := _, fNe := _, fTw := _, fC := _, fL := _, fG := _, dAll := _, dCb := _, dNe := _, dTw := _, dC := _, dL := _, dG := _, FAll := FAl, FCb := FCb, FNe := FNe, FTw := FTw, FC := FCa, FL := FLo, FG := FGo, bAll := bAl, bCb := bCb, bNe := bNe, bTw := bTw, bC := bCa, bL := bLo, bG := bGo, gAll := (PySem.W.mg_of X G aAl), gCb := (PySem.W.mg_of X G aCb), gNe := (PySem.W.mg_of X G aNe), gTw := (PySem.W.mg_of X G aTw), gC := (PySem.W.mg_of X G aCa), gL := (PySem.W.mg_of X G aLo), gG := (PySem.W.mg_of X G aGo) }
  exact ⟨_, fun s v => .of_eq rfl, fun base _ _ => ok_law FLw TA⟩
end K4
open PySem PySem.W PyProof.Rows
set_option maxHeartbeats 0 in
theorem PySem.Challenge.cw_lanewright_k04_whole_at_most_all_sizes_holds : PySem.Challenge.rw_lanewright_k04_whole_at_most_all_sizes.Holds := by
  w_on; o_law; k_head; (case hw => w_witness2)
  k_fill
  refine KG.walk_end (l := PySem.Challenge.rw_lanewright_k04_whole_at_most_all_sizes) (n := 63) (k := 6) (x := "script") (sp := fun w => K4.spLaw) rfl (by decide) rfl ⟨rfl, by decide, by decide⟩ (fun w h Y => PySem.W.kIn_of Y) ?F (fun _ _ a ns hl _ hS => ⟨a, ns, rfl, hS, hl, fun _ => rfl⟩)
  case F =>
    intro w mg fa h KX G hmg
    refine' K4.all_mk KX G hmg ?aCa ?lCa ?cCa ?kCa ?aLo ?lLo ?cLo ?kLo ?aGo ?lGo ?cGo ?kGo ?aTm ?lTm ?cTm ?kTm ?aMb ?lMb ?cMb ?kMb ?aMa ?lMa ?cMa ?kMa ?aAm ?lAm ?cAm ?kAm ?aWs ?lWs ?cWs ?kWs ?aLs ?lLs ?cLs ?kLs ?aMx ?lMx ?cMx ?kMx ?aTk ?lTk ?cTk ?kTk ?aOf ?lOf ?cOf ?kOf ?aCb ?lCb ?cCb ?kCb ?aNe ?lNe ?cNe ?kNe ?aAl ?lAl ?cAl ?kAl ?aVa ?lVa ?cVa ?kVa ?aWo ?lWo ?cWo ?kWo ?aTw ?lTw ?cTw ?kTw ?aLw ?lLw ?cLw ?kLw ?z0 ?z1 ?z2 ?z3 ?z4 ?z5 ?z6 ?z7 ?z8 ?z9 ?z10 ?y0
    (case aCa => k_is); (case lCa => k_is); (case cCa => k_is); (case kCa => k_is); (case aLo => k_is); (case lLo => k_is); (case cLo => k_is); (case kLo => k_is); (case aGo => k_is); (case lGo => k_is); (case cGo => k_is); (case kGo => k_is); (case aTm => k_is); (case lTm => k_is); (case cTm => k_is); (case kTm => k_is); (case aMb => k_is); (case lMb => k_is); (case cMb => k_is); (case kMb => k_is); (case aMa => k_is); (case lMa => k_is); (case cMa => k_is); (case kMa => k_is); (case aAm => k_is); (case lAm => k_is); (case cAm => k_is); (case kAm => k_is); (case aWs => k_is); (case lWs => k_is); (case cWs => k_is); (case kWs => k_is); (case aLs => k_is); (case lLs => k_is); (case cLs => k_is); (case kLs => k_is); (case aMx => k_is); (case lMx => k_is); (case cMx => k_is); (case kMx => k_is); (case aTk => k_is); (case lTk => k_is); (case cTk => k_is); (case kTk => k_is); (case aOf => k_is); (case lOf => k_is); (case cOf => k_is); (case kOf => k_is); (case aCb => k_is); (case lCb => k_is); (case cCb => k_is); (case kCb => k_is); (case aNe => k_is); (case lNe => k_is); (case cNe => k_is); (case kNe => k_is); (case aAl => k_is); (case lAl => k_is); (case cAl => k_is); (case kAl => k_is); (case aVa => k_is); (case lVa => k_is); (case cVa => k_is); (case kVa => k_is); (case aWo => k_is); (case lWo => k_is); (case cWo => k_is); (case kWo => k_is); (case aTw => k_is); (case lTw => k_is); (case cTw => k_is); (case kTw => k_is); (case aLw => k_is); (case lLw => k_is); (case cLw => k_is); (case kLw => k_is); (case z0 => k_is); (case z1 => k_is); (case z2 => k_is); (case z3 => k_is); (case z4 => k_is); (case z5 => k_is); (case z6 => k_is); (case z7 => k_is); (case z8 => k_is); (case z9 => k_is); (case z10 => k_is); (case y0 => k_is)
