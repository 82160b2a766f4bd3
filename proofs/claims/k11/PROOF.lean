import PyProof.Rows.All
import Wide.All
import OpenK.AllK
import Wide.FinOn
import KE.KStateDown
import Lean
import HandS.Base
import HandS.Call
import HandS.List
import HandS.Comp
import HandS.Ends
import HandS.Dict
import HandS.Iter
import HandS.Exc
import HandS.TryOnly
import HandS.ExcOwn
import HandS.Words
import HandS.WordsList
import HandS.WordsDict
import HandS.Wide
import HandS.IsInst
import HandS.ExcIs
import HandS.Defaults
import HandS.More
import HandS.WordsExc
import HandS.Head0
import HandS.Head1
import HandS.Head2
import HandS.HeadEnd
import HandS.HeadHook1
import HandS.HeadHook2
import PySem.Challenge.RW_sampleweave_k11_ramps
set_option Elab.async false
set_option linter.all false
set_option maxRecDepth 100000
set_option maxHeartbeats 0
namespace Sw
open PySem PySem.Spec PyProof.Rows L2
/-! ### 1. the text by places -/
def top (i : Nat) : Stmt := PySem.Challenge.pw_sampleweave_k11_ramps.main.body.getD i (.Pass ⟨0, 0, 0, 0⟩)
abbrev FnP (K : PySem.W.Frag) (x : Str) (st : Stmt) (f : Addr) (fd : FuncData) : Prop := FunD K x x (defArgs st) (defBody st) (defScope st) [] [] f fd
abbrev sCell : Stmt := top 12
abbrev sPot : Stmt := top 13
abbrev sDraw : Stmt := top 14
abbrev sNumber : Stmt := top 15
/-! ### 2. pots -/
/-- all but what stands at p is as it was -/
def Kept (p : Addr) (H H' : Hp) : Prop := ∀ b o, b ≠ p → H b = some o → H' b = some o
theorem Kept.refl {p : Addr} {H : Hp} : Kept p H H := fun _ _ _ h => h
theorem Kept.trans {p : Addr} {H H1 H2 : Hp} (a : Kept p H H1) (b : Kept p H1 H2) : Kept p H H2 := fun c o n h => b c o n (a c o n h)
theorem Kept.upd {p : Addr} {H H1 : Hp} {o : HO} (a : Kept p H H1) : Kept p H (upd H1 p o) := fun c o n h => by
  rw [upd_ne n]
  exact a c o n h
theorem Kept.new {p q : Addr} {H H1 : Hp} {o : HO} (a : Kept p H H1) (h : H1 q = none) : Kept p H (L2.upd H1 q o) := fun c o n e => by
  have e1 := a c o n e
  rw [upd_ne (ne_of_none e1 h)]
  exact e1
theorem Kept.same {p : Addr} {H H1 : Hp} (a : Same H H1) : Kept p H H1 := fun c o _ e => a c o e
/-- behind a heap in which nothing stood at p -/
theorem Same.kept {p : Addr} {H0 H H1 : Hp} (s : Same H0 H) (h : H0 p = none) (k : Kept p H H1) : Same H0 H1 := fun b o e =>
  k b o (fun z => by rw [z, h] at e; cases e) (s b o e)
theorem Same.new {H H1 : Hp} {q : Addr} {o : HO} (a : Same H H1) (h : H1 q = none) : Same H (upd H1 q o) := fun c u e => by
  have e1 := a c u e
  rw [upd_ne (ne_of_none e1 h)]
  exact e1
/-- a pot: two numbers from 0 on, the second one small -/
def PotAt (H : Hp) (p : Addr) : Prop := ∃ a b : Int, 0 ≤ a ∧ 0 ≤ b ∧ b < 2147483647 ∧ H p = some (.lst [.int a, .int b])
theorem PotAt.keep {H H1 : Hp} {p : Addr} (h : PotAt H p) (s : Same H H1) : PotAt H1 p := by
  obtain ⟨a, b, h1, h2, h3, h4⟩ := h
  exact ⟨a, b, h1, h2, h3, s _ _ h4⟩
/-! ### 3. promises -/
def spCell (K : PySem.W.Frag) : Sp := fun vs H Q _ => ∃ (a : Addr) (ns : List Int) (k : Nat), vs = [.ref a, .int (k : Int)] ∧ SqL K H a (ns.map V.int) ∧ ∀ c : Int, Q (.int c) H
def spPot : Sp := fun vs H Q _ => ∃ c : Int, vs = [.int c] ∧ ∀ (p : Addr) (H' : Hp), H p = none → Same H H' → PotAt H' p → Q (.ref p) H'
def spDraw : Sp := fun vs H Q _ => ∃ (p : Addr) (m : Int), vs = [.ref p, .int m] ∧ PotAt H p ∧ 0 < m ∧ m < 2 ^ 64 ∧ ∀ (d : Int) (H' : Hp), 0 ≤ d → d < m → Kept p H H' → PotAt H' p → Q (.int d) H'
def spNumber : Sp := fun vs H Q _ => ∃ p : Addr, vs = [.ref p] ∧ PotAt H p ∧ ∀ (d : Int) (H' : Hp), -(10 ^ 56) < d → d < 10 ^ 56 → Kept p H H' → PotAt H' p → Q (.int d) H'
section
variable {P : Program} {w : World} {K : PySem.W.Frag} {mg : Str → Option Value} {base : Heap} {f : Addr} {fd : FuncData}
theorem scCell : FnScope ["_law_script", "_law_k"] ["_law_script", "_law_k"] (defScope sCell) := ⟨rfl, rfl, rfl, by decide +kernel, rfl, by decide +kernel, by decide +kernel⟩
theorem ok_cell (F : FnP K "_law_cell" sCell f fd) (gLen : mg "len" = none) : FnOk P w K mg base CX0 1 f fd ["_law_script", "_law_k"] (spCell K) := by
  refine F.ok scCell (fun vs H Q E h => ?_) (fun cdv A outer s H vs Q E hr h => ?_)
  · obtain ⟨a, ns, k, rfl, _⟩ := h
    rfl
  · obtain ⟨a, ns, k, rfl, hS, kk⟩ := h
    refine ⟨_, PSs.nox (pss_one (ps_ret (pe_ifExp (pt_cmpR op_lt (pv 1) (pe_callB call_len_seq (by rfl) gLen PySem.boot_len (pa_cons (pv 0) pa_nil)) (nomark _)) (pe_ix ix_list (pv 0) (pv 1) (fun _ _ => rfl)) pe_int))), ?_⟩
    refine ⟨_, rfl, _, rfl, a, _, rfl, .inl hS, _, _, rfl, rfl, _, rfl, ?_⟩
    refine ite2 (fun h => ?_) (fun _ => kk 0)
    have h1 := of_decide_eq_true h
    rw [List.length_map] at h1
    have h2 : k < ns.length := by omega
    refine ⟨_, rfl, _, rfl, a, _, _, V.int (ns[k]), rfl, rfl, hS, atI_nat ?_, kk _⟩
    rw [List.getElem?_map, List.getElem?_eq_getElem h2]
    rfl
theorem scPot : FnScope ["_law_cell_here"] ["_law_cell_here"] (defScope sPot) := ⟨rfl, rfl, rfl, by decide +kernel, rfl, by decide +kernel, by decide +kernel⟩
theorem ok_pot (F : FnP K "_law_pot" sPot f fd) (gMax : mg "max" = none) : FnOk P w K mg base CX0 1 f fd ["_law_cell_here"] spPot := by
  refine F.ok scPot (fun vs H Q E h => ?_) (fun cdv A outer s H vs Q E hr h => ?_)
  · obtain ⟨c, rfl, _⟩ := h
    rfl
  · obtain ⟨c, rfl, kk⟩ := h
    refine ⟨_, PSs.nox (pss_one (ps_ret (pe_lst (pa_cons (pe_callB (call_max2 rfl) (by rfl) gMax (by decide +kernel) (pa_cons pe_int (pa_cons (pe_op op_sub (pv 0) (pe_op op_pow pe_int pe_int)) pa_nil)))
      (pa_cons (pe_op op_mod (pe_op op_add (pe_op op_mul (pe_op op_mod (pv 0) pe_int) pe_int) pe_int) pe_int) pa_nil))))), ?_⟩
    refine ⟨_, rfl, _, _, rfl, rfl, ⟨by decide, by decide, by decide⟩, _, _, rfl, rfl, _, _, rfl, ?_⟩
    have q0 := Int.emod_nonneg c (show (2147483629 : Int) ≠ 0 by decide)
    have q1 := Int.emod_lt_of_pos c (show (0 : Int) < 2147483629 by decide)
    refine ⟨_, rfl, _, _, rfl, rfl, (by show (0 : Int) < _; decide), _, _, rfl, rfl, .inr ⟨by decide, by decide⟩, _, _, rfl, rfl, _, _, rfl, rfl, (by show (0 : Int) < _; decide), ?_⟩
    refine ⟨(by show 2 ≤ sizeLine; decide), fun p hp => kk p _ hp (Same.new (Same.refl _) hp) ⟨_, _, ?_, ?_, ?_, upd_same⟩⟩
    · split
      · omega
      · decide
    · exact Int.emod_nonneg _ (by decide)
    · exact Int.emod_lt_of_pos _ (by decide)
theorem scDraw : FnScope ["_law_pot_here", "_law_many", "_law_digit"] ["_law_pot_here", "_law_many"] (defScope sDraw) := ⟨rfl, rfl, rfl, by decide +kernel, rfl, by decide +kernel, by decide +kernel⟩
theorem div_wide {i m : Int} (h0 : 0 < m) (h1 : m < 2 ^ 64) : CDivW i m := wide_div (b := 64) h0 (by omega) (by decide) (by decide)
theorem ok_draw (F : FnP K "_law_draw" sDraw f fd) : FnOk P w K mg base CX0 1 f fd ["_law_pot_here", "_law_many"] spDraw := by
  refine F.ok scDraw (fun vs H Q E h => ?_) (fun cdv A outer s H vs Q E hr h => ?_)
  · obtain ⟨p, m, rfl, _⟩ := h
    rfl
  · obtain ⟨p, m, rfl, ⟨a, b, a0, b0, b1, hp⟩, m0, m1, kk⟩ := h
    refine ⟨_, PSs.nox (pss_cons (ps_if (pt_cmpR op_gt (pe_ix ix_list (pv 0) pe_int (fun _ _ => rfl)) pe_int (nomark _))
        (pss_cons (ps_set (i := 2) scDraw.nd rfl (Or.inl rfl) (pe_op op_mod (pe_ix ix_list (pv 0) pe_int (fun _ _ => rfl)) (pv 1)))
          (pss_cons (ps_asg (pe_op op_fdivW (pe_ix ix_list (pv 0) pe_int (fun _ _ => rfl)) (pv 1)) (pg_sub (pv 0) pe_int set_list (by intro _; rfl)))
            (pss_one (ps_ret (pv 2))))) pss_nil)
      (pss_cons (ps_asg (pe_op op_mod (pe_op op_add (pe_op op_mul (pe_ix ix_list (pv 0) pe_int (fun _ _ => rfl)) pe_int) pe_int) pe_int) (pg_sub (pv 0) pe_int set_list (by intro _; rfl)))
        (pss_one (ps_ret (pe_op op_mod (pe_op op_fdiv (pe_op op_mod (pe_op op_mul (pe_ix ix_list (pv 0) pe_int (fun _ _ => rfl)) (pe_ix ix_list (pv 0) pe_int (fun _ _ => rfl))) pe_int) pe_int) (pv 1)))))), ?_⟩
    refine ⟨_, rfl, p, _, _, _, rfl, rfl, SqL.of hp, atI_nat (j := 0) rfl, _, _, rfl, rfl, _, rfl, ?_⟩
    refine ite2 (fun h => ?_) (fun _ => ?_)
    · refine ⟨_, rfl, p, _, _, _, rfl, rfl, SqL.of hp, atI_nat (j := 0) rfl, _, rfl, _, _, rfl, rfl, m0, ?_⟩
      refine ⟨_, rfl, p, _, _, _, rfl, rfl, SqL.of hp, atI_nat (j := 0) rfl, _, rfl, _, _, rfl, rfl, div_wide m0 m1, ?_⟩
      refine ⟨_, rfl, p, _, _, 0, rfl, rfl, hp, rfl, ?_⟩
      refine ⟨_, rfl, kk _ _ (Int.emod_nonneg _ (by omega)) (Int.emod_lt_of_pos _ m0) (Kept.upd Kept.refl) ⟨_, _, Int.ediv_nonneg a0 (by omega), b0, b1, upd_same⟩⟩
    · refine ⟨_, rfl, p, _, _, _, rfl, rfl, SqL.of hp, atI_nat (j := 1) rfl, _, _, rfl, rfl, .inr ⟨by decide, by decide⟩, _, _, rfl, rfl, _, _, rfl, rfl, (by show (0 : Int) < _; decide), ?_⟩
      refine ⟨_, rfl, p, _, _, 1, rfl, rfl, hp, rfl, ?_⟩
      have c0 := Int.emod_nonneg (b * 39373 + 8191) (show (2147483587 : Int) ≠ 0 by decide)
      have c1 := Int.emod_lt_of_pos (b * 39373 + 8191) (show (0 : Int) < 2147483587 by decide)
      have hq : (upd H p (.lst ([V.int a, V.int b].set 1 (V.int ((b * 39373 + 8191) % 2147483587))))) p = some (.lst [V.int a, V.int ((b * 39373 + 8191) % 2147483587)]) := upd_same
      refine ⟨_, rfl, p, _, _, _, rfl, rfl, SqL.of hq, atI_nat (j := 1) rfl, _, rfl, p, _, _, _, rfl, rfl, SqL.of hq, atI_nat (j := 1) rfl, _, _, rfl, rfl, .inl ⟨by omega, by omega⟩, ?_⟩
      refine ⟨_, _, rfl, rfl, (by show (0 : Int) < _; decide), _, _, rfl, rfl, ⟨by decide, by decide⟩, _, rfl, _, _, rfl, rfl, m0, ?_⟩
      exact kk _ _ (Int.emod_nonneg _ (by omega)) (Int.emod_lt_of_pos _ m0) (Kept.upd Kept.refl) ⟨_, _, a0, c0, by omega, hq⟩
end
end Sw
namespace Sw
open PySem PySem.Spec PyProof.Rows L2
section
variable {P : Program} {w : World} {K : PySem.W.Frag} {mg : Str → Option Value} {base : Heap} {f fDraw : Addr} {fd fdDraw : FuncData}
theorem scNumber : FnScope ["_law_pot_here", "_law_way", "_law_found", "_law_k"] ["_law_pot_here"] (defScope sNumber) := ⟨rfl, rfl, rfl, by decide +kernel, rfl, by decide +kernel, by decide +kernel⟩
def tabM : List V := [.int 21, .int 21, .int 21, .int 3, .int 201, .int 2001, .int (10 ^ 9)]
def tabO : List V := [.int 10, .int 10, .int 5, .int 1, .int 100, .int 1000, .int 500000000]
theorem tab_at {d : Int} (h0 : 0 < d) (h8 : d < 8) : ∃ m o : Int, atI tabM (d - 1) = some (.int m) ∧ atI tabO (d - 1) = some (.int o) ∧ 0 < m ∧ m ≤ 10 ^ 9 ∧ 0 ≤ o ∧ o ≤ 10 ^ 9 := by
  have : d = 1 ∨ d = 2 ∨ d = 3 ∨ d = 4 ∨ d = 5 ∨ d = 6 ∨ d = 7 := by omega
  rcases this with rfl | rfl | rfl | rfl | rfl | rfl | rfl
  all_goals exact ⟨_, _, rfl, rfl, by decide, by decide, by decide, by decide⟩
theorem ten_step {x d : Int} {i : Nat} (h0 : 0 ≤ x) (h1 : x < 10 ^ (14 * i)) (d0 : 0 ≤ d) (d1 : d < 10 ^ 14) : x * 10 ^ 14 + d < 10 ^ (14 * (i + 1)) := by
  rw [show 14 * (i + 1) = 14 * i + 14 by omega, Int.pow_add]
  generalize hy : (10 : Int) ^ (14 * i) = y at *
  omega
theorem ok_number (F : FnP K "_law_number" sNumber f fd) (FD : FnP K "_law_draw" sDraw fDraw fdDraw) (gDraw : mg "_law_draw" = some (.ref fDraw)) (gRange : mg "range" = none) : FnOk P w K mg base CX0 2 f fd ["_law_pot_here"] spNumber := by
  have GD : FnOk P w K mg base CX0 1 fDraw fdDraw ["_law_pot_here", "_law_many"] spDraw := ok_draw FD
  have bD : Binds K fdDraw ["_law_pot_here", "_law_many"] [] := FD.bindsN fun _ _ _ _ _ _ us hl => match us, hl with | [_, _], _ => rfl
  refine F.ok scNumber (fun vs H Q E h => ?_) (fun cdv A outer s H vs Q E hr h => ?_)
  · obtain ⟨p, rfl, _⟩ := h
    rfl
  · obtain ⟨p, rfl, hp, kk⟩ := h
    refine ⟨_, PSs.nox (pss_cons (ps_set (i := 1) scNumber.nd rfl (Or.inl rfl) (pe_call GD hr rfl gDraw FD.kp bD .nil pass0 (pa_cons (pv 0) (pa_cons pe_int pa_nil))))
      (pss_cons (ps_if (pt_cmpR op_eq (pv 1) pe_int (nomark _))
        (pss_cons (ps_set (i := 2) scNumber.nd rfl (Or.inl rfl) pe_int)
          (pss_cons (ps_for PassesOwn.never rfl (pi_range1 rfl gRange (pa_cons pe_int pa_nil)) (pg_name (i := 3) scNumber.nd rfl (Or.inl rfl))
              (pss_one (ps_set (i := 2) scNumber.nd rfl (Or.inl rfl) (pe_op op_add (pe_op op_mul (pv 2) (pe_op op_pow pe_int pe_int)) (pe_call GD hr rfl gDraw FD.kp bD .nil pass0 (pa_cons (pv 0) (pa_cons (pe_op op_pow pe_int pe_int) pa_nil)))))))
            (pss_one (ps_ret (pe_op op_mul (pv 2) (pe_op op_sub pe_int (pe_op op_mul pe_int (pe_call GD hr rfl gDraw FD.kp bD .nil pass0 (pa_cons (pv 0) (pa_cons pe_int pa_nil))))))))))
        pss_nil)
      (pss_one (ps_ret (pe_op op_sub (pe_call GD hr rfl gDraw FD.kp bD .nil pass0 (pa_cons (pv 0) (pa_cons (pe_ix ix_list
          (pe_lst (pa_cons pe_int (pa_cons pe_int (pa_cons pe_int (pa_cons pe_int (pa_cons pe_int (pa_cons pe_int (pa_cons (pe_op op_pow pe_int pe_int) pa_nil)))))))) (pe_op op_sub (pv 1) pe_int) (fun _ _ => rfl)) pa_nil)))
        (pe_ix ix_list (pe_lst (pa_cons pe_int (pa_cons pe_int (pa_cons pe_int (pa_cons pe_int (pa_cons pe_int (pa_cons pe_int (pa_cons pe_int pa_nil)))))))) (pe_op op_sub (pv 1) pe_int) (fun _ _ => rfl))))))), ?_⟩
    refine ⟨_, rfl, p, 8, rfl, hp, by decide, by decide, fun d H1 d0 d8 k1 hp1 => ?_⟩
    refine ⟨_, rfl, rfl, _, rfl, ?_⟩
    refine ite2 (fun h => ?_) (fun h => ?_)
    · refine ⟨4, rfl, by decide, by decide, for_range (n := 4) (fun i σ H' => ∃ (x : Int) (v : Option V), σ = [some (.ref p), some (.int d), some (.int x), v] ∧ 0 ≤ x ∧ x < 10 ^ (14 * i) ∧ Kept p H H' ∧ PotAt H' p)
        ⟨0, none, rfl, by decide, by decide, k1, hp1⟩ ?_ ?_⟩
      · rintro i σ H' hi ⟨x, v, rfl, x0, x1, k2, hp2⟩
        refine ⟨_, rfl, _, _, rfl, rfl, ⟨by decide, by decide, by decide⟩, _, _, rfl, rfl, .inr ⟨by decide, by decide⟩, ?_⟩
        refine ⟨_, rfl, _, _, rfl, rfl, ⟨by decide, by decide, by decide⟩, p, _, rfl, hp2, by decide, by decide, fun e H3 e0 e1 k3 hp3 => ?_⟩
        exact ⟨_, _, rfl, rfl, x * 10 ^ 14 + e, _, rfl, by omega, ten_step x0 x1 e0 e1, k2.trans k3, hp3⟩
      · rintro σ H' ⟨x, v, rfl, x0, x1, k2, hp2⟩
        refine ⟨_, rfl, _, rfl, p, 2, rfl, hp2, by decide, by decide, fun e H3 e0 e1 k3 hp3 => ?_⟩
        refine ⟨_, _, rfl, rfl, .inl ⟨by decide, by decide⟩, _, _, rfl, rfl, _, _, rfl, rfl, .inr ⟨by omega, by omega⟩, ?_⟩
        have : e = 0 ∨ e = 1 := by omega
        have x2 : x < 10 ^ 56 := x1
        refine kk _ _ ?_ ?_ (k2.trans k3) hp3
        · rcases this with rfl | rfl <;> omega
        · rcases this with rfl | rfl <;> omega
    · have dn : d ≠ 0 := fun z => h (decide_eq_true (by rw [z]))
      obtain ⟨m, o, e1, e2, m0, m1, o0, o1⟩ := tab_at (d := d) (by omega) d8
      refine ⟨_, rfl, _, _, rfl, rfl, ⟨by decide, by decide, by decide⟩, (by show 7 ≤ sizeLine; decide), fun l hl => ?_⟩
      refine ⟨_, rfl, _, _, rfl, rfl, l, _, _, _, rfl, rfl, SqL.of upd_same, e1, ?_⟩
      have hp2 : PotAt (upd H1 l (.lst tabM)) p := hp1.keep (Same.new (Same.refl _) hl)
      refine ⟨p, m, rfl, hp2, m0, by omega, fun e H3 e0 e1' k3 hp3 => ?_⟩
      refine ⟨(by show 7 ≤ sizeLine; decide), fun l2 hl2 => ?_⟩
      refine ⟨_, rfl, _, _, rfl, rfl, l2, _, _, _, rfl, rfl, SqL.of upd_same, e2, _, _, rfl, rfl, ?_⟩
      exact kk _ _ (by omega) (by omega) (((k1.new hl).trans k3).new hl2) (hp3.keep (Same.new (Same.refl _) hl2))
end
end Sw
namespace Sw
open PySem PySem.Spec PyProof.Rows L2
abbrev sWhole : Stmt := top 5
abbrev sWithin : Stmt := top 6
abbrev sSteps : Stmt := top 9
abbrev sRamp : Stmt := top 10
abbrev sDue : Stmt := top 16
/-! ### the mathematics of ramps -/
def rampAt (x y : Int) (m i : Nat) : Int := x + (y - x) * ((i : Int) + 1) / (m : Int)
def rampL (x y : Int) (m n : Nat) : List V := (List.range n).map fun i => V.int (rampAt x y m i)
theorem rampL_succ (x y : Int) (m n : Nat) : rampL x y m (n + 1) = rampL x y m n ++ [V.int (rampAt x y m n)] := by
  unfold rampL
  rw [List.range_succ, List.map_append]
  rfl
theorem rampL_length (x y : Int) (m n : Nat) : (rampL x y m n).length = n := by
  unfold rampL
  rw [List.length_map, List.length_range]
theorem walk_hi {A d m : Int} (m0 : 0 < m) (h : m ≤ A % m + d % m) : (A + d) / m = A / m + d / m + 1 ∧ (A + d) % m = A % m + d % m - m := by
  have e1 := Int.emod_add_mul_ediv A m
  have e2 := Int.emod_add_mul_ediv d m
  have a1 := Int.emod_lt_of_pos A m0
  have d1 := Int.emod_lt_of_pos d m0
  refine (Int.ediv_emod_unique m0).mpr ⟨?_, by omega, by omega⟩
  rw [Int.mul_add, Int.mul_add, Int.mul_one]
  omega
theorem walk_lo {A d m : Int} (m0 : 0 < m) (h : ¬ m ≤ A % m + d % m) : (A + d) / m = A / m + d / m ∧ (A + d) % m = A % m + d % m := by
  have e1 := Int.emod_add_mul_ediv A m
  have e2 := Int.emod_add_mul_ediv d m
  have a1 := Int.emod_nonneg A (show m ≠ 0 by omega)
  have d1 := Int.emod_nonneg d (show m ≠ 0 by omega)
  refine (Int.ediv_emod_unique m0).mpr ⟨?_, by omega, by omega⟩
  rw [Int.mul_add]
  omega
theorem mul_next (d : Int) (i : Nat) : d * ((i : Int) + 1) = d * (i : Int) + d := by rw [Int.mul_add, Int.mul_one]
/-! ### promises -/
def NoInt (K : PySem.W.Frag) (H : Hp) (v : V) : Prop := (∃ b, v = .bl b) ∨ ∃ T : String, TyX K H v (.type T) ∧ kitB T "int" = some false
def OddV (K : PySem.W.Frag) (H : Hp) (v : V) : Prop := (∃ i : Int, v = .int i ∧ (i < 0 ∨ 400 < i)) ∨ NoInt K H v
def spWhole (K : PySem.W.Frag) : Sp := fun vs H Q _ => ∃ v : V, vs = [v] ∧ ((∃ i : Int, v = .int i ∧ Q (.bl true) H) ∨ (NoInt K H v ∧ Q (.bl false) H))
def spWithin (K : PySem.W.Frag) : Sp := fun vs H Q _ => ∃ (v : V) (lo hi : Int), vs = [v, .int lo, .int hi] ∧ ((∃ i : Int, v = .int i ∧ Q (.bl (decide (lo ≤ i ∧ i ≤ hi))) H) ∨ (NoInt K H v ∧ Q (.bl false) H))
def spRamp (K : PySem.W.Frag) (C : Addr) : Sp := fun vs H Q E => ∃ (x y : Int) (v : V), vs = [.int x, .int y, v] ∧
  ((∃ m : Nat, v = .int (m : Int) ∧ m ≤ 400 ∧ ∀ l, H l = none → Q (.ref l) (upd H l (.lst (rampL x y m m)))) ∨ (OddV K H v ∧ E (.ref C) none H))
def spDue : Sp := fun vs H Q _ => ∃ (x y : Int) (m : Nat), vs = [.int x, .int y, .int (m : Int)] ∧ m ≤ 400 ∧ ∀ l, H l = none → Q (.ref l) (upd H l (.lst (rampL x y m m)))
section
variable {P : Program} {w : World} {K : PySem.W.Frag} {mg : Str → Option Value} {base : Heap} {f fI fW C : Addr} {fd fdI fdW : FuncData}
theorem scDue : FnScope ["_law_one", "_law_other", "_law_many", "_law_found", "_law_here", "_law_carry", "_law_k"] ["_law_one", "_law_other", "_law_many"] (defScope sDue) := ⟨rfl, rfl, rfl, by decide +kernel, rfl, by decide +kernel, by decide +kernel⟩
theorem ok_due (F : FnP K "_law_due" sDue f fd) (gRange : mg "range" = none) : FnOk P w K mg base CX0 1 f fd ["_law_one", "_law_other", "_law_many"] spDue := by
  refine F.ok scDue (fun vs H Q E h => ?_) (fun cdv A outer s H vs Q E hr h => ?_)
  · obtain ⟨x, y, m, rfl, _⟩ := h
    rfl
  · obtain ⟨x, y, m, rfl, hm, kk⟩ := h
    refine ⟨_, PSs.nox (pss_cons (ps_set (i := 3) scDue.nd rfl (Or.inl rfl) (pe_lst pa_nil))
      (pss_cons (ps_set (i := 4) scDue.nd rfl (Or.inl rfl) (pv 0))
      (pss_cons (ps_set (i := 5) scDue.nd rfl (Or.inl rfl) pe_int)
      (pss_cons (ps_for PassesOwn.never rfl (pi_range1 rfl gRange (pa_cons (pv 2) pa_nil)) (pg_name (i := 6) scDue.nd rfl (Or.inl rfl))
          (pss_cons (ps_set (i := 4) scDue.nd rfl (Or.inl rfl) (pe_op op_add (pv 4) (pe_op op_fdiv (pe_op op_sub (pv 1) (pv 0)) (pv 2))))
          (pss_cons (ps_set (i := 5) scDue.nd rfl (Or.inl rfl) (pe_op op_add (pv 5) (pe_op op_mod (pe_op op_sub (pv 1) (pv 0)) (pv 2))))
          (pss_cons (ps_if (pt_cmpR op_ge (pv 5) (pv 2) (nomark _))
              (pss_cons (ps_set (i := 4) scDue.nd rfl (Or.inl rfl) (pe_op op_add (pv 4) pe_int))
                (pss_one (ps_set (i := 5) scDue.nd rfl (Or.inl rfl) (pe_op op_sub (pv 5) (pv 2))))) pss_nil)
          (pss_one (ps_expr (pe_bm PySem.F.plainAttrs_list PySem.F.slot_list_append PySem.F.type_list_append mt_append (pv 3) (pa_cons (pv 4) pa_nil))))))))
      (pss_one (ps_ret (pv 3))))))), ?_⟩
    refine ⟨Nat.zero_le _, fun l hl => ?_⟩
    refine ⟨_, rfl, _, rfl, _, rfl, by omega, by omega, for_range (n := m) (fun i σ H' => ∃ (v : Option V) (z c : Int), σ = [some (.int x), some (.int y), some (.int (m : Int)), some (.ref l), some (.int z), some (.int c), v] ∧ z = x + (y - x) * (i : Int) / (m : Int) ∧ c = (y - x) * (i : Int) % (m : Int) ∧ H' = upd H l (.lst (rampL x y m i)))
      ⟨none, x, 0, rfl, by simp, by simp, rfl⟩ ?_ ?_⟩
    · rintro i σ H' hi ⟨v, z, c, rfl, ez, ec, rfl⟩
      have m0 : (0 : Int) < (m : Int) := by omega
      have en := mul_next (y - x) i
      refine ⟨_, rfl, _, rfl, _, rfl, _, _, rfl, rfl, _, rfl, _, _, rfl, rfl, ⟨m0, by omega⟩, _, _, rfl, rfl, ?_⟩
      refine ⟨_, rfl, _, rfl, _, rfl, _, _, rfl, rfl, _, rfl, _, _, rfl, rfl, m0, _, _, rfl, rfl, ?_⟩
      refine ⟨_, rfl, _, rfl, _, _, rfl, rfl, _, rfl, ?_⟩
      have hL : (upd H l (.lst (rampL x y m i))) l = some (.lst (rampL x y m i)) := upd_same
      have sz : (rampL x y m i).length < sizeLine := by
        rw [rampL_length]
        exact Nat.lt_of_lt_of_le (show i < 401 by omega) (by decide)
      refine ite2 (fun h => ?_) (fun h => ?_)
      · have h1 := of_decide_eq_true h
        rw [ec] at h1
        obtain ⟨q1, q2⟩ := walk_hi (A := (y - x) * (i : Int)) (d := y - x) m0 h1
        refine ⟨_, rfl, _, _, rfl, rfl, _, rfl, _, rfl, _, _, rfl, rfl, ?_⟩
        refine ⟨_, rfl, .inl ⟨rfl, _, SqL.of hL⟩, _, rfl, l, _, _, rfl, rfl, hL, sz, ?_⟩
        refine ⟨some (.int (0 + (i : Int))), z + (y - x) / (m : Int) + 1, c + (y - x) % (m : Int) - (m : Int), rfl, ?_, ?_, ?_⟩
        · rw [Int.natCast_succ, en, q1, ez]
          omega
        · rw [Int.natCast_succ, en, q2, ec]
        · rw [upd_upd, rampL_succ]
          have e : rampAt x y m i = z + (y - x) / (m : Int) + 1 := by
            unfold rampAt
            rw [en, q1, ez]
            omega
          rw [e]
      · have h1 : ¬ (m : Int) ≤ c + (y - x) % (m : Int) := fun z => h (decide_eq_true z)
        rw [ec] at h1
        obtain ⟨q1, q2⟩ := walk_lo (A := (y - x) * (i : Int)) (d := y - x) m0 h1
        refine ⟨_, rfl, .inl ⟨rfl, _, SqL.of hL⟩, _, rfl, l, _, _, rfl, rfl, hL, sz, ?_⟩
        refine ⟨some (.int (0 + (i : Int))), z + (y - x) / (m : Int), c + (y - x) % (m : Int), rfl, ?_, ?_, ?_⟩
        · rw [Int.natCast_succ, en, q1, ez]
          omega
        · rw [Int.natCast_succ, en, q2, ec]
        · rw [upd_upd, rampL_succ]
          have e : rampAt x y m i = z + (y - x) / (m : Int) := by
            unfold rampAt
            rw [en, q1, ez]
            omega
          rw [e]
    · rintro σ H' ⟨v, z, c, rfl, ez, ec, rfl⟩
      exact ⟨_, rfl, kk l hl⟩
theorem scWhole : FnScope ["thing"] ["thing"] (defScope sWhole) := ⟨rfl, rfl, rfl, by decide +kernel, rfl, by decide +kernel, by decide +kernel⟩
theorem ok_whole (F : FnP K "is_whole" sWhole f fd) (gIs : mg "isinstance" = none) (gInt : mg "int" = none) (gBool : mg "bool" = none) : FnOk P w K mg base CX0 1 f fd ["thing"] (spWhole K) := by
  refine F.ok scWhole (fun vs H Q E h => ?_) (fun cdv A outer s H vs Q E hr h => ?_)
  · obtain ⟨v, rfl, _⟩ := h
    rfl
  · obtain ⟨v, rfl, h⟩ := h
    refine ⟨_, PSs.nox (pss_one (ps_ret (pe_and (pe_callB call_isi (by rfl) gIs boot_isinstance (pa_cons (pv 0) (pa_cons (pe_bltn (v := .ty "int") rfl gInt PyProof.Rows.boot_int rfl) pa_nil)))
      (pe_one (pe_not (pe_callB call_isi (by rfl) gIs boot_isinstance (pa_cons (pv 0) (pa_cons (pe_bltn (v := .ty "bool") rfl gBool PyProof.Rows.boot_bool rfl) pa_nil)))))))), ?_⟩
    rcases h with ⟨i, rfl, k⟩ | ⟨⟨b, rfl⟩ | ⟨T, ty, ki⟩, k⟩
    · refine ⟨_, rfl, _, _, _, _, true, rfl, ClsV.ty _, TyX.base (TyOf.int i), kit_ty (by decide +kernel), _, rfl, iteT ?_⟩
      exact ⟨_, rfl, _, _, _, _, false, rfl, ClsV.ty _, TyX.base (TyOf.int i), kit_ty (by decide +kernel), _, rfl, k⟩
    · refine ⟨_, rfl, _, _, _, _, true, rfl, ClsV.ty _, TyX.base (TyOf.bl b), kit_ty (by decide +kernel), _, rfl, iteT ?_⟩
      exact ⟨_, rfl, _, _, _, _, true, rfl, ClsV.ty _, TyX.base (TyOf.bl b), kit_ty (by decide +kernel), _, rfl, k⟩
    · exact ⟨_, rfl, _, _, _, _, false, rfl, ClsV.ty _, ty, kit_ty ki, _, rfl, iteF k⟩
theorem scWithin : FnScope ["thing", "least", "most"] ["thing", "least", "most"] (defScope sWithin) := ⟨rfl, rfl, rfl, by decide +kernel, rfl, by decide +kernel, by decide +kernel⟩
theorem ok_within (F : FnP K "is_whole_within" sWithin f fd) (GI : FnOk P w K mg base CX0 1 fI fdI ["thing"] (spWhole K)) (gI : mg "is_whole" = some (.ref fI)) (kI : PySem.W.keepIn K (.ref fI) = true) (bI : Binds K fdI ["thing"] []) : FnOk P w K mg base CX0 2 f fd ["thing", "least", "most"] (spWithin K) := by
  refine F.ok scWithin (fun vs H Q E h => ?_) (fun cdv A outer s H vs Q E hr h => ?_)
  · obtain ⟨v, lo, hi, rfl, _⟩ := h
    rfl
  · obtain ⟨v, lo, hi, rfl, h⟩ := h
    refine ⟨_, PSs.nox (pss_one (ps_ret (pe_and (pe_call GI hr rfl gI kI bI .nil pass0 (pa_cons (pv 0) pa_nil)) (pe_one (pe_chain op_le op_le (pv 1) (pv 0) (pv 2)))))), ?_⟩
    rcases h with ⟨i, rfl, k⟩ | ⟨no, k⟩
    · refine ⟨_, rfl, _, rfl, .inl ⟨i, rfl, _, rfl, iteT ?_⟩⟩
      refine ⟨_, rfl, _, rfl, _, _, rfl, rfl, _, rfl, ?_⟩
      refine ite2 (fun h => ?_) (fun h => ?_)
      · refine ⟨_, rfl, _, _, rfl, rfl, ?_⟩
        have e : decide (lo ≤ i ∧ i ≤ hi) = decide (i ≤ hi) := decide_eq_decide.mpr ⟨fun z => z.2, fun z => ⟨of_decide_eq_true h, z⟩⟩
        rw [e] at k
        exact k
      · have e : decide (lo ≤ i ∧ i ≤ hi) = false := decide_eq_false fun z => h (decide_eq_true z.1)
        rw [e] at k
        exact k
    · exact ⟨_, rfl, _, rfl, .inr ⟨no, _, rfl, iteF k⟩⟩
end
end Sw
namespace L2
open PySem PySem.Spec PyProof.Rows
section
variable {X : Cx} {CX : CXT} {k n : Nat} {f : Addr} {fd : FuncData} {ps ks : List Str} {sp : Sp} {E : XK} {x : Str} {p pos : Pos} {kws : List Keyword} {tk : TA} {g : List Value → List Value → List Value} {gV : List V → List V → List V}
/-- f(k = v, ..): keywords alone -/
theorem pe_callK0 (F : FnOk X.prog X.w X.K X.mg X.base CX k f fd ps sp) (hr : Room k X.A) (hg : Gl X x) (hm : X.mg x = some (.ref f)) (hk : PySem.W.keepIn X.K (.ref f) = true) (hb : KBinds X.K fd ps ks g gV) (hx : Passes CX X E) (hkw : PK X kws tk)
    (hall : (backToKw pos (keywordEach kws X.env)).all (·.1.isSome) = true := by rfl) (hks : (backToKw pos (keywordEach kws X.env)).filterMap (·.1) = ks := by rfl) (hdb : (x == ("__debug__" : Str)) = false := by decide)
    (hpl : ((backTo pos (starEach [] X.env)).any (·.1) || (backToKw pos (keywordEach kws X.env)).any (·.1.isNone)) = false := by rfl) :
    PE X (.Call (.Name x p) [] kws pos) (tCallK sp gV E tNil tk) := by
  refine ⟨fun pins s σ H Q I h => ?_⟩
  refine wpAny_Call_Name_kw (ld_glob I hg hm ?_ hdb)
  refine PySem.W.callWith_KW0 (h₀ := X.base) I.ok.mod.kin hk hall ?_ hpl
  refine thn (hkw.run pos pins s σ H _ I h) fun ws s2 ⟨zs, H2, I2, rz, q2⟩ => ⟨I2.kIn, ?_⟩
  rw [hks]
  exact run_fnk (us := []) (vs := []) F hr hb hx I2 .nil rz q2
end
end L2
namespace Sw
open PySem PySem.Spec PyProof.Rows L2
section
variable {P : Program} {w : World} {K : PySem.W.Frag} {mg : Str → Option Value} {base : Heap} {f fI fW C : Addr} {fd fdI fdW : FuncData}
/-- an own error class without __init__ -/
structure ExcT (K : PySem.W.Frag) (mg : Str → Option Value) (x : Str) (C : Addr) : Prop where
  g : mg x = some (.ref C)
  x : PySem.W.excIn K C [.type "ValueError", .type "Exception", .type "BaseException", .type "object"] "ValueError.__new__" = true
  k : PySem.W.keepIn K (.ref C) = true
  b : PySem.W.subIn K (.ref C) (.type "BaseException") = some true
  t : PySem.W.typeIn K (.ref C) = some (.type "type")
def spSteps (K : PySem.W.Frag) (C : Addr) : Sp := fun vs H Q E => ∃ v : V, vs = [v] ∧ ((∃ m : Nat, v = .int (m : Int) ∧ m ≤ 400 ∧ Q .non H) ∨ (OddV K H v ∧ E (.ref C) none H))
theorem scSteps : FnScope ["steps"] ["steps"] (defScope sSteps) := ⟨rfl, rfl, rfl, by decide +kernel, rfl, by decide +kernel, by decide +kernel⟩
theorem ok_steps (F : FnP K "check_steps" sSteps f fd) (GW : FnOk P w K mg base CX0 2 fW fdW ["thing", "least", "most"] (spWithin K)) (gW : mg "is_whole_within" = some (.ref fW)) (kW : PySem.W.keepIn K (.ref fW) = true) (bW : Binds K fdW ["thing", "least", "most"] [])
    (gMost : ∃ t, mg "MOST_STEPS" = some (.int 400 t)) (T : ExcT K mg "NoSteps" C) : FnOk P w K mg base (L2.CX P w) 3 f fd ["steps"] (spSteps K C) := by
  obtain ⟨tM, gM⟩ := gMost
  refine F.ok scSteps (fun vs H Q E h => ?_) (fun cdv A outer s H vs Q E hr h => ?_)
  · obtain ⟨v, rfl, _⟩ := h
    rfl
  · obtain ⟨v, rfl, h⟩ := h
    refine ⟨_, (pss_one (ps_if (pt_not (pt_val (pe_call GW hr rfl gW kW bW .nil pass0 (pa_cons (pv 0) (pa_cons pe_int (pa_cons (pe_glob (v := .int 400) rfl gM ⟨_, rfl⟩) pa_nil))))))
        (pss_one (ps_raise rfl (takes_of rfl rfl rfl rfl) (pmk_own PySem.F.excBase_ValueError T.x T.g T.k (raises_own T.b T.t) rfl))) pss_nil)), ?_⟩
    rcases h with ⟨m, rfl, hm, kk⟩ | ⟨od, kE⟩
    · refine ⟨_, rfl, _, _, _, rfl, .inl ⟨(m : Int), rfl, ?_⟩⟩
      have e : decide ((0 : Int) ≤ (m : Int) ∧ (m : Int) ≤ 400) = true := decide_eq_true (by omega)
      rw [e]
      exact ⟨_, rfl, iteF kk⟩
    · rcases od with ⟨i, rfl, hi⟩ | no
      · refine ⟨_, rfl, _, _, _, rfl, .inl ⟨i, rfl, ?_⟩⟩
        have e : decide ((0 : Int) ≤ i ∧ i ≤ 400) = false := decide_eq_false (by omega)
        rw [e]
        exact ⟨_, rfl, iteT kE⟩
      · exact ⟨_, rfl, _, _, _, rfl, .inr ⟨no, _, rfl, iteT kE⟩⟩
theorem scRamp : FnScope ["first", "last", "steps", "k"] ["first", "last", "steps"] (defScope sRamp) := ⟨rfl, rfl, rfl, by decide +kernel, rfl, by decide +kernel, by decide +kernel⟩
theorem ok_ramp (F : FnP K "ramp" sRamp f fd) (GW : FnOk P w K mg base (L2.CX P w) 3 fW fdW ["steps"] (spSteps K C)) (gW : mg "check_steps" = some (.ref fW)) (kW : PySem.W.keepIn K (.ref fW) = true) (bW : Binds K fdW ["steps"] [])
    (gRange : mg "range" = none) : FnOk P w K mg base (L2.CX P w) 4 f fd ["first", "last", "steps"] (spRamp K C) := by
  refine F.ok scRamp (fun vs H Q E h => ?_) (fun cdv A outer s H vs Q E hr h => ?_)
  · obtain ⟨x, y, v, rfl, _⟩ := h
    rfl
  · obtain ⟨x, y, v, rfl, h⟩ := h
    refine ⟨_, pss_cons (ps_expr (pe_call (E := E) GW hr rfl gW kW bW .nil (passes_call (takes_of rfl rfl rfl rfl) (fun _ _ _ _ e => e)) (pa_cons (pv 2) pa_nil)))
      (PSs.nox (pss_one (ps_ret (pe_lc (own := [("k", 3)]) (g := gName 3) (tt := tYes) rfl scRamp.nd (pi_range2 rfl gRange (pa_cons pe_int (pa_cons (pe_op op_add (pv 2) pe_int) pa_nil)))
        (blkOk_by (N := ["first", "last", "steps", "k"]) (sc := defScope sRamp) (by decide +kernel)) (fun _ _ _ _ _ => pg_name (i := 3) scRamp.nd rfl (Or.inl rfl)) (fun _ _ _ _ _ => pts_nil)
        (fun _ _ _ _ _ => pe_op op_add (pv 0) (pe_op op_fdiv (pe_op op_mul (pe_op op_sub (pv 1) (pv 0)) (pv 3)) (pv 2))))))), ?_⟩
    rcases h with ⟨m, rfl, hm, kk⟩ | ⟨od, kE⟩
    · refine ⟨_, rfl, _, rfl, .inl ⟨m, rfl, hm, ?_⟩⟩
      refine ⟨_, rfl, _, _, rfl, rfl, _, _, rfl, ⟨by omega, by omega, by omega, by omega⟩, fun D hD => ?_⟩
      have en : ((m : Int) + 1 - 1).toNat = m := by omega
      rw [en]
      refine lc_range (fun i H' => H' = upd H D (.lst (rampL x y m i))) rfl (fun i H' hi e => ?_) (fun H' e => ?_)
      · subst e
        have hL : (upd H D (.lst (rampL x y m i))) D = some (.lst (rampL x y m i)) := upd_same
        have sz : (rampL x y m i).length < sizeLine := by
          rw [rampL_length]
          exact Nat.lt_of_lt_of_le (show i < 401 by omega) (by decide)
        refine ⟨rfl, ?_⟩
        unfold tYes
        refine iteT ?_
        refine ⟨_, rfl, _, rfl, _, rfl, _, _, rfl, rfl, _, rfl, _, _, rfl, rfl, .inr ⟨by omega, by omega⟩, _, rfl, _, _, rfl, rfl, ⟨by omega, by omega⟩, _, _, rfl, rfl, _, hL, sz, ?_⟩
        rw [upd_upd, rampL_succ]
        unfold rampAt
        rw [show (1 : Int) + (i : Int) = (i : Int) + 1 by omega]
      · subst e
        exact kk D hD
    · exact ⟨_, rfl, _, rfl, .inr ⟨od, kE⟩⟩
end
end Sw
namespace L2
open PySem PySem.Spec PyProof.Rows
/-- isinstance(e, c), e what the suite holds; which class it is of is asked at the reading -/
theorem call_isE2 {X : Cx} {a D : Addr} {oe : Obj} {cls : Value} {d : Option Addr} {pn : List (Addr × Obj)} (C : ExcC X.K D) (hz : Zc cls d oe) (hf : ∃ vs, oe.data = .fields vs) :
    CallR (X.suite a ((a, oe) :: pn)) (.builtin "isinstance") (fun xs H Q => cls = .ref D ∧ d = none ∧ rIsE X.K D a xs H Q) := by
  intro pins s σ H xs us Q I r h
  obtain ⟨rfl, rfl, h⟩ := h
  exact call_isE C hz hf pins s σ H xs us Q I r h
end L2
namespace Sw
open PySem PySem.Spec PyProof.Rows L2
abbrev sOdd : Stmt := top 17
abbrev sRefused : Stmt := top 18
abbrev sRight : Stmt := top 19
abbrev sLaw : Stmt := top 20
def spOdd (K : PySem.W.Frag) : Sp := fun vs H Q _ => ∃ p : Addr, vs = [.ref p] ∧ PotAt H p ∧ ∀ (v : V) (H' : Hp), Kept p H H' → PotAt H' p → OddV K H' v → Q v H'
def spRefused (K : PySem.W.Frag) : Sp := fun vs H Q _ => ∃ (x y : Int) (v : V), vs = [.int x, .int y, v] ∧ OddV K H v ∧ Q (.bl true) H
def spRight : Sp := fun vs H Q _ => ∃ (x y : Int) (m : Nat), vs = [.int x, .int y, .int (m : Int)] ∧ m ≤ 400 ∧ ∀ H', Same H H' → Q (.bl true) H'
section
variable {P : Program} {w : World} {K : PySem.W.Frag} {mg : Str → Option Value} {base : Heap} {f fD fR C CW CN : Addr} {fd fdD fdR : FuncData}
theorem noint {K : PySem.W.Frag} {H : Hp} {v : V} {T : String} (h : TyX K H v (.type T)) (k : kitB T "int" = some false) : OddV K H v := .inr (.inr ⟨T, h, k⟩)
theorem kitT : kitB "tuple" "int" = some false := by decide +kernel
theorem kitL : kitB "list" "int" = some false := by decide +kernel
theorem kitD : kitB "dict" "int" = some false := by decide +kernel
theorem kitN : kitB "NoneType" "int" = some false := by decide +kernel
theorem kitS : kitB "str" "int" = some false := by decide +kernel
theorem scOdd : FnScope ["_law_pot_here", "_law_far", "_law_some"] ["_law_pot_here"] (defScope sOdd) := ⟨rfl, rfl, rfl, by decide +kernel, rfl, by decide +kernel, by decide +kernel⟩
theorem ok_odd (F : FnP K "_law_odd" sOdd f fd) (FD : FnP K "_law_draw" sDraw fD fdD) (gD : mg "_law_draw" = some (.ref fD)) (gLen : mg "len" = none) : FnOk P w K mg base CX0 2 f fd ["_law_pot_here"] (spOdd K) := by
  have GD : FnOk P w K mg base CX0 1 fD fdD ["_law_pot_here", "_law_many"] spDraw := ok_draw FD
  have bD : Binds K fdD ["_law_pot_here", "_law_many"] [] := FD.bindsN fun _ _ _ _ _ _ us hl => match us, hl with | [_, _], _ => rfl
  refine F.ok scOdd (fun vs H Q E h => ?_) (fun cdv A outer s H vs Q E hr h => ?_)
  · obtain ⟨p, rfl, _⟩ := h
    rfl
  · obtain ⟨p, rfl, hp, kk⟩ := h
    refine ⟨_, PSs.nox (pss_cons (ps_set (i := 1) scOdd.nd rfl (Or.inl rfl) (pe_op op_add pe_int (pe_call GD hr rfl gD FD.kp bD .nil pass0 (pa_cons (pv 0) (pa_cons (pe_op op_pow pe_int pe_int) pa_nil)))))
      (pss_cons (ps_set (i := 2) scOdd.nd rfl (Or.inl rfl) (pe_lst (pa_cons pe_int (pa_cons (pe_un un_neg pe_int) (pa_cons (pe_un un_neg (pv 1)) (pa_cons (pv 1) (pa_cons (pe_op op_sub (pe_op op_pow pe_int pe_int) (pv 1))
        (pa_cons pe_bl (pa_cons pe_bl (pa_cons pe_non (pa_cons pe_str (pa_cons pe_str (pa_cons (pe_tup (pa_cons pe_int pa_nil)) (pa_cons (pe_lst (pa_cons pe_int pa_nil)) (pa_cons pe_dnewK (pa_cons (pe_tup pa_nil) pa_nil))))))))))))))))
      (pss_one (ps_ret (pe_ix ix_list (pv 2) (pe_call GD hr rfl gD FD.kp bD .nil pass0 (pa_cons (pv 0) (pa_cons (pe_callB call_len_seq (by rfl) gLen PySem.boot_len (pa_cons (pv 2) pa_nil)) pa_nil))) (fun _ _ => rfl)))))), ?_⟩
    refine ⟨_, rfl, _, _, rfl, rfl, ⟨by decide, by decide, by decide⟩, p, _, rfl, hp, by decide, by decide, fun far H1 f0 f1 k1 hp1 => ?_⟩
    refine ⟨_, _, rfl, rfl, ?_⟩
    refine ⟨_, rfl, _, rfl, _, rfl, _, rfl, _, _, rfl, rfl, ⟨by decide, by decide, by decide⟩, _, rfl, _, _, rfl, rfl, (by show 1 ≤ sizeLine; decide), fun t1 ht1 => ?_⟩
    refine ⟨(by show 1 ≤ sizeLine; decide), fun t2 ht2 t3 ht3 => ?_⟩
    refine ⟨(by show 0 ≤ sizeLine; decide), fun t4 ht4 => ?_⟩
    refine ⟨(by show 14 ≤ sizeLine; decide), fun l hl => ?_⟩
    refine ⟨_, rfl, _, rfl, _, rfl, l, _, rfl, .inl (SqL.of upd_same), ?_⟩
    have hp2 := ((((hp1.keep (Same.new (Same.refl _) ht1)).keep (Same.new (Same.refl _) ht2)).keep (Same.new (Same.refl _) ht3)).keep (Same.new (Same.refl _) ht4)).keep (Same.new (o := .lst [V.int 401, V.int (-1), V.int (-(401 + far)), V.int (401 + far), V.int (10 ^ 60 - (401 + far)), V.bl true, V.bl false, V.non, V.str "3", V.str "", V.ref t1, V.ref t2, V.ref t3, V.ref t4]) (Same.refl _) hl)
    have k2 := ((((k1.new (o := .tup [V.int 3]) ht1).new (o := .lst [V.int 3]) ht2).new (o := .dK []) ht3).new (o := .tup []) ht4).new (o := .lst [V.int 401, V.int (-1), V.int (-(401 + far)), V.int (401 + far), V.int (10 ^ 60 - (401 + far)), V.bl true, V.bl false, V.non, V.str "3", V.str "", V.ref t1, V.ref t2, V.ref t3, V.ref t4]) hl
    refine ⟨p, 14, rfl, hp2, by decide, by decide, fun d H3 d0 d1 k3 hp3 => ?_⟩
    obtain ⟨pa, pb, _, _, _, hpp⟩ := id hp2
    have e4 := (Same.new (o := .lst [V.int 401, V.int (-1), V.int (-(401 + far)), V.int (401 + far), V.int (10 ^ 60 - (401 + far)), V.bl true, V.bl false, V.non, V.str "3", V.str "", V.ref t1, V.ref t2, V.ref t3, V.ref t4]) (Same.refl _) hl)
    have e3 := (Same.new (o := .tup []) (Same.refl _) ht4).trans e4
    have e2 := (Same.new (o := .dK []) (Same.refl _) ht3).trans e3
    have e1 := (Same.new (o := .lst [V.int 3]) (Same.refl _) ht2).trans e2
    have g1 := e1 t1 _ upd_same
    have g2 := e2 t2 _ upd_same
    have g3 := e3 t3 _ upd_same
    have g4 := e4 t4 _ upd_same
    have r1 := k3 t1 _ (ne_of g1 hpp (by intro z; cases z)) g1
    have r2 := k3 t2 _ (ne_of g2 hpp (by intro z; cases z)) g2
    have r3 := k3 t3 _ (ne_of g3 hpp (by intro z; cases z)) g3
    have r4 := k3 t4 _ (ne_of g4 hpp (by intro z; cases z)) g4
    have r5 := k3 l _ (ne_of upd_same hpp (by intro z; cases z)) upd_same
    have fin := fun v (ho : OddV K H3 v) => kk v H3 (k2.trans k3) hp3 ho
    have : d = 0 ∨ d = 1 ∨ d = 2 ∨ d = 3 ∨ d = 4 ∨ d = 5 ∨ d = 6 ∨ d = 7 ∨ d = 8 ∨ d = 9 ∨ d = 10 ∨ d = 11 ∨ d = 12 ∨ d = 13 := by omega
    rcases this with rfl | rfl | rfl | rfl | rfl | rfl | rfl | rfl | rfl | rfl | rfl | rfl | rfl | rfl
    · exact ⟨l, _, _, _, rfl, rfl, SqL.of r5, rfl, fin _ (.inl ⟨_, rfl, by omega⟩)⟩
    · exact ⟨l, _, _, _, rfl, rfl, SqL.of r5, rfl, fin _ (.inl ⟨_, rfl, by omega⟩)⟩
    · exact ⟨l, _, _, _, rfl, rfl, SqL.of r5, rfl, fin _ (.inl ⟨_, rfl, by omega⟩)⟩
    · exact ⟨l, _, _, _, rfl, rfl, SqL.of r5, rfl, fin _ (.inl ⟨_, rfl, by omega⟩)⟩
    · exact ⟨l, _, _, _, rfl, rfl, SqL.of r5, rfl, fin _ (.inl ⟨_, rfl, .inr (by show (400 : Int) < 10 ^ 60 - (401 + far); have f2 : far < 1000000000 := f1; omega)⟩)⟩
    · exact ⟨l, _, _, _, rfl, rfl, SqL.of r5, rfl, fin _ (.inr (.inl ⟨_, rfl⟩))⟩
    · exact ⟨l, _, _, _, rfl, rfl, SqL.of r5, rfl, fin _ (.inr (.inl ⟨_, rfl⟩))⟩
    · exact ⟨l, _, _, _, rfl, rfl, SqL.of r5, rfl, fin _ (noint (TyX.base TyOf.non) kitN)⟩
    · exact ⟨l, _, _, _, rfl, rfl, SqL.of r5, rfl, fin _ (noint (TyX.base (TyOf.str _)) kitS)⟩
    · exact ⟨l, _, _, _, rfl, rfl, SqL.of r5, rfl, fin _ (noint (TyX.base (TyOf.str _)) kitS)⟩
    · exact ⟨l, _, _, _, rfl, rfl, SqL.of r5, rfl, fin _ (noint (TyX.base (TyOf.tup r1)) kitT)⟩
    · exact ⟨l, _, _, _, rfl, rfl, SqL.of r5, rfl, fin _ (noint (TyX.base (TyOf.lst r2)) kitL)⟩
    · exact ⟨l, _, _, _, rfl, rfl, SqL.of r5, rfl, fin _ (noint (TyX.base (TyOf.dK r3)) kitD)⟩
    · exact ⟨l, _, _, _, rfl, rfl, SqL.of r5, rfl, fin _ (noint (TyX.base (TyOf.tup r4)) kitT)⟩
/-- what is asked of NoSteps, where it is caught -/
structure CatT (K : PySem.W.Frag) (mg : Str → Option Value) (C CW CN : Addr) : Prop where
  gW : mg "WeaveError" = some (.ref CW)
  gS : mg "NoSteps" = some (.ref C)
  gN : mg "NoNode" = some (.ref CN)
  te : PySem.W.exmOne K (.ref C) (.ref CW) = some true
  ex : ExcC K C
  i1 : PySem.W.kitOne K (.ref C) (.ref C) = some true
  i2 : PySem.W.kitOne K (.ref C) (.type "ValueError") = some true
  i3 : PySem.W.kitOne K (.ref C) (.ref CN) = some false
theorem scRefused : FnScope ["_law_one", "_law_other", "_law_thing", "_law_is_due", "e"] ["_law_one", "_law_other", "_law_thing"] (defScope sRefused) := ⟨rfl, rfl, rfl, by decide +kernel, rfl, by decide +kernel, by decide +kernel⟩
theorem ok_refused (F : FnP K "_law_refused" sRefused f fd) (GR : FnOk P w K mg base (L2.CX P w) 4 fR fdR ["first", "last", "steps"] (spRamp K C)) (gR : mg "ramp" = some (.ref fR)) (kR : PySem.W.keepIn K (.ref fR) = true) (bR : Binds K fdR ["first", "last", "steps"] [])
    (T : CatT K mg C CW CN) (gIs : mg "isinstance" = none) (gV : mg "ValueError" = none) : FnOk P w K mg base CX0 5 f fd ["_law_one", "_law_other", "_law_thing"] (spRefused K) := by
  refine F.ok scRefused (fun vs H Q E h => ?_) (fun cdv A outer s H vs Q E hr h => ?_)
  · obtain ⟨x, y, v, rfl, _⟩ := h
    rfl
  · obtain ⟨x, y, v, rfl, od, kk⟩ := h
    have hr3 : Room 4 _ := hr.mono (by decide)
    refine ⟨_, PSs.nox (pss_cons (ps_set (i := 3) scRefused.nd rfl (Or.inl rfl) pe_bl)
      (pss_cons (ps_try_as (i := 4) rfl rfl scRefused.nd rfl rfl ⟨rfl, by decide, .inl T.gW⟩ takes0
          (fun W pn xe tk _ => pss_one (ps_expr (pe_callS GR hr3 rfl gR kR bR (fun σ => passAt tk σ) (pa_cons (pv 0) (pa_cons (pv 1) (pa_cons (pv 2) pa_nil))))))
          (fun a oe cls d pn hz hf => pss_one (ps_set (i := 3) scRefused.nd rfl (Or.inl rfl)
            (pe_and (pe_callB (call_isE2 T.ex hz hf) (by rfl) gIs boot_isinstance (pa_cons (pv 4) (pa_cons (pe_glob (v := .ref C) rfl T.gS rfl) pa_nil)))
            (pe_and (pe_callB (call_isE2 T.ex hz hf) (by rfl) gIs boot_isinstance (pa_cons (pv 4) (pa_cons (pe_bltn (v := .ty "ValueError") (u := .type "ValueError") rfl gV (by decide +kernel) rfl) pa_nil)))
            (pe_one (pe_not (pe_callB (call_isE2 T.ex hz hf) (by rfl) gIs boot_isinstance (pa_cons (pv 4) (pa_cons (pe_glob (v := .ref CN) rfl T.gN rfl) pa_nil))))))))))
      (pss_one (ps_ret (pv 3))))), ?_⟩
    refine ⟨_, rfl, _, rfl, _, rfl, x, y, v, rfl, .inr ⟨od, ?_⟩⟩
    refine ⟨true, T.te, fun _ a ha => ?_, fun z => Bool.noConfusion z⟩
    refine ⟨_, rfl, rfl, rfl, _, _, true, rfl, fun _ z => z, T.i1, _, rfl, iteT ?_⟩
    refine ⟨_, rfl, rfl, rfl, _, _, true, rfl, fun _ z => z, T.i2, _, rfl, iteT ?_⟩
    refine ⟨_, rfl, rfl, rfl, _, _, false, rfl, fun _ z => z, T.i3, _, rfl, ?_⟩
    exact ⟨_, rfl, kk⟩
end
end Sw
namespace Sw
open PySem PySem.Spec PyProof.Rows L2
/-! ### lists of ints as data -/
theorem dp_ints {K : PySem.W.Frag} {H : Hp} : ∀ ns : List Int, DpAll K H (ns.map V.int) (ns.map PyData.int)
  | [] => .nil
  | n :: ns => .cons (.int n) (dp_ints ns)
theorem lay_ints : ∀ ns : List Int, PyData.canLayAll0 (ns.map PyData.int) = true
  | [] => rfl
  | n :: ns => by
    rw [List.map_cons, PyData.canLayAll0, lay_ints ns]
    rfl
theorem depth_ints : ∀ ns : List Int, PyData.depthAll (ns.map PyData.int) = 0
  | [] => by rw [List.map_nil, PyData.depthAll]
  | n :: ns => by
    rw [List.map_cons, PyData.depthAll, depth_ints ns, PyData.depth]
    rfl
theorem shaped_ints (ns : List Int) : SeqAt.shaped (.list (ns.map PyData.int)) = true := by
  unfold SeqAt.shaped
  rw [PyData.canLay0, lay_ints, PyData.depth, depth_ints]
  rfl
theorem eqv_ints (ns : List Int) : PyData.eqv (.list (ns.map PyData.int)) (.list (ns.map PyData.int)) = true := by
  refine SeqAt.eqv_refl _ ?_
  rw [PyData.canLay0]
  exact lay_ints ns
theorem dp_at {K : PySem.W.Frag} {H : Hp} {a : Addr} {ns : List Int} (h : H a = some (.lst (ns.map V.int))) : Dp K H (.ref a) (.list (ns.map PyData.int)) := .lst (SqL.of h) (dp_ints ns)
def rampI (x y : Int) (m n : Nat) : List Int := (List.range n).map (rampAt x y m)
theorem rampL_eq (x y : Int) (m n : Nat) : rampL x y m n = (rampI x y m n).map V.int := by
  unfold rampL rampI
  rw [List.map_map]
  rfl
theorem call_isiK {X : Cx} {K : PySem.W.Frag} (h : X.K = K) : CallR X (.builtin "isinstance") (rIsi K) := by
  subst h
  exact call_isi
section
variable {P : Program} {w : World} {K : PySem.W.Frag} {mg : Str → Option Value} {base : Heap} {f fD fR C CW CN : Addr} {fd fdD fdR : FuncData}
theorem scRight : FnScope ["_law_one", "_law_other", "_law_many", "_law_due_here", "_law_found", "_law_number_here"] ["_law_one", "_law_other", "_law_many"] (defScope sRight) := ⟨rfl, rfl, rfl, by decide +kernel, rfl, by decide +kernel, by decide +kernel⟩
/-- steps, last, first by name -/
def gK {α : Type} : List α → List α → List α := fun us ws => match us, ws with
  | [], [s, l, f] => [f, l, s]
  | _, _ => []
theorem kb_ramp (FR : FnP K "ramp" sRamp fR fdR) : KBinds K fdR ["first", "last", "steps"] ["steps", "last", "first"] gK gK := by
  obtain ⟨oc, od, dV, kV, doc, pm, an, cdv, ct, osl, rfl, lk, hcd, hD, hK⟩ := FR.ex
  rcases hD with ⟨_, rfl⟩ | ⟨e, _⟩
  · refine ⟨fun s us ws X hl => ?_, fun {vs us zs ws} r1 r2 => ?_⟩
    · match us, ws, hl with
      | [], [a, b, c], _ => exact .of_eq rfl
    · cases r1 with
      | nil =>
        cases r2 with
        | nil => exact .nil
        | cons a r =>
          cases r with
          | nil => exact .nil
          | cons b r =>
            cases r with
            | nil => exact .nil
            | cons c r =>
              cases r with
              | nil => exact .cons c (.cons b (.cons a .nil))
              | cons d r => exact .nil
      | cons a r => exact .nil
  · exact absurd rfl e
theorem ok_right (F : FnP K "_law_right" sRight f fd) (GD : FnOk P w K mg base CX0 1 fD fdD ["_law_one", "_law_other", "_law_many"] spDue) (gD : mg "_law_due" = some (.ref fD)) (kD : PySem.W.keepIn K (.ref fD) = true) (bD : Binds K fdD ["_law_one", "_law_other", "_law_many"] [])
    (FR : FnP K "ramp" sRamp fR fdR) (GR : FnOk P w K mg base (L2.CX P w) 4 fR fdR ["first", "last", "steps"] (spRamp K C)) (gR : mg "ramp" = some (.ref fR)) (bR : Binds K fdR ["first", "last", "steps"] [])
    (gIs : mg "isinstance" = none) (gInt : mg "int" = none) (gBool : mg "bool" = none) (gList : mg "list" = none) : FnOk P w K mg base CX0 5 f fd ["_law_one", "_law_other", "_law_many"] spRight := by
  have kbR := kb_ramp FR
  refine F.ok scRight (fun vs H Q E h => ?_) (fun cdv A outer s H vs Q E hr h => ?_)
  · obtain ⟨x, y, m, rfl, _⟩ := h
    rfl
  · obtain ⟨x, y, m, rfl, hm, kk⟩ := h
    have hr3 : Room 4 _ := hr.mono (by decide)
    have hr1 : Room 1 _ := hr.mono (by decide)
    have hu := hr.units
    refine ⟨_, PSs.nox (pss_cons (ps_set (i := 3) scRight.nd rfl (Or.inl rfl) (pe_call GD hr1 rfl gD kD bD .nil pass0 (pa_cons (pv 0) (pa_cons (pv 1) (pa_cons (pv 2) pa_nil)))))
      (pss_cons (ps_set (i := 4) scRight.nd rfl (Or.inl rfl) (pe_call GR hr3 rfl gR FR.kp bR .nil passL (pa_cons (pv 0) (pa_cons (pv 1) (pa_cons (pv 2) pa_nil)))))
      (pss_cons (ps_if (PW.pt (pw_or (pt_not (pt_val (pe_callB call_isi (by rfl) gIs boot_isinstance (pa_cons (pv 4) (pa_cons (pe_bltn (v := .ty "list") rfl gList PyProof.Rows.boot_list rfl) pa_nil)))))
          (pw_or1 (pt_cmpR (op_neD hu) (pv 4) (pv 3) (nomark _))))) (pss_one (ps_ret pe_bl)) pss_nil)
      (pss_cons (ps_if (pt_cmpR (op_neD hu)
          (pe_lc (own := [("_law_number_here", 5)]) (g := gName 5) (tt := _) rfl scRight.nd (pi_list (pv 4)) (blkOk_by (N := ["_law_one", "_law_other", "_law_many", "_law_due_here", "_law_found", "_law_number_here"]) (sc := defScope sRight) (by decide +kernel))
            (fun _ _ _ _ _ => pg_name (i := 5) scRight.nd rfl (Or.inl rfl))
            (fun _ _ _ _ _ => pts_one (PW.pt (pw_or (pt_not (pt_val (pe_callB (call_isiK (K := K) rfl) (by rfl) gIs boot_isinstance (pa_cons (pv 5) (pa_cons (pe_bltn (v := .ty "int") rfl gInt PyProof.Rows.boot_int rfl) pa_nil)))))
              (pw_or1 (pt_val (pe_callB (call_isiK (K := K) rfl) (by rfl) gIs boot_isinstance (pa_cons (pv 5) (pa_cons (pe_bltn (v := .ty "bool") rfl gBool PyProof.Rows.boot_bool rfl) pa_nil))))))))
            (fun _ _ _ _ _ => pv 5))
          (pe_lst pa_nil) (nomark _)) (pss_one (ps_ret pe_bl)) pss_nil)
      (pss_cons (ps_expr (pe_bm PySem.F.plainAttrs_list PySem.F.slot_list_append PySem.F.type_list_append mt_append (pv 4) (pa_cons pe_int pa_nil)))
      (pss_one (ps_ret (pe_and (pe_cmpR (op_eqD hu) (pe_callK0 GR hr3 rfl gR FR.kp kbR passL (pk_cons (pv 2) (pk_cons (pv 1) (pk_cons (pv 0) pk_nil)))) (pv 3) (nomark _))
        (pe_one (pe_cmpR (op_eqD hu) (pv 4) (pe_op op_cat (pv 3) (pe_lst (pa_cons pe_int pa_nil))) (nomark _)))))))))))
      , ?_⟩
    have eL := rampL_eq x y m m
    have sL : (rampI x y m m).length = m := by
      unfold rampI
      rw [List.length_map, List.length_range]
    refine ⟨_, rfl, _, rfl, _, rfl, x, y, m, rfl, hm, fun l1 h1 => ?_⟩
    refine ⟨_, rfl, _, rfl, _, rfl, x, y, _, rfl, .inl ⟨m, rfl, hm, fun l2 h2 => ?_⟩⟩
    rw [eL] at h2
    rw [eL]
    generalize hN : rampI x y m m = ns at *
    have a1 : (upd (upd H l1 (.lst (ns.map V.int))) l2 (.lst (ns.map V.int))) l1 = some (.lst (ns.map V.int)) := Same.new (Same.refl _) h2 _ _ upd_same
    have a2 : (upd (upd H l1 (.lst (ns.map V.int))) l2 (.lst (ns.map V.int))) l2 = some (.lst (ns.map V.int)) := upd_same
    refine ⟨_, rfl, _, _, _, _, true, rfl, ClsV.ty _, TyX.base (TyOf.lst a2), kit_ty (by decide +kernel), _, rfl, iteF ?_⟩
    refine ⟨_, rfl, _, rfl, _, _, dp_at a2, dp_at a1, shaped_ints _, shaped_ints _, ?_⟩
    rw [eqv_ints]
    refine ⟨_, rfl, iteF ?_⟩
    generalize hH2 : upd (upd H l1 (.lst (ns.map V.int))) l2 (.lst (ns.map V.int)) = H2 at *
    refine ⟨_, rfl, l2, rfl, ⟨_, SqL.of a2⟩, fun D hD => lc_list (K := K) (a := l2) (xs := ns.map V.int) (fun i H' => H' = upd H2 D (.lst [])) rfl (fun i H' _ e => by rw [e]; exact SqL.of (Same.new (Same.refl _) hD _ _ a2)) (fun i v H' hv e => ?_) (fun H' e => ?_)⟩
    · obtain ⟨u, rfl⟩ : ∃ u, v = V.int u := by
        rw [List.getElem?_map] at hv
        obtain ⟨u, _, e2⟩ := Option.map_eq_some_iff.mp hv
        exact ⟨u, e2.symm⟩
      refine ⟨rfl, ?_⟩
      refine ⟨_, rfl, _, _, _, _, true, rfl, ClsV.ty _, TyX.base (TyOf.int u), kit_ty (by decide +kernel), _, rfl, iteF ?_⟩
      refine ⟨_, rfl, _, _, _, _, false, rfl, ClsV.ty _, TyX.base (TyOf.int u), kit_ty (by decide +kernel), _, rfl, iteF ?_⟩
      exact e
    · subst e
      refine ⟨Nat.zero_le _, fun l3 h3 => ?_⟩
      have b1 : (upd (upd H2 D (.lst [])) l3 (.lst [])) D = some (.lst (([] : List Int).map V.int)) := Same.new (Same.refl _) h3 _ _ upd_same
      have b2 : (upd (upd H2 D (.lst [])) l3 (.lst [])) l3 = some (.lst (([] : List Int).map V.int)) := upd_same
      refine ⟨_, _, dp_at b1, dp_at b2, shaped_ints _, shaped_ints _, ?_⟩
      rw [eqv_ints]
      refine ⟨_, rfl, iteF ?_⟩
      have s2 := Same.new (o := .lst []) (Same.new (o := .lst []) (Same.refl _) hD) h3
      have c1 := s2 _ _ a1
      have c2 := s2 _ _ a2
      have s0 : Same H (upd (upd H2 D (.lst [])) l3 (.lst [])) := by
        refine Same.trans ?_ s2
        rw [← hH2]
        exact Same.new (Same.new (Same.refl _) h1) h2
      have h2' : H l2 = none := (Same.new (o := .lst (ns.map V.int)) (Same.refl _) h1).free h2
      have n12 : l1 ≠ l2 := fun z => by
        rw [← z, upd_same] at h2
        cases h2
      generalize hH4 : upd (upd H2 D (.lst [])) l3 (.lst []) = H4 at *
      have sz : (ns.map V.int).length < sizeLine := by
        rw [List.length_map, sL]
        exact Nat.lt_of_le_of_lt hm (by decide)
      refine ⟨_, rfl, .inl ⟨rfl, _, SqL.of c2⟩, l2, _, _, rfl, rfl, c2, sz, ?_⟩
      have d1 : (upd H4 l2 (.lst (ns.map V.int ++ [V.int 7]))) l1 = some (.lst (ns.map V.int)) := by
        rw [upd_ne n12]
        exact c1
      have d2 : (upd H4 l2 (.lst (ns.map V.int ++ [V.int 7]))) l2 = some (.lst (ns.map V.int ++ [V.int 7])) := upd_same
      have s4 : Same H (upd H4 l2 (.lst (ns.map V.int ++ [V.int 7]))) := Same.kept s0 h2' (Kept.upd Kept.refl)
      generalize hH5 : upd H4 l2 (.lst (ns.map V.int ++ [V.int 7])) = H5 at *
      refine ⟨_, rfl, _, rfl, _, rfl, x, y, _, rfl, .inl ⟨m, rfl, hm, fun l4 h4 => ?_⟩⟩
      rw [eL]
      have e1 := Same.new (o := .lst (ns.map V.int)) (Same.refl _) h4 _ _ d1
      have e2 := Same.new (o := .lst (ns.map V.int)) (Same.refl _) h4 _ _ d2
      have e4 : (upd H5 l4 (.lst (ns.map V.int))) l4 = some (.lst (ns.map V.int)) := upd_same
      have s5 := Same.new (o := .lst (ns.map V.int)) s4 h4
      refine ⟨_, rfl, _, _, dp_at e4, dp_at e1, shaped_ints _, shaped_ints _, _, rfl, ?_⟩
      rw [eqv_ints]
      refine iteT ?_
      refine ⟨_, rfl, _, rfl, (by show 1 ≤ sizeLine; decide), fun l5 h5 => ?_⟩
      have f1 := Same.new (o := .lst [V.int 7]) (Same.refl _) h5 _ _ e1
      have f2 := Same.new (o := .lst [V.int 7]) (Same.refl _) h5 _ _ e2
      have s6 := Same.new (o := .lst [V.int 7]) s5 h5
      refine ⟨l1, l5, _, _, rfl, rfl, f1, upd_same, ?_, fun l6 h6 => ?_⟩
      · rw [List.length_map, sL]
        exact Nat.le_trans (Nat.add_le_add_right hm 1) (by decide)
      · have em : ns.map V.int ++ [V.int 7] = (ns ++ [7]).map V.int := by rw [List.map_append] <;> rfl
        rw [em] at f2
        have g2 := Same.new (o := .lst (ns.map V.int ++ [V.int 7])) (Same.refl _) h6 _ _ f2
        have g6 : (upd (upd (upd H5 l4 (.lst (ns.map V.int))) l5 (.lst [V.int 7])) l6 (.lst (ns.map V.int ++ [V.int 7]))) l6 = some (.lst ((ns ++ [7]).map V.int)) := by
          rw [upd_same, em]
        refine ⟨_, _, dp_at g2, dp_at g6, shaped_ints _, shaped_ints _, ?_⟩
        rw [eqv_ints]
        exact kk _ (Same.new s6 h6)
end
end Sw
namespace Sw
open PySem PySem.Spec PyProof.Rows L2
def spLaw (K : PySem.W.Frag) : Sp := fun vs H Q _ => ∃ (a : Addr) (ns : List Int), vs = [.ref a] ∧ SqL K H a (ns.map V.int) ∧ ns.length ≤ 63 ∧ ∀ H', Q (.bl true) H'
section
variable {P : Program} {w : World} {K : PySem.W.Frag} {mg : Str → Option Value} {base : Heap} {f fCe fPo fDr fNu fRi fRe fOd C CW CN : Addr} {fd fdCe fdPo fdDr fdNu fdRi fdRe fdOd : FuncData}
theorem scLaw : FnScope ["_law_script", "_law_k", "_law_pot_here", "_law_one", "_law_other"] ["_law_script"] (defScope sLaw) := ⟨rfl, rfl, rfl, by decide +kernel, rfl, by decide +kernel, by decide +kernel⟩
theorem ok_law (F : FnP K "law" sLaw f fd)
    (GCe : FnOk P w K mg base CX0 1 fCe fdCe ["_law_script", "_law_k"] (spCell K)) (gCe : mg "_law_cell" = some (.ref fCe)) (kCe : PySem.W.keepIn K (.ref fCe) = true) (bCe : Binds K fdCe ["_law_script", "_law_k"] [])
    (GPo : FnOk P w K mg base CX0 1 fPo fdPo ["_law_cell_here"] spPot) (gPo : mg "_law_pot" = some (.ref fPo)) (kPo : PySem.W.keepIn K (.ref fPo) = true) (bPo : Binds K fdPo ["_law_cell_here"] [])
    (GDr : FnOk P w K mg base CX0 1 fDr fdDr ["_law_pot_here", "_law_many"] spDraw) (gDr : mg "_law_draw" = some (.ref fDr)) (kDr : PySem.W.keepIn K (.ref fDr) = true) (bDr : Binds K fdDr ["_law_pot_here", "_law_many"] [])
    (GNu : FnOk P w K mg base CX0 2 fNu fdNu ["_law_pot_here"] spNumber) (gNu : mg "_law_number" = some (.ref fNu)) (kNu : PySem.W.keepIn K (.ref fNu) = true) (bNu : Binds K fdNu ["_law_pot_here"] [])
    (GRi : FnOk P w K mg base CX0 5 fRi fdRi ["_law_one", "_law_other", "_law_many"] spRight) (gRi : mg "_law_right" = some (.ref fRi)) (kRi : PySem.W.keepIn K (.ref fRi) = true) (bRi : Binds K fdRi ["_law_one", "_law_other", "_law_many"] [])
    (GRe : FnOk P w K mg base CX0 5 fRe fdRe ["_law_one", "_law_other", "_law_thing"] (spRefused K)) (gRe : mg "_law_refused" = some (.ref fRe)) (kRe : PySem.W.keepIn K (.ref fRe) = true) (bRe : Binds K fdRe ["_law_one", "_law_other", "_law_thing"] [])
    (GOd : FnOk P w K mg base CX0 2 fOd fdOd ["_law_pot_here"] (spOdd K)) (gOd : mg "_law_odd" = some (.ref fOd)) (kOd : PySem.W.keepIn K (.ref fOd) = true) (bOd : Binds K fdOd ["_law_pot_here"] [])
    (gRange : mg "range" = none) (gMax : mg "max" = none) (gMin : mg "min" = none) (gLen : mg "len" = none) : FnOk P w K mg base CX0 6 f fd ["_law_script"] (spLaw K) := by
  refine F.ok scLaw (fun vs H Q E h => ?_) (fun cdv A outer s H vs Q E hr h => ?_)
  · obtain ⟨a, ns, rfl, _⟩ := h
    rfl
  · obtain ⟨a, ns, rfl, hS, hlen, kk⟩ := h
    have hr2 : Room 2 _ := hr.mono (by decide)
    have hr1 : Room 1 _ := hr.mono (by decide)
    refine ⟨_, PSs.nox (pss_cons (ps_for PassesOwn.never rfl (pi_range1 rfl gRange (pa_cons (pe_callB (call_max2 rfl) (by rfl) gMax (by decide +kernel) (pa_cons pe_int (pa_cons (pe_callB (call_min2 rfl) (by rfl) gMin (by decide +kernel)
          (pa_cons (pe_callB call_len_seq (by rfl) gLen PySem.boot_len (pa_cons (pv 0) pa_nil)) (pa_cons pe_int pa_nil))) pa_nil))) pa_nil)) (pg_name (i := 1) scLaw.nd rfl (Or.inl rfl))
        (pss_cons (ps_set (i := 2) scLaw.nd rfl (Or.inl rfl) (pe_call GPo hr1 rfl gPo kPo bPo .nil pass0 (pa_cons (pe_call GCe hr1 rfl gCe kCe bCe .nil pass0 (pa_cons (pv 0) (pa_cons (pv 1) pa_nil))) pa_nil)))
        (pss_cons (ps_par (i := 3) (j := 4) rfl scLaw.nd rfl rfl (by decide) rfl rfl (pa_cons (pe_call GNu hr2 rfl gNu kNu bNu .nil pass0 (pa_cons (pv 2) pa_nil)) (pa_cons (pe_call GNu hr2 rfl gNu kNu bNu .nil pass0 (pa_cons (pv 2) pa_nil)) pa_nil)) (by rfl))
        (pss_cons (ps_if (pt_not (pt_val (pe_call GRi hr rfl gRi kRi bRi .nil pass0 (pa_cons (pv 3) (pa_cons (pv 4) (pa_cons (pe_ix ix_list
              (pe_lst (pa_cons (pe_call GDr hr1 rfl gDr kDr bDr .nil pass0 (pa_cons (pv 2) (pa_cons pe_int pa_nil))) (pa_cons (pe_call GDr hr1 rfl gDr kDr bDr .nil pass0 (pa_cons (pv 2) (pa_cons pe_int pa_nil))) pa_nil)))
              (pe_call GDr hr1 rfl gDr kDr bDr .nil pass0 (pa_cons (pv 2) (pa_cons pe_int pa_nil))) (fun _ _ => rfl)) pa_nil)))))) (pss_one (ps_ret pe_bl)) pss_nil)
        (pss_one (ps_if (pt_not (pt_val (pe_call GRe hr rfl gRe kRe bRe .nil pass0 (pa_cons (pv 3) (pa_cons (pv 4) (pa_cons (pe_call GOd hr2 rfl gOd kOd bOd .nil pass0 (pa_cons (pv 2) pa_nil)) pa_nil)))))) (pss_one (ps_ret pe_bl)) pss_nil))))))
      (pss_one (ps_ret (pe_and (pe_call GRi hr rfl gRi kRi bRi .nil pass0 (pa_cons pe_int (pa_cons pe_int (pa_cons pe_int pa_nil))))
        (pe_one (pe_call GRi hr rfl gRi kRi bRi .nil pass0 (pa_cons pe_int (pa_cons (pe_un un_neg pe_int) (pa_cons pe_int pa_nil))))))))), ?_⟩
    refine ⟨_, rfl, a, _, rfl, .inl hS, _, _, rfl, _, _, rfl, _, rfl, ?_, ?_, for_range (fun i σ H' => ∃ v1 v2 v3 v4 : Option V, σ = [some (.ref a), v1, v2, v3, v4] ∧ Same H H') ⟨none, none, none, none, rfl, Same.refl _⟩ ?_ ?_⟩
    · rw [List.length_map]
      split <;> split <;> omega
    · rw [List.length_map]
      split <;> split <;> omega
    · rintro i σ H1 hi ⟨v1, v2, v3, v4, rfl, s1⟩
      refine ⟨_, rfl, _, rfl, a, ns, i, ?_, s1.seq hS, fun c => ?_⟩
      · rw [Int.zero_add]
        rfl
      refine ⟨c, rfl, fun p H2 np s2 hp => ?_⟩
      have p0 : H p = none := s1.free np
      have t2 := s1.trans s2
      refine ⟨_, rfl, p, rfl, hp, fun x H3 _ _ k3 hp3 => ?_⟩
      refine ⟨_, rfl, p, rfl, hp3, fun y H4 _ _ k4 hp4 => ?_⟩
      have t4 := Same.kept t2 p0 (k3.trans k4)
      refine ⟨_, _, rfl, ?_⟩
      refine ⟨_, rfl, _, rfl, _, rfl, p, 12, rfl, hp4, by decide, by decide, fun d1 H5 d0 d12 k5 hp5 => ?_⟩
      refine ⟨_, rfl, p, 401, rfl, hp5, by decide, by decide, fun d2 H6 e0 e401 k6 hp6 => ?_⟩
      have t6 := Same.kept t4 p0 (k5.trans k6)
      refine ⟨(by show 2 ≤ sizeLine; decide), fun l hl => ?_⟩
      have hp7 := hp6.keep (Same.new (o := .lst [V.int d1, V.int d2]) (Same.refl _) hl)
      have t7 := Same.new (o := .lst [V.int d1, V.int d2]) t6 hl
      refine ⟨_, rfl, p, 2, rfl, hp7, by decide, by decide, fun d3 H8 g0 g2 k8 hp8 => ?_⟩
      have t8 := Same.kept t7 p0 k8
      obtain ⟨pa, pb, _, _, _, hpp⟩ := id hp6
      have hl8 := k8 l _ (fun z => by rw [z, hpp] at hl; cases hl) upd_same
      have : ∃ m : Nat, atI [V.int d1, V.int d2] d3 = some (V.int (m : Int)) ∧ m ≤ 400 := by
        have : d3 = 0 ∨ d3 = 1 := by omega
        rcases this with rfl | rfl
        · exact ⟨d1.toNat, by rw [Int.toNat_of_nonneg d0] <;> rfl, by omega⟩
        · exact ⟨d2.toNat, by rw [Int.toNat_of_nonneg e0] <;> rfl, by omega⟩
      obtain ⟨m, em, hm⟩ := this
      refine ⟨l, _, _, _, rfl, rfl, SqL.of hl8, em, x, y, m, rfl, hm, fun H9 s9 => ⟨_, rfl, iteF ?_⟩⟩
      have t9 := t8.trans s9
      have hp9 := hp8.keep s9
      refine ⟨_, rfl, _, rfl, _, rfl, p, rfl, hp9, fun v H10 k10 hp10 od => ?_⟩
      refine ⟨x, y, v, rfl, od, _, rfl, iteF ?_⟩
      exact ⟨_, _, _, _, rfl, Same.kept t9 p0 k10⟩
    · rintro σ H1 ⟨v1, v2, v3, v4, rfl, s1⟩
      refine ⟨0, 7, 0, rfl, by decide, fun H2 s2 => ⟨_, rfl, iteT ?_⟩⟩
      exact ⟨_, rfl, 5, -5, 400, rfl, by decide, fun H3 s3 => kk H3⟩
end
end Sw
namespace Sw
open PySem PySem.Spec PyProof.Rows L2
/-! ### the head: facts by names -/
/-- as hookD, with one test more of the written part -/
def obsX (fa : List He.Fa) (fn : List He.DefD) (ex : PySem.W.Frag → Bool) (K : PySem.W.Frag) : Bool × He.AlD := (ex K, He.obsD fa fn K)
def obsXG (n : Nat) (fa : List He.Fa) (fn : List He.DefD) (ex : PySem.W.Frag → Bool) (g : Addr → Option Obj) : Bool × He.AlD := obsX fa fn ex (He.frG g (He.asD g n))
def hookX (n : Nat) (fa : List He.Fa) (fn : List He.DefD) (ex : PySem.W.Frag → Bool) : PySem.W.Hook where
  α := Bool × He.AlD
  obs := fun s => obsXG n fa fn ex s.heap.get?
  val := fun _ => (true, He.valD fn)
  says := fun _ h => ∃ K : PySem.W.Frag, K.In h ∧ ex K = true ∧ He.SaysD fa fn K
  of := fun _ _ e => ⟨_, He.frG_in, congrArg (fun z : Bool × He.AlD => z.1) e, congrArg (fun z : Bool × He.AlD => z.2) e⟩
  keeps := fun _ _ _ ⟨K, hK, c⟩ k => ⟨K, PySem.W.Frag.In.keeps hK k, c⟩
theorem obsXG_eq {n : Nat} {fa : List He.Fa} {fn : List He.DefD} {ex : PySem.W.Frag → Bool} {g : Addr → Option Obj} {s : Shared} (h : ∀ a, g a = s.heap.get? a) : obsXG n fa fn ex g = (hookX n fa fn ex).obs s := by
  have e : g = s.heap.get? := funext h
  rw [e] <;> rfl
def excB (K : PySem.W.Frag) (D : Addr) : Bool :=
  decide (PySem.W.findIn K (.ref D) "__getattribute__" = some (some (.builtin "BaseException.__getattribute__"))) && (decide (PySem.W.findIn K (.ref D) "__getattr__" = some none) && (decide (PySem.W.subIn K (.ref D) (.type "BaseException") = some true) && (PySem.W.hasDictIn K D &&
  (decide (PySem.W.findIn K (.ref D) "__class__" = some (some (.builtin "object.__class__"))) && (decide (PySem.W.specialIn K (.builtin "object.__class__") "__get__" = some (some (.builtin "getset_descriptor.__get__"))) &&
  (decide (PySem.W.takesIn K (.builtin "object.__class__") = some true) && decide (PySem.W.mroIn K D (.type "object") = some true)))))))
theorem excB_ok {K : PySem.W.Frag} {D : Addr} (h : excB K D = true) : ExcC K D := by
  obtain ⟨h1, h⟩ := He.ba h
  obtain ⟨h2, h⟩ := He.ba h
  obtain ⟨h3, h⟩ := He.ba h
  obtain ⟨h4, h⟩ := He.ba h
  obtain ⟨h5, h⟩ := He.ba h
  obtain ⟨h6, h⟩ := He.ba h
  obtain ⟨h7, h8⟩ := He.ba h
  exact ⟨of_decide_eq_true h1, of_decide_eq_true h2, of_decide_eq_true h3, h4, of_decide_eq_true h5, of_decide_eq_true h6, of_decide_eq_true h7, of_decide_eq_true h8⟩
def kitF (K : PySem.W.Frag) (t u : Value) (b : Bool) : Bool := decide (PySem.W.kitOne K t u = some b)
def dfn (x : Str) (st : Stmt) : He.DefD := ⟨(x, none), x, x, defArgs st, defBody st, defScope st, [], []⟩
def fn : List He.DefD := [dfn "is_whole" sWhole, dfn "is_whole_within" sWithin, dfn "ramp" sRamp, dfn "_law_cell" sCell, dfn "_law_pot" sPot, dfn "_law_draw" sDraw, dfn "_law_number" sNumber, dfn "_law_due" sDue, dfn "_law_odd" sOdd, dfn "_law_refused" sRefused, dfn "_law_right" sRight, dfn "law" sLaw, dfn "check_steps" sSteps]
def fa : List He.Fa := [.glo "is_whole", .glo "is_whole_within", .glo "ramp", .glo "_law_cell", .glo "_law_pot", .glo "_law_draw", .glo "_law_number", .glo "_law_due", .glo "_law_odd", .glo "_law_refused", .glo "_law_right", .glo "law",
  .free "len", .free "max", .free "min", .free "range", .free "isinstance", .free "int", .free "bool", .free "list", .free "ValueError", .int "MOST_STEPS" 400, .glo "WeaveError", .glo "NoSteps", .glo "NoNode", .exc "NoSteps", .exm "NoSteps" "WeaveError" true, .glo "check_steps"]
def ex (K : PySem.W.Frag) : Bool := excB K (He.ga K "NoSteps") && (kitF K (.ref (He.ga K "NoSteps")) (.ref (He.ga K "NoSteps")) true && (kitF K (.ref (He.ga K "NoSteps")) (.type "ValueError") true && kitF K (.ref (He.ga K "NoSteps")) (.ref (He.ga K "NoNode")) false))
abbrev R : PySem.W.OpenRow := PySem.W.OpenLaw.row PySem.Challenge.rw_sampleweave_k11_ramps
abbrev hk : PySem.W.Hook := hookX 5 fa fn ex
def ob (s : PySem.W.SharedT) : Bool × He.AlD := obsXG 5 fa fn ex (HandSHeadRun.getT s)
theorem ob_eq (s : PySem.W.SharedT) : ob s = hk.obs s.abs := obsXG_eq (HandSHeadRun.getT_eq s)
def loose : List Str := ["WeaveError", "NoNode", "NoSteps", "is_whole", "is_whole_within", "MOST_STEPS", "check_steps", "ramp", "_law_cell", "_law_pot", "_law_draw", "_law_number", "_law_due", "_law_odd", "_law_refused", "_law_right"]
theorem run (w : World) : HandSHeadRun.RunEq R (PySem.W.view R.prog [20]) hk ob 6000 loose w := by
  intro os
  kernel_rfl
theorem facts {P : Program} {w : World} {K : PySem.W.Frag} {h : Heap} {mg : Str → Option Value} {f : Addr} (X : K.In h) (G : h.Ns mainGlobals mg) (hfa : mg ("law" : Str) = some (.ref f)) (cx : ex K = true) (c : He.SaysD fa fn K) :
    ∃ fd : FuncData, (∀ (s : Shared) (v : Value), BindsTo s fd ⟨[v], []⟩ [("_law_script", v)]) ∧ ∀ base : Heap, K.In base → base.Ns mainGlobals mg → FnOk P w K mg base CX0 6 f fd ["_law_script"] (spLaw K) := by
  obtain ⟨x1, cx⟩ := He.ba cx
  obtain ⟨x2, cx⟩ := He.ba cx
  obtain ⟨x3, x4⟩ := He.ba cx
  obtain ⟨fd0, F0⟩ := c.def_ 0 (d := dfn "is_whole" sWhole) rfl
  obtain ⟨fd1, F1⟩ := c.def_ 1 (d := dfn "is_whole_within" sWithin) rfl
  obtain ⟨fd2, F2⟩ := c.def_ 2 (d := dfn "ramp" sRamp) rfl
  obtain ⟨fd3, F3⟩ := c.def_ 3 (d := dfn "_law_cell" sCell) rfl
  obtain ⟨fd4, F4⟩ := c.def_ 4 (d := dfn "_law_pot" sPot) rfl
  obtain ⟨fd5, F5⟩ := c.def_ 5 (d := dfn "_law_draw" sDraw) rfl
  obtain ⟨fd6, F6⟩ := c.def_ 6 (d := dfn "_law_number" sNumber) rfl
  obtain ⟨fd7, F7⟩ := c.def_ 7 (d := dfn "_law_due" sDue) rfl
  obtain ⟨fd8, F8⟩ := c.def_ 8 (d := dfn "_law_odd" sOdd) rfl
  obtain ⟨fd9, F9⟩ := c.def_ 9 (d := dfn "_law_refused" sRefused) rfl
  obtain ⟨fd10, F10⟩ := c.def_ 10 (d := dfn "_law_right" sRight) rfl
  obtain ⟨fd11, F11⟩ := c.def_ 11 (d := dfn "law" sLaw) rfl
  have g0 := He.glo_ok X G (c.fact 0 (f := .glo "is_whole") rfl)
  have g1 := He.glo_ok X G (c.fact 1 (f := .glo "is_whole_within") rfl)
  have g2 := He.glo_ok X G (c.fact 2 (f := .glo "ramp") rfl)
  have g3 := He.glo_ok X G (c.fact 3 (f := .glo "_law_cell") rfl)
  have g4 := He.glo_ok X G (c.fact 4 (f := .glo "_law_pot") rfl)
  have g5 := He.glo_ok X G (c.fact 5 (f := .glo "_law_draw") rfl)
  have g6 := He.glo_ok X G (c.fact 6 (f := .glo "_law_number") rfl)
  have g7 := He.glo_ok X G (c.fact 7 (f := .glo "_law_due") rfl)
  have g8 := He.glo_ok X G (c.fact 8 (f := .glo "_law_odd") rfl)
  have g9 := He.glo_ok X G (c.fact 9 (f := .glo "_law_refused") rfl)
  have g10 := He.glo_ok X G (c.fact 10 (f := .glo "_law_right") rfl)
  have e := hfa.symm.trans (He.glo_ok X G (c.fact 11 (f := .glo "law") rfl))
  cases e
  have gLen := He.free_ok X G (c.fact 12 (f := .free "len") rfl)
  have gMax := He.free_ok X G (c.fact 13 (f := .free "max") rfl)
  have gMin := He.free_ok X G (c.fact 14 (f := .free "min") rfl)
  have gRange := He.free_ok X G (c.fact 15 (f := .free "range") rfl)
  have gIs := He.free_ok X G (c.fact 16 (f := .free "isinstance") rfl)
  have gInt := He.free_ok X G (c.fact 17 (f := .free "int") rfl)
  have gBool := He.free_ok X G (c.fact 18 (f := .free "bool") rfl)
  have gList := He.free_ok X G (c.fact 19 (f := .free "list") rfl)
  have gVE := He.free_ok X G (c.fact 20 (f := .free "ValueError") rfl)
  have gM := He.int_ok X G (c.fact 21 (f := .int "MOST_STEPS" 400) rfl)
  have gWE := He.glo_ok X G (c.fact 22 (f := .glo "WeaveError") rfl)
  have gNS := He.glo_ok X G (c.fact 23 (f := .glo "NoSteps") rfl)
  have gNN := He.glo_ok X G (c.fact 24 (f := .glo "NoNode") rfl)
  obtain ⟨q1, q2, q3, q4⟩ := He.exc_ok (c.fact 25 (f := .exc "NoSteps") rfl)
  have qe := He.exm_ok (c.fact 26 (f := .exm "NoSteps" "WeaveError" true) rfl)
  obtain ⟨fd12, F12⟩ := c.def_ 12 (d := dfn "check_steps" sSteps) rfl
  have g12 := He.glo_ok X G (c.fact 27 (f := .glo "check_steps") rfl)
  have b12 : Binds K fd12 ["steps"] [] := FunD.bindsN F12 fun _ _ _ _ _ _ us hl => match us, hl with | [_], _ => rfl
  have T : ExcT K mg "NoSteps" (He.ga K "NoSteps") := ⟨gNS, q1, q2, q3, q4⟩
  have TC : CatT K mg (He.ga K "NoSteps") (He.ga K "WeaveError") (He.ga K "NoNode") := ⟨gWE, gNS, gNN, qe, excB_ok x1, of_decide_eq_true x2, of_decide_eq_true x3, of_decide_eq_true x4⟩
  have b0 : Binds K fd0 ["thing"] [] := FunD.bindsN F0 fun _ _ _ _ _ _ us hl => match us, hl with | [_], _ => rfl
  have b1 : Binds K fd1 ["thing", "least", "most"] [] := FunD.bindsN F1 fun _ _ _ _ _ _ us hl => match us, hl with | [_, _, _], _ => rfl
  have b2 : Binds K fd2 ["first", "last", "steps"] [] := FunD.bindsN F2 fun _ _ _ _ _ _ us hl => match us, hl with | [_, _, _], _ => rfl
  have b3 : Binds K fd3 ["_law_script", "_law_k"] [] := FunD.bindsN F3 fun _ _ _ _ _ _ us hl => match us, hl with | [_, _], _ => rfl
  have b4 : Binds K fd4 ["_law_cell_here"] [] := FunD.bindsN F4 fun _ _ _ _ _ _ us hl => match us, hl with | [_], _ => rfl
  have b5 : Binds K fd5 ["_law_pot_here", "_law_many"] [] := FunD.bindsN F5 fun _ _ _ _ _ _ us hl => match us, hl with | [_, _], _ => rfl
  have b6 : Binds K fd6 ["_law_pot_here"] [] := FunD.bindsN F6 fun _ _ _ _ _ _ us hl => match us, hl with | [_], _ => rfl
  have b7 : Binds K fd7 ["_law_one", "_law_other", "_law_many"] [] := FunD.bindsN F7 fun _ _ _ _ _ _ us hl => match us, hl with | [_, _, _], _ => rfl
  have b8 : Binds K fd8 ["_law_pot_here"] [] := FunD.bindsN F8 fun _ _ _ _ _ _ us hl => match us, hl with | [_], _ => rfl
  have b9 : Binds K fd9 ["_law_one", "_law_other", "_law_thing"] [] := FunD.bindsN F9 fun _ _ _ _ _ _ us hl => match us, hl with | [_, _, _], _ => rfl
  have b10 : Binds K fd10 ["_law_one", "_law_other", "_law_many"] [] := FunD.bindsN F10 fun _ _ _ _ _ _ us hl => match us, hl with | [_, _, _], _ => rfl
  have b11 := FunD.bindsA (ps := ["_law_script"]) F11 fun _ _ _ _ _ _ us hl => match us, hl with | [_], _ => rfl
  refine ⟨fd11, fun s v => b11 s [v] rfl, fun base _ _ => ?_⟩
  have G0 : FnOk P w K mg base CX0 1 _ fd0 ["thing"] (spWhole K) := ok_whole F0 gIs gInt gBool
  have G1 : FnOk P w K mg base CX0 2 _ fd1 ["thing", "least", "most"] (spWithin K) := ok_within F1 G0 g0 F0.kp b0
  have G12 : FnOk P w K mg base (L2.CX P w) 3 _ fd12 ["steps"] (spSteps K (He.ga K "NoSteps")) := ok_steps F12 G1 g1 F1.kp b1 gM T
  have G2 : FnOk P w K mg base (L2.CX P w) 4 _ fd2 ["first", "last", "steps"] (spRamp K (He.ga K "NoSteps")) := ok_ramp F2 G12 g12 F12.kp b12 gRange
  have G7 : FnOk P w K mg base CX0 1 _ fd7 ["_law_one", "_law_other", "_law_many"] spDue := ok_due F7 gRange
  exact ok_law F11 (ok_cell F3 gLen) g3 F3.kp b3 (ok_pot F4 gMax) g4 F4.kp b4 (ok_draw F5) g5 F5.kp b5 (ok_number F6 F5 g5 gRange) g6 F6.kp b6
    (ok_right F10 G7 g7 F7.kp b7 F2 G2 g2 b2 gIs gInt gBool gList) g10 F10.kp b10 (ok_refused F9 G2 g2 F2.kp b2 TC gIs gVE) g9 F9.kp b9 (ok_odd F8 F5 g5 gLen) g8 F8.kp b8 gRange gMax gMin gLen
end Sw
open PySem PySem.W PySem.Calls PyProof.Rows
theorem PySem.Challenge.cw_sampleweave_k11_ramps_holds : PySem.Challenge.rw_sampleweave_k11_ramps.Holds := by
  w_on; o_law
  refine HandSHeadRun.head_any (r := OpenLaw.row PySem.Challenge.rw_sampleweave_k11_ramps) (q := view (OpenLaw.row PySem.Challenge.rw_sampleweave_k11_ramps).prog [20]) (H := Sw.hk) (ob := Sw.ob) (M := 6000) (loose := Sw.loose) (d := HandSHeadRun.topDef (OpenLaw.row PySem.Challenge.rw_sampleweave_k11_ramps).prog 20) (kwd := []) Sw.ob_eq
    (by kernel_rfl) (fun s => by kernel_rfl) Sw.run (by kernel_rfl) (by kernel_rfl) (by kernel_rfl) (by rfl) (by first | assumption | decide +kernel) (by decide +kernel) ⟨rfl, rfl, rfl, rfl, rfl, by decide +kernel⟩ ?hw ?hc
  case hw => w_witness2
  case hc =>
    refine L2.walk_ofE (l := PySem.Challenge.rw_sampleweave_k11_ramps) (n := 63) (k := 6) (x := "_law_script") (CX := L2.CX0) rfl (by decide) (by kernel_rfl) ⟨rfl, by decide, by decide⟩ ?F (fun _ _ _ _ z => z)
    intro w mg fa h Y G hmg0
    obtain ⟨K, KX, cx, c⟩ := Y
    have hmg : mg ("law" : PySem.Str) = some (.ref fa) := by
      have e : (HandSHeadRun.topDef (OpenLaw.row PySem.Challenge.rw_sampleweave_k11_ramps).prog 20).name = ("law" : PySem.Str) := by kernel_rfl
      rw [← e]
      exact hmg0
    obtain ⟨fd, hb, hF⟩ := Sw.facts (P := (PySem.Challenge.rw_sampleweave_k11_ramps).prog) (w := w) KX G hmg cx c
    exact ⟨K, fd, Sw.spLaw K, KX, hb, fun H a ns hl _ hS => ⟨a, ns, rfl, hS, hl, fun _ => rfl⟩, hF⟩
