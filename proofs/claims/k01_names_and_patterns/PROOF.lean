import PyProof.Rows.All
import Wide.All
import OpenK.AllK
import Wide.FinOn
import HandS.ForMost
import HandS.EndBits
import HandS.Set
import HandS.SetKeys
import HandS.SetBool
import HandS.Comp
import HandS.DictComp
import HandS.Strs
import HandS.SetTxt0
import HandS.More
import HandS.IsInst
import HandS.StrMore
import HandS.FStr
import HandS.Star
import HandS.NoneIn
import HandS.Defaults
import PyProof.ListMulRoad
import PyProof.FactsAll.tuple_2
import HandS.TupAny
import HandS.TupMul
import PySem.Challenge.RW_fullestrows_k01_names_and_patterns
set_option Elab.async false
set_option linter.all false
set_option maxRecDepth 100000
set_option maxHeartbeats 4000000
/-! The helpers of the laws: draws and names. -/
namespace L2.LawH
open PySem PySem.Spec PyProof.Rows
open Builtin.Int (intBits)
def top (i : Nat) : Stmt := PySem.Challenge.pw_fullestrows_k01_names_and_patterns.main.body.getD i (.Pass ⟨0, 0, 0, 0⟩)
abbrev sSource : Stmt := top 12
abbrev sDraw : Stmt := top 13
abbrev sName : Stmt := top 14

/-! ### numbers -/
theorem mod_pos {x y : Int} (h : 0 < y) : 0 ≤ x.fmod y ∧ x.fmod y < y := by
  rw [Int.fmod_eq_emod_of_nonneg x (Int.le_of_lt h)]
  exact ⟨Int.emod_nonneg x (by omega), Int.emod_lt_of_pos x h⟩
theorem small_bits {x : Int} (h0 : 0 ≤ x) (h : x < 1152921504606846976) : intBits x ≤ 60 := by
  refine PySem.intBits_le_iff.mpr ?_
  have e : (2 : Nat) ^ 60 = 1152921504606846976 := by decide
  rw [e]
  omega
theorem big_ok {c n m : Int} (hc : intBits c ≤ 1048576) (h0 : 0 ≤ n) (hn : n ≤ 1000000) (m0 : 0 ≤ m) (m1 : m ≤ 1000000) :
    (intBits (c * m + n * 40699 + 12011) : Int) * 3 ≤ 2 ^ 27 := by
  have h1 : intBits (c * m) ≤ 1048576 + 60 := PySem.intBits_mul_le hc (small_bits m0 (by omega))
  have h2 : intBits (n * 40699) ≤ 60 := small_bits (by omega) (by omega)
  have h3 : intBits (12011 : Int) ≤ 60 := small_bits (by omega) (by omega)
  have h5 := PySem.intBits_add_le (PySem.intBits_add_le h1 h2) h3
  have e : (2 : Int) ^ 27 = 134217728 := by decide
  rw [e]
  have h6 : max (max (1048576 + 60) 60 + 1) 60 + 1 = 1048638 := by decide
  rw [h6] at h5
  omega
theorem small_ok {x : Int} (h0 : 0 ≤ x) (h : x < 1152921504606846976) : (intBits x : Int) * 3 ≤ 2 ^ 27 := by
  have := small_bits h0 h
  have e : (2 : Int) ^ 27 = 134217728 := by decide
  rw [e]
  omega
theorem op_powB {X : Cx} : OpR X (binaryOp .Pow) (rI (fun i j => 0 ≤ j ∧ (Builtin.Int.intBits i : Int) * j ≤ 2 ^ 27) fun i j => .int (i ^ j.toNat)) :=
  opI fun _ _ _ _ _ _ _ hc q => pow_int hc.1 hc.2 q

/-! ### heaps -/
/-- all but a stands as it stood -/
def Keep (a : Addr) (H H' : Hp) : Prop := ∀ b o, H b = some o → b ≠ a → H' b = some o
theorem Keep.refl (a : Addr) (H : Hp) : Keep a H H := fun _ _ e _ => e
theorem Keep.trans {a : Addr} {H H1 H2 : Hp} (k : Keep a H H1) (l : Keep a H1 H2) : Keep a H H2 := fun b o e n => l b o (k b o e n) n
theorem Keep.of {a : Addr} {H H' : Hp} (s : Same H H') : Keep a H H' := fun b o e _ => s b o e
theorem same_new {H : Hp} {p : Addr} {o : HO} (n : H p = none) : Same H (upd H p o) := fun b u e => by
  rw [upd_ne (ne_of_none e n)]
  exact e
theorem Keep.free {a b : Addr} {H H' : Hp} (k : Keep a H H') (n : H' b = none) (ha : H' a ≠ none) : H b = none := by
  cases e : H b with
  | none => rfl
  | some o =>
    have nb : b ≠ a := fun z => ha (by rw [← z]; exact n)
    rw [k b o e nb] at n
    cases n

/-! ### the source of draws -/
/-- the source at a, of the cell c, with m draws still to be had -/
def SrcAt (H : Hp) (a : Addr) (c : Int) (m : Nat) : Prop := ∃ (d : Int) (n : Nat), H a = some (.lst [.int c, .int d, .int n]) ∧ n + m ≤ 1000000 ∧ intBits c ≤ 1048576
theorem SrcAt.mono {H : Hp} {a : Addr} {c : Int} {m m' : Nat} (h : SrcAt H a c m) (l : m' ≤ m) : SrcAt H a c m' := by
  obtain ⟨d, n, e, f, b⟩ := h
  exact ⟨d, n, e, by omega, b⟩
theorem SrcAt.some {H : Hp} {a : Addr} {c : Int} {m : Nat} (h : SrcAt H a c m) : H a ≠ none := by
  obtain ⟨d, n, e, _⟩ := h
  rw [e]
  exact fun z => by cases z
theorem SrcAt.same {H H' : Hp} {a : Addr} {c : Int} {m : Nat} (h : SrcAt H a c m) (s : Same H H') : SrcAt H' a c m := by
  obtain ⟨d, n, e, f, b⟩ := h
  exact ⟨d, n, s _ _ e, f, b⟩
theorem SrcAt.ne {H : Hp} {a p : Addr} {c : Int} {m : Nat} (h : SrcAt H a c m) (n : H p = none) : p ≠ a := by
  obtain ⟨d, k, e, _⟩ := h
  exact (ne_of_none e n).symm
def spSource : Sp := fun vs H Q _ => ∃ c : Int, vs = [.int c] ∧ intBits c ≤ 1048576 ∧ ∀ a H', Same H H' → H a = none → SrcAt H' a c 1000000 → Q (.ref a) H'
def spDraw : Sp := fun vs H Q _ => ∃ (a : Addr) (c : Int) (m : Nat) (k : Int), vs = [.ref a, .int k] ∧ SrcAt H a c (m + 1) ∧
  0 < k ∧ k ≤ 1000000 ∧ ∀ (r : Int) (H' : Hp), 0 ≤ r → r < k → SrcAt H' a c m → Keep a H H' → Q (.int r) H'

section
variable {P : Program} {w : World} {K : PySem.W.Frag} {mg : Str → Option Value} {base : Heap}
theorem scS : FnScope ["_law_cell"] ["_law_cell"] (defScope sSource) := ⟨rfl, rfl, rfl, by decide +kernel, rfl, by decide +kernel, by decide +kernel⟩
theorem ok_source {f : Addr} {fd : FuncData} (F : Fun K "_law_source" "_law_source" sSource f fd) : FnOk P w K mg base CX0 1 f fd ["_law_cell"] spSource := by
  refine F.ok scS (fun vs H Q E h => ?_) (fun cdv A outer s H vs Q E hr h => ?_)
  · obtain ⟨c, rfl, _⟩ := h
    rfl
  · obtain ⟨c, rfl, hb, k⟩ := h
    refine ⟨_, pss_one (ps_ret (pe_lst (pa_cons (pv 0) (pa_cons (pv 0) (pa_cons pe_int pa_nil))))), ?_⟩
    exact ⟨_, rfl, _, rfl, (by show 3 ≤ sizeLine; decide), fun a ha => k a _ (same_new ha) ha ⟨c, 0, upd_same, by decide, hb⟩⟩
theorem scD : FnScope ["_law_source_here", "_law_limit", "_law_digit", "_law_mixed"] ["_law_source_here", "_law_limit"] (defScope sDraw) :=
  ⟨rfl, rfl, rfl, by decide +kernel, rfl, by decide +kernel, by decide +kernel⟩
theorem ok_draw {f : Addr} {fd : FuncData} (F : Fun K "_law_draw" "_law_draw" sDraw f fd) (mi : mg "int" = none) :
    FnOk P w K mg base CX0 1 f fd ["_law_source_here", "_law_limit"] spDraw := by
  refine F.ok scD (fun vs H Q E h => ?_) (fun cdv A outer s H vs Q E hr h => ?_)
  · obtain ⟨a, c, n, m, rfl, _⟩ := h
    rfl
  · obtain ⟨a, c, fu, m, rfl, ⟨d, n, hs, hn, hc⟩, m0, m1, k⟩ := h
    refine ⟨_, pss_cons (ps_asg (pe_op op_add (pe_ix ix_list (pv 0) pe_int (fun _ _ => rfl)) pe_int) (pg_sub (pv 0) pe_int set_list))
      (pss_cons (ps_if (pt_cmpR op_ge (pe_ix ix_list (pv 0) pe_int (fun _ _ => rfl)) (pe_op op_pow pe_int pe_int) (nomark _))
        (pss_cons (ps_set (i := 2) scD.nd rfl (Or.inl rfl) (pe_op op_modN (pe_callTy call_int1 (by rfl) mi (by decide +kernel) (pa_cons (pe_ix ix_list (pv 0) pe_int (fun _ _ => rfl)) pa_nil)) (pv 1)))
        (pss_cons (ps_asg (pe_op op_fdivN (pe_ix ix_list (pv 0) pe_int (fun _ _ => rfl)) (pv 1)) (pg_sub (pv 0) pe_int set_list))
        (pss_one (ps_ret (pv 2))))) pss_nil)
      (pss_cons (ps_set (i := 3) scD.nd rfl (Or.inl rfl) (pe_op op_modN (pe_callTy call_int1 (by rfl) mi (by decide +kernel) (pa_cons (pe_op op_powB (pe_callTy call_int1 (by rfl) mi (by decide +kernel) (pa_cons (pe_op op_add (pe_op op_add (pe_op op_mul (pe_callTy call_int1 (by rfl) mi (by decide +kernel) (pa_cons (pe_ix ix_list (pv 0) pe_int (fun _ _ => rfl)) pa_nil)) pe_int) (pe_op op_mul (pe_ix ix_list (pv 0) pe_int (fun _ _ => rfl)) pe_int)) pe_int) pa_nil)) pe_int) pa_nil)) pe_int))
      (pss_cons (ps_set (i := 3) scD.nd rfl (Or.inl rfl) (pe_op op_modN (pe_callTy call_int1 (by rfl) mi (by decide +kernel) (pa_cons (pe_op op_powB (pe_callTy call_int1 (by rfl) mi (by decide +kernel) (pa_cons (pe_op op_add (pv 3) (pe_op op_mul (pe_op op_mul (pe_ix ix_list (pv 0) pe_int (fun _ _ => rfl)) (pe_ix ix_list (pv 0) pe_int (fun _ _ => rfl))) pe_int)) pa_nil)) pe_int) pa_nil)) pe_int))
      (pss_one (ps_ret (pe_op op_modN (pe_op op_fdivN (pv 3) pe_int) (pv 1))))))), ?_⟩
    -- src[2] = src[2] + 1
    refine ⟨_, rfl, a, _, _, _, rfl, rfl, SqL.of hs, rfl, _, _, rfl, rfl, _, rfl, a, _, _, _, rfl, rfl, hs, rfl, ?_⟩
    -- if src[0] >= 10 ** 18
    refine ⟨_, rfl, a, _, _, _, rfl, rfl, SqL.of upd_same, rfl, _, _, rfl, rfl, ⟨by decide, by decide, by decide⟩, _, _, rfl, rfl, _, rfl, ?_⟩
    refine ite2 (fun _ => ?_) (fun _ => ?_)
    · refine ⟨_, rfl, a, _, _, _, rfl, rfl, SqL.of upd_same, rfl, .inl ⟨_, rfl, ?_⟩⟩
      refine ⟨_, rfl, _, _, rfl, rfl, by omega, ?_⟩
      refine ⟨_, rfl, a, _, _, _, rfl, rfl, SqL.of upd_same, rfl, _, rfl, _, _, rfl, rfl, ⟨by omega, by omega⟩, _, rfl, a, _, _, _, rfl, rfl, upd_same, rfl, ?_⟩
      refine ⟨_, rfl, k _ _ (mod_pos m0).1 (mod_pos m0).2 ⟨_, n + 1, upd_same, by omega, hc⟩ fun b o e nb => ?_⟩
      rw [upd_ne nb, upd_ne nb]
      exact e
    · -- mixed
      refine ⟨_, rfl, a, _, _, _, rfl, rfl, SqL.of upd_same, rfl, .inl ⟨_, rfl, ?_⟩⟩
      refine ⟨_, _, rfl, rfl, .inr ⟨by decide, by decide⟩, _, rfl, a, _, _, _, rfl, rfl, SqL.of upd_same, rfl, _, _, rfl, rfl, .inr ⟨by decide, by decide⟩, _, _, rfl, rfl, _, _, rfl, rfl, .inl ⟨_, rfl, ?_⟩⟩
      refine ⟨_, _, rfl, rfl, ⟨by decide, big_ok hc (by omega) (by omega) (by decide) (by decide)⟩, .inl ⟨_, rfl, _, _, rfl, rfl, (by show (2147483647 : Int) ≠ 0; decide), ?_⟩⟩
      refine ⟨_, rfl, _, rfl, a, _, _, _, rfl, rfl, SqL.of upd_same, rfl, _, rfl, a, _, _, _, rfl, rfl, SqL.of upd_same, rfl, _, _, rfl, rfl, .inr ⟨by omega, by omega⟩, _, _, rfl, rfl, .inr ⟨by decide, by decide⟩, _, _, rfl, rfl, .inl ⟨_, rfl, ?_⟩⟩
      have sq0 : 0 ≤ ((n : Int) + 1) * ((n : Int) + 1) := Int.mul_nonneg (by omega) (by omega)
      have sq1 : ((n : Int) + 1) * ((n : Int) + 1) ≤ 1000001 * 1000001 := Int.mul_le_mul (by omega) (by omega) (by omega) (by omega)
      have b1 := fun x : Int => mod_pos (x := x) (y := 2147483647) (by decide)
      refine ⟨_, _, rfl, rfl, ⟨by decide, small_ok ?_ ?_⟩, .inl ⟨_, rfl, _, _, rfl, rfl, (by show (2147483629 : Int) ≠ 0; decide), ?_⟩⟩
      · exact Int.add_nonneg (b1 _).1 (by omega)
      · refine Int.lt_of_lt_of_le (Int.add_lt_add_right (b1 _).2 _) (by omega)
      -- return mixed // 64 % limit
      refine ⟨_, rfl, _, _, rfl, rfl, ⟨by decide, by decide⟩, _, rfl, _, _, rfl, rfl, (by show m ≠ 0; omega), ?_⟩
      refine k _ _ (mod_pos m0).1 (mod_pos m0).2 ⟨_, n + 1, upd_same, by omega, hc⟩ fun b o e nb => ?_
      rw [upd_ne nb]
      exact e

/-! ### names -/
def isLet (c : Nat) : Bool := decide (97 ≤ c) && decide (c ≤ 122)
def isSgn (c : Nat) : Bool := isLet c || (decide (48 ≤ c) && decide (c ≤ 57))
def nmB : List Nat → Bool
  | [] => false
  | c :: r => isLet c && r.all isSgn && decide (r.length ≤ 11)
/-- a name -/
def Nm (z : Str) : Prop := nmB z.cps.toList = true
theorem toList_append (a b : Str) : (a ++ b).cps.toList = a.cps.toList ++ b.cps.toList := by
  rw [Str.cps_append, Array.toList_append]
theorem length_toList (a : Str) : a.cps.toList.length = a.length := by
  show a.cps.toList.length = a.cps.size
  exact Array.length_toList
abbrev letS : Str := Str.ofString "abcdefghijklmnopqrstuvwxyz"
abbrev digS : Str := Str.ofString "0123456789"
theorem let_all : letS.cps.toList.all isLet = true := by decide +kernel
theorem sgn_all : (letS ++ digS).cps.toList.all isSgn = true := by decide +kernel
theorem let_len : letS.cps.toList.length = 26 := by decide +kernel
theorem sgn_len : (letS ++ digS).cps.toList.length = 36 := by decide +kernel
theorem pick {l : List Nat} {p : Nat → Bool} {n : Nat} (all : l.all p = true) (len : l.length = n) {r : Int} (h0 : 0 ≤ r) (h1 : r < n) :
    ∃ c, atI l r = some c ∧ p c = true := by
  obtain ⟨j, rfl⟩ : ∃ j : Nat, r = j := ⟨r.toNat, by omega⟩
  have hj : j < l.length := by omega
  refine ⟨l[j], atI_nat (List.getElem?_eq_getElem hj), ?_⟩
  exact List.all_eq_true.mp all _ (List.getElem_mem hj)
def spName : Sp := fun vs H Q _ => ∃ (a : Addr) (c : Int) (m : Nat), vs = [.ref a] ∧ SrcAt H a c (m + 14) ∧
  ∀ (z : Str) (H' : Hp), Nm z → SrcAt H' a c m → Keep a H H' → Q (.str z) H'
theorem scN : FnScope ["_law_source_here", "_law_letters", "_law_size", "_law_found", "_law_k"] ["_law_source_here"] (defScope sName) :=
  ⟨rfl, rfl, rfl, by decide +kernel, rfl, by decide +kernel, by decide +kernel⟩
theorem nm_one {c : Nat} (h : isLet c = true) : Nm ⟨#[c]⟩ := by
  show nmB [c] = true
  simp [nmB, h]
theorem sgn_of_let {c : Nat} (h : isLet c = true) : isSgn c = true := by simp [isSgn, h]
theorem nm_sgns {l : List Nat} (h : nmB l = true) : l.all isSgn = true ∧ l.length ≤ 12 ∧ 1 ≤ l.length := by
  cases l with
  | nil => cases h
  | cons c r =>
    simp only [nmB, Bool.and_eq_true, decide_eq_true_eq] at h
    refine ⟨?_, by simp; omega, by simp⟩
    simp only [List.all_cons, Bool.and_eq_true]
    exact ⟨sgn_of_let h.1.1, h.1.2⟩
theorem nm_tail {z : Str} (h : Nm z) : Nm (Str.ofString "m" ++ cutS z (some 1) none) := by
  obtain ⟨h1, h2, h3⟩ := nm_sgns h
  have e1 : (Str.ofString "m").cps.toList = [109] := by decide +kernel
  show nmB (Str.ofString "m" ++ cutS z (some 1) none).cps.toList = true
  rw [toList_append, e1]
  have e2 : (cutS z (some 1) none).cps.toList = (z.cps.toList.drop (min 1 z.length)).take (z.length - min 1 z.length) := by
    have e3 : HT.sIx z.length 0 (some 1) = min 1 z.length := HT.sIx_nat z.length 0 1
    unfold cutS
    rw [e3, HT.sIx_none]
  rw [e2]
  have l1 := length_toList z
  simp only [List.cons_append, List.nil_append, nmB, Bool.and_eq_true, decide_eq_true_eq]
  refine ⟨⟨by decide, ?_⟩, ?_⟩
  · rw [List.all_eq_true] at h1 ⊢
    exact fun x hx => h1 x (List.mem_of_mem_drop (List.mem_of_mem_take hx))
  · rw [List.length_take, List.length_drop]
    omega
theorem ok_name {f fD : Addr} {fd fdD : FuncData} (F : Fun K "_law_name" "_law_name" sName f fd) (FD : Fun K "_law_draw" "_law_draw" sDraw fD fdD)
    (bD : Binds K fdD ["_law_source_here", "_law_limit"] []) (mi : mg "int" = none) (mD : mg "_law_draw" = some (.ref fD)) (mr : mg "range" = none) :
    FnOk P w K mg base CX0 2 f fd ["_law_source_here"] spName := by
  have GD : FnOk P w K mg base CX0 1 fD fdD ["_law_source_here", "_law_limit"] spDraw := ok_draw FD mi
  refine F.ok scN (fun vs H Q E h => ?_) (fun cdv A outer s H vs Q E hr h => ?_)
  · obtain ⟨a, c, m, rfl, _⟩ := h
    rfl
  · obtain ⟨a, c, m, rfl, hs, k⟩ := h
    have hr1 : Room 1 _ := hr.mono (by decide)
    refine ⟨_, pss_cons (ps_set (i := 1) scN.nd rfl (Or.inl rfl) pe_str)
      (pss_cons (ps_set (i := 2) scN.nd rfl (Or.inl rfl) (pe_ix ix_list (pe_lst (pa_cons pe_int (pa_cons pe_int (pa_cons pe_int (pa_cons pe_int (pa_cons pe_int (pa_cons pe_int (pa_cons pe_int pa_nil)))))))) (pe_call GD hr1 (by rfl) mD FD.kp bD .nil pass0 (pa_cons (pv 0) (pa_cons pe_int pa_nil))) (fun _ _ => rfl)))
      (pss_cons (ps_set (i := 3) scN.nd rfl (Or.inl rfl) (pe_ix ix_str (pv 1) (pe_call GD hr1 (by rfl) mD FD.kp bD .nil pass0 (pa_cons (pv 0) (pa_cons pe_int pa_nil))) (fun _ _ => rfl)))
      (pss_cons (ps_for PassesOwn.never rfl (pi_range1 rfl mr (pa_cons (pv 2) pa_nil)) (pg_name (i := 4) scN.nd rfl (Or.inl rfl))
        (pss_one (ps_set (i := 3) scN.nd rfl (Or.inl rfl) (pe_op op_add_str (pv 3) (pe_ix ix_str (pe_op op_add_str (pv 1) pe_str) (pe_call GD hr1 (by rfl) mD FD.kp bD .nil pass0 (pa_cons (pv 0) (pa_cons pe_int pa_nil))) (fun _ _ => rfl))))))
      (pss_one (ps_ret (pe_ifExp (pt_cmpR op_ne (pe_slice sl_str (pv 3) po_none (po_some pe_int)) pe_str (nomark _)) (pv 3)
        (pe_op op_add_str pe_str (pe_slice sl_str (pv 3) (po_some pe_int) po_none)))))))), ?_⟩
    -- size
    refine ⟨(by show 7 ≤ sizeLine; decide), fun p1 n1 => ?_⟩
    have u1 := same_new (o := .lst [V.int 0, V.int 0, V.int 1, V.int 2, V.int 3, V.int 5, V.int 11]) n1
    have z1 := hs.ne n1
    refine ⟨_, rfl, a, c, m + 13, 7, rfl, hs.same u1, by decide, by decide, fun r1 H1 r10 r11 s1 k1 => ?_⟩
    have hl := k1 _ _ upd_same z1
    have size : ∃ sz : Nat, atI [V.int 0, V.int 0, V.int 1, V.int 2, V.int 3, V.int 5, V.int 11] r1 = some (.int sz) ∧ sz ≤ 11 := by
      obtain ⟨j, rfl⟩ : ∃ j : Nat, r1 = j := ⟨r1.toNat, by omega⟩
      have hj : j = 0 ∨ j = 1 ∨ j = 2 ∨ j = 3 ∨ j = 4 ∨ j = 5 ∨ j = 6 := by omega
      rcases hj with rfl | rfl | rfl | rfl | rfl | rfl | rfl
      · exact ⟨0, atI_nat (j := 0) rfl, by decide⟩
      · exact ⟨0, atI_nat (j := 1) rfl, by decide⟩
      · exact ⟨1, atI_nat (j := 2) rfl, by decide⟩
      · exact ⟨2, atI_nat (j := 3) rfl, by decide⟩
      · exact ⟨3, atI_nat (j := 4) rfl, by decide⟩
      · exact ⟨5, atI_nat (j := 5) rfl, by decide⟩
      · exact ⟨11, atI_nat (j := 6) rfl, by decide⟩
    obtain ⟨sz, esz, hsz⟩ := size
    refine ⟨p1, _, _, _, rfl, rfl, SqL.of hl, esz, ?_⟩
    -- found
    refine ⟨_, rfl, _, rfl, a, c, m + 12, 26, rfl, s1, by decide, by decide, fun r2 H2 r20 r21 s2 k2 => ?_⟩
    obtain ⟨c0, ec0, lc0⟩ := pick let_all let_len r20 r21
    refine ⟨_, _, _, rfl, rfl, (by decide +kernel), ec0, ?_⟩
    -- the loop
    refine ⟨_, rfl, _, rfl, by omega, by omega, for_range (lo := 0) (n := (sz : Int).toNat) (fun i σ H3 => ∃ (z : Str) (v : Option V), σ = [some (.ref a), some (.str letS), some (.int sz), some (.str z), v] ∧
      nmB z.cps.toList = true ∧ z.cps.toList.length = i + 1 ∧ SrcAt H3 a c (m + 12 - i) ∧ Keep a H H3) ⟨_, none, rfl, nm_one lc0, rfl, s2, ((Keep.of u1).trans k1).trans k2⟩ ?_ ?_⟩
    · rintro i σ H3 hi ⟨z, v, rfl, hz, lz, s3, k3⟩
      rw [Int.toNat_natCast] at hi
      have lz2 := length_toList z
      refine ⟨_, rfl, _, rfl, _, _, rfl, rfl, (by decide +kernel), ?_⟩
      have s3' : SrcAt H3 a c (m + 12 - (i + 1) + 1) := s3.mono (by omega)
      refine ⟨_, rfl, a, c, m + 12 - (i + 1), 36, rfl, s3', by decide, by decide, fun r4 H4 r40 r41 s4 k4 => ?_⟩
      obtain ⟨c4, ec4, lc4⟩ := pick sgn_all sgn_len r40 r41
      refine ⟨_, _, _, rfl, rfl, (by decide +kernel), ec4, ?_⟩
      refine ⟨_, _, rfl, rfl, ?_, ?_⟩
      · have e1 : (⟨#[c4]⟩ : Str).length = 1 := rfl
        rw [e1, sizeLine_eq]
        omega
      · refine ⟨_, _, rfl, ?_, ?_, s4, k3.trans k4⟩
        · rw [toList_append]
          cases hz2 : z.cps.toList with
          | nil =>
            rw [hz2] at hz
            cases hz
          | cons x xs =>
            rw [hz2] at hz lz
            simp only [nmB, Bool.and_eq_true, decide_eq_true_eq] at hz
            show nmB (x :: (xs ++ [c4])) = true
            simp only [List.length_cons] at lz
            simp only [nmB, List.all_append, List.length_append, Bool.and_eq_true, decide_eq_true_eq]
            refine ⟨⟨hz.1.1, hz.1.2, by simp [lc4]⟩, ?_⟩
            show xs.length + 1 ≤ 11
            omega
        · rw [toList_append, List.length_append, lz]
          rfl
    · rintro σ H3 ⟨z, v, rfl, hz, lz, s3, k3⟩
      rw [Int.toNat_natCast] at s3 lz
      have s3' : SrcAt H3 a c m := s3.mono (by omega)
      obtain ⟨_, l12, _⟩ := nm_sgns hz
      have lz2 := length_toList z
      have lzs : z.length ≤ sizeLine := by rw [sizeLine_eq]; omega
      refine ⟨_, rfl, 3, rfl, z, rfl, lzs, rfl, _, rfl, ?_⟩
      refine ite2 (fun _ => ?_) (fun _ => ?_)
      · exact ⟨_, rfl, k z H3 hz s3' k3⟩
      · refine ⟨_, rfl, 1, rfl, z, rfl, lzs, _, _, rfl, rfl, ?_, k _ H3 (nm_tail hz) s3' k3⟩
        have e1 : (Str.ofString "m").length = 1 := by decide +kernel
        have e2 : (cutS z (some 1) none).length ≤ z.length := by
          rw [← length_toList, ← length_toList]
          unfold cutS
          show ((z.cps.toList.drop _).take _).length ≤ _
          rw [List.length_take, List.length_drop]
          omega
        rw [e1, sizeLine_eq]
        omega
end
end L2.LawH
set_option Elab.async false
set_option linter.all false
set_option maxRecDepth 100000
set_option maxHeartbeats 4000000
/-! The helpers of the laws: lists of names. -/
namespace L2.LawH
open PySem PySem.Spec PyProof.Rows
open Builtin.Int (intBits)
abbrev sNames : Stmt := top 15
theorem nodup_len {α : Type} [DecidableEq α] : ∀ (l D : List α), l.Nodup → (∀ x ∈ l, x ∈ D) → l.length ≤ D.length
  | [], _, _, _ => Nat.zero_le _
  | x :: l, D, nd, h => by
    obtain ⟨n1, n2⟩ := List.nodup_cons.mp nd
    have hx := h x List.mem_cons_self
    have ih := nodup_len l (D.erase x) n2 fun y hy => by
      have ne : y ≠ x := fun z => n1 (by rw [← z]; exact hy)
      exact (List.mem_erase_of_ne ne).mpr (h y (List.mem_cons_of_mem _ hy))
    have e := List.length_erase_of_mem hx
    have pos : 0 < D.length := List.length_pos_of_mem hx
    rw [List.length_cons]
    omega
theorem op_notInK {X : Cx} {K : PySem.W.Frag} (e : X.K = K) : OpR X (compareOp .NotIn) (rIn K true) := by
  subst e
  exact op_notIn_seq
theorem inV_strs (q : Str) : ∀ L : List Str, inV (.str q) (L.map V.str) = decide (q ∈ L)
  | [] => by simp [inV]
  | x :: L => by
    have ih := inV_strs q L
    unfold inV at ih ⊢
    rw [List.map_cons, List.any_cons, ih]
    by_cases h : x = q
    · subst h
      simp [eqV]
    · have h' : ¬ q = x := fun z => h z.symm
      simp [eqV, h, h']
theorem flat_strs : ∀ L : List Str, (L.map V.str).all flatV = true
  | [] => rfl
  | _ :: L => by
    rw [List.map_cons, List.all_cons, flat_strs L]
    rfl
def qn (j : Nat) : Str := Str.ofString "q" ++ (toString (j : Int) : String)
theorem qn_ok : ((List.range 10).all fun j => nmB (qn j).cps.toList && decide ((qn j).length ≤ 3)) = true := by decide +kernel
theorem qn_nd : ((List.range 10).map qn).Nodup := by decide +kernel
def qs (n : Nat) : List Str := (List.range n).map qn
theorem qs_nd {n : Nat} (h : n ≤ 10) : (qs n).Nodup := by
  have e : qs n = ((List.range 10).map qn).take n := by
    unfold qs
    rw [← List.map_take, List.take_range, Nat.min_eq_left h]
  rw [e]
  exact qn_nd.sublist (List.take_sublist _ _)
theorem qs_len (n : Nat) : (qs n).length = n := by simp [qs]
theorem qs_get {n i : Nat} (h : i < n) : (qs n)[i]? = some (qn i) := by simp [qs, h]
theorem qs_nm {n : Nat} (h : n ≤ 10) {q : Str} (hq : q ∈ qs n) : Nm q := by
  obtain ⟨j, hj, rfl⟩ := List.mem_map.mp hq
  have h2 := List.all_eq_true.mp qn_ok j (List.mem_range.mpr (Nat.lt_of_lt_of_le (List.mem_range.mp hj) h))
  exact (Bool.and_eq_true_iff.mp h2).1
theorem qn_len {j : Nat} (h : j < 10) : (qn j).length ≤ 3 := by
  have h2 := List.all_eq_true.mp qn_ok j (List.mem_range.mpr h)
  exact of_decide_eq_true (Bool.and_eq_true_iff.mp h2).2
def free (L : List Str) (q : Str) : Bool := !decide (q ∈ L)
theorem some_free {L : List Str} {n : Nat} (h : n ≤ 10) (hl : L.length < n) : ∃ q r, (qs n).filter (free L) = q :: r ∧ Nm q ∧ q ∉ L := by
  cases e : (qs n).filter (free L) with
  | nil =>
    exfalso
    have all : ∀ q ∈ qs n, q ∈ L := by
      intro q hq
      have z := List.filter_eq_nil_iff.mp e q hq
      simpa [free] using z
    have := nodup_len _ _ (qs_nd h) all
    rw [qs_len] at this
    omega
  | cons q r =>
    have hm : q ∈ (qs n).filter (free L) := by
      rw [e]
      exact List.mem_cons_self
    obtain ⟨h1, h2⟩ := List.mem_filter.mp hm
    exact ⟨q, r, rfl, qs_nm h h1, by simpa [free] using h2⟩
theorem Keep.upd_new {a p : Addr} {H H' : Hp} {o : HO} (k : Keep a H H') (n : H p = none) : Keep a H (upd H' p o) := fun b u e nb => by
  rw [upd_ne (ne_of_none e n)]
  exact k b u e nb

def spNames : Sp := fun vs H Q _ => ∃ (a : Addr) (c : Int) (m cn : Nat), vs = [.ref a, .int cn] ∧ cn ≤ 9 ∧ SrcAt H a c (m + 14 * cn) ∧
  ∀ (p : Addr) (L : List Str) (H' : Hp), L.length = cn → (∀ z ∈ L, Nm z) → L.Nodup → H p = none → H' p = some (.lst (L.map V.str)) → SrcAt H' a c m → Keep a H H' → Q (.ref p) H'
section
variable {P : Program} {w : World} {K : PySem.W.Frag} {mg : Str → Option Value} {base : Heap}
abbrev nNames : List Str := ["_law_source_here", "_law_many", "_law_found", "_law_k", "_law_name_here", "_law_spare", "_law_one", "_law_j"]
theorem scNs : FnScope nNames ["_law_source_here", "_law_many"] (defScope sNames) := ⟨rfl, rfl, rfl, by decide +kernel, rfl, by decide +kernel, by decide +kernel⟩
theorem ok_names {f fN : Addr} {fd fdN : FuncData} (F : Fun K "_law_names" "_law_names" sNames f fd) (GN : FnOk P w K mg base CX0 2 fN fdN ["_law_source_here"] spName)
    (kN : PySem.W.keepIn K (.ref fN) = true) (bN : Binds K fdN ["_law_source_here"] []) (mN : mg "_law_name" = some (.ref fN)) (mr : mg "range" = none) (ms : mg "str" = none) :
    FnOk P w K mg base CX0 3 f fd ["_law_source_here", "_law_many"] spNames := by
  refine F.ok scNs (fun vs H Q E h => ?_) (fun cdv A outer s H vs Q E hr h => ?_)
  · obtain ⟨a, c, m, cn, rfl, _⟩ := h
    rfl
  · obtain ⟨a, c, m, cn, rfl, hcn, hs, k⟩ := h
    have hr2 : Room 2 _ := hr.mono (by decide)
    refine ⟨_, pss_cons (ps_set (i := 2) scNs.nd rfl (Or.inr rfl) (pe_lst pa_nil))
      (pss_cons (ps_for PassesOwn.never rfl (pi_range1 rfl mr (pa_cons (pv 1) pa_nil)) (pg_name (i := 3) scNs.nd rfl (Or.inl rfl))
        (pss_cons (ps_set (i := 4) scNs.nd rfl (Or.inl rfl) (pe_call GN hr2 (by rfl) mN kN bN .nil pass0 (pa_cons (pv 0) pa_nil)))
        (pss_cons (ps_setLc (i := 5) (own := [("_law_one", 6)]) (g := gName 6) (tt := tTest (tOp (rIn K true) (tVar 6) (tVar 2))) rfl scNs.nd rfl rfl (sw_true rfl rfl rfl (by decide +kernel))
            (pi_list (pe_lc (own := [("_law_j", 7)]) (g := gName 7) (tt := tYes) rfl scNs.nd (pi_range1 rfl mr (pa_cons (pe_op op_add (pv 1) pe_int) pa_nil))
              (blkOk_by (own := [("_law_j", 7)]) (N := nNames) (sc := defScope sNames) (by decide +kernel))
              (fun _ _ _ _ _ => pg_name (i := 7) scNs.nd rfl (Or.inl rfl)) (fun _ _ _ _ _ => pts_nil)
              (fun _ _ _ _ _ => pe_op op_add_str pe_str (pe_callTy call_str_int (by rfl) ms (by decide +kernel) (pa_cons (pv 7) pa_nil)))))
            (blkOk_by (own := [("_law_one", 6)]) (N := nNames) (sc := defScope sNames) (by decide +kernel))
            (fun _ _ _ _ _ => pg_name (i := 6) scNs.nd rfl (Or.inl rfl)) (fun _ _ _ _ _ => pts_one (pt_cmpR (op_notInK rfl) (pv 6) (pv 2) (by rfl))) (fun _ _ _ _ _ => pv 6))
        (pss_one (ps_expr (pe_bm PySem.F.plainAttrs_list PySem.F.slot_list_append PySem.F.type_list_append mt_append (pv 2)
          (pa_cons (pe_ifExp (pt_cmpR op_notIn_seq (pv 4) (pv 2) (by rfl)) (pv 4) (pe_ix ix_list (pv 5) pe_int (fun _ _ => rfl))) pa_nil)))))))
      (pss_one (ps_ret (pv 2)))), ?_⟩
    refine ⟨(by show 0 ≤ sizeLine; decide), fun p np => ?_⟩
    have pa := hs.ne np
    refine ⟨_, rfl, _, rfl, by omega, by omega, for_range (lo := 0) (n := (cn : Int).toNat) (fun i σ H3 => ∃ (L : List Str) (v3 v4 v5 v6 v7 : Option V), σ = [some (.ref a), some (.int cn), some (.ref p), v3, v4, v5, v6, v7] ∧
      L.length = i ∧ (∀ z ∈ L, Nm z) ∧ L.Nodup ∧ H3 p = some (.lst (L.map V.str)) ∧ SrcAt H3 a c (m + 14 * (cn - i)) ∧ Keep a H H3)
      ⟨[], none, none, none, none, none, rfl, rfl, fun _ z => (by cases z), List.nodup_nil, upd_same, (hs.same (same_new np)).mono (by omega), Keep.of (same_new np)⟩ ?_ ?_⟩
    · rintro i σ H3 hi ⟨L, v3, v4, v5, v6, v7, rfl, hl, hnm, hnd, h3, s3, k3⟩
      rw [Int.toNat_natCast] at hi
      -- name_here
      have s3' : SrcAt H3 a c (m + 14 * (cn - (i + 1)) + 14) := s3.mono (by omega)
      refine ⟨_, rfl, a, c, m + 14 * (cn - (i + 1)), rfl, s3', fun z H4 nz s4 k4 => ?_⟩
      have h4 := k4 _ _ h3 pa
      -- spare: the inner list
      refine ⟨_, rfl, _, _, rfl, rfl, _, rfl, by omega, by omega, fun D nD => ?_⟩
      have tn : ((cn : Int) + 1).toNat = cn + 1 := by omega
      rw [tn]
      refine lc_range (lo := 0) (n := cn + 1) (fun j H5 => Same H4 H5 ∧ H5 D = some (.lst (((qs (cn + 1)).take j).map V.str))) ⟨same_new nD, upd_same⟩ ?_ ?_
      · rintro j H5 hj ⟨s5, hD⟩
        refine ⟨rfl, ?_⟩
        dsimp only [tYes]
        rw [if_pos rfl]
        have e0 : (0 : Int) + (j : Int) = (j : Int) := by omega
        rw [e0]
        have sz : (toString (j : Int) : String) = toString (j : Int) := rfl
        have l3 : (Str.ofString "q" ++ ((toString (j : Int) : String) : Str)).length ≤ 3 := qn_len (j := j) (by omega)
        have lsum : (Str.ofString "q").length + ((toString (j : Int) : String) : Str).length ≤ sizeLine := by
          have e1 : (Str.ofString "q" ++ ((toString (j : Int) : String) : Str)).length = (Str.ofString "q").length + ((toString (j : Int) : String) : Str).length := by
            rw [← length_toList, toList_append, List.length_append, length_toList, length_toList]
          rw [e1] at l3
          rw [sizeLine_eq]
          omega
        have lg : ((j : Int)).natAbs.log2 < 1920 := by
          have : ((j : Int)).natAbs < 2 ^ 11 := by
            have e2 : (2 : Nat) ^ 11 = 2048 := by decide
            rw [e2]
            omega
          have h9 : ((j : Int)).natAbs.log2 ≤ 11 := by
            by_cases z : ((j : Int)).natAbs = 0
            · rw [z]
              decide
            · exact Nat.le_of_lt ((Nat.log2_lt z).mpr this)
          omega
        refine ⟨_, rfl, _, rfl, lg, _, _, rfl, rfl, lsum, _, hD, ?_, fun b o e => ?_, ?_⟩
        · rw [List.length_map, List.length_take, qs_len]
          refine Nat.lt_of_le_of_lt (Nat.min_le_right _ _) ?_
          rw [sizeLine_eq]
          omega
        · rw [upd_ne (ne_of_none e nD)]
          exact s5 b o e
        · rw [upd_same, List.take_add_one, qs_get hj]
          simp [qn]
      · rintro H5 ⟨s5, hD⟩
        have hD' : H5 D = some (.lst ((qs (cn + 1)).map V.str)) := by
          rw [hD, List.take_of_length_le (by rw [qs_len]; exact Nat.le_refl _)]
        have h5 := s5 _ _ h4
        -- spare: the outer list
        refine ⟨D, rfl, ⟨_, SqL.of hD'⟩, fun D2 nD2 => ?_⟩
        refine lc_list (K := K) (a := D) (xs := (qs (cn + 1)).map V.str) (fun j H6 => Same H5 H6 ∧ H6 D2 = some (.lst ((((qs (cn + 1)).take j).filter (free L)).map V.str)))
          ⟨same_new nD2, upd_same⟩ (fun j H6 _ h6 => h6.1.seq (SqL.of hD')) ?_ ?_
        · rintro j v H6 hj ⟨s6, hD2⟩
          rw [List.getElem?_map] at hj
          cases eb : (qs (cn + 1))[j]? with
          | none =>
            rw [eb] at hj
            cases hj
          | some q =>
            rw [eb] at hj
            cases hj
            have h6 := s6 _ _ h5
            refine ⟨rfl, _, rfl, _, rfl, p, _, rfl, .inl (SqL.of h6), rfl, flat_strs L, _, rfl, ?_⟩
            rw [List.take_add_one, eb, List.filter_append]
            have e2 : (if true = true then !inV (V.str q) (L.map V.str) else inV (V.str q) (L.map V.str)) = free L q := by
              rw [if_pos rfl, inV_strs]
              rfl
            rw [e2]
            cases ef : free L q with
            | true =>
              refine iteT ?_
              refine ⟨_, rfl, _, hD2, ?_, fun b o e => ?_, ?_⟩
              · rw [List.length_map]
                refine Nat.lt_of_le_of_lt (List.length_filter_le _ _) ?_
                rw [List.length_take, qs_len, sizeLine_eq]
                omega
              · rw [upd_ne (ne_of_none e nD2)]
                exact s6 b o e
              · rw [upd_same]
                simp [ef]
            | false =>
              refine iteF ?_
              refine ⟨s6, ?_⟩
              rw [hD2]
              simp [ef]
        · rintro H6 ⟨s6, hD2⟩
          have hD2' : H6 D2 = some (.lst (((qs (cn + 1)).filter (free L)).map V.str)) := by
            rw [hD2, List.length_map, List.take_of_length_le (Nat.le_refl _)]
          have h6 := s6 _ _ h5
          have s46 : Same H4 H6 := s5.trans s6
          -- found.append(..)
          obtain ⟨q, r, eq, nq, fq⟩ := some_free (L := L) (n := cn + 1) (by omega) (by omega)
          refine ⟨_, rfl, .inl ⟨rfl, _, .inl (.inl h6)⟩, ?_⟩
          refine ⟨_, rfl, _, rfl, p, _, rfl, .inl (SqL.of h6), rfl, flat_strs L, _, rfl, ?_⟩
          have e2 : (if true = true then !inV (V.str z) (L.map V.str) else inV (V.str z) (L.map V.str)) = free L z := by
            rw [if_pos rfl, inV_strs]
            rfl
          rw [e2]
          have few : (L.map V.str).length < sizeLine := by
            rw [List.length_map, sizeLine_eq]
            omega
          have fin : ∀ t : Str, Nm t → t ∉ L → ∃ (L' : List Str) (w3 w4 w5 w6 w7 : Option V), [some (.ref a), some (.int cn), some (.ref p), some (V.int (0 + (i : Int))), some (.str z), some (.ref D2), v6, v7] = [some (.ref a), some (.int cn), some (.ref p), w3, w4, w5, w6, w7] ∧
              L'.length = i + 1 ∧ (∀ z ∈ L', Nm z) ∧ L'.Nodup ∧ (upd H6 p (.lst (L.map V.str ++ [V.str t]))) p = some (.lst (L'.map V.str)) ∧ SrcAt (upd H6 p (.lst (L.map V.str ++ [V.str t]))) a c (m + 14 * (cn - (i + 1))) ∧ Keep a H (upd H6 p (.lst (L.map V.str ++ [V.str t]))) := by
            intro t nt ft
            refine ⟨L ++ [t], _, _, _, _, _, rfl, by simp [hl], fun y hy => ?_, ?_, by rw [upd_same]; simp, ?_, ?_⟩
            · rcases List.mem_append.mp hy with hy | hy
              · exact hnm y hy
              · have : y = t := by simpa using hy
                rw [this]
                exact nt
            · rw [List.nodup_append]
              refine ⟨hnd, by simp, fun x hx y hy e => ?_⟩
              have : y = t := by simpa using hy
              rw [e, this] at hx
              exact ft hx
            · obtain ⟨d, n, e, g⟩ := s4.same s46
              exact ⟨d, n, by rw [upd_ne pa.symm]; exact e, g⟩
            · exact ((k3.trans k4).trans (Keep.of s46)).upd_new np
          cases ef : free L z with
          | true =>
            refine iteT ?_
            refine ⟨_, rfl, p, _, _, rfl, rfl, h6, few, ?_⟩
            exact fin z nz (by simpa [free] using ef)
          | false =>
            refine iteF ?_
            refine ⟨_, rfl, D2, _, 0, .str q, rfl, rfl, SqL.of hD2', ?_, p, _, _, rfl, rfl, h6, few, ?_⟩
            · rw [eq]
              exact atI_nat (j := 0) rfl
            · exact fin q nq fq
    · rintro σ H3 ⟨L, v3, v4, v5, v6, v7, rfl, hl, hnm, hnd, h3, s3, k3⟩
      rw [Int.toNat_natCast] at hl
      exact ⟨_, rfl, k p L H3 hl hnm hnd np h3 (s3.mono (by omega)) k3⟩
end
end L2.LawH
set_option Elab.async false
set_option linter.all false
set_option maxRecDepth 100000
set_option maxHeartbeats 4000000
/-! The helpers of the laws: the pool of tables, constants and variables. -/
namespace L2.LawH
open PySem PySem.Spec PyProof.Rows
open Builtin.Int (intBits)
abbrev sPool : Stmt := top 16
theorem ix_listK {X : Cx} {K : PySem.W.Frag} (e : X.K = K) : IxR X (rIxL K) := by
  subst e
  exact ix_list
/-- a variable -/
def Vr (z : Str) : Prop := ∃ y : Str, Nm y ∧ z = Str.ofString "?" ++ y
structure Pool where
  (r cs vs : Addr)
  rows : List (Addr × Str × Nat)
  (C W : List Str)
structure PoolAt (a : Addr) (H : Hp) (p : Addr) (π : Pool) : Prop where
  hp : H p = some (.lst [.ref π.r, .ref π.cs, .ref π.vs])
  hr : H π.r = some (.lst (π.rows.map fun x => V.ref x.1))
  hrow : ∀ x ∈ π.rows, H x.1 = some (.tup [.str x.2.1, .int (x.2.2 : Nat)]) ∧ Nm x.2.1 ∧ x.2.2 ≤ 3 ∧ x.1 ≠ a
  rows1 : 1 ≤ π.rows.length
  rows9 : π.rows.length ≤ 9
  hc : H π.cs = some (.lst (π.C.map V.str))
  nC : ∀ z ∈ π.C, Nm z
  C2 : 2 ≤ π.C.length
  C9 : π.C.length ≤ 9
  hv : H π.vs = some (.lst (π.W.map V.str))
  nW : ∀ z ∈ π.W, Vr z
  W9 : π.W.length = 9
  np : p ≠ a
  nr : π.r ≠ a
  nc : π.cs ≠ a
  nv : π.vs ≠ a
theorem PoolAt.keep {a : Addr} {H H' : Hp} {p : Addr} {π : Pool} (h : PoolAt a H p π) (k : Keep a H H') : PoolAt a H' p π :=
  ⟨k _ _ h.hp h.np, k _ _ h.hr h.nr, fun x hx => let ⟨h1, h2, h3, h4⟩ := h.hrow x hx; ⟨k _ _ h1 h4, h2, h3, h4⟩, h.rows1, h.rows9, k _ _ h.hc h.nc, h.nC, h.C2, h.C9, k _ _ h.hv h.nv, h.nW, h.W9, h.np, h.nr, h.nc, h.nv⟩
def spPool : Sp := fun vs H Q _ => ∃ (a : Addr) (c : Int) (m : Nat), vs = [.ref a] ∧ SrcAt H a c (m + 300) ∧
  ∀ (p : Addr) (π : Pool) (H' : Hp), PoolAt a H' p π → SrcAt H' a c m → Keep a H H' → Q (.ref p) H'
section
variable {P : Program} {w : World} {K : PySem.W.Frag} {mg : Str → Option Value} {base : Heap}
abbrev nPool : List Str := ["_law_source_here", "_law_tables", "_law_sizes", "_law_constants", "_law_variables_here", "_law_rows", "_law_k", "_law_name_here"]
theorem scP : FnScope nPool ["_law_source_here"] (defScope sPool) := ⟨rfl, rfl, rfl, by decide +kernel, rfl, by decide +kernel, by decide +kernel⟩
theorem menu8 {r : Int} (h0 : 0 ≤ r) (h1 : r < 8) : ∃ n : Nat, atI [V.int 2, V.int 1, V.int 2, V.int 3, V.int 2, V.int 0, V.int 1, V.int 2] r = some (.int n) ∧ n ≤ 3 := by
  obtain ⟨j, rfl⟩ : ∃ j : Nat, r = j := ⟨r.toNat, by omega⟩
  have hj : j = 0 ∨ j = 1 ∨ j = 2 ∨ j = 3 ∨ j = 4 ∨ j = 5 ∨ j = 6 ∨ j = 7 := by omega
  rcases hj with rfl | rfl | rfl | rfl | rfl | rfl | rfl | rfl
  · exact ⟨2, atI_nat (j := 0) rfl, by decide⟩
  · exact ⟨1, atI_nat (j := 1) rfl, by decide⟩
  · exact ⟨2, atI_nat (j := 2) rfl, by decide⟩
  · exact ⟨3, atI_nat (j := 3) rfl, by decide⟩
  · exact ⟨2, atI_nat (j := 4) rfl, by decide⟩
  · exact ⟨0, atI_nat (j := 5) rfl, by decide⟩
  · exact ⟨1, atI_nat (j := 6) rfl, by decide⟩
  · exact ⟨2, atI_nat (j := 7) rfl, by decide⟩
theorem menu4 {r : Int} (h0 : 0 ≤ r) (h1 : r < 4) : ∃ n : Nat, atI [V.int 1, V.int 3, V.int 0, V.int 1] r = some (.int n) ∧ n ≤ 3 := by
  obtain ⟨j, rfl⟩ : ∃ j : Nat, r = j := ⟨r.toNat, by omega⟩
  have hj : j = 0 ∨ j = 1 ∨ j = 2 ∨ j = 3 := by omega
  rcases hj with rfl | rfl | rfl | rfl
  · exact ⟨1, atI_nat (j := 0) rfl, by decide⟩
  · exact ⟨3, atI_nat (j := 1) rfl, by decide⟩
  · exact ⟨0, atI_nat (j := 2) rfl, by decide⟩
  · exact ⟨1, atI_nat (j := 3) rfl, by decide⟩
theorem ints_get {Z : List Nat} {i : Nat} (h : i < Z.length) : (Z.map fun n : Nat => V.int (n : Int))[i]? = some (.int (Z[i] : Nat)) := by
  rw [List.getElem?_map, List.getElem?_eq_getElem h]
  rfl
theorem strs_get {L : List Str} {i : Nat} (h : i < L.length) : (L.map V.str)[i]? = some (.str L[i]) := by
  rw [List.getElem?_map, List.getElem?_eq_getElem h]
  rfl
theorem ok_pool {f fD fS : Addr} {fd fdD fdS : FuncData} (F : Fun K "_law_pool" "_law_pool" sPool f fd)
    (GD : FnOk P w K mg base CX0 1 fD fdD ["_law_source_here", "_law_limit"] spDraw) (kD : PySem.W.keepIn K (.ref fD) = true) (bD : Binds K fdD ["_law_source_here", "_law_limit"] []) (mD : mg "_law_draw" = some (.ref fD))
    (GS : FnOk P w K mg base CX0 3 fS fdS ["_law_source_here", "_law_many"] spNames) (kS : PySem.W.keepIn K (.ref fS) = true) (bS : Binds K fdS ["_law_source_here", "_law_many"] []) (mS : mg "_law_names" = some (.ref fS))
    (mr : mg "range" = none) (ml : mg "len" = none) :
    FnOk P w K mg base CX0 4 f fd ["_law_source_here"] spPool := by
  refine F.ok scP (fun vs H Q E h => ?_) (fun cdv A outer s H vs Q E hr h => ?_)
  · obtain ⟨a, c, m, rfl, _⟩ := h
    rfl
  · obtain ⟨a, c, m, rfl, hs, k⟩ := h
    have hr1 : Room 1 _ := hr.mono (by decide)
    refine ⟨_, pss_cons (ps_set (i := 1) scP.nd rfl (Or.inr rfl) (pe_call GS hr (by rfl) mS kS bS .nil pass0 (pa_cons (pv 0) (pa_cons (pe_op op_add pe_int (pe_call GD hr1 (by rfl) mD kD bD .nil pass0 (pa_cons (pv 0) (pa_cons pe_int pa_nil)))) pa_nil))))
      (pss_cons (ps_set (i := 2) scP.nd rfl (Or.inr rfl) (pe_op op_cat (pe_lst (pa_cons pe_int pa_nil))
        (pe_lc (own := [("_law_k", 6)]) (g := gName 6) (tt := tYes) rfl scP.nd (pi_range1 (by rfl) mr (pa_cons (pe_op op_sub (pe_callB call_len_seq (by rfl) ml (by decide +kernel) (pa_cons (pv 1) pa_nil)) pe_int) pa_nil))
          (blkOk_by (own := [("_law_k", 6)]) (N := nPool) (sc := defScope sPool) (by decide +kernel)) (fun _ _ _ _ _ => pg_name (i := 6) scP.nd rfl (Or.inl rfl)) (fun _ _ _ _ _ => pts_nil)
          (fun _ _ _ _ _ => pe_ix (ix_listK rfl) (pe_lst (pa_cons pe_int (pa_cons pe_int (pa_cons pe_int (pa_cons pe_int (pa_cons pe_int (pa_cons pe_int (pa_cons pe_int (pa_cons pe_int pa_nil))))))))) (pe_call GD hr1 (by rfl) mD kD bD .nil pass0 (pa_cons (pv 0) (pa_cons pe_int pa_nil))) (fun _ _ => rfl)))))
      (pss_cons (ps_set (i := 3) scP.nd rfl (Or.inl rfl) (pe_call GS hr (by rfl) mS kS bS .nil pass0 (pa_cons (pv 0) (pa_cons (pe_op op_add pe_int (pe_call GD hr1 (by rfl) mD kD bD .nil pass0 (pa_cons (pv 0) (pa_cons pe_int pa_nil)))) pa_nil))))
      (pss_cons (ps_setLc (i := 4) (own := [("_law_name_here", 7)]) (g := gName 7) (tt := tYes) rfl scP.nd rfl rfl (sw_true rfl rfl rfl (by decide +kernel))
          (pi_list (pe_call GS hr (by rfl) mS kS bS .nil pass0 (pa_cons (pv 0) (pa_cons pe_int pa_nil))))
          (blkOk_by (own := [("_law_name_here", 7)]) (N := nPool) (sc := defScope sPool) (by decide +kernel)) (fun _ _ _ _ _ => pg_name (i := 7) scP.nd rfl (Or.inl rfl)) (fun _ _ _ _ _ => pts_nil)
          (fun _ _ _ _ _ => pe_op op_add_str pe_str (pv 7)))
      (pss_cons (ps_setLc (i := 5) (own := [("_law_k", 6)]) (g := gName 6) (tt := tYes) rfl scP.nd rfl rfl (sw_true rfl rfl rfl (by decide +kernel))
          (pi_range1 (by rfl) mr (pa_cons (pe_callB call_len_seq (by rfl) ml (by decide +kernel) (pa_cons (pv 1) pa_nil)) pa_nil))
          (blkOk_by (own := [("_law_k", 6)]) (N := nPool) (sc := defScope sPool) (by decide +kernel)) (fun _ _ _ _ _ => pg_name (i := 6) scP.nd rfl (Or.inl rfl)) (fun _ _ _ _ _ => pts_nil)
          (fun _ _ _ _ _ => pe_tup (pa_cons (pe_ix (ix_listK rfl) (pv 1) (pv 6) (fun _ _ => rfl)) (pa_cons (pe_ix (ix_listK rfl) (pv 2) (pv 6) (fun _ _ => rfl)) pa_nil))))
      (pss_cons (ps_if (pt_cmpR op_eq (pe_call GD hr1 (by rfl) mD kD bD .nil pass0 (pa_cons (pv 0) (pa_cons pe_int pa_nil))) pe_int (nomark _))
        (pss_one (ps_expr (pe_bm PySem.F.plainAttrs_list PySem.F.slot_list_append PySem.F.type_list_append mt_append (pv 5)
          (pa_cons (pe_tup (pa_cons (pe_ix ix_list (pv 1) pe_int (fun _ _ => rfl)) (pa_cons (pe_ix ix_list (pe_lst (pa_cons pe_int (pa_cons pe_int (pa_cons pe_int (pa_cons pe_int pa_nil))))) (pe_call GD hr1 (by rfl) mD kD bD .nil pass0 (pa_cons (pv 0) (pa_cons pe_int pa_nil))) (fun _ _ => rfl)) pa_nil))) pa_nil)))) pss_nil)
      (pss_one (ps_ret (pe_lst (pa_cons (pv 5) (pa_cons (pv 3) (pa_cons (pv 4) pa_nil))))))))))), ?_⟩
    -- tables
    refine ⟨_, rfl, _, rfl, a, c, m + 299, 3, rfl, hs, by decide, by decide, fun r1 H1 r10 r11 s1 k1 => ⟨_, _, rfl, rfl, ?_⟩⟩
    obtain ⟨j1, rfl⟩ : ∃ j : Nat, r1 = j := ⟨r1.toNat, by omega⟩
    refine ⟨a, c, m + 240, 2 + j1, rfl, by omega, s1.mono (by omega), fun t L H2 lL nL ndL nt ht s2 k2 => ?_⟩
    have ta : t ≠ a := s1.ne nt
    have K2 := k1.trans k2
    -- sizes
    refine ⟨(by show 1 ≤ sizeLine; decide), fun pA nA => ?_⟩
    have uA := same_new (o := .lst [V.int 2]) nA
    have zA := s2.ne nA
    refine ⟨_, rfl, t, _, rfl, .inl (SqL.of (uA _ _ ht)), _, _, rfl, rfl, ?_⟩
    have lS : (L.map V.str).length = 2 + j1 := by rw [List.length_map, lL]
    refine ⟨_, rfl, by rw [lS]; omega, by rw [lS]; omega, fun D nD => ?_⟩
    have tn : (((L.map V.str).length : Int) - 1).toNat = 1 + j1 := by rw [lS]; omega
    rw [tn]
    have sA := s2.same uA
    have zD := sA.ne nD
    refine lc_range (lo := 0) (n := 1 + j1) (fun j H5 => ∃ Z : List Nat, Z.length = j ∧ (∀ n ∈ Z, n ≤ 3) ∧ H5 D = some (.lst (Z.map fun n : Nat => V.int (n : Int))) ∧ SrcAt H5 a c (m + 239 - j) ∧ Keep a H H5 ∧ H5 t = some (.lst (L.map V.str)) ∧ H5 pA = some (.lst [V.int 2]))
      ⟨[], rfl, fun _ z => (by cases z), upd_same, (sA.same (same_new nD)).mono (by omega), K2.trans (Keep.of (uA.trans (same_new nD))), (same_new nD) _ _ (uA _ _ ht), (same_new nD) _ _ upd_same⟩ ?_ ?_
    · rintro j H5 hj ⟨Z, lZ, Z3, hD, s5, k5, t5, a5⟩
      refine ⟨rfl, ?_⟩
      dsimp only [tYes]
      rw [if_pos rfl]
      refine ⟨(by show 8 ≤ sizeLine; decide), fun p8 n8 => ?_⟩
      have u8 := same_new (o := .lst [V.int 2, V.int 1, V.int 2, V.int 3, V.int 2, V.int 0, V.int 1, V.int 2]) n8
      have z8 := s5.ne n8
      refine ⟨_, rfl, a, c, m + 239 - (j + 1), 8, rfl, (s5.same u8).mono (by omega), by decide, by decide, fun r H6 r0 r1 s6 k6 => ?_⟩
      obtain ⟨n, en, n3⟩ := menu8 r0 r1
      refine ⟨p8, _, _, _, rfl, rfl, SqL.of (k6 _ _ upd_same z8), en, _, k6 _ _ (u8 _ _ hD) zD, ?_, Z ++ [n], ?_, ?_, ?_, ?_, ?_, ?_, ?_⟩
      · rw [List.length_map, lZ, sizeLine_eq]
        omega
      · simp [lZ]
      · intro x hx
        rcases List.mem_append.mp hx with hx | hx
        · exact Z3 x hx
        · have e : x = n := by simpa using hx
          rw [e]
          exact n3
      · rw [upd_same]
        simp
      · obtain ⟨d, nn, e, g⟩ := s6
        exact ⟨d, nn, by rw [upd_ne zD.symm]; exact e, g⟩
      · have kk : Keep a H H6 := (k5.trans (Keep.of u8)).trans k6
        intro b o e nb
        by_cases hb : b = D
        · exfalso
          subst hb
          have q := (K2.trans (Keep.of uA)) _ _ e nb
          rw [nD] at q
          cases q
        · rw [upd_ne hb]
          exact kk b o e nb
      · have tD : t ≠ D := ne_of_none (uA _ _ ht) nD
        rw [upd_ne tD]
        exact k6 _ _ (u8 _ _ t5) ta
      · have aD : pA ≠ D := ne_of_none (upd_same (H := H2) (o := .lst [V.int 2])) nD
        rw [upd_ne aD]
        exact k6 _ _ (u8 _ _ a5) zA
    · rintro H5 ⟨Z, lZ, Z3, hD, s5, k5, t5, a5⟩
      refine ⟨pA, D, _, _, rfl, rfl, a5, hD, ?_, fun pZ nZ => ?_⟩
      · rw [List.length_map, lZ, sizeLine_eq]
        show 1 + (1 + j1) ≤ _
        omega
      have uZ := same_new (o := .lst ([V.int 2] ++ Z.map fun n : Nat => V.int (n : Int))) nZ
      have zZ := s5.ne nZ
      have sZ : SrcAt _ a c (m + 235) := (s5.same uZ).mono (by omega)
      have hZ : (upd H5 pZ (.lst ([V.int 2] ++ Z.map fun n : Nat => V.int (n : Int)))) pZ = some (.lst ((2 :: Z).map fun n : Nat => V.int (n : Int))) := upd_same
      -- constants
      refine ⟨_, rfl, _, rfl, a, c, m + 234, 3, rfl, sZ, by decide, by decide, fun r2 H6 r20 r21 s6 k6 => ⟨_, _, rfl, rfl, ?_⟩⟩
      obtain ⟨j2, rfl⟩ : ∃ j : Nat, r2 = j := ⟨r2.toNat, by omega⟩
      refine ⟨a, c, m + 150, 2 + j2, rfl, by omega, s6.mono (by omega), fun pC C H7 lC nC ndC ntC hC s7 k7 => ?_⟩
      have zC := s6.ne ntC
      have t7 := k7 _ _ (k6 _ _ (uZ _ _ t5) ta) ta
      have z7 := k7 _ _ (k6 _ _ hZ zZ) zZ
      have kH7 := ((k5.trans (Keep.of uZ)).trans k6).trans k7
      -- variables
      refine ⟨_, rfl, a, c, m + 20, 9, rfl, by decide, s7.mono (by omega), fun pN N9 H8 lN nN ndN ntN hN s8 k8 => ?_⟩
      have t8 := k8 _ _ t7 ta
      have z8 := k8 _ _ z7 zZ
      have c8 := k8 _ _ hC zC
      have kH8 := kH7.trans k8
      refine ⟨pN, rfl, ⟨_, SqL.of hN⟩, fun DV nDV => ?_⟩
      have zV := s8.ne nDV
      refine lc_list (K := K) (a := pN) (xs := N9.map V.str) (fun j H9 => Same H8 H9 ∧ H9 DV = some (.lst (((N9.take j).map fun y => Str.ofString "?" ++ y).map V.str)))
        ⟨same_new nDV, upd_same⟩ (fun j H9 _ h9 => h9.1.seq (SqL.of hN)) ?_ ?_
      · rintro j v H9 hj ⟨s9, hDV⟩
        rw [List.getElem?_map] at hj
        cases eb : N9[j]? with
        | none =>
          rw [eb] at hj
          cases hj
        | some y =>
          rw [eb] at hj
          cases hj
          refine ⟨rfl, ?_⟩
          dsimp only [tYes]
          rw [if_pos rfl]
          have ny := nN y (List.mem_of_getElem? eb)
          obtain ⟨_, l12, _⟩ := nm_sgns ny
          have ly := length_toList y
          refine ⟨_, rfl, _, _, rfl, rfl, ?_, _, hDV, ?_, fun b o e => ?_, ?_⟩
          · have e1 : (Str.ofString "?").length = 1 := by decide +kernel
            rw [e1, sizeLine_eq]
            omega
          · rw [List.length_map, List.length_map, List.length_take, lN, sizeLine_eq]
            omega
          · rw [upd_ne (ne_of_none e nDV)]
            exact s9 b o e
          · rw [upd_same, List.take_add_one, eb]
            simp
      · rintro H9 ⟨s9, hDV⟩
        rw [List.length_map, List.take_of_length_le (Nat.le_refl _)] at hDV
        have t9 := s9 _ _ t8
        have z9 := s9 _ _ z8
        have c9 := s9 _ _ c8
        have sr9 := s8.same s9
        have kH9 := kH8.trans (Keep.of s9)
        -- rows
        refine ⟨_, rfl, t, _, rfl, .inl (SqL.of t9), _, rfl, by rw [lS]; omega, by rw [lS]; omega, fun DR nDR => ?_⟩
        have tn2 : (((L.map V.str).length : Int)).toNat = 2 + j1 := by rw [lS]; omega
        rw [tn2]
        have zR := sr9.ne nDR
        refine lc_range (lo := 0) (n := 2 + j1) (fun j H10 => ∃ rows : List (Addr × Str × Nat), rows.length = j ∧ Same H9 H10 ∧ H10 DR = some (.lst (rows.map fun x => V.ref x.1)) ∧
          ∀ x ∈ rows, H10 x.1 = some (.tup [.str x.2.1, .int (x.2.2 : Nat)]) ∧ Nm x.2.1 ∧ x.2.2 ≤ 3 ∧ x.1 ≠ a ∧ x.1 ≠ DR)
          ⟨[], rfl, same_new nDR, upd_same, fun _ z => by cases z⟩ ?_ ?_
        · rintro j H10 hj ⟨rows, lR, s10, hDR, all⟩
          refine ⟨rfl, ?_⟩
          dsimp only [tYes]
          rw [if_pos rfl]
          have e0 : (0 : Int) + (j : Int) = (j : Int) := by omega
          rw [e0]
          have jL : j < L.length := by omega
          have jZ : j < (2 :: Z).length := by simp; omega
          refine ⟨_, rfl, _, rfl, t, _, _, _, rfl, rfl, SqL.of (s10 _ _ t9), atI_nat (strs_get jL), _, rfl, _, rfl, pZ, _, _, _, rfl, rfl, SqL.of (s10 _ _ z9), atI_nat (ints_get jZ), (by show 2 ≤ sizeLine; decide), fun pt npt => ?_⟩
          have upt := same_new (o := .tup [V.str L[j], V.int (((2 :: Z)[j] : Nat) : Int)]) npt
          have zpt : pt ≠ a := (sr9.same s10).ne npt
          have zDR : pt ≠ DR := (ne_of_none hDR npt).symm
          have z3 : (2 :: Z)[j] ≤ 3 := by
            have hm : (2 :: Z)[j] ∈ (2 :: Z) := List.getElem_mem jZ
            rcases List.mem_cons.mp hm with e | e
            · rw [e]
              decide
            · exact Z3 _ e
          refine ⟨_, upt _ _ hDR, ?_, rows ++ [(pt, L[j], (2 :: Z)[j])], by simp [lR], fun b o e => ?_, by rw [upd_same]; simp, fun x hx => ?_⟩
          · rw [List.length_map, lR, sizeLine_eq]
            omega
          · rw [upd_ne (ne_of_none e nDR)]
            exact upt _ _ (s10 b o e)
          · rcases List.mem_append.mp hx with hx | hx
            · obtain ⟨h1, h2, h3, h4, h5⟩ := all x hx
              exact ⟨by rw [upd_ne h5]; exact upt _ _ h1, h2, h3, h4, h5⟩
            · have e : x = (pt, L[j], (2 :: Z)[j]) := by simpa using hx
              rw [e]
              exact ⟨by rw [upd_ne zDR]; exact upd_same, nL _ (List.getElem_mem jL), z3, zpt, zDR⟩
        · rintro H10 ⟨rows, lR, s10, hDR, all⟩
          have sr10 := sr9.same s10
          -- the return
          have fin : ∀ (H11 : Hp) (rows' : List (Addr × Str × Nat)), 1 ≤ rows'.length → rows'.length ≤ 9 → H11 DR = some (.lst (rows'.map fun x => V.ref x.1)) →
              (∀ x ∈ rows', H11 x.1 = some (.tup [.str x.2.1, .int (x.2.2 : Nat)]) ∧ Nm x.2.1 ∧ x.2.2 ≤ 3 ∧ x.1 ≠ a) → H11 pC = some (.lst (C.map V.str)) →
              H11 DV = some (.lst ((N9.map fun y => Str.ofString "?" ++ y).map V.str)) → SrcAt H11 a c m → Keep a H H11 →
              ∀ p, H11 p = none → Q (.ref p) (upd H11 p (.lst [.ref DR, .ref pC, .ref DV])) := by
            intro H11 rows' l1 l9 hR allR hC11 hV11 s11 k11 p np
            have up := same_new (o := .lst [V.ref DR, V.ref pC, V.ref DV]) np
            refine k p ⟨DR, pC, DV, rows', C, N9.map fun y => Str.ofString "?" ++ y⟩ _ ⟨upd_same, up _ _ hR, fun x hx => let ⟨h1, h2, h3, h4⟩ := allR x hx; ⟨up _ _ h1, h2, h3, h4⟩, l1, l9, up _ _ hC11, nC, by rw [lC]; omega, by rw [lC]; omega, up _ _ hV11, fun z hz => ?_, by simp [lN], s11.ne np, zR, zC, zV⟩ (s11.same up) (k11.trans (Keep.of up))
            obtain ⟨y, hy, rfl⟩ := List.mem_map.mp hz
            exact ⟨y, nN y hy, rfl⟩
          -- if draw(3) == 0
          refine ⟨_, rfl, a, c, m + 10, 3, rfl, sr10.mono (by omega), by decide, by decide, fun r5 H11 r50 r51 s11 k11 => ⟨rfl, _, rfl, ?_⟩⟩
          have hR11 := k11 _ _ hDR zR
          have c11 := k11 _ _ (s10 _ _ c9) zC
          have v11 := k11 _ _ (s10 _ _ hDV) zV
          have t11 := k11 _ _ (s10 _ _ t9) ta
          have kH11 := (kH9.trans (Keep.of s10)).trans k11
          refine ite2 (fun _ => ?_) (fun _ => ?_)
          · have L0 : 0 < L.length := by omega
            refine ⟨_, rfl, .inl ⟨rfl, _, .inl (.inl hR11)⟩, ?_⟩
            refine ⟨_, rfl, t, _, 0, _, rfl, rfl, SqL.of t11, atI_nat (j := 0) (strs_get L0), (by show 4 ≤ sizeLine; decide), fun p4 n4 => ?_⟩
            have u4 := same_new (o := .lst [V.int 1, V.int 3, V.int 0, V.int 1]) n4
            have z4 := s11.ne n4
            refine ⟨_, rfl, a, c, m + 5, 4, rfl, (s11.same u4).mono (by omega), by decide, by decide, fun r6 H12 r60 r61 s12 k12 => ?_⟩
            obtain ⟨n, en, n3⟩ := menu4 r60 r61
            refine ⟨p4, _, _, _, rfl, rfl, SqL.of (k12 _ _ upd_same z4), en, (by show 2 ≤ sizeLine; decide), fun pt npt => ?_⟩
            have upt := same_new (o := .tup [V.str L[0], V.int (n : Int)]) npt
            have zpt := s12.ne npt
            have hR12 := k12 _ _ (u4 _ _ hR11) zR
            have zDR : pt ≠ DR := (ne_of_none hR12 npt).symm
            refine ⟨DR, _, _, rfl, rfl, upt _ _ hR12, ?_, ?_⟩
            · rw [List.length_map, lR, sizeLine_eq]
              omega
            · have ks : Keep DR (upd H12 pt (.tup [V.str L[0], V.int (n : Int)])) (upd (upd H12 pt (.tup [V.str L[0], V.int (n : Int)])) DR (.lst (rows.map (fun x => V.ref x.1) ++ [V.ref pt]))) := fun b o e nb => by
                rw [upd_ne nb]
                exact e
              have aDR : a ≠ DR := zR.symm
              refine ⟨_, rfl, _, rfl, _, rfl, (by show 3 ≤ sizeLine; decide), fin _ (rows ++ [(pt, L[0], n)]) (by simp) (by simp [lR]; omega) (by rw [upd_same]; simp) (fun x hx => ?_) ?_ ?_ ?_ ?_⟩
              · rcases List.mem_append.mp hx with hx | hx
                · obtain ⟨h1, h2, h3, h4, h5⟩ := all x hx
                  exact ⟨ks _ _ (upt _ _ (k12 _ _ (u4 _ _ (k11 _ _ h1 h4)) h4)) h5, h2, h3, h4⟩
                · have e : x = (pt, L[0], n) := by simpa using hx
                  rw [e]
                  exact ⟨ks _ _ upd_same zDR, nL _ (List.getElem_mem L0), n3, zpt⟩
              · exact ks _ _ (upt _ _ (k12 _ _ (u4 _ _ c11) zC)) (ne_of_none (s10.trans (Same.refl _) |> fun _ => c9) nDR)
              · exact ks _ _ (upt _ _ (k12 _ _ (u4 _ _ v11) zV)) (ne_of_none hDV nDR)
              · obtain ⟨d, nn, e, g, bb⟩ := s12.same upt
                exact ⟨d, nn, ks _ _ e aDR, by omega, bb⟩
              · have k13 := (kH11.trans (Keep.of u4)).trans (k12.trans (Keep.of upt))
                intro b o e nb
                have nD' : b ≠ DR := ne_of_none (kH9 b o e nb) nDR
                exact ks _ _ (k13 b o e nb) nD'
          · refine ⟨_, rfl, _, rfl, _, rfl, (by show 3 ≤ sizeLine; decide), fin _ rows (by omega) (by omega) hR11 (fun x hx => ?_) c11 v11 (s11.mono (by omega)) kH11⟩
            obtain ⟨h1, h2, h3, h4, h5⟩ := all x hx
            exact ⟨k11 _ _ h1 h4, h2, h3, h4⟩
end
end L2.LawH
set_option Elab.async false
set_option linter.all false
set_option maxRecDepth 100000
set_option maxHeartbeats 4000000
/-! The helpers of the laws: terms, patterns, lots. -/
namespace L2.LawH
open PySem PySem.Spec PyProof.Rows
open Builtin.Int (intBits)
abbrev sTerm : Stmt := top 17
abbrev sPat : Stmt := top 18
abbrev sLot : Stmt := top 20
/-! ### texts that can be compared -/
theorem ok_list {z : Str} (h : ∀ c ∈ z.cps.toList, c < 0x110000) : PyData.strOk z = true := by
  unfold PyData.strOk
  rw [← Array.all_toList, List.all_eq_true]
  exact fun c hc => decide_eq_true (h c hc)
theorem sgn_small {c : Nat} (h : isSgn c = true) : c < 0x110000 := by
  simp only [isSgn, isLet, Bool.or_eq_true, Bool.and_eq_true, decide_eq_true_eq] at h
  omega
theorem Nm.strOk {z : Str} (h : Nm z) : PyData.strOk z = true := by
  obtain ⟨h1, _, _⟩ := nm_sgns h
  exact ok_list fun c hc => sgn_small (List.all_eq_true.mp h1 c hc)
theorem Vr.strOk {z : Str} (h : Vr z) : PyData.strOk z = true := by
  obtain ⟨y, ny, rfl⟩ := h
  obtain ⟨h1, _, _⟩ := nm_sgns ny
  refine ok_list fun c hc => ?_
  rw [toList_append] at hc
  rcases List.mem_append.mp hc with hc | hc
  · have e1 : (Str.ofString "?").cps.toList = [63] := by decide +kernel
    rw [e1] at hc
    have e : c = 63 := by simpa using hc
    omega
  · exact sgn_small (List.all_eq_true.mp h1 c hc)
theorem dp_strs {K : PySem.W.Frag} {H : Hp} : ∀ zs : List Str, DpAll K H (zs.map V.str) (zs.map PyData.str)
  | [] => .nil
  | z :: zs => .cons (.str z) (dp_strs zs)
theorem lay_strs : ∀ zs : List Str, (PyData.list (zs.map PyData.str)).canLay0 = (zs.all PyData.strOk)
  | [] => rfl
  | z :: zs => by
    have ih := lay_strs zs
    simp only [PyData.canLay0, PyData.canLayAll0, List.map_cons, List.all_cons] at ih ⊢
    rw [ih]
theorem depth_strs : ∀ zs : List Str, (PyData.list (zs.map PyData.str)).depth ≤ 2
  | [] => by decide
  | z :: zs => by
    have ih := depth_strs zs
    simp only [PyData.depth, PyData.depthAll, List.map_cons] at ih ⊢
    omega
theorem shaped_strs {zs : List Str} (h : ∀ z ∈ zs, PyData.strOk z = true) : SeqAt.shaped (.list (zs.map PyData.str)) = true := by
  unfold SeqAt.shaped
  rw [lay_strs, List.all_eq_true.mpr h, Bool.true_and]
  exact decide_eq_true (Nat.le_trans (depth_strs zs) (by decide))
theorem eqv_nil : ∀ zs : List Str, PyData.eqv (.list (zs.map PyData.str)) (.list []) = decide (zs = [])
  | [] => by decide
  | z :: zs => by simp [PyData.eqv, PyData.eqvAll]

/-- a list of variables at q -/
structure VarsAt (a : Addr) (H : Hp) (q : Addr) (W : List Str) : Prop where
  hq : H q = some (.lst (W.map V.str))
  all : ∀ z ∈ W, Vr z
  few : W.length ≤ 100
  nq : q ≠ a
theorem VarsAt.keep {a : Addr} {H H' : Hp} {q : Addr} {W : List Str} (h : VarsAt a H q W) (k : Keep a H H') : VarsAt a H' q W := ⟨k _ _ h.hq h.nq, h.all, h.few, h.nq⟩
def spTerm : Sp := fun vs H Q _ => ∃ (a p q : Addr) (c : Int) (m : Nat) (sh : Int) (π : Pool) (W : List Str), vs = [.ref a, .ref p, .ref q, .int sh] ∧ SrcAt H a c (m + 3) ∧ PoolAt a H p π ∧ VarsAt a H q W ∧
  ∀ (z : Str) (H' : Hp), (z ∈ π.C ∨ z ∈ W) → SrcAt H' a c m → Keep a H H' → Q (.str z) H'
/-- a pattern over a pool and variables -/
structure PatOf (π : Pool) (W : List Str) (T : Str) (zs : List Str) : Prop where
  tab : ∃ x ∈ π.rows, x.2.1 = T ∧ zs.length = x.2.2
  trm : ∀ z ∈ zs, z ∈ π.C ∨ z ∈ W
def spPat : Sp := fun vs H Q _ => ∃ (a p q : Addr) (c : Int) (m : Nat) (sh : Int) (π : Pool) (W : List Str), vs = [.ref a, .ref p, .ref q, .int sh] ∧ SrcAt H a c (m + 20) ∧ PoolAt a H p π ∧ VarsAt a H q W ∧
  ∀ (t : Addr) (T : Str) (zs : List Str) (H' : Hp), PatOf π W T zs → H' t = some (.tup (.str T :: zs.map V.str)) → t ≠ a → SrcAt H' a c m → Keep a H H' → Q (.ref t) H'
section
variable {P : Program} {w : World} {K : PySem.W.Frag} {mg : Str → Option Value} {base : Heap}
abbrev nTerm : List Str := ["_law_source_here", "_law_pool_here", "_law_variables_here", "_law_share"]
theorem scT : FnScope nTerm nTerm (defScope sTerm) := ⟨rfl, rfl, rfl, by decide +kernel, rfl, by decide +kernel, by decide +kernel⟩
theorem ok_term {f fD : Addr} {fd fdD : FuncData} (F : Fun K "_law_term" "_law_term" sTerm f fd)
    (GD : FnOk P w K mg base CX0 1 fD fdD ["_law_source_here", "_law_limit"] spDraw) (kD : PySem.W.keepIn K (.ref fD) = true) (bD : Binds K fdD ["_law_source_here", "_law_limit"] []) (mD : mg "_law_draw" = some (.ref fD))
    (ml : mg "len" = none) : FnOk P w K mg base CX0 2 f fd nTerm spTerm := by
  refine F.ok scT (fun vs H Q E h => ?_) (fun cdv A outer s H vs Q E hr h => ?_)
  · obtain ⟨a, p, q, c, m, sh, π, W, rfl, _⟩ := h
    rfl
  · obtain ⟨a, p, q, c, m, sh, π, W, rfl, hs, hp, hv, k⟩ := h
    have hr1 : Room 1 _ := hr.mono (by decide)
    have hu := hr.units
    refine ⟨_, pss_cons (ps_if (PW.pt (pw_and (pt_cmpR (op_neD hu) (pv 2) (pe_lst pa_nil) (nomark _)) (pw_and1 (pt_cmpR op_lt (pe_call GD hr1 (by rfl) mD kD bD .nil pass0 (pa_cons (pv 0) (pa_cons pe_int pa_nil))) (pv 3) (nomark _)))))
        (pss_one (ps_ret (pe_ix ix_list (pv 2) (pe_call GD hr1 (by rfl) mD kD bD .nil pass0 (pa_cons (pv 0) (pa_cons (pe_callB call_len_seq (by rfl) ml (by decide +kernel) (pa_cons (pv 2) pa_nil)) pa_nil))) (fun _ _ => rfl)))) pss_nil)
      (pss_one (ps_ret (pe_ix ix_list (pe_ix ix_list (pv 1) pe_int (fun _ _ => rfl)) (pe_call GD hr1 (by rfl) mD kD bD .nil pass0 (pa_cons (pv 0) (pa_cons (pe_callB call_len_seq (by rfl) ml (by decide +kernel) (pa_cons (pe_ix ix_list (pv 1) pe_int (fun _ _ => rfl)) pa_nil)) pa_nil))) (fun _ _ => rfl)))), ?_⟩
    -- the second way
    have snd : ∀ H1, SrcAt H1 a c (m + 1) → Keep a H H1 → ∀ σ : List (Option V), σ = [some (.ref a), some (.ref p), some (.ref q), some (.int sh)] →
        tRet (tOp (rIxL K) (tOp (rIxL K) (tVar 1) (tC (.int 1))) (tCall spDraw [] E0 (tCons (tVar 0) (tCons (tCB (fun xs H Q => ∃ p ys, xs = [.ref p] ∧ (SqL K H p ys ∨ SqT K H p ys) ∧ Q (.int ys.length) H) (tCons (tOp (rIxL K) (tVar 1) (tC (.int 1))) tNil)) tNil))))
          { nx := fun _ H' => Q .non H', rt := Q } σ H1 := by
      rintro H1 s1 k1 σ rfl
      have p1 := hp.keep k1
      have lC : (π.C.map V.str).length = π.C.length := List.length_map _
      have c2 := π.C.length
      refine ⟨_, rfl, p, _, 1, _, rfl, rfl, SqL.of p1.hp, rfl, _, rfl, _, rfl, p, _, 1, _, rfl, rfl, SqL.of p1.hp, rfl, π.cs, _, rfl, .inl (SqL.of p1.hc), ?_⟩
      refine ⟨a, c, m, _, rfl, s1, by rw [lC]; have := hp.C2; omega, by rw [lC]; have := hp.C9; omega, fun r H2 r0 r1 s2 k2 => ?_⟩
      obtain ⟨j, rfl⟩ : ∃ j : Nat, r = j := ⟨r.toNat, by omega⟩
      rw [lC] at r1
      have hj : j < π.C.length := by omega
      exact ⟨π.cs, _, _, _, rfl, rfl, SqL.of (k2 _ _ p1.hc p1.nc), atI_nat (strs_get hj), k _ H2 (.inl (List.getElem_mem hj)) s2 (k1.trans k2)⟩
    refine ⟨_, rfl, (by show 0 ≤ sizeLine; decide), fun p0 n0 => ?_⟩
    have u0 := same_new (o := .lst []) n0
    have s0 := hs.same u0
    have hv0 := hv.keep (Keep.of u0)
    refine ⟨_, _, .lst (SqL.of hv0.hq) (dp_strs W), .lst (SqL.of upd_same) .nil, shaped_strs fun z hz => (hv.all z hz).strOk, by decide, _, rfl, ?_⟩
    rw [eqv_nil]
    by_cases e : W = []
    · rw [decide_eq_true e]
      refine iteF ?_
      refine iteF ?_
      exact snd _ (s0.mono (by omega)) (Keep.of u0) _ rfl
    · rw [decide_eq_false e]
      refine iteT ?_
      refine ⟨_, rfl, a, c, m + 2, 6, rfl, s0, by decide, by decide, fun r H1 r0 r1 s1 k1 => ?_⟩
      have hv1 := hv0.keep k1
      refine ⟨_, rfl, _, _, rfl, rfl, _, rfl, ?_⟩
      refine ite2 (fun _ => ?_) (fun _ => ?_)
      · have lW : (W.map V.str).length = W.length := List.length_map _
        have W0 : 0 < W.length := List.length_pos_iff.mpr e
        refine ⟨_, rfl, _, rfl, _, rfl, q, _, rfl, .inl (SqL.of hv1.hq), ?_⟩
        refine ⟨a, c, m + 1, _, rfl, s1, by rw [lW]; omega, by rw [lW]; have := hv.few; omega, fun r2 H2 r20 r21 s2 k2 => ?_⟩
        obtain ⟨j, rfl⟩ : ∃ j : Nat, r2 = j := ⟨r2.toNat, by omega⟩
        rw [lW] at r21
        have hj : j < W.length := by omega
        exact ⟨q, _, _, _, rfl, rfl, SqL.of (k2 _ _ hv1.hq hv.nq), atI_nat (strs_get hj), k _ H2 (.inr (List.getElem_mem hj)) (s2.mono (by omega)) (((Keep.of u0).trans k1).trans k2)⟩
      · exact snd _ (s1.mono (by omega)) ((Keep.of u0).trans k1) _ rfl
abbrev nPat : List Str := ["_law_source_here", "_law_pool_here", "_law_variables_here", "_law_share", "_law_table", "_law_size", "_law_k"]
theorem scPt : FnScope nPat nTerm (defScope sPat) := ⟨rfl, rfl, rfl, by decide +kernel, rfl, by decide +kernel, by decide +kernel⟩
theorem ok_pat {f fD fT : Addr} {fd fdD fdT : FuncData} (F : Fun K "_law_pattern" "_law_pattern" sPat f fd)
    (GD : FnOk P w K mg base CX0 1 fD fdD ["_law_source_here", "_law_limit"] spDraw) (kD : PySem.W.keepIn K (.ref fD) = true) (bD : Binds K fdD ["_law_source_here", "_law_limit"] []) (mD : mg "_law_draw" = some (.ref fD))
    (GT : FnOk P w K mg base CX0 2 fT fdT nTerm spTerm) (kT : PySem.W.keepIn K (.ref fT) = true) (bT : Binds K fdT nTerm []) (mT : mg "_law_term" = some (.ref fT))
    (ml : mg "len" = none) (mr : mg "range" = none) (mt : mg "tuple" = none) : FnOk P w K mg base CX0 3 f fd nTerm spPat := by
  refine F.ok scPt (fun vs H Q E h => ?_) (fun cdv A outer s H vs Q E hr h => ?_)
  · obtain ⟨a, p, q, c, m, sh, π, W, rfl, _⟩ := h
    rfl
  · obtain ⟨a, p, q, c, m, sh, π, W, rfl, hs, hp, hv, k⟩ := h
    have hr1 : Room 1 _ := hr.mono (by decide)
    refine ⟨_, pss_cons (ps_asg (pe_ix ix_list (pe_ix ix_list (pv 1) pe_int (fun _ _ => rfl)) (pe_call GD hr1 (by rfl) mD kD bD .nil pass0 (pa_cons (pv 0) (pa_cons (pe_callB call_len_seq (by rfl) ml (by decide +kernel) (pa_cons (pe_ix ix_list (pv 1) pe_int (fun _ _ => rfl)) pa_nil)) pa_nil))) (fun _ _ => rfl))
        (pg_tup (by rfl) (pgs_cons (pg_name (i := 4) scPt.nd rfl (Or.inl rfl)) (pgs_cons (pg_name (i := 5) scPt.nd rfl (Or.inl rfl)) pgs_nil))))
      (pss_one (ps_ret (pe_callTy call_tuple_of (by rfl) mt (by decide +kernel) (pa_cons (pe_op op_cat (pe_lst (pa_cons (pv 4) pa_nil))
        (pe_lc (own := [("_law_k", 6)]) (g := gName 6) (tt := tYes) rfl scPt.nd (pi_range1 (by rfl) mr (pa_cons (pv 5) pa_nil))
          (blkOk_by (own := [("_law_k", 6)]) (N := nPat) (sc := defScope sPat) (by decide +kernel)) (fun _ _ _ _ _ => pg_name (i := 6) scPt.nd rfl (Or.inl rfl)) (fun _ _ _ _ _ => pts_nil)
          (fun _ _ _ _ _ => pe_call GT hr (by rfl) mT kT bT .nil pass0 (pa_cons (pv 0) (pa_cons (pv 1) (pa_cons (pv 2) (pa_cons (pv 3) pa_nil))))))) pa_nil)))), ?_⟩
    have lR : (π.rows.map fun x => V.ref x.1).length = π.rows.length := List.length_map _
    refine ⟨_, rfl, p, _, 0, _, rfl, rfl, SqL.of hp.hp, rfl, _, rfl, _, rfl, p, _, 0, _, rfl, rfl, SqL.of hp.hp, rfl, π.r, _, rfl, .inl (SqL.of hp.hr), ?_⟩
    refine ⟨a, c, m + 19, _, rfl, hs, by rw [lR]; have := hp.rows1; omega, by rw [lR]; have := hp.rows9; omega, fun r H1 r0 r1 s1 k1 => ?_⟩
    obtain ⟨j, rfl⟩ : ∃ j : Nat, r = j := ⟨r.toNat, by omega⟩
    rw [lR] at r1
    have hj : j < π.rows.length := by omega
    have hp1 := hp.keep k1
    have hv1 := hv.keep k1
    have hx : (π.rows.map fun x => V.ref x.1)[j]? = some (.ref π.rows[j].1) := by
      rw [List.getElem?_map, List.getElem?_eq_getElem hj]
      rfl
    have mx : π.rows[j] ∈ π.rows := List.getElem_mem hj
    obtain ⟨t1, nT, n3, nx⟩ := hp1.hrow _ mx
    refine ⟨π.r, _, _, _, rfl, rfl, SqL.of hp1.hr, atI_nat hx, _, _, rfl, SqT.of t1, rfl, _, _, rfl, _, _, rfl, rfl, ?_⟩
    -- tuple([table] + [..])
    refine ⟨_, rfl, (by show 1 ≤ sizeLine; decide), fun pA nA => ?_⟩
    have uA := same_new (o := .lst [V.str π.rows[j].2.1]) nA
    have zA := s1.ne nA
    refine ⟨_, rfl, _, rfl, by omega, by omega, fun D nD => ?_⟩
    have sA := s1.same uA
    have zD := sA.ne nD
    rw [Int.toNat_natCast]
    refine lc_range (lo := 0) (n := π.rows[j].2.2) (fun i H5 => ∃ zs : List Str, zs.length = i ∧ (∀ z ∈ zs, z ∈ π.C ∨ z ∈ W) ∧ H5 D = some (.lst (zs.map V.str)) ∧ SrcAt H5 a c (m + 19 - 3 * i) ∧ Keep a H H5 ∧ H5 pA = some (.lst [V.str π.rows[j].2.1]))
      ⟨[], rfl, fun _ z => (by cases z), upd_same, sA.same (same_new nD), (k1.trans (Keep.of uA)).trans (Keep.of (same_new nD)), (same_new nD) _ _ upd_same⟩ ?_ ?_
    · rintro i H5 hi ⟨zs, lz, hz, hD, s5, k5, a5⟩
      refine ⟨rfl, ?_⟩
      dsimp only [tYes]
      rw [if_pos rfl]
      have s5' : SrcAt H5 a c (m + 19 - 3 * (i + 1) + 3) := s5.mono (by omega)
      refine ⟨_, rfl, _, rfl, _, rfl, _, rfl, a, p, q, c, m + 19 - 3 * (i + 1), sh, π, W, rfl, s5', hp.keep k5, hv.keep k5, fun z H6 hz6 s6 k6 => ?_⟩
      refine ⟨_, k6 _ _ hD zD, ?_, zs ++ [z], by simp [lz], fun y hy => ?_, by rw [upd_same]; simp, ?_, ?_, ?_⟩
      · rw [List.length_map, lz, sizeLine_eq]
        omega
      · rcases List.mem_append.mp hy with hy | hy
        · exact hz y hy
        · have e : y = z := by simpa using hy
          rw [e]
          exact hz6
      · obtain ⟨d, nn, e, g⟩ := s6
        exact ⟨d, nn, by rw [upd_ne zD.symm]; exact e, g⟩
      · intro b o e nb
        have hb : b ≠ D := ne_of_none ((k1.trans (Keep.of uA)) b o e nb) nD
        rw [upd_ne hb]
        exact (k5.trans k6) b o e nb
      · have aD : pA ≠ D := ne_of_none (upd_same (H := H1) (o := .lst [V.str π.rows[j].2.1])) nD
        rw [upd_ne aD]
        exact k6 _ _ a5 zA
    · rintro H5 ⟨zs, lz, hz, hD, s5, k5, a5⟩
      refine ⟨pA, D, _, _, rfl, rfl, a5, hD, ?_, fun pL nL => ?_⟩
      · rw [List.length_map, lz, sizeLine_eq]
        show 1 + _ ≤ _
        omega
      have uL := same_new (o := .lst ([V.str π.rows[j].2.1] ++ zs.map V.str)) nL
      refine ⟨pL, _, rfl, .inl ⟨SqL.of upd_same, fun pt npt => ?_⟩⟩
      have ut := same_new (o := .tup ([V.str π.rows[j].2.1] ++ zs.map V.str)) npt
      have s6 := (s5.same uL).same ut
      exact k pt _ zs _ ⟨⟨_, mx, rfl, lz⟩, hz⟩ upd_same ((s5.same uL).ne npt) (s6.mono (by omega)) ((k5.trans (Keep.of uL)).trans (Keep.of ut))
end
end L2.LawH
set_option Elab.async false
set_option linter.all false
set_option maxRecDepth 100000
set_option maxHeartbeats 4000000
/-! Sets whose members have a key (texts, numbers): what they hold, in any order; adding; walking them; sorting sets of texts. -/
namespace L2.GSet
open PySem PySem.Spec PyProof.Rows
section
variable {P : Program} {w : World} {κ : Type} [DecidableEq κ]
/-- a set's payload holds the keys ks, and its table can be walked -/
structure Pay (kd : PySem.KeyKind P w κ) (key : Value → κ) (es : Array (Int × Value)) (t : SetTable) (ks : List κ) : Prop where
  el : ElemsOf kd es.toList
  pm : (es.toList.map fun e => key e.2).Perm ks
  few : es.size < scanBound
  fit : t.fits es.size = true
  ris : Ris t.place.toList
  led : w.params.followText "set-order" = true ∨ t.led = true
def GAt (kd : PySem.KeyKind P w κ) (key : Value → κ) (h : Heap) (a : Addr) (ks : List κ) : Prop :=
  ∃ o es ep t, h.get? a = some o ∧ o.ExactSet ∧ o.data = .set es ep t ∧ Pay kd key es t ks
variable {kd : PySem.KeyKind P w κ} {key : Value → κ} {es : Array (Int × Value)} {t : SetTable} {ks : List κ} {h h' : Heap} {a : Addr}
theorem GAt.keep (R : GAt kd key h a ks) (k : ∀ o, h.get? a = some o → h'.get? a = some o) : GAt kd key h' a ks :=
  let ⟨o, es, ep, t, ho, r⟩ := R
  ⟨o, es, ep, t, k o ho, r⟩
theorem GAt.some (R : GAt kd key h a ks) : ∃ o, h.get? a = some o := let ⟨o, _, _, _, ho, _⟩ := R; ⟨o, ho⟩
theorem Pay.size (p : Pay kd key es t ks) : es.size = ks.length := by
  have q := p.pm.length_eq
  rwa [List.length_map, Array.length_toList] at q
theorem Pay.is (hk : ∀ k v, kd.is k v = true → key v = k) (p : Pay kd key es t ks) {e : Int × Value} (he : e ∈ es.toList) (k : κ) : kd.is k e.2 = true ↔ key e.2 = k := by
  obtain ⟨⟨k', i, _⟩, _⟩ := p.el e he
  refine ⟨hk k _, fun z => ?_⟩
  rw [← z, hk k' _ i]
  exact i
theorem Pay.mem (hk : ∀ k v, kd.is k v = true → key v = k) (p : Pay kd key es t ks) (k : κ) : k ∈ ks ↔ ∃ e ∈ es.toList, kd.is k e.2 = true := by
  rw [← p.pm.mem_iff, List.mem_map]
  exact ⟨fun ⟨e, m, q⟩ => ⟨e, m, (p.is hk m k).2 q⟩, fun ⟨e, m, q⟩ => ⟨e, m, (p.is hk m k).1 q⟩⟩
end
section
variable {P : Program} {w : World} {κ : Type} [DecidableEq κ] {kd : PySem.KeyKind P w κ} {key : Value → κ} {A : Around} {E : Value → Shared → Prop} {s : Shared} {a : Addr} {ks : List κ}
/-- laying the payload down, with the growing behind it -/
theorem lay_down {grow : Bool → Sem Unit} (hgrow : ∀ (b : Bool) (s1 : Shared) (C : Unit → Shared → Prop), C () s1 → wpAny (model P w) A (grow b) C E s1)
    {o : Obj} {es0 es : Array (Int × Value)} {ep : Nat} {t0 t : SetTable} (ho : s.heap.get? a = some o) (ox : o.ExactSet) (od : o.data = .set es0 ep t0) (p : Pay kd key es t ks) {wd : Bool} {R : Option Bool → Shared → Prop}
    (hR : ∀ h', Heap.SameBut a s.heap h' → GAt kd key h' a ks → R (some true) { s with heap := h' }) :
    wpAny (model P w) A (do
        storeSet a es t
        if (!wd && t.tooFull) = true then do
            grow (relayAll t es (SetTable.grown es.size)).2.2
            storeSet a (relayAll t es (SetTable.grown es.size)).1 (relayAll t es (SetTable.grown es.size)).2.1
            pure (some true)
          else pure (some true)) R E s := by
  have b1 := Heap.SameBut.update s.heap a (Obj.putSet es t)
  have o1 := PpSet.storeB_at (es' := es) (t' := t) ho od
  refine wpAny_bind (wpAny_storeSet_of ho od ?_ (fits_of_scanBound p.few))
  split
  · have q1 := relayAll_perm t es (SetTable.grown es.size)
    have q2 := relayAll_fits t es (SetTable.grown es.size)
    have q3 := relayAll_ris t es (SetTable.grown es.size)
    have q4 := relayAll_led t es (SetTable.grown es.size)
    cases e : relayAll t es (SetTable.grown es.size) with
    | mk es2 rest =>
      obtain ⟨t2, gw⟩ := rest
      rw [e] at q1 q2 q3 q4
      have zz : es2.size = es.size := by
        have := q1.length_eq
        rwa [Array.length_toList, Array.length_toList] at this
      have p2 : Pay kd key es2 t2 ks := ⟨p.el.perm q1, (q1.map _).trans p.pm, by rw [zz]; exact p.few, q2, q3, p.led.imp id fun z => q4.trans z⟩
      have o2 := PpSet.storeB_at (es' := es2) (t' := t2) o1 rfl
      refine wpAny_bind (hgrow _ _ _ (wpAny_bind (wpAny_storeSet_of o1 rfl (wpAny_pure (hR _ (b1.trans (Heap.SameBut.update _ a _)) ⟨_, es2, _, t2, o2, ox, rfl, p2⟩)) (fits_of_scanBound p2.few))))
  · exact wpAny_pure (hR _ b1 ⟨_, es, _, t, o1, ox, rfl, p⟩)
theorem add_hashed (hk : ∀ k v, kd.is k v = true → key v = k) {k : κ} {x : Value} {Q : Bool → Shared → Prop} (hx : kd.is k x = true) (hsc : x.scannable = true) (R : GAt kd key s.heap a ks) (room : ks.length + 1 < scanBound)
    (hQ : ∀ b h', Heap.SameBut a s.heap h' → GAt kd key h' a (if k ∈ ks then ks else ks ++ [k]) → Q b { s with heap := h' }) :
    wpAny (model P w) A (setAddHashed a x (kd.hash k)) Q E s := by
  obtain ⟨o, es, ep, t, ho, ox, od, p⟩ := R
  unfold setAddHashed setAddHashedIn
  refine wpAny_holding (wpAny_bind (wpAny_setState_of ho od p.fit ?_))
  dsimp only
  rw [byScan_of hsc p.few p.el, if_pos rfl]
  unfold setAddByScan
  refine wpAny_bind (wpAny_bind (wpAny_rule (wpAny_bind (wpAny_setScan_of hx ho od p.fit p.el ?_))))
  cases fi : List.findIdx? (fun e => kd.is k e.2) es.toList with
  | some j =>
    obtain ⟨lj, ij, _⟩ := List.findIdx?_eq_some_iff_getElem.mp fi
    have mk : k ∈ ks := (p.mem hk k).2 ⟨_, List.getElem_mem lj, ij⟩
    have q := hQ false s.heap (Heap.SameBut.refl a s.heap) ⟨o, es, ep, t, ho, ox, od, by rw [if_pos mk]; exact p⟩
    exact wpAny_pure (wpAny_pure q)
  | none =>
    have mk : k ∉ ks := fun z => by
      obtain ⟨e, he, i⟩ := (p.mem hk k).1 z
      have c := List.findIdx?_eq_none_iff.mp fi e he
      rw [i] at c
      exact Bool.noConfusion c
    dsimp only
    have q1 := layNew_perm t es (kd.hash k) x
    have q2 := layNew_fits t es (kd.hash k) x
    have q3 := layNew_ris t es (kd.hash k) x p.ris
    have q4 := layNew_led t es (kd.hash k) x
    generalize layNew t es (kd.hash k) x = Z at q1 q2 q3 q4 ⊢
    obtain ⟨es1, t1, wd, gw⟩ := Z
    dsimp only at q1 q2 q3 q4 ⊢
    rw [Array.toList_push] at q1
    have zz : es1.size = ks.length + 1 := by
      have z := q1.length_eq
      rw [List.length_append, Array.length_toList, Array.length_toList, p.size] at z
      exact z
    have pay : ∀ t' : SetTable, t'.fits es1.size = true → Ris t'.place.toList → t'.led = t.led → Pay kd key es1 t' (ks ++ [k]) := fun t' f r l =>
      ⟨(p.el.push hx hsc).perm q1, by
        have z := q1.map fun e => key e.2
        rw [List.map_append, List.map_cons, List.map_nil, hk k x hx] at z
        exact z.trans (p.pm.append_right _), by rw [zz]; exact room, f, r, p.led.imp id fun z => l.trans z⟩
    have fin : ∀ h', Heap.SameBut a s.heap h' → GAt kd key h' a (ks ++ [k]) → Q true { s with heap := h' } := fun h' sb g => hQ true h' sb (by rw [if_neg mk]; exact g)
    have gives : ∀ (b : Bool) (s1 : Shared) (C : Unit → Shared → Prop), C () s1 → wpAny (model P w) A (match b with | true => rule "set.scan.the-table-gave-way" | false => pure ()) C E s1 := fun b s1 C q => by
      cases b
      · exact wpAny_pure q
      · exact wpAny_rule q
    refine wpAny_bind (gives _ _ _ ?_)
    split
    · refine wpAny_bind ?_
      rw [hashByValue_scannable 8 hsc]
      refine wpAny_pure (lay_down gives ho ox od (pay _ ?_ ?_ ?_) fun h' sb g => wpAny_pure (fin h' sb g))
      · split
        · exact q2
        · exact SetTable.fits_plain_off q2
      · split <;> exact q3
      · split <;> exact q4
    · refine wpAny_bind (wpAny_pure ?_)
      simp only [↓reduceIte]
      exact lay_down gives ho ox od (pay _ q2 q3 q4) fun h' sb g => wpAny_pure (fin h' sb g)
/-- a.add(x) -/
theorem add_call (hk : ∀ k v, kd.is k v = true → key v = k) {k : κ} {x : Value} {Q : Value → Shared → Prop} (hx : kd.is k x = true) (hsc : x.scannable = true) (R : GAt kd key s.heap a ks) (room : ks.length + 1 < scanBound)
    (hQ : ∀ h', Heap.SameBut a s.heap h' → GAt kd key h' a (if k ∈ ks then ks else ks ++ [k]) → Q .none { s with heap := h', toks := s.toks + 1 }) :
    wpAny (model P w) A (call (.builtin "set.add") [.ref a, x]) Q E s := by
  have ty : s.TypeIs (.ref a) "set" := by
    obtain ⟨o, es, ep, t, ho, ox, _⟩ := R
    exact ⟨o, ho, ox.1⟩
  refine wpAny_call_entry F.slot_set_add ty F.entry_set_add ?_ (F.args_set_add_2 _ _)
  unfold Builtin.«set.add» Builtin.Frozenset.oneOther Builtin.Frozenset.addrOf setAdd
  simp only [List.isEmpty_nil, bind_assoc]
  refine wpAny_bind (wpAny_pure (wpAny_bind (wpAny_pure (wpAny_bind (wpAny_holding (wpAny_bind (kd.pyHash hx ?_)))))))
  exact add_hashed (s := { s with toks := s.toks + 1 }) hk hx hsc R room fun b h' sb g => wpAny_pure ⟨_, rfl, hQ h' sb g⟩
theorem fresh (h : Heap) : GAt kd key (h.push { cls := .type "set", dict := none, data := .set #[] 0 (.fresh 0 0 (!w.params.followText "set-order")) }) h.objs.size [] := by
  refine ⟨_, #[], 0, _, Heap.get?_push_size _ rfl, ⟨rfl, rfl, rfl⟩, rfl, ⟨fun e z => by simp at z, .nil, by decide, rfl, List.Pairwise.nil, ?_⟩⟩
  show _ ∨ (!w.params.followText "set-order") = true
  cases w.params.followText "set-order"
  · exact .inr rfl
  · exact .inl rfl
end
end L2.GSet
set_option Elab.async false
set_option linter.all false
set_option maxRecDepth 100000
set_option maxHeartbeats 4000000
/-! Comprehensions of any kind with one or two `for`s, by what is laid ahead of them and what a turn's end does. -/
namespace L2.Cmp
open PySem PySem.Spec PyProof.Rows
/-- a turn's shape -/
def turnOf (tg : Expr) (ifs : List Expr) (p : Pos) (it : Value) (env : Env) (tail : Bool → Sem PySem.Fin) : Sem PySem.Fin := do
  standAt p
  match ← pyNext it with
  | none => pure (.done .next)
  | some v =>
    letOwnedTupleGo tg it v
    assign tg env v
    let ok ← forIn ifs true fun c r => if r = true then do let ok ← isTrue c env (eval c env); pure (ForInStep.yield ok) else pure (ForInStep.yield r)
    tail ok
/-- the innermost turn's end -/
def tailIn (em : Sem Unit) (cd : Code) : Bool → Sem PySem.Fin := fun ok => if ok = true then em >>= fun _ => again cd else again cd
/-- the outer one's: the second source is walked -/
def tailOut (node i1 : Expr) (acc : Value) (env : Env) (cd : Code) : Bool → Sem PySem.Fin := fun ok => if ok = true then do
    let x ← eval i1 env
    standAt i1.pos
    let x ← foldedSetIterable i1 env x
    let _ ← runOwn (.compStart node 1 (← holding [x] (pyIter x)) acc env) env
    again cd
  else again cd
/-- a set's, a list's or a dict's comprehension -/
def IsC (node : Expr) : Prop := (∃ e gs sc p, node = .SetComp e gs sc p) ∨ (∃ e gs sc p, node = .ListComp e gs sc p) ∨ ∃ k v gs sc p, node = .DictComp k v gs sc p
theorem IsC.den {prog : Program} {w : World} {node : Expr} (c : IsC node) (lvl : Nat) (it acc : Value) (env : Env) (A : Around) :
    (A.under (.compLoop node lvl it acc env) = A ∧ (model prog w).den (.compLoop node lvl it acc env) = (compTurn node lvl it acc env).onRaise (fun x => do noteFrame x env; theTreesLotGoes x) ∧ (Code.compLoop node lvl it acc env).quiet = true) ∧
    (A.under (.compStart node lvl it acc env) = A ∧ (model prog w).den (.compStart node lvl it acc env) = (compStart node lvl it acc env).onRaise (fun x => do noteFrame x env; standAt theWindowsPlace)) := by
  rcases c with ⟨e, gs, sc, p, rfl⟩ | ⟨e, gs, sc, p, rfl⟩ | ⟨k, v, gs, sc, p, rfl⟩ <;> exact ⟨⟨rfl, rfl, rfl⟩, rfl, rfl⟩
abbrev nil2 : Value → Shared → Prop := fun _ _ => False
theorem loop_any {prog : Program} {w : World} {A : Around} {R : Result → Shared → Prop} {s : Shared} {node : Expr} {lvl : Nat} {it acc : Value} {env : Env} (ic : IsC node) (Iv : Nat → Shared → Prop)
    (turn : ∀ n s, Iv n s → wpAny (model prog w) A (compTurn node lvl it acc env) (fun fin s' => match fin with | .done f => R (.ok f) s' | .again c' => c' = Code.compLoop node lvl it acc env ∧ ∃ m, m < n ∧ Iv m s') nil2 s)
    (n : Nat) (h : Iv n s) : codeAny (model prog w) A (.compLoop node lvl it acc env) R s := by
  obtain ⟨d1, d2, d3⟩ := (ic.den (prog := prog) (w := w) lvl it acc env A).1
  refine codeAny_loop d3 Iv (fun n s hI => ?_) n h
  rw [d1, d2]
  exact wpAny_noted (wpAny_mono (turn n s hI) (fun _ _ z => z) fun _ _ z => z.elim)
theorem start_any {prog : Program} {w : World} {A : Around} {R : Result → Shared → Prop} {s : Shared} {node tg iter : Expr} {ifs : List Expr} {lvl : Nat} {it acc : Value} {env : Env} (ic : IsC node) (hcl : (clausesOf node)[lvl]? = some ⟨tg, iter, ifs, 0⟩)
    (h0 : codeAny (model prog w) A (.compLoop node lvl it acc env) R s)
    (h : wpAny (model prog w) A (pyIter it) (fun it' s' => codeAny (model prog w) A (.compLoop node lvl it' acc env) R s') nil2 s) :
    codeAny (model prog w) A (.compStart node lvl it acc env) R s := by
  obtain ⟨d1, d2⟩ := (ic.den (prog := prog) (w := w) lvl it acc env A).2
  have qu : ∀ it', (Code.compLoop node lvl it' acc env).quiet = true := fun it' => (ic.den (prog := prog) (w := w) lvl it' acc env A).1.2.2
  refine codeAny_of_tree ?_
  rw [d1, d2]
  refine wpAny_notedAt ?_
  unfold compStart
  rw [hcl]
  show wpAny _ _ (ask >>= _) _ _ s
  refine wpAny_bind (wpAny_askSetting (wpAny_ite ?_))
  split
  · first
      | exact wpAny_bind (wpAny_pure (wpAny_pure (And.intro (qu _) h0)))
      | exact wpAny_pure (And.intro (qu _) h0)
  · refine wpAny_bind (wpAny_rule ?_)
    show wpAny _ _ (standAt iter.pos >>= _) _ _ s
    exact wpAny_bind (wpAny_standAt (wpAny_bind (wpAny_mono h (fun it' s' h' => wpAny_pure (And.intro (qu _) h')) fun _ _ z => z.elim)))
/-- what the end of a turn reaches from the slots σ: it forgets at most vs -/
def Past (B : Cx) (pins : List (Addr × Obj)) (vs : List Nat) (σ : List (Option V)) (C : Hp → Prop) (s' : Shared) : Prop :=
  ∃ σ' H', Inv B pins σ' H' s' ∧ σ'.length = σ.length ∧ (∀ (j : Nat) v, j ∉ vs → σ[j]? = some (some v) → σ'[j]? = some (some v)) ∧ C H'
abbrev TAc := List (Option V) → Hp → (Hp → Prop) → Prop
/-- the walk of one clause, as it is read -/
def Walk (J : It) (g : TG) (tt : TT) (ta : TAc) (vs : List Nat) (σ : List (Option V)) (Done : Hp → Prop) (H0 : Hp) : Prop :=
  ∃ W : Nat → Nat → Hp → Prop, (∃ m, W 0 m H0) ∧ ∀ i m H, W i m H → (J.stop i H ∧ Done H) ∨ (J.go i H ∧ ∃ Nx : Hp → Prop, (∀ H', Nx H' → ∃ m', m' < m ∧ W (i + 1) m' H') ∧
    ∀ x H', J.yld i H x H' → g x (wipe σ vs) H' fun σ2 H2 => wipe σ2 vs = wipe σ vs ∧ tt σ2 H2 fun b H3 => if b = true then ta σ2 H3 Nx else Nx H3)
section
variable {B : Cx} {pins : List (Addr × Obj)} {it : Addr} {fp : List Addr} {tn : Nat → Heap → Prop} {J : It} {vs : List Nat} {σ : List (Option V)} {tg : Expr} {ifs : List Expr} {g : TG} {tt : TT} {ta : TAc} {p : Pos} {tail : Bool → Sem PySem.Fin} {cd : Code}
theorem turn_ok (hx : B.xe = nil2) (hc : B.calm = true) (T : Turn B.prog B.w B.K tg J fp it tn) (pg : PG B tg g) (pt : PTs B ifs tt) (stat : ∀ H', (∀ b ∈ fp, H' b = none) → ∀ b ∈ fp, FpOk B pins H' b)
    (act : ∀ (pl : List (Addr × Obj)) s σ H C, Inv B pl σ H s → ta σ H C → wpAny (model B.prog B.w) B.A (tail true) (fun fin s' => fin = .again cd ∧ Past B pl vs σ C s') nil2 s) (no : tail false = again cd)
    {R : Result → Shared → Prop} {W : Nat → Nat → Hp → Prop} {Done : Hp → Prop} (hd : ∀ s' H', Inv B pins (wipe σ vs) H' s' → Done H' → R (.ok .next) s')
    (turn : ∀ i m H, W i m H → (J.stop i H ∧ Done H) ∨ (J.go i H ∧ ∃ Nx : Hp → Prop, (∀ H', Nx H' → ∃ m', m' < m ∧ W (i + 1) m' H') ∧
      ∀ x H', J.yld i H x H' → g x (wipe σ vs) H' fun σ2 H2 => wipe σ2 vs = wipe σ vs ∧ tt σ2 H2 fun b H3 => if b = true then ta σ2 H3 Nx else Nx H3)) (n : Nat) (s : Shared)
    (start : ∃ i H', Inv B pins (wipe σ vs) H' s ∧ tn i s.heap ∧ (∀ b ∈ fp, H' b = none) ∧ W i n H') :
    wpAny (model B.prog B.w) B.A (turnOf tg ifs p (.ref it) B.env tail) (fun fin s' => match fin with | .done f => R (.ok f) s' | .again c' => c' = cd ∧ ∃ m, m < n ∧ ∃ i H', Inv B pins (wipe σ vs) H' s' ∧ tn i s'.heap ∧ (∀ b ∈ fp, H' b = none) ∧ W i m H') nil2 s := by
  obtain ⟨i, H5, I5, st5, n5, w5⟩ := start
  unfold turnOf
  refine wpAny_bind (wpAny_standAt (wpAny_bind ?_))
  rcases turn i n H5 w5 with ⟨stop, dn⟩ | ⟨go, Nx, hNx, step⟩
  · refine thnF (T.done B rfl rfl rfl hc i pins s _ H5 nil2 I5 (stat _ n5) st5 stop) fun r s6 ⟨hr, I6⟩ => ?_
    subst hr
    exact wpAny_pure (hd _ _ I6 dn)
  · refine thnF (T.item B rfl rfl rfl hc i pins s _ H5 nil2 I5 (stat _ n5) st5 go) fun r s6 ⟨u, hr, h6⟩ => ?_
    subst hr
    refine wpAny_bind (thnF h6 fun _ s7 ⟨x, H7, I7, r7, y7, st7, n7⟩ => ?_)
    have a1 := pg.run _ s7 _ H7 x u _ (I7.pinned (stat _ n7) (T.obj _ _ st7)) r7 (step x H7 y7)
    rw [hx] at a1
    refine wpAny_bind (thnF a1 fun _ s8 ⟨σ8, H8, I8, hw8, q8⟩ => ?_)
    have a2 := pt.run _ s8 σ8 H8 _ I8 q8
    rw [hx] at a2
    refine wpAny_bind (thnF a2 fun b s9 ⟨H9, I9, q9⟩ => ?_)
    have fin : ∀ s', Past B (pins ++ pinsAt fp s7.heap) vs σ8 Nx s' → ∃ m, m < n ∧ ∃ i H', Inv B pins (wipe σ vs) H' s' ∧ tn i s'.heap ∧ (∀ b ∈ fp, H' b = none) ∧ W i m H' := by
      rintro s' ⟨σ', H', I', hl, hk, nx⟩
      obtain ⟨m, lt, wm⟩ := hNx H' nx
      have there : ∀ b ∈ fp, ∀ o, s7.heap.get? b = some o → s'.heap.get? b = some o ∧ H' b = none := fun b hb o e =>
        let z := I'.pin (b, o) (List.mem_append_right _ (List.mem_append_right _ (mem_pinsAt hb e)))
        ⟨z.1, z.2.1⟩
      refine ⟨m, lt, i + 1, H', I'.unpinned.weak ?_ ?_, T.keep _ _ _ st7 fun b hb o e => (there b hb o e).1, fun b hb => ?_, wm⟩
      · rw [hl, ← hw8, wipe_length]
      · intro j v e
        rw [← hw8] at e
        exact hk j v (wipe_some e).2 (wipe_some e).1
      · obtain ⟨o, e, _⟩ := T.obj _ _ st7 b hb
        exact (there b hb o e).2
    cases b with
    | false =>
      rw [no]
      exact wpAny_pure ⟨rfl, fin _ ⟨σ8, H9, I9, rfl, fun _ _ _ e => e, q9⟩⟩
    | true =>
      refine wpAny_mono (act _ s9 σ8 H9 _ I9 q9) (fun f s' z => ?_) fun _ _ z => z.elim
      obtain ⟨rfl, pa⟩ := z
      exact ⟨rfl, fin _ pa⟩
/-- the whole loop of a clause -/
theorem clause_ok {node : Expr} {lvl : Nat} {acc : Value} (ic : IsC node) (ht : compTurn node lvl (.ref it) acc B.env = turnOf tg ifs p (.ref it) B.env tail) (hcd : cd = .compLoop node lvl (.ref it) acc B.env)
    (hx : B.xe = nil2) (hc : B.calm = true) (T : Turn B.prog B.w B.K tg J fp it tn) (pg : PG B tg g) (pt : PTs B ifs tt) (stat : ∀ H', (∀ b ∈ fp, H' b = none) → ∀ b ∈ fp, FpOk B pins H' b)
    (act : ∀ (pl : List (Addr × Obj)) s σ H C, Inv B pl σ H s → ta σ H C → wpAny (model B.prog B.w) B.A (tail true) (fun fin s' => fin = .again cd ∧ Past B pl vs σ C s') nil2 s) (no : tail false = again cd)
    {R : Result → Shared → Prop} {Done : Hp → Prop} (hd : ∀ s' H', Inv B pins (wipe σ vs) H' s' → Done H' → R (.ok .next) s')
    {H0 : Hp} (wk : Walk J g tt ta vs σ Done H0) {s : Shared} (I : Inv B pins (wipe σ vs) H0 s) (st : tn 0 s.heap) (n0 : ∀ b ∈ fp, H0 b = none) :
    codeAny (model B.prog B.w) B.A (.compLoop node lvl (.ref it) acc B.env) R s := by
  obtain ⟨W, ⟨m0, w0⟩, turn⟩ := wk
  subst hcd
  refine loop_any ic (fun n s' => ∃ i H', Inv B pins (wipe σ vs) H' s' ∧ tn i s'.heap ∧ (∀ b ∈ fp, H' b = none) ∧ W i n H') (fun n s' z => ?_) m0 ⟨0, H0, I, st, n0, w0⟩
  rw [ht]
  exact turn_ok hx hc T pg pt stat act no hd turn n s' z
/-- the end of an innermost turn, by what the code em does -/
theorem act_in {em : Sem Unit} (h : ∀ (pl : List (Addr × Obj)) s σ H C, Inv B pl σ H s → ta σ H C → wpAny (model B.prog B.w) B.A em (fun _ s' => ∃ H', Inv B pl σ H' s' ∧ C H') nil2 s) :
    ∀ (pl : List (Addr × Obj)) s σ H C, Inv B pl σ H s → ta σ H C → wpAny (model B.prog B.w) B.A (tailIn em cd true) (fun fin s' => fin = .again cd ∧ Past B pl vs σ C s') nil2 s := by
  intro pl s σ H C I q
  show wpAny _ _ (em >>= fun _ => again cd) _ _ s
  exact wpAny_bind (wpAny_mono (h pl s σ H C I q) (fun _ s' ⟨H', I', c⟩ => wpAny_pure ⟨rfl, σ, H', I', rfl, fun _ _ _ e => e, c⟩) fun _ _ z => z)
/-- the end of an outer turn -/
theorem act_out {node i1 t1 : Expr} {ifs1 : List Expr} {acc : Value} {wi1 : TI} {g1 : TG} {tt1 : TT} {vs1 : List Nat} {em : Sem Unit} {p1 : Pos} (ic : IsC node) (hcl : (clausesOf node)[1]? = some ⟨t1, i1, ifs1, 0⟩)
    (ht : ∀ it1, compTurn node 1 (.ref it1) acc B.env = turnOf t1 ifs1 p1 (.ref it1) B.env (tailIn em (.compLoop node 1 (.ref it1) acc B.env)))
    (hx : B.xe = nil2) (hc : B.calm = true) (hv : ∀ i ∈ vs1, i ∈ vs) (hs : ∀ x, foldedSetIterable i1 B.env x = pure x) (hi1 : PI B t1 i1 wi1) (pg1 : PG B t1 g1) (pt1 : PTs B ifs1 tt1)
    (h : ∀ (pl : List (Addr × Obj)) s σ H C, Inv B pl σ H s → ta σ H C → wpAny (model B.prog B.w) B.A em (fun _ s' => ∃ H', Inv B pl σ H' s' ∧ C H') nil2 s) :
    ∀ (pl : List (Addr × Obj)) s σ H C, Inv B pl σ H s → (wi1 σ H fun J1 H1 => Walk J1 g1 tt1 ta vs1 σ C H1) →
      wpAny (model B.prog B.w) B.A (tailOut node i1 acc B.env cd true) (fun fin s' => fin = .again cd ∧ Past B pl vs σ C s') nil2 s := by
  intro pl s σ H C I q
  unfold tailOut
  rw [if_pos rfl]
  have a1 := hi1.run pl s σ H _ I q
  rw [hx] at a1
  refine wpAny_bind (thnF a1 fun xv s1 a2 => ?_)
  refine wpAny_bind (wpAny_standAt (wpAny_bind (wpAny_of_eq (hs xv) (wpAny_bind (wpAny_holding (thnF a2 fun itv s2 z => ?_))))))
  obtain ⟨it1, fp1, tn1, J1, H2, rfl, I2, T1, st2, f2, wk⟩ := z
  refine wpAny_bind (wpAny_runOwn ?_)
  have stat1 : ∀ H', (∀ b ∈ fp1, H' b = none) → ∀ b ∈ fp1, FpOk B pl H' b := fun H' hn b hb => ⟨hn b hb, (f2 b hb).2⟩
  have lp : codeAny (model B.prog B.w) B.A (.compLoop node 1 (.ref it1) acc B.env) (fun r s' => match r with | .ok _ => Past B pl vs σ C s' | .error _ => False) s2 :=
    clause_ok (cd := .compLoop node 1 (.ref it1) acc B.env) ic (ht it1) rfl hx hc T1 pg1 pt1 stat1 (act_in h) rfl
      (fun s' H' I' c => ⟨wipe σ vs1, H', I', wipe_length _ _, fun j v nj e => by rw [wipe_out fun m => nj (hv j m)]; exact e, c⟩) wk (I2.weak (wipe_length _ _) fun j v e => (wipe_some e).1) st2 fun b hb => (f2 b hb).1
  rw [Around.mark_none]
  refine codeAny_mono (start_any ic hcl lp (T1.self B.A 0 _ _ _ st2 lp)) fun r s' hr => ?_
  cases r with
  | error e => exact hr.elim
  | ok f => first
    | exact wpAny_pure ⟨rfl, hr⟩
    | exact wpAny_bind (wpAny_pure (wpAny_pure ⟨rfl, hr⟩))
end
end L2.Cmp
set_option Elab.async false
set_option linter.all false
set_option maxRecDepth 100000
set_option maxHeartbeats 4000000
/-! Set comprehensions with one or two `for`s. -/
namespace L2.Cmp
open PySem PySem.Spec PyProof.Rows
section
variable {X : Cx}
/-- from the comprehension to its first clause's loop -/
theorem block_any {pins : List (Addr × Obj)} {s : Shared} {σ : L2.St} {H : Hp} {Q : VK} {node tg iter : Expr} {ifs : List Expr} {rest : List Comprehension} {scope : Scope} {own : List (PySem.Str × Nat)} {pos' : Pos} {wi : TI} {use : Option (Value → Sem Unit)} {Qf : Value → Shared → Prop}
    {newAcc : Sem Value} {O : Obj} {emp : Addr → HO} {Rd : It → Addr → Hp → Prop} (ic : IsC node) (hcl : clausesOf node = ⟨tg, iter, ifs, 0⟩ :: rest)
    (hnew : ∀ {s : Shared} {Q E : Value → Shared → Prop}, Q (.ref s.heap.objs.size) { s with heap := s.heap.push O } → wpAny (model X.prog X.w) X.A newAcc Q E s)
    (hemp : ∀ {pins : List (Addr × Obj)} {σ : L2.St} {H : Hp} {s : Shared}, Inv X pins σ H s → ∀ H' : Hp, ObjOk X.prog X.w H' (s.heap.push O) s.heap.objs.size (emp s.heap.objs.size))
    (hc : X.calm = true) (hN : X.N.Nodup) (I : Inv X pins σ H s) (hi : PI X tg iter wi) (ok : BlkOk X.N X.env.scope scope own) (hs : ∀ x, foldedSetIterable iter X.env x = pure x)
    (h : wi σ H fun J H1 => ∀ D, H1 D = none → Rd J D (upd H1 D (emp D)))
    (loop : ∀ (s3 : Shared) (H3 : Hp) (C : Addr) (cl : List (PySem.Str × Addr)) (fp : List Addr) (it : Addr) (tn : Nat → Heap → Prop) (J : It) (D : Addr) (s4 : Shared), Turn X.prog X.w X.K tg J fp it tn →
      (∀ H', (∀ b ∈ fp, H' b = none) → ∀ b ∈ fp, FpOk (X.blk s3 H3 scope (compEnvC scope cl C X.env) fp) [] H' b) → Inv (X.blk s3 H3 scope (compEnvC scope cl C X.env) fp) [] (wipe σ (own.map (·.2))) H3 s4 → tn 0 s4.heap → (∀ b ∈ fp, H3 b = none) → Rd J D H3 →
      codeAny (model X.prog X.w) X.A (.compLoop node 0 (.ref it) (.ref D) (compEnvC scope cl C X.env)) (fun r s' => match r with
        | .ok _ => ∃ H', Inv (X.blk s3 H3 scope (compEnvC scope cl C X.env) fp) [] (wipe σ (own.map (·.2))) H' s' ∧ Q (.ref D) H'
        | .error _ => False) s4)
    (hRR : ∀ D C s' m H', Inv X pins σ H' s' → Q (.ref D) H' → s'.heap.Ns C m → FpOk X pins H' C → compPost (model X.prog X.w) X.A X.xe use Qf (.ref D) C (.ok .next) s') :
    wpAny (model X.prog X.w) X.A (comprehension node scope X.env pos' newAcc false (eval iter X.env) use) Qf X.xe s := by
  have frees : ∀ y ∈ scope.names, y.2 = .free → ∃ c, X.env.cells.lookup y.1 = some c := fun y hy e => (ok.free y hy e).elim (fun k => I.ok.has _ (.inl k)) fun k => I.ok.has _ (.inr k)
  refine wpAny_comprehension_free (use := use) hcl hs (closure_ok frees) ok.kind (fun y hy e => by rw [ok.uniq y hy, e]) (thn (hi.run pins s σ H _ I h) fun xv s1 hx => thn hx fun itv s2 z => ?_)
  obtain ⟨it, fp, tn, J, H2, rfl, I2, T, st2, f2, q⟩ := z
  refine hnew (newEnv_comp ?_)
  obtain ⟨D, hD⟩ : ∃ D, s2.heap.objs.size = D := ⟨_, rfl⟩
  have rd := q D (I2.hok.fresh (Nat.le_of_eq hD))
  obtain ⟨s3, hs3⟩ : ∃ s3 : Shared, ({ s2 with heap := s2.heap.push O } : Shared) = s3 := ⟨_, rfl⟩
  have push3 : s3.heap = s2.heap.push O := by rw [← hs3]
  have I3 : Inv X pins σ (upd H2 D (emp D)) s3 := by
    rw [← hs3, ← hD]
    exact I2.laid (t' := s2.toks) (fun b o e => Heap.get?_push_of_some _ e) (Nat.le_refl _) (hemp I2 _)
  have f3 : ∀ b ∈ fp, FpOk X pins (upd H2 D (emp D)) b ∧ b < s3.heap.objs.size := fun b hb => by
    obtain ⟨o, e, _⟩ := T.obj _ _ st2 b hb
    have lt := Heap.lt_size e
    refine ⟨⟨?_, (f2 b hb).2⟩, by rw [push3, Heap.size_push]; exact Nat.lt_succ_of_lt lt⟩
    rw [upd_ne (Nat.ne_of_lt (hD ▸ lt))]
    exact (f2 b hb).1
  have st3 : tn 0 s3.heap := T.keep _ _ _ st2 fun b _ o e => by rw [push3]; exact Heap.get?_push_of_some _ e
  rw [hD, hs3]
  generalize hH3 : upd H2 D (emp D) = H3 at I3 f3 rd
  have I4 := block_start I3 ok hN f3
  generalize hcl' : cellsFrom (s3.heap.objs.size + 1) scope.names (cloFrom X.env.cells scope.names []) = cl at I4 ⊢
  obtain ⟨s4, hs4⟩ : ∃ s4 : Shared, ({ s3 with heap := pushCells (s3.heap.push { cls := .type "dict", data := .dict #[] }) scope.names } : Shared) = s4 := ⟨_, rfl⟩
  rw [hs4] at I4
  have st4 : tn 0 s4.heap := T.keep _ _ _ st3 fun b _ o e => by rw [← hs4]; exact pushCells_keeps _ _ _ _ (Heap.get?_push_of_some _ e)
  have nfp : ∀ b ∈ fp, H3 b = none := fun b hb => (f3 b hb).1.1
  have stat : ∀ H', (∀ b ∈ fp, H' b = none) → ∀ b ∈ fp, FpOk (X.blk s3 H3 scope (compEnvC scope cl s3.heap.objs.size X.env) fp) [] H' b := fun H' hn b hb =>
    ⟨hn b hb, (I4.ok.exf b hb).1, I4.ok.exfs b hb, .inl hb, fun x c e => (I4.ok.exf b hb).2 x c e, fun p hp => absurd (show p ∈ ([] : List (Addr × Obj)) ++ [] from hp) (by simp)⟩
  show codeAny _ _ (.compStart node 0 (.ref it) (.ref D) (compEnvC scope cl s3.heap.objs.size X.env)) (compPost (model X.prog X.w) X.A X.xe use Qf (.ref D) s3.heap.objs.size) _
  rw [hs4]
  have lp := codeAny_mono (loop s3 H3 s3.heap.objs.size cl fp it tn J D s4 T stat I4 st4 nfp rd) (R' := compPost (model X.prog X.w) X.A X.xe use Qf (.ref D) s3.heap.objs.size) fun r s' z => by
    cases r with
    | error e => exact z.elim
    | ok f =>
      obtain ⟨H', I', qq⟩ := z
      have I7 : Inv X pins σ H' s' := I3.call' (ch := fp) I'.os I'.base I'.hok I'.bare fun b hb => ⟨(f3 b hb).1.2.2.2.1, (f3 b hb).1.2.1, (f3 b hb).1.2.2.2.2.1, (f3 b hb).1.2.2.2.2.2⟩
      have nC : H' s3.heap.objs.size = none := I'.free
      obtain ⟨m, hn, _⟩ := I'.loc
      have cp := hRR D s3.heap.objs.size s' m H' I7 qq hn (I3.fpOk (Nat.le_refl _) nC)
      cases use <;> exact cp
  exact start_any ic (by rw [hcl]; rfl) lp (T.self X.A 0 _ _ _ st4 lp)
end
/-- how values go into a new set -/
structure Adder (P : Program) (w : World) where
  emp : Addr → HO
  ad : Addr → V → Hp → (Hp → Prop) → Prop
  fresh : ∀ (H : Hp) (h : Heap), ObjOk P w H (h.push { cls := .type "set", dict := none, data := .set #[] 0 (.fresh 0 0 (!w.params.followText "set-order")) }) h.objs.size (emp h.objs.size)
  add : ∀ {X : Cx}, X.prog = P → X.w = w → ∀ {pins : List (Addr × Obj)} {σ : L2.St} {H : Hp} {s : Shared} {E : Value → Shared → Prop} {D : Addr} {y : V} {v : Value} {C : Hp → Prop}, Inv X pins σ H s → RelV y v → ad D y H C →
    wpAny (model P w) X.A (call (.builtin "set.add") [.ref D, v]) (fun _ s' => ∃ H', Inv X pins σ H' s' ∧ C H') E s
/-- an item into the set at D -/
def tAd {P : Program} {w : World} (M : Adder P w) (te : TE) (D : Addr) : TAc := fun σ H C => te σ H fun y H' => M.ad D y H' C
def tSet1 {P : Program} {w : World} (M : Adder P w) (wi : TI) (g : TG) (tt : TT) (te : TE) (vs : List Nat) : TE := fun σ H Q => wi σ H fun J H1 => ∀ D, H1 D = none → Walk J g tt (tAd M te D) vs σ (fun H => Q (.ref D) H) (upd H1 D (M.emp D))
def tSet2 {P : Program} {w : World} (M : Adder P w) (wi : TI) (g : TG) (tt : TT) (wi1 : TI) (g1 : TG) (tt1 : TT) (te : TE) (vs vs1 : List Nat) : TE := fun σ H Q => wi σ H fun J H1 => ∀ D, H1 D = none →
  Walk J g tt (fun σ2 H2 C => wi1 σ2 H2 fun J1 H3 => Walk J1 g1 tt1 (tAd M te D) vs1 σ2 C H3) vs σ (fun H => Q (.ref D) H) (upd H1 D (M.emp D))
section
variable {X : Cx} {elt tg iter : Expr} {ifs : List Expr} {scope : Scope} {own : List (PySem.Str × Nat)} {pos : Pos} {wi : TI} {g : TG} {tt : TT} {te : TE}
theorem emit_ok {B : Cx} (M : Adder B.prog B.w) (hx : B.xe = nil2) (he : PE B elt te) {D : Addr} : ∀ (pl : List (Addr × Obj)) s σ H C, Inv B pl σ H s → tAd M te D σ H C →
    wpAny (model B.prog B.w) B.A (do let v ← eval elt B.env; standAt elt.pos; let _ ← call (.builtin "set.add") [.ref D, v]) (fun _ s' => ∃ H', Inv B pl σ H' s' ∧ C H') nil2 s := by
  intro pl s σ H C I q
  have a1 := he.run pl s σ H _ I q
  rw [hx] at a1
  exact wpAny_bind (thnF a1 fun v s1 ⟨y, H1, I1, r1, q1⟩ => wpAny_bind (wpAny_standAt (wpAny_bind (thnF (M.add rfl rfl I1 r1 q1) fun _ s2 z => wpAny_pure z))))
theorem pe_set1 (M : Adder X.prog X.w) (hc : X.calm = true) (hN : X.N.Nodup) (hi : PI X tg iter wi) (ok : BlkOk X.N X.env.scope scope own)
    (hg : ∀ (s : Shared) (H : Hp) (C : Addr) (cl : List (PySem.Str × Addr)) (fp : List Addr), PG (X.blk s H scope (compEnvC scope cl C X.env) fp) tg g) (ht : ∀ (s : Shared) (H : Hp) (C : Addr) (cl : List (PySem.Str × Addr)) (fp : List Addr), PTs (X.blk s H scope (compEnvC scope cl C X.env) fp) ifs tt)
    (he : ∀ (s : Shared) (H : Hp) (C : Addr) (cl : List (PySem.Str × Addr)) (fp : List Addr), PE (X.blk s H scope (compEnvC scope cl C X.env) fp) elt te) (hs : ∀ x, foldedSetIterable iter X.env x = pure x := by intro _; rfl) :
    PE X (.SetComp elt [⟨tg, iter, ifs, 0⟩] scope pos) (tSet1 M wi g tt te (own.map (·.2))) := by
  refine ⟨fun pins s σ H Q I h => ?_⟩
  rw [PpSet.eval_SetComp]
  refine block_any (Q := Q) (Rd := fun J D H1 => Walk J g tt (tAd M te D) (own.map fun z : PySem.Str × Nat => z.2) σ (fun H => Q (.ref D) H) H1) (.inl ⟨_, _, _, _, rfl⟩) rfl (fun q => PpSet.newSet_ok q) (fun _ _ => M.fresh _ _) hc hN I hi ok hs h
    (fun s3 H3 C cl fp it tn J D s4 T stat I4 st4 nfp rd => ?_) fun D C s' m H' I' q hn f => ⟨m, hn, fun h'' sb => ?_⟩
  · exact clause_ok (B := X.blk s3 H3 scope (compEnvC scope cl C X.env) fp) (tail := tailIn _ _) (p := iter.pos) (.inl ⟨_, _, _, _, rfl⟩) rfl rfl rfl hc T (hg s3 H3 C cl fp) (ht s3 H3 C cl fp) stat (act_in (emit_ok (B := X.blk s3 H3 scope (compEnvC scope cl C X.env) fp) M rfl (he s3 H3 C cl fp))) rfl
      (fun s' H' I' d => ⟨H', I', d⟩) rd I4 st4 nfp
  · obtain ⟨f0, f1, f2, f3, f4, f5⟩ := f
    exact ⟨.ref D, H', I'.turned (t' := s'.toks) (fun b o hb e => (sb.2 b hb).trans e) f0 f1 f3 f4 f5, rfl, q⟩
theorem pe_set2 (M : Adder X.prog X.w) {tg1 iter1 : Expr} {ifs1 : List Expr} {wi1 : TI} {g1 : TG} {tt1 : TT} {vs1 : List Nat} (hc : X.calm = true) (hN : X.N.Nodup) (hi : PI X tg iter wi) (ok : BlkOk X.N X.env.scope scope own) (hv : ∀ i ∈ vs1, i ∈ own.map (·.2))
    (hg : ∀ (s : Shared) (H : Hp) (C : Addr) (cl : List (PySem.Str × Addr)) (fp : List Addr), PG (X.blk s H scope (compEnvC scope cl C X.env) fp) tg g) (ht : ∀ (s : Shared) (H : Hp) (C : Addr) (cl : List (PySem.Str × Addr)) (fp : List Addr), PTs (X.blk s H scope (compEnvC scope cl C X.env) fp) ifs tt)
    (hi1 : ∀ (s : Shared) (H : Hp) (C : Addr) (cl : List (PySem.Str × Addr)) (fp : List Addr), PI (X.blk s H scope (compEnvC scope cl C X.env) fp) tg1 iter1 wi1)
    (hg1 : ∀ (s : Shared) (H : Hp) (C : Addr) (cl : List (PySem.Str × Addr)) (fp : List Addr), PG (X.blk s H scope (compEnvC scope cl C X.env) fp) tg1 g1) (ht1 : ∀ (s : Shared) (H : Hp) (C : Addr) (cl : List (PySem.Str × Addr)) (fp : List Addr), PTs (X.blk s H scope (compEnvC scope cl C X.env) fp) ifs1 tt1)
    (he : ∀ (s : Shared) (H : Hp) (C : Addr) (cl : List (PySem.Str × Addr)) (fp : List Addr), PE (X.blk s H scope (compEnvC scope cl C X.env) fp) elt te)
    (hs : ∀ x, foldedSetIterable iter X.env x = pure x := by intro _; rfl) (hs1 : ∀ env x, foldedSetIterable iter1 env x = pure x := by intro _ _; rfl) :
    PE X (.SetComp elt [⟨tg, iter, ifs, 0⟩, ⟨tg1, iter1, ifs1, 0⟩] scope pos) (tSet2 M wi g tt wi1 g1 tt1 te (own.map (·.2)) vs1) := by
  refine ⟨fun pins s σ H Q I h => ?_⟩
  rw [PpSet.eval_SetComp]
  refine block_any (Q := Q) (Rd := fun J D H1 => Walk J g tt (fun σ2 H2 C => wi1 σ2 H2 fun J1 H3 => Walk J1 g1 tt1 (tAd M te D) vs1 σ2 C H3) (own.map fun z : PySem.Str × Nat => z.2) σ (fun H => Q (.ref D) H) H1) (.inl ⟨_, _, _, _, rfl⟩) rfl (fun q => PpSet.newSet_ok q) (fun _ _ => M.fresh _ _) hc hN I hi ok hs h
    (fun s3 H3 C cl fp it tn J D s4 T stat I4 st4 nfp rd => ?_) fun D C s' m H' I' q hn f => ⟨m, hn, fun h'' sb => ?_⟩
  · exact clause_ok (B := X.blk s3 H3 scope (compEnvC scope cl C X.env) fp) (tail := tailOut _ iter1 (.ref D) _ _) (p := iter.pos) (.inl ⟨_, _, _, _, rfl⟩) rfl rfl rfl hc T (hg s3 H3 C cl fp) (ht s3 H3 C cl fp) stat
      (act_out (p1 := iter1.pos) (.inl ⟨_, _, _, _, rfl⟩) rfl (fun it1 => rfl) rfl hc hv (hs1 _) (hi1 s3 H3 C cl fp) (hg1 s3 H3 C cl fp) (ht1 s3 H3 C cl fp) (emit_ok (B := X.blk s3 H3 scope (compEnvC scope cl C X.env) fp) M rfl (he s3 H3 C cl fp))) rfl
      (fun s' H' I' d => ⟨H', I', d⟩) rd I4 st4 nfp
  · obtain ⟨f0, f1, f2, f3, f4, f5⟩ := f
    exact ⟨.ref D, H', I'.turned (t' := s'.toks) (fun b o hb e => (sb.2 b hb).trans e) f0 f1 f3 f4 f5, rfl, q⟩
end
/-- a key and a value into the dict at D -/
def tPut (tk tv : TE) (D : Addr) : TAc := fun σ H C => tk σ H fun y H1 => tv σ H1 fun x H2 => ∃ (kvs : List (Key × V)) (k : Key), y = kV k ∧ H2 D = some (.dK kvs) ∧ kvs.length < sizeLine ∧ C (upd H2 D (.dK (putK kvs k x)))
def tDict2 (wi : TI) (g : TG) (tt : TT) (wi1 : TI) (g1 : TG) (tt1 : TT) (tk tv : TE) (vs vs1 : List Nat) : TE := fun σ H Q => wi σ H fun J H1 => ∀ D, H1 D = none →
  Walk J g tt (fun σ2 H2 C => wi1 σ2 H2 fun J1 H3 => Walk J1 g1 tt1 (tPut tk tv D) vs1 σ2 C H3) vs σ (fun H => Q (.ref D) H) (upd H1 D (.dK []))
section
variable {X : Cx} {kx vx tg iter : Expr} {ifs : List Expr} {scope : Scope} {own : List (PySem.Str × Nat)} {pos : Pos} {wi : TI} {g : TG} {tt : TT} {tk tv : TE}
theorem emit_put {B : Cx} (hx : B.xe = nil2) (hk : PE B kx tk) (hv : PE B vx tv) {D : Addr} {p : Pos} : ∀ (pl : List (Addr × Obj)) s σ H C, Inv B pl σ H s → tPut tk tv D σ H C →
    wpAny (model B.prog B.w) B.A (do let kv ← eval kx B.env; let vv ← holding [kv] (eval vx B.env); standAt p; holding [kv, vv] (dictSet D kv vv)) (fun _ s' => ∃ H', Inv B pl σ H' s' ∧ C H') nil2 s := by
  intro pl s σ H C I q
  have a1 := hk.run pl s σ H _ I q
  rw [hx] at a1
  refine wpAny_bind (thnF a1 fun kv s1 ⟨y, H1, I1, r1, q1⟩ => ?_)
  have a2 := hv.run pl s1 σ H1 _ I1 q1
  rw [hx] at a2
  refine wpAny_bind (wpAny_holding (thnF a2 fun vv s2 ⟨x, H2, I2, r2, kvs, k, ey, hD, few, c⟩ => ?_))
  subst ey
  exact wpAny_bind (wpAny_standAt (wpAny_holding (d_dictSet I2 hD few r1 r2 fun s3 I3 => ⟨_, I3, c⟩)))
theorem pe_dict2 {tg1 iter1 : Expr} {ifs1 : List Expr} {wi1 : TI} {g1 : TG} {tt1 : TT} {vs1 : List Nat} (hc : X.calm = true) (hN : X.N.Nodup) (hi : PI X tg iter wi) (ok : BlkOk X.N X.env.scope scope own) (hv : ∀ i ∈ vs1, i ∈ own.map (·.2))
    (hg : ∀ (s : Shared) (H : Hp) (C : Addr) (cl : List (PySem.Str × Addr)) (fp : List Addr), PG (X.blk s H scope (compEnvC scope cl C X.env) fp) tg g) (ht : ∀ (s : Shared) (H : Hp) (C : Addr) (cl : List (PySem.Str × Addr)) (fp : List Addr), PTs (X.blk s H scope (compEnvC scope cl C X.env) fp) ifs tt)
    (hi1 : ∀ (s : Shared) (H : Hp) (C : Addr) (cl : List (PySem.Str × Addr)) (fp : List Addr), PI (X.blk s H scope (compEnvC scope cl C X.env) fp) tg1 iter1 wi1)
    (hg1 : ∀ (s : Shared) (H : Hp) (C : Addr) (cl : List (PySem.Str × Addr)) (fp : List Addr), PG (X.blk s H scope (compEnvC scope cl C X.env) fp) tg1 g1) (ht1 : ∀ (s : Shared) (H : Hp) (C : Addr) (cl : List (PySem.Str × Addr)) (fp : List Addr), PTs (X.blk s H scope (compEnvC scope cl C X.env) fp) ifs1 tt1)
    (hk : ∀ (s : Shared) (H : Hp) (C : Addr) (cl : List (PySem.Str × Addr)) (fp : List Addr), PE (X.blk s H scope (compEnvC scope cl C X.env) fp) kx tk) (he : ∀ (s : Shared) (H : Hp) (C : Addr) (cl : List (PySem.Str × Addr)) (fp : List Addr), PE (X.blk s H scope (compEnvC scope cl C X.env) fp) vx tv)
    (hs : ∀ x, foldedSetIterable iter X.env x = pure x := by intro _; rfl) (hs1 : ∀ env x, foldedSetIterable iter1 env x = pure x := by intro _ _; rfl) :
    PE X (.DictComp kx vx [⟨tg, iter, ifs, 0⟩, ⟨tg1, iter1, ifs1, 0⟩] scope pos) (tDict2 wi g tt wi1 g1 tt1 tk tv (own.map (·.2)) vs1) := by
  refine ⟨fun pins s σ H Q I h => ?_⟩
  rw [arm_eval_DictComp]
  refine block_any (Q := Q) (Rd := fun J D H1 => Walk J g tt (fun σ2 H2 C => wi1 σ2 H2 fun J1 H3 => Walk J1 g1 tt1 (tPut tk tv D) vs1 σ2 C H3) (own.map fun z : PySem.Str × Nat => z.2) σ (fun H => Q (.ref D) H) H1) (emp := fun _ => .dK []) (.inr (.inr ⟨_, _, _, _, _, rfl⟩)) rfl
    (fun q => wpAny_newObj_type q) (fun I' H' => dk_empty _ I'.big) hc hN I hi ok hs h
    (fun s3 H3 C cl fp it tn J D s4 T stat I4 st4 nfp rd => ?_) fun D C s' m H' I' q hn f => ⟨m, hn, fun h'' sb => ?_⟩
  · exact clause_ok (B := X.blk s3 H3 scope (compEnvC scope cl C X.env) fp) (tail := tailOut _ iter1 (.ref D) _ _) (p := iter.pos) (.inr (.inr ⟨_, _, _, _, _, rfl⟩)) rfl rfl rfl hc T (hg s3 H3 C cl fp) (ht s3 H3 C cl fp) stat
      (act_out (p1 := iter1.pos) (.inr (.inr ⟨_, _, _, _, _, rfl⟩)) rfl (fun it1 => rfl) rfl hc hv (hs1 _) (hi1 s3 H3 C cl fp) (hg1 s3 H3 C cl fp) (ht1 s3 H3 C cl fp) (emit_put (B := X.blk s3 H3 scope (compEnvC scope cl C X.env) fp) rfl (hk s3 H3 C cl fp) (he s3 H3 C cl fp))) rfl
      (fun s' H' I' d => ⟨H', I', d⟩) rd I4 st4 nfp
  · obtain ⟨f0, f1, f2, f3, f4, f5⟩ := f
    exact ⟨.ref D, H', I'.turned (t' := s'.toks) (fun b o hb e => (sb.2 b hb).trans e) f0 f1 f3 f4 f5, rfl, q⟩
end
end L2.Cmp
set_option Elab.async false
set_option linter.all false
set_option maxRecDepth 100000
set_option maxHeartbeats 4000000
/-! Sets of texts: as tracked things, by comprehension, sorted. -/
namespace L2.TxtSet
open PySem PySem.Spec PyProof.Rows L2.GSet L2.Cmp
def keyT : Value → Str
  | .str x _ => x
  | _ => ⟨#[]⟩
theorem keyT_is (P : Program) (w : World) : ∀ k v, (PySem.strKind P w).is k v = true → keyT v = k := fun k v h => by
  obtain ⟨t, rfl⟩ := Value.isStrOf_shape h
  rfl
/-- the set of texts at a: ks, in some order -/
def SetT (P : Program) (w : World) (a : Addr) (ks : List Str) : HO := .ext fun h => GAt (PySem.strKind P w) keyT h a ks
theorem setT_new {P : Program} {w : World} {H : Hp} {h : Heap} {a : Addr} {ks : List Str} (R : GAt (PySem.strKind P w) keyT h a ks) : ObjOk P w H h a (SetT P w a ks) := ⟨R, R.some, fun h1 h2 p k => GAt.keep p k⟩
section
variable {X : Cx} {pins : List (Addr × Obj)} {σ : L2.St} {H : Hp} {s : Shared}
theorem setT_get {a : Addr} {ks : List Str} (I : Inv X pins σ H s) (ha : H a = some (SetT X.prog X.w a ks)) : GAt (PySem.strKind X.prog X.w) keyT s.heap a ks := (I.hok a _ ha).1
end
/-- texts into a set of texts -/
def addT (P : Program) (w : World) : Adder P w where
  emp := fun D => SetT P w D []
  ad := fun D y H C => ∃ (z : Str) (ks : List Str), y = .str z ∧ H D = some (SetT P w D ks) ∧ ks.length + 1 < scanBound ∧ C (upd H D (SetT P w D (if z ∈ ks then ks else ks ++ [z])))
  fresh := fun H h => setT_new (GSet.fresh h)
  add := fun {X} hP hw {pins σ H s E D y v C} I r q => by
    subst hP
    subst hw
    obtain ⟨z, ks, rfl, hD, room, c⟩ := q
    obtain ⟨u, rfl⟩ := r
    refine add_call (keyT_is X.prog X.w) (k := z) (Froz.is_str z u) rfl (setT_get I hD) room fun h' sb new => ⟨_, ?_, c⟩
    exact I.write (e := D) (t' := s.toks + 1) (by rw [hD]; trivial) (.inl rfl) (fun b o hb ho => (sb.2 b hb).trans ho) new.some (setT_new new)
/-- sorted(a set of texts) -/
def rSortT (P : Program) (w : World) : List V → Hp → VK → Prop := fun vs H Q => ∃ (a : Addr) (ks : List Str), vs = [V.ref a] ∧ H a = some (SetT P w a ks) ∧ ks.length < 64 ∧
  ∀ (ys : List Str) (p : Addr), ys.Perm ks → sortedS ys = true → H p = none → Q (.ref p) (upd H p (.lst (ys.map V.str)))
theorem strs_out : ∀ {vs : List Value}, (∀ v ∈ vs, ∃ x u, v = Value.str x u) → StrsAre vs (vs.map keyT)
  | [], _ => .nil
  | v :: vs, h => by
    obtain ⟨x, u, rfl⟩ := h v List.mem_cons_self
    exact .cons x u (strs_out fun y m => h y (List.mem_cons_of_mem _ m))
theorem sort_tree {P : Program} {w : World} {A : Around} {E : Value → Shared → Prop} {s : Shared} {a : Addr} {ks : List Str} {Q : Value → Shared → Prop} (R : GAt (PySem.strKind P w) keyT s.heap a ks) (hh : A.handled = none) (h64 : ks.length < 64)
    (hQ : ∀ s' p (out : Array Value) (c : Nat) (ys : List Str), (∀ b o, s.heap.get? b = some o → s'.heap.get? b = some o) → s'.gens = s.gens → s'.os = s.os → s.heap.objs.size ≤ p → s'.heap.get? p = some (seqObj "list" out c) →
      StrsAre out.toList ys → ys.Perm ks → sortedS ys = true → Q (.ref p) s') : wpAny (model P w) A (call (.builtin "sorted") [.ref a]) Q E s := by
  obtain ⟨o, es, ep, t, ho, ox, od, p⟩ := R
  refine Calls.call_function_entry kind_sorted plain_sorted entry_sorted (args_sorted1 _) ?_
  unfold Builtin.«sorted»
  refine wpAny_bind (m := checkCount "sorted" 1 1 _) (wpAny_pure (wpAny_bind (collect_set (A := A.in1) hh ⟨o, ho, ox.1, od⟩ p.fit p.few p.ris p.led fun s1 vs k1 z1 g1 o1 pm => ?_)))
  have lv : vs.length = ks.length := by rw [pm.length_eq, List.length_map, Array.length_toList, p.size]
  have tx : StrsAre vs (vs.map keyT) := strs_out fun v m => by
    obtain ⟨e, he, rfl⟩ := List.mem_map.mp (pm.mem_iff.mp m)
    obtain ⟨⟨k, i, _⟩, _⟩ := p.el e he
    obtain ⟨u, q⟩ := Value.isStrOf_shape i
    exact ⟨k, u, q⟩
  have pk : (vs.map keyT).Perm ks := by
    have z := pm.map keyT
    rw [List.map_map] at z
    exact z.trans p.pm
  refine wpAny_bind (wpAny_newList ?_ (by rw [lv, sizeLine_eq]; omega))
  have at1 : (s1.heap.push (seqObj "list" vs.toArray 0)).get? s1.heap.objs.size = some (seqObj "list" vs.toArray 0) := Heap.get?_push_size _ rfl
  refine wpAny_bind (wpAny_holding (wpAny_call_entry slot_list_sort ⟨_, at1, rfl⟩ entry_list_sort (list_sort_treeK strKind_oneLt at1 tx.keysOf (fun v₁ v₂ rest e => keyKind_strs (by rw [← e]; exact tx)) (by rw [lv]; exact h64) fun st' hp' hs' => ?_) (args_list_sort _)))
  obtain ⟨ys, a1, a2, a3⟩ := sorted_out_str tx hp' hs'
  refine ⟨_, rfl, ?_⟩
  generalize ho' : (arrOf st').map (·.2) = out at a1
  obtain ⟨c, hc⟩ := sortedHeap_at (vs := vs) (out := out) at1
  refine wpAny_pure ⟨_, rfl, hQ _ s1.heap.objs.size out c ys (fun b u e => ?_) g1 o1 z1 hc a1 (a2.trans pk) a3⟩
  have q := k1 b u e
  have lt := Heap.lt_size q
  exact (sortedHeap_old (Nat.ne_of_lt lt) (by rw [size_push']; exact Nat.lt_succ_of_lt lt)).trans (Heap.get?_push_of_some _ q)
section
variable {X : Cx}
theorem cr_sortT (hc : X.calm = true) : CallR X (.builtin "sorted") (rSortT X.prog X.w) := by
  intro pins s σ H vs us Q I r h
  obtain ⟨a, ks, rfl, ha, h64, q⟩ := h
  rw [Vals.ref1 r]
  refine sort_tree (setT_get I ha) (I.ok.hd hc) h64 fun s' p out c ys k g o hp at2 tx pm so => ?_
  have hn : H p = none := I.hok.fresh hp
  have fits : (ys.map V.str).length ≤ sizeLine := by rw [List.length_map, pm.length_eq, sizeLine_eq]; omega
  have J : Inv X pins σ (upd H p (.lst (ys.map V.str))) { s with heap := s'.heap, gens := s'.gens, drawn := s'.drawn, toks := s'.toks } :=
    I.call (ch := []) (Un.laid k hp hn) (I.hok.laid k hp ⟨fits, out.toList, c, vals_of_strs tx, at2⟩) (by rw [g]; exact I.bare) fun _ z => nomatch z
  have e : s' = { s with heap := s'.heap, gens := s'.gens, drawn := s'.drawn, toks := s'.toks } := by
    cases s'
    cases s
    cases o
    rfl
  rw [e]
  exact ⟨.ref p, _, J, rfl, q ys p pm so hn⟩
end
end L2.TxtSet
set_option Elab.async false
set_option linter.all false
set_option maxRecDepth 100000
set_option maxHeartbeats 4000000
/-! is_free, variables_of. -/
namespace L2.LawH
open PySem PySem.Spec PyProof.Rows L2.Cmp L2.TxtSet
abbrev sVars : Stmt := top 7
/-! ### walks of a list or a tuple -/
def iSeq (K : PySem.W.Frag) (tl : TE) : TI := fun σ H R => tl σ H fun x H1 => ∃ a, x = .ref a ∧ (((∃ xs, SqL K H1 a xs) ∧ R (Itl K a) H1) ∨ ((∃ xs, SqT K H1 a xs) ∧ R (Itt K a) H1))
theorem pi_seq {X : Cx} {tg l : Expr} {tl : TE} (hl : PE X l tl) : PI X tg l (iSeq X.K tl) := by
  refine ⟨fun pins s σ H R I h => thn (hl.run pins s σ H _ I h) fun v s1 ⟨x, H1, I1, r1, q1⟩ => ?_⟩
  obtain ⟨a, rfl, q⟩ := q1
  cases r1
  have frs : ∀ b ∈ [s1.heap.objs.size], FpOk X pins H1 b := fun b hb => by
    obtain rfl : b = s1.heap.objs.size := by simpa using hb
    exact I1.fpOk (Nat.le_refl _) (I1.hok.fresh (Nat.le_refl _))
  rcases q with ⟨⟨xs, hq⟩, q⟩ | ⟨⟨xs, hq⟩, q⟩
  · obtain ⟨its, _, p, _⟩ := I1.list hq
    exact wpAny_pyIter_list p.isList ⟨_, _, _, _, H1, rfl, I1.kept (t' := s1.toks) fun b o e => Heap.get?_push_of_some _ e, turn_list a _, ⟨_, Heap.get?_push_size _ rfl, rfl, rfl⟩, frs, q⟩
  · obtain ⟨its, _, p, _⟩ := I1.tuple hq
    exact wpAny_pyIter_tuple (show s1.heap.IsTuple a its.toArray from p) ⟨_, _, _, _, H1, rfl, I1.kept (t' := s1.toks) fun b o e => Heap.get?_push_of_some _ e, turn_tuple a _, ⟨_, Heap.get?_push_size _ rfl, rfl, rfl⟩, frs, q⟩
theorem pi_tupK {X : Cx} {K : PySem.W.Frag} (e : X.K = K) {tg l : Expr} {tl : TE} (hl : PE X l tl) : PI X tg l (iTup K tl) := by
  subst e
  exact pi_tup hl
theorem sl_tupK {X : Cx} {K : PySem.W.Frag} (e : X.K = K) : SlR X (rSlT K) := by
  subst e
  exact sl_tup
/-- how a clause over xs is walked, where Sq says that they stand there -/
def WalkR (J : It) (Sq : Hp → Prop) (xs : List V) : Prop := ∀ (g : TG) (tt : TT) (ta : TAc) (vs : List Nat) (σ : List (Option V)) (H0 : Hp) (Done : Hp → Prop) (Pv : Nat → Hp → Prop), Pv 0 H0 → (∀ i H, i ≤ xs.length → Pv i H → Sq H) →
  (∀ i x H, xs[i]? = some x → Pv i H → g x (wipe σ vs) H fun σ2 H2 => wipe σ2 vs = wipe σ vs ∧ tt σ2 H2 fun b H3 => if b = true then ta σ2 H3 (Pv (i + 1)) else Pv (i + 1) H3) → (∀ H, Pv xs.length H → Done H) → Walk J g tt ta vs σ Done H0
theorem walk_list {K : PySem.W.Frag} {a : Addr} {xs : List V} : WalkR (Itl K a) (fun H => SqL K H a xs) xs := by
  intro g tt ta vs σ H0 Done Pv h0 hl hs hd
  refine ⟨fun i m H => m = xs.length - i ∧ i ≤ xs.length ∧ Pv i H, ⟨xs.length, rfl, Nat.zero_le _, h0⟩, ?_⟩
  rintro i m H ⟨rfl, hi, p⟩
  rcases Nat.lt_or_eq_of_le hi with lt | rfl
  · refine .inr ⟨⟨xs, xs[i], hl i H hi p, by simp [lt]⟩, Pv (i + 1), fun H' p' => ⟨xs.length - (i + 1), by omega, rfl, lt, p'⟩, ?_⟩
    rintro x _ ⟨rfl, y⟩
    exact hs i x _ (y xs (hl i _ hi p)) p
  · exact .inl ⟨⟨xs, hl _ H hi p, Nat.le_refl _⟩, hd H p⟩
theorem walk_tup {K : PySem.W.Frag} {a : Addr} {xs : List V} : WalkR (Itt K a) (fun H => SqT K H a xs) xs := by
  intro g tt ta vs σ H0 Done Pv h0 hl hs hd
  refine ⟨fun i m H => m = xs.length - i ∧ i ≤ xs.length ∧ Pv i H, ⟨xs.length, rfl, Nat.zero_le _, h0⟩, ?_⟩
  rintro i m H ⟨rfl, hi, p⟩
  rcases Nat.lt_or_eq_of_le hi with lt | rfl
  · refine .inr ⟨⟨xs, xs[i], hl i H hi p, by simp [lt]⟩, Pv (i + 1), fun H' p' => ⟨xs.length - (i + 1), by omega, rfl, lt, p'⟩, ?_⟩
    rintro x _ ⟨rfl, y⟩
    exact hs i x _ (y xs (hl i _ hi p)) p
  · exact .inl ⟨⟨xs, hl _ H hi p, Nat.le_refl _⟩, hd H p⟩
/-! ### each once -/
def put1 (ks : List Str) (z : Str) : List Str := if z ∈ ks then ks else ks ++ [z]
def uniq (l : List Str) : List Str := l.foldl put1 []
theorem uniq_snoc (l : List Str) (z : Str) : uniq (l ++ [z]) = put1 (uniq l) z := by
  unfold uniq
  rw [List.foldl_append]
  rfl
theorem fold_len : ∀ (l acc : List Str), (l.foldl put1 acc).length ≤ acc.length + l.length
  | [], acc => Nat.le_refl _
  | z :: l, acc => by
    have ih := fold_len l (put1 acc z)
    have : (put1 acc z).length ≤ acc.length + 1 := by
      unfold put1
      split
      · omega
      · simp
    rw [List.foldl_cons, List.length_cons]
    omega
theorem uniq_len (l : List Str) : (uniq l).length ≤ l.length := by
  have h := fold_len l []
  rw [List.length_nil, Nat.zero_add] at h
  exact h
theorem fold_mem {y : Str} : ∀ (l acc : List Str), y ∈ l.foldl put1 acc ↔ y ∈ acc ∨ y ∈ l
  | [], acc => by simp
  | z :: l, acc => by
    rw [List.foldl_cons, fold_mem l (put1 acc z), List.mem_cons]
    unfold put1
    split
    · rename_i m
      constructor
      · rintro (h | h)
        · exact .inl h
        · exact .inr (.inr h)
      · rintro (h | rfl | h)
        · exact .inl h
        · exact .inl m
        · exact .inr h
    · rw [List.mem_append, List.mem_singleton, or_assoc]
theorem uniq_mem {y : Str} {l : List Str} : y ∈ uniq l ↔ y ∈ l := by
  unfold uniq
  rw [fold_mem]
  simp
theorem fold_nodup : ∀ (l acc : List Str), acc.Nodup → (l.foldl put1 acc).Nodup
  | [], acc, h => h
  | z :: l, acc, h => by
    rw [List.foldl_cons]
    refine fold_nodup l _ ?_
    unfold put1
    split
    · exact h
    · rename_i m
      rw [List.nodup_append]
      exact ⟨h, by simp, fun a ha b hb e => by
        rw [List.mem_singleton.mp hb] at e
        exact m (e ▸ ha)⟩
theorem uniq_nodup (l : List Str) : (uniq l).Nodup := fold_nodup l [] List.nodup_nil
/-! ### lots of patterns, as they stand -/
abbrev Pt : Type := Addr × Str × List Str
def isV (z : Str) : Bool := Txt.startswith z (Str.ofString "?")
def frees (xs : List Pt) : List Str := (xs.flatMap fun x => x.2.2).filter isV
theorem frees_snoc (xs : List Pt) (x : Pt) : frees (xs ++ [x]) = frees xs ++ x.2.2.filter isV := by
  unfold frees
  rw [List.flatMap_append, List.filter_append]
  simp
theorem frees_take {xs : List Pt} {i : Nat} {x : Pt} (h : xs[i]? = some x) : frees (xs.take (i + 1)) = frees (xs.take i) ++ x.2.2.filter isV := by
  rw [List.take_succ, h]
  exact frees_snoc _ _
theorem frees_le (xs : List Pt) (i : Nat) : (frees (xs.take i)).length ≤ (frees xs).length := by
  have e : frees xs = frees (xs.take i) ++ frees (xs.drop i) := by
    unfold frees
    rw [← List.filter_append, ← List.flatMap_append, List.take_append_drop]
  rw [e, List.length_append]
  omega
/-- the lot xs at q, a list or a tuple -/
structure LotAt (H : Hp) (q : Addr) (xs : List Pt) : Prop where
  sq : H q = some (.lst (xs.map fun x => V.ref x.1)) ∨ H q = some (.tup (xs.map fun x => V.ref x.1))
  each : ∀ x ∈ xs, H x.1 = some (.tup (.str x.2.1 :: x.2.2.map V.str))
theorem cut_one (v : V) (l : List V) : cutV (v :: l) (some 1) none = l := by
  have e : HT.sIx (v :: l).length 0 (some 1) = 1 := by
    have z := HT.sIx_nat (v :: l).length 0 1
    rw [List.length_cons] at z ⊢
    exact z.trans (by omega)
  unfold cutV
  rw [e, HT.sIx_none]
  simp
theorem cut_part (v : V) (l : List V) : ¬ (HT.sIx (v :: l).length 0 (some 1) = 0 ∧ HT.sIx (v :: l).length (v :: l).length none = (v :: l).length) := by
  rintro ⟨e, _⟩
  have z := HT.sIx_nat (v :: l).length 0 1
  rw [List.length_cons] at z e
  have z' := z.symm.trans e
  omega
theorem LotAt.same {H H' : Hp} {q : Addr} {xs : List Pt} (h : LotAt H q xs) (s : Same H H') : LotAt H' q xs := ⟨h.sq.imp (s _ _) (s _ _), fun x m => s _ _ (h.each x m)⟩
theorem first_one {z : Str} {c : Nat} {r : List Nat} (h : z.cps.toList = c :: r) : decide (V.str ⟨#[c]⟩ = V.str (Str.ofString "?")) = isV z := by
  have q1 : (Str.ofString "?").cps = #[63] := by decide +kernel
  have q2 : (Str.ofString "?").length = 1 := by decide +kernel
  have es : Str.ofString "?" = ⟨#[63]⟩ := by
    cases h : Str.ofString "?" with
    | mk c => rw [h] at q1; exact congrArg Str.mk q1
  have l := length_toList z
  rw [h, List.length_cons] at l
  have hz : z.cps = (c :: r).toArray := by rw [← h]
  have z0 : z.cps[0]? = some c := by
    rw [← Array.getElem?_toList, h]
    rfl
  unfold isV Txt.startswith Builtin.Str.subAt
  rw [q1, q2, es, Bool.eq_iff_iff, decide_eq_true_iff, hz]
  have l0 : z.length = r.length + 1 := l.symm
  rw [l0]
  simp
def spVars : Sp := fun vs H Q _ => ∃ (q : Addr) (xs : List Pt), vs = [.ref q] ∧ LotAt H q xs ∧ (∀ x ∈ xs, ∀ z ∈ x.2.2, 1 ≤ z.length ∧ z.length ≤ 100) ∧ (frees xs).length ≤ 60 ∧
  ∀ (p : Addr) (ys : List Str) (H' : Hp), Same H H' → H p = none → ys.Perm (uniq (frees xs)) → sortedS ys = true → H' p = some (.lst (ys.map V.str)) → Q (.ref p) H'
section
variable {P : Program} {w : World} {K : PySem.W.Frag} {mg : Str → Option Value} {base : Heap}
abbrev nVars : List Str := ["lot", "pattern", "term"]
theorem scVs : FnScope nVars ["lot"] (defScope sVars) := ⟨rfl, rfl, rfl, by decide +kernel, rfl, by decide +kernel, by decide +kernel⟩
theorem ok_vars {f : Addr} {fd : FuncData} (F : Fun K "variables_of" "variables_of" sVars f fd) (ms : mg "sorted" = none) :
    FnOk P w K mg base CX0 2 f fd ["lot"] spVars := by
  refine F.ok scVs (fun vs H Q E h => ?_) (fun cdv A outer s H vs Q E hr h => ?_)
  · obtain ⟨q, xs, rfl, _⟩ := h
    rfl
  · obtain ⟨q, xs, rfl, lot, shape, few, k⟩ := h
    refine ⟨_, pss_one (ps_ret (pe_callB (cr_sortT rfl) (by rfl) ms (by decide +kernel) (pa_cons
      (pe_set2 (own := [("pattern", 1), ("term", 2)]) (vs1 := [2]) (g := gName 1) (g1 := gName 2) (tt := tYes) (addT P w) rfl scVs.nd (pi_seq (pv 0))
        (blkOk_by (own := [("pattern", 1), ("term", 2)]) (N := nVars) (sc := defScope sVars) (by decide +kernel)) (by decide)
        (fun _ _ _ _ _ => pg_name (i := 1) scVs.nd rfl (Or.inl rfl)) (fun _ _ _ _ _ => pts_nil)
        (fun _ _ _ _ _ => pi_tupK (K := K) rfl (pe_slice (sl_tupK (K := K) rfl) (pv 1) (po_some pe_int) po_none))
        (fun _ _ _ _ _ => pg_name (i := 2) scVs.nd rfl (Or.inl rfl))
        (fun _ _ _ _ _ => pts_one (pt_cmpR op_eq (pe_ix ix_str (pv 2) pe_int (fun _ _ => rfl)) pe_str (nomark _)))
        (fun _ _ _ _ _ => pv 2)) pa_nil))), ?_⟩
    have main : ∀ (J : It) (Sq : Hp → Prop), WalkR J Sq (xs.map fun x => V.ref x.1) → (∀ H', Same H H' → Sq H') → ∀ (Qd : Hp → Prop) (D : Addr), H D = none → (∀ H', Same H H' → H' D = some (SetT P w D (uniq (frees xs))) → Qd H') →
        Walk J (gName 1) tYes (fun σ2 H2 C => iTup K (tSl (rSlT K) (tVar 1) (tPart (tC (.int 1))) tNoPart) σ2 H2 fun J1 H3 => Walk J1 (gName 2) (tTest (tOp rEq (tOp rIxS (tVar 2) (tC (.int 0))) (tC (.str (Str.ofString "?"))))) (tAd (addT P w) (tVar 2) D) [2] σ2 C H3) [1, 2] [some (.ref q), none, none] Qd (upd H D (SetT P w D [])) := by
      intro J Sq wr st Qd D nD hd
      refine wr _ _ _ _ _ _ _ (fun i H5 => H5 D = some (SetT P w D (uniq (frees (xs.take i)))) ∧ Same H H5) ⟨upd_same, same_new nD⟩ (fun i H5 hi p => st _ p.2) (fun i x H5 hx p => ?_) fun H5 p => hd H5 p.2 ?_
      · obtain ⟨p1, p2⟩ := p
        rw [List.getElem?_map] at hx
        obtain ⟨y, hy, rfl⟩ := Option.map_eq_some_iff.mp hx
        have my : y ∈ xs := List.mem_of_getElem? hy
        have ty := lot.each y my
        refine ⟨rfl, ?_⟩
        dsimp only [tYes]
        rw [if_pos rfl]
        refine ⟨_, rfl, _, rfl, y.1, _, rfl, SqT.of (p2 _ _ ty), cut_part _ _, fun t nt => ⟨t, rfl, ⟨_, SqT.of upd_same⟩, ?_⟩⟩
        rw [cut_one]
        have tD : t ≠ D := fun e => by
          rw [e, p1] at nt
          cases nt
        refine walk_tup (xs := y.2.2.map V.str) _ _ _ _ _ _ _ (fun j H6 => H6 D = some (SetT P w D (uniq (frees (xs.take i) ++ (y.2.2.take j).filter isV))) ∧ Same H H6 ∧ H6 t = some (.tup (y.2.2.map V.str))) ?_ (fun j H6 hj p => SqT.of p.2.2) (fun j x H6 hx p => ?_) (fun H6 p => ?_)
        · refine ⟨?_, fun b o e => ?_, upd_same⟩
          · rw [upd_ne (Ne.symm tD), p1]
            simp
          · have q5 := p2 b o e
            rw [upd_ne (ne_of_none q5 nt)]
            exact q5
        · obtain ⟨p3, p4, p5⟩ := p
          rw [List.getElem?_map] at hx
          obtain ⟨z, hz, rfl⟩ := Option.map_eq_some_iff.mp hx
          have tk : (y.2.2.take (j + 1)) = y.2.2.take j ++ [z] := by
            rw [List.take_succ, hz]
            rfl
          have sh := shape y my z (List.mem_of_getElem? hz)
          obtain ⟨c, r, hc⟩ : ∃ c r, z.cps.toList = c :: r := by
            cases e : z.cps.toList with
            | nil =>
              have l := length_toList z
              rw [e] at l
              have l0 : z.length = 0 := l.symm
              omega
            | cons c r => exact ⟨c, r, rfl⟩
          refine ⟨rfl, _, rfl, z, 0, c, rfl, rfl, by rw [sizeLine_eq]; omega, by rw [hc]; exact atI_nat (j := 0) rfl, rfl, _, rfl, ?_⟩
          rw [first_one hc]
          by_cases hv : isV z = true
          · rw [hv]
            dsimp only
            rw [if_pos rfl]
            have room : (uniq (frees (xs.take i) ++ (y.2.2.take j).filter isV)).length ≤ 60 := by
              have u1 := uniq_len (frees (xs.take i) ++ (y.2.2.take j).filter isV)
              have u2 := frees_le xs (i + 1)
              rw [frees_take hy, List.length_append] at u2
              have u3 : ((y.2.2.take j).filter isV).length ≤ (y.2.2.filter isV).length := ((List.take_sublist _ _).filter _).length_le
              rw [List.length_append] at u1
              omega
            refine ⟨_, rfl, z, _, rfl, p3, Nat.lt_of_le_of_lt (Nat.succ_le_succ room) (by decide), ?_, fun b o e => ?_, ?_⟩
            · rw [upd_same, tk, List.filter_append, List.filter_cons_of_pos hv, List.filter_nil, ← List.append_assoc, uniq_snoc]
              rfl
            · have hb : b ≠ D := ne_of_none e nD
              rw [upd_ne hb]
              exact p4 b o e
            · rw [upd_ne tD]
              exact p5
          · have hv' : isV z = false := by simpa using hv
            rw [hv']
            dsimp only
            rw [if_neg Bool.false_ne_true]
            refine ⟨?_, p4, p5⟩
            rw [tk, List.filter_append, List.filter_cons_of_neg hv, List.filter_nil, List.append_nil]
            exact p3
        · rw [List.length_map, List.take_length] at p
          exact ⟨by rw [frees_take hy]; exact p.1, p.2.1⟩
      · have e := p.1
        rw [List.length_map, List.take_length] at e
        exact e
    have fin : ∀ (D : Addr), H D = none → ∀ H', Same H H' → H' D = some (SetT P w D (uniq (frees xs))) → rSortT P w [.ref D] H' Q := fun D nD H' sm hD =>
      ⟨D, _, rfl, hD, Nat.lt_of_le_of_lt (Nat.le_trans (uniq_len _) few) (by decide), fun ys p pm so np => k p ys _ (fun b o e => by
        have e' := sm b o e
        rw [upd_ne (ne_of_none e' np)]
        exact e') (by
        cases e : H p with
        | none => rfl
        | some o =>
          rw [sm p o e] at np
          cases np) pm so upd_same⟩
    refine ⟨_, rfl, q, rfl, ?_⟩
    rcases lot.sq with hq | hq
    · exact .inl ⟨⟨_, SqL.of hq⟩, fun D nD => main _ _ walk_list (fun H' sm => SqL.of (sm _ _ hq)) _ D nD (fin D nD)⟩
    · exact .inr ⟨⟨_, SqT.of hq⟩, fun D nD => main _ _ walk_tup (fun H' sm => SqT.of (sm _ _ hq)) _ D nD (fin D nD)⟩
end
end L2.LawH
set_option Elab.async false
set_option linter.all false
set_option maxRecDepth 100000
set_option maxHeartbeats 4000000
/-! _law_variables. -/
namespace L2.LawH
open PySem PySem.Spec PyProof.Rows L2.Cmp L2.TxtSet
abbrev sLVars : Stmt := top 21
theorem first_sign (z : Str) : decide (cutS z none (some 1) = Str.ofString "?") = isV z := by
  have q1 : (Str.ofString "?").cps = #[63] := by decide +kernel
  have q2 : (Str.ofString "?").length = 1 := by decide +kernel
  have e2 : HT.sIx z.length z.length (some 1) = min 1 z.length := HT.sIx_nat z.length z.length 1
  have l : z.cps.toList.length = z.length := length_toList z
  have es : Str.ofString "?" = ⟨#[63]⟩ := by
    cases h : Str.ofString "?" with
    | mk c => rw [h] at q1; exact congrArg Str.mk q1
  unfold isV Txt.startswith cutS Builtin.Str.subAt
  rw [HT.sIx_none, e2, q1, q2, es, Bool.eq_iff_iff, decide_eq_true_iff]
  cases hz : z.cps.toList with
  | nil =>
    rw [hz] at l
    have l0 : z.length = 0 := l.symm
    rw [l0]
    simp
  | cons x r =>
    rw [hz] at l
    have l0 : z.length = r.length + 1 := l.symm
    have ez : z.cps = (x :: r).toArray := by rw [← hz]
    rw [l0, ez]
    have m : min 1 (r.length + 1) = 1 := by omega
    rw [m]
    simp
def spLVars : Sp := fun vs H Q _ => ∃ (q : Addr) (xs : List Pt), vs = [.ref q] ∧ H q = some (.lst (xs.map fun x => V.ref x.1)) ∧ LotAt H q xs ∧ (∀ x ∈ xs, ∀ z ∈ x.2.2, z.length ≤ 100) ∧ (frees xs).length ≤ 60 ∧
  ∀ (p : Addr) (ys : List Str) (H' : Hp), Same H H' → H p = none → ys.Perm (uniq (frees xs)) → sortedS ys = true → H' p = some (.lst (ys.map V.str)) → Q (.ref p) H'
section
variable {P : Program} {w : World} {K : PySem.W.Frag} {mg : Str → Option Value} {base : Heap}
abbrev nLVars : List Str := ["_law_lot_here", "_law_found", "_law_pattern_here", "_law_term_here"]
theorem scLV : FnScope nLVars ["_law_lot_here"] (defScope sLVars) := ⟨rfl, rfl, rfl, by decide +kernel, rfl, by decide +kernel, by decide +kernel⟩
theorem ok_lvars {f : Addr} {fd : FuncData} (F : Fun K "_law_variables" "_law_variables" sLVars f fd) (ms : mg "sorted" = none) :
    FnOk P w K mg base CX0 2 f fd ["_law_lot_here"] spLVars := by
  refine F.ok scLV (fun vs H Q E h => ?_) (fun cdv A outer s H vs Q E hr h => ?_)
  · obtain ⟨q, xs, rfl, _⟩ := h
    rfl
  · obtain ⟨q, xs, rfl, hq, lot, short, few, k⟩ := h
    refine ⟨_, pss_cons (ps_set (i := 1) scLV.nd rfl (Or.inl rfl) (pe_lst pa_nil))
      (pss_cons (ps_for PassesOwn.never rfl (pi_list (pv 0)) (pg_name (i := 2) scLV.nd rfl (Or.inl rfl))
        (pss_one (ps_for PassesOwn.never rfl (pi_tup (pe_slice sl_tup (pv 2) (po_some pe_int) po_none)) (pg_name (i := 3) scLV.nd rfl (Or.inl rfl))
          (pss_one (ps_if (PW.pt (pw_and (pt_cmpR op_eq (pe_slice sl_str (pv 3) po_none (po_some pe_int)) pe_str (nomark _)) (pw_and1 (pt_cmpR op_notIn_seq (pv 3) (pv 1) (by rfl)))))
            (pss_one (ps_expr (pe_bm PySem.F.plainAttrs_list PySem.F.slot_list_append PySem.F.type_list_append mt_append (pv 1) (pa_cons (pv 3) pa_nil)))) pss_nil)))))
      (pss_one (ps_ret (pe_callB cr_sortedS (by rfl) ms (by decide +kernel) (pa_cons (pv 1) pa_nil))))), ?_⟩
    refine ⟨(by show 0 ≤ sizeLine; decide), fun D nD => ?_⟩
    refine ⟨_, rfl, q, rfl, ⟨_, SqL.of ((same_new nD) _ _ hq)⟩, for_list (xs := xs.map fun x => V.ref x.1) (fun i σ H5 => ∃ v2 v3, σ = [some (.ref q), some (.ref D), v2, v3] ∧ H5 D = some (.lst ((uniq (frees (xs.take i))).map V.str)) ∧ Same H H5)
      ⟨none, none, rfl, upd_same, same_new nD⟩ (fun i σ H5 hi p => ?_) (fun i x σ H5 hx p => ?_) (fun σ H5 p => ?_)⟩
    · obtain ⟨_, _, _, _, s5⟩ := p
      exact SqL.of (s5 _ _ hq)
    · obtain ⟨v2, v3, rfl, p1, p2⟩ := p
      rw [List.getElem?_map] at hx
      obtain ⟨y, hy, rfl⟩ := Option.map_eq_some_iff.mp hx
      have my : y ∈ xs := List.mem_of_getElem? hy
      have ty := lot.each y my
      refine ⟨_, rfl, _, rfl, y.1, _, rfl, SqT.of (p2 _ _ ty), cut_part _ _, fun t nt => ⟨t, rfl, ⟨_, SqT.of upd_same⟩, ?_⟩⟩
      rw [cut_one]
      have tD : t ≠ D := fun e => by
        rw [e, p1] at nt
        cases nt
      refine for_tup (xs := y.2.2.map V.str) (fun j σ H6 => ∃ v3, σ = [some (.ref q), some (.ref D), some (.ref y.1), v3] ∧ H6 D = some (.lst ((uniq (frees (xs.take i) ++ (y.2.2.take j).filter isV)).map V.str)) ∧ Same H H6 ∧ H6 t = some (.tup (y.2.2.map V.str)))
        ?_ (fun j σ H6 hj p => ?_) (fun j x σ H6 hx p => ?_) (fun σ H6 p => ?_)
      · refine ⟨_, rfl, ?_, fun b o e => ?_, upd_same⟩
        · rw [upd_ne (Ne.symm tD), p1]
          simp
        · have q5 := p2 b o e
          rw [upd_ne (ne_of_none q5 nt)]
          exact q5
      · obtain ⟨_, _, _, _, p5⟩ := p
        exact SqT.of p5
      · obtain ⟨v3', rfl, p3, p4, p5⟩ := p
        rw [List.getElem?_map] at hx
        obtain ⟨z, hz, rfl⟩ := Option.map_eq_some_iff.mp hx
        have mz : z ∈ y.2.2 := List.mem_of_getElem? hz
        have tk : (y.2.2.take (j + 1)) = y.2.2.take j ++ [z] := by
          rw [List.take_succ, hz]
          rfl
        have u1 : (uniq (frees (xs.take i) ++ (y.2.2.take j).filter isV)).length ≤ 60 := by
          have u1 := uniq_len (frees (xs.take i) ++ (y.2.2.take j).filter isV)
          have u2 := frees_le xs (i + 1)
          rw [frees_take hy, List.length_append] at u2
          have u3 : ((y.2.2.take j).filter isV).length ≤ (y.2.2.filter isV).length := ((List.take_sublist _ _).filter _).length_le
          rw [List.length_append] at u1
          omega
        refine ⟨_, rfl, _, rfl, z, rfl, ?_, rfl, _, rfl, ?_⟩
        · have := short y my z mz
          rw [sizeLine_eq]
          omega
        have ed : decide (V.str (cutS z none (some 1)) = V.str (Str.ofString "?")) = isV z := by
          rw [← first_sign]
          exact decide_eq_decide.mpr ⟨fun e => V.str.inj e, fun e => by rw [e]⟩
        rw [ed]
        by_cases hv : isV z = true
        · rw [hv]
          refine iteT ?_
          refine ⟨_, rfl, _, rfl, D, _, rfl, .inl (SqL.of p3), rfl, flat_strs _, _, rfl, ?_⟩
          rw [if_pos rfl, inV_strs]
          by_cases hm : z ∈ uniq (frees (xs.take i) ++ (y.2.2.take j).filter isV)
          · rw [decide_eq_true hm]
            refine iteF ?_
            refine ⟨_, rfl, ?_, p4, p5⟩
            rw [tk, List.filter_append, List.filter_cons_of_pos hv, List.filter_nil, ← List.append_assoc, uniq_snoc]
            unfold put1
            rw [if_pos hm]
            exact p3
          · rw [decide_eq_false hm]
            refine iteT ?_
            refine ⟨_, rfl, .inl ⟨rfl, _, SqL.of p3⟩, _, rfl, D, _, _, rfl, rfl, p3, ?_, ?_⟩
            · rw [List.length_map, sizeLine_eq]
              omega
            · refine ⟨_, rfl, ?_, fun b o e => ?_, ?_⟩
              · rw [upd_same, tk, List.filter_append, List.filter_cons_of_pos hv, List.filter_nil, ← List.append_assoc, uniq_snoc]
                unfold put1
                rw [if_neg hm, List.map_append]
                rfl
              · rw [upd_ne (ne_of_none e nD)]
                exact p4 b o e
              · rw [upd_ne tD]
                exact p5
        · have hv' : isV z = false := by simpa using hv
          rw [hv']
          refine iteF ?_
          refine iteF ?_
          refine ⟨_, rfl, ?_, p4, p5⟩
          rw [tk, List.filter_append, List.filter_cons_of_neg hv, List.filter_nil, List.append_nil]
          exact p3
      · rw [List.length_map, List.take_length] at p
        obtain ⟨v3', rfl, p3, p4, _⟩ := p
        exact ⟨_, _, rfl, by rw [frees_take hy]; exact p3, p4⟩
    · obtain ⟨v2, v3, rfl, p1, p2⟩ := p
      rw [List.length_map, List.take_length] at p1
      refine ⟨_, rfl, D, _, rfl, SqL.of p1, Nat.lt_of_le_of_lt (Nat.le_trans (uniq_len _) few) (by decide), fun ys p pm so np => ?_⟩
      refine k p ys _ (fun b o e => ?_) ?_ pm so upd_same
      · have e' := p2 b o e
        rw [upd_ne (ne_of_none e' np)]
        exact e'
      · cases e : H p with
        | none => rfl
        | some o =>
          rw [p2 p o e] at np
          cases np
end
end L2.LawH
set_option Elab.async false
set_option linter.all false
set_option maxRecDepth 100000
set_option maxHeartbeats 4000000
/-! _law_lot; two ascending lists of the same texts. -/
namespace L2.LawH
open PySem PySem.Spec PyProof.Rows L2.Cmp L2.TxtSet
theorem asc_pw : ∀ (l : List Str) (p : Str), risingS p l = true → (p :: l).Pairwise fun a b => a.cps.toList ≤ b.cps.toList
  | [], p, _ => List.pairwise_singleton _ _
  | x :: r, p, h => by
    simp only [risingS, Bool.and_eq_true, Bool.not_eq_true', ltCps_eq, decide_eq_false_iff_not, List.not_lt] at h
    have ih := asc_pw r x h.2
    refine List.pairwise_cons.mpr ⟨fun y hy => ?_, ih⟩
    rcases List.mem_cons.mp hy with rfl | hy
    · exact h.1
    · exact List.le_trans h.1 ((List.pairwise_cons.mp ih).1 y hy)
theorem asc_all {l : List Str} (h : sortedS l = true) : l.Pairwise fun a b => a.cps.toList ≤ b.cps.toList := by
  cases l with
  | nil => exact List.Pairwise.nil
  | cons x r => exact asc_pw r x h
theorem asc_eq {l l' u : List Str} (h : sortedS l = true) (h' : sortedS l' = true) (p : l.Perm u) (p' : l'.Perm u) : l = l' := by
  refine List.Perm.eq_of_pairwise (fun a b _ _ x y => ?_) (asc_all h) (asc_all h') (p.trans p'.symm)
  have e : a.cps.toList = b.cps.toList := List.le_antisymm x y
  cases a
  cases b
  exact congrArg Str.mk (Array.toList_inj.mp e)
abbrev sLot7 : Stmt := top 20
/-- a lot xs at q, drawn over a pool and variables, outside the source -/
structure LotOf (a : Addr) (π : Pool) (W : List Str) (H : Hp) (q : Addr) (xs : List Pt) : Prop where
  sq : H q = some (.lst (xs.map fun x => V.ref x.1))
  each : ∀ x ∈ xs, H x.1 = some (.tup (.str x.2.1 :: x.2.2.map V.str))
  pat : ∀ x ∈ xs, PatOf π W x.2.1 x.2.2
  nq : q ≠ a
  nx : ∀ x ∈ xs, x.1 ≠ a
theorem LotOf.at {a : Addr} {π : Pool} {W : List Str} {H : Hp} {q : Addr} {xs : List Pt} (h : LotOf a π W H q xs) : LotAt H q xs := ⟨.inl h.sq, h.each⟩
theorem LotOf.keep {a : Addr} {π : Pool} {W : List Str} {H H' : Hp} {q : Addr} {xs : List Pt} (h : LotOf a π W H q xs) (k : Keep a H H') : LotOf a π W H' q xs :=
  ⟨k _ _ h.sq h.nq, fun x m => k _ _ (h.each x m) (h.nx x m), h.pat, h.nq, h.nx⟩
def spLot : Sp := fun vs H Q _ => ∃ (a p q : Addr) (c : Int) (m n : Nat) (π : Pool) (W : List Str), vs = [.ref a, .ref p, .ref q, .int n] ∧ n ≤ 100 ∧ SrcAt H a c (m + 20 * n + 1) ∧ PoolAt a H p π ∧ VarsAt a H q W ∧
  ∀ (t : Addr) (xs : List Pt) (H' : Hp), LotOf a π W H' t xs → xs.length ≤ n → SrcAt H' a c m → Keep a H H' → Q (.ref t) H'
section
variable {P : Program} {w : World} {K : PySem.W.Frag} {mg : Str → Option Value} {base : Heap}
abbrev nLot : List Str := ["_law_source_here", "_law_pool_here", "_law_variables_here", "_law_most", "_law_k"]
abbrev pLot : List Str := ["_law_source_here", "_law_pool_here", "_law_variables_here", "_law_most"]
theorem scLt : FnScope nLot pLot (defScope sLot7) := ⟨rfl, rfl, rfl, by decide +kernel, rfl, by decide +kernel, by decide +kernel⟩
theorem ok_lot {f fD fP : Addr} {fd fdD fdP : FuncData} (F : Fun K "_law_lot" "_law_lot" sLot7 f fd)
    (GD : FnOk P w K mg base CX0 1 fD fdD ["_law_source_here", "_law_limit"] spDraw) (kD : PySem.W.keepIn K (.ref fD) = true) (bD : Binds K fdD ["_law_source_here", "_law_limit"] []) (mD : mg "_law_draw" = some (.ref fD))
    (GP : FnOk P w K mg base CX0 3 fP fdP nTerm spPat) (kP : PySem.W.keepIn K (.ref fP) = true) (bP : Binds K fdP nTerm []) (mP : mg "_law_pattern" = some (.ref fP)) (mr : mg "range" = none) :
    FnOk P w K mg base CX0 4 f fd pLot spLot := by
  refine F.ok scLt (fun vs H Q E h => ?_) (fun cdv A outer s H vs Q E hr h => ?_)
  · obtain ⟨a, p, q, c, m, n, π, W, rfl, _⟩ := h
    rfl
  · obtain ⟨a, p, q, c, m, n, π, W, rfl, hn, hs, hp, hv, k⟩ := h
    have hr1 : Room 1 _ := hr.mono (by decide)
    have hr3 : Room 3 _ := hr.mono (by decide)
    refine ⟨_, pss_one (ps_ret (pe_lc (own := [("_law_k", 4)]) (g := gName 4) (tt := tYes) rfl scLt.nd (pi_range1 (by rfl) mr (pa_cons (pe_call GD hr1 (by rfl) mD kD bD .nil pass0 (pa_cons (pv 0) (pa_cons (pe_op op_add (pv 3) pe_int) pa_nil))) pa_nil))
      (blkOk_by (own := [("_law_k", 4)]) (N := nLot) (sc := defScope sLot7) (by decide +kernel)) (fun _ _ _ _ _ => pg_name (i := 4) scLt.nd rfl (Or.inl rfl)) (fun _ _ _ _ _ => pts_nil)
      (fun _ _ _ _ _ => pe_call GP hr3 (by rfl) mP kP bP .nil pass0 (pa_cons (pv 0) (pa_cons (pv 1) (pa_cons (pv 2) (pa_cons pe_int pa_nil))))))), ?_⟩
    refine ⟨_, rfl, _, rfl, _, _, rfl, rfl, a, c, m + 20 * n, _, rfl, hs, by omega, by omega, fun r H1 r0 r1 s1 k1 => ?_⟩
    obtain ⟨j, rfl⟩ : ∃ j : Nat, r = j := ⟨r.toNat, by omega⟩
    refine ⟨_, rfl, by omega, by omega, fun D nD => ?_⟩
    rw [Int.toNat_natCast]
    have hj : j ≤ n := by omega
    have zD := s1.ne nD
    refine lc_range (lo := 0) (n := j) (fun i H5 => ∃ xs : List Pt, xs.length = i ∧ H5 D = some (.lst (xs.map fun x => V.ref x.1)) ∧ (∀ x ∈ xs, H5 x.1 = some (.tup (.str x.2.1 :: x.2.2.map V.str)) ∧ PatOf π W x.2.1 x.2.2 ∧ x.1 ≠ a ∧ x.1 ≠ D) ∧ SrcAt H5 a c (m + 20 * (n - i)) ∧ Keep a H H5)
      ⟨[], rfl, upd_same, fun _ z => (by cases z), (s1.same (same_new nD)).mono (by omega), k1.trans (Keep.of (same_new nD))⟩ ?_ ?_
    · rintro i H5 hi ⟨xs, lx, hD, hx, s5, k5⟩
      refine ⟨rfl, ?_⟩
      dsimp only [tYes]
      rw [if_pos rfl]
      have s5' : SrcAt H5 a c (m + 20 * (n - (i + 1)) + 20) := s5.mono (by omega)
      refine ⟨_, rfl, _, rfl, _, rfl, a, p, q, c, m + 20 * (n - (i + 1)), 4, π, W, rfl, s5', hp.keep k5, hv.keep k5, fun t T zs H6 pt ht ta s6 k6 => ?_⟩
      have hD6 := k6 _ _ hD zD
      have tD : t ≠ D := fun e => by
        rw [e, hD6] at ht
        cases ht
      refine ⟨_, hD6, ?_, xs ++ [(t, T, zs)], by simp [lx], by rw [upd_same]; simp, fun y hy => ?_, ?_, ?_⟩
      · rw [List.length_map, lx, sizeLine_eq]
        omega
      · rcases List.mem_append.mp hy with hy | hy
        · obtain ⟨h1, h2, h3, h4⟩ := hx y hy
          exact ⟨by rw [upd_ne h4]; exact k6 _ _ h1 h3, h2, h3, h4⟩
        · have e : y = (t, T, zs) := by simpa using hy
          rw [e]
          exact ⟨by rw [upd_ne tD]; exact ht, pt, ta, tD⟩
      · obtain ⟨d, nn, e, g⟩ := s6
        exact ⟨d, nn, by rw [upd_ne zD.symm]; exact e, g⟩
      · intro b o e nb
        have hb : b ≠ D := ne_of_none (k1 b o e nb) nD
        rw [upd_ne hb]
        exact (k5.trans k6) b o e nb
    · rintro H5 ⟨xs, lx, hD, hx, s5, k5⟩
      exact k D xs H5 ⟨hD, fun x m => (hx x m).1, fun x m => (hx x m).2.1, zD, fun x m => (hx x m).2.2.1⟩ (by omega) (s5.mono (by omega)) k5
end
end L2.LawH
set_option Elab.async false
set_option linter.all false
set_option maxRecDepth 100000
set_option maxHeartbeats 4000000
/-! is_name, is_variable. -/
namespace L2.LawH
open PySem PySem.Spec PyProof.Rows L2.Cmp L2.TxtSet
abbrev sIsN : Stmt := top 3
abbrev sIsV : Stmt := top 4
/-- a value of a kind that is no text -/
def NotS (K : PySem.W.Frag) (H : Hp) (x : V) : Prop := ∃ n : String, TyX K H x (.type n) ∧ kitB n "str" = some false
abbrev letS8 : Str := "abcdefghijklmnopqrstuvwxyz"
abbrev sgnS8 : Str := "abcdefghijklmnopqrstuvwxyz0123456789"
def spIsN (K : PySem.W.Frag) : Sp := fun vs H Q _ => ∃ x : V, vs = [x] ∧ ((∃ z : Str, x = .str z ∧ z.length ≤ 100000 ∧ ∀ H', Same H H' → Q (.bl (nmB z.cps.toList)) H') ∨ (NotS K H x ∧ Q (.bl false) H))
theorem in_let (c : Nat) : (!(Builtin.Str.occurrences letS8 ⟨#[c]⟩ 0 letS8.length 1).isEmpty) = isLet c := by
  rw [empty_one, Bool.not_not]
  have e : letS8.cps.toList = [97,98,99,100,101,102,103,104,105,106,107,108,109,110,111,112,113,114,115,116,117,118,119,120,121,122] := by decide +kernel
  rw [e]
  unfold isLet
  rw [Bool.eq_iff_iff]
  simp only [decide_eq_true_eq, Bool.and_eq_true, List.mem_cons, List.not_mem_nil, or_false]
  omega
theorem in_sgn (c : Nat) : (!(Builtin.Str.occurrences sgnS8 ⟨#[c]⟩ 0 sgnS8.length 1).isEmpty) = isSgn c := by
  rw [empty_one, Bool.not_not]
  have e : sgnS8.cps.toList = [97,98,99,100,101,102,103,104,105,106,107,108,109,110,111,112,113,114,115,116,117,118,119,120,121,122,48,49,50,51,52,53,54,55,56,57] := by decide +kernel
  rw [e]
  unfold isSgn isLet
  rw [Bool.eq_iff_iff]
  simp only [decide_eq_true_eq, Bool.and_eq_true, Bool.or_eq_true, List.mem_cons, List.not_mem_nil, or_false]
  omega
theorem nmB_eq (c : Nat) (r : List Nat) (h : r.length ≤ 11) : nmB (c :: r) = (isLet c && ((c :: r).all isSgn)) := by
  show (isLet c && r.all isSgn && decide (r.length ≤ 11)) = _
  rw [decide_eq_true h, Bool.and_true, List.all_cons]
  cases hl : isLet c with
  | false => rfl
  | true =>
    have : isSgn c = true := by
      unfold isSgn
      rw [hl]
      rfl
    rw [this]
    rfl
theorem asc_tab : ((List.range 128).all fun c => (Unicode.isAlnum c == (isSgn c || (decide (65 ≤ c) && decide (c ≤ 90)))) && (Unicode.isLower c == isLet c) &&
    ((Unicode.isUpper c || Unicode.isTitle c) == (decide (65 ≤ c) && decide (c ≤ 90))) && (Unicode.isAlpha c == (isLet c || (decide (65 ≤ c) && decide (c ≤ 90))))) = true := by decide +kernel
theorem asc_at {c : Nat} (h : c < 128) : Unicode.isAlnum c = (isSgn c || (decide (65 ≤ c) && decide (c ≤ 90))) ∧ Unicode.isLower c = isLet c ∧
    (Unicode.isUpper c || Unicode.isTitle c) = (decide (65 ≤ c) && decide (c ≤ 90)) ∧ Unicode.isAlpha c = (isLet c || (decide (65 ≤ c) && decide (c ≤ 90))) := by
  have q := List.all_eq_true.mp asc_tab c (List.mem_range.mpr h)
  simp only [Bool.and_eq_true, beq_iff_eq] at q
  exact ⟨q.1.1.1, q.1.1.2, q.1.2, q.2⟩
theorem all_cps (z : Str) (p : Nat → Bool) : z.cps.all p = z.cps.toList.all p := by rw [Array.all_toList]
theorem any_cps (z : Str) (p : Nat → Bool) : z.cps.any p = z.cps.toList.any p := by rw [Array.any_toList]
theorem sgn_asc {c : Nat} (h : isSgn c = true) : c < 128 := by
  unfold isSgn isLet at h
  simp only [Bool.or_eq_true, Bool.and_eq_true, decide_eq_true_eq] at h
  omega
/-- what the name test asks before the first sign -/
def pre8 (l : List Nat) : Bool := l.all (fun c => decide (c < 128)) && (decide (l.length > 0) && l.all Unicode.isAlnum) && (l.any Unicode.isLower && !l.any fun c => Unicode.isUpper c || Unicode.isTitle c)
theorem pre8_sgn {l : List Nat} (h : pre8 l = true) : l.all isSgn = true := by
  unfold pre8 at h
  simp only [Bool.and_eq_true, decide_eq_true_eq, Bool.not_eq_true'] at h
  obtain ⟨⟨h1, h2, h3⟩, h4, h5⟩ := h
  refine List.all_eq_true.mpr fun c m => ?_
  have a := of_decide_eq_true (List.all_eq_true.mp h1 c m)
  have b := List.all_eq_true.mp h3 c m
  have d := List.any_eq_false.mp h5 c m
  obtain ⟨q1, q2, q3, q4⟩ := asc_at a
  rw [q1] at b
  rw [q3] at d
  simpa [d] using b
theorem pre8_of {c : Nat} {r : List Nat} (hc : isLet c = true) (h : (c :: r).all isSgn = true) : pre8 (c :: r) = true := by
  have asc : ∀ d ∈ c :: r, d < 128 := fun d m => sgn_asc (List.all_eq_true.mp h d m)
  unfold pre8
  simp only [Bool.and_eq_true, decide_eq_true_eq, Bool.not_eq_true']
  refine ⟨⟨List.all_eq_true.mpr fun d m => decide_eq_true (asc d m), Nat.succ_pos _, List.all_eq_true.mpr fun d m => ?_⟩, List.any_eq_true.mpr ⟨c, List.mem_cons_self, ?_⟩, List.any_eq_false.mpr fun d m => ?_⟩
  · rw [(asc_at (asc d m)).1, List.all_eq_true.mp h d m, Bool.true_or]
  · rw [(asc_at (asc c List.mem_cons_self)).2.1, hc]
  · rw [(asc_at (asc d m)).2.2.1]
    have q := List.all_eq_true.mp h d m
    unfold isSgn isLet at q
    simp only [Bool.or_eq_true, Bool.and_eq_true, decide_eq_true_eq] at q
    simp only [Bool.and_eq_true, decide_eq_true_eq]
    omega
theorem nmB_pre {c : Nat} {r : List Nat} (h : pre8 (c :: r) = true) : nmB (c :: r) = (Unicode.isAlpha c && decide ((c :: r).length ≤ 12)) := by
  have sg := pre8_sgn h
  rw [List.all_cons, Bool.and_eq_true] at sg
  have asc := sgn_asc sg.1
  obtain ⟨q1, q2, q3, q4⟩ := asc_at asc
  have al : Unicode.isAlpha c = isLet c := by
    have s := sg.1
    unfold isSgn at s
    rw [q4]
    unfold isLet at s ⊢
    rw [Bool.eq_iff_iff]
    simp only [Bool.or_eq_true, Bool.and_eq_true, decide_eq_true_eq] at s ⊢
    omega
  show (isLet c && r.all isSgn && decide (r.length ≤ 11)) = _
  rw [sg.2, al, Bool.and_true, List.length_cons]
  congr 1
  exact decide_eq_decide.mpr ⟨fun h => by omega, fun h => by omega⟩
theorem pre8_eq (z : Str) : (Txt.isascii z && Txt.isalnum z && Txt.islower z) = pre8 z.cps.toList := by
  unfold Txt.isascii Txt.isalnum Txt.islower pre8
  rw [all_cps, all_cps, any_cps, any_cps, length_toList]
theorem nmB_no {l : List Nat} (h : pre8 l = false) : nmB l = false := by
  cases l with
  | nil => rfl
  | cons c r =>
    cases e : nmB (c :: r) with
    | false => rfl
    | true =>
      have e : (isLet c && r.all isSgn && decide (r.length ≤ 11)) = true := e
      simp only [Bool.and_eq_true] at e
      have sg : isSgn c = true := by
        unfold isSgn
        rw [e.1.1, Bool.true_or]
      rw [pre8_of e.1.1 (by rw [List.all_cons, sg, e.1.2, Bool.and_self])] at h
      cases h
section
variable {P : Program} {w : World} {K : PySem.W.Frag} {mg : Str → Option Value} {base : Heap}
theorem scIN : FnScope ["value"] ["value"] (defScope sIsN) := ⟨rfl, rfl, rfl, by decide +kernel, rfl, by decide +kernel, by decide +kernel⟩
theorem ok_isN {f : Addr} {fd : FuncData} (F : Fun K "is_name" "is_name" sIsN f fd) {t3 : Tok} (mM : mg "LONGEST_NAME" = some (.int 12 t3))
    (mi : mg "isinstance" = none) (mst : mg "str" = none) (ml : mg "len" = none) :
    FnOk P w K mg base CX0 1 f fd ["value"] (spIsN K) := by
  refine F.ok scIN (fun vs H Q E h => ?_) (fun cdv A outer s H vs Q E hr h => ?_)
  · obtain ⟨x, rfl, _⟩ := h
    rfl
  · obtain ⟨x, rfl, h⟩ := h
    refine ⟨_, pss_one (ps_ret (pe_and (pe_callB call_isi (by rfl) mi (by decide +kernel) (pa_cons (pv 0) (pa_cons (pe_bltn (v := .ty "str") (by rfl) mst (by decide +kernel) rfl) pa_nil)))
      (pe_and (pe_m0 PySem.F.slot_str_isascii PySem.F.type_str_isascii mt_isascii (pv 0))
      (pe_and (pe_m0 PySem.F.slot_str_isalnum PySem.F.type_str_isalnum mt_isalnum (pv 0))
      (pe_and (pe_m0 PySem.F.slot_str_islower PySem.F.type_str_islower mt_islower (pv 0))
      (pe_and (pe_m0 PySem.F.slot_str_isalpha PySem.F.type_str_isalpha mt_isalpha (pe_ix ix_str (pv 0) pe_int (fun _ _ => rfl)))
        (pe_one (pe_cmpR op_le (pe_callB call_len_str (by rfl) ml (by decide +kernel) (pa_cons (pv 0) pa_nil)) (pe_glob (v := .int 12) (by rfl) mM ⟨_, rfl⟩) (by rfl))))))))), ?_⟩
    rcases h with ⟨z, rfl, hz, k⟩ | ⟨⟨n, ty, kb⟩, k⟩
    · have szl : z.length ≤ sizeLine := by rw [sizeLine_eq]; omega
      have no : pre8 z.cps.toList = false → Q (.bl false) H := fun e => by
        have q := k H fun _ _ e => e
        rw [nmB_no e] at q
        exact q
      have pe := pre8_eq z
      refine ⟨_, rfl, _, .ty "str", _, _, true, rfl, .ty "str", .base (.str z), kit_ty (by decide +kernel), _, rfl, ?_⟩
      refine iteT ?_
      refine ⟨_, rfl, ⟨_, rfl⟩, _, rfl, rfl, trivial, _, rfl, ?_⟩
      cases eA : Txt.isascii z with
      | false => exact iteF (no (by rw [← pe, eA, Bool.false_and, Bool.false_and]))
      | true =>
        refine iteT ⟨_, rfl, ⟨_, rfl⟩, _, rfl, rfl, trivial, _, rfl, ?_⟩
        cases eB : Txt.isalnum z with
        | false => exact iteF (no (by rw [← pe, eB, Bool.and_false, Bool.false_and]))
        | true =>
          refine iteT ⟨_, rfl, ⟨_, rfl⟩, _, rfl, rfl, trivial, _, rfl, ?_⟩
          cases eC : Txt.islower z with
          | false => exact iteF (no (by rw [← pe, eC, Bool.and_false]))
          | true =>
            have p8 : pre8 z.cps.toList = true := by rw [← pe, eA, eB, eC]; rfl
            have lz : z.cps.toList.length = z.length := length_toList z
            have k' := k H fun _ _ e => e
            cases hc : z.cps.toList with
            | nil =>
              rw [hc] at p8
              cases p8
            | cons c r =>
              rw [hc] at p8 k' lz
              rw [nmB_pre p8] at k'
              refine iteT ⟨_, rfl, z, 0, c, rfl, rfl, szl, by rw [hc]; exact atI_nat (j := 0) rfl, ⟨_, rfl⟩, _, rfl, rfl, trivial, _, rfl, ?_⟩
              have ea : Txt.isalpha ⟨#[c]⟩ = Unicode.isAlpha c := by
                unfold Txt.isalpha
                simp [Str.length]
              rw [ea]
              cases eD : Unicode.isAlpha c with
              | false =>
                rw [eD, Bool.false_and] at k'
                exact iteF k'
              | true =>
                rw [eD, Bool.true_and] at k'
                refine iteT ⟨_, rfl, z, rfl, szl, _, _, rfl, rfl, ?_⟩
                have e : decide ((z.length : Int) ≤ 12) = decide ((c :: r).length ≤ 12) := decide_eq_decide.mpr ⟨fun h => by omega, fun h => by omega⟩
                rw [← e] at k'
                exact k'
    · refine ⟨_, rfl, _, .ty "str", _, _, false, rfl, .ty "str", ty, kit_ty kb, _, rfl, ?_⟩
      exact iteF k
end
end L2.LawH
set_option Elab.async false
set_option linter.all false
set_option maxRecDepth 100000
set_option maxHeartbeats 4000000
/-! is_variable, is_pattern, is_fact. -/
namespace L2.LawH
open PySem PySem.Spec PyProof.Rows L2.Cmp L2.TxtSet
abbrev sIsV9 : Stmt := top 4
abbrev sIsP9 : Stmt := top 5
abbrev sIsF9 : Stmt := top 6
def varB (z : Str) : Bool := isV z && nmB (z.cps.toList.drop 1)
theorem cut_tail (z : Str) : (cutS z (some 1) none).cps.toList = z.cps.toList.drop 1 := by
  have l : z.cps.toList.length = z.length := length_toList z
  have e1 : HT.sIx z.length 0 (some 1) = min 1 z.length := HT.sIx_nat z.length 0 1
  unfold cutS
  rw [e1, HT.sIx_none]
  show (z.cps.toList.drop (min 1 z.length)).take (z.length - min 1 z.length) = _
  cases hc : z.cps.toList with
  | nil => simp
  | cons c r =>
    rw [hc, List.length_cons] at l
    have m : min 1 z.length = 1 := by omega
    rw [m]
    have e : z.length - 1 = r.length := by omega
    rw [e]
    simp
/-- names and variables among values -/
def vN : V → Bool
  | .str z => nmB z.cps.toList
  | _ => false
def vV : V → Bool
  | .str z => varB z
  | _ => false
/-- a value that may be asked -/
def Okv (K : PySem.W.Frag) (H : Hp) (x : V) : Prop := (∃ z : Str, x = .str z ∧ z.length ≤ 100000) ∨ (NotS K H x ∧ ∀ z, x ≠ .str z)
theorem tyx_same {K : PySem.W.Frag} {H H' : Hp} (s : Same H H') {x : V} {t : Value} (h : TyX K H x t) : TyX K H' x t := by
  cases h with
  | base b =>
    refine .base ?_
    cases b with
    | non => exact .non
    | bl x => exact .bl x
    | int i => exact .int i
    | str x => exact .str x
    | flt x => exact .flt x
    | lst e => exact .lst (s _ _ e)
    | frz e => exact .frz (s _ _ e)
    | tup e => exact .tup (s _ _ e)
    | dK e => exact .dK (s _ _ e)
    | dT e => exact .dT (s _ _ e)
    | ins e cl ha hn htk hm => exact .ins (s _ _ e) cl ha hn htk hm
  | byt b => exact .byt b
  | set e => exact .set (s _ _ e)
  | kList e c => exact .kList e c
  | kTuple e c => exact .kTuple e c
  | kDict e c => exact .kDict e c
  | fTuple e => exact .fTuple (s _ _ e)
  | fDict e => exact .fDict (s _ _ e)
theorem Okv.same {K : PySem.W.Frag} {H H' : Hp} (s : Same H H') {x : V} (h : Okv K H x) : Okv K H' x := by
  rcases h with h | ⟨⟨n, ty, kb⟩, no⟩
  · exact .inl h
  · exact .inr ⟨⟨n, tyx_same s ty, kb⟩, no⟩
def NotT (K : PySem.W.Frag) (H : Hp) (x : V) : Prop := ∃ n : String, TyX K H x (.type n) ∧ kitB n "tuple" = some false
def patB (xs : List V) : Bool := match xs with
  | [] => false
  | x :: r => decide (r.length ≤ 3) && vN x && r.all fun y => vN y || vV y
def factB (xs : List V) : Bool := patB xs && xs.all vN
def spIsVr (K : PySem.W.Frag) : Sp := fun vs H Q _ => ∃ x : V, vs = [x] ∧ Okv K H x ∧ ∀ H', Same H H' → Q (.bl (vV x)) H'
def spIsP (K : PySem.W.Frag) (f : List V → Bool) : Sp := fun vs H Q _ => ∃ x : V, vs = [x] ∧
  ((∃ (t : Addr) (xs : List V), x = .ref t ∧ H t = some (.tup xs) ∧ xs.length ≤ 100000 ∧ (∀ y ∈ xs, Okv K H y) ∧ ∀ H', Same H H' → Q (.bl (f xs)) H') ∨ (NotT K H x ∧ ∀ H', Same H H' → Q (.bl false) H'))
theorem isN_of {K : PySem.W.Frag} {H : Hp} {x : V} {Q : VK} {E : XK} (o : Okv K H x) (k : ∀ H', Same H H' → Q (.bl (vN x)) H') : spIsN K [x] H Q E := by
  refine ⟨x, rfl, ?_⟩
  rcases o with ⟨z, rfl, l⟩ | ⟨n, no⟩
  · exact .inl ⟨z, rfl, l, k⟩
  · refine .inr ⟨n, ?_⟩
    have e : vN x = false := by
      cases x with
      | str z => exact absurd rfl (no z)
      | _ => rfl
    have q := k H fun _ _ e => e
    rw [e] at q
    exact q
section
variable {P : Program} {w : World} {K : PySem.W.Frag} {mg : Str → Option Value} {base : Heap}
theorem scIV : FnScope ["value"] ["value"] (defScope sIsV9) := ⟨rfl, rfl, rfl, by decide +kernel, rfl, by decide +kernel, by decide +kernel⟩
theorem ok_isV {f fN : Addr} {fd fdN : FuncData} (F : Fun K "is_variable" "is_variable" sIsV9 f fd)
    (GN : FnOk P w K mg base CX0 1 fN fdN ["value"] (spIsN K)) (kN : PySem.W.keepIn K (.ref fN) = true) (bN : Binds K fdN ["value"] []) (mN : mg "is_name" = some (.ref fN))
    (mi : mg "isinstance" = none) (mst : mg "str" = none) :
    FnOk P w K mg base CX0 2 f fd ["value"] (spIsVr K) := by
  refine F.ok scIV (fun vs H Q E h => ?_) (fun cdv A outer s H vs Q E hr h => ?_)
  · obtain ⟨x, rfl, _⟩ := h
    rfl
  · obtain ⟨x, rfl, o, k⟩ := h
    have hr1 : Room 1 _ := hr.mono (by decide)
    refine ⟨_, pss_one (ps_ret (pe_and (pe_callB call_isi (by rfl) mi (by decide +kernel) (pa_cons (pv 0) (pa_cons (pe_bltn (v := .ty "str") (by rfl) mst (by decide +kernel) rfl) pa_nil)))
      (pe_and (pe_m1 PySem.F.slot_str_startswith PySem.F.type_str_startswith mt_startswith (pv 0) pe_str)
        (pe_one (pe_call GN hr1 (by rfl) mN kN bN .nil pass0 (pa_cons (pe_slice sl_str (pv 0) (po_some pe_int) po_none) pa_nil)))))), ?_⟩
    rcases o with ⟨z, rfl, l⟩ | ⟨⟨n, ty, kb⟩, no⟩
    · have kv : ∀ H', Same H H' → Q (.bl (varB z)) H' := k
      refine ⟨_, rfl, _, .ty "str", _, _, true, rfl, .ty "str", .base (.str z), kit_ty (by decide +kernel), _, rfl, ?_⟩
      refine iteT ?_
      refine ⟨_, rfl, ⟨_, rfl⟩, _, _, rfl, rfl, _, rfl, ?_⟩
      refine ite2 (fun h1 => ?_) (fun h1 => ?_)
      · have h1 : isV z = true := h1
        refine ⟨_, rfl, _, rfl, z, rfl, by rw [sizeLine_eq]; omega, ?_⟩
        refine isN_of (E := E0) (.inl ⟨_, rfl, Nat.le_trans (cutS_length z (some 1) none) l⟩) fun H' s => ?_
        have q := kv H' s
        unfold varB at q
        rw [h1, Bool.true_and, ← cut_tail] at q
        exact q
      · have h1 : isV z = false := by
          cases e : isV z with
          | false => rfl
          | true => exact absurd e h1
        have q := kv H fun _ _ e => e
        unfold varB at q
        rw [h1, Bool.false_and] at q
        exact q
    · refine ⟨_, rfl, _, .ty "str", _, _, false, rfl, .ty "str", ty, kit_ty kb, _, rfl, ?_⟩
      refine iteF ?_
      have q := k H fun _ _ e => e
      have e : vV x = false := by
        cases x with
        | str z => exact absurd rfl (no z)
        | _ => rfl
      rw [e] at q
      exact q
theorem scIP : FnScope ["value", "term"] ["value"] (defScope sIsP9) := ⟨rfl, rfl, rfl, by decide +kernel, rfl, by decide +kernel, by decide +kernel⟩
theorem ok_isP {f fN fV : Addr} {fd fdN fdV : FuncData} (F : Fun K "is_pattern" "is_pattern" sIsP9 f fd)
    (GN : FnOk P w K mg base CX0 1 fN fdN ["value"] (spIsN K)) (kN : PySem.W.keepIn K (.ref fN) = true) (bN : Binds K fdN ["value"] []) (mN : mg "is_name" = some (.ref fN))
    (GV : FnOk P w K mg base CX0 2 fV fdV ["value"] (spIsVr K)) (kV : PySem.W.keepIn K (.ref fV) = true) (bV : Binds K fdV ["value"] []) (mV : mg "is_variable" = some (.ref fV))
    {t3 : Tok} (mM : mg "MOST_TERMS" = some (.int 3 t3)) (mi : mg "isinstance" = none) (mtp : mg "tuple" = none) (ml : mg "len" = none) :
    FnOk P w K mg base CX0 3 f fd ["value"] (spIsP K patB) := by
  refine F.ok scIP (fun vs H Q E h => ?_) (fun cdv A outer s H vs Q E hr h => ?_)
  · obtain ⟨x, rfl, _⟩ := h
    rfl
  · obtain ⟨x, rfl, h⟩ := h
    have hr1 : Room 1 _ := hr.mono (by decide)
    have hr2 : Room 2 _ := hr.mono (by decide)
    refine ⟨_, pss_cons (ps_if (PW.pt (pw_or (pt_not (pt_val (pe_callB call_isi (by rfl) mi (by decide +kernel) (pa_cons (pv 0) (pa_cons (pe_bltn (v := .ty "tuple") (by rfl) mtp (by decide +kernel) rfl) pa_nil)))))
          (pw_or1 (pt_not (pt_chain op_le op_le pe_int (pe_callB call_len_seq (by rfl) ml (by decide +kernel) (pa_cons (pv 0) pa_nil)) (pe_op op_add pe_int (pe_glob (v := .int 3) (by rfl) mM ⟨_, rfl⟩))))))) (pss_one (ps_ret pe_bl)) pss_nil)
      (pss_cons (ps_for PassesOwn.never rfl (pi_tup (pe_slice sl_tup (pv 0) (po_some pe_int) po_none)) (pg_name (i := 1) scIP.nd rfl (Or.inl rfl))
        (pss_one (ps_if (PW.pt (pw_and (pt_not (pt_val (pe_call GN hr1 (by rfl) mN kN bN .nil pass0 (pa_cons (pv 1) pa_nil)))) (pw_and1 (pt_not (pt_val (pe_call GV hr2 (by rfl) mV kV bV .nil pass0 (pa_cons (pv 1) pa_nil)))))))
          (pss_one (ps_ret pe_bl)) pss_nil)))
      (pss_one (ps_ret (pe_call GN hr1 (by rfl) mN kN bN .nil pass0 (pa_cons (pe_ix ix_tup (pv 0) pe_int (fun _ _ => rfl)) pa_nil))))), ?_⟩
    rcases h with ⟨t, xs, rfl, ht, lx, okx, k⟩ | ⟨⟨n, ty, kb⟩, k⟩
    · have big : ¬ (1 ≤ xs.length ∧ xs.length ≤ 4) → Q (.bl false) H := fun no => by
        have q := k H fun _ _ e => e
        have e : patB xs = false := by
          cases xs with
          | nil => rfl
          | cons x r =>
            rw [List.length_cons] at no
            show (decide (r.length ≤ 3) && vN x && r.all fun y => vN y || vV y) = false
            rw [decide_eq_false (by omega), Bool.false_and, Bool.false_and]
        rw [e] at q
        exact q
      refine ⟨_, rfl, _, .ty "tuple", _, _, true, rfl, .ty "tuple", .base (.tup ht), kit_ty (by decide +kernel), _, rfl, ?_⟩
      refine iteF ?_
      refine ⟨_, rfl, t, _, rfl, .inr (SqT.of ht), _, _, rfl, rfl, _, rfl, ?_⟩
      refine ite2 (fun l1 => ⟨_, _, rfl, rfl, _, _, rfl, rfl, _, rfl, ?_⟩) (fun l1 => ⟨_, rfl, iteT (big fun y => l1 (decide_eq_true (by omega)))⟩)
      have l1 : (1 : Int) ≤ xs.length := of_decide_eq_true l1
      refine ite2 (fun l2 => ?_) (fun l2 => ?_)
      · have l2' : ¬ ((xs.length : Int) ≤ 1 + 3) := fun y => by
          rw [decide_eq_true y] at l2
          cases l2
        exact big fun y => l2' (by omega)
      · have l2' : (xs.length : Int) ≤ 1 + 3 := by
          by_cases y : (xs.length : Int) ≤ 1 + 3
          · exact y
          · rw [decide_eq_false y] at l2
            exact absurd rfl l2
        cases xs with
        | nil =>
          rw [List.length_nil] at l1
          omega
        | cons y r =>
          have lr : r.length ≤ 3 := by
            rw [List.length_cons] at l2'
            omega
          have k : ∀ H', Same H H' → Q (.bl (vN y && r.all fun y => vN y || vV y)) H' := fun H' s => by
            have q := k H' s
            have e : patB (y :: r) = (vN y && r.all fun y => vN y || vV y) := by
              show (decide (r.length ≤ 3) && vN y && r.all fun y => vN y || vV y) = _
              rw [decide_eq_true lr, Bool.true_and]
            rw [e] at q
            exact q
          refine ⟨_, rfl, _, rfl, t, _, rfl, SqT.of ht, cut_part _ _, fun u nu => ⟨u, rfl, ⟨_, SqT.of upd_same⟩, ?_⟩⟩
          rw [cut_one]
          refine for_tup (xs := r) (fun i σ H5 => ∃ v1, σ = [some (.ref t), v1] ∧ Same H H5 ∧ H5 u = some (.tup r) ∧ ((r.take i).all fun y => vN y || vV y) = true)
            ⟨none, rfl, same_new nu, upd_same, rfl⟩ (fun i σ H5 _ p => ?_) (fun i x σ H5 hx p => ?_) (fun σ H5 p => ?_)
          · obtain ⟨_, _, _, p2, _⟩ := p
            exact SqT.of p2
          · obtain ⟨v1, rfl, p1, p2, p3⟩ := p
            have ox : Okv K H x := okx x (List.mem_cons_of_mem _ (List.mem_of_getElem? hx))
            have more : (vN x || vV x) = true → ((r.take (i + 1)).all fun y => vN y || vV y) = true := fun e => by
              rw [List.take_add_one, hx, List.all_append, p3]
              simpa using e
            have less : (vN x || vV x) = false → ∀ H', Same H H' → Q (.bl false) H' := fun e H' s => by
              have q := k H' s
              have n : (r.all fun y => vN y || vV y) = false := by
                rw [List.all_eq_false]
                exact ⟨x, List.mem_of_getElem? hx, by rw [e]; decide⟩
              rw [n, Bool.and_false] at q
              exact q
            refine ⟨_, rfl, ?_⟩
            dsimp only [tNil, List.cons_append, List.nil_append]
            refine isN_of (K := K) (E := E0) (ox.same p1) fun H6 s6 => ⟨_, rfl, ?_⟩
            cases en : vN x with
            | true =>
              refine iteF ⟨_, rfl, p1.trans s6, s6 _ _ p2, more (by rw [en]; rfl)⟩
            | false =>
              refine iteT ⟨_, rfl, x, rfl, ox.same (p1.trans s6), fun H7 s7 => ⟨_, rfl, ?_⟩⟩
              cases ev : vV x with
              | true => exact iteF ⟨_, rfl, (p1.trans s6).trans s7, s7 _ _ (s6 _ _ p2), more (by rw [ev, Bool.or_true])⟩
              | false => exact iteT (less (by rw [en, ev]; rfl) _ ((p1.trans s6).trans s7))
          · obtain ⟨v1, rfl, p1, p2, p3⟩ := p
            rw [List.take_length] at p3
            refine ⟨_, rfl, t, _, 0, y, rfl, rfl, SqT.of (p1 _ _ ht), atI_nat (j := 0) rfl, ?_⟩
            dsimp only [tNil, List.cons_append, List.nil_append]
            refine isN_of (K := K) (E := E0) ((okx y List.mem_cons_self).same p1) fun H1 s1 => ?_
            have q := k H1 (p1.trans s1)
            rw [p3, Bool.and_true] at q
            exact q
    · refine ⟨_, rfl, _, .ty "tuple", _, _, false, rfl, .ty "tuple", ty, kit_ty kb, _, rfl, ?_⟩
      exact iteT (k H fun _ _ e => e)
end
end L2.LawH
set_option Elab.async false
set_option linter.all false
set_option maxRecDepth 100000
set_option maxHeartbeats 4000000
/-! is_fact. -/
namespace L2.LawH
open PySem PySem.Spec PyProof.Rows L2.Cmp L2.TxtSet
abbrev sIsF10 : Stmt := top 6
section
variable {P : Program} {w : World} {K : PySem.W.Frag} {mg : Str → Option Value} {base : Heap}
theorem scIF : FnScope ["value", "term"] ["value"] (defScope sIsF10) := ⟨rfl, rfl, rfl, by decide +kernel, rfl, by decide +kernel, by decide +kernel⟩
theorem factB_eq {xs : List V} (h0 : 1 ≤ xs.length) (h : xs.length ≤ 4) : factB xs = xs.all vN := by
  cases xs with
  | nil => cases h0
  | cons y r =>
    rw [List.length_cons] at h
    show ((decide (r.length ≤ 3) && vN y && (r.all fun y => vN y || vV y)) && (vN y && r.all vN)) = (vN y && r.all vN)
    rw [decide_eq_true (by omega), Bool.true_and]
    cases e : r.all vN with
    | false => simp
    | true =>
      have e2 : (r.all fun y => vN y || vV y) = true := List.all_eq_true.mpr fun x m => by rw [List.all_eq_true.mp e x m, Bool.true_or]
      rw [e2]
      simp
theorem factB_no {xs : List V} (h : ¬ (1 ≤ xs.length ∧ xs.length ≤ 4)) : factB xs = false := by
  cases xs with
  | nil => rfl
  | cons y r =>
    rw [List.length_cons] at h
    show ((decide (r.length ≤ 3) && vN y && (r.all fun y => vN y || vV y)) && (vN y && r.all vN)) = false
    rw [decide_eq_false (by omega), Bool.false_and, Bool.false_and, Bool.false_and]
theorem ok_isF {f fN : Addr} {fd fdN : FuncData} (F : Fun K "is_fact" "is_fact" sIsF10 f fd)
    (GN : FnOk P w K mg base CX0 1 fN fdN ["value"] (spIsN K)) (kN : PySem.W.keepIn K (.ref fN) = true) (bN : Binds K fdN ["value"] []) (mN : mg "is_name" = some (.ref fN))
    {t3 : Tok} (mM : mg "MOST_TERMS" = some (.int 3 t3)) (mi : mg "isinstance" = none) (mtp : mg "tuple" = none) (ml : mg "len" = none) :
    FnOk P w K mg base CX0 4 f fd ["value"] (spIsP K factB) := by
  refine F.ok scIF (fun vs H Q E h => ?_) (fun cdv A outer s H vs Q E hr h => ?_)
  · obtain ⟨x, rfl, _⟩ := h
    rfl
  · obtain ⟨x, rfl, h⟩ := h
    have hr1 : Room 1 _ := hr.mono (by decide)
    refine ⟨_, pss_cons (ps_if (PW.pt (pw_or (pt_not (pt_val (pe_callB call_isi (by rfl) mi (by decide +kernel) (pa_cons (pv 0) (pa_cons (pe_bltn (v := .ty "tuple") (by rfl) mtp (by decide +kernel) rfl) pa_nil)))))
          (pw_or1 (pt_not (pt_chain op_le op_le pe_int (pe_callB call_len_seq (by rfl) ml (by decide +kernel) (pa_cons (pv 0) pa_nil)) (pe_op op_add pe_int (pe_glob (v := .int 3) (by rfl) mM ⟨_, rfl⟩))))))) (pss_one (ps_ret pe_bl)) pss_nil)
      (pss_cons (ps_for PassesOwn.never rfl (pi_tup (pv 0)) (pg_name (i := 1) scIF.nd rfl (Or.inl rfl))
        (pss_one (ps_if (pt_not (pt_val (pe_call GN hr1 (by rfl) mN kN bN .nil pass0 (pa_cons (pv 1) pa_nil)))) (pss_one (ps_ret pe_bl)) pss_nil)))
      (pss_one (ps_ret pe_bl))), ?_⟩
    rcases h with ⟨t, xs, rfl, ht, lx, okx, k⟩ | ⟨⟨n, ty, kb⟩, k⟩
    · have big : ¬ (1 ≤ xs.length ∧ xs.length ≤ 4) → Q (.bl false) H := fun no => by
        have q := k H fun _ _ e => e
        rw [factB_no no] at q
        exact q
      refine ⟨_, rfl, _, .ty "tuple", _, _, true, rfl, .ty "tuple", .base (.tup ht), kit_ty (by decide +kernel), _, rfl, ?_⟩
      refine iteF ?_
      refine ⟨_, rfl, t, _, rfl, .inr (SqT.of ht), _, _, rfl, rfl, _, rfl, ?_⟩
      refine ite2 (fun l1 => ⟨_, _, rfl, rfl, _, _, rfl, rfl, _, rfl, ?_⟩) (fun l1 => ⟨_, rfl, iteT (big fun y => l1 (decide_eq_true (by omega)))⟩)
      have l1 : (1 : Int) ≤ xs.length := of_decide_eq_true l1
      refine ite2 (fun l2 => ?_) (fun l2 => ?_)
      · have l2' : ¬ ((xs.length : Int) ≤ 1 + 3) := fun y => by
          rw [decide_eq_true y] at l2
          cases l2
        exact big fun y => l2' (by omega)
      · have l2' : (xs.length : Int) ≤ 1 + 3 := by
          by_cases y : (xs.length : Int) ≤ 1 + 3
          · exact y
          · rw [decide_eq_false y] at l2
            exact absurd rfl l2
        rw [factB_eq (by omega) (by omega)] at k
        refine ⟨_, rfl, t, rfl, ⟨_, SqT.of ht⟩, ?_⟩
        refine for_tup (xs := xs) (fun i σ H5 => ∃ v1, σ = [some (.ref t), v1] ∧ Same H H5 ∧ ((xs.take i).all vN) = true)
          ⟨none, rfl, fun _ _ e => e, rfl⟩ (fun i σ H5 _ p => ?_) (fun i x σ H5 hx p => ?_) (fun σ H5 p => ?_)
        · obtain ⟨_, _, p1, _⟩ := p
          exact SqT.of (p1 _ _ ht)
        · obtain ⟨v1, rfl, p1, p3⟩ := p
          have ox : Okv K H x := okx x (List.mem_of_getElem? hx)
          refine ⟨_, rfl, ?_⟩
          dsimp only [tNil, List.cons_append, List.nil_append]
          refine isN_of (K := K) (E := E0) (ox.same p1) fun H6 s6 => ⟨_, rfl, ?_⟩
          cases en : vN x with
          | true =>
            refine iteF ⟨_, rfl, p1.trans s6, ?_⟩
            rw [List.take_add_one, hx, List.all_append, p3]
            simpa using en
          | false =>
            have q := k H6 (p1.trans s6)
            have n : xs.all vN = false := by
              rw [List.all_eq_false]
              exact ⟨x, List.mem_of_getElem? hx, by rw [en]; decide⟩
            rw [n] at q
            exact iteT q
        · obtain ⟨v1, rfl, p1, p3⟩ := p
          rw [List.take_length] at p3
          have q := k H5 p1
          rw [p3] at q
          exact q
    · refine ⟨_, rfl, _, .ty "tuple", _, _, false, rfl, .ty "tuple", ty, kit_ty kb, _, rfl, ?_⟩
      exact iteT (k H fun _ _ e => e)
end
end L2.LawH
set_option Elab.async false
set_option linter.all false
set_option maxRecDepth 100000
set_option maxHeartbeats 4000000
/-! filled. -/
namespace L2.LawH
open PySem PySem.Spec PyProof.Rows L2.Cmp L2.TxtSet
abbrev sFil : Stmt := top 8
/-- what a term is replaced by -/
def fillV (kvs : List (Key × V)) (z : Str) : V := (valV kvs (Sum.inr z)).getD (.str z)
def spFil : Sp := fun vs H Q _ => ∃ (t d : Addr) (zs : List Str) (kvs : List (Key × V)), vs = [.ref t, .ref d] ∧ H t = some (.tup (zs.map V.str)) ∧ H d = some (.dK kvs) ∧ zs.length ≤ 1000 ∧
  ∀ (u : Addr) (H' : Hp), Same H H' → H u = none → H' u = some (.tup (zs.map (fillV kvs))) → Q (.ref u) H'
section
variable {P : Program} {w : World} {K : PySem.W.Frag} {mg : Str → Option Value} {base : Heap}
theorem scFi : FnScope ["pattern", "known", "term"] ["pattern", "known"] (defScope sFil) := ⟨rfl, rfl, rfl, by decide +kernel, rfl, by decide +kernel, by decide +kernel⟩
theorem ok_fil {f : Addr} {fd : FuncData} (F : Fun K "filled" "filled" sFil f fd) (mt : mg "tuple" = none) : FnOk P w K mg base CX0 1 f fd ["pattern", "known"] spFil := by
  refine F.ok scFi (fun vs H Q E h => ?_) (fun cdv A outer s H vs Q E hr h => ?_)
  · obtain ⟨t, d, zs, kvs, rfl, _⟩ := h
    rfl
  · obtain ⟨t, d, zs, kvs, rfl, ht, hd, few, k⟩ := h
    have hu := hu_of hr
    refine ⟨_, pss_one (ps_ret (pe_callTy call_tuple_of (by rfl) mt (by decide +kernel) (pa_cons (pe_lc (own := [("term", 2)]) (g := gName 2) (tt := tYes) rfl scFi.nd (pi_tup (pv 0))
      (blkOk_by (own := [("term", 2)]) (N := ["pattern", "known", "term"]) (sc := defScope sFil) (by decide +kernel)) (fun _ _ _ _ _ => pg_name (i := 2) scFi.nd rfl (Or.inl rfl)) (fun _ _ _ _ _ => pts_nil)
      (fun _ _ _ _ _ => pe_dget2 hu (pv 1) (pv 2) (pv 2) ⟨rfl, rfl, rfl, rfl⟩)) pa_nil))), ?_⟩
    refine ⟨_, rfl, t, rfl, ⟨_, SqT.of ht⟩, fun D nD => ?_⟩
    refine lc_tup (K := K) (a := t) (xs := zs.map V.str) (fun i H5 => Same H H5 ∧ H5 D = some (.lst ((zs.take i).map (fillV kvs)))) ⟨same_new nD, upd_same⟩ (fun i H5 _ p => SqT.of (p.1 _ _ ht)) (fun i x H5 hx p => ?_) (fun H5 p => ?_)
    · obtain ⟨p1, p3⟩ := p
      rw [List.getElem?_map] at hx
      obtain ⟨z, hz, rfl⟩ := Option.map_eq_some_iff.mp hx
      refine ⟨rfl, ?_⟩
      dsimp only [tYes]
      rw [if_pos rfl]
      refine ⟨_, rfl, d, rfl, .inl ⟨kvs, .inl (p1 _ _ hd)⟩, _, rfl, _, rfl, _, DGet.k (k := Sum.inr z) (p1 _ _ hd), _, p3, ?_, fun b o e => ?_, ?_⟩
      · rw [List.length_map, List.length_take, sizeLine_eq]
        omega
      · rw [upd_ne (ne_of_none e nD)]
        exact p1 _ _ e
      · rw [upd_same, List.take_add_one, hz]
        simp [fillV]
    · obtain ⟨p1, p3⟩ := p
      rw [List.length_map, List.take_length] at p3
      refine ⟨D, _, rfl, .inl ⟨SqL.of p3, fun u nu => k u _ (fun b o e => ?_) ?_ upd_same⟩⟩
      · have q := p1 _ _ e
        rw [upd_ne (ne_of_none q nu)]
        exact q
      · cases e : H u with
        | none => rfl
        | some o =>
          rw [p1 _ _ e] at nu
          cases nu
end
end L2.LawH
set_option Elab.async false
set_option linter.all false
set_option maxRecDepth 100000
set_option maxHeartbeats 4000000
/-! pattern_text. -/
namespace L2.LawH
open PySem PySem.Spec PyProof.Rows L2.Cmp L2.TxtSet
abbrev sPt12 : Stmt := top 9
theorem len_app (a b : Str) : (a ++ b).length = a.length + b.length := by
  rw [← length_toList, toList_append, List.length_append, length_toList, length_toList]
theorem join_len (sep : Str) : ∀ ys : List Str, (Str.join sep ys).length ≤ (ys.map (·.length)).sum + ys.length * sep.length
  | [] => Nat.zero_le _
  | [x] => by
    show x.length ≤ _
    simp
  | x :: y :: r => by
    have ih := join_len sep (y :: r)
    show (x ++ sep ++ Str.join sep (y :: r)).length ≤ _
    rw [len_app, len_app, List.map_cons, List.sum_cons, List.length_cons, Nat.succ_mul]
    omega
theorem sum_le (B : Nat) : ∀ ys : List Str, (∀ y ∈ ys, y.length ≤ B) → (ys.map (·.length)).sum ≤ ys.length * B
  | [], _ => Nat.zero_le _
  | x :: r, h => by
    have ih := sum_le B r fun y m => h y (List.mem_cons_of_mem _ m)
    have hx := h x List.mem_cons_self
    rw [List.map_cons, List.sum_cons, List.length_cons, Nat.succ_mul]
    omega
/-- the text of a pattern, as it is put together -/
def ptext (T : Str) (zs : List Str) : Str := Str.empty ++ T ++ "(" ++ Txt.join "," zs ++ ")"
def spPtx : Sp := fun vs H Q _ => ∃ (t : Addr) (T : Str) (zs : List Str), vs = [.ref t] ∧ H t = some (.tup (.str T :: zs.map V.str)) ∧ zs.length ≤ 100 ∧ T.length ≤ 1000 ∧ (∀ z ∈ zs, z.length ≤ 1000) ∧
  ∀ H', Same H H' → Q (.str (ptext T zs)) H'
section
variable {P : Program} {w : World} {K : PySem.W.Frag} {mg : Str → Option Value} {base : Heap}
theorem scPx : FnScope ["pattern", "terms"] ["pattern"] (defScope sPt12) := ⟨rfl, rfl, rfl, by decide +kernel, rfl, by decide +kernel, by decide +kernel⟩
theorem ok_ptx {f : Addr} {fd : FuncData} (F : Fun K "pattern_text" "pattern_text" sPt12 f fd) : FnOk P w K mg base CX0 1 f fd ["pattern"] spPtx := by
  refine F.ok scPx (fun vs H Q E h => ?_) (fun cdv A outer s H vs Q E hr h => ?_)
  · obtain ⟨t, T, zs, rfl, _⟩ := h
    rfl
  · obtain ⟨t, T, zs, rfl, ht, few, lT, lz, k⟩ := h
    refine ⟨_, pss_cons (ps_set (i := 1) scPx.nd rfl (Or.inl rfl) (pe_join pe_str (pe_slice sl_tup (pv 0) (po_some pe_int) po_none)))
      (pss_one (ps_ret (pe_joined (.cons (pe_fmt (pe_ix ix_tup (pv 0) pe_int (fun _ _ => rfl))) (.cons pe_str (.cons (pe_fmt (pv 1)) (.cons pe_str .nil))))))), ?_⟩
    have e0 : Str.empty.length = 0 := rfl
    have s1 := sum_le 1000 zs lz
    have c1 : (("," : String) : Str).length = 1 := by decide +kernel
    have c2 : (("(" : String) : Str).length = 1 := by decide +kernel
    have c3 : (((")" : String)) : Str).length = 1 := by decide +kernel
    have jl : (Txt.join "," zs).length ≤ 110000 := by
      have q := join_len "," zs
      rw [c1] at q
      have e : Txt.join "," zs = Str.join "," zs := StrLaws.glued_eq_join _ _
      rw [e]
      refine Nat.le_trans q ?_
      have : zs.length * 1000 ≤ 100 * 1000 := Nat.mul_le_mul_right _ few
      omega
    refine ⟨⟨_, rfl⟩, _, rfl, _, rfl, t, _, rfl, SqT.of ht, cut_part _ _, fun u nu => ?_⟩
    rw [cut_one]
    refine ⟨_, u, zs, rfl, rfl, .inr (SqT.of upd_same), ?_, ?_⟩
    · rw [c1]
      have : zs.length * 1000 ≤ 100 * 1000 := Nat.mul_le_mul_right _ few
      omega
    · have ht2 := (same_new nu (o := .tup (zs.map V.str))) _ _ ht
      refine ⟨_, rfl, t, _, 0, _, rfl, rfl, SqT.of ht2, atI_nat (j := 0) rfl, .inl ⟨T, rfl, ?_, T, rfl, ?_, _, rfl, ?_, _, rfl, .inl ⟨_, rfl, ?_, _, rfl, ?_, _, rfl, ?_, ?_⟩⟩⟩
      · rw [sizeLine_eq]; omega
      · rw [len_app, e0, sizeLine_eq]; omega
      · rw [len_app, len_app, e0, c2, sizeLine_eq]; omega
      · rw [sizeLine_eq]; omega
      · rw [len_app, len_app, len_app, e0, c2, sizeLine_eq]; omega
      · rw [len_app, len_app, len_app, len_app, e0, c2, c3, sizeLine_eq]; omega
      · exact k _ (same_new nu)
end
end L2.LawH
set_option Elab.async false
set_option linter.all false
set_option maxRecDepth 100000
set_option maxHeartbeats 4000000
/-! _law_is_name. -/
namespace L2.LawH
open PySem PySem.Spec PyProof.Rows L2.Cmp L2.TxtSet
abbrev sLIN : Stmt := top 22
def spLIN (K : PySem.W.Frag) : Sp := fun vs H Q _ => ∃ x : V, vs = [x] ∧ ((∃ z : Str, x = .str z ∧ z.length ≤ 100000 ∧ (∀ c ∈ z.cps.toList, c < 0x110000) ∧ ∀ H', Same H H' → Q (.bl (nmB z.cps.toList)) H') ∨ (NotS K H x ∧ Q (.bl false) H))
def one (c : Nat) : Str := ⟨#[c]⟩
section
variable {P : Program} {w : World} {K : PySem.W.Frag} {mg : Str → Option Value} {base : Heap}
theorem scLIN : FnScope ["_law_value", "_law_sign"] ["_law_value"] (defScope sLIN) := ⟨rfl, rfl, rfl, by decide +kernel, rfl, by decide +kernel, by decide +kernel⟩
theorem ok_LIN {f : Addr} {fd : FuncData} (F : Fun K "_law_is_name" "_law_is_name" sLIN f fd) (mi : mg "isinstance" = none) (mst : mg "str" = none) (ml : mg "len" = none) :
    FnOk P w K mg base CX0 1 f fd ["_law_value"] (spLIN K) := by
  refine F.ok scLIN (fun vs H Q E h => ?_) (fun cdv A outer s H vs Q E hr h => ?_)
  · obtain ⟨x, rfl, _⟩ := h
    rfl
  · obtain ⟨x, rfl, h⟩ := h
    have hu := hr.units
    refine ⟨_, pss_cons (ps_if (PW.pt (pw_or (pt_not (pt_val (pe_callB call_isi (by rfl) mi (by decide +kernel) (pa_cons (pv 0) (pa_cons (pe_bltn (v := .ty "str") (by rfl) mst (by decide +kernel) rfl) pa_nil)))))
          (pw_or (pt_not (pt_chain op_le op_le pe_int (pe_callB call_len_str (by rfl) ml (by decide +kernel) (pa_cons (pv 0) pa_nil)) pe_int))
            (pw_or1 (pt_cmpR op_notin_str (pe_ix ix_str (pv 0) pe_int (fun _ _ => rfl)) pe_str (by rfl)))))) (pss_one (ps_ret pe_bl)) pss_nil)
      (pss_one (ps_ret (pe_cmpR (op_eqD hu) (pe_lc (own := [("_law_sign", 1)]) (g := gName 1) (tt := tTest (tOp (fun x y H Q => ∃ i j, x = .str i ∧ y = .str j ∧ Q (.bl (!(!(Builtin.Str.occurrences j i 0 j.length 1).isEmpty))) H) (tVar 1) (tC (.str sgnS8)))) rfl scLIN.nd (pi_str (pv 0))
          (blkOk_by (own := [("_law_sign", 1)]) (N := ["_law_value", "_law_sign"]) (sc := defScope sLIN) (by decide +kernel)) (fun _ _ _ _ _ => pg_name (i := 1) scLIN.nd rfl (Or.inl rfl)) (fun _ _ _ _ _ => pts_one (pt_cmpR op_notin_str (pv 1) pe_str (by rfl)))
          (fun _ _ _ _ _ => pv 1)) (pe_lst pa_nil) (by rfl)))), ?_⟩
    rcases h with ⟨z, rfl, hz, hcs, k⟩ | ⟨⟨n, ty, kb⟩, k⟩
    · have szl : z.length ≤ sizeLine := by rw [sizeLine_eq]; omega
      have lz : z.cps.toList.length = z.length := length_toList z
      have big : ¬ (1 ≤ z.length ∧ z.length ≤ 12) → Q (.bl false) H := fun no => by
        have q := k H fun _ _ e => e
        have e : nmB z.cps.toList = false := by
          cases hc : z.cps.toList with
          | nil => rfl
          | cons c r =>
            rw [hc, List.length_cons] at lz
            show (isLet c && r.all isSgn && decide (r.length ≤ 11)) = false
            rw [decide_eq_false (by omega), Bool.and_false]
        rw [e] at q
        exact q
      refine ⟨_, rfl, _, .ty "str", _, _, true, rfl, .ty "str", .base (.str z), kit_ty (by decide +kernel), _, rfl, ?_⟩
      refine iteF ?_
      refine ⟨_, rfl, z, rfl, szl, _, _, rfl, rfl, _, rfl, ?_⟩
      refine ite2 (fun l1 => ⟨_, _, rfl, rfl, _, rfl, ?_⟩) (fun l1 => ⟨_, rfl, iteT (big fun y => l1 (decide_eq_true (by omega)))⟩)
      have l1 : (1 : Int) ≤ z.length := of_decide_eq_true l1
      refine ite2 (fun l2 => ?_) (fun l2 => ?_)
      · have l2' : ¬ ((z.length : Int) ≤ 12) := fun y => by
          rw [decide_eq_true y] at l2
          cases l2
        exact big fun y => l2' (by omega)
      · have l2' : (z.length : Int) ≤ 12 := by
          by_cases y : (z.length : Int) ≤ 12
          · exact y
          · rw [decide_eq_false y] at l2
            exact absurd rfl l2
        cases hc : z.cps.toList with
        | nil =>
          rw [hc] at lz
          have : z.length = 0 := lz.symm
          omega
        | cons c r =>
          have lr : r.length ≤ 11 := by
            rw [hc, List.length_cons] at lz
            omega
          rw [hc, nmB_eq c r lr] at k
          refine ⟨_, rfl, z, 0, c, rfl, rfl, szl, by rw [hc]; exact atI_nat (j := 0) rfl, _, _, rfl, rfl, _, rfl, ?_⟩
          rw [in_let]
          cases el : isLet c with
          | false =>
            rw [el, Bool.false_and] at k
            exact iteT (k H fun _ _ e => e)
          | true =>
            rw [el, Bool.true_and] at k
            refine iteF ⟨_, rfl, z, rfl, fun D nD => ?_⟩
            refine ⟨fun i m H5 => m = z.cps.size - i ∧ i ≤ z.cps.size ∧ Same H H5 ∧ H5 D = some (.lst ((((z.cps.toList.take i).filter fun c => !isSgn c).map one).map V.str)), ⟨_, rfl, Nat.zero_le _, same_new nD, upd_same⟩, ?_⟩
            rintro i m H5 ⟨rfl, hi, s5, h5⟩
            have sz : z.cps.size = z.cps.toList.length := by rw [Array.length_toList]
            rcases Nat.lt_or_eq_of_le hi with lt | rfl
            · refine .inr ⟨lt, fun H6 => Same H H6 ∧ H6 D = some (.lst ((((z.cps.toList.take (i + 1)).filter fun c => !isSgn c).map one).map V.str)), fun H6 p => ⟨_, by omega, rfl, lt, p.1, p.2⟩, ?_⟩
              rintro _ _ ⟨rfl, c2, hc2, rfl⟩
              have hc3 : z.cps.toList[i]? = some c2 := by rw [Array.getElem?_toList]; exact hc2
              refine ⟨rfl, _, rfl, _, _, rfl, rfl, _, rfl, ?_⟩
              rw [in_sgn]
              cases es : isSgn c2 with
              | false =>
                refine iteT ⟨_, rfl, _, h5, ?_, fun b o e => ?_, ?_⟩
                · rw [List.length_map, List.length_map]
                  refine Nat.lt_of_le_of_lt (List.length_filter_le _ _) ?_
                  rw [List.length_take, sizeLine_eq]
                  omega
                · rw [upd_ne (ne_of_none e nD)]
                  exact s5 b o e
                · rw [upd_same, List.take_add_one, hc3]
                  simp [es, one]
              | true =>
                refine iteF ⟨s5, ?_⟩
                rw [List.take_add_one, hc3, List.filter_append]
                simp only [Option.toList_some, List.filter_cons, es, Bool.not_true, Bool.false_eq_true, if_false, List.filter_nil, List.append_nil]
                exact h5
            · rw [sz, List.take_length] at h5
              refine .inl ⟨Nat.le_refl _, ?_⟩
              refine ⟨by show 0 ≤ sizeLine; decide, fun p np => ?_⟩
              have np' : p ≠ D := fun e => by
                rw [e, h5] at np
                cases np
              refine ⟨_, _, .lst (SqL.of ((same_new np) _ _ h5)) (dp_strs _), .lst (SqL.of upd_same) .nil, shaped_strs fun y hy => ?_, by decide, ?_⟩
              · obtain ⟨c3, m3, rfl⟩ := List.mem_map.mp hy
                refine ok_list fun c4 m4 => ?_
                have e4 : c4 = c3 := by simpa [one] using m4
                rw [e4]
                exact hcs c3 (List.mem_filter.mp m3).1
              · rw [eqv_nil]
                have q := k (upd H5 p (.lst [])) (s5.trans (same_new np))
                have e : decide (List.map one (List.filter (fun c => !isSgn c) z.cps.toList) = []) = (c :: r).all isSgn := by
                  rw [hc, Bool.eq_iff_iff, decide_eq_true_iff, List.map_eq_nil_iff, List.filter_eq_nil_iff, List.all_eq_true]
                  exact ⟨fun h x m => by simpa using h x m, fun h x m => by simp [h x m]⟩
                rw [e]
                exact q
    · refine ⟨_, rfl, _, .ty "str", _, _, false, rfl, .ty "str", ty, kit_ty kb, _, rfl, ?_⟩
      exact iteT k
end
end L2.LawH
set_option Elab.async false
set_option linter.all false
set_option maxRecDepth 100000
set_option maxHeartbeats 4000000
/-! _law_is_term. -/
namespace L2.LawH
open PySem PySem.Spec PyProof.Rows L2.Cmp L2.TxtSet
abbrev sLIT : Stmt := top 23
/-- a value that the law may ask: its signs are signs -/
def Okl (K : PySem.W.Frag) (H : Hp) (x : V) : Prop := (∃ z : Str, x = .str z ∧ z.length ≤ 100000 ∧ ∀ c ∈ z.cps.toList, c < 0x110000) ∨ (NotS K H x ∧ ∀ z, x ≠ .str z)
theorem Okl.okv {K : PySem.W.Frag} {H : Hp} {x : V} (h : Okl K H x) : Okv K H x := h.imp (fun ⟨z, e, l, _⟩ => ⟨z, e, l⟩) id
theorem Okl.same {K : PySem.W.Frag} {H H' : Hp} (s : Same H H') {x : V} (h : Okl K H x) : Okl K H' x := h.imp id fun ⟨⟨n, ty, kb⟩, no⟩ => ⟨⟨n, tyx_same s ty, kb⟩, no⟩
theorem lin_of {K : PySem.W.Frag} {H : Hp} {x : V} {Q : VK} {E : XK} (o : Okl K H x) (k : ∀ H', Same H H' → Q (.bl (vN x)) H') : spLIN K [x] H Q E := by
  refine ⟨x, rfl, ?_⟩
  rcases o with ⟨z, rfl, l, cs⟩ | ⟨n, no⟩
  · exact .inl ⟨z, rfl, l, cs, k⟩
  · refine .inr ⟨n, ?_⟩
    have e : vN x = false := by
      cases x with
      | str z => exact absurd rfl (no z)
      | _ => rfl
    have q := k H fun _ _ e => e
    rw [e] at q
    exact q
theorem isV_head {z : Str} (h : isV z = true) : ∃ r, z.cps.toList = 63 :: r := by
  rw [← first_sign] at h
  have e : cutS z none (some 1) = Str.ofString "?" := of_decide_eq_true h
  have q1 : (Str.ofString "?").cps.toList = [63] := by decide +kernel
  have e2 : HT.sIx z.length z.length (some 1) = min 1 z.length := HT.sIx_nat z.length z.length 1
  have e3 := congrArg (fun y : Str => y.cps.toList) e
  unfold cutS at e3
  rw [HT.sIx_none, e2] at e3
  simp only [q1] at e3
  have l : z.cps.toList.length = z.length := length_toList z
  cases hc : z.cps.toList with
  | nil =>
    rw [hc] at e3
    simp at e3
  | cons c r =>
    rw [hc] at e3 l
    rw [List.length_cons] at l
    have m : min 1 z.length = 1 := by omega
    rw [m] at e3
    simp at e3
    exact ⟨r, by rw [e3]⟩
theorem nmB_var {z : Str} (h : isV z = true) : nmB z.cps.toList = false := by
  obtain ⟨r, e⟩ := isV_head h
  rw [e]
  show (isLet 63 && r.all isSgn && decide (r.length ≤ 11)) = false
  have : isLet 63 = false := by decide
  rw [this, Bool.false_and, Bool.false_and]
def spLIT (K : PySem.W.Frag) : Sp := fun vs H Q _ => ∃ (x : V) (o : Bool), vs = [x, .bl o] ∧ Okl K H x ∧ ∀ H', Same H H' → Q (.bl (vN x || (o && vV x))) H'
section
variable {P : Program} {w : World} {K : PySem.W.Frag} {mg : Str → Option Value} {base : Heap}
abbrev nLIT : List Str := ["_law_value", "_law_open_too"]
theorem scLIT : FnScope nLIT nLIT (defScope sLIT) := ⟨rfl, rfl, rfl, by decide +kernel, rfl, by decide +kernel, by decide +kernel⟩
theorem ok_LIT {f fN : Addr} {fd fdN : FuncData} (F : Fun K "_law_is_term" "_law_is_term" sLIT f fd)
    (GN : FnOk P w K mg base CX0 1 fN fdN ["_law_value"] (spLIN K)) (kN : PySem.W.keepIn K (.ref fN) = true) (bN : Binds K fdN ["_law_value"] []) (mN : mg "_law_is_name" = some (.ref fN))
    (mi : mg "isinstance" = none) (mst : mg "str" = none) : FnOk P w K mg base CX0 2 f fd nLIT (spLIT K) := by
  refine F.ok scLIT (fun vs H Q E h => ?_) (fun cdv A outer s H vs Q E hr h => ?_)
  · obtain ⟨x, o, rfl, _⟩ := h
    rfl
  · obtain ⟨x, o, rfl, ox, k⟩ := h
    have hr1 : Room 1 _ := hr.mono (by decide)
    refine ⟨_, pss_cons (ps_if (PW.pt (pw_and (pt_val (pv 1)) (pw_and (pt_val (pe_callB call_isi (by rfl) mi (by decide +kernel) (pa_cons (pv 0) (pa_cons (pe_bltn (v := .ty "str") (by rfl) mst (by decide +kernel) rfl) pa_nil))))
          (pw_and1 (pt_cmpR op_eq (pe_slice sl_str (pv 0) po_none (po_some pe_int)) pe_str (nomark _))))))
        (pss_one (ps_ret (pe_call GN hr1 (by rfl) mN kN bN .nil pass0 (pa_cons (pe_slice sl_str (pv 0) (po_some pe_int) po_none) pa_nil)))) pss_nil)
      (pss_one (ps_ret (pe_call GN hr1 (by rfl) mN kN bN .nil pass0 (pa_cons (pv 0) pa_nil)))), ?_⟩
    -- the last row
    have last : (o && vV x) = false → spLIN K [x] H Q E0 := fun e => lin_of (E := E0) ox fun H' s => by
      have q := k H' s
      rw [e, Bool.or_false] at q
      exact q
    refine ⟨_, rfl, _, rfl, ?_⟩
    cases o with
    | false => exact iteF (iteF ⟨_, rfl, last rfl⟩)
    | true =>
      refine iteT ?_
      rcases ox with ⟨z, rfl, lz, cs⟩ | ⟨⟨n, ty, kb⟩, no⟩
      · refine ⟨_, rfl, _, .ty "str", _, _, true, rfl, .ty "str", .base (.str z), kit_ty (by decide +kernel), _, rfl, ?_⟩
        refine iteT ⟨_, rfl, _, rfl, z, rfl, by rw [sizeLine_eq]; omega, rfl, _, rfl, ?_⟩
        have ed : decide (V.str (cutS z none (some 1)) = V.str (Str.ofString "?")) = isV z := by
          rw [← first_sign]
          exact decide_eq_decide.mpr ⟨fun e => V.str.inj e, fun e => by rw [e]⟩
        rw [ed]
        cases hv : isV z with
        | true =>
          refine iteT ⟨_, rfl, _, rfl, z, rfl, by rw [sizeLine_eq]; omega, ?_⟩
          dsimp only [tNil, List.cons_append, List.nil_append]
          refine lin_of (K := K) (E := E0) (.inl ⟨_, rfl, Nat.le_trans (cutS_length z (some 1) none) lz, fun c m => ?_⟩) fun H' s => ?_
          · rw [cut_tail] at m
            exact cs c (List.mem_of_mem_drop m)
          · have q := k H' s
            have e : (vN (.str z) || (true && vV (.str z))) = vN (.str (cutS z (some 1) none)) := by
              show (nmB z.cps.toList || (true && (isV z && nmB (z.cps.toList.drop 1)))) = nmB (cutS z (some 1) none).cps.toList
              rw [nmB_var hv, hv, cut_tail, Bool.false_or, Bool.true_and, Bool.true_and]
            rw [e] at q
            exact q
        | false =>
          refine iteF ⟨_, rfl, last ?_⟩
          show (true && (isV z && nmB (z.cps.toList.drop 1))) = false
          rw [hv]
          rfl
      · refine ⟨_, rfl, _, .ty "str", _, _, false, rfl, .ty "str", ty, kit_ty kb, _, rfl, ?_⟩
        refine iteF (iteF ⟨_, rfl, last ?_⟩)
        have e : vV x = false := by
          cases x with
          | str z => exact absurd rfl (no z)
          | _ => rfl
        rw [e]
        rfl
end
end L2.LawH
set_option Elab.async false
set_option linter.all false
set_option maxRecDepth 100000
set_option maxHeartbeats 4000000
/-! _law_text. -/
namespace L2.LawH
open PySem PySem.Spec PyProof.Rows L2.Cmp L2.TxtSet
abbrev sLTx : Stmt := top 28
theorem empty_app (T : Str) : Str.empty ++ T = T := by
  have h : (Str.empty ++ T).cps.toList = T.cps.toList := by
    rw [toList_append]
    rfl
  have h2 := Array.toList_inj.mp h
  cases hx : Str.empty ++ T with
  | mk a =>
    rw [hx] at h2
    cases T
    exact congrArg Str.mk h2
section
variable {P : Program} {w : World} {K : PySem.W.Frag} {mg : Str → Option Value} {base : Heap}
theorem scLTx : FnScope ["_law_pattern_here"] ["_law_pattern_here"] (defScope sLTx) := ⟨rfl, rfl, rfl, by decide +kernel, rfl, by decide +kernel, by decide +kernel⟩
theorem ok_LTx {f : Addr} {fd : FuncData} (F : Fun K "_law_text" "_law_text" sLTx f fd) (mL : mg "list" = none) : FnOk P w K mg base CX0 1 f fd ["_law_pattern_here"] spPtx := by
  refine F.ok scLTx (fun vs H Q E h => ?_) (fun cdv A outer s H vs Q E hr h => ?_)
  · obtain ⟨t, T, zs, rfl, _⟩ := h
    rfl
  · obtain ⟨t, T, zs, rfl, ht, few, lT, lz, k⟩ := h
    refine ⟨_, pss_one (ps_ret (pe_op op_add_str (pe_op op_add_str (pe_op op_add_str (pe_ix ix_tup (pv 0) pe_int (fun _ _ => rfl)) pe_str)
      (pe_join pe_str (pe_callTy call_list_of (by rfl) mL (by decide +kernel) (pa_cons (pe_slice sl_tup (pv 0) (po_some pe_int) po_none) pa_nil)))) pe_str)), ?_⟩
    have s1 := sum_le 1000 zs lz
    have c1 : (("," : String) : Str).length = 1 := by decide +kernel
    have c2 : (("(" : String) : Str).length = 1 := by decide +kernel
    have c3 : (((")" : String)) : Str).length = 1 := by decide +kernel
    have z3 : zs.length * 1000 ≤ 100 * 1000 := Nat.mul_le_mul_right _ few
    have jl : (Txt.join "," zs).length ≤ 110000 := by
      have q := join_len "," zs
      rw [c1] at q
      have e : Txt.join "," zs = Str.join "," zs := StrLaws.glued_eq_join _ _
      rw [e]
      omega
    refine ⟨_, rfl, t, _, 0, _, rfl, rfl, SqT.of ht, atI_nat (j := 0) rfl, _, _, rfl, rfl, by rw [c2, sizeLine_eq]; omega, ⟨_, rfl⟩, _, rfl, _, rfl, t, _, rfl, SqT.of ht, cut_part _ _, fun u nu => ?_⟩
    rw [cut_one]
    refine ⟨u, _, rfl, .inr (SqT.of upd_same), fun l nl => ?_⟩
    refine ⟨_, l, zs, rfl, rfl, .inl (SqL.of upd_same), by rw [c1]; omega, ?_⟩
    refine ⟨_, _, rfl, rfl, by rw [len_app, c2, sizeLine_eq]; omega, _, _, rfl, rfl, by rw [len_app, len_app, c2, c3, sizeLine_eq]; omega, ?_⟩
    have q := k _ ((same_new nu).trans (same_new nl (o := .lst (zs.map V.str))))
    unfold ptext at q
    rw [empty_app] at q
    exact q
end
end L2.LawH
set_option Elab.async false
set_option linter.all false
set_option maxRecDepth 100000
set_option maxHeartbeats 4000000
/-! _law_is_pattern; values that are asked. -/
namespace L2.LawH
open PySem PySem.Spec PyProof.Rows L2.Cmp L2.TxtSet
abbrev sLIP : Stmt := top 24
theorem Same.seqT {K : PySem.W.Frag} {H H' : Hp} {a : Addr} {xs : List V} (e : Same H H') (h : SqT K H a xs) : SqT K H' a xs := by
  rcases h with h | h
  · rcases h with h | ⟨o, h⟩
    · exact .inl (.inl (e _ _ h))
    · exact .inl (.inr ⟨o, e _ _ h⟩)
  · exact .inr h
mutual
theorem dp_same {K : PySem.W.Frag} {H H' : Hp} (s : Same H H') : ∀ (d : PyData) (v : V), Dp K H v d → Dp K H' v d
  | .none, _, h => by
    cases h
    exact .non
  | .bool b, _, h => by
    cases h
    exact .bl b
  | .int i, _, h => by
    cases h
    exact .int i
  | .str x, _, h => by
    cases h
    exact .str x
  | .list ds, _, h => by
    cases h with
    | lst hs ha => exact .lst (Same.seq s hs) (dpAll_same s ds _ ha)
  | .tuple ds, _, h => by
    cases h with
    | tup hs ha => exact .tup (Same.seqT s hs) (dpAll_same s ds _ ha)
  | .dict _, _, h => by cases h
theorem dpAll_same {K : PySem.W.Frag} {H H' : Hp} (s : Same H H') : ∀ (ds : List PyData) (vs : List V), DpAll K H vs ds → DpAll K H' vs ds
  | [], _, h => by
    cases h
    exact .nil
  | d :: ds, _, h => by
    cases h with
    | cons h1 h2 => exact .cons (dp_same s d _ h1) (dpAll_same s ds _ h2)
end
/-- an item of a tuple that is asked -/
def Itm (K : PySem.W.Frag) (H : Hp) (y : V) : Prop := Okl K H y ∧ ∃ d, Dp K H y d ∧ d.canLay0 = true ∧ d.depth ≤ 2
theorem Itm.same {K : PySem.W.Frag} {H H' : Hp} (s : Same H H') {y : V} (h : Itm K H y) : Itm K H' y :=
  let ⟨o, d, p, l⟩ := h
  ⟨o.same s, d, dp_same s d _ p, l⟩
/-- data of a list of items -/
theorem itms_data {K : PySem.W.Frag} {H : Hp} : ∀ (ys : List V), (∀ y ∈ ys, Itm K H y) → ∃ ds, DpAll K H ys ds ∧ ds.length = ys.length ∧ PyData.canLayAll0 ds = true ∧ PyData.depthAll ds ≤ 2
  | [], _ => ⟨[], .nil, rfl, by simp [PyData.canLayAll0], by simp [PyData.depthAll]⟩
  | y :: ys, h => by
    obtain ⟨ds, p, l, c, e⟩ := itms_data ys fun z m => h z (List.mem_cons_of_mem _ m)
    obtain ⟨_, d, q, c1, e1⟩ := h y List.mem_cons_self
    refine ⟨d :: ds, .cons q p, by simp [l], by simp [PyData.canLayAll0, c, c1], ?_⟩
    simp only [PyData.depthAll]
    omega
theorem shaped_list {ds : List PyData} (h : PyData.canLayAll0 ds = true) (e : PyData.depthAll ds ≤ 20) : SeqAt.shaped (.list ds) = true := by
  have h2 : PyData.depth (.list ds) ≤ 64 := by
    simp only [PyData.depth]
    omega
  show (PyData.canLay0 (.list ds) && decide (PyData.depth (.list ds) ≤ 64)) = true
  rw [Bool.and_eq_true]
  exact ⟨by simp only [PyData.canLay0]; exact h, decide_eq_true h2⟩
theorem eqv_nilD : ∀ ds : List PyData, PyData.eqv (.list ds) (.list []) = decide (ds.length = 0)
  | [] => by simp [PyData.eqv, PyData.eqvAll]
  | d :: ds => by simp [PyData.eqv, PyData.eqvAll]
/-- a value that is asked: a tuple of items, or no tuple -/
def Ask (K : PySem.W.Frag) (H : Hp) (x : V) : Option (List V) → Prop
  | none => Okl K H x ∧ NotT K H x
  | some xs => ∃ t, x = .ref t ∧ H t = some (.tup xs) ∧ xs.length ≤ 100 ∧ ∀ y ∈ xs, Itm K H y
theorem NotT.same {K : PySem.W.Frag} {H H' : Hp} (s : Same H H') {x : V} (h : NotT K H x) : NotT K H' x := let ⟨n, ty, kb⟩ := h; ⟨n, tyx_same s ty, kb⟩
theorem Ask.same {K : PySem.W.Frag} {H H' : Hp} (s : Same H H') {x : V} {o : Option (List V)} (h : Ask K H x o) : Ask K H' x o := by
  cases o with
  | none => exact ⟨h.1.same s, h.2.same s⟩
  | some xs =>
    obtain ⟨t, e, ht, l, i⟩ := h
    exact ⟨t, e, s _ _ ht, l, fun y m => (i y m).same s⟩
theorem Ask.okl {K : PySem.W.Frag} {H : Hp} {x : V} {o : Option (List V)} (h : Ask K H x o) : Okl K H x := by
  cases o with
  | none => exact h.1
  | some xs =>
    obtain ⟨t, rfl, ht, l, i⟩ := h
    exact .inr ⟨⟨"tuple", .base (.tup ht), by decide +kernel⟩, fun z e => by cases e⟩
def pAns : Option (List V) → Bool
  | none => false
  | some xs => patB xs
def fAns : Option (List V) → Bool
  | none => false
  | some xs => factB xs
def spLIP (K : PySem.W.Frag) : Sp := fun vs H Q _ => ∃ (x : V) (o : Bool) (a : Option (List V)), vs = [x, .bl o] ∧ Ask K H x a ∧ ∀ H', Same H H' → Q (.bl (if o = true then pAns a else fAns a)) H'
theorem fact_eq (y : V) (r : List V) (lr : r.length ≤ 3) : factB (y :: r) = (vN y && r.all vN) := by
  show ((decide (r.length ≤ 3) && vN y && r.all fun y => vN y || vV y) && (vN y && r.all vN)) = _
  rw [decide_eq_true lr, Bool.true_and]
  cases h1 : vN y with
  | false => rfl
  | true =>
    cases h2 : r.all vN with
    | false => simp
    | true =>
      have : (r.all fun y => vN y || vV y) = true := List.all_eq_true.mpr fun x m => by rw [List.all_eq_true.mp h2 x m]; rfl
      rw [this]
      rfl
section
variable {P : Program} {w : World} {K : PySem.W.Frag} {mg : Str → Option Value} {base : Heap}
abbrev nLIP : List Str := ["_law_value", "_law_open_too", "_law_term_here"]
theorem scLIP : FnScope nLIP ["_law_value", "_law_open_too"] (defScope sLIP) := ⟨rfl, rfl, rfl, by decide +kernel, rfl, by decide +kernel, by decide +kernel⟩
theorem ok_LIP {f fN fT : Addr} {fd fdN fdT : FuncData} (F : Fun K "_law_is_pattern" "_law_is_pattern" sLIP f fd)
    (GN : FnOk P w K mg base CX0 1 fN fdN ["_law_value"] (spLIN K)) (kN : PySem.W.keepIn K (.ref fN) = true) (bN : Binds K fdN ["_law_value"] []) (mN : mg "_law_is_name" = some (.ref fN))
    (GT : FnOk P w K mg base CX0 2 fT fdT nLIT (spLIT K)) (kT : PySem.W.keepIn K (.ref fT) = true) (bT : Binds K fdT nLIT []) (mT : mg "_law_is_term" = some (.ref fT))
    (mi : mg "isinstance" = none) (mtp : mg "tuple" = none) (ml : mg "len" = none) :
    FnOk P w K mg base CX0 3 f fd ["_law_value", "_law_open_too"] (spLIP K) := by
  refine F.ok scLIP (fun vs H Q E h => ?_) (fun cdv A outer s H vs Q E hr h => ?_)
  · obtain ⟨x, o, a, rfl, _⟩ := h
    rfl
  · obtain ⟨x, o, a, rfl, h, k⟩ := h
    have hu := hr.units
    have hr1 : Room 1 _ := hr.mono (by decide)
    have hr2 : Room 2 _ := hr.mono (by decide)
    refine ⟨_, pss_cons (ps_if (PW.pt (pw_or (pt_not (pt_val (pe_callB call_isi (by rfl) mi (by decide +kernel) (pa_cons (pv 0) (pa_cons (pe_bltn (v := .ty "tuple") (by rfl) mtp (by decide +kernel) rfl) pa_nil)))))
          (pw_or (pt_not (pt_chain op_le op_le pe_int (pe_callB call_len_seq (by rfl) ml (by decide +kernel) (pa_cons (pv 0) pa_nil)) pe_int))
            (pw_or1 (pt_not (pt_val (pe_call GN hr1 (by rfl) mN kN bN .nil pass0 (pa_cons (pe_ix ix_tup (pv 0) pe_int (fun _ _ => rfl)) pa_nil)))))))) (pss_one (ps_ret pe_bl)) pss_nil)
      (pss_one (ps_ret (pe_cmpR (op_eqD hu) (pe_lc (own := [("_law_term_here", 2)]) (g := gName 2) (tt := tNot (tB (tCall (spLIT K) [] E0 (tCons (tVar 2) (tCons (tVar 1) tNil))))) rfl scLIP.nd (pi_tup (pe_slice sl_tup (pv 0) (po_some pe_int) po_none))
          (blkOk_by (own := [("_law_term_here", 2)]) (N := nLIP) (sc := defScope sLIP) (by decide +kernel)) (fun _ _ _ _ _ => pg_name (i := 2) scLIP.nd rfl (Or.inl rfl))
          (fun _ _ _ _ _ => pts_one (pt_not (pt_val (pe_call GT hr2 (by rfl) mT kT bT .nil pass0 (pa_cons (pv 2) (pa_cons (pv 1) pa_nil))))))
          (fun _ _ _ _ _ => pv 2)) (pe_lst pa_nil) (by rfl)))), ?_⟩
    cases a with
    | none =>
      obtain ⟨_, n, ty, kb⟩ := h
      refine ⟨_, rfl, _, .ty "tuple", _, _, false, rfl, .ty "tuple", ty, kit_ty kb, _, rfl, ?_⟩
      have q := k H fun _ _ e => e
      have e : (if o = true then pAns none else fAns none) = false := by
        cases o <;> rfl
      rw [e] at q
      exact iteT q
    | some xs =>
      obtain ⟨t, rfl, ht, lx, ix⟩ := h
      have big : ¬ (1 ≤ xs.length ∧ xs.length ≤ 4) → Q (.bl false) H := fun no => by
        have q := k H fun _ _ e => e
        have e : patB xs = false := by
          cases xs with
          | nil => rfl
          | cons x r =>
            rw [List.length_cons] at no
            show (decide (r.length ≤ 3) && vN x && r.all fun y => vN y || vV y) = false
            rw [decide_eq_false (by omega), Bool.false_and, Bool.false_and]
        have e2 : (if o = true then pAns (some xs) else fAns (some xs)) = false := by
          show (if o = true then patB xs else (patB xs && xs.all vN)) = false
          rw [e]
          cases o <;> rfl
        rw [e2] at q
        exact q
      refine ⟨_, rfl, _, .ty "tuple", _, _, true, rfl, .ty "tuple", .base (.tup ht), kit_ty (by decide +kernel), _, rfl, ?_⟩
      refine iteF ?_
      refine ⟨_, rfl, t, _, rfl, .inr (SqT.of ht), _, _, rfl, rfl, _, rfl, ?_⟩
      refine ite2 (fun l1 => ⟨_, _, rfl, rfl, _, rfl, ?_⟩) (fun l1 => ⟨_, rfl, iteT (big fun y => l1 (decide_eq_true (by omega)))⟩)
      have l1 : (1 : Int) ≤ xs.length := of_decide_eq_true l1
      refine ite2 (fun l2 => ?_) (fun l2 => ?_)
      · have l2' : ¬ ((xs.length : Int) ≤ 4) := fun y => by
          rw [decide_eq_true y] at l2
          cases l2
        exact big fun y => l2' (by omega)
      · have l2' : (xs.length : Int) ≤ 4 := by
          by_cases y : (xs.length : Int) ≤ 4
          · exact y
          · rw [decide_eq_false y] at l2
            exact absurd rfl l2
        cases xs with
        | nil =>
          rw [List.length_nil] at l1
          omega
        | cons y r =>
          have lr : r.length ≤ 3 := by
            rw [List.length_cons] at l2'
            omega
          have k : ∀ H', Same H H' → Q (.bl (vN y && r.all fun y => vN y || (o && vV y))) H' := fun H' s => by
            have q := k H' s
            have e : (if o = true then pAns (some (y :: r)) else fAns (some (y :: r))) = (vN y && r.all fun y => vN y || (o && vV y)) := by
              cases o with
              | true =>
                show (decide (r.length ≤ 3) && vN y && r.all fun y => vN y || vV y) = _
                rw [decide_eq_true lr, Bool.true_and]
                simp
              | false =>
                show factB (y :: r) = _
                rw [fact_eq y r lr]
                simp
            rw [e] at q
            exact q
          refine ⟨_, rfl, t, _, 0, y, rfl, rfl, SqT.of ht, atI_nat (j := 0) rfl, ?_⟩
          dsimp only [tNil, List.cons_append, List.nil_append]
          refine lin_of (K := K) (E := E0) (ix y List.mem_cons_self).1 fun H1 s1 => ⟨_, rfl, ?_⟩
          cases hy : vN y with
          | false =>
            rw [hy] at k
            exact iteT (k H1 s1)
          | true =>
            rw [hy] at k
            refine iteF ?_
            refine ⟨_, rfl, _, rfl, t, _, rfl, SqT.of (s1 _ _ ht), cut_part _ _, fun u nu => ⟨u, rfl, ⟨_, SqT.of upd_same⟩, fun D nD => ?_⟩⟩
            rw [cut_one] at nD ⊢
            have su : Same H (upd H1 u (.tup r)) := s1.trans (same_new nu)
            have uD : u ≠ D := fun e => by
              rw [e] at nD
              rw [upd_same] at nD
              cases nD
            have nDH : H D = none := by
              cases e : H D with
              | none => rfl
              | some o =>
                rw [su D o e] at nD
                cases nD
            refine lc_tup (K := K) (a := u) (xs := r) (fun i H5 => Same H H5 ∧ H5 u = some (.tup r) ∧ H5 D = some (.lst ((r.take i).filter fun y => !(vN y || (o && vV y)))))
              ⟨su.trans (same_new nD), (same_new nD) _ _ upd_same, upd_same⟩ (fun i H5 _ p => SqT.of p.2.1) (fun i x H5 hx p => ?_) (fun H5 p => ?_)
            · obtain ⟨p1, p2, p3⟩ := p
              have ox : Okl K H x := (ix x (List.mem_cons_of_mem _ (List.mem_of_getElem? hx))).1
              refine ⟨rfl, ?_⟩
              refine ⟨_, rfl, _, rfl, x, o, rfl, ox.same p1, fun H6 s6 => ⟨_, rfl, ?_⟩⟩
              cases hb : (vN x || (o && vV x)) with
              | true =>
                refine iteF ⟨p1.trans s6, s6 _ _ p2, ?_⟩
                rw [List.take_add_one, hx, List.filter_append]
                have e : (Option.toList (some x)).filter (fun y => !(vN y || (o && vV y))) = [] := List.filter_cons_of_neg (by rw [hb]; exact Bool.false_ne_true)
                rw [e, List.append_nil]
                exact s6 _ _ p3
              | false =>
                refine iteT ⟨_, rfl, _, s6 _ _ p3, ?_, fun b o e => ?_, ?_, ?_⟩
                · refine Nat.lt_of_le_of_lt (List.length_filter_le _ _) ?_
                  rw [List.length_take, sizeLine_eq]
                  omega
                · rw [upd_ne (ne_of_none e nDH)]
                  exact s6 _ _ (p1 b o e)
                · rw [upd_ne uD]
                  exact s6 _ _ p2
                · rw [upd_same, List.take_add_one, hx, List.filter_append]
                  have e : (Option.toList (some x)).filter (fun y => !(vN y || (o && vV y))) = [x] := List.filter_cons_of_pos (by rw [hb]; rfl)
                  rw [e]
            · obtain ⟨p1, p2, p3⟩ := p
              rw [List.take_length] at p3
              refine ⟨by show 0 ≤ sizeLine; decide, fun p np => ?_⟩
              obtain ⟨ds, hd, ld, cd, dd⟩ := itms_data (K := K) (H := upd H5 p (.lst [])) (r.filter fun y => !(vN y || (o && vV y))) fun z m =>
                (ix z (List.mem_cons_of_mem _ (List.mem_filter.mp m).1)).same (p1.trans (same_new np))
              refine ⟨_, _, .lst (SqL.of ((same_new np) _ _ p3)) hd, .lst (SqL.of upd_same) .nil, shaped_list cd (by omega), by decide, ?_⟩
              have q := k (upd H5 p (.lst [])) (p1.trans (same_new np))
              rw [eqv_nilD, ld]
              have e : decide ((r.filter fun y => !(vN y || (o && vV y))).length = 0) = (true && r.all fun y => vN y || (o && vV y)) := by
                rw [Bool.true_and, Bool.eq_iff_iff, decide_eq_true_iff, List.length_eq_zero_iff, List.filter_eq_nil_iff, List.all_eq_true]
                refine ⟨fun h x m => ?_, fun h x m => ?_⟩
                · have z := h x m
                  cases hz : (vN x || (o && vV x)) with
                  | true => rfl
                  | false =>
                    rw [hz] at z
                    exact absurd rfl z
                · rw [h x m]
                  exact Bool.false_ne_true
              rw [e]
              exact q
end
end L2.LawH
set_option Elab.async false
set_option linter.all false
set_option maxRecDepth 100000
set_option maxHeartbeats 4000000
/-! Texts of patterns read: the mathematics. -/
namespace L2.LawH
open PySem PySem.Spec PyProof.Rows L2.Cmp L2.TxtSet TL
abbrev opnS : Str := "("
abbrev clsS : Str := ")"
abbrev comS : Str := ","
theorem tl_opn : tl opnS = [40] := by decide +kernel
theorem tl_cls : tl clsS = [41] := by decide +kernel
theorem tl_com : tl comS = [44] := by decide +kernel
/-- table and inside of a text that is cut rightly -/
def cutP (z : Str) : Option (Str × Str) := match par [40] [] (tl z) with
  | none => none
  | some (a, b) => if b.getLast? = some 41 then some (⟨a.toArray⟩, ⟨b.dropLast.toArray⟩) else none
def terms (i : Str) : List Str := if i.length = 0 then [] else Txt.split i comS
def rdOk (z : Str) : Option (Str × List Str) := match cutP z with
  | none => none
  | some (a, i) => if patB (.str a :: (terms i).map V.str) = true then some (a, terms i) else none
/-! ### par and spl for one sign -/
theorem pre_one (s c : Nat) (r : List Nat) : pre [s] (c :: r) = decide (c = s) := by
  show ((c :: r).take 1 == [s]) = _
  rw [Bool.eq_iff_iff, beq_iff_eq, decide_eq_true_iff]
  simp
theorem par_eq (s : Nat) : ∀ (l acc : List Nat) (a b : List Nat), par [s] acc l = some (a, b) → ∃ m, a = acc ++ m ∧ l = m ++ s :: b ∧ s ∉ m
  | [], acc, a, b, h => by cases h
  | c :: r, acc, a, b, h => by
    by_cases hc : c = s
    · rw [par_hit (by rw [pre_one, decide_eq_true hc])] at h
      have h2 := Option.some.inj h
      have e1 : acc = a := congrArg Prod.fst h2
      have e2 : (c :: r).drop [s].length = b := congrArg Prod.snd h2
      refine ⟨[], by rw [List.append_nil]; exact e1.symm, ?_, by simp⟩
      rw [← e2, hc]
      rfl
    · rw [par_miss (by rw [pre_one, decide_eq_false hc])] at h
      obtain ⟨m, e1, e2, e3⟩ := par_eq s r (acc ++ [c]) a b h
      refine ⟨c :: m, by rw [e1, List.append_assoc]; rfl, by rw [e2]; rfl, ?_⟩
      intro hm
      rcases List.mem_cons.mp hm with h | h
      · exact hc h.symm
      · exact e3 h
theorem par_no (s : Nat) : ∀ (l acc : List Nat), par [s] acc l = none → s ∉ l
  | [], _, _ => by simp
  | c :: r, acc, h => by
    by_cases hc : c = s
    · rw [par_hit (by rw [pre_one, decide_eq_true hc])] at h
      cases h
    · rw [par_miss (by rw [pre_one, decide_eq_false hc])] at h
      intro hm
      rcases List.mem_cons.mp hm with h' | h'
      · exact hc h'.symm
      · exact par_no s r _ h h'
theorem spl_ne (S : List Nat) : ∀ (l : List Nat) (acc : List Nat), spl S 0 acc l ≠ [] := by
  intro l
  induction l with
  | nil => intro acc; rw [spl_nil]; simp
  | cons c r ih =>
    intro acc
    cases h : pre S (c :: r) with
    | true => rw [spl_hit h]; simp
    | false => rw [spl_miss h]; exact ih _
theorem joinL_cons (S p : List Nat) {X : List (List Nat)} (h : X ≠ []) : joinL S (p :: X) = p ++ (S ++ joinL S X) := by
  cases X with
  | nil => exact absurd rfl h
  | cons q r => rfl
theorem join_spl (s : Nat) : ∀ (l acc : List Nat), joinL [s] (spl [s] 0 acc l) = acc ++ l
  | [], acc => by
    rw [spl_nil]
    show acc = _
    rw [List.append_nil]
  | c :: r, acc => by
    by_cases hc : c = s
    · rw [spl_hit (by rw [pre_one, decide_eq_true hc])]
      show joinL [s] (acc :: spl [s] 0 [] r) = _
      rw [joinL_cons _ _ (spl_ne _ _ _), join_spl s r [], hc]
      rfl
    · rw [spl_miss (by rw [pre_one, decide_eq_false hc]), join_spl s r (acc ++ [c]), List.append_assoc]
      rfl
theorem part_le (s : Nat) : ∀ (X : List (List Nat)) (p : List Nat), p ∈ X → p.length ≤ (joinL [s] X).length
  | [], p, h => by cases h
  | [q], p, h => by
    rw [List.mem_singleton.mp h]
    exact Nat.le_refl _
  | q :: y :: r, p, h => by
    show p.length ≤ (q ++ ([s] ++ joinL [s] (y :: r))).length
    rw [List.length_append, List.length_append]
    rcases List.mem_cons.mp h with rfl | h
    · omega
    · have := part_le s (y :: r) p h
      omega
theorem parts_le (s : Nat) : ∀ (X : List (List Nat)), X.length ≤ (joinL [s] X).length + 1
  | [] => Nat.zero_le _
  | [q] => by simp
  | q :: y :: r => by
    have := parts_le s (y :: r)
    show (q :: y :: r).length ≤ (q ++ ([s] ++ joinL [s] (y :: r))).length + 1
    rw [List.length_append, List.length_append, List.length_cons]
    simp only [List.length_singleton]
    omega
theorem part_mem (s : Nat) : ∀ (X : List (List Nat)) (p : List Nat) (c : Nat), p ∈ X → c ∈ p → c ∈ joinL [s] X
  | [], p, c, h, _ => by cases h
  | [q], p, c, h, hc => by
    rw [List.mem_singleton.mp h] at hc
    exact hc
  | q :: y :: r, p, c, h, hc => by
    show c ∈ q ++ ([s] ++ joinL [s] (y :: r))
    rw [List.mem_append, List.mem_append]
    rcases List.mem_cons.mp h with rfl | h
    · exact .inl hc
    · exact .inr (.inr (part_mem s (y :: r) p c h hc))
/-! ### the terms -/
theorem com_kind (i : Str) : ¬ Builtin.Str.strKind i < Builtin.Str.strKind comS := kind_ok (by decide +kernel)
theorem split_tl (i : Str) : (Txt.split i comS).map tl = spl [44] 0 [] (tl i) := by
  have h := split_spl i comS (by rw [tl_com]; simp) (com_kind i)
  rw [tl_com] at h
  exact h
theorem join_terms (i : Str) : Txt.join comS (terms i) = i := by
  unfold terms
  by_cases h : i.length = 0
  · rw [if_pos h]
    refine ext_tl ?_
    rw [join_eq]
    have e : tl i = [] := by
      rw [len_tl] at h
      exact List.length_eq_zero_iff.mp h
    rw [e]
    rfl
  · rw [if_neg h]
    refine ext_tl ?_
    rw [join_eq, tl_join, tl_com, split_tl, join_spl]
    rfl
theorem terms_join (i : Str) (h : i.length ≠ 0) : joinL [44] ((terms i).map tl) = tl i := by
  unfold terms
  rw [if_neg h, split_tl, join_spl]
  rfl
theorem term_le {i y : Str} (h : y ∈ terms i) : y.length ≤ i.length := by
  by_cases h0 : i.length = 0
  · unfold terms at h
    rw [if_pos h0] at h
    cases h
  · have := part_le 44 ((terms i).map tl) (tl y) (List.mem_map_of_mem h)
    rw [terms_join i h0] at this
    rw [len_tl, len_tl]
    exact this
theorem terms_le (i : Str) : (terms i).length ≤ i.length + 1 := by
  by_cases h0 : i.length = 0
  · unfold terms
    rw [if_pos h0]
    exact Nat.zero_le _
  · have := parts_le 44 ((terms i).map tl)
    rw [terms_join i h0, List.length_map] at this
    rw [len_tl]
    exact this
theorem term_mem {i y : Str} (h : y ∈ terms i) {c : Nat} (hc : c ∈ tl y) : c ∈ tl i := by
  by_cases h0 : i.length = 0
  · unfold terms at h
    rw [if_pos h0] at h
    cases h
  · have := part_mem 44 ((terms i).map tl) (tl y) c (List.mem_map_of_mem h) hc
    rw [terms_join i h0] at this
    exact this
/-! ### the cuts -/
theorem last_cases (l : List Nat) : l = [] ∨ ∃ m c, l = m ++ [c] := by
  rcases List.eq_nil_or_concat l with h | ⟨m, c, h⟩
  · exact .inl h
  · exact .inr ⟨m, c, by rw [h, List.concat_eq_append]⟩
theorem suffix_eq (b : Str) : Txt.removesuffix b clsS = if (tl b).getLast? = some 41 then ⟨(tl b).dropLast.toArray⟩ else b := by
  have l1 : clsS.length = 1 := by decide +kernel
  have lb := len_tl b
  rw [StrLaws.removesuffix_eq, StrLaws.subAt_eq, l1, show clsS.cps.toList = [41] from tl_cls]
  rcases last_cases (tl b) with h | ⟨m, c, h⟩
  · rw [h] at lb
    have e : b.cps.toList = [] := h
    rw [h]
    simp [lb]
  · have e : b.cps.toList = m ++ [c] := h
    have l2 : b.length = m.length + 1 := by
      rw [lb, h, List.length_append]
      rfl
    rw [h, e, l2]
    have d1 : decide (0 + 1 ≤ m.length + 1) = true := decide_eq_true (by omega)
    have d2 : (m ++ [c]).drop (m.length + 1 - 1) = [c] := by
      rw [Nat.add_sub_cancel]
      exact List.drop_left
    have d3 : ((m ++ [c]).drop 0).take (m.length + 1 - 1 - 0) = m := by
      rw [List.drop_zero, Nat.sub_zero, Nat.add_sub_cancel]
      exact List.take_left
    rw [d1, d2, d3, Bool.true_and]
    by_cases hc : c = 41
    · rw [hc]
      simp
    · simp [hc]
theorem find_eq (z : Str) : Txt.find z opnS = match par [40] [] (tl z) with | none => -1 | some (a, _) => (a.length : Int) := by
  have hy : tl opnS ≠ [] := by rw [tl_opn]; simp
  have l1 : opnS.length = 1 := by decide +kernel
  have hx := len_tl z
  unfold Txt.find
  rcases StrLaws.occ_head z opnS 1 (Nat.le_refl 1) with ⟨h0, hn⟩ | ⟨i, r, h0, hi, hn⟩
  · have run := par_run (tl opnS) (tl z) (tl z).length 0 [] (by omega) (fun k _ _ => no_at hy (hn k))
    rw [List.drop_zero, Nat.zero_add, List.drop_length] at run
    rw [tl_opn] at run
    rw [h0, run]
    rfl
  · have hb : i + opnS.length ≤ z.length := hi.1
    have run := par_run (tl opnS) (tl z) i 0 [] (by omega) (fun k _ k2 => no_at hy (hn k (by omega)))
    rw [List.drop_zero, Nat.zero_add, List.nil_append, par_at hy ((at_iff hy i).mp hi)] at run
    rw [tl_opn] at run
    rw [h0, run]
    show (i : Int) = (((tl z).take i).length : Int)
    rw [List.length_take]
    omega
theorem part_eq (z : Str) : Txt.partition z opnS = (match par [40] [] (tl z) with | some (a, b) => (⟨a.toArray⟩, opnS, ⟨b.toArray⟩) | none => (z, Str.empty, Str.empty)) := by
  have h := partition_par z opnS (by rw [tl_opn]; simp)
  rw [tl_opn] at h
  exact h
/-! ### a text and its pattern's -/
theorem ptext_tl (T : Str) (i : Str) : tl (ptext T (terms i)) = tl T ++ 40 :: (tl i ++ [41]) := by
  unfold ptext
  rw [empty_app, tl_append, tl_append, tl_append, show tl (("(" : String) : Str) = [40] from tl_opn, show tl ((")" : String) : Str) = [41] from tl_cls, show Txt.join ((("," : String)) : Str) (terms i) = i from join_terms i]
  simp
theorem nm_len {l : List Nat} (h : nmB l = true) : l.length ≤ 12 := (nm_sgns h).2.1
theorem var_len {z : Str} (h : varB z = true) : z.length ≤ 13 := by
  unfold varB at h
  rw [Bool.and_eq_true] at h
  have := nm_len h.2
  rw [List.length_drop] at this
  rw [len_tl]
  show z.cps.toList.length ≤ 13
  omega
theorem pat_bd {a : Str} {ts : List Str} (h : patB (.str a :: ts.map V.str) = true) : a.length ≤ 12 ∧ ts.length ≤ 3 ∧ ∀ y ∈ ts, y.length ≤ 13 := by
  have h : (decide ((ts.map V.str).length ≤ 3) && vN (.str a) && (ts.map V.str).all fun y => vN y || vV y) = true := h
  rw [Bool.and_eq_true, Bool.and_eq_true, decide_eq_true_iff, List.length_map, List.all_eq_true] at h
  obtain ⟨⟨h1, h2⟩, h3⟩ := h
  refine ⟨?_, h1, fun y hy => ?_⟩
  · have := nm_len (show nmB a.cps.toList = true from h2)
    rw [len_tl]
    exact this
  · have := h3 (.str y) (List.mem_map_of_mem hy)
    rw [Bool.or_eq_true] at this
    rcases this with h | h
    · have := nm_len (show nmB y.cps.toList = true from h)
      rw [len_tl]
      exact Nat.le_trans this (by decide)
    · exact var_len (show varB y = true from h)
/-- the reading of the program: where its own test of the text holds -/
theorem read_same {z a b : Str} (h : par [40] [] (tl z) = some (tl a, tl b)) :
    (decide (V.str (ptext a (terms (Txt.removesuffix b clsS))) = V.str z)) = decide ((tl b).getLast? = some 41) := by
  obtain ⟨m, e1, e2, _⟩ := par_eq 40 _ _ _ _ h
  rw [List.nil_append] at e1
  rw [← e1] at e2
  have key : (ptext a (terms (Txt.removesuffix b clsS)) = z) ↔ tl (Txt.removesuffix b clsS) ++ [41] = tl b := by
    constructor
    · intro e
      have e3 := congrArg tl e
      rw [ptext_tl, e2] at e3
      have e4 := List.append_cancel_left e3
      injection e4
    · intro e
      refine ext_tl ?_
      rw [ptext_tl, e2, e]
  refine decide_eq_decide.mpr ⟨fun e => ?_, fun e => ?_⟩
  · have e5 := key.mp (V.str.inj e)
    rw [← e5]
    simp
  · refine congrArg V.str (key.mpr ?_)
    rw [suffix_eq, if_pos e]
    show (tl b).dropLast ++ [41] = tl b
    rcases last_cases (tl b) with h | ⟨m, c, h⟩
    · rw [h] at e
      cases e
    · rw [h] at e ⊢
      have : c = 41 := by simpa using e
      rw [this]
      simp
theorem read_none {z : Str} (h : par [40] [] (tl z) = none) : (decide (V.str (ptext z (terms (Txt.removesuffix Str.empty clsS))) = V.str z)) = false := by
  refine decide_eq_false fun e => ?_
  have e3 := congrArg (fun y => (tl y).length) (V.str.inj e)
  simp only [ptext_tl, List.length_append, List.length_cons] at e3
  omega
end L2.LawH
set_option Elab.async false
set_option linter.all false
set_option maxRecDepth 100000
set_option maxHeartbeats 4000000
/-! read_pattern. -/
namespace L2.LawH
open PySem PySem.Spec PyProof.Rows L2.Cmp L2.TxtSet TL
abbrev sRd18 : Stmt := top 10
def spRd : Sp := fun vs H Q _ => ∃ z : Str, vs = [.str z] ∧ z.length ≤ 1000 ∧ (∀ c ∈ tl z, c < 0x110000) ∧ (rdOk z = none → ∀ H', Same H H' → Q .non H') ∧
  (∀ a ts, rdOk z = some (a, ts) → ∀ (p : Addr) (H' : Hp), Same H H' → H p = none → H' p = some (.tup (.str a :: ts.map V.str)) → Q (.ref p) H')
theorem cut_le {z a i : Str} (h : cutP z = some (a, i)) : a.length ≤ z.length ∧ i.length ≤ z.length ∧ (∀ c ∈ tl a, c ∈ tl z) ∧ ∀ c ∈ tl i, c ∈ tl z := by
  unfold cutP at h
  cases hp : par [40] [] (tl z) with
  | none => rw [hp] at h; cases h
  | some ab =>
    obtain ⟨a', b'⟩ := ab
    obtain ⟨m, e1, e2, _⟩ := par_eq 40 _ _ _ _ hp
    rw [List.nil_append] at e1
    rw [hp] at h
    dsimp only at h
    by_cases hl : b'.getLast? = some 41
    · rw [if_pos hl] at h
      have h2 := Option.some.inj h
      have e3 : a = ⟨a'.toArray⟩ := (congrArg Prod.fst h2).symm
      have e4 : i = ⟨b'.dropLast.toArray⟩ := (congrArg Prod.snd h2).symm
      have t1 : tl a = m := by rw [e3, ← e1]
      have t2 : tl i = b'.dropLast := by rw [e4]
      have lz := congrArg List.length e2
      rw [List.length_append, List.length_cons] at lz
      have lb : b'.dropLast.length ≤ b'.length := by rw [List.length_dropLast]; omega
      refine ⟨?_, ?_, fun c hc => ?_, fun c hc => ?_⟩
      · rw [len_tl, len_tl, t1]
        omega
      · rw [len_tl, len_tl z, t2]
        omega
      · rw [e2]
        rw [t1] at hc
        exact List.mem_append_left _ hc
      · rw [e2]
        rw [t2] at hc
        exact List.mem_append_right _ (List.mem_cons_of_mem _ ((List.dropLast_sublist _).subset hc))
    · rw [if_neg hl] at h
      cases h
section
variable {P : Program} {w : World} {K : PySem.W.Frag} {mg : Str → Option Value} {base : Heap}
abbrev nRd : List Str := ["text", "table", "_", "rest", "inner", "terms", "pattern"]
theorem scRd : FnScope nRd ["text"] (defScope sRd18) := ⟨rfl, rfl, rfl, by decide +kernel, rfl, by decide +kernel, by decide +kernel⟩
theorem ok_rd {f fP fX : Addr} {fd fdP fdX : FuncData} (F : Fun K "read_pattern" "read_pattern" sRd18 f fd)
    (GP : FnOk P w K mg base CX0 3 fP fdP ["value"] (spIsP K patB)) (kP : PySem.W.keepIn K (.ref fP) = true) (bP : Binds K fdP ["value"] []) (mP : mg "is_pattern" = some (.ref fP))
    (GX : FnOk P w K mg base CX0 1 fX fdX ["pattern"] spPtx) (kX : PySem.W.keepIn K (.ref fX) = true) (bX : Binds K fdX ["pattern"] []) (mX : mg "pattern_text" = some (.ref fX)) :
    FnOk P w K mg base CX0 4 f fd ["text"] spRd := by
  refine F.ok scRd (fun vs H Q E h => ?_) (fun cdv A outer s H vs Q E hr h => ?_)
  · obtain ⟨z, rfl, _⟩ := h
    rfl
  · obtain ⟨z, rfl, lz, cz, kN, kS⟩ := h
    have hr1 : Room 1 _ := hr.mono (by decide)
    have hr3 : Room 3 _ := hr.mono (by decide)
    refine ⟨_, pss_cons (ps_asg (pe_partition (pv 0) pe_str) (pg_tup rfl (pgs_cons (pg_name (i := 1) scRd.nd rfl (.inl rfl)) (pgs_cons (pg_name (i := 2) scRd.nd rfl (.inl rfl)) (pgs_cons (pg_name (i := 3) scRd.nd rfl (.inl rfl)) pgs_nil)))))
      (pss_cons (ps_set (i := 4) scRd.nd rfl (Or.inl rfl) (pe_m1 PySem.F.slot_str_removesuffix PySem.F.type_str_removesuffix mt_removesuffix (pv 3) pe_str))
      (pss_cons (ps_set (i := 5) scRd.nd rfl (Or.inl rfl) (pe_ifExp (pt_truth (pv 4) (by intro _; rfl)) (pe_split (pv 4) pe_str) (pe_lst pa_nil)))
      (pss_cons (ps_set (i := 6) scRd.nd rfl (Or.inl rfl) (pe_tup (pa_cons (pv 1) (StX.pa_star (pv 5) pa_nil))))
      (pss_cons (ps_if (PW.pt (pw_and (pt_val (pe_call GP hr3 (by rfl) mP kP bP .nil pass0 (pa_cons (pv 6) pa_nil)))
          (pw_and1 (pt_cmpR op_eq (pe_call GX hr1 (by rfl) mX kX bX .nil pass0 (pa_cons (pv 6) pa_nil)) (pv 0) (nomark _))))) (pss_one (ps_ret (pv 6))) pss_nil)
      (pss_one (ps_ret pe_non)))))), ?_⟩
    refine ⟨_, rfl, ⟨_, rfl⟩, z, _, rfl, rfl, by decide +kernel, by rw [sizeLine_eq]; omega, fun p np => ?_⟩
    have facts : ∃ a b m, Txt.partition z opnS = (a, m, b) ∧ a.length ≤ z.length ∧ b.length ≤ z.length ∧
        (patB (.str a :: (terms (Txt.removesuffix b clsS)).map V.str) = true → decide (V.str (ptext a (terms (Txt.removesuffix b clsS))) = V.str z) = true → rdOk z = some (a, terms (Txt.removesuffix b clsS))) ∧
        (patB (.str a :: (terms (Txt.removesuffix b clsS)).map V.str) = false ∨ decide (V.str (ptext a (terms (Txt.removesuffix b clsS))) = V.str z) = false → rdOk z = none) := by
      cases hp : par [40] [] (tl z) with
      | none =>
        refine ⟨z, Str.empty, Str.empty, by rw [part_eq, hp], Nat.le_refl _, Nat.zero_le _, fun _ h => ?_, fun _ => ?_⟩
        · rw [read_none hp] at h
          cases h
        · unfold rdOk cutP
          rw [hp]
      | some ab =>
        obtain ⟨a, b⟩ := ab
        obtain ⟨m, e1, e2, _⟩ := par_eq 40 _ _ _ _ hp
        rw [List.nil_append] at e1
        have lz := congrArg List.length e2
        rw [List.length_append, List.length_cons, ← e1] at lz
        have hp2 : par [40] [] (tl z) = some (tl ⟨a.toArray⟩, tl ⟨b.toArray⟩) := hp
        refine ⟨⟨a.toArray⟩, ⟨b.toArray⟩, opnS, by rw [part_eq, hp], ?_, ?_, fun h1 h2 => ?_, fun h => ?_⟩
        · rw [len_tl, len_tl z]
          show a.length ≤ _
          omega
        · rw [len_tl, len_tl z]
          show b.length ≤ _
          omega
        · rw [read_same hp2] at h2
          have h2 : b.getLast? = some 41 := of_decide_eq_true h2
          have e : Txt.removesuffix ⟨b.toArray⟩ clsS = ⟨b.dropLast.toArray⟩ := by
            rw [suffix_eq]
            exact if_pos h2
          rw [e] at h1 ⊢
          unfold rdOk cutP
          rw [hp]
          dsimp only
          rw [if_pos h2]
          dsimp only
          rw [if_pos h1]
        · unfold rdOk cutP
          rw [hp]
          dsimp only
          by_cases h2 : b.getLast? = some 41
          · rw [if_pos h2]
            dsimp only
            rw [read_same hp2, decide_eq_true (show (tl ⟨b.toArray⟩).getLast? = some 41 from h2)] at h
            have e : Txt.removesuffix ⟨b.toArray⟩ clsS = ⟨b.dropLast.toArray⟩ := by
              rw [suffix_eq]
              exact if_pos h2
            rw [e] at h
            rcases h with h | h
            · rw [if_neg (by rw [h]; exact Bool.false_ne_true)]
            · cases h
          · rw [if_neg h2]
    obtain ⟨a, b, m, ep, la, lb, hyes, hno⟩ := facts
    have ep : Txt.partition z (Str.ofString "(") = (a, m, b) := ep
    rw [ep]
    dsimp only
    have li : (Txt.removesuffix b clsS).length ≤ b.length := by
      rw [suffix_eq]
      split
      · rw [len_tl, len_tl]
        show (tl b).dropLast.length ≤ _
        rw [List.length_dropLast]
        omega
      · exact Nat.le_refl _
    have u1 : Same H (upd H p (.tup [.str a, .str m, .str b])) := same_new np
    refine ⟨p, _, rfl, SqT.of upd_same, rfl, _, _, rfl, _, _, rfl, _, _, rfl, rfl, ?_⟩
    refine ⟨_, rfl, ⟨_, rfl⟩, b, _, rfl, rfl, by rw [sizeLine_eq]; omega, ?_⟩
    generalize hi : Txt.removesuffix b clsS = i at hyes hno li
    refine ⟨_, rfl, _, ⟨by rw [sizeLine_eq]; omega, rfl⟩, ?_⟩
    refine ite2 (fun h0 => ⟨_, rfl, ⟨_, rfl⟩, i, _, rfl, rfl, by decide +kernel, by rw [sizeLine_eq]; omega, fun l nl => ?_⟩) (fun h0 => ⟨by show 0 ≤ sizeLine; decide, fun l nl => ?_⟩)
    all_goals
      generalize hH2 : upd _ l _ = H2
      have s2 : Same H H2 := by
        rw [← hH2]
        exact u1.trans (same_new nl)
      have hl : H2 l = some (.lst ((terms i).map V.str)) := by
        rw [← hH2, upd_same]
        unfold terms
        first
          | exact congrArg (fun y : List Str => some (HO.lst (y.map V.str))) (if_neg (fun z : i.length = 0 => by simp [z] at h0)).symm
          | exact congrArg (fun y : List Str => some (HO.lst (y.map V.str))) (show ([] : List Str) = if i.length = 0 then [] else Txt.split i comS from (if_pos (show i.length = 0 by simpa using h0)).symm)
      have tle := terms_le i
      refine ⟨_, rfl, _, rfl, l, _, rfl, .inr (SqL.of hl), ?_, fun t nt => ?_⟩
      · simp only [List.append_nil, List.length_cons, List.length_map]
        rw [sizeLine_eq]
        omega
      rw [List.append_nil]
      generalize hH3 : upd H2 t _ = H3
      have s3 : Same H2 H3 := by
        rw [← hH3]
        exact same_new nt
      have ht : H3 t = some (.tup (.str a :: (terms i).map V.str)) := by
        rw [← hH3]
        exact upd_same
      have ntH : H t = none := by
        cases e : H t with
        | none => rfl
        | some o =>
          rw [s2 t o e] at nt
          cases nt
      refine ⟨_, rfl, _, rfl, .inl ⟨t, _, rfl, ht, ?_, fun y hy => ?_, fun H4 s4 => ⟨_, rfl, ?_⟩⟩⟩
      · rw [List.length_cons, List.length_map]
        omega
      · rcases List.mem_cons.mp hy with rfl | hy
        · exact .inl ⟨_, rfl, by omega⟩
        · obtain ⟨y', hy', rfl⟩ := List.mem_map.mp hy
          have := term_le hy'
          exact .inl ⟨_, rfl, by omega⟩
      cases hA : patB (.str a :: (terms i).map V.str) with
      | false =>
        refine iteF (iteF ?_)
        exact kN (hno (.inl hA)) _ ((s2.trans s3).trans s4)
      | true =>
        obtain ⟨ba, bt, by_⟩ := pat_bd hA
        refine iteT ⟨_, rfl, t, a, terms i, rfl, s4 _ _ ht, by omega, by omega, fun y hy => Nat.le_trans (by_ y hy) (by decide), fun H5 s5 => ⟨_, rfl, rfl, _, rfl, ?_⟩⟩
        cases hB : decide (V.str (ptext a (terms i)) = V.str z) with
        | false =>
          refine iteF ?_
          exact kN (hno (.inr hB)) _ (((s2.trans s3).trans s4).trans s5)
        | true =>
          refine iteT ⟨_, rfl, ?_⟩
          exact kS a (terms i) (hyes hA hB) t _ (((s2.trans s3).trans s4).trans s5) ntH (s5 _ _ (s4 _ _ ht))
end
end L2.LawH
set_option Elab.async false
set_option linter.all false
set_option maxRecDepth 100000
set_option maxHeartbeats 4000000
/-! _law_of_text. -/
namespace L2.LawH
open PySem PySem.Spec PyProof.Rows L2.Cmp L2.TxtSet TL
abbrev sLOT : Stmt := top 29
def spLOT : Sp := fun vs H Q _ => ∃ z : Str, vs = [.str z] ∧ z.length ≤ 90 ∧ (∀ c ∈ tl z, c < 0x110000) ∧ (rdOk z = none → ∀ H', Same H H' → Q .non H') ∧
  (∀ a ts, rdOk z = some (a, ts) → ∀ (p : Addr) (H' : Hp), Same H H' → H p = none → H' p = some (.tup (.str a :: ts.map V.str)) → Q (.ref p) H')
theorem sIx_m1 (n d : Nat) : HT.sIx n d (some (-1)) = n - 1 := by
  show (if (-1 : Int) < 0 then ((-1 : Int) + (n : Int)).toNat else min (-1 : Int).toNat n) = n - 1
  rw [if_pos (by decide)]
  omega
theorem cut_last (z : Str) : tl (cutS z (some (-1)) none) = (tl z).drop (z.length - 1) := by
  show ((tl z).drop (HT.sIx z.length 0 (some (-1)))).take (HT.sIx z.length z.length none - HT.sIx z.length 0 (some (-1))) = _
  rw [sIx_m1, HT.sIx_none]
  refine List.take_of_length_le ?_
  rw [List.length_drop, ← len_tl]
  omega
theorem cut_to (z : Str) (k : Nat) : tl (cutS z none (some (k : Int))) = (tl z).take k := by
  show ((tl z).drop (HT.sIx z.length 0 none)).take (HT.sIx z.length z.length (some (k : Int)) - HT.sIx z.length 0 none) = _
  rw [HT.sIx_nat, HT.sIx_none, List.drop_zero, Nat.sub_zero, len_tl z]
  rcases Nat.le_total k (tl z).length with h | h
  · rw [Nat.min_eq_left h]
  · rw [Nat.min_eq_right h, List.take_of_length_le (Nat.le_refl _), List.take_of_length_le h]
theorem cut_in {z : Str} {m b : List Nat} (h : tl z = m ++ 40 :: b) : tl (cutS z (some ((m.length : Int) + 1)) (some (-1))) = b.dropLast := by
  have hz : z.length = m.length + 1 + b.length := by
    rw [len_tl, h, List.length_append, List.length_cons]
    omega
  have e1 : HT.sIx z.length 0 (some ((m.length : Int) + 1)) = m.length + 1 := by
    have e := HT.sIx_nat z.length 0 (m.length + 1)
    rw [show ((m.length + 1 : Nat) : Int) = (m.length : Int) + 1 by omega] at e
    rw [e]
    omega
  show ((tl z).drop (HT.sIx z.length 0 (some ((m.length : Int) + 1)))).take (HT.sIx z.length z.length (some (-1)) - HT.sIx z.length 0 (some ((m.length : Int) + 1))) = _
  rw [sIx_m1, e1, h, hz]
  have e2 : (m ++ 40 :: b).drop (m.length + 1) = b := by
    rw [show m ++ 40 :: b = (m ++ [40]) ++ b by simp]
    have e3 : (m ++ [40]).length = m.length + 1 := by simp
    rw [← e3]
    exact List.drop_left
  rw [e2, List.dropLast_eq_take]
  congr 1
  omega
/-- the last sign of a text that is cut -/
theorem last_sign {z : Str} {m b : List Nat} (h : tl z = m ++ 40 :: b) : decide (V.str (cutS z (some (-1)) none) = V.str clsS) = decide (b.getLast? = some 41) := by
  refine decide_eq_decide.mpr ⟨fun e => ?_, fun e => ?_⟩
  · have e1 := congrArg tl (V.str.inj e)
    rw [cut_last, tl_cls, h, len_tl, h] at e1
    rcases last_cases b with hb | ⟨k, c, hb⟩
    · subst hb
      rw [List.length_append] at e1
      have e2 : (m ++ [40]).drop (m.length + 1 - 1) = [40] := by
        rw [Nat.add_sub_cancel]
        exact List.drop_left
      have e3 : (m ++ [40]).drop (m.length + [40].length - 1) = [40] := e2
      rw [e3] at e1
      cases e1
    · subst hb
      have e4 : m ++ 40 :: (k ++ [c]) = (m ++ 40 :: k) ++ [c] := by simp
      rw [e4, List.length_append] at e1
      have e5 : ((m ++ 40 :: k) ++ [c]).drop ((m ++ 40 :: k).length + 1 - 1) = [c] := by
        rw [Nat.add_sub_cancel]
        exact List.drop_left
      have e6 : ((m ++ 40 :: k) ++ [c]).drop ((m ++ 40 :: k).length + [c].length - 1) = [c] := e5
      rw [e6] at e1
      have : c = 41 := by simpa using e1
      rw [this]
      simp
  · refine congrArg V.str (ext_tl ?_)
    rw [cut_last, tl_cls, h, len_tl, h]
    rcases last_cases b with hb | ⟨k, c, hb⟩
    · subst hb
      cases e
    · subst hb
      have hc : c = 41 := by simpa using e
      subst hc
      have e4 : m ++ 40 :: (k ++ [41]) = (m ++ 40 :: k) ++ [41] := by simp
      rw [e4, List.length_append]
      have e5 : ((m ++ 40 :: k) ++ [41]).drop ((m ++ 40 :: k).length + 1 - 1) = [41] := by
        rw [Nat.add_sub_cancel]
        exact List.drop_left
      exact e5
theorem itm_str {K : PySem.W.Frag} {H : Hp} {y : Str} (l : y.length ≤ 100000) (h : ∀ c ∈ tl y, c < 0x110000) : Itm K H (.str y) :=
  ⟨.inl ⟨y, rfl, l, h⟩, .str y, .str y, by
    show (PyData.str y).canLay0 = true
    simp only [PyData.canLay0]
    exact ok_list h, by simp [PyData.depth]⟩
section
variable {P : Program} {w : World} {K : PySem.W.Frag} {mg : Str → Option Value} {base : Heap}
abbrev nLOT : List Str := ["_law_text_here", "_law_place", "_law_inside", "_law_pattern_here"]
theorem scLOT : FnScope nLOT ["_law_text_here"] (defScope sLOT) := ⟨rfl, rfl, rfl, by decide +kernel, rfl, by decide +kernel, by decide +kernel⟩
theorem ok_LOT {f fP : Addr} {fd fdP : FuncData} (F : Fun K "_law_of_text" "_law_of_text" sLOT f fd)
    (GP : FnOk P w K mg base CX0 3 fP fdP ["_law_value", "_law_open_too"] (spLIP K)) (kP : PySem.W.keepIn K (.ref fP) = true) (bP : Binds K fdP ["_law_value", "_law_open_too"] []) (mP : mg "_law_is_pattern" = some (.ref fP))
    (mt : mg "tuple" = none) :
    FnOk P w K mg base CX0 4 f fd ["_law_text_here"] spLOT := by
  refine F.ok scLOT (fun vs H Q E h => ?_) (fun cdv A outer s H vs Q E hr h => ?_)
  · obtain ⟨z, rfl, _⟩ := h
    rfl
  · obtain ⟨z, rfl, lz, cz, kN, kS⟩ := h
    have hr3 : Room 3 _ := hr.mono (by decide)
    refine ⟨_, pss_cons (ps_set (i := 1) scLOT.nd rfl (Or.inl rfl) (pe_m1 PySem.F.slot_str_find PySem.F.type_str_find mt_find (pv 0) pe_str))
      (pss_cons (ps_if (PW.pt (pw_or (pt_cmpR op_lt (pv 1) pe_int (nomark _)) (pw_or1 (pt_cmpR op_ne (pe_slice sl_str (pv 0) (po_some (pe_un un_neg pe_int)) po_none) pe_str (nomark _))))) (pss_one (ps_ret pe_non)) pss_nil)
      (pss_cons (ps_set (i := 2) scLOT.nd rfl (Or.inl rfl) (pe_slice sl_str (pv 0) (po_some (pe_op op_add (pv 1) pe_int)) (po_some (pe_un un_neg pe_int))))
      (pss_cons (ps_set (i := 3) scLOT.nd rfl (Or.inl rfl) (pe_callTy call_tuple_of (by rfl) mt (by decide +kernel) (pa_cons (pe_op op_cat (pe_lst (pa_cons (pe_slice sl_str (pv 0) po_none (po_some (pv 1))) pa_nil))
          (pe_ifExp (pt_cmpR op_ne (pv 2) pe_str (nomark _)) (pe_split (pv 2) pe_str) (pe_lst pa_nil))) pa_nil)))
      (pss_one (ps_ret (pe_ifExp (pt_val (pe_call GP hr3 (by rfl) mP kP bP .nil pass0 (pa_cons (pv 3) (pa_cons pe_bl pa_nil)))) (pv 3) pe_non)))))), ?_⟩
    refine ⟨_, rfl, ⟨_, rfl⟩, z, _, rfl, rfl, ?_⟩
    have ef := find_eq z
    have ef : Txt.find z (Str.ofString "(") = match par [40] [] (tl z) with | none => -1 | some (a, _) => (a.length : Int) := ef
    rw [ef]
    have szl : z.length ≤ sizeLine := by rw [sizeLine_eq]; omega
    cases hp : par [40] [] (tl z) with
    | none =>
      refine ⟨_, rfl, _, _, rfl, rfl, _, rfl, iteT ?_⟩
      refine kN ?_ H fun _ _ e => e
      unfold rdOk cutP
      rw [hp]
    | some ab =>
      obtain ⟨a, b⟩ := ab
      obtain ⟨m, e1, e2, _⟩ := par_eq 40 _ _ _ _ hp
      rw [List.nil_append] at e1
      subst e1
      refine ⟨_, rfl, _, _, rfl, rfl, _, rfl, ?_⟩
      have e0 : decide ((a.length : Int) < 0) = false := decide_eq_false (by omega)
      dsimp only
      rw [e0]
      refine iteF ⟨_, rfl, _, rfl, _, rfl, z, rfl, szl, rfl, _, rfl, ?_⟩
      have el : decide (V.str (cutS z (some (-1)) none) = V.str (Str.ofString ")")) = decide (b.getLast? = some 41) := last_sign e2
      rw [el]
      have eN : ∀ h : ¬ b.getLast? = some 41, rdOk z = none := fun h => by
        unfold rdOk cutP
        rw [hp]
        dsimp only
        rw [if_neg h]
      by_cases hl : b.getLast? = some 41
      case neg =>
        rw [decide_eq_false hl]
        exact iteT (kN (eN hl) H fun _ _ e => e)
      rw [decide_eq_true hl]
      refine iteF ⟨_, rfl, _, rfl, _, _, rfl, rfl, _, rfl, _, rfl, _, rfl, z, rfl, szl, ?_⟩
      have ei : cutS z (some ((a.length : Int) + 1)) (some (-1)) = ⟨b.dropLast.toArray⟩ := ext_tl (cut_in e2)
      have ea : cutS z none (some (a.length : Int)) = ⟨a.toArray⟩ := by
        refine ext_tl ?_
        rw [cut_to, e2]
        exact List.take_left
      have ei2 : cutS z (some ((a.length : Int) + 1)) (some (-(1 : Int))) = ⟨b.dropLast.toArray⟩ := ei
      rw [ei2]
      have bounds := cut_le (z := z) (a := ⟨a.toArray⟩) (i := ⟨b.dropLast.toArray⟩) (by
        unfold cutP
        rw [hp]
        exact if_pos hl)
      have rdT : rdOk z = if patB (.str ⟨a.toArray⟩ :: (terms ⟨b.dropLast.toArray⟩).map V.str) = true then some (⟨a.toArray⟩, terms ⟨b.dropLast.toArray⟩) else none := by
        unfold rdOk cutP
        rw [hp]
        dsimp only
        rw [if_pos hl]
      generalize hA : (⟨a.toArray⟩ : Str) = A' at bounds rdT ea
      generalize hI : (⟨b.dropLast.toArray⟩ : Str) = i at bounds rdT
      obtain ⟨bA, bI, cA, cI⟩ := bounds
      refine ⟨_, rfl, _, rfl, _, rfl, z, rfl, szl, ?_⟩
      rw [ea]
      refine ⟨by show 1 ≤ sizeLine; decide, fun l1 n1 => ?_⟩
      have h1 : (upd H l1 (.lst [.str A'])) l1 = some (.lst [.str A']) := upd_same
      have s1 : Same H (upd H l1 (.lst [.str A'])) := same_new n1
      generalize upd H l1 (.lst [.str A']) = H1 at h1 s1 ⊢
      have e00 : (Str.ofString "").length = 0 := by decide +kernel
      refine ⟨_, rfl, rfl, _, rfl, ?_⟩
      refine ite2 (fun h0 => ⟨_, rfl, ⟨_, rfl⟩, i, _, rfl, rfl, by decide +kernel, by rw [sizeLine_eq]; omega, fun l2 n2 => ?_⟩) (fun h0 => ⟨by show 0 ≤ sizeLine; decide, fun l2 n2 => ?_⟩)
      all_goals
        generalize hH2 : upd _ l2 _ = H2
        have s2 : Same H1 H2 := by
          rw [← hH2]
          exact same_new n2
        have h2 : H2 l2 = some (.lst ((terms i).map V.str)) := by
          rw [← hH2, upd_same]
          unfold terms
          first
            | exact congrArg (fun y : List Str => some (HO.lst (y.map V.str))) (if_neg (fun z : i.length = 0 => by
                have e : i = Str.ofString "" := ext_tl (by
                  have e1 : tl i = [] := List.length_eq_zero_iff.mp (by rw [← len_tl]; exact z)
                  rw [e1]
                  decide +kernel)
                rw [e] at h0
                simp at h0)).symm
            | exact congrArg (fun y : List Str => some (HO.lst (y.map V.str))) (show ([] : List Str) = if i.length = 0 then [] else Txt.split i comS from (if_pos (by
                have e : i = Str.ofString "" := by
                  have q : ¬ (!decide (V.str i = V.str (Str.ofString ""))) = true := h0
                  cases d : decide (V.str i = V.str (Str.ofString "")) with
                  | true => exact V.str.inj (of_decide_eq_true d)
                  | false =>
                    rw [d] at q
                    exact absurd rfl q
                rw [e, e00])).symm)
        have tle := terms_le i
        refine ⟨l1, l2, _, _, rfl, rfl, s2 _ _ h1, h2, by rw [List.length_singleton, List.length_map, sizeLine_eq]; omega, fun l3 n3 => ?_⟩
        refine ⟨l3, _, rfl, .inl ⟨SqL.of upd_same, fun t nt => ?_⟩⟩
        have s3 : Same H2 (upd H2 l3 (.lst ([.str A'] ++ (terms i).map V.str))) := same_new n3
        generalize upd H2 l3 (.lst ([.str A'] ++ (terms i).map V.str)) = H3 at nt s3 ⊢
        have s4 : Same H3 (upd H3 t (.tup ([.str A'] ++ (terms i).map V.str))) := same_new nt
        have h4 : (upd H3 t (.tup ([.str A'] ++ (terms i).map V.str))) t = some (.tup (.str A' :: (terms i).map V.str)) := upd_same
        generalize upd H3 t (.tup ([.str A'] ++ (terms i).map V.str)) = H4 at s4 h4 ⊢
        have sH : Same H H4 := ((s1.trans s2).trans s3).trans s4
        have ntH : H t = none := by
          cases e : H t with
          | none => rfl
          | some o =>
            rw [((s1.trans s2).trans s3) t o e] at nt
            cases nt
        refine ⟨_, rfl, _, true, some (.str A' :: (terms i).map V.str), rfl, ⟨t, rfl, h4, ?_, fun y hy => ?_⟩, fun H5 s5 => ⟨_, rfl, ?_⟩⟩
        · rw [List.length_cons, List.length_map]
          omega
        · rcases List.mem_cons.mp hy with rfl | hy
          · exact itm_str (by omega) fun c hc => cz c (cA c hc)
          · obtain ⟨y', hy', rfl⟩ := List.mem_map.mp hy
            have := term_le hy'
            exact itm_str (by omega) fun c hc => cz c (cI c (term_mem hy' hc))
        · rw [if_pos rfl]
          show (if pAns (some (.str A' :: (terms i).map V.str)) = true then _ else _)
          have eP : pAns (some (.str A' :: (terms i).map V.str)) = patB (.str A' :: (terms i).map V.str) := rfl
          rw [eP]
          by_cases hP : patB (.str A' :: (terms i).map V.str) = true
          · rw [if_pos hP] at rdT
            rw [if_pos hP]
            exact ⟨_, rfl, kS _ _ rdT t _ (sH.trans s5) ntH (s5 _ _ h4)⟩
          · rw [if_neg hP] at rdT
            rw [if_neg hP]
            exact kN rdT _ (sH.trans s5)
end
end L2.LawH
set_option Elab.async false
set_option linter.all false
set_option maxRecDepth 100000
set_option maxHeartbeats 4000000
/-! _law_spoiled. -/
namespace L2.LawH
open PySem PySem.Spec PyProof.Rows L2.Cmp L2.TxtSet TL
abbrev sLSp : Stmt := top 30
def spLSp : Sp := fun vs H Q _ => ∃ (a : Addr) (c : Int) (m : Nat) (z : Str), vs = [.ref a, .str z] ∧ SrcAt H a c (m + 3) ∧ z.length ≤ 80 ∧ (∀ c ∈ tl z, c < 0x110000) ∧
  ∀ (y : Str) (H' : Hp), y.length ≤ z.length + 2 → (∀ c ∈ tl y, c < 0x110000) → SrcAt H' a c m → Keep a H H' → Q (.str y) H'
def sgnM : List Str := ["", ",", "(", ")", "?", " ", "a", "7", "A", "()", ",,", "\n"]
theorem sgnM_ok : (sgnM.all fun s => decide (s.length ≤ 2) && (tl s).all fun c => decide (c < 128)) = true := by decide +kernel
theorem cut_mem {z : Str} {lo hi : Option Int} {c : Nat} (h : c ∈ tl (cutS z lo hi)) : c ∈ tl z := List.mem_of_mem_drop (List.mem_of_mem_take h)
theorem cut_from (z : Str) (k : Nat) : tl (cutS z (some (k : Int)) none) = (tl z).drop k := by
  show ((tl z).drop (HT.sIx z.length 0 (some (k : Int)))).take (HT.sIx z.length z.length none - HT.sIx z.length 0 (some (k : Int))) = _
  rw [HT.sIx_nat, HT.sIx_none, len_tl z]
  rcases Nat.le_total k (tl z).length with h | h
  · rw [Nat.min_eq_left h]
    refine List.take_of_length_le ?_
    rw [List.length_drop]
    omega
  · rw [Nat.min_eq_right h, List.drop_of_length_le h, List.drop_of_length_le (Nat.le_refl _), List.take_nil]
theorem cut_two {z : Str} {j k : Nat} (h : j ≤ k) : (cutS z none (some (j : Int))).length + (cutS z (some (k : Int)) none).length ≤ z.length := by
  rw [len_tl, len_tl, cut_to, cut_from, List.length_take, List.length_drop, len_tl]
  omega
section
variable {P : Program} {w : World} {K : PySem.W.Frag} {mg : Str → Option Value} {base : Heap}
abbrev nLSp : List Str := ["_law_source_here", "_law_text_here", "_law_place", "_law_sign"]
theorem scLSp : FnScope nLSp ["_law_source_here", "_law_text_here"] (defScope sLSp) := ⟨rfl, rfl, rfl, by decide +kernel, rfl, by decide +kernel, by decide +kernel⟩
theorem ok_LSp {f fD : Addr} {fd fdD : FuncData} (F : Fun K "_law_spoiled" "_law_spoiled" sLSp f fd)
    (GD : FnOk P w K mg base CX0 1 fD fdD ["_law_source_here", "_law_limit"] spDraw) (kD : PySem.W.keepIn K (.ref fD) = true) (bD : Binds K fdD ["_law_source_here", "_law_limit"] []) (mD : mg "_law_draw" = some (.ref fD))
    (ml : mg "len" = none) :
    FnOk P w K mg base CX0 2 f fd ["_law_source_here", "_law_text_here"] spLSp := by
  refine F.ok scLSp (fun vs H Q E h => ?_) (fun cdv A outer s H vs Q E hr h => ?_)
  · obtain ⟨a, c, m, z, rfl, _⟩ := h
    rfl
  · obtain ⟨a, c, m, z, rfl, hs, lz, cz, k⟩ := h
    have hr1 : Room 1 _ := hr.mono (by decide)
    refine ⟨_, pss_cons (ps_set (i := 2) scLSp.nd rfl (Or.inl rfl) (pe_call GD hr1 (by rfl) mD kD bD .nil pass0 (pa_cons (pv 0) (pa_cons (pe_op op_add (pe_callB call_len_str (by rfl) ml (by decide +kernel) (pa_cons (pv 1) pa_nil)) pe_int) pa_nil))))
      (pss_cons (ps_set (i := 3) scLSp.nd rfl (Or.inl rfl) (pe_ix ix_list (pe_lst (pa_cons pe_str (pa_cons pe_str (pa_cons pe_str (pa_cons pe_str (pa_cons pe_str (pa_cons pe_str (pa_cons pe_str (pa_cons pe_str (pa_cons pe_str (pa_cons pe_str (pa_cons pe_str (pa_cons pe_str pa_nil)))))))))))))
        (pe_call GD hr1 (by rfl) mD kD bD .nil pass0 (pa_cons (pv 0) (pa_cons pe_int pa_nil))) (fun _ _ => rfl)))
      (pss_one (ps_ret (pe_op op_add_str (pe_op op_add_str (pe_slice sl_str (pv 1) po_none (po_some (pv 2))) (pv 3))
        (pe_slice sl_str (pv 1) (po_some (pe_op op_add (pv 2) (pe_call GD hr1 (by rfl) mD kD bD .nil pass0 (pa_cons (pv 0) (pa_cons pe_int pa_nil))))) po_none))))), ?_⟩
    have szl : z.length ≤ sizeLine := by rw [sizeLine_eq]; omega
    refine ⟨_, rfl, _, rfl, z, rfl, szl, _, _, rfl, rfl, a, c, m + 2, _, rfl, hs, by omega, by omega, fun r1 H1 r10 r11 s1 k1 => ?_⟩
    obtain ⟨j, rfl⟩ : ∃ j : Nat, r1 = j := ⟨r1.toNat, by omega⟩
    refine ⟨by show 12 ≤ sizeLine; decide, fun p np => ?_⟩
    have z1 := s1.ne np
    have u1 : Same H1 (upd H1 p (.lst (sgnM.map V.str))) := same_new np
    refine ⟨_, rfl, a, c, m + 1, 12, rfl, s1.same u1, by decide, by decide, fun r2 H2 r20 r21 s2 k2 => ?_⟩
    obtain ⟨i, rfl⟩ : ∃ i : Nat, r2 = i := ⟨r2.toNat, by omega⟩
    have hi : i < sgnM.length := by
      show i < 12
      omega
    have hp : H2 p = some (.lst (sgnM.map V.str)) := k2 _ _ upd_same z1
    have ok := List.all_eq_true.mp sgnM_ok _ (List.getElem_mem hi)
    rw [Bool.and_eq_true, decide_eq_true_iff, List.all_eq_true] at ok
    obtain ⟨lg, cg⟩ := ok
    refine ⟨p, _, _, _, rfl, rfl, SqL.of hp, atI_nat (strs_get hi), ?_⟩
    generalize sgnM[i] = g at lg cg
    have l1 := cutS_length z none (some (j : Int))
    refine ⟨_, rfl, _, rfl, _, rfl, z, rfl, szl, _, rfl, _, _, rfl, rfl, by rw [sizeLine_eq]; omega, ?_⟩
    refine ⟨_, rfl, _, rfl, _, rfl, a, c, m, 2, rfl, s2, by decide, by decide, fun r3 H3 r30 r31 s3 k3 => ?_⟩
    refine ⟨_, _, rfl, rfl, _, rfl, z, rfl, szl, _, _, rfl, rfl, ?_⟩
    obtain ⟨q, rfl⟩ : ∃ q : Nat, r3 = q := ⟨r3.toNat, by omega⟩
    have e : ((j : Int) + (q : Int)) = ((j + q : Nat) : Int) := by omega
    rw [e]
    have l2 := cut_two (z := z) (j := j) (k := j + q) (by omega)
    refine ⟨by rw [len_app, sizeLine_eq]; omega, ?_⟩
    refine k _ H3 (by rw [len_app, len_app]; omega) (fun x hx => ?_) s3 ((((k1.trans (Keep.of u1)).trans k2)).trans k3)
    rw [tl_append, tl_append, List.mem_append, List.mem_append] at hx
    rcases hx with (hx | hx) | hx
    · exact cz x (cut_mem hx)
    · exact Nat.lt_trans (of_decide_eq_true (cg x hx)) (by decide)
    · exact cz x (cut_mem hx)
end
end L2.LawH
set_option Elab.async false
set_option linter.all false
set_option maxRecDepth 100000
set_option maxHeartbeats 4000000
/-! Texts of right patterns; _law_texts. -/
namespace L2.LawH
open PySem PySem.Spec PyProof.Rows L2.Cmp L2.TxtSet TL
abbrev sLTs : Stmt := top 31
/-- a right pattern -/
structure PatG (T : Str) (zs : List Str) : Prop where
  nT : Nm T
  few : zs.length ≤ 3
  each : ∀ z ∈ zs, Nm z ∨ Vr z
theorem sgn_ne {c : Nat} (h : isSgn c = true) : c ≠ 40 ∧ c ≠ 44 ∧ c ≠ 63 ∧ c < 128 := by
  unfold isSgn isLet at h
  simp only [Bool.or_eq_true, Bool.and_eq_true, decide_eq_true_eq] at h
  omega
theorem chr_nm {z : Str} (h : Nm z) : ∀ c ∈ tl z, isSgn c = true := fun c hc => List.all_eq_true.mp (nm_sgns h).1 c hc
theorem tl_q : tl (Str.ofString "?") = [63] := by decide +kernel
theorem chr_tm {z : Str} (h : Nm z ∨ Vr z) : ∀ c ∈ tl z, c ≠ 40 ∧ c ≠ 44 ∧ c < 128 := by
  intro c hc
  rcases h with h | ⟨y, ny, rfl⟩
  · have := sgn_ne (chr_nm h c hc)
    exact ⟨this.1, this.2.1, this.2.2.2⟩
  · rw [tl_append, tl_q] at hc
    rcases List.mem_append.mp hc with hc | hc
    · rw [List.mem_singleton.mp hc]
      decide
    · have := sgn_ne (chr_nm ny c hc)
      exact ⟨this.1, this.2.1, this.2.2.2⟩
theorem isV_q (y : Str) : isV (Str.ofString "?" ++ y) = true := by
  rw [← first_sign, decide_eq_true_iff]
  refine ext_tl ?_
  have e := cut_to (Str.ofString "?" ++ y) 1
  rw [show (some ((1 : Nat) : Int)) = some (1 : Int) from rfl] at e
  rw [e, tl_append, tl_q]
  rfl
theorem varB_vr {z : Str} (h : Vr z) : varB z = true := by
  obtain ⟨y, ny, rfl⟩ := h
  unfold varB
  rw [isV_q, Bool.true_and]
  have e : (Str.ofString "?" ++ y).cps.toList.drop 1 = tl y := by
    rw [show (Str.ofString "?" ++ y).cps.toList = tl (Str.ofString "?" ++ y) from rfl, tl_append, tl_q]
    rfl
  rw [e]
  exact ny
theorem tm_ok {z : Str} (h : Nm z ∨ Vr z) : (vN (.str z) || vV (.str z)) = true := by
  rcases h with h | h
  · have : vN (.str z) = true := h
    rw [this]
    rfl
  · have : vV (.str z) = true := varB_vr h
    rw [this, Bool.or_true]
theorem tm_len {z : Str} (h : Nm z ∨ Vr z) : 1 ≤ z.length ∧ z.length ≤ 13 := by
  rcases h with h | ⟨y, ny, rfl⟩
  · have := nm_sgns h
    rw [len_tl]
    exact ⟨this.2.2, Nat.le_trans this.2.1 (by decide)⟩
  · have := nm_sgns ny
    rw [len_tl, tl_append, tl_q, List.length_append]
    have e : (tl y).length = y.cps.toList.length := rfl
    simp only [List.length_singleton]
    omega
theorem PatG.pat {T : Str} {zs : List Str} (h : PatG T zs) : patB (.str T :: zs.map V.str) = true := by
  show (decide ((zs.map V.str).length ≤ 3) && vN (.str T) && (zs.map V.str).all fun y => vN y || vV y) = true
  rw [List.length_map, decide_eq_true h.few, show vN (.str T) = true from h.nT, Bool.true_and, Bool.true_and, List.all_map, List.all_eq_true]
  exact fun z m => tm_ok (h.each z m)
theorem PatG.strs {T : Str} {zs : List Str} (h : PatG T zs) : T.length ≤ 12 ∧ (∀ z ∈ zs, z.length ≤ 13) := ⟨by
  have := nm_len h.nT
  rw [len_tl]
  exact this, fun z m => (tm_len (h.each z m)).2⟩
theorem terms_text {zs : List Str} (h : ∀ z ∈ zs, Nm z ∨ Vr z) : terms (Txt.join comS zs) = zs := by
  unfold terms
  cases zs with
  | nil => rfl
  | cons z r =>
    have hl : (Txt.join comS (z :: r)).length ≠ 0 := by
      rw [join_eq, len_tl, tl_join, tl_com]
      have h1 := (tm_len (h z List.mem_cons_self)).1
      have h2 := part_le 44 ((z :: r).map tl) (tl z) (List.mem_map_of_mem List.mem_cons_self)
      rw [len_tl] at h1
      omega
    rw [if_neg hl]
    exact split_join (s := 44) (S := []) tl_com (by decide +kernel) (by simp) fun p m hc => (chr_tm (h p m) 44 hc).2.1 rfl
theorem ptext_tl2 (T : Str) (zs : List Str) : tl (ptext T zs) = tl T ++ 40 :: (tl (Txt.join comS zs) ++ [41]) := by
  unfold ptext
  rw [empty_app, tl_append, tl_append, tl_append, show tl (("(" : String) : Str) = [40] from tl_opn, show tl ((")" : String) : Str) = [41] from tl_cls]
  simp
theorem par_app {m b : List Nat} (h : 40 ∉ m) : par [40] [] (m ++ 40 :: b) = some (m, b) := by
  have e := par_part1 (s := 40) (S := []) (p := m) (rest := b) (acc := []) h
  rw [List.nil_append] at e
  exact e
theorem PatG.read {T : Str} {zs : List Str} (h : PatG T zs) : rdOk (ptext T zs) = some (T, zs) := by
  have nT : 40 ∉ tl T := fun hc => (sgn_ne (chr_nm h.nT 40 hc)).1 rfl
  unfold rdOk cutP
  rw [ptext_tl2, par_app nT]
  dsimp only
  rw [if_pos (by simp)]
  dsimp only
  have e1 : (⟨(tl T).toArray⟩ : Str) = T := mk_tl T
  have e2 : (⟨(tl (Txt.join comS zs) ++ [41]).dropLast.toArray⟩ : Str) = Txt.join comS zs := by
    rw [List.dropLast_concat]
  rw [e1, e2, terms_text h.each, if_pos h.pat]
theorem PatG.read_sp {T : Str} {zs : List Str} (h : PatG T zs) : rdOk (ptext T zs ++ Str.ofString " ") = none := by
  have nT : 40 ∉ tl T := fun hc => (sgn_ne (chr_nm h.nT 40 hc)).1 rfl
  have e : tl (ptext T zs ++ Str.ofString " ") = tl T ++ 40 :: ((tl (Txt.join comS zs) ++ [41]) ++ [32]) := by
    rw [tl_append, ptext_tl2, show tl (Str.ofString " ") = [32] by decide +kernel]
    simp
  unfold rdOk cutP
  rw [e, par_app nT]
  dsimp only
  rw [if_neg (by simp)]
theorem read_empty : rdOk (Str.ofString "") = none := by
  unfold rdOk cutP
  rw [show tl (Str.ofString "") = [] by decide +kernel]
  rfl
theorem PatG.codes {T : Str} {zs : List Str} (h : PatG T zs) : (∀ c ∈ tl (ptext T zs), c < 0x110000) ∧ (ptext T zs).length ≤ 57 := by
  have hj : ∀ c ∈ tl (Txt.join comS zs), c < 128 := by
    rw [join_eq, tl_join, tl_com]
    intro c hc
    -- signs of a joined text
    have key : ∀ X : List (List Nat), (∀ p ∈ X, ∀ c ∈ p, c < 128) → ∀ c ∈ joinL [44] X, c < 128 := by
      intro X
      induction X with
      | nil => intro _ c hc; cases hc
      | cons p r ih =>
        intro hX c hc
        cases r with
        | nil => exact hX p List.mem_cons_self c hc
        | cons q r =>
          rw [joinL_cons _ _ (by simp), List.mem_append, List.mem_append] at hc
          rcases hc with hc | hc | hc
          · exact hX p List.mem_cons_self c hc
          · rw [List.mem_singleton.mp hc]
            decide
          · exact ih (fun p m => hX p (List.mem_cons_of_mem _ m)) c hc
    refine key _ (fun p m c hc => ?_) c hc
    obtain ⟨z, mz, rfl⟩ := List.mem_map.mp m
    exact (chr_tm (h.each z mz) c hc).2.2
  refine ⟨fun c hc => ?_, ?_⟩
  · rw [ptext_tl2] at hc
    rcases List.mem_append.mp hc with hc | hc
    · exact Nat.lt_trans (sgn_ne (chr_nm h.nT c hc)).2.2.2 (by decide)
    · rcases List.mem_cons.mp hc with rfl | hc
      · decide
      · rcases List.mem_append.mp hc with hc | hc
        · exact Nat.lt_trans (hj c hc) (by decide)
        · rw [List.mem_singleton.mp hc]
          decide
  · rw [len_tl, ptext_tl2, List.length_append, List.length_cons, List.length_append]
    have l1 := h.strs.1
    rw [len_tl] at l1
    have l2 : (tl (Txt.join comS zs)).length ≤ 3 * 14 := by
      rw [← len_tl, join_eq]
      have q := join_len comS zs
      have s1 := sum_le 13 zs h.strs.2
      have c1 : comS.length = 1 := by decide +kernel
      have few := h.few
      rw [c1] at q
      omega
    simp only [List.length_singleton]
    omega
/-! ### compared -/
theorem strs_lay : ∀ zs : List Str, (∀ z ∈ zs, ∀ c ∈ tl z, c < 0x110000) → PyData.canLayAll0 (zs.map PyData.str) = true
  | [], _ => by simp [PyData.canLayAll0]
  | z :: zs, h => by
    have h1 : PyData.strOk z = true := ok_list (h z List.mem_cons_self)
    simp [PyData.canLayAll0, PyData.canLay0, h1, strs_lay zs fun y m => h y (List.mem_cons_of_mem _ m)]
theorem strs_dep : ∀ zs : List Str, PyData.depthAll (zs.map PyData.str) ≤ 2
  | [] => by simp [PyData.depthAll]
  | z :: zs => by
    have h1 := strs_dep zs
    simp only [List.map_cons, PyData.depthAll, PyData.depth]
    omega
theorem shaped_tupS {zs : List Str} (h : ∀ z ∈ zs, ∀ c ∈ tl z, c < 0x110000) : SeqAt.shaped (.tuple (zs.map PyData.str)) = true := by
  have h1 := strs_dep zs
  have h2 : PyData.depth (.tuple (zs.map PyData.str)) ≤ 64 := by
    simp only [PyData.depth]
    omega
  show (PyData.canLay0 (.tuple (zs.map PyData.str)) && decide (PyData.depth (.tuple (zs.map PyData.str)) ≤ 64)) = true
  rw [Bool.and_eq_true]
  exact ⟨by simp only [PyData.canLay0]; exact strs_lay zs h, decide_eq_true h2⟩
theorem eqv_tupS {zs : List Str} (h : ∀ z ∈ zs, ∀ c ∈ tl z, c < 0x110000) : PyData.eqv (.tuple (zs.map PyData.str)) (.tuple (zs.map PyData.str)) = true :=
  SeqAt.eqv_refl _ (SeqAt.canLay_of_shaped (shaped_tupS h))
theorem dp_pat {K : PySem.W.Frag} {H : Hp} {t : Addr} {T : Str} {zs : List Str} (h : H t = some (.tup (.str T :: zs.map V.str))) : Dp K H (.ref t) (.tuple ((T :: zs).map PyData.str)) :=
  .tup (SqT.of h) (dp_strs (T :: zs))
theorem PatG.all {T : Str} {zs : List Str} (h : PatG T zs) : ∀ z ∈ T :: zs, ∀ c ∈ tl z, c < 0x110000 := by
  intro z m c hc
  rcases List.mem_cons.mp m with rfl | m
  · exact Nat.lt_trans (sgn_ne (chr_nm h.nT c hc)).2.2.2 (by decide)
  · exact Nat.lt_trans (chr_tm (h.each z m) c hc).2.2 (by decide)
theorem rd_codes {z a : Str} {ts : List Str} (h : rdOk z = some (a, ts)) (cz : ∀ c ∈ tl z, c < 0x110000) : ∀ y ∈ a :: ts, ∀ c ∈ tl y, c < 0x110000 := by
  unfold rdOk at h
  cases hc : cutP z with
  | none => rw [hc] at h; cases h
  | some ai =>
    obtain ⟨a', i⟩ := ai
    rw [hc] at h
    dsimp only at h
    obtain ⟨_, _, c1, c2⟩ := cut_le hc
    by_cases hp : patB (.str a' :: (terms i).map V.str) = true
    · rw [if_pos hp] at h
      have h2 := Option.some.inj h
      have e1 : a' = a := congrArg Prod.fst h2
      have e2 : terms i = ts := congrArg Prod.snd h2
      subst e1
      subst e2
      intro y m c hy
      rcases List.mem_cons.mp m with rfl | m
      · exact cz c (c1 c hy)
      · exact cz c (c2 c (term_mem m hy))
    · rw [if_neg hp] at h
      cases h
end L2.LawH
set_option Elab.async false
set_option linter.all false
set_option maxRecDepth 100000
set_option maxHeartbeats 4000000
/-! _law_texts. -/
namespace L2.LawH
open PySem PySem.Spec PyProof.Rows L2.Cmp L2.TxtSet TL
abbrev sLTs22 : Stmt := top 31
def spLTs : Sp := fun vs H Q _ => ∃ (a t : Addr) (c : Int) (m : Nat) (T : Str) (zs : List Str), vs = [.ref a, .ref t] ∧ SrcAt H a c (m + 15) ∧ H t = some (.tup (.str T :: zs.map V.str)) ∧ PatG T zs ∧ t ≠ a ∧
  ∀ H', SrcAt H' a c m → Keep a H H' → Q (.bl true) H'
theorem op_neDK {X : Cx} {K : PySem.W.Frag} (e : X.K = K) (hu : X.A.units + 64 < cLine) : OpR X (compareOp .NotEq) (rNeD K) := by
  subst e
  exact op_neD hu
section
variable {P : Program} {w : World} {K : PySem.W.Frag} {mg : Str → Option Value} {base : Heap}
abbrev nLTs : List Str := ["_law_source_here", "_law_pattern_here", "_law_text_here", "_law_k", "_law_near"]
theorem scLTs : FnScope nLTs ["_law_source_here", "_law_pattern_here"] (defScope sLTs22) := ⟨rfl, rfl, rfl, by decide +kernel, rfl, by decide +kernel, by decide +kernel⟩
theorem ok_LTs {f fX fL fR fO fS : Addr} {fd fdX fdL fdR fdO fdS : FuncData} (F : Fun K "_law_texts" "_law_texts" sLTs22 f fd)
    (GX : FnOk P w K mg base CX0 1 fX fdX ["pattern"] spPtx) (kX : PySem.W.keepIn K (.ref fX) = true) (bX : Binds K fdX ["pattern"] []) (mX : mg "pattern_text" = some (.ref fX))
    (GL : FnOk P w K mg base CX0 1 fL fdL ["_law_pattern_here"] spPtx) (kL : PySem.W.keepIn K (.ref fL) = true) (bL : Binds K fdL ["_law_pattern_here"] []) (mL : mg "_law_text" = some (.ref fL))
    (GR : FnOk P w K mg base CX0 4 fR fdR ["text"] spRd) (kR : PySem.W.keepIn K (.ref fR) = true) (bR : Binds K fdR ["text"] []) (mR : mg "read_pattern" = some (.ref fR))
    (GO : FnOk P w K mg base CX0 4 fO fdO ["_law_text_here"] spLOT) (kO : PySem.W.keepIn K (.ref fO) = true) (bO : Binds K fdO ["_law_text_here"] []) (mO : mg "_law_of_text" = some (.ref fO))
    (GS : FnOk P w K mg base CX0 2 fS fdS ["_law_source_here", "_law_text_here"] spLSp) (kS : PySem.W.keepIn K (.ref fS) = true) (bS : Binds K fdS ["_law_source_here", "_law_text_here"] []) (mS : mg "_law_spoiled" = some (.ref fS))
    (mr : mg "range" = none) :
    FnOk P w K mg base CX0 5 f fd ["_law_source_here", "_law_pattern_here"] spLTs := by
  refine F.ok scLTs (fun vs H Q E h => ?_) (fun cdv A outer s H vs Q E hr h => ?_)
  · obtain ⟨a, t, c, m, T, zs, rfl, _⟩ := h
    rfl
  · obtain ⟨a, t, c, m, T, zs, rfl, hs, ht, pt, ta, k⟩ := h
    have hr1 : Room 1 _ := hr.mono (by decide)
    have hr2 : Room 2 _ := hr.mono (by decide)
    have hr4 : Room 4 _ := hr.mono (by decide)
    have hu := hr.units
    refine ⟨_, pss_cons (ps_set (i := 2) scLTs.nd rfl (Or.inl rfl) (pe_call GX hr1 (by rfl) mX kX bX .nil pass0 (pa_cons (pv 1) pa_nil)))
      (pss_cons (ps_if (PW.pt (pw_or (pt_cmpR op_ne (pv 2) (pe_call GL hr1 (by rfl) mL kL bL .nil pass0 (pa_cons (pv 1) pa_nil)) (nomark _))
          (pw_or1 (pt_cmpR (op_neDK (K := K) rfl hu) (pe_call GR hr4 (by rfl) mR kR bR .nil pass0 (pa_cons (pv 2) pa_nil)) (pv 1) (nomark _))))) (pss_one (ps_ret pe_bl)) pss_nil)
      (pss_cons (ps_for PassesOwn.never rfl (pi_range1 (by rfl) mr (pa_cons pe_int pa_nil)) (pg_name (i := 3) scLTs.nd rfl (Or.inl rfl))
        (pss_cons (ps_set (i := 4) scLTs.nd rfl (Or.inl rfl) (pe_call GS hr2 (by rfl) mS kS bS .nil pass0 (pa_cons (pv 0) (pa_cons (pv 2) pa_nil))))
        (pss_one (ps_if (pt_cmpR (op_neDK (K := K) rfl hu) (pe_call GR hr4 (by rfl) mR kR bR .nil pass0 (pa_cons (pv 4) pa_nil)) (pe_call GO hr4 (by rfl) mO kO bO .nil pass0 (pa_cons (pv 4) pa_nil)) (nomark _))
          (pss_one (ps_ret pe_bl)) pss_nil))))
      (pss_one (ps_ret (pe_and (pe_cmp (pc_isN (pe_call GR hr4 (by rfl) mR kR bR .nil pass0 (pa_cons pe_str pa_nil))))
        (pe_one (pe_cmp (pc_isN (pe_call GR hr4 (by rfl) mR kR bR .nil pass0 (pa_cons (pe_op op_add_str (pv 2) pe_str) pa_nil)))))))))), ?_⟩
    obtain ⟨bT, bz⟩ := pt.strs
    have few := pt.few
    obtain ⟨cc, cl⟩ := pt.codes
    have bz' : ∀ z ∈ zs, z.length ≤ 1000 := fun z m => Nat.le_trans (bz z m) (by decide)
    refine ⟨_, rfl, t, T, zs, rfl, ht, by omega, by omega, bz', fun H1 s1 => ?_⟩
    have ht1 := s1 _ _ ht
    refine ⟨_, rfl, _, rfl, t, T, zs, rfl, ht1, by omega, by omega, bz', fun H2 s2 => ⟨rfl, _, rfl, ?_⟩⟩
    rw [decide_eq_true (rfl : V.str (ptext T zs) = V.str (ptext T zs))]
    refine iteF ⟨_, rfl, ptext T zs, rfl, by omega, cc, fun e => ?_, fun a' ts e p H3 s3 np hp => ?_⟩
    · rw [pt.read] at e
      cases e
    have e2 := pt.read.symm.trans e
    have e3 := Option.some.inj e2
    have eT : T = a' := congrArg Prod.fst e3
    have eZ : zs = ts := congrArg Prod.snd e3
    subst eT
    subst eZ
    have ht2 := s3 _ _ (s2 _ _ ht1)
    refine ⟨_, rfl, _, _, dp_pat hp, dp_pat ht2, shaped_tupS pt.all, shaped_tupS pt.all, _, rfl, ?_⟩
    rw [eqv_tupS pt.all]
    refine iteF ?_
    have sH : Same H H3 := (s1.trans s2).trans s3
    refine ⟨_, rfl, by omega, by omega, for_range (lo := 0) (n := 5) (fun i σ H5 => ∃ v3 v4, σ = [some (.ref a), some (.ref t), some (.str (ptext T zs)), v3, v4] ∧ SrcAt H5 a c (m + 15 - 3 * i) ∧ Keep a H H5)
      ⟨none, none, rfl, hs.same sH, Keep.of sH⟩ (fun i σ H5 hi p => ?_) (fun σ H5 p => ?_)⟩
    · obtain ⟨v3, v4, rfl, s5, k5⟩ := p
      have s5' : SrcAt H5 a c (m + 15 - 3 * (i + 1) + 3) := s5.mono (by omega)
      refine ⟨_, rfl, _, rfl, a, c, m + 15 - 3 * (i + 1), ptext T zs, rfl, s5', by omega, cc, fun y H6 ly cy s6 k6 => ?_⟩
      have fin : ∀ H7 : Hp, Same H6 H7 → ∃ v3 v4, [some (V.ref a), some (.ref t), some (.str (ptext T zs)), some (.int (0 + (i : Int))), some (.str y)] = [some (V.ref a), some (.ref t), some (.str (ptext T zs)), v3, v4] ∧ SrcAt H7 a c (m + 15 - 3 * (i + 1)) ∧ Keep a H H7 :=
        fun H7 s7 => ⟨_, _, rfl, s6.same s7, (k5.trans k6).trans (Keep.of s7)⟩
      refine ⟨_, rfl, y, rfl, by omega, cy, fun e7 H7 s7 => ?_, fun a7 t7 e7 p7 H7 s7 np7 hp7 => ?_⟩
      · refine ⟨_, rfl, y, rfl, by omega, cy, fun e8 H8 s8 => ?_, fun a8 t8 e8 p8 H8 s8 np8 hp8 => ?_⟩
        · refine ⟨_, _, .non, .non, by decide, by decide, _, rfl, ?_⟩
          rw [show PyData.eqv .none .none = true by decide]
          exact iteF (fin H8 (s7.trans s8))
        · rw [e7] at e8
          cases e8
      · refine ⟨_, rfl, y, rfl, by omega, cy, fun e8 H8 s8 => ?_, fun a8 t8 e8 p8 H8 s8 np8 hp8 => ?_⟩
        · rw [e7] at e8
          cases e8
        · have e9 := Option.some.inj (e7.symm.trans e8)
          have eA : a7 = a8 := congrArg Prod.fst e9
          have eZ : t7 = t8 := congrArg Prod.snd e9
          subst eA
          subst eZ
          have all := rd_codes e7 cy
          refine ⟨_, _, dp_pat (s8 _ _ hp7), dp_pat hp8, shaped_tupS all, shaped_tupS all, _, rfl, ?_⟩
          rw [eqv_tupS all]
          exact iteF (fin H8 (s7.trans s8))
    · obtain ⟨v3, v4, rfl, s5, k5⟩ := p
      have lem : (Str.ofString "").length = 0 := by decide +kernel
      have lsp : (Str.ofString " ").length = 1 := by decide +kernel
      refine ⟨Str.ofString "", rfl, by rw [lem]; omega, by decide +kernel, fun e6 H6 s6 => ?_, fun a6 t6 e6 _ _ _ _ _ => ?_⟩
      · refine ⟨_, rfl, iteT ?_⟩
        refine ⟨_, rfl, _, _, rfl, rfl, by rw [lsp, sizeLine_eq]; omega, ptext T zs ++ Str.ofString " ", rfl, by rw [len_app, lsp]; omega, fun x hx => ?_, fun e7 H7 s7 => ?_, fun a7 t7 e7 _ _ _ _ _ => ?_⟩
        · rw [tl_append] at hx
          rcases List.mem_append.mp hx with hx | hx
          · exact cc x hx
          · rw [show tl (Str.ofString " ") = [32] by decide +kernel] at hx
            rw [List.mem_singleton.mp hx]
            decide
        · exact k H7 ((s5.mono (by omega)).same (s6.trans s7)) (k5.trans (Keep.of (s6.trans s7)))
        · rw [pt.read_sp] at e7
          cases e7
      · rw [read_empty] at e6
        cases e6
end
end L2.LawH
set_option Elab.async false
set_option linter.all false
set_option maxRecDepth 100000
set_option maxHeartbeats 4000000
/-! _law_fills. -/
namespace L2.LawH
open PySem PySem.Spec PyProof.Rows L2.Cmp L2.TxtSet TL
abbrev sLFi : Stmt := top 32
/-- a dict from variables to texts -/
def Mp (kvs : List (Key × V)) : Prop := ∀ z v, valV kvs (Sum.inr z) = some v → isV z = true ∧ ∃ y : Str, v = .str y ∧ ∀ c ∈ tl y, c < 0x110000
def GoodP (p : Key × V) : Prop := ∃ z y : Str, p.1 = Sum.inr z ∧ isV z = true ∧ p.2 = .str y ∧ ∀ c ∈ tl y, c < 0x110000
theorem mp_nil : Mp [] := fun z v h => by cases h
theorem mp_merge : ∀ (more acc : List (Key × V)), (∀ p ∈ more, GoodP p) → Mp acc → Mp (mergeK acc more)
  | [], acc, _, h => h
  | p :: r, acc, hg, h => by
    refine mp_merge r (putK acc p.1 p.2) (fun q m => hg q (List.mem_cons_of_mem _ m)) fun z v e => ?_
    rw [valV_put] at e
    obtain ⟨z', y, e1, e2, e3, e4⟩ := hg p List.mem_cons_self
    by_cases hz : (Sum.inr z : Key) = p.1
    · rw [if_pos hz] at e
      rw [e1] at hz
      have ez : z = z' := Sum.inr.inj hz
      rw [ez]
      exact ⟨e2, y, by rw [← Option.some.inj e]; exact e3, e4⟩
    · rw [if_neg hz] at e
      exact h z v e
def fillS (kvs : List (Key × V)) (z : Str) : Str := match valV kvs (Sum.inr z) with
  | some (.str y) => y
  | _ => z
theorem fill_str {kvs : List (Key × V)} (h : Mp kvs) (z : Str) : fillV kvs z = .str (fillS kvs z) := by
  unfold fillV fillS
  cases e : valV kvs (Sum.inr z) with
  | none => rfl
  | some v =>
    obtain ⟨_, y, rfl, _⟩ := h z v e
    rfl
theorem fill_map {kvs : List (Key × V)} (h : Mp kvs) (zs : List Str) : zs.map (fillV kvs) = (zs.map (fillS kvs)).map V.str := by
  rw [List.map_map]
  exact List.map_congr_left fun z _ => fill_str h z
theorem fill_tab {kvs : List (Key × V)} (h : Mp kvs) {T : Str} (n : Nm T) : fillS kvs T = T := by
  unfold fillS
  cases e : valV kvs (Sum.inr T) with
  | none => rfl
  | some v =>
    have hv := (h T v e).1
    have := nmB_var hv
    rw [n] at this
    cases this
theorem fill_codes {kvs : List (Key × V)} (h : Mp kvs) {z : Str} (hz : ∀ c ∈ tl z, c < 0x110000) : ∀ c ∈ tl (fillS kvs z), c < 0x110000 := by
  unfold fillS
  cases e : valV kvs (Sum.inr z) with
  | none => exact hz
  | some v =>
    obtain ⟨_, y, rfl, hy⟩ := h z v e
    exact hy
theorem isV_vr {z : Str} (h : Vr z) : isV z = true := by
  obtain ⟨y, _, rfl⟩ := h
  exact isV_q y
theorem codes_tm {z : Str} (h : Nm z ∨ Vr z) : ∀ c ∈ tl z, c < 0x110000 := fun c hc => Nat.lt_trans (chr_tm h c hc).2.2 (by decide)
theorem good {z y : Str} (hz : isV z = true) (hy : Nm y ∨ Vr y) : GoodP (Sum.inr z, V.str y) := ⟨z, y, rfl, hz, rfl, codes_tm hy⟩
def spLFi : Sp := fun vs H Q _ => ∃ (p t a : Addr) (π : Pool) (T : Str) (zs : List Str), vs = [.ref p, .ref t] ∧ PoolAt a H p π ∧ H t = some (.tup (.str T :: zs.map V.str)) ∧ PatG T zs ∧
  ∀ H', Same H H' → Q (.bl true) H'
theorem same_two {H : Hp} {p : Addr} {o o' : HO} (n : H p = none) : Same H (upd (upd H p o) p o') := fun b u e => by
  rw [upd_ne (ne_of_none e n), upd_ne (ne_of_none e n)]
  exact e
section
variable {P : Program} {w : World} {K : PySem.W.Frag} {mg : Str → Option Value} {base : Heap}
abbrev nLFi : List Str := ["_law_pool_here", "_law_pattern_here", "_law_one", "_law_two", "_law_three", "_law_several", "_law_known", "_law_term_here"]
theorem scLFi : FnScope nLFi ["_law_pool_here", "_law_pattern_here"] (defScope sLFi) := ⟨rfl, rfl, rfl, by decide +kernel, rfl, by decide +kernel, by decide +kernel⟩
theorem ok_LFi {f fF : Addr} {fd fdF : FuncData} (F : Fun K "_law_fills" "_law_fills" sLFi f fd)
    (GF : FnOk P w K mg base CX0 1 fF fdF ["pattern", "known"] spFil) (kF : PySem.W.keepIn K (.ref fF) = true) (bF : Binds K fdF ["pattern", "known"] []) (mF : mg "filled" = some (.ref fF))
    (mt : mg "tuple" = none) :
    FnOk P w K mg base CX0 2 f fd ["_law_pool_here", "_law_pattern_here"] spLFi := by
  refine F.ok scLFi (fun vs H Q E h => ?_) (fun cdv A outer s H vs Q E hr h => ?_)
  · obtain ⟨p, t, a, π, T, zs, rfl, _⟩ := h
    rfl
  · obtain ⟨p, t, a, π, T, zs, rfl, hp, ht, pt, k⟩ := h
    have hr1 : Room 1 _ := hr.mono (by decide)
    have hu := hr.units
    have hu1 := hu_of hr
    refine ⟨_, pss_cons (ps_asg (pe_slice sl_list (pe_ix ix_list (pv 0) pe_int (fun _ _ => rfl)) po_none (po_some pe_int)) (pg_unl rfl (pgs_cons (pg_name (i := 2) scLFi.nd rfl (.inl rfl)) (pgs_cons (pg_name (i := 3) scLFi.nd rfl (.inl rfl)) (pgs_cons (pg_name (i := 4) scLFi.nd rfl (.inl rfl)) pgs_nil)))))
      (pss_cons (ps_set (i := 5) scLFi.nd rfl (Or.inl rfl) (pe_lst (pa_cons
          (pe_disp (pps_cons (pv 2) (pe_ix ix_list (pe_ix ix_list (pv 0) pe_int (fun _ _ => rfl)) pe_int (fun _ _ => rfl)) (pps_cons (pv 3) (pv 4) (pps_cons pe_str (pe_ix ix_list (pe_ix ix_list (pv 0) pe_int (fun _ _ => rfl)) pe_int (fun _ _ => rfl)) pps_nil))) rfl rfl (by simp) (by decide)) (pa_cons
          (pe_disp (pps_cons (pv 2) (pv 3) (pps_cons (pv 3) (pv 2) pps_nil)) rfl rfl (by simp) (by decide)) (pa_cons
          (pe_disp (pps_cons (pv 2) (pv 3) (pps_cons (pv 3) (pe_ix ix_list (pe_ix ix_list (pv 0) pe_int (fun _ _ => rfl)) pe_int (fun _ _ => rfl)) pps_nil)) rfl rfl (by simp) (by decide)) (pa_cons
          pe_dnewK pa_nil))))))
      (pss_cons (ps_for PassesOwn.never rfl (pi_list (pe_op op_cat (pv 5) (pe_lst (pa_cons (pe_disp (pps_cons (pv 3) (pv 4) (pps_cons (pv 4) (pv 2) (pps_cons (pv 2) (pv 2) pps_nil))) rfl rfl (by simp) (by decide)) pa_nil)))) (pg_name (i := 6) scLFi.nd rfl (Or.inr rfl))
        (pss_one (ps_if (pt_cmpR (op_neDK (K := K) rfl hu) (pe_call GF hr1 (by rfl) mF kF bF .nil pass0 (pa_cons (pv 1) (pa_cons (pv 6) pa_nil)))
          (pe_callTy call_tuple_of (by rfl) mt (by decide +kernel) (pa_cons (pe_op op_cat (pe_lst (pa_cons (pe_ix ix_tup (pv 1) pe_int (fun _ _ => rfl)) pa_nil))
            (pe_lc (own := [("_law_term_here", 7)]) (g := gName 7) (tt := tYes) rfl scLFi.nd (pi_tup (pe_slice sl_tup (pv 1) (po_some pe_int) po_none))
              (blkOk_by (own := [("_law_term_here", 7)]) (N := nLFi) (sc := defScope sLFi) (by decide +kernel)) (fun _ _ _ _ _ => pg_name (i := 7) scLFi.nd rfl (Or.inl rfl)) (fun _ _ _ _ _ => pts_nil)
              (fun _ _ _ _ _ => pe_dget2 hu1 (pv 6) (pv 7) (pv 7) ⟨rfl, rfl, rfl, rfl⟩))) pa_nil)) (nomark _)) (pss_one (ps_ret pe_bl)) pss_nil)))
      (pss_one (ps_ret pe_bl)))), ?_⟩
    -- the variables
    obtain ⟨w1, w2, w3, wr, eW⟩ : ∃ w1 w2 w3 wr, π.W = w1 :: w2 :: w3 :: wr := by
      have := hp.W9
      match hW : π.W with
      | [] => rw [hW] at this; cases this
      | [_] => rw [hW] at this; cases this
      | [_, _] => rw [hW] at this; cases this
      | w1 :: w2 :: w3 :: wr => exact ⟨w1, w2, w3, wr, rfl⟩
    have v1 : Vr w1 := hp.nW w1 (by rw [eW]; simp)
    have v2 : Vr w2 := hp.nW w2 (by rw [eW]; simp)
    have v3 : Vr w3 := hp.nW w3 (by rw [eW]; simp)
    have hl : 3 ≤ (π.W.map V.str).length := by rw [List.length_map, hp.W9]; decide
    refine ⟨_, rfl, p, _, 2, _, rfl, rfl, SqL.of hp.hp, rfl, _, rfl, π.vs, _, rfl, SqL.of hp.hv, fun q nq => ?_⟩
    have eC : cutV (π.W.map V.str) none (some 3) = [.str w1, .str w2, .str w3] := by
      have e := HT.sIx_nat (π.W.map V.str).length (π.W.map V.str).length 3
      rw [show (some ((3 : Nat) : Int)) = some (3 : Int) from rfl, Nat.min_eq_left hl] at e
      unfold cutV
      rw [e, HT.sIx_none, eW]
      rfl
    rw [eC]
    have sA : Same H (upd H q (.lst [.str w1, .str w2, .str w3])) := same_new nq
    refine ⟨q, _, rfl, SqL.of upd_same, rfl, _, _, rfl, _, _, rfl, _, _, rfl, rfl, ?_⟩
    have hpA := hp.keep (Keep.of (a := a) sA)
    have htA := sA _ _ ht
    generalize upd H q (.lst [.str w1, .str w2, .str w3]) = HA at sA hpA htA
    have i0 : 0 < π.C.length := by have := hp.C2; omega
    have i1 : 1 < π.C.length := by have := hp.C2; omega
    have m0 := hp.nC _ (List.getElem_mem i0)
    have m1 := hp.nC _ (List.getElem_mem i1)
    have vz : Vr (Str.ofString "?zz") := ⟨Str.ofString "zz", (by show nmB (Str.ofString "zz").cps.toList = true; decide +kernel), by decide +kernel⟩
    -- the first one
    refine fun d1 n1 => ⟨_, rfl, _, rfl, p, _, 1, _, rfl, rfl, SqL.of (hpA.keep (Keep.of (a := a) (same_new n1))).hp, rfl, π.cs, _, 0, _, rfl, rfl, SqL.of (hpA.keep (Keep.of (a := a) (same_new n1))).hc, atI_nat (j := 0) (strs_get i0), ?_⟩
    refine ⟨_, rfl, _, rfl, _, rfl, p, _, 1, _, rfl, rfl, SqL.of (hpA.keep (Keep.of (a := a) (same_new n1))).hp, rfl, π.cs, _, 1, _, rfl, rfl, SqL.of (hpA.keep (Keep.of (a := a) (same_new n1))).hc, atI_nat (j := 1) (strs_get i1), ?_⟩
    refine ⟨upd_same, [(Sum.inr w1, .str π.C[0]), (Sum.inr w2, .str w3), (Sum.inr (Str.ofString "?zz"), .str π.C[1])], rfl, by simp, ?_⟩
    have g1 : Mp (mergeK [] [(Sum.inr w1, .str π.C[0]), (Sum.inr w2, .str w3), (Sum.inr (Str.ofString "?zz"), .str π.C[1])]) := mp_merge _ _ (fun x m => by
      simp only [List.mem_cons, List.not_mem_nil, or_false] at m
      rcases m with rfl | rfl | rfl
      · exact good (isV_vr v1) (.inl m0)
      · exact good (isV_vr v2) (.inr v3)
      · exact good (isV_vr vz) (.inl m1)) mp_nil
    generalize mergeK [] [(Sum.inr w1, V.str π.C[0]), (Sum.inr w2, .str w3), (Sum.inr (Str.ofString "?zz"), .str π.C[1])] = K1 at g1 ⊢
    have sB : Same HA (upd (upd HA d1 (.dK [])) d1 (.dK K1)) := same_two n1
    have b1 : (upd (upd HA d1 (.dK [])) d1 (.dK K1)) d1 = some (.dK K1) := upd_same
    have hpB := hpA.keep (Keep.of (a := a) sB)
    generalize upd (upd HA d1 (.dK [])) d1 (.dK K1) = HB at sB b1 hpB ⊢
    -- the second one
    refine fun d2 n2 => ⟨_, rfl, _, rfl, _, rfl, _, rfl, ?_⟩
    refine ⟨upd_same, [(Sum.inr w1, .str w2), (Sum.inr w2, .str w1)], rfl, by simp, ?_⟩
    have g2 : Mp (mergeK [] [(Sum.inr w1, .str w2), (Sum.inr w2, .str w1)]) := mp_merge _ _ (fun x m => by
      simp only [List.mem_cons, List.not_mem_nil, or_false] at m
      rcases m with rfl | rfl
      · exact good (isV_vr v1) (.inr v2)
      · exact good (isV_vr v2) (.inr v1)) mp_nil
    generalize mergeK [] [(Sum.inr w1, V.str w2), (Sum.inr w2, .str w1)] = K2 at g2 ⊢
    have sC : Same HB (upd (upd HB d2 (.dK [])) d2 (.dK K2)) := same_two n2
    have b2 : (upd (upd HB d2 (.dK [])) d2 (.dK K2)) d2 = some (.dK K2) := upd_same
    have hpC := hpB.keep (Keep.of (a := a) sC)
    generalize upd (upd HB d2 (.dK [])) d2 (.dK K2) = HC at sC b2 hpC ⊢
    -- the third one
    refine fun d3 n3 => ⟨_, rfl, _, rfl, _, rfl, _, rfl, p, _, 1, _, rfl, rfl, SqL.of (hpC.keep (Keep.of (a := a) (same_new n3))).hp, rfl, π.cs, _, 0, _, rfl, rfl, SqL.of (hpC.keep (Keep.of (a := a) (same_new n3))).hc, atI_nat (j := 0) (strs_get i0), ?_⟩
    refine ⟨upd_same, [(Sum.inr w1, .str w2), (Sum.inr w2, .str π.C[0])], rfl, by simp, ?_⟩
    have g3 : Mp (mergeK [] [(Sum.inr w1, .str w2), (Sum.inr w2, .str π.C[0])]) := mp_merge _ _ (fun x m => by
      simp only [List.mem_cons, List.not_mem_nil, or_false] at m
      rcases m with rfl | rfl
      · exact good (isV_vr v1) (.inr v2)
      · exact good (isV_vr v2) (.inl m0)) mp_nil
    generalize mergeK [] [(Sum.inr w1, V.str w2), (Sum.inr w2, .str π.C[0])] = K3 at g3 ⊢
    have sD : Same HC (upd (upd HC d3 (.dK [])) d3 (.dK K3)) := same_two n3
    have b3 : (upd (upd HC d3 (.dK [])) d3 (.dK K3)) d3 = some (.dK K3) := upd_same
    generalize upd (upd HC d3 (.dK [])) d3 (.dK K3) = HD at sD b3 ⊢
    -- the fourth one
    refine fun d4 n4 => ⟨by show 4 ≤ sizeLine; decide, fun l5 n5 => ?_⟩
    have sE : Same HD (upd HD d4 (.dK [])) := same_new n4
    have b4 : (upd HD d4 (.dK [])) d4 = some (.dK []) := upd_same
    generalize upd HD d4 (.dK []) = HE at sE b4 n5 ⊢
    have sF : Same HE (upd HE l5 (.lst [.ref d1, .ref d2, .ref d3, .ref d4])) := same_new n5
    have b5 : (upd HE l5 (.lst [.ref d1, .ref d2, .ref d3, .ref d4])) l5 = some (.lst [.ref d1, .ref d2, .ref d3, .ref d4]) := upd_same
    generalize upd HE l5 (.lst [.ref d1, .ref d2, .ref d3, .ref d4]) = HF at sF b5 ⊢
    -- the fifth one
    refine ⟨_, rfl, fun d5 m5 => ⟨_, rfl, _, rfl, _, rfl, _, rfl, _, rfl, _, rfl, ?_⟩⟩
    refine ⟨upd_same, [(Sum.inr w2, .str w3), (Sum.inr w3, .str w1), (Sum.inr w1, .str w1)], rfl, by simp, ?_⟩
    have g5 : Mp (mergeK [] [(Sum.inr w2, .str w3), (Sum.inr w3, .str w1), (Sum.inr w1, .str w1)]) := mp_merge _ _ (fun x m => by
      simp only [List.mem_cons, List.not_mem_nil, or_false] at m
      rcases m with rfl | rfl | rfl
      · exact good (isV_vr v2) (.inr v3)
      · exact good (isV_vr v3) (.inr v1)
      · exact good (isV_vr v1) (.inr v1)) mp_nil
    generalize mergeK [] [(Sum.inr w2, V.str w3), (Sum.inr w3, .str w1), (Sum.inr w1, .str w1)] = K5 at g5 ⊢
    have sG : Same HF (upd (upd HF d5 (.dK [])) d5 (.dK K5)) := same_two m5
    have b6 : (upd (upd HF d5 (.dK [])) d5 (.dK K5)) d5 = some (.dK K5) := upd_same
    generalize upd (upd HF d5 (.dK [])) d5 (.dK K5) = HG at sG b6 ⊢
    refine ⟨by show 1 ≤ sizeLine; decide, fun l6 n6 => ?_⟩
    have sI : Same HG (upd HG l6 (.lst [.ref d5])) := same_new n6
    refine ⟨l5, l6, _, _, rfl, rfl, sI _ _ (sG _ _ b5), upd_same, by show 5 ≤ sizeLine; decide, fun l7 n7 => ?_⟩
    generalize upd HG l6 (.lst [.ref d5]) = HI at sI n7 ⊢
    have sJ : Same HI (upd HI l7 (.lst ([.ref d1, .ref d2, .ref d3, .ref d4] ++ [.ref d5]))) := same_new n7
    have b7 : (upd HI l7 (.lst ([.ref d1, .ref d2, .ref d3, .ref d4] ++ [.ref d5]))) l7 = some (.lst ([d1, d2, d3, d4, d5].map V.ref)) := upd_same
    generalize upd HI l7 (.lst ([.ref d1, .ref d2, .ref d3, .ref d4] ++ [.ref d5])) = HJ at sJ b7 ⊢
    have sFJ : Same HF HJ := (sG.trans sI).trans sJ
    have sEJ := sF.trans sFJ
    have sDJ := sE.trans sEJ
    have sCJ := sD.trans sDJ
    have sBJ := sC.trans sCJ
    have sAJ := sB.trans sBJ
    have hD : ∀ d ∈ [d1, d2, d3, d4, d5], ∃ kvs, HJ d = some (.dK kvs) ∧ Mp kvs := by
      intro d m
      simp only [List.mem_cons, List.not_mem_nil, or_false] at m
      rcases m with rfl | rfl | rfl | rfl | rfl
      · exact ⟨K1, sBJ _ _ b1, g1⟩
      · exact ⟨K2, sCJ _ _ b2, g2⟩
      · exact ⟨K3, sDJ _ _ b3, g3⟩
      · exact ⟨[], sEJ _ _ b4, mp_nil⟩
      · exact ⟨K5, sJ _ _ (sI _ _ b6), g5⟩
    have htJ := sAJ _ _ htA
    have few := pt.few
    refine ⟨l7, rfl, ⟨_, SqL.of b7⟩, for_list (xs := [d1, d2, d3, d4, d5].map V.ref) (fun i σ H5 => ∃ v6 v7, σ = [some (.ref p), some (.ref t), some (.str w1), some (.str w2), some (.str w3), some (.ref l5), v6, v7] ∧ Same HJ H5)
      ⟨none, none, rfl, Same.refl _⟩ (fun i σ H5 hi p => ?_) (fun i x σ H5 hx p => ?_) (fun σ H5 p => ?_)⟩
    · obtain ⟨_, _, _, s5⟩ := p
      exact SqL.of (s5 _ _ b7)
    · obtain ⟨v6, v7, rfl, s5⟩ := p
      rw [List.getElem?_map] at hx
      obtain ⟨d, hd, rfl⟩ := Option.map_eq_some_iff.mp hx
      obtain ⟨kvs, hk, mp⟩ := hD d (List.mem_of_getElem? hd)
      have ht5 := s5 _ _ htJ
      refine ⟨_, rfl, _, rfl, t, d, T :: zs, kvs, rfl, ht5, s5 _ _ hk, by rw [List.length_cons]; omega, fun u H6 s6 nu hu6 => ?_⟩
      rw [fill_map mp, List.map_cons, fill_tab mp pt.nT] at hu6
      have ht6 := s6 _ _ ht5
      refine ⟨_, rfl, t, _, 0, _, rfl, rfl, SqT.of ht6, atI_nat (j := 0) rfl, by show 1 ≤ sizeLine; decide, fun la na => ?_⟩
      have s7 : Same H6 (upd H6 la (.lst [.str T])) := same_new na
      have c7 : (upd H6 la (.lst [.str T])) la = some (.lst [.str T]) := upd_same
      generalize upd H6 la (.lst [.str T]) = H7 at s7 c7 ⊢
      have ht7 := s7 _ _ ht6
      refine ⟨_, rfl, _, rfl, t, _, rfl, SqT.of ht7, cut_part _ _, fun lb nb => ⟨lb, rfl, ⟨_, SqT.of upd_same⟩, fun D nD => ?_⟩⟩
      rw [cut_one] at nD ⊢
      have s8 : Same H7 (upd H7 lb (.tup (zs.map V.str))) := same_new nb
      have c8 : (upd H7 lb (.tup (zs.map V.str))) lb = some (.tup (zs.map V.str)) := upd_same
      generalize upd H7 lb (.tup (zs.map V.str)) = H8 at s8 c8 nD ⊢
      have hk8 := s8 _ _ (s7 _ _ (s6 _ _ (s5 _ _ hk)))
      have bD : lb ≠ D := fun e => by
        rw [e, nD] at c8
        cases c8
      refine lc_tup (K := K) (a := lb) (xs := zs.map V.str) (fun j H9 => Same H8 H9 ∧ H9 D = some (.lst (((zs.take j).map (fillS kvs)).map V.str)))
        ⟨same_new nD, upd_same⟩ (fun j H9 _ p => SqT.of (p.1 _ _ c8)) (fun j x H9 hx p => ?_) (fun H9 p => ?_)
      · obtain ⟨p1, p3⟩ := p
        rw [List.getElem?_map] at hx
        obtain ⟨z, hz, rfl⟩ := Option.map_eq_some_iff.mp hx
        refine ⟨rfl, ?_⟩
        dsimp only [tYes]
        rw [if_pos rfl]
        refine ⟨_, rfl, d, rfl, .inl ⟨kvs, .inl (p1 _ _ hk8)⟩, _, rfl, _, rfl, _, DGet.k (k := Sum.inr z) (p1 _ _ hk8), _, p3, ?_, fun b o e => ?_, ?_⟩
        · rw [List.length_map, List.length_map, List.length_take, sizeLine_eq]
          omega
        · rw [upd_ne (ne_of_none e nD)]
          exact p1 _ _ e
        · rw [upd_same, List.take_add_one, hz]
          have ef := fill_str mp z
          unfold fillV at ef
          rw [ef]
          simp
      · obtain ⟨p1, p3⟩ := p
        rw [List.length_map, List.take_length] at p3
        refine ⟨la, D, _, _, rfl, rfl, p1 _ _ (s8 _ _ c7), p3, by rw [List.length_singleton, List.length_map, List.length_map, sizeLine_eq]; omega, fun lc nc => ?_⟩
        refine ⟨lc, _, rfl, .inl ⟨SqL.of upd_same, fun r nr => ?_⟩⟩
        have s10 : Same H9 (upd H9 lc (.lst ([.str T] ++ (zs.map (fillS kvs)).map V.str))) := same_new nc
        generalize upd H9 lc (.lst ([.str T] ++ (zs.map (fillS kvs)).map V.str)) = H10 at s10 nr ⊢
        have s11 : Same H10 (upd H10 r (.tup ([.str T] ++ (zs.map (fillS kvs)).map V.str))) := same_new nr
        have c11 : (upd H10 r (.tup ([.str T] ++ (zs.map (fillS kvs)).map V.str))) r = some (.tup (.str T :: (zs.map (fillS kvs)).map V.str)) := upd_same
        generalize upd H10 r (.tup ([.str T] ++ (zs.map (fillS kvs)).map V.str)) = H11 at s11 c11 ⊢
        have s611 : Same H6 H11 := (((s7.trans s8).trans p1).trans s10).trans s11
        have all : ∀ z ∈ T :: zs.map (fillS kvs), ∀ c ∈ tl z, c < 0x110000 := by
          intro y m
          rcases List.mem_cons.mp m with rfl | m
          · exact pt.all y List.mem_cons_self
          · obtain ⟨z, mz, rfl⟩ := List.mem_map.mp m
            exact fill_codes mp (pt.all z (List.mem_cons_of_mem _ mz))
        refine ⟨_, _, dp_pat (s611 _ _ hu6), dp_pat c11, shaped_tupS all, shaped_tupS all, _, rfl, ?_⟩
        rw [eqv_tupS all]
        exact iteF ⟨_, _, rfl, (s5.trans s6).trans s611⟩
    · obtain ⟨v6, v7, rfl, s5⟩ := p
      exact k H5 ((sA.trans sAJ).trans s5)
end
end L2.LawH
set_option Elab.async false
set_option linter.all false
set_option maxRecDepth 100000
set_option maxHeartbeats 4000000
/-! Calls by keywords alone; _law_by_name. -/
namespace L2.LawH
open PySem PySem.Spec PyProof.Rows L2.Cmp L2.TxtSet TL
abbrev sLBN : Stmt := top 33
section
variable {X : Cx} {CX : CXT} {k : Nat} {f : Addr} {fd : FuncData} {ps ks : List Str} {sp : Sp} {E : XK} {x : Str} {p pos : Pos} {kws : List Keyword} {tk : TA} {g : List Value → List Value → List Value} {gV : List V → List V → List V}
/-- f(k = v, ..) -/
theorem pe_callK0 (F : FnOk X.prog X.w X.K X.mg X.base CX k f fd ps sp) (hr : Room k X.A) (hg : Gl X x) (hm : X.mg x = some (.ref f)) (hk : PySem.W.keepIn X.K (.ref f) = true) (hb : KBn X.K fd ps 0 ks g gV) (hx : Passes CX X E) (hkw : PK X kws tk)
    (hall : (backToKw pos (keywordEach kws X.env)).all (·.1.isSome) = true := by rfl) (hks : (backToKw pos (keywordEach kws X.env)).filterMap (·.1) = ks := by rfl) (hdb : (x == ("__debug__" : Str)) = false := by decide)
    (hpl : ((backTo pos (starEach [] X.env)).any (·.1) || (backToKw pos (keywordEach kws X.env)).any (·.1.isNone)) = false := by rfl) :
    PE X (.Call (.Name x p) [] kws pos) (tCallN 0 ks.length sp gV E tNil tk) := by
  refine ⟨fun pins s σ H Q I h => ?_⟩
  refine wpAny_Call_Name_kw (ld_glob I hg hm ?_ hdb)
  refine PySem.W.callWith_KW0 (h₀ := X.base) I.ok.mod.kin hk hall ?_ hpl
  refine thn (hkw.run pos pins s σ H _ I h) fun ws s2 ⟨zs, H2, I2, rz, l1, l2, q2⟩ => ⟨I2.kIn, ?_⟩
  rw [hks]
  exact run_fnN (us := []) (vs := []) F hr hb hx I2 .nil rz rfl l2 q2
end
section
variable {K : PySem.W.Frag} {x qual : Str} {st : Stmt} {f : Addr} {fd : FuncData}
theorem Fun.kb1 (F : Fun K x qual st f fd) {p : Str} (h : ∀ (kV doc pm : Value) (an : Option Addr) (cdv ct : Value) (u : Value), bindArgs (PySem.W.fnOf x qual (defArgs st) (defBody st) (defScope st) .none kV doc pm an cdv ct) ⟨[], [(p, u)]⟩ = pure [(p, u)]) :
    KBn K fd [p] 0 [p] (fun _ ws => ws) (fun _ zs => zs) := by
  obtain ⟨oc, od, kV, doc, pm, an, cdv, ct, osl, rfl, lk, hcd⟩ := F.ex
  refine ⟨fun s us ws _ l1 l2 => ?_, fun _ r => r⟩
  match us, l1, ws, l2 with
  | [], _, [u], _ => exact .of_eq (h kV doc pm an cdv ct u)
theorem Fun.kb2 (F : Fun K x qual st f fd) {p q : Str} (h : ∀ (kV doc pm : Value) (an : Option Addr) (cdv ct : Value) (u v : Value), bindArgs (PySem.W.fnOf x qual (defArgs st) (defBody st) (defScope st) .none kV doc pm an cdv ct) ⟨[], [(q, u), (p, v)]⟩ = pure [(p, v), (q, u)]) :
    KBn K fd [p, q] 0 [q, p] (fun _ ws => ws.reverse) (fun _ zs => zs.reverse) := by
  obtain ⟨oc, od, kV, doc, pm, an, cdv, ct, osl, rfl, lk, hcd⟩ := F.ex
  refine ⟨fun s us ws _ l1 l2 => ?_, fun _ r => r.reverse⟩
  match us, l1, ws, l2 with
  | [], _, [u, v], _ => exact .of_eq (h kV doc pm an cdv ct u v)
end
abbrev g1 : List Value → List Value → List Value := fun _ ws => ws
abbrev v1 : List V → List V → List V := fun _ zs => zs
abbrev g2 : List Value → List Value → List Value := fun _ ws => ws.reverse
abbrev v2 : List V → List V → List V := fun _ zs => zs.reverse
theorem nm_pos {z : Str} (h : Nm z) : 1 ≤ z.length := by
  have l := length_toList z
  have h : nmB z.cps.toList = true := h
  cases e : z.cps.toList with
  | nil =>
    rw [e] at h
    cases h
  | cons c r =>
    rw [e, List.length_cons] at l
    omega
theorem one_of {z : Str} (h : Nm z ∨ Vr z) : 1 ≤ z.length := by
  rcases h with h | ⟨y, ny, rfl⟩
  · exact nm_pos h
  · have l := nm_pos ny
    have e : (Str.ofString "?" ++ y).length = (Str.ofString "?").length + y.length := by
      show (Str.ofString "?" ++ y).cps.size = _
      rw [Str.cps_append, Array.size_append]
      rfl
    omega
theorem codes_ok {zs : List Str} (h : ∀ z ∈ zs, ∀ c ∈ tl z, c < 0x110000) : ∀ z ∈ zs, PyData.strOk z = true := fun z m => ok_list (h z m)
theorem eqv_lstS {zs : List Str} (h : ∀ z ∈ zs, ∀ c ∈ tl z, c < 0x110000) : PyData.eqv (.list (zs.map PyData.str)) (.list (zs.map PyData.str)) = true :=
  SeqAt.eqv_refl _ (SeqAt.canLay_of_shaped (shaped_strs (codes_ok h)))
theorem dp_lstS {K : PySem.W.Frag} {H : Hp} {t : Addr} {zs : List Str} (h : H t = some (.lst (zs.map V.str))) : Dp K H (.ref t) (.list (zs.map PyData.str)) := .lst (SqL.of h) (dp_strs zs)
theorem uniq_codes {zs ys : List Str} (h : ∀ z ∈ zs, ∀ c ∈ tl z, c < 0x110000) (p : ys.Perm (uniq (zs.filter isV))) : ∀ z ∈ ys, ∀ c ∈ tl z, c < 0x110000 := fun z m =>
  h z (List.mem_filter.mp (uniq_mem.mp (p.mem_iff.mp m))).1
def spLBN : Sp := fun vs H Q _ => ∃ (t : Addr) (T : Str) (zs : List Str), vs = [.ref t] ∧ H t = some (.tup (.str T :: zs.map V.str)) ∧ PatG T zs ∧ ∀ H', Same H H' → Q (.bl true) H'
theorem vV_nm {T : Str} (h : Nm T) : vV (.str T) = false := by
  show varB T = false
  unfold varB
  cases e : isV T with
  | false => rfl
  | true =>
    have := nmB_var e
    rw [h] at this
    cases this
theorem map_fill_nil (zs : List Str) : zs.map (fillV []) = zs.map V.str := List.map_congr_left fun z _ => rfl
section
variable {P : Program} {w : World} {K : PySem.W.Frag} {mg : Str → Option Value} {base : Heap}
theorem scLBN : FnScope ["_law_pattern_here"] ["_law_pattern_here"] (defScope sLBN) := ⟨rfl, rfl, rfl, by decide +kernel, rfl, by decide +kernel, by decide +kernel⟩
theorem ok_LBN {f fN fV fP fF fVs fFi fR fX : Addr} {fd fdN fdV fdP fdF fdVs fdFi fdR fdX : FuncData} (F : Fun K "_law_by_name" "_law_by_name" sLBN f fd)
    (GN : FnOk P w K mg base CX0 1 fN fdN ["value"] (spIsN K)) (kN : PySem.W.keepIn K (.ref fN) = true) (bN : KBn K fdN ["value"] 0 ["value"] g1 v1) (mN : mg "is_name" = some (.ref fN))
    (GV : FnOk P w K mg base CX0 2 fV fdV ["value"] (spIsVr K)) (kV : PySem.W.keepIn K (.ref fV) = true) (bV : KBn K fdV ["value"] 0 ["value"] g1 v1) (mV : mg "is_variable" = some (.ref fV))
    (GP : FnOk P w K mg base CX0 3 fP fdP ["value"] (spIsP K patB)) (kP : PySem.W.keepIn K (.ref fP) = true) (bP : KBn K fdP ["value"] 0 ["value"] g1 v1) (mP : mg "is_pattern" = some (.ref fP))
    (GF : FnOk P w K mg base CX0 4 fF fdF ["value"] (spIsP K factB)) (kF : PySem.W.keepIn K (.ref fF) = true) (bF : KBn K fdF ["value"] 0 ["value"] g1 v1) (mF : mg "is_fact" = some (.ref fF))
    (GVs : FnOk P w K mg base CX0 2 fVs fdVs ["lot"] spVars) (kVs : PySem.W.keepIn K (.ref fVs) = true) (bVs : KBn K fdVs ["lot"] 0 ["lot"] g1 v1) (cVs : Binds K fdVs ["lot"] []) (mVs : mg "variables_of" = some (.ref fVs))
    (GFi : FnOk P w K mg base CX0 1 fFi fdFi ["pattern", "known"] spFil) (kFi : PySem.W.keepIn K (.ref fFi) = true) (bFi : KBn K fdFi ["pattern", "known"] 0 ["known", "pattern"] g2 v2) (mFi : mg "filled" = some (.ref fFi))
    (GR : FnOk P w K mg base CX0 4 fR fdR ["text"] spRd) (kR : PySem.W.keepIn K (.ref fR) = true) (bR : KBn K fdR ["text"] 0 ["text"] g1 v1) (mR : mg "read_pattern" = some (.ref fR))
    (GX : FnOk P w K mg base CX0 1 fX fdX ["pattern"] spPtx) (kX : PySem.W.keepIn K (.ref fX) = true) (bX : KBn K fdX ["pattern"] 0 ["pattern"] g1 v1) (mX : mg "pattern_text" = some (.ref fX)) :
    FnOk P w K mg base CX0 5 f fd ["_law_pattern_here"] spLBN := by
  refine F.ok scLBN (fun vs H Q E h => ?_) (fun cdv A outer s H vs Q E hr h => ?_)
  · obtain ⟨t, T, zs, rfl, _⟩ := h
    rfl
  · obtain ⟨t, T, zs, rfl, ht, pt, k⟩ := h
    have hr1 : Room 1 _ := hr.mono (by decide)
    have hr2 : Room 2 _ := hr.mono (by decide)
    have hr3 : Room 3 _ := hr.mono (by decide)
    have hr4 : Room 4 _ := hr.mono (by decide)
    have hu := hr.units
    refine ⟨_, pss_cons (ps_if (pt_cmpR (op_neDK (K := K) rfl hu) (pe_lst (pa_cons (pe_callK0 GN hr1 (by rfl) mN kN bN pass0 (pk_cons (pe_ix ix_tup (pv 0) pe_int (fun _ _ => rfl)) pk_nil))
          (pa_cons (pe_callK0 GV hr2 (by rfl) mV kV bV pass0 (pk_cons (pe_ix ix_tup (pv 0) pe_int (fun _ _ => rfl)) pk_nil)) (pa_cons (pe_callK0 GP hr3 (by rfl) mP kP bP pass0 (pk_cons (pv 0) pk_nil)) pa_nil))))
        (pe_lst (pa_cons pe_bl (pa_cons pe_bl (pa_cons pe_bl pa_nil)))) (nomark _)) (pss_one (ps_ret pe_bl)) pss_nil)
      (pss_cons (ps_if (PW.pt (pw_or (pt_cmpR (op_neDK (K := K) rfl hu) (pe_callK0 GVs hr2 (by rfl) mVs kVs bVs pass0 (pk_cons (pe_lst (pa_cons (pv 0) pa_nil)) pk_nil))
            (pe_call GVs hr2 (by rfl) mVs kVs cVs .nil pass0 (pa_cons (pe_lst (pa_cons (pv 0) pa_nil)) pa_nil)) (nomark _))
          (pw_or1 (pt_cmpR (op_neDK (K := K) rfl hu) (pe_callK0 GFi hr1 (by rfl) mFi kFi bFi pass0 (pk_cons pe_dnewK (pk_cons (pv 0) pk_nil))) (pv 0) (nomark _))))) (pss_one (ps_ret pe_bl)) pss_nil)
      (pss_one (ps_ret (pe_and (pe_cmpR (op_eqD hu) (pe_callK0 GR hr4 (by rfl) mR kR bR pass0 (pk_cons (pe_callK0 GX hr1 (by rfl) mX kX bX pass0 (pk_cons (pv 0) pk_nil)) pk_nil)) (pv 0) (nomark _))
        (pe_one (pe_callK0 GF hr4 (by rfl) mF kF bF pass0 (pk_cons (pe_tup (pa_cons pe_str pa_nil)) pk_nil))))))), ?_⟩
    obtain ⟨bT, bz⟩ := pt.strs
    have few := pt.few
    obtain ⟨cc, cl⟩ := pt.codes
    have bz' : ∀ z ∈ zs, z.length ≤ 1000 := fun z m => Nat.le_trans (bz z m) (by decide)
    have okT : Okv K H (.str T) := .inl ⟨T, rfl, by omega⟩
    have eN : vN (.str T) = true := pt.nT
    have eV : vV (.str T) = false := vV_nm pt.nT
    have eP := pt.pat
    have okp : ∀ y ∈ (V.str T :: zs.map V.str), Okv K H y := fun y m => by
      rcases List.mem_cons.mp m with rfl | m
      · exact okT
      · obtain ⟨z, mz, rfl⟩ := List.mem_map.mp m
        exact .inl ⟨z, rfl, Nat.le_trans (bz z mz) (by decide)⟩
    have lp : (V.str T :: zs.map V.str).length ≤ 100000 := by
      rw [List.length_cons, List.length_map]
      omega
    refine ⟨_, rfl, t, _, 0, _, rfl, rfl, SqT.of ht, atI_nat (j := 0) rfl, rfl, rfl, ?_⟩
    refine isN_of (K := K) (E := E0) okT fun H1 s1 => ?_
    refine ⟨_, rfl, t, _, 0, _, rfl, rfl, SqT.of (s1 _ _ ht), atI_nat (j := 0) rfl, rfl, rfl, ?_⟩
    refine ⟨_, rfl, okT.same s1, fun H2 s2 => ?_⟩
    have ht2 := s2 _ _ (s1 _ _ ht)
    refine ⟨_, rfl, rfl, rfl, _, rfl, .inl ⟨t, _, rfl, ht2, lp, fun y m => (okp y m).same (s1.trans s2), fun H3 s3 => ?_⟩⟩
    refine ⟨by show 3 ≤ sizeLine; decide, fun l1 n1 => ⟨by show 3 ≤ sizeLine; decide, fun l2 n2 => ?_⟩⟩
    have s4 := same_new (o := .lst [V.bl (vN (.str T)), .bl (vV (.str T)), .bl (patB (.str T :: zs.map V.str))]) n1
    have c4 : (upd H3 l1 (.lst [V.bl (vN (.str T)), .bl (vV (.str T)), .bl (patB (.str T :: zs.map V.str))])) l1 = _ := upd_same
    refine ⟨.list [.bool (vN (.str T)), .bool (vV (.str T)), .bool (patB (.str T :: zs.map V.str))], .list [.bool true, .bool false, .bool true],
      .lst (SqL.of ((same_new n2) _ _ c4)) (.cons (.bl _) (.cons (.bl _) (.cons (.bl _) .nil))), .lst (SqL.of upd_same) (.cons (.bl _) (.cons (.bl _) (.cons (.bl _) .nil))), by rw [eN, eV, eP]; decide, by decide, _, rfl, ?_⟩
    have ev : PyData.eqv (.list [.bool (vN (.str T)), .bool (vV (.str T)), .bool (patB (.str T :: zs.map V.str))]) (.list [.bool true, .bool false, .bool true]) = true := by
      rw [eN, eV, eP]
      decide
    rw [ev]
    refine iteF ?_
    generalize hH5 : upd (upd H3 l1 _) l2 _ = H5
    have s5 : Same H H5 := by
      rw [← hH5]
      exact (((s1.trans s2).trans s3).trans (same_new n1)).trans (same_new n2)
    have ht5 := s5 _ _ ht
    -- the variables
    have lot : ∀ (q : Addr) (H' : Hp), Same H H' → H' q = some (.lst [.ref t]) → LotAt H' q [(t, T, zs)] := fun q H' sm hq => ⟨.inl hq, fun x m => by
      rw [List.mem_singleton.mp m]
      exact sm _ _ ht⟩
    have shp : ∀ x ∈ [(t, T, zs)], ∀ z ∈ x.2.2, 1 ≤ z.length ∧ z.length ≤ 100 := fun x m z mz => by
      rw [List.mem_singleton.mp m] at mz
      exact ⟨one_of (pt.each z mz), Nat.le_trans (bz z mz) (by decide)⟩
    have fr : frees [(t, T, zs)] = zs.filter isV := by
      unfold frees
      simp
    have lf : (frees [(t, T, zs)]).length ≤ 60 := by
      rw [fr]
      exact Nat.le_trans (List.length_filter_le _ _) (by omega)
    refine ⟨_, rfl, by show 1 ≤ sizeLine; decide, fun l3 n3 => ⟨rfl, rfl, l3, [(t, T, zs)], rfl, lot l3 _ (s5.trans (same_new n3)) upd_same, shp, lf, fun p1 ys H6 s6 np1 pm1 so1 hp1 => ?_⟩⟩
    have s6' : Same H H6 := (s5.trans (same_new n3)).trans s6
    refine ⟨_, rfl, by show 1 ≤ sizeLine; decide, fun l4 n4 => ⟨l4, [(t, T, zs)], rfl, lot l4 _ (s6'.trans (same_new n4)) upd_same, shp, lf, fun p2 ys2 H7 s7 np2 pm2 so2 hp2 => ?_⟩⟩
    have s7' : Same H6 H7 := (same_new n4).trans s7
    have ey : ys = ys2 := asc_eq so1 so2 pm1 pm2
    subst ey
    rw [fr] at pm1
    have cy : ∀ z ∈ ys, ∀ c ∈ tl z, c < 0x110000 := uniq_codes (fun z m => pt.all z (List.mem_cons_of_mem _ m)) pm1
    refine ⟨_, _, dp_lstS (s7' _ _ hp1), dp_lstS hp2, shaped_strs (codes_ok cy), shaped_strs (codes_ok cy), _, rfl, ?_⟩
    rw [eqv_lstS cy]
    refine iteF ?_
    have sH7 : Same H H7 := s6'.trans s7'
    -- filled
    refine fun d nd => ⟨_, rfl, rfl, rfl, t, d, T :: zs, [], rfl, (same_new nd) _ _ (sH7 _ _ ht), upd_same, by rw [List.length_cons]; omega, fun u H8 s8 nu hu8 => ?_⟩
    have s8' : Same H H8 := (sH7.trans (same_new nd)).trans s8
    rw [map_fill_nil, List.map_cons] at hu8
    refine ⟨_, rfl, _, _, dp_pat hu8, dp_pat (s8' _ _ ht), shaped_tupS pt.all, shaped_tupS pt.all, _, rfl, ?_⟩
    rw [eqv_tupS pt.all]
    refine iteF ?_
    -- read again
    refine ⟨_, rfl, rfl, rfl, t, T, zs, rfl, s8' _ _ ht, by omega, by omega, bz', fun H9 s9 => ⟨rfl, rfl, ptext T zs, rfl, by omega, cc, fun e => ?_, fun a' ts e p3 H10 s10 np3 hp3 => ?_⟩⟩
    · rw [pt.read] at e
      cases e
    have e2 := pt.read.symm.trans e
    have e3 := Option.some.inj e2
    have eT : T = a' := congrArg Prod.fst e3
    have eZ : zs = ts := congrArg Prod.snd e3
    subst eT
    subst eZ
    have s10' : Same H H10 := (s8'.trans s9).trans s10
    refine ⟨_, rfl, _, _, dp_pat hp3, dp_pat (s10' _ _ ht), shaped_tupS pt.all, shaped_tupS pt.all, _, rfl, ?_⟩
    rw [eqv_tupS pt.all, if_pos rfl]
    refine ⟨by show 1 ≤ sizeLine; decide, fun ta nta => ⟨rfl, rfl, _, rfl, .inl ⟨ta, _, rfl, upd_same, by show 1 ≤ 100000; decide, fun y m => ?_, fun H11 s11 => ?_⟩⟩⟩
    · rw [List.mem_singleton.mp m]
      exact .inl ⟨_, rfl, by decide +kernel⟩
    · have q := k H11 ((s10'.trans (same_new nta)).trans s11)
      have e : factB [V.str (Str.ofString "a")] = true := by decide +kernel
      rw [e]
      exact q
end
end L2.LawH
set_option Elab.async false
set_option linter.all false
set_option maxRecDepth 100000
set_option maxHeartbeats 4000000
/-! Tuples put together and repeated, whatever their length. -/
namespace L2.LawH
open PySem PySem.Spec PyProof.Rows L2.Cmp L2.TxtSet TL
def rCatB : R2 := fun x y H Q => ∃ a b xs ys, x = .ref a ∧ y = .ref b ∧ H a = some (.tup xs) ∧ H b = some (.tup ys) ∧ xs.length + ys.length ≤ sizeLine ∧
  ∀ (p : Addr) (H' : Hp), Same H H' → H' p = some (.tup (xs ++ ys)) → (p = a ∨ p = b ∨ H p = none) → Q (.ref p) H'
theorem op_catB {X : Cx} : OpR X (binaryOp .Add) rCatB := by
  intro pins s σ H x y v u Q I rx ry h
  obtain ⟨a, b, xs, ys, rfl, rfl, ha, hb, hz, q⟩ := h
  refine op_catA pins s σ H _ _ v u Q I rx ry ⟨a, b, xs, ys, rfl, rfl, SqT.of ha, SqT.of hb, hz, fun e => ?_, fun _ e => ?_, fun _ _ p np => ?_⟩
  · subst e
    exact q b H (Same.refl H) hb (.inr (.inl rfl))
  · subst e
    exact q a H (Same.refl H) (by rw [List.append_nil]; exact ha) (.inl rfl)
  · exact q p _ (same_new np) upd_same (.inr (.inr np))
open AutoSeq1 (wpAny_loadPart')
theorem tuple_mul1 (l : Addr) (items : Array Value) (n : Nat) (dd : Option Addr) (sl : Array (Option Value)) (u : Tok) :
    Meets (Builtin.«tuple.__mul__» ⟨[.ref l, .int 1 u], []⟩) (fun _ R s => s.heap.get? l = some { cls := .type "tuple", dict := dd, data := .seq items n, slots := sl } ∧ R (.ok (.ret (Value.ref l))) s) :=
  .of_wp fun prog w A R s h => by
    obtain ⟨hp, g, d, tk, os⟩ := s
    obtain ⟨hl, h⟩ := h
    have f1 := AutoSeq1.idx_int
    wp_walk using wpAny_loadPart' hl
    exact ⟨_, rfl, h⟩
theorem tuple_mul0 (l : Addr) (items : Array Value) (n : Nat) (dd : Option Addr) (sl : Array (Option Value)) (u : Tok) (hi : items.isEmpty = false) :
    Meets (Builtin.«tuple.__mul__» ⟨[.ref l, .int 0 u], []⟩) (fun _ R s => s.heap.get? l = some { cls := .type "tuple", dict := dd, data := .seq items n, slots := sl } ∧
      R (.ok (.ret (Value.ref s.heap.objs.size))) { s with heap := s.heap.push { cls := Value.type "tuple", data := Data.seq #[] }, toks := s.toks }) :=
  .of_wp fun prog w A R s h => by
    obtain ⟨hp, g, d, tk, os⟩ := s
    obtain ⟨hl, h⟩ := h
    have f1 := AutoSeq1.idx_int
    wp_walk using wpAny_loadPart' hl
    repeat (first
      | (refine wpAny_ite_false (decide_eq_false (by rw [hi]; decide)) ?_; wp_walk using wpAny_loadPart' hl)
      | (refine wpAny_ite_true (decide_eq_true (by decide)) ?_; wp_walk using wpAny_loadPart' hl))
    exact ⟨_, rfl, h⟩
/-- t * k, t not empty -/
def rRepB : R2 := fun x y H Q => ∃ l k xs, x = .ref l ∧ y = .int k ∧ H l = some (.tup xs) ∧ xs ≠ [] ∧ 0 ≤ k ∧ k ≤ 1000 ∧ xs.length ≤ 1000 ∧
  ∀ (p : Addr) (H' : Hp), Same H H' → H' p = some (.tup (List.replicate k.toNat xs).flatten) → (p = l ∨ H p = none) → Q (.ref p) H'
theorem op_repB {X : Cx} : OpR X (binaryOp .Mult) rRepB := by
  intro pins s σ H x y v u Q I rx ry h
  obtain ⟨l, k, xs, rfl, rfl, hl, hne, h0, h1, hz, q⟩ := h
  by_cases h2 : 2 ≤ k
  · exact op_repT pins s σ H _ _ v u Q I rx ry ⟨l, k, xs, rfl, rfl, SqT.of hl, hne, h2, h1, hz, fun p np => q p _ (same_new np) upd_same (.inr np)⟩
  cases rx
  obtain ⟨t, rfl⟩ := ry
  obtain ⟨its, r, ⟨⟨cls, dd, data, sl⟩, ho, hc, n, hd⟩, hs⟩ := I.tuple (SqT.of hl)
  simp only at hc hd
  subst hc hd
  have hi : its.toArray.isEmpty = false := by
    cases its with
    | nil =>
      cases r
      exact absurd rfl hne
    | cons a b => rfl
  by_cases hk : k = 0
  · subst hk
    refine wpAny_binaryOp_repeat_ref (T := "tuple") (U := "int") (by decide) ⟨_, ho, rfl⟩ (fun s' => typeIs_int s' 0 t) noFill_tuple_mul F.fills_int_mul F.slot_int_rmul repeat_tuple F.slot_int_index.lookup
      (call_meets F.slot_int_rmul (typeIs_int s 0 t) F.entry_int_rmul (F.args_int_rmul_2 _ _) (int_rmul_tuple 0 t l its.toArray n dd sl)
        ⟨ho, rfl, ⟨_, ho, rfl⟩, call_meets F.slot_tuple_mul ⟨_, ho, rfl⟩ F.entry_tuple_mul (F.args_tuple_mul_2 _ _) (tuple_mul0 l its.toArray n dd sl t hi) ⟨ho, ?_⟩⟩)
    have np := I.hok.fresh (Nat.le_refl s.heap.objs.size)
    refine ⟨.ref s.heap.objs.size, _, I.laid (t' := s.toks) (o := .tup []) (fun b ob q => Heap.get?_push_of_some _ q) (Nat.le_refl _) ?_, rfl, q _ _ (same_new np) upd_same (.inr np)⟩
    exact ⟨Nat.zero_le _, [], .nil, IsTup.new _ _⟩
  · have : k = 1 := by omega
    subst this
    refine wpAny_binaryOp_repeat_ref (T := "tuple") (U := "int") (by decide) ⟨_, ho, rfl⟩ (fun s' => typeIs_int s' 1 t) noFill_tuple_mul F.fills_int_mul F.slot_int_rmul repeat_tuple F.slot_int_index.lookup
      (call_meets F.slot_int_rmul (typeIs_int s 1 t) F.entry_int_rmul (F.args_int_rmul_2 _ _) (int_rmul_tuple 1 t l its.toArray n dd sl)
        ⟨ho, rfl, ⟨_, ho, rfl⟩, call_meets F.slot_tuple_mul ⟨_, ho, rfl⟩ F.entry_tuple_mul (F.args_tuple_mul_2 _ _) (tuple_mul1 l its.toArray n dd sl t) ⟨ho, ?_⟩⟩)
    refine ⟨.ref l, H, I, rfl, q l H (Same.refl H) ?_ (.inl rfl)⟩
    have e : (List.replicate (1 : Int).toNat xs).flatten = xs := by
      show (List.replicate 1 xs).flatten = xs
      simp
    rw [e]
    exact hl
end L2.LawH
set_option Elab.async false
set_option linter.all false
set_option maxRecDepth 100000
set_option maxHeartbeats 4000000
/-! _law_told, _law_due. -/
namespace L2.LawH
open PySem PySem.Spec PyProof.Rows L2.Cmp L2.TxtSet TL
abbrev sTold : Stmt := top 26
abbrev sDue : Stmt := top 27
def ansV (x : V) (o : Option (List V)) : List V := [.bl (vN x), .bl (vV x), .bl (pAns o), .bl (fAns o)]
def spTold (K : PySem.W.Frag) : Sp := fun vs H Q _ => ∃ (x : V) (o : Option (List V)), vs = [x] ∧ Ask K H x o ∧ ∀ (p : Addr) (H' : Hp), Same H H' → H p = none → H' p = some (.lst (ansV x o)) → Q (.ref p) H'
theorem isP_of {K : PySem.W.Frag} {H : Hp} {x : V} {o : Option (List V)} {f : List V → Bool} {Q : VK} {E : XK} (h : Ask K H x o) (k : ∀ H', Same H H' → Q (.bl (match o with | none => false | some xs => f xs)) H') : spIsP K f [x] H Q E := by
  refine ⟨x, rfl, ?_⟩
  cases o with
  | none => exact .inr ⟨h.2, k⟩
  | some xs =>
    obtain ⟨t, rfl, ht, l, i⟩ := h
    exact .inl ⟨t, xs, rfl, ht, by omega, fun y m => (i y m).1.okv, k⟩
section
variable {P : Program} {w : World} {K : PySem.W.Frag} {mg : Str → Option Value} {base : Heap}
theorem scTold : FnScope ["_law_value"] ["_law_value"] (defScope sTold) := ⟨rfl, rfl, rfl, by decide +kernel, rfl, by decide +kernel, by decide +kernel⟩
theorem ok_told {f fN fV fP fF : Addr} {fd fdN fdV fdP fdF : FuncData} (F : Fun K "_law_told" "_law_told" sTold f fd)
    (GN : FnOk P w K mg base CX0 1 fN fdN ["value"] (spIsN K)) (kN : PySem.W.keepIn K (.ref fN) = true) (bN : Binds K fdN ["value"] []) (mN : mg "is_name" = some (.ref fN))
    (GV : FnOk P w K mg base CX0 2 fV fdV ["value"] (spIsVr K)) (kV : PySem.W.keepIn K (.ref fV) = true) (bV : Binds K fdV ["value"] []) (mV : mg "is_variable" = some (.ref fV))
    (GP : FnOk P w K mg base CX0 3 fP fdP ["value"] (spIsP K patB)) (kP : PySem.W.keepIn K (.ref fP) = true) (bP : Binds K fdP ["value"] []) (mP : mg "is_pattern" = some (.ref fP))
    (GF : FnOk P w K mg base CX0 4 fF fdF ["value"] (spIsP K factB)) (kF : PySem.W.keepIn K (.ref fF) = true) (bF : Binds K fdF ["value"] []) (mF : mg "is_fact" = some (.ref fF)) :
    FnOk P w K mg base CX0 5 f fd ["_law_value"] (spTold K) := by
  refine F.ok scTold (fun vs H Q E h => ?_) (fun cdv A outer s H vs Q E hr h => ?_)
  · obtain ⟨x, o, rfl, _⟩ := h
    rfl
  · obtain ⟨x, o, rfl, ask, k⟩ := h
    have hr1 : Room 1 _ := hr.mono (by decide)
    have hr2 : Room 2 _ := hr.mono (by decide)
    have hr3 : Room 3 _ := hr.mono (by decide)
    have hr4 : Room 4 _ := hr.mono (by decide)
    refine ⟨_, pss_one (ps_ret (pe_lst (pa_cons (pe_call GN hr1 (by rfl) mN kN bN .nil pass0 (pa_cons (pv 0) pa_nil)) (pa_cons (pe_call GV hr2 (by rfl) mV kV bV .nil pass0 (pa_cons (pv 0) pa_nil))
      (pa_cons (pe_call GP hr3 (by rfl) mP kP bP .nil pass0 (pa_cons (pv 0) pa_nil)) (pa_cons (pe_call GF hr4 (by rfl) mF kF bF .nil pass0 (pa_cons (pv 0) pa_nil)) pa_nil)))))), ?_⟩
    refine ⟨_, rfl, ?_⟩
    dsimp only [tNil, List.cons_append, List.nil_append]
    refine isN_of (K := K) (E := E0) ask.okl.okv fun H1 s1 => ⟨_, rfl, _, rfl, ask.okl.okv.same s1, fun H2 s2 => ⟨_, rfl, ?_⟩⟩
    have s2' := s1.trans s2
    dsimp only [tNil, List.cons_append, List.nil_append]
    refine isP_of (K := K) (E := E0) (ask.same s2') fun H3 s3 => ⟨_, rfl, ?_⟩
    have s3' := s2'.trans s3
    dsimp only [tNil, List.cons_append, List.nil_append]
    refine isP_of (K := K) (E := E0) (ask.same s3') fun H4 s4 => ⟨by show 4 ≤ sizeLine; decide, fun p np => ?_⟩
    have s4' := s3'.trans s4
    refine k p _ (s4'.trans (same_new np)) ?_ ?_
    · cases e : H p with
      | none => rfl
      | some o =>
        rw [s4' p o e] at np
        cases np
    · rw [upd_same]
      cases o <;> rfl
theorem scDue : FnScope ["_law_value", "_law_name_here", "_law_variable"] ["_law_value"] (defScope sDue) := ⟨rfl, rfl, rfl, by decide +kernel, rfl, by decide +kernel, by decide +kernel⟩
theorem ok_due {f fN fP : Addr} {fd fdN fdP : FuncData} (F : Fun K "_law_due" "_law_due" sDue f fd)
    (GN : FnOk P w K mg base CX0 1 fN fdN ["_law_value"] (spLIN K)) (kN : PySem.W.keepIn K (.ref fN) = true) (bN : Binds K fdN ["_law_value"] []) (mN : mg "_law_is_name" = some (.ref fN))
    (GP : FnOk P w K mg base CX0 3 fP fdP ["_law_value", "_law_open_too"] (spLIP K)) (kP : PySem.W.keepIn K (.ref fP) = true) (bP : Binds K fdP ["_law_value", "_law_open_too"] []) (mP : mg "_law_is_pattern" = some (.ref fP))
    (mi : mg "isinstance" = none) (mst : mg "str" = none) :
    FnOk P w K mg base CX0 4 f fd ["_law_value"] (spTold K) := by
  refine F.ok scDue (fun vs H Q E h => ?_) (fun cdv A outer s H vs Q E hr h => ?_)
  · obtain ⟨x, o, rfl, _⟩ := h
    rfl
  · obtain ⟨x, o, rfl, ask, k⟩ := h
    have hr1 : Room 1 _ := hr.mono (by decide)
    have hr3 : Room 3 _ := hr.mono (by decide)
    refine ⟨_, pss_cons (ps_set (i := 1) scDue.nd rfl (Or.inl rfl) (pe_call GN hr1 (by rfl) mN kN bN .nil pass0 (pa_cons (pv 0) pa_nil)))
      (pss_cons (ps_set (i := 2) scDue.nd rfl (Or.inl rfl) (pe_and (pe_callB call_isi (by rfl) mi (by decide +kernel) (pa_cons (pv 0) (pa_cons (pe_bltn (v := .ty "str") (by rfl) mst (by decide +kernel) rfl) pa_nil)))
        (pe_and (pe_cmpR op_eq (pe_slice sl_str (pv 0) po_none (po_some pe_int)) pe_str (nomark _)) (pe_one (pe_call GN hr1 (by rfl) mN kN bN .nil pass0 (pa_cons (pe_slice sl_str (pv 0) (po_some pe_int) po_none) pa_nil))))))
      (pss_one (ps_ret (pe_lst (pa_cons (pv 1) (pa_cons (pv 2) (pa_cons (pe_call GP hr3 (by rfl) mP kP bP .nil pass0 (pa_cons (pv 0) (pa_cons pe_bl pa_nil)))
        (pa_cons (pe_call GP hr3 (by rfl) mP kP bP .nil pass0 (pa_cons (pv 0) (pa_cons pe_bl pa_nil))) pa_nil)))))))), ?_⟩
    refine ⟨_, rfl, ?_⟩
    dsimp only [tNil, List.cons_append, List.nil_append]
    refine lin_of (K := K) (E := E0) ask.okl fun H1 s1 => ?_
    have o1 := ask.okl.same s1
    rcases o1 with ⟨z, rfl, lz, cs⟩ | ⟨⟨n, ty, kb⟩, no⟩
    · refine ⟨_, rfl, _, .ty "str", _, _, true, rfl, .ty "str", .base (.str z), kit_ty (by decide +kernel), _, rfl, ?_⟩
      refine iteT ⟨_, rfl, _, rfl, z, rfl, by rw [sizeLine_eq]; omega, rfl, _, rfl, ?_⟩
      have ed : decide (V.str (cutS z none (some 1)) = V.str (Str.ofString "?")) = isV z := by
        rw [← first_sign]
        exact decide_eq_decide.mpr ⟨fun e => V.str.inj e, fun e => by rw [e]⟩
      rw [ed]
      cases hv : isV z with
      | true =>
        refine iteT ⟨_, rfl, _, rfl, z, rfl, by rw [sizeLine_eq]; omega, ?_⟩
        dsimp only [tNil, List.cons_append, List.nil_append]
        refine lin_of (K := K) (E := E0) (.inl ⟨_, rfl, Nat.le_trans (cutS_length z (some 1) none) lz, fun c m => ?_⟩) fun H2 s2 => ?_
        · rw [cut_tail] at m
          exact cs c (List.mem_of_mem_drop m)
        have sm := s1.trans s2
        refine ⟨_, rfl, _, rfl, _, rfl, _, true, o, rfl, ask.same sm, fun H6 s6 => ?_⟩
        have sm6 := sm.trans s6
        refine ⟨_, rfl, _, false, o, rfl, ask.same sm6, fun H7 s7 => ⟨by show 4 ≤ sizeLine; decide, fun p np => ?_⟩⟩
        have sm7 := sm6.trans s7
        refine k p _ (sm7.trans (same_new np)) ?_ ?_
        · cases e : H p with
          | none => rfl
          | some o =>
            rw [sm7 p o e] at np
            cases np
        · rw [upd_same]
          have e : vV (.str z) = vN (.str (cutS z (some 1) none)) := by
            show (isV z && nmB (z.cps.toList.drop 1)) = nmB (cutS z (some 1) none).cps.toList
            rw [hv, cut_tail, Bool.true_and]
          unfold ansV
          rw [e]
          rfl
      | false =>
        refine iteF ?_
        have sm := s1
        refine ⟨_, rfl, _, rfl, _, rfl, _, true, o, rfl, ask.same sm, fun H6 s6 => ?_⟩
        have sm6 := sm.trans s6
        refine ⟨_, rfl, _, false, o, rfl, ask.same sm6, fun H7 s7 => ⟨by show 4 ≤ sizeLine; decide, fun p np => ?_⟩⟩
        have sm7 := sm6.trans s7
        refine k p _ (sm7.trans (same_new np)) ?_ ?_
        · cases e : H p with
          | none => rfl
          | some o =>
            rw [sm7 p o e] at np
            cases np
        · rw [upd_same]
          have e : vV (.str z) = false := by
            show (isV z && nmB (z.cps.toList.drop 1)) = false
            rw [hv, Bool.false_and]
          unfold ansV
          rw [e]
          rfl
    · refine ⟨_, rfl, _, .ty "str", _, _, false, rfl, .ty "str", ty, kit_ty kb, _, rfl, ?_⟩
      refine iteF ?_
      have sm := s1
      refine ⟨_, rfl, _, rfl, _, rfl, _, true, o, rfl, ask.same sm, fun H6 s6 => ?_⟩
      have sm6 := sm.trans s6
      refine ⟨_, rfl, _, false, o, rfl, ask.same sm6, fun H7 s7 => ⟨by show 4 ≤ sizeLine; decide, fun p np => ?_⟩⟩
      have sm7 := sm6.trans s7
      refine k p _ (sm7.trans (same_new np)) ?_ ?_
      · cases e : H p with
        | none => rfl
        | some o =>
          rw [sm7 p o e] at np
          cases np
      · rw [upd_same]
        have e : vV x = false := by
          cases x with
          | str z => exact absurd rfl (no z)
          | _ => rfl
        unfold ansV
        rw [e]
        rfl
end
end L2.LawH
set_option Elab.async false
set_option linter.all false
set_option maxRecDepth 100000
set_option maxHeartbeats 4000000
/-! Values of all kinds, away from the source. -/
namespace L2.LawH
open PySem PySem.Spec PyProof.Rows L2.Cmp L2.TxtSet TL
open Classical in
/-- a heap without what stands where p holds -/
noncomputable def Ex (p : Addr → Prop) (H : Hp) : Hp := fun b => if p b then none else H b
theorem ex_at {p : Addr → Prop} {b : Addr} {H : Hp} (n : ¬ p b) : Ex p H b = H b := by
  unfold Ex
  exact if_neg n
theorem ex_some {p : Addr → Prop} {b : Addr} {H : Hp} {o : HO} (e : Ex p H b = some o) : ¬ p b ∧ H b = some o := by
  unfold Ex at e
  by_cases n : p b
  · rw [if_pos n] at e
    cases e
  · rw [if_neg n] at e
    exact ⟨n, e⟩
/-- changes at places that are left out -/
theorem ex_same {p q : Addr → Prop} {H H' : Hp} (i : ∀ b, q b → p b) (k : ∀ b o, H b = some o → ¬ q b → H' b = some o) : Same (Ex p H) (Ex q H') := fun b o e => by
  obtain ⟨n, e⟩ := ex_some e
  have nq : ¬ q b := fun z => n (i b z)
  rw [ex_at nq]
  exact k b o e nq
theorem ex_keep {p : Addr → Prop} {a : Addr} {H H' : Hp} (k : Keep a H H') (pa : p a) : Same (Ex p H) (Ex p H') :=
  ex_same (fun _ z => z) fun b o e n => k b o e fun z => n (z ▸ pa)
/-- what stood before, but for the pattern -/
def Pr (H0 : Hp) (t : Addr) : Addr → Prop := fun b => H0 b ≠ none ∧ b ≠ t
theorem pr_new {H0 : Hp} {t b : Addr} (h : b = t ∨ H0 b = none) : ¬ Pr H0 t b := fun ⟨x, y⟩ => h.elim y x
theorem src_tup {H : Hp} {a p : Addr} {c : Int} {m : Nat} {xs : List V} (h : SrcAt H a c m) (e : H p = some (HO.tup xs)) : p ≠ a := fun z => by
  obtain ⟨d, n, e2, _⟩ := h
  rw [z, e2] at e
  cases e
/-- a value of any kind, as an item and by itself -/
def Any (K : PySem.W.Frag) (H : Hp) (x : V) : Prop := Itm K H x ∧ ∃ o, Ask K H x o
theorem Any.same {K : PySem.W.Frag} {H H' : Hp} (s : Same H H') {x : V} (h : Any K H x) : Any K H' x := ⟨h.1.same s, let ⟨o, q⟩ := h.2; ⟨o, q.same s⟩⟩
section
variable {K : PySem.W.Frag} {H : Hp}
theorem any_str {y : Str} (l : y.length ≤ 1000) (h : ∀ c ∈ tl y, c < 0x110000) : Any K H (.str y) := by
  have i := itm_str (K := K) (H := H) (y := y) (by omega) h
  exact ⟨i, none, i.1, "str", .base (.str y), by decide +kernel⟩
theorem any_non : Any K H .non := by
  have o : Okl K H .non := .inr ⟨⟨"NoneType", .base .non, by decide +kernel⟩, fun z e => by cases e⟩
  exact ⟨⟨o, .none, .non, by simp [PyData.canLay0], by simp [PyData.depth]⟩, none, o, "NoneType", .base .non, by decide +kernel⟩
theorem any_int (i : Int) : Any K H (.int i) := by
  have o : Okl K H (.int i) := .inr ⟨⟨"int", .base (.int i), by decide +kernel⟩, fun z e => by cases e⟩
  exact ⟨⟨o, .int i, .int i, by simp [PyData.canLay0], by simp [PyData.depth]⟩, none, o, "int", .base (.int i), by decide +kernel⟩
theorem any_bl (b : Bool) : Any K H (.bl b) := by
  have o : Okl K H (.bl b) := .inr ⟨⟨"bool", .base (.bl b), by decide +kernel⟩, fun z e => by cases e⟩
  exact ⟨⟨o, .bool b, .bl b, by simp [PyData.canLay0], by simp [PyData.depth]⟩, none, o, "bool", .base (.bl b), by decide +kernel⟩
theorem any_tup {p : Addr} {y : Str} (e : H p = some (.tup [.str y])) (l : y.length ≤ 1000) (h : ∀ c ∈ tl y, c < 0x110000) : Any K H (.ref p) := by
  have o : Okl K H (.ref p) := .inr ⟨⟨"tuple", .base (.tup e), by decide +kernel⟩, fun z e => by cases e⟩
  have hs : PyData.strOk y = true := ok_list h
  exact ⟨⟨o, .tuple [.str y], .tup (SqT.of e) (.cons (.str y) .nil), by simp [PyData.canLay0, PyData.canLayAll0, hs], by simp [PyData.depth, PyData.depthAll]⟩, some [.str y], p, rfl, e, by simp, fun z m => by
    rw [List.mem_singleton.mp m]
    exact itm_str (by omega) h⟩
theorem any_lst {p : Addr} {y : Str} (e : H p = some (.lst [.str y])) (l : y.length ≤ 1000) (h : ∀ c ∈ tl y, c < 0x110000) : Any K H (.ref p) := by
  have o : Okl K H (.ref p) := .inr ⟨⟨"list", .base (.lst e), by decide +kernel⟩, fun z e => by cases e⟩
  have hs : PyData.strOk y = true := ok_list h
  exact ⟨⟨o, .list [.str y], .lst (SqL.of e) (.cons (.str y) .nil), by simp [PyData.canLay0, PyData.canLayAll0, hs], by simp [PyData.depth, PyData.depthAll]⟩, none, o, "list", .base (.lst e), by decide +kernel⟩
theorem ask_lst {p : Addr} {xs : List V} (e : H p = some (.lst xs)) : Ask K H (.ref p) none :=
  ⟨.inr ⟨⟨"list", .base (.lst e), by decide +kernel⟩, fun z e => by cases e⟩, "list", .base (.lst e), by decide +kernel⟩
theorem ask_dic {p : Addr} {xs : List (Key × V)} (e : H p = some (.dK xs)) : Ask K H (.ref p) none :=
  ⟨.inr ⟨⟨"dict", .base (.dK e), by decide +kernel⟩, fun z e => by cases e⟩, "dict", .base (.dK e), by decide +kernel⟩
end
def oddA : List Str := ["", "A", "1a", "?", "??a", "a b", "a,", "?1", "abcdefghijklm", "?abcdefghijklm", "a\n"]
def oddB : List Str := ["abcdefghijkl", "?abcdefghijkl", "?a9"]
theorem odd_ok : ((oddA ++ oddB).all fun s => decide (s.length ≤ 1000) && (tl s).all fun c => decide (c < 128)) = true := by decide +kernel
def oddW (p q : Addr) : List V := oddA.map V.str ++ ([.non, .int 3, .bl true, .ref p, .ref q] ++ oddB.map V.str)
theorem odd_any {K : PySem.W.Frag} {H : Hp} {p q : Addr} (hp : H p = some (.tup [.str "a"])) (hq : H q = some (.lst [.str "a"])) : ∀ x ∈ oddW p q, Any K H x := by
  intro x m
  have st : ∀ s ∈ oddA ++ oddB, Any K H (.str s) := fun s ms => by
    have := List.all_eq_true.mp odd_ok s ms
    rw [Bool.and_eq_true, decide_eq_true_iff, List.all_eq_true] at this
    exact any_str this.1 fun c hc => Nat.lt_trans (of_decide_eq_true (this.2 c hc)) (by decide)
  have la : (("a" : String) : Str).length ≤ 1000 := by decide +kernel
  have ca : ∀ c ∈ tl (("a" : String) : Str), c < 0x110000 := by decide +kernel
  unfold oddW at m
  rcases List.mem_append.mp m with m | m
  · obtain ⟨s, ms, rfl⟩ := List.mem_map.mp m
    exact st s (List.mem_append_left _ ms)
  · rcases List.mem_append.mp m with m | m
    · simp only [List.mem_cons, List.not_mem_nil, or_false] at m
      rcases m with rfl | rfl | rfl | rfl | rfl
      · exact any_non
      · exact any_int 3
      · exact any_bl true
      · exact any_tup hp la ca
      · exact any_lst hq la ca
    · obtain ⟨s, ms, rfl⟩ := List.mem_map.mp m
      exact st s (List.mem_append_right _ ms)
theorem odd_len (p q : Addr) : (oddW p q).length = 19 := rfl
end L2.LawH
set_option Elab.async false
set_option linter.all false
set_option maxRecDepth 100000
set_option maxHeartbeats 4000000
/-! _law_odd. -/
namespace L2.LawH
open PySem PySem.Spec PyProof.Rows L2.Cmp L2.TxtSet TL
abbrev sOdd : Stmt := top 25
def spOdd (K : PySem.W.Frag) : Sp := fun vs H Q _ => ∃ (a t : Addr) (c : Int) (m : Nat) (T : Str) (zs : List Str), vs = [.ref a, .ref t] ∧ SrcAt H a c (m + 4) ∧ H t = some (.tup (.str T :: zs.map V.str)) ∧ PatG T zs ∧
  ∀ (x : V) (o : Option (List V)) (H' : Hp), Ask K (Ex (Pr H t) H') x o → SrcAt H' a c m → Keep a H H' → Q x H'
theorem cutV_to (xs : List V) (k : Nat) : cutV xs none (some (k : Int)) = xs.take k := by
  unfold cutV
  rw [HT.sIx_nat, HT.sIx_none, List.drop_zero, Nat.sub_zero]
  rcases Nat.le_total k xs.length with h | h
  · rw [Nat.min_eq_left h]
  · rw [Nat.min_eq_right h, List.take_of_length_le (Nat.le_refl _), List.take_of_length_le h]
theorem cutV_from (xs : List V) (k : Nat) : cutV xs (some (k : Int)) none = xs.drop k := by
  unfold cutV
  rw [HT.sIx_nat, HT.sIx_none]
  rcases Nat.le_total k xs.length with h | h
  · rw [Nat.min_eq_left h]
    refine List.take_of_length_le ?_
    rw [List.length_drop]
    omega
  · rw [Nat.min_eq_right h, List.drop_of_length_le h, List.drop_of_length_le (Nat.le_refl _), List.take_nil]
section
variable {P : Program} {w : World} {K : PySem.W.Frag} {mg : Str → Option Value} {base : Heap}
abbrev nOdd : List Str := ["_law_source_here", "_law_pattern_here", "_law_wrong", "_law_strange", "_law_place", "_law_way"]
theorem scOdd : FnScope nOdd ["_law_source_here", "_law_pattern_here"] (defScope sOdd) := ⟨rfl, rfl, rfl, by decide +kernel, rfl, by decide +kernel, by decide +kernel⟩
theorem ok_odd {f fD : Addr} {fd fdD : FuncData} (F : Fun K "_law_odd" "_law_odd" sOdd f fd)
    (GD : FnOk P w K mg base CX0 1 fD fdD ["_law_source_here", "_law_limit"] spDraw) (kD : PySem.W.keepIn K (.ref fD) = true) (bD : Binds K fdD ["_law_source_here", "_law_limit"] []) (mD : mg "_law_draw" = some (.ref fD))
    (ml : mg "len" = none) (mL : mg "list" = none) :
    FnOk P w K mg base CX0 2 f fd ["_law_source_here", "_law_pattern_here"] (spOdd K) := by
  refine F.ok scOdd (fun vs H Q E h => ?_) (fun cdv A outer s H vs Q E hr h => ?_)
  · obtain ⟨a, t, c, m, T, zs, rfl, _⟩ := h
    rfl
  · obtain ⟨a, t, c, m, T, zs, rfl, hs, ht, pt, k⟩ := h
    have hr1 : Room 1 _ := hr.mono (by decide)
    refine ⟨_, pss_cons (ps_set (i := 2) scOdd.nd rfl (Or.inl rfl) (pe_lst (pa_cons pe_str (pa_cons pe_str (pa_cons pe_str (pa_cons pe_str (pa_cons pe_str (pa_cons pe_str (pa_cons pe_str (pa_cons pe_str (pa_cons pe_str (pa_cons pe_str (pa_cons pe_str pa_nil)))))))))))))
      (pss_cons (ps_set (i := 2) scOdd.nd rfl (Or.inl rfl) (pe_op op_cat (pv 2) (pe_lst (pa_cons pe_non (pa_cons pe_int (pa_cons pe_bl (pa_cons (pe_tup (pa_cons pe_str pa_nil)) (pa_cons (pe_lst (pa_cons pe_str pa_nil)) (pa_cons pe_str (pa_cons pe_str (pa_cons pe_str pa_nil)))))))))))
      (pss_cons (ps_set (i := 3) scOdd.nd rfl (Or.inl rfl) (pe_ix ix_list (pv 2) (pe_call GD hr1 (by rfl) mD kD bD .nil pass0 (pa_cons (pv 0) (pa_cons (pe_callB call_len_seq (by rfl) ml (by decide +kernel) (pa_cons (pv 2) pa_nil)) pa_nil))) (fun _ _ => rfl)))
      (pss_cons (ps_set (i := 4) scOdd.nd rfl (Or.inl rfl) (pe_call GD hr1 (by rfl) mD kD bD .nil pass0 (pa_cons (pv 0) (pa_cons (pe_callB call_len_seq (by rfl) ml (by decide +kernel) (pa_cons (pv 1) pa_nil)) pa_nil))))
      (pss_cons (ps_set (i := 5) scOdd.nd rfl (Or.inl rfl) (pe_call GD hr1 (by rfl) mD kD bD .nil pass0 (pa_cons (pv 0) (pa_cons pe_int pa_nil))))
      (pss_cons (ps_if (pt_cmpR op_eq (pv 5) pe_int (nomark _)) (pss_one (ps_ret (pe_callTy call_list_of (by rfl) mL (by decide +kernel) (pa_cons (pv 1) pa_nil)))) pss_nil)
      (pss_cons (ps_if (pt_cmpR op_eq (pv 5) pe_int (nomark _)) (pss_one (ps_ret (pe_op op_catB (pe_op op_catB (pv 1) (pe_op op_repB (pe_tup (pa_cons pe_str pa_nil)) (pe_op op_sub pe_int (pe_callB call_len_seq (by rfl) ml (by decide +kernel) (pa_cons (pv 1) pa_nil))))) (pe_tup (pa_cons (pv 3) pa_nil))))) pss_nil)
      (pss_cons (ps_if (pt_cmpR op_eq (pv 5) pe_int (nomark _)) (pss_one (ps_ret (pe_ix ix_list (pe_lst (pa_cons (pv 3) (pa_cons pe_non (pa_cons (pe_tup pa_nil) (pa_cons pe_str (pa_cons (pe_disp (pps_cons pe_str pe_int pps_nil) rfl rfl (by simp) (by decide)) (pa_cons pe_int (pa_cons pe_bl pa_nil))))))))
          (pe_call GD hr1 (by rfl) mD kD bD .nil pass0 (pa_cons (pv 0) (pa_cons pe_int pa_nil))) (fun _ _ => rfl)))) pss_nil)
      (pss_cons (ps_if (pt_cmpR op_eq (pv 5) pe_int (nomark _)) (pss_one (ps_ret (pe_op op_catB (pe_op op_catB (pe_slice sl_tup (pv 1) po_none (po_some (pv 4))) (pe_tup (pa_cons (pe_op op_add_str pe_str (pe_ix ix_tup (pv 1) pe_int (fun _ _ => rfl))) pa_nil))) (pe_slice sl_tup (pv 1) (po_some (pe_op op_add (pv 4) pe_int)) po_none)))) pss_nil)
      (pss_one (ps_ret (pe_op op_catB (pe_op op_catB (pe_slice sl_tup (pv 1) po_none (po_some (pv 4))) (pe_tup (pa_cons (pv 3) pa_nil))) (pe_slice sl_tup (pv 1) (po_some (pe_op op_add (pv 4) pe_int)) po_none)))))))))))), ?_⟩
    have few := pt.few
    have ta := src_tup hs ht
    have pa : Pr H t a := ⟨hs.some, fun z => ta z.symm⟩
    have lx : (V.str T :: zs.map V.str).length = zs.length + 1 := by rw [List.length_cons, List.length_map]
    -- the wrong ones
    refine ⟨by show 11 ≤ sizeLine; decide, fun l1 n1 => ?_⟩
    have sA : Same H (upd H l1 (.lst (oddA.map V.str))) := same_new n1
    have cA : (upd H l1 (.lst (oddA.map V.str))) l1 = some (.lst (oddA.map V.str)) := upd_same
    refine ⟨_, rfl, by show 1 ≤ sizeLine; decide, fun q1 m1 => ?_⟩
    have m1 : (upd H l1 (.lst (oddA.map V.str))) q1 = none := m1
    refine ⟨by show 1 ≤ sizeLine; decide, fun q2 m2 => ?_⟩
    have m2 : upd (upd H l1 (.lst (oddA.map V.str))) q1 (.tup [.str "a"]) q2 = none := m2
    refine ⟨by show 8 ≤ sizeLine; decide, fun l2 n2 => ?_⟩
    have n2 : upd (upd (upd H l1 (.lst (oddA.map V.str))) q1 (.tup [.str "a"])) q2 (.lst [.str "a"]) l2 = none := n2
    have h2 : ∀ {y : HO}, (upd (upd (upd (upd H l1 (.lst (oddA.map V.str))) q1 (.tup [.str "a"])) q2 (.lst [.str "a"])) l2 y) l1 = some (.lst (oddA.map V.str)) := fun {y} =>
      (same_new n2) _ _ ((same_new m2) _ _ ((same_new m1) _ _ cA))
    refine ⟨l1, l2, _, _, rfl, rfl, h2, upd_same, by show 11 + 8 ≤ sizeLine; decide, fun l3 n3 => ?_⟩
    have zq1 : ¬ Pr H t q1 := pr_new (.inr (sA.free m1))
    have zq2 : ¬ Pr H t q2 := pr_new (.inr ((sA.trans (same_new m1)).free m2))
    generalize hHE : upd _ l3 _ = HE
    have cE : HE l3 = some (.lst (oddW q1 q2)) := by
      rw [← hHE]
      exact upd_same
    have sE : Same H HE := by
      rw [← hHE]
      exact (((sA.trans (same_new m1)).trans (same_new m2)).trans (same_new n2)).trans (same_new n3)
    have e1 : HE q1 = some (.tup [.str "a"]) := by
      rw [← hHE]
      exact (((same_new m2).trans (same_new n2)).trans (same_new n3)) _ _ upd_same
    have e2 : HE q2 = some (.lst [.str "a"]) := by
      rw [← hHE]
      exact ((same_new n2).trans (same_new n3)) _ _ upd_same
    have zl3 : l3 ≠ a := fun z => by
      obtain ⟨d, n, e, _⟩ := hs.same sE
      rw [z, e] at cE
      cases cE
    clear hHE n3 h2 n2 m2 m1 cA sA n1
    have anyE : ∀ x ∈ oddW q1 q2, Any K (Ex (Pr H t) HE) x := odd_any (by rw [ex_at zq1]; exact e1) (by rw [ex_at zq2]; exact e2)
    -- the strange one
    refine ⟨_, rfl, _, rfl, _, rfl, l3, _, rfl, .inl (SqL.of cE), a, c, m + 3, _, rfl, hs.same sE, by rw [odd_len]; decide, by rw [odd_len]; decide, fun r1 H1 r10 r11 s1 k1 => ?_⟩
    rw [odd_len] at r11
    obtain ⟨j1, rfl⟩ : ∃ j : Nat, r1 = j := ⟨r1.toNat, by omega⟩
    have hj1 : j1 < (oddW q1 q2).length := by rw [odd_len]; omega
    have c1 := k1 _ _ cE zl3
    refine ⟨l3, _, _, _, rfl, rfl, SqL.of c1, atI_nat (List.getElem?_eq_getElem hj1), ?_⟩
    have any1 := anyE _ (List.getElem_mem hj1)
    generalize (oddW q1 q2)[j1] = st at any1 ⊢
    have K1 : Keep a H H1 := (Keep.of sE).trans k1
    have any1 := any1.same (ex_keep k1 pa)
    have ht1 := K1 _ _ ht ta
    refine ⟨_, rfl, _, rfl, t, _, rfl, .inr (SqT.of ht1), a, c, m + 2, _, rfl, s1, by rw [lx]; omega, by rw [lx]; omega, fun r2 H2 r20 r21 s2 k2 => ?_⟩
    rw [lx] at r21
    obtain ⟨j, rfl⟩ : ∃ j : Nat, r2 = j := ⟨r2.toNat, by omega⟩
    have hj : j < zs.length + 1 := by omega
    refine ⟨_, rfl, a, c, m + 1, 6, rfl, s2, by decide, by decide, fun r3 H3 r30 r31 s3 k3 => ?_⟩
    have any3 := (any1.same (ex_keep k2 pa)).same (ex_keep k3 pa)
    have K3 : Keep a H H3 := (K1.trans k2).trans k3
    have ht3 := K3 _ _ ht ta
    have s3m : SrcAt H3 a c m := s3.mono (by omega)
    have itx : ∀ y ∈ (V.str T :: zs.map V.str), ∀ H' : Hp, Itm K H' y := fun y my H' => by
      rcases List.mem_cons.mp my with rfl | my
      · exact itm_str (Nat.le_trans pt.strs.1 (by decide)) (pt.all T List.mem_cons_self)
      · obtain ⟨z, mz, rfl⟩ := List.mem_map.mp my
        exact itm_str (Nat.le_trans (pt.strs.2 z mz) (by decide)) (pt.all z (List.mem_cons_of_mem _ mz))
    -- new places
    have new3 : ∀ (b : Addr) (H' : Hp), Same H3 H' → H' b = none → H b = none := fun b H' sm n => K3.free (sm.free n) s3.some
    -- a tuple of items told
    have told : ∀ (u : Addr) (H' : Hp) (ys : List V), Same H3 H' → (u = t ∨ H u = none) → H' u = some (.tup ys) → ys.length ≤ 100 → (∀ y ∈ ys, y ∈ (V.str T :: zs.map V.str) ∨ Itm K (Ex (Pr H t) H3) y) → Q (.ref u) H' := fun u H' ys sm nu hu ly hy =>
      k (.ref u) (some ys) H' ⟨u, rfl, by rw [ex_at (pr_new nu)]; exact hu, ly, fun y my => (hy y my).elim (fun q => itx y q _) fun q => q.same (ex_keep (Keep.of sm) pa)⟩ (s3m.same sm) (K3.trans (Keep.of sm))
    refine ⟨_, rfl, rfl, _, rfl, ?_⟩
    refine ite2 (fun _ => ?_) (fun _ => ?_)
    · refine ⟨_, rfl, t, _, rfl, .inr (SqT.of ht3), fun l nl => ?_⟩
      have sm : Same H3 (upd H3 l (.lst (.str T :: zs.map V.str))) := same_new nl
      exact k (.ref l) none _ (ask_lst (by rw [ex_at (pr_new (.inr (new3 l _ (Same.refl _) nl)))]; exact upd_same)) (s3m.same sm) (K3.trans (Keep.of sm))
    refine ⟨_, rfl, rfl, _, rfl, ?_⟩
    refine ite2 (fun _ => ?_) (fun _ => ?_)
    · refine ⟨_, rfl, by show 1 ≤ sizeLine; decide, fun q nq => ?_⟩
      have sq : Same H3 (upd H3 q (.tup [.str "x"])) := same_new nq
      refine ⟨_, rfl, t, _, rfl, .inr (SqT.of (sq _ _ ht3)), _, _, rfl, rfl, q, _, [.str "x"], rfl, rfl, upd_same, by simp, by rw [lx]; omega, by rw [lx]; omega, by simp, fun r H4 s4 hr4 fr => ?_⟩
      have nr : H r = none := fr.elim (fun z => z ▸ new3 q _ (Same.refl _) nq) (new3 r _ sq)
      have s4' := sq.trans s4
      generalize hR : (List.replicate _ [V.str (Str.ofString "x")]).flatten = R at hr4 ⊢
      have lr : R.length ≤ 4 := by
        rw [← hR, PyProof.Rows.lm_len_rep_flat, lx, List.length_singleton]
        omega
      have mR : ∀ y ∈ R, y = V.str (Str.ofString "x") := fun y my => by
        rw [← hR] at my
        obtain ⟨l, ml, hl⟩ := List.mem_flatten.mp my
        rw [List.eq_of_mem_replicate ml] at hl
        exact List.mem_singleton.mp hl
      refine ⟨t, r, _, _, rfl, rfl, s4' _ _ ht3, hr4, by rw [lx, sizeLine_eq]; omega, fun u H5 s5 hu fu => ?_⟩
      have nu : u = t ∨ H u = none := fu.elim .inl fun z => .inr (z.elim (fun z => z ▸ nr) (new3 u _ s4'))
      have s5' := s4'.trans s5
      refine ⟨_, rfl, by show 1 ≤ sizeLine; decide, fun v nv => ?_⟩
      have sv : Same H5 (upd H5 v (.tup [st])) := same_new nv
      refine ⟨u, v, _, _, rfl, rfl, sv _ _ hu, upd_same, by rw [List.length_append, lx, List.length_singleton, sizeLine_eq]; omega, fun x H6 s6 hx fx => ?_⟩
      have nx : x = t ∨ H x = none := fx.elim (fun z => z ▸ nu) fun z => .inr (z.elim (fun z => z ▸ new3 v _ s5' nv) (new3 x _ (s5'.trans sv)))
      refine told x H6 _ ((s5'.trans sv).trans s6) nx hx (by rw [List.length_append, List.length_append, lx, List.length_singleton]; omega) fun y my => ?_
      rcases List.mem_append.mp my with my | my
      · rcases List.mem_append.mp my with my | my
        · exact .inl my
        · rw [mR y my]
          exact .inr (itm_str (by decide +kernel) (by decide +kernel))
      · rw [List.mem_singleton.mp my]
        exact .inr any3.1
    refine ⟨_, rfl, rfl, _, rfl, ?_⟩
    refine ite2 (fun _ => ?_) (fun _ => ?_)
    · refine ⟨_, rfl, by show 0 ≤ sizeLine; decide, fun q nq => ?_⟩
      have sq : Same H3 (upd H3 q (.tup [])) := same_new nq
      have cq : (upd H3 q (.tup [])) q = some (.tup []) := upd_same
      have zq := s3.ne nq
      have fq : ¬ Pr H t q := pr_new (.inr (new3 q _ (Same.refl _) nq))
      generalize upd H3 q (.tup []) = H4 at sq cq ⊢
      refine fun d nd => ⟨upd_same, [(Sum.inr (Str.ofString "a"), .int 1)], rfl, by simp, ?_⟩
      have sd : Same H4 (upd (upd H4 d (.dK [])) d (.dK (mergeK [] [(Sum.inr (Str.ofString "a"), .int 1)]))) := same_two nd
      have cd : (upd (upd H4 d (.dK [])) d (.dK (mergeK [] [(Sum.inr (Str.ofString "a"), .int 1)]))) d = some (.dK (mergeK [] [(Sum.inr (Str.ofString "a"), .int 1)])) := upd_same
      have zd := (s3.same sq).ne nd
      have fd' : ¬ Pr H t d := pr_new (.inr (new3 d _ sq nd))
      generalize upd (upd H4 d (.dK [])) d (.dK (mergeK [] [(Sum.inr (Str.ofString "a"), .int 1)])) = H5 at sd cd ⊢
      refine ⟨by show 7 ≤ sizeLine; decide, fun l nl => ?_⟩
      have s5 := s3.same (sq.trans sd)
      have zl := s5.ne nl
      have sl : Same H5 (upd H5 l (.lst [st, .non, .ref q, .str "a", .ref d, .int 7, .bl false])) := same_new nl
      have cl : (upd H5 l (.lst [st, .non, .ref q, .str "a", .ref d, .int 7, .bl false])) l = some (.lst [st, .non, .ref q, .str "a", .ref d, .int 7, .bl false]) := upd_same
      refine ⟨_, rfl, a, c, m, 7, rfl, s5.same sl, by decide, by decide, fun r6 H6 r60 r61 s6 k6 => ?_⟩
      obtain ⟨j6, rfl⟩ : ∃ j : Nat, r6 = j := ⟨r6.toNat, by omega⟩
      have hj6 : j6 < [st, .non, .ref q, .str "a", .ref d, .int 7, .bl false].length := by
        show j6 < 7
        omega
      refine ⟨l, _, _, _, rfl, rfl, SqL.of (k6 _ _ cl zl), atI_nat (List.getElem?_eq_getElem hj6), ?_⟩
      have K36 : Keep a H3 H6 := ((Keep.of (sq.trans sd)).trans (Keep.of sl)).trans k6
      have any6 := any3.same (ex_keep K36 pa)
      have cq6 : Ex (Pr H t) H6 q = some (.tup []) := by
        rw [ex_at fq]
        exact k6 _ _ (sl _ _ (sd _ _ cq)) zq
      have cd6 : Ex (Pr H t) H6 d = some (.dK (mergeK [] [(Sum.inr (Str.ofString "a"), .int 1)])) := by
        rw [ex_at fd']
        exact k6 _ _ (sl _ _ cd) zd
      have fin : ∀ x o, Ask K (Ex (Pr H t) H6) x o → Q x H6 := fun x o ask => k x o H6 ask s6 (K3.trans K36)
      have hmem := List.getElem_mem hj6
      generalize ([st, .non, .ref q, .str "a", .ref d, .int 7, .bl false] : List V)[j6] = x at hmem ⊢
      simp only [List.mem_cons, List.not_mem_nil, or_false] at hmem
      rcases hmem with rfl | rfl | rfl | rfl | rfl | rfl | rfl
      · obtain ⟨o, q⟩ := any6.2
        exact fin _ o q
      · obtain ⟨o, q⟩ := (any_non (K := K) (H := Ex (Pr H t) H6)).2
        exact fin _ o q
      · exact fin _ (some []) ⟨q, rfl, cq6, by simp, fun y my => by cases my⟩
      · obtain ⟨o, q⟩ := (any_str (K := K) (H := Ex (Pr H t) H6) (y := "a") (by decide +kernel) (by decide +kernel)).2
        exact fin _ o q
      · exact fin _ none (ask_dic cd6)
      · obtain ⟨o, q⟩ := (any_int (K := K) (H := Ex (Pr H t) H6) 7).2
        exact fin _ o q
      · obtain ⟨o, q⟩ := (any_bl (K := K) (H := Ex (Pr H t) H6) false).2
        exact fin _ o q
    have np1 : ¬ (HT.sIx (V.str T :: zs.map V.str).length 0 none = 0 ∧ HT.sIx (V.str T :: zs.map V.str).length (V.str T :: zs.map V.str).length (some (j : Int)) = (V.str T :: zs.map V.str).length) := by
      rintro ⟨_, e⟩
      rw [HT.sIx_nat, lx] at e
      omega
    have ej : ((j : Int) + 1) = ((j + 1 : Nat) : Int) := by omega
    have np2 : ¬ (HT.sIx (V.str T :: zs.map V.str).length 0 (some ((j : Int) + 1)) = 0 ∧ HT.sIx (V.str T :: zs.map V.str).length (V.str T :: zs.map V.str).length none = (V.str T :: zs.map V.str).length) := by
      rintro ⟨e, _⟩
      rw [ej, HT.sIx_nat, lx] at e
      omega
    -- the pattern with another item in a place
    refine ⟨_, rfl, rfl, _, rfl, ?_⟩
    refine ite2 (fun _ => ?_) (fun _ => ?_)
    · refine ⟨_, rfl, _, rfl, _, rfl, t, _, rfl, SqT.of ht3, np1, fun p np => ?_⟩
      have s4 : Same H3 (upd H3 p (.tup (cutV (.str T :: zs.map V.str) none (some (j : Int))))) := same_new np
      refine ⟨_, rfl, t, _, 0, _, rfl, rfl, SqT.of (s4 _ _ ht3), atI_nat (j := 0) rfl, _, _, rfl, rfl, ?_, by show 1 ≤ sizeLine; decide, fun q nq => ?_⟩
      · have e1 : (Str.ofString "?").length = 1 := by decide +kernel
        have := pt.strs.1
        rw [e1, sizeLine_eq]
        omega
      have s5 : Same (upd H3 p (.tup (cutV (.str T :: zs.map V.str) none (some (j : Int))))) (upd (upd H3 p (.tup (cutV (.str T :: zs.map V.str) none (some (j : Int))))) q (.tup [.str (Str.ofString "?" ++ T)])) := same_new nq
      refine ⟨p, q, _, _, rfl, rfl, s5 _ _ upd_same, upd_same, ?_, fun u H6 s6 hu fu => ?_⟩
      · have := cutV_length (.str T :: zs.map V.str) none (some (j : Int))
        rw [List.length_singleton, sizeLine_eq]
        rw [lx] at this
        omega
      have nu : H u = none := fu.elim (fun z => z ▸ new3 p _ (Same.refl _) np) fun z => z.elim (fun z => z ▸ new3 q _ s4 nq) (new3 u _ (s4.trans s5))
      have s6' := (s4.trans s5).trans s6
      refine ⟨_, rfl, _, rfl, _, _, rfl, rfl, _, rfl, t, _, rfl, SqT.of (s6' _ _ ht3), np2, fun r nr => ?_⟩
      have s7 : Same H6 (upd H6 r (.tup (cutV (.str T :: zs.map V.str) (some ((j : Int) + 1)) none))) := same_new nr
      have b1 := cutV_length (.str T :: zs.map V.str) none (some (j : Int))
      have b2 := cutV_length (.str T :: zs.map V.str) (some ((j : Int) + 1)) none
      rw [lx] at b1 b2
      refine ⟨u, r, _, _, rfl, rfl, s7 _ _ hu, upd_same, by rw [List.length_append, List.length_singleton, sizeLine_eq]; omega, fun x H8 s8 hx fx => ?_⟩
      have nx : H x = none := fx.elim (fun z => z ▸ nu) fun z => z.elim (fun z => z ▸ new3 r _ s6' nr) (new3 x _ (s6'.trans s7))
      refine told x H8 _ ((s6'.trans s7).trans s8) (.inr nx) hx (by rw [List.length_append, List.length_append, List.length_singleton]; omega) fun y my => ?_
      rw [cutV_to, ej, cutV_from] at my
      rcases List.mem_append.mp my with my | my
      · rcases List.mem_append.mp my with my | my
        · exact .inl (List.mem_of_mem_take my)
        · rw [List.mem_singleton.mp my]
          refine .inr (itm_str ?_ fun x hx => ?_)
          · have e1 : (Str.ofString "?").length = 1 := by decide +kernel
            have := pt.strs.1
            rw [len_app, e1]
            omega
          · rw [tl_append, tl_q] at hx
            rcases List.mem_append.mp hx with hx | hx
            · rw [List.mem_singleton.mp hx]
              decide
            · exact pt.all T List.mem_cons_self x hx
      · exact .inl (List.mem_of_mem_drop my)
    · refine ⟨_, rfl, _, rfl, _, rfl, t, _, rfl, SqT.of ht3, np1, fun p np => ?_⟩
      have s4 : Same H3 (upd H3 p (.tup (cutV (.str T :: zs.map V.str) none (some (j : Int))))) := same_new np
      refine ⟨_, rfl, by show 1 ≤ sizeLine; decide, fun q nq => ?_⟩
      have s5 : Same (upd H3 p (.tup (cutV (.str T :: zs.map V.str) none (some (j : Int))))) (upd (upd H3 p (.tup (cutV (.str T :: zs.map V.str) none (some (j : Int))))) q (.tup [st])) := same_new nq
      refine ⟨p, q, _, _, rfl, rfl, s5 _ _ upd_same, upd_same, ?_, fun u H6 s6 hu fu => ?_⟩
      · have := cutV_length (.str T :: zs.map V.str) none (some (j : Int))
        rw [List.length_singleton, sizeLine_eq]
        rw [lx] at this
        omega
      have nu : H u = none := fu.elim (fun z => z ▸ new3 p _ (Same.refl _) np) fun z => z.elim (fun z => z ▸ new3 q _ s4 nq) (new3 u _ (s4.trans s5))
      have s6' := (s4.trans s5).trans s6
      refine ⟨_, rfl, _, rfl, _, _, rfl, rfl, _, rfl, t, _, rfl, SqT.of (s6' _ _ ht3), np2, fun r nr => ?_⟩
      have s7 : Same H6 (upd H6 r (.tup (cutV (.str T :: zs.map V.str) (some ((j : Int) + 1)) none))) := same_new nr
      have b1 := cutV_length (.str T :: zs.map V.str) none (some (j : Int))
      have b2 := cutV_length (.str T :: zs.map V.str) (some ((j : Int) + 1)) none
      rw [lx] at b1 b2
      refine ⟨u, r, _, _, rfl, rfl, s7 _ _ hu, upd_same, by rw [List.length_append, List.length_singleton, sizeLine_eq]; omega, fun x H8 s8 hx fx => ?_⟩
      have nx : H x = none := fx.elim (fun z => z ▸ nu) fun z => z.elim (fun z => z ▸ new3 r _ s6' nr) (new3 x _ (s6'.trans s7))
      refine told x H8 _ ((s6'.trans s7).trans s8) (.inr nx) hx (by rw [List.length_append, List.length_append, List.length_singleton]; omega) fun y my => ?_
      rw [cutV_to, ej, cutV_from] at my
      rcases List.mem_append.mp my with my | my
      · rcases List.mem_append.mp my with my | my
        · exact .inl (List.mem_of_mem_take my)
        · rw [List.mem_singleton.mp my]
          exact .inr any3.1
      · exact .inl (List.mem_of_mem_drop my)
end
end L2.LawH
set_option Elab.async false
set_option linter.all false
set_option maxRecDepth 100000
set_option maxHeartbeats 4000000
/-! The law. -/
namespace L2.LawH
open PySem PySem.Spec PyProof.Rows L2.Cmp L2.TxtSet TL
open Builtin.Int (intBits)
abbrev sLaw : Stmt := top 34
def spLaw (K : PySem.W.Frag) : Sp := fun vs H Q _ => ∃ (a : Addr) (ns : List Int), vs = [.ref a] ∧ SqL K H a (ns.map V.int) ∧ ns.length ≤ 63 ∧
  (∀ z ∈ ns, intBits z ≤ 1048576) ∧ ∀ H', Q (.bl true) H'
theorem cut_ints {ns : List Int} (hb : ∀ z ∈ ns, intBits z ≤ 1048576) {i : Nat} {v : V} (lo hi : Option Int)
    (h : (cutV (ns.map V.int) lo hi ++ [V.int 0])[i]? = some v) : ∃ z, v = .int z ∧ intBits z ≤ 1048576 := by
  have hm := List.mem_of_getElem? h
  rcases List.mem_append.mp hm with q | q
  · have q2 : v ∈ ns.map V.int := List.mem_of_mem_drop (List.mem_of_mem_take q)
    obtain ⟨z, hz, rfl⟩ := List.mem_map.mp q2
    exact ⟨z, rfl, hb z hz⟩
  · have q2 : v = .int 0 := by simpa using q
    exact ⟨0, q2, Nat.le_trans (small_bits (by decide) (by decide)) (by decide)⟩
theorem op_mul_str {X : Cx} : OpR X (binaryOp .Mult) (fun x y H Q => ∃ i n, x = .str i ∧ y = .int n ∧ MulOk i n ∧ Q (.str (Txt.mul i n)) H) := by
  intro pins s σ H x y v u Q I rx ry h
  obtain ⟨i, n, rfl, rfl, hz, q⟩ := h
  obtain ⟨t, rfl⟩ := rx
  obtain ⟨t', rfl⟩ := ry
  exact SB.mul hz fun t' k => ⟨.str (Txt.mul i n), H, I.tok _, ⟨_, rfl⟩, q⟩
abbrev nLaw : List Str := ["_law_script", "_law_cell", "_law_source_here", "_law_pool_here", "_law_lot_here", "_law_kept", "_law_pattern_here", "_law_values", "_law_k", "_law_value"]
theorem scLaw : FnScope nLaw ["_law_script"] (defScope sLaw) := ⟨rfl, rfl, rfl, by decide +kernel, rfl, by decide +kernel, by decide +kernel⟩
theorem ex_le {p : Addr → Prop} {H : Hp} : Same (Ex p H) H := fun _ _ e => (ex_some e).2
theorem patG_of {a : Addr} {H : Hp} {p : Addr} {π : Pool} {W : List Str} (hp : PoolAt a H p π) (hW : ∀ z ∈ W, Vr z) {T : Str} {zs : List Str} (h : PatOf π W T zs) : PatG T zs := by
  obtain ⟨⟨x, mx, e1, e2⟩, tr⟩ := h
  obtain ⟨_, nT, l3, _⟩ := hp.hrow x mx
  exact ⟨e1 ▸ nT, by omega, fun z m => (tr z m).imp (hp.nC z) (hW z)⟩
theorem frees_len {xs : List Pt} (h : ∀ x ∈ xs, x.2.2.length ≤ 3) : (frees xs).length ≤ 3 * xs.length := by
  unfold frees
  refine Nat.le_trans (List.length_filter_le _ _) ?_
  induction xs with
  | nil => simp
  | cons x r ih =>
    have h1 := h x List.mem_cons_self
    have h2 := ih fun y m => h y (List.mem_cons_of_mem _ m)
    rw [List.flatMap_cons, List.length_append, List.length_cons]
    omega
theorem frees_codes {xs : List Pt} (h : ∀ x ∈ xs, PatG x.2.1 x.2.2) {ys : List Str} (p : ys.Perm (uniq (frees xs))) : ∀ z ∈ ys, ∀ c ∈ tl z, c < 0x110000 := by
  intro z m
  have m2 := uniq_mem.mp (p.mem_iff.mp m)
  unfold frees at m2
  obtain ⟨x, mx, mz⟩ := List.mem_flatMap.mp (List.mem_filter.mp m2).1
  exact (h x mx).all z (List.mem_cons_of_mem _ mz)
def patD (x : Pt) : PyData := .tuple ((x.2.1 :: x.2.2).map PyData.str)
theorem dp_lot {K : PySem.W.Frag} {H : Hp} : ∀ xs : List Pt, (∀ x ∈ xs, H x.1 = some (.tup (.str x.2.1 :: x.2.2.map V.str))) → DpAll K H (xs.map fun x => V.ref x.1) (xs.map patD)
  | [], _ => .nil
  | x :: r, h => .cons (dp_pat (h x List.mem_cons_self)) (dp_lot r fun y m => h y (List.mem_cons_of_mem _ m))
theorem lot_lay : ∀ xs : List Pt, (∀ x ∈ xs, PatG x.2.1 x.2.2) → PyData.canLayAll0 (xs.map patD) = true ∧ PyData.depthAll (xs.map patD) ≤ 4
  | [], _ => ⟨by simp [PyData.canLayAll0], by simp [PyData.depthAll]⟩
  | x :: r, h => by
    obtain ⟨h1, h2⟩ := lot_lay r fun y m => h y (List.mem_cons_of_mem _ m)
    have s1 := SeqAt.canLay_of_shaped (shaped_tupS (h x List.mem_cons_self).all)
    have d1 := strs_dep (x.2.1 :: x.2.2)
    have d2 : (patD x).depth ≤ 4 := by
      unfold patD
      simp only [PyData.depth]
      omega
    refine ⟨?_, ?_⟩
    · show ((patD x).canLay0 && PyData.canLayAll0 (r.map patD)) = true
      rw [h1, show (patD x).canLay0 = true from s1]
      rfl
    · simp only [List.map_cons, PyData.depthAll]
      omega
theorem lot_shaped {xs : List Pt} (h : ∀ x ∈ xs, PatG x.2.1 x.2.2) : SeqAt.shaped (.list (xs.map patD)) = true := by
  obtain ⟨h1, h2⟩ := lot_lay xs h
  exact shaped_list h1 (by omega)
theorem lot_eqv {xs : List Pt} (h : ∀ x ∈ xs, PatG x.2.1 x.2.2) : PyData.eqv (.list (xs.map patD)) (.list (xs.map patD)) = true :=
  SeqAt.eqv_refl _ (SeqAt.canLay_of_shaped (lot_shaped h))
/-- the answers as data -/
def ansD (x : V) (o : Option (List V)) : PyData := .list [.bool (vN x), .bool (vV x), .bool (pAns o), .bool (fAns o)]
theorem ans_dp {K : PySem.W.Frag} {H : Hp} {p : Addr} {x : V} {o : Option (List V)} (h : H p = some (.lst (ansV x o))) : Dp K H (.ref p) (ansD x o) :=
  .lst (SqL.of h) (.cons (.bl _) (.cons (.bl _) (.cons (.bl _) (.cons (.bl _) .nil))))
theorem ans_shaped (x : V) (o : Option (List V)) : SeqAt.shaped (ansD x o) = true := by
  simp [SeqAt.shaped, ansD, PyData.canLay0, PyData.canLayAll0, PyData.depth, PyData.depthAll]
theorem ans_eqv (x : V) (o : Option (List V)) : PyData.eqv (ansD x o) (ansD x o) = true := SeqAt.eqv_refl _ (SeqAt.canLay_of_shaped (ans_shaped x o))
theorem pat_ask {K : PySem.W.Frag} {H : Hp} {t : Addr} {T : Str} {zs : List Str} (h : PatG T zs) (ht : H t = some (.tup (.str T :: zs.map V.str))) : Ask K H (.ref t) (some (.str T :: zs.map V.str)) := by
  have few := h.few
  refine ⟨t, rfl, ht, by rw [List.length_cons, List.length_map]; omega, fun y m => ?_⟩
  rcases List.mem_cons.mp m with rfl | m
  · exact itm_str (Nat.le_trans h.strs.1 (by decide)) (h.all T List.mem_cons_self)
  · obtain ⟨z, mz, rfl⟩ := List.mem_map.mp m
    exact itm_str (Nat.le_trans (h.strs.2 z mz) (by decide)) (h.all z (List.mem_cons_of_mem _ mz))
section
variable {P : Program} {w : World} {K : PySem.W.Frag} {mg : Str → Option Value} {base : Heap}
theorem ok_law {f fS fPo fLo fVs fLV fTs fTo fDu fOd fFi fBN fN : Addr} {fd fdS fdPo fdLo fdVs fdLV fdTs fdTo fdDu fdOd fdFi fdBN fdN : FuncData} (F : Fun K "law" "law" sLaw f fd)
    (GS : FnOk P w K mg base CX0 1 fS fdS ["_law_cell"] spSource) (kS : PySem.W.keepIn K (.ref fS) = true) (bS : Binds K fdS ["_law_cell"] []) (mS : mg "_law_source" = some (.ref fS))
    (GPo : FnOk P w K mg base CX0 4 fPo fdPo ["_law_source_here"] spPool) (kPo : PySem.W.keepIn K (.ref fPo) = true) (bPo : Binds K fdPo ["_law_source_here"] []) (mPo : mg "_law_pool" = some (.ref fPo))
    (GLo : FnOk P w K mg base CX0 4 fLo fdLo pLot spLot) (kLo : PySem.W.keepIn K (.ref fLo) = true) (bLo : Binds K fdLo pLot []) (mLo : mg "_law_lot" = some (.ref fLo))
    (GVs : FnOk P w K mg base CX0 2 fVs fdVs ["lot"] spVars) (kVs : PySem.W.keepIn K (.ref fVs) = true) (bVs : Binds K fdVs ["lot"] []) (mVs : mg "variables_of" = some (.ref fVs))
    (GLV : FnOk P w K mg base CX0 2 fLV fdLV ["_law_lot_here"] spLVars) (kLV : PySem.W.keepIn K (.ref fLV) = true) (bLV : Binds K fdLV ["_law_lot_here"] []) (mLV : mg "_law_variables" = some (.ref fLV))
    (GTs : FnOk P w K mg base CX0 5 fTs fdTs ["_law_source_here", "_law_pattern_here"] spLTs) (kTs : PySem.W.keepIn K (.ref fTs) = true) (bTs : Binds K fdTs ["_law_source_here", "_law_pattern_here"] []) (mTs : mg "_law_texts" = some (.ref fTs))
    (GTo : FnOk P w K mg base CX0 5 fTo fdTo ["_law_value"] (spTold K)) (kTo : PySem.W.keepIn K (.ref fTo) = true) (bTo : Binds K fdTo ["_law_value"] []) (mTo : mg "_law_told" = some (.ref fTo))
    (GDu : FnOk P w K mg base CX0 4 fDu fdDu ["_law_value"] (spTold K)) (kDu : PySem.W.keepIn K (.ref fDu) = true) (bDu : Binds K fdDu ["_law_value"] []) (mDu : mg "_law_due" = some (.ref fDu))
    (GOd : FnOk P w K mg base CX0 2 fOd fdOd ["_law_source_here", "_law_pattern_here"] (spOdd K)) (kOd : PySem.W.keepIn K (.ref fOd) = true) (bOd : Binds K fdOd ["_law_source_here", "_law_pattern_here"] []) (mOd : mg "_law_odd" = some (.ref fOd))
    (GFi : FnOk P w K mg base CX0 2 fFi fdFi ["_law_pool_here", "_law_pattern_here"] spLFi) (kFi : PySem.W.keepIn K (.ref fFi) = true) (bFi : Binds K fdFi ["_law_pool_here", "_law_pattern_here"] []) (mFi : mg "_law_fills" = some (.ref fFi))
    (GBN : FnOk P w K mg base CX0 5 fBN fdBN ["_law_pattern_here"] spLBN) (kBN : PySem.W.keepIn K (.ref fBN) = true) (bBN : Binds K fdBN ["_law_pattern_here"] []) (mBN : mg "_law_by_name" = some (.ref fBN))
    (GN : FnOk P w K mg base CX0 1 fN fdN ["value"] (spIsN K)) (kN : PySem.W.keepIn K (.ref fN) = true) (bN : Binds K fdN ["value"] []) (mN : mg "is_name" = some (.ref fN))
    (mL : mg "list" = none) (mt : mg "tuple" = none) (mr : mg "range" = none) :
    FnOk P w K mg base CX0 6 f fd ["_law_script"] (spLaw K) := by
  refine F.ok scLaw (fun vs H Q E h => ?_) (fun cdv A' outer s H vs Q E hr h => ?_)
  · obtain ⟨a, ns, rfl, _⟩ := h
    rfl
  · obtain ⟨a, ns, rfl, hS, hlen, hbits, k⟩ := h
    have hr1 : Room 1 _ := hr.mono (by decide)
    have hr2 : Room 2 _ := hr.mono (by decide)
    have hr4 : Room 4 _ := hr.mono (by decide)
    have hu := hr.units
    refine ⟨_, pss_cons (ps_for PassesOwn.never rfl (pi_list (pe_op op_cat (pe_slice sl_list (pv 0) po_none (po_some pe_int)) (pe_lst (pa_cons pe_int pa_nil)))) (pg_name (i := 1) scLaw.nd rfl (Or.inl rfl))
      (pss_cons (ps_set (i := 2) scLaw.nd rfl (Or.inr rfl) (pe_call GS hr1 (by rfl) mS kS bS .nil pass0 (pa_cons (pv 1) pa_nil)))
      (pss_cons (ps_set (i := 3) scLaw.nd rfl (Or.inl rfl) (pe_call GPo hr4 (by rfl) mPo kPo bPo .nil pass0 (pa_cons (pv 2) pa_nil)))
      (pss_cons (ps_set (i := 4) scLaw.nd rfl (Or.inl rfl) (pe_call GLo hr4 (by rfl) mLo kLo bLo .nil pass0 (pa_cons (pv 2) (pa_cons (pv 3) (pa_cons (pe_slice sl_list (pe_ix ix_list (pv 3) pe_int (fun _ _ => rfl)) po_none (po_some pe_int)) (pa_cons pe_int pa_nil))))))
      (pss_cons (ps_set (i := 5) scLaw.nd rfl (Or.inl rfl) (pe_callTy call_list_of (by rfl) mL (by decide +kernel) (pa_cons (pv 4) pa_nil)))
      (pss_cons (ps_if (PW.pt (pw_or (pt_cmpR (op_neDK (K := K) rfl hu) (pe_call GVs hr2 (by rfl) mVs kVs bVs .nil pass0 (pa_cons (pv 4) pa_nil)) (pe_call GLV hr2 (by rfl) mLV kLV bLV .nil pass0 (pa_cons (pv 4) pa_nil)) (nomark _))
          (pw_or1 (pt_cmpR (op_neDK (K := K) rfl hu) (pe_call GVs hr2 (by rfl) mVs kVs bVs .nil pass0 (pa_cons (pe_callTy call_tuple_of (by rfl) mt (by decide +kernel) (pa_cons (pv 4) pa_nil)) pa_nil)) (pe_call GLV hr2 (by rfl) mLV kLV bLV .nil pass0 (pa_cons (pv 4) pa_nil)) (nomark _)))))
          (pss_one (ps_ret pe_bl)) pss_nil)
      (pss_cons (ps_if (pt_cmpR (op_neDK (K := K) rfl hu) (pv 4) (pv 5) (nomark _)) (pss_one (ps_ret pe_bl)) pss_nil)
      (pss_one (ps_for PassesOwn.never rfl (pi_list (pe_op op_cat (pv 4) (pe_lst (pa_cons (pe_tup (pa_cons (pe_ix ix_tup (pe_ix ix_list (pe_ix ix_list (pv 3) pe_int (fun _ _ => rfl)) pe_int (fun _ _ => rfl)) pe_int (fun _ _ => rfl))
            (pa_cons (pe_ix ix_list (pe_ix ix_list (pv 3) pe_int (fun _ _ => rfl)) pe_int (fun _ _ => rfl)) (pa_cons (pe_ix ix_list (pe_ix ix_list (pv 3) pe_int (fun _ _ => rfl)) pe_int (fun _ _ => rfl)) pa_nil)))) pa_nil)))) (pg_name (i := 6) scLaw.nd rfl (Or.inr rfl))
        (pss_cons (ps_if (PW.pt (pw_or (pt_not (pt_val (pe_call GTs hr (by rfl) mTs kTs bTs .nil pass0 (pa_cons (pv 2) (pa_cons (pv 6) pa_nil)))))
            (pw_or1 (pt_cmpR (op_neDK (K := K) rfl hu) (pe_call GTo hr (by rfl) mTo kTo bTo .nil pass0 (pa_cons (pv 6) pa_nil)) (pe_call GDu hr4 (by rfl) mDu kDu bDu .nil pass0 (pa_cons (pv 6) pa_nil)) (nomark _))))) (pss_one (ps_ret pe_bl)) pss_nil)
        (pss_cons (ps_set (i := 7) scLaw.nd rfl (Or.inl rfl) (pe_op op_cat (pe_lc (own := [("_law_k", 8)]) (g := gName 8) (tt := tYes) rfl scLaw.nd (pi_range1 (by rfl) mr (pa_cons pe_int pa_nil))
              (blkOk_by (own := [("_law_k", 8)]) (N := nLaw) (sc := defScope sLaw) (by decide +kernel)) (fun _ _ _ _ _ => pg_name (i := 8) scLaw.nd rfl (Or.inl rfl)) (fun _ _ _ _ _ => pts_nil)
              (fun _ _ _ _ _ => pe_call GOd hr2 (by rfl) mOd kOd bOd .nil pass0 (pa_cons (pv 2) (pa_cons (pv 6) pa_nil))))
            (pe_callTy call_list_of (by rfl) mL (by decide +kernel) (pa_cons (pv 6) pa_nil))))
        (pss_cons (ps_if (pt_cmpR (op_neDK (K := K) rfl hu) (pe_lc (own := [("_law_value", 9)]) (g := gName 9) (tt := tTest (tOp (rNeD K) (tCall (spTold K) [] E0 (tCons (tVar 9) tNil)) (tCall (spTold K) [] E0 (tCons (tVar 9) tNil)))) rfl scLaw.nd (pi_list (pv 7))
              (blkOk_by (own := [("_law_value", 9)]) (N := nLaw) (sc := defScope sLaw) (by decide +kernel)) (fun _ _ _ _ _ => pg_name (i := 9) scLaw.nd rfl (Or.inl rfl))
              (fun _ _ _ _ _ => pts_one (pt_cmpR (op_neDK (K := K) rfl hu) (pe_call GTo hr (by rfl) mTo kTo bTo .nil pass0 (pa_cons (pv 9) pa_nil)) (pe_call GDu hr4 (by rfl) mDu kDu bDu .nil pass0 (pa_cons (pv 9) pa_nil)) (nomark _)))
              (fun _ _ _ _ _ => pv 9)) (pe_lst pa_nil) (nomark _)) (pss_one (ps_ret pe_bl)) pss_nil)
        (pss_one (ps_if (PW.pt (pw_or (pt_not (pt_val (pe_call GFi hr2 (by rfl) mFi kFi bFi .nil pass0 (pa_cons (pv 3) (pa_cons (pv 6) pa_nil)))))
            (pw_or1 (pt_not (pt_val (pe_call GBN hr (by rfl) mBN kBN bBN .nil pass0 (pa_cons (pv 6) pa_nil))))))) (pss_one (ps_ret pe_bl)) pss_nil))))))))))))))
      (pss_one (ps_ret (pe_cmpR (op_eqD hu) (pe_lc (own := [("_law_value", 9)]) (g := gName 9) (tt := tYes) rfl scLaw.nd (pi_list (pe_lst (pa_cons pe_str (pa_cons (pe_op op_mul_str pe_str pe_int) (pa_cons (pe_op op_mul_str pe_str pe_int) pa_nil)))))
              (blkOk_by (own := [("_law_value", 9)]) (N := nLaw) (sc := defScope sLaw) (by decide +kernel)) (fun _ _ _ _ _ => pg_name (i := 9) scLaw.nd rfl (Or.inl rfl)) (fun _ _ _ _ _ => pts_nil)
              (fun _ _ _ _ _ => pe_call GN hr1 (by rfl) mN kN bN .nil pass0 (pa_cons (pv 9) pa_nil)))
          (pe_lst (pa_cons pe_bl (pa_cons pe_bl (pa_cons pe_bl pa_nil)))) (nomark _)))), ?_⟩
    -- for cell in script[:4] + [0]
    refine ⟨_, rfl, 4, rfl, a, _, rfl, hS, fun p1 n1 => ⟨(by show 1 ≤ sizeLine; decide), fun p2 n2 => ?_⟩⟩
    have u1 := same_new (o := .lst (cutV (ns.map V.int) none (some 4))) n1
    have u2 := same_new (o := .lst [V.int 0]) n2
    have few : (cutV (ns.map V.int) none (some 4)).length ≤ 63 := by
      refine Nat.le_trans (cutV_length _ _ _) ?_
      rw [List.length_map]
      exact hlen
    refine ⟨p1, p2, _, _, rfl, rfl, u2 _ _ upd_same, upd_same, (by rw [sizeLine_eq]; show _ + 1 ≤ _; omega), fun p3 n3 => ?_⟩
    refine ⟨p3, rfl, ⟨_, SqL.of upd_same⟩, for_list (K := K) (a := p3) (xs := cutV (ns.map V.int) none (some 4) ++ [V.int 0])
      (fun i σ H5 => (∃ v1 v2 v3 v4 v5 v6 v7 v8 v9 : Option V, σ = [some (.ref a), v1, v2, v3, v4, v5, v6, v7, v8, v9]) ∧ H5 p3 = some (.lst (cutV (ns.map V.int) none (some 4) ++ [V.int 0])))
      ⟨⟨none, none, none, none, none, none, none, none, none, rfl⟩, upd_same⟩ (fun i σ H5 _ h5 => SqL.of h5.2) ?_ ?_⟩
    · rintro i v σ H0 hi ⟨⟨v1, v2, v3, v4, v5, v6, v7, v8, v9, rfl⟩, h3⟩
      obtain ⟨c, rfl, hc⟩ := cut_ints hbits none (some 4) hi
      -- source, pool, lot
      refine ⟨_, rfl, c, rfl, hc, fun pS H1 s1 nS src1 => ?_⟩
      have zS : p3 ≠ pS := ne_of_none h3 nS
      have k1 : Keep pS H0 H1 := Keep.of s1
      refine ⟨_, rfl, pS, c, 999700, rfl, src1, fun p π H2 hp src2 k2 => ?_⟩
      refine ⟨_, rfl, _, rfl, _, rfl, p, _, 2, _, rfl, rfl, SqL.of hp.hp, rfl, _, rfl, π.vs, _, rfl, SqL.of hp.hv, fun q nq => ?_⟩
      have eW : cutV (π.W.map V.str) none (some 4) = (π.W.take 4).map V.str := by
        rw [List.map_take]
        exact cutV_to (π.W.map V.str) 4
      rw [eW] at ⊢
      have sq : Same H2 (upd H2 q (.lst ((π.W.take 4).map V.str))) := same_new nq
      have hp2 := hp.keep (Keep.of (a := pS) sq)
      have hW4 : ∀ z ∈ π.W.take 4, Vr z := fun z m => hp.nW z (List.mem_of_mem_take m)
      refine ⟨pS, p, q, c, 999500, 5, π, π.W.take 4, rfl, by decide, (src2.same sq).mono (by decide), hp2, ⟨upd_same, hW4, by rw [List.length_take]; omega, src2.ne nq⟩, fun lt xs H3 lot lx src3 k3 => ?_⟩
      have hp3 := hp2.keep k3
      have k03 : Keep pS H0 H3 := ((k1.trans k2).trans (Keep.of sq)).trans k3
      have hpt : ∀ x ∈ xs, PatG x.2.1 x.2.2 := fun x m => patG_of hp3 hW4 (lot.pat x m)
      -- kept
      refine ⟨_, rfl, lt, _, rfl, .inl (SqL.of lot.sq), fun l nl => ?_⟩
      have sl : Same H3 (upd H3 l (.lst (xs.map fun x => V.ref x.1))) := same_new nl
      have cl : (upd H3 l (.lst (xs.map fun x => V.ref x.1))) l = some (.lst (xs.map fun x => V.ref x.1)) := upd_same
      generalize upd H3 l (.lst (xs.map fun x => V.ref x.1)) = H4 at sl cl ⊢
      have lot4 := lot.keep (Keep.of sl)
      have hf : (frees xs).length ≤ 60 := by
        have := frees_len (xs := xs) fun x m => (hpt x m).few
        omega
      have shp : ∀ x ∈ xs, ∀ z ∈ x.2.2, 1 ≤ z.length ∧ z.length ≤ 100 := fun x m z mz => ⟨one_of ((hpt x m).each z mz), Nat.le_trans ((hpt x m).strs.2 z mz) (by decide)⟩
      have short : ∀ x ∈ xs, ∀ z ∈ x.2.2, z.length ≤ 100 := fun x m z mz => Nat.le_trans ((hpt x m).strs.2 z mz) (by decide)
      -- the variables
      refine ⟨_, rfl, lt, xs, rfl, lot4.at, shp, hf, fun a1 ys H5 s5 na1 pm1 so1 ha1 => ?_⟩
      refine ⟨_, rfl, lt, xs, rfl, s5 _ _ lot4.sq, lot4.at.same s5, short, hf, fun a2 ys2 H6 s6 na2 pm2 so2 ha2 => ?_⟩
      have ey : ys = ys2 := asc_eq so1 so2 pm1 pm2
      subst ey
      have cy := frees_codes hpt pm1
      refine ⟨_, _, dp_lstS (s6 _ _ ha1), dp_lstS ha2, shaped_strs (codes_ok cy), shaped_strs (codes_ok cy), _, rfl, ?_⟩
      rw [eqv_lstS cy]
      refine iteF ?_
      have s46 := s5.trans s6
      refine ⟨_, rfl, lt, _, rfl, .inl ⟨SqL.of (s46 _ _ lot4.sq), fun u nu => ?_⟩⟩
      have su : Same H6 (upd H6 u (.tup (xs.map fun x => V.ref x.1))) := same_new nu
      have cu : (upd H6 u (.tup (xs.map fun x => V.ref x.1))) u = some (.tup (xs.map fun x => V.ref x.1)) := upd_same
      generalize upd H6 u (.tup (xs.map fun x => V.ref x.1)) = H7 at su cu ⊢
      have s47 := s46.trans su
      refine ⟨u, xs, rfl, ⟨.inr cu, fun x m => s47 _ _ (lot4.each x m)⟩, shp, hf, fun a3 ys3 H8 s8 na3 pm3 so3 ha3 => ?_⟩
      have s48 := s47.trans s8
      refine ⟨_, rfl, lt, xs, rfl, s48 _ _ lot4.sq, lot4.at.same s48, short, hf, fun a4 ys4 H9 s9 na4 pm4 so4 ha4 => ?_⟩
      have ey : ys3 = ys4 := asc_eq so3 so4 pm3 pm4
      subst ey
      have cy := frees_codes hpt pm3
      refine ⟨_, _, dp_lstS (s9 _ _ ha3), dp_lstS ha4, shaped_strs (codes_ok cy), shaped_strs (codes_ok cy), _, rfl, ?_⟩
      rw [eqv_lstS cy]
      refine iteF ?_
      have s49 := s48.trans s9
      have lot9 := lot4.keep (Keep.of s49)
      -- the lot is as it was
      refine ⟨_, rfl, _, rfl, _, _, .lst (SqL.of lot9.sq) (dp_lot xs lot9.each), .lst (SqL.of (s49 _ _ cl)) (dp_lot xs lot9.each), lot_shaped hpt, lot_shaped hpt, _, rfl, ?_⟩
      rw [lot_eqv hpt]
      refine iteF ?_
      -- the patterns
      have s39 : Same H3 H9 := sl.trans s49
      have hp9 := hp3.keep (Keep.of (a := pS) s39)
      obtain ⟨row, rr, er⟩ : ∃ row rr, π.rows = row :: rr := by
        have := hp9.rows1
        match h : π.rows with
        | [] => rw [h] at this; cases this
        | row :: rr => exact ⟨row, rr, rfl⟩
      obtain ⟨trow, nrow, _, zrow⟩ := hp9.hrow row (by rw [er]; simp)
      have i0 : 0 < π.C.length := by have := hp9.C2; omega
      have j0 : 0 < π.W.length := by rw [hp9.W9]; decide
      have er0 : (π.rows.map fun x => V.ref x.1)[0]? = some (.ref row.1) := by rw [er]; rfl
      refine ⟨_, rfl, _, rfl, p, _, 0, _, rfl, rfl, SqL.of hp9.hp, rfl, π.r, _, 0, _, rfl, rfl, SqL.of hp9.hr, atI_nat (j := 0) er0, row.1, _, 0, _, rfl, rfl, SqT.of trow, rfl, ?_⟩
      refine ⟨_, rfl, p, _, 2, _, rfl, rfl, SqL.of hp9.hp, rfl, π.vs, _, 0, _, rfl, rfl, SqL.of hp9.hv, atI_nat (j := 0) (strs_get j0), ?_⟩
      refine ⟨_, rfl, p, _, 1, _, rfl, rfl, SqL.of hp9.hp, rfl, π.cs, _, 0, _, rfl, rfl, SqL.of hp9.hc, atI_nat (j := 0) (strs_get i0), ?_⟩
      refine ⟨by show 3 ≤ sizeLine; decide, fun tn ntn => ⟨by show 1 ≤ sizeLine; decide, fun l2 nl2 => ?_⟩⟩
      have gW := hp9.nW _ (List.getElem_mem j0)
      have gC := hp9.nC _ (List.getElem_mem i0)
      generalize π.W[0] = w0 at gW ntn nl2 ⊢
      generalize π.C[0] = c0 at gC ntn nl2 ⊢
      have ptn : PatG row.2.1 [w0, c0] := ⟨nrow, by simp, fun z m => by
        simp only [List.mem_cons, List.not_mem_nil, or_false] at m
        rcases m with rfl | rfl
        · exact .inr gW
        · exact .inl gC⟩
      have st : Same H9 (upd H9 tn (.tup [.str row.2.1, .str w0, .str c0])) := same_new ntn
      have ct : (upd H9 tn (.tup [.str row.2.1, .str w0, .str c0])) tn = some (.tup (.str row.2.1 :: [w0, c0].map V.str)) := upd_same
      have src9 : SrcAt H9 pS c 999500 := src3.same s39
      have zt : tn ≠ pS := src9.ne ntn
      generalize upd H9 tn (.tup [.str row.2.1, .str w0, .str c0]) = H10 at st ct nl2 ⊢
      have s2' : Same H10 (upd H10 l2 (.lst [.ref tn])) := same_new nl2
      refine ⟨lt, l2, _, _, rfl, rfl, s2' _ _ (st _ _ lot9.sq), upd_same, by rw [List.length_map, sizeLine_eq]; show _ + 1 ≤ _; omega, fun l3 nl3 => ?_⟩
      have s3' : Same (upd H10 l2 (.lst [.ref tn])) (upd (upd H10 l2 (.lst [.ref tn])) l3 (.lst ((xs.map fun x => V.ref x.1) ++ [.ref tn]))) := same_new nl3
      have cl3 : (upd (upd H10 l2 (.lst [.ref tn])) l3 (.lst ((xs.map fun x => V.ref x.1) ++ [.ref tn]))) l3 = some (.lst ((xs ++ [(tn, row.2.1, [w0, c0])]).map fun x => V.ref x.1)) := by
        rw [upd_same, List.map_append]
        rfl
      have z3 : l3 ≠ pS := ((src9.same st).same s2').ne nl3
      generalize upd (upd H10 l2 (.lst [.ref tn])) l3 (.lst ((xs.map fun x => V.ref x.1) ++ [.ref tn])) = HL at s3' cl3 ⊢
      have s9L : Same H9 HL := (st.trans s2').trans s3'
      have hpL := hp9.keep (Keep.of (a := pS) s9L)
      have srcL : SrcAt HL pS c 999500 := src9.same s9L
      have hPT : ∀ x ∈ xs ++ [(tn, row.2.1, [w0, c0])], HL x.1 = some (.tup (.str x.2.1 :: x.2.2.map V.str)) ∧ PatG x.2.1 x.2.2 ∧ x.1 ≠ pS := fun x m => by
        rcases List.mem_append.mp m with m | m
        · exact ⟨s9L _ _ (lot9.each x m), hpt x m, lot9.nx x m⟩
        · rw [List.mem_singleton.mp m]
          exact ⟨(s2'.trans s3') _ _ ct, ptn, zt⟩
      have lPT : (xs ++ [(tn, row.2.1, [w0, c0])]).length ≤ 6 := by
        rw [List.length_append, List.length_singleton]
        omega
      have k0L : Keep pS H0 HL := (k03.trans (Keep.of s39)).trans (Keep.of s9L)
      generalize xs ++ [(tn, row.2.1, [w0, c0])] = PT at cl3 hPT lPT
      refine ⟨l3, rfl, ⟨_, SqL.of cl3⟩, for_list (K := K) (a := l3) (xs := PT.map fun x => V.ref x.1)
        (fun i σ H5 => (∃ v6 v7 v8 v9 : Option V, σ = [some (.ref a), some (.int c), some (.ref pS), some (.ref p), some (.ref lt), some (.ref l), v6, v7, v8, v9]) ∧ SrcAt H5 pS c (999500 - 40 * i) ∧ Keep pS HL H5)
        ⟨⟨_, _, _, _, rfl⟩, srcL, Keep.refl pS HL⟩ (fun i σ H5 _ h5 => SqL.of (h5.2.2 _ _ cl3 z3)) ?_ ?_⟩
      · rintro i y σ H5 hi ⟨⟨v6, v7, v8, v9, rfl⟩, src5, k5⟩
        rw [List.getElem?_map] at hi
        obtain ⟨⟨t, T, zs⟩, hx, rfl⟩ := Option.map_eq_some_iff.mp hi
        have il : i < PT.length := (List.getElem?_eq_some_iff.mp hx).1
        obtain ⟨ht, pt, ta⟩ := hPT _ (List.mem_of_getElem? hx)
        dsimp only at ht pt ta
        have ht5 := k5 _ _ ht ta
        -- texts, and what is told of the pattern
        refine ⟨_, rfl, _, rfl, pS, t, c, 999500 - 40 * (i + 1) + 20, T, zs, rfl, src5.mono (by omega), ht5, pt, ta, fun H6 src6 k6 => ⟨_, rfl, iteF ?_⟩⟩
        have ht6 := k6 _ _ ht5 ta
        refine ⟨_, rfl, .ref t, some (.str T :: zs.map V.str), rfl, pat_ask pt ht6, fun a5 H7 s7 na5 ha5 => ?_⟩
        refine ⟨_, rfl, .ref t, some (.str T :: zs.map V.str), rfl, pat_ask pt (s7 _ _ ht6), fun a6 H8 s8 na6 ha6 => ?_⟩
        refine ⟨_, _, ans_dp (s8 _ _ ha5), ans_dp ha6, ans_shaped _ _, ans_shaped _ _, _, rfl, ?_⟩
        rw [ans_eqv]
        refine iteF ?_
        have s68 := s7.trans s8
        have src8 := src6.same s68
        have ht8 := s68 _ _ ht6
        have k58 : Keep pS H5 H8 := k6.trans (Keep.of s68)
        -- the values
        refine ⟨_, rfl, by omega, by omega, fun D nD => ?_⟩
        have zD := src8.ne nD
        have tD : t ≠ D := ne_of_none ht8 nD
        refine lc_range (lo := 0) (n := 5) (fun j H9 => ∃ vs : List (V × Option (List V)), vs.length = j ∧ H9 D = some (.lst (vs.map Prod.fst)) ∧ (∀ v ∈ vs, Ask K (Ex (fun b => b = pS ∨ b = D) H9) v.1 v.2) ∧
            SrcAt H9 pS c (999500 - 40 * (i + 1) + 20 - 4 * j) ∧ Keep pS H8 H9)
          ⟨[], rfl, upd_same, fun v m => (by cases m), src8.same (same_new nD), Keep.of (same_new nD)⟩ ?_ ?_
        · rintro j H9 hj ⟨vs, lv, hD, hv, src9, k9⟩
          refine ⟨rfl, ?_⟩
          dsimp only [tYes]
          rw [if_pos rfl]
          have src9' : SrcAt H9 pS c (999500 - 40 * (i + 1) + 20 - 4 * (j + 1) + 4) := src9.mono (by omega)
          refine ⟨_, rfl, _, rfl, pS, t, c, 999500 - 40 * (i + 1) + 20 - 4 * (j + 1), T, zs, rfl, src9', k9 _ _ ht8 ta, pt, fun x o HA ask srcA kA => ?_⟩
          have hDA := kA _ _ hD zD
          have hDn : H9 D ≠ none := by
            rw [hD]
            simp
          refine ⟨_, hDA, ?_, vs ++ [(x, o)], by simp [lv], by rw [upd_same, List.map_append]; rfl, fun v m => ?_, ?_, ?_⟩
          · rw [List.length_map, lv, sizeLine_eq]
            omega
          · rcases List.mem_append.mp m with m | m
            · exact (hv v m).same (ex_same (fun _ z => z) fun b o e n => by
                rw [upd_ne fun z => n (.inr z)]
                exact kA b o e fun z => n (.inl z))
            · rw [List.mem_singleton.mp m]
              exact ask.same (ex_same (fun b z => z.elim (fun z => z ▸ ⟨src9.some, fun z => ta z.symm⟩) fun z => z ▸ ⟨hDn, fun z => tD z.symm⟩) fun b o e n => by
                rw [upd_ne fun z => n (.inr z)]
                exact e)
          · obtain ⟨d, nn, e, g⟩ := srcA
            exact ⟨d, nn, by rw [upd_ne zD.symm]; exact e, g⟩
          · intro b o e nb
            have hb : b ≠ D := ne_of_none e nD
            rw [upd_ne hb]
            exact (k9.trans kA) b o e nb
        · rintro H9 ⟨vs, lv, hD, hv, src9, k9⟩
          have ht9 := k9 _ _ ht8 ta
          refine ⟨_, rfl, t, _, rfl, .inr (SqT.of ht9), fun l4 nl4 => ?_⟩
          have s4' : Same H9 (upd H9 l4 (.lst (.str T :: zs.map V.str))) := same_new nl4
          refine ⟨D, l4, _, _, rfl, rfl, s4' _ _ hD, upd_same, ?_, fun l5 nl5 => ?_⟩
          · have := pt.few
            rw [List.length_map, lv, List.length_cons, List.length_map, sizeLine_eq]
            omega
          have s5' : Same (upd H9 l4 (.lst (.str T :: zs.map V.str))) (upd (upd H9 l4 (.lst (.str T :: zs.map V.str))) l5 (.lst (vs.map Prod.fst ++ (.str T :: zs.map V.str)))) := same_new nl5
          have cl5 : (upd (upd H9 l4 (.lst (.str T :: zs.map V.str))) l5 (.lst (vs.map Prod.fst ++ (.str T :: zs.map V.str)))) l5 = some (.lst (vs.map Prod.fst ++ (.str T :: zs.map V.str))) := upd_same
          generalize upd (upd H9 l4 (.lst (.str T :: zs.map V.str))) l5 (.lst (vs.map Prod.fst ++ (.str T :: zs.map V.str))) = HB at s5' cl5 ⊢
          have s9B : Same H9 HB := s4'.trans s5'
          have all : ∀ x ∈ vs.map Prod.fst ++ (.str T :: zs.map V.str), ∃ o, Ask K HB x o := fun x m => by
            rcases List.mem_append.mp m with m | m
            · obtain ⟨v, mv, rfl⟩ := List.mem_map.mp m
              exact ⟨v.2, (hv v mv).same (ex_le.trans s9B)⟩
            · obtain ⟨t', e, ht', _, it⟩ := pat_ask (K := K) pt (s9B _ _ ht9)
              cases e
              have e2 := ht'.symm.trans (s9B _ _ ht9)
              have ix := it x m
              rcases List.mem_cons.mp m with rfl | m
              · exact (any_str (Nat.le_trans pt.strs.1 (by decide)) (pt.all T List.mem_cons_self)).2
              · obtain ⟨z, mz, rfl⟩ := List.mem_map.mp m
                exact (any_str (Nat.le_trans (pt.strs.2 z mz) (by decide)) (pt.all z (List.mem_cons_of_mem _ mz))).2
          generalize vs.map Prod.fst ++ (.str T :: zs.map V.str) = L at cl5 all
          refine ⟨_, rfl, l5, rfl, ⟨_, SqL.of cl5⟩, fun D2 nD2 => ?_⟩
          refine lc_list (K := K) (a := l5) (xs := L) (fun j HC => HC D2 = some (.lst []) ∧ Same HB HC) ⟨upd_same, same_new nD2⟩ (fun j HC _ h => SqL.of (h.2 _ _ cl5)) (fun j x HC hx h => ?_) (fun HC h => ?_)
          · obtain ⟨hD2, sC⟩ := h
            obtain ⟨o, ask⟩ := all x (List.mem_of_getElem? hx)
            refine ⟨rfl, ?_⟩
            refine ⟨_, rfl, x, o, rfl, ask.same sC, fun b1 HD sD nb1 hb1 => ?_⟩
            refine ⟨_, rfl, x, o, rfl, (ask.same sC).same sD, fun b2 HE sE nb2 hb2 => ?_⟩
            refine ⟨_, _, ans_dp (sE _ _ hb1), ans_dp hb2, ans_shaped _ _, ans_shaped _ _, _, rfl, ?_⟩
            rw [ans_eqv]
            exact iteF ⟨sE _ _ (sD _ _ hD2), (sC.trans sD).trans sE⟩
          · obtain ⟨hD2, sC⟩ := h
            refine ⟨by show 0 ≤ sizeLine; decide, fun b3 nb3 => ?_⟩
            have sF : Same HC (upd HC b3 (.lst [])) := same_new nb3
            refine ⟨.list [], .list [], .lst (SqL.of (sF _ _ hD2)) .nil, .lst (SqL.of upd_same) .nil, by decide, by decide, _, rfl, ?_⟩
            rw [show PyData.eqv (.list []) (.list []) = true by decide]
            refine iteF ?_
            have s9F := (s9B.trans sC).trans sF
            have kF : Keep pS HL (upd HC b3 (.lst [])) := ((k5.trans k58).trans k9).trans (Keep.of s9F)
            have htF := kF _ _ ht ta
            refine ⟨_, rfl, _, rfl, p, t, pS, π, T, zs, rfl, hpL.keep kF, htF, pt, fun HG sG => ⟨_, rfl, iteF ?_⟩⟩
            refine ⟨_, rfl, t, T, zs, rfl, sG _ _ htF, pt, fun HH sH => ⟨_, rfl, iteF ?_⟩⟩
            exact ⟨⟨_, _, _, _, rfl⟩, ((src9.same s9F).same (sG.trans sH)).mono (by omega), kF.trans (Keep.of (sG.trans sH))⟩
      · rintro σ H5 ⟨⟨v6, v7, v8, v9, rfl⟩, src5, k5⟩
        exact ⟨⟨_, _, _, _, _, _, _, _, _, rfl⟩, (k0L.trans k5) _ _ h3 zS⟩
    · rintro σ H0 ⟨⟨v1, v2, v3, v4, v5, v6, v7, v8, v9, rfl⟩, _⟩
      refine ⟨_, _, rfl, rfl, ?_, _, _, rfl, rfl, ?_, by show 3 ≤ sizeLine; decide, fun l nl => ?_⟩
      · exact ⟨by decide, fun _ _ => by decide, fun _ _ => by decide +kernel⟩
      · exact ⟨by decide, fun _ _ => by decide, fun _ _ => by decide +kernel⟩
      generalize hL : [V.str (Str.ofString "nest"), V.str (Txt.mul (Str.ofString "a") 12), V.str (Txt.mul (Str.ofString "a") 13)] = L at nl ⊢
      have okL : ∀ x ∈ L, ∀ H' : Hp, Okv K H' x := by
        rw [← hL]
        intro x m H'
        simp only [List.mem_cons, List.not_mem_nil, or_false] at m
        rcases m with rfl | rfl | rfl
        · exact .inl ⟨_, rfl, by decide +kernel⟩
        · exact .inl ⟨_, rfl, by decide +kernel⟩
        · exact .inl ⟨_, rfl, by decide +kernel⟩
      have eL : L.map vN = [true, true, false] := by
        rw [← hL]
        decide +kernel
      have sl : Same H0 (upd H0 l (.lst L)) := same_new nl
      have cl : (upd H0 l (.lst L)) l = some (.lst L) := upd_same
      generalize upd H0 l (.lst L) = H1 at sl cl ⊢
      refine ⟨l, rfl, ⟨_, SqL.of cl⟩, fun D nD => ?_⟩
      have lL : L.length = 3 := by rw [← hL]; rfl
      refine lc_list (K := K) (a := l) (xs := L) (fun j HC => HC D = some (.lst (((L.take j).map vN).map V.bl)) ∧ Same H1 HC) ⟨upd_same, same_new nD⟩ (fun j HC _ h => SqL.of (h.2 _ _ cl)) (fun j x HC hx h => ?_) (fun HC h => ?_)
      · obtain ⟨hD, sC⟩ := h
        refine ⟨rfl, ?_⟩
        dsimp only [tYes]
        rw [if_pos rfl]
        refine ⟨_, rfl, ?_⟩
        dsimp only [tNil, List.cons_append, List.nil_append]
        refine isN_of (K := K) (E := E0) (okL x (List.mem_of_getElem? hx) HC) fun H6 s6 => ⟨_, s6 _ _ hD, ?_, ?_, fun b o e => ?_⟩
        · rw [List.length_map, List.length_map, List.length_take, sizeLine_eq]
          omega
        · rw [upd_same, List.take_add_one, hx]
          simp
        · rw [upd_ne (ne_of_none e nD)]
          exact s6 _ _ (sC b o e)
      · obtain ⟨hD, sC⟩ := h
        rw [List.take_length, eL] at hD
        refine ⟨by show 3 ≤ sizeLine; decide, fun b nb => ?_⟩
        refine ⟨.list [.bool true, .bool true, .bool false], .list [.bool true, .bool true, .bool false], .lst (SqL.of ((same_new nb) _ _ hD)) (.cons (.bl _) (.cons (.bl _) (.cons (.bl _) .nil))), .lst (SqL.of upd_same) (.cons (.bl _) (.cons (.bl _) (.cons (.bl _) .nil))), by decide, by decide, ?_⟩
        rw [show PyData.eqv (.list [.bool true, .bool true, .bool false]) (.list [.bool true, .bool true, .bool false]) = true by decide]
        exact k _
end
end L2.LawH
set_option Elab.async false
set_option linter.all false
set_option maxRecDepth 100000
set_option maxHeartbeats 0
/-! The law on names and patterns: its end. -/
namespace L2.LawH
open PySem PySem.Spec PyProof.Rows L2.Cmp L2.TxtSet TL
open Builtin.Int (intBits)
theorem all_mk {P : Program} {w : World} {K : PySem.W.Frag} {h : Heap} {mg : Str → Option Value} {fa fS fD fNm fNs fPo fTm fPt fLo fLV fLN fLT fLP fLX fLO fSp fTs fLF fBN fTo fDu fOd fN fV fP fF fVs fFi fX fR fL : Addr} {t3 t4 : Tok}
    (X : K.In h) (G : h.Ns mainGlobals mg) (hfa : mg "law" = some (.ref fa))
    (bS : PySem.W.nsIn K mainGlobals "_law_source" = some (some (.ref fS)))
    (ES : ∃ fd, Fun K "_law_source" "_law_source" sSource fS fd)
    (bD : PySem.W.nsIn K mainGlobals "_law_draw" = some (some (.ref fD)))
    (ED : ∃ fd, Fun K "_law_draw" "_law_draw" sDraw fD fd)
    (bNm : PySem.W.nsIn K mainGlobals "_law_name" = some (some (.ref fNm)))
    (ENm : ∃ fd, Fun K "_law_name" "_law_name" sName fNm fd)
    (bNs : PySem.W.nsIn K mainGlobals "_law_names" = some (some (.ref fNs)))
    (ENs : ∃ fd, Fun K "_law_names" "_law_names" sNames fNs fd)
    (bPo : PySem.W.nsIn K mainGlobals "_law_pool" = some (some (.ref fPo)))
    (EPo : ∃ fd, Fun K "_law_pool" "_law_pool" sPool fPo fd)
    (bTm : PySem.W.nsIn K mainGlobals "_law_term" = some (some (.ref fTm)))
    (ETm : ∃ fd, Fun K "_law_term" "_law_term" sTerm fTm fd)
    (bPt : PySem.W.nsIn K mainGlobals "_law_pattern" = some (some (.ref fPt)))
    (EPt : ∃ fd, Fun K "_law_pattern" "_law_pattern" sPat fPt fd)
    (bLo : PySem.W.nsIn K mainGlobals "_law_lot" = some (some (.ref fLo)))
    (ELo : ∃ fd, Fun K "_law_lot" "_law_lot" sLot7 fLo fd)
    (bLV : PySem.W.nsIn K mainGlobals "_law_variables" = some (some (.ref fLV)))
    (ELV : ∃ fd, Fun K "_law_variables" "_law_variables" sLVars fLV fd)
    (bLN : PySem.W.nsIn K mainGlobals "_law_is_name" = some (some (.ref fLN)))
    (ELN : ∃ fd, Fun K "_law_is_name" "_law_is_name" sLIN fLN fd)
    (bLT : PySem.W.nsIn K mainGlobals "_law_is_term" = some (some (.ref fLT)))
    (ELT : ∃ fd, Fun K "_law_is_term" "_law_is_term" sLIT fLT fd)
    (bLP : PySem.W.nsIn K mainGlobals "_law_is_pattern" = some (some (.ref fLP)))
    (ELP : ∃ fd, Fun K "_law_is_pattern" "_law_is_pattern" sLIP fLP fd)
    (bLX : PySem.W.nsIn K mainGlobals "_law_text" = some (some (.ref fLX)))
    (ELX : ∃ fd, Fun K "_law_text" "_law_text" sLTx fLX fd)
    (bLO : PySem.W.nsIn K mainGlobals "_law_of_text" = some (some (.ref fLO)))
    (ELO : ∃ fd, Fun K "_law_of_text" "_law_of_text" sLOT fLO fd)
    (bSp : PySem.W.nsIn K mainGlobals "_law_spoiled" = some (some (.ref fSp)))
    (ESp : ∃ fd, Fun K "_law_spoiled" "_law_spoiled" sLSp fSp fd)
    (bTs : PySem.W.nsIn K mainGlobals "_law_texts" = some (some (.ref fTs)))
    (ETs : ∃ fd, Fun K "_law_texts" "_law_texts" sLTs22 fTs fd)
    (bLF : PySem.W.nsIn K mainGlobals "_law_fills" = some (some (.ref fLF)))
    (ELF : ∃ fd, Fun K "_law_fills" "_law_fills" sLFi fLF fd)
    (bBN : PySem.W.nsIn K mainGlobals "_law_by_name" = some (some (.ref fBN)))
    (EBN : ∃ fd, Fun K "_law_by_name" "_law_by_name" sLBN fBN fd)
    (bTo : PySem.W.nsIn K mainGlobals "_law_told" = some (some (.ref fTo)))
    (ETo : ∃ fd, Fun K "_law_told" "_law_told" sTold fTo fd)
    (bDu : PySem.W.nsIn K mainGlobals "_law_due" = some (some (.ref fDu)))
    (EDu : ∃ fd, Fun K "_law_due" "_law_due" sDue fDu fd)
    (bOd : PySem.W.nsIn K mainGlobals "_law_odd" = some (some (.ref fOd)))
    (EOd : ∃ fd, Fun K "_law_odd" "_law_odd" sOdd fOd fd)
    (bN : PySem.W.nsIn K mainGlobals "is_name" = some (some (.ref fN)))
    (EN : ∃ fd, Fun K "is_name" "is_name" sIsN fN fd)
    (bV : PySem.W.nsIn K mainGlobals "is_variable" = some (some (.ref fV)))
    (EV : ∃ fd, Fun K "is_variable" "is_variable" sIsV9 fV fd)
    (bP : PySem.W.nsIn K mainGlobals "is_pattern" = some (some (.ref fP)))
    (EP : ∃ fd, Fun K "is_pattern" "is_pattern" sIsP9 fP fd)
    (bF : PySem.W.nsIn K mainGlobals "is_fact" = some (some (.ref fF)))
    (EF : ∃ fd, Fun K "is_fact" "is_fact" sIsF10 fF fd)
    (bVs : PySem.W.nsIn K mainGlobals "variables_of" = some (some (.ref fVs)))
    (EVs : ∃ fd, Fun K "variables_of" "variables_of" sVars fVs fd)
    (bFi : PySem.W.nsIn K mainGlobals "filled" = some (some (.ref fFi)))
    (EFi : ∃ fd, Fun K "filled" "filled" sFil fFi fd)
    (bX : PySem.W.nsIn K mainGlobals "pattern_text" = some (some (.ref fX)))
    (EX : ∃ fd, Fun K "pattern_text" "pattern_text" sPt12 fX fd)
    (bR : PySem.W.nsIn K mainGlobals "read_pattern" = some (some (.ref fR)))
    (ER : ∃ fd, Fun K "read_pattern" "read_pattern" sRd18 fR fd)
    (bL : PySem.W.nsIn K mainGlobals "law" = some (some (.ref fL)))
    (EL : ∃ fd, Fun K "law" "law" sLaw fL fd)
    (z_int : PySem.W.nsIn K mainGlobals "int" = some none)
    (z_isinstance : PySem.W.nsIn K mainGlobals "isinstance" = some none)
    (z_str : PySem.W.nsIn K mainGlobals "str" = some none)
    (z_len : PySem.W.nsIn K mainGlobals "len" = some none)
    (z_range : PySem.W.nsIn K mainGlobals "range" = some none)
    (z_tuple : PySem.W.nsIn K mainGlobals "tuple" = some none)
    (z_list : PySem.W.nsIn K mainGlobals "list" = some none)
    (z_sorted : PySem.W.nsIn K mainGlobals "sorted" = some none)
    (c0 : PySem.W.nsIn K mainGlobals "LONGEST_NAME" = some (some (.int 12 t3)))
    (c1 : PySem.W.nsIn K mainGlobals "MOST_TERMS" = some (some (.int 3 t4)))
    : ∃ fd : FuncData, (∀ (s : Shared) (v : Value), BindsTo s fd ⟨[v], []⟩ [("_law_script", v)]) ∧
      ∀ base : Heap, K.In base → base.Ns mainGlobals mg → FnOk P w K mg base CX0 6 fa fd ["_law_script"] (spLaw K) := by
  have e := hfa.symm.trans (PySem.W.mg_of X G bL)
  cases e
  obtain ⟨dS, FS⟩ := ES
  obtain ⟨dD, FD⟩ := ED
  obtain ⟨dNm, FNm⟩ := ENm
  obtain ⟨dNs, FNs⟩ := ENs
  obtain ⟨dPo, FPo⟩ := EPo
  obtain ⟨dTm, FTm⟩ := ETm
  obtain ⟨dPt, FPt⟩ := EPt
  obtain ⟨dLo, FLo⟩ := ELo
  obtain ⟨dLV, FLV⟩ := ELV
  obtain ⟨dLN, FLN⟩ := ELN
  obtain ⟨dLT, FLT⟩ := ELT
  obtain ⟨dLP, FLP⟩ := ELP
  obtain ⟨dLX, FLX⟩ := ELX
  obtain ⟨dLO, FLO⟩ := ELO
  obtain ⟨dSp, FSp⟩ := ESp
  obtain ⟨dTs, FTs⟩ := ETs
  obtain ⟨dLF, FLF⟩ := ELF
  obtain ⟨dBN, FBN⟩ := EBN
  obtain ⟨dTo, FTo⟩ := ETo
  obtain ⟨dDu, FDu⟩ := EDu
  obtain ⟨dOd, FOd⟩ := EOd
  obtain ⟨dN, FN⟩ := EN
  obtain ⟨dV, FV⟩ := EV
  obtain ⟨dP, FP⟩ := EP
  obtain ⟨dF, FF⟩ := EF
  obtain ⟨dVs, FVs⟩ := EVs
  obtain ⟨dFi, FFi⟩ := EFi
  obtain ⟨dX, FX⟩ := EX
  obtain ⟨dR, FR⟩ := ER
  obtain ⟨dL, FL⟩ := EL
  have mS := PySem.W.mg_of X G bS
  have qS := FS.binds (ps := ["_law_cell"]) fun _ _ _ _ _ _ us hl => match us, hl with | [_], _ => rfl
  have mD := PySem.W.mg_of X G bD
  have qD := FD.binds (ps := ["_law_source_here", "_law_limit"]) fun _ _ _ _ _ _ us hl => match us, hl with | [_, _], _ => rfl
  have mNm := PySem.W.mg_of X G bNm
  have qNm := FNm.binds (ps := ["_law_source_here"]) fun _ _ _ _ _ _ us hl => match us, hl with | [_], _ => rfl
  have mNs := PySem.W.mg_of X G bNs
  have qNs := FNs.binds (ps := ["_law_source_here", "_law_many"]) fun _ _ _ _ _ _ us hl => match us, hl with | [_, _], _ => rfl
  have mPo := PySem.W.mg_of X G bPo
  have qPo := FPo.binds (ps := ["_law_source_here"]) fun _ _ _ _ _ _ us hl => match us, hl with | [_], _ => rfl
  have mTm := PySem.W.mg_of X G bTm
  have qTm := FTm.binds (ps := nTerm) fun _ _ _ _ _ _ us hl => match us, hl with | [_, _, _, _], _ => rfl
  have mPt := PySem.W.mg_of X G bPt
  have qPt := FPt.binds (ps := nTerm) fun _ _ _ _ _ _ us hl => match us, hl with | [_, _, _, _], _ => rfl
  have mLo := PySem.W.mg_of X G bLo
  have qLo := FLo.binds (ps := pLot) fun _ _ _ _ _ _ us hl => match us, hl with | [_, _, _, _], _ => rfl
  have mLV := PySem.W.mg_of X G bLV
  have qLV := FLV.binds (ps := ["_law_lot_here"]) fun _ _ _ _ _ _ us hl => match us, hl with | [_], _ => rfl
  have mLN := PySem.W.mg_of X G bLN
  have qLN := FLN.binds (ps := ["_law_value"]) fun _ _ _ _ _ _ us hl => match us, hl with | [_], _ => rfl
  have mLT := PySem.W.mg_of X G bLT
  have qLT := FLT.binds (ps := nLIT) fun _ _ _ _ _ _ us hl => match us, hl with | [_, _], _ => rfl
  have mLP := PySem.W.mg_of X G bLP
  have qLP := FLP.binds (ps := ["_law_value", "_law_open_too"]) fun _ _ _ _ _ _ us hl => match us, hl with | [_, _], _ => rfl
  have mLX := PySem.W.mg_of X G bLX
  have qLX := FLX.binds (ps := ["_law_pattern_here"]) fun _ _ _ _ _ _ us hl => match us, hl with | [_], _ => rfl
  have mLO := PySem.W.mg_of X G bLO
  have qLO := FLO.binds (ps := ["_law_text_here"]) fun _ _ _ _ _ _ us hl => match us, hl with | [_], _ => rfl
  have mSp := PySem.W.mg_of X G bSp
  have qSp := FSp.binds (ps := ["_law_source_here", "_law_text_here"]) fun _ _ _ _ _ _ us hl => match us, hl with | [_, _], _ => rfl
  have mTs := PySem.W.mg_of X G bTs
  have qTs := FTs.binds (ps := ["_law_source_here", "_law_pattern_here"]) fun _ _ _ _ _ _ us hl => match us, hl with | [_, _], _ => rfl
  have mLF := PySem.W.mg_of X G bLF
  have qLF := FLF.binds (ps := ["_law_pool_here", "_law_pattern_here"]) fun _ _ _ _ _ _ us hl => match us, hl with | [_, _], _ => rfl
  have mBN := PySem.W.mg_of X G bBN
  have qBN := FBN.binds (ps := ["_law_pattern_here"]) fun _ _ _ _ _ _ us hl => match us, hl with | [_], _ => rfl
  have mTo := PySem.W.mg_of X G bTo
  have qTo := FTo.binds (ps := ["_law_value"]) fun _ _ _ _ _ _ us hl => match us, hl with | [_], _ => rfl
  have mDu := PySem.W.mg_of X G bDu
  have qDu := FDu.binds (ps := ["_law_value"]) fun _ _ _ _ _ _ us hl => match us, hl with | [_], _ => rfl
  have mOd := PySem.W.mg_of X G bOd
  have qOd := FOd.binds (ps := ["_law_source_here", "_law_pattern_here"]) fun _ _ _ _ _ _ us hl => match us, hl with | [_, _], _ => rfl
  have mN := PySem.W.mg_of X G bN
  have qN := FN.binds (ps := ["value"]) fun _ _ _ _ _ _ us hl => match us, hl with | [_], _ => rfl
  have mV := PySem.W.mg_of X G bV
  have qV := FV.binds (ps := ["value"]) fun _ _ _ _ _ _ us hl => match us, hl with | [_], _ => rfl
  have mP := PySem.W.mg_of X G bP
  have qP := FP.binds (ps := ["value"]) fun _ _ _ _ _ _ us hl => match us, hl with | [_], _ => rfl
  have mF := PySem.W.mg_of X G bF
  have qF := FF.binds (ps := ["value"]) fun _ _ _ _ _ _ us hl => match us, hl with | [_], _ => rfl
  have mVs := PySem.W.mg_of X G bVs
  have qVs := FVs.binds (ps := ["lot"]) fun _ _ _ _ _ _ us hl => match us, hl with | [_], _ => rfl
  have mFi := PySem.W.mg_of X G bFi
  have qFi := FFi.binds (ps := ["pattern", "known"]) fun _ _ _ _ _ _ us hl => match us, hl with | [_, _], _ => rfl
  have mX := PySem.W.mg_of X G bX
  have qX := FX.binds (ps := ["pattern"]) fun _ _ _ _ _ _ us hl => match us, hl with | [_], _ => rfl
  have mR := PySem.W.mg_of X G bR
  have qR := FR.binds (ps := ["text"]) fun _ _ _ _ _ _ us hl => match us, hl with | [_], _ => rfl
  have mL := PySem.W.mg_of X G bL
  have kbN := L2.LawH.Fun.kb1 FN (p := "value") fun _ _ _ _ _ _ _ => rfl
  have kbV := L2.LawH.Fun.kb1 FV (p := "value") fun _ _ _ _ _ _ _ => rfl
  have kbP := L2.LawH.Fun.kb1 FP (p := "value") fun _ _ _ _ _ _ _ => rfl
  have kbF := L2.LawH.Fun.kb1 FF (p := "value") fun _ _ _ _ _ _ _ => rfl
  have kbVs := L2.LawH.Fun.kb1 FVs (p := "lot") fun _ _ _ _ _ _ _ => rfl
  have kbR := L2.LawH.Fun.kb1 FR (p := "text") fun _ _ _ _ _ _ _ => rfl
  have kbX := L2.LawH.Fun.kb1 FX (p := "pattern") fun _ _ _ _ _ _ _ => rfl
  have kbFi := L2.LawH.Fun.kb2 FFi (p := "pattern") (q := "known") fun _ _ _ _ _ _ _ _ => rfl
  have y_int := PySem.W.mg_none_of X G z_int
  have y_isinstance := PySem.W.mg_none_of X G z_isinstance
  have y_str := PySem.W.mg_none_of X G z_str
  have y_len := PySem.W.mg_none_of X G z_len
  have y_range := PySem.W.mg_none_of X G z_range
  have y_tuple := PySem.W.mg_none_of X G z_tuple
  have y_list := PySem.W.mg_none_of X G z_list
  have y_sorted := PySem.W.mg_none_of X G z_sorted
  have g0 := PySem.W.mg_of X G c0
  have g1 := PySem.W.mg_of X G c1
  have FL' := FL
  obtain ⟨oc, od, kV, doc, pm, an, cdv, ct, osl, ez, _, _⟩ := FL.ex
  subst ez
  refine ⟨PySem.W.fnOf "law" "law" (defArgs sLaw) (defBody sLaw) (defScope sLaw) .none kV doc pm an cdv ct, fun s v => .of_eq rfl, fun base _ _ => ?_⟩
  have GS := ok_source (P := P) (w := w) (mg := mg) (base := base) FS
  have GD := ok_draw (P := P) (w := w) (mg := mg) (base := base) FD y_int
  have GNm := ok_name (P := P) (w := w) (mg := mg) (base := base) FNm FD qD y_int mD y_range
  have GNs := ok_names (P := P) (w := w) (mg := mg) (base := base) FNs GNm FNm.kp qNm mNm y_range y_str
  have GPo := ok_pool (P := P) (w := w) (mg := mg) (base := base) FPo GD FD.kp qD mD GNs FNs.kp qNs mNs y_range y_len
  have GTm := ok_term (P := P) (w := w) (mg := mg) (base := base) FTm GD FD.kp qD mD y_len
  have GPt := ok_pat (P := P) (w := w) (mg := mg) (base := base) FPt GD FD.kp qD mD GTm FTm.kp qTm mTm y_len y_range y_tuple
  have GVs := ok_vars (P := P) (w := w) (mg := mg) (base := base) FVs y_sorted
  have GLV := ok_lvars (P := P) (w := w) (mg := mg) (base := base) FLV y_sorted
  have GLo := ok_lot (P := P) (w := w) (mg := mg) (base := base) FLo GD FD.kp qD mD GPt FPt.kp qPt mPt y_range
  have GN := ok_isN (P := P) (w := w) (mg := mg) (base := base) FN g0 y_isinstance y_str y_len
  have GV := ok_isV (P := P) (w := w) (mg := mg) (base := base) FV GN FN.kp qN mN y_isinstance y_str
  have GP := ok_isP (P := P) (w := w) (mg := mg) (base := base) FP GN FN.kp qN mN GV FV.kp qV mV g1 y_isinstance y_tuple y_len
  have GF := ok_isF (P := P) (w := w) (mg := mg) (base := base) FF GN FN.kp qN mN g1 y_isinstance y_tuple y_len
  have GFi := ok_fil (P := P) (w := w) (mg := mg) (base := base) FFi y_tuple
  have GX := ok_ptx (P := P) (w := w) (mg := mg) (base := base) FX
  have GLN := ok_LIN (P := P) (w := w) (mg := mg) (base := base) FLN y_isinstance y_str y_len
  have GLT := ok_LIT (P := P) (w := w) (mg := mg) (base := base) FLT GLN FLN.kp qLN mLN y_isinstance y_str
  have GLX := ok_LTx (P := P) (w := w) (mg := mg) (base := base) FLX y_list
  have GLP := ok_LIP (P := P) (w := w) (mg := mg) (base := base) FLP GLN FLN.kp qLN mLN GLT FLT.kp qLT mLT y_isinstance y_tuple y_len
  have GR := ok_rd (P := P) (w := w) (mg := mg) (base := base) FR GP FP.kp qP mP GX FX.kp qX mX
  have GLO := ok_LOT (P := P) (w := w) (mg := mg) (base := base) FLO GLP FLP.kp qLP mLP y_tuple
  have GSp := ok_LSp (P := P) (w := w) (mg := mg) (base := base) FSp GD FD.kp qD mD y_len
  have GTs := ok_LTs (P := P) (w := w) (mg := mg) (base := base) FTs GX FX.kp qX mX GLX FLX.kp qLX mLX GR FR.kp qR mR GLO FLO.kp qLO mLO GSp FSp.kp qSp mSp y_range
  have GLF := ok_LFi (P := P) (w := w) (mg := mg) (base := base) FLF GFi FFi.kp qFi mFi y_tuple
  have GBN := ok_LBN (P := P) (w := w) (mg := mg) (base := base) FBN GN FN.kp kbN mN GV FV.kp kbV mV GP FP.kp kbP mP GF FF.kp kbF mF GVs FVs.kp kbVs qVs mVs GFi FFi.kp kbFi mFi GR FR.kp kbR mR GX FX.kp kbX mX
  have GTo := ok_told (P := P) (w := w) (mg := mg) (base := base) FTo GN FN.kp qN mN GV FV.kp qV mV GP FP.kp qP mP GF FF.kp qF mF
  have GDu := ok_due (P := P) (w := w) (mg := mg) (base := base) FDu GLN FLN.kp qLN mLN GLP FLP.kp qLP mLP y_isinstance y_str
  have GOd := ok_odd (P := P) (w := w) (mg := mg) (base := base) FOd GD FD.kp qD mD y_len y_list
  exact ok_law FL' GS FS.kp qS mS GPo FPo.kp qPo mPo GLo FLo.kp qLo mLo GVs FVs.kp qVs mVs GLV FLV.kp qLV mLV GTs FTs.kp qTs mTs GTo FTo.kp qTo mTo GDu FDu.kp qDu mDu GOd FOd.kp qOd mOd GLF FLF.kp qLF mLF GBN FBN.kp qBN mBN GN FN.kp qN mN y_list y_tuple y_range
theorem walk {l : PySem.W.OpenLaw} {q : Program} {loose : List Str} {XP : (Str → Option Value) → Heap → Prop} {YP : World → Heap → Prop} {d : DefRec} {K : Params → PySem.W.Frag}
    (hn : l.most = some 63) (hdf : d.params.defaults = []) (hY : ∀ (w : World) (h : Heap), YP w h → (K w.params).In h)
    (F : ∀ (w : World) (mg : Str → Option Value) (fa : Addr) (h : Heap), (K w.params).In h → h.Ns mainGlobals mg → mg d.name = some (.ref fa) →
      ∃ fd : FuncData, (∀ (s : Shared) (u : Value), BindsTo s fd ⟨[u], []⟩ [("_law_script", u)]) ∧
        ∀ base : Heap, (K w.params).In base → base.Ns mainGlobals mg → FnOk l.prog w (K w.params) mg base CX0 6 fa fd ["_law_script"] (spLaw (K w.params))) :
    PySem.W.WalkO q loose XP YP l.row.toRowW d [] (fun f vs => PySem.call f vs) :=
  L2.walk_ofB (n := 63) (k := 6) (x := "_law_script") (CX := fun _ => CX0) (sp := fun w => spLaw (K w.params)) hn (by decide) hdf ⟨rfl, by decide, by decide⟩ hY F
    (fun _ _ a ns hl hb _ hS => ⟨a, ns, rfl, hS, hl, hb, fun _ => rfl⟩) fun _ _ _ _ _ z => z
end L2.LawH
set_option Elab.async false
open PySem PySem.W PyProof.Rows
set_option maxRecDepth 100000 in
set_option maxHeartbeats 0 in
theorem PySem.Challenge.cw_fullestrows_k01_names_and_patterns_holds : PySem.Challenge.rw_fullestrows_k01_names_and_patterns.Holds := by
  w_on; o_law; k_head; (case hw => w_witness2)
  k_fill
  refine L2.LawH.walk (l := PySem.Challenge.rw_fullestrows_k01_names_and_patterns) rfl rfl (fun w h Y => PySem.W.kIn_of Y) ?F
  case F =>
    intro w mg fa h KX G hmg
    refine' L2.LawH.all_mk KX G hmg ?bS ?ES ?bD ?ED ?bNm ?ENm ?bNs ?ENs ?bPo ?EPo ?bTm ?ETm ?bPt ?EPt ?bLo ?ELo ?bLV ?ELV ?bLN ?ELN ?bLT ?ELT ?bLP ?ELP ?bLX ?ELX ?bLO ?ELO ?bSp ?ESp ?bTs ?ETs ?bLF ?ELF ?bBN ?EBN ?bTo ?ETo ?bDu ?EDu ?bOd ?EOd ?bN ?EN ?bV ?EV ?bP ?EP ?bF ?EF ?bVs ?EVs ?bFi ?EFi ?bX ?EX ?bR ?ER ?bL ?EL ?z_int ?z_isinstance ?z_str ?z_len ?z_range ?z_tuple ?z_list ?z_sorted ?c0 ?c1
    (case bS => k_is)
    (case ES => exact ⟨_, L2.fun_mk (by k_is) (by k_is) (by k_is)⟩)
    (case bD => k_is)
    (case ED => exact ⟨_, L2.fun_mk (by k_is) (by k_is) (by k_is)⟩)
    (case bNm => k_is)
    (case ENm => exact ⟨_, L2.fun_mk (by k_is) (by k_is) (by k_is)⟩)
    (case bNs => k_is)
    (case ENs => exact ⟨_, L2.fun_mk (by k_is) (by k_is) (by k_is)⟩)
    (case bPo => k_is)
    (case EPo => exact ⟨_, L2.fun_mk (by k_is) (by k_is) (by k_is)⟩)
    (case bTm => k_is)
    (case ETm => exact ⟨_, L2.fun_mk (by k_is) (by k_is) (by k_is)⟩)
    (case bPt => k_is)
    (case EPt => exact ⟨_, L2.fun_mk (by k_is) (by k_is) (by k_is)⟩)
    (case bLo => k_is)
    (case ELo => exact ⟨_, L2.fun_mk (by k_is) (by k_is) (by k_is)⟩)
    (case bLV => k_is)
    (case ELV => exact ⟨_, L2.fun_mk (by k_is) (by k_is) (by k_is)⟩)
    (case bLN => k_is)
    (case ELN => exact ⟨_, L2.fun_mk (by k_is) (by k_is) (by k_is)⟩)
    (case bLT => k_is)
    (case ELT => exact ⟨_, L2.fun_mk (by k_is) (by k_is) (by k_is)⟩)
    (case bLP => k_is)
    (case ELP => exact ⟨_, L2.fun_mk (by k_is) (by k_is) (by k_is)⟩)
    (case bLX => k_is)
    (case ELX => exact ⟨_, L2.fun_mk (by k_is) (by k_is) (by k_is)⟩)
    (case bLO => k_is)
    (case ELO => exact ⟨_, L2.fun_mk (by k_is) (by k_is) (by k_is)⟩)
    (case bSp => k_is)
    (case ESp => exact ⟨_, L2.fun_mk (by k_is) (by k_is) (by k_is)⟩)
    (case bTs => k_is)
    (case ETs => exact ⟨_, L2.fun_mk (by k_is) (by k_is) (by k_is)⟩)
    (case bLF => k_is)
    (case ELF => exact ⟨_, L2.fun_mk (by k_is) (by k_is) (by k_is)⟩)
    (case bBN => k_is)
    (case EBN => exact ⟨_, L2.fun_mk (by k_is) (by k_is) (by k_is)⟩)
    (case bTo => k_is)
    (case ETo => exact ⟨_, L2.fun_mk (by k_is) (by k_is) (by k_is)⟩)
    (case bDu => k_is)
    (case EDu => exact ⟨_, L2.fun_mk (by k_is) (by k_is) (by k_is)⟩)
    (case bOd => k_is)
    (case EOd => exact ⟨_, L2.fun_mk (by k_is) (by k_is) (by k_is)⟩)
    (case bN => k_is)
    (case EN => exact ⟨_, L2.fun_mk (by k_is) (by k_is) (by k_is)⟩)
    (case bV => k_is)
    (case EV => exact ⟨_, L2.fun_mk (by k_is) (by k_is) (by k_is)⟩)
    (case bP => k_is)
    (case EP => exact ⟨_, L2.fun_mk (by k_is) (by k_is) (by k_is)⟩)
    (case bF => k_is)
    (case EF => exact ⟨_, L2.fun_mk (by k_is) (by k_is) (by k_is)⟩)
    (case bVs => k_is)
    (case EVs => exact ⟨_, L2.fun_mk (by k_is) (by k_is) (by k_is)⟩)
    (case bFi => k_is)
    (case EFi => exact ⟨_, L2.fun_mk (by k_is) (by k_is) (by k_is)⟩)
    (case bX => k_is)
    (case EX => exact ⟨_, L2.fun_mk (by k_is) (by k_is) (by k_is)⟩)
    (case bR => k_is)
    (case ER => exact ⟨_, L2.fun_mk (by k_is) (by k_is) (by k_is)⟩)
    (case bL => k_is)
    (case EL => exact ⟨_, L2.fun_mk (by k_is) (by k_is) (by k_is)⟩)
    (case z_int => k_is)
    (case z_isinstance => k_is)
    (case z_str => k_is)
    (case z_len => k_is)
    (case z_range => k_is)
    (case z_tuple => k_is)
    (case z_list => k_is)
    (case z_sorted => k_is)
    (case c0 => k_is)
    (case c1 => k_is)
