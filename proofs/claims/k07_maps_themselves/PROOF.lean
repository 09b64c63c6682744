import PyProof.Rows.All
import Wide.All
import OpenK.AllK
import Wide.FinOn
import HandS.ForMost
import HandS.EndBits
import HandS.TupSets
import KE.KeyNested
import KE.KDictKeyed
import HandS.Strs
import KE.SortData
import KE.SortCalls
import PyProof.FactsAll.tuple_2
import HandS.SetTxt0
import HandS.Deep
import HandS.SetBool
import HandS.Set
import HandS.SetKeys
import HandS.Comp
import HandS.DictComp
import HandS.More
import HandS.DictTup
import HandS.ListItems
import HandS.SortRule
import KE.KDictPairs
import PyProof.DictUpdate
import PyProof.NeKinds
import HandS.ListEq
import HandS.DeepEq
import HandS.Walk
import HandS.Finally
import HandS.Style
import PySem.Challenge.RW_fullestrows_k07_maps_themselves
set_option Elab.async false
set_option linter.all false
set_option maxRecDepth 100000
set_option maxHeartbeats 4000000
/-! The helpers of the laws: draws and names. -/
namespace L2.LawH
open PySem PySem.Spec PyProof.Rows
open Builtin.Int (intBits)
def top (i : Nat) : Stmt := PySem.Challenge.pw_fullestrows_k07_maps_themselves.main.body.getD i (.Pass ⟨0, 0, 0, 0⟩)
abbrev sSource : Stmt := top 7
abbrev sDraw : Stmt := top 8
abbrev sName : Stmt := top 9

/-! ### numbers -/
theorem mod_pos {x y : Int} (h : 0 < y) : 0 ≤ x.fmod y ∧ x.fmod y < y := by
  rw [Int.fmod_eq_emod_of_nonneg x (Int.le_of_lt h)]
  exact ⟨Int.emod_nonneg x (by omega), Int.emod_lt_of_pos x h⟩
theorem small_bits {x : Int} (h0 : 0 ≤ x) (h : x < 1152921504606846976) : intBits x ≤ 60 := by
  refine PySem.intBits_le_iff.mpr ?_
  have e : (2 : Nat) ^ 60 = 1152921504606846976 := by decide
  rw [e]
  omega
theorem big_ok {c n m : Int} (hc : intBits c ≤ 1048576) (h0 : 0 ≤ n) (hn : n ≤ 1000000) (m0 : 0 ≤ m) (m1 : m ≤ 1000000) :
    (intBits (c * m + n * 40699 + 12011) : Int) * 3 ≤ 2 ^ 27 := by
  have h1 : intBits (c * m) ≤ 1048576 + 60 := PySem.intBits_mul_le hc (small_bits m0 (by omega))
  have h2 : intBits (n * 40699) ≤ 60 := small_bits (by omega) (by omega)
  have h3 : intBits (12011 : Int) ≤ 60 := small_bits (by omega) (by omega)
  have h5 := PySem.intBits_add_le (PySem.intBits_add_le h1 h2) h3
  have e : (2 : Int) ^ 27 = 134217728 := by decide
  rw [e]
  have h6 : max (max (1048576 + 60) 60 + 1) 60 + 1 = 1048638 := by decide
  rw [h6] at h5
  omega
theorem small_ok {x : Int} (h0 : 0 ≤ x) (h : x < 1152921504606846976) : (intBits x : Int) * 3 ≤ 2 ^ 27 := by
  have := small_bits h0 h
  have e : (2 : Int) ^ 27 = 134217728 := by decide
  rw [e]
  omega
theorem op_powB {X : Cx} : OpR X (binaryOp .Pow) (rI (fun i j => 0 ≤ j ∧ (Builtin.Int.intBits i : Int) * j ≤ 2 ^ 27) fun i j => .int (i ^ j.toNat)) :=
  opI fun _ _ _ _ _ _ _ hc q => pow_int hc.1 hc.2 q

/-! ### heaps -/
/-- all but a stands as it stood -/
def Keep (a : Addr) (H H' : Hp) : Prop := ∀ b o, H b = some o → b ≠ a → H' b = some o
theorem Keep.refl (a : Addr) (H : Hp) : Keep a H H := fun _ _ e _ => e
theorem Keep.trans {a : Addr} {H H1 H2 : Hp} (k : Keep a H H1) (l : Keep a H1 H2) : Keep a H H2 := fun b o e n => l b o (k b o e n) n
theorem Keep.of {a : Addr} {H H' : Hp} (s : Same H H') : Keep a H H' := fun b o e _ => s b o e
theorem same_new {H : Hp} {p : Addr} {o : HO} (n : H p = none) : Same H (upd H p o) := fun b u e => by
  rw [upd_ne (ne_of_none e n)]
  exact e
theorem Keep.free {a b : Addr} {H H' : Hp} (k : Keep a H H') (n : H' b = none) (ha : H' a ≠ none) : H b = none := by
  cases e : H b with
  | none => rfl
  | some o =>
    have nb : b ≠ a := fun z => ha (by rw [← z]; exact n)
    rw [k b o e nb] at n
    cases n

/-! ### the source of draws -/
/-- the source at a, of the cell c, with m draws still to be had -/
def SrcAt (H : Hp) (a : Addr) (c : Int) (m : Nat) : Prop := ∃ (d : Int) (n : Nat), H a = some (.lst [.int c, .int d, .int n]) ∧ n + m ≤ 1000000 ∧ intBits c ≤ 1048576
theorem SrcAt.mono {H : Hp} {a : Addr} {c : Int} {m m' : Nat} (h : SrcAt H a c m) (l : m' ≤ m) : SrcAt H a c m' := by
  obtain ⟨d, n, e, f, b⟩ := h
  exact ⟨d, n, e, by omega, b⟩
theorem SrcAt.some {H : Hp} {a : Addr} {c : Int} {m : Nat} (h : SrcAt H a c m) : H a ≠ none := by
  obtain ⟨d, n, e, _⟩ := h
  rw [e]
  exact fun z => by cases z
theorem SrcAt.same {H H' : Hp} {a : Addr} {c : Int} {m : Nat} (h : SrcAt H a c m) (s : Same H H') : SrcAt H' a c m := by
  obtain ⟨d, n, e, f, b⟩ := h
  exact ⟨d, n, s _ _ e, f, b⟩
theorem SrcAt.ne {H : Hp} {a p : Addr} {c : Int} {m : Nat} (h : SrcAt H a c m) (n : H p = none) : p ≠ a := by
  obtain ⟨d, k, e, _⟩ := h
  exact (ne_of_none e n).symm
def spSource : Sp := fun vs H Q _ => ∃ c : Int, vs = [.int c] ∧ intBits c ≤ 1048576 ∧ ∀ a H', Same H H' → H a = none → SrcAt H' a c 1000000 → Q (.ref a) H'
def spDraw : Sp := fun vs H Q _ => ∃ (a : Addr) (c : Int) (m : Nat) (k : Int), vs = [.ref a, .int k] ∧ SrcAt H a c (m + 1) ∧
  0 < k ∧ k ≤ 1000000 ∧ ∀ (r : Int) (H' : Hp), 0 ≤ r → r < k → SrcAt H' a c m → Keep a H H' → Q (.int r) H'

section
variable {P : Program} {w : World} {K : PySem.W.Frag} {mg : Str → Option Value} {base : Heap}
theorem scS : FnScope ["_law_cell"] ["_law_cell"] (defScope sSource) := ⟨rfl, rfl, rfl, by decide +kernel, rfl, by decide +kernel, by decide +kernel⟩
theorem ok_source {f : Addr} {fd : FuncData} (F : Fun K "_law_source" "_law_source" sSource f fd) : FnOk P w K mg base CX0 1 f fd ["_law_cell"] spSource := by
  refine F.ok scS (fun vs H Q E h => ?_) (fun cdv A outer s H vs Q E hr h => ?_)
  · obtain ⟨c, rfl, _⟩ := h
    rfl
  · obtain ⟨c, rfl, hb, k⟩ := h
    refine ⟨_, pss_one (ps_ret (pe_lst (pa_cons (pv 0) (pa_cons (pv 0) (pa_cons pe_int pa_nil))))), ?_⟩
    exact ⟨_, rfl, _, rfl, (by show 3 ≤ sizeLine; decide), fun a ha => k a _ (same_new ha) ha ⟨c, 0, upd_same, by decide, hb⟩⟩
theorem scD : FnScope ["_law_source_here", "_law_limit", "_law_digit", "_law_mixed"] ["_law_source_here", "_law_limit"] (defScope sDraw) :=
  ⟨rfl, rfl, rfl, by decide +kernel, rfl, by decide +kernel, by decide +kernel⟩
theorem ok_draw {f : Addr} {fd : FuncData} (F : Fun K "_law_draw" "_law_draw" sDraw f fd) (mi : mg "int" = none) :
    FnOk P w K mg base CX0 1 f fd ["_law_source_here", "_law_limit"] spDraw := by
  refine F.ok scD (fun vs H Q E h => ?_) (fun cdv A outer s H vs Q E hr h => ?_)
  · obtain ⟨a, c, n, m, rfl, _⟩ := h
    rfl
  · obtain ⟨a, c, fu, m, rfl, ⟨d, n, hs, hn, hc⟩, m0, m1, k⟩ := h
    refine ⟨_, pss_cons (ps_asg (pe_op op_add (pe_ix ix_list (pv 0) pe_int (fun _ _ => rfl)) pe_int) (pg_sub (pv 0) pe_int set_list))
      (pss_cons (ps_if (pt_cmpR op_ge (pe_ix ix_list (pv 0) pe_int (fun _ _ => rfl)) (pe_op op_pow pe_int pe_int) (nomark _))
        (pss_cons (ps_set (i := 2) scD.nd rfl (Or.inl rfl) (pe_op op_modN (pe_callTy call_int1 (by rfl) mi (by decide +kernel) (pa_cons (pe_ix ix_list (pv 0) pe_int (fun _ _ => rfl)) pa_nil)) (pv 1)))
        (pss_cons (ps_asg (pe_op op_fdivN (pe_ix ix_list (pv 0) pe_int (fun _ _ => rfl)) (pv 1)) (pg_sub (pv 0) pe_int set_list))
        (pss_one (ps_ret (pv 2))))) pss_nil)
      (pss_cons (ps_set (i := 3) scD.nd rfl (Or.inl rfl) (pe_op op_modN (pe_callTy call_int1 (by rfl) mi (by decide +kernel) (pa_cons (pe_op op_powB (pe_callTy call_int1 (by rfl) mi (by decide +kernel) (pa_cons (pe_op op_add (pe_op op_add (pe_op op_mul (pe_callTy call_int1 (by rfl) mi (by decide +kernel) (pa_cons (pe_ix ix_list (pv 0) pe_int (fun _ _ => rfl)) pa_nil)) pe_int) (pe_op op_mul (pe_ix ix_list (pv 0) pe_int (fun _ _ => rfl)) pe_int)) pe_int) pa_nil)) pe_int) pa_nil)) pe_int))
      (pss_cons (ps_set (i := 3) scD.nd rfl (Or.inl rfl) (pe_op op_modN (pe_callTy call_int1 (by rfl) mi (by decide +kernel) (pa_cons (pe_op op_powB (pe_callTy call_int1 (by rfl) mi (by decide +kernel) (pa_cons (pe_op op_add (pv 3) (pe_op op_mul (pe_op op_mul (pe_ix ix_list (pv 0) pe_int (fun _ _ => rfl)) (pe_ix ix_list (pv 0) pe_int (fun _ _ => rfl))) pe_int)) pa_nil)) pe_int) pa_nil)) pe_int))
      (pss_one (ps_ret (pe_op op_modN (pe_op op_fdivN (pv 3) pe_int) (pv 1))))))), ?_⟩
    -- src[2] = src[2] + 1
    refine ⟨_, rfl, a, _, _, _, rfl, rfl, SqL.of hs, rfl, _, _, rfl, rfl, _, rfl, a, _, _, _, rfl, rfl, hs, rfl, ?_⟩
    -- if src[0] >= 10 ** 18
    refine ⟨_, rfl, a, _, _, _, rfl, rfl, SqL.of upd_same, rfl, _, _, rfl, rfl, ⟨by decide, by decide, by decide⟩, _, _, rfl, rfl, _, rfl, ?_⟩
    refine ite2 (fun _ => ?_) (fun _ => ?_)
    · refine ⟨_, rfl, a, _, _, _, rfl, rfl, SqL.of upd_same, rfl, .inl ⟨_, rfl, ?_⟩⟩
      refine ⟨_, rfl, _, _, rfl, rfl, by omega, ?_⟩
      refine ⟨_, rfl, a, _, _, _, rfl, rfl, SqL.of upd_same, rfl, _, rfl, _, _, rfl, rfl, ⟨by omega, by omega⟩, _, rfl, a, _, _, _, rfl, rfl, upd_same, rfl, ?_⟩
      refine ⟨_, rfl, k _ _ (mod_pos m0).1 (mod_pos m0).2 ⟨_, n + 1, upd_same, by omega, hc⟩ fun b o e nb => ?_⟩
      rw [upd_ne nb, upd_ne nb]
      exact e
    · -- mixed
      refine ⟨_, rfl, a, _, _, _, rfl, rfl, SqL.of upd_same, rfl, .inl ⟨_, rfl, ?_⟩⟩
      refine ⟨_, _, rfl, rfl, .inr ⟨by decide, by decide⟩, _, rfl, a, _, _, _, rfl, rfl, SqL.of upd_same, rfl, _, _, rfl, rfl, .inr ⟨by decide, by decide⟩, _, _, rfl, rfl, _, _, rfl, rfl, .inl ⟨_, rfl, ?_⟩⟩
      refine ⟨_, _, rfl, rfl, ⟨by decide, big_ok hc (by omega) (by omega) (by decide) (by decide)⟩, .inl ⟨_, rfl, _, _, rfl, rfl, (by show (2147483647 : Int) ≠ 0; decide), ?_⟩⟩
      refine ⟨_, rfl, _, rfl, a, _, _, _, rfl, rfl, SqL.of upd_same, rfl, _, rfl, a, _, _, _, rfl, rfl, SqL.of upd_same, rfl, _, _, rfl, rfl, .inr ⟨by omega, by omega⟩, _, _, rfl, rfl, .inr ⟨by decide, by decide⟩, _, _, rfl, rfl, .inl ⟨_, rfl, ?_⟩⟩
      have sq0 : 0 ≤ ((n : Int) + 1) * ((n : Int) + 1) := Int.mul_nonneg (by omega) (by omega)
      have sq1 : ((n : Int) + 1) * ((n : Int) + 1) ≤ 1000001 * 1000001 := Int.mul_le_mul (by omega) (by omega) (by omega) (by omega)
      have b1 := fun x : Int => mod_pos (x := x) (y := 2147483647) (by decide)
      refine ⟨_, _, rfl, rfl, ⟨by decide, small_ok ?_ ?_⟩, .inl ⟨_, rfl, _, _, rfl, rfl, (by show (2147483629 : Int) ≠ 0; decide), ?_⟩⟩
      · exact Int.add_nonneg (b1 _).1 (by omega)
      · refine Int.lt_of_lt_of_le (Int.add_lt_add_right (b1 _).2 _) (by omega)
      -- return mixed // 64 % limit
      refine ⟨_, rfl, _, _, rfl, rfl, ⟨by decide, by decide⟩, _, rfl, _, _, rfl, rfl, (by show m ≠ 0; omega), ?_⟩
      refine k _ _ (mod_pos m0).1 (mod_pos m0).2 ⟨_, n + 1, upd_same, by omega, hc⟩ fun b o e nb => ?_
      rw [upd_ne nb]
      exact e

/-! ### names -/
def isLet (c : Nat) : Bool := decide (97 ≤ c) && decide (c ≤ 122)
def isSgn (c : Nat) : Bool := isLet c || (decide (48 ≤ c) && decide (c ≤ 57))
def nmB : List Nat → Bool
  | [] => false
  | c :: r => isLet c && r.all isSgn && decide (r.length ≤ 11)
/-- a name -/
def Nm (z : Str) : Prop := nmB z.cps.toList = true
theorem toList_append (a b : Str) : (a ++ b).cps.toList = a.cps.toList ++ b.cps.toList := by
  rw [Str.cps_append, Array.toList_append]
theorem length_toList (a : Str) : a.cps.toList.length = a.length := by
  show a.cps.toList.length = a.cps.size
  exact Array.length_toList
abbrev letS : Str := Str.ofString "abcdefghijklmnopqrstuvwxyz"
abbrev digS : Str := Str.ofString "0123456789"
theorem let_all : letS.cps.toList.all isLet = true := by decide +kernel
theorem sgn_all : (letS ++ digS).cps.toList.all isSgn = true := by decide +kernel
theorem let_len : letS.cps.toList.length = 26 := by decide +kernel
theorem sgn_len : (letS ++ digS).cps.toList.length = 36 := by decide +kernel
theorem pick {l : List Nat} {p : Nat → Bool} {n : Nat} (all : l.all p = true) (len : l.length = n) {r : Int} (h0 : 0 ≤ r) (h1 : r < n) :
    ∃ c, atI l r = some c ∧ p c = true := by
  obtain ⟨j, rfl⟩ : ∃ j : Nat, r = j := ⟨r.toNat, by omega⟩
  have hj : j < l.length := by omega
  refine ⟨l[j], atI_nat (List.getElem?_eq_getElem hj), ?_⟩
  exact List.all_eq_true.mp all _ (List.getElem_mem hj)
def spName : Sp := fun vs H Q _ => ∃ (a : Addr) (c : Int) (m : Nat), vs = [.ref a] ∧ SrcAt H a c (m + 14) ∧
  ∀ (z : Str) (H' : Hp), Nm z → SrcAt H' a c m → Keep a H H' → Q (.str z) H'
theorem scN : FnScope ["_law_source_here", "_law_letters", "_law_size", "_law_found", "_law_k"] ["_law_source_here"] (defScope sName) :=
  ⟨rfl, rfl, rfl, by decide +kernel, rfl, by decide +kernel, by decide +kernel⟩
theorem nm_one {c : Nat} (h : isLet c = true) : Nm ⟨#[c]⟩ := by
  show nmB [c] = true
  simp [nmB, h]
theorem sgn_of_let {c : Nat} (h : isLet c = true) : isSgn c = true := by simp [isSgn, h]
theorem nm_sgns {l : List Nat} (h : nmB l = true) : l.all isSgn = true ∧ l.length ≤ 12 ∧ 1 ≤ l.length := by
  cases l with
  | nil => cases h
  | cons c r =>
    simp only [nmB, Bool.and_eq_true, decide_eq_true_eq] at h
    refine ⟨?_, by simp; omega, by simp⟩
    simp only [List.all_cons, Bool.and_eq_true]
    exact ⟨sgn_of_let h.1.1, h.1.2⟩
theorem nm_tail {z : Str} (h : Nm z) : Nm (Str.ofString "m" ++ cutS z (some 1) none) := by
  obtain ⟨h1, h2, h3⟩ := nm_sgns h
  have e1 : (Str.ofString "m").cps.toList = [109] := by decide +kernel
  show nmB (Str.ofString "m" ++ cutS z (some 1) none).cps.toList = true
  rw [toList_append, e1]
  have e2 : (cutS z (some 1) none).cps.toList = (z.cps.toList.drop (min 1 z.length)).take (z.length - min 1 z.length) := by
    have e3 : HT.sIx z.length 0 (some 1) = min 1 z.length := HT.sIx_nat z.length 0 1
    unfold cutS
    rw [e3, HT.sIx_none]
  rw [e2]
  have l1 := length_toList z
  simp only [List.cons_append, List.nil_append, nmB, Bool.and_eq_true, decide_eq_true_eq]
  refine ⟨⟨by decide, ?_⟩, ?_⟩
  · rw [List.all_eq_true] at h1 ⊢
    exact fun x hx => h1 x (List.mem_of_mem_drop (List.mem_of_mem_take hx))
  · rw [List.length_take, List.length_drop]
    omega
theorem ok_name {f fD : Addr} {fd fdD : FuncData} (F : Fun K "_law_name" "_law_name" sName f fd) (FD : Fun K "_law_draw" "_law_draw" sDraw fD fdD)
    (bD : Binds K fdD ["_law_source_here", "_law_limit"] []) (mi : mg "int" = none) (mD : mg "_law_draw" = some (.ref fD)) (mr : mg "range" = none) :
    FnOk P w K mg base CX0 2 f fd ["_law_source_here"] spName := by
  have GD : FnOk P w K mg base CX0 1 fD fdD ["_law_source_here", "_law_limit"] spDraw := ok_draw FD mi
  refine F.ok scN (fun vs H Q E h => ?_) (fun cdv A outer s H vs Q E hr h => ?_)
  · obtain ⟨a, c, m, rfl, _⟩ := h
    rfl
  · obtain ⟨a, c, m, rfl, hs, k⟩ := h
    have hr1 : Room 1 _ := hr.mono (by decide)
    refine ⟨_, pss_cons (ps_set (i := 1) scN.nd rfl (Or.inl rfl) pe_str)
      (pss_cons (ps_set (i := 2) scN.nd rfl (Or.inl rfl) (pe_ix ix_list (pe_lst (pa_cons pe_int (pa_cons pe_int (pa_cons pe_int (pa_cons pe_int (pa_cons pe_int (pa_cons pe_int (pa_cons pe_int pa_nil)))))))) (pe_call GD hr1 (by rfl) mD FD.kp bD .nil pass0 (pa_cons (pv 0) (pa_cons pe_int pa_nil))) (fun _ _ => rfl)))
      (pss_cons (ps_set (i := 3) scN.nd rfl (Or.inl rfl) (pe_ix ix_str (pv 1) (pe_call GD hr1 (by rfl) mD FD.kp bD .nil pass0 (pa_cons (pv 0) (pa_cons pe_int pa_nil))) (fun _ _ => rfl)))
      (pss_cons (ps_for PassesOwn.never rfl (pi_range1 rfl mr (pa_cons (pv 2) pa_nil)) (pg_name (i := 4) scN.nd rfl (Or.inl rfl))
        (pss_one (ps_set (i := 3) scN.nd rfl (Or.inl rfl) (pe_op op_add_str (pv 3) (pe_ix ix_str (pe_op op_add_str (pv 1) pe_str) (pe_call GD hr1 (by rfl) mD FD.kp bD .nil pass0 (pa_cons (pv 0) (pa_cons pe_int pa_nil))) (fun _ _ => rfl))))))
      (pss_one (ps_ret (pe_ifExp (pt_cmpR op_ne (pe_slice sl_str (pv 3) po_none (po_some pe_int)) pe_str (nomark _)) (pv 3)
        (pe_op op_add_str pe_str (pe_slice sl_str (pv 3) (po_some pe_int) po_none)))))))), ?_⟩
    -- size
    refine ⟨(by show 7 ≤ sizeLine; decide), fun p1 n1 => ?_⟩
    have u1 := same_new (o := .lst [V.int 0, V.int 0, V.int 1, V.int 2, V.int 3, V.int 5, V.int 11]) n1
    have z1 := hs.ne n1
    refine ⟨_, rfl, a, c, m + 13, 7, rfl, hs.same u1, by decide, by decide, fun r1 H1 r10 r11 s1 k1 => ?_⟩
    have hl := k1 _ _ upd_same z1
    have size : ∃ sz : Nat, atI [V.int 0, V.int 0, V.int 1, V.int 2, V.int 3, V.int 5, V.int 11] r1 = some (.int sz) ∧ sz ≤ 11 := by
      obtain ⟨j, rfl⟩ : ∃ j : Nat, r1 = j := ⟨r1.toNat, by omega⟩
      have hj : j = 0 ∨ j = 1 ∨ j = 2 ∨ j = 3 ∨ j = 4 ∨ j = 5 ∨ j = 6 := by omega
      rcases hj with rfl | rfl | rfl | rfl | rfl | rfl | rfl
      · exact ⟨0, atI_nat (j := 0) rfl, by decide⟩
      · exact ⟨0, atI_nat (j := 1) rfl, by decide⟩
      · exact ⟨1, atI_nat (j := 2) rfl, by decide⟩
      · exact ⟨2, atI_nat (j := 3) rfl, by decide⟩
      · exact ⟨3, atI_nat (j := 4) rfl, by decide⟩
      · exact ⟨5, atI_nat (j := 5) rfl, by decide⟩
      · exact ⟨11, atI_nat (j := 6) rfl, by decide⟩
    obtain ⟨sz, esz, hsz⟩ := size
    refine ⟨p1, _, _, _, rfl, rfl, SqL.of hl, esz, ?_⟩
    -- found
    refine ⟨_, rfl, _, rfl, a, c, m + 12, 26, rfl, s1, by decide, by decide, fun r2 H2 r20 r21 s2 k2 => ?_⟩
    obtain ⟨c0, ec0, lc0⟩ := pick let_all let_len r20 r21
    refine ⟨_, _, _, rfl, rfl, (by decide +kernel), ec0, ?_⟩
    -- the loop
    refine ⟨_, rfl, _, rfl, by omega, by omega, for_range (lo := 0) (n := (sz : Int).toNat) (fun i σ H3 => ∃ (z : Str) (v : Option V), σ = [some (.ref a), some (.str letS), some (.int sz), some (.str z), v] ∧
      nmB z.cps.toList = true ∧ z.cps.toList.length = i + 1 ∧ SrcAt H3 a c (m + 12 - i) ∧ Keep a H H3) ⟨_, none, rfl, nm_one lc0, rfl, s2, ((Keep.of u1).trans k1).trans k2⟩ ?_ ?_⟩
    · rintro i σ H3 hi ⟨z, v, rfl, hz, lz, s3, k3⟩
      rw [Int.toNat_natCast] at hi
      have lz2 := length_toList z
      refine ⟨_, rfl, _, rfl, _, _, rfl, rfl, (by decide +kernel), ?_⟩
      have s3' : SrcAt H3 a c (m + 12 - (i + 1) + 1) := s3.mono (by omega)
      refine ⟨_, rfl, a, c, m + 12 - (i + 1), 36, rfl, s3', by decide, by decide, fun r4 H4 r40 r41 s4 k4 => ?_⟩
      obtain ⟨c4, ec4, lc4⟩ := pick sgn_all sgn_len r40 r41
      refine ⟨_, _, _, rfl, rfl, (by decide +kernel), ec4, ?_⟩
      refine ⟨_, _, rfl, rfl, ?_, ?_⟩
      · have e1 : (⟨#[c4]⟩ : Str).length = 1 := rfl
        rw [e1, sizeLine_eq]
        omega
      · refine ⟨_, _, rfl, ?_, ?_, s4, k3.trans k4⟩
        · rw [toList_append]
          cases hz2 : z.cps.toList with
          | nil =>
            rw [hz2] at hz
            cases hz
          | cons x xs =>
            rw [hz2] at hz lz
            simp only [nmB, Bool.and_eq_true, decide_eq_true_eq] at hz
            show nmB (x :: (xs ++ [c4])) = true
            simp only [List.length_cons] at lz
            simp only [nmB, List.all_append, List.length_append, Bool.and_eq_true, decide_eq_true_eq]
            refine ⟨⟨hz.1.1, hz.1.2, by simp [lc4]⟩, ?_⟩
            show xs.length + 1 ≤ 11
            omega
        · rw [toList_append, List.length_append, lz]
          rfl
    · rintro σ H3 ⟨z, v, rfl, hz, lz, s3, k3⟩
      rw [Int.toNat_natCast] at s3 lz
      have s3' : SrcAt H3 a c m := s3.mono (by omega)
      obtain ⟨_, l12, _⟩ := nm_sgns hz
      have lz2 := length_toList z
      have lzs : z.length ≤ sizeLine := by rw [sizeLine_eq]; omega
      refine ⟨_, rfl, 3, rfl, z, rfl, lzs, rfl, _, rfl, ?_⟩
      refine ite2 (fun _ => ?_) (fun _ => ?_)
      · exact ⟨_, rfl, k z H3 hz s3' k3⟩
      · refine ⟨_, rfl, 1, rfl, z, rfl, lzs, _, _, rfl, rfl, ?_, k _ H3 (nm_tail hz) s3' k3⟩
        have e1 : (Str.ofString "m").length = 1 := by decide +kernel
        have e2 : (cutS z (some 1) none).length ≤ z.length := by
          rw [← length_toList, ← length_toList]
          unfold cutS
          show ((z.cps.toList.drop _).take _).length ≤ _
          rw [List.length_take, List.length_drop]
          omega
        rw [e1, sizeLine_eq]
        omega
end
end L2.LawH
set_option Elab.async false
set_option linter.all false
set_option maxRecDepth 100000
set_option maxHeartbeats 4000000
/-! The helpers of the laws: lists of names. -/
namespace L2.LawH
open PySem PySem.Spec PyProof.Rows
open Builtin.Int (intBits)
abbrev sNames : Stmt := top 10
theorem nodup_len {α : Type} [DecidableEq α] : ∀ (l D : List α), l.Nodup → (∀ x ∈ l, x ∈ D) → l.length ≤ D.length
  | [], _, _, _ => Nat.zero_le _
  | x :: l, D, nd, h => by
    obtain ⟨n1, n2⟩ := List.nodup_cons.mp nd
    have hx := h x List.mem_cons_self
    have ih := nodup_len l (D.erase x) n2 fun y hy => by
      have ne : y ≠ x := fun z => n1 (by rw [← z]; exact hy)
      exact (List.mem_erase_of_ne ne).mpr (h y (List.mem_cons_of_mem _ hy))
    have e := List.length_erase_of_mem hx
    have pos : 0 < D.length := List.length_pos_of_mem hx
    rw [List.length_cons]
    omega
theorem op_notInK {X : Cx} {K : PySem.W.Frag} (e : X.K = K) : OpR X (compareOp .NotIn) (rIn K true) := by
  subst e
  exact op_notIn_seq
theorem inV_strs (q : Str) : ∀ L : List Str, inV (.str q) (L.map V.str) = decide (q ∈ L)
  | [] => by simp [inV]
  | x :: L => by
    have ih := inV_strs q L
    unfold inV at ih ⊢
    rw [List.map_cons, List.any_cons, ih]
    by_cases h : x = q
    · subst h
      simp [eqV]
    · have h' : ¬ q = x := fun z => h z.symm
      simp [eqV, h, h']
theorem flat_strs : ∀ L : List Str, (L.map V.str).all flatV = true
  | [] => rfl
  | _ :: L => by
    rw [List.map_cons, List.all_cons, flat_strs L]
    rfl
def qn (j : Nat) : Str := Str.ofString "q" ++ (toString (j : Int) : String)
theorem qn_ok : ((List.range 10).all fun j => nmB (qn j).cps.toList && decide ((qn j).length ≤ 3)) = true := by decide +kernel
theorem qn_nd : ((List.range 10).map qn).Nodup := by decide +kernel
def qs (n : Nat) : List Str := (List.range n).map qn
theorem qs_nd {n : Nat} (h : n ≤ 10) : (qs n).Nodup := by
  have e : qs n = ((List.range 10).map qn).take n := by
    unfold qs
    rw [← List.map_take, List.take_range, Nat.min_eq_left h]
  rw [e]
  exact qn_nd.sublist (List.take_sublist _ _)
theorem qs_len (n : Nat) : (qs n).length = n := by simp [qs]
theorem qs_get {n i : Nat} (h : i < n) : (qs n)[i]? = some (qn i) := by simp [qs, h]
theorem qs_nm {n : Nat} (h : n ≤ 10) {q : Str} (hq : q ∈ qs n) : Nm q := by
  obtain ⟨j, hj, rfl⟩ := List.mem_map.mp hq
  have h2 := List.all_eq_true.mp qn_ok j (List.mem_range.mpr (Nat.lt_of_lt_of_le (List.mem_range.mp hj) h))
  exact (Bool.and_eq_true_iff.mp h2).1
theorem qn_len {j : Nat} (h : j < 10) : (qn j).length ≤ 3 := by
  have h2 := List.all_eq_true.mp qn_ok j (List.mem_range.mpr h)
  exact of_decide_eq_true (Bool.and_eq_true_iff.mp h2).2
def free (L : List Str) (q : Str) : Bool := !decide (q ∈ L)
theorem some_free {L : List Str} {n : Nat} (h : n ≤ 10) (hl : L.length < n) : ∃ q r, (qs n).filter (free L) = q :: r ∧ Nm q ∧ q ∉ L := by
  cases e : (qs n).filter (free L) with
  | nil =>
    exfalso
    have all : ∀ q ∈ qs n, q ∈ L := by
      intro q hq
      have z := List.filter_eq_nil_iff.mp e q hq
      simpa [free] using z
    have := nodup_len _ _ (qs_nd h) all
    rw [qs_len] at this
    omega
  | cons q r =>
    have hm : q ∈ (qs n).filter (free L) := by
      rw [e]
      exact List.mem_cons_self
    obtain ⟨h1, h2⟩ := List.mem_filter.mp hm
    exact ⟨q, r, rfl, qs_nm h h1, by simpa [free] using h2⟩
theorem Keep.upd_new {a p : Addr} {H H' : Hp} {o : HO} (k : Keep a H H') (n : H p = none) : Keep a H (upd H' p o) := fun b u e nb => by
  rw [upd_ne (ne_of_none e n)]
  exact k b u e nb

def spNames : Sp := fun vs H Q _ => ∃ (a : Addr) (c : Int) (m cn : Nat), vs = [.ref a, .int cn] ∧ cn ≤ 9 ∧ SrcAt H a c (m + 14 * cn) ∧
  ∀ (p : Addr) (L : List Str) (H' : Hp), L.length = cn → (∀ z ∈ L, Nm z) → L.Nodup → H p = none → H' p = some (.lst (L.map V.str)) → SrcAt H' a c m → Keep a H H' → Q (.ref p) H'
section
variable {P : Program} {w : World} {K : PySem.W.Frag} {mg : Str → Option Value} {base : Heap}
abbrev nNames : List Str := ["_law_source_here", "_law_many", "_law_found", "_law_k", "_law_name_here", "_law_spare", "_law_one", "_law_j"]
theorem scNs : FnScope nNames ["_law_source_here", "_law_many"] (defScope sNames) := ⟨rfl, rfl, rfl, by decide +kernel, rfl, by decide +kernel, by decide +kernel⟩
theorem ok_names {f fN : Addr} {fd fdN : FuncData} (F : Fun K "_law_names" "_law_names" sNames f fd) (GN : FnOk P w K mg base CX0 2 fN fdN ["_law_source_here"] spName)
    (kN : PySem.W.keepIn K (.ref fN) = true) (bN : Binds K fdN ["_law_source_here"] []) (mN : mg "_law_name" = some (.ref fN)) (mr : mg "range" = none) (ms : mg "str" = none) :
    FnOk P w K mg base CX0 3 f fd ["_law_source_here", "_law_many"] spNames := by
  refine F.ok scNs (fun vs H Q E h => ?_) (fun cdv A outer s H vs Q E hr h => ?_)
  · obtain ⟨a, c, m, cn, rfl, _⟩ := h
    rfl
  · obtain ⟨a, c, m, cn, rfl, hcn, hs, k⟩ := h
    have hr2 : Room 2 _ := hr.mono (by decide)
    refine ⟨_, pss_cons (ps_set (i := 2) scNs.nd rfl (Or.inr rfl) (pe_lst pa_nil))
      (pss_cons (ps_for PassesOwn.never rfl (pi_range1 rfl mr (pa_cons (pv 1) pa_nil)) (pg_name (i := 3) scNs.nd rfl (Or.inl rfl))
        (pss_cons (ps_set (i := 4) scNs.nd rfl (Or.inl rfl) (pe_call GN hr2 (by rfl) mN kN bN .nil pass0 (pa_cons (pv 0) pa_nil)))
        (pss_cons (ps_setLc (i := 5) (own := [("_law_one", 6)]) (g := gName 6) (tt := tTest (tOp (rIn K true) (tVar 6) (tVar 2))) rfl scNs.nd rfl rfl (sw_true rfl rfl rfl (by decide +kernel))
            (pi_list (pe_lc (own := [("_law_j", 7)]) (g := gName 7) (tt := tYes) rfl scNs.nd (pi_range1 rfl mr (pa_cons (pe_op op_add (pv 1) pe_int) pa_nil))
              (blkOk_by (own := [("_law_j", 7)]) (N := nNames) (sc := defScope sNames) (by decide +kernel))
              (fun _ _ _ _ _ => pg_name (i := 7) scNs.nd rfl (Or.inl rfl)) (fun _ _ _ _ _ => pts_nil)
              (fun _ _ _ _ _ => pe_op op_add_str pe_str (pe_callTy call_str_int (by rfl) ms (by decide +kernel) (pa_cons (pv 7) pa_nil)))))
            (blkOk_by (own := [("_law_one", 6)]) (N := nNames) (sc := defScope sNames) (by decide +kernel))
            (fun _ _ _ _ _ => pg_name (i := 6) scNs.nd rfl (Or.inl rfl)) (fun _ _ _ _ _ => pts_one (pt_cmpR (op_notInK rfl) (pv 6) (pv 2) (by rfl))) (fun _ _ _ _ _ => pv 6))
        (pss_one (ps_expr (pe_bm PySem.F.plainAttrs_list PySem.F.slot_list_append PySem.F.type_list_append mt_append (pv 2)
          (pa_cons (pe_ifExp (pt_cmpR op_notIn_seq (pv 4) (pv 2) (by rfl)) (pv 4) (pe_ix ix_list (pv 5) pe_int (fun _ _ => rfl))) pa_nil)))))))
      (pss_one (ps_ret (pv 2)))), ?_⟩
    refine ⟨(by show 0 ≤ sizeLine; decide), fun p np => ?_⟩
    have pa := hs.ne np
    refine ⟨_, rfl, _, rfl, by omega, by omega, for_range (lo := 0) (n := (cn : Int).toNat) (fun i σ H3 => ∃ (L : List Str) (v3 v4 v5 v6 v7 : Option V), σ = [some (.ref a), some (.int cn), some (.ref p), v3, v4, v5, v6, v7] ∧
      L.length = i ∧ (∀ z ∈ L, Nm z) ∧ L.Nodup ∧ H3 p = some (.lst (L.map V.str)) ∧ SrcAt H3 a c (m + 14 * (cn - i)) ∧ Keep a H H3)
      ⟨[], none, none, none, none, none, rfl, rfl, fun _ z => (by cases z), List.nodup_nil, upd_same, (hs.same (same_new np)).mono (by omega), Keep.of (same_new np)⟩ ?_ ?_⟩
    · rintro i σ H3 hi ⟨L, v3, v4, v5, v6, v7, rfl, hl, hnm, hnd, h3, s3, k3⟩
      rw [Int.toNat_natCast] at hi
      -- name_here
      have s3' : SrcAt H3 a c (m + 14 * (cn - (i + 1)) + 14) := s3.mono (by omega)
      refine ⟨_, rfl, a, c, m + 14 * (cn - (i + 1)), rfl, s3', fun z H4 nz s4 k4 => ?_⟩
      have h4 := k4 _ _ h3 pa
      -- spare: the inner list
      refine ⟨_, rfl, _, _, rfl, rfl, _, rfl, by omega, by omega, fun D nD => ?_⟩
      have tn : ((cn : Int) + 1).toNat = cn + 1 := by omega
      rw [tn]
      refine lc_range (lo := 0) (n := cn + 1) (fun j H5 => Same H4 H5 ∧ H5 D = some (.lst (((qs (cn + 1)).take j).map V.str))) ⟨same_new nD, upd_same⟩ ?_ ?_
      · rintro j H5 hj ⟨s5, hD⟩
        refine ⟨rfl, ?_⟩
        dsimp only [tYes]
        rw [if_pos rfl]
        have e0 : (0 : Int) + (j : Int) = (j : Int) := by omega
        rw [e0]
        have sz : (toString (j : Int) : String) = toString (j : Int) := rfl
        have l3 : (Str.ofString "q" ++ ((toString (j : Int) : String) : Str)).length ≤ 3 := qn_len (j := j) (by omega)
        have lsum : (Str.ofString "q").length + ((toString (j : Int) : String) : Str).length ≤ sizeLine := by
          have e1 : (Str.ofString "q" ++ ((toString (j : Int) : String) : Str)).length = (Str.ofString "q").length + ((toString (j : Int) : String) : Str).length := by
            rw [← length_toList, toList_append, List.length_append, length_toList, length_toList]
          rw [e1] at l3
          rw [sizeLine_eq]
          omega
        have lg : ((j : Int)).natAbs.log2 < 1920 := by
          have : ((j : Int)).natAbs < 2 ^ 11 := by
            have e2 : (2 : Nat) ^ 11 = 2048 := by decide
            rw [e2]
            omega
          have h9 : ((j : Int)).natAbs.log2 ≤ 11 := by
            by_cases z : ((j : Int)).natAbs = 0
            · rw [z]
              decide
            · exact Nat.le_of_lt ((Nat.log2_lt z).mpr this)
          omega
        refine ⟨_, rfl, _, rfl, lg, _, _, rfl, rfl, lsum, _, hD, ?_, fun b o e => ?_, ?_⟩
        · rw [List.length_map, List.length_take, qs_len]
          refine Nat.lt_of_le_of_lt (Nat.min_le_right _ _) ?_
          rw [sizeLine_eq]
          omega
        · rw [upd_ne (ne_of_none e nD)]
          exact s5 b o e
        · rw [upd_same, List.take_add_one, qs_get hj]
          simp [qn]
      · rintro H5 ⟨s5, hD⟩
        have hD' : H5 D = some (.lst ((qs (cn + 1)).map V.str)) := by
          rw [hD, List.take_of_length_le (by rw [qs_len]; exact Nat.le_refl _)]
        have h5 := s5 _ _ h4
        -- spare: the outer list
        refine ⟨D, rfl, ⟨_, SqL.of hD'⟩, fun D2 nD2 => ?_⟩
        refine lc_list (K := K) (a := D) (xs := (qs (cn + 1)).map V.str) (fun j H6 => Same H5 H6 ∧ H6 D2 = some (.lst ((((qs (cn + 1)).take j).filter (free L)).map V.str)))
          ⟨same_new nD2, upd_same⟩ (fun j H6 _ h6 => h6.1.seq (SqL.of hD')) ?_ ?_
        · rintro j v H6 hj ⟨s6, hD2⟩
          rw [List.getElem?_map] at hj
          cases eb : (qs (cn + 1))[j]? with
          | none =>
            rw [eb] at hj
            cases hj
          | some q =>
            rw [eb] at hj
            cases hj
            have h6 := s6 _ _ h5
            refine ⟨rfl, _, rfl, _, rfl, p, _, rfl, .inl (SqL.of h6), rfl, flat_strs L, _, rfl, ?_⟩
            rw [List.take_add_one, eb, List.filter_append]
            have e2 : (if true = true then !inV (V.str q) (L.map V.str) else inV (V.str q) (L.map V.str)) = free L q := by
              rw [if_pos rfl, inV_strs]
              rfl
            rw [e2]
            cases ef : free L q with
            | true =>
              refine iteT ?_
              refine ⟨_, rfl, _, hD2, ?_, fun b o e => ?_, ?_⟩
              · rw [List.length_map]
                refine Nat.lt_of_le_of_lt (List.length_filter_le _ _) ?_
                rw [List.length_take, qs_len, sizeLine_eq]
                omega
              · rw [upd_ne (ne_of_none e nD2)]
                exact s6 b o e
              · rw [upd_same]
                simp [ef]
            | false =>
              refine iteF ?_
              refine ⟨s6, ?_⟩
              rw [hD2]
              simp [ef]
        · rintro H6 ⟨s6, hD2⟩
          have hD2' : H6 D2 = some (.lst (((qs (cn + 1)).filter (free L)).map V.str)) := by
            rw [hD2, List.length_map, List.take_of_length_le (Nat.le_refl _)]
          have h6 := s6 _ _ h5
          have s46 : Same H4 H6 := s5.trans s6
          -- found.append(..)
          obtain ⟨q, r, eq, nq, fq⟩ := some_free (L := L) (n := cn + 1) (by omega) (by omega)
          refine ⟨_, rfl, .inl ⟨rfl, _, .inl (.inl h6)⟩, ?_⟩
          refine ⟨_, rfl, _, rfl, p, _, rfl, .inl (SqL.of h6), rfl, flat_strs L, _, rfl, ?_⟩
          have e2 : (if true = true then !inV (V.str z) (L.map V.str) else inV (V.str z) (L.map V.str)) = free L z := by
            rw [if_pos rfl, inV_strs]
            rfl
          rw [e2]
          have few : (L.map V.str).length < sizeLine := by
            rw [List.length_map, sizeLine_eq]
            omega
          have fin : ∀ t : Str, Nm t → t ∉ L → ∃ (L' : List Str) (w3 w4 w5 w6 w7 : Option V), [some (.ref a), some (.int cn), some (.ref p), some (V.int (0 + (i : Int))), some (.str z), some (.ref D2), v6, v7] = [some (.ref a), some (.int cn), some (.ref p), w3, w4, w5, w6, w7] ∧
              L'.length = i + 1 ∧ (∀ z ∈ L', Nm z) ∧ L'.Nodup ∧ (upd H6 p (.lst (L.map V.str ++ [V.str t]))) p = some (.lst (L'.map V.str)) ∧ SrcAt (upd H6 p (.lst (L.map V.str ++ [V.str t]))) a c (m + 14 * (cn - (i + 1))) ∧ Keep a H (upd H6 p (.lst (L.map V.str ++ [V.str t]))) := by
            intro t nt ft
            refine ⟨L ++ [t], _, _, _, _, _, rfl, by simp [hl], fun y hy => ?_, ?_, by rw [upd_same]; simp, ?_, ?_⟩
            · rcases List.mem_append.mp hy with hy | hy
              · exact hnm y hy
              · have : y = t := by simpa using hy
                rw [this]
                exact nt
            · rw [List.nodup_append]
              refine ⟨hnd, by simp, fun x hx y hy e => ?_⟩
              have : y = t := by simpa using hy
              rw [e, this] at hx
              exact ft hx
            · obtain ⟨d, n, e, g⟩ := s4.same s46
              exact ⟨d, n, by rw [upd_ne pa.symm]; exact e, g⟩
            · exact ((k3.trans k4).trans (Keep.of s46)).upd_new np
          cases ef : free L z with
          | true =>
            refine iteT ?_
            refine ⟨_, rfl, p, _, _, rfl, rfl, h6, few, ?_⟩
            exact fin z nz (by simpa [free] using ef)
          | false =>
            refine iteF ?_
            refine ⟨_, rfl, D2, _, 0, .str q, rfl, rfl, SqL.of hD2', ?_, p, _, _, rfl, rfl, h6, few, ?_⟩
            · rw [eq]
              exact atI_nat (j := 0) rfl
            · exact fin q nq fq
    · rintro σ H3 ⟨L, v3, v4, v5, v6, v7, rfl, hl, hnm, hnd, h3, s3, k3⟩
      rw [Int.toNat_natCast] at hl
      exact ⟨_, rfl, k p L H3 hl hnm hnd np h3 (s3.mono (by omega)) k3⟩
end
end L2.LawH
set_option Elab.async false
set_option linter.all false
set_option maxRecDepth 100000
set_option maxHeartbeats 4000000
/-! The helpers of the laws: the pool of tables, constants and variables. -/
namespace L2.LawH
open PySem PySem.Spec PyProof.Rows
open Builtin.Int (intBits)
abbrev sPool : Stmt := top 11
theorem ix_listK {X : Cx} {K : PySem.W.Frag} (e : X.K = K) : IxR X (rIxL K) := by
  subst e
  exact ix_list
/-- a variable -/
def Vr (z : Str) : Prop := ∃ y : Str, Nm y ∧ z = Str.ofString "?" ++ y
structure Pool where
  (r cs vs : Addr)
  rows : List (Addr × Str × Nat)
  (C W : List Str)
structure PoolAt (a : Addr) (H : Hp) (p : Addr) (π : Pool) : Prop where
  hp : H p = some (.lst [.ref π.r, .ref π.cs, .ref π.vs])
  hr : H π.r = some (.lst (π.rows.map fun x => V.ref x.1))
  hrow : ∀ x ∈ π.rows, H x.1 = some (.tup [.str x.2.1, .int (x.2.2 : Nat)]) ∧ Nm x.2.1 ∧ x.2.2 ≤ 3 ∧ x.1 ≠ a
  rows1 : 1 ≤ π.rows.length
  rows9 : π.rows.length ≤ 9
  hc : H π.cs = some (.lst (π.C.map V.str))
  nC : ∀ z ∈ π.C, Nm z
  C2 : 2 ≤ π.C.length
  C9 : π.C.length ≤ 9
  hv : H π.vs = some (.lst (π.W.map V.str))
  nW : ∀ z ∈ π.W, Vr z
  W9 : π.W.length = 9
  np : p ≠ a
  nr : π.r ≠ a
  nc : π.cs ≠ a
  nv : π.vs ≠ a
theorem PoolAt.keep {a : Addr} {H H' : Hp} {p : Addr} {π : Pool} (h : PoolAt a H p π) (k : Keep a H H') : PoolAt a H' p π :=
  ⟨k _ _ h.hp h.np, k _ _ h.hr h.nr, fun x hx => let ⟨h1, h2, h3, h4⟩ := h.hrow x hx; ⟨k _ _ h1 h4, h2, h3, h4⟩, h.rows1, h.rows9, k _ _ h.hc h.nc, h.nC, h.C2, h.C9, k _ _ h.hv h.nv, h.nW, h.W9, h.np, h.nr, h.nc, h.nv⟩
def spPool : Sp := fun vs H Q _ => ∃ (a : Addr) (c : Int) (m : Nat), vs = [.ref a] ∧ SrcAt H a c (m + 300) ∧
  ∀ (p : Addr) (π : Pool) (H' : Hp), PoolAt a H' p π → SrcAt H' a c m → Keep a H H' → Q (.ref p) H'
section
variable {P : Program} {w : World} {K : PySem.W.Frag} {mg : Str → Option Value} {base : Heap}
abbrev nPool : List Str := ["_law_source_here", "_law_tables", "_law_sizes", "_law_constants", "_law_variables", "_law_rows", "_law_k", "_law_name_here"]
theorem scP : FnScope nPool ["_law_source_here"] (defScope sPool) := ⟨rfl, rfl, rfl, by decide +kernel, rfl, by decide +kernel, by decide +kernel⟩
theorem menu8 {r : Int} (h0 : 0 ≤ r) (h1 : r < 8) : ∃ n : Nat, atI [V.int 2, V.int 1, V.int 2, V.int 3, V.int 2, V.int 0, V.int 1, V.int 2] r = some (.int n) ∧ n ≤ 3 := by
  obtain ⟨j, rfl⟩ : ∃ j : Nat, r = j := ⟨r.toNat, by omega⟩
  have hj : j = 0 ∨ j = 1 ∨ j = 2 ∨ j = 3 ∨ j = 4 ∨ j = 5 ∨ j = 6 ∨ j = 7 := by omega
  rcases hj with rfl | rfl | rfl | rfl | rfl | rfl | rfl | rfl
  · exact ⟨2, atI_nat (j := 0) rfl, by decide⟩
  · exact ⟨1, atI_nat (j := 1) rfl, by decide⟩
  · exact ⟨2, atI_nat (j := 2) rfl, by decide⟩
  · exact ⟨3, atI_nat (j := 3) rfl, by decide⟩
  · exact ⟨2, atI_nat (j := 4) rfl, by decide⟩
  · exact ⟨0, atI_nat (j := 5) rfl, by decide⟩
  · exact ⟨1, atI_nat (j := 6) rfl, by decide⟩
  · exact ⟨2, atI_nat (j := 7) rfl, by decide⟩
theorem menu4 {r : Int} (h0 : 0 ≤ r) (h1 : r < 4) : ∃ n : Nat, atI [V.int 1, V.int 3, V.int 0, V.int 1] r = some (.int n) ∧ n ≤ 3 := by
  obtain ⟨j, rfl⟩ : ∃ j : Nat, r = j := ⟨r.toNat, by omega⟩
  have hj : j = 0 ∨ j = 1 ∨ j = 2 ∨ j = 3 := by omega
  rcases hj with rfl | rfl | rfl | rfl
  · exact ⟨1, atI_nat (j := 0) rfl, by decide⟩
  · exact ⟨3, atI_nat (j := 1) rfl, by decide⟩
  · exact ⟨0, atI_nat (j := 2) rfl, by decide⟩
  · exact ⟨1, atI_nat (j := 3) rfl, by decide⟩
theorem ints_get {Z : List Nat} {i : Nat} (h : i < Z.length) : (Z.map fun n : Nat => V.int (n : Int))[i]? = some (.int (Z[i] : Nat)) := by
  rw [List.getElem?_map, List.getElem?_eq_getElem h]
  rfl
theorem strs_get {L : List Str} {i : Nat} (h : i < L.length) : (L.map V.str)[i]? = some (.str L[i]) := by
  rw [List.getElem?_map, List.getElem?_eq_getElem h]
  rfl
theorem ok_pool {f fD fS : Addr} {fd fdD fdS : FuncData} (F : Fun K "_law_pool" "_law_pool" sPool f fd)
    (GD : FnOk P w K mg base CX0 1 fD fdD ["_law_source_here", "_law_limit"] spDraw) (kD : PySem.W.keepIn K (.ref fD) = true) (bD : Binds K fdD ["_law_source_here", "_law_limit"] []) (mD : mg "_law_draw" = some (.ref fD))
    (GS : FnOk P w K mg base CX0 3 fS fdS ["_law_source_here", "_law_many"] spNames) (kS : PySem.W.keepIn K (.ref fS) = true) (bS : Binds K fdS ["_law_source_here", "_law_many"] []) (mS : mg "_law_names" = some (.ref fS))
    (mr : mg "range" = none) (ml : mg "len" = none) :
    FnOk P w K mg base CX0 4 f fd ["_law_source_here"] spPool := by
  refine F.ok scP (fun vs H Q E h => ?_) (fun cdv A outer s H vs Q E hr h => ?_)
  · obtain ⟨a, c, m, rfl, _⟩ := h
    rfl
  · obtain ⟨a, c, m, rfl, hs, k⟩ := h
    have hr1 : Room 1 _ := hr.mono (by decide)
    refine ⟨_, pss_cons (ps_set (i := 1) scP.nd rfl (Or.inr rfl) (pe_call GS hr (by rfl) mS kS bS .nil pass0 (pa_cons (pv 0) (pa_cons (pe_op op_add pe_int (pe_call GD hr1 (by rfl) mD kD bD .nil pass0 (pa_cons (pv 0) (pa_cons pe_int pa_nil)))) pa_nil))))
      (pss_cons (ps_set (i := 2) scP.nd rfl (Or.inr rfl) (pe_op op_cat (pe_lst (pa_cons pe_int pa_nil))
        (pe_lc (own := [("_law_k", 6)]) (g := gName 6) (tt := tYes) rfl scP.nd (pi_range1 (by rfl) mr (pa_cons (pe_op op_sub (pe_callB call_len_seq (by rfl) ml (by decide +kernel) (pa_cons (pv 1) pa_nil)) pe_int) pa_nil))
          (blkOk_by (own := [("_law_k", 6)]) (N := nPool) (sc := defScope sPool) (by decide +kernel)) (fun _ _ _ _ _ => pg_name (i := 6) scP.nd rfl (Or.inl rfl)) (fun _ _ _ _ _ => pts_nil)
          (fun _ _ _ _ _ => pe_ix (ix_listK rfl) (pe_lst (pa_cons pe_int (pa_cons pe_int (pa_cons pe_int (pa_cons pe_int (pa_cons pe_int (pa_cons pe_int (pa_cons pe_int (pa_cons pe_int pa_nil))))))))) (pe_call GD hr1 (by rfl) mD kD bD .nil pass0 (pa_cons (pv 0) (pa_cons pe_int pa_nil))) (fun _ _ => rfl)))))
      (pss_cons (ps_set (i := 3) scP.nd rfl (Or.inl rfl) (pe_call GS hr (by rfl) mS kS bS .nil pass0 (pa_cons (pv 0) (pa_cons (pe_op op_add pe_int (pe_call GD hr1 (by rfl) mD kD bD .nil pass0 (pa_cons (pv 0) (pa_cons pe_int pa_nil)))) pa_nil))))
      (pss_cons (ps_setLc (i := 4) (own := [("_law_name_here", 7)]) (g := gName 7) (tt := tYes) rfl scP.nd rfl rfl (sw_true rfl rfl rfl (by decide +kernel))
          (pi_list (pe_call GS hr (by rfl) mS kS bS .nil pass0 (pa_cons (pv 0) (pa_cons pe_int pa_nil))))
          (blkOk_by (own := [("_law_name_here", 7)]) (N := nPool) (sc := defScope sPool) (by decide +kernel)) (fun _ _ _ _ _ => pg_name (i := 7) scP.nd rfl (Or.inl rfl)) (fun _ _ _ _ _ => pts_nil)
          (fun _ _ _ _ _ => pe_op op_add_str pe_str (pv 7)))
      (pss_cons (ps_setLc (i := 5) (own := [("_law_k", 6)]) (g := gName 6) (tt := tYes) rfl scP.nd rfl rfl (sw_true rfl rfl rfl (by decide +kernel))
          (pi_range1 (by rfl) mr (pa_cons (pe_callB call_len_seq (by rfl) ml (by decide +kernel) (pa_cons (pv 1) pa_nil)) pa_nil))
          (blkOk_by (own := [("_law_k", 6)]) (N := nPool) (sc := defScope sPool) (by decide +kernel)) (fun _ _ _ _ _ => pg_name (i := 6) scP.nd rfl (Or.inl rfl)) (fun _ _ _ _ _ => pts_nil)
          (fun _ _ _ _ _ => pe_tup (pa_cons (pe_ix (ix_listK rfl) (pv 1) (pv 6) (fun _ _ => rfl)) (pa_cons (pe_ix (ix_listK rfl) (pv 2) (pv 6) (fun _ _ => rfl)) pa_nil))))
      (pss_cons (ps_if (pt_cmpR op_eq (pe_call GD hr1 (by rfl) mD kD bD .nil pass0 (pa_cons (pv 0) (pa_cons pe_int pa_nil))) pe_int (nomark _))
        (pss_one (ps_expr (pe_bm PySem.F.plainAttrs_list PySem.F.slot_list_append PySem.F.type_list_append mt_append (pv 5)
          (pa_cons (pe_tup (pa_cons (pe_ix ix_list (pv 1) pe_int (fun _ _ => rfl)) (pa_cons (pe_ix ix_list (pe_lst (pa_cons pe_int (pa_cons pe_int (pa_cons pe_int (pa_cons pe_int pa_nil))))) (pe_call GD hr1 (by rfl) mD kD bD .nil pass0 (pa_cons (pv 0) (pa_cons pe_int pa_nil))) (fun _ _ => rfl)) pa_nil))) pa_nil)))) pss_nil)
      (pss_one (ps_ret (pe_lst (pa_cons (pv 5) (pa_cons (pv 3) (pa_cons (pv 4) pa_nil))))))))))), ?_⟩
    -- tables
    refine ⟨_, rfl, _, rfl, a, c, m + 299, 3, rfl, hs, by decide, by decide, fun r1 H1 r10 r11 s1 k1 => ⟨_, _, rfl, rfl, ?_⟩⟩
    obtain ⟨j1, rfl⟩ : ∃ j : Nat, r1 = j := ⟨r1.toNat, by omega⟩
    refine ⟨a, c, m + 240, 2 + j1, rfl, by omega, s1.mono (by omega), fun t L H2 lL nL ndL nt ht s2 k2 => ?_⟩
    have ta : t ≠ a := s1.ne nt
    have K2 := k1.trans k2
    -- sizes
    refine ⟨(by show 1 ≤ sizeLine; decide), fun pA nA => ?_⟩
    have uA := same_new (o := .lst [V.int 2]) nA
    have zA := s2.ne nA
    refine ⟨_, rfl, t, _, rfl, .inl (SqL.of (uA _ _ ht)), _, _, rfl, rfl, ?_⟩
    have lS : (L.map V.str).length = 2 + j1 := by rw [List.length_map, lL]
    refine ⟨_, rfl, by rw [lS]; omega, by rw [lS]; omega, fun D nD => ?_⟩
    have tn : (((L.map V.str).length : Int) - 1).toNat = 1 + j1 := by rw [lS]; omega
    rw [tn]
    have sA := s2.same uA
    have zD := sA.ne nD
    refine lc_range (lo := 0) (n := 1 + j1) (fun j H5 => ∃ Z : List Nat, Z.length = j ∧ (∀ n ∈ Z, n ≤ 3) ∧ H5 D = some (.lst (Z.map fun n : Nat => V.int (n : Int))) ∧ SrcAt H5 a c (m + 239 - j) ∧ Keep a H H5 ∧ H5 t = some (.lst (L.map V.str)) ∧ H5 pA = some (.lst [V.int 2]))
      ⟨[], rfl, fun _ z => (by cases z), upd_same, (sA.same (same_new nD)).mono (by omega), K2.trans (Keep.of (uA.trans (same_new nD))), (same_new nD) _ _ (uA _ _ ht), (same_new nD) _ _ upd_same⟩ ?_ ?_
    · rintro j H5 hj ⟨Z, lZ, Z3, hD, s5, k5, t5, a5⟩
      refine ⟨rfl, ?_⟩
      dsimp only [tYes]
      rw [if_pos rfl]
      refine ⟨(by show 8 ≤ sizeLine; decide), fun p8 n8 => ?_⟩
      have u8 := same_new (o := .lst [V.int 2, V.int 1, V.int 2, V.int 3, V.int 2, V.int 0, V.int 1, V.int 2]) n8
      have z8 := s5.ne n8
      refine ⟨_, rfl, a, c, m + 239 - (j + 1), 8, rfl, (s5.same u8).mono (by omega), by decide, by decide, fun r H6 r0 r1 s6 k6 => ?_⟩
      obtain ⟨n, en, n3⟩ := menu8 r0 r1
      refine ⟨p8, _, _, _, rfl, rfl, SqL.of (k6 _ _ upd_same z8), en, _, k6 _ _ (u8 _ _ hD) zD, ?_, Z ++ [n], ?_, ?_, ?_, ?_, ?_, ?_, ?_⟩
      · rw [List.length_map, lZ, sizeLine_eq]
        omega
      · simp [lZ]
      · intro x hx
        rcases List.mem_append.mp hx with hx | hx
        · exact Z3 x hx
        · have e : x = n := by simpa using hx
          rw [e]
          exact n3
      · rw [upd_same]
        simp
      · obtain ⟨d, nn, e, g⟩ := s6
        exact ⟨d, nn, by rw [upd_ne zD.symm]; exact e, g⟩
      · have kk : Keep a H H6 := (k5.trans (Keep.of u8)).trans k6
        intro b o e nb
        by_cases hb : b = D
        · exfalso
          subst hb
          have q := (K2.trans (Keep.of uA)) _ _ e nb
          rw [nD] at q
          cases q
        · rw [upd_ne hb]
          exact kk b o e nb
      · have tD : t ≠ D := ne_of_none (uA _ _ ht) nD
        rw [upd_ne tD]
        exact k6 _ _ (u8 _ _ t5) ta
      · have aD : pA ≠ D := ne_of_none (upd_same (H := H2) (o := .lst [V.int 2])) nD
        rw [upd_ne aD]
        exact k6 _ _ (u8 _ _ a5) zA
    · rintro H5 ⟨Z, lZ, Z3, hD, s5, k5, t5, a5⟩
      refine ⟨pA, D, _, _, rfl, rfl, a5, hD, ?_, fun pZ nZ => ?_⟩
      · rw [List.length_map, lZ, sizeLine_eq]
        show 1 + (1 + j1) ≤ _
        omega
      have uZ := same_new (o := .lst ([V.int 2] ++ Z.map fun n : Nat => V.int (n : Int))) nZ
      have zZ := s5.ne nZ
      have sZ : SrcAt _ a c (m + 235) := (s5.same uZ).mono (by omega)
      have hZ : (upd H5 pZ (.lst ([V.int 2] ++ Z.map fun n : Nat => V.int (n : Int)))) pZ = some (.lst ((2 :: Z).map fun n : Nat => V.int (n : Int))) := upd_same
      -- constants
      refine ⟨_, rfl, _, rfl, a, c, m + 234, 3, rfl, sZ, by decide, by decide, fun r2 H6 r20 r21 s6 k6 => ⟨_, _, rfl, rfl, ?_⟩⟩
      obtain ⟨j2, rfl⟩ : ∃ j : Nat, r2 = j := ⟨r2.toNat, by omega⟩
      refine ⟨a, c, m + 150, 2 + j2, rfl, by omega, s6.mono (by omega), fun pC C H7 lC nC ndC ntC hC s7 k7 => ?_⟩
      have zC := s6.ne ntC
      have t7 := k7 _ _ (k6 _ _ (uZ _ _ t5) ta) ta
      have z7 := k7 _ _ (k6 _ _ hZ zZ) zZ
      have kH7 := ((k5.trans (Keep.of uZ)).trans k6).trans k7
      -- variables
      refine ⟨_, rfl, a, c, m + 20, 9, rfl, by decide, s7.mono (by omega), fun pN N9 H8 lN nN ndN ntN hN s8 k8 => ?_⟩
      have t8 := k8 _ _ t7 ta
      have z8 := k8 _ _ z7 zZ
      have c8 := k8 _ _ hC zC
      have kH8 := kH7.trans k8
      refine ⟨pN, rfl, ⟨_, SqL.of hN⟩, fun DV nDV => ?_⟩
      have zV := s8.ne nDV
      refine lc_list (K := K) (a := pN) (xs := N9.map V.str) (fun j H9 => Same H8 H9 ∧ H9 DV = some (.lst (((N9.take j).map fun y => Str.ofString "?" ++ y).map V.str)))
        ⟨same_new nDV, upd_same⟩ (fun j H9 _ h9 => h9.1.seq (SqL.of hN)) ?_ ?_
      · rintro j v H9 hj ⟨s9, hDV⟩
        rw [List.getElem?_map] at hj
        cases eb : N9[j]? with
        | none =>
          rw [eb] at hj
          cases hj
        | some y =>
          rw [eb] at hj
          cases hj
          refine ⟨rfl, ?_⟩
          dsimp only [tYes]
          rw [if_pos rfl]
          have ny := nN y (List.mem_of_getElem? eb)
          obtain ⟨_, l12, _⟩ := nm_sgns ny
          have ly := length_toList y
          refine ⟨_, rfl, _, _, rfl, rfl, ?_, _, hDV, ?_, fun b o e => ?_, ?_⟩
          · have e1 : (Str.ofString "?").length = 1 := by decide +kernel
            rw [e1, sizeLine_eq]
            omega
          · rw [List.length_map, List.length_map, List.length_take, lN, sizeLine_eq]
            omega
          · rw [upd_ne (ne_of_none e nDV)]
            exact s9 b o e
          · rw [upd_same, List.take_add_one, eb]
            simp
      · rintro H9 ⟨s9, hDV⟩
        rw [List.length_map, List.take_of_length_le (Nat.le_refl _)] at hDV
        have t9 := s9 _ _ t8
        have z9 := s9 _ _ z8
        have c9 := s9 _ _ c8
        have sr9 := s8.same s9
        have kH9 := kH8.trans (Keep.of s9)
        -- rows
        refine ⟨_, rfl, t, _, rfl, .inl (SqL.of t9), _, rfl, by rw [lS]; omega, by rw [lS]; omega, fun DR nDR => ?_⟩
        have tn2 : (((L.map V.str).length : Int)).toNat = 2 + j1 := by rw [lS]; omega
        rw [tn2]
        have zR := sr9.ne nDR
        refine lc_range (lo := 0) (n := 2 + j1) (fun j H10 => ∃ rows : List (Addr × Str × Nat), rows.length = j ∧ Same H9 H10 ∧ H10 DR = some (.lst (rows.map fun x => V.ref x.1)) ∧
          ∀ x ∈ rows, H10 x.1 = some (.tup [.str x.2.1, .int (x.2.2 : Nat)]) ∧ Nm x.2.1 ∧ x.2.2 ≤ 3 ∧ x.1 ≠ a ∧ x.1 ≠ DR)
          ⟨[], rfl, same_new nDR, upd_same, fun _ z => by cases z⟩ ?_ ?_
        · rintro j H10 hj ⟨rows, lR, s10, hDR, all⟩
          refine ⟨rfl, ?_⟩
          dsimp only [tYes]
          rw [if_pos rfl]
          have e0 : (0 : Int) + (j : Int) = (j : Int) := by omega
          rw [e0]
          have jL : j < L.length := by omega
          have jZ : j < (2 :: Z).length := by simp; omega
          refine ⟨_, rfl, _, rfl, t, _, _, _, rfl, rfl, SqL.of (s10 _ _ t9), atI_nat (strs_get jL), _, rfl, _, rfl, pZ, _, _, _, rfl, rfl, SqL.of (s10 _ _ z9), atI_nat (ints_get jZ), (by show 2 ≤ sizeLine; decide), fun pt npt => ?_⟩
          have upt := same_new (o := .tup [V.str L[j], V.int (((2 :: Z)[j] : Nat) : Int)]) npt
          have zpt : pt ≠ a := (sr9.same s10).ne npt
          have zDR : pt ≠ DR := (ne_of_none hDR npt).symm
          have z3 : (2 :: Z)[j] ≤ 3 := by
            have hm : (2 :: Z)[j] ∈ (2 :: Z) := List.getElem_mem jZ
            rcases List.mem_cons.mp hm with e | e
            · rw [e]
              decide
            · exact Z3 _ e
          refine ⟨_, upt _ _ hDR, ?_, rows ++ [(pt, L[j], (2 :: Z)[j])], by simp [lR], fun b o e => ?_, by rw [upd_same]; simp, fun x hx => ?_⟩
          · rw [List.length_map, lR, sizeLine_eq]
            omega
          · rw [upd_ne (ne_of_none e nDR)]
            exact upt _ _ (s10 b o e)
          · rcases List.mem_append.mp hx with hx | hx
            · obtain ⟨h1, h2, h3, h4, h5⟩ := all x hx
              exact ⟨by rw [upd_ne h5]; exact upt _ _ h1, h2, h3, h4, h5⟩
            · have e : x = (pt, L[j], (2 :: Z)[j]) := by simpa using hx
              rw [e]
              exact ⟨by rw [upd_ne zDR]; exact upd_same, nL _ (List.getElem_mem jL), z3, zpt, zDR⟩
        · rintro H10 ⟨rows, lR, s10, hDR, all⟩
          have sr10 := sr9.same s10
          -- the return
          have fin : ∀ (H11 : Hp) (rows' : List (Addr × Str × Nat)), 1 ≤ rows'.length → rows'.length ≤ 9 → H11 DR = some (.lst (rows'.map fun x => V.ref x.1)) →
              (∀ x ∈ rows', H11 x.1 = some (.tup [.str x.2.1, .int (x.2.2 : Nat)]) ∧ Nm x.2.1 ∧ x.2.2 ≤ 3 ∧ x.1 ≠ a) → H11 pC = some (.lst (C.map V.str)) →
              H11 DV = some (.lst ((N9.map fun y => Str.ofString "?" ++ y).map V.str)) → SrcAt H11 a c m → Keep a H H11 →
              ∀ p, H11 p = none → Q (.ref p) (upd H11 p (.lst [.ref DR, .ref pC, .ref DV])) := by
            intro H11 rows' l1 l9 hR allR hC11 hV11 s11 k11 p np
            have up := same_new (o := .lst [V.ref DR, V.ref pC, V.ref DV]) np
            refine k p ⟨DR, pC, DV, rows', C, N9.map fun y => Str.ofString "?" ++ y⟩ _ ⟨upd_same, up _ _ hR, fun x hx => let ⟨h1, h2, h3, h4⟩ := allR x hx; ⟨up _ _ h1, h2, h3, h4⟩, l1, l9, up _ _ hC11, nC, by rw [lC]; omega, by rw [lC]; omega, up _ _ hV11, fun z hz => ?_, by simp [lN], s11.ne np, zR, zC, zV⟩ (s11.same up) (k11.trans (Keep.of up))
            obtain ⟨y, hy, rfl⟩ := List.mem_map.mp hz
            exact ⟨y, nN y hy, rfl⟩
          -- if draw(3) == 0
          refine ⟨_, rfl, a, c, m + 10, 3, rfl, sr10.mono (by omega), by decide, by decide, fun r5 H11 r50 r51 s11 k11 => ⟨rfl, _, rfl, ?_⟩⟩
          have hR11 := k11 _ _ hDR zR
          have c11 := k11 _ _ (s10 _ _ c9) zC
          have v11 := k11 _ _ (s10 _ _ hDV) zV
          have t11 := k11 _ _ (s10 _ _ t9) ta
          have kH11 := (kH9.trans (Keep.of s10)).trans k11
          refine ite2 (fun _ => ?_) (fun _ => ?_)
          · have L0 : 0 < L.length := by omega
            refine ⟨_, rfl, .inl ⟨rfl, _, .inl (.inl hR11)⟩, ?_⟩
            refine ⟨_, rfl, t, _, 0, _, rfl, rfl, SqL.of t11, atI_nat (j := 0) (strs_get L0), (by show 4 ≤ sizeLine; decide), fun p4 n4 => ?_⟩
            have u4 := same_new (o := .lst [V.int 1, V.int 3, V.int 0, V.int 1]) n4
            have z4 := s11.ne n4
            refine ⟨_, rfl, a, c, m + 5, 4, rfl, (s11.same u4).mono (by omega), by decide, by decide, fun r6 H12 r60 r61 s12 k12 => ?_⟩
            obtain ⟨n, en, n3⟩ := menu4 r60 r61
            refine ⟨p4, _, _, _, rfl, rfl, SqL.of (k12 _ _ upd_same z4), en, (by show 2 ≤ sizeLine; decide), fun pt npt => ?_⟩
            have upt := same_new (o := .tup [V.str L[0], V.int (n : Int)]) npt
            have zpt := s12.ne npt
            have hR12 := k12 _ _ (u4 _ _ hR11) zR
            have zDR : pt ≠ DR := (ne_of_none hR12 npt).symm
            refine ⟨DR, _, _, rfl, rfl, upt _ _ hR12, ?_, ?_⟩
            · rw [List.length_map, lR, sizeLine_eq]
              omega
            · have ks : Keep DR (upd H12 pt (.tup [V.str L[0], V.int (n : Int)])) (upd (upd H12 pt (.tup [V.str L[0], V.int (n : Int)])) DR (.lst (rows.map (fun x => V.ref x.1) ++ [V.ref pt]))) := fun b o e nb => by
                rw [upd_ne nb]
                exact e
              have aDR : a ≠ DR := zR.symm
              refine ⟨_, rfl, _, rfl, _, rfl, (by show 3 ≤ sizeLine; decide), fin _ (rows ++ [(pt, L[0], n)]) (by simp) (by simp [lR]; omega) (by rw [upd_same]; simp) (fun x hx => ?_) ?_ ?_ ?_ ?_⟩
              · rcases List.mem_append.mp hx with hx | hx
                · obtain ⟨h1, h2, h3, h4, h5⟩ := all x hx
                  exact ⟨ks _ _ (upt _ _ (k12 _ _ (u4 _ _ (k11 _ _ h1 h4)) h4)) h5, h2, h3, h4⟩
                · have e : x = (pt, L[0], n) := by simpa using hx
                  rw [e]
                  exact ⟨ks _ _ upd_same zDR, nL _ (List.getElem_mem L0), n3, zpt⟩
              · exact ks _ _ (upt _ _ (k12 _ _ (u4 _ _ c11) zC)) (ne_of_none (s10.trans (Same.refl _) |> fun _ => c9) nDR)
              · exact ks _ _ (upt _ _ (k12 _ _ (u4 _ _ v11) zV)) (ne_of_none hDV nDR)
              · obtain ⟨d, nn, e, g, bb⟩ := s12.same upt
                exact ⟨d, nn, ks _ _ e aDR, by omega, bb⟩
              · have k13 := (kH11.trans (Keep.of u4)).trans (k12.trans (Keep.of upt))
                intro b o e nb
                have nD' : b ≠ DR := ne_of_none (kH9 b o e nb) nDR
                exact ks _ _ (k13 b o e nb) nD'
          · refine ⟨_, rfl, _, rfl, _, rfl, (by show 3 ≤ sizeLine; decide), fin _ rows (by omega) (by omega) hR11 (fun x hx => ?_) c11 v11 (s11.mono (by omega)) kH11⟩
            obtain ⟨h1, h2, h3, h4, h5⟩ := all x hx
            exact ⟨k11 _ _ h1 h4, h2, h3, h4⟩
end
end L2.LawH
set_option Elab.async false
set_option linter.all false
set_option maxRecDepth 100000
set_option maxHeartbeats 4000000
/-! Sets whose members are tuples, nested as they may be: what is asked of a member while it is sought and laid. -/
namespace L2.NSet
open PySem PySem.Spec PyProof.Rows
section
variable {P : Program} {w : World}
def ClsAt (P : Program) (w : World) (n : Nat) (s : Shared) (v : Value) : Prop := ∀ (A : Around) (E : Value → Shared → Prop) (Q : Bool → Shared → Prop), Q false s → wpAny (model P w) A (ofAClassStatement n v) Q E s
theorem ClsAt.flat {n : Nat} {s : Shared} {v : Value} (h : ∀ a, v ≠ .ref a) : ClsAt P w n s v := fun A E Q q => by
  have e : ofAClassStatement n v = pure false := by
    cases v with
    | ref a => exact absurd rfl (h a)
    | _ => cases n <;> rfl
  rw [e]
  exact wpAny_pure q
theorem ClsAt.tup {n : Nat} {s : Shared} {a : Addr} {o : Obj} {vs : Array Value} {m : Nat} (ho : s.heap.get? a = some o) (hc : o.cls = .type "tuple") (hd : o.data = .seq vs m) (hq : ∀ v ∈ vs.toList, ClsAt P w n s v) :
    ClsAt P w (n + 1) s (.ref a) := fun A E Q h => by
  unfold ofAClassStatement
  refine wpAny_bind (wpAny_typeOf ⟨o, ho, hc⟩ ?_)
  dsimp only
  have e : (("tuple" : String) == "tuple") = true := by decide
  simp only [e, if_true, Bool.not_true, Bool.false_eq_true, if_false]
  refine wpAny_bind (wpAny_pure ?_)
  simp only [Bool.not_true, Bool.false_eq_true, if_false]
  refine wpAny_bind (wpAny_seqItems ho hd ?_)
  dsimp only
  refine wpAny_bind ?_
  show wpAny _ _ (forIn vs _ _) _ _ s
  rw [← Array.forIn_toList]
  refine wpAny_forIn_list _ (fun rest r s1 => r.1 = none ∧ s1 = s ∧ ∀ v ∈ rest, ClsAt P w n s v) _ (fun v rest r s1 I => ?_) (fun r s1 I => ?_) _ _ ⟨rfl, rfl, hq⟩
  · obtain ⟨i1, rfl, i2⟩ := I
    refine wpAny_bind (i2 v List.mem_cons_self _ _ _ ?_)
    simp only [Bool.false_eq_true, if_false]
    exact wpAny_pure ⟨rfl, rfl, fun u m => i2 u (List.mem_cons_of_mem _ m)⟩
  · obtain ⟨r1, r2⟩ := r
    obtain ⟨i1, rfl, _⟩ := I
    simp only at i1
    subst i1
    exact wpAny_pure h
mutual
theorem cls_key : ∀ (k : NestedKey) (v : Value) (n : Nat) (s : Shared), NestedIs s.heap k v → k.depth ≤ n → ClsAt P w n s v
  | .none, _, _, _, x, _ => by cases x; exact .flat fun a e => nomatch e
  | .num i, _, _, _, x, _ => by cases x <;> exact .flat fun a e => nomatch e
  | .text y, _, _, _, x, _ => by cases x; exact .flat fun a e => nomatch e
  | .tup ks, _, n, s, x, hn => by
    cases x with
    | tup hg hc hd hk =>
      simp only [NestedKey.depth] at hn
      match n, hn with
      | n + 1, hn => exact .tup hg hc hd (cls_keys ks _ n s hk (Nat.le_of_succ_le_succ hn))
theorem cls_keys : ∀ (ks : List NestedKey) (vs : List Value) (n : Nat) (s : Shared), NestedAll s.heap ks vs → NestedKey.depthAll ks ≤ n → ∀ v ∈ vs, ClsAt P w n s v
  | [], _, _, _, x, _, v, hv => by cases x; cases hv
  | k :: ks, _, n, s, x, hn, v, hv => by
    cases x with
    | cons x1 x2 =>
      simp only [NestedKey.depthAll] at hn
      rcases List.mem_cons.mp hv with rfl | hv
      · exact cls_key k _ n s x1 (Nat.le_trans (Nat.le_max_left _ _) hn)
      · exact cls_keys ks _ n s x2 (Nat.le_trans (Nat.le_max_right _ _) hn) v hv
end
/-- hash by value: some answer -/
def HbvAt (P : Program) (w : World) (n : Nat) (s : Shared) (v : Value) : Prop := ∀ (A : Around) (E : Value → Shared → Prop) (Q : Bool → Shared → Prop), (∀ b, Q b s) → wpAny (model P w) A (hashByValue n v) Q E s
theorem HbvAt.tup {n : Nat} {s : Shared} {a : Addr} {o : Obj} {vs : Array Value} {m : Nat} (ho : s.heap.get? a = some o) (hc : o.cls = .type "tuple") (hd : o.data = .seq vs m) (hq : ∀ v ∈ vs.toList, HbvAt P w n s v) :
    HbvAt P w (n + 1) s (.ref a) := fun A E Q h => by
  unfold hashByValue
  refine wpAny_bind (wpAny_specialOf ⟨o, ho, hc⟩ F.slot_tuple_hash.lookup ?_)
  show wpAny _ _ (seqItems? (.ref a) >>= _) _ _ s
  refine wpAny_bind (wpAny_seqItems ho hd ?_)
  refine wpAny_bind ?_
  show wpAny _ _ (forIn vs _ _) _ _ s
  rw [← Array.forIn_toList]
  refine wpAny_forIn_list _ (fun rest r s1 => r.1 = none ∧ s1 = s ∧ ∀ v ∈ rest, HbvAt P w n s v) _ (fun v rest r s1 I => ?_) (fun r s1 I => ?_) _ _ ⟨rfl, rfl, hq⟩
  · obtain ⟨i1, rfl, i2⟩ := I
    refine wpAny_bind (i2 v List.mem_cons_self _ _ _ fun b => ?_)
    cases b with
    | true =>
      simp only [Bool.not_true, Bool.false_eq_true, if_false]
      exact wpAny_pure ⟨rfl, rfl, fun u m => i2 u (List.mem_cons_of_mem _ m)⟩
    | false =>
      simp only [Bool.not_false, if_true]
      exact wpAny_pure (wpAny_pure (h _))
  · obtain ⟨r1, r2⟩ := r
    obtain ⟨i1, rfl, _⟩ := I
    simp only at i1
    subst i1
    exact wpAny_pure (h _)
theorem HbvAt.flat {n : Nat} {s : Shared} {v : Value} (b : Bool) (e : hashByValue n v = pure b) : HbvAt P w n s v := fun A E Q q => by
  rw [e]
  exact wpAny_pure (q b)
mutual
theorem hbv_key : ∀ (k : NestedKey) (v : Value) (n : Nat) (s : Shared), NestedIs s.heap k v → k.depth ≤ n → HbvAt P w n s v
  | .none, _, n, _, x, _ => by cases x; exact .flat true (by cases n <;> rfl)
  | .num i, _, n, _, x, _ => by cases x <;> exact .flat true (by cases n <;> rfl)
  | .text y, _, n, _, x, _ => by cases x; exact .flat false (by cases n <;> rfl)
  | .tup ks, _, n, s, x, hn => by
    cases x with
    | tup hg hc hd hk =>
      simp only [NestedKey.depth] at hn
      match n, hn with
      | n + 1, hn => exact .tup hg hc hd (hbv_keys ks _ n s hk (Nat.le_of_succ_le_succ hn))
theorem hbv_keys : ∀ (ks : List NestedKey) (vs : List Value) (n : Nat) (s : Shared), NestedAll s.heap ks vs → NestedKey.depthAll ks ≤ n → ∀ v ∈ vs, HbvAt P w n s v
  | [], _, _, _, x, _, v, hv => by cases x; cases hv
  | k :: ks, _, n, s, x, hn, v, hv => by
    cases x with
    | cons x1 x2 =>
      simp only [NestedKey.depthAll] at hn
      rcases List.mem_cons.mp hv with rfl | hv
      · exact hbv_key k _ n s x1 (Nat.le_trans (Nat.le_max_left _ _) hn)
      · exact hbv_keys ks _ n s x2 (Nat.le_trans (Nat.le_max_right _ _) hn) v hv
end
end
section
variable {P : Program} {w : World} {A : Around} {E : Value → Shared → Prop} {s : Shared}
/-- the tuple at b is the key k -/
abbrev Kb (P : Program) (w : World) (h : Heap) (k : NestedKey) (b : Addr) : Prop := (nestedKind P w).is h k b
theorem kb_at {h h' : Heap} {k : NestedKey} {b : Addr} (x : Kb P w h k b) (hk : ∀ c o vs n, h.get? c = some o → o.data = .seq vs n → h'.get? c = some o) : Kb P w h' k b := ⟨NestedIs.at hk _ _ x.1, x.2⟩
theorem kb_but {h h' : Heap} {k : NestedKey} {a b : Addr} {o : Obj} {es : Array (Int × Value)} {ep : Nat} {t : SetTable} (x : Kb P w h k b) (ho : h.get? a = some o) (hd : o.data = .set es ep t) (hs : Heap.SameBut a h h') : Kb P w h' k b :=
  kb_at x fun c u vs n e1 e2 => (hs.2 c fun z => by
    rw [z, ho] at e1
    cases e1
    rw [hd] at e2
    cases e2).trans e1
theorem seen_key {k : NestedKey} {b : Addr} {Q : Bool → Shared → Prop} (hk : Kb P w s.heap k b) {ys : List Value} (hy : ∀ y ∈ ys, ∃ k2 c, y = Value.ref c ∧ Kb P w s.heap k2 c) (h : Q false s) :
    wpAny (model P w) A (searchCouldBeSeen (.ref b) ys) Q E s := by
  unfold searchCouldBeSeen
  refine wpAny_bind ?_
  refine wpAny_forIn_list _ (fun rest r s1 => r.1 = none ∧ s1 = s ∧ ∀ y ∈ rest, ∃ k2 c, y = Value.ref c ∧ Kb P w s.heap k2 c) _ (fun v rest r s1 I => ?_) (fun r s1 I => ?_) _ _ ⟨rfl, rfl, hy⟩
  · obtain ⟨i1, rfl, i2⟩ := I
    obtain ⟨k2, c, rfl, hc⟩ := i2 v List.mem_cons_self
    have more : ∀ y ∈ rest, ∃ k2 c, y = Value.ref c ∧ Kb P w s1.heap k2 c := fun u m => i2 u (List.mem_cons_of_mem _ m)
    dsimp only
    by_cases very : (b == c || (carriedByValue (.ref b) && carriedByValue (.ref c))) = true
    · exact wp_if_pos very (wpAny_pure ⟨rfl, rfl, more⟩)
    · refine wp_if_neg very (wpAny_bind ((nestedKind P w).quiet hk ?_))
      simp only [Bool.not_true, Bool.false_eq_true, if_false]
      refine wpAny_bind ((nestedKind P w).quiet hc ?_)
      simp only [Bool.not_true, Bool.false_eq_true, if_false]
      refine wpAny_bind (cls_key k _ 8 _ hk.1 hk.2 _ _ _ ?_)
      simp only [Bool.false_eq_true, if_false]
      refine wpAny_bind (cls_key k2 _ 8 _ hc.1 hc.2 _ _ _ ?_)
      simp only [Bool.false_eq_true, if_false]
      exact wpAny_pure ⟨rfl, rfl, more⟩
  · obtain ⟨r1, r2⟩ := r
    obtain ⟨i1, rfl, _⟩ := I
    simp only at i1
    subst i1
    exact wpAny_pure h
end
end L2.NSet
set_option Elab.async false
set_option linter.all false
set_option maxRecDepth 100000
set_option maxHeartbeats 4000000
/-! Sets whose members are tuples, nested as they may be: seeking a member in the table. -/
namespace L2.NSet
open PySem PySem.Spec PyProof.Rows
/-- the rows of the table: hash and address of each member -/
abbrev Mem : Type := Addr × NestedKey
def rowN (w : World) (p : Mem) : Int × Value := (p.2.hash w, Value.ref p.1)
structure Tab (P : Program) (w : World) (h : Heap) (a : Addr) (L : List Mem) (es : Array (Int × Value)) (ep : Nat) (t : SetTable) : Prop where
  here : ∃ o, h.get? a = some o ∧ o.ExactSet ∧ o.data = .set es ep t
  rows : es.toList = L.map (rowN w)
  lay : TabOk t (L.map fun p => p.2.hash w)
  once : (L.map (·.2)).Nodup
  each : ∀ p ∈ L, Kb P w h p.2 p.1
  told : w.params.followText "set-order" = true ∨ t.led = true
  free : L.length * 5 < t.mask * 3
  few : L.length < 64
section
variable {P : Program} {w : World} {A : Around} {E : Value → Shared → Prop} {s : Shared} {a : Addr} {L : List Mem} {es : Array (Int × Value)} {ep : Nat} {t : SetTable}
theorem rows_size (h : es.toList = L.map (rowN w)) : es.size = L.length := by
  rw [← Array.length_toList, h, List.length_map]
theorem rows_at (h : es.toList = L.map (rowN w)) {i : Nat} {p : Mem} (e : L[i]? = some p) : es[i]? = some (p.2.hash w, Value.ref p.1) := by
  rw [← Array.getElem?_toList, h, List.getElem?_map, e]
  rfl
theorem Tab.size (R : Tab P w s.heap a L es ep t) : es.size = L.length := rows_size R.rows
theorem Tab.fits (R : Tab P w s.heap a L es ep t) : t.fits es.size = true := by
  have h1 := R.lay.sz
  have h2 := R.size
  have h3 := R.free
  rw [List.length_map] at h1
  unfold SetTable.fits SetTable.fill
  rw [R.lay.dm, Bool.and_eq_true, beq_iff_eq, decide_eq_true_eq]
  show t.place.size = es.size ∧ t.place.size + 0 ≤ t.mask
  omega
/-- where the way of a hash begins -/
abbrev top0 (m : Nat) (hx : Int) : SetTable.Probe := runAt m (SetTable.bits hx % (m + 1)) (SetTable.bits hx)
theorem top_dummy (m : Nat) (hx : Int) (c : Nat) : (nth m (top0 m hx) c).dummy = none := by
  have key : ∀ (n : Nat) (p : SetTable.Probe), p.dummy = none → (nth m p n).dummy = none := fun n => by
    induction n with
    | zero => exact fun p h => h
    | succ n ih =>
      refine fun p h => ih (adv m p) ?_
      unfold adv
      split <;> exact h
  exact key c _ rfl
/-- the rest behind a candidate whose answer is known -/
theorem rest_of (R : Tab P w s.heap a L es ep t) {x : Addr} {k : NestedKey} (hx : Kb P w s.heap k x) (hu : A.units + 8 < cLine) {i j : Nat} {p : Mem} (hp : L[i]? = some p) (hi : t.place.toList[i]? = some j) {f : Nat} {nx : SetTable.Probe} {Q : SetFound → Shared → Prop}
    (yes : p.2 = k → Q (.there none) s) (no : p.2 ≠ k → wpAny (model P w) A (setSearchFrom a (.ref x) (k.hash w) true f (some nx)) Q E s) :
    wpAny (model P w) A (searchRest a (.ref x) (k.hash w) true f es t j i nx) Q E s := by
  obtain ⟨o, ho, ox, od⟩ := R.here
  have mp : p ∈ L := List.mem_of_getElem? hp
  unfold searchRest
  rw [rows_at R.rows hp]
  dsimp only
  refine wpAny_bind (wpAny_holding ((nestedKind P w).eqBool hu (R.each p mp) hx ?_))
  refine wpAny_bind (wpAny_setState_of ho od R.fits ?_)
  dsimp only
  by_cases e : p.2 = k
  · exact wp_if_pos (by simp [e]) (wpAny_pure (yes e))
  · refine wp_if_neg (by simp [e]) ?_
    rw [sameMem]
    dsimp only
    simp only [if_true, slot_live R.lay.ris hi, rows_at R.rows hp]
    refine wpAny_bind (wpAny_isSame_ref_self (wpAny_bind (wpAny_pure ?_)))
    simp only [if_true]
    exact wp_if_neg (by simp [e]) (no e)
theorem seek (R : Tab P w s.heap a L es ep t) {x : Addr} {k : NestedKey} (hx : Kb P w s.heap k x) (hu : A.units + 8 < cLine) {N : Nat} (nf : N < 10 * SetTable.turns t.mask)
    (n0 : way t.mask (k.hash w) N ∉ t.place.toList) (nb : ∀ c, c < N → way t.mask (k.hash w) c ∈ t.place.toList) {Q : SetFound → Shared → Prop}
    (yes : k ∈ L.map (·.2) → Q (.there none) s) (no : k ∉ L.map (·.2) → Q (.free (way t.mask (k.hash w) N) false) s) :
    ∀ (f c : Nat) (st : Option SetTable.Probe), st.getD (t.probeStart (k.hash w)) = nth t.mask (top0 t.mask (k.hash w)) c → c ≤ N → N - c < f →
      (∀ (i : Nat) p, L[i]? = some p → p.2 = k → ∃ d, c ≤ d ∧ d < N ∧ t.place.toList[i]? = some (way t.mask (k.hash w) d)) →
      wpAny (model P w) A (setSearchFrom a (.ref x) (k.hash w) true f st) Q E s
  | 0, _, _, _, _, z, _ => absurd z (Nat.not_lt_zero _)
  | f + 1, c, st, hst, hc, hf, ahead => by
    obtain ⟨o, ho, ox, od⟩ := R.here
    rw [setSearchFrom_succ]
    refine wpAny_bind (wpAny_setState_of ho od R.fits ?_)
    dsimp only
    have gw : ¬ t.gaveWay = true := by
      unfold SetTable.gaveWay
      rw [mask_odd R.lay.mok]
      decide
    refine wp_if_neg gw ?_
    have sh : ∀ q, nth t.mask (nth t.mask (top0 t.mask (k.hash w)) c) q = nth t.mask (top0 t.mask (k.hash w)) (c + q) := fun q => (nth_add t.mask c _ q).symm
    have ej : ∀ q, (nth t.mask (nth t.mask (top0 t.mask (k.hash w)) c) q).j = way t.mask (k.hash w) (c + q) := fun q => congrArg SetTable.Probe.j (sh q)
    have cN : c + (N - c) = N := by omega
    have G := go_spec t R.lay.ris R.lay.dm (fun i => (es[i]?.map (·.1)).getD 0) (k.hash w) (10 * SetTable.turns t.mask) (N - c) _ (top_dummy t.mask (k.hash w) c) (by omega)
      (fun q hq => by rw [ej]; exact nb (c + q) (by omega)) (by rw [ej, cN]; exact n0)
    have hat : ∀ (i : Nat) p, L[i]? = some p → (fun i => (es[i]?.map (·.1)).getD 0) i = p.2.hash w := fun i p hp => by
      show (es[i]?.map (·.1)).getD 0 = _
      rw [rows_at R.rows hp]
      rfl
    rcases G with ⟨q, i, hq, hi, hh, skip, pr⟩ | ⟨skip, pr⟩
    · rw [ej] at hi
      have pr2 : t.probe (fun i => (es[i]?.map (·.1)).getD 0) (k.hash w) (st.getD (t.probeStart (k.hash w))) = some (.candidate (way t.mask (k.hash w) (c + q)) i (nth t.mask (top0 t.mask (k.hash w)) (c + (q + 1)))) := by
        rw [hst, ← ej, ← sh]
        exact pr
      rw [pr2]
      dsimp only
      have il : i < L.length := by
        have h1 : i < t.place.toList.length := (List.getElem?_eq_some_iff.mp hi).1
        have h2 := R.lay.sz
        rw [List.length_map] at h2
        rw [Array.length_toList] at h1
        omega
      obtain ⟨p, hp⟩ : ∃ p, L[i]? = some p := ⟨_, List.getElem?_eq_getElem il⟩
      have go : wpAny (model P w) A (searchRest a (.ref x) (k.hash w) true f es t (way t.mask (k.hash w) (c + q)) i (nth t.mask (top0 t.mask (k.hash w)) (c + (q + 1)))) Q E s := by
        refine rest_of R hx hu hp hi (fun e => yes (List.mem_map.mpr ⟨p, List.mem_of_getElem? hp, e⟩)) fun ne => ?_
        refine seek R hx hu nf n0 nb yes no f (c + (q + 1)) _ rfl (by omega) (by omega) fun i2 p2 h2 k2 => ?_
        obtain ⟨d, d1, d2, d3⟩ := ahead i2 p2 h2 k2
        have hk2 : (fun i => (es[i]?.map (·.1)).getD 0) i2 = k.hash w := (hat i2 p2 h2).trans (by rw [k2])
        refine ⟨d, ?_, d2, d3⟩
        rcases Nat.lt_trichotomy d (c + q) with z | z | z
        · exact absurd hk2 (skip (d - c) i2 (by omega) (by rw [ej, show c + (d - c) = d by omega]; exact d3))
        · rw [z] at d3
          have s1 := slot_live R.lay.ris hi
          have s2 := slot_live R.lay.ris d3
          rw [s1] at s2
          injection s2 with s2
          rw [← s2, hp] at h2
          cases h2
          exact absurd k2 ne
        · omega
      by_cases led : t.led = true
      · exact wp_if_neg (by simp [led]) go
      · refine wp_if_pos (by simp [led]) (wpAny_bind (seen_key hx (fun y hy => ?_) ?_))
        · obtain ⟨e, he, rfl⟩ := List.mem_map.mp hy
          have he2 : e ∈ es.toList := by
            have : e ∈ es ∧ e.1 = k.hash w := by simpa using he
            simpa using this.1
          rw [R.rows] at he2
          obtain ⟨p2, m2, rfl⟩ := List.mem_map.mp he2
          exact ⟨p2.2, p2.1, rfl, R.each p2 m2⟩
        · exact wp_if_neg (by decide) go
    · have pr2 : t.probe (fun i => (es[i]?.map (·.1)).getD 0) (k.hash w) (st.getD (t.probeStart (k.hash w))) = some (.empty (way t.mask (k.hash w) N) none) := by
        have e2 : way t.mask (k.hash w) N = (nth t.mask (nth t.mask (top0 t.mask (k.hash w)) c) (N - c)).j := by rw [ej, cN]
        rw [hst, e2]
        exact pr
      rw [pr2]
      dsimp only
      refine wpAny_pure (no fun m => ?_)
      obtain ⟨p, mp, ek⟩ := List.mem_map.mp m
      obtain ⟨i, hi, e⟩ := List.getElem_of_mem mp
      have hp : L[i]? = some p := by rw [List.getElem?_eq_getElem hi, e]
      obtain ⟨d, d1, d2, d3⟩ := ahead i p hp ek
      exact skip (d - c) i (by omega) (by rw [ej, show c + (d - c) = d by omega]; exact d3) ((hat i p hp).trans (by rw [ek]))
theorem seek_all (R : Tab P w s.heap a L es ep t) {x : Addr} {k : NestedKey} (hx : Kb P w s.heap k x) (hu : A.units + 8 < cLine) {Q : SetFound → Shared → Prop}
    (yes : k ∈ L.map (·.2) → Q (.there none) s)
    (no : ∀ N, k ∉ L.map (·.2) → way t.mask (k.hash w) N ∉ t.place.toList → (∀ c, c < N → way t.mask (k.hash w) c ∈ t.place.toList) → Q (.free (way t.mask (k.hash w) N) false) s) :
    wpAny (model P w) A (setSearch a (.ref x) (k.hash w) true) Q E s := by
  have fr := R.free
  obtain ⟨N, nf, n0, nb⟩ := R.lay.first (by rw [List.length_map]; omega) (k.hash w)
  have small : N < 100000 := by
    have : 10 * SetTable.turns t.mask ≤ 1420 := by
      unfold SetTable.turns
      rcases R.lay.mok with e | e | e <;> omega
    omega
  unfold setSearch
  refine seek R hx hu nf n0 nb yes (fun m => no N m n0 nb) 100000 0 none rfl (Nat.zero_le _) (by omega) fun i p hp hk => ?_
  have hi : (L.map fun p => p.2.hash w)[i]? = some (k.hash w) := by
    rw [List.getElem?_map, hp, ← hk]
    rfl
  have il : i < t.place.toList.length := by
    have h1 : i < L.length := (List.getElem?_eq_some_iff.mp hp).1
    have h2 := R.lay.sz
    rw [List.length_map] at h2
    rw [Array.length_toList]
    omega
  have hj := List.getElem?_eq_getElem il
  obtain ⟨c, hc, e⟩ := R.lay.before n0 hi hj
  exact ⟨c, Nat.zero_le _, hc, by rw [hj, e]⟩
end
end L2.NSet
set_option Elab.async false
set_option linter.all false
set_option maxRecDepth 100000
set_option maxHeartbeats 4000000
/-! Sets whose members are tuples, nested as they may be: laying a member down. -/
namespace L2.NSet
open PySem PySem.Spec PyProof.Rows
section
variable {P : Program} {w : World} {A : Around} {E : Value → Shared → Prop} {s : Shared} {a : Addr} {L : List Mem} {es : Array (Int × Value)} {ep : Nat} {t : SetTable}
/-- rows picked by places -/
theorem picked (h : es.toList = L.map (rowN w)) {l : List Nat} (hl : ∀ i ∈ l, i < L.length) : ∃ M : List Mem, l.filterMap (fun i => es[i]?) = M.map (rowN w) ∧ M = l.filterMap (fun i => L[i]?) ∧
    (M.map fun p => p.2.hash w) = l.map fun i => (es.map (·.1)).getD i 0 := by
  induction l with
  | nil => exact ⟨[], rfl, rfl, rfl⟩
  | cons i l ih =>
    obtain ⟨M, m1, m2, m3⟩ := ih fun j m => hl j (List.mem_cons_of_mem _ m)
    have li := hl i List.mem_cons_self
    have hp : L[i]? = some L[i] := List.getElem?_eq_getElem li
    have he := rows_at h hp
    refine ⟨L[i] :: M, ?_, ?_, ?_⟩
    · rw [List.filterMap_cons_some he, m1]
      rfl
    · rw [List.filterMap_cons_some hp, m2]
    · rw [List.map_cons, List.map_cons, m3]
      have e5 : (es.map (·.1))[i]? = some ((L[i]).2.hash w) := by
        rw [Array.getElem?_map, he]
        rfl
      simp [Array.getD_eq_getD_getElem?, e5]
theorem all_places (L : List Mem) : (List.range L.length).filterMap (fun i => L[i]?) = L := by
  have key : ∀ n, n ≤ L.length → (List.range n).filterMap (fun i => L[i]?) = L.take n := fun n => by
    induction n with
    | zero => exact fun _ => rfl
    | succ n ih =>
      intro hn
      have lt : n < L.length := hn
      have hp : L[n]? = some L[n] := List.getElem?_eq_getElem lt
      rw [List.range_succ, List.filterMap_append, ih (Nat.le_of_lt lt), List.take_succ, hp, List.filterMap_cons_some hp]
      rfl
  rw [key L.length (Nat.le_refl _), List.take_length]
theorem reordered (h : es.toList = L.map (rowN w)) {order : Array Nat} (pm : order.toList.Perm (List.range L.length)) :
    ∃ M : List Mem, (order.filterMap (es[·]?)).toList = M.map (rowN w) ∧ M.Perm L ∧ (M.map fun p => p.2.hash w) = order.toList.map fun i => (es.map (·.1)).getD i 0 := by
  obtain ⟨M, m1, m2, m3⟩ := picked h (l := order.toList) fun i m => List.mem_range.mp (pm.mem_iff.mp m)
  refine ⟨M, ?_, ?_, m3⟩
  · rw [Array.toList_filterMap]
    exact m1
  · have q := pm.filterMap fun i => L[i]?
    rw [all_places, ← m2] at q
    exact q
/-- the table laid anew -/
theorem widen {o : Obj} (ho : s.heap.get? a = some o) (ox : o.ExactSet) (od : o.data = .set es ep t) (hr : es.toList = L.map (rowN w)) (hz : t.place.size = es.size) (hd : t.dummies = #[]) (hf : es.size ≤ t.mask)
    (nd : (L.map (·.2)).Nodup) (each : ∀ p ∈ L, Kb P w s.heap p.2 p.1) (told : w.params.followText "set-order" = true ∨ t.led = true) (few : L.length < 64) {want M : Nat}
    (hw : SetTable.sizeAbove want - 1 = M) (hM : MaskOk M) (h128 : SetTable.sizeAbove want ≤ 128) (hroom : L.length * 5 < M * 3) {Q : Unit → Shared → Prop}
    (hQ : ∀ h2 L2 es2 ep2 t2, Heap.SameBut a s.heap h2 → Tab P w h2 a L2 es2 ep2 t2 → L2.Perm L → Q () { s with heap := h2 }) : wpAny (model P w) A (setRelay a want) Q E s := by
  have sz := rows_size hr
  have fits : t.fits es.size = true := by
    unfold SetTable.fits SetTable.fill
    rw [hd, Bool.and_eq_true, beq_iff_eq, decide_eq_true_eq]
    show t.place.size = es.size ∧ t.place.size + 0 ≤ t.mask
    omega
  obtain ⟨t2, order, e, pm, T, em, el, e3, e4⟩ := relaid_ok t (hs := es.map (·.1)) (wanted := want) hw hM (by rw [Array.size_map, sz]; omega)
  rw [Array.size_map, sz] at pm
  obtain ⟨M2, r1, r2, r3⟩ := reordered hr pm
  rw [← r3] at T
  have z2 : (order.filterMap (es[·]?)).size = es.size := by rw [rows_size r1, r2.length_eq, sz]
  rw [setRelay_eq]
  refine wpAny_bind (wpAny_setState_of ho od fits ?_)
  dsimp only
  refine wp_if_neg (by rw [sizeLine_eq]; omega) ?_
  rw [e]
  dsimp only
  refine wpAny_bind (wp_if_neg (by rw [z2]; simp) (wpAny_pure ?_))
  dsimp only
  refine wpAny_storeSet_of ho od ?_ (by rw [z2, sz, sizeLine_eq]; omega)
  have sb := Heap.SameBut.update s.heap a (Obj.putSet (order.filterMap (es[·]?)) t2)
  refine hQ _ M2 (order.filterMap (es[·]?)) (ep + 1) t2 sb ⟨⟨_, store_at ho od, ⟨ox.1, ox.2.1, ox.2.2⟩, rfl⟩, r1, T, (r2.map (·.2)).nodup_iff.mpr nd, fun p m => kb_but (each p (r2.mem_iff.mp m)) ho od sb, by rw [el]; exact told, ?_, by rw [r2.length_eq]; exact few⟩ r2
  rw [r2.length_eq, em]
  exact hroom
theorem put_mid (L : List Mem) (p : Nat) (x : Mem) : (L.take p ++ x :: L.drop p).Perm (x :: L) := by
  have h : (L.take p ++ x :: L.drop p).Perm (x :: (L.take p ++ L.drop p)) := List.perm_middle
  rwa [List.take_append_drop] at h
/-- adding a tuple -/
theorem lay (R : Tab P w s.heap a L es ep t) {x : Addr} {k : NestedKey} (hx : Kb P w s.heap k x) (hu : A.units + 8 < cLine) (few : L.length + 1 < 64) {Q : Bool → Shared → Prop}
    (hQ : ∀ b h2 L2 es2 ep2 t2, Heap.SameBut a s.heap h2 → Tab P w h2 a L2 es2 ep2 t2 → (k ∈ L.map (·.2) → L2 = L) → (k ∉ L.map (·.2) → L2.Perm ((x, k) :: L)) → Q b { s with heap := h2 }) :
    wpAny (model P w) A (setAddHashed a (.ref x) (k.hash w)) Q E s := by
  obtain ⟨o, ho, ox, od⟩ := R.here
  have sz := R.size
  have fr := R.free
  unfold setAddHashed
  refine wpAny_holding ?_
  rw [show (100000 : Nat) = 99999 + 1 from rfl, setAddHashedIn_succ]
  refine wpAny_bind (wpAny_setState_of ho od R.fits ?_)
  dsimp only
  refine wp_if_neg (by simp [byScan, Value.scannable]) ?_
  refine wpAny_bind (seek_all R hx hu (fun m => ?_) fun N m n0 nb => ?_)
  · dsimp only
    exact wpAny_pure (hQ false s.heap L es ep t (Heap.SameBut.refl a s.heap) R (fun _ => rfl) fun z => absurd m z)
  dsimp only
  refine wpAny_bind (wpAny_setState_of ho od R.fits ?_)
  dsimp only
  obtain ⟨q1, q2, q3, q4, q5, _, _, _, q9⟩ := R.lay.put n0 nb
  generalize t.put (way t.mask (k.hash w) N) = pt at q1 q3 q4 q5 q9 ⊢
  obtain ⟨t1, p⟩ := pt
  dsimp only at q1 q3 q4 q5 q9 ⊢
  subst q1
  have mid : ∀ b : Bool, wpAny (model P w) A (do
      storeSet a (SetTable.insertAt es (SetTable.below t.place (way t.mask (k.hash w) N)) (k.hash w, Value.ref x)) (if b = true then t1 else { t1 with plain := false })
      if (!false && (if b = true then t1 else { t1 with plain := false }).tooFull) = true then setRelay a (SetTable.grown (es.size + 1))
      return true) Q E s := fun b => by
    have hin : (SetTable.insertAt es (SetTable.below t.place (way t.mask (k.hash w) N)) (k.hash w, Value.ref x)).toList = (L.take (SetTable.below t.place (way t.mask (k.hash w) N)) ++ (x, k) :: L.drop (SetTable.below t.place (way t.mask (k.hash w) N))).map (rowN w) := by
      rw [SetTable.toList_insertAt, R.rows, List.map_append, List.map_cons, List.map_take, List.map_drop]
      rfl
    generalize SetTable.below t.place (way t.mask (k.hash w) N) = p at q2 q3 hin ⊢
    have pm := put_mid L p (x, k)
    have len : (L.take p ++ (x, k) :: L.drop p).length = L.length + 1 := pm.length_eq
    have hh : (L.take p ++ (x, k) :: L.drop p).map (fun p => p.2.hash w) = (L.map fun p => p.2.hash w).take p ++ k.hash w :: (L.map fun p => p.2.hash w).drop p := by
      rw [List.map_append, List.map_cons, List.map_take, List.map_drop]
    rw [← hh] at q3
    have nd : ((L.take p ++ (x, k) :: L.drop p).map (·.2)).Nodup := (pm.map (·.2)).nodup_iff.mpr (List.nodup_cons.mpr ⟨m, R.once⟩)
    have z1 := rows_size hin
    rw [len] at z1
    generalize SetTable.insertAt es p (k.hash w, Value.ref x) = es1 at hin z1 ⊢
    generalize L.take p ++ (x, k) :: L.drop p = L1 at pm len q3 nd hin
    obtain ⟨u, hu2, u3, u4, u5, u6⟩ : ∃ u : SetTable, (if b = true then t1 else { t1 with plain := false }) = u ∧ TabOk u (L1.map fun p => p.2.hash w) ∧ u.mask = t.mask ∧ u.led = t.led ∧ u.fill = L.length + 1 := by
      cases b
      · exact ⟨{ t1 with plain := false }, rfl, ⟨q3.ris, q3.dm, q3.sz, q3.mok, q3.bd, q3.reach⟩, q4, q5, by rw [List.length_map] at q9; exact q9⟩
      · exact ⟨t1, rfl, q3, q4, q5, by rw [List.length_map] at q9; exact q9⟩
    rw [hu2]
    refine wpAny_bind (wpAny_storeSet_of ho od ?_ (by rw [z1, sizeLine_eq]; omega))
    have sb : Heap.SameBut a s.heap (s.heap.update a (Obj.putSet es1 u)) := Heap.SameBut.update ..
    have ho1 := store_at (es' := es1) (t' := u) ho od
    generalize s.heap.update a (Obj.putSet es1 u) = h1 at sb ho1 ⊢
    have each : ∀ p ∈ L1, Kb P w h1 p.2 p.1 := fun p mp => by
      rcases List.mem_cons.mp (pm.mem_iff.mp mp) with e | mp
      · rw [e]
        exact kb_but hx ho od sb
      · exact kb_but (R.each p mp) ho od sb
    have told : w.params.followText "set-order" = true ∨ u.led = true := by rw [u5]; exact R.told
    by_cases full : u.tooFull = true
    · refine wp_if_pos (by simp [full]) (wpAny_bind ?_)
      have tight : (L.length + 1) * 5 ≥ u.mask * 3 := by
        have h := full
        unfold SetTable.tooFull at h
        rw [decide_eq_true_eq, u6] at h
        exact h
      rw [sz]
      have z2 : u.place.size = es1.size := by
        have h := u3.sz
        rw [List.length_map, len] at h
        rw [h, z1]
      have two : (t.mask = 7 ∧ L.length = 4) ∨ (t.mask = 31 ∧ L.length = 18) := by
        rcases R.lay.mok with e | e | e
        · rw [u4, e] at tight
          rw [e] at fr
          exact .inl ⟨e, by omega⟩
        · rw [u4, e] at tight
          rw [e] at fr
          exact .inr ⟨e, by omega⟩
        · rw [u4, e] at tight
          omega
      have go : ∀ M, SetTable.sizeAbove (SetTable.grown (L.length + 1)) - 1 = M → MaskOk M → SetTable.sizeAbove (SetTable.grown (L.length + 1)) ≤ 128 → (L.length + 1) * 5 < M * 3 →
          wpAny (model P w) A (setRelay a (SetTable.grown (L.length + 1))) (fun _ s2 => wpAny (model P w) A (pure true) Q E s2) E { s with heap := h1 } := fun M g1 g2 g3 g4 =>
        widen (s := { s with heap := h1 }) ho1 ⟨ox.1, ox.2.1, ox.2.2⟩ rfl hin z2 u3.dm (by rw [z1, u4]; rcases two with ⟨e, e2⟩ | ⟨e, e2⟩ <;> omega) nd each told (by rw [len]; exact few) g1 g2 g3 (by rw [len]; exact g4)
          fun h2 L2 es2 ep2 t2 sb2 R2 pm2 => wpAny_pure (hQ true h2 L2 es2 ep2 t2 (sb.trans sb2) R2 (fun z => absurd z m) fun _ => pm2.trans pm)
      rcases two with ⟨_, e2⟩ | ⟨_, e2⟩
      · exact go 31 (by rw [e2, size_20]) (.inr (.inl rfl)) (by rw [e2, size_20]; decide) (by omega)
      · exact go 127 (by rw [e2, size_76]) (.inr (.inr rfl)) (by rw [e2, size_76]; decide) (by omega)
    · refine wp_if_neg (by simp [full]) (wpAny_pure (hQ true h1 L1 es1 (ep + 1) u sb ⟨⟨_, ho1, ⟨ox.1, ox.2.1, ox.2.2⟩, rfl⟩, hin, u3, nd, each, told, ?_, by rw [len]; exact few⟩ (fun z => absurd z m) fun _ => pm))
      have h := full
      unfold SetTable.tooFull at h
      rw [decide_eq_true_eq, u6] at h
      rw [len]
      omega
  by_cases pl : t1.plain = true
  · refine wp_if_pos pl (wpAny_bind (hbv_key k _ 8 _ hx.1 hx.2 _ _ _ fun b => ?_))
    exact mid b
  · refine wp_if_neg pl (wpAny_bind (wpAny_pure ?_))
    exact mid true
end
end L2.NSet
set_option Elab.async false
set_option linter.all false
set_option maxRecDepth 100000
set_option maxHeartbeats 4000000
/-! set(tuples): a list or a tuple of tuples goes into a new set. -/
namespace L2.NSet
open PySem PySem.Spec PyProof.Rows
section
variable {P : Program} {w : World} {A : Around} {E : Value → Shared → Prop} {s : Shared}
/-- what stands in the set when the first i have gone in -/
structure In (ks : List Mem) (i : Nat) (L : List Mem) : Prop where
  from_ : ∀ p ∈ L, p ∈ ks.take i
  to_ : ∀ p ∈ ks.take i, p.2 ∈ L.map (·.2)
  le : L.length ≤ i
theorem In.zero (ks : List Mem) : In ks 0 [] := ⟨fun p h => (nomatch h), fun p h => (by simp at h), Nat.le_refl _⟩
theorem In.next {ks L M : List Mem} {i : Nat} {x : Mem} (g : In ks i L) (h : ks[i]? = some x) (old : x.2 ∈ L.map (·.2) → M = L) (new : x.2 ∉ L.map (·.2) → M.Perm (x :: L)) : In ks (i + 1) M := by
  have tk : ks.take (i + 1) = ks.take i ++ [x] := by
    rw [List.take_succ, h]
    rfl
  by_cases m : x.2 ∈ L.map (·.2)
  · rw [old m]
    refine ⟨fun p mp => ?_, fun p mp => ?_, Nat.le_succ_of_le g.le⟩
    · rw [tk]
      exact List.mem_append_left _ (g.from_ p mp)
    · rw [tk] at mp
      rcases List.mem_append.mp mp with z | z
      · exact g.to_ p z
      · rw [List.mem_singleton.mp z]
        exact m
  · have pm := new m
    refine ⟨fun p mp => ?_, fun p mp => ?_, ?_⟩
    · rw [tk]
      rcases List.mem_cons.mp (pm.mem_iff.mp mp) with e | z
      · rw [e]
        exact List.mem_append_right _ (List.mem_singleton.mpr rfl)
      · exact List.mem_append_left _ (g.from_ p z)
    · rw [(pm.map (·.2)).mem_iff, List.map_cons]
      rw [tk] at mp
      rcases List.mem_append.mp mp with z | z
      · exact List.mem_cons_of_mem _ (g.to_ p z)
      · rw [List.mem_singleton.mp z]
        exact List.mem_cons_self
    · rw [pm.length_eq, List.length_cons]
      exact Nat.succ_le_succ g.le
theorem Tab.keep {h h2 : Heap} {a : Addr} {L : List Mem} {es : Array (Int × Value)} {ep : Nat} {t : SetTable} (R : Tab P w h a L es ep t) (ha : ∀ o, h.get? a = some o → h2.get? a = some o) (each : ∀ p ∈ L, Kb P w h2 p.2 p.1) : Tab P w h2 a L es ep t :=
  let ⟨o, ho, r⟩ := R.here
  ⟨⟨o, ha o ho, r⟩, R.rows, R.lay, R.once, each, R.told, R.free, R.few⟩
abbrev newSet (w : World) : Obj := { cls := .type "set", dict := none, data := .set #[] 0 (.fresh 0 0 (!w.params.followText "set-order")) }
theorem Tab.new {h : Heap} {a : Addr} (ho : h.get? a = some (newSet w)) : Tab P w h a [] #[] 0 (.fresh 0 0 (!w.params.followText "set-order")) where
  here := ⟨_, ho, ⟨rfl, rfl, rfl⟩, rfl⟩
  rows := rfl
  lay := ⟨List.Pairwise.nil, rfl, rfl, .inl rfl, fun x hx => (nomatch hx), fun i h j hi => (by simp at hi)⟩
  once := List.nodup_nil
  each := fun p hp => nomatch hp
  told := by
    show _ ∨ (!w.params.followText "set-order") = true
    cases w.params.followText "set-order"
    · exact .inr rfl
    · exact .inl rfl
  free := by
    show 0 * 5 < 7 * 3
    decide
  few := by
    show 0 < 64
    decide
theorem kb_keep {h h2 : Heap} {k : NestedKey} {b : Addr} (x : Kb P w h k b) (hk : ∀ c o, h.get? c = some o → h2.get? c = some o) : Kb P w h2 k b := kb_at x fun c o _ _ e _ => hk c o e
/-- the loop of set.update -/
theorem loopN {I : Addr} {fp wr : List Addr} {G : Array GenState → Array GenState → Prop} {n : Nat} {Pv : Nat → Value → Prop} {St : Nat → Shared → Prop} {R : Result → Shared → Prop}
    (W : WalksS P w A.in1 I fp wr G n Pv St) (S : Addr) (nf : S ∉ fp) (ks : List Mem) (hn : n = ks.length) (few : ks.length < 64) (val : ∀ i v, Pv i v → ∃ p, ks[i]? = some p ∧ v = .ref p.1)
    (g0 : Heap) (each : ∀ p ∈ ks, Kb P w g0 p.2 p.1) (s0 : g0.get? S = none) (w0 : ∀ b ∈ wr, g0.get? b = none) (hu : A.in1.units + 8 < cLine) :
    ∀ (m i : Nat) (s : Shared), n - i = m → i ≤ n → St i s → (∀ b o, g0.get? b = some o → s.heap.get? b = some o) → (∃ L es ep t, Tab P w s.heap S L es ep t ∧ In ks i L) →
      (∀ s2 L es ep t, Moved (S :: wr) G s s2 → Tab P w s2.heap S L es ep t → In ks n L → (∀ b o, g0.get? b = some o → s2.heap.get? b = some o) → R (.ok (.ret .none)) s2) →
      codeAny (model P w) A (.builtin "set.update.loop" ⟨[.ref S, .ref I], []⟩) R s := by
  have nw : S ∉ wr := fun h => nf (W.sub _ h)
  have wider : ∀ b ∈ wr, b ∈ S :: wr := fun b m => List.mem_cons_of_mem _ m
  have hold : ∀ {s1 s2 : Shared}, Moved wr G s1 s2 → (∀ b o, g0.get? b = some o → s1.heap.get? b = some o) → ∀ b o, g0.get? b = some o → s2.heap.get? b = some o := fun mv k b o e =>
    mv.heap b o (fun m => by rw [w0 b m] at e; cases e) (k b o e)
  intro m
  induction m with
  | zero =>
    rintro i s hm hi hst kp ⟨L, es, ep, t, R0, g⟩ hR
    obtain rfl : i = n := by omega
    refine codeAny_builtin F.entry_set_update_loop ?_
    rw [Around.under_plainId F.plain_set_update_loop _] <;> show wpAny _ A.in1 (pyNext (.ref I) >>= _) _ _ s
    refine wpAny_bind (W.done s _ _ hst fun s2 mv => ?_)
    have kp2 := hold mv kp
    exact wpAny_pure (hR s2 L es ep t (mv.mono wider) (R0.keep (fun o e => mv.heap S o nw e) fun p mp => kb_keep (each p (List.mem_of_mem_take (g.from_ p mp))) kp2) g kp2)
  | succ m ih =>
    rintro i s hm hi hst kp ⟨L, es, ep, t, R0, g⟩ hR
    have lt : i < n := by omega
    refine codeAny_builtin F.entry_set_update_loop ?_
    rw [Around.under_plainId F.plain_set_update_loop _] <;> show wpAny _ A.in1 (pyNext (.ref I) >>= _) _ _ s
    refine wpAny_bind (W.item i s _ _ lt hst fun v s2 hv hst2 mv => ?_)
    obtain ⟨p, hp, rfl⟩ := val i v hv
    have kp2 := hold mv kp
    have R2 : Tab P w s2.heap S L es ep t := R0.keep (fun o e => mv.heap S o nw e) fun q mq => kb_keep (each q (List.mem_of_mem_take (g.from_ q mq))) kp2
    have hx : Kb P w s2.heap p.2 p.1 := kb_keep (each p (List.mem_of_getElem? hp)) kp2
    show wpAny _ A.in1 (holding [Value.ref p.1] (setAdd S (.ref p.1)) >>= _) _ _ s2
    unfold setAdd
    refine wpAny_bind (wpAny_holding (wpAny_holding (wpAny_bind ((nestedKind P w).pyHash hu hx ?_))))
    refine lay (s := { s2 with toks := s2.toks + p.2.draws }) R2 hx hu (by have := g.le; omega) fun b h3 L3 es3 ep3 t3 sb R3 c1 c2 => ?_
    have kp3 : ∀ b o, g0.get? b = some o → h3.get? b = some o := fun b o e => (sb.2 b fun z => by rw [z, s0] at e; cases e).trans (kp2 b o e)
    refine wpAny_pure ⟨plainId_quiet F.plain_set_update_loop _, ih (i + 1) _ (by omega) lt (W.frame _ s2 _ _ hst2 (Nat.le_add_right _ _) fun b mb o e => ?_) kp3 ⟨L3, es3, ep3, t3, R3, g.next hp c1 c2⟩
      fun s4 L4 es4 ep4 t4 mv4 R4 g4 kp4 => hR s4 L4 es4 ep4 t4 (Moved.trans W.gtrans ((mv.mono wider).then_heap (Nat.le_add_right _ _) fun b o nb e => ?_) mv4) R4 g4 kp4⟩
    · rw [sb.2 b fun z => nf (by rw [← z]; exact mb)]
      exact e
    · rw [sb.2 b fun z => nb (by rw [z]; exact List.mem_cons_self)]
      exact e

set_option maxHeartbeats 16000000 in
/-- set(a list of tuples) -/
theorem call_set_list {l : Addr} {items : Array Value} (ks : List Mem) {Q : Value → Shared → Prop} (hh : A.handled = none) (hl : s.heap.IsList l items) (it : items.toList = ks.map fun p => Value.ref p.1)
    (each : ∀ p ∈ ks, Kb P w s.heap p.2 p.1) (few : ks.length < 64) (hu : A.units + 20 < cLine)
    (h : ∀ (h2 : Heap) (tk : Nat) L es ep t, Tab P w h2 s.heap.objs.size L es ep t → In ks ks.length L → (∀ b o, s.heap.get? b = some o → h2.get? b = some o) → Q (.ref s.heap.objs.size) { s with heap := h2, toks := tk }) :
    wpAny (model P w) A (call (.type "set") [.ref l]) Q E s := by
  have isz : items.size = ks.length := by rw [← Array.length_toList, it, List.length_map]
  obtain ⟨mc, mt, mmro⟩ := F.called_set.mro
  have mmade := F.called_set.made
  have msub := F.called_set.sub
  refine wpAny_call (codeAny_of_tree ?_) <;> show wpAny _ _ (callAny (.type "set") _) _ _ _
  refine wpAny_pure ⟨Code.quiet_builtin _ (by decide +kernel), codeAny_builtin F.entry_type_call ?_⟩ <;> rw [Around.under_plain (weight_type_call_type "set" [.ref l] []) rfl]
  have m1 := F.called_set.notType
  have m2 := F.called_set.canCreate
  have m3 := F.typeCall_set_1 (.ref l)
  repeat (any_goals (first | assumption | wp_step))
  refine codeAny_mono (code_set_led1 (.ref l) (E := E) (Q₁ := fun obj s1 => obj = .ref s.heap.objs.size ∧ s1 = { s with heap := s.heap.push (newSet w) }) ⟨rfl, rfl⟩) fun r s1 hr => ?_
  match r, hr with
  | .error e, hr => exact hr
  | .ok (.ret obj), hr =>
    obtain ⟨rfl, rfl⟩ := hr
    have atS : (s.heap.push (newSet w)).get? s.heap.objs.size = some (newSet w) := Heap.get?_push_size _ rfl
    have tyS : Shared.TypeIs { s with heap := s.heap.push (newSet w) } (.ref s.heap.objs.size) "set" := ⟨_, atS, rfl⟩
    have m4 := F.called_set.init.lookup
    have m5 := F.called_set.init.bind (.ref s.heap.objs.size)
    repeat (any_goals (first | assumption | wp_step))
    refine codeAny_mono (codeAny_call_builtin (R := wants (fun r s2 => r = .none ∧ ∃ h2 tk L es ep t, s2 = { s with heap := h2, toks := tk } ∧ Tab P w h2 s.heap.objs.size L es ep t ∧ In ks ks.length L ∧
        (∀ b o, s.heap.get? b = some o → h2.get? b = some o)) E) F.called_set.init.plain F.entry_set_init (check_set_init_1 tyS ?_)) fun r2 s2 hr2 => ?_
    · obtain ⟨⟨_, odict, _, oslots⟩, hol, hcl, nl, hdl⟩ := hl
      simp only at hcl hdl
      subst hcl; subst hdl
      have hol2 : (s.heap.push (newSet w)).get? l = some { cls := .type "list", dict := odict, data := .seq items nl, slots := oslots } := Heap.get?_push_of_some _ hol
      have m6 := F.sub_list_set
      have m7 := F.sub_list_frozenset
      have m8 : (Value.type "list" == Value.type "dict") = false := by decide
      have hl1 : (s.heap.push (newSet w)).IsList l items := ⟨_, hol2, rfl, nl, rfl⟩
      unfold Builtin.«set.__init__» noKeywords Builtin.Frozenset.updateFrom
      generalize hPI : pyIter = PI
      wp_walk
      subst hPI
      refine wpAny_pyIter_list hl1 (wpAny_bind (wpAny_runValue ?_))
      have lS : l < s.heap.objs.size := Heap.lt_size hol
      have zS : (s.heap.push (newSet w)).objs.size = s.heap.objs.size + 1 := Heap.size_push ..
      have hh3 : A.in1.in1.in1.handled = none := by simp [hh]
      have nI : l ≠ (s.heap.push (newSet w)).objs.size := by rw [zS]; exact Nat.ne_of_lt (Nat.lt_succ_of_lt lS)
      have nf : s.heap.objs.size ∉ [(s.heap.push (newSet w)).objs.size, l] := by
        rw [zS]; simp only [List.mem_cons, List.not_mem_nil, or_false, not_or]
        exact ⟨Nat.ne_of_lt (Nat.lt_succ_self _), Nat.ne_of_gt lS⟩
      have val : ∀ (i : Nat) (v : Value), items[i]? = some v → ∃ p, ks[i]? = some p ∧ v = .ref p.1 := fun i v hv => by
        have q : items.toList[i]? = some v := by rw [Array.getElem?_toList]; exact hv
        rw [it, List.getElem?_map] at q
        obtain ⟨p, hp, e⟩ := Option.map_eq_some_iff.mp q
        exact ⟨p, hp, e.symm⟩
      have out : ∀ b, s.heap.objs.size ≤ b → s.heap.get? b = none := fun b hb => by
        cases q : s.heap.get? b with
        | none => rfl
        | some o => exact absurd (Nat.lt_of_lt_of_le (Heap.lt_size q) hb) (Nat.lt_irrefl _)
      refine loopN ((Walks.list hh3 _ l nI items).toS) s.heap.objs.size nf ks isz few val s.heap each (out _ (Nat.le_refl _)) (fun b mb => out b (by rw [List.mem_singleton.mp mb, zS]; exact Nat.le_succ _))
        (show A.units + 3 + 8 < cLine by omega) (items.size - 0) 0 _ (by omega) (Nat.zero_le _) ⟨⟨_, Heap.get?_push_size _ rfl, rfl, rfl⟩, (hl1.push _)⟩ (fun b o e => Heap.get?_push_of_some _ (Heap.get?_push_of_some _ e)) ?first ?last
      case first => exact ⟨[], #[], 0, _, Tab.new (Heap.get?_push_of_some _ atS), In.zero ks⟩
      case last =>
        rintro ⟨h2, g2, d2, tk2, os2⟩ L es ep t mv R2 g3 kp
        obtain rfl : g2 = s.gens := mv.gens
        obtain rfl : d2 = s.drawn := mv.drawn
        obtain rfl : os2 = s.os := mv.os
        rw [isz] at g3
        exact wpAny_pure (wpAny_pure ⟨rfl, h2, tk2, L, es, ep, t, rfl, R2, g3, kp⟩)
    · match r2, hr2 with
      | .error e, hr2 => exact hr2
      | .ok (.ret r), hr2 =>
        obtain ⟨rfl, h2, tk, L, es, ep, t, rfl, R2, g3, kp⟩ := hr2
        repeat (any_goals (first | assumption | wp_step))
        exact h _ _ _ _ _ _ R2 g3 kp

set_option maxHeartbeats 16000000 in
/-- set(a tuple of tuples) -/
theorem call_set_tuple {l : Addr} {items : Array Value} (ks : List Mem) {Q : Value → Shared → Prop} (hh : A.handled = none) (hl : s.heap.IsTuple l items) (it : items.toList = ks.map fun p => Value.ref p.1)
    (each : ∀ p ∈ ks, Kb P w s.heap p.2 p.1) (few : ks.length < 64) (hu : A.units + 20 < cLine)
    (h : ∀ (h2 : Heap) (tk : Nat) L es ep t, Tab P w h2 s.heap.objs.size L es ep t → In ks ks.length L → (∀ b o, s.heap.get? b = some o → h2.get? b = some o) → Q (.ref s.heap.objs.size) { s with heap := h2, toks := tk }) :
    wpAny (model P w) A (call (.type "set") [.ref l]) Q E s := by
  have isz : items.size = ks.length := by rw [← Array.length_toList, it, List.length_map]
  obtain ⟨mc, mt, mmro⟩ := F.called_set.mro
  have mmade := F.called_set.made
  have msub := F.called_set.sub
  refine wpAny_call (codeAny_of_tree ?_) <;> show wpAny _ _ (callAny (.type "set") _) _ _ _
  refine wpAny_pure ⟨Code.quiet_builtin _ (by decide +kernel), codeAny_builtin F.entry_type_call ?_⟩ <;> rw [Around.under_plain (weight_type_call_type "set" [.ref l] []) rfl]
  have m1 := F.called_set.notType
  have m2 := F.called_set.canCreate
  have m3 := F.typeCall_set_1 (.ref l)
  repeat (any_goals (first | assumption | wp_step))
  refine codeAny_mono (code_set_led1 (.ref l) (E := E) (Q₁ := fun obj s1 => obj = .ref s.heap.objs.size ∧ s1 = { s with heap := s.heap.push (newSet w) }) ⟨rfl, rfl⟩) fun r s1 hr => ?_
  match r, hr with
  | .error e, hr => exact hr
  | .ok (.ret obj), hr =>
    obtain ⟨rfl, rfl⟩ := hr
    have atS : (s.heap.push (newSet w)).get? s.heap.objs.size = some (newSet w) := Heap.get?_push_size _ rfl
    have tyS : Shared.TypeIs { s with heap := s.heap.push (newSet w) } (.ref s.heap.objs.size) "set" := ⟨_, atS, rfl⟩
    have m4 := F.called_set.init.lookup
    have m5 := F.called_set.init.bind (.ref s.heap.objs.size)
    repeat (any_goals (first | assumption | wp_step))
    refine codeAny_mono (codeAny_call_builtin (R := wants (fun r s2 => r = .none ∧ ∃ h2 tk L es ep t, s2 = { s with heap := h2, toks := tk } ∧ Tab P w h2 s.heap.objs.size L es ep t ∧ In ks ks.length L ∧
        (∀ b o, s.heap.get? b = some o → h2.get? b = some o)) E) F.called_set.init.plain F.entry_set_init (check_set_init_1 tyS ?_)) fun r2 s2 hr2 => ?_
    · obtain ⟨⟨_, odict, _, oslots⟩, hol, hcl, nl, hdl⟩ := hl
      simp only at hcl hdl
      subst hcl; subst hdl
      have hol2 : (s.heap.push (newSet w)).get? l = some { cls := .type "tuple", dict := odict, data := .seq items nl, slots := oslots } := Heap.get?_push_of_some _ hol
      have m6 := F.sub_tuple_set
      have m7 := F.sub_tuple_frozenset
      have m8 : (Value.type "tuple" == Value.type "dict") = false := by decide
      have hl1 : (s.heap.push (newSet w)).IsTuple l items := ⟨_, hol2, rfl, nl, rfl⟩
      unfold Builtin.«set.__init__» noKeywords Builtin.Frozenset.updateFrom
      generalize hPI : pyIter = PI
      wp_walk
      subst hPI
      refine wpAny_pyIter_tuple hl1 (wpAny_bind (wpAny_runValue ?_))
      have lS : l < s.heap.objs.size := Heap.lt_size hol
      have zS : (s.heap.push (newSet w)).objs.size = s.heap.objs.size + 1 := Heap.size_push ..
      have hh3 : A.in1.in1.in1.handled = none := by simp [hh]
      have nI : l ≠ (s.heap.push (newSet w)).objs.size := by rw [zS]; exact Nat.ne_of_lt (Nat.lt_succ_of_lt lS)
      have nf : s.heap.objs.size ∉ [(s.heap.push (newSet w)).objs.size, l] := by
        rw [zS]; simp only [List.mem_cons, List.not_mem_nil, or_false, not_or]
        exact ⟨Nat.ne_of_lt (Nat.lt_succ_self _), Nat.ne_of_gt lS⟩
      have val : ∀ (i : Nat) (v : Value), items[i]? = some v → ∃ p, ks[i]? = some p ∧ v = .ref p.1 := fun i v hv => by
        have q : items.toList[i]? = some v := by rw [Array.getElem?_toList]; exact hv
        rw [it, List.getElem?_map] at q
        obtain ⟨p, hp, e⟩ := Option.map_eq_some_iff.mp q
        exact ⟨p, hp, e.symm⟩
      have out : ∀ b, s.heap.objs.size ≤ b → s.heap.get? b = none := fun b hb => by
        cases q : s.heap.get? b with
        | none => rfl
        | some o => exact absurd (Nat.lt_of_lt_of_le (Heap.lt_size q) hb) (Nat.lt_irrefl _)
      refine loopN ((Walks.tuple hh3 _ l nI items).toS) s.heap.objs.size nf ks isz few val s.heap each (out _ (Nat.le_refl _)) (fun b mb => out b (by rw [List.mem_singleton.mp mb, zS]; exact Nat.le_succ _))
        (show A.units + 3 + 8 < cLine by omega) (items.size - 0) 0 _ (by omega) (Nat.zero_le _) ⟨⟨_, Heap.get?_push_size _ rfl, rfl, rfl⟩, (hl1.push _)⟩ (fun b o e => Heap.get?_push_of_some _ (Heap.get?_push_of_some _ e)) ?first ?last
      case first => exact ⟨[], #[], 0, _, Tab.new (Heap.get?_push_of_some _ atS), In.zero ks⟩
      case last =>
        rintro ⟨h2, g2, d2, tk2, os2⟩ L es ep t mv R2 g3 kp
        obtain rfl : g2 = s.gens := mv.gens
        obtain rfl : d2 = s.drawn := mv.drawn
        obtain rfl : os2 = s.os := mv.os
        rw [isz] at g3
        exact wpAny_pure (wpAny_pure ⟨rfl, h2, tk2, L, es, ep, t, rfl, R2, g3, kp⟩)
    · match r2, hr2 with
      | .error e, hr2 => exact hr2
      | .ok (.ret r), hr2 =>
        obtain ⟨rfl, h2, tk, L, es, ep, t, rfl, R2, g3, kp⟩ := hr2
        repeat (any_goals (first | assumption | wp_step))
        exact h _ _ _ _ _ _ R2 g3 kp
end
end L2.NSet
set_option Elab.async false
set_option linter.all false
set_option maxRecDepth 100000
set_option maxHeartbeats 4000000
/-! Sorting tuples of which some may be empty. -/
namespace L2.SortT
open PySem PySem.Spec PySem.Calls PyProof.Rows PySem.W PySem.SeqAt
section
variable {P : Program} {w : World} {A : Around} {E : Value → Shared → Prop} {s : Shared}
theorem call_tuple_lt {Q : Value → Shared → Prop} {l b : Addr} {items items2 : Array Value} {e r : Nat → Bool} (hl : s.heap.IsTuple l items) (hb : s.heap.IsTuple b items2)
    (he : ∀ j (h1 : j < items.size) (h2 : j < items2.size), EqAt A.in1 s items[j] items2[j] (e j)) (hr : ∀ j (h1 : j < items.size) (h2 : j < items2.size), e j = false → RcLt A.in1 s items[j] items2[j] (r j))
    (h : Q (.bool (firstLt e r (decide (items.size < items2.size)) (List.range (min items.size items2.size)))) s) : wpAny (model P w) A (call (.builtin "tuple.__lt__") [.ref l, .ref b]) Q E s := by
  obtain ⟨⟨c1, d1, p1, s1⟩, ho1, hc1, n1, hd1⟩ := hl
  obtain ⟨⟨c2, d2, p2, s2⟩, ho2, hc2, n2, hd2⟩ := hb
  simp only at hc1 hd1 hc2 hd2
  subst hc1 hd1 hc2 hd2
  exact call_meets F.slot_tuple_lt ⟨_, ho1, rfl⟩ F.entry_tuple_lt (F.args_tuple_lt_2 _ _) (tuple_ltAt l b items items2 n1 n2 d1 d2 s1 s2 e r) ⟨ho1, ho2, he, hr, h⟩
/-- one tuple against another, as tuples of one type are asked -/
theorem oneLt_tup {xs ys : List PyData} {a b : Value} {as bs : List Addr} {Q : Bool → Shared → Prop} (ra : Reads s.heap a (.tuple xs) as) (rb : Reads s.heap b (.tuple ys) bs) (hal : alikeAll xs ys = true)
    (hu : A.units + min (PyData.tuple xs).depth (PyData.tuple ys).depth < cLine) (hq : Q (dataLt (.tuple xs) (.tuple ys)) s) : wpAny (model P w) A (oneLt' true a b) Q E s := by
  cases ra with
  | @tuple l o vs n _ as1 h1 h2 h3 h4 =>
    cases rb with
    | @tuple l2 o2 vs2 n2 _ bs1 k1 k2 k3 k4 =>
      have z1 : vs.size = xs.length := by simpa using SeqAt.ReadsAll.length _ _ _ h4
      have z2 : vs2.size = ys.length := by simpa using SeqAt.ReadsAll.length _ _ _ k4
      rw [dataLt_tuple, ← firstLt_toks xs ys hal, ← z1, ← z2] at hq
      rw [oneLt'_eq]
      simp only [if_true]
      refine wpAny_bind (wpAny_cRoomFor (SeqAt.room_here hu) ?_)
      refine wpAny_bind (wpAny_callSpecialIfBound?_slot (T := "tuple") ⟨_, h1, h2⟩ F.slot_tuple_lt (call_tuple_lt (e := pairEq xs ys) (r := fun j => dataLt (xs.getD j .none) (ys.getD j .none)) ⟨_, h1, h2, _, h3⟩ ⟨_, k1, k2, _, k3⟩
        (fun j j1 j2 => ?_) (fun j j1 j2 hj => ?_) (wpAny_truthy_bool hq)))
      · have q := eqAt_alikeAll xs ys A.in1 s vs.toList vs2.toList _ _ h4 k4 hal (SeqAt.room_in hu) j (by simpa using j1) (by simpa using j2)
        simpa using q
      · have q := rcLt_alikeAll xs ys A.in1 s vs.toList vs2.toList _ _ h4 k4 hal (SeqAt.room_in hu) j (by simpa using j1) (by simpa using j2) hj
        simpa using q
/-- the first items of tuples -/
inductive Fsts (h : Heap) : List Value → List (Option Value) → Prop
  | nil : Fsts h [] []
  | cons {a : Addr} {o : Obj} {xs : Array Value} {n : Nat} {vs : List Value} {os : List (Option Value)} : h.get? a = some o → o.cls = .type "tuple" → o.data = .seq xs n → Fsts h vs os → Fsts h (.ref a :: vs) (xs[0]? :: os)
theorem fsts_of {h : Heap} : ∀ {vs : List Value} {ds : List PyData}, EachIs (fun v d => ∃ as, Reads h v d as) vs ds → (∀ d ∈ ds, ∃ xs, d = .tuple xs) →
    ∃ os, Fsts h vs os ∧ ((os.all fun o => o.isSome) = true → ∀ d ∈ ds, ∃ x r, d = .tuple (x :: r))
  | [], _, .nil, _ => ⟨[], .nil, fun _ d m => nomatch m⟩
  | v :: vs, d :: ds, .cons r e, ht => by
    obtain ⟨os, f, g⟩ := fsts_of e fun d m => ht d (List.mem_cons_of_mem _ m)
    obtain ⟨xs, rfl⟩ := ht d List.mem_cons_self
    obtain ⟨as, r⟩ := r
    cases r with
    | @tuple _ _ vs2 _ _ _ h1 h2 h3 h4 =>
      refine ⟨_, .cons h1 h2 h3 f, fun al d m => ?_⟩
      rw [List.all_cons, Bool.and_eq_true] at al
      rcases List.mem_cons.mp m with rfl | m
      · have z : vs2.size = xs.length := by simpa using SeqAt.ReadsAll.length _ _ _ h4
        have q : 0 < vs2.size := by
          cases k : vs2.size with
          | zero =>
            have e0 : vs2[0]? = none := Array.getElem?_eq_none (by omega)
            rw [e0] at al
            cases al.1
          | succ n => exact Nat.succ_pos n
        cases xs with
        | nil =>
          rw [List.length_nil] at z
          omega
        | cons x r => exact ⟨x, r, rfl⟩
      · exact g al.2 d m
theorem fsts_ask {M : Model} {A : Around} {E : Value → Shared → Prop} : ∀ {vs : List Value} {os : List (Option Value)} {s : Shared} {Q : List (Option Value) → Shared → Prop}, Fsts s.heap vs os → Q os s → wpAny M A (vs.mapM firstOfTuple') Q E s
  | [], _, s, Q, .nil, h => by
    rw [List.mapM_nil]
    exact wpAny_pure h
  | _ :: vs, _, s, Q, .cons (a := a) (o := o) (os := os) h1 h2 h3 t, h => by
    rw [List.mapM_cons]
    refine wpAny_bind ?_
    rw [kas_first_eq]
    refine wpAny_bind (Looks.here (show Looks M s.heap (typeOf (.ref a)) o.cls from (Looks.ld h1).andThen .now) ?_)
    rw [h2, if_neg (by first | decide | simp)]
    refine wpAny_bind (listItems_at h1 h3 (wpAny_pure ?_))
    exact wpAny_bind (fsts_ask (Q := fun bs s2 => wpAny M A (pure (_ :: bs)) Q E s2) t (wpAny_pure h))
theorem looks_tup {h : Heap} {M : Model} : ∀ {vs : List Value} {os : List (Option Value)}, Fsts h vs os → ∀ v ∈ vs, Looks M h (typeOf v) (.type "tuple")
  | _ :: vs, _, .cons h1 h2 h3 t, v, m => by
    rcases List.mem_cons.mp m with rfl | m
    · rw [← h2]
      exact (Looks.ld h1).andThen .now
    · exact looks_tup t v m
/-- what kind of keys they are, where some are empty -/
theorem fsts_kind {vs : List Value} {os : List (Option Value)} {M : Model} {Q : SortKind → Shared → Prop} (f : Fsts s.heap vs os) (ne : vs ≠ []) (no : (os.all fun o => o.isSome) = false)
    (h : Q (if (os[0]?.bind id).isSome = true then general' else oneType') s) : wpAny M A (keyKind' vs.toArray) Q E s := by
  rw [kat_kind_eq, List.mapM_toArray, map_eq_pure_bind]
  refine wpAny_bind (wpAny_bind (fsts_ask f (wpAny_pure ?_)))
  have e1 : (os.toArray.all fun x => x.isSome) = false := by simpa using no
  rw [e1, if_neg Bool.false_ne_true]
  have e2 : os.toArray[0]? = os[0]? := by simp
  rw [e2]
  cases e3 : (os[0]?.bind id).isSome with
  | true =>
    rw [e3, if_pos rfl] at h
    rw [if_pos rfl]
    exact wpAny_pure h
  | false =>
    rw [e3, if_neg Bool.false_ne_true] at h
    rw [if_neg Bool.false_ne_true]
    rw [oneTypeOnly'_eq, List.mapM_toArray, map_eq_pure_bind]
    refine wpAny_bind (wpAny_bind (wpAny_bind (kas_mapM (r := Value.type "tuple") _ (fun v hv Q2 hq => (looks_tup f v hv).here hq) (wpAny_pure ?_))))
    have al : ((List.map (fun _ => Value.type "tuple") vs).toArray.all fun x => x == Value.type "tuple") = true := by
      simp only [List.all_toArray, List.all_map, List.all_eq_true]
      intro _ _
      exact beq_self_eq_true _
    have h0 : (List.map (fun _ => Value.type "tuple") vs).toArray[0]? = some (Value.type "tuple") := by
      cases vs with
      | nil => exact absurd rfl ne
      | cons v vs => simp
    rw [h0]
    simp only [al, if_true]
    exact wpAny_pure (wpAny_pure h)
/-- tuples that read as alike data can be sorted -/
theorem sorts_tups {vs : List Value} {ds : List PyData} (e : EachIs (fun v d => ∃ as, Reads s.heap v d as) vs ds) (hal : AllAlike ds) (ht : ∀ d ∈ ds, ∃ xs, d = .tuple xs) (hu : ∀ d, d ∈ ds → A.units + d.depth < cLine) :
    SortsAt P w A s (dataKind s.heap ds) vs := by
  obtain ⟨os, f, g⟩ := fsts_of e ht
  cases al : (os.all fun o => o.isSome) with
  | true => exact SortsAt.data e hal (.inl (g al)) hu
  | false =>
    refine ⟨fun v hv => ?_, if (os[0]?.bind id).isSome = true then general' else oneType', ?_, fun h2 E Q hq => ?_⟩
    · obtain ⟨d, hd, as, r⟩ := e.left v hv
      exact ⟨_, dataKind_some hal hd r⟩
    · intro E x y a b Q ha hb hq
      obtain ⟨d, as, hd, ra, rfl⟩ := dataKind_inv ha
      obtain ⟨d2, as2, hd2, rb, rfl⟩ := dataKind_inv hb
      obtain ⟨xs, rfl⟩ := ht d hd
      obtain ⟨ys, rfl⟩ := ht d2 hd2
      have hdd := hal _ hd _ hd2
      have room : A.units + min (PyData.tuple xs).depth (PyData.tuple ys).depth < cLine := Nat.lt_of_le_of_lt (Nat.add_le_add_left (Nat.min_le_left _ _) _) (hu _ hd)
      split
      · show wpAny (model P w) A (oneLt' false x y) Q E s
        exact oneLt_alike (f := false) (fun z => nomatch z) ra rb hdd (fun z => nomatch z) room hq
      · rw [keyLt'_oneType]
        exact oneLt_tup ra rb (by simpa [alike] using hdd) room hq
    · refine fsts_kind f (fun z => ?_) al hq
      rw [z] at h2
      simp at h2
end
end L2.SortT
set_option Elab.async false
set_option linter.all false
set_option maxRecDepth 100000
set_option maxHeartbeats 4000000
/-! Lists and sets of nested data, sorted; sets of tuples as tracked things. -/
namespace L2.NSet
open PySem PySem.Spec PyProof.Rows L2.SortT
section
variable {P : Program} {w : World} {A : Around} {E : Value → Shared → Prop} {s : Shared} {β : Type} {vs : List Value} {bs : List β} {enc : β → PyData} {R : Value → β → Prop}
open PySem.W PySem.SeqAt
/-- what can be sorted: as the library says, or tuples, empty ones too -/
def Srtb (ds : List PyData) : Prop := PySem.W.Sortable ds ∨ ∀ d ∈ ds, ∃ xs, d = .tuple xs
theorem sorts_any {ds : List PyData} (e : EachIs (fun v d => ∃ as, Reads s.heap v d as) vs ds) (hal : AllAlike ds) (hk : Srtb ds) (hu : ∀ d, d ∈ ds → A.units + d.depth < cLine) : SortsAt P w A s (dataKind s.heap ds) vs :=
  hk.elim (fun k => SortsAt.data e hal k hu) fun k => sorts_tups e hal k hu
theorem sorted_any {l : Addr} {Q : Value → Shared → Prop} (hl : s.heap.IsList l vs.toArray) (e : EachIs R vs bs) (er : EachIs (fun v b => ∃ as, Reads s.heap v (enc b) as) vs bs) (hal : AllAlike (bs.map enc)) (hk : Srtb (bs.map enc)) (hL : bs.length ≤ sizeLine)
    (hu : ∀ b, b ∈ bs → A.units + 2 + (enc b).depth < cLine) (h : ∀ out, out.length = bs.length → EachIs R out (bs.mergeSort (dataLe false enc)) → Q (.ref (s.heap.objs.size + 1)) { s with heap := sortedAll s.heap vs (List.toArray out) }) :
    wpAny (model P w) A (call (.builtin "sorted") [.ref l]) Q E s := by
  have er2 : EachIs (fun v b => ∃ as, Reads (sortingHeap (copyHeap s.heap vs) (s.heap.objs.size + 1) vs) v (enc b) as) vs bs := er.mono fun _ _ ⟨as, r⟩ => ⟨as, PyProof.Rows.Reads.keeps (fun _ _ => sorting_copy_old) r⟩
  refine sorted_vals hl (sorts_any (s := { s with heap := sortingHeap (copyHeap s.heap vs) (s.heap.objs.size + 1) vs }) (each_map (R := fun v d => ∃ as, Reads (sortingHeap (copyHeap s.heap vs) (s.heap.objs.size + 1) vs) v d as) enc er2) hal hk (bound_map hu)) ?_
    (h _ ?_ (sortVals_data false e er2 hal))
  · rw [e.length]
    exact hL
  · rw [sortVals_length false rfl]
    exact e.length
theorem list_sort_any2 {a : Addr} {n : Nat} {Q : Value → Shared → Prop} (ho : s.heap.get? a = some (seqObj "list" vs.toArray n)) (e : EachIs R vs bs) (er : EachIs (fun v b => ∃ as, Reads s.heap v (enc b) as ∧ a ∉ as) vs bs) (hal : AllAlike (bs.map enc)) (hk : Srtb (bs.map enc)) (hL : bs.length ≤ sizeLine)
    (hu : ∀ b, b ∈ bs → A.units + 1 + (enc b).depth < cLine) (h : ∀ out, out.length = bs.length → EachIs R out (bs.mergeSort (dataLe false enc)) → Q .none { s with heap := sortedHeap s.heap a vs (List.toArray out) }) :
    wpAny (model P w) A (call (.builtin "list.sort") [.ref a]) Q E s := by
  have er2 : EachIs (fun v b => ∃ as, Reads (sortingHeap s.heap a vs) v (enc b) as) vs bs := each_keepBut (h' := sortingHeap s.heap a vs) (fun _ _ hb q => sortingHeap_old hb q) (fun o q => by rw [ho] at q; rw [← Option.some.inj q]) hal er
  refine wpAny_call_entry slot_list_sort ⟨_, ho, rfl⟩ entry_list_sort (list_sort_vals (κ := dataKind (sortingHeap s.heap a vs) (bs.map enc)) ho (sorts_any (s := { s with heap := sortingHeap s.heap a vs })
    (each_map (R := fun v d => ∃ as, Reads (sortingHeap s.heap a vs) v d as) enc er2) hal hk (bound_map hu)) ?_ ⟨.none, rfl, ?_⟩) (args_list_sort _)
  · rw [e.length]
    exact hL
  · refine h _ ?_ (sortVals_data false e er2 hal)
    rw [sortVals_length false rfl]
    exact e.length
/-- rising -/
def Rise (enc : β → PyData) (l : List β) : Prop := l.Pairwise fun a b => dataLe false enc a b = true
theorem rise_sort (l : List β) : Rise enc (l.mergeSort (dataLe false enc)) := sort_pairwise (sortLe_total _ false _) l
theorem eachIs_mem {α γ : Type} {R : α → γ → Prop} : ∀ {xs : List α} {ys : List γ}, EachIs R xs ys → ∀ y ∈ ys, ∃ x ∈ xs, R x y
  | _, _, .nil, y, m => nomatch m
  | _, _, .cons r e, y, m => by
    rcases List.mem_cons.mp m with rfl | m
    · exact ⟨_, List.mem_cons_self, r⟩
    · obtain ⟨x, mx, rx⟩ := eachIs_mem e y m
      exact ⟨x, List.mem_cons_of_mem _ mx, rx⟩
theorem vals_each : ∀ {xs : List (V × PyData)} {us : List Value}, Vals (xs.map Prod.fst) us → EachIs (fun v (b : V × PyData) => RelV b.1 v) us xs
  | [], _, .nil => .nil
  | _ :: _, _, .cons r t => .cons r (vals_each t)
theorem each_vals : ∀ {xs : List (V × PyData)} {us : List Value}, EachIs (fun v (b : V × PyData) => RelV b.1 v) us xs → Vals (xs.map Prod.fst) us
  | [], _, .nil => .nil
  | _ :: _, _, .cons r t => .cons r (each_vals t)
end
section
variable {X : Cx} {pins : List (Addr × Obj)} {σ : L2.St} {H : Hp} {s : Shared}
open PySem.W
theorem each_reads (I : Inv X pins σ H s) : ∀ {xs : List (V × PyData)} {us : List Value}, (∀ x ∈ xs, Dp X.K H x.1 x.2) → Vals (xs.map Prod.fst) us → EachIs (fun v (b : V × PyData) => ∃ as, Reads s.heap v b.2 as) us xs
  | [], _, _, .nil => .nil
  | x :: xs, _, h, .cons r t => .cons (Dp.reads I x.2 x.1 _ (h x List.mem_cons_self) r) (each_reads I (fun y m => h y (List.mem_cons_of_mem _ m)) t)
/-- sorted(a list of nested data) -/
def rSortD (K : PySem.W.Frag) : List V → Hp → VK → Prop := fun vs H Q => ∃ (a : Addr) (xs : List (V × PyData)), vs = [V.ref a] ∧ SqL K H a (xs.map Prod.fst) ∧ (∀ x ∈ xs, Dp K H x.1 x.2) ∧ AllAlike (xs.map Prod.snd) ∧ Srtb (xs.map Prod.snd) ∧ xs.length ≤ 1000 ∧
  (∀ x ∈ xs, x.2.depth ≤ 40) ∧ ∀ (ys : List (V × PyData)) (p : Addr), ys.Perm xs → Rise Prod.snd ys → H p = none → Q (.ref p) (upd H p (.lst (ys.map Prod.fst)))
theorem cr_sortD (hu : X.A.units + 64 < cLine) : CallR X (.builtin "sorted") (rSortD X.K) := by
  intro pins s σ H vs us Q I r h
  obtain ⟨a, xs, rfl, ha, hd, hal, hk, few, dp, q⟩ := h
  rw [Vals.ref1 r]
  obtain ⟨its, rv, pl, hz⟩ := I.list ha
  have hl : s.heap.IsList a its.toArray := pl.isList
  refine sorted_any (R := fun v (b : V × PyData) => RelV b.1 v) (bs := xs) (enc := Prod.snd) hl (vals_each rv) (each_reads I hd rv) hal hk (Nat.le_trans few (by rw [sizeLine_eq]; decide)) (fun b m => by have := dp b m; omega) fun out lo eo => ?_
  have pm := List.mergeSort_perm xs (dataLe false Prod.snd)
  have hn : H (s.heap.objs.size + 1) = none := I.hok.fresh (Nat.le_succ _)
  have fit : ((xs.mergeSort (dataLe false Prod.snd)).map Prod.fst).length ≤ sizeLine := by
    rw [List.length_map, pm.length_eq, sizeLine_eq]
    omega
  obtain ⟨c, hc⟩ := sortedAll_at s.heap its out.toArray
  refine ⟨.ref (s.heap.objs.size + 1), upd H (s.heap.objs.size + 1) (.lst ((xs.mergeSort (dataLe false Prod.snd)).map Prod.fst)), I.laid (t' := s.toks) (fun b o e => sortedAll_old e) (Nat.le_succ _) ⟨fit, out, c, each_vals eo, hc⟩, rfl, q _ _ pm (rise_sort xs) hn⟩
end
end L2.NSet
set_option Elab.async false
set_option linter.all false
set_option maxRecDepth 100000
set_option maxHeartbeats 4000000
/-! Sets of tuples as tracked things: made of a list or a tuple, sorted. -/
namespace L2.NSet
open PySem PySem.Spec PyProof.Rows L2.SortT PySem.W
/-- the set at a, its members' tuples apart -/
structure Tab0 (P : Program) (w : World) (h : Heap) (a : Addr) (L : List Mem) : Prop where
  ex : ∃ (es : Array (Int × Value)) (ep : Nat) (t : SetTable), (∃ o, h.get? a = some o ∧ o.ExactSet ∧ o.data = .set es ep t) ∧ es.toList = L.map (rowN w) ∧ TabOk t (L.map fun p => p.2.hash w) ∧ (L.map (·.2)).Nodup ∧
    (w.params.followText "set-order" = true ∨ t.led = true) ∧ L.length * 5 < t.mask * 3 ∧ L.length < 64
def SetN (P : Program) (w : World) (a : Addr) (L : List Mem) : HO := .ext fun h => Tab0 P w h a L
section
variable {P : Program} {w : World} {h : Heap} {H : Hp} {a : Addr} {L : List Mem} {es : Array (Int × Value)} {ep : Nat} {t : SetTable}
theorem Tab.t0 (R : Tab P w h a L es ep t) : Tab0 P w h a L := ⟨es, ep, t, R.here, R.rows, R.lay, R.once, R.told, R.free, R.few⟩
theorem Tab0.full (R : Tab0 P w h a L) (each : ∀ p ∈ L, Kb P w h p.2 p.1) : ∃ es ep t, Tab P w h a L es ep t := by
  obtain ⟨es, ep, t, h1, h2, h3, h4, h5, h6, h7⟩ := R.ex
  exact ⟨es, ep, t, h1, h2, h3, h4, each, h5, h6, h7⟩
theorem setN_new (R : Tab0 P w h a L) : ObjOk P w H h a (SetN P w a L) := by
  have ⟨es, ep, t, ⟨o, ho, r⟩, q⟩ := R.ex
  refine ⟨R, ⟨o, ho⟩, fun h1 h2 p k => ?_⟩
  have ⟨es2, ep2, t2, ⟨o2, ho2, r2⟩, q2⟩ := Tab0.ex p
  exact ⟨es2, ep2, t2, ⟨o2, k o2 ho2, r2⟩, q2⟩
theorem refs_vals : ∀ {ks : List Mem} {us : List Value}, Vals (ks.map fun p => V.ref p.1) us → us = ks.map fun p => Value.ref p.1
  | [], _, .nil => rfl
  | p :: ks, _, .cons r t => by
    cases r
    rw [refs_vals t]
    rfl
theorem vals_refs : ∀ (ks : List Mem), Vals (ks.map fun p => V.ref p.1) (ks.map fun p => Value.ref p.1)
  | [] => .nil
  | p :: ks => .cons rfl (vals_refs ks)
theorem perm_lift {α γ : Type} (f : α → γ) : ∀ {vs : List γ} {L : List α}, vs.Perm (L.map f) → ∃ M : List α, M.Perm L ∧ vs = M.map f
  | [], [], pm => ⟨[], List.Perm.refl _, rfl⟩
  | [], x :: L, pm => by
    have e := pm.length_eq
    cases e
  | v :: vs, L, pm => by
    have m : v ∈ L.map f := pm.mem_iff.mp List.mem_cons_self
    obtain ⟨x, mx, rfl⟩ := List.mem_map.mp m
    obtain ⟨l1, l2, rfl⟩ := List.append_of_mem mx
    have q : (f x :: vs).Perm (f x :: (l1 ++ l2).map f) := by
      refine pm.trans ?_
      rw [List.map_append, List.map_cons, List.map_append]
      exact List.perm_middle
    obtain ⟨M, pM, e⟩ := perm_lift f (List.Perm.cons_inv q)
    exact ⟨x :: M, (List.Perm.cons x pM).trans List.perm_middle.symm, by rw [e]; rfl⟩
end
section
variable {X : Cx} {pins : List (Addr × Obj)} {σ : L2.St} {H : Hp} {s : Shared}
mutual
theorem nest_of (I : Inv X pins σ H s) : ∀ (k : NestedKey) (x : V) (v : Value), Dp X.K H x k.data → RelV x v → NestedIs s.heap k v
  | .none, x, v, d, r => by
    cases d
    cases r
    exact .none
  | .num i, x, v, d, r => by
    cases d
    obtain ⟨t, rfl⟩ := r
    exact .int i t
  | .text z, x, v, d, r => by
    cases d
    obtain ⟨t, rfl⟩ := r
    exact .text z t
  | .tup ks, x, v, d, r => by
    have d : Dp X.K H x (.tuple (NestedKey.datas ks)) := d
    cases d with
    | tup hq ha =>
      cases r
      obtain ⟨its, rv, ⟨o, ho, hc, n, hd⟩, _⟩ := I.tuple hq
      exact .tup ho hc hd (by simpa using nests_of I ks _ its ha rv)
theorem nests_of (I : Inv X pins σ H s) : ∀ (ks : List NestedKey) (xs : List V) (us : List Value), DpAll X.K H xs (NestedKey.datas ks) → Vals xs us → NestedAll s.heap ks us
  | [], xs, us, d, r => by
    cases d
    cases r
    exact .nil
  | k :: ks, xs, us, d, r => by
    have d : DpAll X.K H xs (k.data :: NestedKey.datas ks) := d
    cases d with
    | cons d1 d2 =>
      cases r with
      | cons r1 r2 => exact .cons (nest_of I k _ _ d1 r1) (nests_of I ks _ _ d2 r2)
end
/-- a tuple of references that has no dict of its own, as a thing of the heap alone -/
def PTu (a : Addr) (ts : List Addr) : HO := .ext fun h => ∃ o n, h.get? a = some o ∧ o.cls = .type "tuple" ∧ o.dict = none ∧ o.data = .seq (ts.map Value.ref).toArray n
/-- a tuple of pairs of texts -/
def PtOk (H : Hp) (p : Mem) : Prop := ∃ (ts : List Addr) (ks : List (Str × Str)), H p.1 = some (PTu p.1 ts) ∧ p.2 = .tup (ks.map fun q => .tup [.text q.1, .text q.2]) ∧ Paired (fun t (q : Str × Str) => H t = some (.tup [.str q.1, .str q.2])) ts ks
theorem pt_pairs (I : Inv X pins σ H s) : ∀ {ts : List Addr} {ks : List (Str × Str)}, Paired (fun t (q : Str × Str) => H t = some (.tup [.str q.1, .str q.2])) ts ks →
    NestedAll s.heap (ks.map fun q => .tup [.text q.1, .text q.2]) (ts.map Value.ref) ∧ PySem.ReadsAll s.heap (ts.map Value.ref) (NestedKey.datas (ks.map fun q => .tup [.text q.1, .text q.2])) []
  | _, _, .nil => ⟨.nil, .nil⟩
  | _, _, .cons (a := t) (b := q) h r => by
    obtain ⟨its, rv, ⟨o, ho, hc, n, hd⟩, _⟩ := I.tuple (SqT.of h)
    obtain ⟨i1, i2⟩ := pt_pairs I r
    cases rv with
    | cons r1 r2 =>
      cases r2 with
      | cons r2 r3 =>
        cases r3
        obtain ⟨t1, rfl⟩ := r1
        obtain ⟨t2, rfl⟩ := r2
        refine ⟨.cons (.tup ho hc hd (.cons (.text _ _) (.cons (.text _ _) .nil))) i1, .cons (as := []) (bs := []) ?_ i2⟩
        exact .tuple ho hc hd (.cons (as := []) (bs := []) (.str _ _) (.cons (as := []) (bs := []) (.str _ _) .nil))
/-- the member p stands in its tuple -/
def MemOk (K : PySem.W.Frag) (H : Hp) (p : Mem) : Prop := (Dp K H (.ref p.1) p.2.data ∨ PtOk H p) ∧ p.2.depth ≤ 8
theorem pt_both (I : Inv X pins σ H s) {p : Mem} (m : PtOk H p) : NestedIs s.heap p.2 (.ref p.1) ∧ PySem.Reads s.heap (.ref p.1) p.2.data [] := by
  obtain ⟨ts, ks, h, e, pr⟩ := m
  obtain ⟨o, n, ho, hc, hdn, hd⟩ := (show ∃ o n, s.heap.get? p.1 = some o ∧ o.cls = .type "tuple" ∧ o.dict = none ∧ o.data = .seq (ts.map Value.ref).toArray n from (I.hok p.1 _ h).1)
  obtain ⟨i1, i2⟩ := pt_pairs I pr
  rw [e]
  exact ⟨.tup ho hc hd (by simpa using i1), .tuple ho hc hd (by simpa using i2)⟩
theorem kb_of (I : Inv X pins σ H s) {p : Mem} (m : MemOk X.K H p) : Kb X.prog X.w s.heap p.2 p.1 := by
  rcases m.1 with d | d
  · exact ⟨nest_of I p.2 _ _ d rfl, m.2⟩
  · exact ⟨(pt_both I d).1, m.2⟩
/-- set(xs) -/
def rSetN (K : PySem.W.Frag) (P : Program) (w : World) : List V → Hp → VK → Prop := fun xs H Q => ∃ (l : Addr) (ks : List Mem), xs = [V.ref l] ∧ (SqL K H l (ks.map fun p => V.ref p.1) ∨ SqT K H l (ks.map fun p => V.ref p.1)) ∧ (∀ p ∈ ks, MemOk K H p) ∧ ks.length < 64 ∧
  ∀ a L, H a = none → (∀ p ∈ L, p ∈ ks) → (∀ p ∈ ks, p.2 ∈ L.map (·.2)) → (L.map (·.2)).Nodup → Q (.ref a) (upd H a (SetN P w a L))
theorem cr_setN (hc : X.calm = true) (hu : X.A.units + 64 < cLine) : CallR X (.type "set") (rSetN X.K X.prog X.w) := by
  intro pins s σ H xs us Q I r h
  obtain ⟨l, ks, rfl, hl, hk, few, q⟩ := h
  rw [Vals.ref1 r]
  have hn : H s.heap.objs.size = none := I.hok.fresh (Nat.le_refl _)
  have fin : ∀ (h2 : Heap) (tk : Nat) L es ep t, Tab X.prog X.w h2 s.heap.objs.size L es ep t → In ks ks.length L → (∀ b o, s.heap.get? b = some o → h2.get? b = some o) →
      ∃ y H2, Inv X pins σ H2 { s with heap := h2, toks := tk } ∧ RelV y (.ref s.heap.objs.size) ∧ Q y H2 := fun h2 tk L es ep t R g k =>
    ⟨.ref s.heap.objs.size, upd H s.heap.objs.size (SetN X.prog X.w s.heap.objs.size L), I.laid (t' := tk) k (Nat.le_refl _) (setN_new R.t0), rfl,
      q _ L hn (fun p m => List.mem_of_mem_take (g.from_ p m)) (fun p m => g.to_ p (by rw [List.take_length]; exact m)) R.once⟩
  rcases hl with hl | hl
  · obtain ⟨its, rv, pl, hz⟩ := I.list hl
    exact call_set_list (P := X.prog) (w := X.w) ks (I.ok.hd hc) pl.isList (by simpa using refs_vals rv) (fun p m => kb_of I (hk p m)) few (by omega) fin
  · obtain ⟨its, rv, ⟨o, ho, hcl, n, hd⟩, hz⟩ := I.tuple hl
    exact call_set_tuple (P := X.prog) (w := X.w) ks (I.ok.hd hc) ⟨o, ho, hcl, n, hd⟩ (by simpa using refs_vals rv) (fun p m => kb_of I (hk p m)) few (by omega) fin
/-- sorted(a set of tuples) -/
def rSortN (K : PySem.W.Frag) (P : Program) (w : World) : List V → Hp → VK → Prop := fun vs H Q => ∃ (a : Addr) (L : List Mem), vs = [V.ref a] ∧ H a = some (SetN P w a L) ∧ (∀ p ∈ L, MemOk K H p) ∧ AllAlike (L.map fun p => p.2.data) ∧
  (∀ p ∈ L, ∃ ks, p.2 = .tup ks) ∧ (∀ p ∈ L, p.2.data.depth ≤ 40) ∧ ∀ (M : List Mem) (p : Addr), M.Perm L → Rise (fun p : Mem => p.2.data) M → H p = none → Q (.ref p) (upd H p (.lst (M.map fun p => V.ref p.1)))
mutual
theorem reads_nest {h : Heap} : ∀ (k : NestedKey) (v : Value) (as : List Addr), PySem.Reads h v k.data as → as = []
  | .none, _, _, x => by
    cases x
    rfl
  | .num i, _, _, x => by
    cases x
    rfl
  | .text z, _, _, x => by
    cases x
    rfl
  | .tup ks, _, _, x => by
    have x : PySem.Reads h _ (.tuple (NestedKey.datas ks)) _ := x
    cases x with
    | tuple h1 h2 h3 h4 => exact reads_nests ks _ _ h4
theorem reads_nests {h : Heap} : ∀ (ks : List NestedKey) (vs : List Value) (as : List Addr), PySem.ReadsAll h vs (NestedKey.datas ks) as → as = []
  | [], _, _, x => by
    cases x
    rfl
  | k :: ks, _, _, x => by
    have x : PySem.ReadsAll h _ (k.data :: NestedKey.datas ks) _ := x
    cases x with
    | cons x1 x2 => rw [reads_nest k _ _ x1, reads_nests ks _ _ x2]; rfl
end
theorem each_mem2 (I : Inv X pins σ H s) {h2 : Heap} (k : ∀ b o, s.heap.get? b = some o → h2.get? b = some o) (a : Addr) : ∀ {M : List Mem}, (∀ p ∈ M, MemOk X.K H p) →
    EachIs (fun v (p : Mem) => ∃ as, PySem.Reads h2 v p.2.data as ∧ a ∉ as) (M.map fun p => Value.ref p.1) M
  | [], _ => .nil
  | p :: M, h => by
    obtain ⟨as, r⟩ : ∃ as, PySem.Reads s.heap (.ref p.1) p.2.data as := (h p List.mem_cons_self).1.elim (fun d => Dp.reads I p.2.data (.ref p.1) (.ref p.1) d rfl) fun d => ⟨[], (pt_both I d).2⟩
    have r2 := PyProof.Rows.Reads.keeps k r
    refine .cons ⟨as, r2, ?_⟩ (each_mem2 I k a fun q m => h q (List.mem_cons_of_mem _ m))
    rw [reads_nest p.2 _ _ r2]
    simp
theorem each_ref : ∀ M : List Mem, EachIs (fun v (p : Mem) => v = Value.ref p.1) (M.map fun p => Value.ref p.1) M
  | [] => .nil
  | p :: M => .cons rfl (each_ref M)
theorem ref_each : ∀ {M : List Mem} {out : List Value}, EachIs (fun v (p : Mem) => v = Value.ref p.1) out M → out = M.map fun p => Value.ref p.1
  | [], _, .nil => rfl
  | p :: M, _, .cons r e => by rw [r, ref_each e]; rfl
theorem cr_sortN (hc : X.calm = true) (hu : X.A.units + 64 < cLine) : CallR X (.builtin "sorted") (rSortN X.K X.prog X.w) := by
  intro pins s σ H vs us Q I r h
  obtain ⟨a, L, rfl, ha, hk, hal, htup, dp, q⟩ := h
  have R0 : Tab0 X.prog X.w s.heap a L := (I.hok a _ ha).1
  obtain ⟨es, ep, t, R⟩ := R0.full fun p m => kb_of I (hk p m)
  rw [Vals.ref1 r]
  obtain ⟨o, ho, ox, od⟩ := R.here
  have few := R.few
  refine Calls.call_function_entry kind_sorted plain_sorted entry_sorted (args_sorted1 _) ?_
  unfold Builtin.«sorted»
  refine wpAny_bind (m := checkCount "sorted" 1 1 _) (wpAny_pure (wpAny_bind (collect_set (A := X.A.in1) (I.ok.hd hc) ⟨o, ho, ox.1, od⟩ R.fits (by rw [R.size]; unfold scanBound; omega) R.lay.ris R.told fun s1 vs k1 z1 g1 o1 pm => ?_)))
  have hes : es.toList.map (·.2) = L.map fun p => Value.ref p.1 := by
    rw [R.rows, List.map_map]
    rfl
  rw [hes] at pm
  obtain ⟨M, pM, rfl⟩ := perm_lift _ pm
  have lM : M.length < 64 := by rw [pM.length_eq]; exact few
  refine wpAny_bind (wpAny_newList ?_ (by rw [List.length_map, sizeLine_eq]; omega))
  have at1 : (s1.heap.push (seqObj "list" (M.map fun p => Value.ref p.1).toArray 0)).get? s1.heap.objs.size = some (seqObj "list" (M.map fun p => Value.ref p.1).toArray 0) := Heap.get?_push_size _ rfl
  have mk : ∀ p ∈ M, MemOk X.K H p := fun p m => hk p (pM.mem_iff.mp m)
  have alM : AllAlike (M.map fun p => p.2.data) := fun d hd d2 hd2 => hal d ((pM.map _).mem_iff.mp hd) d2 ((pM.map _).mem_iff.mp hd2)
  refine wpAny_bind (wpAny_holding (list_sort_any2 (R := fun v (p : Mem) => v = Value.ref p.1) (enc := fun p : Mem => p.2.data) (bs := M) at1 (each_ref M) (each_mem2 I (fun b u e => Heap.get?_push_of_some _ (k1 b u e)) _ mk) alM (.inr fun d hd => ?_) (by rw [sizeLine_eq]; omega) (fun p m => ?_) fun out lo eo => ?_))
  · obtain ⟨p, mp, rfl⟩ := List.mem_map.mp hd
    obtain ⟨ks, e⟩ := htup p (pM.mem_iff.mp mp)
    exact ⟨_, by rw [e]; rfl⟩
  · have := dp p (pM.mem_iff.mp m)
    show X.A.units + 1 + 1 + _ < cLine
    omega
  · have eO := ref_each eo
    obtain ⟨c, hc2⟩ := sortedHeap_at (vs := M.map fun p => Value.ref p.1) (out := out.toArray) at1
    generalize hS : M.mergeSort (dataLe false fun p : Mem => p.2.data) = S at eO
    have pS : S.Perm M := by rw [← hS]; exact List.mergeSort_perm _ _
    have rS : Rise (fun p : Mem => p.2.data) S := by rw [← hS]; exact rise_sort M
    have hp : s.heap.objs.size ≤ s1.heap.objs.size := z1
    have hn : H s1.heap.objs.size = none := I.hok.fresh hp
    have old : ∀ b u, s.heap.get? b = some u → (sortedHeap (s1.heap.push (seqObj "list" (M.map fun p => Value.ref p.1).toArray 0)) s1.heap.objs.size (M.map fun p => Value.ref p.1) out.toArray).get? b = some u := fun b u e => by
      have q := k1 b u e
      have lt := Heap.lt_size q
      exact (sortedHeap_old (Nat.ne_of_lt lt) (by rw [size_push']; exact Nat.lt_succ_of_lt lt)).trans (Heap.get?_push_of_some _ q)
    have fit : (S.map fun p => V.ref p.1).length ≤ sizeLine := by rw [List.length_map, pS.length_eq, sizeLine_eq]; omega
    have J : Inv X pins σ (upd H s1.heap.objs.size (.lst (S.map fun p => V.ref p.1))) { s with heap := sortedHeap (s1.heap.push (seqObj "list" (M.map fun p => Value.ref p.1).toArray 0)) s1.heap.objs.size (M.map fun p => Value.ref p.1) out.toArray, gens := s1.gens, drawn := s1.drawn, toks := s1.toks } :=
      I.call (ch := []) (Un.laid old hp hn) (I.hok.laid old hp ⟨fit, out, c, by rw [eO]; exact vals_refs S, hc2⟩) (by rw [g1]; exact I.bare) fun _ z => nomatch z
    refine wpAny_pure ⟨_, rfl, ⟨.ref s1.heap.objs.size, _, ?_, rfl, q S s1.heap.objs.size (pS.trans pM) rS hn⟩⟩
    have e : ({ s1 with heap := sortedHeap (s1.heap.push (seqObj "list" (M.map fun p => Value.ref p.1).toArray 0)) s1.heap.objs.size (M.map fun p => Value.ref p.1) out.toArray } : Shared) = { s with heap := sortedHeap (s1.heap.push (seqObj "list" (M.map fun p => Value.ref p.1).toArray 0)) s1.heap.objs.size (M.map fun p => Value.ref p.1) out.toArray, gens := s1.gens, drawn := s1.drawn, toks := s1.toks } := by
      cases s1
      cases s
      cases o1
      rfl
    rw [e]
    exact J
end
end L2.NSet
set_option Elab.async false
set_option linter.all false
set_option maxRecDepth 100000
set_option maxHeartbeats 4000000
/-! Sets whose members have a key (texts, numbers): what they hold, in any order; adding; walking them; sorting sets of texts. -/
namespace L2.GSet
open PySem PySem.Spec PyProof.Rows
section
variable {P : Program} {w : World} {κ : Type} [DecidableEq κ]
/-- a set's payload holds the keys ks, and its table can be walked -/
structure Pay (kd : PySem.KeyKind P w κ) (key : Value → κ) (es : Array (Int × Value)) (t : SetTable) (ks : List κ) : Prop where
  el : ElemsOf kd es.toList
  pm : (es.toList.map fun e => key e.2).Perm ks
  few : es.size < scanBound
  fit : t.fits es.size = true
  ris : Ris t.place.toList
  led : w.params.followText "set-order" = true ∨ t.led = true
def GAt (kd : PySem.KeyKind P w κ) (key : Value → κ) (h : Heap) (a : Addr) (ks : List κ) : Prop :=
  ∃ o es ep t, h.get? a = some o ∧ o.ExactSet ∧ o.data = .set es ep t ∧ Pay kd key es t ks
variable {kd : PySem.KeyKind P w κ} {key : Value → κ} {es : Array (Int × Value)} {t : SetTable} {ks : List κ} {h h' : Heap} {a : Addr}
theorem GAt.keep (R : GAt kd key h a ks) (k : ∀ o, h.get? a = some o → h'.get? a = some o) : GAt kd key h' a ks :=
  let ⟨o, es, ep, t, ho, r⟩ := R
  ⟨o, es, ep, t, k o ho, r⟩
theorem GAt.some (R : GAt kd key h a ks) : ∃ o, h.get? a = some o := let ⟨o, _, _, _, ho, _⟩ := R; ⟨o, ho⟩
theorem Pay.size (p : Pay kd key es t ks) : es.size = ks.length := by
  have q := p.pm.length_eq
  rwa [List.length_map, Array.length_toList] at q
theorem Pay.is (hk : ∀ k v, kd.is k v = true → key v = k) (p : Pay kd key es t ks) {e : Int × Value} (he : e ∈ es.toList) (k : κ) : kd.is k e.2 = true ↔ key e.2 = k := by
  obtain ⟨⟨k', i, _⟩, _⟩ := p.el e he
  refine ⟨hk k _, fun z => ?_⟩
  rw [← z, hk k' _ i]
  exact i
theorem Pay.mem (hk : ∀ k v, kd.is k v = true → key v = k) (p : Pay kd key es t ks) (k : κ) : k ∈ ks ↔ ∃ e ∈ es.toList, kd.is k e.2 = true := by
  rw [← p.pm.mem_iff, List.mem_map]
  exact ⟨fun ⟨e, m, q⟩ => ⟨e, m, (p.is hk m k).2 q⟩, fun ⟨e, m, q⟩ => ⟨e, m, (p.is hk m k).1 q⟩⟩
end
section
variable {P : Program} {w : World} {κ : Type} [DecidableEq κ] {kd : PySem.KeyKind P w κ} {key : Value → κ} {A : Around} {E : Value → Shared → Prop} {s : Shared} {a : Addr} {ks : List κ}
/-- laying the payload down, with the growing behind it -/
theorem lay_down {grow : Bool → Sem Unit} (hgrow : ∀ (b : Bool) (s1 : Shared) (C : Unit → Shared → Prop), C () s1 → wpAny (model P w) A (grow b) C E s1)
    {o : Obj} {es0 es : Array (Int × Value)} {ep : Nat} {t0 t : SetTable} (ho : s.heap.get? a = some o) (ox : o.ExactSet) (od : o.data = .set es0 ep t0) (p : Pay kd key es t ks) {wd : Bool} {R : Option Bool → Shared → Prop}
    (hR : ∀ h', Heap.SameBut a s.heap h' → GAt kd key h' a ks → R (some true) { s with heap := h' }) :
    wpAny (model P w) A (do
        storeSet a es t
        if (!wd && t.tooFull) = true then do
            grow (relayAll t es (SetTable.grown es.size)).2.2
            storeSet a (relayAll t es (SetTable.grown es.size)).1 (relayAll t es (SetTable.grown es.size)).2.1
            pure (some true)
          else pure (some true)) R E s := by
  have b1 := Heap.SameBut.update s.heap a (Obj.putSet es t)
  have o1 := PpSet.storeB_at (es' := es) (t' := t) ho od
  refine wpAny_bind (wpAny_storeSet_of ho od ?_ (fits_of_scanBound p.few))
  split
  · have q1 := relayAll_perm t es (SetTable.grown es.size)
    have q2 := relayAll_fits t es (SetTable.grown es.size)
    have q3 := relayAll_ris t es (SetTable.grown es.size)
    have q4 := relayAll_led t es (SetTable.grown es.size)
    cases e : relayAll t es (SetTable.grown es.size) with
    | mk es2 rest =>
      obtain ⟨t2, gw⟩ := rest
      rw [e] at q1 q2 q3 q4
      have zz : es2.size = es.size := by
        have := q1.length_eq
        rwa [Array.length_toList, Array.length_toList] at this
      have p2 : Pay kd key es2 t2 ks := ⟨p.el.perm q1, (q1.map _).trans p.pm, by rw [zz]; exact p.few, q2, q3, p.led.imp id fun z => q4.trans z⟩
      have o2 := PpSet.storeB_at (es' := es2) (t' := t2) o1 rfl
      refine wpAny_bind (hgrow _ _ _ (wpAny_bind (wpAny_storeSet_of o1 rfl (wpAny_pure (hR _ (b1.trans (Heap.SameBut.update _ a _)) ⟨_, es2, _, t2, o2, ox, rfl, p2⟩)) (fits_of_scanBound p2.few))))
  · exact wpAny_pure (hR _ b1 ⟨_, es, _, t, o1, ox, rfl, p⟩)
theorem add_hashed (hk : ∀ k v, kd.is k v = true → key v = k) {k : κ} {x : Value} {Q : Bool → Shared → Prop} (hx : kd.is k x = true) (hsc : x.scannable = true) (R : GAt kd key s.heap a ks) (room : ks.length + 1 < scanBound)
    (hQ : ∀ b h', Heap.SameBut a s.heap h' → GAt kd key h' a (if k ∈ ks then ks else ks ++ [k]) → Q b { s with heap := h' }) :
    wpAny (model P w) A (setAddHashed a x (kd.hash k)) Q E s := by
  obtain ⟨o, es, ep, t, ho, ox, od, p⟩ := R
  unfold setAddHashed setAddHashedIn
  refine wpAny_holding (wpAny_bind (wpAny_setState_of ho od p.fit ?_))
  dsimp only
  rw [byScan_of hsc p.few p.el, if_pos rfl]
  unfold setAddByScan
  refine wpAny_bind (wpAny_bind (wpAny_rule (wpAny_bind (wpAny_setScan_of hx ho od p.fit p.el ?_))))
  cases fi : List.findIdx? (fun e => kd.is k e.2) es.toList with
  | some j =>
    obtain ⟨lj, ij, _⟩ := List.findIdx?_eq_some_iff_getElem.mp fi
    have mk : k ∈ ks := (p.mem hk k).2 ⟨_, List.getElem_mem lj, ij⟩
    have q := hQ false s.heap (Heap.SameBut.refl a s.heap) ⟨o, es, ep, t, ho, ox, od, by rw [if_pos mk]; exact p⟩
    exact wpAny_pure (wpAny_pure q)
  | none =>
    have mk : k ∉ ks := fun z => by
      obtain ⟨e, he, i⟩ := (p.mem hk k).1 z
      have c := List.findIdx?_eq_none_iff.mp fi e he
      rw [i] at c
      exact Bool.noConfusion c
    dsimp only
    have q1 := layNew_perm t es (kd.hash k) x
    have q2 := layNew_fits t es (kd.hash k) x
    have q3 := layNew_ris t es (kd.hash k) x p.ris
    have q4 := layNew_led t es (kd.hash k) x
    generalize layNew t es (kd.hash k) x = Z at q1 q2 q3 q4 ⊢
    obtain ⟨es1, t1, wd, gw⟩ := Z
    dsimp only at q1 q2 q3 q4 ⊢
    rw [Array.toList_push] at q1
    have zz : es1.size = ks.length + 1 := by
      have z := q1.length_eq
      rw [List.length_append, Array.length_toList, Array.length_toList, p.size] at z
      exact z
    have pay : ∀ t' : SetTable, t'.fits es1.size = true → Ris t'.place.toList → t'.led = t.led → Pay kd key es1 t' (ks ++ [k]) := fun t' f r l =>
      ⟨(p.el.push hx hsc).perm q1, by
        have z := q1.map fun e => key e.2
        rw [List.map_append, List.map_cons, List.map_nil, hk k x hx] at z
        exact z.trans (p.pm.append_right _), by rw [zz]; exact room, f, r, p.led.imp id fun z => l.trans z⟩
    have fin : ∀ h', Heap.SameBut a s.heap h' → GAt kd key h' a (ks ++ [k]) → Q true { s with heap := h' } := fun h' sb g => hQ true h' sb (by rw [if_neg mk]; exact g)
    have gives : ∀ (b : Bool) (s1 : Shared) (C : Unit → Shared → Prop), C () s1 → wpAny (model P w) A (match b with | true => rule "set.scan.the-table-gave-way" | false => pure ()) C E s1 := fun b s1 C q => by
      cases b
      · exact wpAny_pure q
      · exact wpAny_rule q
    refine wpAny_bind (gives _ _ _ ?_)
    split
    · refine wpAny_bind ?_
      rw [hashByValue_scannable 8 hsc]
      refine wpAny_pure (lay_down gives ho ox od (pay _ ?_ ?_ ?_) fun h' sb g => wpAny_pure (fin h' sb g))
      · split
        · exact q2
        · exact SetTable.fits_plain_off q2
      · split <;> exact q3
      · split <;> exact q4
    · refine wpAny_bind (wpAny_pure ?_)
      simp only [↓reduceIte]
      exact lay_down gives ho ox od (pay _ q2 q3 q4) fun h' sb g => wpAny_pure (fin h' sb g)
/-- a.add(x) -/
theorem add_call (hk : ∀ k v, kd.is k v = true → key v = k) {k : κ} {x : Value} {Q : Value → Shared → Prop} (hx : kd.is k x = true) (hsc : x.scannable = true) (R : GAt kd key s.heap a ks) (room : ks.length + 1 < scanBound)
    (hQ : ∀ h', Heap.SameBut a s.heap h' → GAt kd key h' a (if k ∈ ks then ks else ks ++ [k]) → Q .none { s with heap := h', toks := s.toks + 1 }) :
    wpAny (model P w) A (call (.builtin "set.add") [.ref a, x]) Q E s := by
  have ty : s.TypeIs (.ref a) "set" := by
    obtain ⟨o, es, ep, t, ho, ox, _⟩ := R
    exact ⟨o, ho, ox.1⟩
  refine wpAny_call_entry F.slot_set_add ty F.entry_set_add ?_ (F.args_set_add_2 _ _)
  unfold Builtin.«set.add» Builtin.Frozenset.oneOther Builtin.Frozenset.addrOf setAdd
  simp only [List.isEmpty_nil, bind_assoc]
  refine wpAny_bind (wpAny_pure (wpAny_bind (wpAny_pure (wpAny_bind (wpAny_holding (wpAny_bind (kd.pyHash hx ?_)))))))
  exact add_hashed (s := { s with toks := s.toks + 1 }) hk hx hsc R room fun b h' sb g => wpAny_pure ⟨_, rfl, hQ h' sb g⟩
theorem fresh (h : Heap) : GAt kd key (h.push { cls := .type "set", dict := none, data := .set #[] 0 (.fresh 0 0 (!w.params.followText "set-order")) }) h.objs.size [] := by
  refine ⟨_, #[], 0, _, Heap.get?_push_size _ rfl, ⟨rfl, rfl, rfl⟩, rfl, ⟨fun e z => by simp at z, .nil, by decide, rfl, List.Pairwise.nil, ?_⟩⟩
  show _ ∨ (!w.params.followText "set-order") = true
  cases w.params.followText "set-order"
  · exact .inr rfl
  · exact .inl rfl
end
end L2.GSet
set_option Elab.async false
set_option linter.all false
set_option maxRecDepth 100000
set_option maxHeartbeats 4000000
/-! Comprehensions of any kind with one or two `for`s, by what is laid ahead of them and what a turn's end does. -/
namespace L2.Cmp
open PySem PySem.Spec PyProof.Rows
/-- a turn's shape -/
def turnOf (tg : Expr) (ifs : List Expr) (p : Pos) (it : Value) (env : Env) (tail : Bool → Sem PySem.Fin) : Sem PySem.Fin := do
  standAt p
  match ← pyNext it with
  | none => pure (.done .next)
  | some v =>
    letOwnedTupleGo tg it v
    assign tg env v
    let ok ← forIn ifs true fun c r => if r = true then do let ok ← isTrue c env (eval c env); pure (ForInStep.yield ok) else pure (ForInStep.yield r)
    tail ok
/-- the innermost turn's end -/
def tailIn (em : Sem Unit) (cd : Code) : Bool → Sem PySem.Fin := fun ok => if ok = true then em >>= fun _ => again cd else again cd
/-- the outer one's: the second source is walked -/
def tailOut (node i1 : Expr) (acc : Value) (env : Env) (cd : Code) : Bool → Sem PySem.Fin := fun ok => if ok = true then do
    let x ← eval i1 env
    standAt i1.pos
    let x ← foldedSetIterable i1 env x
    let _ ← runOwn (.compStart node 1 (← holding [x] (pyIter x)) acc env) env
    again cd
  else again cd
/-- a set's, a list's or a dict's comprehension -/
def IsC (node : Expr) : Prop := (∃ e gs sc p, node = .SetComp e gs sc p) ∨ (∃ e gs sc p, node = .ListComp e gs sc p) ∨ ∃ k v gs sc p, node = .DictComp k v gs sc p
theorem IsC.den {prog : Program} {w : World} {node : Expr} (c : IsC node) (lvl : Nat) (it acc : Value) (env : Env) (A : Around) :
    (A.under (.compLoop node lvl it acc env) = A ∧ (model prog w).den (.compLoop node lvl it acc env) = (compTurn node lvl it acc env).onRaise (fun x => do noteFrame x env; theTreesLotGoes x) ∧ (Code.compLoop node lvl it acc env).quiet = true) ∧
    (A.under (.compStart node lvl it acc env) = A ∧ (model prog w).den (.compStart node lvl it acc env) = (compStart node lvl it acc env).onRaise (fun x => do noteFrame x env; standAt theWindowsPlace)) := by
  rcases c with ⟨e, gs, sc, p, rfl⟩ | ⟨e, gs, sc, p, rfl⟩ | ⟨k, v, gs, sc, p, rfl⟩ <;> exact ⟨⟨rfl, rfl, rfl⟩, rfl, rfl⟩
abbrev nil2 : Value → Shared → Prop := fun _ _ => False
theorem loop_any {prog : Program} {w : World} {A : Around} {R : Result → Shared → Prop} {s : Shared} {node : Expr} {lvl : Nat} {it acc : Value} {env : Env} (ic : IsC node) (Iv : Nat → Shared → Prop)
    (turn : ∀ n s, Iv n s → wpAny (model prog w) A (compTurn node lvl it acc env) (fun fin s' => match fin with | .done f => R (.ok f) s' | .again c' => c' = Code.compLoop node lvl it acc env ∧ ∃ m, m < n ∧ Iv m s') nil2 s)
    (n : Nat) (h : Iv n s) : codeAny (model prog w) A (.compLoop node lvl it acc env) R s := by
  obtain ⟨d1, d2, d3⟩ := (ic.den (prog := prog) (w := w) lvl it acc env A).1
  refine codeAny_loop d3 Iv (fun n s hI => ?_) n h
  rw [d1, d2]
  exact wpAny_noted (wpAny_mono (turn n s hI) (fun _ _ z => z) fun _ _ z => z.elim)
theorem start_any {prog : Program} {w : World} {A : Around} {R : Result → Shared → Prop} {s : Shared} {node tg iter : Expr} {ifs : List Expr} {lvl : Nat} {it acc : Value} {env : Env} (ic : IsC node) (hcl : (clausesOf node)[lvl]? = some ⟨tg, iter, ifs, 0⟩)
    (h0 : codeAny (model prog w) A (.compLoop node lvl it acc env) R s)
    (h : wpAny (model prog w) A (pyIter it) (fun it' s' => codeAny (model prog w) A (.compLoop node lvl it' acc env) R s') nil2 s) :
    codeAny (model prog w) A (.compStart node lvl it acc env) R s := by
  obtain ⟨d1, d2⟩ := (ic.den (prog := prog) (w := w) lvl it acc env A).2
  have qu : ∀ it', (Code.compLoop node lvl it' acc env).quiet = true := fun it' => (ic.den (prog := prog) (w := w) lvl it' acc env A).1.2.2
  refine codeAny_of_tree ?_
  rw [d1, d2]
  refine wpAny_notedAt ?_
  unfold compStart
  rw [hcl]
  show wpAny _ _ (ask >>= _) _ _ s
  refine wpAny_bind (wpAny_askSetting (wpAny_ite ?_))
  split
  · first
      | exact wpAny_bind (wpAny_pure (wpAny_pure (And.intro (qu _) h0)))
      | exact wpAny_pure (And.intro (qu _) h0)
  · refine wpAny_bind (wpAny_rule ?_)
    show wpAny _ _ (standAt iter.pos >>= _) _ _ s
    exact wpAny_bind (wpAny_standAt (wpAny_bind (wpAny_mono h (fun it' s' h' => wpAny_pure (And.intro (qu _) h')) fun _ _ z => z.elim)))
/-- what the end of a turn reaches from the slots σ: it forgets at most vs -/
def Past (B : Cx) (pins : List (Addr × Obj)) (vs : List Nat) (σ : List (Option V)) (C : Hp → Prop) (s' : Shared) : Prop :=
  ∃ σ' H', Inv B pins σ' H' s' ∧ σ'.length = σ.length ∧ (∀ (j : Nat) v, j ∉ vs → σ[j]? = some (some v) → σ'[j]? = some (some v)) ∧ C H'
abbrev TAc := List (Option V) → Hp → (Hp → Prop) → Prop
/-- the walk of one clause, as it is read -/
def Walk (J : It) (g : TG) (tt : TT) (ta : TAc) (vs : List Nat) (σ : List (Option V)) (Done : Hp → Prop) (H0 : Hp) : Prop :=
  ∃ W : Nat → Nat → Hp → Prop, (∃ m, W 0 m H0) ∧ ∀ i m H, W i m H → (J.stop i H ∧ Done H) ∨ (J.go i H ∧ ∃ Nx : Hp → Prop, (∀ H', Nx H' → ∃ m', m' < m ∧ W (i + 1) m' H') ∧
    ∀ x H', J.yld i H x H' → g x (wipe σ vs) H' fun σ2 H2 => wipe σ2 vs = wipe σ vs ∧ tt σ2 H2 fun b H3 => if b = true then ta σ2 H3 Nx else Nx H3)
section
variable {B : Cx} {pins : List (Addr × Obj)} {it : Addr} {fp : List Addr} {tn : Nat → Heap → Prop} {J : It} {vs : List Nat} {σ : List (Option V)} {tg : Expr} {ifs : List Expr} {g : TG} {tt : TT} {ta : TAc} {p : Pos} {tail : Bool → Sem PySem.Fin} {cd : Code}
theorem turn_ok (hx : B.xe = nil2) (hc : B.calm = true) (T : Turn B.prog B.w B.K tg J fp it tn) (pg : PG B tg g) (pt : PTs B ifs tt) (stat : ∀ H', (∀ b ∈ fp, H' b = none) → ∀ b ∈ fp, FpOk B pins H' b)
    (act : ∀ (pl : List (Addr × Obj)) s σ H C, Inv B pl σ H s → ta σ H C → wpAny (model B.prog B.w) B.A (tail true) (fun fin s' => fin = .again cd ∧ Past B pl vs σ C s') nil2 s) (no : tail false = again cd)
    {R : Result → Shared → Prop} {W : Nat → Nat → Hp → Prop} {Done : Hp → Prop} (hd : ∀ s' H', Inv B pins (wipe σ vs) H' s' → Done H' → R (.ok .next) s')
    (turn : ∀ i m H, W i m H → (J.stop i H ∧ Done H) ∨ (J.go i H ∧ ∃ Nx : Hp → Prop, (∀ H', Nx H' → ∃ m', m' < m ∧ W (i + 1) m' H') ∧
      ∀ x H', J.yld i H x H' → g x (wipe σ vs) H' fun σ2 H2 => wipe σ2 vs = wipe σ vs ∧ tt σ2 H2 fun b H3 => if b = true then ta σ2 H3 Nx else Nx H3)) (n : Nat) (s : Shared)
    (start : ∃ i H', Inv B pins (wipe σ vs) H' s ∧ tn i s.heap ∧ (∀ b ∈ fp, H' b = none) ∧ W i n H') :
    wpAny (model B.prog B.w) B.A (turnOf tg ifs p (.ref it) B.env tail) (fun fin s' => match fin with | .done f => R (.ok f) s' | .again c' => c' = cd ∧ ∃ m, m < n ∧ ∃ i H', Inv B pins (wipe σ vs) H' s' ∧ tn i s'.heap ∧ (∀ b ∈ fp, H' b = none) ∧ W i m H') nil2 s := by
  obtain ⟨i, H5, I5, st5, n5, w5⟩ := start
  unfold turnOf
  refine wpAny_bind (wpAny_standAt (wpAny_bind ?_))
  rcases turn i n H5 w5 with ⟨stop, dn⟩ | ⟨go, Nx, hNx, step⟩
  · refine thnF (T.done B rfl rfl rfl hc i pins s _ H5 nil2 I5 (stat _ n5) st5 stop) fun r s6 ⟨hr, I6⟩ => ?_
    subst hr
    exact wpAny_pure (hd _ _ I6 dn)
  · refine thnF (T.item B rfl rfl rfl hc i pins s _ H5 nil2 I5 (stat _ n5) st5 go) fun r s6 ⟨u, hr, h6⟩ => ?_
    subst hr
    refine wpAny_bind (thnF h6 fun _ s7 ⟨x, H7, I7, r7, y7, st7, n7⟩ => ?_)
    have a1 := pg.run _ s7 _ H7 x u _ (I7.pinned (stat _ n7) (T.obj _ _ st7)) r7 (step x H7 y7)
    rw [hx] at a1
    refine wpAny_bind (thnF a1 fun _ s8 ⟨σ8, H8, I8, hw8, q8⟩ => ?_)
    have a2 := pt.run _ s8 σ8 H8 _ I8 q8
    rw [hx] at a2
    refine wpAny_bind (thnF a2 fun b s9 ⟨H9, I9, q9⟩ => ?_)
    have fin : ∀ s', Past B (pins ++ pinsAt fp s7.heap) vs σ8 Nx s' → ∃ m, m < n ∧ ∃ i H', Inv B pins (wipe σ vs) H' s' ∧ tn i s'.heap ∧ (∀ b ∈ fp, H' b = none) ∧ W i m H' := by
      rintro s' ⟨σ', H', I', hl, hk, nx⟩
      obtain ⟨m, lt, wm⟩ := hNx H' nx
      have there : ∀ b ∈ fp, ∀ o, s7.heap.get? b = some o → s'.heap.get? b = some o ∧ H' b = none := fun b hb o e =>
        let z := I'.pin (b, o) (List.mem_append_right _ (List.mem_append_right _ (mem_pinsAt hb e)))
        ⟨z.1, z.2.1⟩
      refine ⟨m, lt, i + 1, H', I'.unpinned.weak ?_ ?_, T.keep _ _ _ st7 fun b hb o e => (there b hb o e).1, fun b hb => ?_, wm⟩
      · rw [hl, ← hw8, wipe_length]
      · intro j v e
        rw [← hw8] at e
        exact hk j v (wipe_some e).2 (wipe_some e).1
      · obtain ⟨o, e, _⟩ := T.obj _ _ st7 b hb
        exact (there b hb o e).2
    cases b with
    | false =>
      rw [no]
      exact wpAny_pure ⟨rfl, fin _ ⟨σ8, H9, I9, rfl, fun _ _ _ e => e, q9⟩⟩
    | true =>
      refine wpAny_mono (act _ s9 σ8 H9 _ I9 q9) (fun f s' z => ?_) fun _ _ z => z.elim
      obtain ⟨rfl, pa⟩ := z
      exact ⟨rfl, fin _ pa⟩
/-- the whole loop of a clause -/
theorem clause_ok {node : Expr} {lvl : Nat} {acc : Value} (ic : IsC node) (ht : compTurn node lvl (.ref it) acc B.env = turnOf tg ifs p (.ref it) B.env tail) (hcd : cd = .compLoop node lvl (.ref it) acc B.env)
    (hx : B.xe = nil2) (hc : B.calm = true) (T : Turn B.prog B.w B.K tg J fp it tn) (pg : PG B tg g) (pt : PTs B ifs tt) (stat : ∀ H', (∀ b ∈ fp, H' b = none) → ∀ b ∈ fp, FpOk B pins H' b)
    (act : ∀ (pl : List (Addr × Obj)) s σ H C, Inv B pl σ H s → ta σ H C → wpAny (model B.prog B.w) B.A (tail true) (fun fin s' => fin = .again cd ∧ Past B pl vs σ C s') nil2 s) (no : tail false = again cd)
    {R : Result → Shared → Prop} {Done : Hp → Prop} (hd : ∀ s' H', Inv B pins (wipe σ vs) H' s' → Done H' → R (.ok .next) s')
    {H0 : Hp} (wk : Walk J g tt ta vs σ Done H0) {s : Shared} (I : Inv B pins (wipe σ vs) H0 s) (st : tn 0 s.heap) (n0 : ∀ b ∈ fp, H0 b = none) :
    codeAny (model B.prog B.w) B.A (.compLoop node lvl (.ref it) acc B.env) R s := by
  obtain ⟨W, ⟨m0, w0⟩, turn⟩ := wk
  subst hcd
  refine loop_any ic (fun n s' => ∃ i H', Inv B pins (wipe σ vs) H' s' ∧ tn i s'.heap ∧ (∀ b ∈ fp, H' b = none) ∧ W i n H') (fun n s' z => ?_) m0 ⟨0, H0, I, st, n0, w0⟩
  rw [ht]
  exact turn_ok hx hc T pg pt stat act no hd turn n s' z
/-- the end of an innermost turn, by what the code em does -/
theorem act_in {em : Sem Unit} (h : ∀ (pl : List (Addr × Obj)) s σ H C, Inv B pl σ H s → ta σ H C → wpAny (model B.prog B.w) B.A em (fun _ s' => ∃ H', Inv B pl σ H' s' ∧ C H') nil2 s) :
    ∀ (pl : List (Addr × Obj)) s σ H C, Inv B pl σ H s → ta σ H C → wpAny (model B.prog B.w) B.A (tailIn em cd true) (fun fin s' => fin = .again cd ∧ Past B pl vs σ C s') nil2 s := by
  intro pl s σ H C I q
  show wpAny _ _ (em >>= fun _ => again cd) _ _ s
  exact wpAny_bind (wpAny_mono (h pl s σ H C I q) (fun _ s' ⟨H', I', c⟩ => wpAny_pure ⟨rfl, σ, H', I', rfl, fun _ _ _ e => e, c⟩) fun _ _ z => z)
/-- the end of an outer turn -/
theorem act_out {node i1 t1 : Expr} {ifs1 : List Expr} {acc : Value} {wi1 : TI} {g1 : TG} {tt1 : TT} {vs1 : List Nat} {em : Sem Unit} {p1 : Pos} (ic : IsC node) (hcl : (clausesOf node)[1]? = some ⟨t1, i1, ifs1, 0⟩)
    (ht : ∀ it1, compTurn node 1 (.ref it1) acc B.env = turnOf t1 ifs1 p1 (.ref it1) B.env (tailIn em (.compLoop node 1 (.ref it1) acc B.env)))
    (hx : B.xe = nil2) (hc : B.calm = true) (hv : ∀ i ∈ vs1, i ∈ vs) (hs : ∀ x, foldedSetIterable i1 B.env x = pure x) (hi1 : PI B t1 i1 wi1) (pg1 : PG B t1 g1) (pt1 : PTs B ifs1 tt1)
    (h : ∀ (pl : List (Addr × Obj)) s σ H C, Inv B pl σ H s → ta σ H C → wpAny (model B.prog B.w) B.A em (fun _ s' => ∃ H', Inv B pl σ H' s' ∧ C H') nil2 s) :
    ∀ (pl : List (Addr × Obj)) s σ H C, Inv B pl σ H s → (wi1 σ H fun J1 H1 => Walk J1 g1 tt1 ta vs1 σ C H1) →
      wpAny (model B.prog B.w) B.A (tailOut node i1 acc B.env cd true) (fun fin s' => fin = .again cd ∧ Past B pl vs σ C s') nil2 s := by
  intro pl s σ H C I q
  unfold tailOut
  rw [if_pos rfl]
  have a1 := hi1.run pl s σ H _ I q
  rw [hx] at a1
  refine wpAny_bind (thnF a1 fun xv s1 a2 => ?_)
  refine wpAny_bind (wpAny_standAt (wpAny_bind (wpAny_of_eq (hs xv) (wpAny_bind (wpAny_holding (thnF a2 fun itv s2 z => ?_))))))
  obtain ⟨it1, fp1, tn1, J1, H2, rfl, I2, T1, st2, f2, wk⟩ := z
  refine wpAny_bind (wpAny_runOwn ?_)
  have stat1 : ∀ H', (∀ b ∈ fp1, H' b = none) → ∀ b ∈ fp1, FpOk B pl H' b := fun H' hn b hb => ⟨hn b hb, (f2 b hb).2⟩
  have lp : codeAny (model B.prog B.w) B.A (.compLoop node 1 (.ref it1) acc B.env) (fun r s' => match r with | .ok _ => Past B pl vs σ C s' | .error _ => False) s2 :=
    clause_ok (cd := .compLoop node 1 (.ref it1) acc B.env) ic (ht it1) rfl hx hc T1 pg1 pt1 stat1 (act_in h) rfl
      (fun s' H' I' c => ⟨wipe σ vs1, H', I', wipe_length _ _, fun j v nj e => by rw [wipe_out fun m => nj (hv j m)]; exact e, c⟩) wk (I2.weak (wipe_length _ _) fun j v e => (wipe_some e).1) st2 fun b hb => (f2 b hb).1
  rw [Around.mark_none]
  refine codeAny_mono (start_any ic hcl lp (T1.self B.A 0 _ _ _ st2 lp)) fun r s' hr => ?_
  cases r with
  | error e => exact hr.elim
  | ok f => first
    | exact wpAny_pure ⟨rfl, hr⟩
    | exact wpAny_bind (wpAny_pure (wpAny_pure ⟨rfl, hr⟩))
end
end L2.Cmp
set_option Elab.async false
set_option linter.all false
set_option maxRecDepth 100000
set_option maxHeartbeats 4000000
/-! Set comprehensions with one or two `for`s. -/
namespace L2.Cmp
open PySem PySem.Spec PyProof.Rows
section
variable {X : Cx}
/-- from the comprehension to its first clause's loop -/
theorem block_any {pins : List (Addr × Obj)} {s : Shared} {σ : L2.St} {H : Hp} {Q : VK} {node tg iter : Expr} {ifs : List Expr} {rest : List Comprehension} {scope : Scope} {own : List (PySem.Str × Nat)} {pos' : Pos} {wi : TI} {use : Option (Value → Sem Unit)} {Qf : Value → Shared → Prop}
    {newAcc : Sem Value} {O : Obj} {emp : Addr → HO} {Rd : It → Addr → Hp → Prop} (ic : IsC node) (hcl : clausesOf node = ⟨tg, iter, ifs, 0⟩ :: rest)
    (hnew : ∀ {s : Shared} {Q E : Value → Shared → Prop}, Q (.ref s.heap.objs.size) { s with heap := s.heap.push O } → wpAny (model X.prog X.w) X.A newAcc Q E s)
    (hemp : ∀ {pins : List (Addr × Obj)} {σ : L2.St} {H : Hp} {s : Shared}, Inv X pins σ H s → ∀ H' : Hp, ObjOk X.prog X.w H' (s.heap.push O) s.heap.objs.size (emp s.heap.objs.size))
    (hc : X.calm = true) (hN : X.N.Nodup) (I : Inv X pins σ H s) (hi : PI X tg iter wi) (ok : BlkOk X.N X.env.scope scope own) (hs : ∀ x, foldedSetIterable iter X.env x = pure x)
    (h : wi σ H fun J H1 => ∀ D, H1 D = none → Rd J D (upd H1 D (emp D)))
    (loop : ∀ (s3 : Shared) (H3 : Hp) (C : Addr) (cl : List (PySem.Str × Addr)) (fp : List Addr) (it : Addr) (tn : Nat → Heap → Prop) (J : It) (D : Addr) (s4 : Shared), Turn X.prog X.w X.K tg J fp it tn →
      (∀ H', (∀ b ∈ fp, H' b = none) → ∀ b ∈ fp, FpOk (X.blk s3 H3 scope (compEnvC scope cl C X.env) fp) [] H' b) → Inv (X.blk s3 H3 scope (compEnvC scope cl C X.env) fp) [] (wipe σ (own.map (·.2))) H3 s4 → tn 0 s4.heap → (∀ b ∈ fp, H3 b = none) → Rd J D H3 →
      codeAny (model X.prog X.w) X.A (.compLoop node 0 (.ref it) (.ref D) (compEnvC scope cl C X.env)) (fun r s' => match r with
        | .ok _ => ∃ H', Inv (X.blk s3 H3 scope (compEnvC scope cl C X.env) fp) [] (wipe σ (own.map (·.2))) H' s' ∧ Q (.ref D) H'
        | .error _ => False) s4)
    (hRR : ∀ D C s' m H', Inv X pins σ H' s' → Q (.ref D) H' → s'.heap.Ns C m → FpOk X pins H' C → compPost (model X.prog X.w) X.A X.xe use Qf (.ref D) C (.ok .next) s') :
    wpAny (model X.prog X.w) X.A (comprehension node scope X.env pos' newAcc false (eval iter X.env) use) Qf X.xe s := by
  have frees : ∀ y ∈ scope.names, y.2 = .free → ∃ c, X.env.cells.lookup y.1 = some c := fun y hy e => (ok.free y hy e).elim (fun k => I.ok.has _ (.inl k)) fun k => I.ok.has _ (.inr k)
  refine wpAny_comprehension_free (use := use) hcl hs (closure_ok frees) ok.kind (fun y hy e => by rw [ok.uniq y hy, e]) (thn (hi.run pins s σ H _ I h) fun xv s1 hx => thn hx fun itv s2 z => ?_)
  obtain ⟨it, fp, tn, J, H2, rfl, I2, T, st2, f2, q⟩ := z
  refine hnew (newEnv_comp ?_)
  obtain ⟨D, hD⟩ : ∃ D, s2.heap.objs.size = D := ⟨_, rfl⟩
  have rd := q D (I2.hok.fresh (Nat.le_of_eq hD))
  obtain ⟨s3, hs3⟩ : ∃ s3 : Shared, ({ s2 with heap := s2.heap.push O } : Shared) = s3 := ⟨_, rfl⟩
  have push3 : s3.heap = s2.heap.push O := by rw [← hs3]
  have I3 : Inv X pins σ (upd H2 D (emp D)) s3 := by
    rw [← hs3, ← hD]
    exact I2.laid (t' := s2.toks) (fun b o e => Heap.get?_push_of_some _ e) (Nat.le_refl _) (hemp I2 _)
  have f3 : ∀ b ∈ fp, FpOk X pins (upd H2 D (emp D)) b ∧ b < s3.heap.objs.size := fun b hb => by
    obtain ⟨o, e, _⟩ := T.obj _ _ st2 b hb
    have lt := Heap.lt_size e
    refine ⟨⟨?_, (f2 b hb).2⟩, by rw [push3, Heap.size_push]; exact Nat.lt_succ_of_lt lt⟩
    rw [upd_ne (Nat.ne_of_lt (hD ▸ lt))]
    exact (f2 b hb).1
  have st3 : tn 0 s3.heap := T.keep _ _ _ st2 fun b _ o e => by rw [push3]; exact Heap.get?_push_of_some _ e
  rw [hD, hs3]
  generalize hH3 : upd H2 D (emp D) = H3 at I3 f3 rd
  have I4 := block_start I3 ok hN f3
  generalize hcl' : cellsFrom (s3.heap.objs.size + 1) scope.names (cloFrom X.env.cells scope.names []) = cl at I4 ⊢
  obtain ⟨s4, hs4⟩ : ∃ s4 : Shared, ({ s3 with heap := pushCells (s3.heap.push { cls := .type "dict", data := .dict #[] }) scope.names } : Shared) = s4 := ⟨_, rfl⟩
  rw [hs4] at I4
  have st4 : tn 0 s4.heap := T.keep _ _ _ st3 fun b _ o e => by rw [← hs4]; exact pushCells_keeps _ _ _ _ (Heap.get?_push_of_some _ e)
  have nfp : ∀ b ∈ fp, H3 b = none := fun b hb => (f3 b hb).1.1
  have stat : ∀ H', (∀ b ∈ fp, H' b = none) → ∀ b ∈ fp, FpOk (X.blk s3 H3 scope (compEnvC scope cl s3.heap.objs.size X.env) fp) [] H' b := fun H' hn b hb =>
    ⟨hn b hb, (I4.ok.exf b hb).1, I4.ok.exfs b hb, .inl hb, fun x c e => (I4.ok.exf b hb).2 x c e, fun p hp => absurd (show p ∈ ([] : List (Addr × Obj)) ++ [] from hp) (by simp)⟩
  show codeAny _ _ (.compStart node 0 (.ref it) (.ref D) (compEnvC scope cl s3.heap.objs.size X.env)) (compPost (model X.prog X.w) X.A X.xe use Qf (.ref D) s3.heap.objs.size) _
  rw [hs4]
  have lp := codeAny_mono (loop s3 H3 s3.heap.objs.size cl fp it tn J D s4 T stat I4 st4 nfp rd) (R' := compPost (model X.prog X.w) X.A X.xe use Qf (.ref D) s3.heap.objs.size) fun r s' z => by
    cases r with
    | error e => exact z.elim
    | ok f =>
      obtain ⟨H', I', qq⟩ := z
      have I7 : Inv X pins σ H' s' := I3.call' (ch := fp) I'.os I'.base I'.hok I'.bare fun b hb => ⟨(f3 b hb).1.2.2.2.1, (f3 b hb).1.2.1, (f3 b hb).1.2.2.2.2.1, (f3 b hb).1.2.2.2.2.2⟩
      have nC : H' s3.heap.objs.size = none := I'.free
      obtain ⟨m, hn, _⟩ := I'.loc
      have cp := hRR D s3.heap.objs.size s' m H' I7 qq hn (I3.fpOk (Nat.le_refl _) nC)
      cases use <;> exact cp
  exact start_any ic (by rw [hcl]; rfl) lp (T.self X.A 0 _ _ _ st4 lp)
end
/-- how values go into a new set -/
structure Adder (P : Program) (w : World) where
  emp : Addr → HO
  ad : Addr → V → Hp → (Hp → Prop) → Prop
  fresh : ∀ (H : Hp) (h : Heap), ObjOk P w H (h.push { cls := .type "set", dict := none, data := .set #[] 0 (.fresh 0 0 (!w.params.followText "set-order")) }) h.objs.size (emp h.objs.size)
  add : ∀ {X : Cx}, X.prog = P → X.w = w → ∀ {pins : List (Addr × Obj)} {σ : L2.St} {H : Hp} {s : Shared} {E : Value → Shared → Prop} {D : Addr} {y : V} {v : Value} {C : Hp → Prop}, Inv X pins σ H s → RelV y v → ad D y H C →
    wpAny (model P w) X.A (call (.builtin "set.add") [.ref D, v]) (fun _ s' => ∃ H', Inv X pins σ H' s' ∧ C H') E s
/-- an item into the set at D -/
def tAd {P : Program} {w : World} (M : Adder P w) (te : TE) (D : Addr) : TAc := fun σ H C => te σ H fun y H' => M.ad D y H' C
def tSet1 {P : Program} {w : World} (M : Adder P w) (wi : TI) (g : TG) (tt : TT) (te : TE) (vs : List Nat) : TE := fun σ H Q => wi σ H fun J H1 => ∀ D, H1 D = none → Walk J g tt (tAd M te D) vs σ (fun H => Q (.ref D) H) (upd H1 D (M.emp D))
def tSet2 {P : Program} {w : World} (M : Adder P w) (wi : TI) (g : TG) (tt : TT) (wi1 : TI) (g1 : TG) (tt1 : TT) (te : TE) (vs vs1 : List Nat) : TE := fun σ H Q => wi σ H fun J H1 => ∀ D, H1 D = none →
  Walk J g tt (fun σ2 H2 C => wi1 σ2 H2 fun J1 H3 => Walk J1 g1 tt1 (tAd M te D) vs1 σ2 C H3) vs σ (fun H => Q (.ref D) H) (upd H1 D (M.emp D))
section
variable {X : Cx} {elt tg iter : Expr} {ifs : List Expr} {scope : Scope} {own : List (PySem.Str × Nat)} {pos : Pos} {wi : TI} {g : TG} {tt : TT} {te : TE}
theorem emit_ok {B : Cx} (M : Adder B.prog B.w) (hx : B.xe = nil2) (he : PE B elt te) {D : Addr} : ∀ (pl : List (Addr × Obj)) s σ H C, Inv B pl σ H s → tAd M te D σ H C →
    wpAny (model B.prog B.w) B.A (do let v ← eval elt B.env; standAt elt.pos; let _ ← call (.builtin "set.add") [.ref D, v]) (fun _ s' => ∃ H', Inv B pl σ H' s' ∧ C H') nil2 s := by
  intro pl s σ H C I q
  have a1 := he.run pl s σ H _ I q
  rw [hx] at a1
  exact wpAny_bind (thnF a1 fun v s1 ⟨y, H1, I1, r1, q1⟩ => wpAny_bind (wpAny_standAt (wpAny_bind (thnF (M.add rfl rfl I1 r1 q1) fun _ s2 z => wpAny_pure z))))
theorem pe_set1 (M : Adder X.prog X.w) (hc : X.calm = true) (hN : X.N.Nodup) (hi : PI X tg iter wi) (ok : BlkOk X.N X.env.scope scope own)
    (hg : ∀ (s : Shared) (H : Hp) (C : Addr) (cl : List (PySem.Str × Addr)) (fp : List Addr), PG (X.blk s H scope (compEnvC scope cl C X.env) fp) tg g) (ht : ∀ (s : Shared) (H : Hp) (C : Addr) (cl : List (PySem.Str × Addr)) (fp : List Addr), PTs (X.blk s H scope (compEnvC scope cl C X.env) fp) ifs tt)
    (he : ∀ (s : Shared) (H : Hp) (C : Addr) (cl : List (PySem.Str × Addr)) (fp : List Addr), PE (X.blk s H scope (compEnvC scope cl C X.env) fp) elt te) (hs : ∀ x, foldedSetIterable iter X.env x = pure x := by intro _; rfl) :
    PE X (.SetComp elt [⟨tg, iter, ifs, 0⟩] scope pos) (tSet1 M wi g tt te (own.map (·.2))) := by
  refine ⟨fun pins s σ H Q I h => ?_⟩
  rw [PpSet.eval_SetComp]
  refine block_any (Q := Q) (Rd := fun J D H1 => Walk J g tt (tAd M te D) (own.map fun z : PySem.Str × Nat => z.2) σ (fun H => Q (.ref D) H) H1) (.inl ⟨_, _, _, _, rfl⟩) rfl (fun q => PpSet.newSet_ok q) (fun _ _ => M.fresh _ _) hc hN I hi ok hs h
    (fun s3 H3 C cl fp it tn J D s4 T stat I4 st4 nfp rd => ?_) fun D C s' m H' I' q hn f => ⟨m, hn, fun h'' sb => ?_⟩
  · exact clause_ok (B := X.blk s3 H3 scope (compEnvC scope cl C X.env) fp) (tail := tailIn _ _) (p := iter.pos) (.inl ⟨_, _, _, _, rfl⟩) rfl rfl rfl hc T (hg s3 H3 C cl fp) (ht s3 H3 C cl fp) stat (act_in (emit_ok (B := X.blk s3 H3 scope (compEnvC scope cl C X.env) fp) M rfl (he s3 H3 C cl fp))) rfl
      (fun s' H' I' d => ⟨H', I', d⟩) rd I4 st4 nfp
  · obtain ⟨f0, f1, f2, f3, f4, f5⟩ := f
    exact ⟨.ref D, H', I'.turned (t' := s'.toks) (fun b o hb e => (sb.2 b hb).trans e) f0 f1 f3 f4 f5, rfl, q⟩
theorem pe_set2 (M : Adder X.prog X.w) {tg1 iter1 : Expr} {ifs1 : List Expr} {wi1 : TI} {g1 : TG} {tt1 : TT} {vs1 : List Nat} (hc : X.calm = true) (hN : X.N.Nodup) (hi : PI X tg iter wi) (ok : BlkOk X.N X.env.scope scope own) (hv : ∀ i ∈ vs1, i ∈ own.map (·.2))
    (hg : ∀ (s : Shared) (H : Hp) (C : Addr) (cl : List (PySem.Str × Addr)) (fp : List Addr), PG (X.blk s H scope (compEnvC scope cl C X.env) fp) tg g) (ht : ∀ (s : Shared) (H : Hp) (C : Addr) (cl : List (PySem.Str × Addr)) (fp : List Addr), PTs (X.blk s H scope (compEnvC scope cl C X.env) fp) ifs tt)
    (hi1 : ∀ (s : Shared) (H : Hp) (C : Addr) (cl : List (PySem.Str × Addr)) (fp : List Addr), PI (X.blk s H scope (compEnvC scope cl C X.env) fp) tg1 iter1 wi1)
    (hg1 : ∀ (s : Shared) (H : Hp) (C : Addr) (cl : List (PySem.Str × Addr)) (fp : List Addr), PG (X.blk s H scope (compEnvC scope cl C X.env) fp) tg1 g1) (ht1 : ∀ (s : Shared) (H : Hp) (C : Addr) (cl : List (PySem.Str × Addr)) (fp : List Addr), PTs (X.blk s H scope (compEnvC scope cl C X.env) fp) ifs1 tt1)
    (he : ∀ (s : Shared) (H : Hp) (C : Addr) (cl : List (PySem.Str × Addr)) (fp : List Addr), PE (X.blk s H scope (compEnvC scope cl C X.env) fp) elt te)
    (hs : ∀ x, foldedSetIterable iter X.env x = pure x := by intro _; rfl) (hs1 : ∀ env x, foldedSetIterable iter1 env x = pure x := by intro _ _; rfl) :
    PE X (.SetComp elt [⟨tg, iter, ifs, 0⟩, ⟨tg1, iter1, ifs1, 0⟩] scope pos) (tSet2 M wi g tt wi1 g1 tt1 te (own.map (·.2)) vs1) := by
  refine ⟨fun pins s σ H Q I h => ?_⟩
  rw [PpSet.eval_SetComp]
  refine block_any (Q := Q) (Rd := fun J D H1 => Walk J g tt (fun σ2 H2 C => wi1 σ2 H2 fun J1 H3 => Walk J1 g1 tt1 (tAd M te D) vs1 σ2 C H3) (own.map fun z : PySem.Str × Nat => z.2) σ (fun H => Q (.ref D) H) H1) (.inl ⟨_, _, _, _, rfl⟩) rfl (fun q => PpSet.newSet_ok q) (fun _ _ => M.fresh _ _) hc hN I hi ok hs h
    (fun s3 H3 C cl fp it tn J D s4 T stat I4 st4 nfp rd => ?_) fun D C s' m H' I' q hn f => ⟨m, hn, fun h'' sb => ?_⟩
  · exact clause_ok (B := X.blk s3 H3 scope (compEnvC scope cl C X.env) fp) (tail := tailOut _ iter1 (.ref D) _ _) (p := iter.pos) (.inl ⟨_, _, _, _, rfl⟩) rfl rfl rfl hc T (hg s3 H3 C cl fp) (ht s3 H3 C cl fp) stat
      (act_out (p1 := iter1.pos) (.inl ⟨_, _, _, _, rfl⟩) rfl (fun it1 => rfl) rfl hc hv (hs1 _) (hi1 s3 H3 C cl fp) (hg1 s3 H3 C cl fp) (ht1 s3 H3 C cl fp) (emit_ok (B := X.blk s3 H3 scope (compEnvC scope cl C X.env) fp) M rfl (he s3 H3 C cl fp))) rfl
      (fun s' H' I' d => ⟨H', I', d⟩) rd I4 st4 nfp
  · obtain ⟨f0, f1, f2, f3, f4, f5⟩ := f
    exact ⟨.ref D, H', I'.turned (t' := s'.toks) (fun b o hb e => (sb.2 b hb).trans e) f0 f1 f3 f4 f5, rfl, q⟩
end
/-- a key and a value into the dict at D -/
def tPut (tk tv : TE) (D : Addr) : TAc := fun σ H C => tk σ H fun y H1 => tv σ H1 fun x H2 => ∃ (kvs : List (Key × V)) (k : Key), y = kV k ∧ H2 D = some (.dK kvs) ∧ kvs.length < sizeLine ∧ C (upd H2 D (.dK (putK kvs k x)))
def tDict2 (wi : TI) (g : TG) (tt : TT) (wi1 : TI) (g1 : TG) (tt1 : TT) (tk tv : TE) (vs vs1 : List Nat) : TE := fun σ H Q => wi σ H fun J H1 => ∀ D, H1 D = none →
  Walk J g tt (fun σ2 H2 C => wi1 σ2 H2 fun J1 H3 => Walk J1 g1 tt1 (tPut tk tv D) vs1 σ2 C H3) vs σ (fun H => Q (.ref D) H) (upd H1 D (.dK []))
section
variable {X : Cx} {kx vx tg iter : Expr} {ifs : List Expr} {scope : Scope} {own : List (PySem.Str × Nat)} {pos : Pos} {wi : TI} {g : TG} {tt : TT} {tk tv : TE}
theorem emit_put {B : Cx} (hx : B.xe = nil2) (hk : PE B kx tk) (hv : PE B vx tv) {D : Addr} {p : Pos} : ∀ (pl : List (Addr × Obj)) s σ H C, Inv B pl σ H s → tPut tk tv D σ H C →
    wpAny (model B.prog B.w) B.A (do let kv ← eval kx B.env; let vv ← holding [kv] (eval vx B.env); standAt p; holding [kv, vv] (dictSet D kv vv)) (fun _ s' => ∃ H', Inv B pl σ H' s' ∧ C H') nil2 s := by
  intro pl s σ H C I q
  have a1 := hk.run pl s σ H _ I q
  rw [hx] at a1
  refine wpAny_bind (thnF a1 fun kv s1 ⟨y, H1, I1, r1, q1⟩ => ?_)
  have a2 := hv.run pl s1 σ H1 _ I1 q1
  rw [hx] at a2
  refine wpAny_bind (wpAny_holding (thnF a2 fun vv s2 ⟨x, H2, I2, r2, kvs, k, ey, hD, few, c⟩ => ?_))
  subst ey
  exact wpAny_bind (wpAny_standAt (wpAny_holding (d_dictSet I2 hD few r1 r2 fun s3 I3 => ⟨_, I3, c⟩)))
theorem pe_dict2 {tg1 iter1 : Expr} {ifs1 : List Expr} {wi1 : TI} {g1 : TG} {tt1 : TT} {vs1 : List Nat} (hc : X.calm = true) (hN : X.N.Nodup) (hi : PI X tg iter wi) (ok : BlkOk X.N X.env.scope scope own) (hv : ∀ i ∈ vs1, i ∈ own.map (·.2))
    (hg : ∀ (s : Shared) (H : Hp) (C : Addr) (cl : List (PySem.Str × Addr)) (fp : List Addr), PG (X.blk s H scope (compEnvC scope cl C X.env) fp) tg g) (ht : ∀ (s : Shared) (H : Hp) (C : Addr) (cl : List (PySem.Str × Addr)) (fp : List Addr), PTs (X.blk s H scope (compEnvC scope cl C X.env) fp) ifs tt)
    (hi1 : ∀ (s : Shared) (H : Hp) (C : Addr) (cl : List (PySem.Str × Addr)) (fp : List Addr), PI (X.blk s H scope (compEnvC scope cl C X.env) fp) tg1 iter1 wi1)
    (hg1 : ∀ (s : Shared) (H : Hp) (C : Addr) (cl : List (PySem.Str × Addr)) (fp : List Addr), PG (X.blk s H scope (compEnvC scope cl C X.env) fp) tg1 g1) (ht1 : ∀ (s : Shared) (H : Hp) (C : Addr) (cl : List (PySem.Str × Addr)) (fp : List Addr), PTs (X.blk s H scope (compEnvC scope cl C X.env) fp) ifs1 tt1)
    (hk : ∀ (s : Shared) (H : Hp) (C : Addr) (cl : List (PySem.Str × Addr)) (fp : List Addr), PE (X.blk s H scope (compEnvC scope cl C X.env) fp) kx tk) (he : ∀ (s : Shared) (H : Hp) (C : Addr) (cl : List (PySem.Str × Addr)) (fp : List Addr), PE (X.blk s H scope (compEnvC scope cl C X.env) fp) vx tv)
    (hs : ∀ x, foldedSetIterable iter X.env x = pure x := by intro _; rfl) (hs1 : ∀ env x, foldedSetIterable iter1 env x = pure x := by intro _ _; rfl) :
    PE X (.DictComp kx vx [⟨tg, iter, ifs, 0⟩, ⟨tg1, iter1, ifs1, 0⟩] scope pos) (tDict2 wi g tt wi1 g1 tt1 tk tv (own.map (·.2)) vs1) := by
  refine ⟨fun pins s σ H Q I h => ?_⟩
  rw [arm_eval_DictComp]
  refine block_any (Q := Q) (Rd := fun J D H1 => Walk J g tt (fun σ2 H2 C => wi1 σ2 H2 fun J1 H3 => Walk J1 g1 tt1 (tPut tk tv D) vs1 σ2 C H3) (own.map fun z : PySem.Str × Nat => z.2) σ (fun H => Q (.ref D) H) H1) (emp := fun _ => .dK []) (.inr (.inr ⟨_, _, _, _, _, rfl⟩)) rfl
    (fun q => wpAny_newObj_type q) (fun I' H' => dk_empty _ I'.big) hc hN I hi ok hs h
    (fun s3 H3 C cl fp it tn J D s4 T stat I4 st4 nfp rd => ?_) fun D C s' m H' I' q hn f => ⟨m, hn, fun h'' sb => ?_⟩
  · exact clause_ok (B := X.blk s3 H3 scope (compEnvC scope cl C X.env) fp) (tail := tailOut _ iter1 (.ref D) _ _) (p := iter.pos) (.inr (.inr ⟨_, _, _, _, _, rfl⟩)) rfl rfl rfl hc T (hg s3 H3 C cl fp) (ht s3 H3 C cl fp) stat
      (act_out (p1 := iter1.pos) (.inr (.inr ⟨_, _, _, _, _, rfl⟩)) rfl (fun it1 => rfl) rfl hc hv (hs1 _) (hi1 s3 H3 C cl fp) (hg1 s3 H3 C cl fp) (ht1 s3 H3 C cl fp) (emit_put (B := X.blk s3 H3 scope (compEnvC scope cl C X.env) fp) rfl (hk s3 H3 C cl fp) (he s3 H3 C cl fp))) rfl
      (fun s' H' I' d => ⟨H', I', d⟩) rd I4 st4 nfp
  · obtain ⟨f0, f1, f2, f3, f4, f5⟩ := f
    exact ⟨.ref D, H', I'.turned (t' := s'.toks) (fun b o hb e => (sb.2 b hb).trans e) f0 f1 f3 f4 f5, rfl, q⟩
end
end L2.Cmp
set_option Elab.async false
set_option linter.all false
set_option maxRecDepth 100000
set_option maxHeartbeats 4000000
/-! Sets of texts: as tracked things, by comprehension, sorted. -/
namespace L2.TxtSet
open PySem PySem.Spec PyProof.Rows L2.GSet L2.Cmp
def keyT : Value → Str
  | .str x _ => x
  | _ => ⟨#[]⟩
theorem keyT_is (P : Program) (w : World) : ∀ k v, (PySem.strKind P w).is k v = true → keyT v = k := fun k v h => by
  obtain ⟨t, rfl⟩ := Value.isStrOf_shape h
  rfl
/-- the set of texts at a: ks, in some order -/
def SetT (P : Program) (w : World) (a : Addr) (ks : List Str) : HO := .ext fun h => GAt (PySem.strKind P w) keyT h a ks
theorem setT_new {P : Program} {w : World} {H : Hp} {h : Heap} {a : Addr} {ks : List Str} (R : GAt (PySem.strKind P w) keyT h a ks) : ObjOk P w H h a (SetT P w a ks) := ⟨R, R.some, fun h1 h2 p k => GAt.keep p k⟩
section
variable {X : Cx} {pins : List (Addr × Obj)} {σ : L2.St} {H : Hp} {s : Shared}
theorem setT_get {a : Addr} {ks : List Str} (I : Inv X pins σ H s) (ha : H a = some (SetT X.prog X.w a ks)) : GAt (PySem.strKind X.prog X.w) keyT s.heap a ks := (I.hok a _ ha).1
end
/-- texts into a set of texts -/
def addT (P : Program) (w : World) : Adder P w where
  emp := fun D => SetT P w D []
  ad := fun D y H C => ∃ (z : Str) (ks : List Str), y = .str z ∧ H D = some (SetT P w D ks) ∧ ks.length + 1 < scanBound ∧ C (upd H D (SetT P w D (if z ∈ ks then ks else ks ++ [z])))
  fresh := fun H h => setT_new (GSet.fresh h)
  add := fun {X} hP hw {pins σ H s E D y v C} I r q => by
    subst hP
    subst hw
    obtain ⟨z, ks, rfl, hD, room, c⟩ := q
    obtain ⟨u, rfl⟩ := r
    refine add_call (keyT_is X.prog X.w) (k := z) (Froz.is_str z u) rfl (setT_get I hD) room fun h' sb new => ⟨_, ?_, c⟩
    exact I.write (e := D) (t' := s.toks + 1) (by rw [hD]; trivial) (.inl rfl) (fun b o hb ho => (sb.2 b hb).trans ho) new.some (setT_new new)
/-- sorted(a set of texts) -/
def rSortT (P : Program) (w : World) : List V → Hp → VK → Prop := fun vs H Q => ∃ (a : Addr) (ks : List Str), vs = [V.ref a] ∧ H a = some (SetT P w a ks) ∧ ks.length < 64 ∧
  ∀ (ys : List Str) (p : Addr), ys.Perm ks → sortedS ys = true → H p = none → Q (.ref p) (upd H p (.lst (ys.map V.str)))
theorem strs_out : ∀ {vs : List Value}, (∀ v ∈ vs, ∃ x u, v = Value.str x u) → StrsAre vs (vs.map keyT)
  | [], _ => .nil
  | v :: vs, h => by
    obtain ⟨x, u, rfl⟩ := h v List.mem_cons_self
    exact .cons x u (strs_out fun y m => h y (List.mem_cons_of_mem _ m))
theorem sort_tree {P : Program} {w : World} {A : Around} {E : Value → Shared → Prop} {s : Shared} {a : Addr} {ks : List Str} {Q : Value → Shared → Prop} (R : GAt (PySem.strKind P w) keyT s.heap a ks) (hh : A.handled = none) (h64 : ks.length < 64)
    (hQ : ∀ s' p (out : Array Value) (c : Nat) (ys : List Str), (∀ b o, s.heap.get? b = some o → s'.heap.get? b = some o) → s'.gens = s.gens → s'.os = s.os → s.heap.objs.size ≤ p → s'.heap.get? p = some (seqObj "list" out c) →
      StrsAre out.toList ys → ys.Perm ks → sortedS ys = true → Q (.ref p) s') : wpAny (model P w) A (call (.builtin "sorted") [.ref a]) Q E s := by
  obtain ⟨o, es, ep, t, ho, ox, od, p⟩ := R
  refine Calls.call_function_entry kind_sorted plain_sorted entry_sorted (args_sorted1 _) ?_
  unfold Builtin.«sorted»
  refine wpAny_bind (m := checkCount "sorted" 1 1 _) (wpAny_pure (wpAny_bind (collect_set (A := A.in1) hh ⟨o, ho, ox.1, od⟩ p.fit p.few p.ris p.led fun s1 vs k1 z1 g1 o1 pm => ?_)))
  have lv : vs.length = ks.length := by rw [pm.length_eq, List.length_map, Array.length_toList, p.size]
  have tx : StrsAre vs (vs.map keyT) := strs_out fun v m => by
    obtain ⟨e, he, rfl⟩ := List.mem_map.mp (pm.mem_iff.mp m)
    obtain ⟨⟨k, i, _⟩, _⟩ := p.el e he
    obtain ⟨u, q⟩ := Value.isStrOf_shape i
    exact ⟨k, u, q⟩
  have pk : (vs.map keyT).Perm ks := by
    have z := pm.map keyT
    rw [List.map_map] at z
    exact z.trans p.pm
  refine wpAny_bind (wpAny_newList ?_ (by rw [lv, sizeLine_eq]; omega))
  have at1 : (s1.heap.push (seqObj "list" vs.toArray 0)).get? s1.heap.objs.size = some (seqObj "list" vs.toArray 0) := Heap.get?_push_size _ rfl
  refine wpAny_bind (wpAny_holding (wpAny_call_entry slot_list_sort ⟨_, at1, rfl⟩ entry_list_sort (list_sort_treeK strKind_oneLt at1 tx.keysOf (fun v₁ v₂ rest e => keyKind_strs (by rw [← e]; exact tx)) (by rw [lv]; exact h64) fun st' hp' hs' => ?_) (args_list_sort _)))
  obtain ⟨ys, a1, a2, a3⟩ := sorted_out_str tx hp' hs'
  refine ⟨_, rfl, ?_⟩
  generalize ho' : (arrOf st').map (·.2) = out at a1
  obtain ⟨c, hc⟩ := sortedHeap_at (vs := vs) (out := out) at1
  refine wpAny_pure ⟨_, rfl, hQ _ s1.heap.objs.size out c ys (fun b u e => ?_) g1 o1 z1 hc a1 (a2.trans pk) a3⟩
  have q := k1 b u e
  have lt := Heap.lt_size q
  exact (sortedHeap_old (Nat.ne_of_lt lt) (by rw [size_push']; exact Nat.lt_succ_of_lt lt)).trans (Heap.get?_push_of_some _ q)
section
variable {X : Cx}
theorem cr_sortT (hc : X.calm = true) : CallR X (.builtin "sorted") (rSortT X.prog X.w) := by
  intro pins s σ H vs us Q I r h
  obtain ⟨a, ks, rfl, ha, h64, q⟩ := h
  rw [Vals.ref1 r]
  refine sort_tree (setT_get I ha) (I.ok.hd hc) h64 fun s' p out c ys k g o hp at2 tx pm so => ?_
  have hn : H p = none := I.hok.fresh hp
  have fits : (ys.map V.str).length ≤ sizeLine := by rw [List.length_map, pm.length_eq, sizeLine_eq]; omega
  have J : Inv X pins σ (upd H p (.lst (ys.map V.str))) { s with heap := s'.heap, gens := s'.gens, drawn := s'.drawn, toks := s'.toks } :=
    I.call (ch := []) (Un.laid k hp hn) (I.hok.laid k hp ⟨fits, out.toList, c, vals_of_strs tx, at2⟩) (by rw [g]; exact I.bare) fun _ z => nomatch z
  have e : s' = { s with heap := s'.heap, gens := s'.gens, drawn := s'.drawn, toks := s'.toks } := by
    cases s'
    cases s
    cases o
    rfl
  rw [e]
  exact ⟨.ref p, _, J, rfl, q ys p pm so hn⟩
end
end L2.TxtSet
set_option Elab.async false
set_option linter.all false
set_option maxRecDepth 100000
set_option maxHeartbeats 4000000
/-! Sets of tuples by comprehension. -/
namespace L2.NSet
open PySem PySem.Spec PyProof.Rows L2.Cmp
section
variable {X : Cx}
/-- a.add(x), x a tuple -/
theorem add_tup {P : Program} {w : World} {A : Around} {E : Value → Shared → Prop} {s : Shared} {a : Addr} {L : List Mem} {es : Array (Int × Value)} {ep : Nat} {t : SetTable} (R : Tab P w s.heap a L es ep t) {x : Addr} {k : NestedKey} (hx : Kb P w s.heap k x)
    (hu : A.units + 20 < cLine) (few : L.length + 1 < 64) {Q : Value → Shared → Prop}
    (hQ : ∀ tk h2 L2 es2 ep2 t2, Heap.SameBut a s.heap h2 → Tab P w h2 a L2 es2 ep2 t2 → (k ∈ L.map (·.2) → L2 = L) → (k ∉ L.map (·.2) → L2.Perm ((x, k) :: L)) → Q .none { s with heap := h2, toks := tk }) :
    wpAny (model P w) A (call (.builtin "set.add") [.ref a, .ref x]) Q E s := by
  have ty : s.TypeIs (.ref a) "set" := by
    obtain ⟨o, ho, ox, _⟩ := R.here
    exact ⟨o, ho, ox.1⟩
  refine wpAny_call_entry F.slot_set_add ty F.entry_set_add ?_ (F.args_set_add_2 _ _)
  unfold Builtin.«set.add» Builtin.Frozenset.oneOther Builtin.Frozenset.addrOf setAdd
  simp only [List.isEmpty_nil, bind_assoc]
  refine wpAny_bind (wpAny_pure (wpAny_bind (wpAny_pure (wpAny_bind (wpAny_holding (wpAny_bind ((nestedKind P w).pyHash (show A.units + 1 + 8 < cLine by omega) hx ?_)))))))
  exact lay (s := { s with toks := s.toks + k.draws }) R hx (show A.units + 1 + 8 < cLine by omega) few fun b h2 L2 es2 ep2 t2 sb R2 c1 c2 => wpAny_pure ⟨_, rfl, hQ _ h2 L2 es2 ep2 t2 sb R2 c1 c2⟩
/-- a tuple into the set at D -/
def tAdN (K : PySem.W.Frag) (P : Program) (w : World) (te : TE) (D : Addr) : TAc := fun σ H C => te σ H fun y H1 => ∃ (p : Mem) (L : List Mem), y = .ref p.1 ∧ H1 D = some (SetN P w D L) ∧ (∀ q ∈ L, MemOk K H1 q) ∧ MemOk K H1 p ∧ L.length + 1 < 64 ∧
  ∀ L2, (p.2 ∈ L.map (·.2) → L2 = L) → (p.2 ∉ L.map (·.2) → L2.Perm (p :: L)) → C (upd H1 D (SetN P w D L2))
def tSetN (K : PySem.W.Frag) (P : Program) (w : World) (wi : TI) (g : TG) (tt : TT) (te : TE) (vs : List Nat) : TE := fun σ H Q => wi σ H fun J H1 => ∀ D, H1 D = none → L2.Cmp.Walk J g tt (tAdN K P w te D) vs σ (fun H => Q (.ref D) H) (upd H1 D (SetN P w D []))
theorem emit_tup {B : Cx} (hx : B.xe = nil2) (hu : B.A.units + 64 < cLine) {elt : Expr} {te : TE} (he : PE B elt te) {D : Addr} : ∀ (pl : List (Addr × Obj)) s σ H C, Inv B pl σ H s → tAdN B.K B.prog B.w te D σ H C →
    wpAny (model B.prog B.w) B.A (do let v ← eval elt B.env; standAt elt.pos; let _ ← call (.builtin "set.add") [.ref D, v]) (fun _ s' => ∃ H', Inv B pl σ H' s' ∧ C H') nil2 s := by
  intro pl s σ H C I q
  have a1 := he.run pl s σ H _ I q
  rw [hx] at a1
  refine wpAny_bind (thnF a1 fun v s1 ⟨y, H1, I1, r1, p, L, ey, hD, hL, hp, few, c⟩ => wpAny_bind (wpAny_standAt (wpAny_bind ?_)))
  subst ey
  cases r1
  have R0 : Tab0 B.prog B.w s1.heap D L := (I1.hok D _ hD).1
  obtain ⟨es, ep, t, R⟩ := R0.full fun p m => kb_of I1 (hL p m)
  refine add_tup R (kb_of I1 hp) (by omega) few fun tk h2 L2 es2 ep2 t2 sb R2 c1 c2 => wpAny_pure ⟨_, ?_, c L2 c1 c2⟩
  have N := setN_new (P := B.prog) (w := B.w) (H := upd H1 D (SetN B.prog B.w D L2)) R2.t0
  exact I1.write (e := D) (t' := tk) (by rw [hD]; trivial) (.inl rfl) (fun b o hb ho => (sb.2 b hb).trans ho) (by obtain ⟨o, ho, _⟩ := R2.here; exact ⟨o, ho⟩) (setN_new R2.t0)
variable {elt tg iter : Expr} {ifs : List Expr} {scope : Scope} {own : List (PySem.Str × Nat)} {pos : Pos} {wi : TI} {g : TG} {tt : TT} {te : TE}
theorem pe_setN {K : PySem.W.Frag} {P : Program} {w : World} (eK : X.K = K) (eP : X.prog = P) (ew : X.w = w) (hc : X.calm = true) (hu : X.A.units + 64 < cLine) (hN : X.N.Nodup) (hi : PI X tg iter wi) (ok : BlkOk X.N X.env.scope scope own)
    (hg : ∀ (s : Shared) (H : Hp) (C : Addr) (cl : List (PySem.Str × Addr)) (fp : List Addr), PG (X.blk s H scope (compEnvC scope cl C X.env) fp) tg g) (ht : ∀ (s : Shared) (H : Hp) (C : Addr) (cl : List (PySem.Str × Addr)) (fp : List Addr), PTs (X.blk s H scope (compEnvC scope cl C X.env) fp) ifs tt)
    (he : ∀ (s : Shared) (H : Hp) (C : Addr) (cl : List (PySem.Str × Addr)) (fp : List Addr), PE (X.blk s H scope (compEnvC scope cl C X.env) fp) elt te) (hs : ∀ x, foldedSetIterable iter X.env x = pure x := by intro _; rfl) :
    PE X (.SetComp elt [⟨tg, iter, ifs, 0⟩] scope pos) (tSetN K P w wi g tt te (own.map (·.2))) := by
  subst eK eP ew
  refine ⟨fun pins s σ H Q I h => ?_⟩
  rw [PpSet.eval_SetComp]
  refine block_any (Q := Q) (Rd := fun J D H1 => L2.Cmp.Walk J g tt (tAdN X.K X.prog X.w te D) (own.map fun z : PySem.Str × Nat => z.2) σ (fun H => Q (.ref D) H) H1) (emp := fun D => SetN X.prog X.w D []) (.inl ⟨_, _, _, _, rfl⟩) rfl (fun q => PpSet.newSet_ok q)
    (fun I1 _ => setN_new (Tab.new (Heap.get?_push_size _ rfl)).t0) hc hN I hi ok hs h
    (fun s3 H3 C cl fp it tn J D s4 T stat I4 st4 nfp rd => ?_) fun D C s' m H' I' q hn f => ⟨m, hn, fun h'' sb => ?_⟩
  · exact clause_ok (B := X.blk s3 H3 scope (compEnvC scope cl C X.env) fp) (tail := tailIn _ _) (p := iter.pos) (.inl ⟨_, _, _, _, rfl⟩) rfl rfl rfl hc T (hg s3 H3 C cl fp) (ht s3 H3 C cl fp) stat (act_in (emit_tup (B := X.blk s3 H3 scope (compEnvC scope cl C X.env) fp) rfl hu (he s3 H3 C cl fp))) rfl
      (fun s' H' I' d => ⟨H', I', d⟩) rd I4 st4 nfp
  · obtain ⟨f0, f1, f2, f3, f4, f5⟩ := f
    exact ⟨.ref D, H', I'.turned (t' := s'.toks) (fun b o hb e => (sb.2 b hb).trans e) f0 f1 f3 f4 f5, rfl, q⟩
end
end L2.NSet
set_option Elab.async false
set_option linter.all false
set_option maxRecDepth 100000
set_option maxHeartbeats 4000000
/-! Dicts of texts to texts: their items, sorted; a dict of a tuple of pairs. -/
namespace L2.TxtDict
open PySem PySem.Spec PyProof.Rows L2.NSet L2.DX PySem.W
abbrev Prs2 : Type := List (Str × Str)
/-- the entries -/
def kd (m : Prs2) : List (Key × V) := m.map fun p => ((Sum.inr p.1 : Key), V.str p.2)
theorem kd_get {m : Prs2} {j : Nat} {e : Str × Str} (h : m[j]? = some e) : (kd m)[j]? = some (Sum.inr e.1, V.str e.2) := by
  unfold kd
  rw [List.getElem?_map, h]
  rfl
theorem kd_len (m : Prs2) : (kd m).length = m.length := List.length_map ..
section
variable {X : Cx}
/-- d.items() -/
def rItemsK : V → List V → Hp → VK → Prop := fun x xs H Q => ∃ (a : Addr) (kvs : List (Key × V)), x = .ref a ∧ xs = [] ∧ H a = some (.dK kvs) ∧ ∀ p, H p = none → Q (.ref p) (upd H p (itemsO p a))
theorem mt_itemsK : MtR X "dict.items" rItemsK := by
  intro pins s σ H x xs v us Q I rx rxs h
  obtain ⟨a, kvs, rfl, rfl, ha, q⟩ := h
  cases rx
  cases rxs
  obtain ⟨z, hd, vs, rel, o, es, ep, ho, hx, hdat, _⟩ := dk_of I.hok ha
  refine DT.callItems (es := es) (ep := ep) hd ⟨o, ho, hx, hdat⟩ ?_
  exact ⟨.ref s.heap.objs.size, upd H s.heap.objs.size (itemsO s.heap.objs.size a), I.laid (t' := s.toks) (fun b u e => Heap.get?_push_of_some _ e) (Nat.le_refl _) (itemsO_ok (Heap.get?_push_size _ rfl)), rfl, q _ (I.hok.fresh (Nat.le_refl _))⟩
/-- a pair as data -/
def pairD (z : Addr × Str × Str) : PyData := .tuple [.str z.2.1, .str z.2.2]
theorem pairs_alike {α : Type} (f : α → Str × Str) (l : List α) : AllAlike (l.map fun z => PyData.tuple [.str (f z).1, .str (f z).2]) := fun d hd d2 hd2 => by
  obtain ⟨x, _, rfl⟩ := List.mem_map.mp hd
  obtain ⟨y, _, rfl⟩ := List.mem_map.mp hd2
  simp [alike, alikeAll]
/-- sorted(d.items()) -/
def rSortIK : List V → Hp → VK → Prop := fun vs H Q => ∃ (p a : Addr) (m : Prs2), vs = [.ref p] ∧ H p = some (itemsO p a) ∧ H a = some (.dK (kd m)) ∧ m.length < 64 ∧
  ∀ (H' : Hp) (l : Addr) (ps : List (Addr × Str × Str)), (∀ b o, H b = some o → H' b = some o) → H l = none → (ps.map (·.2)).Perm m → Rise pairD ps → H' l = some (.lst (ps.map fun z => V.ref z.1)) →
    (∀ z ∈ ps, H z.1 = none ∧ H' z.1 = some (.tup [.str z.2.1, .str z.2.2])) → Q (.ref l) H'
theorem vals_ref1 : ∀ (ps : List (Addr × Str × Str)), Vals (ps.map fun z => V.ref z.1) (ps.map fun z => Value.ref z.1)
  | [] => .nil
  | _ :: r => .cons rfl (vals_ref1 r)
theorem ref_out : ∀ {ps : List (Addr × Str × Str)} {out : List Value}, EachIs (fun v (z : Addr × Str × Str) => v = Value.ref z.1) out ps → out = ps.map fun z => Value.ref z.1
  | [], _, .nil => rfl
  | _ :: _, _, .cons r e => by rw [r, ref_out e]; rfl
theorem ref_in : ∀ (as : List Addr) (m : Prs2), as.length = m.length → EachIs (fun v (z : Addr × Str × Str) => v = Value.ref z.1) (as.map Value.ref) (as.zip m)
  | [], [], _ => .nil
  | [], _ :: _, h => by cases h
  | _ :: _, [], h => by cases h
  | a :: as, p :: m, h => .cons rfl (ref_in as m (Nat.succ.inj h))
theorem reads_in {h2 : Heap} {L : Addr} : ∀ (as : List Addr) (m : Prs2), as.length = m.length → (∀ (j : Nat) (b : Addr) (e : Str × Str), as[j]? = some b → m[j]? = some e → ∃ t u, h2.get? b = some { cls := .type "tuple", data := .seq #[.str e.1 t, .str e.2 u] }) →
    EachIs (fun v (z : Addr × Str × Str) => ∃ bs, PySem.Reads h2 v (pairD z) bs ∧ L ∉ bs) (as.map Value.ref) (as.zip m)
  | [], [], _, _ => .nil
  | [], _ :: _, h, _ => by cases h
  | _ :: _, [], h, _ => by cases h
  | a :: as, p :: m, h, k => by
    refine .cons ?_ (reads_in as m (Nat.succ.inj h) fun j b e h1 h2 => k (j + 1) b e h1 h2)
    obtain ⟨t, u, g⟩ := k 0 a p rfl rfl
    exact ⟨[], .tuple g rfl rfl (.cons (as := []) (bs := []) (.str _ _) (.cons (as := []) (bs := []) (.str _ _) .nil)), by simp⟩
theorem cr_sortedIK (hc : X.calm = true) (hu : X.A.units + 64 < cLine) : CallR X (.builtin "sorted") rSortIK := by
  intro pins s σ H xs us Q I r h
  obtain ⟨p, a, m, rfl, hp, ha, few, q⟩ := h
  obtain rfl := Vals.ref1 r
  have view : s.heap.IsItemsView p a := (show ObjOk X.prog X.w H s.heap p (itemsO p a) from I.hok p _ hp).1
  obtain ⟨z, hd, vs, rel, dof⟩ := dk_of I.hok ha
  obtain ⟨es, ep, raw, sz, ent⟩ := PySem.Heap.DictOf.raw dof
  have lv : vs.length = m.length := by rw [← kd_len m]; exact (Paired.length rel).symm
  refine DT.sortedI (es := es) (ep := ep) (I.ok.hd hc) view raw (by rw [sz, lv, sizeLine_eq]; omega) fun h' tk as hk hlt hl hG => ?_
  have la : as.length = m.length := by rw [hl, sz, lv]
  have nd : as.Nodup := List.Pairwise.imp (fun h => Nat.ne_of_lt h) hG.rise
  have pr : ∀ (j : Nat) (b : Addr) (e : Str × Str), as[j]? = some b → m[j]? = some e → ∃ t u, h'.get? b = some { cls := .type "tuple", data := .seq #[.str e.1 t, .str e.2 u] } := fun j b e hj he => by
    obtain ⟨en, hen, hg⟩ := hG.pairs j b hj
    obtain ⟨hi, rfl⟩ := Array.getElem?_eq_some_iff.mp hen
    obtain ⟨x, hx, rx⟩ := kv_get rel (kd_get he)
    obtain ⟨k1, k2⟩ := ent j hi _ _ hx
    have rk : RelV (kV (Sum.inr e.1)) es[j].key := relV_key (show keyIs (Sum.inr e.1) es[j].key = true from k1)
    obtain ⟨t, ek⟩ := rk
    obtain ⟨u, eu⟩ := rx
    rw [ek, k2, eu] at hg
    exact ⟨t, u, hg⟩
  have hob : (h'.push { cls := .type "list", data := .seq (as.map Value.ref).toArray }).get? h'.objs.size = some (seqObj "list" (as.map Value.ref).toArray 0) := Heap.get?_push_size _ rfl
  have kb : ∀ b o, s.heap.get? b = some o → (h'.push { cls := .type "list", data := .seq (as.map Value.ref).toArray }).get? b = some o := fun b o e => Heap.get?_push_of_some _ (hk b o e)
  have ka : ∀ b o, h'.get? b = some o → (h'.push { cls := .type "list", data := .seq (as.map Value.ref).toArray }).get? b = some o := fun b o e => Heap.get?_push_of_some _ e
  have ne0 : ∀ b o, h'.get? b = some o → b ≠ h'.objs.size := fun b o e => Nat.ne_of_lt (Heap.lt_size e)
  generalize h'.push { cls := .type "list", data := .seq (as.map Value.ref).toArray } = h2 at hob kb ka ⊢
  refine list_sort_any2 (s := { s with heap := h2, toks := tk }) (R := fun v (z : Addr × Str × Str) => v = Value.ref z.1) (enc := pairD) (bs := as.zip m) hob (ref_in as m la) (reads_in as m la fun j b e h1 h2' => ?_) (pairs_alike (fun z : Addr × Str × Str => z.2) _) (.inr fun d hd => ?_)
    (by rw [List.length_zip, sizeLine_eq]; omega) (fun b _ => ?_) fun out lo eo => ?_
  · obtain ⟨t, u, g⟩ := pr j b e h1 h2'
    exact ⟨t, u, ka _ _ g⟩
  · obtain ⟨x, _, rfl⟩ := List.mem_map.mp hd
    exact ⟨_, rfl⟩
  · show X.A.units + 1 + 1 + (PyData.tuple [.str b.2.1, .str b.2.2]).depth < cLine
    have e : (PyData.tuple [.str b.2.1, .str b.2.2]).depth = 1 := by simp [PyData.depth, PyData.depthAll]
    rw [e]
    omega
  · generalize hS : (as.zip m).mergeSort (dataLe false pairD) = S at eo
    have pS : S.Perm (as.zip m) := by rw [← hS]; exact List.mergeSort_perm _ _
    have rS : Rise pairD S := by rw [← hS]; exact rise_sort _
    have eO := ref_out eo
    have pm : (S.map (·.2)).Perm m := by
      have e := pS.map (·.2)
      have m2 : (as.zip m).map (·.2) = m := List.map_snd_zip (by rw [la]; exact Nat.le_refl _)
      rwa [m2] at e
    have idx : ∀ z ∈ S, ∃ j : Nat, as[j]? = some z.1 ∧ m[j]? = some z.2 := fun z hz => by
      obtain ⟨j, hj⟩ := List.mem_iff_getElem?.mp (pS.mem_iff.mp hz)
      exact ⟨j, List.getElem?_zip_eq_some.mp hj⟩
    have kF : ∀ b o, b ≠ h'.objs.size → h2.get? b = some o → (sortedHeap h2 h'.objs.size (as.map Value.ref) (List.toArray out)).get? b = some o := fun b o hb e => (PyProof.Rows.sortedHeap_old hb (Heap.lt_size e)).trans e
    have kS : ∀ b o, s.heap.get? b = some o → (sortedHeap h2 h'.objs.size (as.map Value.ref) (List.toArray out)).get? b = some o := fun b o e => kF b o (ne0 _ _ (hk b o e)) (kb b o e)
    obtain ⟨eF, heF⟩ := PyProof.Rows.sortedHeap_at (vs := as.map Value.ref) (out := List.toArray out) hob
    have I1 : Inv X pins σ H { s with heap := sortedHeap h2 h'.objs.size (as.map Value.ref) (List.toArray out), toks := tk } := I.kept (t' := tk) kS
    have hn0 : H h'.objs.size = none := I.hok.fresh (Nat.le_of_lt hlt)
    have len : (S.map fun z => V.ref z.1).length ≤ sizeLine := by
      have e := pm.length_eq
      rw [List.length_map] at e
      rw [List.length_map, sizeLine_eq]
      omega
    have I2 : Inv X pins σ (upd H h'.objs.size (.lst (S.map fun z => V.ref z.1))) { s with heap := sortedHeap h2 h'.objs.size (as.map Value.ref) (List.toArray out), toks := tk } :=
      I1.take (h' := sortedHeap h2 h'.objs.size (as.map Value.ref) (List.toArray out)) (t' := tk) (fun b ob _ e => e) (I.fpOk (Nat.le_of_lt hlt) hn0) ⟨len, out, eF, by rw [eO]; exact vals_ref1 S, heF⟩
    obtain ⟨H2, I3, g, qt⟩ := takeT (P := fun b vs => ∃ (j : Nat) (e : Str × Str), as[j]? = some b ∧ m[j]? = some e ∧ vs = [.str e.1, .str e.2]) I as _ I2 nd fun b hb => by
      obtain ⟨j, hj⟩ := List.mem_iff_getElem?.mp hb
      have jl : j < m.length := by
        have := (List.getElem?_eq_some_iff.mp hj).1
        omega
      obtain ⟨t, u, hg⟩ := pr j b m[j] hj (List.getElem?_eq_getElem jl)
      have bl : s.heap.objs.size ≤ b := Nat.le_of_lt (hG.above b hb)
      refine ⟨bl, ?_, [.str m[j].1, .str m[j].2], ⟨j, m[j], hj, List.getElem?_eq_getElem jl, rfl⟩, fun H3 => ⟨(by rw [sizeLine_eq]; show 2 ≤ 16777216; omega), [Value.str m[j].1 t, Value.str m[j].2 u], .cons ⟨t, rfl⟩ (.cons ⟨u, rfl⟩ .nil), ⟨_, kF _ _ (ne0 _ _ hg) (ka _ _ hg), rfl, 0, rfl⟩⟩⟩
      rw [upd_ne (ne0 _ _ hg)]
      exact I.hok.fresh bl
    have gr : ∀ b o, H b = some o → H2 b = some o := fun b o e => g b o (by rw [upd_ne (ne_of_none e hn0)]; exact e)
    refine ⟨.ref h'.objs.size, H2, I3, rfl, q H2 h'.objs.size S gr hn0 pm rS (g _ _ upd_same) fun z hz => ?_⟩
    obtain ⟨i, i1, i2⟩ := idx z hz
    obtain ⟨vs2, ⟨j, e, j1, j2, ev⟩, hH⟩ := qt z.1 (List.mem_of_getElem? i1)
    have eij : i = j := (List.getElem?_inj (List.getElem?_eq_some_iff.mp i1).1 nd).mp (i1.trans j1.symm)
    subst eij
    have ee : e = z.2 := Option.some.inj (j2.symm.trans i2)
    rw [ev, ee] at hH
    exact ⟨I.hok.fresh (Nat.le_of_lt (hG.above _ (List.mem_of_getElem? i1))), hH⟩
/-- dict(ps), ps a tuple or a list of pairs -/
theorem dict_pairs_tup {A : Around} {E : Value → Shared → Prop} {s : Shared} {P : Program} {w : World} : True := trivial
end
end L2.TxtDict
set_option Elab.async false
set_option linter.all false
set_option maxRecDepth 100000
set_option maxHeartbeats 4000000
/-! tuple(pairs) as a plain tuple; dict(a tuple of pairs). -/
namespace L2.TxtDict
open PySem PySem.Spec PyProof.Rows L2.NSet L2.DX PySem.W
section
variable {X : Cx}
def rTupPT (K : PySem.W.Frag) : List V → Hp → VK → Prop := fun xs H Q => ∃ (p : Addr) (ts : List Addr), xs = [V.ref p] ∧ SqL K H p (ts.map V.ref) ∧ ∀ l, H l = none → Q (.ref l) (upd H l (PTu l ts))
theorem call_tuplePT : CallR X (.type "tuple") (rTupPT X.K) := by
  intro pins s σ H xs us Q I r h
  obtain ⟨p, ts, rfl, hq, q⟩ := h
  rw [Vals.ref1 r]
  obtain ⟨its, r', pl, hz⟩ := I.list hq
  have ei := refs_at r'
  subst ei
  refine call_tuple_list pl.isList (fun h' kp => ?_) (by have := hz; simp only [List.size_toArray, List.length_map] at this ⊢; omega)
  have I1 : Inv X pins σ H { s with heap := h' } := I.kept (t' := s.toks) kp
  have ok : ObjOk X.prog X.w (upd H h'.objs.size (PTu h'.objs.size ts)) (h'.push { cls := .type "tuple", data := .seq (ts.map Value.ref).toArray }) h'.objs.size (PTu h'.objs.size ts) :=
    ⟨⟨_, 0, Heap.get?_push_size _ rfl, rfl, rfl, rfl⟩, ⟨_, Heap.get?_push_size _ rfl⟩, fun h1 h2 x k => let ⟨o, n, ho, r⟩ := x; ⟨o, n, k o ho, r⟩⟩
  exact ⟨.ref h'.objs.size, _, I1.laid (t' := s.toks) (fun b o e => Heap.get?_push_of_some _ e) (Nat.le_refl _) ok, rfl, q _ (I1.hok.fresh (Nat.le_refl _))⟩
theorem pairs_raw {pins : List (Addr × Obj)} {σ : L2.St} {H : Hp} {s : Shared} (I : Inv X pins σ H s) : ∀ {ts : List Addr} {m : Prs2}, Paired (fun t (q : Str × Str) => H t = some (.tup [.str q.1, .str q.2])) ts m →
    ∃ (ps : List (Value × Value)) (prs : List (Key × Value)), ps.length = ts.length ∧ prs.length = ts.length ∧ KV (kd m) prs ∧
      ∀ (j : Nat) (k v : Value), ps[j]? = some (k, v) → ∃ (key : Key) (b : Addr), prs[j]? = some (key, v) ∧ (mixKind X.prog X.w).is key k = true ∧ ts[j]? = some b ∧ s.heap.IsTuple b #[k, v]
  | _, _, .nil => ⟨[], [], rfl, rfl, .nil, fun j k v e => by simp at e⟩
  | _, _, .cons (a := t) (b := q) h r => by
    obtain ⟨ps, prs, l1, l2, kv, g⟩ := pairs_raw I r
    obtain ⟨its, rv, pl, _⟩ := I.tuple (SqT.of h)
    obtain ⟨u, y, rfl, ru, ry⟩ := vals2 rv
    refine ⟨(u, y) :: ps, (Sum.inr q.1, y) :: prs, by rw [List.length_cons, List.length_cons, l1], by rw [List.length_cons, List.length_cons, l2], .cons ⟨rfl, ry⟩ kv, fun j k v e => ?_⟩
    cases j with
    | zero =>
      have e2 : (u, y) = (k, v) := Option.some.inj e
      cases e2
      exact ⟨Sum.inr q.1, t, rfl, kV_is (P := X.prog) (w := X.w) (k := Sum.inr q.1) ru, rfl, pl⟩
    | succ j =>
      obtain ⟨key, b, e1, e2, e3, e4⟩ := g j k v (by simpa using e)
      exact ⟨key, b, by simpa using e1, e2, by simpa using e3, e4⟩
def rDictPT : List V → Hp → VK → Prop := fun xs H Q => ∃ (a : Addr) (ts : List Addr) (m : Prs2), xs = [V.ref a] ∧ H a = some (PTu a ts) ∧ Paired (fun t (q : Str × Str) => H t = some (.tup [.str q.1, .str q.2])) ts m ∧ m.length ≤ 1000 ∧
  ∀ p, H p = none → Q (.ref p) (upd H p (.dK (mergeK [] (kd m))))
theorem call_dictPT (hcalm : X.calm = true) : CallR X (.type "dict") rDictPT := by
  intro pins s σ H xs us Q I r h
  obtain ⟨a, ts, m, rfl, ha, hp, few, q⟩ := h
  rw [Vals.ref1 r]
  obtain ⟨o, n, ho, hc, hdn, hd⟩ := (show ∃ o n, s.heap.get? a = some o ∧ o.cls = .type "tuple" ∧ o.dict = none ∧ o.data = .seq (ts.map Value.ref).toArray n from (I.hok a _ ha).1)
  obtain ⟨ps, prs, l1, l2, rel, g⟩ := pairs_raw I hp
  have lm : ts.length = m.length := Paired.length hp
  refine PySem.call_dict_pairs (knd := mixKind X.prog X.w) (kvs := prs) (PairArg.tuple a (ts.map Value.ref).toArray (fun j => ts.getD j 0) ps) (I.ok.hd hcalm) ⟨⟨o, n, ho, hc, hdn, hd⟩, by simp [l1], fun j k v e => ?_⟩ ⟨by rw [l2, l1], fun i key v e => ?_⟩ (by rw [l1, lm, sizeLine_eq]; omega) fun h' tk hd' k => ?_
  · obtain ⟨key, b, e1, e2, e3, e4⟩ := g j k v e
    have eb : ts.getD j 0 = b := by simp [List.getD_eq_getElem?_getD, e3]
    show (List.map Value.ref ts).toArray[j]? = some (Value.ref (ts.getD j 0)) ∧ PairAt s.heap (ts.getD j 0) k v
    rw [eb]
    exact ⟨by simp [e3], .inl e4⟩
  · obtain ⟨k, b, e1, e2, e3, e4⟩ := g i key v e
    exact ⟨k, e1, e2⟩
  · have hm : (s.heap.objs.size == sysModules) = false := beq_eq_false_iff_ne.mpr (Nat.ne_of_gt I.big)
    have len : (mergeK [] (kd m)).length ≤ sizeLine := by
      refine Nat.le_trans (length_mergeK (kd m) []) ?_
      rw [List.length_nil, Nat.zero_add, kd_len, sizeLine_eq]
      omega
    exact ⟨.ref s.heap.objs.size, upd H s.heap.objs.size (.dK (mergeK [] (kd m))), I.laid (t' := tk) (fun b o e => k b o (by simp) e) (Nat.le_refl _) (show ObjOk X.prog X.w _ _ _ (.dK (mergeK [] (kd m))) from ⟨len, hm, merged [] prs, KV.merge rel .nil, hd'⟩), rfl, q _ (I.hok.fresh (Nat.le_refl _))⟩
end
end L2.TxtDict
set_option Elab.async false
set_option linter.all false
set_option maxRecDepth 100000
set_option maxHeartbeats 4000000
/-! Dicts displayed by two stars. -/
namespace L2.TxtDict
open PySem PySem.Spec PyProof.Rows L2.NSet L2.DX PySem.W
section
variable {P : Program} {w : World} {A : Around} {E : Value → Shared → Prop} {s : Shared}
/-- an entry put with its hash -/
theorem put_pairs {d : Addr} {kvs : List (Key × Value)} {k : Key} {key v : Value} {Q : Unit → Shared → Prop} (hk : (mixKind P w).is k key = true) (hm : s.heap.DictOf (mixKind P w) d kvs)
    (hQ : ∀ h2, h2.DictOf (mixKind P w) d (stored kvs k v) → Heap.SameBut d s.heap h2 → Q () { s with heap := h2 }) (hz : kvs.length ≤ sizeLine) : wpAny (model P w) A (dictPut d ((mixKind P w).hash k) key v) Q E s := by
  have q := wpAny_dictSetHashed_pairs (prog := P) (w := w) (knd := mixKind P w) (A := A) (E := E) (s := s) (v := v) (Q := Q) hk hm hQ hz
  obtain ⟨o, es, ep, ho, hc, hd, hks, hp, hn⟩ := hm
  have hes : es.size ≤ sizeLine := by
    have e1 := hp.length
    have e2 : es.toList.length = es.size := by simp
    omega
  have hidx : (es.findIdx? fun e => (mixKind P w).is k e.key) = kvs.findIdx? fun kv => decide (kv.1 = k) := by
    rw [← hp.findIdx k]
    obtain ⟨l⟩ := es
    simp
  unfold dictPut
  refine wpAny_bind (wpAny_dictFind_of hk ho hd hks ?_)
  cases hi : es.findIdx? fun e => (mixKind P w).is k e.key with
  | some i =>
    refine wpAny_updateDict ho hd (hQ _ ⟨_, _, ep, Heap.get?_update_self _ ho (Obj.isFreed_of_dict (Obj.data_mapDict hd _)), hc.mapDict _, Obj.data_mapDict hd _, hks.modify _ _, ?_, ?_⟩ (Heap.SameBut.update ..))
    · rw [stored, if_pos (any_of_findIdx_some (hidx ▸ hi))]
      have hl : (es.toList.findIdx? fun e => (mixKind P w).is k e.key) = some i := by
        rw [← hi]
        obtain ⟨l⟩ := es
        simp
      have z := hp.modify hn hl v
      obtain ⟨l⟩ := es
      simpa using z
    · rw [stored, if_pos (any_of_findIdx_some (hidx ▸ hi)), keys_map_store]
      exact hn
  | none =>
    have nk : k ∉ kvs.map (·.1) := not_mem_of_findIdx_none (hidx ▸ hi)
    have nany : ¬ (kvs.any fun kv => decide (kv.1 = k)) = true := by
      rw [List.any_eq_true]
      rintro ⟨kv, m, e⟩
      exact nk (List.mem_map.mpr ⟨kv, m, of_decide_eq_true e⟩)
    refine wpAny_updateDictKeys (hz := hes) ho hd (hQ _ ⟨_, _, ep + 1, Heap.get?_update_self _ ho (Obj.isFreed_of_dict (Obj.data_mapDictKeys hd _)), hc.mapDictKeys _, Obj.data_mapDictKeys hd _, hks.push hk _, ?_, ?_⟩ (Heap.SameBut.update ..))
    · rw [stored, if_neg nany]
      have z := hp.append hk ((mixKind P w).hash k) v
      obtain ⟨l⟩ := es
      simpa using z
    · rw [stored, if_neg nany, List.map_append, List.nodup_append]
      refine ⟨hn, by simp, fun a ha b hb => ?_⟩
      simp only [List.map_cons, List.map_nil, List.mem_singleton] at hb
      subst hb
      exact fun e => nk (e ▸ ha)
/-- the other dict's entries go into the new one -/
theorem merge_map {d a : Addr} {kvs more : List (Key × Value)} {Q : Unit → Shared → Prop} (da : d ≠ a) (hs : (a == sysModules) = false) (hd : s.heap.DictOf (mixKind P w) d kvs) (ha : s.heap.DictOf (mixKind P w) a more)
    (hQ : ∀ h2, h2.DictOf (mixKind P w) d (merged kvs more) → Heap.SameBut d s.heap h2 → Q () { s with heap := h2 }) (hz : kvs.length + more.length ≤ sizeLine) : wpAny (model P w) A (mergeMapping d (.ref a) false) Q E s := by
  have ty := ha.typeIs
  obtain ⟨od, esd, epd, hod, hcd, hdd, hkd, hpd, hnd⟩ := id hd
  obtain ⟨oo, eso, epo, hoo, hco, hdo, hko, hpo, hno⟩ := id ha
  have len : more.length = eso.size := by
    rw [← hpo.length]
    simp
  unfold mergeMapping
  refine wpAny_bind (wpAny_isInstance ty F.sub_dict_dict ?_)
  simp only [if_true]
  refine wpAny_bind (wpAny_specialOf ty F.slot_dict_iter.lookup ?_)
  have e1 : (some (Value.builtin "dict.__iter__") == some (Value.builtin "dict.__iter__")) = true := beq_self_eq_true _
  rw [e1]
  refine wpAny_bind (wpAny_pure ?_)
  dsimp only
  refine wp_if_neg (by rw [hs]; decide) ?_
  -- the entries, one by one
  have loop : ∀ (R : PUnit → Shared → Prop) (body : Nat → PUnit → Sem (ForInStep PUnit)), (∀ h2, h2.DictOf (mixKind P w) d (merged kvs more) → Heap.SameBut d s.heap h2 → R () { s with heap := h2 }) → (∀ i u, body i u = (do
        let l ← dictEntries a
        match l[i]? with
        | some e => do
          holding [e.key, e.val] (dictPut d e.hash e.key e.val)
          let c ← dictEpoch a
          if (c != epo) = true then do
              unsupported "dict.changed-during-merge"
              pure (ForInStep.yield PUnit.unit)
            else pure (ForInStep.yield PUnit.unit)
        | none => do
          unsupported "dict.changed-during-merge"
          pure (ForInStep.yield PUnit.unit))) → wpAny (model P w) A (forIn (List.range eso.size) PUnit.unit body) R E s := fun R body hR hb => by
    refine wpAny_forIn_list _ (fun rest _ s2 => ∃ h2 i, s2 = { s with heap := h2 } ∧ rest = (List.range eso.size).drop i ∧ i ≤ eso.size ∧ h2.DictOf (mixKind P w) d (merged kvs (more.take i)) ∧ h2.get? a = some oo ∧ Heap.SameBut d s.heap h2) _
      (fun x rest b s2 I => ?_) (fun b s2 I => ?_) _ _ ⟨s.heap, 0, rfl, rfl, Nat.zero_le _, by simpa [merged] using hd, hoo, Heap.SameBut.refl _ _⟩
    · obtain ⟨h2, i, rfl, hr, hi, d2, a2, sb⟩ := I
      have lt : i < eso.size := by
        rcases Nat.lt_or_ge i eso.size with z | z
        · exact z
        · rw [List.drop_of_length_le (by rw [List.length_range]; exact z)] at hr
          cases hr
      have hdr : (List.range eso.size).drop i = i :: (List.range eso.size).drop (i + 1) := by simp [List.drop_eq_getElem_cons, lt]
      rw [hdr] at hr
      injection hr with r1 r2
      subst r1 r2
      rw [hb]
      refine wpAny_bind (wpAny_dictEntries a2 hdo ?_)
      rw [Array.getElem?_eq_getElem lt]
      dsimp only
      obtain ⟨⟨k, v⟩, hkv⟩ : ∃ kv, more[x]? = some kv := ⟨more[x]'(by rw [len]; exact lt), List.getElem?_eq_getElem _⟩
      obtain ⟨hkey, hval⟩ := hpo.get? (e := eso[x]) (by simp [lt]) hkv
      obtain ⟨k2, hkey2, hhash⟩ := hko eso[x] (Array.getElem_mem lt)
      obtain rfl : k2 = k := (mixKind P w).inj _ _ _ hkey2 hkey
      rw [hhash, hval]
      have room : (merged kvs (more.take x)).length ≤ sizeLine := by
        have e1 := merged_length_le kvs (more.take x)
        have e2 : (more.take x).length ≤ more.length := by rw [List.length_take]; omega
        omega
      refine wpAny_bind (wpAny_holding (put_pairs hkey d2 (fun h3 d3 sb3 => ?_) room))
      have a3 : h3.get? a = some oo := (sb3.2 a (Ne.symm da)).trans a2
      refine wpAny_bind (wpAny_dictEpoch a3 hdo ?_)
      rw [if_neg (by simp)]
      exact wpAny_pure ⟨h3, x + 1, rfl, rfl, lt, by rw [merged_take_succ kvs more x (k2, v) hkv]; exact d3, a3, sb.trans sb3⟩
    · obtain ⟨h2, i, rfl, hr, hi, d2, a2, sb⟩ := I
      have hin : i = eso.size := by
        rcases Nat.lt_or_ge i eso.size with z | z
        · have hdr : (List.range eso.size).drop i = i :: (List.range eso.size).drop (i + 1) := by simp [List.drop_eq_getElem_cons, z]
          rw [hdr] at hr
          cases hr
        · exact Nat.le_antisymm hi z
      rw [hin, ← len, List.take_length] at d2
      exact hR h2 d2 sb
  refine wpAny_bind (wpAny_dictEntries hod hdd ?_)
  by_cases emp : esd.isEmpty = true
  · refine wp_if_pos emp (wpAny_bind (wpAny_dictEntries hoo hdo (wpAny_bind ?_)))
    rw [← Array.forIn_toList]
    refine wpAny_forIn_list _ (fun rest _ s2 => s2 = s ∧ ∀ e ∈ rest, e ∈ eso.toList) _ (fun x rest b s2 I => ?_) (fun b s2 I => ?_) _ _ ⟨rfl, fun e m => m⟩
    · obtain ⟨rfl, I2⟩ := I
      obtain ⟨k, hkey, _⟩ := hko x (by simpa using I2 x List.mem_cons_self)
      have rk : RelV (kV k) x.key := relV_key (show keyIs k x.key = true from hkey)
      have e : ∃ c : Bool, True := ⟨true, trivial⟩
      cases k with
      | inl i =>
        obtain ⟨t, ek⟩ := rk
        rw [ek]
        exact wpAny_pure ⟨rfl, fun e m => I2 e (List.mem_cons_of_mem _ m)⟩
      | inr z =>
        obtain ⟨t, ek⟩ := rk
        rw [ek]
        exact wpAny_pure ⟨rfl, fun e m => I2 e (List.mem_cons_of_mem _ m)⟩
    · obtain ⟨rfl, _⟩ := I
      refine wpAny_bind (wpAny_dictEntries hoo hdo (wpAny_bind (wpAny_dictEpoch hoo hdo (wpAny_bind (loop _ _ (fun h2 d2 sb => wpAny_pure (hQ h2 d2 sb)) fun i u => ?_)))))
      refine congrArg (fun k => dictEntries a >>= k) (funext fun l => ?_)
      cases l[i]? <;> rfl
  · refine wp_if_neg emp ?_
    refine wpAny_bind (wpAny_dictEntries hoo hdo (wpAny_bind (wpAny_dictEpoch hoo hdo (wpAny_bind (loop _ _ (fun h2 d2 sb => wpAny_pure (hQ h2 d2 sb)) fun i u => ?_)))))
    refine congrArg (fun k => dictEntries a >>= k) (funext fun l => ?_)
    cases l[i]? <;> rfl
end
section
variable {X : Cx}
/-- {**a, **b} -/
def tStar2 (ta tb : TE) : TE := fun σ H Q => ∀ p, H p = none → ta σ (upd H p (.dK [])) fun x H1 => H1 p = some (.dK []) ∧ ∃ a k1, x = .ref a ∧ a ≠ p ∧ Rd H1 a (.dK k1) ∧ k1.length ≤ 1000 ∧
  tb σ (upd H1 p (.dK (mergeK [] k1))) fun y H2 => H2 p = some (.dK (mergeK [] k1)) ∧ ∃ b k2, y = .ref b ∧ b ≠ p ∧ Rd H2 b (.dK k2) ∧ k2.length ≤ 1000 ∧ Q (.ref p) (upd H2 p (.dK (mergeK (mergeK [] k1) k2)))
theorem merge_I {pins : List (Addr × Obj)} {σ : L2.St} {H : Hp} {s : Shared} {E : Value → Shared → Prop} {p a : Addr} {k0 k1 : List (Key × V)} {Q : Unit → Shared → Prop} (I : Inv X pins σ H s) (hp : H p = some (.dK k0)) (ha : Rd H a (.dK k1)) (pa : a ≠ p) (l0 : k0.length ≤ 1000) (l1 : k1.length ≤ 1000)
    (h : ∀ s2, Inv X pins σ (upd H p (.dK (mergeK k0 k1))) s2 → Q () s2) : wpAny (model X.prog X.w) X.A (mergeMapping p (.ref a) false) Q E s := by
  obtain ⟨z0, hd0, v0, rel0, d0⟩ := dk_of I.hok hp
  obtain ⟨z1, hd1, v1, rel1, d1⟩ := dk_rd I.hok ha
  have e0 := rel0.length
  have e1 := rel1.length
  refine merge_map (Ne.symm pa) hd1 d0 d1 (fun h2 d2 sb => h _ ?_) (by rw [sizeLine_eq]; omega)
  have len : (mergeK k0 k1).length ≤ sizeLine := by
    have := length_mergeK k1 k0
    rw [sizeLine_eq]
    omega
  have he : ∃ q, h2.get? p = some q := let ⟨q, _, _, hq, _⟩ := d2; ⟨q, hq⟩
  exact d_write I (by rw [hp]; exact True.intro) sb he (dk_new len hd0 (KV.merge rel1 rel0) d2)
theorem pe_star2 {a b : Expr} {pos : Pos} {ta tb : TE} (ha : PE X a ta) (hb : PE X b tb) : PE X (.Dict [none, none] [a, b] pos) (tStar2 ta tb) := by
  refine ⟨fun pins s σ H Q I h => ?_⟩
  rw [arm_eval_Dict]
  have shape : (evalEachOpt [none, none] X.env).zip ((evalEach [a, b] X.env).map fun v => (do let x ← v; standAt pos; pure x : Sem Value)) = [(none, do let x ← eval a X.env; standAt pos; pure x), (none, do let x ← eval b X.env; standAt pos; pure x)] := rfl
  rw [shape]
  refine wpAny_bind (wpAny_standAt ?_)
  unfold dictDisplay
  dsimp only
  simp only [List.forIn_cons, List.forIn_nil, List.isEmpty_nil, if_true, pure_bind, bind_assoc]
  refine wpAny_bind (wpAny_alloc ?_)
  have hn : H s.heap.objs.size = none := I.hok.fresh (Nat.le_refl _)
  have I0 : Inv X pins σ (upd H s.heap.objs.size (.dK [])) { s with heap := s.heap.push { cls := .type "dict", data := .dict #[] } } := I.laid (t' := s.toks) (fun _ _ q => Heap.get?_push_of_some _ q) (Nat.le_refl _) (dk_empty s.heap I.big)
  refine wpAny_bind (wpAny_holding (wpAny_bind (thn (ha.run pins _ σ _ _ I0 (h _ hn)) fun v s1 ⟨x, H1, I1, r1, hp1, a', k1, ex, na, rd1, l1, q1⟩ => wpAny_bind (wpAny_standAt (wpAny_pure ?_)))))
  subst ex
  cases r1
  refine wpAny_bind (wpAny_onRaise (wpAny_tryCatch (wpAny_onRaise (wpAny_holding (merge_I I1 hp1 rd1 na (by decide) l1 fun s2 I2 => ?_)))))
  refine wpAny_bind (wpAny_holding (wpAny_bind (thn (hb.run pins _ σ _ _ I2 q1) fun v2 s3 ⟨y, H3, I3, r3, hp3, b', k2, ey, nb, rd3, l2, q3⟩ => wpAny_bind (wpAny_standAt (wpAny_pure ?_)))))
  subst ey
  cases r3
  have l0 : (mergeK [] k1).length ≤ 1000 := by
    have := length_mergeK k1 []
    rw [List.length_nil] at this
    omega
  refine wpAny_bind (wpAny_onRaise (wpAny_tryCatch (wpAny_onRaise (wpAny_holding (merge_I I3 hp3 rd3 nb l0 l2 fun s4 I4 => ?_)))))
  exact wpAny_pure ⟨.ref s.heap.objs.size, _, I4, rfl, q3⟩
end
end L2.TxtDict
set_option Elab.async false
set_option linter.all false
set_option maxRecDepth 100000
set_option maxHeartbeats 4000000
/-! a != b of two lists whose items are equal, dicts among them. -/
namespace L2.LstNe
open PySem PySem.Spec PyProof.Rows PySem.SeqAt AutoSeq1 MeetsSeq MeetsSeq2 MeetsSeq3
section
variable {P : Program} {w : World}
/-- equal item by item -/
def Same2 (P : Program) (w : World) (A : Around) (s : Shared) (xs ys : Array Value) : Prop := ∀ j (h1 : j < xs.size) (h2 : j < ys.size), EqP P w A s xs[j] ys[j] true
theorem ne_turns (l b : Addr) (xs ys : Array Value) (n m : Nat) (d1 d2 : Option Addr) (s1 s2 : Array (Option Value)) (hz : xs.size = ys.size) (k : Nat) : ∀ i : Nat, xs.size - i = k → MeetsIn P w (Builtin.«list.__eq__.loop» ⟨[.ref l, .ref b, rawInt i, rawInt 3], []⟩)
    (fun A R s => s.heap.get? l = some { cls := .type "list", dict := d1, data := .seq xs n, slots := s1 } ∧ s.heap.get? b = some { cls := .type "list", dict := d2, data := .seq ys m, slots := s2 } ∧ Same2 P w A.in1 s xs ys ∧ R (.ok (.ret (.bool false))) s) := by
  induction k with
  | zero =>
    rintro i hk A R ⟨hp, g, d, tk, os⟩ ⟨hl, hb, he, h⟩
    wp_walk using wpAny_loadPart' hl, wpAny_loadPart' hb
    have g1 : xs[((i : Nat) : Int).toNat]? = none := by simp; omega
    have g2 : ys[((i : Nat) : Int).toNat]? = none := by simp; omega
    rw [g1, g2]
    wp_walk using wpAny_loadPart' hl, wpAny_loadPart' hb
    show R (.ok (.ret (.bool (xs.size != ys.size)))) _
    rw [hz]
    simpa using h
  | succ k ih =>
    rintro i hk A R ⟨hp, g, d, tk, os⟩ ⟨hl, hb, he, h⟩
    wp_walk using wpAny_loadPart' hl, wpAny_loadPart' hb
    have l1 : i < xs.size := by omega
    have l2 : i < ys.size := by omega
    have g1 : xs[((i : Nat) : Int).toNat]? = some xs[i] := by simp [l1]
    have g2 : ys[((i : Nat) : Int).toNat]? = some ys[i] := by simp [l2]
    have up : ((i : Int) + 1) = ((i + 1 : Nat) : Int) := by push_cast; rfl
    rw [g1, g2]
    refine wpAny_bind (he i l1 l2 _ _ ?_)
    wp_walk
    rw [up]
    refine ⟨plainId_quiet plain_eq_loop _, codeAny_builtin entry_eq_loop ?_⟩ <;> rw [Around.under_plainId plain_eq_loop _]
    exact ih (i + 1) (by omega) A R _ ⟨hl, hb, he, h⟩
theorem ne_lists {A : Around} {s : Shared} {l b : Addr} {xs ys : Array Value} (hl : s.heap.IsList l xs) (hb : s.heap.IsList b ys) (hz : xs.size = ys.size) (hu : A.units < cLine) (he : Same2 P w A.in1 s xs ys) (E Q : Value → Shared → Prop) (h : Q (.bool false) s) :
    wpAny (model P w) A (richCompare .NotEq (.ref l) (.ref b)) Q E s := by
  obtain ⟨⟨c1, d1, p1, s1⟩, ho1, hc1, n1, hd1⟩ := hl
  obtain ⟨⟨c2, d2, p2, s2⟩, ho2, hc2, n2, hd2⟩ := hb
  simp only at hc1 hd1 hc2 hd2
  subst hc1 hd1 hc2 hd2
  have ta : s.TypeIs (.ref l) "list" := ⟨_, ho1, rfl⟩
  have tb : s.TypeIs (.ref b) "list" := ⟨_, ho2, rfl⟩
  have whole : MeetsIn P w (Builtin.«list.__ne__» ⟨[.ref l, .ref b], []⟩) (fun A R s => s.heap.get? l = some { cls := .type "list", dict := d1, data := .seq xs n1, slots := s1 } ∧ s.heap.get? b = some { cls := .type "list", dict := d2, data := .seq ys n2, slots := s2 } ∧ Same2 P w A.in1 s xs ys ∧ R (.ok (.ret (.bool false))) s) := by
    rintro A R ⟨hp, g, d, tk, os⟩ ⟨hl, hb, he, h⟩
    have f3 := AutoSeq1.sub_list_list
    have hne : ¬ (xs.size != ys.size) = true := by simp [hz]
    wp_walk using wpAny_loadPart' hl, wpAny_loadPart' hb
    refine ⟨plainId_quiet plain_eq_loop _, codeAny_builtin entry_eq_loop ?_⟩ <;> rw [Around.under_plainId plain_eq_loop _]
    exact ne_turns l b xs ys n1 n2 d1 d2 s1 s2 hz _ 0 rfl A R _ ⟨hl, hb, he, h⟩
  exact wpAny_richCompare_same_room (op := .NotEq) ta tb F.slot_list_ne (call_meetsIn F.slot_list_ne ta F.entry_list_ne (F.args_list_ne_2 _ _) whole ⟨ho1, ho2, he, show Value.bool false ≠ Value.notImplemented ∧ Q (.bool false) s from ⟨(fun x => nomatch x), h⟩⟩) hu
end
section
variable {X : Cx}
/-- a != b, two lists that are equal -/
def rNeV (K : PySem.W.Frag) : R2 := fun x y H Q => ∃ n, n ≤ 60 ∧ (∃ a b xs ys, x = .ref a ∧ y = .ref b ∧ SqL K H a xs ∧ SqL K H b ys ∧ Paired (EqV K H n) xs ys) ∧ Q (.bl false) H
theorem op_neV (hu : X.A.units + 64 < cLine) : OpR X (compareOp .NotEq) (rNeV X.K) := by
  intro pins s σ H x y v u Q I rx ry h
  obtain ⟨n, hn, ⟨a, b, xs, ys, rfl, rfl, ha, hb, hp⟩, q⟩ := h
  cases (show v = Value.ref a from rx)
  cases (show u = Value.ref b from ry)
  obtain ⟨us, r1, p1, _⟩ := I.list ha
  obtain ⟨ws, r2, p2, _⟩ := I.list hb
  have hz : us.toArray.size = ws.toArray.size := by
    rw [List.size_toArray, List.size_toArray, ← r1.length, ← r2.length]
    exact Paired.length hp
  refine ne_lists (A := X.A) p1.isList p2.isList hz (by omega) (fun j h1 h2 => ?_) X.xe (EP X pins σ Q) ⟨.bl false, H, I, rfl, q⟩
  have k := items_run (P := X.prog) (w := X.w) (A := X.A.in1) (s := s) (fun x y v u e r1 r2 => eqV_run I n X.A.in1 (by show X.A.units + 1 + n < cLine; omega) x y v u e r1 r2) hp r1 r2 j (by simpa using h1) (by simpa using h2)
  simpa using k
theorem op_neVK {K : PySem.W.Frag} (e : X.K = K) (hu : X.A.units + 64 < cLine) : OpR X (compareOp .NotEq) (rNeV K) := by
  subst e
  exact op_neV hu
end
end L2.LstNe
set_option Elab.async false
set_option linter.all false
set_option maxRecDepth 100000
set_option maxHeartbeats 4000000
/-! Maps: whether two agree, whether one is above the other. -/
namespace L2.LawH
open PySem PySem.Spec PyProof.Rows L2.TxtDict
abbrev sAgree : Stmt := top 1
abbrev sAbove : Stmt := top 3
def look : Prs2 → Str → Option Str
  | [], _ => none
  | p :: m, z => if p.1 = z then some p.2 else look m z
theorem val_kd : ∀ (m : Prs2) (z : Str), valV (kd m) (Sum.inr z : Key) = (look m z).map V.str
  | [], _ => rfl
  | p :: m, z => by
    by_cases e : p.1 = z
    · rw [show kd (p :: m) = ((Sum.inr p.1 : Key), V.str p.2) :: kd m from rfl, valV_pos (by rw [e]), look, if_pos e]
      rfl
    · rw [show kd (p :: m) = ((Sum.inr p.1 : Key), V.str p.2) :: kd m from rfl, valV_neg (fun q => e (Sum.inr.inj q)), look, if_neg e]
      exact val_kd m z
theorem look_mem : ∀ {m : Prs2} {z v : Str}, look m z = some v → (z, v) ∈ m
  | [], _, _, h => nomatch h
  | p :: m, z, v, h => by
    rw [look] at h
    by_cases e : p.1 = z
    · rw [if_pos e] at h
      have := Option.some.inj h
      rw [← e, ← this]
      exact List.mem_cons_self
    · rw [if_neg e] at h
      exact List.mem_cons_of_mem _ (look_mem h)
theorem look_of : ∀ {m : Prs2} {p : Str × Str}, (m.map Prod.fst).Nodup → p ∈ m → look m p.1 = some p.2
  | q :: m, p, nd, h => by
    rw [List.map_cons, List.nodup_cons] at nd
    rw [look]
    rcases List.mem_cons.mp h with rfl | h
    · rw [if_pos rfl]
    · have ne : ¬ q.1 = p.1 := fun e => nd.1 (by rw [e]; exact List.mem_map.mpr ⟨p, h, rfl⟩)
      rw [if_neg ne]
      exact look_of nd.2 h
theorem look_none {m : Prs2} {z : Str} : look m z = none ↔ z ∉ m.map Prod.fst := by
  induction m with
  | nil => simp [look]
  | cons p m ih =>
    rw [look, List.map_cons, List.mem_cons]
    by_cases e : p.1 = z
    · rw [if_pos e]
      simp [e]
    · rw [if_neg e, ih]
      have : ¬ z = p.1 := fun h => e h.symm
      simp [this]
structure Good (m : Prs2) : Prop where
  nd : (m.map Prod.fst).Nodup
  few : m.length ≤ 20
  ok : ∀ p ∈ m, PyData.strOk p.1 = true ∧ PyData.strOk p.2 = true
/-- the map m at d -/
def MapAt (H : Hp) (d : Addr) (m : Prs2) : Prop := H d = some (.dK (kd m))
theorem MapAt.same {H H' : Hp} {d : Addr} {m : Prs2} (h : MapAt H d m) (s : Same H H') : MapAt H' d m := s _ _ h
/-- behind a lock -/
theorem unlocked {H H5 : Hp} {a : Addr} {od : Obj} {u : HO} (h : H a = some u) (s : Same (upd H a (.frz od u)) H5) : Same H (upd H5 a u) := fun b o e => by
  by_cases eb : b = a
  · rw [eb] at e ⊢
    rw [upd_same, ← h, e]
  · rw [upd_ne eb]
    exact s b o (by rw [upd_ne eb]; exact e)
theorem rd_frz {H : Hp} {a b : Addr} {od : Obj} {m1 m2 : Prs2} (ha : MapAt H a m1) (hb : MapAt H b m2) : Rd (upd H a (.frz od (.dK (kd m1)))) b (.dK (kd m2)) := by
  by_cases e : b = a
  · subst e
    have : kd m1 = kd m2 := by
      have q := ha.symm.trans hb
      injection q with q
      injection q
    rw [← this]
    exact .inr ⟨od, upd_same⟩
  · exact .inl (by rw [upd_ne e]; exact hb)
theorem rd_same {H H' : Hp} {a : Addr} {u : HO} (r : Rd H a u) (s : Same H H') : Rd H' a u := r.imp (s _ _) fun ⟨o, e⟩ => ⟨o, s _ _ e⟩
def agreeB (m1 m2 : Prs2) : Bool := m1.all fun p => match look m2 p.1 with
  | none => true
  | some v => decide (p.2 = v)
def aboveB (m1 m2 : Prs2) : Bool := m2.all fun p => decide (look m1 p.1 = some p.2)
def spAgree : Sp := fun vs H Q _ => ∃ (a b : Addr) (m1 m2 : Prs2), vs = [.ref a, .ref b] ∧ MapAt H a m1 ∧ Good m1 ∧ MapAt H b m2 ∧ ∀ H', Same H H' → Q (.bl (agreeB m1 m2)) H'
def spAbove : Sp := fun vs H Q _ => ∃ (a b : Addr) (m1 m2 : Prs2), vs = [.ref a, .ref b] ∧ MapAt H a m1 ∧ MapAt H b m2 ∧ Good m2 ∧ ∀ H', Same H H' → Q (.bl (aboveB m1 m2)) H'
section
variable {P : Program} {w : World} {K : PySem.W.Frag} {mg : Str → Option Value} {base : Heap}
abbrev nAg : List Str := ["one", "other", "name"]
theorem scAg : FnScope nAg ["one", "other"] (defScope sAgree) := ⟨rfl, rfl, rfl, by decide +kernel, rfl, by decide +kernel, by decide +kernel⟩
/-- the answers of agree, name by name -/
def agL (m2 : Prs2) : Prs2 → List Bool
  | [] => []
  | p :: m => match look m2 p.1 with
    | none => agL m2 m
    | some v => decide (p.2 = v) :: agL m2 m
theorem agL_snoc (m2 : Prs2) (p : Str × Str) : ∀ m : Prs2, agL m2 (m ++ [p]) = agL m2 m ++ (match look m2 p.1 with
    | none => []
    | some v => [decide (p.2 = v)])
  | [] => by
    show agL m2 [p] = _
    unfold agL
    cases look m2 p.1 <;> rfl
  | q :: m => by
    show agL m2 (q :: (m ++ [p])) = _
    unfold agL
    cases look m2 q.1 with
    | none => exact agL_snoc m2 p m
    | some v =>
      show _ :: agL m2 (m ++ [p]) = _
      rw [agL_snoc m2 p m]
      rfl
theorem agL_all (m2 : Prs2) : ∀ m : Prs2, (agL m2 m).all id = agreeB m m2
  | [] => rfl
  | p :: m => by
    have ih := agL_all m2 m
    unfold agreeB at ih ⊢
    rw [List.all_cons, agL]
    cases look m2 p.1 with
    | none => simpa using ih
    | some v =>
      rw [List.all_cons, ih]
      rfl
theorem agL_len (m2 : Prs2) : ∀ m : Prs2, (agL m2 m).length ≤ m.length
  | [] => Nat.le_refl _
  | p :: m => by
    rw [agL]
    cases look m2 p.1 with
    | none => exact Nat.le_succ_of_le (agL_len m2 m)
    | some v => exact Nat.succ_le_succ (agL_len m2 m)
theorem ok_agree {f : Addr} {fd : FuncData} (F : Fun K "agree" "agree" sAgree f fd) (ma : mg "all" = none) : FnOk P w K mg base CX0 1 f fd ["one", "other"] spAgree := by
  refine F.ok scAg (fun vs H Q E h => ?_) (fun cdv A outer s H vs Q E hr h => ?_)
  · obtain ⟨a, b, m1, m2, rfl, _⟩ := h
    rfl
  · obtain ⟨a, b, m1, m2, rfl, ha, g1, hb, k⟩ := h
    have hu := hu_of hr
    refine ⟨_, pss_one (ps_ret (pe_callB (cr_all rfl) (by rfl) ma (by decide +kernel) (pa_cons (pe_lock (pe_lc (own := [("name", 2)]) (g := gName 2) (tt := tB (tDIn (tVar 2) (tVar 1))) rfl scAg.nd (pi_keys (pv 0))
        (blkOk_by (own := [("name", 2)]) (N := nAg) (sc := defScope sAgree) (by decide +kernel)) (fun _ _ _ _ _ => pg_name (i := 2) scAg.nd rfl (Or.inl rfl)) (fun _ _ _ _ _ => pts_one (pt_cmp (pc_din hu (pv 2) (pv 1))))
        (fun _ _ _ _ _ => pe_cmpR op_eq (pe_dget hu (pv 0) (pv 2) (fun _ _ => rfl)) (pe_dget hu (pv 1) (pv 2) (fun _ _ => rfl)) (nomark _)))) pa_nil))), ?_⟩
    refine ⟨a, _, ha, True.intro, fun od => ?_⟩
    have lk : (upd H a (.frz od (.dK (kd m1)))) a = some (.frz od (.dK (kd m1))) := upd_same
    have rb := rd_frz (od := od) ha hb
    have ra := rd_frz (od := od) ha ha
    refine ⟨_, rfl, a, od, rfl, .inl ⟨kd m1, lk, fun D nD => ?_⟩⟩
    generalize hH1 : upd H a (.frz od (.dK (kd m1))) = H1 at lk rb ra nD
    refine lc_it walk_keys (fun i H5 => H5 D = some (.lst ((agL m2 (m1.take i)).map V.bl)) ∧ Same H1 H5) ⟨upd_same, same_new nD⟩ (fun i H5 hi p => p.2 _ _ lk) (fun i x H5 H6 hi p y => ?_) (fun H5 p => ?_)
    · obtain ⟨rfl, k0, v0, hk, rfl⟩ := y
      obtain ⟨p1, p2⟩ := p
      rw [kd_len] at hi
      obtain ⟨q, hq⟩ : ∃ q, m1[i]? = some q := ⟨_, List.getElem?_eq_getElem hi⟩
      have e0 := (kd_get hq).symm.trans hk
      have e1 := Option.some.inj e0
      obtain ⟨rfl, rfl⟩ := Prod.mk.inj e1
      have mq : q ∈ m1 := List.mem_of_getElem? hq
      have tk : m1.take (i + 1) = m1.take i ++ [q] := by
        rw [List.take_succ, hq]
        rfl
      refine ⟨rfl, _, rfl, _, rfl, b, valV (kd m2) (Sum.inr q.1), rfl, .inl ⟨kd m2, Sum.inr q.1, rd_same rb p2, rfl, rfl⟩, _, rfl, ?_⟩
      rw [val_kd]
      cases e : look m2 q.1 with
      | none =>
        dsimp only [Option.map, Option.isSome]
        rw [if_neg Bool.false_ne_true, tk, agL_snoc, e, List.append_nil]
        exact ⟨p1, p2⟩
      | some v =>
        dsimp only [Option.map, Option.isSome]
        rw [if_pos rfl]
        refine ⟨_, rfl, _, rfl, a, .str q.2, rfl, .inl ⟨kd m1, Sum.inr q.1, rd_same ra p2, rfl, by rw [val_kd, look_of g1.nd mq]; rfl⟩, _, rfl, _, rfl, b, .str v, rfl, .inl ⟨kd m2, Sum.inr q.1, rd_same rb p2, rfl, by rw [val_kd, e]; rfl⟩, rfl, ?_⟩
        refine ⟨_, p1, ?_, ?_, fun c o h => ?_⟩
        · have := agL_len m2 (m1.take i)
          have := g1.few
          rw [List.length_take] at *
          rw [List.length_map, sizeLine_eq]
          omega
        · rw [upd_same, tk, agL_snoc, e, List.map_append]
          have ed : decide (V.str q.2 = V.str v) = decide (q.2 = v) := decide_eq_decide.mpr ⟨fun h => V.str.inj h, fun h => by rw [h]⟩
          rw [ed]
          rfl
        · rw [upd_ne (ne_of_none h nD)]
          exact p2 c o h
    · obtain ⟨p1, p2⟩ := p
      rw [kd_len, List.take_length] at p1
      refine ⟨p2 _ _ lk, D, agL m2 m1, rfl, SqL.of ?_, ?_⟩
      · have na : D ≠ a := fun e => by
          rw [e, lk] at nD
          cases nD
        rw [upd_ne na]
        exact p1
      · rw [agL_all]
        exact k _ (unlocked ha (by rw [hH1]; exact p2))
theorem scAb : FnScope nAg ["one", "other"] (defScope sAbove) := ⟨rfl, rfl, rfl, by decide +kernel, rfl, by decide +kernel, by decide +kernel⟩
theorem ok_above {f : Addr} {fd : FuncData} (F : Fun K "is_above" "is_above" sAbove f fd) (ma : mg "all" = none) : FnOk P w K mg base CX0 1 f fd ["one", "other"] spAbove := by
  refine F.ok scAb (fun vs H Q E h => ?_) (fun cdv A outer s H vs Q E hr h => ?_)
  · obtain ⟨a, b, m1, m2, rfl, _⟩ := h
    rfl
  · obtain ⟨a, b, m1, m2, rfl, ha, hb, g2, k⟩ := h
    have hu := hu_of hr
    refine ⟨_, pss_one (ps_ret (pe_callB (cr_all rfl) (by rfl) ma (by decide +kernel) (pa_cons (pe_lock (pe_lc (own := [("name", 2)]) (g := gName 2) (tt := tYes) rfl scAb.nd (pi_keys (pv 1))
        (blkOk_by (own := [("name", 2)]) (N := nAg) (sc := defScope sAbove) (by decide +kernel)) (fun _ _ _ _ _ => pg_name (i := 2) scAb.nd rfl (Or.inl rfl)) (fun _ _ _ _ _ => pts_nil)
        (fun _ _ _ _ _ => pe_and (pe_cmp (pc_din hu (pv 2) (pv 0))) (pe_one (pe_cmpR op_eq (pe_dget hu (pv 0) (pv 2) (fun _ _ => rfl)) (pe_dget hu (pv 1) (pv 2) (fun _ _ => rfl)) (nomark _)))))) pa_nil))), ?_⟩
    refine ⟨b, _, hb, True.intro, fun od => ?_⟩
    have lk : (upd H b (.frz od (.dK (kd m2)))) b = some (.frz od (.dK (kd m2))) := upd_same
    have ra := rd_frz (od := od) hb ha
    have rb := rd_frz (od := od) hb hb
    refine ⟨_, rfl, b, od, rfl, .inl ⟨kd m2, lk, fun D nD => ?_⟩⟩
    generalize hH1 : upd H b (.frz od (.dK (kd m2))) = H1 at lk rb ra nD
    refine lc_it walk_keys (fun i H5 => H5 D = some (.lst (((m2.take i).map fun p => decide (look m1 p.1 = some p.2)).map V.bl)) ∧ Same H1 H5) ⟨upd_same, same_new nD⟩ (fun i H5 hi p => p.2 _ _ lk) (fun i x H5 H6 hi p y => ?_) (fun H5 p => ?_)
    · obtain ⟨rfl, k0, v0, hk, rfl⟩ := y
      obtain ⟨p1, p2⟩ := p
      rw [kd_len] at hi
      obtain ⟨q, hq⟩ : ∃ q, m2[i]? = some q := ⟨_, List.getElem?_eq_getElem hi⟩
      have e0 := (kd_get hq).symm.trans hk
      have e1 := Option.some.inj e0
      obtain ⟨rfl, rfl⟩ := Prod.mk.inj e1
      have mq : q ∈ m2 := List.mem_of_getElem? hq
      have tk : m2.take (i + 1) = m2.take i ++ [q] := by
        rw [List.take_succ, hq]
        rfl
      have fin : ∀ c : Bool, c = decide (look m1 q.1 = some q.2) → ∃ acc, H6 D = some (.lst acc) ∧ acc.length < sizeLine ∧ ((upd H6 D (.lst (acc ++ [.bl c]))) D = some (.lst (((m2.take (i + 1)).map fun p => decide (look m1 p.1 = some p.2)).map V.bl)) ∧ Same H1 (upd H6 D (.lst (acc ++ [.bl c])))) := fun c ec => by
        refine ⟨_, p1, ?_, ?_, fun c o h => ?_⟩
        · have := g2.few
          rw [List.length_map, List.length_map, List.length_take, sizeLine_eq]
          omega
        · rw [upd_same, tk, List.map_append, List.map_append, ec]
          rfl
        · rw [upd_ne (ne_of_none h nD)]
          exact p2 c o h
      refine ⟨rfl, ?_⟩
      dsimp only [tYes]
      rw [if_pos rfl]
      refine ⟨_, rfl, _, rfl, a, valV (kd m1) (Sum.inr q.1), rfl, .inl ⟨kd m1, Sum.inr q.1, rd_same ra p2, rfl, rfl⟩, _, rfl, ?_⟩
      rw [val_kd]
      cases e : look m1 q.1 with
      | none => exact iteF (fin _ (by rw [e]; rfl))
      | some v =>
        refine iteT ⟨_, rfl, _, rfl, a, .str v, rfl, .inl ⟨kd m1, Sum.inr q.1, rd_same ra p2, rfl, by rw [val_kd, e]; rfl⟩, _, rfl, _, rfl, b, .str q.2, rfl, .inl ⟨kd m2, Sum.inr q.1, rd_same rb p2, rfl, by rw [val_kd, look_of g2.nd mq]; rfl⟩, rfl, ?_⟩
        refine fin _ ?_
        rw [e]
        exact decide_eq_decide.mpr ⟨fun h => by rw [V.str.inj h], fun h => by rw [Option.some.inj h]⟩
    · obtain ⟨p1, p2⟩ := p
      rw [kd_len, List.take_length] at p1
      refine ⟨p2 _ _ lk, D, m2.map fun p => decide (look m1 p.1 = some p.2), rfl, SqL.of ?_, ?_⟩
      · have na : D ≠ b := fun e => by
          rw [e, lk] at nD
          cases nD
        rw [upd_ne na]
        exact p1
      · have q := k _ (unlocked hb (by rw [hH1]; exact p2))
        have e : ((m2.map fun p => decide (look m1 p.1 = some p.2)).all id) = aboveB m1 m2 := by
          rw [List.all_map]
          rfl
        rw [e]
        exact q
end
end L2.LawH
set_option Elab.async false
set_option linter.all false
set_option maxRecDepth 100000
set_option maxHeartbeats 4000000
/-! Maps of texts to texts: entries put, maps merged, the order by key; dict comprehensions over walks. -/
namespace L2.LawH
open PySem PySem.Spec PyProof.Rows L2.TxtDict
theorem asc_pw : ∀ (l : List Str) (p : Str), risingS p l = true → (p :: l).Pairwise fun a b => a.cps.toList ≤ b.cps.toList
  | [], p, _ => List.pairwise_singleton _ _
  | x :: r, p, h => by
    simp only [risingS, Bool.and_eq_true, Bool.not_eq_true', ltCps_eq, decide_eq_false_iff_not, List.not_lt] at h
    have ih := asc_pw r x h.2
    refine List.pairwise_cons.mpr ⟨fun y hy => ?_, ih⟩
    rcases List.mem_cons.mp hy with rfl | hy
    · exact h.1
    · exact List.le_trans h.1 ((List.pairwise_cons.mp ih).1 y hy)
theorem asc_all {l : List Str} (h : sortedS l = true) : l.Pairwise fun a b => a.cps.toList ≤ b.cps.toList := by
  cases l with
  | nil => exact List.Pairwise.nil
  | cons x r => exact asc_pw r x h
theorem str_anti {a b : Str} (x : a.cps.toList ≤ b.cps.toList) (y : b.cps.toList ≤ a.cps.toList) : a = b := by
  have e : a.cps.toList = b.cps.toList := List.le_antisymm x y
  cases a
  cases b
  exact congrArg Str.mk (Array.toList_inj.mp e)
theorem asc_eq {l l' u : List Str} (h : sortedS l = true) (h' : sortedS l' = true) (p : l.Perm u) (p' : l'.Perm u) : l = l' :=
  List.Perm.eq_of_pairwise (fun a b _ _ x y => str_anti x y) (asc_all h) (asc_all h') (p.trans p'.symm)
/-- by key -/
def leP (p q : Str × Str) : Bool := !ltCps q.1.cps.toList p.1.cps.toList
theorem leP_iff {p q : Str × Str} : leP p q = true ↔ p.1.cps.toList ≤ q.1.cps.toList := by
  simp only [leP, Bool.not_eq_true', ltCps_eq, decide_eq_false_iff_not, List.not_lt]
def canon (m : Prs2) : Prs2 := m.mergeSort leP
theorem canon_perm (m : Prs2) : (canon m).Perm m := List.mergeSort_perm ..
theorem canon_pw (m : Prs2) : (canon m).Pairwise fun p q => p.1.cps.toList ≤ q.1.cps.toList := by
  refine List.Pairwise.imp (fun h => leP_iff.mp h) (List.pairwise_mergeSort (le := leP) (fun a b c x y => ?_) (fun a b => ?_) m)
  · exact leP_iff.mpr (List.le_trans (leP_iff.mp x) (leP_iff.mp y))
  · rcases List.le_total a.1.cps.toList b.1.cps.toList with h | h
    · rw [leP_iff.mpr h]; rfl
    · rw [leP_iff.mpr h, Bool.or_true]
theorem canon_asc (m : Prs2) : sortedS ((canon m).map Prod.fst) = true := by
  refine sortedS_of_pairwise _ ?_
  rw [List.pairwise_map]
  refine List.Pairwise.imp (fun {a b} h => ?_) (canon_pw m)
  rw [ltCps_eq]
  exact decide_eq_false (List.not_lt.mpr h)
theorem keys_canon {m : Prs2} {ys : List Str} (p : ys.Perm (m.map Prod.fst)) (h : sortedS ys = true) : ys = (canon m).map Prod.fst := asc_eq h (canon_asc m) p ((canon_perm m).map _)
theorem canon_nd {m : Prs2} (nd : (m.map Prod.fst).Nodup) : ((canon m).map Prod.fst).Nodup := ((canon_perm m).map _).nodup_iff.mpr nd
theorem look_iff {m : Prs2} (nd : (m.map Prod.fst).Nodup) {z v : Str} : look m z = some v ↔ (z, v) ∈ m := ⟨look_mem, fun h => look_of nd h⟩
theorem look_ext {m m' : Prs2} (nd : (m.map Prod.fst).Nodup) (nd' : (m'.map Prod.fst).Nodup) (h : ∀ p, p ∈ m ↔ p ∈ m') (z : Str) : look m z = look m' z := by
  cases e : look m z with
  | some v => exact ((look_iff nd').mpr ((h _).mp (look_mem e))).symm
  | none =>
    cases e' : look m' z with
    | none => rfl
    | some v =>
      have := (look_iff nd).mpr ((h _).mpr (look_mem e'))
      rw [e] at this
      cases this
theorem look_canon {m : Prs2} (nd : (m.map Prod.fst).Nodup) (z : Str) : look (canon m) z = look m z := look_ext (canon_nd nd) nd (fun _ => (canon_perm m).mem_iff) z
theorem nd_of {m : Prs2} (nd : (m.map Prod.fst).Nodup) : m.Nodup := by
  rw [List.Nodup, List.pairwise_map] at nd
  exact List.Pairwise.imp (fun h e => h (by rw [e])) nd
theorem fst_inj {m : Prs2} (nd : (m.map Prod.fst).Nodup) {p q : Str × Str} (hp : p ∈ m) (hq : q ∈ m) (e : p.1 = q.1) : p = q := by
  have h1 := look_of nd hp
  have h2 := look_of nd hq
  rw [e, h2] at h1
  exact Prod.ext e (Option.some.inj h1).symm
theorem canon_eq {m m' : Prs2} (nd : (m.map Prod.fst).Nodup) (p : m.Perm m') : canon m = canon m' := by
  refine List.Perm.eq_of_pairwise (fun a b ha hb x y => ?_) (canon_pw m) (canon_pw m') ((canon_perm m).trans (p.trans (canon_perm m').symm))
  exact fst_inj nd ((canon_perm m).mem_iff.mp ha) (p.mem_iff.mpr ((canon_perm m').mem_iff.mp hb)) (str_anti x y)
theorem perm_look {m m' : Prs2} (nd : (m.map Prod.fst).Nodup) (nd' : (m'.map Prod.fst).Nodup) (h : ∀ z, look m z = look m' z) : m.Perm m' := by
  refine (List.perm_ext_iff_of_nodup (nd_of nd) (nd_of nd')).mpr fun p => ?_
  obtain ⟨z, v⟩ := p
  rw [← look_iff nd, ← look_iff nd', h]
theorem canon_ext {m m' : Prs2} (nd : (m.map Prod.fst).Nodup) (nd' : (m'.map Prod.fst).Nodup) (h : ∀ z, look m z = look m' z) : canon m = canon m' := canon_eq nd (perm_look nd nd' h)
theorem canon_canon {m : Prs2} (nd : (m.map Prod.fst).Nodup) : canon (canon m) = canon m := canon_eq (canon_nd nd) (canon_perm m)
theorem canon_id {m : Prs2} (h : m.Pairwise fun p q => p.1.cps.toList ≤ q.1.cps.toList) (nd : (m.map Prod.fst).Nodup) : canon m = m :=
  List.Perm.eq_of_pairwise (fun a b ha hb x y => fst_inj nd ((canon_perm m).mem_iff.mp ha) hb (str_anti x y)) (canon_pw m) h (canon_perm m)
theorem canon_len (m : Prs2) : (canon m).length = m.length := (canon_perm m).length_eq
theorem canon_good {m : Prs2} (g : Good m) : Good (canon m) := ⟨canon_nd g.nd, by rw [canon_len]; exact g.few, fun p h => g.ok p ((canon_perm m).mem_iff.mp h)⟩
/-- one entry put -/
def putP (m : Prs2) (k v : Str) : Prs2 := if (look m k).isSome = true then m.map fun p => if p.1 = k then (p.1, v) else p else m ++ [(k, v)]
theorem kd_put (m : Prs2) (k v : Str) : putK (kd m) (Sum.inr k : Key) (V.str v) = kd (putP m k v) := by
  unfold putK putP
  rw [valV_any, val_kd]
  cases e : look m k with
  | none =>
    dsimp only [Option.map, Option.isSome]
    rw [if_neg Bool.false_ne_true, if_neg Bool.false_ne_true]
    unfold kd
    rw [List.map_append]
    rfl
  | some x =>
    dsimp only [Option.map, Option.isSome]
    rw [if_pos rfl, if_pos rfl]
    unfold kd
    rw [List.map_map, List.map_map]
    refine List.map_congr_left fun p _ => ?_
    dsimp only [Function.comp]
    by_cases c : p.1 = k
    · rw [if_pos (by rw [c]), if_pos c]
    · rw [if_neg (fun q => c (Sum.inr.inj q)), if_neg c]
theorem look_put (m : Prs2) (k v z : Str) : look (putP m k v) z = if z = k then some v else look m z := by
  have h := valV_put (kd m) (Sum.inr k : Key) (Sum.inr z) (V.str v)
  rw [kd_put, val_kd, val_kd] at h
  by_cases c : z = k
  · rw [if_pos c]
    rw [if_pos (by rw [c])] at h
    cases e : look (putP m k v) z with
    | none => rw [e] at h; cases h
    | some x =>
      rw [e] at h
      exact congrArg some (V.str.inj (Option.some.inj h))
  · rw [if_neg c]
    rw [if_neg (fun q => c (Sum.inr.inj q))] at h
    cases e : look (putP m k v) z with
    | none =>
      rw [e] at h
      cases e2 : look m z with
      | none => rfl
      | some y => rw [e2] at h; cases h
    | some x =>
      rw [e] at h
      cases e2 : look m z with
      | none => rw [e2] at h; cases h
      | some y =>
        rw [e2] at h
        exact congrArg some (V.str.inj (Option.some.inj h))
theorem keys_put (m : Prs2) (k v : Str) : (putP m k v).map Prod.fst = if (look m k).isSome = true then m.map Prod.fst else m.map Prod.fst ++ [k] := by
  unfold putP
  split
  · rw [List.map_map]
    refine List.map_congr_left fun p _ => ?_
    dsimp only [Function.comp]
    split <;> rfl
  · rw [List.map_append]
    rfl
theorem nd_put {m : Prs2} (nd : (m.map Prod.fst).Nodup) (k v : Str) : ((putP m k v).map Prod.fst).Nodup := by
  rw [keys_put]
  split
  · exact nd
  · rename_i h
    have hn : look m k = none := by
      cases e : look m k with
      | none => rfl
      | some x => rw [e] at h; exact absurd rfl h
    exact List.nodup_append.mpr ⟨nd, by simp, fun a ha b hb e => by
      rw [List.mem_singleton] at hb
      rw [e, hb] at ha
      exact look_none.mp hn ha⟩
theorem len_put (m : Prs2) (k v : Str) : (putP m k v).length ≤ m.length + 1 := by
  unfold putP
  split
  · rw [List.length_map]
    exact Nat.le_succ _
  · rw [List.length_append]
    exact Nat.le_refl _
theorem mem_put {m : Prs2} {k v : Str} {p : Str × Str} (h : p ∈ putP m k v) : p ∈ m ∨ p = (k, v) := by
  unfold putP at h
  split at h
  · obtain ⟨q, hq, e⟩ := List.mem_map.mp h
    by_cases c : q.1 = k
    · rw [if_pos c] at e
      exact .inr (by rw [← e, c])
    · rw [if_neg c] at e
      exact .inl (by rw [← e]; exact hq)
  · rcases List.mem_append.mp h with h | h
    · exact .inl h
    · exact .inr (List.mem_singleton.mp h)
theorem put_new {m : Prs2} {k v : Str} (h : look m k = none) : putP m k v = m ++ [(k, v)] := by
  unfold putP
  rw [if_neg (by rw [h]; exact Bool.false_ne_true)]
/-- all entries of another map put -/
def merP (m more : Prs2) : Prs2 := more.foldl (fun acc p => putP acc p.1 p.2) m
theorem kd_mer : ∀ (more m : Prs2), mergeK (kd m) (kd more) = kd (merP m more)
  | [], _ => rfl
  | p :: more, m => by
    show mergeK (putK (kd m) (Sum.inr p.1 : Key) (V.str p.2)) (kd more) = _
    rw [kd_put]
    exact kd_mer more _
theorem nd_mer : ∀ {more m : Prs2}, (m.map Prod.fst).Nodup → ((merP m more).map Prod.fst).Nodup
  | [], _, h => h
  | p :: more, m, h => nd_mer (more := more) (nd_put h p.1 p.2)
theorem len_mer : ∀ (more m : Prs2), (merP m more).length ≤ m.length + more.length
  | [], _ => Nat.le_refl _
  | p :: more, m => by
    have h := len_mer more (putP m p.1 p.2)
    have h2 := len_put m p.1 p.2
    show (merP (putP m p.1 p.2) more).length ≤ _
    rw [List.length_cons]
    omega
theorem look_mer : ∀ {more : Prs2} (m : Prs2) (z : Str), (more.map Prod.fst).Nodup → look (merP m more) z = (look more z).or (look m z)
  | [], m, z, _ => rfl
  | p :: more, m, z, nd => by
    rw [List.map_cons, List.nodup_cons] at nd
    show look (merP (putP m p.1 p.2) more) z = _
    rw [look_mer _ z nd.2, look_put, look]
    by_cases c : p.1 = z
    · have hn : look more z = none := look_none.mpr (by rw [← c]; exact nd.1)
      rw [if_pos c, if_pos c.symm, hn]
      rfl
    · rw [if_neg c, if_neg fun e => c e.symm]
theorem mem_mer : ∀ {more m : Prs2} {p : Str × Str}, p ∈ merP m more → p ∈ m ∨ p ∈ more
  | [], _, _, h => .inl h
  | q :: more, m, p, h => by
    rcases mem_mer (more := more) (m := putP m q.1 q.2) h with h | h
    · rcases mem_put h with h | h
      · exact .inl h
      · exact .inr (by rw [h]; exact List.mem_cons_self)
    · exact .inr (List.mem_cons_of_mem _ h)
theorem mer_nil : ∀ {m acc : Prs2}, ((acc ++ m).map Prod.fst).Nodup → merP acc m = acc ++ m
  | [], acc, _ => (List.append_nil acc).symm
  | p :: m, acc, nd => by
    have hn : look acc p.1 = none := look_none.mpr fun h => by
      rw [List.map_append, List.nodup_append] at nd
      exact nd.2.2 _ h _ (by rw [List.map_cons]; exact List.mem_cons_self) rfl
    show merP (putP acc p.1 p.2) m = _
    rw [put_new hn, mer_nil (by simpa using nd)]
    simp
/-- the map of both -/
def bothP (m1 m2 : Prs2) : Prs2 := merP (merP [] m1) m2
theorem both_nd (m1 m2 : Prs2) : ((bothP m1 m2).map Prod.fst).Nodup := nd_mer (nd_mer (by simp))
theorem both_look {m1 m2 : Prs2} (n1 : (m1.map Prod.fst).Nodup) (n2 : (m2.map Prod.fst).Nodup) (z : Str) : look (bothP m1 m2) z = (look m2 z).or (look m1 z) := by
  unfold bothP
  rw [look_mer _ z n2, look_mer _ z n1, look, Option.or_none]
theorem both_len (m1 m2 : Prs2) : (bothP m1 m2).length ≤ m1.length + m2.length := by
  have h1 := len_mer m2 (merP [] m1)
  have h2 := len_mer m1 []
  unfold bothP
  rw [List.length_nil] at h2
  omega
theorem both_mem {m1 m2 : Prs2} {p : Str × Str} (h : p ∈ bothP m1 m2) : p ∈ m1 ∨ p ∈ m2 := by
  rcases mem_mer h with h | h
  · rcases mem_mer h with h | h
    · cases h
    · exact .inl h
  · exact .inr h
/-- a dict comprehension over a walk -/
theorem dc_it {J : It} {n : Nat} {G : Hp → Prop} {Y : Nat → Hp → V → Hp → Prop} (w : Walk J n G Y) {g : TG} {tt : TT} {tk tv : TE} {vs : List Nat} {σ : St} {H1 : Hp} {D : Addr} {Qd : Hp → Prop} (Pv : Nat → Hp → Prop) (h0 : Pv 0 (upd H1 D (.dK []))) (hG : ∀ i H, i ≤ n → Pv i H → G H)
    (hs : ∀ i x H H', i < n → Pv i H → Y i H x H' → g x (wipe σ vs) H' fun σ2 H2 => wipe σ2 vs = wipe σ vs ∧ tt σ2 H2 fun b H3 =>
      if b = true then tk σ2 H3 fun y H4 => tv σ2 H4 fun z H5 => ∃ kvs k, y = kV k ∧ H5 D = some (.dK kvs) ∧ kvs.length < sizeLine ∧ Pv (i + 1) (upd H5 D (.dK (putK kvs k z))) else Pv (i + 1) H3) (hd : ∀ H, Pv n H → Qd H) :
    ∃ W : Nat → Nat → Hp → Prop, (∃ m, W 0 m (upd H1 D (.dK []))) ∧ ∀ i m H, W i m H →
      (J.stop i H ∧ Qd H) ∨ (J.go i H ∧ ∃ Nx : Hp → Prop, (∀ H', Nx H' → ∃ m', m' < m ∧ W (i + 1) m' H') ∧ ∀ x H', J.yld i H x H' → g x (wipe σ vs) H' fun σ2 H2 => wipe σ2 vs = wipe σ vs ∧ tt σ2 H2 fun b H3 =>
        if b = true then tk σ2 H3 fun y H4 => tv σ2 H4 fun z H5 => ∃ kvs k, y = kV k ∧ H5 D = some (.dK kvs) ∧ kvs.length < sizeLine ∧ Nx (upd H5 D (.dK (putK kvs k z))) else Nx H3) := by
  refine ⟨fun i m H => m = n - i ∧ i ≤ n ∧ Pv i H, ⟨n, by simp, Nat.zero_le _, h0⟩, ?_⟩
  rintro i m H ⟨rfl, hi, p⟩
  have q := hG i H hi p
  by_cases hlt : i < n
  · exact .inr ⟨w.goes i H hlt q, Pv (i + 1), fun H' p' => ⟨n - (i + 1), by omega, rfl, hlt, p'⟩, fun x H' y => hs i x H H' hlt p (w.yields i H x H' hlt q y)⟩
  · have e : i = n := by omega
    subst e
    exact .inl ⟨w.stops H q, hd H p⟩
end L2.LawH
set_option Elab.async false
set_option linter.all false
set_option maxRecDepth 100000
set_option maxHeartbeats 4000000
/-! The map of both; the map with some keys alone. -/
namespace L2.LawH
open PySem PySem.Spec PyProof.Rows L2.TxtDict
abbrev sJoin : Stmt := top 2
abbrev sOnly : Stmt := top 4
def spJoin : Sp := fun vs H Q _ => ∃ (a b : Addr) (m1 m2 : Prs2), vs = [.ref a, .ref b] ∧ MapAt H a m1 ∧ m1.length ≤ 20 ∧ MapAt H b m2 ∧ m2.length ≤ 20 ∧
  ∀ (H' : Hp) (d : Addr), Same H H' → H d = none → MapAt H' d (canon (bothP m1 m2)) → Q (.ref d) H'
theorem same_upds {H : Hp} {p : Addr} (n : H p = none) {H1 : Hp} (s : Same H H1) (x : HO) : Same H (upd H1 p x) := fun b o h => by
  rw [upd_ne (ne_of_none h n)]
  exact s b o h
theorem kd_app (m m' : Prs2) : kd (m ++ m') = kd m ++ kd m' := List.map_append
/-- the next entry of an ascending map put behind those before it -/
theorem put_next {m : Prs2} (nd : (m.map Prod.fst).Nodup) {i : Nat} {q : Str × Str} (h : m[i]? = some q) : putK (kd (m.take i)) (Sum.inr q.1 : Key) (V.str q.2) = kd (m.take (i + 1)) := by
  have tk : m.take (i + 1) = m.take i ++ [q] := by
    rw [List.take_succ, h]
    rfl
  rw [kd_put, put_new, tk]
  refine look_none.mpr fun hm => ?_
  have nd2 : ((m.take (i + 1)).map Prod.fst).Nodup := (List.take_sublist (i + 1) m).map _ |>.nodup nd
  rw [tk, List.map_append, List.nodup_append] at nd2
  exact nd2.2.2 _ hm _ (by simp) rfl
section
variable {P : Program} {w : World} {K : PySem.W.Frag} {mg : Str → Option Value} {base : Heap}
abbrev nJo : List Str := ["one", "other", "both", "name"]
theorem scJo : FnScope nJo ["one", "other"] (defScope sJoin) := ⟨rfl, rfl, rfl, by decide +kernel, rfl, by decide +kernel, by decide +kernel⟩
theorem ok_join {f : Addr} {fd : FuncData} (F : Fun K "joined" "joined" sJoin f fd) (ms : mg "sorted" = none) : FnOk P w K mg base CX0 1 f fd ["one", "other"] spJoin := by
  refine F.ok scJo (fun vs H Q E h => ?_) (fun cdv A outer s H vs Q E hr h => ?_)
  · obtain ⟨a, b, m1, m2, rfl, _⟩ := h
    rfl
  · obtain ⟨a, b, m1, m2, rfl, ha, l1, hb, l2, k⟩ := h
    have hu := hu_of hr
    refine ⟨_, pss_cons (ps_set (i := 2) scJo.nd rfl (Or.inr rfl) (pe_star2 (pv 0) (pv 1))) (pss_one (ps_ret (pe_dc (own := [("name", 3)]) (g := gName 3) (tt := tYes) rfl scJo.nd
        (pi_list (pe_callB (call_sortedD rfl) (by rfl) ms (by decide +kernel) (pa_cons (pv 2) pa_nil)))
        (blkOk_by (own := [("name", 3)]) (N := nJo) (sc := defScope sJoin) (by decide +kernel)) (fun _ _ _ _ _ => pg_name (i := 3) scJo.nd rfl (Or.inl rfl)) (fun _ _ _ _ _ => pts_nil)
        (fun _ _ _ _ _ => pv 3) (fun _ _ _ _ _ => pe_dget hu (pv 2) (pv 3) (fun _ _ => rfl))))), ?_⟩
    intro p np
    have na : a ≠ p := ne_of_none ha np
    have nb : b ≠ p := ne_of_none hb np
    refine ⟨_, rfl, upd_same, a, kd m1, rfl, na, .inl (by rw [upd_ne na]; exact ha), by rw [kd_len]; omega, _, rfl, upd_same, b, kd m2, rfl, nb, .inl (by rw [upd_ne nb, upd_ne nb]; exact hb), by rw [kd_len]; omega, ?_⟩
    have e : mergeK (mergeK [] (kd m1)) (kd m2) = kd (bothP m1 m2) := by
      rw [show ([] : List (Key × V)) = kd [] from rfl, kd_mer, kd_mer]
      rfl
    rw [e]
    have nd := both_nd m1 m2
    have len := both_len m1 m2
    generalize hm : bothP m1 m2 = mb at nd len k ⊢
    have s1 : Same H (upd (upd (upd H p (.dK [])) p (.dK (mergeK [] (kd m1)))) p (.dK (kd mb))) := same_upds np (same_upds np (same_upds np (fun _ _ h => h) _) _) _
    have p1 : (upd (upd (upd H p (.dK [])) p (.dK (mergeK [] (kd m1)))) p (.dK (kd mb))) p = some (.dK (kd mb)) := upd_same
    generalize upd (upd (upd H p (.dK [])) p (.dK (mergeK [] (kd m1)))) p (.dK (kd mb)) = H1 at s1 p1 ⊢
    refine ⟨_, rfl, p, kd mb, mb.map Prod.fst, rfl, .inl p1, ?_, by rw [List.length_map]; omega, fun ys l pm as nl => ?_⟩
    · unfold kd
      rw [List.map_map, List.map_map]
      rfl
    · have ek := keys_canon pm as
      subst ek
      have cl := canon_len mb
      have cn := canon_nd nd
      have lk := fun z => look_canon nd z
      generalize hc : canon mb = c at cl cn lk k ⊢
      have np2 : p ≠ l := fun q => by
        rw [q, nl] at p1
        cases p1
      refine ⟨l, rfl, ⟨_, SqL.of upd_same⟩, fun D nD => ?_⟩
      have lD : l ≠ D := fun q => by
        rw [← q, upd_same] at nD
        cases nD
      have nD0 : H1 D = none := by
        rw [upd_ne (Ne.symm lD)] at nD
        exact nD
      refine dc_it walk_list (fun i H5 => H5 D = some (.dK (kd (c.take i))) ∧ Same H1 H5 ∧ H5 l = some (.lst ((c.map Prod.fst).map V.str))) ⟨upd_same, fun b o h => ?_, ?_⟩ (fun i H5 hi q => SqL.of q.2.2) (fun i x H5 H6 hi q y => ?_) (fun H5 q => ?_)
      · rw [upd_ne (ne_of_none h nD0), upd_ne (ne_of_none h nl)]
        exact h
      · rw [upd_ne lD]
        exact upd_same
      · obtain ⟨rfl, hx⟩ := y
        obtain ⟨q1, q2, q3⟩ := q
        rw [List.getElem?_map, List.getElem?_map] at hx
        obtain ⟨u, hu2, rfl⟩ := Option.map_eq_some_iff.mp hx
        obtain ⟨e, he, rfl⟩ := Option.map_eq_some_iff.mp hu2
        have lke : look mb e.1 = some e.2 := by rw [← lk, look_of cn (List.mem_of_getElem? he)]
        refine ⟨rfl, ?_⟩
        dsimp only [tYes]
        rw [if_pos rfl]
        refine ⟨_, rfl, _, rfl, _, rfl, p, .str e.2, rfl, .inl ⟨kd mb, Sum.inr e.1, .inl (q2 _ _ p1), rfl, by rw [val_kd, lke]; rfl⟩, kd (c.take i), Sum.inr e.1, rfl, q1, ?_, ?_, ?_, ?_⟩
        · rw [kd_len, List.length_take, sizeLine_eq]
          omega
        · rw [upd_same, put_next cn he]
        · intro b o h
          rw [upd_ne (ne_of_none h nD0)]
          exact q2 b o h
        · rw [upd_ne lD]
          exact q3
      · obtain ⟨q1, q2, q3⟩ := q
        rw [List.length_map, List.length_map, List.take_length] at q1
        refine k H5 D (fun b o h => q2 _ _ (s1 _ _ h)) ?_ q1
        cases h : H D with
        | none => rfl
        | some o => rw [s1 _ _ h] at nD0; cases nD0
end
end L2.LawH
set_option Elab.async false
set_option linter.all false
set_option maxRecDepth 100000
set_option maxHeartbeats 4000000
/-! The map with some keys alone. -/
namespace L2.LawH
open PySem PySem.Spec PyProof.Rows L2.TxtDict
def spOnly : Sp := fun vs H Q _ => ∃ (a q : Addr) (m : Prs2) (zs : List Str), vs = [.ref a, .ref q] ∧ MapAt H a m ∧ (m.map Prod.fst).Nodup ∧ m.length ≤ 20 ∧ H q = some (.lst (zs.map V.str)) ∧
  ∀ (H' : Hp) (d : Addr), Same H H' → H d = none → MapAt H' d ((canon m).filter fun p => decide (p.1 ∈ zs)) → Q (.ref d) H'
theorem op_inK {X : Cx} {K : PySem.W.Frag} (e : X.K = K) : OpR X (compareOp .In) (rIn K false) := by
  subst e
  exact op_in_seq
theorem put_fresh {c : Prs2} (nd : (c.map Prod.fst).Nodup) (f : Str × Str → Bool) {i : Nat} {q : Str × Str} (h : c[i]? = some q) (hf : f q = true) : putK (kd ((c.take i).filter f)) (Sum.inr q.1 : Key) (V.str q.2) = kd ((c.take (i + 1)).filter f) := by
  have tk : c.take (i + 1) = c.take i ++ [q] := by
    rw [List.take_succ, h]
    rfl
  rw [kd_put, put_new, tk, List.filter_append]
  · simp [hf]
  · refine look_none.mpr fun hm => ?_
    have nd2 : ((c.take (i + 1)).map Prod.fst).Nodup := (List.take_sublist (i + 1) c).map _ |>.nodup nd
    rw [tk, List.map_append, List.nodup_append] at nd2
    obtain ⟨p, hp, e⟩ := List.mem_map.mp hm
    exact nd2.2.2 _ (List.mem_map.mpr ⟨p, (List.mem_filter.mp hp).1, e⟩) _ (by simp) rfl
section
variable {P : Program} {w : World} {K : PySem.W.Frag} {mg : Str → Option Value} {base : Heap}
abbrev nOn : List Str := ["known", "variables", "name"]
theorem scOn : FnScope nOn ["known", "variables"] (defScope sOnly) := ⟨rfl, rfl, rfl, by decide +kernel, rfl, by decide +kernel, by decide +kernel⟩
theorem ok_only {f : Addr} {fd : FuncData} (F : Fun K "only_keys" "only_keys" sOnly f fd) (ms : mg "sorted" = none) : FnOk P w K mg base CX0 1 f fd ["known", "variables"] spOnly := by
  refine F.ok scOn (fun vs H Q E h => ?_) (fun cdv A outer s H vs Q E hr h => ?_)
  · obtain ⟨a, q, m, zs, rfl, _⟩ := h
    rfl
  · obtain ⟨a, b, m, zs, rfl, ha, nd, few, hb, k⟩ := h
    have hu := hu_of hr
    refine ⟨_, pss_one (ps_ret (pe_dc (own := [("name", 2)]) (g := gName 2) (tt := tTest (tOp (rIn K false) (tVar 2) (tVar 1))) rfl scOn.nd
        (pi_list (pe_callB (call_sortedD rfl) (by rfl) ms (by decide +kernel) (pa_cons (pv 0) pa_nil)))
        (blkOk_by (own := [("name", 2)]) (N := nOn) (sc := defScope sOnly) (by decide +kernel)) (fun _ _ _ _ _ => pg_name (i := 2) scOn.nd rfl (Or.inl rfl)) (fun _ _ _ _ _ => pts_one (pt_cmpR (op_inK rfl) (pv 2) (pv 1) (by rfl)))
        (fun _ _ _ _ _ => pv 2) (fun _ _ _ _ _ => pe_dget hu (pv 0) (pv 2) (fun _ _ => rfl)))), ?_⟩
    refine ⟨_, rfl, a, kd m, m.map Prod.fst, rfl, .inl ha, ?_, by rw [List.length_map]; omega, fun ys l pm as nl => ?_⟩
    · unfold kd
      rw [List.map_map, List.map_map]
      rfl
    · have ek := keys_canon pm as
      subst ek
      have cl := canon_len m
      have cn := canon_nd nd
      have lk := fun z => look_canon nd z
      generalize hc : canon m = c at cl cn lk k ⊢
      have na : a ≠ l := ne_of_none ha nl
      refine ⟨l, rfl, ⟨_, SqL.of upd_same⟩, fun D nD => ?_⟩
      have lD : l ≠ D := fun q => by
        rw [← q, upd_same] at nD
        cases nD
      have nD0 : H D = none := by
        rw [upd_ne (Ne.symm lD)] at nD
        exact nD
      refine dc_it walk_list (fun i H5 => H5 D = some (.dK (kd ((c.take i).filter fun p => decide (p.1 ∈ zs)))) ∧ Same H H5 ∧ H5 l = some (.lst ((c.map Prod.fst).map V.str))) ⟨upd_same, fun b o h => ?_, ?_⟩ (fun i H5 hi q => SqL.of q.2.2) (fun i x H5 H6 hi q y => ?_) (fun H5 q => ?_)
      · rw [upd_ne (ne_of_none h nD0), upd_ne (ne_of_none h nl)]
        exact h
      · rw [upd_ne lD]
        exact upd_same
      · obtain ⟨rfl, hx⟩ := y
        obtain ⟨q1, q2, q3⟩ := q
        rw [List.getElem?_map, List.getElem?_map] at hx
        obtain ⟨u, hu2, rfl⟩ := Option.map_eq_some_iff.mp hx
        obtain ⟨e, he, rfl⟩ := Option.map_eq_some_iff.mp hu2
        have lke : look m e.1 = some e.2 := by rw [← lk, look_of cn (List.mem_of_getElem? he)]
        have tk : c.take (i + 1) = c.take i ++ [e] := by
          rw [List.take_succ, he]
          rfl
        refine ⟨rfl, ?_⟩
        refine ⟨_, rfl, _, rfl, b, _, rfl, .inl (SqL.of (q2 _ _ hb)), rfl, flat_strs zs, ?_⟩
        rw [if_neg Bool.false_ne_true, inV_strs]
        refine ⟨_, rfl, ?_⟩
        dsimp only
        by_cases hz : e.1 ∈ zs
        · rw [if_pos (decide_eq_true hz)]
          refine ⟨_, rfl, _, rfl, _, rfl, a, .str e.2, rfl, .inl ⟨kd m, Sum.inr e.1, .inl (q2 _ _ ha), rfl, by rw [val_kd, lke]; rfl⟩, _, Sum.inr e.1, rfl, q1, ?_, ?_, ?_, ?_⟩
          · have := List.length_filter_le (fun p : Str × Str => decide (p.1 ∈ zs)) (c.take i)
            rw [List.length_take] at this
            rw [kd_len, sizeLine_eq]
            omega
          · rw [upd_same, put_fresh cn (fun p => decide (p.1 ∈ zs)) he (decide_eq_true hz)]
          · intro b o h
            rw [upd_ne (ne_of_none h nD0)]
            exact q2 b o h
          · rw [upd_ne lD]
            exact q3
        · rw [if_neg (by rw [decide_eq_false hz]; exact Bool.false_ne_true)]
          refine ⟨?_, q2, q3⟩
          rw [q1, tk, List.filter_append]
          simp [hz]
      · obtain ⟨q1, q2, q3⟩ := q
        rw [List.length_map, List.length_map, List.take_length] at q1
        refine k H5 D q2 ?_ q1
        cases h : H D with
        | none => rfl
        | some o => rw [h] at nD0; cases nD0
end
end L2.LawH
set_option Elab.async false
set_option linter.all false
set_option maxRecDepth 100000
set_option maxHeartbeats 4000000
/-! The order of maps. -/
namespace L2.LawH
open PySem PySem.Spec PyProof.Rows L2.TxtDict L2.NSet PySem.W
/-- a pair as data, and as a key -/
def prD (q : Str × Str) : PyData := .tuple [.str q.1, .str q.2]
def prK (q : Str × Str) : NestedKey := .tup [.text q.1, .text q.2]
def tk (m : Prs2) : List (Int ⊕ List Nat) := keyToksAll (m.map prD)
theorem tk_nil : tk [] = [.inl 0] := by simp [tk, keyToksAll]
theorem tk_cons (p : Str × Str) (m : Prs2) : tk (p :: m) = .inl 1 :: .inl 1 :: .inr p.1.cps.toList :: .inl 1 :: .inr p.2.cps.toList :: .inl 0 :: tk m := by simp [tk, prD, keyToksAll, keyToks]
theorem tk_inj : ∀ {m m' : Prs2}, tk m = tk m' → m = m'
  | [], [], _ => rfl
  | [], p :: m', h => by
    rw [tk_nil, tk_cons] at h
    injection h with h1 h2
    exact absurd h1 (by decide)
  | p :: m, [], h => by
    rw [tk_nil, tk_cons] at h
    injection h with h1 h2
    exact absurd h1 (by decide)
  | p :: m, q :: m', h => by
    rw [tk_cons, tk_cons] at h
    injection h with _ h
    injection h with _ h
    injection h with h1 h
    injection h with _ h
    injection h with h2 h
    injection h with _ h
    rw [tk_inj h]
    have e1 : p.1 = q.1 := str_of_cps (Sum.inr.inj h1)
    have e2 : p.2 = q.2 := str_of_cps (Sum.inr.inj h2)
    rw [Prod.ext e1 e2]
def leM (a b : Prs2) : Bool := !PyProof.Rows.lexLt itemOrd (tk b) (tk a)
theorem leM_anti {a b : Prs2} (x : leM a b = true) (y : leM b a = true) : a = b := by
  unfold leM at x y
  rw [Bool.not_eq_true'] at x y
  exact tk_inj (lex_total (O := itemOrd) _ _ y x)
theorem toks_tuple (m : Prs2) : keyToks (.tuple (m.map prD)) = tk m := by simp [tk, keyToks]
theorem toks_list (m : Prs2) : keyToks (.list (m.map prD)) = tk m := by simp [tk, keyToks]
theorem le_of {β : Type} {enc : β → PyData} {a b : β} {m m' : Prs2} (ea : keyToks (enc a) = tk m) (eb : keyToks (enc b) = tk m') (h : dataLe false enc a b = true) : leM m m' = true := by
  have h' : (!PyProof.Rows.lexLt itemOrd (keyToks (enc b)) (keyToks (enc a))) = true := h
  rw [ea, eb] at h'
  exact h'
/-- the maps ms in order, each once -/
structure Ordd (ms cs : List Prs2) : Prop where
  up : cs.Pairwise fun a b => leM a b = true
  once : cs.Nodup
  mem : ∀ c, c ∈ cs ↔ c ∈ ms.map canon
theorem Ordd.one {ms ms' cs cs' : List Prs2} (h : Ordd ms cs) (h' : Ordd ms' cs') (e : ∀ c, c ∈ ms.map canon ↔ c ∈ ms'.map canon) : cs = cs' := by
  refine List.Perm.eq_of_pairwise (fun a b _ _ x y => leM_anti x y) h.up h'.up ((List.perm_ext_iff_of_nodup h.once h'.once).mpr fun c => ?_)
  rw [h.mem, h'.mem, e]
theorem pairs_up {ps : List (Addr × Str × Str)} (r : Rise TxtDict.pairD ps) : (ps.map (·.2)).Pairwise fun p q => p.1.cps.toList ≤ q.1.cps.toList := by
  rw [List.pairwise_map]
  refine List.Pairwise.imp (fun {a b} h => ?_) r
  have h' : (!PyProof.Rows.lexLt itemOrd (keyToks (TxtDict.pairD b)) (keyToks (TxtDict.pairD a))) = true := h
  rw [Bool.not_eq_true'] at h'
  refine Classical.byContradiction fun c => ?_
  have lt : b.2.1.cps.toList < a.2.1.cps.toList := List.not_le.mp c
  have ea : keyToks (TxtDict.pairD a) = [.inl 1, .inr a.2.1.cps.toList, .inl 1, .inr a.2.2.cps.toList, .inl 0] := by simp [TxtDict.pairD, keyToks, keyToksAll]
  have eb : keyToks (TxtDict.pairD b) = [.inl 1, .inr b.2.1.cps.toList, .inl 1, .inr b.2.2.cps.toList, .inl 0] := by simp [TxtDict.pairD, keyToks, keyToksAll]
  rw [ea, eb] at h'
  have t : PyProof.Rows.lexLt itemOrd [.inl 1, .inr b.2.1.cps.toList, .inl 1, .inr b.2.2.cps.toList, .inl 0] [.inl 1, .inr a.2.1.cps.toList, .inl 1, .inr a.2.2.cps.toList, .inl 0] = true := by
    refine lex_true.mpr (.inr ⟨by decide, lex_true.mpr (.inl ?_)⟩)
    exact decide_eq_true lt
  rw [t] at h'
  cases h'
theorem pairs_canon {ps : List (Addr × Str × Str)} {m : Prs2} (nd : (m.map Prod.fst).Nodup) (pm : (ps.map (·.2)).Perm m) (r : Rise TxtDict.pairD ps) : ps.map (·.2) = canon m := by
  have nd2 : ((ps.map (·.2)).map Prod.fst).Nodup := (pm.map Prod.fst).nodup_iff.mpr nd
  rw [← canon_id (pairs_up r) nd2]
  exact canon_eq nd2 pm
/-- a map as a key -/
def kM (m : Prs2) : NestedKey := .tup (m.map prK)
def unK : NestedKey → Prs2
  | .tup l => l.filterMap fun k => match k with
    | .tup [.text a, .text b] => some (a, b)
    | _ => none
  | _ => []
theorem un_kM (m : Prs2) : unK (kM m) = m := by
  unfold unK kM
  induction m with
  | nil => rfl
  | cons p m ih =>
    dsimp only at ih ⊢
    rw [List.map_cons, List.filterMap_cons, ih]
    rfl
theorem kM_inj {m m' : Prs2} (h : kM m = kM m') : m = m' := by rw [← un_kM m, h, un_kM]
theorem datas_prK : ∀ m : Prs2, NestedKey.datas (m.map prK) = m.map prD
  | [] => by simp [NestedKey.datas]
  | p :: m => by
    rw [List.map_cons, List.map_cons, NestedKey.datas, datas_prK m]
    simp [prK, prD, NestedKey.data, NestedKey.datas]
theorem data_kM (m : Prs2) : (kM m).data = .tuple (m.map prD) := by
  unfold kM
  rw [NestedKey.data, datas_prK]
theorem toks_kM (m : Prs2) : keyToks (kM m).data = tk m := by rw [data_kM, toks_tuple]
theorem alike_prs : ∀ m m' : Prs2, alikeAll (m.map prD) (m'.map prD) = true
  | [], _ => by simp [alikeAll]
  | p :: m, [] => by simp [alikeAll]
  | p :: m, q :: m' => by
    rw [List.map_cons, List.map_cons, alikeAll, alike_prs m m']
    simp [prD, alike, alikeAll]
theorem alike_kM (m m' : Prs2) : alike (kM m).data (kM m').data = true := by
  rw [data_kM, data_kM, alike]
  exact alike_prs m m'
theorem depth_prs : ∀ m : Prs2, NestedKey.depthAll (m.map prK) ≤ 1
  | [] => by simp [NestedKey.depthAll]
  | p :: m => by
    have := depth_prs m
    rw [List.map_cons, NestedKey.depthAll]
    have e : (prK p).depth = 1 := by simp [prK, NestedKey.depth, NestedKey.depthAll]
    omega
theorem depth_kM (m : Prs2) : (kM m).depth ≤ 2 := by
  have := depth_prs m
  unfold kM
  rw [NestedKey.depth]
  omega
theorem ddepth_prs : ∀ m : Prs2, PyData.depthAll (m.map prD) ≤ 1
  | [] => by simp [PyData.depthAll]
  | p :: m => by
    have := ddepth_prs m
    rw [List.map_cons, PyData.depthAll]
    have e : (prD p).depth = 1 := by simp [prD, PyData.depth, PyData.depthAll]
    omega
theorem ddepth_kM (m : Prs2) : (kM m).data.depth ≤ 2 := by
  have := ddepth_prs m
  rw [data_kM, PyData.depth]
  omega
end L2.LawH
set_option Elab.async false
set_option linter.all false
set_option maxRecDepth 100000
set_option maxHeartbeats 4000000
/-! Maps in their order. -/
namespace L2.LawH
open PySem PySem.Spec PyProof.Rows L2.TxtDict L2.NSet PySem.W
abbrev sOrder : Stmt := top 5
/-! ### walks of a list or a tuple -/
def iSeq (K : PySem.W.Frag) (tl : TE) : TI := fun σ H R => tl σ H fun x H1 => ∃ a, x = .ref a ∧ (((∃ xs, SqL K H1 a xs) ∧ R (Itl K a) H1) ∨ ((∃ xs, SqT K H1 a xs) ∧ R (Itt K a) H1))
theorem pi_seq {X : Cx} {tg l : Expr} {tl : TE} (hl : PE X l tl) : PI X tg l (iSeq X.K tl) := by
  refine ⟨fun pins s σ H R I h => thn (hl.run pins s σ H _ I h) fun v s1 ⟨x, H1, I1, r1, q1⟩ => ?_⟩
  obtain ⟨a, rfl, q⟩ := q1
  cases r1
  have frs : ∀ b ∈ [s1.heap.objs.size], FpOk X pins H1 b := fun b hb => by
    obtain rfl : b = s1.heap.objs.size := by simpa using hb
    exact I1.fpOk (Nat.le_refl _) (I1.hok.fresh (Nat.le_refl _))
  rcases q with ⟨⟨xs, hq⟩, q⟩ | ⟨⟨xs, hq⟩, q⟩
  · obtain ⟨its, _, p, _⟩ := I1.list hq
    exact wpAny_pyIter_list p.isList ⟨_, _, _, _, H1, rfl, I1.kept (t' := s1.toks) fun b o e => Heap.get?_push_of_some _ e, turn_list a _, ⟨_, Heap.get?_push_size _ rfl, rfl, rfl⟩, frs, q⟩
  · obtain ⟨its, _, p, _⟩ := I1.tuple hq
    exact wpAny_pyIter_tuple (show s1.heap.IsTuple a its.toArray from p) ⟨_, _, _, _, H1, rfl, I1.kept (t' := s1.toks) fun b o e => Heap.get?_push_of_some _ e, turn_tuple a _, ⟨_, Heap.get?_push_size _ rfl, rfl, rfl⟩, frs, q⟩
/-- how a clause over xs is walked, where Sq says that they stand there -/
def WalkR (J : It) (Sq : Hp → Prop) (xs : List V) : Prop := ∀ (g : TG) (tt : TT) (ta : Cmp.TAc) (vs : List Nat) (σ : List (Option V)) (H0 : Hp) (Done : Hp → Prop) (Pv : Nat → Hp → Prop), Pv 0 H0 → (∀ i H, i ≤ xs.length → Pv i H → Sq H) →
  (∀ i x H, xs[i]? = some x → Pv i H → g x (wipe σ vs) H fun σ2 H2 => wipe σ2 vs = wipe σ vs ∧ tt σ2 H2 fun b H3 => if b = true then ta σ2 H3 (Pv (i + 1)) else Pv (i + 1) H3) → (∀ H, Pv xs.length H → Done H) → Cmp.Walk J g tt ta vs σ Done H0
theorem walkR_list {K : PySem.W.Frag} {a : Addr} {xs : List V} : WalkR (Itl K a) (fun H => SqL K H a xs) xs := by
  intro g tt ta vs σ H0 Done Pv h0 hl hs hd
  refine ⟨fun i m H => m = xs.length - i ∧ i ≤ xs.length ∧ Pv i H, ⟨xs.length, rfl, Nat.zero_le _, h0⟩, ?_⟩
  rintro i m H ⟨rfl, hi, p⟩
  rcases Nat.lt_or_eq_of_le hi with lt | rfl
  · refine .inr ⟨⟨xs, xs[i], hl i H hi p, by simp [lt]⟩, Pv (i + 1), fun H' p' => ⟨xs.length - (i + 1), by omega, rfl, lt, p'⟩, ?_⟩
    rintro x _ ⟨rfl, y⟩
    exact hs i x _ (y xs (hl i _ hi p)) p
  · exact .inl ⟨⟨xs, hl _ H hi p, Nat.le_refl _⟩, hd H p⟩
theorem walkR_tup {K : PySem.W.Frag} {a : Addr} {xs : List V} : WalkR (Itt K a) (fun H => SqT K H a xs) xs := by
  intro g tt ta vs σ H0 Done Pv h0 hl hs hd
  refine ⟨fun i m H => m = xs.length - i ∧ i ≤ xs.length ∧ Pv i H, ⟨xs.length, rfl, Nat.zero_le _, h0⟩, ?_⟩
  rintro i m H ⟨rfl, hi, p⟩
  rcases Nat.lt_or_eq_of_le hi with lt | rfl
  · refine .inr ⟨⟨xs, xs[i], hl i H hi p, by simp [lt]⟩, Pv (i + 1), fun H' p' => ⟨xs.length - (i + 1), by omega, rfl, lt, p'⟩, ?_⟩
    rintro x _ ⟨rfl, y⟩
    exact hs i x _ (y xs (hl i _ hi p)) p
  · exact .inl ⟨⟨xs, hl _ H hi p, Nat.le_refl _⟩, hd H p⟩
theorem Paired.at_ {α β : Type} {F : α → β → Prop} : ∀ {l₁ : List α} {l₂ : List β}, Paired F l₁ l₂ → ∀ {i : Nat} {a : α}, l₁[i]? = some a → ∃ b, l₂[i]? = some b ∧ F a b
  | _, _, .nil, i, a, h => by simp at h
  | _, _, .cons r t, 0, a, h => ⟨_, rfl, by rw [← Option.some.inj h]; exact r⟩
  | _, _, .cons r t, i + 1, a, h => Paired.at_ t (i := i) (by simpa using h)
section
variable {X : Cx} {o : Expr} {to : TE} {apos cpos : Pos}
theorem pe_itemsK {K : PySem.W.Frag} (e : X.K = K) (ho : PE X o to) (hbase : attributeBase o "items" X.env (eval o X.env) = eval o X.env := by rfl) (hline : (apos.endLine == cpos.line) = true := by rfl) : PE X (.Call (.Attribute o "items" apos) [] [] cpos) (tBM0 K "dict" rItemsK to) := by
  subst e
  exact pe_bm0 PySem.F.plainAttrs_dict PySem.F.slot_dict_items PySem.F.type_dict_items mt_itemsK ho hbase hline
theorem call_tuplePTK {K : PySem.W.Frag} (e : X.K = K) : CallR X (.type "tuple") (rTupPT K) := by
  subst e
  exact call_tuplePT
end
theorem pt_same {H H' : Hp} {p : Mem} (h : PtOk H p) (s : Same H H') : PtOk H' p :=
  let ⟨ts, ks, h1, h2, h3⟩ := h
  ⟨ts, ks, s _ _ h1, h2, Paired.mapP h3 fun _ _ e => s _ _ e⟩
theorem pt_of {H : Hp} {ps : List (Addr × Str × Str)} (h : ∀ z ∈ ps, H z.1 = some (.tup [.str z.2.1, .str z.2.2])) : Paired (fun t (q : Str × Str) => H t = some (.tup [.str q.1, .str q.2])) (ps.map (·.1)) (ps.map (·.2)) := by
  induction ps with
  | nil => exact .nil
  | cons z ps ih => exact .cons (h z List.mem_cons_self) (ih fun y m => h y (List.mem_cons_of_mem _ m))
theorem map_prK_inj : ∀ {m m' : Prs2}, m.map prK = m'.map prK → m = m'
  | _, _, h => kM_inj (show kM _ = kM _ by unfold kM; rw [h])
theorem seq_go {K : PySem.W.Frag} {R : It → Hp → Prop} {H : Hp} {q : Addr} {xs : List V} (hq : H q = some (.lst xs) ∨ H q = some (.tup xs)) (h : ∀ (J : It) (Sq : Hp → Prop), WalkR J Sq xs → (∀ H', Same H H' → Sq H') → R J H) :
    ((∃ xs, SqL K H q xs) ∧ R (Itl K q) H) ∨ ((∃ xs, SqT K H q xs) ∧ R (Itt K q) H) :=
  hq.elim (fun e => .inl ⟨⟨_, SqL.of e⟩, h _ _ (walkR_list (K := K)) fun _ s => SqL.of (s _ _ e)⟩) fun e => .inr ⟨⟨_, SqT.of e⟩, h _ _ (walkR_tup (K := K)) fun _ s => SqT.of (s _ _ e)⟩
theorem none_of {H H' : Hp} {a : Addr} (s : Same H H') (n : H' a = none) : H a = none := by
  cases h : H a with
  | none => rfl
  | some o => rw [s _ _ h] at n; cases n
theorem un_tup {ks : Prs2} : unK (.tup (ks.map fun q => .tup [.text q.1, .text q.2])) = ks := un_kM ks
def spOrder : Sp := fun vs H Q _ => ∃ (q : Addr) (ts : List Addr) (ms : List Prs2), vs = [.ref q] ∧ (H q = some (.lst (ts.map V.ref)) ∨ H q = some (.tup (ts.map V.ref))) ∧ Paired (MapAt H) ts ms ∧ (∀ m ∈ ms, Good m) ∧ ms.length ≤ 60 ∧
  ∀ (H' : Hp) (l : Addr) (ds : List Addr) (cs : List Prs2), Same H H' → H l = none → H' l = some (.lst (ds.map V.ref)) → Paired (MapAt H') ds cs → (∀ d ∈ ds, H d = none) → Ordd ms cs → Q (.ref l) H'
section
variable {P : Program} {w : World} {K : PySem.W.Frag} {mg : Str → Option Value} {base : Heap}
abbrev nIo : List Str := ["several", "known", "pairs"]
theorem scIo : FnScope nIo ["several"] (defScope sOrder) := ⟨rfl, rfl, rfl, by decide +kernel, rfl, by decide +kernel, by decide +kernel⟩
theorem ok_order {f : Addr} {fd : FuncData} (F : Fun K "in_order" "in_order" sOrder f fd) (ms : mg "sorted" = none) (mt : mg "tuple" = none) (md : mg "dict" = none) : FnOk P w K mg base CX0 1 f fd ["several"] spOrder := by
  refine F.ok scIo (fun vs H Q E h => ?_) (fun cdv A outer s H vs Q E hr h => ?_)
  · obtain ⟨q, ts, m, rfl, _⟩ := h
    rfl
  · obtain ⟨q, ts, maps, rfl, hq, pr, good, few, k⟩ := h
    have hu := hr.units
    refine ⟨_, pss_one (ps_ret (pe_lc (own := [("pairs", 2)]) (g := gName 2) (tt := tYes) rfl scIo.nd
        (pi_list (pe_callB (cr_sortN rfl hu) (by rfl) ms (by decide +kernel) (pa_cons
          (pe_setN (K := K) (P := P) (w := w) (own := [("known", 1)]) (g := gName 1) (tt := tYes) rfl rfl rfl rfl hu scIo.nd (pi_seq (pv 0))
            (blkOk_by (own := [("known", 1)]) (N := nIo) (sc := defScope sOrder) (by decide +kernel)) (fun _ _ _ _ _ => pg_name (i := 1) scIo.nd rfl (Or.inl rfl)) (fun _ _ _ _ _ => pts_nil)
            (fun _ _ _ _ _ => pe_callTy (call_tuplePTK (K := K) rfl) (by rfl) mt (by decide +kernel) (pa_cons (pe_callB (cr_sortedIK rfl hu) (by rfl) ms (by decide +kernel) (pa_cons (pe_itemsK (K := K) rfl (pv 1)) pa_nil)) pa_nil))) pa_nil)))
        (blkOk_by (own := [("pairs", 2)]) (N := nIo) (sc := defScope sOrder) (by decide +kernel)) (fun _ _ _ _ _ => pg_name (i := 2) scIo.nd rfl (Or.inl rfl)) (fun _ _ _ _ _ => pts_nil)
        (fun _ _ _ _ _ => pe_callTy (call_dictPT rfl) (by rfl) md (by decide +kernel) (pa_cons (pv 2) pa_nil)))), ?_⟩
    have main : ∀ (te : TE), (∀ (H5 : Hp) (t : Addr) (m : Prs2) (Q : VK), MapAt H5 t m → Good m → (∀ (l2 : Addr) (H6 : Hp), Same H5 H6 → H5 l2 = none → PtOk H6 (l2, kM (canon m)) → Q (.ref l2) H6) → te [some (.ref q), some (.ref t), none] H5 Q) →
        ∀ (J : It) (Sq : Hp → Prop), WalkR J Sq (ts.map V.ref) → (∀ H', Same H H' → Sq H') → ∀ (Done : Hp → Prop) (D : Addr), H D = none →
        (∀ (H1 : Hp) (L : List Mem), Same H H1 → H1 D = some (SetN P w D L) → (∀ p ∈ L, PtOk H1 p) → (L.map (·.2)).Nodup → (∀ c, c ∈ L.map (·.2) ↔ c ∈ maps.map fun m => kM (canon m)) → L.length ≤ maps.length → Done H1) →
        Cmp.Walk J (gName 1) tYes (tAdN K P w te D) [1] [some (.ref q), none, none] Done (upd H D (SetN P w D [])) := by
      intro te hte J Sq wr st Done D nD hd
      refine wr _ _ _ _ _ _ _ (fun i H5 => ∃ L : List Mem, Same H H5 ∧ H5 D = some (SetN P w D L) ∧ (∀ p ∈ L, PtOk H5 p) ∧ (L.map (·.2)).Nodup ∧ (∀ c, c ∈ L.map (·.2) ↔ c ∈ (maps.take i).map fun m => kM (canon m)) ∧ L.length ≤ i ∧ ∀ p ∈ L, p.1 ≠ D)
        ⟨[], same_new nD, upd_same, fun p m => (nomatch m), List.nodup_nil, fun c => by simp, Nat.zero_le _, fun p m => (nomatch m)⟩ (fun i H5 hi p => let ⟨L, p1, _⟩ := p; st _ p1) (fun i x H5 hx p => ?_) fun H5 p => ?_
      · obtain ⟨L, p1, p2, p3, p4, p5, p6, p7⟩ := p
        rw [List.getElem?_map] at hx
        obtain ⟨t, ht, rfl⟩ := Option.map_eq_some_iff.mp hx
        obtain ⟨m, hm, at1⟩ := Paired.at_ pr ht
        have mm : m ∈ maps := List.mem_of_getElem? hm
        have lt : i < maps.length := (List.getElem?_eq_some_iff.mp hm).1
        refine ⟨rfl, ?_⟩
        dsimp only [tYes]
        rw [if_pos rfl]
        refine hte H5 t m _ (p1 _ _ at1) (good m mm) fun l2 H6 s6 n2 pt => ?_
        have p2' := s6 _ _ p2
        have nl2 : l2 ≠ D := fun e => by
          rw [e, p2] at n2
          cases n2
        have pA : ∀ p ∈ L, PtOk H6 p := fun p hp => pt_same (p3 p hp) s6
        refine ⟨(l2, kM (canon m)), L, rfl, p2', fun p hp => ⟨.inr (pA p hp), ?_⟩, ⟨.inr pt, ?_⟩, by omega, fun L2 c1 c2 => ?_⟩
        · have h1 : p.2 ∈ L.map (·.2) := List.mem_map.mpr ⟨p, hp, rfl⟩
          obtain ⟨m2, _, e⟩ := List.mem_map.mp ((p5 _).mp h1)
          rw [← e]
          exact Nat.le_trans (depth_kM _) (by decide)
        · exact Nat.le_trans (depth_kM _) (by decide)
        · have keep : ∀ b o, b ≠ D → H6 b = some o → (upd H6 D (SetN P w D L2)) b = some o := fun b o hb h => by
            rw [upd_ne hb]
            exact h
          have ptk : ∀ p : Mem, p.1 ≠ D → PtOk H6 p → PtOk (upd H6 D (SetN P w D L2)) p := fun p np hp => by
            obtain ⟨ts2, ks, h1, h2, h3⟩ := hp
            refine ⟨ts2, ks, keep _ _ np h1, h2, Paired.mapP h3 fun a b e => keep _ _ (fun e2 => ?_) e⟩
            rw [e2, p2'] at e
            cases e
          have sm : Same H (upd H6 D (SetN P w D L2)) := fun b o h => keep b o (ne_of_none h nD) (s6 _ _ (p1 _ _ h))
          have tk1 : (maps.take (i + 1)).map (fun m => kM (canon m)) = (maps.take i).map (fun m => kM (canon m)) ++ [kM (canon m)] := by
            rw [List.take_succ, hm]
            simp
          by_cases c : kM (canon m) ∈ L.map (·.2)
          · have e := c1 c
            subst e
            refine ⟨L2, sm, upd_same, fun p hp => ptk p (p7 p hp) (pA p hp), p4, fun z => ?_, by omega, p7⟩
            rw [tk1, List.mem_append, List.mem_singleton, ← p5]
            exact ⟨fun h => .inl h, fun h => h.elim id fun e => by rw [e]; exact c⟩
          · have pm := c2 c
            refine ⟨L2, sm, upd_same, fun p hp => ?_, ?_, fun z => ?_, by rw [pm.length_eq, List.length_cons]; omega, fun p hp => ?_⟩
            · rcases List.mem_cons.mp (pm.mem_iff.mp hp) with rfl | hp
              · exact ptk _ nl2 pt
              · exact ptk p (p7 p hp) (pA p hp)
            · exact ((pm.map (·.2)).nodup_iff).mpr (List.nodup_cons.mpr ⟨c, p4⟩)
            · rw [(pm.map (·.2)).mem_iff, List.map_cons, List.mem_cons, tk1, List.mem_append, List.mem_singleton, ← p5]
              exact ⟨fun h => h.elim .inr .inl, fun h => h.elim .inr .inl⟩
            · rcases List.mem_cons.mp (pm.mem_iff.mp hp) with rfl | hp
              · exact nl2
              · exact p7 p hp
      · obtain ⟨L, p1, p2, p3, p4, p5, p6, p7⟩ := p
        rw [List.length_map, Paired.length pr] at p5 p6
        rw [List.take_length] at p5
        exact hd H5 L p1 p2 p3 p4 p5 p6
    have hte : ∀ (H5 : Hp) (t : Addr) (m : Prs2) (Q : VK), MapAt H5 t m → Good m → (∀ (l2 : Addr) (H6 : Hp), Same H5 H6 → H5 l2 = none → PtOk H6 (l2, kM (canon m)) → Q (.ref l2) H6) →
        (tCB (rTupPT K) (tCons (tCB rSortIK (tCons (tBM0 K "dict" rItemsK (tVar 1)) tNil)) tNil)) [some (.ref q), some (.ref t), none] H5 Q := fun H5 t m Q at1 g kq => by
      refine ⟨_, rfl, .inr (.inr (.inl ⟨rfl, .inl ⟨_, at1⟩⟩)), t, kd m, rfl, rfl, at1, fun p np => ⟨p, t, m, rfl, upd_same, ?_, ?_, fun H' l ps keep nl pm rise hl each => ?_⟩⟩
      · rw [upd_ne (ne_of_none at1 np)]
        exact at1
      · have := g.few
        omega
      · refine ⟨l, ps.map (·.1), rfl, SqL.of (by rw [hl, List.map_map]; rfl), fun l2 n2 => kq l2 _ (fun b o h => ?_) ?_ ?_⟩
        · have h' := keep b o (by rw [upd_ne (ne_of_none h np)]; exact h)
          rw [upd_ne (ne_of_none h' n2)]
          exact h'
        · refine none_of (fun b o h => keep b o ?_) n2
          rw [upd_ne (ne_of_none h np)]
          exact h
        · refine ⟨ps.map (·.1), canon m, upd_same, rfl, ?_⟩
          rw [← pairs_canon g.nd pm rise]
          exact pt_of fun z hz => by
            have h' := (each z hz).2
            rw [upd_ne (ne_of_none h' n2)]
            exact h'
    refine ⟨_, rfl, q, rfl, hq.elim (fun hq => .inl ⟨⟨_, SqL.of hq⟩, fun D nD => main _ hte _ _ (walkR_list (K := K)) (fun H' s => SqL.of (s _ _ hq)) _ D nD ?_⟩) (fun hq => .inr ⟨⟨_, SqT.of hq⟩, fun D nD => main _ hte _ _ (walkR_tup (K := K)) (fun H' s => SqT.of (s _ _ hq)) _ D nD ?_⟩)⟩
    all_goals
      intro H1 L sm hD pts nd mem len
      have key : ∀ p ∈ L, ∃ m ∈ maps, p.2 = kM (canon m) := fun p hp => by
        obtain ⟨m, hm, e⟩ := List.mem_map.mp ((mem _).mp (List.mem_map.mpr ⟨p, hp, rfl⟩))
        exact ⟨m, hm, e.symm⟩
      refine ⟨D, L, rfl, hD, fun p hp => ⟨.inr (pts p hp), ?_⟩, fun d hd d2 hd2 => ?_, fun p hp => ?_, fun p hp => ?_, fun M l pM rM nl => ?_⟩
      · obtain ⟨m, _, e⟩ := key p hp
        rw [e]
        exact Nat.le_trans (depth_kM _) (by decide)
      · obtain ⟨p, hp, rfl⟩ := List.mem_map.mp hd
        obtain ⟨p2, hp2, rfl⟩ := List.mem_map.mp hd2
        obtain ⟨m, _, e⟩ := key p hp
        obtain ⟨m2, _, e2⟩ := key p2 hp2
        rw [e, e2]
        exact alike_kM _ _
      · obtain ⟨m, _, e⟩ := key p hp
        exact ⟨_, e⟩
      · obtain ⟨m, _, e⟩ := key p hp
        rw [e]
        exact Nat.le_trans (ddepth_kM _) (by decide)
      · have keyM : ∀ p ∈ M, ∃ m ∈ maps, p.2 = kM (canon m) := fun p hp => key p (pM.mem_iff.mp hp)
        have nH : H l = none := none_of sm nl
        have sb : Same H1 (upd H1 l (.lst (M.map fun p => V.ref p.1))) := fun b o h => by
          rw [upd_ne (ne_of_none h nl)]
          exact h
        have hl : (upd H1 l (.lst (M.map fun p => V.ref p.1))) l = some (.lst (M.map fun p => V.ref p.1)) := upd_same
        have sH : Same H (upd H1 l (.lst (M.map fun p => V.ref p.1))) := fun b o h => sb _ _ (sm _ _ h)
        generalize upd H1 l (.lst (M.map fun p => V.ref p.1)) = Hb at sb hl sH ⊢
        refine ⟨l, rfl, ⟨_, SqL.of hl⟩, fun D2 nD2 => ?_⟩
        have ordd : Ordd maps (M.map fun p => unK p.2) := by
          refine ⟨?_, ?_, fun c => ?_⟩
          · rw [List.pairwise_map]
            refine List.Pairwise.imp_of_mem (fun {a b} ha hb h => ?_) rM
            obtain ⟨m, _, e⟩ := keyM a ha
            obtain ⟨m2, _, e2⟩ := keyM b hb
            rw [e, e2, un_kM, un_kM]
            exact le_of (enc := fun p : Mem => p.2.data) (a := a) (b := b) (by rw [e]; exact toks_kM _) (by rw [e2]; exact toks_kM _) h
          · rw [List.Nodup, List.pairwise_map]
            have ndM : (M.map (·.2)).Nodup := ((pM.map (·.2)).nodup_iff).mpr nd
            rw [List.Nodup, List.pairwise_map] at ndM
            refine List.Pairwise.imp_of_mem (fun {a b} ha hb h e3 => h ?_) ndM
            obtain ⟨m, _, e⟩ := keyM a ha
            obtain ⟨m2, _, e2⟩ := keyM b hb
            rw [e, e2, un_kM, un_kM] at e3
            rw [e, e2, e3]
          · constructor
            · intro h
              obtain ⟨p, hp, rfl⟩ := List.mem_map.mp h
              obtain ⟨m, hm, e⟩ := keyM p hp
              rw [e, un_kM]
              exact List.mem_map.mpr ⟨m, hm, rfl⟩
            · intro h
              obtain ⟨m, hm, rfl⟩ := List.mem_map.mp h
              obtain ⟨p, hp, e⟩ := List.mem_map.mp ((mem _).mpr (List.mem_map.mpr ⟨m, hm, rfl⟩))
              exact List.mem_map.mpr ⟨p, pM.mem_iff.mpr hp, by rw [e, un_kM]⟩
        have lM : M.length ≤ 60 := by rw [pM.length_eq]; omega
        refine lc_it walk_list (fun i H6 => ∃ ds : List Addr, H6 D2 = some (.lst (ds.map V.ref)) ∧ Paired (MapAt H6) ds ((M.map fun p => unK p.2).take i) ∧ (∀ d ∈ ds, H d = none) ∧ Same Hb H6)
          ⟨[], upd_same, .nil, fun d m => (nomatch m), same_new nD2⟩ (fun i H6 hi p => let ⟨ds, _, _, _, p4⟩ := p; SqL.of (p4 _ _ hl)) (fun i x H6 H7 hi p y => ?_) (fun H6 p => ?_)
        · obtain ⟨rfl, hx⟩ := y
          obtain ⟨ds, p1, p2, p3, p4⟩ := p
          rw [List.getElem?_map] at hx
          obtain ⟨u, hM, rfl⟩ := Option.map_eq_some_iff.mp hx
          have mu : u ∈ M := List.mem_of_getElem? hM
          obtain ⟨m, hm, e⟩ := keyM u mu
          obtain ⟨ts2, ks, h1, h2, h3⟩ := pts u (pM.mem_iff.mp mu)
          have ek : ks = canon m := by
            have e4 := un_tup (ks := ks)
            rw [← h2, e, un_kM] at e4
            exact e4.symm
          have eu : unK u.2 = ks := by rw [e, un_kM, ek]
          have gm := good m hm
          have lk : ks.length ≤ 20 := by rw [ek, canon_len]; exact gm.few
          have nk : (ks.map Prod.fst).Nodup := by rw [ek]; exact canon_nd gm.nd
          have s7 : Same H1 H7 := fun b o h => p4 _ _ (sb _ _ h)
          refine ⟨rfl, ?_⟩
          dsimp only [tYes]
          rw [if_pos rfl]
          refine ⟨_, rfl, u.1, ts2, ks, rfl, s7 _ _ h1, Paired.mapP h3 fun _ _ e => s7 _ _ e, by omega, fun d nd7 => ?_⟩
          have em : mergeK [] (kd ks) = kd ks := by
            rw [show ([] : List (Key × V)) = kd [] from rfl, kd_mer, mer_nil (by simpa using nk)]
            rfl
          have dD : d ≠ D2 := fun e => by
            rw [e, p1] at nd7
            cases nd7
          have ldv : ds.length = min i M.length := by
            have := Paired.length p2
            rwa [List.length_take, List.length_map] at this
          refine ⟨ds.map V.ref, by rw [upd_ne (Ne.symm dD)]; exact p1, by rw [List.length_map, sizeLine_eq]; omega, ds ++ [d], by rw [upd_same, List.map_append]; rfl, ?_, fun b hb => ?_, fun b o h => ?_⟩
          · have tk1 : (M.map fun p => unK p.2).take (i + 1) = (M.map fun p => unK p.2).take i ++ [ks] := by
              rw [List.take_succ, List.getElem?_map, hM, ← eu]
              rfl
            rw [tk1]
            refine Paired.snoc (Paired.mapP p2 fun b c h => ?_) ?_
            · have hb : H7 b = some (.dK (kd c)) := h
              have nb : b ≠ D2 := fun e => by
                rw [e, p1] at hb
                cases hb
              show (upd (upd H7 d _) D2 _) b = _
              rw [upd_ne nb, upd_ne (ne_of_none hb nd7)]
              exact hb
            · show (upd (upd H7 d _) D2 _) d = _
              rw [upd_ne dD, upd_same, em]
          · rcases List.mem_append.mp hb with hb | hb
            · exact p3 b hb
            · rw [List.mem_singleton.mp hb]
              exact none_of (fun b o h => p4 _ _ (sH _ _ h)) nd7
          · have h6 := p4 _ _ h
            rw [upd_ne (ne_of_none h nD2), upd_ne (ne_of_none h6 nd7)]
            exact h6
        · obtain ⟨ds, p1, p2, p3, p4⟩ := p
          rw [List.length_map] at p2
          rw [show M.length = (M.map fun p => unK p.2).length from (List.length_map ..).symm, List.take_length] at p2
          exact k H6 D2 ds _ (fun b o h => p4 _ _ (sH _ _ h)) (none_of sH nD2) p1 p2 p3 ordd
end
end L2.LawH
set_option Elab.async false
set_option linter.all false
set_option maxRecDepth 100000
set_option maxHeartbeats 4000000
/-! _law_pairs. -/
namespace L2.LawH
open PySem PySem.Spec PyProof.Rows L2.TxtDict L2.NSet PySem.W
abbrev sPairs : Stmt := top 18
/-- the pairs m at l, a list of tuples -/
structure PrsAt (H : Hp) (l : Addr) (ts : List Addr) (m : Prs2) : Prop where
  sq : H l = some (.lst (ts.map V.ref))
  each : Paired (fun t (q : Str × Str) => H t = some (.tup [.str q.1, .str q.2])) ts m
theorem PrsAt.same {H H' : Hp} {l : Addr} {ts : List Addr} {m : Prs2} (h : PrsAt H l ts m) (s : Same H H') : PrsAt H' l ts m := ⟨s _ _ h.sq, Paired.mapP h.each fun _ _ e => s _ _ e⟩
def spPrs : Sp := fun vs H Q _ => ∃ (a : Addr) (m : Prs2), vs = [.ref a] ∧ MapAt H a m ∧ (m.map Prod.fst).Nodup ∧ m.length ≤ 20 ∧
  ∀ (H' : Hp) (l : Addr) (ts : List Addr), Same H H' → H l = none → PrsAt H' l ts (canon m) → (∀ t ∈ ts, H t = none) → Q (.ref l) H'
section
variable {P : Program} {w : World} {K : PySem.W.Frag} {mg : Str → Option Value} {base : Heap}
abbrev nPrs : List Str := ["_law_known", "_law_variable"]
theorem scPrs : FnScope nPrs ["_law_known"] (defScope sPairs) := ⟨rfl, rfl, rfl, by decide +kernel, rfl, by decide +kernel, by decide +kernel⟩
theorem ok_prs {f : Addr} {fd : FuncData} (F : Fun K "_law_pairs" "_law_pairs" sPairs f fd) (ms : mg "sorted" = none) (ml : mg "list" = none) : FnOk P w K mg base CX0 1 f fd ["_law_known"] spPrs := by
  refine F.ok scPrs (fun vs H Q E h => ?_) (fun cdv A outer s H vs Q E hr h => ?_)
  · obtain ⟨a, m, rfl, _⟩ := h
    rfl
  · obtain ⟨a, m, rfl, ha, nd, few, k⟩ := h
    have hu := hu_of hr
    refine ⟨_, pss_one (ps_ret (pe_lc (own := [("_law_variable", 1)]) (g := gName 1) (tt := tYes) rfl scPrs.nd
        (pi_list (pe_callB cr_sortedS (by rfl) ms (by decide +kernel) (pa_cons (pe_callTy (call_listD rfl) (by rfl) ml (by decide +kernel) (pa_cons (pv 0) pa_nil)) pa_nil)))
        (blkOk_by (own := [("_law_variable", 1)]) (N := nPrs) (sc := defScope sPairs) (by decide +kernel)) (fun _ _ _ _ _ => pg_name (i := 1) scPrs.nd rfl (Or.inl rfl)) (fun _ _ _ _ _ => pts_nil)
        (fun _ _ _ _ _ => pe_tup (pa_cons (pv 1) (pa_cons (pe_dget hu (pv 0) (pv 1) (fun _ _ => rfl)) pa_nil))))), ?_⟩
    refine ⟨_, rfl, a, kd m, rfl, .inl ha, fun l0 n0 => ?_⟩
    have eks : (kd m).map (fun kv => kV kv.1) = (m.map Prod.fst).map V.str := by
      unfold kd
      rw [List.map_map, List.map_map]
      rfl
    refine ⟨l0, m.map Prod.fst, rfl, SqL.of (by rw [upd_same, eks]), by rw [List.length_map]; omega, fun ys l pm as nl => ?_⟩
    have ek := keys_canon pm as
    subst ek
    have cl := canon_len m
    have cn := canon_nd nd
    have lk := fun z => look_canon nd z
    generalize hc : canon m = c at cl cn lk k ⊢
    have s0 : Same H (upd H l0 (.lst ((kd m).map fun kv => kV kv.1))) := same_new n0
    have nlH : H l = none := none_of s0 nl
    have s1 : Same H (upd (upd H l0 (.lst ((kd m).map fun kv => kV kv.1))) l (.lst ((c.map Prod.fst).map V.str))) := fun b o h => by
      rw [upd_ne (ne_of_none h nlH)]
      exact s0 b o h
    have l1 : (upd (upd H l0 (.lst ((kd m).map fun kv => kV kv.1))) l (.lst ((c.map Prod.fst).map V.str))) l = some (.lst ((c.map Prod.fst).map V.str)) := upd_same
    generalize upd (upd H l0 (.lst ((kd m).map fun kv => kV kv.1))) l (.lst ((c.map Prod.fst).map V.str)) = H1 at s1 l1 ⊢
    refine ⟨l, rfl, ⟨_, SqL.of l1⟩, fun D nD => ?_⟩
    refine lc_it walk_list (fun i H5 => ∃ ts : List Addr, H5 D = some (.lst (ts.map V.ref)) ∧ Paired (fun t (q : Str × Str) => H5 t = some (.tup [.str q.1, .str q.2])) ts (c.take i) ∧ (∀ t ∈ ts, H t = none) ∧ Same H1 H5)
      ⟨[], upd_same, .nil, fun t m => (nomatch m), same_new nD⟩ (fun i H5 hi p => let ⟨ts, _, _, _, p4⟩ := p; SqL.of (p4 _ _ l1)) (fun i x H5 H6 hi p y => ?_) (fun H5 p => ?_)
    · obtain ⟨rfl, hx⟩ := y
      obtain ⟨ts, p1, p2, p3, p4⟩ := p
      rw [List.getElem?_map, List.getElem?_map] at hx
      obtain ⟨u, hu2, rfl⟩ := Option.map_eq_some_iff.mp hx
      obtain ⟨e, he, rfl⟩ := Option.map_eq_some_iff.mp hu2
      have lke : look m e.1 = some e.2 := by rw [← lk, look_of cn (List.mem_of_getElem? he)]
      have lt : ts.length ≤ 20 := by
        have := Paired.length p2
        rw [List.length_take] at this
        omega
      refine ⟨rfl, ?_⟩
      dsimp only [tYes]
      rw [if_pos rfl]
      refine ⟨_, rfl, _, rfl, _, rfl, a, .str e.2, rfl, .inl ⟨kd m, Sum.inr e.1, .inl (p4 _ _ (s1 _ _ ha)), rfl, by rw [val_kd, lke]; rfl⟩, ?_⟩
      refine ⟨(by show 2 ≤ sizeLine; rw [sizeLine_eq]; decide), fun t nt => ?_⟩
      have tD : t ≠ D := fun e => by
        rw [e, p1] at nt
        cases nt
      refine ⟨ts.map V.ref, by rw [upd_ne (Ne.symm tD)]; exact p1, by rw [List.length_map, sizeLine_eq]; omega, ts ++ [t], by rw [upd_same, List.map_append]; rfl, ?_, fun b hb => ?_, fun b o h => ?_⟩
      · rw [List.take_succ, he]
        refine Paired.snoc (Paired.mapP p2 fun b q h => ?_) ?_
        · have nb : b ≠ D := fun e => by
            rw [e, p1] at h
            cases h
          rw [upd_ne nb, upd_ne (ne_of_none h nt)]
          exact h
        · rw [upd_ne tD, upd_same]
      · rcases List.mem_append.mp hb with hb | hb
        · exact p3 b hb
        · rw [List.mem_singleton.mp hb]
          exact none_of (fun b o h => p4 _ _ (s1 _ _ h)) nt
      · have h6 := p4 _ _ h
        rw [upd_ne (ne_of_none h nD), upd_ne (ne_of_none h6 nt)]
        exact h6
    · obtain ⟨ts, p1, p2, p3, p4⟩ := p
      rw [List.length_map, List.length_map, List.take_length] at p2
      exact k H5 D ts (fun b o h => p4 _ _ (s1 _ _ h)) (none_of s1 nD) ⟨p1, p2⟩ p3
end
end L2.LawH
set_option Elab.async false
set_option linter.all false
set_option maxRecDepth 100000
set_option maxHeartbeats 4000000
/-! _law_joined, _law_map. -/
namespace L2.LawH
open PySem PySem.Spec PyProof.Rows L2.TxtDict L2.NSet PySem.W
abbrev sLMap : Stmt := top 20
abbrev sLJoin : Stmt := top 21
theorem prs_kd {H : Hp} {ts : List Addr} {m : Prs2} (h : Paired (fun t (q : Str × Str) => H t = some (.tup [.str q.1, .str q.2])) ts m) (K : PySem.W.Frag) : Paired (fun p (kv : Key × V) => SqT K H p [kV kv.1, kv.2]) ts (kd m) := by
  induction h with
  | nil => exact .nil
  | cons r t ih => exact .cons (SqT.of r) ih
theorem mer_self {m : Prs2} (nd : (m.map Prod.fst).Nodup) : mergeK [] (kd m) = kd m := by
  rw [show ([] : List (Key × V)) = kd [] from rfl, kd_mer, mer_nil (by simpa using nd)]
  rfl
theorem kd_nil : kd [] = [] := rfl
theorem mer_snoc (m more : Prs2) (q : Str × Str) : merP m (more ++ [q]) = putP (merP m more) q.1 q.2 := by
  unfold merP
  rw [List.foldl_append]
  rfl
def spLJoin : Sp := fun vs H Q _ => ∃ (a b : Addr) (m1 m2 : Prs2), vs = [.ref a, .ref b] ∧ MapAt H a m1 ∧ (m1.map Prod.fst).Nodup ∧ MapAt H b m2 ∧ (m2.map Prod.fst).Nodup ∧ m1.length + m2.length ≤ 20 ∧
  ∀ (H' : Hp) (d : Addr), Same H H' → H d = none → MapAt H' d (canon (merP m1 m2)) → Q (.ref d) H'
section
variable {P : Program} {w : World} {K : PySem.W.Frag} {mg : Str → Option Value} {base : Heap}
abbrev nLJ : List Str := ["_law_one", "_law_other", "_law_found", "_law_variable"]
theorem scLJ : FnScope nLJ ["_law_one", "_law_other"] (defScope sLJoin) := ⟨rfl, rfl, rfl, by decide +kernel, rfl, by decide +kernel, by decide +kernel⟩
theorem ok_ljoin {f fP : Addr} {fd fdP : FuncData} (F : Fun K "_law_joined" "_law_joined" sLJoin f fd)
    (GP : FnOk P w K mg base CX0 1 fP fdP ["_law_known"] spPrs) (kP : PySem.W.keepIn K (.ref fP) = true) (bP : Binds K fdP ["_law_known"] []) (mP : mg "_law_pairs" = some (.ref fP)) (md : mg "dict" = none) (ml : mg "list" = none) :
    FnOk P w K mg base CX0 2 f fd ["_law_one", "_law_other"] spLJoin := by
  refine F.ok scLJ (fun vs H Q E h => ?_) (fun cdv A outer s H vs Q E hr h => ?_)
  · obtain ⟨a, b, m1, m2, rfl, _⟩ := h
    rfl
  · obtain ⟨a, b, m1, m2, rfl, ha, n1, hb, n2, few, k⟩ := h
    have hu := hu_of hr
    refine ⟨_, pss_cons (ps_set (i := 2) scLJ.nd rfl (Or.inl rfl) (pe_callTy call_dictD (by rfl) md (by decide +kernel) (pa_cons (pv 0) pa_nil)))
      (pss_cons (ps_for PassesOwn.never rfl (pi_list (pe_callTy (call_listD rfl) (by rfl) ml (by decide +kernel) (pa_cons (pv 1) pa_nil))) (pg_name (i := 3) scLJ.nd rfl (Or.inl rfl))
        (pss_one (ps_dput hu (pv 2) (pv 3) (pe_dget hu (pv 1) (pv 3) (fun _ _ => rfl)) (by rfl))))
      (pss_one (ps_ret (pe_callTy (call_dictP rfl) (by rfl) md (by decide +kernel) (pa_cons (pe_call GP hr (by rfl) mP kP bP .nil pass0 (pa_cons (pv 2) pa_nil)) pa_nil))))), ?_⟩
    refine ⟨_, rfl, a, kd m1, rfl, .inl ha, fun p np => ?_⟩
    have na : a ≠ p := ne_of_none ha np
    have nb : b ≠ p := ne_of_none hb np
    have s1 : Same H (upd H p (.dK (kd m1))) := same_new np
    have p1 : (upd H p (.dK (kd m1))) p = some (.dK (kd m1)) := upd_same
    have hb1 := s1 _ _ hb
    generalize upd H p (.dK (kd m1)) = H1 at s1 p1 hb1 ⊢
    refine ⟨_, rfl, b, kd m2, rfl, .inl hb1, fun l nl => ?_⟩
    have eks : (kd m2).map (fun kv => kV kv.1) = (m2.map Prod.fst).map V.str := by
      unfold kd
      rw [List.map_map, List.map_map]
      rfl
    rw [eks]
    have pl : p ≠ l := ne_of_none p1 nl
    refine ⟨l, rfl, ⟨_, SqL.of upd_same⟩, ?_⟩
    refine for_it (L2.walk_list (K := K) (xs := (m2.map Prod.fst).map V.str)) (fun i σ H5 => ∃ v3 : Option V, σ = [some (.ref a), some (.ref b), some (.ref p), v3] ∧ H5 p = some (.dK (kd (merP m1 (m2.take i)))) ∧ (∀ c o, c ≠ p → H c = some o → H5 c = some o) ∧ H5 l = some (.lst ((m2.map Prod.fst).map V.str)))
      ⟨none, rfl, ?_, fun c o hc h => ?_, upd_same⟩ (fun i σ H5 hi q => SqL.of (by obtain ⟨v3, _, _, _, q4⟩ := q; exact q4)) (fun i x σ H5 H6 hi q y => ?_) (fun σ H5 q => ?_)
    · rw [upd_ne pl]
      exact p1
    · rw [upd_ne (ne_of_none (s1 _ _ h) nl)]
      exact s1 _ _ h
    · obtain ⟨rfl, hx⟩ := y
      obtain ⟨v3, rfl, q2, q3, q4⟩ := q
      rw [List.getElem?_map, List.getElem?_map] at hx
      obtain ⟨u, hu2, rfl⟩ := Option.map_eq_some_iff.mp hx
      obtain ⟨e, he, rfl⟩ := Option.map_eq_some_iff.mp hu2
      have lke : look m2 e.1 = some e.2 := look_of n2 (List.mem_of_getElem? he)
      have tk1 : m2.take (i + 1) = m2.take i ++ [e] := by
        rw [List.take_succ, he]
        rfl
      have l1 : (kd (merP m1 (m2.take i))).length < sizeLine := by
        have h1 := len_mer (m2.take i) m1
        rw [List.length_take] at h1
        rw [TxtDict.kd_len, sizeLine_eq]
        omega
      refine ⟨_, rfl, _, rfl, b, .str e.2, rfl, .inl ⟨kd m2, Sum.inr e.1, .inl (q3 _ _ nb hb), rfl, by rw [val_kd, lke]; rfl⟩, _, rfl, _, rfl, p, _, rfl, DPut.k (k := Sum.inr e.1) q2 l1, some (.str e.1), rfl, ?_, fun c o hc h => ?_, ?_⟩
      · rw [upd_same, kd_put, tk1, mer_snoc]
      · rw [upd_ne hc]
        exact q3 c o hc h
      · rw [upd_ne (Ne.symm pl)]
        exact q4
    · obtain ⟨v3, rfl, q2, q3, q4⟩ := q
      rw [List.length_map, List.length_map, List.take_length] at q2
      have nd := nd_mer (more := m2) n1
      have ln := len_mer m2 m1
      generalize merP m1 m2 = mm at q2 nd ln k
      refine ⟨_, rfl, p, mm, rfl, q2, nd, by omega, fun H6 l2 ts s6 nl2 pa tn => ?_⟩
      refine ⟨l2, ts, kd (canon mm), rfl, SqL.of pa.sq, prs_kd pa.each _, fun d nd6 => ?_⟩
      have sH5 : Same H H5 := fun c o h => q3 c o (ne_of_none h np) h
      have sH6 : Same H H6 := fun c o h => s6 _ _ (sH5 _ _ h)
      refine k _ d (fun c o h => ?_) (none_of sH6 nd6) ?_
      · rw [upd_ne (ne_of_none (sH6 _ _ h) nd6)]
        exact sH6 _ _ h
      · show (upd H6 d _) d = _
        rw [upd_same, mer_self (canon_nd nd)]
end
end L2.LawH
set_option Elab.async false
set_option linter.all false
set_option maxRecDepth 100000
set_option maxHeartbeats 4000000
/-! _law_map. -/
namespace L2.LawH
open PySem PySem.Spec PyProof.Rows L2.TxtDict L2.NSet PySem.W
theorem ok_list {z : Str} (h : ∀ c ∈ z.cps.toList, c < 0x110000) : PyData.strOk z = true := by
  unfold PyData.strOk
  rw [← Array.all_toList, List.all_eq_true]
  exact fun c hc => decide_eq_true (h c hc)
theorem sgn_small {c : Nat} (h : isSgn c = true) : c < 0x110000 := by
  simp only [isSgn, isLet, Bool.or_eq_true, Bool.and_eq_true, decide_eq_true_eq] at h
  omega
theorem Nm.strOk {z : Str} (h : Nm z) : PyData.strOk z = true := by
  obtain ⟨h1, _, _⟩ := nm_sgns h
  exact ok_list fun c hc => sgn_small (List.all_eq_true.mp h1 c hc)
theorem Vr.strOk {z : Str} (h : Vr z) : PyData.strOk z = true := by
  obtain ⟨y, ny, rfl⟩ := h
  obtain ⟨h1, _, _⟩ := nm_sgns ny
  refine ok_list fun c hc => ?_
  rw [toList_append] at hc
  rcases List.mem_append.mp hc with hc | hc
  · have e1 : (Str.ofString "?").cps.toList = [63] := by decide +kernel
    rw [e1] at hc
    have e : c = 63 := by simpa using hc
    omega
  · exact sgn_small (List.all_eq_true.mp h1 c hc)
theorem good_put {m : Prs2} (g : Good m) {k v : Str} (l : m.length < 20) (hk : PyData.strOk k = true) (hv : PyData.strOk v = true) : Good (putP m k v) := by
  refine ⟨nd_put g.nd k v, ?_, fun p h => ?_⟩
  · have := len_put m k v
    omega
  · rcases mem_put h with h | rfl
    · exact g.ok p h
    · exact ⟨hk, hv⟩
theorem good_nil : Good [] := ⟨List.nodup_nil, Nat.zero_le _, fun p h => nomatch h⟩
theorem keep_src {a : Addr} {H H' : Hp} {c : Int} {n : Nat} (s : SrcAt H a c n) (same : Same H H') : SrcAt H' a c n := s.same same
def spLMap : Sp := fun vs H Q _ => ∃ (a q : Addr) (c : Int) (m : Nat) (sh : Int) (π : Pool), vs = [.ref a, .ref q, .int sh] ∧ SrcAt H a c (m + 15) ∧ PoolAt a H q π ∧
  ∀ (H' : Hp) (d : Addr) (mm : Prs2), SrcAt H' a c m → Keep a H H' → H d = none → MapAt H' d mm → Good mm → mm.length ≤ 5 → Q (.ref d) H'
section
variable {P : Program} {w : World} {K : PySem.W.Frag} {mg : Str → Option Value} {base : Heap}
abbrev nLM : List Str := ["_law_source_here", "_law_pool_here", "_law_share", "_law_found", "_law_k", "_law_variable"]
theorem scLM : FnScope nLM ["_law_source_here", "_law_pool_here", "_law_share"] (defScope sLMap) := ⟨rfl, rfl, rfl, by decide +kernel, rfl, by decide +kernel, by decide +kernel⟩
theorem ok_lmap {f fP fD : Addr} {fd fdP fdD : FuncData} (F : Fun K "_law_map" "_law_map" sLMap f fd)
    (GP : FnOk P w K mg base CX0 1 fP fdP ["_law_known"] spPrs) (kP : PySem.W.keepIn K (.ref fP) = true) (bP : Binds K fdP ["_law_known"] []) (mP : mg "_law_pairs" = some (.ref fP))
    (GD : FnOk P w K mg base CX0 1 fD fdD ["_law_source_here", "_law_limit"] spDraw) (kD : PySem.W.keepIn K (.ref fD) = true) (bD : Binds K fdD ["_law_source_here", "_law_limit"] []) (mD : mg "_law_draw" = some (.ref fD))
    (md : mg "dict" = none) (mr : mg "range" = none) :
    FnOk P w K mg base CX0 2 f fd ["_law_source_here", "_law_pool_here", "_law_share"] spLMap := by
  refine F.ok scLM (fun vs H Q E h => ?_) (fun cdv A outer s H vs Q E hr h => ?_)
  · obtain ⟨a, q, c, m, sh, π, rfl, _⟩ := h
    rfl
  · obtain ⟨a, q, c, m, sh, π, rfl, hs, hp, k⟩ := h
    have hu := hu_of hr
    refine ⟨_, pss_cons (ps_set (i := 3) scLM.nd rfl (Or.inl rfl) pe_dnewK)
      (pss_cons (ps_for PassesOwn.never rfl (pi_range1 (by rfl) mr (pa_cons pe_int pa_nil)) (pg_name (i := 4) scLM.nd rfl (Or.inl rfl))
        (pss_cons (ps_set (i := 5) scLM.nd rfl (Or.inl rfl) (pe_ix ix_list (pe_ix ix_list (pv 1) pe_int (fun _ _ => rfl)) (pe_call GD hr (by rfl) mD kD bD .nil pass0 (pa_cons (pv 0) (pa_cons pe_int pa_nil))) (fun _ _ => rfl)))
        (pss_one (ps_if (pt_cmpR op_lt (pe_call GD hr (by rfl) mD kD bD .nil pass0 (pa_cons (pv 0) (pa_cons pe_int pa_nil))) (pv 2) (nomark _))
          (pss_one (ps_dput hu (pv 3) (pv 5) (pe_ix ix_list (pe_ix ix_list (pv 1) pe_int (fun _ _ => rfl)) (pe_call GD hr (by rfl) mD kD bD .nil pass0 (pa_cons (pv 0) (pa_cons pe_int pa_nil))) (fun _ _ => rfl)) (by rfl))) pss_nil))))
      (pss_one (ps_ret (pe_callTy (call_dictP rfl) (by rfl) md (by decide +kernel) (pa_cons (pe_call GP hr (by rfl) mP kP bP .nil pass0 (pa_cons (pv 3) pa_nil)) pa_nil))))), ?_⟩
    intro p np
    have pa := hs.ne np
    refine ⟨_, rfl, by omega, by omega, for_range (lo := 0) (n := 5) (fun i σ H3 => ∃ (v4 v5 : Option V) (mm : Prs2), σ = [some (.ref a), some (.ref q), some (.int sh), some (.ref p), v4, v5] ∧
      H3 p = some (.dK (kd mm)) ∧ Good mm ∧ mm.length ≤ i ∧ SrcAt H3 a c (m + 3 * (5 - i)) ∧ Keep a H H3)
      ⟨none, none, [], rfl, upd_same, good_nil, Nat.le_refl _, (hs.same (same_new np)).mono (by omega), Keep.of (same_new np)⟩ ?_ ?_⟩
    · rintro i σ H3 hi ⟨v4, v5, mm, rfl, h3, g3, l3, s3, k3⟩
      have s3' : SrcAt H3 a c (m + 3 * (5 - (i + 1)) + 2 + 1) := s3.mono (by omega)
      have hp3 := hp.keep k3
      refine ⟨_, rfl, q, _, 2, _, rfl, rfl, SqL.of hp3.hp, rfl, ?_⟩
      refine ⟨_, rfl, a, c, _, 5, rfl, s3', by decide, by decide, fun r H4 r0 r1 s4 k4 => ?_⟩
      obtain ⟨j, rfl⟩ : ∃ j : Nat, r = j := ⟨r.toNat, by omega⟩
      have hj : j < π.W.length := by rw [hp.W9]; omega
      refine ⟨π.vs, _, _, _, rfl, rfl, SqL.of (k4 _ _ hp3.hv hp3.nv), atI_nat (strs_get hj), ?_⟩
      have s4' : SrcAt H4 a c (m + 3 * (5 - (i + 1)) + 1 + 1) := s4.mono (by omega)
      have hp4 := hp3.keep k4
      have h4 := k4 _ _ h3 pa
      refine ⟨_, rfl, a, c, _, 5, rfl, s4', by decide, by decide, fun r2 H5 r20 r21 s5 k5 => ?_⟩
      have hp5 := hp4.keep k5
      have h5 := k5 _ _ h4 pa
      refine ⟨_, rfl, _, _, rfl, rfl, _, rfl, ?_⟩
      refine ite2 (fun _ => ?_) (fun _ => ?_)
      · have s5' : SrcAt H5 a c (m + 3 * (5 - (i + 1)) + 1) := s5.mono (by omega)
        refine ⟨_, rfl, q, _, 1, _, rfl, rfl, SqL.of hp5.hp, rfl, ?_⟩
        refine ⟨_, rfl, a, c, _, 2, rfl, s5', by decide, by decide, fun r3 H6 r30 r31 s6 k6 => ?_⟩
        obtain ⟨j3, rfl⟩ : ∃ j : Nat, r3 = j := ⟨r3.toNat, by omega⟩
        have hj3 : j3 < π.C.length := by have := hp.C2; omega
        have h6 := k6 _ _ h5 pa
        refine ⟨π.cs, _, _, _, rfl, rfl, SqL.of (k6 _ _ hp5.hc hp5.nc), atI_nat (strs_get hj3), ?_⟩
        have l1 : (kd mm).length < sizeLine := by
          rw [TxtDict.kd_len, sizeLine_eq]
          omega
        refine ⟨_, rfl, _, rfl, p, _, rfl, DPut.k (k := Sum.inr π.W[j]) h6 l1, ?_⟩
        refine ⟨_, _, putP mm π.W[j] π.C[j3], rfl, by rw [upd_same, kd_put], good_put g3 (by omega) (hp.nW _ (List.getElem_mem hj)).strOk (hp.nC _ (List.getElem_mem hj3)).strOk, ?_, ?_, ?_⟩
        · have := len_put mm π.W[j] π.C[j3]
          omega
        · obtain ⟨dd, n, e, f, b⟩ := s6.mono (show m + 3 * (5 - (i + 1)) ≤ _ by omega)
          exact ⟨dd, n, by rw [upd_ne (Ne.symm pa)]; exact e, f, b⟩
        · intro b o hb nb
          rw [upd_ne (ne_of_none hb np)]
          exact k6 _ _ (k5 _ _ (k4 _ _ (k3 _ _ hb nb) nb) nb) nb
      · exact ⟨_, _, mm, rfl, h5, g3, by omega, s5.mono (by omega), ((k3.trans k4).trans k5)⟩
    · rintro σ H3 ⟨v4, v5, mm, rfl, h3, g3, l3, s3, k3⟩
      refine ⟨_, rfl, p, mm, rfl, h3, g3.nd, by omega, fun H6 l2 ts s6 nl2 pa2 tn => ?_⟩
      refine ⟨l2, ts, kd (canon mm), rfl, SqL.of pa2.sq, prs_kd pa2.each _, fun d nd6 => ?_⟩
      have s6' := (s3.mono (show m ≤ _ by omega)).same s6
      have k6 : Keep a H H6 := k3.trans (Keep.of s6)
      refine k _ d (canon mm) (s6'.same (same_new nd6)) (k6.trans (Keep.of (same_new nd6))) (k6.free nd6 s6'.some) ?_ (canon_good g3) (by rw [canon_len]; omega)
      show (upd H6 d _) d = _
      rw [upd_same, mer_self (canon_nd g3.nd)]
end
end L2.LawH
set_option Elab.async false
set_option linter.all false
set_option maxRecDepth 100000
set_option maxHeartbeats 4000000
/-! Lists of pairs as data. -/
namespace L2.LawH
open PySem PySem.Spec PyProof.Rows L2.TxtDict L2.NSet PySem.W
def encL (m : Prs2) : PyData := .list (m.map prD)
theorem toks_encL (m : Prs2) : keyToks (encL m) = tk m := toks_list m
def OkM (m : Prs2) : Prop := ∀ p ∈ m, PyData.strOk p.1 = true ∧ PyData.strOk p.2 = true
theorem Good.okM {m : Prs2} (g : Good m) : OkM m := g.ok
theorem lay_prs : ∀ {m : Prs2}, OkM m → PyData.canLayAll0 (m.map prD) = true
  | [], _ => by simp [PyData.canLayAll0]
  | p :: m, h => by
    have ih := lay_prs (m := m) fun q hq => h q (List.mem_cons_of_mem _ hq)
    have hp := h p List.mem_cons_self
    rw [List.map_cons, PyData.canLayAll0, ih]
    simp [prD, PyData.canLay0, PyData.canLayAll0, hp.1, hp.2]
theorem lay_encL {m : Prs2} (h : OkM m) : (encL m).canLay0 = true := by
  unfold encL
  rw [PyData.canLay0, lay_prs h]
theorem depth_encL (m : Prs2) : (encL m).depth ≤ 2 := by
  have := ddepth_prs m
  unfold encL
  rw [PyData.depth]
  omega
theorem shaped_encL {m : Prs2} (h : OkM m) : SeqAt.shaped (encL m) = true := by
  unfold SeqAt.shaped
  rw [lay_encL h, Bool.true_and]
  exact decide_eq_true (Nat.le_trans (depth_encL m) (by decide))
theorem lay_encs : ∀ {ms : List Prs2}, (∀ m ∈ ms, OkM m) → PyData.canLayAll0 (ms.map encL) = true
  | [], _ => by simp [PyData.canLayAll0]
  | m :: ms, h => by
    rw [List.map_cons, PyData.canLayAll0, lay_encL (h m List.mem_cons_self), lay_encs (ms := ms) fun q hq => h q (List.mem_cons_of_mem _ hq)]
    rfl
theorem depth_encs : ∀ ms : List Prs2, PyData.depthAll (ms.map encL) ≤ 2
  | [] => by simp [PyData.depthAll]
  | m :: ms => by
    have := depth_encs ms
    have := depth_encL m
    rw [List.map_cons, PyData.depthAll]
    omega
theorem shaped_encs {ms : List Prs2} (h : ∀ m ∈ ms, OkM m) : SeqAt.shaped (.list (ms.map encL)) = true := by
  unfold SeqAt.shaped
  rw [PyData.canLay0, lay_encs h, Bool.true_and]
  refine decide_eq_true (Nat.le_trans (?_ : _ ≤ 3) (by decide))
  have := depth_encs ms
  rw [PyData.depth]
  omega
theorem eqv_prs : ∀ a b : Prs2, PyData.eqvAll (a.map prD) (b.map prD) = decide (a = b)
  | [], [] => by simp [PyData.eqvAll]
  | [], _ :: _ => by simp [PyData.eqvAll]
  | _ :: _, [] => by simp [PyData.eqvAll]
  | p :: a, q :: b => by
    rw [List.map_cons, List.map_cons, eqv_all_cons, eqv_prs a b]
    have e : PyData.eqv (prD p) (prD q) = decide (p = q) := by
      obtain ⟨p1, p2⟩ := p
      obtain ⟨q1, q2⟩ := q
      rw [Bool.eq_iff_iff]
      simp [prD, PyData.eqv, PyData.eqvAll]
    rw [e, Bool.eq_iff_iff]
    simp
theorem eqv_encL (a b : Prs2) : PyData.eqv (encL a) (encL b) = decide (a = b) := by
  unfold encL
  rw [PyData.eqv, eqv_prs]
theorem eqv_encs : ∀ ms : List Prs2, PyData.eqv (.list (ms.map encL)) (.list []) = decide (ms = [])
  | [] => by simp [PyData.eqv, PyData.eqvAll]
  | m :: ms => by simp [PyData.eqv, PyData.eqvAll]
theorem alike_encL (a b : Prs2) : alike (encL a) (encL b) = true := by
  unfold encL
  rw [alike]
  exact alike_prs a b
theorem dp_prs {K : PySem.W.Frag} {H : Hp} {ts : List Addr} {m : Prs2} (h : Paired (fun t (q : Str × Str) => H t = some (.tup [.str q.1, .str q.2])) ts m) : DpAll K H (ts.map V.ref) (m.map prD) := by
  induction h with
  | nil => exact .nil
  | cons r t ih => exact .cons (.tup (SqT.of r) (.cons (.str _) (.cons (.str _) .nil))) ih
theorem PrsAt.dp {K : PySem.W.Frag} {H : Hp} {l : Addr} {ts : List Addr} {m : Prs2} (h : PrsAt H l ts m) : Dp K H (.ref l) (encL m) := .lst (SqL.of h.sq) (dp_prs h.each)
def PrsIn (H : Hp) (l : Addr) (m : Prs2) : Prop := ∃ ts, PrsAt H l ts m
theorem PrsIn.dp {K : PySem.W.Frag} {H : Hp} {l : Addr} {m : Prs2} (h : PrsIn H l m) : Dp K H (.ref l) (encL m) := let ⟨_, p⟩ := h; p.dp
theorem PrsIn.same {H H' : Hp} {l : Addr} {m : Prs2} (h : PrsIn H l m) (s : Same H H') : PrsIn H' l m := let ⟨ts, p⟩ := h; ⟨ts, p.same s⟩
/-- but for D -/
theorem PrsIn.but {H H' : Hp} {D l : Addr} {m : Prs2} {xs : List V} (h : PrsIn H l m) (n : l ≠ D) (hD : H D = some (.lst xs)) (s : ∀ b o, b ≠ D → H b = some o → H' b = some o) : PrsIn H' l m := by
  obtain ⟨ts, p⟩ := h
  refine ⟨ts, s _ _ n p.sq, Paired.mapP p.each fun t q e => s _ _ (fun z => ?_) e⟩
  rw [z, hD] at e
  cases e
theorem dp_zips {K : PySem.W.Frag} {H : Hp} : ∀ {fs : List (Addr × Prs2)}, (∀ z ∈ fs, PrsIn H z.1 z.2) → DpAll K H (fs.map fun z => V.ref z.1) (fs.map fun z => encL z.2)
  | [], _ => .nil
  | z :: fs, h => .cons (h z List.mem_cons_self).dp (dp_zips (fs := fs) fun y hy => h y (List.mem_cons_of_mem _ hy))
theorem atI_last {α : Type} (g : List α) (z : α) : atI (g ++ [z]) (-1) = some z := by
  unfold atI ixN
  have l : (g ++ [z]).length = g.length + 1 := by simp
  rw [l, if_neg (by decide), if_pos (by omega)]
  have e : ((-1 : Int) + ((g.length + 1 : Nat) : Int)).toNat = g.length := by omega
  rw [e]
  simp
end L2.LawH
set_option Elab.async false
set_option linter.all false
set_option maxRecDepth 100000
set_option maxHeartbeats 4000000
/-! _law_ordered. -/
namespace L2.LawH
open PySem PySem.Spec PyProof.Rows L2.TxtDict L2.NSet PySem.W
abbrev sLOrd : Stmt := top 19
theorem op_neDK {X : Cx} {K : PySem.W.Frag} (e : X.K = K) (hu : X.A.units + 64 < cLine) : OpR X (compareOp .NotEq) (rNeD K) := by
  subst e
  exact op_neD hu
theorem op_eqDK {X : Cx} {K : PySem.W.Frag} (e : X.K = K) (hu : X.A.units + 64 < cLine) : OpR X (compareOp .Eq) (rEqD K) := by
  subst e
  exact op_eqD hu
theorem cr_sortDK {X : Cx} {K : PySem.W.Frag} (e : X.K = K) (hu : X.A.units + 64 < cLine) : CallR X (.builtin "sorted") (rSortD K) := by
  subst e
  exact cr_sortD hu
def rDictP (K : PySem.W.Frag) : List V → Hp → VK → Prop := fun xs H Q => ∃ (a : Addr) (ps : List Addr) (kvs : List (Key × V)), xs = [.ref a] ∧ SqL K H a (ps.map V.ref) ∧ Paired (fun p kv => SqT K H p [kV kv.1, kv.2]) ps kvs ∧ ∀ p, H p = none → Q (.ref p) (upd H p (.dK (mergeK [] kvs)))
theorem call_dictPK {X : Cx} {K : PySem.W.Frag} (e : X.K = K) (hc : X.calm = true) : CallR X (.type "dict") (rDictP K) := by
  subst e
  exact call_dictP hc
def spLOrd : Sp := fun vs H Q _ => ∃ (q : Addr) (ts : List Addr) (ms : List Prs2), vs = [.ref q] ∧ H q = some (.lst (ts.map V.ref)) ∧ Paired (MapAt H) ts ms ∧ (∀ m ∈ ms, Good m) ∧ ms.length ≤ 60 ∧
  ∀ (H' : Hp) (l : Addr) (ds : List Addr) (cs : List Prs2), Same H H' → H l = none → H' l = some (.lst (ds.map V.ref)) → Paired (MapAt H') ds cs → (∀ d ∈ ds, H d = none) → Ordd ms cs → Q (.ref l) H'
section
variable {P : Program} {w : World} {K : PySem.W.Frag} {mg : Str → Option Value} {base : Heap}
abbrev nLO : List Str := ["_law_several", "_law_found", "_law_pairs_here", "_law_known"]
theorem scLO : FnScope nLO ["_law_several"] (defScope sLOrd) := ⟨rfl, rfl, rfl, by decide +kernel, rfl, by decide +kernel, by decide +kernel⟩
theorem ok_lord {f fP : Addr} {fd fdP : FuncData} (F : Fun K "_law_ordered" "_law_ordered" sLOrd f fd)
    (GP : FnOk P w K mg base CX0 1 fP fdP ["_law_known"] spPrs) (kP : PySem.W.keepIn K (.ref fP) = true) (bP : Binds K fdP ["_law_known"] []) (mP : mg "_law_pairs" = some (.ref fP)) (ms : mg "sorted" = none) (md : mg "dict" = none) :
    FnOk P w K mg base CX0 2 f fd ["_law_several"] spLOrd := by
  refine F.ok scLO (fun vs H Q E h => ?_) (fun cdv A outer s H vs Q E hr h => ?_)
  · obtain ⟨q, ts, m, rfl, _⟩ := h
    rfl
  · obtain ⟨q, ts, maps, rfl, hq, pr, good, few, k⟩ := h
    have hu := hr.units
    refine ⟨_, pss_cons (ps_set (i := 1) scLO.nd rfl (Or.inl rfl) (pe_lst pa_nil))
      (pss_cons (ps_for PassesOwn.never rfl (pi_list (pe_callB (cr_sortDK (K := K) rfl hu) (by rfl) ms (by decide +kernel) (pa_cons
            (pe_lc (own := [("_law_known", 3)]) (g := gName 3) (tt := tYes) rfl scLO.nd (pi_list (pv 0)) (blkOk_by (own := [("_law_known", 3)]) (N := nLO) (sc := defScope sLOrd) (by decide +kernel)) (fun _ _ _ _ _ => pg_name (i := 3) scLO.nd rfl (Or.inl rfl)) (fun _ _ _ _ _ => pts_nil)
              (fun _ _ _ _ _ => pe_call GP hr (by rfl) mP kP bP .nil pass0 (pa_cons (pv 3) pa_nil))) pa_nil))) (pg_name (i := 2) scLO.nd rfl (Or.inl rfl))
        (pss_one (ps_if (PW.pt (pw_or (pt_cmpR (op_eqDK (K := K) rfl hu) (pv 1) (pe_lst pa_nil) (nomark _)) (pw_or1 (pt_cmpR (op_neDK (K := K) rfl hu) (pe_ix (ix_listK (K := K) rfl) (pv 1) (pe_un un_neg pe_int) (fun _ _ => rfl)) (pv 2) (nomark _)))))
          (pss_one (ps_expr (pe_bm PySem.F.plainAttrs_list PySem.F.slot_list_append PySem.F.type_list_append mt_append (pv 1) (pa_cons (pv 2) pa_nil)))) pss_nil)))
      (pss_one (ps_ret (pe_lc (own := [("_law_pairs_here", 2)]) (g := gName 2) (tt := tYes) rfl scLO.nd (pi_list (pv 1)) (blkOk_by (own := [("_law_pairs_here", 2)]) (N := nLO) (sc := defScope sLOrd) (by decide +kernel)) (fun _ _ _ _ _ => pg_name (i := 2) scLO.nd rfl (Or.inl rfl)) (fun _ _ _ _ _ => pts_nil)
        (fun _ _ _ _ _ => pe_callTy (call_dictPK (K := K) rfl rfl) (by rfl) md (by decide +kernel) (pa_cons (pv 2) pa_nil)))))), ?_⟩
    refine ⟨(by show 0 ≤ sizeLine; decide), fun D2 nD2 => ?_⟩
    have s0 : Same H (upd H D2 (.lst [])) := same_new nD2
    have hD2 : (upd H D2 (.lst [])) D2 = some (.lst []) := upd_same
    generalize upd H D2 (.lst []) = H0 at s0 hD2 ⊢
    refine ⟨_, rfl, q, rfl, ⟨_, SqL.of (s0 _ _ hq)⟩, fun D nD => ?_⟩
    have nDH : H D = none := none_of s0 nD
    have lp := Paired.length pr
    refine lc_it walk_list (fun i H5 => ∃ ls : List (Addr × Prs2), H5 D = some (.lst (ls.map fun z => V.ref z.1)) ∧ ls.map (·.2) = (maps.take i).map canon ∧ (∀ z ∈ ls, PrsIn H5 z.1 z.2 ∧ z.1 ≠ D ∧ z.1 ≠ D2) ∧ Same H0 H5)
      ⟨[], upd_same, rfl, fun z m => (nomatch m), same_new nD⟩ (fun i H5 hi p => let ⟨ls, _, _, _, p4⟩ := p; SqL.of (p4 _ _ (s0 _ _ hq))) (fun i x H5 H6 hi p y => ?_) (fun H5 p => ?_)
    · obtain ⟨rfl, hx⟩ := y
      obtain ⟨ls, p1, p2, p3, p4⟩ := p
      rw [List.getElem?_map] at hx
      obtain ⟨t, ht, rfl⟩ := Option.map_eq_some_iff.mp hx
      obtain ⟨m, hm, at1⟩ := Paired.at_ pr ht
      have g := good m (List.mem_of_getElem? hm)
      have ll : ls.length = min i maps.length := by
        have := congrArg List.length p2
        simpa using this
      refine ⟨rfl, ?_⟩
      dsimp only [tYes]
      rw [if_pos rfl]
      refine ⟨_, rfl, t, m, rfl, p4 _ _ (s0 _ _ at1), g.nd, g.few, fun H7 l ts2 s7 nl pa tn => ?_⟩
      have lD : l ≠ D := fun e => by
        rw [e, p1] at nl
        cases nl
      have lD2 : l ≠ D2 := fun e => by
        rw [e, p4 _ _ hD2] at nl
        cases nl
      have p1' := s7 _ _ p1
      have keep : ∀ b o, b ≠ D → H7 b = some o → (upd H7 D (.lst ((ls.map fun z => V.ref z.1) ++ [V.ref l]))) b = some o := fun b o hb h => by
        rw [upd_ne hb]
        exact h
      refine ⟨_, p1', by rw [List.length_map, sizeLine_eq]; omega, ls ++ [(l, canon m)], by rw [upd_same, List.map_append]; rfl, ?_, fun z hz => ?_, fun b o h => ?_⟩
      · rw [List.map_append, p2, List.take_succ, hm]
        simp
      · rcases List.mem_append.mp hz with hz | hz
        · obtain ⟨z1, z2, z3⟩ := p3 z hz
          exact ⟨(z1.same s7).but z2 p1' keep, z2, z3⟩
        · rw [List.mem_singleton.mp hz]
          exact ⟨(show PrsIn H7 l (canon m) from ⟨ts2, pa⟩).but lD p1' keep, lD, lD2⟩
      · exact keep _ _ (ne_of_none h nD) (s7 _ _ (p4 _ _ h))
    · obtain ⟨ls, p1, p2, p3, p4⟩ := p
      rw [List.length_map, lp, List.take_length] at p2
      have ll : ls.length = maps.length := by
        have := congrArg List.length p2
        simpa using this
      have okL : ∀ z ∈ ls, Good z.2 := fun z hz => by
        have : z.2 ∈ maps.map canon := by rw [← p2]; exact List.mem_map.mpr ⟨z, hz, rfl⟩
        obtain ⟨m, hm, e⟩ := List.mem_map.mp this
        rw [← e]
        exact canon_good (good m hm)
      refine ⟨D, ls.map fun z => (V.ref z.1, encL z.2), rfl, SqL.of (by rw [p1, List.map_map]; rfl), fun x hx => ?_, fun d hd d2 hd2 => ?_, .inl (.inr fun d hd => ?_), by rw [List.length_map]; omega, fun x hx => ?_, fun ys l pm rise nl => ?_⟩
      · obtain ⟨z, hz, rfl⟩ := List.mem_map.mp hx
        exact (p3 z hz).1.dp
      · rw [List.map_map] at hd hd2
        obtain ⟨z, _, rfl⟩ := List.mem_map.mp hd
        obtain ⟨z2, _, rfl⟩ := List.mem_map.mp hd2
        exact alike_encL _ _
      · rw [List.map_map] at hd
        obtain ⟨z, _, rfl⟩ := List.mem_map.mp hd
        exact ⟨fun e => (nomatch e), fun xs e => (nomatch e)⟩
      · obtain ⟨z, _, rfl⟩ := List.mem_map.mp hx
        exact Nat.le_trans (depth_encL _) (by decide)
      · obtain ⟨zs, pz, rfl⟩ := L2.NSet.perm_lift _ pm
        have up : zs.Pairwise fun a b => leM a.2 b.2 = true := by
          have r2 := List.pairwise_map.mp rise
          exact List.Pairwise.imp (fun {a b} h => le_of (enc := fun z : Addr × Prs2 => encL z.2) (a := a) (b := b) (toks_encL _) (toks_encL _) h) r2
        have okZ : ∀ z ∈ zs, Good z.2 := fun z hz => okL z (pz.mem_iff.mp hz)
        have inZ : ∀ z ∈ zs, PrsIn H5 z.1 z.2 ∧ z.1 ≠ D2 := fun z hz => let ⟨h1, _, h3⟩ := p3 z (pz.mem_iff.mp hz); ⟨h1, h3⟩
        have memZ : ∀ c, c ∈ zs.map (·.2) ↔ c ∈ maps.map canon := fun c => by
          rw [← p2]
          exact (pz.map (·.2)).mem_iff
        have lz : zs.length ≤ 60 := by rw [pz.length_eq]; omega
        rw [List.map_map]
        have s5 : Same H0 (upd H5 l (.lst (zs.map (Prod.fst ∘ fun z : Addr × Prs2 => (V.ref z.1, encL z.2))))) := fun b o h => by
          rw [upd_ne (ne_of_none (p4 _ _ h) nl)]
          exact p4 _ _ h
        have hl : (upd H5 l (.lst (zs.map (Prod.fst ∘ fun z : Addr × Prs2 => (V.ref z.1, encL z.2))))) l = some (.lst (zs.map fun z => V.ref z.1)) := upd_same
        have inZ2 : ∀ z ∈ zs, PrsIn (upd H5 l (.lst (zs.map (Prod.fst ∘ fun z : Addr × Prs2 => (V.ref z.1, encL z.2))))) z.1 z.2 := fun z hz => (inZ z hz).1.same (same_new nl)
        generalize upd H5 l (.lst (zs.map (Prod.fst ∘ fun z : Addr × Prs2 => (V.ref z.1, encL z.2)))) = Hz at s5 hl inZ2 ⊢
        have lD2 : l ≠ D2 := fun e => by
          rw [e, p4 _ _ hD2] at nl
          cases nl
        refine ⟨l, rfl, ⟨_, SqL.of hl⟩, ?_⟩
        refine for_it (L2.walk_list (K := K) (xs := zs.map fun z => V.ref z.1)) (fun i σ H6 => ∃ (v2 : Option V) (fs : List (Addr × Prs2)), σ = [some (.ref q), some (.ref D2), v2, none] ∧ H6 D2 = some (.lst (fs.map fun z => V.ref z.1)) ∧ (∀ z ∈ fs, z ∈ zs.take i) ∧
            (∀ z ∈ zs.take i, z.2 ∈ fs.map (·.2)) ∧ (fs.Pairwise fun a b => leM a.2 b.2 = true ∧ a.2 ≠ b.2) ∧ (∀ b o, b ≠ D2 → Hz b = some o → H6 b = some o))
          ⟨none, [], rfl, s5 _ _ hD2, fun z m => (nomatch m), fun z m => (nomatch m), .nil, fun _ _ _ h => h⟩ (fun i σ H6 hi p => let ⟨_, _, _, _, _, _, _, p6⟩ := p; SqL.of (p6 _ _ lD2 hl)) (fun i x σ H6 H7 hi p y => ?_) (fun σ H6 p => ?_)
        · obtain ⟨rfl, hx⟩ := y
          obtain ⟨v2, fs, rfl, p1, p2, p3, p4, p5⟩ := p
          rw [List.getElem?_map] at hx
          obtain ⟨z, hz, rfl⟩ := Option.map_eq_some_iff.mp hx
          have mz : z ∈ zs := List.mem_of_getElem? hz
          have inF : ∀ y ∈ fs, y ∈ zs := fun y hy => List.mem_of_mem_take (p2 y hy)
          have prs6 : ∀ y ∈ zs, PrsIn H7 y.1 y.2 := fun y hy => (inZ2 y hy).but (inZ y hy).2 (s5 _ _ hD2) p5
          have tk1 : zs.take (i + 1) = zs.take i ++ [z] := by
            rw [List.take_succ, hz]
            rfl
          have lf : fs.length ≤ 60 := by
            have e : (fs.map (·.2)).Nodup := by
              rw [List.Nodup, List.pairwise_map]
              exact List.Pairwise.imp (fun h => h.2) p4
            have := nodup_len (fs.map (·.2)) (zs.map (·.2)) e fun c hc => by
              obtain ⟨y, hy, rfl⟩ := List.mem_map.mp hc
              exact List.mem_map.mpr ⟨y, inF y hy, rfl⟩
            rw [List.length_map, List.length_map] at this
            omega
          refine ⟨_, rfl, (by show 0 ≤ sizeLine; decide), fun p0 n0 => ?_⟩
          have s8 : Same H7 (upd H7 p0 (.lst [])) := same_new n0
          have h0 : (upd H7 p0 (.lst [])) p0 = some (.lst []) := upd_same
          generalize upd H7 p0 (.lst []) = H8 at s8 h0 ⊢
          have prs8 : ∀ y ∈ zs, PrsIn H8 y.1 y.2 := fun y hy => (prs6 y hy).same s8
          have p1' := s8 _ _ p1
          refine ⟨.list ((fs.map (·.2)).map encL), .list [], .lst (SqL.of p1') ?_, .lst (SqL.of h0) .nil, shaped_encs fun m hm => ?_, by decide, _, rfl, ?_⟩
          · rw [List.map_map]
            exact dp_zips fun y hy => prs8 y (inF y hy)
          · obtain ⟨y, hy, rfl⟩ := List.mem_map.mp hm
            exact (okZ y (inF y hy)).okM
          have keep : ∀ (ys : List V) b o, b ≠ D2 → Hz b = some o → (upd H8 D2 (.lst ys)) b = some o := fun ys b o hb h => by
            rw [upd_ne hb]
            exact s8 _ _ (p5 b o hb h)
          -- laid behind the others
          have put : (∀ a ∈ fs, leM a.2 z.2 = true ∧ a.2 ≠ z.2) → ∀ (σ2 : List (Option V)), σ2 = [some (.ref q), some (.ref D2), some (.ref z.1), none] → ∃ (v2 : Option V) (gs : List (Addr × Prs2)), σ2 = [some (.ref q), some (.ref D2), v2, none] ∧ (upd H8 D2 (.lst ((fs.map fun z => V.ref z.1) ++ [V.ref z.1]))) D2 = some (.lst (gs.map fun z => V.ref z.1)) ∧ (∀ y ∈ gs, y ∈ zs.take (i + 1)) ∧
              (∀ y ∈ zs.take (i + 1), y.2 ∈ gs.map (·.2)) ∧ (gs.Pairwise fun a b => leM a.2 b.2 = true ∧ a.2 ≠ b.2) ∧ (∀ b o, b ≠ D2 → Hz b = some o → (upd H8 D2 (.lst ((fs.map fun z => V.ref z.1) ++ [V.ref z.1]))) b = some o) := fun fit σ2 e2 => by
            refine ⟨_, fs ++ [z], e2, by rw [upd_same, List.map_append]; rfl, fun y hy => ?_, fun y hy => ?_, ?_, keep _⟩
            · rw [tk1]
              rcases List.mem_append.mp hy with hy | hy
              · exact List.mem_append_left _ (p2 y hy)
              · exact List.mem_append_right _ hy
            · rw [tk1] at hy
              rw [List.map_append]
              rcases List.mem_append.mp hy with hy | hy
              · exact List.mem_append_left _ (p3 y hy)
              · exact List.mem_append_right _ (List.mem_map.mpr ⟨y, hy, rfl⟩)
            · refine List.pairwise_append.mpr ⟨p4, List.pairwise_singleton _ _, fun a ha b hb => ?_⟩
              rw [List.mem_singleton.mp hb]
              exact fit a ha
          rw [eqv_encs]
          rcases List.eq_nil_or_concat fs with e | ⟨g, lst, e⟩
          · subst e
            rw [decide_eq_true (by rfl)]
            refine iteT (iteT ?_)
            exact ⟨_, rfl, .inl ⟨rfl, _, SqL.of p1'⟩, _, rfl, D2, _, _, rfl, rfl, p1', by rw [List.length_map, sizeLine_eq]; omega, put (fun a ha => (nomatch ha)) _ rfl⟩
          · rw [List.concat_eq_append] at e
            rw [decide_eq_false (by rw [e]; simp)]
            refine iteF ?_
            have mL : lst ∈ fs := by rw [e]; simp
            have mLz : lst ∈ zs := inF lst mL
            have at9 : atI (fs.map fun z => V.ref z.1) (-1) = some (V.ref lst.1) := by
              rw [e, List.map_append]
              exact atI_last _ _
            refine ⟨_, rfl, 1, rfl, D2, _, -1, _, rfl, rfl, SqL.of p1', at9, _, rfl, encL lst.2, encL z.2, (prs8 lst mLz).dp, (prs8 z mz).dp, shaped_encL (okZ lst mLz).okM, shaped_encL (okZ z mz).okM, _, rfl, ?_⟩
            rw [eqv_encL]
            by_cases c : lst.2 = z.2
            · rw [decide_eq_true c]
              refine iteF ?_
              refine ⟨_, fs, rfl, p1', fun y hy => ?_, fun y hy => ?_, p4, fun b o hb h => s8 _ _ (p5 b o hb h)⟩
              · rw [tk1]
                exact List.mem_append_left _ (p2 y hy)
              · rw [tk1] at hy
                rcases List.mem_append.mp hy with hy | hy
                · exact p3 y hy
                · rw [List.mem_singleton.mp hy, ← c]
                  exact List.mem_map.mpr ⟨lst, mL, rfl⟩
            · rw [decide_eq_false c]
              refine iteT ?_
              have before : ∀ a ∈ fs, leM a.2 z.2 = true := fun a ha => by
                have hs : (zs.take i ++ [z]).Pairwise fun a b => leM a.2 b.2 = true := by
                  rw [← tk1]
                  exact up.sublist (List.take_sublist _ _)
                exact (List.pairwise_append.mp hs).2.2 a (p2 a ha) z (by simp)
              refine ⟨_, rfl, .inl ⟨rfl, _, SqL.of p1'⟩, _, rfl, D2, _, _, rfl, rfl, p1', by rw [List.length_map, sizeLine_eq]; omega, put (fun a ha => ⟨before a ha, fun e3 => c ?_⟩) _ rfl⟩
              have le2 : leM a.2 lst.2 = true := by
                rw [e] at ha p4
                rcases List.mem_append.mp ha with ha | ha
                · exact ((List.pairwise_append.mp p4).2.2 a ha lst (by simp)).1
                · rw [List.mem_singleton.mp ha] at e3 ⊢
                  exact absurd e3 c
              rw [e3] at le2
              exact leM_anti (before lst mL) le2
        · obtain ⟨v2, fs, rfl, p1, p2, p3, p4, p5⟩ := p
          rw [List.length_map, List.take_length] at p2 p3
          have ordd : Ordd maps (fs.map (·.2)) := by
            refine ⟨?_, ?_, fun c => ?_⟩
            · rw [List.pairwise_map]
              exact List.Pairwise.imp (fun h => h.1) p4
            · rw [List.Nodup, List.pairwise_map]
              exact List.Pairwise.imp (fun h => h.2) p4
            · rw [← memZ]
              constructor
              · intro h
                obtain ⟨y, hy, rfl⟩ := List.mem_map.mp h
                exact List.mem_map.mpr ⟨y, p2 y hy, rfl⟩
              · intro h
                obtain ⟨y, hy, rfl⟩ := List.mem_map.mp h
                exact p3 y hy
          have prsF : ∀ y ∈ fs, PrsIn H6 y.1 y.2 := fun y hy => (inZ2 y (p2 y hy)).but (inZ y (p2 y hy)).2 (s5 _ _ hD2) p5
          have lf : fs.length ≤ 60 := by
            have := nodup_len (fs.map (·.2)) (zs.map (·.2)) ordd.once fun c hc => by
              obtain ⟨y, hy, rfl⟩ := List.mem_map.mp hc
              exact List.mem_map.mpr ⟨y, p2 y hy, rfl⟩
            rw [List.length_map, List.length_map] at this
            omega
          have sH6 : Same H H6 := fun b o h => p5 b o (ne_of_none h nD2) (s5 _ _ (s0 _ _ h))
          refine ⟨_, rfl, D2, rfl, ⟨_, SqL.of p1⟩, fun D3 nD3 => ?_⟩
          refine lc_it walk_list (fun i H9 => ∃ ds : List Addr, H9 D3 = some (.lst (ds.map V.ref)) ∧ Paired (MapAt H9) ds ((fs.map (·.2)).take i) ∧ (∀ d ∈ ds, H d = none) ∧ Same H6 H9)
            ⟨[], upd_same, .nil, fun d m => (nomatch m), same_new nD3⟩ (fun i H9 hi p => let ⟨ds, _, _, _, p9⟩ := p; SqL.of (p9 _ _ p1)) (fun i x H9 HA hi p y => ?_) (fun H9 p => ?_)
          · obtain ⟨rfl, hx⟩ := y
            obtain ⟨ds, q1, q2, q3, q4⟩ := p
            rw [List.getElem?_map] at hx
            obtain ⟨u, hu2, rfl⟩ := Option.map_eq_some_iff.mp hx
            have mu : u ∈ fs := List.mem_of_getElem? hu2
            obtain ⟨tsu, pu⟩ := (prsF u mu).same q4
            have gu := okZ u (p2 u mu)
            refine ⟨rfl, ?_⟩
            dsimp only [tYes]
            rw [if_pos rfl]
            refine ⟨_, rfl, u.1, tsu, kd u.2, rfl, SqL.of pu.sq, prs_kd pu.each _, fun d nd9 => ?_⟩
            have dD : d ≠ D3 := fun e => by
              rw [e, q1] at nd9
              cases nd9
            have ldv : ds.length = min i fs.length := by
              have := Paired.length q2
              rwa [List.length_take, List.length_map] at this
            refine ⟨ds.map V.ref, by rw [upd_ne (Ne.symm dD)]; exact q1, by rw [List.length_map, sizeLine_eq]; omega, ds ++ [d], by rw [upd_same, List.map_append]; rfl, ?_, fun b hb => ?_, fun b o h => ?_⟩
            · have tk2 : (fs.map (·.2)).take (i + 1) = (fs.map (·.2)).take i ++ [u.2] := by
                rw [List.take_succ, List.getElem?_map, hu2]
                rfl
              rw [tk2]
              refine Paired.snoc (Paired.mapP q2 fun b c h => ?_) ?_
              · have hb : HA b = some (.dK (kd c)) := h
                have nb : b ≠ D3 := fun e => by
                  rw [e, q1] at hb
                  cases hb
                show (upd (upd HA d _) D3 _) b = _
                rw [upd_ne nb, upd_ne (ne_of_none hb nd9)]
                exact hb
              · show (upd (upd HA d _) D3 _) d = _
                rw [upd_ne dD, upd_same, mer_self gu.nd]
            · rcases List.mem_append.mp hb with hb | hb
              · exact q3 b hb
              · rw [List.mem_singleton.mp hb]
                exact none_of (fun b o h => q4 _ _ (sH6 _ _ h)) nd9
            · have h6 := q4 _ _ h
              rw [upd_ne (ne_of_none h nD3), upd_ne (ne_of_none h6 nd9)]
              exact h6
          · obtain ⟨ds, q1, q2, q3, q4⟩ := p
            rw [List.length_map, show fs.length = (fs.map (·.2)).length from (List.length_map ..).symm, List.take_length] at q2
            exact k H9 D3 ds _ (fun b o h => q4 _ _ (sH6 _ _ h)) (none_of sH6 nD3) q1 q2 q3 ordd
end
end L2.LawH
set_option Elab.async false
set_option linter.all false
set_option maxRecDepth 100000
set_option maxHeartbeats 4000000
/-! For _law_two: texts of a list that pass a test; what agrees, in numbers. -/
namespace L2.LawH
open PySem PySem.Spec PyProof.Rows L2.TxtDict L2.NSet PySem.W
theorem dp_strs {K : PySem.W.Frag} {H : Hp} : ∀ zs : List Str, DpAll K H (zs.map V.str) (zs.map PyData.str)
  | [] => .nil
  | z :: zs => .cons (.str z) (dp_strs zs)
theorem lay_strs : ∀ zs : List Str, (PyData.list (zs.map PyData.str)).canLay0 = (zs.all PyData.strOk)
  | [] => rfl
  | z :: zs => by
    have ih := lay_strs zs
    simp only [PyData.canLay0, PyData.canLayAll0, List.map_cons, List.all_cons] at ih ⊢
    rw [ih]
theorem depth_strs : ∀ zs : List Str, (PyData.list (zs.map PyData.str)).depth ≤ 2
  | [] => by decide
  | z :: zs => by
    have ih := depth_strs zs
    simp only [PyData.depth, PyData.depthAll, List.map_cons] at ih ⊢
    omega
theorem shaped_strs {zs : List Str} (h : ∀ z ∈ zs, PyData.strOk z = true) : SeqAt.shaped (.list (zs.map PyData.str)) = true := by
  unfold SeqAt.shaped
  rw [lay_strs, List.all_eq_true.mpr h, Bool.true_and]
  exact decide_eq_true (Nat.le_trans (depth_strs zs) (by decide))
theorem eqv_nil : ∀ zs : List Str, PyData.eqv (.list (zs.map PyData.str)) (.list []) = decide (zs = [])
  | [] => by decide
  | z :: zs => by simp [PyData.eqv, PyData.eqvAll]
theorem strs_same (K : PySem.W.Frag) (H : Hp) : ∀ zs : List Str, Paired (EqV K H 1) (zs.map V.str) (zs.map V.str)
  | [] => .nil
  | z :: zs => .cons (.inl ⟨rfl, rfl⟩) (strs_same K H zs)
section
variable {K : PySem.W.Frag} {l D : Addr} {zs : List Str} {tt : TT} {s0 s1 s2 s3 s4 s5 s6 s7 s8 s9 : Option V} {H1 : Hp} {Qd : Hp → Prop} {vs : List Nat}
theorem text_lc (f : Str → Bool) (hvs : vs = [5]) (nD : H1 D = none) (hl : H1 l = some (.lst (zs.map V.str))) (few : zs.length ≤ 100)
    (ht : ∀ z ∈ zs, ∀ (H5 : Hp) (R : Bool → Hp → Prop), Same H1 H5 → R (f z) H5 → tt [s0, s1, s2, s3, s4, some (.str z), s6, s7, s8, s9] H5 R)
    (hd : ∀ H5, Same H1 H5 → H5 D = some (.lst ((zs.filter f).map V.str)) → Qd H5) :
    ∃ W : Nat → Nat → Hp → Prop, (∃ m, W 0 m (upd H1 D (.lst []))) ∧ ∀ i m H, W i m H →
      ((Itl K l).stop i H ∧ Qd H) ∨ ((Itl K l).go i H ∧ ∃ Nx : Hp → Prop, (∀ H', Nx H' → ∃ m', m' < m ∧ W (i + 1) m' H') ∧ ∀ x H', (Itl K l).yld i H x H' → gName 5 x (wipe [s0, s1, s2, s3, s4, s5, s6, s7, s8, s9] vs) H' fun σ2 H2 => wipe σ2 vs = wipe [s0, s1, s2, s3, s4, s5, s6, s7, s8, s9] vs ∧ tt σ2 H2 fun b H3 =>
        if b = true then tVar 5 σ2 H3 fun y H4 => ∃ acc, H4 D = some (.lst acc) ∧ acc.length < sizeLine ∧ Nx (upd H4 D (.lst (acc ++ [y]))) else Nx H3) := by
  subst hvs
  refine lc_it L2.walk_list (fun i H5 => H5 D = some (.lst (((zs.take i).filter f).map V.str)) ∧ Same H1 H5) ⟨upd_same, same_new nD⟩ (fun i H5 hi p => SqL.of (p.2 _ _ hl)) (fun i x H5 H6 hi p y => ?_) (fun H5 p => ?_)
  · obtain ⟨rfl, hx⟩ := y
    obtain ⟨p1, p2⟩ := p
    rw [List.getElem?_map] at hx
    obtain ⟨z, hz, rfl⟩ := Option.map_eq_some_iff.mp hx
    have tk1 : zs.take (i + 1) = zs.take i ++ [z] := by
      rw [List.take_succ, hz]
      rfl
    refine ⟨rfl, ht z (List.mem_of_getElem? hz) _ _ p2 ?_⟩
    cases e : f z with
    | true =>
      refine iteT ⟨_, rfl, _, p1, ?_, ?_, fun b o h => ?_⟩
      · have := List.length_filter_le f (zs.take i)
        rw [List.length_take] at this
        rw [List.length_map, sizeLine_eq]
        omega
      · rw [upd_same, tk1, List.filter_append, List.map_append]
        simp [e]
      · rw [upd_ne (ne_of_none h nD)]
        exact p2 _ _ h
    | false =>
      refine iteF ⟨?_, p2⟩
      rw [p1, tk1, List.filter_append]
      simp [e]
  · obtain ⟨p1, p2⟩ := p
    rw [List.length_map, List.take_length] at p1
    exact hd H5 p2 p1
end
/-! ### what agrees -/
theorem filter_nil {zs : List Str} {f : Str → Bool} : decide (zs.filter f = []) = zs.all fun z => !f z := by
  rw [Bool.eq_iff_iff, decide_eq_true_iff, List.filter_eq_nil_iff, List.all_eq_true]
  simp
def badF (m1 m2 : Prs2) (z : Str) : Bool := !decide ((((look m2 z).map V.str).getD (((look m1 z).map V.str).getD .non)) = ((look m1 z).map V.str).getD .non)
theorem agree_iff {m1 m2 : Prs2} (n1 : (m1.map Prod.fst).Nodup) : decide ((m1.map Prod.fst).filter (badF m1 m2) = []) = agreeB m1 m2 := by
  rw [filter_nil, List.all_map]
  unfold agreeB
  rw [Bool.eq_iff_iff, List.all_eq_true, List.all_eq_true]
  refine forall_congr' fun p => forall_congr' fun hp => ?_
  have e1 := look_of n1 hp
  dsimp only [Function.comp]
  unfold badF
  rw [e1]
  cases e : look m2 p.1 with
  | none => simp
  | some v => simp [eq_comm]
theorem agree_sym {m1 m2 : Prs2} (n1 : (m1.map Prod.fst).Nodup) (n2 : (m2.map Prod.fst).Nodup) : agreeB m2 m1 = agreeB m1 m2 := by
  have key : ∀ {a b : Prs2}, (a.map Prod.fst).Nodup → (agreeB a b = true ↔ ∀ z u v, look a z = some u → look b z = some v → u = v) := fun {a b} na => by
    unfold agreeB
    rw [List.all_eq_true]
    constructor
    · intro h z u v h1 h2
      have := h (z, u) (look_mem h1)
      rw [h2] at this
      exact of_decide_eq_true this
    · intro h p hp
      cases e : look b p.1 with
      | none => rfl
      | some v => exact decide_eq_true (h _ _ _ (look_of na hp) e)
  rw [Bool.eq_iff_iff, key n2, key n1]
  exact ⟨fun h z u v h1 h2 => (h z v u h2 h1).symm, fun h z u v h1 h2 => (h z v u h2 h1).symm⟩
theorem agree_self {m : Prs2} (n : (m.map Prod.fst).Nodup) : agreeB m m = true := by
  unfold agreeB
  rw [List.all_eq_true]
  intro p hp
  rw [look_of n hp]
  exact decide_eq_true rfl
theorem above_self {m : Prs2} (n : (m.map Prod.fst).Nodup) : aboveB m m = true := by
  unfold aboveB
  rw [List.all_eq_true]
  intro p hp
  exact decide_eq_true (look_of n hp)
theorem above_nil (m : Prs2) : aboveB m [] = true := rfl
def lowF (m1 m2 : Prs2) (z : Str) : Bool := !decide (((look m1 z).map V.str).getD .non = ((look m2 z).map V.str).getD .non)
theorem above_iff {m1 m2 : Prs2} (n2 : (m2.map Prod.fst).Nodup) : decide ((m2.map Prod.fst).filter (lowF m1 m2) = []) = aboveB m1 m2 := by
  rw [filter_nil, List.all_map]
  unfold aboveB
  rw [Bool.eq_iff_iff, List.all_eq_true, List.all_eq_true]
  refine forall_congr' fun p => forall_congr' fun hp => ?_
  have e1 := look_of n2 hp
  dsimp only [Function.comp]
  unfold lowF
  rw [e1]
  cases e : look m1 p.1 with
  | none => simp
  | some v => simp
theorem both_mer {m1 m2 : Prs2} (n1 : (m1.map Prod.fst).Nodup) (n2 : (m2.map Prod.fst).Nodup) : canon (bothP m1 m2) = canon (merP m1 m2) :=
  canon_ext (both_nd m1 m2) (nd_mer n1) fun z => by rw [both_look n1 n2, look_mer m1 z n2]
theorem keys_kd (m : Prs2) : (kd m).map (fun kv => kV kv.1) = (m.map Prod.fst).map V.str := by
  unfold kd
  rw [List.map_map, List.map_map]
  rfl
theorem kd_same {m : Prs2} (n : (m.map Prod.fst).Nodup) : ∀ p ∈ kd m, valV (kd m) p.1 = some p.2 ∧ flatB p.2 = true := fun p hp => by
  obtain ⟨q, hq, rfl⟩ := List.mem_map.mp hp
  exact ⟨by rw [val_kd, look_of n hq]; rfl, rfl⟩
theorem encs_self (ms : List Prs2) : PyData.eqv (.list (ms.map encL)) (.list (ms.map encL)) = true := by
  rw [PyData.eqv]
  induction ms with
  | nil => simp [PyData.eqvAll]
  | cons m ms ih =>
    rw [List.map_cons, eqv_all_cons, ih, eqv_encL]
    simp
end L2.LawH
set_option Elab.async false
set_option linter.all false
set_option maxRecDepth 100000
set_option maxHeartbeats 8000000
/-! _law_two. -/
namespace L2.LawH
open PySem PySem.Spec PyProof.Rows L2.TxtDict L2.NSet PySem.W L2.LstNe
abbrev sTwo : Stmt := top 22
theorem ne_self (v : V) : (!decide (v = v)) = false := by simp
def spTwo : Sp := fun vs H Q _ => ∃ (a x y : Addr) (c : Int) (m : Nat) (m1 m2 : Prs2), vs = [.ref a, .ref x, .ref y] ∧ SrcAt H a c (m + 30) ∧ MapAt H x m1 ∧ Good m1 ∧ m1.length ≤ 10 ∧ MapAt H y m2 ∧ Good m2 ∧ m2.length ≤ 10 ∧
  ∀ H', SrcAt H' a c m → Keep a H H' → Q (.bl true) H'
section
variable {P : Program} {w : World} {K : PySem.W.Frag} {mg : Str → Option Value} {base : Heap}
abbrev nTw : List Str := ["_law_source_here", "_law_one", "_law_other", "_law_kept", "_law_fine", "_law_variable", "_law_above", "_law_both", "_law_some", "_law_told"]
theorem scTw : FnScope nTw ["_law_source_here", "_law_one", "_law_other"] (defScope sTwo) := ⟨rfl, rfl, rfl, by decide +kernel, rfl, by decide +kernel, by decide +kernel⟩
theorem ok_two {f fP fD fA fB fL fJ fO fI : Addr} {fd fdP fdD fdA fdB fdL fdJ fdO fdI : FuncData} (F : Fun K "_law_two" "_law_two" sTwo f fd)
    (GP : FnOk P w K mg base CX0 1 fP fdP ["_law_known"] spPrs) (kP : PySem.W.keepIn K (.ref fP) = true) (bP : Binds K fdP ["_law_known"] []) (mP : mg "_law_pairs" = some (.ref fP))
    (GD : FnOk P w K mg base CX0 1 fD fdD ["_law_source_here", "_law_limit"] spDraw) (kD : PySem.W.keepIn K (.ref fD) = true) (bD : Binds K fdD ["_law_source_here", "_law_limit"] []) (mD : mg "_law_draw" = some (.ref fD))
    (GA : FnOk P w K mg base CX0 1 fA fdA ["one", "other"] spAgree) (kA : PySem.W.keepIn K (.ref fA) = true) (bA : Binds K fdA ["one", "other"] []) (mA : mg "agree" = some (.ref fA))
    (GB : FnOk P w K mg base CX0 1 fB fdB ["one", "other"] spAbove) (kB : PySem.W.keepIn K (.ref fB) = true) (bB : Binds K fdB ["one", "other"] []) (mB : mg "is_above" = some (.ref fB))
    (GL : FnOk P w K mg base CX0 2 fL fdL ["_law_one", "_law_other"] spLJoin) (kL : PySem.W.keepIn K (.ref fL) = true) (bL : Binds K fdL ["_law_one", "_law_other"] []) (mL : mg "_law_joined" = some (.ref fL))
    (GJ : FnOk P w K mg base CX0 1 fJ fdJ ["one", "other"] spJoin) (kJ : PySem.W.keepIn K (.ref fJ) = true) (bJ : Binds K fdJ ["one", "other"] []) (mJ : mg "joined" = some (.ref fJ))
    (GO : FnOk P w K mg base CX0 1 fO fdO ["known", "variables"] spOnly) (kO : PySem.W.keepIn K (.ref fO) = true) (bO : Binds K fdO ["known", "variables"] []) (mO : mg "only_keys" = some (.ref fO))
    (GI : FnOk P w K mg base CX0 1 fI fdI ["several"] spOrder) (kI : PySem.W.keepIn K (.ref fI) = true) (bI : Binds K fdI ["several"] []) (mI : mg "in_order" = some (.ref fI))
    (ms : mg "sorted" = none) (ml : mg "list" = none) :
    FnOk P w K mg base CX0 3 f fd ["_law_source_here", "_law_one", "_law_other"] spTwo := by
  refine F.ok scTw (fun vs H Q E h => ?_) (fun cdv A outer s H vs Q E hr h => ?_)
  · obtain ⟨a, x, y, c, m, m1, m2, rfl, _⟩ := h
    rfl
  · obtain ⟨a, x, y, c, m, m1, m2, rfl, hs, hx, g1, l1, hy, g2, l2, k⟩ := h
    have hu1 := hu_of hr
    have hu := hr.units
    have hr1 : Room 1 _ := hr.mono (by decide)
    refine ⟨_, pss_cons (ps_set (i := 3) scTw.nd rfl (Or.inl rfl) (pe_lst (pa_cons (pe_call GP hr1 (by rfl) mP kP bP .nil pass0 (pa_cons (pv 1) pa_nil)) (pa_cons (pe_call GP hr1 (by rfl) mP kP bP .nil pass0 (pa_cons (pv 2) pa_nil)) pa_nil))))
      (pss_cons (ps_set (i := 4) scTw.nd rfl (Or.inl rfl) (pe_cmpR (op_eqDK (K := K) rfl hu) (pe_lc (own := [("_law_variable", 5)]) (g := gName 5) (tt := tTest (tOp rNe (tDGet2 (tVar 2) (tVar 5) (tDGet (tVar 1) (tVar 5))) (tDGet (tVar 1) (tVar 5)))) rfl scTw.nd
          (pi_list (pe_callTy (call_listD rfl) (by rfl) ml (by decide +kernel) (pa_cons (pv 1) pa_nil)))
          (blkOk_by (own := [("_law_variable", 5)]) (N := nTw) (sc := defScope sTwo) (by decide +kernel)) (fun _ _ _ _ _ => pg_name (i := 5) scTw.nd rfl (Or.inl rfl))
          (fun _ _ _ _ _ => pts_one (pt_cmpR op_ne (pe_dget2 hu1 (pv 2) (pv 5) (pe_dget hu1 (pv 1) (pv 5) (fun _ _ => rfl)) ⟨rfl, rfl, rfl, rfl⟩) (pe_dget hu1 (pv 1) (pv 5) (fun _ _ => rfl)) (nomark _)))
          (fun _ _ _ _ _ => pv 5)) (pe_lst pa_nil) (nomark _)))
      (pss_cons (ps_set (i := 6) scTw.nd rfl (Or.inl rfl) (pe_cmpR (op_eqDK (K := K) rfl hu) (pe_lc (own := [("_law_variable", 5)]) (g := gName 5) (tt := tTest (tOp rNe (tDGet1 (tVar 1) (tVar 5)) (tDGet (tVar 2) (tVar 5)))) rfl scTw.nd
          (pi_list (pe_callTy (call_listD rfl) (by rfl) ml (by decide +kernel) (pa_cons (pv 2) pa_nil)))
          (blkOk_by (own := [("_law_variable", 5)]) (N := nTw) (sc := defScope sTwo) (by decide +kernel)) (fun _ _ _ _ _ => pg_name (i := 5) scTw.nd rfl (Or.inl rfl))
          (fun _ _ _ _ _ => pts_one (pt_cmpR op_ne (pe_dget1 hu1 (pv 1) (pv 5) ⟨rfl, rfl, rfl, rfl⟩) (pe_dget hu1 (pv 2) (pv 5) (fun _ _ => rfl)) (nomark _)))
          (fun _ _ _ _ _ => pv 5)) (pe_lst pa_nil) (nomark _)))
      (pss_cons (ps_if (PW.pt (pw_or (pt_cmpR op_ne (pe_call GA hr1 (by rfl) mA kA bA .nil pass0 (pa_cons (pv 1) (pa_cons (pv 2) pa_nil))) (pv 4) (nomark _))
          (pw_or (pt_cmpR op_ne (pe_call GA hr1 (by rfl) mA kA bA .nil pass0 (pa_cons (pv 2) (pa_cons (pv 1) pa_nil))) (pv 4) (nomark _))
          (pw_or1 (pt_cmpR op_ne (pe_call GB hr1 (by rfl) mB kB bB .nil pass0 (pa_cons (pv 1) (pa_cons (pv 2) pa_nil))) (pv 6) (nomark _)))))) (pss_one (ps_ret pe_bl)) pss_nil)
      (pss_cons (ps_if (PW.pt (pw_or (pt_not (pt_truth (pe_call GB hr1 (by rfl) mB kB bB .nil pass0 (pa_cons (pv 1) (pa_cons pe_dnewK pa_nil))) (by intro _; rfl)))
          (pw_or (pt_not (pt_truth (pe_call GB hr1 (by rfl) mB kB bB .nil pass0 (pa_cons (pv 1) (pa_cons (pv 1) pa_nil))) (by intro _; rfl)))
          (pw_or1 (pt_not (pt_truth (pe_call GA hr1 (by rfl) mA kA bA .nil pass0 (pa_cons (pv 1) (pa_cons (pv 1) pa_nil))) (by intro _; rfl))))))) (pss_one (ps_ret pe_bl)) pss_nil)
      (pss_cons (ps_set (i := 7) scTw.nd rfl (Or.inl rfl) (pe_call GL hr (by rfl) mL kL bL .nil pass0 (pa_cons (pv 1) (pa_cons (pv 2) pa_nil))))
      (pss_cons (ps_if (PW.pt (pw_and (pt_truth (pv 4) (by intro _; rfl)) (pw_and1 (PW.pt (pw_or (pt_cmpR (op_ne_dictA (Nat.lt_of_succ_lt hu1)) (pe_call GJ hr1 (by rfl) mJ kJ bJ .nil pass0 (pa_cons (pv 1) (pa_cons (pv 2) pa_nil))) (pv 7) (nomark _))
          (pw_or1 (pt_cmpR (op_neVK (K := K) rfl hu) (pe_callTy (call_listD rfl) (by rfl) ml (by decide +kernel) (pa_cons (pe_call GJ hr1 (by rfl) mJ kJ bJ .nil pass0 (pa_cons (pv 1) (pa_cons (pv 2) pa_nil))) pa_nil))
            (pe_callB cr_sortedS (by rfl) ms (by decide +kernel) (pa_cons (pe_callTy (call_listD rfl) (by rfl) ml (by decide +kernel) (pa_cons (pv 7) pa_nil)) pa_nil)) (nomark _)))))))) (pss_one (ps_ret pe_bl)) pss_nil)
      (pss_cons (ps_set (i := 8) scTw.nd rfl (Or.inr rfl) (pe_op op_cat (pe_lc (own := [("_law_variable", 5)]) (g := gName 5) rfl scTw.nd
          (pi_list (pe_op op_cat (pe_callTy (call_listD rfl) (by rfl) ml (by decide +kernel) (pa_cons (pv 1) pa_nil)) (pe_callTy (call_listD rfl) (by rfl) ml (by decide +kernel) (pa_cons (pv 2) pa_nil))))
          (blkOk_by (own := [("_law_variable", 5)]) (N := nTw) (sc := defScope sTwo) (by decide +kernel)) (fun _ _ _ _ _ => pg_name (i := 5) scTw.nd rfl (Or.inl rfl))
          (fun _ _ _ _ _ => pts_one (pt_cmpR op_eq (pe_call GD hr1 (by rfl) mD kD bD .nil pass0 (pa_cons (pv 0) (pa_cons pe_int pa_nil))) pe_int (nomark _)))
          (fun _ _ _ _ _ => pv 5)) (pe_lst (pa_cons pe_str pa_nil))))
      (pss_cons (ps_set (i := 9) scTw.nd rfl (Or.inr rfl) (pe_call GO hr1 (by rfl) mO kO bO .nil pass0 (pa_cons (pv 1) (pa_cons (pv 8) pa_nil))))
      (pss_cons (ps_if (pt_cmpR (op_neVK (K := K) rfl hu) (pe_callTy (call_listD rfl) (by rfl) ml (by decide +kernel) (pa_cons (pv 9) pa_nil))
          (pe_lc (own := [("_law_variable", 5)]) (g := gName 5) (tt := tTest (tOp (rIn K false) (tVar 5) (tVar 8))) rfl scTw.nd (pi_list (pe_callB cr_sortedS (by rfl) ms (by decide +kernel) (pa_cons (pe_callTy (call_listD rfl) (by rfl) ml (by decide +kernel) (pa_cons (pv 1) pa_nil)) pa_nil)))
          (blkOk_by (own := [("_law_variable", 5)]) (N := nTw) (sc := defScope sTwo) (by decide +kernel)) (fun _ _ _ _ _ => pg_name (i := 5) scTw.nd rfl (Or.inl rfl))
          (fun _ _ _ _ _ => pts_one (pt_cmpR (op_inK rfl) (pv 5) (pv 8) (by rfl))) (fun _ _ _ _ _ => pv 5)) (nomark _)) (pss_one (ps_ret pe_bl)) pss_nil)
      (pss_cons (ps_if (pt_cmpR (op_neDK (K := K) rfl hu) (pe_lc (own := [("_law_variable", 5)]) (g := gName 5) (tt := tTest (tOp rNe (tDGet (tVar 9) (tVar 5)) (tDGet (tVar 1) (tVar 5)))) rfl scTw.nd
          (pi_list (pe_callTy (call_listD rfl) (by rfl) ml (by decide +kernel) (pa_cons (pv 9) pa_nil)))
          (blkOk_by (own := [("_law_variable", 5)]) (N := nTw) (sc := defScope sTwo) (by decide +kernel)) (fun _ _ _ _ _ => pg_name (i := 5) scTw.nd rfl (Or.inl rfl))
          (fun _ _ _ _ _ => pts_one (pt_cmpR op_ne (pe_dget hu1 (pv 9) (pv 5) (fun _ _ => rfl)) (pe_dget hu1 (pv 1) (pv 5) (fun _ _ => rfl)) (nomark _))) (fun _ _ _ _ _ => pv 5)) (pe_lst pa_nil) (nomark _)) (pss_one (ps_ret pe_bl)) pss_nil)
      (pss_cons (ps_for PassesOwn.never rfl (pi_list (pe_lst (pa_cons (pe_call GJ hr1 (by rfl) mJ kJ bJ .nil pass0 (pa_cons (pv 1) (pa_cons pe_dnewK pa_nil))) (pa_cons (pe_call GJ hr1 (by rfl) mJ kJ bJ .nil pass0 (pa_cons pe_dnewK (pa_cons (pv 1) pa_nil)))
          (pa_cons (pe_call GO hr1 (by rfl) mO kO bO .nil pass0 (pa_cons (pv 1) (pa_cons (pe_callTy (call_listD rfl) (by rfl) ml (by decide +kernel) (pa_cons (pv 1) pa_nil)) pa_nil)))
          (pa_cons (pe_ix ix_list (pe_call GI hr1 (by rfl) mI kI bI .nil pass0 (pa_cons (pe_lst (pa_cons (pv 1) pa_nil)) pa_nil)) pe_int (fun _ _ => rfl)) pa_nil)))))) (pg_name (i := 9) scTw.nd rfl (Or.inr rfl))
          (pss_one (ps_dput hu1 (pv 9) pe_str pe_str (by rfl))))
      (pss_one (ps_ret (pe_cmpR (op_eqDK (K := K) rfl hu) (pe_lst (pa_cons (pe_call GP hr1 (by rfl) mP kP bP .nil pass0 (pa_cons (pv 1) pa_nil)) (pa_cons (pe_call GP hr1 (by rfl) mP kP bP .nil pass0 (pa_cons (pv 2) pa_nil)) pa_nil))) (pv 3) (nomark _))))))))))))))), ?_⟩
    have few1 : (m1.map Prod.fst).length ≤ 100 := by rw [List.length_map]; omega
    have few2 : (m2.map Prod.fst).length ≤ 100 := by rw [List.length_map]; omega
    have okk1 : ∀ (f : Str → Bool), ∀ z ∈ (m1.map Prod.fst).filter f, PyData.strOk z = true := fun f z hz => by
      obtain ⟨p, hp, rfl⟩ := List.mem_map.mp (List.mem_filter.mp hz).1
      exact (g1.ok p hp).1
    have okk2 : ∀ (f : Str → Bool), ∀ z ∈ (m2.map Prod.fst).filter f, PyData.strOk z = true := fun f z hz => by
      obtain ⟨p, hp, rfl⟩ := List.mem_map.mp (List.mem_filter.mp hz).1
      exact (g2.ok p hp).1
    have key1 : ∀ z ∈ m1.map Prod.fst, ∃ v, look m1 z = some v := fun z hz => by
      obtain ⟨p, hp, rfl⟩ := List.mem_map.mp hz
      exact ⟨_, look_of g1.nd hp⟩
    have key2 : ∀ z ∈ m2.map Prod.fst, ∃ v, look m2 z = some v := fun z hz => by
      obtain ⟨p, hp, rfl⟩ := List.mem_map.mp hz
      exact ⟨_, look_of g2.nd hp⟩
    have get1 : ∀ {H5 : Hp}, MapAt H5 x m1 → ∀ z, DGet H5 x (.str z) ((look m1 z).map V.str) := fun h z => .inl ⟨kd m1, Sum.inr z, .inl h, rfl, (val_kd m1 z).symm⟩
    have get2 : ∀ {H5 : Hp}, MapAt H5 y m2 → ∀ z, DGet H5 y (.str z) ((look m2 z).map V.str) := fun h z => .inl ⟨kd m2, Sum.inr z, .inl h, rfl, (val_kd m2 z).symm⟩
    have isd : ∀ {H5 : Hp} {d : Addr} {mm : Prs2}, MapAt H5 d mm → IsD H5 d := fun h => .inl ⟨_, .inl h⟩
    refine ⟨_, rfl, x, m1, rfl, hx, g1.nd, g1.few, fun H1 p1 ts1 s1 np1 pr1 _ => ⟨_, rfl, y, m2, rfl, s1 _ _ hy, g2.nd, g2.few, fun H2 p2 ts2 s2 np2 pr2 _ => ⟨(by show 2 ≤ sizeLine; rw [sizeLine_eq]; decide), fun kp nkp => ?_⟩⟩⟩
    have s3 : Same H (upd H2 kp (.lst [.ref p1, .ref p2])) := fun b o h => by
      have h2 := s2 _ _ (s1 _ _ h)
      rw [upd_ne (ne_of_none h2 nkp)]
      exact h2
    have hk3 : (upd H2 kp (.lst [.ref p1, .ref p2])) kp = some (.lst [.ref p1, .ref p2]) := upd_same
    have q1 : PrsIn (upd H2 kp (.lst [.ref p1, .ref p2])) p1 (canon m1) := (show PrsIn H1 p1 (canon m1) from ⟨ts1, pr1⟩).same fun b o h => by
      have h2 := s2 _ _ h
      rw [upd_ne (ne_of_none h2 nkp)]
      exact h2
    have q2 : PrsIn (upd H2 kp (.lst [.ref p1, .ref p2])) p2 (canon m2) := (show PrsIn H2 p2 (canon m2) from ⟨ts2, pr2⟩).same (same_new nkp)
    generalize upd H2 kp (.lst [.ref p1, .ref p2]) = H3 at s3 hk3 q1 q2 ⊢
    have sa : ∃ xs, H a = some (.lst xs) := let ⟨_, _, e, _⟩ := hs; ⟨_, e⟩
    obtain ⟨xsa, hsa⟩ := sa
    have nxa : x ≠ a := fun e => by
      have h := hx
      rw [e] at h
      rw [show H a = some (.dK (kd m1)) from h] at hsa
      cases hsa
    have nya : y ≠ a := fun e => by
      have h := hy
      rw [e] at h
      rw [show H a = some (.dK (kd m2)) from h] at hsa
      cases hsa
    have npa1 : p1 ≠ a := hs.ne np1
    have npa2 : p2 ≠ a := hs.ne (none_of s1 np2)
    have nka : kp ≠ a := hs.ne (none_of (fun b o h => s2 _ _ (s1 _ _ h)) nkp)
    -- fine
    refine ⟨_, rfl, x, kd m1, rfl, .inl (s3 _ _ hx), fun lk nlk => ?_⟩
    rw [keys_kd]
    refine ⟨lk, rfl, ⟨_, SqL.of upd_same⟩, fun D nD => ?_⟩
    have s4 : Same H3 (upd H3 lk (.lst ((m1.map Prod.fst).map V.str))) := same_new nlk
    refine text_lc (badF m1 m2) rfl nD upd_same few1 (fun z hz H5 R s5 r => ?_) (fun H5 s5 hD => ?_)
    · obtain ⟨v1, e1⟩ := key1 z hz
      have hx5 : MapAt H5 x m1 := s5 _ _ (s4 _ _ (s3 _ _ hx))
      have hy5 : MapAt H5 y m2 := s5 _ _ (s4 _ _ (s3 _ _ hy))
      have gx := get1 hx5 z
      rw [e1] at gx
      refine ⟨_, rfl, y, rfl, isd hy5, _, rfl, _, rfl, _, rfl, x, .str v1, rfl, gx, _, get2 hy5 z, _, rfl, _, rfl, x, .str v1, rfl, gx, ?_, _, rfl, ?_⟩
      · cases look m2 z <;> rfl
      · unfold badF at r
        rw [e1] at r
        exact r
    have s6 : Same H3 H5 := fun b o h => s5 _ _ (s4 _ _ h)
    refine ⟨(by show 0 ≤ sizeLine; decide), fun p0 np0 => ⟨_, _, .lst (SqL.of ((same_new np0) _ _ hD)) (dp_strs _), .lst (SqL.of upd_same) .nil, shaped_strs (okk1 _), by decide, ?_⟩⟩
    rw [eqv_nil, agree_iff g1.nd]
    have s7 : Same H3 (upd H5 p0 (.lst [])) := fun b o h => (same_new np0) _ _ (s6 _ _ h)
    generalize upd H5 p0 (.lst []) = H7 at s7 ⊢
    have hx7 : MapAt H7 x m1 := s7 _ _ (s3 _ _ hx)
    have hy7 : MapAt H7 y m2 := s7 _ _ (s3 _ _ hy)
    clear s4 s5 s6 nD nlk hD np0
    -- above
    refine ⟨_, rfl, y, kd m2, rfl, .inl hy7, fun lk2 nlk2 => ?_⟩
    rw [keys_kd]
    refine ⟨lk2, rfl, ⟨_, SqL.of upd_same⟩, fun D2 nD2 => ?_⟩
    have s4 : Same H7 (upd H7 lk2 (.lst ((m2.map Prod.fst).map V.str))) := same_new nlk2
    refine text_lc (lowF m1 m2) rfl nD2 upd_same few2 (fun z hz H8 R s5 r => ?_) (fun H8 s5 hD => ?_)
    · obtain ⟨v2, e2⟩ := key2 z hz
      have hx5 : MapAt H8 x m1 := s5 _ _ (s4 _ _ hx7)
      have hy5 : MapAt H8 y m2 := s5 _ _ (s4 _ _ hy7)
      have gy := get2 hy5 z
      rw [e2] at gy
      refine ⟨_, rfl, x, rfl, isd hx5, _, rfl, _, get1 hx5 z, _, rfl, _, rfl, y, .str v2, rfl, gy, ?_, _, rfl, ?_⟩
      · cases look m1 z <;> rfl
      · unfold lowF at r
        rw [e2] at r
        exact r
    have s6 : Same H7 H8 := fun b o h => s5 _ _ (s4 _ _ h)
    refine ⟨(by show 0 ≤ sizeLine; decide), fun p0 np0 => ⟨_, _, .lst (SqL.of ((same_new np0) _ _ hD)) (dp_strs _), .lst (SqL.of upd_same) .nil, shaped_strs (okk2 _), by decide, ?_⟩⟩
    rw [eqv_nil, above_iff g2.nd]
    have s9 : Same H3 (upd H8 p0 (.lst [])) := fun b o h => (same_new np0) _ _ (s6 _ _ (s7 _ _ h))
    generalize upd H8 p0 (.lst []) = H9 at s9 ⊢
    have hx9 : MapAt H9 x m1 := s9 _ _ (s3 _ _ hx)
    have hy9 : MapAt H9 y m2 := s9 _ _ (s3 _ _ hy)
    clear s4 s5 s6 nD2 nlk2 hD np0 s7 hx7 hy7
    -- agree and above, as told
    refine ⟨_, rfl, _, rfl, x, y, m1, m2, rfl, hx9, g1, hy9, fun HA sA => ?_⟩
    refine ⟨_, rfl, rfl, _, rfl, ?_⟩
    rw [ne_self]
    refine iteF ?_
    refine ⟨_, rfl, _, rfl, y, x, m2, m1, rfl, sA _ _ hy9, g2, sA _ _ hx9, fun HB sB => ?_⟩
    rw [agree_sym g1.nd g2.nd]
    refine ⟨_, rfl, rfl, _, rfl, ?_⟩
    rw [ne_self]
    refine iteF ?_
    refine ⟨_, rfl, _, rfl, x, y, m1, m2, rfl, sB _ _ (sA _ _ hx9), sB _ _ (sA _ _ hy9), g2, fun HC sC => ?_⟩
    refine ⟨_, rfl, rfl, _, rfl, ?_⟩
    rw [ne_self]
    refine iteF ?_
    have s10 : Same H3 HC := fun b o h => sC _ _ (sB _ _ (sA _ _ (s9 _ _ h)))
    have hxC : MapAt HC x m1 := s10 _ _ (s3 _ _ hx)
    have hyC : MapAt HC y m2 := s10 _ _ (s3 _ _ hy)
    clear hx9 hy9 sA sB sC s9
    refine ⟨_, rfl, fun p np => ⟨x, p, m1, [], rfl, same_new np _ _ hxC, upd_same, good_nil, fun HD sD => ?_⟩⟩
    have s11 : Same H3 HD := fun b o h => sD _ _ (same_new np _ _ (s10 _ _ h))
    have hxD : MapAt HD x m1 := s11 _ _ (s3 _ _ hx)
    refine ⟨true, rfl, iteF ?_⟩
    refine ⟨_, rfl, _, rfl, x, x, m1, m1, rfl, hxD, hxD, g1, fun HE sE => ⟨true, ?_, iteF ?_⟩⟩
    · rw [above_self g1.nd]
      rfl
    refine ⟨_, rfl, _, rfl, x, x, m1, m1, rfl, sE _ _ hxD, g1, sE _ _ hxD, fun HG sG => ⟨true, ?_, iteF ?_⟩⟩
    · rw [agree_self g1.nd]
      rfl
    have s12 : Same H3 HG := fun b o h => sG _ _ (sE _ _ (s11 _ _ h))
    have hxG : MapAt HG x m1 := s12 _ _ (s3 _ _ hx)
    have hyG : MapAt HG y m2 := s12 _ _ (s3 _ _ hy)
    clear s10 s11 sE sG sD hxC hyC hxD np
    -- both
    refine ⟨_, rfl, _, rfl, x, y, m1, m2, rfl, hxG, g1.nd, hyG, g2.nd, by omega, fun HI dB sI nB hB => ?_⟩
    have s13 : Same H3 HI := fun b o h => sI _ _ (s12 _ _ h)
    have hxI : MapAt HI x m1 := s13 _ _ (s3 _ _ hx)
    have hyI : MapAt HI y m2 := s13 _ _ (s3 _ _ hy)
    have bm := both_mer g1.nd g2.nd
    have bnd : ((canon (merP m1 m2)).map Prod.fst).Nodup := canon_nd (nd_mer g1.nd)
    have blen : (canon (merP m1 m2)).length ≤ 20 := by
      have := len_mer m2 m1
      rw [canon_len]
      omega
    have bself : canon (canon (merP m1 m2)) = canon (merP m1 m2) := canon_canon (nd_mer g1.nd)
    rw [← bm] at hB
    rw [← bm] at bnd blen bself
    have hBn : dB ≠ x := fun e => by
      rw [e, show HG x = _ from hxG] at nB
      cases nB
    cases hag : agreeB m1 m2
    refine ⟨_, rfl, false, rfl, iteF (iteF ?_)⟩
    obtain ⟨HK, eHK, s15⟩ : ∃ HK, HK = HI ∧ Same HI HK := ⟨HI, rfl, fun _ _ h => h⟩
    rw [← eHK]
    clear eHK hag
    rotate_left
    refine ⟨_, rfl, true, rfl, iteT ?_⟩
    refine ⟨_, rfl, _, rfl, x, y, m1, m2, rfl, hxI, by omega, hyI, by omega, fun HJ dJ sJ nJ hJ => ?_⟩
    refine ⟨_, rfl, dJ, dB, _, _, rfl, rfl, hJ, sJ _ _ hB, rfl, kd_same bnd, _, rfl, iteF ?_⟩
    refine ⟨_, rfl, _, rfl, x, y, m1, m2, rfl, sJ _ _ hxI, by omega, sJ _ _ hyI, by omega, fun HL dL sL nL hL => ?_⟩
    refine ⟨dL, _, rfl, .inl hL, fun l nl => ?_⟩
    rw [keys_kd]
    have hl1 : (upd HL l (.lst (((canon (bothP m1 m2)).map Prod.fst).map V.str))) l = some (.lst (((canon (bothP m1 m2)).map Prod.fst).map V.str)) := upd_same
    have sl : Same HL (upd HL l (.lst (((canon (bothP m1 m2)).map Prod.fst).map V.str))) := same_new nl
    generalize upd HL l (.lst (((canon (bothP m1 m2)).map Prod.fst).map V.str)) = HM at hl1 sl ⊢
    refine ⟨_, rfl, dB, _, rfl, .inl (sl _ _ (sL _ _ (sJ _ _ hB))), fun l2 nl2 => ?_⟩
    rw [keys_kd]
    refine ⟨l2, _, rfl, SqL.of upd_same, by rw [List.length_map]; omega, fun ys p pm as np => ?_⟩
    have ek := keys_canon pm as
    rw [bself] at ek
    subst ek
    have sM : Same HM (upd HM l2 (.lst (((canon (bothP m1 m2)).map Prod.fst).map V.str))) := same_new nl2
    refine ⟨1, by decide, ⟨l, p, _, _, rfl, rfl, SqL.of (same_new np _ _ (sM _ _ hl1)), SqL.of upd_same, strs_same _ _ _⟩, _, rfl, iteF ?_⟩
    have s15 : Same HI (upd (upd HM l2 (.lst (((canon (bothP m1 m2)).map Prod.fst).map V.str))) p (.lst (((canon (bothP m1 m2)).map Prod.fst).map V.str))) := fun b o h => same_new np _ _ (sM _ _ (sl _ _ (sL _ _ (sJ _ _ h))))
    generalize upd (upd HM l2 (.lst (((canon (bothP m1 m2)).map Prod.fst).map V.str))) p (.lst (((canon (bothP m1 m2)).map Prod.fst).map V.str)) = HK at s15 ⊢
    clear hl1 sl sM np nl2 nl hL sL nL hJ sJ nJ pm as hag
    all_goals
      have s16 : Same H3 HK := fun b o h => s15 _ _ (s13 _ _ h)
      have hxK : MapAt HK x m1 := s16 _ _ (s3 _ _ hx)
      have hyK : MapAt HK y m2 := s16 _ _ (s3 _ _ hy)
      have srcK : SrcAt HK a c (m + 30) := (hs.same s3).same s16
      have q1K := q1.same s16
      have q2K := q2.same s16
      have hkK := s16 _ _ hk3
      clear s15 s13 s12 hxI hyI hxG hyG hB nB hBn bnd blen bself bm
      refine ⟨_, rfl, x, _, rfl, .inl hxK, fun la nla => ?_⟩
      rw [keys_kd]
      have ha1 : (upd HK la (.lst ((m1.map Prod.fst).map V.str))) la = some (.lst ((m1.map Prod.fst).map V.str)) := upd_same
      have sA : Same HK (upd HK la (.lst ((m1.map Prod.fst).map V.str))) := same_new nla
      generalize upd HK la (.lst ((m1.map Prod.fst).map V.str)) = HA at ha1 sA ⊢
      refine ⟨_, rfl, y, _, rfl, .inl (sA _ _ hyK), fun lb nlb => ?_⟩
      rw [keys_kd]
      have hb1 : (upd HA lb (.lst ((m2.map Prod.fst).map V.str))) lb = some (.lst ((m2.map Prod.fst).map V.str)) := upd_same
      have sB : Same HA (upd HA lb (.lst ((m2.map Prod.fst).map V.str))) := same_new nlb
      generalize upd HA lb (.lst ((m2.map Prod.fst).map V.str)) = HB at hb1 sB ⊢
      refine ⟨la, lb, _, _, rfl, rfl, sB _ _ ha1, hb1, by rw [List.length_map, List.length_map, List.length_map, List.length_map, sizeLine_eq]; omega, fun lc nlc => ?_⟩
      rw [← List.map_append]
      have hc1 : (upd HB lc (.lst ((m1.map Prod.fst ++ m2.map Prod.fst).map V.str))) lc = some (.lst ((m1.map Prod.fst ++ m2.map Prod.fst).map V.str)) := upd_same
      have sC : Same HK (upd HB lc (.lst ((m1.map Prod.fst ++ m2.map Prod.fst).map V.str))) := fun b o h => same_new nlc _ _ (sB _ _ (sA _ _ h))
      generalize upd HB lc (.lst ((m1.map Prod.fst ++ m2.map Prod.fst).map V.str)) = HC at hc1 sC ⊢
      refine ⟨lc, rfl, ⟨_, SqL.of hc1⟩, fun D nD => ?_⟩
      have nlca : lc ≠ a := srcK.ne (none_of (fun b o h => sB _ _ (sA _ _ h)) nlc)
      have nDa : D ≠ a := (srcK.same sC).ne nD
      have lbig : (m1.map Prod.fst ++ m2.map Prod.fst).length ≤ 20 := by
        rw [List.length_append, List.length_map, List.length_map]
        omega
      generalize m1.map Prod.fst ++ m2.map Prod.fst = big at hc1 lbig ⊢
      refine lc_it L2.walk_list (fun i H5 => ∃ zs : List Str, H5 D = some (.lst (zs.map V.str)) ∧ zs.length ≤ i ∧ SrcAt H5 a c (m + 30 - i) ∧ Keep a HC H5) ⟨[], upd_same, Nat.zero_le _, (srcK.same sC).same (same_new nD), Keep.of (same_new nD)⟩
        (fun i H5 hi p => let ⟨_, _, _, _, p4⟩ := p; SqL.of (p4 _ _ hc1 nlca)) (fun i z H5 H6 hi p yy => ?_) (fun H5 p => ?_)
      · obtain ⟨rfl, hz⟩ := yy
        obtain ⟨zs, z1, z2, z3, z4⟩ := p
        rw [List.length_map] at hi
        rw [List.getElem?_map] at hz
        obtain ⟨t, ht, rfl⟩ := Option.map_eq_some_iff.mp hz
        refine ⟨rfl, ?_⟩
        refine ⟨_, rfl, a, c, m + 30 - (i + 1), 2, rfl, z3.mono (by omega), by decide, by decide, fun r H7 r0 r1 s7 k7 => ⟨rfl, _, rfl, ?_⟩⟩
        refine ite2 (fun _ => ⟨_, rfl, _, k7 _ _ z1 nDa, by rw [List.length_map, sizeLine_eq]; omega, zs ++ [t], by rw [upd_same, List.map_append]; rfl, by rw [List.length_append, List.length_singleton]; omega, ?_, fun b o h nb => ?_⟩) (fun _ => ⟨zs, k7 _ _ z1 nDa, by omega, s7, z4.trans k7⟩)
        · obtain ⟨dd, n, e, f, b⟩ := s7
          exact ⟨dd, n, by rw [upd_ne (Ne.symm nDa)]; exact e, f, b⟩
        · rw [upd_ne (ne_of_none h nD)]
          exact k7 _ _ (z4 _ _ h nb) nb
      · obtain ⟨zs, z1, z2, z3, z4⟩ := p
        rw [List.length_map] at z2 z3
        have k5 : Keep a HK H5 := (Keep.of sC).trans z4
        have srcm : SrcAt H5 a c m := z3.mono (by omega)
        refine ⟨(by show 1 ≤ sizeLine; rw [sizeLine_eq]; decide), fun p0 np0 => ?_⟩
        have s6 : Same H5 (upd H5 p0 (.lst [.str (Str.ofString "?none")])) := same_new np0
        have h6 : (upd H5 p0 (.lst [.str (Str.ofString "?none")])) p0 = some (.lst [.str (Str.ofString "?none")]) := upd_same
        refine ⟨D, p0, _, _, rfl, rfl, s6 _ _ z1, h6, by rw [List.length_map, List.length_singleton, sizeLine_eq]; omega, fun lz nlz => ?_⟩
        rw [show (zs.map V.str ++ [V.str (Str.ofString "?none")]) = (zs ++ [Str.ofString "?none"]).map V.str by simp]
        generalize upd H5 p0 (.lst [.str (Str.ofString "?none")]) = H6 at s6 h6 nlz ⊢
        have lzq : (zs ++ [Str.ofString "?none"]).length ≤ 30 := by
          rw [List.length_append, List.length_singleton]
          omega
        generalize zs ++ [Str.ofString "?none"] = zq at lzq ⊢
        have h7 : (upd H6 lz (.lst (zq.map V.str))) lz = some (.lst (zq.map V.str)) := upd_same
        have s7 : Same H5 (upd H6 lz (.lst (zq.map V.str))) := fun b o h => same_new nlz _ _ (s6 _ _ h)
        generalize upd H6 lz (.lst (zq.map V.str)) = H7 at h7 s7 ⊢
        have k7 : Keep a HK H7 := k5.trans (Keep.of s7)
        have src7 : SrcAt H7 a c m := srcm.same s7
        have hx7 : MapAt H7 x m1 := k7 _ _ hxK nxa
        have hy7 : MapAt H7 y m2 := k7 _ _ hyK nya
        have hk7 := k7 _ _ hkK nka
        obtain ⟨xsK, haK⟩ : ∃ xs, HK a = some (.lst xs) := let ⟨_, _, e, _⟩ := srcK; ⟨_, e⟩
        have q17 : PrsIn H7 p1 (canon m1) := q1K.but npa1 haK (fun b o nb h => k7 _ _ h nb)
        have q27 : PrsIn H7 p2 (canon m2) := q2K.but npa2 haK (fun b o nb h => k7 _ _ h nb)
        have kH : Keep a H H7 := (Keep.of (fun b o h => s16 _ _ (s3 _ _ h))).trans k7
        clear s6 h6 np0 nlz z1 z2 z3 z4 k5 srcm s7 hc1 sC ha1 hb1 sA sB nla nlb nlc nD
        -- told
        refine ⟨_, rfl, _, rfl, x, lz, m1, zq, rfl, hx7, g1.nd, g1.few, h7, fun H8 dT s8 nT hT => ?_⟩
        have c1 := canon_nd g1.nd
        have look1 := fun z => look_canon g1.nd z
        have lenT : ((canon m1).filter fun p => decide (p.1 ∈ zq)).length ≤ 20 := by
          have h1 := List.length_filter_le (fun p : Str × Str => decide (p.1 ∈ zq)) (canon m1)
          rw [canon_len] at h1
          omega
        have ndT : (((canon m1).filter fun p => decide (p.1 ∈ zq)).map Prod.fst).Nodup := (List.filter_sublist.map _).nodup c1
        have keyT : ((canon m1).filter fun p => decide (p.1 ∈ zq)).map Prod.fst = ((canon m1).map Prod.fst).filter fun z => decide (z ∈ zq) := by
          rw [List.filter_map]
          rfl
        have lookT : ∀ z v, look ((canon m1).filter fun p => decide (p.1 ∈ zq)) z = some v → look m1 z = some v := fun z v h => by
          rw [← look1]
          exact look_of c1 (List.mem_filter.mp (look_mem h)).1
        generalize ((canon m1).filter fun p => decide (p.1 ∈ zq)) = mt at hT lenT ndT keyT lookT
        -- its keys
        refine ⟨_, rfl, dT, kd mt, rfl, .inl hT, fun l nl => ?_⟩
        rw [keys_kd]
        have hl1 : (upd H8 l (.lst ((mt.map Prod.fst).map V.str))) l = some (.lst ((mt.map Prod.fst).map V.str)) := upd_same
        have s9 : Same H8 (upd H8 l (.lst ((mt.map Prod.fst).map V.str))) := same_new nl
        generalize upd H8 l (.lst ((mt.map Prod.fst).map V.str)) = H9 at hl1 s9 ⊢
        refine ⟨_, rfl, x, _, rfl, .inl (s9 _ _ (s8 _ _ hx7)), fun l2 nl2 => ?_⟩
        rw [keys_kd]
        refine ⟨l2, m1.map Prod.fst, rfl, SqL.of upd_same, by rw [List.length_map]; omega, fun ys p pm as np => ?_⟩
        have ek := keys_canon pm as
        subst ek
        have s10 : Same H9 (upd (upd H9 l2 (.lst ((m1.map Prod.fst).map V.str))) p (.lst (((canon m1).map Prod.fst).map V.str))) := fun b o h => same_new np _ _ (same_new nl2 _ _ h)
        have h10 : (upd (upd H9 l2 (.lst ((m1.map Prod.fst).map V.str))) p (.lst (((canon m1).map Prod.fst).map V.str))) p = some (.lst (((canon m1).map Prod.fst).map V.str)) := upd_same
        generalize upd (upd H9 l2 (.lst ((m1.map Prod.fst).map V.str))) p (.lst (((canon m1).map Prod.fst).map V.str)) = H10 at s10 h10 ⊢
        refine ⟨p, rfl, ⟨_, SqL.of h10⟩, fun D3 nD3 => ?_⟩
        refine text_lc (fun z => decide (z ∈ zq)) rfl nD3 h10 (by rw [List.length_map, canon_len]; omega) (fun z hz H11 R s11 r => ?_) (fun H11 s11 hD3 => ?_)
        · refine ⟨_, rfl, _, rfl, lz, _, rfl, .inl (SqL.of (s11 _ _ (s10 _ _ (s9 _ _ (s8 _ _ h7))))), rfl, flat_strs zq, _, rfl, ?_⟩
          rw [if_neg Bool.false_ne_true, inV_strs]
          exact r
        refine ⟨1, by decide, ⟨l, D3, _, _, rfl, rfl, SqL.of (s11 _ _ (s10 _ _ hl1)), SqL.of hD3, by rw [keyT]; exact strs_same _ _ _⟩, _, rfl, iteF ?_⟩
        have s12 : Same H8 H11 := fun b o h => s11 _ _ (s10 _ _ (s9 _ _ h))
        clear s11 s10 s9 h10 hl1 hD3 nD3 np nl2 nl pm as
        -- its values
        refine ⟨_, rfl, dT, kd mt, rfl, .inl (s12 _ _ hT), fun l4 nl4 => ?_⟩
        rw [keys_kd]
        have s13 : Same H11 (upd H11 l4 (.lst ((mt.map Prod.fst).map V.str))) := same_new nl4
        have h13 : (upd H11 l4 (.lst ((mt.map Prod.fst).map V.str))) l4 = some (.lst ((mt.map Prod.fst).map V.str)) := upd_same
        generalize upd H11 l4 (.lst ((mt.map Prod.fst).map V.str)) = H12 at s13 h13 ⊢
        refine ⟨l4, rfl, ⟨_, SqL.of h13⟩, fun D4 nD4 => ?_⟩
        refine text_lc (fun _ => false) rfl nD4 h13 (by rw [List.length_map]; omega) (fun z hz H14 R s14 r => ?_) (fun H14 s14 hD4 => ?_)
        · obtain ⟨e, he, rfl⟩ := List.mem_map.mp hz
          have lt := look_of ndT he
          have lo := lookT _ _ lt
          have hT14 : MapAt H14 dT mt := s14 _ _ (s13 _ _ (s12 _ _ hT))
          have hx14 : MapAt H14 x m1 := s14 _ _ (s13 _ _ (s12 _ _ (s8 _ _ hx7)))
          refine ⟨_, rfl, _, rfl, dT, .str e.2, rfl, .inl ⟨kd mt, Sum.inr e.1, .inl hT14, rfl, by rw [val_kd, lt]; rfl⟩, _, rfl, _, rfl, x, .str e.2, rfl, .inl ⟨kd m1, Sum.inr e.1, .inl hx14, rfl, by rw [val_kd, lo]; rfl⟩, rfl, _, rfl, ?_⟩
          rw [ne_self]
          exact r
        rw [show ((mt.map Prod.fst).filter fun _ => false) = [] by simp] at hD4
        refine ⟨(by show 0 ≤ sizeLine; decide), fun p5 np5 => ⟨.list [], .list [], .lst (SqL.of (same_new np5 _ _ hD4)) .nil, .lst (SqL.of upd_same) .nil, by decide, by decide, _, rfl, ?_⟩⟩
        rw [show (!PyData.eqv (.list []) (.list [])) = false by decide]
        refine iteF ?_
        have s15 : Same H7 (upd H14 p5 (.lst [])) := fun b o h => same_new np5 _ _ (s14 _ _ (s13 _ _ (s12 _ _ (s8 _ _ h))))
        have nTH : H7 dT = none := nT
        generalize upd H14 p5 (.lst []) = H15 at s15 ⊢
        clear s14 s13 s12 nD4 hD4 np5 nl4 h13
        have hx15 : MapAt H15 x m1 := s15 _ _ hx7
        have hy15 : MapAt H15 y m2 := s15 _ _ hy7
        have hk15 := s15 _ _ hk7
        have q115 := q17.same s15
        have q215 := q27.same s15
        have src15 := src7.same s15
        have kH15 : Keep a H H15 := kH.trans (Keep.of s15)
        clear s15 nTH hx7 hy7 hk7 q17 q27 src7 kH
        refine ⟨_, rfl, fun p np => ⟨x, p, m1, [], rfl, same_new np _ _ hx15, by omega, upd_same, by decide, fun HA dA sA nA hA => ?_⟩⟩
        have tA : Same H15 HA := fun b o h => sA _ _ (same_new np _ _ h)
        refine fun p3 np3 => ⟨_, rfl, p3, x, [], m1, rfl, upd_same, by decide, same_new np3 _ _ (tA _ _ hx15), by omega, fun HB dB2 sB nB2 hB2 => ?_⟩
        have tB : Same HA HB := fun b o h => sB _ _ (same_new np3 _ _ h)
        have tB' : Same H15 HB := fun b o h => tB _ _ (tA _ _ h)
        refine ⟨_, rfl, _, rfl, x, _, rfl, .inl (tB' _ _ hx15), fun l6 nl6 => ?_⟩
        rw [keys_kd]
        refine ⟨x, l6, m1, m1.map Prod.fst, rfl, same_new nl6 _ _ (tB' _ _ hx15), g1.nd, g1.few, upd_same, fun HC2 dC sC2 nC hC => ?_⟩
        have tC2 : Same HB HC2 := fun b o h => sC2 _ _ (same_new nl6 _ _ h)
        have tC' : Same H15 HC2 := fun b o h => tC2 _ _ (tB' _ _ h)
        refine ⟨_, rfl, (by show 1 ≤ sizeLine; rw [sizeLine_eq]; decide), fun lq nlq => ?_⟩
        refine ⟨lq, [x], [m1], rfl, .inl upd_same, .cons (same_new nlq _ _ (tC' _ _ hx15)) .nil, fun mm hm => by rw [List.mem_singleton.mp hm]; exact g1, by simp, fun HE lE dsE csE sE nE hE prE ndE ordd => ?_⟩
        have tE : Same HC2 HE := fun b o h => sE _ _ (same_new nlq _ _ h)
        have tE' : Same H15 HE := fun b o h => tE _ _ (tC' _ _ h)
        have hc : canon m1 ∈ csE := (ordd.mem _).mpr (by simp)
        obtain ⟨d0, ds0, c0, e0, z0, at0⟩ : ∃ d0 ds0 c0, dsE = d0 :: ds0 ∧ c0 ∈ csE ∧ MapAt HE d0 c0 := by
          cases prE with
          | nil => cases hc
          | cons r t => exact ⟨_, _, _, rfl, List.mem_cons_self, r⟩
        have ec0 : c0 = canon m1 := by
          have := (ordd.mem _).mp z0
          simpa using this
        have n0 := ndE d0 (by rw [e0]; exact List.mem_cons_self)
        refine ⟨lE, _, 0, V.ref d0, rfl, rfl, SqL.of hE, atI_nat (j := 0) (by rw [e0]; rfl), (by show 4 ≤ sizeLine; rw [sizeLine_eq]; decide), fun lf nlf => ?_⟩
        have tF : Same HE (upd HE lf (.lst [.ref dA, .ref dB2, .ref dC, .ref d0])) := same_new nlf
        have hf : (upd HE lf (.lst [.ref dA, .ref dB2, .ref dC, .ref d0])) lf = some (.lst [.ref dA, .ref dB2, .ref dC, .ref d0]) := upd_same
        generalize upd HE lf (.lst [.ref dA, .ref dB2, .ref dC, .ref d0]) = HF at tF hf ⊢
        have tF' : Same H15 HF := fun b o h => tF _ _ (tE' _ _ h)
        have fr : ∀ d ∈ [dA, dB2, dC, d0], H15 d = none ∧ ∃ mm : Prs2, MapAt HF d mm ∧ mm.length ≤ 40 := fun d hd => by
          simp only [List.mem_cons, List.not_mem_nil, or_false] at hd
          rcases hd with rfl | rfl | rfl | rfl
          · refine ⟨none_of (same_new np) nA, _, tF _ _ (tE _ _ (tC2 _ _ (tB _ _ hA))), ?_⟩
            have := both_len m1 []
            rw [canon_len]
            simp only [List.length_nil] at this
            omega
          · refine ⟨none_of tA (none_of (same_new np3) nB2), _, tF _ _ (tE _ _ (tC2 _ _ hB2)), ?_⟩
            have := both_len [] m1
            rw [canon_len]
            simp only [List.length_nil] at this
            omega
          · refine ⟨none_of tB' (none_of (same_new nl6) nC), _, tF _ _ (tE _ _ hC), ?_⟩
            have := List.length_filter_le (fun p : Str × Str => decide (p.1 ∈ m1.map Prod.fst)) (canon m1)
            rw [canon_len] at this
            omega
          · refine ⟨none_of tC' (none_of (same_new nlq) n0), c0, tF _ _ at0, ?_⟩
            rw [ec0, canon_len]
            omega
        have out : ∀ b o, H15 b = some o → b ∉ [dA, dB2, dC, d0] := fun b o h hb => by
          rw [(fr b hb).1] at h
          cases h
        have lfn : lf ∉ [dA, dB2, dC, d0] := fun hb => by
          obtain ⟨_, mm, h, _⟩ := fr lf hb
          rw [show HF lf = some (.dK (kd mm)) from h] at hf
          cases hf
        have frm : ∀ d ∈ [dA, dB2, dC, d0], ∃ mm : Prs2, MapAt HF d mm ∧ mm.length ≤ 40 := fun d hd => (fr d hd).2
        have exs : ([.ref dA, .ref dB2, .ref dC, .ref d0] : List V) = [dA, dB2, dC, d0].map V.ref := rfl
        rw [exs] at hf
        refine ⟨lf, rfl, ⟨_, SqL.of hf⟩, ?_⟩
        have lfour : [dA, dB2, dC, d0].length = 4 := rfl
        clear tF tE tC2 tB tA sA sB sC2 sE np np3 nl6 nlq nlf nA nB2 nC n0 hA hB2 hC hE prE ndE ordd hc z0 at0 ec0 tB' tC' tE' exs
        generalize [dA, dB2, dC, d0] = fs at hf fr frm out lfn lfour
        refine for_it (L2.walk_list (K := K) (xs := fs.map V.ref)) (fun i σ H5 => ∃ v4 v6 v7 v8 v9 : Option V, σ = [some (.ref a), some (.ref x), some (.ref y), some (.ref kp), v4, none, v6, v7, v8, v9] ∧ (∀ b o, b ∉ fs → HF b = some o → H5 b = some o) ∧ ∀ d ∈ fs, ∃ mm : Prs2, MapAt H5 d mm ∧ mm.length ≤ 40 + i)
          ⟨_, _, _, _, _, rfl, fun _ _ _ h => h, frm⟩ (fun i σ H5 hi p => let ⟨_, _, _, _, _, _, p2, _⟩ := p; SqL.of (p2 _ _ lfn hf)) (fun i z σ H5 H6 hi p yy => ?_) (fun σ H5 p => ?_)
        · obtain ⟨rfl, hz⟩ := yy
          obtain ⟨v4, v6, v7, v8, v9, rfl, r2, r3⟩ := p
          rw [List.getElem?_map] at hz
          obtain ⟨d, hd, rfl⟩ := Option.map_eq_some_iff.mp hz
          have md := List.mem_of_getElem? hd
          obtain ⟨mm, hmm, lmm⟩ := r3 d md
          have lfs : i < fs.length := (List.getElem?_eq_some_iff.mp hd).1
          have ll : (kd mm).length < sizeLine := by
            rw [TxtDict.kd_len, sizeLine_eq]
            omega
          refine ⟨_, rfl, d, _, rfl, DPut.k (k := Sum.inr (Str.ofString "?none")) hmm ll, v4, v6, v7, v8, some (.ref d), rfl, fun b o nb h => ?_, fun d2 hd2 => ?_⟩
          · rw [upd_ne (fun e => nb (by rw [e]; exact md))]
            exact r2 b o nb h
          · by_cases e : d2 = d
            · subst e
              refine ⟨putP mm (Str.ofString "?none") (Str.ofString "a"), ?_, ?_⟩
              · show (upd _ d2 _) d2 = _
                rw [upd_same, kd_put]
              · have := len_put mm (Str.ofString "?none") (Str.ofString "a")
                omega
            · obtain ⟨m3, h3, l3⟩ := r3 d2 hd2
              refine ⟨m3, ?_, by omega⟩
              show (upd _ d _) d2 = _
              rw [upd_ne e]
              exact h3
        · obtain ⟨v4, v6, v7, v8, v9, rfl, r2, r3⟩ := p
          have s5 : Same H15 H5 := fun b o h => r2 _ _ (out _ _ h) (tF' _ _ h)
          refine ⟨_, rfl, x, m1, rfl, s5 _ _ hx15, g1.nd, g1.few, fun HG p8 ts8 s8 np8 pr8 _ => ⟨_, rfl, y, m2, rfl, s8 _ _ (s5 _ _ hy15), g2.nd, g2.few, fun HI p9 ts9 s9 np9 pr9 _ => ⟨(by show 2 ≤ sizeLine; rw [sizeLine_eq]; decide), fun kq nkq => ?_⟩⟩⟩
          have u9 : Same HI (upd HI kq (.lst [.ref p8, .ref p9])) := same_new nkq
          have all : Same H15 (upd HI kq (.lst [.ref p8, .ref p9])) := fun b o h => u9 _ _ (s9 _ _ (s8 _ _ (s5 _ _ h)))
          have w8 : PrsIn (upd HI kq (.lst [.ref p8, .ref p9])) p8 (canon m1) := (show PrsIn HG p8 (canon m1) from ⟨ts8, pr8⟩).same fun b o h => u9 _ _ (s9 _ _ h)
          have w9 : PrsIn (upd HI kq (.lst [.ref p8, .ref p9])) p9 (canon m2) := (show PrsIn HI p9 (canon m2) from ⟨ts9, pr9⟩).same u9
          have okm : ∀ mm ∈ [canon m1, canon m2], OkM mm := fun mm hm => by
            simp only [List.mem_cons, List.not_mem_nil, or_false] at hm
            rcases hm with rfl | rfl
            · exact (canon_good g1).okM
            · exact (canon_good g2).okM
          refine ⟨_, rfl, .list ([canon m1, canon m2].map encL), .list ([canon m1, canon m2].map encL), .lst (SqL.of upd_same) (.cons w8.dp (.cons w9.dp .nil)), .lst (SqL.of (all _ _ hk15)) (.cons (q115.same all).dp (.cons (q215.same all).dp .nil)), shaped_encs okm, shaped_encs okm, ?_⟩
          rw [encs_self]
          exact k _ (src15.same all) (kH15.trans (Keep.of all))
end
end L2.LawH
set_option Elab.async false
set_option linter.all false
set_option maxRecDepth 100000
set_option maxHeartbeats 4000000
/-! For the law on maps: maps reversed, lists of maps equal, the list of several maps. -/
namespace L2.LawH
open PySem PySem.Spec PyProof.Rows L2.TxtDict L2.NSet PySem.W
open Builtin.Int (intBits)
theorem cutV_to (xs : List V) (k : Nat) : cutV xs none (some (k : Int)) = xs.take k := by
  unfold cutV
  rw [HT.sIx_nat, HT.sIx_none, List.drop_zero, Nat.sub_zero]
  rcases Nat.le_total k xs.length with h | h
  · rw [Nat.min_eq_left h]
  · rw [Nat.min_eq_right h, List.take_of_length_le (Nat.le_refl _), List.take_of_length_le h]
theorem cut_ints {ns : List Int} (hb : ∀ z ∈ ns, intBits z ≤ 1048576) {i : Nat} {v : V} (lo hi : Option Int)
    (h : (cutV (ns.map V.int) lo hi ++ [V.int 0])[i]? = some v) : ∃ z, v = .int z ∧ intBits z ≤ 1048576 := by
  have hm := List.mem_of_getElem? h
  rcases List.mem_append.mp hm with q | q
  · have q2 : v ∈ ns.map V.int := List.mem_of_mem_drop (List.mem_of_mem_take q)
    obtain ⟨z, hz, rfl⟩ := List.mem_map.mp q2
    exact ⟨z, rfl, hb z hz⟩
  · have q2 : v = .int 0 := by simpa using q
    exact ⟨0, q2, by decide⟩
theorem paired_rev {α β : Type} {F : α → β → Prop} : ∀ {l : List α} {m : List β}, Paired F l m → Paired F l.reverse m.reverse
  | _, _, .nil => .nil
  | _, _, .cons r t => by
    rw [List.reverse_cons, List.reverse_cons]
    exact Paired.snoc (paired_rev t) r
theorem paired_app {α β : Type} {F : α → β → Prop} : ∀ {l : List α} {m : List β} {l2 : List α} {m2 : List β}, Paired F l m → Paired F l2 m2 → Paired F (l ++ l2) (m ++ m2)
  | _, _, _, _, .nil, h => h
  | _, _, _, _, .cons r t, h => .cons r (paired_app t h)
theorem paired_take {α β : Type} {F : α → β → Prop} : ∀ {l : List α} {m : List β} (n : Nat), Paired F l m → Paired F (l.take n) (m.take n)
  | _, _, 0, _ => by simpa using Paired.nil
  | _, _, _ + 1, .nil => .nil
  | _, _, n + 1, .cons r t => .cons r (paired_take n t)
theorem good_rev {m : Prs2} (g : Good m) : Good m.reverse := by
  refine ⟨?_, by rw [List.length_reverse]; exact g.few, fun p h => g.ok p (List.mem_reverse.mp h)⟩
  rw [List.map_reverse]
  exact (List.reverse_perm _).nodup_iff.mpr g.nd
theorem kd_rev (m : Prs2) : (kd m).reverse = kd m.reverse := by
  unfold kd
  rw [List.map_reverse]
theorem map_keep {H H' : Hp} {a d : Addr} {c : Int} {n : Nat} {m : Prs2} (h : MapAt H d m) (s : SrcAt H a c n) (k : Keep a H H') : MapAt H' d m := by
  refine k _ _ h fun e => ?_
  obtain ⟨x, y, e2, _⟩ := s
  rw [← e, show H d = some (.dK (kd m)) from h] at e2
  cases e2
theorem maps_keep {H H' : Hp} {a : Addr} {c : Int} {n : Nat} {ts : List Addr} {ms : List Prs2} (h : Paired (MapAt H) ts ms) (s : SrcAt H a c n) (k : Keep a H H') : Paired (MapAt H') ts ms :=
  Paired.mapP h fun _ _ e => map_keep e s k
theorem maps_same {H H' : Hp} {ts : List Addr} {ms : List Prs2} (h : Paired (MapAt H) ts ms) (s : Same H H') : Paired (MapAt H') ts ms := Paired.mapP h fun _ _ e => s _ _ e
theorem map_eqv {K : PySem.W.Frag} {H : Hp} {d e : Addr} {m m' : Prs2} (n : (m.map Prod.fst).Nodup) (n' : (m'.map Prod.fst).Nodup) (l : m.length = m'.length) (hd : MapAt H d m) (he : MapAt H e m') (q : ∀ z, look m z = look m' z) : EqV K H 2 (.ref d) (.ref e) := by
  refine .inr (.inr (.inr ⟨d, e, kd m, kd m', rfl, rfl, hd, he, by rw [TxtDict.kd_len, TxtDict.kd_len, l], fun p hp => ?_⟩))
  obtain ⟨r, hr, rfl⟩ := List.mem_map.mp hp
  exact ⟨.str r.2, by rw [val_kd, ← q, look_of n hr]; rfl, .inl ⟨rfl, rfl⟩⟩
theorem maps_eqv {K : PySem.W.Frag} {H : Hp} : ∀ {ds es : List Addr} {cs : List Prs2}, Paired (MapAt H) ds cs → Paired (MapAt H) es cs → (∀ c ∈ cs, (c.map Prod.fst).Nodup) → Paired (EqV K H 2) (ds.map V.ref) (es.map V.ref)
  | _, _, _, .nil, .nil, _ => .nil
  | _, _, _, .cons r t, .cons r' t', n => .cons (map_eqv (n _ List.mem_cons_self) (n _ List.mem_cons_self) rfl r r' fun _ => rfl) (maps_eqv t t' fun c h => n c (List.mem_cons_of_mem _ h))
theorem Ordd.nd {ms cs : List Prs2} (h : Ordd ms cs) (g : ∀ m ∈ ms, Good m) : ∀ c ∈ cs, (c.map Prod.fst).Nodup := fun c hc => by
  obtain ⟨m, hm, rfl⟩ := List.mem_map.mp ((h.mem c).mp hc)
  exact canon_nd (g m hm).nd
theorem Ordd.len {ms cs : List Prs2} (h : Ordd ms cs) : cs.length ≤ ms.length := by
  have := nodup_len cs (ms.map canon) h.once fun c hc => (h.mem c).mp hc
  rwa [List.length_map] at this
theorem Ordd.nil {cs : List Prs2} (h : Ordd [] cs) : cs = [] := by
  cases cs with
  | nil => rfl
  | cons c cs => exact absurd ((h.mem c).mp List.mem_cons_self) (by simp)
theorem Ordd.asc {ms cs : List Prs2} (h : Ordd ms cs) : ∀ c ∈ cs, sortedS (c.map Prod.fst) = true := fun c hc => by
  obtain ⟨m, hm, rfl⟩ := List.mem_map.mp ((h.mem c).mp hc)
  exact canon_asc m
/-- the list of the maps ms at s, outside the source -/
structure SevAt (a : Addr) (H : Hp) (s : Addr) (ts : List Addr) (ms : List Prs2) : Prop where
  sq : H s = some (.lst (ts.map V.ref))
  na : s ≠ a
  each : Paired (MapAt H) ts ms
  good : ∀ m ∈ ms, Good m ∧ m.length ≤ 10
theorem SevAt.keep {a s : Addr} {H H' : Hp} {ts : List Addr} {ms : List Prs2} {c : Int} {n : Nat} (h : SevAt a H s ts ms) (src : SrcAt H a c n) (k : Keep a H H') : SevAt a H' s ts ms := ⟨k _ _ h.sq h.na, h.na, maps_keep h.each src k, h.good⟩
theorem SevAt.same {a s : Addr} {H H' : Hp} {ts : List Addr} {ms : List Prs2} (h : SevAt a H s ts ms) (k : Same H H') : SevAt a H' s ts ms := ⟨k _ _ h.sq, h.na, maps_same h.each k, h.good⟩
theorem SevAt.more {a s q d e : Addr} {H : Hp} {ts : List Addr} {ms : List Prs2} {m1 m2 : Prs2} (h : SevAt a H s ts ms) (hd : MapAt H d m1) (he : MapAt H e m2) (g1 : Good m1) (l1 : m1.length ≤ 10) (g2 : Good m2) (l2 : m2.length ≤ 10) (n : Nat)
    (hq : H q = some (.lst (ts.map V.ref ++ [.ref d, .ref e] ++ [V.ref d].take n))) (na : q ≠ a) : SevAt a H q (ts ++ [d, e] ++ [d].take n) (ms ++ [m1, m2] ++ [m1].take n) := by
  refine ⟨?_, na, paired_app (paired_app h.each (.cons hd (.cons he .nil))) (paired_take n (.cons hd .nil)), fun m hm => ?_⟩
  · rw [hq, List.map_append, List.map_append, List.map_take]
    rfl
  · rcases List.mem_append.mp hm with hm | hm
    · rcases List.mem_append.mp hm with hm | hm
      · exact h.good m hm
      · simp only [List.mem_cons, List.not_mem_nil, or_false] at hm
        rcases hm with rfl | rfl
        · exact ⟨g1, l1⟩
        · exact ⟨g2, l2⟩
    · rw [List.mem_singleton.mp (List.mem_of_mem_take hm)]
      exact ⟨g1, l1⟩
theorem SevAt.len {a s : Addr} {H : Hp} {ts : List Addr} {ms : List Prs2} (h : SevAt a H s ts ms) : ts.length = ms.length := Paired.length h.each
section
variable {K : PySem.W.Frag} {l D : Addr} {ts : List Addr} {ms : List Prs2} {s0 s1 s2 s3 s4 s5 s6 s7 s8 s9 s10 : Option V} {H1 : Hp} {Qd : Hp → Prop} {vs : List Nat}
/-- [_law_pairs(known) for known in several] -/
theorem prs_lc (hvs : vs = [10]) (nD : H1 D = none) (hl : H1 l = some (.lst (ts.map V.ref))) (pr : Paired (MapAt H1) ts ms) (good : ∀ m ∈ ms, Good m) (few : ms.length ≤ 60)
    (hd : ∀ (H5 : Hp) (ls : List (Addr × Prs2)), Same H1 H5 → H5 D = some (.lst (ls.map fun z => V.ref z.1)) → ls.map (·.2) = ms.map canon → (∀ z ∈ ls, PrsIn H5 z.1 z.2) → Qd H5) :
    ∃ W : Nat → Nat → Hp → Prop, (∃ m, W 0 m (upd H1 D (.lst []))) ∧ ∀ i m H, W i m H →
      ((Itl K l).stop i H ∧ Qd H) ∨ ((Itl K l).go i H ∧ ∃ Nx : Hp → Prop, (∀ H', Nx H' → ∃ m', m' < m ∧ W (i + 1) m' H') ∧ ∀ x H', (Itl K l).yld i H x H' → gName 10 x (wipe [s0, s1, s2, s3, s4, s5, s6, s7, s8, s9, s10] vs) H' fun σ2 H2 => wipe σ2 vs = wipe [s0, s1, s2, s3, s4, s5, s6, s7, s8, s9, s10] vs ∧ tYes σ2 H2 fun b H3 =>
        if b = true then (tCall spPrs [] E0 (tCons (tVar 10) tNil)) σ2 H3 fun y H4 => ∃ acc, H4 D = some (.lst acc) ∧ acc.length < sizeLine ∧ Nx (upd H4 D (.lst (acc ++ [y]))) else Nx H3) := by
  subst hvs
  have lp := Paired.length pr
  refine lc_it L2.walk_list (fun i H5 => ∃ ls : List (Addr × Prs2), H5 D = some (.lst (ls.map fun z => V.ref z.1)) ∧ ls.map (·.2) = (ms.take i).map canon ∧ (∀ z ∈ ls, PrsIn H5 z.1 z.2 ∧ z.1 ≠ D) ∧ Same H1 H5)
    ⟨[], upd_same, rfl, fun z m => (nomatch m), same_new nD⟩ (fun i H5 hi p => let ⟨ls, _, _, _, p4⟩ := p; SqL.of (p4 _ _ hl)) (fun i x H5 H6 hi p y => ?_) (fun H5 p => ?_)
  · obtain ⟨rfl, hx⟩ := y
    obtain ⟨ls, p1, p2, p3, p4⟩ := p
    rw [List.getElem?_map] at hx
    obtain ⟨t, ht, rfl⟩ := Option.map_eq_some_iff.mp hx
    obtain ⟨m, hm, at1⟩ := Paired.at_ pr ht
    have g := good m (List.mem_of_getElem? hm)
    have ll : ls.length = min i ms.length := by
      have := congrArg List.length p2
      simpa using this
    refine ⟨rfl, ?_⟩
    dsimp only [tYes]
    rw [if_pos rfl]
    refine ⟨_, rfl, t, m, rfl, p4 _ _ at1, g.nd, g.few, fun H7 l2 ts2 s7 nl pa tn => ?_⟩
    have lD : l2 ≠ D := fun e => by
      rw [e, p1] at nl
      cases nl
    have p1' := s7 _ _ p1
    have keep : ∀ b o, b ≠ D → H7 b = some o → (upd H7 D (.lst ((ls.map fun z => V.ref z.1) ++ [V.ref l2]))) b = some o := fun b o hb h => by
      rw [upd_ne hb]
      exact h
    refine ⟨_, p1', by rw [List.length_map, sizeLine_eq]; omega, ls ++ [(l2, canon m)], by rw [upd_same, List.map_append]; rfl, ?_, fun z hz => ?_, fun b o h => ?_⟩
    · rw [List.map_append, p2, List.take_succ, hm]
      simp
    · rcases List.mem_append.mp hz with hz | hz
      · obtain ⟨z1, z2⟩ := p3 z hz
        exact ⟨(z1.same s7).but z2 p1' keep, z2⟩
      · rw [List.mem_singleton.mp hz]
        exact ⟨(show PrsIn H7 l2 (canon m) from ⟨ts2, pa⟩).but lD p1' keep, lD⟩
    · exact keep _ _ (ne_of_none h nD) (s7 _ _ (p4 _ _ h))
  · obtain ⟨ls, p1, p2, p3, p4⟩ := p
    rw [List.length_map, lp, List.take_length] at p2
    exact hd H5 ls p4 p1 p2 fun z hz => (p3 z hz).1
end
theorem dp_prss {K : PySem.W.Frag} {H : Hp} {D : Addr} {ls : List (Addr × Prs2)} {ms : List Prs2} (h : H D = some (.lst (ls.map fun z => V.ref z.1))) (e : ls.map (·.2) = ms.map canon) (p : ∀ z ∈ ls, PrsIn H z.1 z.2) : Dp K H (.ref D) (.list ((ms.map canon).map encL)) := by
  rw [← e, List.map_map]
  exact .lst (SqL.of h) (dp_zips p)
end L2.LawH
set_option Elab.async false
set_option linter.all false
set_option maxRecDepth 100000
set_option maxHeartbeats 8000000
/-! The law on maps: its rows. -/
namespace L2.LawH
open PySem PySem.Spec PyProof.Rows L2.TxtDict L2.NSet PySem.W L2.LstNe
open Builtin.Int (intBits)
abbrev sLaw : Stmt := top 23
def spLaw (K : PySem.W.Frag) : Sp := fun vs H Q _ => ∃ (a : Addr) (ns : List Int), vs = [.ref a] ∧ SqL K H a (ns.map V.int) ∧ ns.length ≤ 63 ∧
  (∀ n ∈ ns, intBits n ≤ 1048576) ∧ ∀ H', Q (.bl true) H'
theorem op_eqVK {X : Cx} {K : PySem.W.Frag} (e : X.K = K) (hu : X.A.units + 64 < cLine) : OpR X (compareOp .Eq) (rEqV K) := by
  subst e
  exact op_eqV hu
theorem cr_sortedSK {X : Cx} {K : PySem.W.Frag} (e : X.K = K) : CallR X (.builtin "sorted") (rSortedS K) := by
  subst e
  exact cr_sortedS
def mYX : Prs2 := [(Str.ofString "?y", Str.ofString "a"), (Str.ofString "?x", Str.ofString "b")]
def mXY : Prs2 := [(Str.ofString "?x", Str.ofString "b"), (Str.ofString "?y", Str.ofString "a")]
theorem ndYX : (mYX.map Prod.fst).Nodup := by decide +kernel
theorem ndXY : (mXY.map Prod.fst).Nodup := by decide +kernel
theorem okYX : (mYX.all fun p => PyData.strOk p.1 && PyData.strOk p.2) = true := by decide +kernel
theorem goodYX : Good mYX := ⟨ndYX, by decide, fun p hp => by simpa using List.all_eq_true.mp okYX p hp⟩
section
variable {P : Program} {w : World} {K : PySem.W.Frag} {mg : Str → Option Value} {base : Heap}
abbrev nLaw : List Str := ["_law_script", "_law_cell", "_law_source_here", "_law_pool_here", "_law_several", "_law_k", "_law_one", "_law_other", "_law_kept", "_law_told", "_law_known"]
theorem scLaw : FnScope nLaw ["_law_script"] (defScope sLaw) := ⟨rfl, rfl, rfl, by decide +kernel, rfl, by decide +kernel, by decide +kernel⟩
theorem ok_law {f fS fPo fD fM fL fT fP fI fO : Addr} {fd fdS fdPo fdD fdM fdL fdT fdP fdI fdO : FuncData} (F : Fun K "law" "law" sLaw f fd)
    (GS : FnOk P w K mg base CX0 1 fS fdS ["_law_cell"] spSource) (kS : PySem.W.keepIn K (.ref fS) = true) (bS : Binds K fdS ["_law_cell"] []) (mS : mg "_law_source" = some (.ref fS))
    (GPo : FnOk P w K mg base CX0 4 fPo fdPo ["_law_source_here"] spPool) (kPo : PySem.W.keepIn K (.ref fPo) = true) (bPo : Binds K fdPo ["_law_source_here"] []) (mPo : mg "_law_pool" = some (.ref fPo))
    (GD : FnOk P w K mg base CX0 1 fD fdD ["_law_source_here", "_law_limit"] spDraw) (kD : PySem.W.keepIn K (.ref fD) = true) (bD : Binds K fdD ["_law_source_here", "_law_limit"] []) (mD : mg "_law_draw" = some (.ref fD))
    (GM : FnOk P w K mg base CX0 2 fM fdM ["_law_source_here", "_law_pool_here", "_law_share"] spLMap) (kM : PySem.W.keepIn K (.ref fM) = true) (bM : Binds K fdM ["_law_source_here", "_law_pool_here", "_law_share"] []) (mM : mg "_law_map" = some (.ref fM))
    (GL : FnOk P w K mg base CX0 2 fL fdL ["_law_one", "_law_other"] spLJoin) (kL : PySem.W.keepIn K (.ref fL) = true) (bL : Binds K fdL ["_law_one", "_law_other"] []) (mL : mg "_law_joined" = some (.ref fL))
    (GT : FnOk P w K mg base CX0 3 fT fdT ["_law_source_here", "_law_one", "_law_other"] spTwo) (kT : PySem.W.keepIn K (.ref fT) = true) (bT : Binds K fdT ["_law_source_here", "_law_one", "_law_other"] []) (mT : mg "_law_two" = some (.ref fT))
    (GP : FnOk P w K mg base CX0 1 fP fdP ["_law_known"] spPrs) (kP : PySem.W.keepIn K (.ref fP) = true) (bP : Binds K fdP ["_law_known"] []) (mP : mg "_law_pairs" = some (.ref fP))
    (GI : FnOk P w K mg base CX0 1 fI fdI ["several"] spOrder) (kI : PySem.W.keepIn K (.ref fI) = true) (bI : Binds K fdI ["several"] []) (mI : mg "in_order" = some (.ref fI))
    (GO : FnOk P w K mg base CX0 2 fO fdO ["_law_several"] spLOrd) (kO : PySem.W.keepIn K (.ref fO) = true) (bO : Binds K fdO ["_law_several"] []) (mO : mg "_law_ordered" = some (.ref fO))
    (ms : mg "sorted" = none) (ml : mg "list" = none) (md : mg "dict" = none) (mt : mg "tuple" = none) (mr : mg "range" = none) :
    FnOk P w K mg base CX0 6 f fd ["_law_script"] (spLaw K) := by
  refine F.ok scLaw (fun vs H Q E h => ?_) (fun cdv A' outer s H vs Q E hr h => ?_)
  · obtain ⟨a, ns, rfl, _⟩ := h
    rfl
  · obtain ⟨a, ns, rfl, hS, hlen, hbits, k⟩ := h
    have hr1 : Room 1 _ := hr.mono (by decide)
    have hr2 : Room 2 _ := hr.mono (by decide)
    have hr3 : Room 3 _ := hr.mono (by decide)
    have hr4 : Room 4 _ := hr.mono (by decide)
    have hu := hr.units
    have hu1 := hu_of hr
    refine ⟨_, pss_cons (ps_for PassesOwn.never rfl (pi_list (pe_op op_cat (pe_slice sl_list (pv 0) po_none (po_some pe_int)) (pe_lst (pa_cons pe_int pa_nil)))) (pg_name (i := 1) scLaw.nd rfl (Or.inl rfl))
      (pss_cons (ps_set (i := 2) scLaw.nd rfl (Or.inl rfl) (pe_call GS hr1 (by rfl) mS kS bS .nil pass0 (pa_cons (pv 1) pa_nil)))
      (pss_cons (ps_set (i := 3) scLaw.nd rfl (Or.inl rfl) (pe_call GPo hr4 (by rfl) mPo kPo bPo .nil pass0 (pa_cons (pv 2) pa_nil)))
      (pss_cons (ps_set (i := 4) scLaw.nd rfl (Or.inl rfl) (pe_lst pa_nil))
      (pss_cons (ps_for PassesOwn.never rfl (pi_range1 (by rfl) mr (pa_cons pe_int pa_nil)) (pg_name (i := 5) scLaw.nd rfl (Or.inl rfl))
        (pss_cons (ps_par (i := 6) (j := 7) (by rfl) scLaw.nd rfl rfl (by decide) rfl rfl (pa_cons (pe_call GM hr2 (by rfl) mM kM bM .nil pass0 (pa_cons (pv 2) (pa_cons (pv 3) (pa_cons pe_int pa_nil)))) (pa_cons (pe_call GM hr2 (by rfl) mM kM bM .nil pass0 (pa_cons (pv 2) (pa_cons (pv 3) (pa_cons pe_int pa_nil)))) pa_nil)) (by rfl))
        (pss_cons (ps_if (pt_cmpR op_eq (pe_call GD hr1 (by rfl) mD kD bD .nil pass0 (pa_cons (pv 2) (pa_cons pe_int pa_nil))) pe_int (nomark _)) (pss_one (ps_set (i := 7) scLaw.nd rfl (Or.inl rfl) (pe_call GL hr2 (by rfl) mL kL bL .nil pass0 (pa_cons (pv 7) (pa_cons (pv 6) pa_nil))))) pss_nil)
        (pss_cons (ps_if (PW.pt (pw_or (pt_not (pt_val (pe_call GT hr3 (by rfl) mT kT bT .nil pass0 (pa_cons (pv 2) (pa_cons (pv 6) (pa_cons (pv 7) pa_nil))))))
            (pw_or1 (pt_not (pt_val (pe_call GT hr3 (by rfl) mT kT bT .nil pass0 (pa_cons (pv 2) (pa_cons (pe_callTy (call_dictPK (K := K) rfl rfl) (by rfl) md (by decide +kernel) (pa_cons (pe_revL (pe_call GP hr1 (by rfl) mP kP bP .nil pass0 (pa_cons (pv 6) pa_nil))) pa_nil)) (pa_cons (pv 7) pa_nil))))))))) (pss_one (ps_ret pe_bl)) pss_nil)
        (pss_cons (ps_if (pt_not (pt_val (pe_call GT hr3 (by rfl) mT kT bT .nil pass0 (pa_cons (pv 2) (pa_cons (pv 7) (pa_cons (pe_callTy (call_dictPK (K := K) rfl rfl) (by rfl) md (by decide +kernel) (pa_cons (pe_revL (pe_call GP hr1 (by rfl) mP kP bP .nil pass0 (pa_cons (pv 6) pa_nil))) pa_nil)) pa_nil)))))) (pss_one (ps_ret pe_bl)) pss_nil)
        (pss_one (ps_set (i := 4) scLaw.nd rfl (Or.inl rfl) (pe_op op_cat (pe_op op_cat (pv 4) (pe_lst (pa_cons (pv 6) (pa_cons (pv 7) pa_nil)))) (pe_slice sl_list (pe_lst (pa_cons (pv 6) pa_nil)) po_none (po_some (pe_call GD hr1 (by rfl) mD kD bD .nil pass0 (pa_cons (pv 2) (pa_cons pe_int pa_nil)))))))))))))
      (pss_cons (ps_setLc (i := 8) (own := [("_law_known", 10)]) (g := gName 10) (tt := tYes) rfl scLaw.nd rfl rfl (sw_true rfl rfl rfl (by decide +kernel)) (pi_list (pv 4))
          (blkOk_by (own := [("_law_known", 10)]) (N := nLaw) (sc := defScope sLaw) (by decide +kernel)) (fun _ _ _ _ _ => pg_name (i := 10) scLaw.nd rfl (Or.inl rfl)) (fun _ _ _ _ _ => pts_nil)
          (fun _ _ _ _ _ => pe_call GP hr1 (by rfl) mP kP bP .nil pass0 (pa_cons (pv 10) pa_nil)))
      (pss_cons (ps_set (i := 9) scLaw.nd rfl (Or.inl rfl) (pe_call GI hr1 (by rfl) mI kI bI .nil pass0 (pa_cons (pv 4) pa_nil)))
      (pss_cons (ps_if (PW.pt (pw_or (pt_cmpR (op_neVK (K := K) rfl hu) (pv 9) (pe_call GO hr2 (by rfl) mO kO bO .nil pass0 (pa_cons (pv 4) pa_nil)) (nomark _))
          (pw_or (pt_cmpR (op_neVK (K := K) rfl hu) (pe_call GI hr1 (by rfl) mI kI bI .nil pass0 (pa_cons (pe_callTy call_tuple_of (by rfl) mt (by decide +kernel) (pa_cons (pe_revL (pv 4)) pa_nil)) pa_nil)) (pv 9) (nomark _))
          (pw_or1 (pt_cmpR (op_neVK (K := K) rfl hu) (pe_call GI hr1 (by rfl) mI kI bI .nil pass0 (pa_cons (pe_lst pa_nil) pa_nil)) (pe_lst pa_nil) (nomark _)))))) (pss_one (ps_ret pe_bl)) pss_nil)
      (pss_cons (ps_for PassesOwn.never rfl (pi_list (pv 9)) (pg_name (i := 10) scLaw.nd rfl (Or.inl rfl)) (pss_one (ps_expr (pe_dclear (pv 10)))))
      (pss_cons (ps_if (pt_cmpR (op_neDK (K := K) rfl hu) (pe_lc (own := [("_law_known", 10)]) (g := gName 10) (tt := tYes) rfl scLaw.nd (pi_list (pv 4))
          (blkOk_by (own := [("_law_known", 10)]) (N := nLaw) (sc := defScope sLaw) (by decide +kernel)) (fun _ _ _ _ _ => pg_name (i := 10) scLaw.nd rfl (Or.inl rfl)) (fun _ _ _ _ _ => pts_nil)
          (fun _ _ _ _ _ => pe_call GP hr1 (by rfl) mP kP bP .nil pass0 (pa_cons (pv 10) pa_nil))) (pv 8) (nomark _)) (pss_one (ps_ret pe_bl)) pss_nil)
      (pss_cons (ps_set (i := 9) scLaw.nd rfl (Or.inl rfl) (pe_call GI hr1 (by rfl) mI kI bI .nil pass0 (pa_cons (pv 4) pa_nil)))
      (pss_one (ps_if (PW.pt (pw_or (pt_cmpR (op_neVK (K := K) rfl hu) (pv 9) (pe_call GO hr2 (by rfl) mO kO bO .nil pass0 (pa_cons (pv 4) pa_nil)) (nomark _))
          (pw_or1 (pt_cmpR (op_neVK (K := K) rfl hu) (pe_lc (own := [("_law_known", 10)]) (g := gName 10) rfl scLaw.nd (pi_list (pv 9))
            (blkOk_by (own := [("_law_known", 10)]) (N := nLaw) (sc := defScope sLaw) (by decide +kernel)) (fun _ _ _ _ _ => pg_name (i := 10) scLaw.nd rfl (Or.inl rfl))
            (fun _ _ _ _ _ => pts_one (pt_cmpR (op_neVK (K := K) rfl hu) (pe_callTy (call_listD rfl) (by rfl) ml (by decide +kernel) (pa_cons (pv 10) pa_nil)) (pe_callB (cr_sortedSK (K := K) rfl) (by rfl) ms (by decide +kernel) (pa_cons (pe_callTy (call_listD rfl) (by rfl) ml (by decide +kernel) (pa_cons (pv 10) pa_nil)) pa_nil)) (nomark _)))
            (fun _ _ _ _ _ => pv 10)) (pe_lst pa_nil) (nomark _))))) (pss_one (ps_ret pe_bl)) pss_nil)))))))))))))
      (pss_one (ps_ret (pe_cmpR (op_eqVK (K := K) rfl hu) (pe_call GI hr1 (by rfl) mI kI bI .nil pass0 (pa_cons (pe_lst (pa_cons (pe_disp (pps_cons pe_str pe_str (pps_cons pe_str pe_str pps_nil)) rfl rfl (by decide) (by decide)) pa_nil)) pa_nil))
        (pe_lst (pa_cons (pe_disp (pps_cons pe_str pe_str (pps_cons pe_str pe_str pps_nil)) rfl rfl (by decide) (by decide)) pa_nil)) (nomark _)))), ?_⟩
    refine ⟨_, rfl, 4, rfl, a, _, rfl, hS, fun p1 n1 => ⟨(by show 1 ≤ sizeLine; decide), fun p2 n2 => ?_⟩⟩
    have u1 := same_new (o := .lst (cutV (ns.map V.int) none (some 4))) n1
    have u2 := same_new (o := .lst [V.int 0]) n2
    have few : (cutV (ns.map V.int) none (some 4)).length ≤ 63 := by
      refine Nat.le_trans (cutV_length _ _ _) ?_
      rw [List.length_map]
      exact hlen
    refine ⟨p1, p2, _, _, rfl, rfl, u2 _ _ upd_same, upd_same, (by rw [sizeLine_eq]; show _ + 1 ≤ _; omega), fun p3 n3 => ?_⟩
    refine ⟨p3, rfl, ⟨_, SqL.of upd_same⟩, for_list (K := K) (a := p3) (xs := cutV (ns.map V.int) none (some 4) ++ [V.int 0])
      (fun i σ H5 => (∃ v1 v2 v3 v4 v5 v6 v7 v8 v9 v10 : Option V, σ = [some (.ref a), v1, v2, v3, v4, v5, v6, v7, v8, v9, v10]) ∧ H5 p3 = some (.lst (cutV (ns.map V.int) none (some 4) ++ [V.int 0])))
      ⟨⟨none, none, none, none, none, none, none, none, none, none, rfl⟩, upd_same⟩ (fun i σ H5 _ h5 => SqL.of h5.2) ?_ ?_⟩
    · rintro i v σ H0 hi ⟨⟨v1, v2, v3, v4, v5, v6, v7, v8, v9, v10, rfl⟩, h3⟩
      obtain ⟨c, rfl, hc⟩ := cut_ints hbits none (some 4) hi
      -- source, pool
      refine ⟨_, rfl, c, rfl, hc, fun pS H1 s1 nS src1 => ?_⟩
      have zS : p3 ≠ pS := ne_of_none h3 nS
      have k1 : Keep pS H0 H1 := Keep.of s1
      refine ⟨_, rfl, pS, c, 999700, rfl, src1, fun p π H2 hp src2 k2 => ?_⟩
      refine ⟨(by show 0 ≤ sizeLine; decide), fun sl nsl => ?_⟩
      have s3 : Same H2 (upd H2 sl (.lst [])) := same_new nsl
      have hsl : (upd H2 sl (.lst [])) sl = some (.lst []) := upd_same
      have nsS : sl ≠ pS := src2.ne nsl
      generalize upd H2 sl (.lst []) = H3 at s3 hsl ⊢
      have k3 : Keep pS H0 H3 := (k1.trans k2).trans (Keep.of s3)
      have src3 := src2.same s3
      have hp3 := hp.keep (Keep.of (a := pS) s3)
      have sev3 : SevAt pS H3 sl [] [] := ⟨hsl, nsS, .nil, fun m h => nomatch h⟩
      refine ⟨_, rfl, by omega, by omega, for_range (lo := 0) (n := 4) (fun j σ H5 => ∃ (w5 w6 w7 w8 w9 w10 : Option V) (s : Addr) (ts : List Addr) (mms : List Prs2), σ = [some (.ref a), some (.int c), some (.ref pS), some (.ref p), some (.ref s), w5, w6, w7, w8, w9, w10] ∧
          SevAt pS H5 s ts mms ∧ mms.length ≤ 3 * j ∧ SrcAt H5 pS c (1000 + 130 * (4 - j)) ∧ PoolAt pS H5 p π ∧ Keep pS H0 H5)
        ⟨_, _, _, _, _, _, sl, [], [], rfl, sev3, Nat.le_refl _, src3.mono (by decide), hp3, k3⟩ ?_ ?_⟩
      · rintro j σ H5 hj ⟨w5, w6, w7, w8, w9, w10, s, ts, mms, rfl, sev, lm, src, hp5, k5⟩
        have src' : SrcAt H5 pS c (1000 + 130 * (4 - (j + 1)) + 115 + 15) := src.mono (by omega)
        refine ⟨_, rfl, _, rfl, pS, p, c, _, 3, π, rfl, src', hp5, fun H6 d1 m1 src6 k6 nd1 at1 g1 l1 => ?_⟩
        have src6' : SrcAt H6 pS c (1000 + 130 * (4 - (j + 1)) + 100 + 15) := src6
        refine ⟨_, rfl, _, rfl, pS, p, c, _, 2, π, rfl, src6', hp5.keep k6, fun H7 d2 m2 src7 k7 nd2 at2 g2 l2 => ⟨_, _, rfl, ?_⟩⟩
        have src7' : SrcAt H7 pS c (1000 + 130 * (4 - (j + 1)) + 99 + 1) := src7
        refine ⟨_, rfl, pS, c, _, 2, rfl, src7', by decide, by decide, fun r H8 r0 r1 src8 k8 => ⟨rfl, _, rfl, ?_⟩⟩
        have at18 : MapAt H8 d1 m1 := map_keep (map_keep at1 src6 k7) src7 k8
        have at28 : MapAt H8 d2 m2 := map_keep at2 src7 k8
        have sev8 : SevAt pS H8 s ts mms := ((sev.keep src k6).keep src6 k7).keep src7 k8
        have hp8 := ((hp5.keep k6).keep k7).keep k8
        have k58 : Keep pS H5 H8 := (k6.trans k7).trans k8
        clear sev src src' src6 src6' src7 src7' k6 k7 k8 hp5 at1 at2 nd1 nd2
        refine ite2 (fun _ => ?_) (fun _ => ?_)
        refine ⟨_, rfl, _, rfl, d2, d1, m2, m1, rfl, at28, g2.nd, at18, g1.nd, by omega, fun H9 dO s9 _ atO => ?_⟩
        have gO : Good (canon (merP m2 m1)) := canon_good ⟨nd_mer g2.nd, by have := len_mer m1 m2; omega, fun q hq => (mem_mer hq).elim (g2.ok q) (g1.ok q)⟩
        have lO : (canon (merP m2 m1)).length ≤ 10 := by
          have := len_mer m1 m2
          rw [canon_len]
          omega
        have k9 : Keep pS H5 H9 := k58.trans (Keep.of s9)
        have src9 := src8.same s9
        have at19 : MapAt H9 d1 m1 := s9 _ _ at18
        have sev9 := sev8.same s9
        have hp9 := hp8.keep (Keep.of (a := pS) s9)
        clear s9 k58 src8 at18 at28 sev8 hp8
        rotate_left
        obtain ⟨H9, e9⟩ : ∃ H9, H9 = H8 := ⟨_, rfl⟩
        subst e9
        have atO := at28
        have gO := g2
        have lO : m2.length ≤ 10 := by omega
        have k9 := k58
        have src9 := src8
        have at19 := at18
        have sev9 := sev8
        have hp9 := hp8
        clear k58 src8 at18 at28 sev8 hp8
        all_goals
          have rev : ∀ (σ : List (Option V)) (HX : Hp) (Q : VK), σ[6]? = some (some (.ref d1)) → MapAt HX d1 m1 → (∀ H' d, Same HX H' → MapAt H' d (canon m1).reverse → Q (.ref d) H') →
              (tCB (rDictP K) (tCons (tRevL K (tCall spPrs [] E0 (tCons (tVar 6) tNil))) tNil)) σ HX Q := fun σ HX Q e6 atX q => by
            refine ⟨_, e6, d1, m1, rfl, atX, g1.nd, g1.few, fun H11 l ts11 s11 nl pr11 _ => ⟨l, ts11.map V.ref, rfl, SqL.of pr11.sq, fun lr nlr => ?_⟩⟩
            have s12 : Same HX (upd H11 lr (.lst (ts11.map V.ref).reverse)) := fun b o h => same_new nlr _ _ (s11 _ _ h)
            have pr12 : Paired (fun t (q : Str × Str) => (upd H11 lr (.lst (ts11.map V.ref).reverse)) t = some (.tup [.str q.1, .str q.2])) ts11 (canon m1) := Paired.mapP pr11.each fun _ _ e => same_new nlr _ _ e
            refine ⟨lr, ts11.reverse, kd (canon m1).reverse, rfl, SqL.of (by rw [upd_same, List.map_reverse]), prs_kd (paired_rev pr12) K, fun dr ndr => q _ dr (fun b o h => same_new ndr _ _ (s12 _ _ h)) ?_⟩
            show (upd _ dr _) dr = _
            rw [upd_same, mer_self (good_rev (canon_good g1)).nd]
          have gR := good_rev (canon_good g1)
          have lR : (canon m1).reverse.length ≤ 10 := by
            rw [List.length_reverse, canon_len]
            omega
          have src9' : SrcAt H9 pS c (1000 + 130 * (4 - (j + 1)) + 69 + 30) := src9
          refine ⟨_, rfl, _, rfl, _, rfl, pS, d1, _, c, _, m1, _, rfl, src9', at19, g1, by omega, atO, gO, lO, fun H10 src10 k10 => ?_⟩
          refine ⟨true, rfl, iteF ?_⟩
          have src10' : SrcAt H10 pS c (1000 + 130 * (4 - (j + 1)) + 39 + 30) := src10
          have at110 := map_keep at19 src9 k10
          have atO10 := map_keep atO src9 k10
          refine ⟨_, rfl, ?_⟩
          refine rev _ H10 _ rfl at110 fun H11 dR s11 atR => ?_
          refine ⟨_, rfl, pS, dR, _, c, _, _, _, rfl, src10'.same s11, atR, gR, lR, s11 _ _ atO10, gO, lO, fun H12 src12 k12 => ?_⟩
          refine ⟨true, rfl, iteF ?_⟩
          have src12' : SrcAt H12 pS c (1000 + 130 * (4 - (j + 1)) + 9 + 30) := src12
          have at112 := map_keep (s11 _ _ at110) (src10.same s11) k12
          have atO12 := map_keep (s11 _ _ atO10) (src10.same s11) k12
          refine ⟨_, rfl, _, rfl, ?_⟩
          refine rev _ H12 _ rfl at112 fun H13 dR2 s13 atR2 => ?_
          refine ⟨pS, _, dR2, c, _, _, _, rfl, src12'.same s13, s13 _ _ atO12, gO, lO, atR2, gR, lR, fun H14 src14 k14 => ?_⟩
          refine ⟨true, rfl, iteF ?_⟩
          have at114 := map_keep (s13 _ _ at112) (src12.same s13) k14
          have atO14 := map_keep (s13 _ _ atO12) (src12.same s13) k14
          have sev14 := (((sev9.keep src9 k10).same s11).keep (src10.same s11) k12).same s13 |>.keep (src12.same s13) k14
          have k914 : Keep pS H9 H14 := (((k10.trans (Keep.of s11)).trans k12).trans (Keep.of s13)).trans k14
          have hp14 := hp9.keep k914
          have k514 := k9.trans k914
          clear rev k10 k12 k14 s11 s13 src9 src9' src10 src10' src12 src12' at19 at110 at112 atO atO10 atO12 atR atR2 sev9 hp9 k914 k9
          have lts := sev14.len
          refine ⟨_, rfl, _, rfl, _, rfl, (by show 2 ≤ sizeLine; rw [sizeLine_eq]; decide), fun q1 nq1 => ?_⟩
          refine ⟨s, q1, _, _, rfl, rfl, same_new nq1 _ _ sev14.sq, upd_same, by rw [List.length_map, sizeLine_eq]; show ts.length + 2 ≤ _; omega, fun q2 nq2 => ?_⟩
          refine ⟨_, rfl, (by show 1 ≤ sizeLine; rw [sizeLine_eq]; decide), fun q3 nq3 => ?_⟩
          refine ⟨_, rfl, pS, c, 1000 + 130 * (4 - (j + 1)), 2, rfl, (((src14.same (same_new nq1)).same (same_new nq2)).same (same_new nq3)).mono (by omega), by decide, by decide, fun r3 H15 r30 r31 src15 k15 => ?_⟩
          have nq2S : q2 ≠ pS := (src14.same (same_new nq1)).ne nq2
          have nq3S : q3 ≠ pS := ((src14.same (same_new nq1)).same (same_new nq2)).ne nq3
          have k1415 : Keep pS H14 H15 := (((Keep.of (same_new nq1)).trans (Keep.of (same_new nq2))).trans (Keep.of (same_new nq3))).trans k15
          have hq2 := k15 _ _ (same_new nq3 _ _ upd_same) nq2S
          have hq3 := k15 _ _ upd_same nq3S
          obtain ⟨jr, rfl⟩ : ∃ j : Nat, r3 = j := ⟨r3.toNat, by omega⟩
          refine ⟨(jr : Int), rfl, q3, _, rfl, SqL.of hq3, fun q4 nq4 => ?_⟩
          rw [cutV_to]
          refine ⟨q2, q4, _, _, rfl, rfl, same_new nq4 _ _ hq2, upd_same, ?_, fun q5 nq5 => ?_⟩
          · have h1 := List.length_take_le jr [V.ref d1]
            rw [List.length_append, List.length_map, sizeLine_eq]
            show ts.length + 2 + _ ≤ _
            omega
          have s45 : ∀ u : HO, Same H15 (upd (upd H15 q4 (.lst ([V.ref d1].take jr))) q5 u) := fun u b o h => same_new nq5 _ _ (same_new nq4 _ _ h)
          refine ⟨_, _, _, _, _, _, q5, _, _, rfl, ((sev14.keep src14 k1415).same (s45 _)).more (s45 _ _ _ (map_keep at114 src14 k1415)) (s45 _ _ _ (map_keep atO14 src14 k1415)) g1 (by omega) gO lO jr upd_same ((src15.same (same_new nq4)).ne nq5), ?_, src15.same (s45 _), (hp14.keep k1415).keep (Keep.of (s45 _)), (k5.trans k514).trans (k1415.trans (Keep.of (s45 _)))⟩
          have h1 := List.length_take_le jr [m1]
          simp only [List.length_append, List.length_cons, List.length_nil] at h1 ⊢
          omega
      · rintro σ H5 ⟨w5, w6, w7, w8, w9, w10, s, ts, mms, rfl, sev, lm, src, hp5, k5⟩
        have good : ∀ m ∈ mms, Good m := fun m h => (sev.good m h).1
        have nds : ∀ m ∈ mms, (m.map Prod.fst).Nodup := fun m h => (good m h).nd
        have fewm : mms.length ≤ 60 := by omega
        have h35 : H5 p3 = some (.lst (cutV (ns.map V.int) none (some 4) ++ [V.int 0])) := k5 _ _ h3 zS
        have hsq := sev.sq
        have hpr := sev.each
        have okc : ∀ mm ∈ mms.map canon, OkM mm := fun mm hm => by
          obtain ⟨m, h0, rfl⟩ := List.mem_map.mp hm
          exact (canon_good (good m h0)).okM
        -- kept
        refine ⟨_, rfl, s, rfl, ⟨_, SqL.of hsq⟩, fun D nD => ?_⟩
        refine prs_lc rfl nD hsq hpr good fewm (fun H6 ls s6 hls els pls => ?_)
        have hpr6 := maps_same hpr s6
        -- told
        refine ⟨_, rfl, s, ts, mms, rfl, .inl (s6 _ _ hsq), hpr6, good, fewm, fun H7 l7 ds cs s7 n7 h7 pr7 nd7 ordd7 => ?_⟩
        have ncs := ordd7.nd good
        have hpr7 := maps_same hpr6 s7
        refine ⟨_, rfl, _, rfl, s, ts, mms, rfl, s7 _ _ (s6 _ _ hsq), hpr7, good, fewm, fun H8 l8 es cs8 s8 n8 h8 pr8 nd8 ordd8 => ?_⟩
        obtain rfl : cs8 = cs := ordd8.one ordd7 fun _ => Iff.rfl
        refine ⟨2, by decide, ⟨l7, l8, _, _, rfl, rfl, SqL.of (s8 _ _ h7), SqL.of h8, maps_eqv (maps_same pr7 s8) pr8 ncs⟩, _, rfl, iteF ?_⟩
        have hpr8 := maps_same hpr7 s8
        refine ⟨_, rfl, s, _, rfl, SqL.of (s8 _ _ (s7 _ _ (s6 _ _ hsq))), fun q9 nq9 => ?_⟩
        refine ⟨q9, _, rfl, .inl ⟨SqL.of upd_same, fun t9 nt9 => ?_⟩⟩
        have s9 : Same H8 (upd (upd H8 q9 (.lst (ts.map V.ref).reverse)) t9 (.tup (ts.map V.ref).reverse)) := fun b o h => same_new nt9 _ _ (same_new nq9 _ _ h)
        have h9 : (upd (upd H8 q9 (.lst (ts.map V.ref).reverse)) t9 (.tup (ts.map V.ref).reverse)) t9 = some (.tup (ts.map V.ref).reverse) := upd_same
        generalize upd (upd H8 q9 (.lst (ts.map V.ref).reverse)) t9 (.tup (ts.map V.ref).reverse) = H9 at s9 h9 ⊢
        refine ⟨t9, ts.reverse, mms.reverse, rfl, .inr (by rw [h9, List.map_reverse]), paired_rev (maps_same hpr8 s9), fun m hm => good m (List.mem_reverse.mp hm), by rw [List.length_reverse]; exact fewm, fun H10 l10 fs cs10 s10 n10 h10 pr10 nd10 ordd10 => ?_⟩
        obtain rfl : cs10 = cs8 := ordd10.one ordd7 fun c => by
          rw [List.map_reverse, List.mem_reverse]
        refine ⟨_, rfl, 2, by decide, ⟨l10, l7, _, _, rfl, rfl, SqL.of h10, SqL.of (s10 _ _ (s9 _ _ (s8 _ _ h7))), maps_eqv pr10 (maps_same (maps_same (maps_same pr7 s8) s9) s10) ncs⟩, _, rfl, iteF ?_⟩
        refine ⟨(by show 0 ≤ sizeLine; decide), fun q11 nq11 => ?_⟩
        refine ⟨q11, [], [], rfl, .inl upd_same, .nil, fun m h => (nomatch h), by simp, fun H12 l12 gs cs12 s12 n12 h12 pr12 nd12 ordd12 => ?_⟩
        obtain rfl := ordd12.nil
        cases pr12
        refine ⟨(by show 0 ≤ sizeLine; decide), fun q13 nq13 => ⟨1, by decide, ⟨l12, q13, _, _, rfl, rfl, SqL.of (same_new nq13 _ _ h12), SqL.of upd_same, .nil⟩, _, rfl, iteF ?_⟩⟩
        have s713 : Same H7 (upd H12 q13 (.lst [])) := fun b o h => same_new nq13 _ _ (s12 _ _ (same_new nq11 _ _ (s10 _ _ (s9 _ _ (s8 _ _ h)))))
        generalize upd H12 q13 (.lst []) = H13 at s713 ⊢
        clear h12 s12 nq11 nq13 h10 pr10 nd10 s10 h9 s9 nt9 nq9 h8 pr8 nd8 s8 hpr8 n8 n10 n12 ordd8 ordd10 ordd12 nd12
        have pr713 := maps_same pr7 s713
        have hl7 := s713 _ _ h7
        have l7n : l7 ∉ ds := fun hb => by
          obtain ⟨i, hi⟩ := List.mem_iff_getElem?.mp hb
          obtain ⟨mm, _, h⟩ := Paired.at_ pr713 hi
          rw [show H13 l7 = some (.dK (kd mm)) from h] at hl7
          cases hl7
        have out : ∀ b o, H6 b = some o → b ∉ ds := fun b o h hb => by
          rw [nd7 b hb] at h
          cases h
        -- all cleared
        refine ⟨_, rfl, l7, rfl, ⟨_, SqL.of hl7⟩, ?_⟩
        refine for_it (L2.walk_list (K := K) (xs := ds.map V.ref)) (fun i σ H14 => ∃ x5 x6 x7 x10 : Option V, σ = [some (.ref a), some (.int c), some (.ref pS), some (.ref p), some (.ref s), x5, x6, x7, some (.ref D), some (.ref l7), x10] ∧ (∀ b o, b ∉ ds → H13 b = some o → H14 b = some o) ∧ ∀ d ∈ ds, ∃ mm : Prs2, MapAt H14 d mm)
          ⟨_, _, _, _, rfl, fun _ _ _ h => h, fun d hd => ?_⟩ (fun i σ H14 hi p => let ⟨_, _, _, _, _, p2, _⟩ := p; SqL.of (p2 _ _ l7n hl7)) (fun i z σ H14 H15 hi p yy => ?_) (fun σ H14 p => ?_)
        · obtain ⟨i, hi⟩ := List.mem_iff_getElem?.mp hd
          obtain ⟨mm, _, h⟩ := Paired.at_ pr713 hi
          exact ⟨mm, h⟩
        · obtain ⟨rfl, hz⟩ := yy
          obtain ⟨x5, x6, x7, x10, rfl, r2, r3⟩ := p
          rw [List.getElem?_map] at hz
          obtain ⟨d, hd, rfl⟩ := Option.map_eq_some_iff.mp hz
          have md := List.mem_of_getElem? hd
          obtain ⟨mm, hmm⟩ := r3 d md
          refine ⟨_, rfl, .inr (.inr (.inl ⟨rfl, .inl ⟨_, hmm⟩⟩)), d, kd mm, rfl, rfl, hmm, x5, x6, x7, _, rfl, fun b o nb h => ?_, fun d2 hd2 => ?_⟩
          · rw [upd_ne (fun e => nb (by rw [e]; exact md))]
            exact r2 b o nb h
          · by_cases e : d2 = d
            · subst e
              exact ⟨[], upd_same⟩
            · obtain ⟨m3, h3⟩ := r3 d2 hd2
              refine ⟨m3, ?_⟩
              show (upd _ d _) d2 = _
              rw [upd_ne e]
              exact h3
        · obtain ⟨x5, x6, x7, x10, rfl, r2, r3⟩ := p
          have s14 : Same H6 H14 := fun b o h => r2 _ _ (out _ _ h) (s713 _ _ (s7 _ _ h))
          have hpr14 := maps_same hpr6 s14
          have hsq14 := s14 _ _ (s6 _ _ hsq)
          -- the pairs are kept
          refine ⟨_, rfl, s, rfl, ⟨_, SqL.of hsq14⟩, fun D2 nD2 => ?_⟩
          refine prs_lc rfl nD2 hsq14 hpr14 good fewm (fun H15 ls2 s15 hls2 els2 pls2 => ?_)
          refine ⟨_, rfl, _, _, dp_prss hls2 els2 pls2, dp_prss (s15 _ _ (s14 _ _ hls)) els (fun z hz => ((pls z hz).same s14).same s15), shaped_encs okc, shaped_encs okc, _, rfl, ?_⟩
          rw [encs_self]
          refine iteF ?_
          have hpr15 := maps_same hpr14 s15
          have hsq15 := s15 _ _ hsq14
          -- told again
          refine ⟨_, rfl, s, ts, mms, rfl, .inl hsq15, hpr15, good, fewm, fun H16 l16 ds2 cs2 s16 n16 h16 pr16 nd16 ordd16 => ?_⟩
          have ncs2 := ordd16.nd good
          refine ⟨_, rfl, _, rfl, s, ts, mms, rfl, s16 _ _ hsq15, maps_same hpr15 s16, good, fewm, fun H17 l17 es2 cs17 s17 n17 h17 pr17 nd17 ordd17 => ?_⟩
          obtain rfl : cs17 = cs2 := ordd17.one ordd16 fun _ => Iff.rfl
          refine ⟨2, by decide, ⟨l16, l17, _, _, rfl, rfl, SqL.of (s17 _ _ h16), SqL.of h17, maps_eqv (maps_same pr16 s17) pr17 ncs2⟩, _, rfl, iteF ?_⟩
          have pr1617 := maps_same pr16 s17
          have h1617 := s17 _ _ h16
          have asc := ordd16.asc
          have lencs := ordd16.len
          have gcs : ∀ m ∈ cs17, Good m := fun m hm => by
            obtain ⟨m0, h0, rfl⟩ := List.mem_map.mp ((ordd16.mem m).mp hm)
            exact canon_good (good m0 h0)
          refine ⟨_, rfl, l16, rfl, ⟨_, SqL.of h1617⟩, fun D3 nD3 => ?_⟩
          refine lc_it L2.walk_list (fun i H18 => H18 D3 = some (.lst []) ∧ Same H17 H18) ⟨upd_same, same_new nD3⟩ (fun i H18 hi p => SqL.of (p.2 _ _ h1617)) (fun i z H18 H19 hi p yy => ?_) (fun H18 p => ?_)
          · obtain ⟨rfl, hz⟩ := yy
            obtain ⟨u1', u2'⟩ := p
            rw [List.getElem?_map] at hz
            obtain ⟨d, hd, rfl⟩ := Option.map_eq_some_iff.mp hz
            obtain ⟨mm, hmm, atd⟩ := Paired.at_ pr1617 hd
            have mcs := List.mem_of_getElem? hmm
            have atd2 : MapAt H19 d mm := u2' _ _ atd
            refine ⟨rfl, ?_⟩
            refine ⟨_, rfl, d, kd mm, rfl, .inl atd2, fun e1 ne1 => ?_⟩
            rw [keys_kd]
            have t1 : Same H19 (upd H19 e1 (.lst ((mm.map Prod.fst).map V.str))) := same_new ne1
            have t1h : (upd H19 e1 (.lst ((mm.map Prod.fst).map V.str))) e1 = some (.lst ((mm.map Prod.fst).map V.str)) := upd_same
            generalize upd H19 e1 (.lst ((mm.map Prod.fst).map V.str)) = H20 at t1 t1h ⊢
            refine ⟨_, rfl, d, kd mm, rfl, .inl (t1 _ _ atd2), fun e2 ne2 => ?_⟩
            rw [keys_kd]
            refine ⟨e2, mm.map Prod.fst, rfl, SqL.of upd_same, by have := (gcs mm mcs).few; rw [List.length_map]; omega, fun ys e3 pm so ne3 => ?_⟩
            have ey : ys = mm.map Prod.fst := asc_eq so (asc mm mcs) pm (List.Perm.refl _)
            subst ey
            have t2 : Same H20 (upd (upd H20 e2 (.lst ((mm.map Prod.fst).map V.str))) e3 (.lst ((mm.map Prod.fst).map V.str))) := fun b o h => same_new ne3 _ _ (same_new ne2 _ _ h)
            refine ⟨1, by decide, ⟨e1, e3, _, _, rfl, rfl, SqL.of (t2 _ _ t1h), SqL.of upd_same, strs_same _ _ _⟩, _, rfl, iteF ?_⟩
            exact ⟨t2 _ _ (t1 _ _ u1'), fun b o h => t2 _ _ (t1 _ _ (u2' _ _ h))⟩
          · obtain ⟨u1', u2'⟩ := p
            refine ⟨(by show 0 ≤ sizeLine; decide), fun q19 nq19 => ⟨1, by decide, ⟨D3, q19, _, _, rfl, rfl, SqL.of (same_new nq19 _ _ u1'), SqL.of upd_same, .nil⟩, _, rfl, iteF ?_⟩⟩
            exact ⟨⟨_, _, _, _, _, _, _, _, _, _, rfl⟩, same_new nq19 _ _ (u2' _ _ (s17 _ _ (s16 _ _ (s15 _ _ (s14 _ _ (s6 _ _ h35))))))⟩
    · rintro σ H5 ⟨⟨v1, v2, v3, v4, v5, v6, v7, v8, v9, v10, rfl⟩, h3⟩
      refine fun p np => ⟨upd_same, kd mYX, rfl, (by show 2 ≤ 15; decide), (by show 1 ≤ sizeLine; rw [sizeLine_eq]; decide), fun q nq => ?_⟩
      rw [mer_self ndYX] at nq ⊢
      refine ⟨q, [p], [mYX], rfl, .inl upd_same, .cons (same_new nq _ _ upd_same) .nil, fun m hm => by rw [List.mem_singleton.mp hm]; exact goodYX, by simp, fun H7 l ds cs s7 n7 h7 pr7 nd7 ordd7 => ?_⟩
      have ecs : cs = [canon mYX] := ordd7.one (ms' := [mYX]) ⟨List.pairwise_singleton _ _, by simp, fun c => by simp⟩ fun _ => Iff.rfl
      subst ecs
      cases pr7 with
      | cons at7 t7 =>
        cases t7
        refine fun p2 np2 => ⟨upd_same, kd mXY, rfl, (by show 2 ≤ 15; decide), (by show 1 ≤ sizeLine; rw [sizeLine_eq]; decide), fun q2 nq2 => ?_⟩
        rw [mer_self ndXY] at nq2 ⊢
        have s8 : Same H7 (upd (upd H7 p2 (.dK [])) p2 (.dK (kd mXY))) := same_upds np2 (same_new np2) _
        refine ⟨2, by decide, .inl ⟨l, q2, _, _, rfl, rfl, SqL.of (same_new nq2 _ _ (s8 _ _ h7)), SqL.of upd_same, .cons ?_ .nil⟩, k _⟩
        exact map_eqv (canon_nd ndYX) ndXY (canon_len mYX) (same_new nq2 _ _ (s8 _ _ at7)) (same_new nq2 _ _ upd_same) fun z => by
          rw [look_canon ndYX]
          exact look_ext ndYX ndXY (fun p => by simp [mYX, mXY, or_comm]) z
end
end L2.LawH
set_option Elab.async false
set_option linter.all false
set_option maxRecDepth 100000
set_option maxHeartbeats 0
/-! The law on maps: its end. -/
namespace L2.LawH
open PySem PySem.Spec PyProof.Rows L2.TxtDict L2.NSet L2.LstNe
open Builtin.Int (intBits)
theorem all_mk {P : Program} {w : World} {K : PySem.W.Frag} {h : Heap} {mg : Str → Option Value} {fa fS fD fNm fNs fPo fPr fOr fM fLj fT fAg fJo fAb fOn fIn fL : Addr} 
    (X : K.In h) (G : h.Ns mainGlobals mg) (hfa : mg "law" = some (.ref fa))
    (bS : PySem.W.nsIn K mainGlobals "_law_source" = some (some (.ref fS)))
    (ES : ∃ fd, Fun K "_law_source" "_law_source" sSource fS fd)
    (bD : PySem.W.nsIn K mainGlobals "_law_draw" = some (some (.ref fD)))
    (ED : ∃ fd, Fun K "_law_draw" "_law_draw" sDraw fD fd)
    (bNm : PySem.W.nsIn K mainGlobals "_law_name" = some (some (.ref fNm)))
    (ENm : ∃ fd, Fun K "_law_name" "_law_name" sName fNm fd)
    (bNs : PySem.W.nsIn K mainGlobals "_law_names" = some (some (.ref fNs)))
    (ENs : ∃ fd, Fun K "_law_names" "_law_names" sNames fNs fd)
    (bPo : PySem.W.nsIn K mainGlobals "_law_pool" = some (some (.ref fPo)))
    (EPo : ∃ fd, Fun K "_law_pool" "_law_pool" sPool fPo fd)
    (bPr : PySem.W.nsIn K mainGlobals "_law_pairs" = some (some (.ref fPr)))
    (EPr : ∃ fd, Fun K "_law_pairs" "_law_pairs" sPairs fPr fd)
    (bOr : PySem.W.nsIn K mainGlobals "_law_ordered" = some (some (.ref fOr)))
    (EOr : ∃ fd, Fun K "_law_ordered" "_law_ordered" sLOrd fOr fd)
    (bM : PySem.W.nsIn K mainGlobals "_law_map" = some (some (.ref fM)))
    (EM : ∃ fd, Fun K "_law_map" "_law_map" sLMap fM fd)
    (bLj : PySem.W.nsIn K mainGlobals "_law_joined" = some (some (.ref fLj)))
    (ELj : ∃ fd, Fun K "_law_joined" "_law_joined" sLJoin fLj fd)
    (bT : PySem.W.nsIn K mainGlobals "_law_two" = some (some (.ref fT)))
    (ET : ∃ fd, Fun K "_law_two" "_law_two" sTwo fT fd)
    (bAg : PySem.W.nsIn K mainGlobals "agree" = some (some (.ref fAg)))
    (EAg : ∃ fd, Fun K "agree" "agree" sAgree fAg fd)
    (bJo : PySem.W.nsIn K mainGlobals "joined" = some (some (.ref fJo)))
    (EJo : ∃ fd, Fun K "joined" "joined" sJoin fJo fd)
    (bAb : PySem.W.nsIn K mainGlobals "is_above" = some (some (.ref fAb)))
    (EAb : ∃ fd, Fun K "is_above" "is_above" sAbove fAb fd)
    (bOn : PySem.W.nsIn K mainGlobals "only_keys" = some (some (.ref fOn)))
    (EOn : ∃ fd, Fun K "only_keys" "only_keys" sOnly fOn fd)
    (bIn : PySem.W.nsIn K mainGlobals "in_order" = some (some (.ref fIn)))
    (EIn : ∃ fd, Fun K "in_order" "in_order" sOrder fIn fd)
    (bL : PySem.W.nsIn K mainGlobals "law" = some (some (.ref fL)))
    (EL : ∃ fd, Fun K "law" "law" sLaw fL fd)
    (z_int : PySem.W.nsIn K mainGlobals "int" = some none)
    (z_str : PySem.W.nsIn K mainGlobals "str" = some none)
    (z_len : PySem.W.nsIn K mainGlobals "len" = some none)
    (z_range : PySem.W.nsIn K mainGlobals "range" = some none)
    (z_tuple : PySem.W.nsIn K mainGlobals "tuple" = some none)
    (z_list : PySem.W.nsIn K mainGlobals "list" = some none)
    (z_sorted : PySem.W.nsIn K mainGlobals "sorted" = some none)
    (z_dict : PySem.W.nsIn K mainGlobals "dict" = some none)
    (z_all : PySem.W.nsIn K mainGlobals "all" = some none)
    : ∃ fd : FuncData, (∀ (s : Shared) (v : Value), BindsTo s fd ⟨[v], []⟩ [("_law_script", v)]) ∧
      ∀ base : Heap, K.In base → base.Ns mainGlobals mg → FnOk P w K mg base CX0 6 fa fd ["_law_script"] (spLaw K) := by
  have e := hfa.symm.trans (PySem.W.mg_of X G bL)
  cases e
  obtain ⟨dS, FS⟩ := ES
  obtain ⟨dD, FD⟩ := ED
  obtain ⟨dNm, FNm⟩ := ENm
  obtain ⟨dNs, FNs⟩ := ENs
  obtain ⟨dPo, FPo⟩ := EPo
  obtain ⟨dPr, FPr⟩ := EPr
  obtain ⟨dOr, FOr⟩ := EOr
  obtain ⟨dM, FM⟩ := EM
  obtain ⟨dLj, FLj⟩ := ELj
  obtain ⟨dT, FT⟩ := ET
  obtain ⟨dAg, FAg⟩ := EAg
  obtain ⟨dJo, FJo⟩ := EJo
  obtain ⟨dAb, FAb⟩ := EAb
  obtain ⟨dOn, FOn⟩ := EOn
  obtain ⟨dIn, FIn⟩ := EIn
  obtain ⟨dL, FL⟩ := EL
  have mS := PySem.W.mg_of X G bS
  have qS := FS.binds (ps := ["_law_cell"]) fun _ _ _ _ _ _ us hl => match us, hl with | [_], _ => rfl
  have mD := PySem.W.mg_of X G bD
  have qD := FD.binds (ps := ["_law_source_here", "_law_limit"]) fun _ _ _ _ _ _ us hl => match us, hl with | [_, _], _ => rfl
  have mNm := PySem.W.mg_of X G bNm
  have qNm := FNm.binds (ps := ["_law_source_here"]) fun _ _ _ _ _ _ us hl => match us, hl with | [_], _ => rfl
  have mNs := PySem.W.mg_of X G bNs
  have qNs := FNs.binds (ps := ["_law_source_here", "_law_many"]) fun _ _ _ _ _ _ us hl => match us, hl with | [_, _], _ => rfl
  have mPo := PySem.W.mg_of X G bPo
  have qPo := FPo.binds (ps := ["_law_source_here"]) fun _ _ _ _ _ _ us hl => match us, hl with | [_], _ => rfl
  have mPr := PySem.W.mg_of X G bPr
  have qPr := FPr.binds (ps := ["_law_known"]) fun _ _ _ _ _ _ us hl => match us, hl with | [_], _ => rfl
  have mOr := PySem.W.mg_of X G bOr
  have qOr := FOr.binds (ps := ["_law_several"]) fun _ _ _ _ _ _ us hl => match us, hl with | [_], _ => rfl
  have mM := PySem.W.mg_of X G bM
  have qM := FM.binds (ps := ["_law_source_here", "_law_pool_here", "_law_share"]) fun _ _ _ _ _ _ us hl => match us, hl with | [_, _, _], _ => rfl
  have mLj := PySem.W.mg_of X G bLj
  have qLj := FLj.binds (ps := ["_law_one", "_law_other"]) fun _ _ _ _ _ _ us hl => match us, hl with | [_, _], _ => rfl
  have mT := PySem.W.mg_of X G bT
  have qT := FT.binds (ps := ["_law_source_here", "_law_one", "_law_other"]) fun _ _ _ _ _ _ us hl => match us, hl with | [_, _, _], _ => rfl
  have mAg := PySem.W.mg_of X G bAg
  have qAg := FAg.binds (ps := ["one", "other"]) fun _ _ _ _ _ _ us hl => match us, hl with | [_, _], _ => rfl
  have mJo := PySem.W.mg_of X G bJo
  have qJo := FJo.binds (ps := ["one", "other"]) fun _ _ _ _ _ _ us hl => match us, hl with | [_, _], _ => rfl
  have mAb := PySem.W.mg_of X G bAb
  have qAb := FAb.binds (ps := ["one", "other"]) fun _ _ _ _ _ _ us hl => match us, hl with | [_, _], _ => rfl
  have mOn := PySem.W.mg_of X G bOn
  have qOn := FOn.binds (ps := ["known", "variables"]) fun _ _ _ _ _ _ us hl => match us, hl with | [_, _], _ => rfl
  have mIn := PySem.W.mg_of X G bIn
  have qIn := FIn.binds (ps := ["several"]) fun _ _ _ _ _ _ us hl => match us, hl with | [_], _ => rfl
  have mL := PySem.W.mg_of X G bL
  have y_int := PySem.W.mg_none_of X G z_int
  have y_str := PySem.W.mg_none_of X G z_str
  have y_len := PySem.W.mg_none_of X G z_len
  have y_range := PySem.W.mg_none_of X G z_range
  have y_tuple := PySem.W.mg_none_of X G z_tuple
  have y_list := PySem.W.mg_none_of X G z_list
  have y_sorted := PySem.W.mg_none_of X G z_sorted
  have y_dict := PySem.W.mg_none_of X G z_dict
  have y_all := PySem.W.mg_none_of X G z_all
  have FL' := FL
  obtain ⟨oc, od, kV, doc, pm, an, cdv, ct, osl, ez, _, _⟩ := FL.ex
  subst ez
  refine ⟨PySem.W.fnOf "law" "law" (defArgs sLaw) (defBody sLaw) (defScope sLaw) .none kV doc pm an cdv ct, fun s v => .of_eq rfl, fun base _ _ => ?_⟩
  have GS := ok_source (P := P) (w := w) (mg := mg) (base := base) FS
  have GD := ok_draw (P := P) (w := w) (mg := mg) (base := base) FD y_int
  have GNm := ok_name (P := P) (w := w) (mg := mg) (base := base) FNm FD qD y_int mD y_range
  have GNs := ok_names (P := P) (w := w) (mg := mg) (base := base) FNs GNm FNm.kp qNm mNm y_range y_str
  have GPo := ok_pool (P := P) (w := w) (mg := mg) (base := base) FPo GD FD.kp qD mD GNs FNs.kp qNs mNs y_range y_len
  have GPr := ok_prs (P := P) (w := w) (mg := mg) (base := base) FPr y_sorted y_list
  have GOr := ok_lord (P := P) (w := w) (mg := mg) (base := base) FOr GPr FPr.kp qPr mPr y_sorted y_dict
  have GM := ok_lmap (P := P) (w := w) (mg := mg) (base := base) FM GPr FPr.kp qPr mPr GD FD.kp qD mD y_dict y_range
  have GLj := ok_ljoin (P := P) (w := w) (mg := mg) (base := base) FLj GPr FPr.kp qPr mPr y_dict y_list
  have GAg := ok_agree (P := P) (w := w) (mg := mg) (base := base) FAg y_all
  have GJo := ok_join (P := P) (w := w) (mg := mg) (base := base) FJo y_sorted
  have GAb := ok_above (P := P) (w := w) (mg := mg) (base := base) FAb y_all
  have GOn := ok_only (P := P) (w := w) (mg := mg) (base := base) FOn y_sorted
  have GIn := ok_order (P := P) (w := w) (mg := mg) (base := base) FIn y_sorted y_tuple y_dict
  have GT := ok_two (P := P) (w := w) (mg := mg) (base := base) FT GPr FPr.kp qPr mPr GD FD.kp qD mD GAg FAg.kp qAg mAg GAb FAb.kp qAb mAb GLj FLj.kp qLj mLj GJo FJo.kp qJo mJo GOn FOn.kp qOn mOn GIn FIn.kp qIn mIn y_sorted y_list
  exact ok_law FL' GS FS.kp qS mS GPo FPo.kp qPo mPo GD FD.kp qD mD GM FM.kp qM mM GLj FLj.kp qLj mLj GT FT.kp qT mT GPr FPr.kp qPr mPr GIn FIn.kp qIn mIn GOr FOr.kp qOr mOr y_sorted y_list y_dict y_tuple y_range
theorem walk {l : PySem.W.OpenLaw} {q : Program} {loose : List Str} {XP : (Str → Option Value) → Heap → Prop} {YP : World → Heap → Prop} {d : DefRec} {K : Params → PySem.W.Frag}
    (hn : l.most = some 63) (hdf : d.params.defaults = []) (hY : ∀ (w : World) (h : Heap), YP w h → (K w.params).In h)
    (F : ∀ (w : World) (mg : Str → Option Value) (fa : Addr) (h : Heap), (K w.params).In h → h.Ns mainGlobals mg → mg d.name = some (.ref fa) →
      ∃ fd : FuncData, (∀ (s : Shared) (u : Value), BindsTo s fd ⟨[u], []⟩ [("_law_script", u)]) ∧
        ∀ base : Heap, (K w.params).In base → base.Ns mainGlobals mg → FnOk l.prog w (K w.params) mg base CX0 6 fa fd ["_law_script"] (spLaw (K w.params))) :
    PySem.W.WalkO q loose XP YP l.row.toRowW d [] (fun f vs => PySem.call f vs) :=
  L2.walk_ofB (n := 63) (k := 6) (x := "_law_script") (CX := fun _ => CX0) (sp := fun w => spLaw (K w.params)) hn (by decide) hdf ⟨rfl, by decide, by decide⟩ hY F
    (fun _ _ a ns hl hb _ hS => ⟨a, ns, rfl, hS, hl, hb, fun _ => rfl⟩) fun _ _ _ _ _ z => z
end L2.LawH
set_option Elab.async false
open PySem PySem.W PyProof.Rows
set_option maxRecDepth 100000 in
set_option maxHeartbeats 0 in
theorem PySem.Challenge.cw_fullestrows_k07_maps_themselves_holds : PySem.Challenge.rw_fullestrows_k07_maps_themselves.Holds := by
  w_on; o_law; k_head; (case hw => w_witness2)
  k_fill
  refine L2.LawH.walk (l := PySem.Challenge.rw_fullestrows_k07_maps_themselves) rfl rfl (fun w h Y => PySem.W.kIn_of Y) ?F
  case F =>
    intro w mg fa h KX G hmg
    refine' L2.LawH.all_mk KX G hmg ?bS ?ES ?bD ?ED ?bNm ?ENm ?bNs ?ENs ?bPo ?EPo ?bPr ?EPr ?bOr ?EOr ?bM ?EM ?bLj ?ELj ?bT ?ET ?bAg ?EAg ?bJo ?EJo ?bAb ?EAb ?bOn ?EOn ?bIn ?EIn ?bL ?EL ?z_int ?z_str ?z_len ?z_range ?z_tuple ?z_list ?z_sorted ?z_dict ?z_all
    (case bS => k_is)
    (case ES => exact ⟨_, L2.fun_mk (by k_is) (by k_is) (by k_is)⟩)
    (case bD => k_is)
    (case ED => exact ⟨_, L2.fun_mk (by k_is) (by k_is) (by k_is)⟩)
    (case bNm => k_is)
    (case ENm => exact ⟨_, L2.fun_mk (by k_is) (by k_is) (by k_is)⟩)
    (case bNs => k_is)
    (case ENs => exact ⟨_, L2.fun_mk (by k_is) (by k_is) (by k_is)⟩)
    (case bPo => k_is)
    (case EPo => exact ⟨_, L2.fun_mk (by k_is) (by k_is) (by k_is)⟩)
    (case bPr => k_is)
    (case EPr => exact ⟨_, L2.fun_mk (by k_is) (by k_is) (by k_is)⟩)
    (case bOr => k_is)
    (case EOr => exact ⟨_, L2.fun_mk (by k_is) (by k_is) (by k_is)⟩)
    (case bM => k_is)
    (case EM => exact ⟨_, L2.fun_mk (by k_is) (by k_is) (by k_is)⟩)
    (case bLj => k_is)
    (case ELj => exact ⟨_, L2.fun_mk (by k_is) (by k_is) (by k_is)⟩)
    (case bT => k_is)
    (case ET => exact ⟨_, L2.fun_mk (by k_is) (by k_is) (by k_is)⟩)
    (case bAg => k_is)
    (case EAg => exact ⟨_, L2.fun_mk (by k_is) (by k_is) (by k_is)⟩)
    (case bJo => k_is)
    (case EJo => exact ⟨_, L2.fun_mk (by k_is) (by k_is) (by k_is)⟩)
    (case bAb => k_is)
    (case EAb => exact ⟨_, L2.fun_mk (by k_is) (by k_is) (by k_is)⟩)
    (case bOn => k_is)
    (case EOn => exact ⟨_, L2.fun_mk (by k_is) (by k_is) (by k_is)⟩)
    (case bIn => k_is)
    (case EIn => exact ⟨_, L2.fun_mk (by k_is) (by k_is) (by k_is)⟩)
    (case bL => k_is)
    (case EL => exact ⟨_, L2.fun_mk (by k_is) (by k_is) (by k_is)⟩)
    (case z_int => k_is)
    (case z_str => k_is)
    (case z_len => k_is)
    (case z_range => k_is)
    (case z_tuple => k_is)
    (case z_list => k_is)
    (case z_sorted => k_is)
    (case z_dict => k_is)
    (case z_all => k_is)
