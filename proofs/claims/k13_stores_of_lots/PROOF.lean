import PyProof.Rows.All
import Wide.All
import OpenK.AllK
import Wide.FinOn
import HandS.ForMost
import HandS.EndBits
import HandS.Set
import HandS.SetKeys
import HandS.SetBool
import HandS.Comp
import HandS.DictComp
import HandS.Strs
import HandS.SetTxt0
import HandS.More
import HandS.IsInst
import HandS.StrMore
import HandS.TupSets
import KE.KeyNested
import KE.KDictKeyed
import KE.SortData
import KE.SortCalls
import PyProof.FactsAll.tuple_2
import HandS.Deep
import PyProof.DictFindH
import HandS.ForExc
import HandS.Walk
import HandS.OwnEq
import HandS.Defaults
import HandS.DictTup
import HandS.ListItems
import HandS.SortRule
import KE.KDictPairs
import PyProof.DictUpdate
import PyProof.NeKinds
import HandS.ListEq
import HandS.DeepEq
import HandS.FStr
import HandS.Codes
import PyProof.InstNe
import HandS.Finally
import HandS.Style
import HandS.MakeKw
import PySem.Challenge.RW_fullestrows_k13_stores_of_lots
set_option Elab.async false
set_option linter.all false
set_option maxRecDepth 100000
set_option maxHeartbeats 4000000
/-! The helpers of the laws: draws and names. -/
namespace L2.LawH
open PySem PySem.Spec PyProof.Rows
open Builtin.Int (intBits)
def top (i : Nat) : Stmt := PySem.Challenge.pw_fullestrows_k13_stores_of_lots.main.body.getD i (.Pass ⟨0, 0, 0, 0⟩)
abbrev sSource : Stmt := top 23
abbrev sDraw : Stmt := top 24
abbrev sName : Stmt := top 25

/-! ### numbers -/
theorem mod_pos {x y : Int} (h : 0 < y) : 0 ≤ x.fmod y ∧ x.fmod y < y := by
  rw [Int.fmod_eq_emod_of_nonneg x (Int.le_of_lt h)]
  exact ⟨Int.emod_nonneg x (by omega), Int.emod_lt_of_pos x h⟩
theorem small_bits {x : Int} (h0 : 0 ≤ x) (h : x < 1152921504606846976) : intBits x ≤ 60 := by
  refine PySem.intBits_le_iff.mpr ?_
  have e : (2 : Nat) ^ 60 = 1152921504606846976 := by decide
  rw [e]
  omega
theorem big_ok {c n m : Int} (hc : intBits c ≤ 1048576) (h0 : 0 ≤ n) (hn : n ≤ 1000000) (m0 : 0 ≤ m) (m1 : m ≤ 1000000) :
    (intBits (c * m + n * 40699 + 12011) : Int) * 3 ≤ 2 ^ 27 := by
  have h1 : intBits (c * m) ≤ 1048576 + 60 := PySem.intBits_mul_le hc (small_bits m0 (by omega))
  have h2 : intBits (n * 40699) ≤ 60 := small_bits (by omega) (by omega)
  have h3 : intBits (12011 : Int) ≤ 60 := small_bits (by omega) (by omega)
  have h5 := PySem.intBits_add_le (PySem.intBits_add_le h1 h2) h3
  have e : (2 : Int) ^ 27 = 134217728 := by decide
  rw [e]
  have h6 : max (max (1048576 + 60) 60 + 1) 60 + 1 = 1048638 := by decide
  rw [h6] at h5
  omega
theorem small_ok {x : Int} (h0 : 0 ≤ x) (h : x < 1152921504606846976) : (intBits x : Int) * 3 ≤ 2 ^ 27 := by
  have := small_bits h0 h
  have e : (2 : Int) ^ 27 = 134217728 := by decide
  rw [e]
  omega
theorem op_powB {X : Cx} : OpR X (binaryOp .Pow) (rI (fun i j => 0 ≤ j ∧ (Builtin.Int.intBits i : Int) * j ≤ 2 ^ 27) fun i j => .int (i ^ j.toNat)) :=
  opI fun _ _ _ _ _ _ _ hc q => pow_int hc.1 hc.2 q

/-! ### heaps -/
/-- all but a stands as it stood -/
def Keep (a : Addr) (H H' : Hp) : Prop := ∀ b o, H b = some o → b ≠ a → H' b = some o
theorem Keep.refl (a : Addr) (H : Hp) : Keep a H H := fun _ _ e _ => e
theorem Keep.trans {a : Addr} {H H1 H2 : Hp} (k : Keep a H H1) (l : Keep a H1 H2) : Keep a H H2 := fun b o e n => l b o (k b o e n) n
theorem Keep.of {a : Addr} {H H' : Hp} (s : Same H H') : Keep a H H' := fun b o e _ => s b o e
theorem same_new {H : Hp} {p : Addr} {o : HO} (n : H p = none) : Same H (upd H p o) := fun b u e => by
  rw [upd_ne (ne_of_none e n)]
  exact e
theorem Keep.free {a b : Addr} {H H' : Hp} (k : Keep a H H') (n : H' b = none) (ha : H' a ≠ none) : H b = none := by
  cases e : H b with
  | none => rfl
  | some o =>
    have nb : b ≠ a := fun z => ha (by rw [← z]; exact n)
    rw [k b o e nb] at n
    cases n

/-! ### the source of draws -/
/-- the source at a, of the cell c, with m draws still to be had -/
def SrcAt (H : Hp) (a : Addr) (c : Int) (m : Nat) : Prop := ∃ (d : Int) (n : Nat), H a = some (.lst [.int c, .int d, .int n]) ∧ n + m ≤ 1000000 ∧ intBits c ≤ 1048576
theorem SrcAt.mono {H : Hp} {a : Addr} {c : Int} {m m' : Nat} (h : SrcAt H a c m) (l : m' ≤ m) : SrcAt H a c m' := by
  obtain ⟨d, n, e, f, b⟩ := h
  exact ⟨d, n, e, by omega, b⟩
theorem SrcAt.some {H : Hp} {a : Addr} {c : Int} {m : Nat} (h : SrcAt H a c m) : H a ≠ none := by
  obtain ⟨d, n, e, _⟩ := h
  rw [e]
  exact fun z => by cases z
theorem SrcAt.same {H H' : Hp} {a : Addr} {c : Int} {m : Nat} (h : SrcAt H a c m) (s : Same H H') : SrcAt H' a c m := by
  obtain ⟨d, n, e, f, b⟩ := h
  exact ⟨d, n, s _ _ e, f, b⟩
theorem SrcAt.ne {H : Hp} {a p : Addr} {c : Int} {m : Nat} (h : SrcAt H a c m) (n : H p = none) : p ≠ a := by
  obtain ⟨d, k, e, _⟩ := h
  exact (ne_of_none e n).symm
def spSource : Sp := fun vs H Q _ => ∃ c : Int, vs = [.int c] ∧ intBits c ≤ 1048576 ∧ ∀ a H', Same H H' → H a = none → SrcAt H' a c 1000000 → Q (.ref a) H'
def spDraw : Sp := fun vs H Q _ => ∃ (a : Addr) (c : Int) (m : Nat) (k : Int), vs = [.ref a, .int k] ∧ SrcAt H a c (m + 1) ∧
  0 < k ∧ k ≤ 1000000 ∧ ∀ (r : Int) (H' : Hp), 0 ≤ r → r < k → SrcAt H' a c m → Keep a H H' → Q (.int r) H'

section
variable {P : Program} {w : World} {K : PySem.W.Frag} {mg : Str → Option Value} {base : Heap}
theorem scS : FnScope ["_law_cell"] ["_law_cell"] (defScope sSource) := ⟨rfl, rfl, rfl, by decide +kernel, rfl, by decide +kernel, by decide +kernel⟩
theorem ok_source {f : Addr} {fd : FuncData} (F : Fun K "_law_source" "_law_source" sSource f fd) : FnOk P w K mg base CX0 1 f fd ["_law_cell"] spSource := by
  refine F.ok scS (fun vs H Q E h => ?_) (fun cdv A outer s H vs Q E hr h => ?_)
  · obtain ⟨c, rfl, _⟩ := h
    rfl
  · obtain ⟨c, rfl, hb, k⟩ := h
    refine ⟨_, pss_one (ps_ret (pe_lst (pa_cons (pv 0) (pa_cons (pv 0) (pa_cons pe_int pa_nil))))), ?_⟩
    exact ⟨_, rfl, _, rfl, (by show 3 ≤ sizeLine; decide), fun a ha => k a _ (same_new ha) ha ⟨c, 0, upd_same, by decide, hb⟩⟩
theorem scD : FnScope ["_law_source_here", "_law_limit", "_law_digit", "_law_mixed"] ["_law_source_here", "_law_limit"] (defScope sDraw) :=
  ⟨rfl, rfl, rfl, by decide +kernel, rfl, by decide +kernel, by decide +kernel⟩
theorem ok_draw {f : Addr} {fd : FuncData} (F : Fun K "_law_draw" "_law_draw" sDraw f fd) (mi : mg "int" = none) :
    FnOk P w K mg base CX0 1 f fd ["_law_source_here", "_law_limit"] spDraw := by
  refine F.ok scD (fun vs H Q E h => ?_) (fun cdv A outer s H vs Q E hr h => ?_)
  · obtain ⟨a, c, n, m, rfl, _⟩ := h
    rfl
  · obtain ⟨a, c, fu, m, rfl, ⟨d, n, hs, hn, hc⟩, m0, m1, k⟩ := h
    refine ⟨_, pss_cons (ps_asg (pe_op op_add (pe_ix ix_list (pv 0) pe_int (fun _ _ => rfl)) pe_int) (pg_sub (pv 0) pe_int set_list))
      (pss_cons (ps_if (pt_cmpR op_ge (pe_ix ix_list (pv 0) pe_int (fun _ _ => rfl)) (pe_op op_pow pe_int pe_int) (nomark _))
        (pss_cons (ps_set (i := 2) scD.nd rfl (Or.inl rfl) (pe_op op_modN (pe_callTy call_int1 (by rfl) mi (by decide +kernel) (pa_cons (pe_ix ix_list (pv 0) pe_int (fun _ _ => rfl)) pa_nil)) (pv 1)))
        (pss_cons (ps_asg (pe_op op_fdivN (pe_ix ix_list (pv 0) pe_int (fun _ _ => rfl)) (pv 1)) (pg_sub (pv 0) pe_int set_list))
        (pss_one (ps_ret (pv 2))))) pss_nil)
      (pss_cons (ps_set (i := 3) scD.nd rfl (Or.inl rfl) (pe_op op_modN (pe_callTy call_int1 (by rfl) mi (by decide +kernel) (pa_cons (pe_op op_powB (pe_callTy call_int1 (by rfl) mi (by decide +kernel) (pa_cons (pe_op op_add (pe_op op_add (pe_op op_mul (pe_callTy call_int1 (by rfl) mi (by decide +kernel) (pa_cons (pe_ix ix_list (pv 0) pe_int (fun _ _ => rfl)) pa_nil)) pe_int) (pe_op op_mul (pe_ix ix_list (pv 0) pe_int (fun _ _ => rfl)) pe_int)) pe_int) pa_nil)) pe_int) pa_nil)) pe_int))
      (pss_cons (ps_set (i := 3) scD.nd rfl (Or.inl rfl) (pe_op op_modN (pe_callTy call_int1 (by rfl) mi (by decide +kernel) (pa_cons (pe_op op_powB (pe_callTy call_int1 (by rfl) mi (by decide +kernel) (pa_cons (pe_op op_add (pv 3) (pe_op op_mul (pe_op op_mul (pe_ix ix_list (pv 0) pe_int (fun _ _ => rfl)) (pe_ix ix_list (pv 0) pe_int (fun _ _ => rfl))) pe_int)) pa_nil)) pe_int) pa_nil)) pe_int))
      (pss_one (ps_ret (pe_op op_modN (pe_op op_fdivN (pv 3) pe_int) (pv 1))))))), ?_⟩
    -- src[2] = src[2] + 1
    refine ⟨_, rfl, a, _, _, _, rfl, rfl, SqL.of hs, rfl, _, _, rfl, rfl, _, rfl, a, _, _, _, rfl, rfl, hs, rfl, ?_⟩
    -- if src[0] >= 10 ** 18
    refine ⟨_, rfl, a, _, _, _, rfl, rfl, SqL.of upd_same, rfl, _, _, rfl, rfl, ⟨by decide, by decide, by decide⟩, _, _, rfl, rfl, _, rfl, ?_⟩
    refine ite2 (fun _ => ?_) (fun _ => ?_)
    · refine ⟨_, rfl, a, _, _, _, rfl, rfl, SqL.of upd_same, rfl, .inl ⟨_, rfl, ?_⟩⟩
      refine ⟨_, rfl, _, _, rfl, rfl, by omega, ?_⟩
      refine ⟨_, rfl, a, _, _, _, rfl, rfl, SqL.of upd_same, rfl, _, rfl, _, _, rfl, rfl, ⟨by omega, by omega⟩, _, rfl, a, _, _, _, rfl, rfl, upd_same, rfl, ?_⟩
      refine ⟨_, rfl, k _ _ (mod_pos m0).1 (mod_pos m0).2 ⟨_, n + 1, upd_same, by omega, hc⟩ fun b o e nb => ?_⟩
      rw [upd_ne nb, upd_ne nb]
      exact e
    · -- mixed
      refine ⟨_, rfl, a, _, _, _, rfl, rfl, SqL.of upd_same, rfl, .inl ⟨_, rfl, ?_⟩⟩
      refine ⟨_, _, rfl, rfl, .inr ⟨by decide, by decide⟩, _, rfl, a, _, _, _, rfl, rfl, SqL.of upd_same, rfl, _, _, rfl, rfl, .inr ⟨by decide, by decide⟩, _, _, rfl, rfl, _, _, rfl, rfl, .inl ⟨_, rfl, ?_⟩⟩
      refine ⟨_, _, rfl, rfl, ⟨by decide, big_ok hc (by omega) (by omega) (by decide) (by decide)⟩, .inl ⟨_, rfl, _, _, rfl, rfl, (by show (2147483647 : Int) ≠ 0; decide), ?_⟩⟩
      refine ⟨_, rfl, _, rfl, a, _, _, _, rfl, rfl, SqL.of upd_same, rfl, _, rfl, a, _, _, _, rfl, rfl, SqL.of upd_same, rfl, _, _, rfl, rfl, .inr ⟨by omega, by omega⟩, _, _, rfl, rfl, .inr ⟨by decide, by decide⟩, _, _, rfl, rfl, .inl ⟨_, rfl, ?_⟩⟩
      have sq0 : 0 ≤ ((n : Int) + 1) * ((n : Int) + 1) := Int.mul_nonneg (by omega) (by omega)
      have sq1 : ((n : Int) + 1) * ((n : Int) + 1) ≤ 1000001 * 1000001 := Int.mul_le_mul (by omega) (by omega) (by omega) (by omega)
      have b1 := fun x : Int => mod_pos (x := x) (y := 2147483647) (by decide)
      refine ⟨_, _, rfl, rfl, ⟨by decide, small_ok ?_ ?_⟩, .inl ⟨_, rfl, _, _, rfl, rfl, (by show (2147483629 : Int) ≠ 0; decide), ?_⟩⟩
      · exact Int.add_nonneg (b1 _).1 (by omega)
      · refine Int.lt_of_lt_of_le (Int.add_lt_add_right (b1 _).2 _) (by omega)
      -- return mixed // 64 % limit
      refine ⟨_, rfl, _, _, rfl, rfl, ⟨by decide, by decide⟩, _, rfl, _, _, rfl, rfl, (by show m ≠ 0; omega), ?_⟩
      refine k _ _ (mod_pos m0).1 (mod_pos m0).2 ⟨_, n + 1, upd_same, by omega, hc⟩ fun b o e nb => ?_
      rw [upd_ne nb]
      exact e

/-! ### names -/
def isLet (c : Nat) : Bool := decide (97 ≤ c) && decide (c ≤ 122)
def isSgn (c : Nat) : Bool := isLet c || (decide (48 ≤ c) && decide (c ≤ 57))
def nmB : List Nat → Bool
  | [] => false
  | c :: r => isLet c && r.all isSgn && decide (r.length ≤ 11)
/-- a name -/
def Nm (z : Str) : Prop := nmB z.cps.toList = true
theorem toList_append (a b : Str) : (a ++ b).cps.toList = a.cps.toList ++ b.cps.toList := by
  rw [Str.cps_append, Array.toList_append]
theorem length_toList (a : Str) : a.cps.toList.length = a.length := by
  show a.cps.toList.length = a.cps.size
  exact Array.length_toList
abbrev letS : Str := Str.ofString "abcdefghijklmnopqrstuvwxyz"
abbrev digS : Str := Str.ofString "0123456789"
theorem let_all : letS.cps.toList.all isLet = true := by decide +kernel
theorem sgn_all : (letS ++ digS).cps.toList.all isSgn = true := by decide +kernel
theorem let_len : letS.cps.toList.length = 26 := by decide +kernel
theorem sgn_len : (letS ++ digS).cps.toList.length = 36 := by decide +kernel
theorem pick {l : List Nat} {p : Nat → Bool} {n : Nat} (all : l.all p = true) (len : l.length = n) {r : Int} (h0 : 0 ≤ r) (h1 : r < n) :
    ∃ c, atI l r = some c ∧ p c = true := by
  obtain ⟨j, rfl⟩ : ∃ j : Nat, r = j := ⟨r.toNat, by omega⟩
  have hj : j < l.length := by omega
  refine ⟨l[j], atI_nat (List.getElem?_eq_getElem hj), ?_⟩
  exact List.all_eq_true.mp all _ (List.getElem_mem hj)
def spName : Sp := fun vs H Q _ => ∃ (a : Addr) (c : Int) (m : Nat), vs = [.ref a] ∧ SrcAt H a c (m + 14) ∧
  ∀ (z : Str) (H' : Hp), Nm z → SrcAt H' a c m → Keep a H H' → Q (.str z) H'
theorem scN : FnScope ["_law_source_here", "_law_letters", "_law_size", "_law_found", "_law_k"] ["_law_source_here"] (defScope sName) :=
  ⟨rfl, rfl, rfl, by decide +kernel, rfl, by decide +kernel, by decide +kernel⟩
theorem nm_one {c : Nat} (h : isLet c = true) : Nm ⟨#[c]⟩ := by
  show nmB [c] = true
  simp [nmB, h]
theorem sgn_of_let {c : Nat} (h : isLet c = true) : isSgn c = true := by simp [isSgn, h]
theorem nm_sgns {l : List Nat} (h : nmB l = true) : l.all isSgn = true ∧ l.length ≤ 12 ∧ 1 ≤ l.length := by
  cases l with
  | nil => cases h
  | cons c r =>
    simp only [nmB, Bool.and_eq_true, decide_eq_true_eq] at h
    refine ⟨?_, by simp; omega, by simp⟩
    simp only [List.all_cons, Bool.and_eq_true]
    exact ⟨sgn_of_let h.1.1, h.1.2⟩
theorem nm_tail {z : Str} (h : Nm z) : Nm (Str.ofString "m" ++ cutS z (some 1) none) := by
  obtain ⟨h1, h2, h3⟩ := nm_sgns h
  have e1 : (Str.ofString "m").cps.toList = [109] := by decide +kernel
  show nmB (Str.ofString "m" ++ cutS z (some 1) none).cps.toList = true
  rw [toList_append, e1]
  have e2 : (cutS z (some 1) none).cps.toList = (z.cps.toList.drop (min 1 z.length)).take (z.length - min 1 z.length) := by
    have e3 : HT.sIx z.length 0 (some 1) = min 1 z.length := HT.sIx_nat z.length 0 1
    unfold cutS
    rw [e3, HT.sIx_none]
  rw [e2]
  have l1 := length_toList z
  simp only [List.cons_append, List.nil_append, nmB, Bool.and_eq_true, decide_eq_true_eq]
  refine ⟨⟨by decide, ?_⟩, ?_⟩
  · rw [List.all_eq_true] at h1 ⊢
    exact fun x hx => h1 x (List.mem_of_mem_drop (List.mem_of_mem_take hx))
  · rw [List.length_take, List.length_drop]
    omega
theorem ok_name {f fD : Addr} {fd fdD : FuncData} (F : Fun K "_law_name" "_law_name" sName f fd) (FD : Fun K "_law_draw" "_law_draw" sDraw fD fdD)
    (bD : Binds K fdD ["_law_source_here", "_law_limit"] []) (mi : mg "int" = none) (mD : mg "_law_draw" = some (.ref fD)) (mr : mg "range" = none) :
    FnOk P w K mg base CX0 2 f fd ["_law_source_here"] spName := by
  have GD : FnOk P w K mg base CX0 1 fD fdD ["_law_source_here", "_law_limit"] spDraw := ok_draw FD mi
  refine F.ok scN (fun vs H Q E h => ?_) (fun cdv A outer s H vs Q E hr h => ?_)
  · obtain ⟨a, c, m, rfl, _⟩ := h
    rfl
  · obtain ⟨a, c, m, rfl, hs, k⟩ := h
    have hr1 : Room 1 _ := hr.mono (by decide)
    refine ⟨_, pss_cons (ps_set (i := 1) scN.nd rfl (Or.inl rfl) pe_str)
      (pss_cons (ps_set (i := 2) scN.nd rfl (Or.inl rfl) (pe_ix ix_list (pe_lst (pa_cons pe_int (pa_cons pe_int (pa_cons pe_int (pa_cons pe_int (pa_cons pe_int (pa_cons pe_int (pa_cons pe_int pa_nil)))))))) (pe_call GD hr1 (by rfl) mD FD.kp bD .nil pass0 (pa_cons (pv 0) (pa_cons pe_int pa_nil))) (fun _ _ => rfl)))
      (pss_cons (ps_set (i := 3) scN.nd rfl (Or.inl rfl) (pe_ix ix_str (pv 1) (pe_call GD hr1 (by rfl) mD FD.kp bD .nil pass0 (pa_cons (pv 0) (pa_cons pe_int pa_nil))) (fun _ _ => rfl)))
      (pss_cons (ps_for PassesOwn.never rfl (pi_range1 rfl mr (pa_cons (pv 2) pa_nil)) (pg_name (i := 4) scN.nd rfl (Or.inl rfl))
        (pss_one (ps_set (i := 3) scN.nd rfl (Or.inl rfl) (pe_op op_add_str (pv 3) (pe_ix ix_str (pe_op op_add_str (pv 1) pe_str) (pe_call GD hr1 (by rfl) mD FD.kp bD .nil pass0 (pa_cons (pv 0) (pa_cons pe_int pa_nil))) (fun _ _ => rfl))))))
      (pss_one (ps_ret (pe_ifExp (pt_cmpR op_ne (pe_slice sl_str (pv 3) po_none (po_some pe_int)) pe_str (nomark _)) (pv 3)
        (pe_op op_add_str pe_str (pe_slice sl_str (pv 3) (po_some pe_int) po_none)))))))), ?_⟩
    -- size
    refine ⟨(by show 7 ≤ sizeLine; decide), fun p1 n1 => ?_⟩
    have u1 := same_new (o := .lst [V.int 0, V.int 0, V.int 1, V.int 2, V.int 3, V.int 5, V.int 11]) n1
    have z1 := hs.ne n1
    refine ⟨_, rfl, a, c, m + 13, 7, rfl, hs.same u1, by decide, by decide, fun r1 H1 r10 r11 s1 k1 => ?_⟩
    have hl := k1 _ _ upd_same z1
    have size : ∃ sz : Nat, atI [V.int 0, V.int 0, V.int 1, V.int 2, V.int 3, V.int 5, V.int 11] r1 = some (.int sz) ∧ sz ≤ 11 := by
      obtain ⟨j, rfl⟩ : ∃ j : Nat, r1 = j := ⟨r1.toNat, by omega⟩
      have hj : j = 0 ∨ j = 1 ∨ j = 2 ∨ j = 3 ∨ j = 4 ∨ j = 5 ∨ j = 6 := by omega
      rcases hj with rfl | rfl | rfl | rfl | rfl | rfl | rfl
      · exact ⟨0, atI_nat (j := 0) rfl, by decide⟩
      · exact ⟨0, atI_nat (j := 1) rfl, by decide⟩
      · exact ⟨1, atI_nat (j := 2) rfl, by decide⟩
      · exact ⟨2, atI_nat (j := 3) rfl, by decide⟩
      · exact ⟨3, atI_nat (j := 4) rfl, by decide⟩
      · exact ⟨5, atI_nat (j := 5) rfl, by decide⟩
      · exact ⟨11, atI_nat (j := 6) rfl, by decide⟩
    obtain ⟨sz, esz, hsz⟩ := size
    refine ⟨p1, _, _, _, rfl, rfl, SqL.of hl, esz, ?_⟩
    -- found
    refine ⟨_, rfl, _, rfl, a, c, m + 12, 26, rfl, s1, by decide, by decide, fun r2 H2 r20 r21 s2 k2 => ?_⟩
    obtain ⟨c0, ec0, lc0⟩ := pick let_all let_len r20 r21
    refine ⟨_, _, _, rfl, rfl, (by decide +kernel), ec0, ?_⟩
    -- the loop
    refine ⟨_, rfl, _, rfl, by omega, by omega, for_range (lo := 0) (n := (sz : Int).toNat) (fun i σ H3 => ∃ (z : Str) (v : Option V), σ = [some (.ref a), some (.str letS), some (.int sz), some (.str z), v] ∧
      nmB z.cps.toList = true ∧ z.cps.toList.length = i + 1 ∧ SrcAt H3 a c (m + 12 - i) ∧ Keep a H H3) ⟨_, none, rfl, nm_one lc0, rfl, s2, ((Keep.of u1).trans k1).trans k2⟩ ?_ ?_⟩
    · rintro i σ H3 hi ⟨z, v, rfl, hz, lz, s3, k3⟩
      rw [Int.toNat_natCast] at hi
      have lz2 := length_toList z
      refine ⟨_, rfl, _, rfl, _, _, rfl, rfl, (by decide +kernel), ?_⟩
      have s3' : SrcAt H3 a c (m + 12 - (i + 1) + 1) := s3.mono (by omega)
      refine ⟨_, rfl, a, c, m + 12 - (i + 1), 36, rfl, s3', by decide, by decide, fun r4 H4 r40 r41 s4 k4 => ?_⟩
      obtain ⟨c4, ec4, lc4⟩ := pick sgn_all sgn_len r40 r41
      refine ⟨_, _, _, rfl, rfl, (by decide +kernel), ec4, ?_⟩
      refine ⟨_, _, rfl, rfl, ?_, ?_⟩
      · have e1 : (⟨#[c4]⟩ : Str).length = 1 := rfl
        rw [e1, sizeLine_eq]
        omega
      · refine ⟨_, _, rfl, ?_, ?_, s4, k3.trans k4⟩
        · rw [toList_append]
          cases hz2 : z.cps.toList with
          | nil =>
            rw [hz2] at hz
            cases hz
          | cons x xs =>
            rw [hz2] at hz lz
            simp only [nmB, Bool.and_eq_true, decide_eq_true_eq] at hz
            show nmB (x :: (xs ++ [c4])) = true
            simp only [List.length_cons] at lz
            simp only [nmB, List.all_append, List.length_append, Bool.and_eq_true, decide_eq_true_eq]
            refine ⟨⟨hz.1.1, hz.1.2, by simp [lc4]⟩, ?_⟩
            show xs.length + 1 ≤ 11
            omega
        · rw [toList_append, List.length_append, lz]
          rfl
    · rintro σ H3 ⟨z, v, rfl, hz, lz, s3, k3⟩
      rw [Int.toNat_natCast] at s3 lz
      have s3' : SrcAt H3 a c m := s3.mono (by omega)
      obtain ⟨_, l12, _⟩ := nm_sgns hz
      have lz2 := length_toList z
      have lzs : z.length ≤ sizeLine := by rw [sizeLine_eq]; omega
      refine ⟨_, rfl, 3, rfl, z, rfl, lzs, rfl, _, rfl, ?_⟩
      refine ite2 (fun _ => ?_) (fun _ => ?_)
      · exact ⟨_, rfl, k z H3 hz s3' k3⟩
      · refine ⟨_, rfl, 1, rfl, z, rfl, lzs, _, _, rfl, rfl, ?_, k _ H3 (nm_tail hz) s3' k3⟩
        have e1 : (Str.ofString "m").length = 1 := by decide +kernel
        have e2 : (cutS z (some 1) none).length ≤ z.length := by
          rw [← length_toList, ← length_toList]
          unfold cutS
          show ((z.cps.toList.drop _).take _).length ≤ _
          rw [List.length_take, List.length_drop]
          omega
        rw [e1, sizeLine_eq]
        omega
end
end L2.LawH
set_option Elab.async false
set_option linter.all false
set_option maxRecDepth 100000
set_option maxHeartbeats 4000000
/-! The helpers of the laws: lists of names. -/
namespace L2.LawH
open PySem PySem.Spec PyProof.Rows
open Builtin.Int (intBits)
abbrev sNames : Stmt := top 26
theorem nodup_len {α : Type} [DecidableEq α] : ∀ (l D : List α), l.Nodup → (∀ x ∈ l, x ∈ D) → l.length ≤ D.length
  | [], _, _, _ => Nat.zero_le _
  | x :: l, D, nd, h => by
    obtain ⟨n1, n2⟩ := List.nodup_cons.mp nd
    have hx := h x List.mem_cons_self
    have ih := nodup_len l (D.erase x) n2 fun y hy => by
      have ne : y ≠ x := fun z => n1 (by rw [← z]; exact hy)
      exact (List.mem_erase_of_ne ne).mpr (h y (List.mem_cons_of_mem _ hy))
    have e := List.length_erase_of_mem hx
    have pos : 0 < D.length := List.length_pos_of_mem hx
    rw [List.length_cons]
    omega
theorem op_notInK {X : Cx} {K : PySem.W.Frag} (e : X.K = K) : OpR X (compareOp .NotIn) (rIn K true) := by
  subst e
  exact op_notIn_seq
theorem inV_strs (q : Str) : ∀ L : List Str, inV (.str q) (L.map V.str) = decide (q ∈ L)
  | [] => by simp [inV]
  | x :: L => by
    have ih := inV_strs q L
    unfold inV at ih ⊢
    rw [List.map_cons, List.any_cons, ih]
    by_cases h : x = q
    · subst h
      simp [eqV]
    · have h' : ¬ q = x := fun z => h z.symm
      simp [eqV, h, h']
theorem flat_strs : ∀ L : List Str, (L.map V.str).all flatV = true
  | [] => rfl
  | _ :: L => by
    rw [List.map_cons, List.all_cons, flat_strs L]
    rfl
def qn (j : Nat) : Str := Str.ofString "q" ++ (toString (j : Int) : String)
theorem qn_ok : ((List.range 10).all fun j => nmB (qn j).cps.toList && decide ((qn j).length ≤ 3)) = true := by decide +kernel
theorem qn_nd : ((List.range 10).map qn).Nodup := by decide +kernel
def qs (n : Nat) : List Str := (List.range n).map qn
theorem qs_nd {n : Nat} (h : n ≤ 10) : (qs n).Nodup := by
  have e : qs n = ((List.range 10).map qn).take n := by
    unfold qs
    rw [← List.map_take, List.take_range, Nat.min_eq_left h]
  rw [e]
  exact qn_nd.sublist (List.take_sublist _ _)
theorem qs_len (n : Nat) : (qs n).length = n := by simp [qs]
theorem qs_get {n i : Nat} (h : i < n) : (qs n)[i]? = some (qn i) := by simp [qs, h]
theorem qs_nm {n : Nat} (h : n ≤ 10) {q : Str} (hq : q ∈ qs n) : Nm q := by
  obtain ⟨j, hj, rfl⟩ := List.mem_map.mp hq
  have h2 := List.all_eq_true.mp qn_ok j (List.mem_range.mpr (Nat.lt_of_lt_of_le (List.mem_range.mp hj) h))
  exact (Bool.and_eq_true_iff.mp h2).1
theorem qn_len {j : Nat} (h : j < 10) : (qn j).length ≤ 3 := by
  have h2 := List.all_eq_true.mp qn_ok j (List.mem_range.mpr h)
  exact of_decide_eq_true (Bool.and_eq_true_iff.mp h2).2
def free (L : List Str) (q : Str) : Bool := !decide (q ∈ L)
theorem some_free {L : List Str} {n : Nat} (h : n ≤ 10) (hl : L.length < n) : ∃ q r, (qs n).filter (free L) = q :: r ∧ Nm q ∧ q ∉ L := by
  cases e : (qs n).filter (free L) with
  | nil =>
    exfalso
    have all : ∀ q ∈ qs n, q ∈ L := by
      intro q hq
      have z := List.filter_eq_nil_iff.mp e q hq
      simpa [free] using z
    have := nodup_len _ _ (qs_nd h) all
    rw [qs_len] at this
    omega
  | cons q r =>
    have hm : q ∈ (qs n).filter (free L) := by
      rw [e]
      exact List.mem_cons_self
    obtain ⟨h1, h2⟩ := List.mem_filter.mp hm
    exact ⟨q, r, rfl, qs_nm h h1, by simpa [free] using h2⟩
theorem Keep.upd_new {a p : Addr} {H H' : Hp} {o : HO} (k : Keep a H H') (n : H p = none) : Keep a H (upd H' p o) := fun b u e nb => by
  rw [upd_ne (ne_of_none e n)]
  exact k b u e nb

def spNames : Sp := fun vs H Q _ => ∃ (a : Addr) (c : Int) (m cn : Nat), vs = [.ref a, .int cn] ∧ cn ≤ 9 ∧ SrcAt H a c (m + 14 * cn) ∧
  ∀ (p : Addr) (L : List Str) (H' : Hp), L.length = cn → (∀ z ∈ L, Nm z) → L.Nodup → H p = none → H' p = some (.lst (L.map V.str)) → SrcAt H' a c m → Keep a H H' → Q (.ref p) H'
section
variable {P : Program} {w : World} {K : PySem.W.Frag} {mg : Str → Option Value} {base : Heap}
abbrev nNames : List Str := ["_law_source_here", "_law_many", "_law_found", "_law_k", "_law_name_here", "_law_spare", "_law_one", "_law_j"]
theorem scNs : FnScope nNames ["_law_source_here", "_law_many"] (defScope sNames) := ⟨rfl, rfl, rfl, by decide +kernel, rfl, by decide +kernel, by decide +kernel⟩
theorem ok_names {f fN : Addr} {fd fdN : FuncData} (F : Fun K "_law_names" "_law_names" sNames f fd) (GN : FnOk P w K mg base CX0 2 fN fdN ["_law_source_here"] spName)
    (kN : PySem.W.keepIn K (.ref fN) = true) (bN : Binds K fdN ["_law_source_here"] []) (mN : mg "_law_name" = some (.ref fN)) (mr : mg "range" = none) (ms : mg "str" = none) :
    FnOk P w K mg base CX0 3 f fd ["_law_source_here", "_law_many"] spNames := by
  refine F.ok scNs (fun vs H Q E h => ?_) (fun cdv A outer s H vs Q E hr h => ?_)
  · obtain ⟨a, c, m, cn, rfl, _⟩ := h
    rfl
  · obtain ⟨a, c, m, cn, rfl, hcn, hs, k⟩ := h
    have hr2 : Room 2 _ := hr.mono (by decide)
    refine ⟨_, pss_cons (ps_set (i := 2) scNs.nd rfl (Or.inr rfl) (pe_lst pa_nil))
      (pss_cons (ps_for PassesOwn.never rfl (pi_range1 rfl mr (pa_cons (pv 1) pa_nil)) (pg_name (i := 3) scNs.nd rfl (Or.inl rfl))
        (pss_cons (ps_set (i := 4) scNs.nd rfl (Or.inl rfl) (pe_call GN hr2 (by rfl) mN kN bN .nil pass0 (pa_cons (pv 0) pa_nil)))
        (pss_cons (ps_setLc (i := 5) (own := [("_law_one", 6)]) (g := gName 6) (tt := tTest (tOp (rIn K true) (tVar 6) (tVar 2))) rfl scNs.nd rfl rfl (sw_true rfl rfl rfl (by decide +kernel))
            (pi_list (pe_lc (own := [("_law_j", 7)]) (g := gName 7) (tt := tYes) rfl scNs.nd (pi_range1 rfl mr (pa_cons (pe_op op_add (pv 1) pe_int) pa_nil))
              (blkOk_by (own := [("_law_j", 7)]) (N := nNames) (sc := defScope sNames) (by decide +kernel))
              (fun _ _ _ _ _ => pg_name (i := 7) scNs.nd rfl (Or.inl rfl)) (fun _ _ _ _ _ => pts_nil)
              (fun _ _ _ _ _ => pe_op op_add_str pe_str (pe_callTy call_str_int (by rfl) ms (by decide +kernel) (pa_cons (pv 7) pa_nil)))))
            (blkOk_by (own := [("_law_one", 6)]) (N := nNames) (sc := defScope sNames) (by decide +kernel))
            (fun _ _ _ _ _ => pg_name (i := 6) scNs.nd rfl (Or.inl rfl)) (fun _ _ _ _ _ => pts_one (pt_cmpR (op_notInK rfl) (pv 6) (pv 2) (by rfl))) (fun _ _ _ _ _ => pv 6))
        (pss_one (ps_expr (pe_bm PySem.F.plainAttrs_list PySem.F.slot_list_append PySem.F.type_list_append mt_append (pv 2)
          (pa_cons (pe_ifExp (pt_cmpR op_notIn_seq (pv 4) (pv 2) (by rfl)) (pv 4) (pe_ix ix_list (pv 5) pe_int (fun _ _ => rfl))) pa_nil)))))))
      (pss_one (ps_ret (pv 2)))), ?_⟩
    refine ⟨(by show 0 ≤ sizeLine; decide), fun p np => ?_⟩
    have pa := hs.ne np
    refine ⟨_, rfl, _, rfl, by omega, by omega, for_range (lo := 0) (n := (cn : Int).toNat) (fun i σ H3 => ∃ (L : List Str) (v3 v4 v5 v6 v7 : Option V), σ = [some (.ref a), some (.int cn), some (.ref p), v3, v4, v5, v6, v7] ∧
      L.length = i ∧ (∀ z ∈ L, Nm z) ∧ L.Nodup ∧ H3 p = some (.lst (L.map V.str)) ∧ SrcAt H3 a c (m + 14 * (cn - i)) ∧ Keep a H H3)
      ⟨[], none, none, none, none, none, rfl, rfl, fun _ z => (by cases z), List.nodup_nil, upd_same, (hs.same (same_new np)).mono (by omega), Keep.of (same_new np)⟩ ?_ ?_⟩
    · rintro i σ H3 hi ⟨L, v3, v4, v5, v6, v7, rfl, hl, hnm, hnd, h3, s3, k3⟩
      rw [Int.toNat_natCast] at hi
      -- name_here
      have s3' : SrcAt H3 a c (m + 14 * (cn - (i + 1)) + 14) := s3.mono (by omega)
      refine ⟨_, rfl, a, c, m + 14 * (cn - (i + 1)), rfl, s3', fun z H4 nz s4 k4 => ?_⟩
      have h4 := k4 _ _ h3 pa
      -- spare: the inner list
      refine ⟨_, rfl, _, _, rfl, rfl, _, rfl, by omega, by omega, fun D nD => ?_⟩
      have tn : ((cn : Int) + 1).toNat = cn + 1 := by omega
      rw [tn]
      refine lc_range (lo := 0) (n := cn + 1) (fun j H5 => Same H4 H5 ∧ H5 D = some (.lst (((qs (cn + 1)).take j).map V.str))) ⟨same_new nD, upd_same⟩ ?_ ?_
      · rintro j H5 hj ⟨s5, hD⟩
        refine ⟨rfl, ?_⟩
        dsimp only [tYes]
        rw [if_pos rfl]
        have e0 : (0 : Int) + (j : Int) = (j : Int) := by omega
        rw [e0]
        have sz : (toString (j : Int) : String) = toString (j : Int) := rfl
        have l3 : (Str.ofString "q" ++ ((toString (j : Int) : String) : Str)).length ≤ 3 := qn_len (j := j) (by omega)
        have lsum : (Str.ofString "q").length + ((toString (j : Int) : String) : Str).length ≤ sizeLine := by
          have e1 : (Str.ofString "q" ++ ((toString (j : Int) : String) : Str)).length = (Str.ofString "q").length + ((toString (j : Int) : String) : Str).length := by
            rw [← length_toList, toList_append, List.length_append, length_toList, length_toList]
          rw [e1] at l3
          rw [sizeLine_eq]
          omega
        have lg : ((j : Int)).natAbs.log2 < 1920 := by
          have : ((j : Int)).natAbs < 2 ^ 11 := by
            have e2 : (2 : Nat) ^ 11 = 2048 := by decide
            rw [e2]
            omega
          have h9 : ((j : Int)).natAbs.log2 ≤ 11 := by
            by_cases z : ((j : Int)).natAbs = 0
            · rw [z]
              decide
            · exact Nat.le_of_lt ((Nat.log2_lt z).mpr this)
          omega
        refine ⟨_, rfl, _, rfl, lg, _, _, rfl, rfl, lsum, _, hD, ?_, fun b o e => ?_, ?_⟩
        · rw [List.length_map, List.length_take, qs_len]
          refine Nat.lt_of_le_of_lt (Nat.min_le_right _ _) ?_
          rw [sizeLine_eq]
          omega
        · rw [upd_ne (ne_of_none e nD)]
          exact s5 b o e
        · rw [upd_same, List.take_add_one, qs_get hj]
          simp [qn]
      · rintro H5 ⟨s5, hD⟩
        have hD' : H5 D = some (.lst ((qs (cn + 1)).map V.str)) := by
          rw [hD, List.take_of_length_le (by rw [qs_len]; exact Nat.le_refl _)]
        have h5 := s5 _ _ h4
        -- spare: the outer list
        refine ⟨D, rfl, ⟨_, SqL.of hD'⟩, fun D2 nD2 => ?_⟩
        refine lc_list (K := K) (a := D) (xs := (qs (cn + 1)).map V.str) (fun j H6 => Same H5 H6 ∧ H6 D2 = some (.lst ((((qs (cn + 1)).take j).filter (free L)).map V.str)))
          ⟨same_new nD2, upd_same⟩ (fun j H6 _ h6 => h6.1.seq (SqL.of hD')) ?_ ?_
        · rintro j v H6 hj ⟨s6, hD2⟩
          rw [List.getElem?_map] at hj
          cases eb : (qs (cn + 1))[j]? with
          | none =>
            rw [eb] at hj
            cases hj
          | some q =>
            rw [eb] at hj
            cases hj
            have h6 := s6 _ _ h5
            refine ⟨rfl, _, rfl, _, rfl, p, _, rfl, .inl (SqL.of h6), rfl, flat_strs L, _, rfl, ?_⟩
            rw [List.take_add_one, eb, List.filter_append]
            have e2 : (if true = true then !inV (V.str q) (L.map V.str) else inV (V.str q) (L.map V.str)) = free L q := by
              rw [if_pos rfl, inV_strs]
              rfl
            rw [e2]
            cases ef : free L q with
            | true =>
              refine iteT ?_
              refine ⟨_, rfl, _, hD2, ?_, fun b o e => ?_, ?_⟩
              · rw [List.length_map]
                refine Nat.lt_of_le_of_lt (List.length_filter_le _ _) ?_
                rw [List.length_take, qs_len, sizeLine_eq]
                omega
              · rw [upd_ne (ne_of_none e nD2)]
                exact s6 b o e
              · rw [upd_same]
                simp [ef]
            | false =>
              refine iteF ?_
              refine ⟨s6, ?_⟩
              rw [hD2]
              simp [ef]
        · rintro H6 ⟨s6, hD2⟩
          have hD2' : H6 D2 = some (.lst (((qs (cn + 1)).filter (free L)).map V.str)) := by
            rw [hD2, List.length_map, List.take_of_length_le (Nat.le_refl _)]
          have h6 := s6 _ _ h5
          have s46 : Same H4 H6 := s5.trans s6
          -- found.append(..)
          obtain ⟨q, r, eq, nq, fq⟩ := some_free (L := L) (n := cn + 1) (by omega) (by omega)
          refine ⟨_, rfl, .inl ⟨rfl, _, .inl (.inl h6)⟩, ?_⟩
          refine ⟨_, rfl, _, rfl, p, _, rfl, .inl (SqL.of h6), rfl, flat_strs L, _, rfl, ?_⟩
          have e2 : (if true = true then !inV (V.str z) (L.map V.str) else inV (V.str z) (L.map V.str)) = free L z := by
            rw [if_pos rfl, inV_strs]
            rfl
          rw [e2]
          have few : (L.map V.str).length < sizeLine := by
            rw [List.length_map, sizeLine_eq]
            omega
          have fin : ∀ t : Str, Nm t → t ∉ L → ∃ (L' : List Str) (w3 w4 w5 w6 w7 : Option V), [some (.ref a), some (.int cn), some (.ref p), some (V.int (0 + (i : Int))), some (.str z), some (.ref D2), v6, v7] = [some (.ref a), some (.int cn), some (.ref p), w3, w4, w5, w6, w7] ∧
              L'.length = i + 1 ∧ (∀ z ∈ L', Nm z) ∧ L'.Nodup ∧ (upd H6 p (.lst (L.map V.str ++ [V.str t]))) p = some (.lst (L'.map V.str)) ∧ SrcAt (upd H6 p (.lst (L.map V.str ++ [V.str t]))) a c (m + 14 * (cn - (i + 1))) ∧ Keep a H (upd H6 p (.lst (L.map V.str ++ [V.str t]))) := by
            intro t nt ft
            refine ⟨L ++ [t], _, _, _, _, _, rfl, by simp [hl], fun y hy => ?_, ?_, by rw [upd_same]; simp, ?_, ?_⟩
            · rcases List.mem_append.mp hy with hy | hy
              · exact hnm y hy
              · have : y = t := by simpa using hy
                rw [this]
                exact nt
            · rw [List.nodup_append]
              refine ⟨hnd, by simp, fun x hx y hy e => ?_⟩
              have : y = t := by simpa using hy
              rw [e, this] at hx
              exact ft hx
            · obtain ⟨d, n, e, g⟩ := s4.same s46
              exact ⟨d, n, by rw [upd_ne pa.symm]; exact e, g⟩
            · exact ((k3.trans k4).trans (Keep.of s46)).upd_new np
          cases ef : free L z with
          | true =>
            refine iteT ?_
            refine ⟨_, rfl, p, _, _, rfl, rfl, h6, few, ?_⟩
            exact fin z nz (by simpa [free] using ef)
          | false =>
            refine iteF ?_
            refine ⟨_, rfl, D2, _, 0, .str q, rfl, rfl, SqL.of hD2', ?_, p, _, _, rfl, rfl, h6, few, ?_⟩
            · rw [eq]
              exact atI_nat (j := 0) rfl
            · exact fin q nq fq
    · rintro σ H3 ⟨L, v3, v4, v5, v6, v7, rfl, hl, hnm, hnd, h3, s3, k3⟩
      rw [Int.toNat_natCast] at hl
      exact ⟨_, rfl, k p L H3 hl hnm hnd np h3 (s3.mono (by omega)) k3⟩
end
end L2.LawH
set_option Elab.async false
set_option linter.all false
set_option maxRecDepth 100000
set_option maxHeartbeats 4000000
/-! The helpers of the laws: the pool of tables, constants and variables. -/
namespace L2.LawH
open PySem PySem.Spec PyProof.Rows
open Builtin.Int (intBits)
abbrev sPool : Stmt := top 27
theorem ix_listK {X : Cx} {K : PySem.W.Frag} (e : X.K = K) : IxR X (rIxL K) := by
  subst e
  exact ix_list
/-- a variable -/
def Vr (z : Str) : Prop := ∃ y : Str, Nm y ∧ z = Str.ofString "?" ++ y
structure Pool where
  (r cs vs : Addr)
  rows : List (Addr × Str × Nat)
  (C W : List Str)
structure PoolAt (a : Addr) (H : Hp) (p : Addr) (π : Pool) : Prop where
  hp : H p = some (.lst [.ref π.r, .ref π.cs, .ref π.vs])
  hr : H π.r = some (.lst (π.rows.map fun x => V.ref x.1))
  hrow : ∀ x ∈ π.rows, H x.1 = some (.tup [.str x.2.1, .int (x.2.2 : Nat)]) ∧ Nm x.2.1 ∧ x.2.2 ≤ 3 ∧ x.1 ≠ a
  rows1 : 1 ≤ π.rows.length
  rows9 : π.rows.length ≤ 9
  hc : H π.cs = some (.lst (π.C.map V.str))
  nC : ∀ z ∈ π.C, Nm z
  C2 : 2 ≤ π.C.length
  C9 : π.C.length ≤ 20
  hv : H π.vs = some (.lst (π.W.map V.str))
  nW : ∀ z ∈ π.W, Vr z
  W9 : π.W.length = 9
  np : p ≠ a
  nr : π.r ≠ a
  nc : π.cs ≠ a
  nv : π.vs ≠ a
theorem PoolAt.keep {a : Addr} {H H' : Hp} {p : Addr} {π : Pool} (h : PoolAt a H p π) (k : Keep a H H') : PoolAt a H' p π :=
  ⟨k _ _ h.hp h.np, k _ _ h.hr h.nr, fun x hx => let ⟨h1, h2, h3, h4⟩ := h.hrow x hx; ⟨k _ _ h1 h4, h2, h3, h4⟩, h.rows1, h.rows9, k _ _ h.hc h.nc, h.nC, h.C2, h.C9, k _ _ h.hv h.nv, h.nW, h.W9, h.np, h.nr, h.nc, h.nv⟩
def spPool : Sp := fun vs H Q _ => ∃ (a : Addr) (c : Int) (m : Nat), vs = [.ref a] ∧ SrcAt H a c (m + 300) ∧
  ∀ (p : Addr) (π : Pool) (H' : Hp), PoolAt a H' p π → π.C.length ≤ 9 → SrcAt H' a c m → Keep a H H' → Q (.ref p) H'
section
variable {P : Program} {w : World} {K : PySem.W.Frag} {mg : Str → Option Value} {base : Heap}
abbrev nPool : List Str := ["_law_source_here", "_law_tables", "_law_sizes", "_law_constants", "_law_variables_here", "_law_rows", "_law_k", "_law_name_here"]
theorem scP : FnScope nPool ["_law_source_here"] (defScope sPool) := ⟨rfl, rfl, rfl, by decide +kernel, rfl, by decide +kernel, by decide +kernel⟩
theorem menu8 {r : Int} (h0 : 0 ≤ r) (h1 : r < 8) : ∃ n : Nat, atI [V.int 2, V.int 1, V.int 2, V.int 3, V.int 2, V.int 0, V.int 1, V.int 2] r = some (.int n) ∧ n ≤ 3 := by
  obtain ⟨j, rfl⟩ : ∃ j : Nat, r = j := ⟨r.toNat, by omega⟩
  have hj : j = 0 ∨ j = 1 ∨ j = 2 ∨ j = 3 ∨ j = 4 ∨ j = 5 ∨ j = 6 ∨ j = 7 := by omega
  rcases hj with rfl | rfl | rfl | rfl | rfl | rfl | rfl | rfl
  · exact ⟨2, atI_nat (j := 0) rfl, by decide⟩
  · exact ⟨1, atI_nat (j := 1) rfl, by decide⟩
  · exact ⟨2, atI_nat (j := 2) rfl, by decide⟩
  · exact ⟨3, atI_nat (j := 3) rfl, by decide⟩
  · exact ⟨2, atI_nat (j := 4) rfl, by decide⟩
  · exact ⟨0, atI_nat (j := 5) rfl, by decide⟩
  · exact ⟨1, atI_nat (j := 6) rfl, by decide⟩
  · exact ⟨2, atI_nat (j := 7) rfl, by decide⟩
theorem menu4 {r : Int} (h0 : 0 ≤ r) (h1 : r < 4) : ∃ n : Nat, atI [V.int 1, V.int 3, V.int 0, V.int 1] r = some (.int n) ∧ n ≤ 3 := by
  obtain ⟨j, rfl⟩ : ∃ j : Nat, r = j := ⟨r.toNat, by omega⟩
  have hj : j = 0 ∨ j = 1 ∨ j = 2 ∨ j = 3 := by omega
  rcases hj with rfl | rfl | rfl | rfl
  · exact ⟨1, atI_nat (j := 0) rfl, by decide⟩
  · exact ⟨3, atI_nat (j := 1) rfl, by decide⟩
  · exact ⟨0, atI_nat (j := 2) rfl, by decide⟩
  · exact ⟨1, atI_nat (j := 3) rfl, by decide⟩
theorem ints_get {Z : List Nat} {i : Nat} (h : i < Z.length) : (Z.map fun n : Nat => V.int (n : Int))[i]? = some (.int (Z[i] : Nat)) := by
  rw [List.getElem?_map, List.getElem?_eq_getElem h]
  rfl
theorem strs_get {L : List Str} {i : Nat} (h : i < L.length) : (L.map V.str)[i]? = some (.str L[i]) := by
  rw [List.getElem?_map, List.getElem?_eq_getElem h]
  rfl
theorem ok_pool {f fD fS : Addr} {fd fdD fdS : FuncData} (F : Fun K "_law_pool" "_law_pool" sPool f fd)
    (GD : FnOk P w K mg base CX0 1 fD fdD ["_law_source_here", "_law_limit"] spDraw) (kD : PySem.W.keepIn K (.ref fD) = true) (bD : Binds K fdD ["_law_source_here", "_law_limit"] []) (mD : mg "_law_draw" = some (.ref fD))
    (GS : FnOk P w K mg base CX0 3 fS fdS ["_law_source_here", "_law_many"] spNames) (kS : PySem.W.keepIn K (.ref fS) = true) (bS : Binds K fdS ["_law_source_here", "_law_many"] []) (mS : mg "_law_names" = some (.ref fS))
    (mr : mg "range" = none) (ml : mg "len" = none) :
    FnOk P w K mg base CX0 4 f fd ["_law_source_here"] spPool := by
  refine F.ok scP (fun vs H Q E h => ?_) (fun cdv A outer s H vs Q E hr h => ?_)
  · obtain ⟨a, c, m, rfl, _⟩ := h
    rfl
  · obtain ⟨a, c, m, rfl, hs, k⟩ := h
    have hr1 : Room 1 _ := hr.mono (by decide)
    refine ⟨_, pss_cons (ps_set (i := 1) scP.nd rfl (Or.inr rfl) (pe_call GS hr (by rfl) mS kS bS .nil pass0 (pa_cons (pv 0) (pa_cons (pe_op op_add pe_int (pe_call GD hr1 (by rfl) mD kD bD .nil pass0 (pa_cons (pv 0) (pa_cons pe_int pa_nil)))) pa_nil))))
      (pss_cons (ps_set (i := 2) scP.nd rfl (Or.inr rfl) (pe_op op_cat (pe_lst (pa_cons pe_int pa_nil))
        (pe_lc (own := [("_law_k", 6)]) (g := gName 6) (tt := tYes) rfl scP.nd (pi_range1 (by rfl) mr (pa_cons (pe_op op_sub (pe_callB call_len_seq (by rfl) ml (by decide +kernel) (pa_cons (pv 1) pa_nil)) pe_int) pa_nil))
          (blkOk_by (own := [("_law_k", 6)]) (N := nPool) (sc := defScope sPool) (by decide +kernel)) (fun _ _ _ _ _ => pg_name (i := 6) scP.nd rfl (Or.inl rfl)) (fun _ _ _ _ _ => pts_nil)
          (fun _ _ _ _ _ => pe_ix (ix_listK rfl) (pe_lst (pa_cons pe_int (pa_cons pe_int (pa_cons pe_int (pa_cons pe_int (pa_cons pe_int (pa_cons pe_int (pa_cons pe_int (pa_cons pe_int pa_nil))))))))) (pe_call GD hr1 (by rfl) mD kD bD .nil pass0 (pa_cons (pv 0) (pa_cons pe_int pa_nil))) (fun _ _ => rfl)))))
      (pss_cons (ps_set (i := 3) scP.nd rfl (Or.inl rfl) (pe_call GS hr (by rfl) mS kS bS .nil pass0 (pa_cons (pv 0) (pa_cons (pe_op op_add pe_int (pe_call GD hr1 (by rfl) mD kD bD .nil pass0 (pa_cons (pv 0) (pa_cons pe_int pa_nil)))) pa_nil))))
      (pss_cons (ps_setLc (i := 4) (own := [("_law_name_here", 7)]) (g := gName 7) (tt := tYes) rfl scP.nd rfl rfl (sw_true rfl rfl rfl (by decide +kernel))
          (pi_list (pe_call GS hr (by rfl) mS kS bS .nil pass0 (pa_cons (pv 0) (pa_cons pe_int pa_nil))))
          (blkOk_by (own := [("_law_name_here", 7)]) (N := nPool) (sc := defScope sPool) (by decide +kernel)) (fun _ _ _ _ _ => pg_name (i := 7) scP.nd rfl (Or.inl rfl)) (fun _ _ _ _ _ => pts_nil)
          (fun _ _ _ _ _ => pe_op op_add_str pe_str (pv 7)))
      (pss_cons (ps_setLc (i := 5) (own := [("_law_k", 6)]) (g := gName 6) (tt := tYes) rfl scP.nd rfl rfl (sw_true rfl rfl rfl (by decide +kernel))
          (pi_range1 (by rfl) mr (pa_cons (pe_callB call_len_seq (by rfl) ml (by decide +kernel) (pa_cons (pv 1) pa_nil)) pa_nil))
          (blkOk_by (own := [("_law_k", 6)]) (N := nPool) (sc := defScope sPool) (by decide +kernel)) (fun _ _ _ _ _ => pg_name (i := 6) scP.nd rfl (Or.inl rfl)) (fun _ _ _ _ _ => pts_nil)
          (fun _ _ _ _ _ => pe_tup (pa_cons (pe_ix (ix_listK rfl) (pv 1) (pv 6) (fun _ _ => rfl)) (pa_cons (pe_ix (ix_listK rfl) (pv 2) (pv 6) (fun _ _ => rfl)) pa_nil))))
      (pss_cons (ps_if (pt_cmpR op_eq (pe_call GD hr1 (by rfl) mD kD bD .nil pass0 (pa_cons (pv 0) (pa_cons pe_int pa_nil))) pe_int (nomark _))
        (pss_one (ps_expr (pe_bm PySem.F.plainAttrs_list PySem.F.slot_list_append PySem.F.type_list_append mt_append (pv 5)
          (pa_cons (pe_tup (pa_cons (pe_ix ix_list (pv 1) pe_int (fun _ _ => rfl)) (pa_cons (pe_ix ix_list (pe_lst (pa_cons pe_int (pa_cons pe_int (pa_cons pe_int (pa_cons pe_int pa_nil))))) (pe_call GD hr1 (by rfl) mD kD bD .nil pass0 (pa_cons (pv 0) (pa_cons pe_int pa_nil))) (fun _ _ => rfl)) pa_nil))) pa_nil)))) pss_nil)
      (pss_one (ps_ret (pe_lst (pa_cons (pv 5) (pa_cons (pv 3) (pa_cons (pv 4) pa_nil))))))))))), ?_⟩
    -- tables
    refine ⟨_, rfl, _, rfl, a, c, m + 299, 3, rfl, hs, by decide, by decide, fun r1 H1 r10 r11 s1 k1 => ⟨_, _, rfl, rfl, ?_⟩⟩
    obtain ⟨j1, rfl⟩ : ∃ j : Nat, r1 = j := ⟨r1.toNat, by omega⟩
    refine ⟨a, c, m + 240, 2 + j1, rfl, by omega, s1.mono (by omega), fun t L H2 lL nL ndL nt ht s2 k2 => ?_⟩
    have ta : t ≠ a := s1.ne nt
    have K2 := k1.trans k2
    -- sizes
    refine ⟨(by show 1 ≤ sizeLine; decide), fun pA nA => ?_⟩
    have uA := same_new (o := .lst [V.int 2]) nA
    have zA := s2.ne nA
    refine ⟨_, rfl, t, _, rfl, .inl (SqL.of (uA _ _ ht)), _, _, rfl, rfl, ?_⟩
    have lS : (L.map V.str).length = 2 + j1 := by rw [List.length_map, lL]
    refine ⟨_, rfl, by rw [lS]; omega, by rw [lS]; omega, fun D nD => ?_⟩
    have tn : (((L.map V.str).length : Int) - 1).toNat = 1 + j1 := by rw [lS]; omega
    rw [tn]
    have sA := s2.same uA
    have zD := sA.ne nD
    refine lc_range (lo := 0) (n := 1 + j1) (fun j H5 => ∃ Z : List Nat, Z.length = j ∧ (∀ n ∈ Z, n ≤ 3) ∧ H5 D = some (.lst (Z.map fun n : Nat => V.int (n : Int))) ∧ SrcAt H5 a c (m + 239 - j) ∧ Keep a H H5 ∧ H5 t = some (.lst (L.map V.str)) ∧ H5 pA = some (.lst [V.int 2]))
      ⟨[], rfl, fun _ z => (by cases z), upd_same, (sA.same (same_new nD)).mono (by omega), K2.trans (Keep.of (uA.trans (same_new nD))), (same_new nD) _ _ (uA _ _ ht), (same_new nD) _ _ upd_same⟩ ?_ ?_
    · rintro j H5 hj ⟨Z, lZ, Z3, hD, s5, k5, t5, a5⟩
      refine ⟨rfl, ?_⟩
      dsimp only [tYes]
      rw [if_pos rfl]
      refine ⟨(by show 8 ≤ sizeLine; decide), fun p8 n8 => ?_⟩
      have u8 := same_new (o := .lst [V.int 2, V.int 1, V.int 2, V.int 3, V.int 2, V.int 0, V.int 1, V.int 2]) n8
      have z8 := s5.ne n8
      refine ⟨_, rfl, a, c, m + 239 - (j + 1), 8, rfl, (s5.same u8).mono (by omega), by decide, by decide, fun r H6 r0 r1 s6 k6 => ?_⟩
      obtain ⟨n, en, n3⟩ := menu8 r0 r1
      refine ⟨p8, _, _, _, rfl, rfl, SqL.of (k6 _ _ upd_same z8), en, _, k6 _ _ (u8 _ _ hD) zD, ?_, Z ++ [n], ?_, ?_, ?_, ?_, ?_, ?_, ?_⟩
      · rw [List.length_map, lZ, sizeLine_eq]
        omega
      · simp [lZ]
      · intro x hx
        rcases List.mem_append.mp hx with hx | hx
        · exact Z3 x hx
        · have e : x = n := by simpa using hx
          rw [e]
          exact n3
      · rw [upd_same]
        simp
      · obtain ⟨d, nn, e, g⟩ := s6
        exact ⟨d, nn, by rw [upd_ne zD.symm]; exact e, g⟩
      · have kk : Keep a H H6 := (k5.trans (Keep.of u8)).trans k6
        intro b o e nb
        by_cases hb : b = D
        · exfalso
          subst hb
          have q := (K2.trans (Keep.of uA)) _ _ e nb
          rw [nD] at q
          cases q
        · rw [upd_ne hb]
          exact kk b o e nb
      · have tD : t ≠ D := ne_of_none (uA _ _ ht) nD
        rw [upd_ne tD]
        exact k6 _ _ (u8 _ _ t5) ta
      · have aD : pA ≠ D := ne_of_none (upd_same (H := H2) (o := .lst [V.int 2])) nD
        rw [upd_ne aD]
        exact k6 _ _ (u8 _ _ a5) zA
    · rintro H5 ⟨Z, lZ, Z3, hD, s5, k5, t5, a5⟩
      refine ⟨pA, D, _, _, rfl, rfl, a5, hD, ?_, fun pZ nZ => ?_⟩
      · rw [List.length_map, lZ, sizeLine_eq]
        show 1 + (1 + j1) ≤ _
        omega
      have uZ := same_new (o := .lst ([V.int 2] ++ Z.map fun n : Nat => V.int (n : Int))) nZ
      have zZ := s5.ne nZ
      have sZ : SrcAt _ a c (m + 235) := (s5.same uZ).mono (by omega)
      have hZ : (upd H5 pZ (.lst ([V.int 2] ++ Z.map fun n : Nat => V.int (n : Int)))) pZ = some (.lst ((2 :: Z).map fun n : Nat => V.int (n : Int))) := upd_same
      -- constants
      refine ⟨_, rfl, _, rfl, a, c, m + 234, 3, rfl, sZ, by decide, by decide, fun r2 H6 r20 r21 s6 k6 => ⟨_, _, rfl, rfl, ?_⟩⟩
      obtain ⟨j2, rfl⟩ : ∃ j : Nat, r2 = j := ⟨r2.toNat, by omega⟩
      refine ⟨a, c, m + 150, 2 + j2, rfl, by omega, s6.mono (by omega), fun pC C H7 lC nC ndC ntC hC s7 k7 => ?_⟩
      have zC := s6.ne ntC
      have t7 := k7 _ _ (k6 _ _ (uZ _ _ t5) ta) ta
      have z7 := k7 _ _ (k6 _ _ hZ zZ) zZ
      have kH7 := ((k5.trans (Keep.of uZ)).trans k6).trans k7
      -- variables
      refine ⟨_, rfl, a, c, m + 20, 9, rfl, by decide, s7.mono (by omega), fun pN N9 H8 lN nN ndN ntN hN s8 k8 => ?_⟩
      have t8 := k8 _ _ t7 ta
      have z8 := k8 _ _ z7 zZ
      have c8 := k8 _ _ hC zC
      have kH8 := kH7.trans k8
      refine ⟨pN, rfl, ⟨_, SqL.of hN⟩, fun DV nDV => ?_⟩
      have zV := s8.ne nDV
      refine lc_list (K := K) (a := pN) (xs := N9.map V.str) (fun j H9 => Same H8 H9 ∧ H9 DV = some (.lst (((N9.take j).map fun y => Str.ofString "?" ++ y).map V.str)))
        ⟨same_new nDV, upd_same⟩ (fun j H9 _ h9 => h9.1.seq (SqL.of hN)) ?_ ?_
      · rintro j v H9 hj ⟨s9, hDV⟩
        rw [List.getElem?_map] at hj
        cases eb : N9[j]? with
        | none =>
          rw [eb] at hj
          cases hj
        | some y =>
          rw [eb] at hj
          cases hj
          refine ⟨rfl, ?_⟩
          dsimp only [tYes]
          rw [if_pos rfl]
          have ny := nN y (List.mem_of_getElem? eb)
          obtain ⟨_, l12, _⟩ := nm_sgns ny
          have ly := length_toList y
          refine ⟨_, rfl, _, _, rfl, rfl, ?_, _, hDV, ?_, fun b o e => ?_, ?_⟩
          · have e1 : (Str.ofString "?").length = 1 := by decide +kernel
            rw [e1, sizeLine_eq]
            omega
          · rw [List.length_map, List.length_map, List.length_take, lN, sizeLine_eq]
            omega
          · rw [upd_ne (ne_of_none e nDV)]
            exact s9 b o e
          · rw [upd_same, List.take_add_one, eb]
            simp
      · rintro H9 ⟨s9, hDV⟩
        rw [List.length_map, List.take_of_length_le (Nat.le_refl _)] at hDV
        have t9 := s9 _ _ t8
        have z9 := s9 _ _ z8
        have c9 := s9 _ _ c8
        have sr9 := s8.same s9
        have kH9 := kH8.trans (Keep.of s9)
        -- rows
        refine ⟨_, rfl, t, _, rfl, .inl (SqL.of t9), _, rfl, by rw [lS]; omega, by rw [lS]; omega, fun DR nDR => ?_⟩
        have tn2 : (((L.map V.str).length : Int)).toNat = 2 + j1 := by rw [lS]; omega
        rw [tn2]
        have zR := sr9.ne nDR
        refine lc_range (lo := 0) (n := 2 + j1) (fun j H10 => ∃ rows : List (Addr × Str × Nat), rows.length = j ∧ Same H9 H10 ∧ H10 DR = some (.lst (rows.map fun x => V.ref x.1)) ∧
          ∀ x ∈ rows, H10 x.1 = some (.tup [.str x.2.1, .int (x.2.2 : Nat)]) ∧ Nm x.2.1 ∧ x.2.2 ≤ 3 ∧ x.1 ≠ a ∧ x.1 ≠ DR)
          ⟨[], rfl, same_new nDR, upd_same, fun _ z => by cases z⟩ ?_ ?_
        · rintro j H10 hj ⟨rows, lR, s10, hDR, all⟩
          refine ⟨rfl, ?_⟩
          dsimp only [tYes]
          rw [if_pos rfl]
          have e0 : (0 : Int) + (j : Int) = (j : Int) := by omega
          rw [e0]
          have jL : j < L.length := by omega
          have jZ : j < (2 :: Z).length := by simp; omega
          refine ⟨_, rfl, _, rfl, t, _, _, _, rfl, rfl, SqL.of (s10 _ _ t9), atI_nat (strs_get jL), _, rfl, _, rfl, pZ, _, _, _, rfl, rfl, SqL.of (s10 _ _ z9), atI_nat (ints_get jZ), (by show 2 ≤ sizeLine; decide), fun pt npt => ?_⟩
          have upt := same_new (o := .tup [V.str L[j], V.int (((2 :: Z)[j] : Nat) : Int)]) npt
          have zpt : pt ≠ a := (sr9.same s10).ne npt
          have zDR : pt ≠ DR := (ne_of_none hDR npt).symm
          have z3 : (2 :: Z)[j] ≤ 3 := by
            have hm : (2 :: Z)[j] ∈ (2 :: Z) := List.getElem_mem jZ
            rcases List.mem_cons.mp hm with e | e
            · rw [e]
              decide
            · exact Z3 _ e
          refine ⟨_, upt _ _ hDR, ?_, rows ++ [(pt, L[j], (2 :: Z)[j])], by simp [lR], fun b o e => ?_, by rw [upd_same]; simp, fun x hx => ?_⟩
          · rw [List.length_map, lR, sizeLine_eq]
            omega
          · rw [upd_ne (ne_of_none e nDR)]
            exact upt _ _ (s10 b o e)
          · rcases List.mem_append.mp hx with hx | hx
            · obtain ⟨h1, h2, h3, h4, h5⟩ := all x hx
              exact ⟨by rw [upd_ne h5]; exact upt _ _ h1, h2, h3, h4, h5⟩
            · have e : x = (pt, L[j], (2 :: Z)[j]) := by simpa using hx
              rw [e]
              exact ⟨by rw [upd_ne zDR]; exact upd_same, nL _ (List.getElem_mem jL), z3, zpt, zDR⟩
        · rintro H10 ⟨rows, lR, s10, hDR, all⟩
          have sr10 := sr9.same s10
          -- the return
          have fin : ∀ (H11 : Hp) (rows' : List (Addr × Str × Nat)), 1 ≤ rows'.length → rows'.length ≤ 9 → H11 DR = some (.lst (rows'.map fun x => V.ref x.1)) →
              (∀ x ∈ rows', H11 x.1 = some (.tup [.str x.2.1, .int (x.2.2 : Nat)]) ∧ Nm x.2.1 ∧ x.2.2 ≤ 3 ∧ x.1 ≠ a) → H11 pC = some (.lst (C.map V.str)) →
              H11 DV = some (.lst ((N9.map fun y => Str.ofString "?" ++ y).map V.str)) → SrcAt H11 a c m → Keep a H H11 →
              ∀ p, H11 p = none → Q (.ref p) (upd H11 p (.lst [.ref DR, .ref pC, .ref DV])) := by
            intro H11 rows' l1 l9 hR allR hC11 hV11 s11 k11 p np
            have up := same_new (o := .lst [V.ref DR, V.ref pC, V.ref DV]) np
            refine k p ⟨DR, pC, DV, rows', C, N9.map fun y => Str.ofString "?" ++ y⟩ _ ⟨upd_same, up _ _ hR, fun x hx => let ⟨h1, h2, h3, h4⟩ := allR x hx; ⟨up _ _ h1, h2, h3, h4⟩, l1, l9, up _ _ hC11, nC, by rw [lC]; omega, by rw [lC]; omega, up _ _ hV11, fun z hz => ?_, by simp [lN], s11.ne np, zR, zC, zV⟩ (by show C.length ≤ 9; rw [lC]; omega) (s11.same up) (k11.trans (Keep.of up))
            obtain ⟨y, hy, rfl⟩ := List.mem_map.mp hz
            exact ⟨y, nN y hy, rfl⟩
          -- if draw(3) == 0
          refine ⟨_, rfl, a, c, m + 10, 3, rfl, sr10.mono (by omega), by decide, by decide, fun r5 H11 r50 r51 s11 k11 => ⟨rfl, _, rfl, ?_⟩⟩
          have hR11 := k11 _ _ hDR zR
          have c11 := k11 _ _ (s10 _ _ c9) zC
          have v11 := k11 _ _ (s10 _ _ hDV) zV
          have t11 := k11 _ _ (s10 _ _ t9) ta
          have kH11 := (kH9.trans (Keep.of s10)).trans k11
          refine ite2 (fun _ => ?_) (fun _ => ?_)
          · have L0 : 0 < L.length := by omega
            refine ⟨_, rfl, .inl ⟨rfl, _, .inl (.inl hR11)⟩, ?_⟩
            refine ⟨_, rfl, t, _, 0, _, rfl, rfl, SqL.of t11, atI_nat (j := 0) (strs_get L0), (by show 4 ≤ sizeLine; decide), fun p4 n4 => ?_⟩
            have u4 := same_new (o := .lst [V.int 1, V.int 3, V.int 0, V.int 1]) n4
            have z4 := s11.ne n4
            refine ⟨_, rfl, a, c, m + 5, 4, rfl, (s11.same u4).mono (by omega), by decide, by decide, fun r6 H12 r60 r61 s12 k12 => ?_⟩
            obtain ⟨n, en, n3⟩ := menu4 r60 r61
            refine ⟨p4, _, _, _, rfl, rfl, SqL.of (k12 _ _ upd_same z4), en, (by show 2 ≤ sizeLine; decide), fun pt npt => ?_⟩
            have upt := same_new (o := .tup [V.str L[0], V.int (n : Int)]) npt
            have zpt := s12.ne npt
            have hR12 := k12 _ _ (u4 _ _ hR11) zR
            have zDR : pt ≠ DR := (ne_of_none hR12 npt).symm
            refine ⟨DR, _, _, rfl, rfl, upt _ _ hR12, ?_, ?_⟩
            · rw [List.length_map, lR, sizeLine_eq]
              omega
            · have ks : Keep DR (upd H12 pt (.tup [V.str L[0], V.int (n : Int)])) (upd (upd H12 pt (.tup [V.str L[0], V.int (n : Int)])) DR (.lst (rows.map (fun x => V.ref x.1) ++ [V.ref pt]))) := fun b o e nb => by
                rw [upd_ne nb]
                exact e
              have aDR : a ≠ DR := zR.symm
              refine ⟨_, rfl, _, rfl, _, rfl, (by show 3 ≤ sizeLine; decide), fin _ (rows ++ [(pt, L[0], n)]) (by simp) (by simp [lR]; omega) (by rw [upd_same]; simp) (fun x hx => ?_) ?_ ?_ ?_ ?_⟩
              · rcases List.mem_append.mp hx with hx | hx
                · obtain ⟨h1, h2, h3, h4, h5⟩ := all x hx
                  exact ⟨ks _ _ (upt _ _ (k12 _ _ (u4 _ _ (k11 _ _ h1 h4)) h4)) h5, h2, h3, h4⟩
                · have e : x = (pt, L[0], n) := by simpa using hx
                  rw [e]
                  exact ⟨ks _ _ upd_same zDR, nL _ (List.getElem_mem L0), n3, zpt⟩
              · exact ks _ _ (upt _ _ (k12 _ _ (u4 _ _ c11) zC)) (ne_of_none (s10.trans (Same.refl _) |> fun _ => c9) nDR)
              · exact ks _ _ (upt _ _ (k12 _ _ (u4 _ _ v11) zV)) (ne_of_none hDV nDR)
              · obtain ⟨d, nn, e, g, bb⟩ := s12.same upt
                exact ⟨d, nn, ks _ _ e aDR, by omega, bb⟩
              · have k13 := (kH11.trans (Keep.of u4)).trans (k12.trans (Keep.of upt))
                intro b o e nb
                have nD' : b ≠ DR := ne_of_none (kH9 b o e nb) nDR
                exact ks _ _ (k13 b o e nb) nD'
          · refine ⟨_, rfl, _, rfl, _, rfl, (by show 3 ≤ sizeLine; decide), fin _ rows (by omega) (by omega) hR11 (fun x hx => ?_) c11 v11 (s11.mono (by omega)) kH11⟩
            obtain ⟨h1, h2, h3, h4, h5⟩ := all x hx
            exact ⟨k11 _ _ h1 h4, h2, h3, h4⟩
end
end L2.LawH
set_option Elab.async false
set_option linter.all false
set_option maxRecDepth 100000
set_option maxHeartbeats 4000000
/-! The helpers of the laws: terms, patterns, lots. -/
namespace L2.LawH
open PySem PySem.Spec PyProof.Rows
open Builtin.Int (intBits)
abbrev sTerm : Stmt := top 28
abbrev sPat : Stmt := top 29
abbrev sLot : Stmt := top 31
/-! ### texts that can be compared -/
theorem ok_list {z : Str} (h : ∀ c ∈ z.cps.toList, c < 0x110000) : PyData.strOk z = true := by
  unfold PyData.strOk
  rw [← Array.all_toList, List.all_eq_true]
  exact fun c hc => decide_eq_true (h c hc)
theorem sgn_small {c : Nat} (h : isSgn c = true) : c < 0x110000 := by
  simp only [isSgn, isLet, Bool.or_eq_true, Bool.and_eq_true, decide_eq_true_eq] at h
  omega
theorem Nm.strOk {z : Str} (h : Nm z) : PyData.strOk z = true := by
  obtain ⟨h1, _, _⟩ := nm_sgns h
  exact ok_list fun c hc => sgn_small (List.all_eq_true.mp h1 c hc)
theorem Vr.strOk {z : Str} (h : Vr z) : PyData.strOk z = true := by
  obtain ⟨y, ny, rfl⟩ := h
  obtain ⟨h1, _, _⟩ := nm_sgns ny
  refine ok_list fun c hc => ?_
  rw [toList_append] at hc
  rcases List.mem_append.mp hc with hc | hc
  · have e1 : (Str.ofString "?").cps.toList = [63] := by decide +kernel
    rw [e1] at hc
    have e : c = 63 := by simpa using hc
    omega
  · exact sgn_small (List.all_eq_true.mp h1 c hc)
theorem dp_strs {K : PySem.W.Frag} {H : Hp} : ∀ zs : List Str, DpAll K H (zs.map V.str) (zs.map PyData.str)
  | [] => .nil
  | z :: zs => .cons (.str z) (dp_strs zs)
theorem lay_strs : ∀ zs : List Str, (PyData.list (zs.map PyData.str)).canLay0 = (zs.all PyData.strOk)
  | [] => rfl
  | z :: zs => by
    have ih := lay_strs zs
    simp only [PyData.canLay0, PyData.canLayAll0, List.map_cons, List.all_cons] at ih ⊢
    rw [ih]
theorem depth_strs : ∀ zs : List Str, (PyData.list (zs.map PyData.str)).depth ≤ 2
  | [] => by decide
  | z :: zs => by
    have ih := depth_strs zs
    simp only [PyData.depth, PyData.depthAll, List.map_cons] at ih ⊢
    omega
theorem shaped_strs {zs : List Str} (h : ∀ z ∈ zs, PyData.strOk z = true) : SeqAt.shaped (.list (zs.map PyData.str)) = true := by
  unfold SeqAt.shaped
  rw [lay_strs, List.all_eq_true.mpr h, Bool.true_and]
  exact decide_eq_true (Nat.le_trans (depth_strs zs) (by decide))
theorem eqv_nil : ∀ zs : List Str, PyData.eqv (.list (zs.map PyData.str)) (.list []) = decide (zs = [])
  | [] => by decide
  | z :: zs => by simp [PyData.eqv, PyData.eqvAll]

/-- a list of variables at q -/
structure VarsAt (a : Addr) (H : Hp) (q : Addr) (W : List Str) : Prop where
  hq : H q = some (.lst (W.map V.str))
  all : ∀ z ∈ W, Vr z
  few : W.length ≤ 100
  nq : q ≠ a
theorem VarsAt.keep {a : Addr} {H H' : Hp} {q : Addr} {W : List Str} (h : VarsAt a H q W) (k : Keep a H H') : VarsAt a H' q W := ⟨k _ _ h.hq h.nq, h.all, h.few, h.nq⟩
def spTerm : Sp := fun vs H Q _ => ∃ (a p q : Addr) (c : Int) (m : Nat) (sh : Int) (π : Pool) (W : List Str), vs = [.ref a, .ref p, .ref q, .int sh] ∧ SrcAt H a c (m + 3) ∧ PoolAt a H p π ∧ VarsAt a H q W ∧
  ∀ (z : Str) (H' : Hp), (z ∈ π.C ∨ z ∈ W) → SrcAt H' a c m → Keep a H H' → Q (.str z) H'
/-- a pattern over a pool and variables -/
structure PatOf (π : Pool) (W : List Str) (T : Str) (zs : List Str) : Prop where
  tab : ∃ x ∈ π.rows, x.2.1 = T ∧ zs.length = x.2.2
  trm : ∀ z ∈ zs, z ∈ π.C ∨ z ∈ W
def spPat : Sp := fun vs H Q _ => ∃ (a p q : Addr) (c : Int) (m : Nat) (sh : Int) (π : Pool) (W : List Str), vs = [.ref a, .ref p, .ref q, .int sh] ∧ SrcAt H a c (m + 20) ∧ PoolAt a H p π ∧ VarsAt a H q W ∧
  ∀ (t : Addr) (T : Str) (zs : List Str) (H' : Hp), PatOf π W T zs → H' t = some (.tup (.str T :: zs.map V.str)) → t ≠ a → SrcAt H' a c m → Keep a H H' → Q (.ref t) H'
section
variable {P : Program} {w : World} {K : PySem.W.Frag} {mg : Str → Option Value} {base : Heap}
abbrev nTerm : List Str := ["_law_source_here", "_law_pool_here", "_law_variables_here", "_law_share"]
theorem scT : FnScope nTerm nTerm (defScope sTerm) := ⟨rfl, rfl, rfl, by decide +kernel, rfl, by decide +kernel, by decide +kernel⟩
theorem ok_term {f fD : Addr} {fd fdD : FuncData} (F : Fun K "_law_term" "_law_term" sTerm f fd)
    (GD : FnOk P w K mg base CX0 1 fD fdD ["_law_source_here", "_law_limit"] spDraw) (kD : PySem.W.keepIn K (.ref fD) = true) (bD : Binds K fdD ["_law_source_here", "_law_limit"] []) (mD : mg "_law_draw" = some (.ref fD))
    (ml : mg "len" = none) : FnOk P w K mg base CX0 2 f fd nTerm spTerm := by
  refine F.ok scT (fun vs H Q E h => ?_) (fun cdv A outer s H vs Q E hr h => ?_)
  · obtain ⟨a, p, q, c, m, sh, π, W, rfl, _⟩ := h
    rfl
  · obtain ⟨a, p, q, c, m, sh, π, W, rfl, hs, hp, hv, k⟩ := h
    have hr1 : Room 1 _ := hr.mono (by decide)
    have hu := hr.units
    refine ⟨_, pss_cons (ps_if (PW.pt (pw_and (pt_cmpR (op_neD hu) (pv 2) (pe_lst pa_nil) (nomark _)) (pw_and1 (pt_cmpR op_lt (pe_call GD hr1 (by rfl) mD kD bD .nil pass0 (pa_cons (pv 0) (pa_cons pe_int pa_nil))) (pv 3) (nomark _)))))
        (pss_one (ps_ret (pe_ix ix_list (pv 2) (pe_call GD hr1 (by rfl) mD kD bD .nil pass0 (pa_cons (pv 0) (pa_cons (pe_callB call_len_seq (by rfl) ml (by decide +kernel) (pa_cons (pv 2) pa_nil)) pa_nil))) (fun _ _ => rfl)))) pss_nil)
      (pss_one (ps_ret (pe_ix ix_list (pe_ix ix_list (pv 1) pe_int (fun _ _ => rfl)) (pe_call GD hr1 (by rfl) mD kD bD .nil pass0 (pa_cons (pv 0) (pa_cons (pe_callB call_len_seq (by rfl) ml (by decide +kernel) (pa_cons (pe_ix ix_list (pv 1) pe_int (fun _ _ => rfl)) pa_nil)) pa_nil))) (fun _ _ => rfl)))), ?_⟩
    -- the second way
    have snd : ∀ H1, SrcAt H1 a c (m + 1) → Keep a H H1 → ∀ σ : List (Option V), σ = [some (.ref a), some (.ref p), some (.ref q), some (.int sh)] →
        tRet (tOp (rIxL K) (tOp (rIxL K) (tVar 1) (tC (.int 1))) (tCall spDraw [] E0 (tCons (tVar 0) (tCons (tCB (fun xs H Q => ∃ p ys, xs = [.ref p] ∧ (SqL K H p ys ∨ SqT K H p ys) ∧ Q (.int ys.length) H) (tCons (tOp (rIxL K) (tVar 1) (tC (.int 1))) tNil)) tNil))))
          { nx := fun _ H' => Q .non H', rt := Q } σ H1 := by
      rintro H1 s1 k1 σ rfl
      have p1 := hp.keep k1
      have lC : (π.C.map V.str).length = π.C.length := List.length_map _
      have c2 := π.C.length
      refine ⟨_, rfl, p, _, 1, _, rfl, rfl, SqL.of p1.hp, rfl, _, rfl, _, rfl, p, _, 1, _, rfl, rfl, SqL.of p1.hp, rfl, π.cs, _, rfl, .inl (SqL.of p1.hc), ?_⟩
      refine ⟨a, c, m, _, rfl, s1, by rw [lC]; have := hp.C2; omega, by rw [lC]; have := hp.C9; omega, fun r H2 r0 r1 s2 k2 => ?_⟩
      obtain ⟨j, rfl⟩ : ∃ j : Nat, r = j := ⟨r.toNat, by omega⟩
      rw [lC] at r1
      have hj : j < π.C.length := by omega
      exact ⟨π.cs, _, _, _, rfl, rfl, SqL.of (k2 _ _ p1.hc p1.nc), atI_nat (strs_get hj), k _ H2 (.inl (List.getElem_mem hj)) s2 (k1.trans k2)⟩
    refine ⟨_, rfl, (by show 0 ≤ sizeLine; decide), fun p0 n0 => ?_⟩
    have u0 := same_new (o := .lst []) n0
    have s0 := hs.same u0
    have hv0 := hv.keep (Keep.of u0)
    refine ⟨_, _, .lst (SqL.of hv0.hq) (dp_strs W), .lst (SqL.of upd_same) .nil, shaped_strs fun z hz => (hv.all z hz).strOk, by decide, _, rfl, ?_⟩
    rw [eqv_nil]
    by_cases e : W = []
    · rw [decide_eq_true e]
      refine iteF ?_
      refine iteF ?_
      exact snd _ (s0.mono (by omega)) (Keep.of u0) _ rfl
    · rw [decide_eq_false e]
      refine iteT ?_
      refine ⟨_, rfl, a, c, m + 2, 6, rfl, s0, by decide, by decide, fun r H1 r0 r1 s1 k1 => ?_⟩
      have hv1 := hv0.keep k1
      refine ⟨_, rfl, _, _, rfl, rfl, _, rfl, ?_⟩
      refine ite2 (fun _ => ?_) (fun _ => ?_)
      · have lW : (W.map V.str).length = W.length := List.length_map _
        have W0 : 0 < W.length := List.length_pos_iff.mpr e
        refine ⟨_, rfl, _, rfl, _, rfl, q, _, rfl, .inl (SqL.of hv1.hq), ?_⟩
        refine ⟨a, c, m + 1, _, rfl, s1, by rw [lW]; omega, by rw [lW]; have := hv.few; omega, fun r2 H2 r20 r21 s2 k2 => ?_⟩
        obtain ⟨j, rfl⟩ : ∃ j : Nat, r2 = j := ⟨r2.toNat, by omega⟩
        rw [lW] at r21
        have hj : j < W.length := by omega
        exact ⟨q, _, _, _, rfl, rfl, SqL.of (k2 _ _ hv1.hq hv.nq), atI_nat (strs_get hj), k _ H2 (.inr (List.getElem_mem hj)) (s2.mono (by omega)) (((Keep.of u0).trans k1).trans k2)⟩
      · exact snd _ (s1.mono (by omega)) ((Keep.of u0).trans k1) _ rfl
abbrev nPat : List Str := ["_law_source_here", "_law_pool_here", "_law_variables_here", "_law_share", "_law_table", "_law_size", "_law_k"]
theorem scPt : FnScope nPat nTerm (defScope sPat) := ⟨rfl, rfl, rfl, by decide +kernel, rfl, by decide +kernel, by decide +kernel⟩
theorem ok_pat {f fD fT : Addr} {fd fdD fdT : FuncData} (F : Fun K "_law_pattern" "_law_pattern" sPat f fd)
    (GD : FnOk P w K mg base CX0 1 fD fdD ["_law_source_here", "_law_limit"] spDraw) (kD : PySem.W.keepIn K (.ref fD) = true) (bD : Binds K fdD ["_law_source_here", "_law_limit"] []) (mD : mg "_law_draw" = some (.ref fD))
    (GT : FnOk P w K mg base CX0 2 fT fdT nTerm spTerm) (kT : PySem.W.keepIn K (.ref fT) = true) (bT : Binds K fdT nTerm []) (mT : mg "_law_term" = some (.ref fT))
    (ml : mg "len" = none) (mr : mg "range" = none) (mt : mg "tuple" = none) : FnOk P w K mg base CX0 3 f fd nTerm spPat := by
  refine F.ok scPt (fun vs H Q E h => ?_) (fun cdv A outer s H vs Q E hr h => ?_)
  · obtain ⟨a, p, q, c, m, sh, π, W, rfl, _⟩ := h
    rfl
  · obtain ⟨a, p, q, c, m, sh, π, W, rfl, hs, hp, hv, k⟩ := h
    have hr1 : Room 1 _ := hr.mono (by decide)
    refine ⟨_, pss_cons (ps_asg (pe_ix ix_list (pe_ix ix_list (pv 1) pe_int (fun _ _ => rfl)) (pe_call GD hr1 (by rfl) mD kD bD .nil pass0 (pa_cons (pv 0) (pa_cons (pe_callB call_len_seq (by rfl) ml (by decide +kernel) (pa_cons (pe_ix ix_list (pv 1) pe_int (fun _ _ => rfl)) pa_nil)) pa_nil))) (fun _ _ => rfl))
        (pg_tup (by rfl) (pgs_cons (pg_name (i := 4) scPt.nd rfl (Or.inl rfl)) (pgs_cons (pg_name (i := 5) scPt.nd rfl (Or.inl rfl)) pgs_nil))))
      (pss_one (ps_ret (pe_callTy call_tuple_of (by rfl) mt (by decide +kernel) (pa_cons (pe_op op_cat (pe_lst (pa_cons (pv 4) pa_nil))
        (pe_lc (own := [("_law_k", 6)]) (g := gName 6) (tt := tYes) rfl scPt.nd (pi_range1 (by rfl) mr (pa_cons (pv 5) pa_nil))
          (blkOk_by (own := [("_law_k", 6)]) (N := nPat) (sc := defScope sPat) (by decide +kernel)) (fun _ _ _ _ _ => pg_name (i := 6) scPt.nd rfl (Or.inl rfl)) (fun _ _ _ _ _ => pts_nil)
          (fun _ _ _ _ _ => pe_call GT hr (by rfl) mT kT bT .nil pass0 (pa_cons (pv 0) (pa_cons (pv 1) (pa_cons (pv 2) (pa_cons (pv 3) pa_nil))))))) pa_nil)))), ?_⟩
    have lR : (π.rows.map fun x => V.ref x.1).length = π.rows.length := List.length_map _
    refine ⟨_, rfl, p, _, 0, _, rfl, rfl, SqL.of hp.hp, rfl, _, rfl, _, rfl, p, _, 0, _, rfl, rfl, SqL.of hp.hp, rfl, π.r, _, rfl, .inl (SqL.of hp.hr), ?_⟩
    refine ⟨a, c, m + 19, _, rfl, hs, by rw [lR]; have := hp.rows1; omega, by rw [lR]; have := hp.rows9; omega, fun r H1 r0 r1 s1 k1 => ?_⟩
    obtain ⟨j, rfl⟩ : ∃ j : Nat, r = j := ⟨r.toNat, by omega⟩
    rw [lR] at r1
    have hj : j < π.rows.length := by omega
    have hp1 := hp.keep k1
    have hv1 := hv.keep k1
    have hx : (π.rows.map fun x => V.ref x.1)[j]? = some (.ref π.rows[j].1) := by
      rw [List.getElem?_map, List.getElem?_eq_getElem hj]
      rfl
    have mx : π.rows[j] ∈ π.rows := List.getElem_mem hj
    obtain ⟨t1, nT, n3, nx⟩ := hp1.hrow _ mx
    refine ⟨π.r, _, _, _, rfl, rfl, SqL.of hp1.hr, atI_nat hx, _, _, rfl, SqT.of t1, rfl, _, _, rfl, _, _, rfl, rfl, ?_⟩
    -- tuple([table] + [..])
    refine ⟨_, rfl, (by show 1 ≤ sizeLine; decide), fun pA nA => ?_⟩
    have uA := same_new (o := .lst [V.str π.rows[j].2.1]) nA
    have zA := s1.ne nA
    refine ⟨_, rfl, _, rfl, by omega, by omega, fun D nD => ?_⟩
    have sA := s1.same uA
    have zD := sA.ne nD
    rw [Int.toNat_natCast]
    refine lc_range (lo := 0) (n := π.rows[j].2.2) (fun i H5 => ∃ zs : List Str, zs.length = i ∧ (∀ z ∈ zs, z ∈ π.C ∨ z ∈ W) ∧ H5 D = some (.lst (zs.map V.str)) ∧ SrcAt H5 a c (m + 19 - 3 * i) ∧ Keep a H H5 ∧ H5 pA = some (.lst [V.str π.rows[j].2.1]))
      ⟨[], rfl, fun _ z => (by cases z), upd_same, sA.same (same_new nD), (k1.trans (Keep.of uA)).trans (Keep.of (same_new nD)), (same_new nD) _ _ upd_same⟩ ?_ ?_
    · rintro i H5 hi ⟨zs, lz, hz, hD, s5, k5, a5⟩
      refine ⟨rfl, ?_⟩
      dsimp only [tYes]
      rw [if_pos rfl]
      have s5' : SrcAt H5 a c (m + 19 - 3 * (i + 1) + 3) := s5.mono (by omega)
      refine ⟨_, rfl, _, rfl, _, rfl, _, rfl, a, p, q, c, m + 19 - 3 * (i + 1), sh, π, W, rfl, s5', hp.keep k5, hv.keep k5, fun z H6 hz6 s6 k6 => ?_⟩
      refine ⟨_, k6 _ _ hD zD, ?_, zs ++ [z], by simp [lz], fun y hy => ?_, by rw [upd_same]; simp, ?_, ?_, ?_⟩
      · rw [List.length_map, lz, sizeLine_eq]
        omega
      · rcases List.mem_append.mp hy with hy | hy
        · exact hz y hy
        · have e : y = z := by simpa using hy
          rw [e]
          exact hz6
      · obtain ⟨d, nn, e, g⟩ := s6
        exact ⟨d, nn, by rw [upd_ne zD.symm]; exact e, g⟩
      · intro b o e nb
        have hb : b ≠ D := ne_of_none ((k1.trans (Keep.of uA)) b o e nb) nD
        rw [upd_ne hb]
        exact (k5.trans k6) b o e nb
      · have aD : pA ≠ D := ne_of_none (upd_same (H := H1) (o := .lst [V.str π.rows[j].2.1])) nD
        rw [upd_ne aD]
        exact k6 _ _ a5 zA
    · rintro H5 ⟨zs, lz, hz, hD, s5, k5, a5⟩
      refine ⟨pA, D, _, _, rfl, rfl, a5, hD, ?_, fun pL nL => ?_⟩
      · rw [List.length_map, lz, sizeLine_eq]
        show 1 + _ ≤ _
        omega
      have uL := same_new (o := .lst ([V.str π.rows[j].2.1] ++ zs.map V.str)) nL
      refine ⟨pL, _, rfl, .inl ⟨SqL.of upd_same, fun pt npt => ?_⟩⟩
      have ut := same_new (o := .tup ([V.str π.rows[j].2.1] ++ zs.map V.str)) npt
      have s6 := (s5.same uL).same ut
      exact k pt _ zs _ ⟨⟨_, mx, rfl, lz⟩, hz⟩ upd_same ((s5.same uL).ne npt) (s6.mono (by omega)) ((k5.trans (Keep.of uL)).trans (Keep.of ut))
end
end L2.LawH
set_option Elab.async false
set_option linter.all false
set_option maxRecDepth 100000
set_option maxHeartbeats 4000000
/-! Sets whose members have a key (texts, numbers): what they hold, in any order; adding; walking them; sorting sets of texts. -/
namespace L2.GSet
open PySem PySem.Spec PyProof.Rows
section
variable {P : Program} {w : World} {κ : Type} [DecidableEq κ]
/-- a set's payload holds the keys ks, and its table can be walked -/
structure Pay (kd : PySem.KeyKind P w κ) (key : Value → κ) (es : Array (Int × Value)) (t : SetTable) (ks : List κ) : Prop where
  el : ElemsOf kd es.toList
  pm : (es.toList.map fun e => key e.2).Perm ks
  few : es.size < scanBound
  fit : t.fits es.size = true
  ris : Ris t.place.toList
  led : w.params.followText "set-order" = true ∨ t.led = true
def GAt (kd : PySem.KeyKind P w κ) (key : Value → κ) (h : Heap) (a : Addr) (ks : List κ) : Prop :=
  ∃ o es ep t, h.get? a = some o ∧ o.ExactSet ∧ o.data = .set es ep t ∧ Pay kd key es t ks
variable {kd : PySem.KeyKind P w κ} {key : Value → κ} {es : Array (Int × Value)} {t : SetTable} {ks : List κ} {h h' : Heap} {a : Addr}
theorem GAt.keep (R : GAt kd key h a ks) (k : ∀ o, h.get? a = some o → h'.get? a = some o) : GAt kd key h' a ks :=
  let ⟨o, es, ep, t, ho, r⟩ := R
  ⟨o, es, ep, t, k o ho, r⟩
theorem GAt.some (R : GAt kd key h a ks) : ∃ o, h.get? a = some o := let ⟨o, _, _, _, ho, _⟩ := R; ⟨o, ho⟩
theorem Pay.size (p : Pay kd key es t ks) : es.size = ks.length := by
  have q := p.pm.length_eq
  rwa [List.length_map, Array.length_toList] at q
theorem Pay.is (hk : ∀ k v, kd.is k v = true → key v = k) (p : Pay kd key es t ks) {e : Int × Value} (he : e ∈ es.toList) (k : κ) : kd.is k e.2 = true ↔ key e.2 = k := by
  obtain ⟨⟨k', i, _⟩, _⟩ := p.el e he
  refine ⟨hk k _, fun z => ?_⟩
  rw [← z, hk k' _ i]
  exact i
theorem Pay.mem (hk : ∀ k v, kd.is k v = true → key v = k) (p : Pay kd key es t ks) (k : κ) : k ∈ ks ↔ ∃ e ∈ es.toList, kd.is k e.2 = true := by
  rw [← p.pm.mem_iff, List.mem_map]
  exact ⟨fun ⟨e, m, q⟩ => ⟨e, m, (p.is hk m k).2 q⟩, fun ⟨e, m, q⟩ => ⟨e, m, (p.is hk m k).1 q⟩⟩
end
section
variable {P : Program} {w : World} {κ : Type} [DecidableEq κ] {kd : PySem.KeyKind P w κ} {key : Value → κ} {A : Around} {E : Value → Shared → Prop} {s : Shared} {a : Addr} {ks : List κ}
/-- laying the payload down, with the growing behind it -/
theorem lay_down {grow : Bool → Sem Unit} (hgrow : ∀ (b : Bool) (s1 : Shared) (C : Unit → Shared → Prop), C () s1 → wpAny (model P w) A (grow b) C E s1)
    {o : Obj} {es0 es : Array (Int × Value)} {ep : Nat} {t0 t : SetTable} (ho : s.heap.get? a = some o) (ox : o.ExactSet) (od : o.data = .set es0 ep t0) (p : Pay kd key es t ks) {wd : Bool} {R : Option Bool → Shared → Prop}
    (hR : ∀ h', Heap.SameBut a s.heap h' → GAt kd key h' a ks → R (some true) { s with heap := h' }) :
    wpAny (model P w) A (do
        storeSet a es t
        if (!wd && t.tooFull) = true then do
            grow (relayAll t es (SetTable.grown es.size)).2.2
            storeSet a (relayAll t es (SetTable.grown es.size)).1 (relayAll t es (SetTable.grown es.size)).2.1
            pure (some true)
          else pure (some true)) R E s := by
  have b1 := Heap.SameBut.update s.heap a (Obj.putSet es t)
  have o1 := PpSet.storeB_at (es' := es) (t' := t) ho od
  refine wpAny_bind (wpAny_storeSet_of ho od ?_ (fits_of_scanBound p.few))
  split
  · have q1 := relayAll_perm t es (SetTable.grown es.size)
    have q2 := relayAll_fits t es (SetTable.grown es.size)
    have q3 := relayAll_ris t es (SetTable.grown es.size)
    have q4 := relayAll_led t es (SetTable.grown es.size)
    cases e : relayAll t es (SetTable.grown es.size) with
    | mk es2 rest =>
      obtain ⟨t2, gw⟩ := rest
      rw [e] at q1 q2 q3 q4
      have zz : es2.size = es.size := by
        have := q1.length_eq
        rwa [Array.length_toList, Array.length_toList] at this
      have p2 : Pay kd key es2 t2 ks := ⟨p.el.perm q1, (q1.map _).trans p.pm, by rw [zz]; exact p.few, q2, q3, p.led.imp id fun z => q4.trans z⟩
      have o2 := PpSet.storeB_at (es' := es2) (t' := t2) o1 rfl
      refine wpAny_bind (hgrow _ _ _ (wpAny_bind (wpAny_storeSet_of o1 rfl (wpAny_pure (hR _ (b1.trans (Heap.SameBut.update _ a _)) ⟨_, es2, _, t2, o2, ox, rfl, p2⟩)) (fits_of_scanBound p2.few))))
  · exact wpAny_pure (hR _ b1 ⟨_, es, _, t, o1, ox, rfl, p⟩)
theorem add_hashed (hk : ∀ k v, kd.is k v = true → key v = k) {k : κ} {x : Value} {Q : Bool → Shared → Prop} (hx : kd.is k x = true) (hsc : x.scannable = true) (R : GAt kd key s.heap a ks) (room : ks.length + 1 < scanBound)
    (hQ : ∀ b h', Heap.SameBut a s.heap h' → GAt kd key h' a (if k ∈ ks then ks else ks ++ [k]) → Q b { s with heap := h' }) :
    wpAny (model P w) A (setAddHashed a x (kd.hash k)) Q E s := by
  obtain ⟨o, es, ep, t, ho, ox, od, p⟩ := R
  unfold setAddHashed setAddHashedIn
  refine wpAny_holding (wpAny_bind (wpAny_setState_of ho od p.fit ?_))
  dsimp only
  rw [byScan_of hsc p.few p.el, if_pos rfl]
  unfold setAddByScan
  refine wpAny_bind (wpAny_bind (wpAny_rule (wpAny_bind (wpAny_setScan_of hx ho od p.fit p.el ?_))))
  cases fi : List.findIdx? (fun e => kd.is k e.2) es.toList with
  | some j =>
    obtain ⟨lj, ij, _⟩ := List.findIdx?_eq_some_iff_getElem.mp fi
    have mk : k ∈ ks := (p.mem hk k).2 ⟨_, List.getElem_mem lj, ij⟩
    have q := hQ false s.heap (Heap.SameBut.refl a s.heap) ⟨o, es, ep, t, ho, ox, od, by rw [if_pos mk]; exact p⟩
    exact wpAny_pure (wpAny_pure q)
  | none =>
    have mk : k ∉ ks := fun z => by
      obtain ⟨e, he, i⟩ := (p.mem hk k).1 z
      have c := List.findIdx?_eq_none_iff.mp fi e he
      rw [i] at c
      exact Bool.noConfusion c
    dsimp only
    have q1 := layNew_perm t es (kd.hash k) x
    have q2 := layNew_fits t es (kd.hash k) x
    have q3 := layNew_ris t es (kd.hash k) x p.ris
    have q4 := layNew_led t es (kd.hash k) x
    generalize layNew t es (kd.hash k) x = Z at q1 q2 q3 q4 ⊢
    obtain ⟨es1, t1, wd, gw⟩ := Z
    dsimp only at q1 q2 q3 q4 ⊢
    rw [Array.toList_push] at q1
    have zz : es1.size = ks.length + 1 := by
      have z := q1.length_eq
      rw [List.length_append, Array.length_toList, Array.length_toList, p.size] at z
      exact z
    have pay : ∀ t' : SetTable, t'.fits es1.size = true → Ris t'.place.toList → t'.led = t.led → Pay kd key es1 t' (ks ++ [k]) := fun t' f r l =>
      ⟨(p.el.push hx hsc).perm q1, by
        have z := q1.map fun e => key e.2
        rw [List.map_append, List.map_cons, List.map_nil, hk k x hx] at z
        exact z.trans (p.pm.append_right _), by rw [zz]; exact room, f, r, p.led.imp id fun z => l.trans z⟩
    have fin : ∀ h', Heap.SameBut a s.heap h' → GAt kd key h' a (ks ++ [k]) → Q true { s with heap := h' } := fun h' sb g => hQ true h' sb (by rw [if_neg mk]; exact g)
    have gives : ∀ (b : Bool) (s1 : Shared) (C : Unit → Shared → Prop), C () s1 → wpAny (model P w) A (match b with | true => rule "set.scan.the-table-gave-way" | false => pure ()) C E s1 := fun b s1 C q => by
      cases b
      · exact wpAny_pure q
      · exact wpAny_rule q
    refine wpAny_bind (gives _ _ _ ?_)
    split
    · refine wpAny_bind ?_
      rw [hashByValue_scannable 8 hsc]
      refine wpAny_pure (lay_down gives ho ox od (pay _ ?_ ?_ ?_) fun h' sb g => wpAny_pure (fin h' sb g))
      · split
        · exact q2
        · exact SetTable.fits_plain_off q2
      · split <;> exact q3
      · split <;> exact q4
    · refine wpAny_bind (wpAny_pure ?_)
      simp only [↓reduceIte]
      exact lay_down gives ho ox od (pay _ q2 q3 q4) fun h' sb g => wpAny_pure (fin h' sb g)
/-- a.add(x) -/
theorem add_call (hk : ∀ k v, kd.is k v = true → key v = k) {k : κ} {x : Value} {Q : Value → Shared → Prop} (hx : kd.is k x = true) (hsc : x.scannable = true) (R : GAt kd key s.heap a ks) (room : ks.length + 1 < scanBound)
    (hQ : ∀ h', Heap.SameBut a s.heap h' → GAt kd key h' a (if k ∈ ks then ks else ks ++ [k]) → Q .none { s with heap := h', toks := s.toks + 1 }) :
    wpAny (model P w) A (call (.builtin "set.add") [.ref a, x]) Q E s := by
  have ty : s.TypeIs (.ref a) "set" := by
    obtain ⟨o, es, ep, t, ho, ox, _⟩ := R
    exact ⟨o, ho, ox.1⟩
  refine wpAny_call_entry F.slot_set_add ty F.entry_set_add ?_ (F.args_set_add_2 _ _)
  unfold Builtin.«set.add» Builtin.Frozenset.oneOther Builtin.Frozenset.addrOf setAdd
  simp only [List.isEmpty_nil, bind_assoc]
  refine wpAny_bind (wpAny_pure (wpAny_bind (wpAny_pure (wpAny_bind (wpAny_holding (wpAny_bind (kd.pyHash hx ?_)))))))
  exact add_hashed (s := { s with toks := s.toks + 1 }) hk hx hsc R room fun b h' sb g => wpAny_pure ⟨_, rfl, hQ h' sb g⟩
theorem fresh (h : Heap) : GAt kd key (h.push { cls := .type "set", dict := none, data := .set #[] 0 (.fresh 0 0 (!w.params.followText "set-order")) }) h.objs.size [] := by
  refine ⟨_, #[], 0, _, Heap.get?_push_size _ rfl, ⟨rfl, rfl, rfl⟩, rfl, ⟨fun e z => by simp at z, .nil, by decide, rfl, List.Pairwise.nil, ?_⟩⟩
  show _ ∨ (!w.params.followText "set-order") = true
  cases w.params.followText "set-order"
  · exact .inr rfl
  · exact .inl rfl
end
end L2.GSet
set_option Elab.async false
set_option linter.all false
set_option maxRecDepth 100000
set_option maxHeartbeats 4000000
/-! Comprehensions of any kind with one or two `for`s, by what is laid ahead of them and what a turn's end does. -/
namespace L2.Cmp
open PySem PySem.Spec PyProof.Rows
/-- a turn's shape -/
def turnOf (tg : Expr) (ifs : List Expr) (p : Pos) (it : Value) (env : Env) (tail : Bool → Sem PySem.Fin) : Sem PySem.Fin := do
  standAt p
  match ← pyNext it with
  | none => pure (.done .next)
  | some v =>
    letOwnedTupleGo tg it v
    assign tg env v
    let ok ← forIn ifs true fun c r => if r = true then do let ok ← isTrue c env (eval c env); pure (ForInStep.yield ok) else pure (ForInStep.yield r)
    tail ok
/-- the innermost turn's end -/
def tailIn (em : Sem Unit) (cd : Code) : Bool → Sem PySem.Fin := fun ok => if ok = true then em >>= fun _ => again cd else again cd
/-- the outer one's: the second source is walked -/
def tailOut (node i1 : Expr) (acc : Value) (env : Env) (cd : Code) : Bool → Sem PySem.Fin := fun ok => if ok = true then do
    let x ← eval i1 env
    standAt i1.pos
    let x ← foldedSetIterable i1 env x
    let _ ← runOwn (.compStart node 1 (← holding [x] (pyIter x)) acc env) env
    again cd
  else again cd
/-- a set's, a list's or a dict's comprehension -/
def IsC (node : Expr) : Prop := (∃ e gs sc p, node = .SetComp e gs sc p) ∨ (∃ e gs sc p, node = .ListComp e gs sc p) ∨ ∃ k v gs sc p, node = .DictComp k v gs sc p
theorem IsC.den {prog : Program} {w : World} {node : Expr} (c : IsC node) (lvl : Nat) (it acc : Value) (env : Env) (A : Around) :
    (A.under (.compLoop node lvl it acc env) = A ∧ (model prog w).den (.compLoop node lvl it acc env) = (compTurn node lvl it acc env).onRaise (fun x => do noteFrame x env; theTreesLotGoes x) ∧ (Code.compLoop node lvl it acc env).quiet = true) ∧
    (A.under (.compStart node lvl it acc env) = A ∧ (model prog w).den (.compStart node lvl it acc env) = (compStart node lvl it acc env).onRaise (fun x => do noteFrame x env; standAt theWindowsPlace)) := by
  rcases c with ⟨e, gs, sc, p, rfl⟩ | ⟨e, gs, sc, p, rfl⟩ | ⟨k, v, gs, sc, p, rfl⟩ <;> exact ⟨⟨rfl, rfl, rfl⟩, rfl, rfl⟩
abbrev nil2 : Value → Shared → Prop := fun _ _ => False
theorem loop_any {prog : Program} {w : World} {A : Around} {R : Result → Shared → Prop} {s : Shared} {node : Expr} {lvl : Nat} {it acc : Value} {env : Env} (ic : IsC node) (Iv : Nat → Shared → Prop)
    (turn : ∀ n s, Iv n s → wpAny (model prog w) A (compTurn node lvl it acc env) (fun fin s' => match fin with | .done f => R (.ok f) s' | .again c' => c' = Code.compLoop node lvl it acc env ∧ ∃ m, m < n ∧ Iv m s') nil2 s)
    (n : Nat) (h : Iv n s) : codeAny (model prog w) A (.compLoop node lvl it acc env) R s := by
  obtain ⟨d1, d2, d3⟩ := (ic.den (prog := prog) (w := w) lvl it acc env A).1
  refine codeAny_loop d3 Iv (fun n s hI => ?_) n h
  rw [d1, d2]
  exact wpAny_noted (wpAny_mono (turn n s hI) (fun _ _ z => z) fun _ _ z => z.elim)
theorem start_any {prog : Program} {w : World} {A : Around} {R : Result → Shared → Prop} {s : Shared} {node tg iter : Expr} {ifs : List Expr} {lvl : Nat} {it acc : Value} {env : Env} (ic : IsC node) (hcl : (clausesOf node)[lvl]? = some ⟨tg, iter, ifs, 0⟩)
    (h0 : codeAny (model prog w) A (.compLoop node lvl it acc env) R s)
    (h : wpAny (model prog w) A (pyIter it) (fun it' s' => codeAny (model prog w) A (.compLoop node lvl it' acc env) R s') nil2 s) :
    codeAny (model prog w) A (.compStart node lvl it acc env) R s := by
  obtain ⟨d1, d2⟩ := (ic.den (prog := prog) (w := w) lvl it acc env A).2
  have qu : ∀ it', (Code.compLoop node lvl it' acc env).quiet = true := fun it' => (ic.den (prog := prog) (w := w) lvl it' acc env A).1.2.2
  refine codeAny_of_tree ?_
  rw [d1, d2]
  refine wpAny_notedAt ?_
  unfold compStart
  rw [hcl]
  show wpAny _ _ (ask >>= _) _ _ s
  refine wpAny_bind (wpAny_askSetting (wpAny_ite ?_))
  split
  · first
      | exact wpAny_bind (wpAny_pure (wpAny_pure (And.intro (qu _) h0)))
      | exact wpAny_pure (And.intro (qu _) h0)
  · refine wpAny_bind (wpAny_rule ?_)
    show wpAny _ _ (standAt iter.pos >>= _) _ _ s
    exact wpAny_bind (wpAny_standAt (wpAny_bind (wpAny_mono h (fun it' s' h' => wpAny_pure (And.intro (qu _) h')) fun _ _ z => z.elim)))
/-- what the end of a turn reaches from the slots σ: it forgets at most vs -/
def Past (B : Cx) (pins : List (Addr × Obj)) (vs : List Nat) (σ : List (Option V)) (C : Hp → Prop) (s' : Shared) : Prop :=
  ∃ σ' H', Inv B pins σ' H' s' ∧ σ'.length = σ.length ∧ (∀ (j : Nat) v, j ∉ vs → σ[j]? = some (some v) → σ'[j]? = some (some v)) ∧ C H'
abbrev TAc := List (Option V) → Hp → (Hp → Prop) → Prop
/-- the walk of one clause, as it is read -/
def Walk (J : It) (g : TG) (tt : TT) (ta : TAc) (vs : List Nat) (σ : List (Option V)) (Done : Hp → Prop) (H0 : Hp) : Prop :=
  ∃ W : Nat → Nat → Hp → Prop, (∃ m, W 0 m H0) ∧ ∀ i m H, W i m H → (J.stop i H ∧ Done H) ∨ (J.go i H ∧ ∃ Nx : Hp → Prop, (∀ H', Nx H' → ∃ m', m' < m ∧ W (i + 1) m' H') ∧
    ∀ x H', J.yld i H x H' → g x (wipe σ vs) H' fun σ2 H2 => wipe σ2 vs = wipe σ vs ∧ tt σ2 H2 fun b H3 => if b = true then ta σ2 H3 Nx else Nx H3)
section
variable {B : Cx} {pins : List (Addr × Obj)} {it : Addr} {fp : List Addr} {tn : Nat → Heap → Prop} {J : It} {vs : List Nat} {σ : List (Option V)} {tg : Expr} {ifs : List Expr} {g : TG} {tt : TT} {ta : TAc} {p : Pos} {tail : Bool → Sem PySem.Fin} {cd : Code}
theorem turn_ok (hx : B.xe = nil2) (hc : B.calm = true) (T : Turn B.prog B.w B.K tg J fp it tn) (pg : PG B tg g) (pt : PTs B ifs tt) (stat : ∀ H', (∀ b ∈ fp, H' b = none) → ∀ b ∈ fp, FpOk B pins H' b)
    (act : ∀ (pl : List (Addr × Obj)) s σ H C, Inv B pl σ H s → ta σ H C → wpAny (model B.prog B.w) B.A (tail true) (fun fin s' => fin = .again cd ∧ Past B pl vs σ C s') nil2 s) (no : tail false = again cd)
    {R : Result → Shared → Prop} {W : Nat → Nat → Hp → Prop} {Done : Hp → Prop} (hd : ∀ s' H', Inv B pins (wipe σ vs) H' s' → Done H' → R (.ok .next) s')
    (turn : ∀ i m H, W i m H → (J.stop i H ∧ Done H) ∨ (J.go i H ∧ ∃ Nx : Hp → Prop, (∀ H', Nx H' → ∃ m', m' < m ∧ W (i + 1) m' H') ∧
      ∀ x H', J.yld i H x H' → g x (wipe σ vs) H' fun σ2 H2 => wipe σ2 vs = wipe σ vs ∧ tt σ2 H2 fun b H3 => if b = true then ta σ2 H3 Nx else Nx H3)) (n : Nat) (s : Shared)
    (start : ∃ i H', Inv B pins (wipe σ vs) H' s ∧ tn i s.heap ∧ (∀ b ∈ fp, H' b = none) ∧ W i n H') :
    wpAny (model B.prog B.w) B.A (turnOf tg ifs p (.ref it) B.env tail) (fun fin s' => match fin with | .done f => R (.ok f) s' | .again c' => c' = cd ∧ ∃ m, m < n ∧ ∃ i H', Inv B pins (wipe σ vs) H' s' ∧ tn i s'.heap ∧ (∀ b ∈ fp, H' b = none) ∧ W i m H') nil2 s := by
  obtain ⟨i, H5, I5, st5, n5, w5⟩ := start
  unfold turnOf
  refine wpAny_bind (wpAny_standAt (wpAny_bind ?_))
  rcases turn i n H5 w5 with ⟨stop, dn⟩ | ⟨go, Nx, hNx, step⟩
  · refine thnF (T.done B rfl rfl rfl hc i pins s _ H5 nil2 I5 (stat _ n5) st5 stop) fun r s6 ⟨hr, I6⟩ => ?_
    subst hr
    exact wpAny_pure (hd _ _ I6 dn)
  · refine thnF (T.item B rfl rfl rfl hc i pins s _ H5 nil2 I5 (stat _ n5) st5 go) fun r s6 ⟨u, hr, h6⟩ => ?_
    subst hr
    refine wpAny_bind (thnF h6 fun _ s7 ⟨x, H7, I7, r7, y7, st7, n7⟩ => ?_)
    have a1 := pg.run _ s7 _ H7 x u _ (I7.pinned (stat _ n7) (T.obj _ _ st7)) r7 (step x H7 y7)
    rw [hx] at a1
    refine wpAny_bind (thnF a1 fun _ s8 ⟨σ8, H8, I8, hw8, q8⟩ => ?_)
    have a2 := pt.run _ s8 σ8 H8 _ I8 q8
    rw [hx] at a2
    refine wpAny_bind (thnF a2 fun b s9 ⟨H9, I9, q9⟩ => ?_)
    have fin : ∀ s', Past B (pins ++ pinsAt fp s7.heap) vs σ8 Nx s' → ∃ m, m < n ∧ ∃ i H', Inv B pins (wipe σ vs) H' s' ∧ tn i s'.heap ∧ (∀ b ∈ fp, H' b = none) ∧ W i m H' := by
      rintro s' ⟨σ', H', I', hl, hk, nx⟩
      obtain ⟨m, lt, wm⟩ := hNx H' nx
      have there : ∀ b ∈ fp, ∀ o, s7.heap.get? b = some o → s'.heap.get? b = some o ∧ H' b = none := fun b hb o e =>
        let z := I'.pin (b, o) (List.mem_append_right _ (List.mem_append_right _ (mem_pinsAt hb e)))
        ⟨z.1, z.2.1⟩
      refine ⟨m, lt, i + 1, H', I'.unpinned.weak ?_ ?_, T.keep _ _ _ st7 fun b hb o e => (there b hb o e).1, fun b hb => ?_, wm⟩
      · rw [hl, ← hw8, wipe_length]
      · intro j v e
        rw [← hw8] at e
        exact hk j v (wipe_some e).2 (wipe_some e).1
      · obtain ⟨o, e, _⟩ := T.obj _ _ st7 b hb
        exact (there b hb o e).2
    cases b with
    | false =>
      rw [no]
      exact wpAny_pure ⟨rfl, fin _ ⟨σ8, H9, I9, rfl, fun _ _ _ e => e, q9⟩⟩
    | true =>
      refine wpAny_mono (act _ s9 σ8 H9 _ I9 q9) (fun f s' z => ?_) fun _ _ z => z.elim
      obtain ⟨rfl, pa⟩ := z
      exact ⟨rfl, fin _ pa⟩
/-- the whole loop of a clause -/
theorem clause_ok {node : Expr} {lvl : Nat} {acc : Value} (ic : IsC node) (ht : compTurn node lvl (.ref it) acc B.env = turnOf tg ifs p (.ref it) B.env tail) (hcd : cd = .compLoop node lvl (.ref it) acc B.env)
    (hx : B.xe = nil2) (hc : B.calm = true) (T : Turn B.prog B.w B.K tg J fp it tn) (pg : PG B tg g) (pt : PTs B ifs tt) (stat : ∀ H', (∀ b ∈ fp, H' b = none) → ∀ b ∈ fp, FpOk B pins H' b)
    (act : ∀ (pl : List (Addr × Obj)) s σ H C, Inv B pl σ H s → ta σ H C → wpAny (model B.prog B.w) B.A (tail true) (fun fin s' => fin = .again cd ∧ Past B pl vs σ C s') nil2 s) (no : tail false = again cd)
    {R : Result → Shared → Prop} {Done : Hp → Prop} (hd : ∀ s' H', Inv B pins (wipe σ vs) H' s' → Done H' → R (.ok .next) s')
    {H0 : Hp} (wk : Walk J g tt ta vs σ Done H0) {s : Shared} (I : Inv B pins (wipe σ vs) H0 s) (st : tn 0 s.heap) (n0 : ∀ b ∈ fp, H0 b = none) :
    codeAny (model B.prog B.w) B.A (.compLoop node lvl (.ref it) acc B.env) R s := by
  obtain ⟨W, ⟨m0, w0⟩, turn⟩ := wk
  subst hcd
  refine loop_any ic (fun n s' => ∃ i H', Inv B pins (wipe σ vs) H' s' ∧ tn i s'.heap ∧ (∀ b ∈ fp, H' b = none) ∧ W i n H') (fun n s' z => ?_) m0 ⟨0, H0, I, st, n0, w0⟩
  rw [ht]
  exact turn_ok hx hc T pg pt stat act no hd turn n s' z
/-- the end of an innermost turn, by what the code em does -/
theorem act_in {em : Sem Unit} (h : ∀ (pl : List (Addr × Obj)) s σ H C, Inv B pl σ H s → ta σ H C → wpAny (model B.prog B.w) B.A em (fun _ s' => ∃ H', Inv B pl σ H' s' ∧ C H') nil2 s) :
    ∀ (pl : List (Addr × Obj)) s σ H C, Inv B pl σ H s → ta σ H C → wpAny (model B.prog B.w) B.A (tailIn em cd true) (fun fin s' => fin = .again cd ∧ Past B pl vs σ C s') nil2 s := by
  intro pl s σ H C I q
  show wpAny _ _ (em >>= fun _ => again cd) _ _ s
  exact wpAny_bind (wpAny_mono (h pl s σ H C I q) (fun _ s' ⟨H', I', c⟩ => wpAny_pure ⟨rfl, σ, H', I', rfl, fun _ _ _ e => e, c⟩) fun _ _ z => z)
/-- the end of an outer turn -/
theorem act_out {node i1 t1 : Expr} {ifs1 : List Expr} {acc : Value} {wi1 : TI} {g1 : TG} {tt1 : TT} {vs1 : List Nat} {em : Sem Unit} {p1 : Pos} (ic : IsC node) (hcl : (clausesOf node)[1]? = some ⟨t1, i1, ifs1, 0⟩)
    (ht : ∀ it1, compTurn node 1 (.ref it1) acc B.env = turnOf t1 ifs1 p1 (.ref it1) B.env (tailIn em (.compLoop node 1 (.ref it1) acc B.env)))
    (hx : B.xe = nil2) (hc : B.calm = true) (hv : ∀ i ∈ vs1, i ∈ vs) (hs : ∀ x, foldedSetIterable i1 B.env x = pure x) (hi1 : PI B t1 i1 wi1) (pg1 : PG B t1 g1) (pt1 : PTs B ifs1 tt1)
    (h : ∀ (pl : List (Addr × Obj)) s σ H C, Inv B pl σ H s → ta σ H C → wpAny (model B.prog B.w) B.A em (fun _ s' => ∃ H', Inv B pl σ H' s' ∧ C H') nil2 s) :
    ∀ (pl : List (Addr × Obj)) s σ H C, Inv B pl σ H s → (wi1 σ H fun J1 H1 => Walk J1 g1 tt1 ta vs1 σ C H1) →
      wpAny (model B.prog B.w) B.A (tailOut node i1 acc B.env cd true) (fun fin s' => fin = .again cd ∧ Past B pl vs σ C s') nil2 s := by
  intro pl s σ H C I q
  unfold tailOut
  rw [if_pos rfl]
  have a1 := hi1.run pl s σ H _ I q
  rw [hx] at a1
  refine wpAny_bind (thnF a1 fun xv s1 a2 => ?_)
  refine wpAny_bind (wpAny_standAt (wpAny_bind (wpAny_of_eq (hs xv) (wpAny_bind (wpAny_holding (thnF a2 fun itv s2 z => ?_))))))
  obtain ⟨it1, fp1, tn1, J1, H2, rfl, I2, T1, st2, f2, wk⟩ := z
  refine wpAny_bind (wpAny_runOwn ?_)
  have stat1 : ∀ H', (∀ b ∈ fp1, H' b = none) → ∀ b ∈ fp1, FpOk B pl H' b := fun H' hn b hb => ⟨hn b hb, (f2 b hb).2⟩
  have lp : codeAny (model B.prog B.w) B.A (.compLoop node 1 (.ref it1) acc B.env) (fun r s' => match r with | .ok _ => Past B pl vs σ C s' | .error _ => False) s2 :=
    clause_ok (cd := .compLoop node 1 (.ref it1) acc B.env) ic (ht it1) rfl hx hc T1 pg1 pt1 stat1 (act_in h) rfl
      (fun s' H' I' c => ⟨wipe σ vs1, H', I', wipe_length _ _, fun j v nj e => by rw [wipe_out fun m => nj (hv j m)]; exact e, c⟩) wk (I2.weak (wipe_length _ _) fun j v e => (wipe_some e).1) st2 fun b hb => (f2 b hb).1
  rw [Around.mark_none]
  refine codeAny_mono (start_any ic hcl lp (T1.self B.A 0 _ _ _ st2 lp)) fun r s' hr => ?_
  cases r with
  | error e => exact hr.elim
  | ok f => first
    | exact wpAny_pure ⟨rfl, hr⟩
    | exact wpAny_bind (wpAny_pure (wpAny_pure ⟨rfl, hr⟩))
end
end L2.Cmp
set_option Elab.async false
set_option linter.all false
set_option maxRecDepth 100000
set_option maxHeartbeats 4000000
/-! Set comprehensions with one or two `for`s. -/
namespace L2.Cmp
open PySem PySem.Spec PyProof.Rows
section
variable {X : Cx}
/-- from the comprehension to its first clause's loop -/
theorem block_any {pins : List (Addr × Obj)} {s : Shared} {σ : L2.St} {H : Hp} {Q : VK} {node tg iter : Expr} {ifs : List Expr} {rest : List Comprehension} {scope : Scope} {own : List (PySem.Str × Nat)} {pos' : Pos} {wi : TI} {use : Option (Value → Sem Unit)} {Qf : Value → Shared → Prop}
    {newAcc : Sem Value} {O : Obj} {emp : Addr → HO} {Rd : It → Addr → Hp → Prop} (ic : IsC node) (hcl : clausesOf node = ⟨tg, iter, ifs, 0⟩ :: rest)
    (hnew : ∀ {s : Shared} {Q E : Value → Shared → Prop}, Q (.ref s.heap.objs.size) { s with heap := s.heap.push O } → wpAny (model X.prog X.w) X.A newAcc Q E s)
    (hemp : ∀ {pins : List (Addr × Obj)} {σ : L2.St} {H : Hp} {s : Shared}, Inv X pins σ H s → ∀ H' : Hp, ObjOk X.prog X.w H' (s.heap.push O) s.heap.objs.size (emp s.heap.objs.size))
    (hc : X.calm = true) (hN : X.N.Nodup) (I : Inv X pins σ H s) (hi : PI X tg iter wi) (ok : BlkOk X.N X.env.scope scope own) (hs : ∀ x, foldedSetIterable iter X.env x = pure x)
    (h : wi σ H fun J H1 => ∀ D, H1 D = none → Rd J D (upd H1 D (emp D)))
    (loop : ∀ (s3 : Shared) (H3 : Hp) (C : Addr) (cl : List (PySem.Str × Addr)) (fp : List Addr) (it : Addr) (tn : Nat → Heap → Prop) (J : It) (D : Addr) (s4 : Shared), Turn X.prog X.w X.K tg J fp it tn →
      (∀ H', (∀ b ∈ fp, H' b = none) → ∀ b ∈ fp, FpOk (X.blk s3 H3 scope (compEnvC scope cl C X.env) fp) [] H' b) → Inv (X.blk s3 H3 scope (compEnvC scope cl C X.env) fp) [] (wipe σ (own.map (·.2))) H3 s4 → tn 0 s4.heap → (∀ b ∈ fp, H3 b = none) → Rd J D H3 →
      codeAny (model X.prog X.w) X.A (.compLoop node 0 (.ref it) (.ref D) (compEnvC scope cl C X.env)) (fun r s' => match r with
        | .ok _ => ∃ H', Inv (X.blk s3 H3 scope (compEnvC scope cl C X.env) fp) [] (wipe σ (own.map (·.2))) H' s' ∧ Q (.ref D) H'
        | .error _ => False) s4)
    (hRR : ∀ D C s' m H', Inv X pins σ H' s' → Q (.ref D) H' → s'.heap.Ns C m → FpOk X pins H' C → compPost (model X.prog X.w) X.A X.xe use Qf (.ref D) C (.ok .next) s') :
    wpAny (model X.prog X.w) X.A (comprehension node scope X.env pos' newAcc false (eval iter X.env) use) Qf X.xe s := by
  have frees : ∀ y ∈ scope.names, y.2 = .free → ∃ c, X.env.cells.lookup y.1 = some c := fun y hy e => (ok.free y hy e).elim (fun k => I.ok.has _ (.inl k)) fun k => I.ok.has _ (.inr k)
  refine wpAny_comprehension_free (use := use) hcl hs (closure_ok frees) ok.kind (fun y hy e => by rw [ok.uniq y hy, e]) (thn (hi.run pins s σ H _ I h) fun xv s1 hx => thn hx fun itv s2 z => ?_)
  obtain ⟨it, fp, tn, J, H2, rfl, I2, T, st2, f2, q⟩ := z
  refine hnew (newEnv_comp ?_)
  obtain ⟨D, hD⟩ : ∃ D, s2.heap.objs.size = D := ⟨_, rfl⟩
  have rd := q D (I2.hok.fresh (Nat.le_of_eq hD))
  obtain ⟨s3, hs3⟩ : ∃ s3 : Shared, ({ s2 with heap := s2.heap.push O } : Shared) = s3 := ⟨_, rfl⟩
  have push3 : s3.heap = s2.heap.push O := by rw [← hs3]
  have I3 : Inv X pins σ (upd H2 D (emp D)) s3 := by
    rw [← hs3, ← hD]
    exact I2.laid (t' := s2.toks) (fun b o e => Heap.get?_push_of_some _ e) (Nat.le_refl _) (hemp I2 _)
  have f3 : ∀ b ∈ fp, FpOk X pins (upd H2 D (emp D)) b ∧ b < s3.heap.objs.size := fun b hb => by
    obtain ⟨o, e, _⟩ := T.obj _ _ st2 b hb
    have lt := Heap.lt_size e
    refine ⟨⟨?_, (f2 b hb).2⟩, by rw [push3, Heap.size_push]; exact Nat.lt_succ_of_lt lt⟩
    rw [upd_ne (Nat.ne_of_lt (hD ▸ lt))]
    exact (f2 b hb).1
  have st3 : tn 0 s3.heap := T.keep _ _ _ st2 fun b _ o e => by rw [push3]; exact Heap.get?_push_of_some _ e
  rw [hD, hs3]
  generalize hH3 : upd H2 D (emp D) = H3 at I3 f3 rd
  have I4 := block_start I3 ok hN f3
  generalize hcl' : cellsFrom (s3.heap.objs.size + 1) scope.names (cloFrom X.env.cells scope.names []) = cl at I4 ⊢
  obtain ⟨s4, hs4⟩ : ∃ s4 : Shared, ({ s3 with heap := pushCells (s3.heap.push { cls := .type "dict", data := .dict #[] }) scope.names } : Shared) = s4 := ⟨_, rfl⟩
  rw [hs4] at I4
  have st4 : tn 0 s4.heap := T.keep _ _ _ st3 fun b _ o e => by rw [← hs4]; exact pushCells_keeps _ _ _ _ (Heap.get?_push_of_some _ e)
  have nfp : ∀ b ∈ fp, H3 b = none := fun b hb => (f3 b hb).1.1
  have stat : ∀ H', (∀ b ∈ fp, H' b = none) → ∀ b ∈ fp, FpOk (X.blk s3 H3 scope (compEnvC scope cl s3.heap.objs.size X.env) fp) [] H' b := fun H' hn b hb =>
    ⟨hn b hb, (I4.ok.exf b hb).1, I4.ok.exfs b hb, .inl hb, fun x c e => (I4.ok.exf b hb).2 x c e, fun p hp => absurd (show p ∈ ([] : List (Addr × Obj)) ++ [] from hp) (by simp)⟩
  show codeAny _ _ (.compStart node 0 (.ref it) (.ref D) (compEnvC scope cl s3.heap.objs.size X.env)) (compPost (model X.prog X.w) X.A X.xe use Qf (.ref D) s3.heap.objs.size) _
  rw [hs4]
  have lp := codeAny_mono (loop s3 H3 s3.heap.objs.size cl fp it tn J D s4 T stat I4 st4 nfp rd) (R' := compPost (model X.prog X.w) X.A X.xe use Qf (.ref D) s3.heap.objs.size) fun r s' z => by
    cases r with
    | error e => exact z.elim
    | ok f =>
      obtain ⟨H', I', qq⟩ := z
      have I7 : Inv X pins σ H' s' := I3.call' (ch := fp) I'.os I'.base I'.hok I'.bare fun b hb => ⟨(f3 b hb).1.2.2.2.1, (f3 b hb).1.2.1, (f3 b hb).1.2.2.2.2.1, (f3 b hb).1.2.2.2.2.2⟩
      have nC : H' s3.heap.objs.size = none := I'.free
      obtain ⟨m, hn, _⟩ := I'.loc
      have cp := hRR D s3.heap.objs.size s' m H' I7 qq hn (I3.fpOk (Nat.le_refl _) nC)
      cases use <;> exact cp
  exact start_any ic (by rw [hcl]; rfl) lp (T.self X.A 0 _ _ _ st4 lp)
end
/-- how values go into a new set -/
structure Adder (P : Program) (w : World) where
  emp : Addr → HO
  ad : Addr → V → Hp → (Hp → Prop) → Prop
  fresh : ∀ (H : Hp) (h : Heap), ObjOk P w H (h.push { cls := .type "set", dict := none, data := .set #[] 0 (.fresh 0 0 (!w.params.followText "set-order")) }) h.objs.size (emp h.objs.size)
  add : ∀ {X : Cx}, X.prog = P → X.w = w → ∀ {pins : List (Addr × Obj)} {σ : L2.St} {H : Hp} {s : Shared} {E : Value → Shared → Prop} {D : Addr} {y : V} {v : Value} {C : Hp → Prop}, Inv X pins σ H s → RelV y v → ad D y H C →
    wpAny (model P w) X.A (call (.builtin "set.add") [.ref D, v]) (fun _ s' => ∃ H', Inv X pins σ H' s' ∧ C H') E s
/-- an item into the set at D -/
def tAd {P : Program} {w : World} (M : Adder P w) (te : TE) (D : Addr) : TAc := fun σ H C => te σ H fun y H' => M.ad D y H' C
def tSet1 {P : Program} {w : World} (M : Adder P w) (wi : TI) (g : TG) (tt : TT) (te : TE) (vs : List Nat) : TE := fun σ H Q => wi σ H fun J H1 => ∀ D, H1 D = none → Walk J g tt (tAd M te D) vs σ (fun H => Q (.ref D) H) (upd H1 D (M.emp D))
def tSet2 {P : Program} {w : World} (M : Adder P w) (wi : TI) (g : TG) (tt : TT) (wi1 : TI) (g1 : TG) (tt1 : TT) (te : TE) (vs vs1 : List Nat) : TE := fun σ H Q => wi σ H fun J H1 => ∀ D, H1 D = none →
  Walk J g tt (fun σ2 H2 C => wi1 σ2 H2 fun J1 H3 => Walk J1 g1 tt1 (tAd M te D) vs1 σ2 C H3) vs σ (fun H => Q (.ref D) H) (upd H1 D (M.emp D))
section
variable {X : Cx} {elt tg iter : Expr} {ifs : List Expr} {scope : Scope} {own : List (PySem.Str × Nat)} {pos : Pos} {wi : TI} {g : TG} {tt : TT} {te : TE}
theorem emit_ok {B : Cx} (M : Adder B.prog B.w) (hx : B.xe = nil2) (he : PE B elt te) {D : Addr} : ∀ (pl : List (Addr × Obj)) s σ H C, Inv B pl σ H s → tAd M te D σ H C →
    wpAny (model B.prog B.w) B.A (do let v ← eval elt B.env; standAt elt.pos; let _ ← call (.builtin "set.add") [.ref D, v]) (fun _ s' => ∃ H', Inv B pl σ H' s' ∧ C H') nil2 s := by
  intro pl s σ H C I q
  have a1 := he.run pl s σ H _ I q
  rw [hx] at a1
  exact wpAny_bind (thnF a1 fun v s1 ⟨y, H1, I1, r1, q1⟩ => wpAny_bind (wpAny_standAt (wpAny_bind (thnF (M.add rfl rfl I1 r1 q1) fun _ s2 z => wpAny_pure z))))
theorem pe_set1 (M : Adder X.prog X.w) (hc : X.calm = true) (hN : X.N.Nodup) (hi : PI X tg iter wi) (ok : BlkOk X.N X.env.scope scope own)
    (hg : ∀ (s : Shared) (H : Hp) (C : Addr) (cl : List (PySem.Str × Addr)) (fp : List Addr), PG (X.blk s H scope (compEnvC scope cl C X.env) fp) tg g) (ht : ∀ (s : Shared) (H : Hp) (C : Addr) (cl : List (PySem.Str × Addr)) (fp : List Addr), PTs (X.blk s H scope (compEnvC scope cl C X.env) fp) ifs tt)
    (he : ∀ (s : Shared) (H : Hp) (C : Addr) (cl : List (PySem.Str × Addr)) (fp : List Addr), PE (X.blk s H scope (compEnvC scope cl C X.env) fp) elt te) (hs : ∀ x, foldedSetIterable iter X.env x = pure x := by intro _; rfl) :
    PE X (.SetComp elt [⟨tg, iter, ifs, 0⟩] scope pos) (tSet1 M wi g tt te (own.map (·.2))) := by
  refine ⟨fun pins s σ H Q I h => ?_⟩
  rw [PpSet.eval_SetComp]
  refine block_any (Q := Q) (Rd := fun J D H1 => Walk J g tt (tAd M te D) (own.map fun z : PySem.Str × Nat => z.2) σ (fun H => Q (.ref D) H) H1) (.inl ⟨_, _, _, _, rfl⟩) rfl (fun q => PpSet.newSet_ok q) (fun _ _ => M.fresh _ _) hc hN I hi ok hs h
    (fun s3 H3 C cl fp it tn J D s4 T stat I4 st4 nfp rd => ?_) fun D C s' m H' I' q hn f => ⟨m, hn, fun h'' sb => ?_⟩
  · exact clause_ok (B := X.blk s3 H3 scope (compEnvC scope cl C X.env) fp) (tail := tailIn _ _) (p := iter.pos) (.inl ⟨_, _, _, _, rfl⟩) rfl rfl rfl hc T (hg s3 H3 C cl fp) (ht s3 H3 C cl fp) stat (act_in (emit_ok (B := X.blk s3 H3 scope (compEnvC scope cl C X.env) fp) M rfl (he s3 H3 C cl fp))) rfl
      (fun s' H' I' d => ⟨H', I', d⟩) rd I4 st4 nfp
  · obtain ⟨f0, f1, f2, f3, f4, f5⟩ := f
    exact ⟨.ref D, H', I'.turned (t' := s'.toks) (fun b o hb e => (sb.2 b hb).trans e) f0 f1 f3 f4 f5, rfl, q⟩
theorem pe_set2 (M : Adder X.prog X.w) {tg1 iter1 : Expr} {ifs1 : List Expr} {wi1 : TI} {g1 : TG} {tt1 : TT} {vs1 : List Nat} (hc : X.calm = true) (hN : X.N.Nodup) (hi : PI X tg iter wi) (ok : BlkOk X.N X.env.scope scope own) (hv : ∀ i ∈ vs1, i ∈ own.map (·.2))
    (hg : ∀ (s : Shared) (H : Hp) (C : Addr) (cl : List (PySem.Str × Addr)) (fp : List Addr), PG (X.blk s H scope (compEnvC scope cl C X.env) fp) tg g) (ht : ∀ (s : Shared) (H : Hp) (C : Addr) (cl : List (PySem.Str × Addr)) (fp : List Addr), PTs (X.blk s H scope (compEnvC scope cl C X.env) fp) ifs tt)
    (hi1 : ∀ (s : Shared) (H : Hp) (C : Addr) (cl : List (PySem.Str × Addr)) (fp : List Addr), PI (X.blk s H scope (compEnvC scope cl C X.env) fp) tg1 iter1 wi1)
    (hg1 : ∀ (s : Shared) (H : Hp) (C : Addr) (cl : List (PySem.Str × Addr)) (fp : List Addr), PG (X.blk s H scope (compEnvC scope cl C X.env) fp) tg1 g1) (ht1 : ∀ (s : Shared) (H : Hp) (C : Addr) (cl : List (PySem.Str × Addr)) (fp : List Addr), PTs (X.blk s H scope (compEnvC scope cl C X.env) fp) ifs1 tt1)
    (he : ∀ (s : Shared) (H : Hp) (C : Addr) (cl : List (PySem.Str × Addr)) (fp : List Addr), PE (X.blk s H scope (compEnvC scope cl C X.env) fp) elt te)
    (hs : ∀ x, foldedSetIterable iter X.env x = pure x := by intro _; rfl) (hs1 : ∀ env x, foldedSetIterable iter1 env x = pure x := by intro _ _; rfl) :
    PE X (.SetComp elt [⟨tg, iter, ifs, 0⟩, ⟨tg1, iter1, ifs1, 0⟩] scope pos) (tSet2 M wi g tt wi1 g1 tt1 te (own.map (·.2)) vs1) := by
  refine ⟨fun pins s σ H Q I h => ?_⟩
  rw [PpSet.eval_SetComp]
  refine block_any (Q := Q) (Rd := fun J D H1 => Walk J g tt (fun σ2 H2 C => wi1 σ2 H2 fun J1 H3 => Walk J1 g1 tt1 (tAd M te D) vs1 σ2 C H3) (own.map fun z : PySem.Str × Nat => z.2) σ (fun H => Q (.ref D) H) H1) (.inl ⟨_, _, _, _, rfl⟩) rfl (fun q => PpSet.newSet_ok q) (fun _ _ => M.fresh _ _) hc hN I hi ok hs h
    (fun s3 H3 C cl fp it tn J D s4 T stat I4 st4 nfp rd => ?_) fun D C s' m H' I' q hn f => ⟨m, hn, fun h'' sb => ?_⟩
  · exact clause_ok (B := X.blk s3 H3 scope (compEnvC scope cl C X.env) fp) (tail := tailOut _ iter1 (.ref D) _ _) (p := iter.pos) (.inl ⟨_, _, _, _, rfl⟩) rfl rfl rfl hc T (hg s3 H3 C cl fp) (ht s3 H3 C cl fp) stat
      (act_out (p1 := iter1.pos) (.inl ⟨_, _, _, _, rfl⟩) rfl (fun it1 => rfl) rfl hc hv (hs1 _) (hi1 s3 H3 C cl fp) (hg1 s3 H3 C cl fp) (ht1 s3 H3 C cl fp) (emit_ok (B := X.blk s3 H3 scope (compEnvC scope cl C X.env) fp) M rfl (he s3 H3 C cl fp))) rfl
      (fun s' H' I' d => ⟨H', I', d⟩) rd I4 st4 nfp
  · obtain ⟨f0, f1, f2, f3, f4, f5⟩ := f
    exact ⟨.ref D, H', I'.turned (t' := s'.toks) (fun b o hb e => (sb.2 b hb).trans e) f0 f1 f3 f4 f5, rfl, q⟩
end
/-- a key and a value into the dict at D -/
def tPut (tk tv : TE) (D : Addr) : TAc := fun σ H C => tk σ H fun y H1 => tv σ H1 fun x H2 => ∃ (kvs : List (Key × V)) (k : Key), y = kV k ∧ H2 D = some (.dK kvs) ∧ kvs.length < sizeLine ∧ C (upd H2 D (.dK (putK kvs k x)))
def tDict2 (wi : TI) (g : TG) (tt : TT) (wi1 : TI) (g1 : TG) (tt1 : TT) (tk tv : TE) (vs vs1 : List Nat) : TE := fun σ H Q => wi σ H fun J H1 => ∀ D, H1 D = none →
  Walk J g tt (fun σ2 H2 C => wi1 σ2 H2 fun J1 H3 => Walk J1 g1 tt1 (tPut tk tv D) vs1 σ2 C H3) vs σ (fun H => Q (.ref D) H) (upd H1 D (.dK []))
section
variable {X : Cx} {kx vx tg iter : Expr} {ifs : List Expr} {scope : Scope} {own : List (PySem.Str × Nat)} {pos : Pos} {wi : TI} {g : TG} {tt : TT} {tk tv : TE}
theorem emit_put {B : Cx} (hx : B.xe = nil2) (hk : PE B kx tk) (hv : PE B vx tv) {D : Addr} {p : Pos} : ∀ (pl : List (Addr × Obj)) s σ H C, Inv B pl σ H s → tPut tk tv D σ H C →
    wpAny (model B.prog B.w) B.A (do let kv ← eval kx B.env; let vv ← holding [kv] (eval vx B.env); standAt p; holding [kv, vv] (dictSet D kv vv)) (fun _ s' => ∃ H', Inv B pl σ H' s' ∧ C H') nil2 s := by
  intro pl s σ H C I q
  have a1 := hk.run pl s σ H _ I q
  rw [hx] at a1
  refine wpAny_bind (thnF a1 fun kv s1 ⟨y, H1, I1, r1, q1⟩ => ?_)
  have a2 := hv.run pl s1 σ H1 _ I1 q1
  rw [hx] at a2
  refine wpAny_bind (wpAny_holding (thnF a2 fun vv s2 ⟨x, H2, I2, r2, kvs, k, ey, hD, few, c⟩ => ?_))
  subst ey
  exact wpAny_bind (wpAny_standAt (wpAny_holding (d_dictSet I2 hD few r1 r2 fun s3 I3 => ⟨_, I3, c⟩)))
theorem pe_dict2 {tg1 iter1 : Expr} {ifs1 : List Expr} {wi1 : TI} {g1 : TG} {tt1 : TT} {vs1 : List Nat} (hc : X.calm = true) (hN : X.N.Nodup) (hi : PI X tg iter wi) (ok : BlkOk X.N X.env.scope scope own) (hv : ∀ i ∈ vs1, i ∈ own.map (·.2))
    (hg : ∀ (s : Shared) (H : Hp) (C : Addr) (cl : List (PySem.Str × Addr)) (fp : List Addr), PG (X.blk s H scope (compEnvC scope cl C X.env) fp) tg g) (ht : ∀ (s : Shared) (H : Hp) (C : Addr) (cl : List (PySem.Str × Addr)) (fp : List Addr), PTs (X.blk s H scope (compEnvC scope cl C X.env) fp) ifs tt)
    (hi1 : ∀ (s : Shared) (H : Hp) (C : Addr) (cl : List (PySem.Str × Addr)) (fp : List Addr), PI (X.blk s H scope (compEnvC scope cl C X.env) fp) tg1 iter1 wi1)
    (hg1 : ∀ (s : Shared) (H : Hp) (C : Addr) (cl : List (PySem.Str × Addr)) (fp : List Addr), PG (X.blk s H scope (compEnvC scope cl C X.env) fp) tg1 g1) (ht1 : ∀ (s : Shared) (H : Hp) (C : Addr) (cl : List (PySem.Str × Addr)) (fp : List Addr), PTs (X.blk s H scope (compEnvC scope cl C X.env) fp) ifs1 tt1)
    (hk : ∀ (s : Shared) (H : Hp) (C : Addr) (cl : List (PySem.Str × Addr)) (fp : List Addr), PE (X.blk s H scope (compEnvC scope cl C X.env) fp) kx tk) (he : ∀ (s : Shared) (H : Hp) (C : Addr) (cl : List (PySem.Str × Addr)) (fp : List Addr), PE (X.blk s H scope (compEnvC scope cl C X.env) fp) vx tv)
    (hs : ∀ x, foldedSetIterable iter X.env x = pure x := by intro _; rfl) (hs1 : ∀ env x, foldedSetIterable iter1 env x = pure x := by intro _ _; rfl) :
    PE X (.DictComp kx vx [⟨tg, iter, ifs, 0⟩, ⟨tg1, iter1, ifs1, 0⟩] scope pos) (tDict2 wi g tt wi1 g1 tt1 tk tv (own.map (·.2)) vs1) := by
  refine ⟨fun pins s σ H Q I h => ?_⟩
  rw [arm_eval_DictComp]
  refine block_any (Q := Q) (Rd := fun J D H1 => Walk J g tt (fun σ2 H2 C => wi1 σ2 H2 fun J1 H3 => Walk J1 g1 tt1 (tPut tk tv D) vs1 σ2 C H3) (own.map fun z : PySem.Str × Nat => z.2) σ (fun H => Q (.ref D) H) H1) (emp := fun _ => .dK []) (.inr (.inr ⟨_, _, _, _, _, rfl⟩)) rfl
    (fun q => wpAny_newObj_type q) (fun I' H' => dk_empty _ I'.big) hc hN I hi ok hs h
    (fun s3 H3 C cl fp it tn J D s4 T stat I4 st4 nfp rd => ?_) fun D C s' m H' I' q hn f => ⟨m, hn, fun h'' sb => ?_⟩
  · exact clause_ok (B := X.blk s3 H3 scope (compEnvC scope cl C X.env) fp) (tail := tailOut _ iter1 (.ref D) _ _) (p := iter.pos) (.inr (.inr ⟨_, _, _, _, _, rfl⟩)) rfl rfl rfl hc T (hg s3 H3 C cl fp) (ht s3 H3 C cl fp) stat
      (act_out (p1 := iter1.pos) (.inr (.inr ⟨_, _, _, _, _, rfl⟩)) rfl (fun it1 => rfl) rfl hc hv (hs1 _) (hi1 s3 H3 C cl fp) (hg1 s3 H3 C cl fp) (ht1 s3 H3 C cl fp) (emit_put (B := X.blk s3 H3 scope (compEnvC scope cl C X.env) fp) rfl (hk s3 H3 C cl fp) (he s3 H3 C cl fp))) rfl
      (fun s' H' I' d => ⟨H', I', d⟩) rd I4 st4 nfp
  · obtain ⟨f0, f1, f2, f3, f4, f5⟩ := f
    exact ⟨.ref D, H', I'.turned (t' := s'.toks) (fun b o hb e => (sb.2 b hb).trans e) f0 f1 f3 f4 f5, rfl, q⟩
end
end L2.Cmp
set_option Elab.async false
set_option linter.all false
set_option maxRecDepth 100000
set_option maxHeartbeats 4000000
/-! Sets of texts: as tracked things, by comprehension, sorted. -/
namespace L2.TxtSet
open PySem PySem.Spec PyProof.Rows L2.GSet L2.Cmp
def keyT : Value → Str
  | .str x _ => x
  | _ => ⟨#[]⟩
theorem keyT_is (P : Program) (w : World) : ∀ k v, (PySem.strKind P w).is k v = true → keyT v = k := fun k v h => by
  obtain ⟨t, rfl⟩ := Value.isStrOf_shape h
  rfl
/-- the set of texts at a: ks, in some order -/
def SetT (P : Program) (w : World) (a : Addr) (ks : List Str) : HO := .ext fun h => GAt (PySem.strKind P w) keyT h a ks
theorem setT_new {P : Program} {w : World} {H : Hp} {h : Heap} {a : Addr} {ks : List Str} (R : GAt (PySem.strKind P w) keyT h a ks) : ObjOk P w H h a (SetT P w a ks) := ⟨R, R.some, fun h1 h2 p k => GAt.keep p k⟩
section
variable {X : Cx} {pins : List (Addr × Obj)} {σ : L2.St} {H : Hp} {s : Shared}
theorem setT_get {a : Addr} {ks : List Str} (I : Inv X pins σ H s) (ha : H a = some (SetT X.prog X.w a ks)) : GAt (PySem.strKind X.prog X.w) keyT s.heap a ks := (I.hok a _ ha).1
end
/-- texts into a set of texts -/
def addT (P : Program) (w : World) : Adder P w where
  emp := fun D => SetT P w D []
  ad := fun D y H C => ∃ (z : Str) (ks : List Str), y = .str z ∧ H D = some (SetT P w D ks) ∧ ks.length + 1 < scanBound ∧ C (upd H D (SetT P w D (if z ∈ ks then ks else ks ++ [z])))
  fresh := fun H h => setT_new (GSet.fresh h)
  add := fun {X} hP hw {pins σ H s E D y v C} I r q => by
    subst hP
    subst hw
    obtain ⟨z, ks, rfl, hD, room, c⟩ := q
    obtain ⟨u, rfl⟩ := r
    refine add_call (keyT_is X.prog X.w) (k := z) (Froz.is_str z u) rfl (setT_get I hD) room fun h' sb new => ⟨_, ?_, c⟩
    exact I.write (e := D) (t' := s.toks + 1) (by rw [hD]; trivial) (.inl rfl) (fun b o hb ho => (sb.2 b hb).trans ho) new.some (setT_new new)
/-- sorted(a set of texts) -/
def rSortT (P : Program) (w : World) : List V → Hp → VK → Prop := fun vs H Q => ∃ (a : Addr) (ks : List Str), vs = [V.ref a] ∧ H a = some (SetT P w a ks) ∧ ks.length < 64 ∧
  ∀ (ys : List Str) (p : Addr), ys.Perm ks → sortedS ys = true → H p = none → Q (.ref p) (upd H p (.lst (ys.map V.str)))
theorem strs_out : ∀ {vs : List Value}, (∀ v ∈ vs, ∃ x u, v = Value.str x u) → StrsAre vs (vs.map keyT)
  | [], _ => .nil
  | v :: vs, h => by
    obtain ⟨x, u, rfl⟩ := h v List.mem_cons_self
    exact .cons x u (strs_out fun y m => h y (List.mem_cons_of_mem _ m))
theorem sort_tree {P : Program} {w : World} {A : Around} {E : Value → Shared → Prop} {s : Shared} {a : Addr} {ks : List Str} {Q : Value → Shared → Prop} (R : GAt (PySem.strKind P w) keyT s.heap a ks) (hh : A.handled = none) (h64 : ks.length < 64)
    (hQ : ∀ s' p (out : Array Value) (c : Nat) (ys : List Str), (∀ b o, s.heap.get? b = some o → s'.heap.get? b = some o) → s'.gens = s.gens → s'.os = s.os → s.heap.objs.size ≤ p → s'.heap.get? p = some (seqObj "list" out c) →
      StrsAre out.toList ys → ys.Perm ks → sortedS ys = true → Q (.ref p) s') : wpAny (model P w) A (call (.builtin "sorted") [.ref a]) Q E s := by
  obtain ⟨o, es, ep, t, ho, ox, od, p⟩ := R
  refine Calls.call_function_entry kind_sorted plain_sorted entry_sorted (args_sorted1 _) ?_
  unfold Builtin.«sorted»
  refine wpAny_bind (m := checkCount "sorted" 1 1 _) (wpAny_pure (wpAny_bind (collect_set (A := A.in1) hh ⟨o, ho, ox.1, od⟩ p.fit p.few p.ris p.led fun s1 vs k1 z1 g1 o1 pm => ?_)))
  have lv : vs.length = ks.length := by rw [pm.length_eq, List.length_map, Array.length_toList, p.size]
  have tx : StrsAre vs (vs.map keyT) := strs_out fun v m => by
    obtain ⟨e, he, rfl⟩ := List.mem_map.mp (pm.mem_iff.mp m)
    obtain ⟨⟨k, i, _⟩, _⟩ := p.el e he
    obtain ⟨u, q⟩ := Value.isStrOf_shape i
    exact ⟨k, u, q⟩
  have pk : (vs.map keyT).Perm ks := by
    have z := pm.map keyT
    rw [List.map_map] at z
    exact z.trans p.pm
  refine wpAny_bind (wpAny_newList ?_ (by rw [lv, sizeLine_eq]; omega))
  have at1 : (s1.heap.push (seqObj "list" vs.toArray 0)).get? s1.heap.objs.size = some (seqObj "list" vs.toArray 0) := Heap.get?_push_size _ rfl
  refine wpAny_bind (wpAny_holding (wpAny_call_entry slot_list_sort ⟨_, at1, rfl⟩ entry_list_sort (list_sort_treeK strKind_oneLt at1 tx.keysOf (fun v₁ v₂ rest e => keyKind_strs (by rw [← e]; exact tx)) (by rw [lv]; exact h64) fun st' hp' hs' => ?_) (args_list_sort _)))
  obtain ⟨ys, a1, a2, a3⟩ := sorted_out_str tx hp' hs'
  refine ⟨_, rfl, ?_⟩
  generalize ho' : (arrOf st').map (·.2) = out at a1
  obtain ⟨c, hc⟩ := sortedHeap_at (vs := vs) (out := out) at1
  refine wpAny_pure ⟨_, rfl, hQ _ s1.heap.objs.size out c ys (fun b u e => ?_) g1 o1 z1 hc a1 (a2.trans pk) a3⟩
  have q := k1 b u e
  have lt := Heap.lt_size q
  exact (sortedHeap_old (Nat.ne_of_lt lt) (by rw [size_push']; exact Nat.lt_succ_of_lt lt)).trans (Heap.get?_push_of_some _ q)
section
variable {X : Cx}
theorem cr_sortT (hc : X.calm = true) : CallR X (.builtin "sorted") (rSortT X.prog X.w) := by
  intro pins s σ H vs us Q I r h
  obtain ⟨a, ks, rfl, ha, h64, q⟩ := h
  rw [Vals.ref1 r]
  refine sort_tree (setT_get I ha) (I.ok.hd hc) h64 fun s' p out c ys k g o hp at2 tx pm so => ?_
  have hn : H p = none := I.hok.fresh hp
  have fits : (ys.map V.str).length ≤ sizeLine := by rw [List.length_map, pm.length_eq, sizeLine_eq]; omega
  have J : Inv X pins σ (upd H p (.lst (ys.map V.str))) { s with heap := s'.heap, gens := s'.gens, drawn := s'.drawn, toks := s'.toks } :=
    I.call (ch := []) (Un.laid k hp hn) (I.hok.laid k hp ⟨fits, out.toList, c, vals_of_strs tx, at2⟩) (by rw [g]; exact I.bare) fun _ z => nomatch z
  have e : s' = { s with heap := s'.heap, gens := s'.gens, drawn := s'.drawn, toks := s'.toks } := by
    cases s'
    cases s
    cases o
    rfl
  rw [e]
  exact ⟨.ref p, _, J, rfl, q ys p pm so hn⟩
end
end L2.TxtSet
set_option Elab.async false
set_option linter.all false
set_option maxRecDepth 100000
set_option maxHeartbeats 4000000
/-! is_free, variables_of. -/
namespace L2.LawH
open PySem PySem.Spec PyProof.Rows L2.Cmp L2.TxtSet
abbrev sVars : Stmt := top 12
/-! ### walks of a list or a tuple -/
def iSeq (K : PySem.W.Frag) (tl : TE) : TI := fun σ H R => tl σ H fun x H1 => ∃ a, x = .ref a ∧ (((∃ xs, SqL K H1 a xs) ∧ R (Itl K a) H1) ∨ ((∃ xs, SqT K H1 a xs) ∧ R (Itt K a) H1))
theorem pi_seq {X : Cx} {tg l : Expr} {tl : TE} (hl : PE X l tl) : PI X tg l (iSeq X.K tl) := by
  refine ⟨fun pins s σ H R I h => thn (hl.run pins s σ H _ I h) fun v s1 ⟨x, H1, I1, r1, q1⟩ => ?_⟩
  obtain ⟨a, rfl, q⟩ := q1
  cases r1
  have frs : ∀ b ∈ [s1.heap.objs.size], FpOk X pins H1 b := fun b hb => by
    obtain rfl : b = s1.heap.objs.size := by simpa using hb
    exact I1.fpOk (Nat.le_refl _) (I1.hok.fresh (Nat.le_refl _))
  rcases q with ⟨⟨xs, hq⟩, q⟩ | ⟨⟨xs, hq⟩, q⟩
  · obtain ⟨its, _, p, _⟩ := I1.list hq
    exact wpAny_pyIter_list p.isList ⟨_, _, _, _, H1, rfl, I1.kept (t' := s1.toks) fun b o e => Heap.get?_push_of_some _ e, turn_list a _, ⟨_, Heap.get?_push_size _ rfl, rfl, rfl⟩, frs, q⟩
  · obtain ⟨its, _, p, _⟩ := I1.tuple hq
    exact wpAny_pyIter_tuple (show s1.heap.IsTuple a its.toArray from p) ⟨_, _, _, _, H1, rfl, I1.kept (t' := s1.toks) fun b o e => Heap.get?_push_of_some _ e, turn_tuple a _, ⟨_, Heap.get?_push_size _ rfl, rfl, rfl⟩, frs, q⟩
theorem pi_tupK {X : Cx} {K : PySem.W.Frag} (e : X.K = K) {tg l : Expr} {tl : TE} (hl : PE X l tl) : PI X tg l (iTup K tl) := by
  subst e
  exact pi_tup hl
theorem sl_tupK {X : Cx} {K : PySem.W.Frag} (e : X.K = K) : SlR X (rSlT K) := by
  subst e
  exact sl_tup
/-- how a clause over xs is walked, where Sq says that they stand there -/
def WalkR (J : It) (Sq : Hp → Prop) (xs : List V) : Prop := ∀ (g : TG) (tt : TT) (ta : TAc) (vs : List Nat) (σ : List (Option V)) (H0 : Hp) (Done : Hp → Prop) (Pv : Nat → Hp → Prop), Pv 0 H0 → (∀ i H, i ≤ xs.length → Pv i H → Sq H) →
  (∀ i x H, xs[i]? = some x → Pv i H → g x (wipe σ vs) H fun σ2 H2 => wipe σ2 vs = wipe σ vs ∧ tt σ2 H2 fun b H3 => if b = true then ta σ2 H3 (Pv (i + 1)) else Pv (i + 1) H3) → (∀ H, Pv xs.length H → Done H) → L2.Cmp.Walk J g tt ta vs σ Done H0
theorem walk_list {K : PySem.W.Frag} {a : Addr} {xs : List V} : WalkR (Itl K a) (fun H => SqL K H a xs) xs := by
  intro g tt ta vs σ H0 Done Pv h0 hl hs hd
  refine ⟨fun i m H => m = xs.length - i ∧ i ≤ xs.length ∧ Pv i H, ⟨xs.length, rfl, Nat.zero_le _, h0⟩, ?_⟩
  rintro i m H ⟨rfl, hi, p⟩
  rcases Nat.lt_or_eq_of_le hi with lt | rfl
  · refine .inr ⟨⟨xs, xs[i], hl i H hi p, by simp [lt]⟩, Pv (i + 1), fun H' p' => ⟨xs.length - (i + 1), by omega, rfl, lt, p'⟩, ?_⟩
    rintro x _ ⟨rfl, y⟩
    exact hs i x _ (y xs (hl i _ hi p)) p
  · exact .inl ⟨⟨xs, hl _ H hi p, Nat.le_refl _⟩, hd H p⟩
theorem walk_tup {K : PySem.W.Frag} {a : Addr} {xs : List V} : WalkR (Itt K a) (fun H => SqT K H a xs) xs := by
  intro g tt ta vs σ H0 Done Pv h0 hl hs hd
  refine ⟨fun i m H => m = xs.length - i ∧ i ≤ xs.length ∧ Pv i H, ⟨xs.length, rfl, Nat.zero_le _, h0⟩, ?_⟩
  rintro i m H ⟨rfl, hi, p⟩
  rcases Nat.lt_or_eq_of_le hi with lt | rfl
  · refine .inr ⟨⟨xs, xs[i], hl i H hi p, by simp [lt]⟩, Pv (i + 1), fun H' p' => ⟨xs.length - (i + 1), by omega, rfl, lt, p'⟩, ?_⟩
    rintro x _ ⟨rfl, y⟩
    exact hs i x _ (y xs (hl i _ hi p)) p
  · exact .inl ⟨⟨xs, hl _ H hi p, Nat.le_refl _⟩, hd H p⟩
/-! ### each once -/
def put1 (ks : List Str) (z : Str) : List Str := if z ∈ ks then ks else ks ++ [z]
def uniq (l : List Str) : List Str := l.foldl put1 []
theorem uniq_snoc (l : List Str) (z : Str) : uniq (l ++ [z]) = put1 (uniq l) z := by
  unfold uniq
  rw [List.foldl_append]
  rfl
theorem fold_len : ∀ (l acc : List Str), (l.foldl put1 acc).length ≤ acc.length + l.length
  | [], acc => Nat.le_refl _
  | z :: l, acc => by
    have ih := fold_len l (put1 acc z)
    have : (put1 acc z).length ≤ acc.length + 1 := by
      unfold put1
      split
      · omega
      · simp
    rw [List.foldl_cons, List.length_cons]
    omega
theorem uniq_len (l : List Str) : (uniq l).length ≤ l.length := by
  have h := fold_len l []
  rw [List.length_nil, Nat.zero_add] at h
  exact h
theorem fold_mem {y : Str} : ∀ (l acc : List Str), y ∈ l.foldl put1 acc ↔ y ∈ acc ∨ y ∈ l
  | [], acc => by simp
  | z :: l, acc => by
    rw [List.foldl_cons, fold_mem l (put1 acc z), List.mem_cons]
    unfold put1
    split
    · rename_i m
      constructor
      · rintro (h | h)
        · exact .inl h
        · exact .inr (.inr h)
      · rintro (h | rfl | h)
        · exact .inl h
        · exact .inl m
        · exact .inr h
    · rw [List.mem_append, List.mem_singleton, or_assoc]
theorem uniq_mem {y : Str} {l : List Str} : y ∈ uniq l ↔ y ∈ l := by
  unfold uniq
  rw [fold_mem]
  simp
theorem fold_nodup : ∀ (l acc : List Str), acc.Nodup → (l.foldl put1 acc).Nodup
  | [], acc, h => h
  | z :: l, acc, h => by
    rw [List.foldl_cons]
    refine fold_nodup l _ ?_
    unfold put1
    split
    · exact h
    · rename_i m
      rw [List.nodup_append]
      exact ⟨h, by simp, fun a ha b hb e => by
        rw [List.mem_singleton.mp hb] at e
        exact m (e ▸ ha)⟩
theorem uniq_nodup (l : List Str) : (uniq l).Nodup := fold_nodup l [] List.nodup_nil
/-! ### lots of patterns, as they stand -/
abbrev Pt : Type := Addr × Str × List Str
def isV (z : Str) : Bool := Txt.startswith z (Str.ofString "?")
def frees (xs : List Pt) : List Str := (xs.flatMap fun x => x.2.2).filter isV
theorem frees_snoc (xs : List Pt) (x : Pt) : frees (xs ++ [x]) = frees xs ++ x.2.2.filter isV := by
  unfold frees
  rw [List.flatMap_append, List.filter_append]
  simp
theorem frees_take {xs : List Pt} {i : Nat} {x : Pt} (h : xs[i]? = some x) : frees (xs.take (i + 1)) = frees (xs.take i) ++ x.2.2.filter isV := by
  rw [List.take_succ, h]
  exact frees_snoc _ _
theorem frees_le (xs : List Pt) (i : Nat) : (frees (xs.take i)).length ≤ (frees xs).length := by
  have e : frees xs = frees (xs.take i) ++ frees (xs.drop i) := by
    unfold frees
    rw [← List.filter_append, ← List.flatMap_append, List.take_append_drop]
  rw [e, List.length_append]
  omega
/-- the lot xs at q, a list or a tuple -/
structure LotAt (H : Hp) (q : Addr) (xs : List Pt) : Prop where
  sq : H q = some (.lst (xs.map fun x => V.ref x.1)) ∨ H q = some (.tup (xs.map fun x => V.ref x.1))
  each : ∀ x ∈ xs, H x.1 = some (.tup (.str x.2.1 :: x.2.2.map V.str))
theorem cut_one (v : V) (l : List V) : cutV (v :: l) (some 1) none = l := by
  have e : HT.sIx (v :: l).length 0 (some 1) = 1 := by
    have z := HT.sIx_nat (v :: l).length 0 1
    rw [List.length_cons] at z ⊢
    exact z.trans (by omega)
  unfold cutV
  rw [e, HT.sIx_none]
  simp
theorem cut_part (v : V) (l : List V) : ¬ (HT.sIx (v :: l).length 0 (some 1) = 0 ∧ HT.sIx (v :: l).length (v :: l).length none = (v :: l).length) := by
  rintro ⟨e, _⟩
  have z := HT.sIx_nat (v :: l).length 0 1
  rw [List.length_cons] at z e
  have z' := z.symm.trans e
  omega
theorem LotAt.same {H H' : Hp} {q : Addr} {xs : List Pt} (h : LotAt H q xs) (s : Same H H') : LotAt H' q xs := ⟨h.sq.imp (s _ _) (s _ _), fun x m => s _ _ (h.each x m)⟩
theorem first_one {z : Str} {c : Nat} {r : List Nat} (h : z.cps.toList = c :: r) : decide (V.str ⟨#[c]⟩ = V.str (Str.ofString "?")) = isV z := by
  have q1 : (Str.ofString "?").cps = #[63] := by decide +kernel
  have q2 : (Str.ofString "?").length = 1 := by decide +kernel
  have es : Str.ofString "?" = ⟨#[63]⟩ := by
    cases h : Str.ofString "?" with
    | mk c => rw [h] at q1; exact congrArg Str.mk q1
  have l := length_toList z
  rw [h, List.length_cons] at l
  have hz : z.cps = (c :: r).toArray := by rw [← h]
  have z0 : z.cps[0]? = some c := by
    rw [← Array.getElem?_toList, h]
    rfl
  unfold isV Txt.startswith Builtin.Str.subAt
  rw [q1, q2, es, Bool.eq_iff_iff, decide_eq_true_iff, hz]
  have l0 : z.length = r.length + 1 := l.symm
  rw [l0]
  simp
def spVars : Sp := fun vs H Q _ => ∃ (q : Addr) (xs : List Pt), vs = [.ref q] ∧ LotAt H q xs ∧ (∀ x ∈ xs, ∀ z ∈ x.2.2, 1 ≤ z.length ∧ z.length ≤ 100) ∧ (frees xs).length ≤ 60 ∧
  ∀ (p : Addr) (ys : List Str) (H' : Hp), Same H H' → H p = none → ys.Perm (uniq (frees xs)) → sortedS ys = true → H' p = some (.lst (ys.map V.str)) → Q (.ref p) H'
section
variable {P : Program} {w : World} {K : PySem.W.Frag} {mg : Str → Option Value} {base : Heap}
abbrev nVars : List Str := ["lot", "pattern", "term"]
theorem scVs : FnScope nVars ["lot"] (defScope sVars) := ⟨rfl, rfl, rfl, by decide +kernel, rfl, by decide +kernel, by decide +kernel⟩
theorem ok_vars {f : Addr} {fd : FuncData} (F : Fun K "variables_of" "variables_of" sVars f fd) (ms : mg "sorted" = none) :
    FnOk P w K mg base CX0 2 f fd ["lot"] spVars := by
  refine F.ok scVs (fun vs H Q E h => ?_) (fun cdv A outer s H vs Q E hr h => ?_)
  · obtain ⟨q, xs, rfl, _⟩ := h
    rfl
  · obtain ⟨q, xs, rfl, lot, shape, few, k⟩ := h
    refine ⟨_, pss_one (ps_ret (pe_callB (L2.TxtSet.cr_sortT rfl) (by rfl) ms (by decide +kernel) (pa_cons
      (pe_set2 (own := [("pattern", 1), ("term", 2)]) (vs1 := [2]) (g := gName 1) (g1 := gName 2) (tt := tYes) (addT P w) rfl scVs.nd (pi_seq (pv 0))
        (blkOk_by (own := [("pattern", 1), ("term", 2)]) (N := nVars) (sc := defScope sVars) (by decide +kernel)) (by decide)
        (fun _ _ _ _ _ => pg_name (i := 1) scVs.nd rfl (Or.inl rfl)) (fun _ _ _ _ _ => pts_nil)
        (fun _ _ _ _ _ => pi_tupK (K := K) rfl (pe_slice (sl_tupK (K := K) rfl) (pv 1) (po_some pe_int) po_none))
        (fun _ _ _ _ _ => pg_name (i := 2) scVs.nd rfl (Or.inl rfl))
        (fun _ _ _ _ _ => pts_one (pt_cmpR op_eq (pe_ix ix_str (pv 2) pe_int (fun _ _ => rfl)) pe_str (nomark _)))
        (fun _ _ _ _ _ => pv 2)) pa_nil))), ?_⟩
    have main : ∀ (J : It) (Sq : Hp → Prop), WalkR J Sq (xs.map fun x => V.ref x.1) → (∀ H', Same H H' → Sq H') → ∀ (Qd : Hp → Prop) (D : Addr), H D = none → (∀ H', Same H H' → H' D = some (SetT P w D (uniq (frees xs))) → Qd H') →
        L2.Cmp.Walk J (gName 1) tYes (fun σ2 H2 C => iTup K (tSl (rSlT K) (tVar 1) (tPart (tC (.int 1))) tNoPart) σ2 H2 fun J1 H3 => L2.Cmp.Walk J1 (gName 2) (tTest (tOp rEq (tOp rIxS (tVar 2) (tC (.int 0))) (tC (.str (Str.ofString "?"))))) (tAd (addT P w) (tVar 2) D) [2] σ2 C H3) [1, 2] [some (.ref q), none, none] Qd (upd H D (SetT P w D [])) := by
      intro J Sq wr st Qd D nD hd
      refine wr _ _ _ _ _ _ _ (fun i H5 => H5 D = some (SetT P w D (uniq (frees (xs.take i)))) ∧ Same H H5) ⟨upd_same, same_new nD⟩ (fun i H5 hi p => st _ p.2) (fun i x H5 hx p => ?_) fun H5 p => hd H5 p.2 ?_
      · obtain ⟨p1, p2⟩ := p
        rw [List.getElem?_map] at hx
        obtain ⟨y, hy, rfl⟩ := Option.map_eq_some_iff.mp hx
        have my : y ∈ xs := List.mem_of_getElem? hy
        have ty := lot.each y my
        refine ⟨rfl, ?_⟩
        dsimp only [tYes]
        rw [if_pos rfl]
        refine ⟨_, rfl, _, rfl, y.1, _, rfl, SqT.of (p2 _ _ ty), cut_part _ _, fun t nt => ⟨t, rfl, ⟨_, SqT.of upd_same⟩, ?_⟩⟩
        rw [cut_one]
        have tD : t ≠ D := fun e => by
          rw [e, p1] at nt
          cases nt
        refine walk_tup (xs := y.2.2.map V.str) _ _ _ _ _ _ _ (fun j H6 => H6 D = some (SetT P w D (uniq (frees (xs.take i) ++ (y.2.2.take j).filter isV))) ∧ Same H H6 ∧ H6 t = some (.tup (y.2.2.map V.str))) ?_ (fun j H6 hj p => SqT.of p.2.2) (fun j x H6 hx p => ?_) (fun H6 p => ?_)
        · refine ⟨?_, fun b o e => ?_, upd_same⟩
          · rw [upd_ne (Ne.symm tD), p1]
            simp
          · have q5 := p2 b o e
            rw [upd_ne (ne_of_none q5 nt)]
            exact q5
        · obtain ⟨p3, p4, p5⟩ := p
          rw [List.getElem?_map] at hx
          obtain ⟨z, hz, rfl⟩ := Option.map_eq_some_iff.mp hx
          have tk : (y.2.2.take (j + 1)) = y.2.2.take j ++ [z] := by
            rw [List.take_succ, hz]
            rfl
          have sh := shape y my z (List.mem_of_getElem? hz)
          obtain ⟨c, r, hc⟩ : ∃ c r, z.cps.toList = c :: r := by
            cases e : z.cps.toList with
            | nil =>
              have l := length_toList z
              rw [e] at l
              have l0 : z.length = 0 := l.symm
              omega
            | cons c r => exact ⟨c, r, rfl⟩
          refine ⟨rfl, _, rfl, z, 0, c, rfl, rfl, by rw [sizeLine_eq]; omega, by rw [hc]; exact atI_nat (j := 0) rfl, rfl, _, rfl, ?_⟩
          rw [first_one hc]
          by_cases hv : isV z = true
          · rw [hv]
            dsimp only
            rw [if_pos rfl]
            have room : (uniq (frees (xs.take i) ++ (y.2.2.take j).filter isV)).length ≤ 60 := by
              have u1 := uniq_len (frees (xs.take i) ++ (y.2.2.take j).filter isV)
              have u2 := frees_le xs (i + 1)
              rw [frees_take hy, List.length_append] at u2
              have u3 : ((y.2.2.take j).filter isV).length ≤ (y.2.2.filter isV).length := ((List.take_sublist _ _).filter _).length_le
              rw [List.length_append] at u1
              omega
            refine ⟨_, rfl, z, _, rfl, p3, Nat.lt_of_le_of_lt (Nat.succ_le_succ room) (by decide), ?_, fun b o e => ?_, ?_⟩
            · rw [upd_same, tk, List.filter_append, List.filter_cons_of_pos hv, List.filter_nil, ← List.append_assoc, uniq_snoc]
              rfl
            · have hb : b ≠ D := ne_of_none e nD
              rw [upd_ne hb]
              exact p4 b o e
            · rw [upd_ne tD]
              exact p5
          · have hv' : isV z = false := by simpa using hv
            rw [hv']
            dsimp only
            rw [if_neg Bool.false_ne_true]
            refine ⟨?_, p4, p5⟩
            rw [tk, List.filter_append, List.filter_cons_of_neg hv, List.filter_nil, List.append_nil]
            exact p3
        · rw [List.length_map, List.take_length] at p
          exact ⟨by rw [frees_take hy]; exact p.1, p.2.1⟩
      · have e := p.1
        rw [List.length_map, List.take_length] at e
        exact e
    have fin : ∀ (D : Addr), H D = none → ∀ H', Same H H' → H' D = some (SetT P w D (uniq (frees xs))) → L2.TxtSet.rSortT P w [.ref D] H' Q := fun D nD H' sm hD =>
      ⟨D, _, rfl, hD, Nat.lt_of_le_of_lt (Nat.le_trans (uniq_len _) few) (by decide), fun ys p pm so np => k p ys _ (fun b o e => by
        have e' := sm b o e
        rw [upd_ne (ne_of_none e' np)]
        exact e') (by
        cases e : H p with
        | none => rfl
        | some o =>
          rw [sm p o e] at np
          cases np) pm so upd_same⟩
    refine ⟨_, rfl, q, rfl, ?_⟩
    rcases lot.sq with hq | hq
    · exact .inl ⟨⟨_, SqL.of hq⟩, fun D nD => main _ _ walk_list (fun H' sm => SqL.of (sm _ _ hq)) _ D nD (fin D nD)⟩
    · exact .inr ⟨⟨_, SqT.of hq⟩, fun D nD => main _ _ walk_tup (fun H' sm => SqT.of (sm _ _ hq)) _ D nD (fin D nD)⟩
end
end L2.LawH
set_option Elab.async false
set_option linter.all false
set_option maxRecDepth 100000
set_option maxHeartbeats 4000000
/-! _law_variables. -/
namespace L2.LawH
open PySem PySem.Spec PyProof.Rows L2.Cmp L2.TxtSet
abbrev sLVars : Stmt := top 32
theorem first_sign (z : Str) : decide (cutS z none (some 1) = Str.ofString "?") = isV z := by
  have q1 : (Str.ofString "?").cps = #[63] := by decide +kernel
  have q2 : (Str.ofString "?").length = 1 := by decide +kernel
  have e2 : HT.sIx z.length z.length (some 1) = min 1 z.length := HT.sIx_nat z.length z.length 1
  have l : z.cps.toList.length = z.length := length_toList z
  have es : Str.ofString "?" = ⟨#[63]⟩ := by
    cases h : Str.ofString "?" with
    | mk c => rw [h] at q1; exact congrArg Str.mk q1
  unfold isV Txt.startswith cutS Builtin.Str.subAt
  rw [HT.sIx_none, e2, q1, q2, es, Bool.eq_iff_iff, decide_eq_true_iff]
  cases hz : z.cps.toList with
  | nil =>
    rw [hz] at l
    have l0 : z.length = 0 := l.symm
    rw [l0]
    simp
  | cons x r =>
    rw [hz] at l
    have l0 : z.length = r.length + 1 := l.symm
    have ez : z.cps = (x :: r).toArray := by rw [← hz]
    rw [l0, ez]
    have m : min 1 (r.length + 1) = 1 := by omega
    rw [m]
    simp
def spLVars : Sp := fun vs H Q _ => ∃ (q : Addr) (xs : List Pt), vs = [.ref q] ∧ H q = some (.lst (xs.map fun x => V.ref x.1)) ∧ LotAt H q xs ∧ (∀ x ∈ xs, ∀ z ∈ x.2.2, z.length ≤ 100) ∧ (frees xs).length ≤ 60 ∧
  ∀ (p : Addr) (ys : List Str) (H' : Hp), Same H H' → H p = none → ys.Perm (uniq (frees xs)) → sortedS ys = true → H' p = some (.lst (ys.map V.str)) → Q (.ref p) H'
section
variable {P : Program} {w : World} {K : PySem.W.Frag} {mg : Str → Option Value} {base : Heap}
abbrev nLVars : List Str := ["_law_lot_here", "_law_found", "_law_pattern_here", "_law_term_here"]
theorem scLV : FnScope nLVars ["_law_lot_here"] (defScope sLVars) := ⟨rfl, rfl, rfl, by decide +kernel, rfl, by decide +kernel, by decide +kernel⟩
theorem ok_lvars {f : Addr} {fd : FuncData} (F : Fun K "_law_variables" "_law_variables" sLVars f fd) (ms : mg "sorted" = none) :
    FnOk P w K mg base CX0 2 f fd ["_law_lot_here"] spLVars := by
  refine F.ok scLV (fun vs H Q E h => ?_) (fun cdv A outer s H vs Q E hr h => ?_)
  · obtain ⟨q, xs, rfl, _⟩ := h
    rfl
  · obtain ⟨q, xs, rfl, hq, lot, short, few, k⟩ := h
    refine ⟨_, pss_cons (ps_set (i := 1) scLV.nd rfl (Or.inl rfl) (pe_lst pa_nil))
      (pss_cons (ps_for PassesOwn.never rfl (pi_list (pv 0)) (pg_name (i := 2) scLV.nd rfl (Or.inl rfl))
        (pss_one (ps_for PassesOwn.never rfl (pi_tup (pe_slice sl_tup (pv 2) (po_some pe_int) po_none)) (pg_name (i := 3) scLV.nd rfl (Or.inl rfl))
          (pss_one (ps_if (PW.pt (pw_and (pt_cmpR op_eq (pe_slice sl_str (pv 3) po_none (po_some pe_int)) pe_str (nomark _)) (pw_and1 (pt_cmpR op_notIn_seq (pv 3) (pv 1) (by rfl)))))
            (pss_one (ps_expr (pe_bm PySem.F.plainAttrs_list PySem.F.slot_list_append PySem.F.type_list_append mt_append (pv 1) (pa_cons (pv 3) pa_nil)))) pss_nil)))))
      (pss_one (ps_ret (pe_callB cr_sortedS (by rfl) ms (by decide +kernel) (pa_cons (pv 1) pa_nil))))), ?_⟩
    refine ⟨(by show 0 ≤ sizeLine; decide), fun D nD => ?_⟩
    refine ⟨_, rfl, q, rfl, ⟨_, SqL.of ((same_new nD) _ _ hq)⟩, for_list (xs := xs.map fun x => V.ref x.1) (fun i σ H5 => ∃ v2 v3, σ = [some (.ref q), some (.ref D), v2, v3] ∧ H5 D = some (.lst ((uniq (frees (xs.take i))).map V.str)) ∧ Same H H5)
      ⟨none, none, rfl, upd_same, same_new nD⟩ (fun i σ H5 hi p => ?_) (fun i x σ H5 hx p => ?_) (fun σ H5 p => ?_)⟩
    · obtain ⟨_, _, _, _, s5⟩ := p
      exact SqL.of (s5 _ _ hq)
    · obtain ⟨v2, v3, rfl, p1, p2⟩ := p
      rw [List.getElem?_map] at hx
      obtain ⟨y, hy, rfl⟩ := Option.map_eq_some_iff.mp hx
      have my : y ∈ xs := List.mem_of_getElem? hy
      have ty := lot.each y my
      refine ⟨_, rfl, _, rfl, y.1, _, rfl, SqT.of (p2 _ _ ty), cut_part _ _, fun t nt => ⟨t, rfl, ⟨_, SqT.of upd_same⟩, ?_⟩⟩
      rw [cut_one]
      have tD : t ≠ D := fun e => by
        rw [e, p1] at nt
        cases nt
      refine for_tup (xs := y.2.2.map V.str) (fun j σ H6 => ∃ v3, σ = [some (.ref q), some (.ref D), some (.ref y.1), v3] ∧ H6 D = some (.lst ((uniq (frees (xs.take i) ++ (y.2.2.take j).filter isV)).map V.str)) ∧ Same H H6 ∧ H6 t = some (.tup (y.2.2.map V.str)))
        ?_ (fun j σ H6 hj p => ?_) (fun j x σ H6 hx p => ?_) (fun σ H6 p => ?_)
      · refine ⟨_, rfl, ?_, fun b o e => ?_, upd_same⟩
        · rw [upd_ne (Ne.symm tD), p1]
          simp
        · have q5 := p2 b o e
          rw [upd_ne (ne_of_none q5 nt)]
          exact q5
      · obtain ⟨_, _, _, _, p5⟩ := p
        exact SqT.of p5
      · obtain ⟨v3', rfl, p3, p4, p5⟩ := p
        rw [List.getElem?_map] at hx
        obtain ⟨z, hz, rfl⟩ := Option.map_eq_some_iff.mp hx
        have mz : z ∈ y.2.2 := List.mem_of_getElem? hz
        have tk : (y.2.2.take (j + 1)) = y.2.2.take j ++ [z] := by
          rw [List.take_succ, hz]
          rfl
        have u1 : (uniq (frees (xs.take i) ++ (y.2.2.take j).filter isV)).length ≤ 60 := by
          have u1 := uniq_len (frees (xs.take i) ++ (y.2.2.take j).filter isV)
          have u2 := frees_le xs (i + 1)
          rw [frees_take hy, List.length_append] at u2
          have u3 : ((y.2.2.take j).filter isV).length ≤ (y.2.2.filter isV).length := ((List.take_sublist _ _).filter _).length_le
          rw [List.length_append] at u1
          omega
        refine ⟨_, rfl, _, rfl, z, rfl, ?_, rfl, _, rfl, ?_⟩
        · have := short y my z mz
          rw [sizeLine_eq]
          omega
        have ed : decide (V.str (cutS z none (some 1)) = V.str (Str.ofString "?")) = isV z := by
          rw [← first_sign]
          exact decide_eq_decide.mpr ⟨fun e => V.str.inj e, fun e => by rw [e]⟩
        rw [ed]
        by_cases hv : isV z = true
        · rw [hv]
          refine iteT ?_
          refine ⟨_, rfl, _, rfl, D, _, rfl, .inl (SqL.of p3), rfl, flat_strs _, _, rfl, ?_⟩
          rw [if_pos rfl, inV_strs]
          by_cases hm : z ∈ uniq (frees (xs.take i) ++ (y.2.2.take j).filter isV)
          · rw [decide_eq_true hm]
            refine iteF ?_
            refine ⟨_, rfl, ?_, p4, p5⟩
            rw [tk, List.filter_append, List.filter_cons_of_pos hv, List.filter_nil, ← List.append_assoc, uniq_snoc]
            unfold put1
            rw [if_pos hm]
            exact p3
          · rw [decide_eq_false hm]
            refine iteT ?_
            refine ⟨_, rfl, .inl ⟨rfl, _, SqL.of p3⟩, _, rfl, D, _, _, rfl, rfl, p3, ?_, ?_⟩
            · rw [List.length_map, sizeLine_eq]
              omega
            · refine ⟨_, rfl, ?_, fun b o e => ?_, ?_⟩
              · rw [upd_same, tk, List.filter_append, List.filter_cons_of_pos hv, List.filter_nil, ← List.append_assoc, uniq_snoc]
                unfold put1
                rw [if_neg hm, List.map_append]
                rfl
              · rw [upd_ne (ne_of_none e nD)]
                exact p4 b o e
              · rw [upd_ne tD]
                exact p5
        · have hv' : isV z = false := by simpa using hv
          rw [hv']
          refine iteF ?_
          refine iteF ?_
          refine ⟨_, rfl, ?_, p4, p5⟩
          rw [tk, List.filter_append, List.filter_cons_of_neg hv, List.filter_nil, List.append_nil]
          exact p3
      · rw [List.length_map, List.take_length] at p
        obtain ⟨v3', rfl, p3, p4, _⟩ := p
        exact ⟨_, _, rfl, by rw [frees_take hy]; exact p3, p4⟩
    · obtain ⟨v2, v3, rfl, p1, p2⟩ := p
      rw [List.length_map, List.take_length] at p1
      refine ⟨_, rfl, D, _, rfl, SqL.of p1, Nat.lt_of_le_of_lt (Nat.le_trans (uniq_len _) few) (by decide), fun ys p pm so np => ?_⟩
      refine k p ys _ (fun b o e => ?_) ?_ pm so upd_same
      · have e' := p2 b o e
        rw [upd_ne (ne_of_none e' np)]
        exact e'
      · cases e : H p with
        | none => rfl
        | some o =>
          rw [p2 p o e] at np
          cases np
end
end L2.LawH
set_option Elab.async false
set_option linter.all false
set_option maxRecDepth 100000
set_option maxHeartbeats 4000000
/-! _law_lot; two ascending lists of the same texts. -/
namespace L2.LawH
open PySem PySem.Spec PyProof.Rows L2.Cmp L2.TxtSet
theorem asc_pw : ∀ (l : List Str) (p : Str), risingS p l = true → (p :: l).Pairwise fun a b => a.cps.toList ≤ b.cps.toList
  | [], p, _ => List.pairwise_singleton _ _
  | x :: r, p, h => by
    simp only [risingS, Bool.and_eq_true, Bool.not_eq_true', ltCps_eq, decide_eq_false_iff_not, List.not_lt] at h
    have ih := asc_pw r x h.2
    refine List.pairwise_cons.mpr ⟨fun y hy => ?_, ih⟩
    rcases List.mem_cons.mp hy with rfl | hy
    · exact h.1
    · exact List.le_trans h.1 ((List.pairwise_cons.mp ih).1 y hy)
theorem asc_all {l : List Str} (h : sortedS l = true) : l.Pairwise fun a b => a.cps.toList ≤ b.cps.toList := by
  cases l with
  | nil => exact List.Pairwise.nil
  | cons x r => exact asc_pw r x h
theorem asc_eq {l l' u : List Str} (h : sortedS l = true) (h' : sortedS l' = true) (p : l.Perm u) (p' : l'.Perm u) : l = l' := by
  refine List.Perm.eq_of_pairwise (fun a b _ _ x y => ?_) (asc_all h) (asc_all h') (p.trans p'.symm)
  have e : a.cps.toList = b.cps.toList := List.le_antisymm x y
  cases a
  cases b
  exact congrArg Str.mk (Array.toList_inj.mp e)
abbrev sLot7 : Stmt := top 31
/-- a lot xs at q, drawn over a pool and variables, outside the source -/
structure LotOf (a : Addr) (π : Pool) (W : List Str) (H : Hp) (q : Addr) (xs : List Pt) : Prop where
  sq : H q = some (.lst (xs.map fun x => V.ref x.1))
  each : ∀ x ∈ xs, H x.1 = some (.tup (.str x.2.1 :: x.2.2.map V.str))
  pat : ∀ x ∈ xs, PatOf π W x.2.1 x.2.2
  nq : q ≠ a
  nx : ∀ x ∈ xs, x.1 ≠ a
theorem LotOf.at {a : Addr} {π : Pool} {W : List Str} {H : Hp} {q : Addr} {xs : List Pt} (h : LotOf a π W H q xs) : LotAt H q xs := ⟨.inl h.sq, h.each⟩
theorem LotOf.keep {a : Addr} {π : Pool} {W : List Str} {H H' : Hp} {q : Addr} {xs : List Pt} (h : LotOf a π W H q xs) (k : Keep a H H') : LotOf a π W H' q xs :=
  ⟨k _ _ h.sq h.nq, fun x m => k _ _ (h.each x m) (h.nx x m), h.pat, h.nq, h.nx⟩
def spLot : Sp := fun vs H Q _ => ∃ (a p q : Addr) (c : Int) (m n : Nat) (π : Pool) (W : List Str), vs = [.ref a, .ref p, .ref q, .int n] ∧ n ≤ 100 ∧ SrcAt H a c (m + 20 * n + 1) ∧ PoolAt a H p π ∧ VarsAt a H q W ∧
  ∀ (t : Addr) (xs : List Pt) (H' : Hp), LotOf a π W H' t xs → xs.length ≤ n → SrcAt H' a c m → Keep a H H' → Q (.ref t) H'
section
variable {P : Program} {w : World} {K : PySem.W.Frag} {mg : Str → Option Value} {base : Heap}
abbrev nLot : List Str := ["_law_source_here", "_law_pool_here", "_law_variables_here", "_law_most", "_law_k"]
abbrev pLot : List Str := ["_law_source_here", "_law_pool_here", "_law_variables_here", "_law_most"]
theorem scLt : FnScope nLot pLot (defScope sLot7) := ⟨rfl, rfl, rfl, by decide +kernel, rfl, by decide +kernel, by decide +kernel⟩
theorem ok_lot {f fD fP : Addr} {fd fdD fdP : FuncData} (F : Fun K "_law_lot" "_law_lot" sLot7 f fd)
    (GD : FnOk P w K mg base CX0 1 fD fdD ["_law_source_here", "_law_limit"] spDraw) (kD : PySem.W.keepIn K (.ref fD) = true) (bD : Binds K fdD ["_law_source_here", "_law_limit"] []) (mD : mg "_law_draw" = some (.ref fD))
    (GP : FnOk P w K mg base CX0 3 fP fdP nTerm spPat) (kP : PySem.W.keepIn K (.ref fP) = true) (bP : Binds K fdP nTerm []) (mP : mg "_law_pattern" = some (.ref fP)) (mr : mg "range" = none) :
    FnOk P w K mg base CX0 4 f fd pLot spLot := by
  refine F.ok scLt (fun vs H Q E h => ?_) (fun cdv A outer s H vs Q E hr h => ?_)
  · obtain ⟨a, p, q, c, m, n, π, W, rfl, _⟩ := h
    rfl
  · obtain ⟨a, p, q, c, m, n, π, W, rfl, hn, hs, hp, hv, k⟩ := h
    have hr1 : Room 1 _ := hr.mono (by decide)
    have hr3 : Room 3 _ := hr.mono (by decide)
    refine ⟨_, pss_one (ps_ret (pe_lc (own := [("_law_k", 4)]) (g := gName 4) (tt := tYes) rfl scLt.nd (pi_range1 (by rfl) mr (pa_cons (pe_call GD hr1 (by rfl) mD kD bD .nil pass0 (pa_cons (pv 0) (pa_cons (pe_op op_add (pv 3) pe_int) pa_nil))) pa_nil))
      (blkOk_by (own := [("_law_k", 4)]) (N := nLot) (sc := defScope sLot7) (by decide +kernel)) (fun _ _ _ _ _ => pg_name (i := 4) scLt.nd rfl (Or.inl rfl)) (fun _ _ _ _ _ => pts_nil)
      (fun _ _ _ _ _ => pe_call GP hr3 (by rfl) mP kP bP .nil pass0 (pa_cons (pv 0) (pa_cons (pv 1) (pa_cons (pv 2) (pa_cons pe_int pa_nil))))))), ?_⟩
    refine ⟨_, rfl, _, rfl, _, _, rfl, rfl, a, c, m + 20 * n, _, rfl, hs, by omega, by omega, fun r H1 r0 r1 s1 k1 => ?_⟩
    obtain ⟨j, rfl⟩ : ∃ j : Nat, r = j := ⟨r.toNat, by omega⟩
    refine ⟨_, rfl, by omega, by omega, fun D nD => ?_⟩
    rw [Int.toNat_natCast]
    have hj : j ≤ n := by omega
    have zD := s1.ne nD
    refine lc_range (lo := 0) (n := j) (fun i H5 => ∃ xs : List Pt, xs.length = i ∧ H5 D = some (.lst (xs.map fun x => V.ref x.1)) ∧ (∀ x ∈ xs, H5 x.1 = some (.tup (.str x.2.1 :: x.2.2.map V.str)) ∧ PatOf π W x.2.1 x.2.2 ∧ x.1 ≠ a ∧ x.1 ≠ D) ∧ SrcAt H5 a c (m + 20 * (n - i)) ∧ Keep a H H5)
      ⟨[], rfl, upd_same, fun _ z => (by cases z), (s1.same (same_new nD)).mono (by omega), k1.trans (Keep.of (same_new nD))⟩ ?_ ?_
    · rintro i H5 hi ⟨xs, lx, hD, hx, s5, k5⟩
      refine ⟨rfl, ?_⟩
      dsimp only [tYes]
      rw [if_pos rfl]
      have s5' : SrcAt H5 a c (m + 20 * (n - (i + 1)) + 20) := s5.mono (by omega)
      refine ⟨_, rfl, _, rfl, _, rfl, a, p, q, c, m + 20 * (n - (i + 1)), 4, π, W, rfl, s5', hp.keep k5, hv.keep k5, fun t T zs H6 pt ht ta s6 k6 => ?_⟩
      have hD6 := k6 _ _ hD zD
      have tD : t ≠ D := fun e => by
        rw [e, hD6] at ht
        cases ht
      refine ⟨_, hD6, ?_, xs ++ [(t, T, zs)], by simp [lx], by rw [upd_same]; simp, fun y hy => ?_, ?_, ?_⟩
      · rw [List.length_map, lx, sizeLine_eq]
        omega
      · rcases List.mem_append.mp hy with hy | hy
        · obtain ⟨h1, h2, h3, h4⟩ := hx y hy
          exact ⟨by rw [upd_ne h4]; exact k6 _ _ h1 h3, h2, h3, h4⟩
        · have e : y = (t, T, zs) := by simpa using hy
          rw [e]
          exact ⟨by rw [upd_ne tD]; exact ht, pt, ta, tD⟩
      · obtain ⟨d, nn, e, g⟩ := s6
        exact ⟨d, nn, by rw [upd_ne zD.symm]; exact e, g⟩
      · intro b o e nb
        have hb : b ≠ D := ne_of_none (k1 b o e nb) nD
        rw [upd_ne hb]
        exact (k5.trans k6) b o e nb
    · rintro H5 ⟨xs, lx, hD, hx, s5, k5⟩
      exact k D xs H5 ⟨hD, fun x m => (hx x m).1, fun x m => (hx x m).2.1, zD, fun x m => (hx x m).2.2.1⟩ (by omega) (s5.mono (by omega)) k5
end
end L2.LawH
set_option Elab.async false
set_option linter.all false
set_option maxRecDepth 100000
set_option maxHeartbeats 4000000
/-! is_name, is_variable. -/
namespace L2.LawH
open PySem PySem.Spec PyProof.Rows L2.Cmp L2.TxtSet
abbrev sIsN : Stmt := top 8
abbrev sIsV : Stmt := top 9
/-- a value of a kind that is no text -/
def NotS (K : PySem.W.Frag) (H : Hp) (x : V) : Prop := ∃ n : String, TyX K H x (.type n) ∧ kitB n "str" = some false
abbrev letS8 : Str := "abcdefghijklmnopqrstuvwxyz"
abbrev sgnS8 : Str := "abcdefghijklmnopqrstuvwxyz0123456789"
def spIsN (K : PySem.W.Frag) : Sp := fun vs H Q _ => ∃ x : V, vs = [x] ∧ ((∃ z : Str, x = .str z ∧ z.length ≤ 100000 ∧ ∀ H', Same H H' → Q (.bl (nmB z.cps.toList)) H') ∨ (NotS K H x ∧ Q (.bl false) H))
theorem in_let (c : Nat) : (!(Builtin.Str.occurrences letS8 ⟨#[c]⟩ 0 letS8.length 1).isEmpty) = isLet c := by
  rw [empty_one, Bool.not_not]
  have e : letS8.cps.toList = [97,98,99,100,101,102,103,104,105,106,107,108,109,110,111,112,113,114,115,116,117,118,119,120,121,122] := by decide +kernel
  rw [e]
  unfold isLet
  rw [Bool.eq_iff_iff]
  simp only [decide_eq_true_eq, Bool.and_eq_true, List.mem_cons, List.not_mem_nil, or_false]
  omega
theorem in_sgn (c : Nat) : (!(Builtin.Str.occurrences sgnS8 ⟨#[c]⟩ 0 sgnS8.length 1).isEmpty) = isSgn c := by
  rw [empty_one, Bool.not_not]
  have e : sgnS8.cps.toList = [97,98,99,100,101,102,103,104,105,106,107,108,109,110,111,112,113,114,115,116,117,118,119,120,121,122,48,49,50,51,52,53,54,55,56,57] := by decide +kernel
  rw [e]
  unfold isSgn isLet
  rw [Bool.eq_iff_iff]
  simp only [decide_eq_true_eq, Bool.and_eq_true, Bool.or_eq_true, List.mem_cons, List.not_mem_nil, or_false]
  omega
theorem nmB_eq (c : Nat) (r : List Nat) (h : r.length ≤ 11) : nmB (c :: r) = (isLet c && ((c :: r).all isSgn)) := by
  show (isLet c && r.all isSgn && decide (r.length ≤ 11)) = _
  rw [decide_eq_true h, Bool.and_true, List.all_cons]
  cases hl : isLet c with
  | false => rfl
  | true =>
    have : isSgn c = true := by
      unfold isSgn
      rw [hl]
      rfl
    rw [this]
    rfl
theorem asc_tab : ((List.range 128).all fun c => (Unicode.isAlnum c == (isSgn c || (decide (65 ≤ c) && decide (c ≤ 90)))) && (Unicode.isLower c == isLet c) &&
    ((Unicode.isUpper c || Unicode.isTitle c) == (decide (65 ≤ c) && decide (c ≤ 90))) && (Unicode.isAlpha c == (isLet c || (decide (65 ≤ c) && decide (c ≤ 90))))) = true := by decide +kernel
theorem asc_at {c : Nat} (h : c < 128) : Unicode.isAlnum c = (isSgn c || (decide (65 ≤ c) && decide (c ≤ 90))) ∧ Unicode.isLower c = isLet c ∧
    (Unicode.isUpper c || Unicode.isTitle c) = (decide (65 ≤ c) && decide (c ≤ 90)) ∧ Unicode.isAlpha c = (isLet c || (decide (65 ≤ c) && decide (c ≤ 90))) := by
  have q := List.all_eq_true.mp asc_tab c (List.mem_range.mpr h)
  simp only [Bool.and_eq_true, beq_iff_eq] at q
  exact ⟨q.1.1.1, q.1.1.2, q.1.2, q.2⟩
theorem all_cps (z : Str) (p : Nat → Bool) : z.cps.all p = z.cps.toList.all p := by rw [Array.all_toList]
theorem any_cps (z : Str) (p : Nat → Bool) : z.cps.any p = z.cps.toList.any p := by rw [Array.any_toList]
theorem sgn_asc {c : Nat} (h : isSgn c = true) : c < 128 := by
  unfold isSgn isLet at h
  simp only [Bool.or_eq_true, Bool.and_eq_true, decide_eq_true_eq] at h
  omega
/-- what the name test asks before the first sign -/
def pre8 (l : List Nat) : Bool := l.all (fun c => decide (c < 128)) && (decide (l.length > 0) && l.all Unicode.isAlnum) && (l.any Unicode.isLower && !l.any fun c => Unicode.isUpper c || Unicode.isTitle c)
theorem pre8_sgn {l : List Nat} (h : pre8 l = true) : l.all isSgn = true := by
  unfold pre8 at h
  simp only [Bool.and_eq_true, decide_eq_true_eq, Bool.not_eq_true'] at h
  obtain ⟨⟨h1, h2, h3⟩, h4, h5⟩ := h
  refine List.all_eq_true.mpr fun c m => ?_
  have a := of_decide_eq_true (List.all_eq_true.mp h1 c m)
  have b := List.all_eq_true.mp h3 c m
  have d := List.any_eq_false.mp h5 c m
  obtain ⟨q1, q2, q3, q4⟩ := asc_at a
  rw [q1] at b
  rw [q3] at d
  simpa [d] using b
theorem pre8_of {c : Nat} {r : List Nat} (hc : isLet c = true) (h : (c :: r).all isSgn = true) : pre8 (c :: r) = true := by
  have asc : ∀ d ∈ c :: r, d < 128 := fun d m => sgn_asc (List.all_eq_true.mp h d m)
  unfold pre8
  simp only [Bool.and_eq_true, decide_eq_true_eq, Bool.not_eq_true']
  refine ⟨⟨List.all_eq_true.mpr fun d m => decide_eq_true (asc d m), Nat.succ_pos _, List.all_eq_true.mpr fun d m => ?_⟩, List.any_eq_true.mpr ⟨c, List.mem_cons_self, ?_⟩, List.any_eq_false.mpr fun d m => ?_⟩
  · rw [(asc_at (asc d m)).1, List.all_eq_true.mp h d m, Bool.true_or]
  · rw [(asc_at (asc c List.mem_cons_self)).2.1, hc]
  · rw [(asc_at (asc d m)).2.2.1]
    have q := List.all_eq_true.mp h d m
    unfold isSgn isLet at q
    simp only [Bool.or_eq_true, Bool.and_eq_true, decide_eq_true_eq] at q
    simp only [Bool.and_eq_true, decide_eq_true_eq]
    omega
theorem nmB_pre {c : Nat} {r : List Nat} (h : pre8 (c :: r) = true) : nmB (c :: r) = (Unicode.isAlpha c && decide ((c :: r).length ≤ 12)) := by
  have sg := pre8_sgn h
  rw [List.all_cons, Bool.and_eq_true] at sg
  have asc := sgn_asc sg.1
  obtain ⟨q1, q2, q3, q4⟩ := asc_at asc
  have al : Unicode.isAlpha c = isLet c := by
    have s := sg.1
    unfold isSgn at s
    rw [q4]
    unfold isLet at s ⊢
    rw [Bool.eq_iff_iff]
    simp only [Bool.or_eq_true, Bool.and_eq_true, decide_eq_true_eq] at s ⊢
    omega
  show (isLet c && r.all isSgn && decide (r.length ≤ 11)) = _
  rw [sg.2, al, Bool.and_true, List.length_cons]
  congr 1
  exact decide_eq_decide.mpr ⟨fun h => by omega, fun h => by omega⟩
theorem pre8_eq (z : Str) : (Txt.isascii z && Txt.isalnum z && Txt.islower z) = pre8 z.cps.toList := by
  unfold Txt.isascii Txt.isalnum Txt.islower pre8
  rw [all_cps, all_cps, any_cps, any_cps, length_toList]
theorem nmB_no {l : List Nat} (h : pre8 l = false) : nmB l = false := by
  cases l with
  | nil => rfl
  | cons c r =>
    cases e : nmB (c :: r) with
    | false => rfl
    | true =>
      have e : (isLet c && r.all isSgn && decide (r.length ≤ 11)) = true := e
      simp only [Bool.and_eq_true] at e
      have sg : isSgn c = true := by
        unfold isSgn
        rw [e.1.1, Bool.true_or]
      rw [pre8_of e.1.1 (by rw [List.all_cons, sg, e.1.2, Bool.and_self])] at h
      cases h
section
variable {P : Program} {w : World} {K : PySem.W.Frag} {mg : Str → Option Value} {base : Heap}
theorem scIN : FnScope ["value"] ["value"] (defScope sIsN) := ⟨rfl, rfl, rfl, by decide +kernel, rfl, by decide +kernel, by decide +kernel⟩
theorem ok_isN {f : Addr} {fd : FuncData} (F : Fun K "is_name" "is_name" sIsN f fd) {t3 : Tok} (mM : mg "LONGEST_NAME" = some (.int 12 t3))
    (mi : mg "isinstance" = none) (mst : mg "str" = none) (ml : mg "len" = none) :
    FnOk P w K mg base CX0 1 f fd ["value"] (spIsN K) := by
  refine F.ok scIN (fun vs H Q E h => ?_) (fun cdv A outer s H vs Q E hr h => ?_)
  · obtain ⟨x, rfl, _⟩ := h
    rfl
  · obtain ⟨x, rfl, h⟩ := h
    refine ⟨_, pss_one (ps_ret (pe_and (pe_callB call_isi (by rfl) mi (by decide +kernel) (pa_cons (pv 0) (pa_cons (pe_bltn (v := .ty "str") (by rfl) mst (by decide +kernel) rfl) pa_nil)))
      (pe_and (pe_m0 PySem.F.slot_str_isascii PySem.F.type_str_isascii mt_isascii (pv 0))
      (pe_and (pe_m0 PySem.F.slot_str_isalnum PySem.F.type_str_isalnum mt_isalnum (pv 0))
      (pe_and (pe_m0 PySem.F.slot_str_islower PySem.F.type_str_islower mt_islower (pv 0))
      (pe_and (pe_m0 PySem.F.slot_str_isalpha PySem.F.type_str_isalpha mt_isalpha (pe_ix ix_str (pv 0) pe_int (fun _ _ => rfl)))
        (pe_one (pe_cmpR op_le (pe_callB call_len_str (by rfl) ml (by decide +kernel) (pa_cons (pv 0) pa_nil)) (pe_glob (v := .int 12) (by rfl) mM ⟨_, rfl⟩) (by rfl))))))))), ?_⟩
    rcases h with ⟨z, rfl, hz, k⟩ | ⟨⟨n, ty, kb⟩, k⟩
    · have szl : z.length ≤ sizeLine := by rw [sizeLine_eq]; omega
      have no : pre8 z.cps.toList = false → Q (.bl false) H := fun e => by
        have q := k H fun _ _ e => e
        rw [nmB_no e] at q
        exact q
      have pe := pre8_eq z
      refine ⟨_, rfl, _, .ty "str", _, _, true, rfl, .ty "str", .base (.str z), kit_ty (by decide +kernel), _, rfl, ?_⟩
      refine iteT ?_
      refine ⟨_, rfl, ⟨_, rfl⟩, _, rfl, rfl, trivial, _, rfl, ?_⟩
      cases eA : Txt.isascii z with
      | false => exact iteF (no (by rw [← pe, eA, Bool.false_and, Bool.false_and]))
      | true =>
        refine iteT ⟨_, rfl, ⟨_, rfl⟩, _, rfl, rfl, trivial, _, rfl, ?_⟩
        cases eB : Txt.isalnum z with
        | false => exact iteF (no (by rw [← pe, eB, Bool.and_false, Bool.false_and]))
        | true =>
          refine iteT ⟨_, rfl, ⟨_, rfl⟩, _, rfl, rfl, trivial, _, rfl, ?_⟩
          cases eC : Txt.islower z with
          | false => exact iteF (no (by rw [← pe, eC, Bool.and_false]))
          | true =>
            have p8 : pre8 z.cps.toList = true := by rw [← pe, eA, eB, eC]; rfl
            have lz : z.cps.toList.length = z.length := length_toList z
            have k' := k H fun _ _ e => e
            cases hc : z.cps.toList with
            | nil =>
              rw [hc] at p8
              cases p8
            | cons c r =>
              rw [hc] at p8 k' lz
              rw [nmB_pre p8] at k'
              refine iteT ⟨_, rfl, z, 0, c, rfl, rfl, szl, by rw [hc]; exact atI_nat (j := 0) rfl, ⟨_, rfl⟩, _, rfl, rfl, trivial, _, rfl, ?_⟩
              have ea : Txt.isalpha ⟨#[c]⟩ = Unicode.isAlpha c := by
                unfold Txt.isalpha
                simp [Str.length]
              rw [ea]
              cases eD : Unicode.isAlpha c with
              | false =>
                rw [eD, Bool.false_and] at k'
                exact iteF k'
              | true =>
                rw [eD, Bool.true_and] at k'
                refine iteT ⟨_, rfl, z, rfl, szl, _, _, rfl, rfl, ?_⟩
                have e : decide ((z.length : Int) ≤ 12) = decide ((c :: r).length ≤ 12) := decide_eq_decide.mpr ⟨fun h => by omega, fun h => by omega⟩
                rw [← e] at k'
                exact k'
    · refine ⟨_, rfl, _, .ty "str", _, _, false, rfl, .ty "str", ty, kit_ty kb, _, rfl, ?_⟩
      exact iteF k
end
end L2.LawH
set_option Elab.async false
set_option linter.all false
set_option maxRecDepth 100000
set_option maxHeartbeats 4000000
/-! is_variable, is_pattern, is_fact. -/
namespace L2.LawH
open PySem PySem.Spec PyProof.Rows L2.Cmp L2.TxtSet
abbrev sIsV9 : Stmt := top 9
abbrev sIsP9 : Stmt := top 10
abbrev sIsF9 : Stmt := top 11
def varB (z : Str) : Bool := isV z && nmB (z.cps.toList.drop 1)
theorem cut_tail (z : Str) : (cutS z (some 1) none).cps.toList = z.cps.toList.drop 1 := by
  have l : z.cps.toList.length = z.length := length_toList z
  have e1 : HT.sIx z.length 0 (some 1) = min 1 z.length := HT.sIx_nat z.length 0 1
  unfold cutS
  rw [e1, HT.sIx_none]
  show (z.cps.toList.drop (min 1 z.length)).take (z.length - min 1 z.length) = _
  cases hc : z.cps.toList with
  | nil => simp
  | cons c r =>
    rw [hc, List.length_cons] at l
    have m : min 1 z.length = 1 := by omega
    rw [m]
    have e : z.length - 1 = r.length := by omega
    rw [e]
    simp
/-- names and variables among values -/
def vN : V → Bool
  | .str z => nmB z.cps.toList
  | _ => false
def vV : V → Bool
  | .str z => varB z
  | _ => false
/-- a value that may be asked -/
def Okv (K : PySem.W.Frag) (H : Hp) (x : V) : Prop := (∃ z : Str, x = .str z ∧ z.length ≤ 100000) ∨ (NotS K H x ∧ ∀ z, x ≠ .str z)
theorem tyx_same {K : PySem.W.Frag} {H H' : Hp} (s : Same H H') {x : V} {t : Value} (h : TyX K H x t) : TyX K H' x t := by
  cases h with
  | base b =>
    refine .base ?_
    cases b with
    | non => exact .non
    | bl x => exact .bl x
    | int i => exact .int i
    | str x => exact .str x
    | flt x => exact .flt x
    | lst e => exact .lst (s _ _ e)
    | frz e => exact .frz (s _ _ e)
    | tup e => exact .tup (s _ _ e)
    | dK e => exact .dK (s _ _ e)
    | dT e => exact .dT (s _ _ e)
    | ins e cl ha hn htk hm => exact .ins (s _ _ e) cl ha hn htk hm
  | byt b => exact .byt b
  | set e => exact .set (s _ _ e)
  | kList e c => exact .kList e c
  | kTuple e c => exact .kTuple e c
  | kDict e c => exact .kDict e c
  | fTuple e => exact .fTuple (s _ _ e)
  | fDict e => exact .fDict (s _ _ e)
theorem Okv.same {K : PySem.W.Frag} {H H' : Hp} (s : Same H H') {x : V} (h : Okv K H x) : Okv K H' x := by
  rcases h with h | ⟨⟨n, ty, kb⟩, no⟩
  · exact .inl h
  · exact .inr ⟨⟨n, tyx_same s ty, kb⟩, no⟩
def NotT (K : PySem.W.Frag) (H : Hp) (x : V) : Prop := ∃ n : String, TyX K H x (.type n) ∧ kitB n "tuple" = some false
def patB (xs : List V) : Bool := match xs with
  | [] => false
  | x :: r => decide (r.length ≤ 3) && vN x && r.all fun y => vN y || vV y
def factB (xs : List V) : Bool := patB xs && xs.all vN
def spIsVr (K : PySem.W.Frag) : Sp := fun vs H Q _ => ∃ x : V, vs = [x] ∧ Okv K H x ∧ ∀ H', Same H H' → Q (.bl (vV x)) H'
def spIsP (K : PySem.W.Frag) (f : List V → Bool) : Sp := fun vs H Q _ => ∃ x : V, vs = [x] ∧
  ((∃ (t : Addr) (xs : List V), x = .ref t ∧ H t = some (.tup xs) ∧ xs.length ≤ 100000 ∧ (∀ y ∈ xs, Okv K H y) ∧ ∀ H', Same H H' → Q (.bl (f xs)) H') ∨ (NotT K H x ∧ ∀ H', Same H H' → Q (.bl false) H'))
theorem isN_of {K : PySem.W.Frag} {H : Hp} {x : V} {Q : VK} {E : XK} (o : Okv K H x) (k : ∀ H', Same H H' → Q (.bl (vN x)) H') : spIsN K [x] H Q E := by
  refine ⟨x, rfl, ?_⟩
  rcases o with ⟨z, rfl, l⟩ | ⟨n, no⟩
  · exact .inl ⟨z, rfl, l, k⟩
  · refine .inr ⟨n, ?_⟩
    have e : vN x = false := by
      cases x with
      | str z => exact absurd rfl (no z)
      | _ => rfl
    have q := k H fun _ _ e => e
    rw [e] at q
    exact q
section
variable {P : Program} {w : World} {K : PySem.W.Frag} {mg : Str → Option Value} {base : Heap}
theorem scIV : FnScope ["value"] ["value"] (defScope sIsV9) := ⟨rfl, rfl, rfl, by decide +kernel, rfl, by decide +kernel, by decide +kernel⟩
theorem ok_isV {f fN : Addr} {fd fdN : FuncData} (F : Fun K "is_variable" "is_variable" sIsV9 f fd)
    (GN : FnOk P w K mg base CX0 1 fN fdN ["value"] (spIsN K)) (kN : PySem.W.keepIn K (.ref fN) = true) (bN : Binds K fdN ["value"] []) (mN : mg "is_name" = some (.ref fN))
    (mi : mg "isinstance" = none) (mst : mg "str" = none) :
    FnOk P w K mg base CX0 2 f fd ["value"] (spIsVr K) := by
  refine F.ok scIV (fun vs H Q E h => ?_) (fun cdv A outer s H vs Q E hr h => ?_)
  · obtain ⟨x, rfl, _⟩ := h
    rfl
  · obtain ⟨x, rfl, o, k⟩ := h
    have hr1 : Room 1 _ := hr.mono (by decide)
    refine ⟨_, pss_one (ps_ret (pe_and (pe_callB call_isi (by rfl) mi (by decide +kernel) (pa_cons (pv 0) (pa_cons (pe_bltn (v := .ty "str") (by rfl) mst (by decide +kernel) rfl) pa_nil)))
      (pe_and (pe_m1 PySem.F.slot_str_startswith PySem.F.type_str_startswith mt_startswith (pv 0) pe_str)
        (pe_one (pe_call GN hr1 (by rfl) mN kN bN .nil pass0 (pa_cons (pe_slice sl_str (pv 0) (po_some pe_int) po_none) pa_nil)))))), ?_⟩
    rcases o with ⟨z, rfl, l⟩ | ⟨⟨n, ty, kb⟩, no⟩
    · have kv : ∀ H', Same H H' → Q (.bl (varB z)) H' := k
      refine ⟨_, rfl, _, .ty "str", _, _, true, rfl, .ty "str", .base (.str z), kit_ty (by decide +kernel), _, rfl, ?_⟩
      refine iteT ?_
      refine ⟨_, rfl, ⟨_, rfl⟩, _, _, rfl, rfl, _, rfl, ?_⟩
      refine ite2 (fun h1 => ?_) (fun h1 => ?_)
      · have h1 : isV z = true := h1
        refine ⟨_, rfl, _, rfl, z, rfl, by rw [sizeLine_eq]; omega, ?_⟩
        refine isN_of (E := E0) (.inl ⟨_, rfl, Nat.le_trans (cutS_length z (some 1) none) l⟩) fun H' s => ?_
        have q := kv H' s
        unfold varB at q
        rw [h1, Bool.true_and, ← cut_tail] at q
        exact q
      · have h1 : isV z = false := by
          cases e : isV z with
          | false => rfl
          | true => exact absurd e h1
        have q := kv H fun _ _ e => e
        unfold varB at q
        rw [h1, Bool.false_and] at q
        exact q
    · refine ⟨_, rfl, _, .ty "str", _, _, false, rfl, .ty "str", ty, kit_ty kb, _, rfl, ?_⟩
      refine iteF ?_
      have q := k H fun _ _ e => e
      have e : vV x = false := by
        cases x with
        | str z => exact absurd rfl (no z)
        | _ => rfl
      rw [e] at q
      exact q
theorem scIP : FnScope ["value", "term"] ["value"] (defScope sIsP9) := ⟨rfl, rfl, rfl, by decide +kernel, rfl, by decide +kernel, by decide +kernel⟩
theorem ok_isP {f fN fV : Addr} {fd fdN fdV : FuncData} (F : Fun K "is_pattern" "is_pattern" sIsP9 f fd)
    (GN : FnOk P w K mg base CX0 1 fN fdN ["value"] (spIsN K)) (kN : PySem.W.keepIn K (.ref fN) = true) (bN : Binds K fdN ["value"] []) (mN : mg "is_name" = some (.ref fN))
    (GV : FnOk P w K mg base CX0 2 fV fdV ["value"] (spIsVr K)) (kV : PySem.W.keepIn K (.ref fV) = true) (bV : Binds K fdV ["value"] []) (mV : mg "is_variable" = some (.ref fV))
    {t3 : Tok} (mM : mg "MOST_TERMS" = some (.int 3 t3)) (mi : mg "isinstance" = none) (mtp : mg "tuple" = none) (ml : mg "len" = none) :
    FnOk P w K mg base CX0 3 f fd ["value"] (spIsP K patB) := by
  refine F.ok scIP (fun vs H Q E h => ?_) (fun cdv A outer s H vs Q E hr h => ?_)
  · obtain ⟨x, rfl, _⟩ := h
    rfl
  · obtain ⟨x, rfl, h⟩ := h
    have hr1 : Room 1 _ := hr.mono (by decide)
    have hr2 : Room 2 _ := hr.mono (by decide)
    refine ⟨_, pss_cons (ps_if (PW.pt (pw_or (pt_not (pt_val (pe_callB call_isi (by rfl) mi (by decide +kernel) (pa_cons (pv 0) (pa_cons (pe_bltn (v := .ty "tuple") (by rfl) mtp (by decide +kernel) rfl) pa_nil)))))
          (pw_or1 (pt_not (pt_chain op_le op_le pe_int (pe_callB call_len_seq (by rfl) ml (by decide +kernel) (pa_cons (pv 0) pa_nil)) (pe_op op_add pe_int (pe_glob (v := .int 3) (by rfl) mM ⟨_, rfl⟩))))))) (pss_one (ps_ret pe_bl)) pss_nil)
      (pss_cons (ps_for PassesOwn.never rfl (pi_tup (pe_slice sl_tup (pv 0) (po_some pe_int) po_none)) (pg_name (i := 1) scIP.nd rfl (Or.inl rfl))
        (pss_one (ps_if (PW.pt (pw_and (pt_not (pt_val (pe_call GN hr1 (by rfl) mN kN bN .nil pass0 (pa_cons (pv 1) pa_nil)))) (pw_and1 (pt_not (pt_val (pe_call GV hr2 (by rfl) mV kV bV .nil pass0 (pa_cons (pv 1) pa_nil)))))))
          (pss_one (ps_ret pe_bl)) pss_nil)))
      (pss_one (ps_ret (pe_call GN hr1 (by rfl) mN kN bN .nil pass0 (pa_cons (pe_ix ix_tup (pv 0) pe_int (fun _ _ => rfl)) pa_nil))))), ?_⟩
    rcases h with ⟨t, xs, rfl, ht, lx, okx, k⟩ | ⟨⟨n, ty, kb⟩, k⟩
    · have big : ¬ (1 ≤ xs.length ∧ xs.length ≤ 4) → Q (.bl false) H := fun no => by
        have q := k H fun _ _ e => e
        have e : patB xs = false := by
          cases xs with
          | nil => rfl
          | cons x r =>
            rw [List.length_cons] at no
            show (decide (r.length ≤ 3) && vN x && r.all fun y => vN y || vV y) = false
            rw [decide_eq_false (by omega), Bool.false_and, Bool.false_and]
        rw [e] at q
        exact q
      refine ⟨_, rfl, _, .ty "tuple", _, _, true, rfl, .ty "tuple", .base (.tup ht), kit_ty (by decide +kernel), _, rfl, ?_⟩
      refine iteF ?_
      refine ⟨_, rfl, t, _, rfl, .inr (SqT.of ht), _, _, rfl, rfl, _, rfl, ?_⟩
      refine ite2 (fun l1 => ⟨_, _, rfl, rfl, _, _, rfl, rfl, _, rfl, ?_⟩) (fun l1 => ⟨_, rfl, iteT (big fun y => l1 (decide_eq_true (by omega)))⟩)
      have l1 : (1 : Int) ≤ xs.length := of_decide_eq_true l1
      refine ite2 (fun l2 => ?_) (fun l2 => ?_)
      · have l2' : ¬ ((xs.length : Int) ≤ 1 + 3) := fun y => by
          rw [decide_eq_true y] at l2
          cases l2
        exact big fun y => l2' (by omega)
      · have l2' : (xs.length : Int) ≤ 1 + 3 := by
          by_cases y : (xs.length : Int) ≤ 1 + 3
          · exact y
          · rw [decide_eq_false y] at l2
            exact absurd rfl l2
        cases xs with
        | nil =>
          rw [List.length_nil] at l1
          omega
        | cons y r =>
          have lr : r.length ≤ 3 := by
            rw [List.length_cons] at l2'
            omega
          have k : ∀ H', Same H H' → Q (.bl (vN y && r.all fun y => vN y || vV y)) H' := fun H' s => by
            have q := k H' s
            have e : patB (y :: r) = (vN y && r.all fun y => vN y || vV y) := by
              show (decide (r.length ≤ 3) && vN y && r.all fun y => vN y || vV y) = _
              rw [decide_eq_true lr, Bool.true_and]
            rw [e] at q
            exact q
          refine ⟨_, rfl, _, rfl, t, _, rfl, SqT.of ht, cut_part _ _, fun u nu => ⟨u, rfl, ⟨_, SqT.of upd_same⟩, ?_⟩⟩
          rw [cut_one]
          refine for_tup (xs := r) (fun i σ H5 => ∃ v1, σ = [some (.ref t), v1] ∧ Same H H5 ∧ H5 u = some (.tup r) ∧ ((r.take i).all fun y => vN y || vV y) = true)
            ⟨none, rfl, same_new nu, upd_same, rfl⟩ (fun i σ H5 _ p => ?_) (fun i x σ H5 hx p => ?_) (fun σ H5 p => ?_)
          · obtain ⟨_, _, _, p2, _⟩ := p
            exact SqT.of p2
          · obtain ⟨v1, rfl, p1, p2, p3⟩ := p
            have ox : Okv K H x := okx x (List.mem_cons_of_mem _ (List.mem_of_getElem? hx))
            have more : (vN x || vV x) = true → ((r.take (i + 1)).all fun y => vN y || vV y) = true := fun e => by
              rw [List.take_add_one, hx, List.all_append, p3]
              simpa using e
            have less : (vN x || vV x) = false → ∀ H', Same H H' → Q (.bl false) H' := fun e H' s => by
              have q := k H' s
              have n : (r.all fun y => vN y || vV y) = false := by
                rw [List.all_eq_false]
                exact ⟨x, List.mem_of_getElem? hx, by rw [e]; decide⟩
              rw [n, Bool.and_false] at q
              exact q
            refine ⟨_, rfl, ?_⟩
            dsimp only [tNil, List.cons_append, List.nil_append]
            refine isN_of (K := K) (E := E0) (ox.same p1) fun H6 s6 => ⟨_, rfl, ?_⟩
            cases en : vN x with
            | true =>
              refine iteF ⟨_, rfl, p1.trans s6, s6 _ _ p2, more (by rw [en]; rfl)⟩
            | false =>
              refine iteT ⟨_, rfl, x, rfl, ox.same (p1.trans s6), fun H7 s7 => ⟨_, rfl, ?_⟩⟩
              cases ev : vV x with
              | true => exact iteF ⟨_, rfl, (p1.trans s6).trans s7, s7 _ _ (s6 _ _ p2), more (by rw [ev, Bool.or_true])⟩
              | false => exact iteT (less (by rw [en, ev]; rfl) _ ((p1.trans s6).trans s7))
          · obtain ⟨v1, rfl, p1, p2, p3⟩ := p
            rw [List.take_length] at p3
            refine ⟨_, rfl, t, _, 0, y, rfl, rfl, SqT.of (p1 _ _ ht), atI_nat (j := 0) rfl, ?_⟩
            dsimp only [tNil, List.cons_append, List.nil_append]
            refine isN_of (K := K) (E := E0) ((okx y List.mem_cons_self).same p1) fun H1 s1 => ?_
            have q := k H1 (p1.trans s1)
            rw [p3, Bool.and_true] at q
            exact q
    · refine ⟨_, rfl, _, .ty "tuple", _, _, false, rfl, .ty "tuple", ty, kit_ty kb, _, rfl, ?_⟩
      exact iteT (k H fun _ _ e => e)
end
end L2.LawH
set_option Elab.async false
set_option linter.all false
set_option maxRecDepth 100000
set_option maxHeartbeats 4000000
/-! is_fact. -/
namespace L2.LawH
open PySem PySem.Spec PyProof.Rows L2.Cmp L2.TxtSet
abbrev sIsF10 : Stmt := top 11
section
variable {P : Program} {w : World} {K : PySem.W.Frag} {mg : Str → Option Value} {base : Heap}
theorem scIF : FnScope ["value", "term"] ["value"] (defScope sIsF10) := ⟨rfl, rfl, rfl, by decide +kernel, rfl, by decide +kernel, by decide +kernel⟩
theorem factB_eq {xs : List V} (h0 : 1 ≤ xs.length) (h : xs.length ≤ 4) : factB xs = xs.all vN := by
  cases xs with
  | nil => cases h0
  | cons y r =>
    rw [List.length_cons] at h
    show ((decide (r.length ≤ 3) && vN y && (r.all fun y => vN y || vV y)) && (vN y && r.all vN)) = (vN y && r.all vN)
    rw [decide_eq_true (by omega), Bool.true_and]
    cases e : r.all vN with
    | false => simp
    | true =>
      have e2 : (r.all fun y => vN y || vV y) = true := List.all_eq_true.mpr fun x m => by rw [List.all_eq_true.mp e x m, Bool.true_or]
      rw [e2]
      simp
theorem factB_no {xs : List V} (h : ¬ (1 ≤ xs.length ∧ xs.length ≤ 4)) : factB xs = false := by
  cases xs with
  | nil => rfl
  | cons y r =>
    rw [List.length_cons] at h
    show ((decide (r.length ≤ 3) && vN y && (r.all fun y => vN y || vV y)) && (vN y && r.all vN)) = false
    rw [decide_eq_false (by omega), Bool.false_and, Bool.false_and, Bool.false_and]
theorem ok_isF {f fN : Addr} {fd fdN : FuncData} (F : Fun K "is_fact" "is_fact" sIsF10 f fd)
    (GN : FnOk P w K mg base CX0 1 fN fdN ["value"] (spIsN K)) (kN : PySem.W.keepIn K (.ref fN) = true) (bN : Binds K fdN ["value"] []) (mN : mg "is_name" = some (.ref fN))
    {t3 : Tok} (mM : mg "MOST_TERMS" = some (.int 3 t3)) (mi : mg "isinstance" = none) (mtp : mg "tuple" = none) (ml : mg "len" = none) :
    FnOk P w K mg base CX0 4 f fd ["value"] (spIsP K factB) := by
  refine F.ok scIF (fun vs H Q E h => ?_) (fun cdv A outer s H vs Q E hr h => ?_)
  · obtain ⟨x, rfl, _⟩ := h
    rfl
  · obtain ⟨x, rfl, h⟩ := h
    have hr1 : Room 1 _ := hr.mono (by decide)
    refine ⟨_, pss_cons (ps_if (PW.pt (pw_or (pt_not (pt_val (pe_callB call_isi (by rfl) mi (by decide +kernel) (pa_cons (pv 0) (pa_cons (pe_bltn (v := .ty "tuple") (by rfl) mtp (by decide +kernel) rfl) pa_nil)))))
          (pw_or1 (pt_not (pt_chain op_le op_le pe_int (pe_callB call_len_seq (by rfl) ml (by decide +kernel) (pa_cons (pv 0) pa_nil)) (pe_op op_add pe_int (pe_glob (v := .int 3) (by rfl) mM ⟨_, rfl⟩))))))) (pss_one (ps_ret pe_bl)) pss_nil)
      (pss_cons (ps_for PassesOwn.never rfl (pi_tup (pv 0)) (pg_name (i := 1) scIF.nd rfl (Or.inl rfl))
        (pss_one (ps_if (pt_not (pt_val (pe_call GN hr1 (by rfl) mN kN bN .nil pass0 (pa_cons (pv 1) pa_nil)))) (pss_one (ps_ret pe_bl)) pss_nil)))
      (pss_one (ps_ret pe_bl))), ?_⟩
    rcases h with ⟨t, xs, rfl, ht, lx, okx, k⟩ | ⟨⟨n, ty, kb⟩, k⟩
    · have big : ¬ (1 ≤ xs.length ∧ xs.length ≤ 4) → Q (.bl false) H := fun no => by
        have q := k H fun _ _ e => e
        rw [factB_no no] at q
        exact q
      refine ⟨_, rfl, _, .ty "tuple", _, _, true, rfl, .ty "tuple", .base (.tup ht), kit_ty (by decide +kernel), _, rfl, ?_⟩
      refine iteF ?_
      refine ⟨_, rfl, t, _, rfl, .inr (SqT.of ht), _, _, rfl, rfl, _, rfl, ?_⟩
      refine ite2 (fun l1 => ⟨_, _, rfl, rfl, _, _, rfl, rfl, _, rfl, ?_⟩) (fun l1 => ⟨_, rfl, iteT (big fun y => l1 (decide_eq_true (by omega)))⟩)
      have l1 : (1 : Int) ≤ xs.length := of_decide_eq_true l1
      refine ite2 (fun l2 => ?_) (fun l2 => ?_)
      · have l2' : ¬ ((xs.length : Int) ≤ 1 + 3) := fun y => by
          rw [decide_eq_true y] at l2
          cases l2
        exact big fun y => l2' (by omega)
      · have l2' : (xs.length : Int) ≤ 1 + 3 := by
          by_cases y : (xs.length : Int) ≤ 1 + 3
          · exact y
          · rw [decide_eq_false y] at l2
            exact absurd rfl l2
        rw [factB_eq (by omega) (by omega)] at k
        refine ⟨_, rfl, t, rfl, ⟨_, SqT.of ht⟩, ?_⟩
        refine for_tup (xs := xs) (fun i σ H5 => ∃ v1, σ = [some (.ref t), v1] ∧ Same H H5 ∧ ((xs.take i).all vN) = true)
          ⟨none, rfl, fun _ _ e => e, rfl⟩ (fun i σ H5 _ p => ?_) (fun i x σ H5 hx p => ?_) (fun σ H5 p => ?_)
        · obtain ⟨_, _, p1, _⟩ := p
          exact SqT.of (p1 _ _ ht)
        · obtain ⟨v1, rfl, p1, p3⟩ := p
          have ox : Okv K H x := okx x (List.mem_of_getElem? hx)
          refine ⟨_, rfl, ?_⟩
          dsimp only [tNil, List.cons_append, List.nil_append]
          refine isN_of (K := K) (E := E0) (ox.same p1) fun H6 s6 => ⟨_, rfl, ?_⟩
          cases en : vN x with
          | true =>
            refine iteF ⟨_, rfl, p1.trans s6, ?_⟩
            rw [List.take_add_one, hx, List.all_append, p3]
            simpa using en
          | false =>
            have q := k H6 (p1.trans s6)
            have n : xs.all vN = false := by
              rw [List.all_eq_false]
              exact ⟨x, List.mem_of_getElem? hx, by rw [en]; decide⟩
            rw [n] at q
            exact iteT q
        · obtain ⟨v1, rfl, p1, p3⟩ := p
          rw [List.take_length] at p3
          have q := k H5 p1
          rw [p3] at q
          exact q
    · refine ⟨_, rfl, _, .ty "tuple", _, _, false, rfl, .ty "tuple", ty, kit_ty kb, _, rfl, ?_⟩
      exact iteT (k H fun _ _ e => e)
end
end L2.LawH
set_option Elab.async false
set_option linter.all false
set_option maxRecDepth 100000
set_option maxHeartbeats 4000000
/-! filled. -/
namespace L2.LawH
open PySem PySem.Spec PyProof.Rows L2.Cmp L2.TxtSet
abbrev sFil : Stmt := top 13
/-- what a term is replaced by -/
def fillV (kvs : List (Key × V)) (z : Str) : V := (valV kvs (Sum.inr z)).getD (.str z)
def spFil : Sp := fun vs H Q _ => ∃ (t d : Addr) (zs : List Str) (kvs : List (Key × V)), vs = [.ref t, .ref d] ∧ H t = some (.tup (zs.map V.str)) ∧ H d = some (.dK kvs) ∧ zs.length ≤ 1000 ∧
  ∀ (u : Addr) (H' : Hp), Same H H' → H u = none → H' u = some (.tup (zs.map (fillV kvs))) → Q (.ref u) H'
section
variable {P : Program} {w : World} {K : PySem.W.Frag} {mg : Str → Option Value} {base : Heap}
theorem scFi : FnScope ["pattern", "known", "term"] ["pattern", "known"] (defScope sFil) := ⟨rfl, rfl, rfl, by decide +kernel, rfl, by decide +kernel, by decide +kernel⟩
theorem ok_fil {f : Addr} {fd : FuncData} (F : Fun K "filled" "filled" sFil f fd) (mt : mg "tuple" = none) : FnOk P w K mg base CX0 1 f fd ["pattern", "known"] spFil := by
  refine F.ok scFi (fun vs H Q E h => ?_) (fun cdv A outer s H vs Q E hr h => ?_)
  · obtain ⟨t, d, zs, kvs, rfl, _⟩ := h
    rfl
  · obtain ⟨t, d, zs, kvs, rfl, ht, hd, few, k⟩ := h
    have hu := hu_of hr
    refine ⟨_, pss_one (ps_ret (pe_callTy call_tuple_of (by rfl) mt (by decide +kernel) (pa_cons (pe_lc (own := [("term", 2)]) (g := gName 2) (tt := tYes) rfl scFi.nd (pi_tup (pv 0))
      (blkOk_by (own := [("term", 2)]) (N := ["pattern", "known", "term"]) (sc := defScope sFil) (by decide +kernel)) (fun _ _ _ _ _ => pg_name (i := 2) scFi.nd rfl (Or.inl rfl)) (fun _ _ _ _ _ => pts_nil)
      (fun _ _ _ _ _ => pe_dget2 hu (pv 1) (pv 2) (pv 2) ⟨rfl, rfl, rfl, rfl⟩)) pa_nil))), ?_⟩
    refine ⟨_, rfl, t, rfl, ⟨_, SqT.of ht⟩, fun D nD => ?_⟩
    refine lc_tup (K := K) (a := t) (xs := zs.map V.str) (fun i H5 => Same H H5 ∧ H5 D = some (.lst ((zs.take i).map (fillV kvs)))) ⟨same_new nD, upd_same⟩ (fun i H5 _ p => SqT.of (p.1 _ _ ht)) (fun i x H5 hx p => ?_) (fun H5 p => ?_)
    · obtain ⟨p1, p3⟩ := p
      rw [List.getElem?_map] at hx
      obtain ⟨z, hz, rfl⟩ := Option.map_eq_some_iff.mp hx
      refine ⟨rfl, ?_⟩
      dsimp only [tYes]
      rw [if_pos rfl]
      refine ⟨_, rfl, d, rfl, .inl ⟨kvs, .inl (p1 _ _ hd)⟩, _, rfl, _, rfl, _, DGet.k (k := Sum.inr z) (p1 _ _ hd), _, p3, ?_, fun b o e => ?_, ?_⟩
      · rw [List.length_map, List.length_take, sizeLine_eq]
        omega
      · rw [upd_ne (ne_of_none e nD)]
        exact p1 _ _ e
      · rw [upd_same, List.take_add_one, hz]
        simp [fillV]
    · obtain ⟨p1, p3⟩ := p
      rw [List.length_map, List.take_length] at p3
      refine ⟨D, _, rfl, .inl ⟨SqL.of p3, fun u nu => k u _ (fun b o e => ?_) ?_ upd_same⟩⟩
      · have q := p1 _ _ e
        rw [upd_ne (ne_of_none q nu)]
        exact q
      · cases e : H u with
        | none => rfl
        | some o =>
          rw [p1 _ _ e] at nu
          cases nu
end
end L2.LawH
set_option Elab.async false
set_option linter.all false
set_option maxRecDepth 100000
set_option maxHeartbeats 4000000
/-! Sets whose members are tuples, nested as they may be: what is asked of a member while it is sought and laid. -/
namespace L2.NSet
open PySem PySem.Spec PyProof.Rows
section
variable {P : Program} {w : World}
def ClsAt (P : Program) (w : World) (n : Nat) (s : Shared) (v : Value) : Prop := ∀ (A : Around) (E : Value → Shared → Prop) (Q : Bool → Shared → Prop), Q false s → wpAny (model P w) A (ofAClassStatement n v) Q E s
theorem ClsAt.flat {n : Nat} {s : Shared} {v : Value} (h : ∀ a, v ≠ .ref a) : ClsAt P w n s v := fun A E Q q => by
  have e : ofAClassStatement n v = pure false := by
    cases v with
    | ref a => exact absurd rfl (h a)
    | _ => cases n <;> rfl
  rw [e]
  exact wpAny_pure q
theorem ClsAt.tup {n : Nat} {s : Shared} {a : Addr} {o : Obj} {vs : Array Value} {m : Nat} (ho : s.heap.get? a = some o) (hc : o.cls = .type "tuple") (hd : o.data = .seq vs m) (hq : ∀ v ∈ vs.toList, ClsAt P w n s v) :
    ClsAt P w (n + 1) s (.ref a) := fun A E Q h => by
  unfold ofAClassStatement
  refine wpAny_bind (wpAny_typeOf ⟨o, ho, hc⟩ ?_)
  dsimp only
  have e : (("tuple" : String) == "tuple") = true := by decide
  simp only [e, if_true, Bool.not_true, Bool.false_eq_true, if_false]
  refine wpAny_bind (wpAny_pure ?_)
  simp only [Bool.not_true, Bool.false_eq_true, if_false]
  refine wpAny_bind (wpAny_seqItems ho hd ?_)
  dsimp only
  refine wpAny_bind ?_
  show wpAny _ _ (forIn vs _ _) _ _ s
  rw [← Array.forIn_toList]
  refine wpAny_forIn_list _ (fun rest r s1 => r.1 = none ∧ s1 = s ∧ ∀ v ∈ rest, ClsAt P w n s v) _ (fun v rest r s1 I => ?_) (fun r s1 I => ?_) _ _ ⟨rfl, rfl, hq⟩
  · obtain ⟨i1, rfl, i2⟩ := I
    refine wpAny_bind (i2 v List.mem_cons_self _ _ _ ?_)
    simp only [Bool.false_eq_true, if_false]
    exact wpAny_pure ⟨rfl, rfl, fun u m => i2 u (List.mem_cons_of_mem _ m)⟩
  · obtain ⟨r1, r2⟩ := r
    obtain ⟨i1, rfl, _⟩ := I
    simp only at i1
    subst i1
    exact wpAny_pure h
mutual
theorem cls_key : ∀ (k : NestedKey) (v : Value) (n : Nat) (s : Shared), NestedIs s.heap k v → k.depth ≤ n → ClsAt P w n s v
  | .none, _, _, _, x, _ => by cases x; exact .flat fun a e => nomatch e
  | .num i, _, _, _, x, _ => by cases x <;> exact .flat fun a e => nomatch e
  | .text y, _, _, _, x, _ => by cases x; exact .flat fun a e => nomatch e
  | .tup ks, _, n, s, x, hn => by
    cases x with
    | tup hg hc hd hk =>
      simp only [NestedKey.depth] at hn
      match n, hn with
      | n + 1, hn => exact .tup hg hc hd (cls_keys ks _ n s hk (Nat.le_of_succ_le_succ hn))
theorem cls_keys : ∀ (ks : List NestedKey) (vs : List Value) (n : Nat) (s : Shared), NestedAll s.heap ks vs → NestedKey.depthAll ks ≤ n → ∀ v ∈ vs, ClsAt P w n s v
  | [], _, _, _, x, _, v, hv => by cases x; cases hv
  | k :: ks, _, n, s, x, hn, v, hv => by
    cases x with
    | cons x1 x2 =>
      simp only [NestedKey.depthAll] at hn
      rcases List.mem_cons.mp hv with rfl | hv
      · exact cls_key k _ n s x1 (Nat.le_trans (Nat.le_max_left _ _) hn)
      · exact cls_keys ks _ n s x2 (Nat.le_trans (Nat.le_max_right _ _) hn) v hv
end
/-- hash by value: some answer -/
def HbvAt (P : Program) (w : World) (n : Nat) (s : Shared) (v : Value) : Prop := ∀ (A : Around) (E : Value → Shared → Prop) (Q : Bool → Shared → Prop), (∀ b, Q b s) → wpAny (model P w) A (hashByValue n v) Q E s
theorem HbvAt.tup {n : Nat} {s : Shared} {a : Addr} {o : Obj} {vs : Array Value} {m : Nat} (ho : s.heap.get? a = some o) (hc : o.cls = .type "tuple") (hd : o.data = .seq vs m) (hq : ∀ v ∈ vs.toList, HbvAt P w n s v) :
    HbvAt P w (n + 1) s (.ref a) := fun A E Q h => by
  unfold hashByValue
  refine wpAny_bind (wpAny_specialOf ⟨o, ho, hc⟩ F.slot_tuple_hash.lookup ?_)
  show wpAny _ _ (seqItems? (.ref a) >>= _) _ _ s
  refine wpAny_bind (wpAny_seqItems ho hd ?_)
  refine wpAny_bind ?_
  show wpAny _ _ (forIn vs _ _) _ _ s
  rw [← Array.forIn_toList]
  refine wpAny_forIn_list _ (fun rest r s1 => r.1 = none ∧ s1 = s ∧ ∀ v ∈ rest, HbvAt P w n s v) _ (fun v rest r s1 I => ?_) (fun r s1 I => ?_) _ _ ⟨rfl, rfl, hq⟩
  · obtain ⟨i1, rfl, i2⟩ := I
    refine wpAny_bind (i2 v List.mem_cons_self _ _ _ fun b => ?_)
    cases b with
    | true =>
      simp only [Bool.not_true, Bool.false_eq_true, if_false]
      exact wpAny_pure ⟨rfl, rfl, fun u m => i2 u (List.mem_cons_of_mem _ m)⟩
    | false =>
      simp only [Bool.not_false, if_true]
      exact wpAny_pure (wpAny_pure (h _))
  · obtain ⟨r1, r2⟩ := r
    obtain ⟨i1, rfl, _⟩ := I
    simp only at i1
    subst i1
    exact wpAny_pure (h _)
theorem HbvAt.flat {n : Nat} {s : Shared} {v : Value} (b : Bool) (e : hashByValue n v = pure b) : HbvAt P w n s v := fun A E Q q => by
  rw [e]
  exact wpAny_pure (q b)
mutual
theorem hbv_key : ∀ (k : NestedKey) (v : Value) (n : Nat) (s : Shared), NestedIs s.heap k v → k.depth ≤ n → HbvAt P w n s v
  | .none, _, n, _, x, _ => by cases x; exact .flat true (by cases n <;> rfl)
  | .num i, _, n, _, x, _ => by cases x <;> exact .flat true (by cases n <;> rfl)
  | .text y, _, n, _, x, _ => by cases x; exact .flat false (by cases n <;> rfl)
  | .tup ks, _, n, s, x, hn => by
    cases x with
    | tup hg hc hd hk =>
      simp only [NestedKey.depth] at hn
      match n, hn with
      | n + 1, hn => exact .tup hg hc hd (hbv_keys ks _ n s hk (Nat.le_of_succ_le_succ hn))
theorem hbv_keys : ∀ (ks : List NestedKey) (vs : List Value) (n : Nat) (s : Shared), NestedAll s.heap ks vs → NestedKey.depthAll ks ≤ n → ∀ v ∈ vs, HbvAt P w n s v
  | [], _, _, _, x, _, v, hv => by cases x; cases hv
  | k :: ks, _, n, s, x, hn, v, hv => by
    cases x with
    | cons x1 x2 =>
      simp only [NestedKey.depthAll] at hn
      rcases List.mem_cons.mp hv with rfl | hv
      · exact hbv_key k _ n s x1 (Nat.le_trans (Nat.le_max_left _ _) hn)
      · exact hbv_keys ks _ n s x2 (Nat.le_trans (Nat.le_max_right _ _) hn) v hv
end
end
section
variable {P : Program} {w : World} {A : Around} {E : Value → Shared → Prop} {s : Shared}
/-- the tuple at b is the key k -/
abbrev Kb (P : Program) (w : World) (h : Heap) (k : NestedKey) (b : Addr) : Prop := (nestedKind P w).is h k b
theorem kb_at {h h' : Heap} {k : NestedKey} {b : Addr} (x : Kb P w h k b) (hk : ∀ c o vs n, h.get? c = some o → o.data = .seq vs n → h'.get? c = some o) : Kb P w h' k b := ⟨NestedIs.at hk _ _ x.1, x.2⟩
theorem kb_but {h h' : Heap} {k : NestedKey} {a b : Addr} {o : Obj} {es : Array (Int × Value)} {ep : Nat} {t : SetTable} (x : Kb P w h k b) (ho : h.get? a = some o) (hd : o.data = .set es ep t) (hs : Heap.SameBut a h h') : Kb P w h' k b :=
  kb_at x fun c u vs n e1 e2 => (hs.2 c fun z => by
    rw [z, ho] at e1
    cases e1
    rw [hd] at e2
    cases e2).trans e1
theorem seen_key {k : NestedKey} {b : Addr} {Q : Bool → Shared → Prop} (hk : Kb P w s.heap k b) {ys : List Value} (hy : ∀ y ∈ ys, ∃ k2 c, y = Value.ref c ∧ Kb P w s.heap k2 c) (h : Q false s) :
    wpAny (model P w) A (searchCouldBeSeen (.ref b) ys) Q E s := by
  unfold searchCouldBeSeen
  refine wpAny_bind ?_
  refine wpAny_forIn_list _ (fun rest r s1 => r.1 = none ∧ s1 = s ∧ ∀ y ∈ rest, ∃ k2 c, y = Value.ref c ∧ Kb P w s.heap k2 c) _ (fun v rest r s1 I => ?_) (fun r s1 I => ?_) _ _ ⟨rfl, rfl, hy⟩
  · obtain ⟨i1, rfl, i2⟩ := I
    obtain ⟨k2, c, rfl, hc⟩ := i2 v List.mem_cons_self
    have more : ∀ y ∈ rest, ∃ k2 c, y = Value.ref c ∧ Kb P w s1.heap k2 c := fun u m => i2 u (List.mem_cons_of_mem _ m)
    dsimp only
    by_cases very : (b == c || (carriedByValue (.ref b) && carriedByValue (.ref c))) = true
    · exact wp_if_pos very (wpAny_pure ⟨rfl, rfl, more⟩)
    · refine wp_if_neg very (wpAny_bind ((nestedKind P w).quiet hk ?_))
      simp only [Bool.not_true, Bool.false_eq_true, if_false]
      refine wpAny_bind ((nestedKind P w).quiet hc ?_)
      simp only [Bool.not_true, Bool.false_eq_true, if_false]
      refine wpAny_bind (cls_key k _ 8 _ hk.1 hk.2 _ _ _ ?_)
      simp only [Bool.false_eq_true, if_false]
      refine wpAny_bind (cls_key k2 _ 8 _ hc.1 hc.2 _ _ _ ?_)
      simp only [Bool.false_eq_true, if_false]
      exact wpAny_pure ⟨rfl, rfl, more⟩
  · obtain ⟨r1, r2⟩ := r
    obtain ⟨i1, rfl, _⟩ := I
    simp only at i1
    subst i1
    exact wpAny_pure h
end
end L2.NSet
set_option Elab.async false
set_option linter.all false
set_option maxRecDepth 100000
set_option maxHeartbeats 4000000
/-! Sets whose members are tuples, nested as they may be: seeking a member in the table. -/
namespace L2.NSet
open PySem PySem.Spec PyProof.Rows
/-- the rows of the table: hash and address of each member -/
abbrev Mem : Type := Addr × NestedKey
def rowN (w : World) (p : Mem) : Int × Value := (p.2.hash w, Value.ref p.1)
structure Tab (P : Program) (w : World) (h : Heap) (a : Addr) (L : List Mem) (es : Array (Int × Value)) (ep : Nat) (t : SetTable) : Prop where
  here : ∃ o, h.get? a = some o ∧ o.ExactSet ∧ o.data = .set es ep t
  rows : es.toList = L.map (rowN w)
  lay : TabOk t (L.map fun p => p.2.hash w)
  once : (L.map (·.2)).Nodup
  each : ∀ p ∈ L, Kb P w h p.2 p.1
  told : w.params.followText "set-order" = true ∨ t.led = true
  free : L.length * 5 < t.mask * 3
  few : L.length < 64
section
variable {P : Program} {w : World} {A : Around} {E : Value → Shared → Prop} {s : Shared} {a : Addr} {L : List Mem} {es : Array (Int × Value)} {ep : Nat} {t : SetTable}
theorem rows_size (h : es.toList = L.map (rowN w)) : es.size = L.length := by
  rw [← Array.length_toList, h, List.length_map]
theorem rows_at (h : es.toList = L.map (rowN w)) {i : Nat} {p : Mem} (e : L[i]? = some p) : es[i]? = some (p.2.hash w, Value.ref p.1) := by
  rw [← Array.getElem?_toList, h, List.getElem?_map, e]
  rfl
theorem Tab.size (R : Tab P w s.heap a L es ep t) : es.size = L.length := rows_size R.rows
theorem Tab.fits (R : Tab P w s.heap a L es ep t) : t.fits es.size = true := by
  have h1 := R.lay.sz
  have h2 := R.size
  have h3 := R.free
  rw [List.length_map] at h1
  unfold SetTable.fits SetTable.fill
  rw [R.lay.dm, Bool.and_eq_true, beq_iff_eq, decide_eq_true_eq]
  show t.place.size = es.size ∧ t.place.size + 0 ≤ t.mask
  omega
/-- where the way of a hash begins -/
abbrev top0 (m : Nat) (hx : Int) : SetTable.Probe := runAt m (SetTable.bits hx % (m + 1)) (SetTable.bits hx)
theorem top_dummy (m : Nat) (hx : Int) (c : Nat) : (nth m (top0 m hx) c).dummy = none := by
  have key : ∀ (n : Nat) (p : SetTable.Probe), p.dummy = none → (nth m p n).dummy = none := fun n => by
    induction n with
    | zero => exact fun p h => h
    | succ n ih =>
      refine fun p h => ih (adv m p) ?_
      unfold adv
      split <;> exact h
  exact key c _ rfl
/-- the rest behind a candidate whose answer is known -/
theorem rest_of (R : Tab P w s.heap a L es ep t) {x : Addr} {k : NestedKey} (hx : Kb P w s.heap k x) (hu : A.units + 8 < cLine) {i j : Nat} {p : Mem} (hp : L[i]? = some p) (hi : t.place.toList[i]? = some j) {f : Nat} {nx : SetTable.Probe} {Q : SetFound → Shared → Prop}
    (yes : p.2 = k → Q (.there none) s) (no : p.2 ≠ k → wpAny (model P w) A (setSearchFrom a (.ref x) (k.hash w) true f (some nx)) Q E s) :
    wpAny (model P w) A (searchRest a (.ref x) (k.hash w) true f es t j i nx) Q E s := by
  obtain ⟨o, ho, ox, od⟩ := R.here
  have mp : p ∈ L := List.mem_of_getElem? hp
  unfold searchRest
  rw [rows_at R.rows hp]
  dsimp only
  refine wpAny_bind (wpAny_holding ((nestedKind P w).eqBool hu (R.each p mp) hx ?_))
  refine wpAny_bind (wpAny_setState_of ho od R.fits ?_)
  dsimp only
  by_cases e : p.2 = k
  · exact wp_if_pos (by simp [e]) (wpAny_pure (yes e))
  · refine wp_if_neg (by simp [e]) ?_
    rw [sameMem]
    dsimp only
    simp only [if_true, slot_live R.lay.ris hi, rows_at R.rows hp]
    refine wpAny_bind (wpAny_isSame_ref_self (wpAny_bind (wpAny_pure ?_)))
    simp only [if_true]
    exact wp_if_neg (by simp [e]) (no e)
theorem seek (R : Tab P w s.heap a L es ep t) {x : Addr} {k : NestedKey} (hx : Kb P w s.heap k x) (hu : A.units + 8 < cLine) {N : Nat} (nf : N < 10 * SetTable.turns t.mask)
    (n0 : way t.mask (k.hash w) N ∉ t.place.toList) (nb : ∀ c, c < N → way t.mask (k.hash w) c ∈ t.place.toList) {Q : SetFound → Shared → Prop}
    (yes : k ∈ L.map (·.2) → Q (.there none) s) (no : k ∉ L.map (·.2) → Q (.free (way t.mask (k.hash w) N) false) s) :
    ∀ (f c : Nat) (st : Option SetTable.Probe), st.getD (t.probeStart (k.hash w)) = nth t.mask (top0 t.mask (k.hash w)) c → c ≤ N → N - c < f →
      (∀ (i : Nat) p, L[i]? = some p → p.2 = k → ∃ d, c ≤ d ∧ d < N ∧ t.place.toList[i]? = some (way t.mask (k.hash w) d)) →
      wpAny (model P w) A (setSearchFrom a (.ref x) (k.hash w) true f st) Q E s
  | 0, _, _, _, _, z, _ => absurd z (Nat.not_lt_zero _)
  | f + 1, c, st, hst, hc, hf, ahead => by
    obtain ⟨o, ho, ox, od⟩ := R.here
    rw [setSearchFrom_succ]
    refine wpAny_bind (wpAny_setState_of ho od R.fits ?_)
    dsimp only
    have gw : ¬ t.gaveWay = true := by
      unfold SetTable.gaveWay
      rw [mask_odd R.lay.mok]
      decide
    refine wp_if_neg gw ?_
    have sh : ∀ q, nth t.mask (nth t.mask (top0 t.mask (k.hash w)) c) q = nth t.mask (top0 t.mask (k.hash w)) (c + q) := fun q => (nth_add t.mask c _ q).symm
    have ej : ∀ q, (nth t.mask (nth t.mask (top0 t.mask (k.hash w)) c) q).j = way t.mask (k.hash w) (c + q) := fun q => congrArg SetTable.Probe.j (sh q)
    have cN : c + (N - c) = N := by omega
    have G := go_spec t R.lay.ris R.lay.dm (fun i => (es[i]?.map (·.1)).getD 0) (k.hash w) (10 * SetTable.turns t.mask) (N - c) _ (top_dummy t.mask (k.hash w) c) (by omega)
      (fun q hq => by rw [ej]; exact nb (c + q) (by omega)) (by rw [ej, cN]; exact n0)
    have hat : ∀ (i : Nat) p, L[i]? = some p → (fun i => (es[i]?.map (·.1)).getD 0) i = p.2.hash w := fun i p hp => by
      show (es[i]?.map (·.1)).getD 0 = _
      rw [rows_at R.rows hp]
      rfl
    rcases G with ⟨q, i, hq, hi, hh, skip, pr⟩ | ⟨skip, pr⟩
    · rw [ej] at hi
      have pr2 : t.probe (fun i => (es[i]?.map (·.1)).getD 0) (k.hash w) (st.getD (t.probeStart (k.hash w))) = some (.candidate (way t.mask (k.hash w) (c + q)) i (nth t.mask (top0 t.mask (k.hash w)) (c + (q + 1)))) := by
        rw [hst, ← ej, ← sh]
        exact pr
      rw [pr2]
      dsimp only
      have il : i < L.length := by
        have h1 : i < t.place.toList.length := (List.getElem?_eq_some_iff.mp hi).1
        have h2 := R.lay.sz
        rw [List.length_map] at h2
        rw [Array.length_toList] at h1
        omega
      obtain ⟨p, hp⟩ : ∃ p, L[i]? = some p := ⟨_, List.getElem?_eq_getElem il⟩
      have go : wpAny (model P w) A (searchRest a (.ref x) (k.hash w) true f es t (way t.mask (k.hash w) (c + q)) i (nth t.mask (top0 t.mask (k.hash w)) (c + (q + 1)))) Q E s := by
        refine rest_of R hx hu hp hi (fun e => yes (List.mem_map.mpr ⟨p, List.mem_of_getElem? hp, e⟩)) fun ne => ?_
        refine seek R hx hu nf n0 nb yes no f (c + (q + 1)) _ rfl (by omega) (by omega) fun i2 p2 h2 k2 => ?_
        obtain ⟨d, d1, d2, d3⟩ := ahead i2 p2 h2 k2
        have hk2 : (fun i => (es[i]?.map (·.1)).getD 0) i2 = k.hash w := (hat i2 p2 h2).trans (by rw [k2])
        refine ⟨d, ?_, d2, d3⟩
        rcases Nat.lt_trichotomy d (c + q) with z | z | z
        · exact absurd hk2 (skip (d - c) i2 (by omega) (by rw [ej, show c + (d - c) = d by omega]; exact d3))
        · rw [z] at d3
          have s1 := slot_live R.lay.ris hi
          have s2 := slot_live R.lay.ris d3
          rw [s1] at s2
          injection s2 with s2
          rw [← s2, hp] at h2
          cases h2
          exact absurd k2 ne
        · omega
      by_cases led : t.led = true
      · exact wp_if_neg (by simp [led]) go
      · refine wp_if_pos (by simp [led]) (wpAny_bind (seen_key hx (fun y hy => ?_) ?_))
        · obtain ⟨e, he, rfl⟩ := List.mem_map.mp hy
          have he2 : e ∈ es.toList := by
            have : e ∈ es ∧ e.1 = k.hash w := by simpa using he
            simpa using this.1
          rw [R.rows] at he2
          obtain ⟨p2, m2, rfl⟩ := List.mem_map.mp he2
          exact ⟨p2.2, p2.1, rfl, R.each p2 m2⟩
        · exact wp_if_neg (by decide) go
    · have pr2 : t.probe (fun i => (es[i]?.map (·.1)).getD 0) (k.hash w) (st.getD (t.probeStart (k.hash w))) = some (.empty (way t.mask (k.hash w) N) none) := by
        have e2 : way t.mask (k.hash w) N = (nth t.mask (nth t.mask (top0 t.mask (k.hash w)) c) (N - c)).j := by rw [ej, cN]
        rw [hst, e2]
        exact pr
      rw [pr2]
      dsimp only
      refine wpAny_pure (no fun m => ?_)
      obtain ⟨p, mp, ek⟩ := List.mem_map.mp m
      obtain ⟨i, hi, e⟩ := List.getElem_of_mem mp
      have hp : L[i]? = some p := by rw [List.getElem?_eq_getElem hi, e]
      obtain ⟨d, d1, d2, d3⟩ := ahead i p hp ek
      exact skip (d - c) i (by omega) (by rw [ej, show c + (d - c) = d by omega]; exact d3) ((hat i p hp).trans (by rw [ek]))
theorem seek_all (R : Tab P w s.heap a L es ep t) {x : Addr} {k : NestedKey} (hx : Kb P w s.heap k x) (hu : A.units + 8 < cLine) {Q : SetFound → Shared → Prop}
    (yes : k ∈ L.map (·.2) → Q (.there none) s)
    (no : ∀ N, k ∉ L.map (·.2) → way t.mask (k.hash w) N ∉ t.place.toList → (∀ c, c < N → way t.mask (k.hash w) c ∈ t.place.toList) → Q (.free (way t.mask (k.hash w) N) false) s) :
    wpAny (model P w) A (setSearch a (.ref x) (k.hash w) true) Q E s := by
  have fr := R.free
  obtain ⟨N, nf, n0, nb⟩ := R.lay.first (by rw [List.length_map]; omega) (k.hash w)
  have small : N < 100000 := by
    have : 10 * SetTable.turns t.mask ≤ 1420 := by
      unfold SetTable.turns
      rcases R.lay.mok with e | e | e <;> omega
    omega
  unfold setSearch
  refine seek R hx hu nf n0 nb yes (fun m => no N m n0 nb) 100000 0 none rfl (Nat.zero_le _) (by omega) fun i p hp hk => ?_
  have hi : (L.map fun p => p.2.hash w)[i]? = some (k.hash w) := by
    rw [List.getElem?_map, hp, ← hk]
    rfl
  have il : i < t.place.toList.length := by
    have h1 : i < L.length := (List.getElem?_eq_some_iff.mp hp).1
    have h2 := R.lay.sz
    rw [List.length_map] at h2
    rw [Array.length_toList]
    omega
  have hj := List.getElem?_eq_getElem il
  obtain ⟨c, hc, e⟩ := R.lay.before n0 hi hj
  exact ⟨c, Nat.zero_le _, hc, by rw [hj, e]⟩
end
end L2.NSet
set_option Elab.async false
set_option linter.all false
set_option maxRecDepth 100000
set_option maxHeartbeats 4000000
/-! Sets whose members are tuples, nested as they may be: laying a member down. -/
namespace L2.NSet
open PySem PySem.Spec PyProof.Rows
section
variable {P : Program} {w : World} {A : Around} {E : Value → Shared → Prop} {s : Shared} {a : Addr} {L : List Mem} {es : Array (Int × Value)} {ep : Nat} {t : SetTable}
/-- rows picked by places -/
theorem picked (h : es.toList = L.map (rowN w)) {l : List Nat} (hl : ∀ i ∈ l, i < L.length) : ∃ M : List Mem, l.filterMap (fun i => es[i]?) = M.map (rowN w) ∧ M = l.filterMap (fun i => L[i]?) ∧
    (M.map fun p => p.2.hash w) = l.map fun i => (es.map (·.1)).getD i 0 := by
  induction l with
  | nil => exact ⟨[], rfl, rfl, rfl⟩
  | cons i l ih =>
    obtain ⟨M, m1, m2, m3⟩ := ih fun j m => hl j (List.mem_cons_of_mem _ m)
    have li := hl i List.mem_cons_self
    have hp : L[i]? = some L[i] := List.getElem?_eq_getElem li
    have he := rows_at h hp
    refine ⟨L[i] :: M, ?_, ?_, ?_⟩
    · rw [List.filterMap_cons_some he, m1]
      rfl
    · rw [List.filterMap_cons_some hp, m2]
    · rw [List.map_cons, List.map_cons, m3]
      have e5 : (es.map (·.1))[i]? = some ((L[i]).2.hash w) := by
        rw [Array.getElem?_map, he]
        rfl
      simp [Array.getD_eq_getD_getElem?, e5]
theorem all_places (L : List Mem) : (List.range L.length).filterMap (fun i => L[i]?) = L := by
  have key : ∀ n, n ≤ L.length → (List.range n).filterMap (fun i => L[i]?) = L.take n := fun n => by
    induction n with
    | zero => exact fun _ => rfl
    | succ n ih =>
      intro hn
      have lt : n < L.length := hn
      have hp : L[n]? = some L[n] := List.getElem?_eq_getElem lt
      rw [List.range_succ, List.filterMap_append, ih (Nat.le_of_lt lt), List.take_succ, hp, List.filterMap_cons_some hp]
      rfl
  rw [key L.length (Nat.le_refl _), List.take_length]
theorem reordered (h : es.toList = L.map (rowN w)) {order : Array Nat} (pm : order.toList.Perm (List.range L.length)) :
    ∃ M : List Mem, (order.filterMap (es[·]?)).toList = M.map (rowN w) ∧ M.Perm L ∧ (M.map fun p => p.2.hash w) = order.toList.map fun i => (es.map (·.1)).getD i 0 := by
  obtain ⟨M, m1, m2, m3⟩ := picked h (l := order.toList) fun i m => List.mem_range.mp (pm.mem_iff.mp m)
  refine ⟨M, ?_, ?_, m3⟩
  · rw [Array.toList_filterMap]
    exact m1
  · have q := pm.filterMap fun i => L[i]?
    rw [all_places, ← m2] at q
    exact q
/-- the table laid anew -/
theorem widen {o : Obj} (ho : s.heap.get? a = some o) (ox : o.ExactSet) (od : o.data = .set es ep t) (hr : es.toList = L.map (rowN w)) (hz : t.place.size = es.size) (hd : t.dummies = #[]) (hf : es.size ≤ t.mask)
    (nd : (L.map (·.2)).Nodup) (each : ∀ p ∈ L, Kb P w s.heap p.2 p.1) (told : w.params.followText "set-order" = true ∨ t.led = true) (few : L.length < 64) {want M : Nat}
    (hw : SetTable.sizeAbove want - 1 = M) (hM : MaskOk M) (h128 : SetTable.sizeAbove want ≤ 128) (hroom : L.length * 5 < M * 3) {Q : Unit → Shared → Prop}
    (hQ : ∀ h2 L2 es2 ep2 t2, Heap.SameBut a s.heap h2 → Tab P w h2 a L2 es2 ep2 t2 → L2.Perm L → Q () { s with heap := h2 }) : wpAny (model P w) A (setRelay a want) Q E s := by
  have sz := rows_size hr
  have fits : t.fits es.size = true := by
    unfold SetTable.fits SetTable.fill
    rw [hd, Bool.and_eq_true, beq_iff_eq, decide_eq_true_eq]
    show t.place.size = es.size ∧ t.place.size + 0 ≤ t.mask
    omega
  obtain ⟨t2, order, e, pm, T, em, el, e3, e4⟩ := relaid_ok t (hs := es.map (·.1)) (wanted := want) hw hM (by rw [Array.size_map, sz]; omega)
  rw [Array.size_map, sz] at pm
  obtain ⟨M2, r1, r2, r3⟩ := reordered hr pm
  rw [← r3] at T
  have z2 : (order.filterMap (es[·]?)).size = es.size := by rw [rows_size r1, r2.length_eq, sz]
  rw [setRelay_eq]
  refine wpAny_bind (wpAny_setState_of ho od fits ?_)
  dsimp only
  refine wp_if_neg (by rw [sizeLine_eq]; omega) ?_
  rw [e]
  dsimp only
  refine wpAny_bind (wp_if_neg (by rw [z2]; simp) (wpAny_pure ?_))
  dsimp only
  refine wpAny_storeSet_of ho od ?_ (by rw [z2, sz, sizeLine_eq]; omega)
  have sb := Heap.SameBut.update s.heap a (Obj.putSet (order.filterMap (es[·]?)) t2)
  refine hQ _ M2 (order.filterMap (es[·]?)) (ep + 1) t2 sb ⟨⟨_, store_at ho od, ⟨ox.1, ox.2.1, ox.2.2⟩, rfl⟩, r1, T, (r2.map (·.2)).nodup_iff.mpr nd, fun p m => kb_but (each p (r2.mem_iff.mp m)) ho od sb, by rw [el]; exact told, ?_, by rw [r2.length_eq]; exact few⟩ r2
  rw [r2.length_eq, em]
  exact hroom
theorem put_mid (L : List Mem) (p : Nat) (x : Mem) : (L.take p ++ x :: L.drop p).Perm (x :: L) := by
  have h : (L.take p ++ x :: L.drop p).Perm (x :: (L.take p ++ L.drop p)) := List.perm_middle
  rwa [List.take_append_drop] at h
/-- adding a tuple -/
theorem lay (R : Tab P w s.heap a L es ep t) {x : Addr} {k : NestedKey} (hx : Kb P w s.heap k x) (hu : A.units + 8 < cLine) (few : L.length + 1 < 64) {Q : Bool → Shared → Prop}
    (hQ : ∀ b h2 L2 es2 ep2 t2, Heap.SameBut a s.heap h2 → Tab P w h2 a L2 es2 ep2 t2 → (k ∈ L.map (·.2) → L2 = L) → (k ∉ L.map (·.2) → L2.Perm ((x, k) :: L)) → Q b { s with heap := h2 }) :
    wpAny (model P w) A (setAddHashed a (.ref x) (k.hash w)) Q E s := by
  obtain ⟨o, ho, ox, od⟩ := R.here
  have sz := R.size
  have fr := R.free
  unfold setAddHashed
  refine wpAny_holding ?_
  rw [show (100000 : Nat) = 99999 + 1 from rfl, setAddHashedIn_succ]
  refine wpAny_bind (wpAny_setState_of ho od R.fits ?_)
  dsimp only
  refine wp_if_neg (by simp [byScan, Value.scannable]) ?_
  refine wpAny_bind (seek_all R hx hu (fun m => ?_) fun N m n0 nb => ?_)
  · dsimp only
    exact wpAny_pure (hQ false s.heap L es ep t (Heap.SameBut.refl a s.heap) R (fun _ => rfl) fun z => absurd m z)
  dsimp only
  refine wpAny_bind (wpAny_setState_of ho od R.fits ?_)
  dsimp only
  obtain ⟨q1, q2, q3, q4, q5, _, _, _, q9⟩ := R.lay.put n0 nb
  generalize t.put (way t.mask (k.hash w) N) = pt at q1 q3 q4 q5 q9 ⊢
  obtain ⟨t1, p⟩ := pt
  dsimp only at q1 q3 q4 q5 q9 ⊢
  subst q1
  have mid : ∀ b : Bool, wpAny (model P w) A (do
      storeSet a (SetTable.insertAt es (SetTable.below t.place (way t.mask (k.hash w) N)) (k.hash w, Value.ref x)) (if b = true then t1 else { t1 with plain := false })
      if (!false && (if b = true then t1 else { t1 with plain := false }).tooFull) = true then setRelay a (SetTable.grown (es.size + 1))
      return true) Q E s := fun b => by
    have hin : (SetTable.insertAt es (SetTable.below t.place (way t.mask (k.hash w) N)) (k.hash w, Value.ref x)).toList = (L.take (SetTable.below t.place (way t.mask (k.hash w) N)) ++ (x, k) :: L.drop (SetTable.below t.place (way t.mask (k.hash w) N))).map (rowN w) := by
      rw [SetTable.toList_insertAt, R.rows, List.map_append, List.map_cons, List.map_take, List.map_drop]
      rfl
    generalize SetTable.below t.place (way t.mask (k.hash w) N) = p at q2 q3 hin ⊢
    have pm := put_mid L p (x, k)
    have len : (L.take p ++ (x, k) :: L.drop p).length = L.length + 1 := pm.length_eq
    have hh : (L.take p ++ (x, k) :: L.drop p).map (fun p => p.2.hash w) = (L.map fun p => p.2.hash w).take p ++ k.hash w :: (L.map fun p => p.2.hash w).drop p := by
      rw [List.map_append, List.map_cons, List.map_take, List.map_drop]
    rw [← hh] at q3
    have nd : ((L.take p ++ (x, k) :: L.drop p).map (·.2)).Nodup := (pm.map (·.2)).nodup_iff.mpr (List.nodup_cons.mpr ⟨m, R.once⟩)
    have z1 := rows_size hin
    rw [len] at z1
    generalize SetTable.insertAt es p (k.hash w, Value.ref x) = es1 at hin z1 ⊢
    generalize L.take p ++ (x, k) :: L.drop p = L1 at pm len q3 nd hin
    obtain ⟨u, hu2, u3, u4, u5, u6⟩ : ∃ u : SetTable, (if b = true then t1 else { t1 with plain := false }) = u ∧ TabOk u (L1.map fun p => p.2.hash w) ∧ u.mask = t.mask ∧ u.led = t.led ∧ u.fill = L.length + 1 := by
      cases b
      · exact ⟨{ t1 with plain := false }, rfl, ⟨q3.ris, q3.dm, q3.sz, q3.mok, q3.bd, q3.reach⟩, q4, q5, by rw [List.length_map] at q9; exact q9⟩
      · exact ⟨t1, rfl, q3, q4, q5, by rw [List.length_map] at q9; exact q9⟩
    rw [hu2]
    refine wpAny_bind (wpAny_storeSet_of ho od ?_ (by rw [z1, sizeLine_eq]; omega))
    have sb : Heap.SameBut a s.heap (s.heap.update a (Obj.putSet es1 u)) := Heap.SameBut.update ..
    have ho1 := store_at (es' := es1) (t' := u) ho od
    generalize s.heap.update a (Obj.putSet es1 u) = h1 at sb ho1 ⊢
    have each : ∀ p ∈ L1, Kb P w h1 p.2 p.1 := fun p mp => by
      rcases List.mem_cons.mp (pm.mem_iff.mp mp) with e | mp
      · rw [e]
        exact kb_but hx ho od sb
      · exact kb_but (R.each p mp) ho od sb
    have told : w.params.followText "set-order" = true ∨ u.led = true := by rw [u5]; exact R.told
    by_cases full : u.tooFull = true
    · refine wp_if_pos (by simp [full]) (wpAny_bind ?_)
      have tight : (L.length + 1) * 5 ≥ u.mask * 3 := by
        have h := full
        unfold SetTable.tooFull at h
        rw [decide_eq_true_eq, u6] at h
        exact h
      rw [sz]
      have z2 : u.place.size = es1.size := by
        have h := u3.sz
        rw [List.length_map, len] at h
        rw [h, z1]
      have two : (t.mask = 7 ∧ L.length = 4) ∨ (t.mask = 31 ∧ L.length = 18) := by
        rcases R.lay.mok with e | e | e
        · rw [u4, e] at tight
          rw [e] at fr
          exact .inl ⟨e, by omega⟩
        · rw [u4, e] at tight
          rw [e] at fr
          exact .inr ⟨e, by omega⟩
        · rw [u4, e] at tight
          omega
      have go : ∀ M, SetTable.sizeAbove (SetTable.grown (L.length + 1)) - 1 = M → MaskOk M → SetTable.sizeAbove (SetTable.grown (L.length + 1)) ≤ 128 → (L.length + 1) * 5 < M * 3 →
          wpAny (model P w) A (setRelay a (SetTable.grown (L.length + 1))) (fun _ s2 => wpAny (model P w) A (pure true) Q E s2) E { s with heap := h1 } := fun M g1 g2 g3 g4 =>
        widen (s := { s with heap := h1 }) ho1 ⟨ox.1, ox.2.1, ox.2.2⟩ rfl hin z2 u3.dm (by rw [z1, u4]; rcases two with ⟨e, e2⟩ | ⟨e, e2⟩ <;> omega) nd each told (by rw [len]; exact few) g1 g2 g3 (by rw [len]; exact g4)
          fun h2 L2 es2 ep2 t2 sb2 R2 pm2 => wpAny_pure (hQ true h2 L2 es2 ep2 t2 (sb.trans sb2) R2 (fun z => absurd z m) fun _ => pm2.trans pm)
      rcases two with ⟨_, e2⟩ | ⟨_, e2⟩
      · exact go 31 (by rw [e2, size_20]) (.inr (.inl rfl)) (by rw [e2, size_20]; decide) (by omega)
      · exact go 127 (by rw [e2, size_76]) (.inr (.inr rfl)) (by rw [e2, size_76]; decide) (by omega)
    · refine wp_if_neg (by simp [full]) (wpAny_pure (hQ true h1 L1 es1 (ep + 1) u sb ⟨⟨_, ho1, ⟨ox.1, ox.2.1, ox.2.2⟩, rfl⟩, hin, u3, nd, each, told, ?_, by rw [len]; exact few⟩ (fun z => absurd z m) fun _ => pm))
      have h := full
      unfold SetTable.tooFull at h
      rw [decide_eq_true_eq, u6] at h
      rw [len]
      omega
  by_cases pl : t1.plain = true
  · refine wp_if_pos pl (wpAny_bind (hbv_key k _ 8 _ hx.1 hx.2 _ _ _ fun b => ?_))
    exact mid b
  · refine wp_if_neg pl (wpAny_bind (wpAny_pure ?_))
    exact mid true
end
end L2.NSet
set_option Elab.async false
set_option linter.all false
set_option maxRecDepth 100000
set_option maxHeartbeats 4000000
/-! set(tuples): a list or a tuple of tuples goes into a new set. -/
namespace L2.NSet
open PySem PySem.Spec PyProof.Rows
section
variable {P : Program} {w : World} {A : Around} {E : Value → Shared → Prop} {s : Shared}
/-- what stands in the set when the first i have gone in -/
structure In (ks : List Mem) (i : Nat) (L : List Mem) : Prop where
  from_ : ∀ p ∈ L, p ∈ ks.take i
  to_ : ∀ p ∈ ks.take i, p.2 ∈ L.map (·.2)
  le : L.length ≤ i
theorem In.zero (ks : List Mem) : In ks 0 [] := ⟨fun p h => (nomatch h), fun p h => (by simp at h), Nat.le_refl _⟩
theorem In.next {ks L M : List Mem} {i : Nat} {x : Mem} (g : In ks i L) (h : ks[i]? = some x) (old : x.2 ∈ L.map (·.2) → M = L) (new : x.2 ∉ L.map (·.2) → M.Perm (x :: L)) : In ks (i + 1) M := by
  have tk : ks.take (i + 1) = ks.take i ++ [x] := by
    rw [List.take_succ, h]
    rfl
  by_cases m : x.2 ∈ L.map (·.2)
  · rw [old m]
    refine ⟨fun p mp => ?_, fun p mp => ?_, Nat.le_succ_of_le g.le⟩
    · rw [tk]
      exact List.mem_append_left _ (g.from_ p mp)
    · rw [tk] at mp
      rcases List.mem_append.mp mp with z | z
      · exact g.to_ p z
      · rw [List.mem_singleton.mp z]
        exact m
  · have pm := new m
    refine ⟨fun p mp => ?_, fun p mp => ?_, ?_⟩
    · rw [tk]
      rcases List.mem_cons.mp (pm.mem_iff.mp mp) with e | z
      · rw [e]
        exact List.mem_append_right _ (List.mem_singleton.mpr rfl)
      · exact List.mem_append_left _ (g.from_ p z)
    · rw [(pm.map (·.2)).mem_iff, List.map_cons]
      rw [tk] at mp
      rcases List.mem_append.mp mp with z | z
      · exact List.mem_cons_of_mem _ (g.to_ p z)
      · rw [List.mem_singleton.mp z]
        exact List.mem_cons_self
    · rw [pm.length_eq, List.length_cons]
      exact Nat.succ_le_succ g.le
theorem Tab.keep {h h2 : Heap} {a : Addr} {L : List Mem} {es : Array (Int × Value)} {ep : Nat} {t : SetTable} (R : Tab P w h a L es ep t) (ha : ∀ o, h.get? a = some o → h2.get? a = some o) (each : ∀ p ∈ L, Kb P w h2 p.2 p.1) : Tab P w h2 a L es ep t :=
  let ⟨o, ho, r⟩ := R.here
  ⟨⟨o, ha o ho, r⟩, R.rows, R.lay, R.once, each, R.told, R.free, R.few⟩
abbrev newSet (w : World) : Obj := { cls := .type "set", dict := none, data := .set #[] 0 (.fresh 0 0 (!w.params.followText "set-order")) }
theorem Tab.new {h : Heap} {a : Addr} (ho : h.get? a = some (newSet w)) : Tab P w h a [] #[] 0 (.fresh 0 0 (!w.params.followText "set-order")) where
  here := ⟨_, ho, ⟨rfl, rfl, rfl⟩, rfl⟩
  rows := rfl
  lay := ⟨List.Pairwise.nil, rfl, rfl, .inl rfl, fun x hx => (nomatch hx), fun i h j hi => (by simp at hi)⟩
  once := List.nodup_nil
  each := fun p hp => nomatch hp
  told := by
    show _ ∨ (!w.params.followText "set-order") = true
    cases w.params.followText "set-order"
    · exact .inr rfl
    · exact .inl rfl
  free := by
    show 0 * 5 < 7 * 3
    decide
  few := by
    show 0 < 64
    decide
theorem kb_keep {h h2 : Heap} {k : NestedKey} {b : Addr} (x : Kb P w h k b) (hk : ∀ c o, h.get? c = some o → h2.get? c = some o) : Kb P w h2 k b := kb_at x fun c o _ _ e _ => hk c o e
/-- the loop of set.update -/
theorem loopN {I : Addr} {fp wr : List Addr} {G : Array GenState → Array GenState → Prop} {n : Nat} {Pv : Nat → Value → Prop} {St : Nat → Shared → Prop} {R : Result → Shared → Prop}
    (W : WalksS P w A.in1 I fp wr G n Pv St) (S : Addr) (nf : S ∉ fp) (ks : List Mem) (hn : n = ks.length) (few : ks.length < 64) (val : ∀ i v, Pv i v → ∃ p, ks[i]? = some p ∧ v = .ref p.1)
    (g0 : Heap) (each : ∀ p ∈ ks, Kb P w g0 p.2 p.1) (s0 : g0.get? S = none) (w0 : ∀ b ∈ wr, g0.get? b = none) (hu : A.in1.units + 8 < cLine) :
    ∀ (m i : Nat) (s : Shared), n - i = m → i ≤ n → St i s → (∀ b o, g0.get? b = some o → s.heap.get? b = some o) → (∃ L es ep t, Tab P w s.heap S L es ep t ∧ In ks i L) →
      (∀ s2 L es ep t, Moved (S :: wr) G s s2 → Tab P w s2.heap S L es ep t → In ks n L → (∀ b o, g0.get? b = some o → s2.heap.get? b = some o) → R (.ok (.ret .none)) s2) →
      codeAny (model P w) A (.builtin "set.update.loop" ⟨[.ref S, .ref I], []⟩) R s := by
  have nw : S ∉ wr := fun h => nf (W.sub _ h)
  have wider : ∀ b ∈ wr, b ∈ S :: wr := fun b m => List.mem_cons_of_mem _ m
  have hold : ∀ {s1 s2 : Shared}, Moved wr G s1 s2 → (∀ b o, g0.get? b = some o → s1.heap.get? b = some o) → ∀ b o, g0.get? b = some o → s2.heap.get? b = some o := fun mv k b o e =>
    mv.heap b o (fun m => by rw [w0 b m] at e; cases e) (k b o e)
  intro m
  induction m with
  | zero =>
    rintro i s hm hi hst kp ⟨L, es, ep, t, R0, g⟩ hR
    obtain rfl : i = n := by omega
    refine codeAny_builtin F.entry_set_update_loop ?_
    rw [Around.under_plainId F.plain_set_update_loop _] <;> show wpAny _ A.in1 (pyNext (.ref I) >>= _) _ _ s
    refine wpAny_bind (W.done s _ _ hst fun s2 mv => ?_)
    have kp2 := hold mv kp
    exact wpAny_pure (hR s2 L es ep t (mv.mono wider) (R0.keep (fun o e => mv.heap S o nw e) fun p mp => kb_keep (each p (List.mem_of_mem_take (g.from_ p mp))) kp2) g kp2)
  | succ m ih =>
    rintro i s hm hi hst kp ⟨L, es, ep, t, R0, g⟩ hR
    have lt : i < n := by omega
    refine codeAny_builtin F.entry_set_update_loop ?_
    rw [Around.under_plainId F.plain_set_update_loop _] <;> show wpAny _ A.in1 (pyNext (.ref I) >>= _) _ _ s
    refine wpAny_bind (W.item i s _ _ lt hst fun v s2 hv hst2 mv => ?_)
    obtain ⟨p, hp, rfl⟩ := val i v hv
    have kp2 := hold mv kp
    have R2 : Tab P w s2.heap S L es ep t := R0.keep (fun o e => mv.heap S o nw e) fun q mq => kb_keep (each q (List.mem_of_mem_take (g.from_ q mq))) kp2
    have hx : Kb P w s2.heap p.2 p.1 := kb_keep (each p (List.mem_of_getElem? hp)) kp2
    show wpAny _ A.in1 (holding [Value.ref p.1] (setAdd S (.ref p.1)) >>= _) _ _ s2
    unfold setAdd
    refine wpAny_bind (wpAny_holding (wpAny_holding (wpAny_bind ((nestedKind P w).pyHash hu hx ?_))))
    refine lay (s := { s2 with toks := s2.toks + p.2.draws }) R2 hx hu (by have := g.le; omega) fun b h3 L3 es3 ep3 t3 sb R3 c1 c2 => ?_
    have kp3 : ∀ b o, g0.get? b = some o → h3.get? b = some o := fun b o e => (sb.2 b fun z => by rw [z, s0] at e; cases e).trans (kp2 b o e)
    refine wpAny_pure ⟨plainId_quiet F.plain_set_update_loop _, ih (i + 1) _ (by omega) lt (W.frame _ s2 _ _ hst2 (Nat.le_add_right _ _) fun b mb o e => ?_) kp3 ⟨L3, es3, ep3, t3, R3, g.next hp c1 c2⟩
      fun s4 L4 es4 ep4 t4 mv4 R4 g4 kp4 => hR s4 L4 es4 ep4 t4 (Moved.trans W.gtrans ((mv.mono wider).then_heap (Nat.le_add_right _ _) fun b o nb e => ?_) mv4) R4 g4 kp4⟩
    · rw [sb.2 b fun z => nf (by rw [← z]; exact mb)]
      exact e
    · rw [sb.2 b fun z => nb (by rw [z]; exact List.mem_cons_self)]
      exact e

set_option maxHeartbeats 16000000 in
/-- set(a list of tuples) -/
theorem call_set_list {l : Addr} {items : Array Value} (ks : List Mem) {Q : Value → Shared → Prop} (hh : A.handled = none) (hl : s.heap.IsList l items) (it : items.toList = ks.map fun p => Value.ref p.1)
    (each : ∀ p ∈ ks, Kb P w s.heap p.2 p.1) (few : ks.length < 64) (hu : A.units + 20 < cLine)
    (h : ∀ (h2 : Heap) (tk : Nat) L es ep t, Tab P w h2 s.heap.objs.size L es ep t → In ks ks.length L → (∀ b o, s.heap.get? b = some o → h2.get? b = some o) → Q (.ref s.heap.objs.size) { s with heap := h2, toks := tk }) :
    wpAny (model P w) A (call (.type "set") [.ref l]) Q E s := by
  have isz : items.size = ks.length := by rw [← Array.length_toList, it, List.length_map]
  obtain ⟨mc, mt, mmro⟩ := F.called_set.mro
  have mmade := F.called_set.made
  have msub := F.called_set.sub
  refine wpAny_call (codeAny_of_tree ?_) <;> show wpAny _ _ (callAny (.type "set") _) _ _ _
  refine wpAny_pure ⟨Code.quiet_builtin _ (by decide +kernel), codeAny_builtin F.entry_type_call ?_⟩ <;> rw [Around.under_plain (weight_type_call_type "set" [.ref l] []) rfl]
  have m1 := F.called_set.notType
  have m2 := F.called_set.canCreate
  have m3 := F.typeCall_set_1 (.ref l)
  repeat (any_goals (first | assumption | wp_step))
  refine codeAny_mono (code_set_led1 (.ref l) (E := E) (Q₁ := fun obj s1 => obj = .ref s.heap.objs.size ∧ s1 = { s with heap := s.heap.push (newSet w) }) ⟨rfl, rfl⟩) fun r s1 hr => ?_
  match r, hr with
  | .error e, hr => exact hr
  | .ok (.ret obj), hr =>
    obtain ⟨rfl, rfl⟩ := hr
    have atS : (s.heap.push (newSet w)).get? s.heap.objs.size = some (newSet w) := Heap.get?_push_size _ rfl
    have tyS : Shared.TypeIs { s with heap := s.heap.push (newSet w) } (.ref s.heap.objs.size) "set" := ⟨_, atS, rfl⟩
    have m4 := F.called_set.init.lookup
    have m5 := F.called_set.init.bind (.ref s.heap.objs.size)
    repeat (any_goals (first | assumption | wp_step))
    refine codeAny_mono (codeAny_call_builtin (R := wants (fun r s2 => r = .none ∧ ∃ h2 tk L es ep t, s2 = { s with heap := h2, toks := tk } ∧ Tab P w h2 s.heap.objs.size L es ep t ∧ In ks ks.length L ∧
        (∀ b o, s.heap.get? b = some o → h2.get? b = some o)) E) F.called_set.init.plain F.entry_set_init (check_set_init_1 tyS ?_)) fun r2 s2 hr2 => ?_
    · obtain ⟨⟨_, odict, _, oslots⟩, hol, hcl, nl, hdl⟩ := hl
      simp only at hcl hdl
      subst hcl; subst hdl
      have hol2 : (s.heap.push (newSet w)).get? l = some { cls := .type "list", dict := odict, data := .seq items nl, slots := oslots } := Heap.get?_push_of_some _ hol
      have m6 := F.sub_list_set
      have m7 := F.sub_list_frozenset
      have m8 : (Value.type "list" == Value.type "dict") = false := by decide
      have hl1 : (s.heap.push (newSet w)).IsList l items := ⟨_, hol2, rfl, nl, rfl⟩
      unfold Builtin.«set.__init__» noKeywords Builtin.Frozenset.updateFrom
      generalize hPI : pyIter = PI
      wp_walk
      subst hPI
      refine wpAny_pyIter_list hl1 (wpAny_bind (wpAny_runValue ?_))
      have lS : l < s.heap.objs.size := Heap.lt_size hol
      have zS : (s.heap.push (newSet w)).objs.size = s.heap.objs.size + 1 := Heap.size_push ..
      have hh3 : A.in1.in1.in1.handled = none := by simp [hh]
      have nI : l ≠ (s.heap.push (newSet w)).objs.size := by rw [zS]; exact Nat.ne_of_lt (Nat.lt_succ_of_lt lS)
      have nf : s.heap.objs.size ∉ [(s.heap.push (newSet w)).objs.size, l] := by
        rw [zS]; simp only [List.mem_cons, List.not_mem_nil, or_false, not_or]
        exact ⟨Nat.ne_of_lt (Nat.lt_succ_self _), Nat.ne_of_gt lS⟩
      have val : ∀ (i : Nat) (v : Value), items[i]? = some v → ∃ p, ks[i]? = some p ∧ v = .ref p.1 := fun i v hv => by
        have q : items.toList[i]? = some v := by rw [Array.getElem?_toList]; exact hv
        rw [it, List.getElem?_map] at q
        obtain ⟨p, hp, e⟩ := Option.map_eq_some_iff.mp q
        exact ⟨p, hp, e.symm⟩
      have out : ∀ b, s.heap.objs.size ≤ b → s.heap.get? b = none := fun b hb => by
        cases q : s.heap.get? b with
        | none => rfl
        | some o => exact absurd (Nat.lt_of_lt_of_le (Heap.lt_size q) hb) (Nat.lt_irrefl _)
      refine loopN ((Walks.list hh3 _ l nI items).toS) s.heap.objs.size nf ks isz few val s.heap each (out _ (Nat.le_refl _)) (fun b mb => out b (by rw [List.mem_singleton.mp mb, zS]; exact Nat.le_succ _))
        (show A.units + 3 + 8 < cLine by omega) (items.size - 0) 0 _ (by omega) (Nat.zero_le _) ⟨⟨_, Heap.get?_push_size _ rfl, rfl, rfl⟩, (hl1.push _)⟩ (fun b o e => Heap.get?_push_of_some _ (Heap.get?_push_of_some _ e)) ?first ?last
      case first => exact ⟨[], #[], 0, _, Tab.new (Heap.get?_push_of_some _ atS), In.zero ks⟩
      case last =>
        rintro ⟨h2, g2, d2, tk2, os2⟩ L es ep t mv R2 g3 kp
        obtain rfl : g2 = s.gens := mv.gens
        obtain rfl : d2 = s.drawn := mv.drawn
        obtain rfl : os2 = s.os := mv.os
        rw [isz] at g3
        exact wpAny_pure (wpAny_pure ⟨rfl, h2, tk2, L, es, ep, t, rfl, R2, g3, kp⟩)
    · match r2, hr2 with
      | .error e, hr2 => exact hr2
      | .ok (.ret r), hr2 =>
        obtain ⟨rfl, h2, tk, L, es, ep, t, rfl, R2, g3, kp⟩ := hr2
        repeat (any_goals (first | assumption | wp_step))
        exact h _ _ _ _ _ _ R2 g3 kp

set_option maxHeartbeats 16000000 in
/-- set(a tuple of tuples) -/
theorem call_set_tuple {l : Addr} {items : Array Value} (ks : List Mem) {Q : Value → Shared → Prop} (hh : A.handled = none) (hl : s.heap.IsTuple l items) (it : items.toList = ks.map fun p => Value.ref p.1)
    (each : ∀ p ∈ ks, Kb P w s.heap p.2 p.1) (few : ks.length < 64) (hu : A.units + 20 < cLine)
    (h : ∀ (h2 : Heap) (tk : Nat) L es ep t, Tab P w h2 s.heap.objs.size L es ep t → In ks ks.length L → (∀ b o, s.heap.get? b = some o → h2.get? b = some o) → Q (.ref s.heap.objs.size) { s with heap := h2, toks := tk }) :
    wpAny (model P w) A (call (.type "set") [.ref l]) Q E s := by
  have isz : items.size = ks.length := by rw [← Array.length_toList, it, List.length_map]
  obtain ⟨mc, mt, mmro⟩ := F.called_set.mro
  have mmade := F.called_set.made
  have msub := F.called_set.sub
  refine wpAny_call (codeAny_of_tree ?_) <;> show wpAny _ _ (callAny (.type "set") _) _ _ _
  refine wpAny_pure ⟨Code.quiet_builtin _ (by decide +kernel), codeAny_builtin F.entry_type_call ?_⟩ <;> rw [Around.under_plain (weight_type_call_type "set" [.ref l] []) rfl]
  have m1 := F.called_set.notType
  have m2 := F.called_set.canCreate
  have m3 := F.typeCall_set_1 (.ref l)
  repeat (any_goals (first | assumption | wp_step))
  refine codeAny_mono (code_set_led1 (.ref l) (E := E) (Q₁ := fun obj s1 => obj = .ref s.heap.objs.size ∧ s1 = { s with heap := s.heap.push (newSet w) }) ⟨rfl, rfl⟩) fun r s1 hr => ?_
  match r, hr with
  | .error e, hr => exact hr
  | .ok (.ret obj), hr =>
    obtain ⟨rfl, rfl⟩ := hr
    have atS : (s.heap.push (newSet w)).get? s.heap.objs.size = some (newSet w) := Heap.get?_push_size _ rfl
    have tyS : Shared.TypeIs { s with heap := s.heap.push (newSet w) } (.ref s.heap.objs.size) "set" := ⟨_, atS, rfl⟩
    have m4 := F.called_set.init.lookup
    have m5 := F.called_set.init.bind (.ref s.heap.objs.size)
    repeat (any_goals (first | assumption | wp_step))
    refine codeAny_mono (codeAny_call_builtin (R := wants (fun r s2 => r = .none ∧ ∃ h2 tk L es ep t, s2 = { s with heap := h2, toks := tk } ∧ Tab P w h2 s.heap.objs.size L es ep t ∧ In ks ks.length L ∧
        (∀ b o, s.heap.get? b = some o → h2.get? b = some o)) E) F.called_set.init.plain F.entry_set_init (check_set_init_1 tyS ?_)) fun r2 s2 hr2 => ?_
    · obtain ⟨⟨_, odict, _, oslots⟩, hol, hcl, nl, hdl⟩ := hl
      simp only at hcl hdl
      subst hcl; subst hdl
      have hol2 : (s.heap.push (newSet w)).get? l = some { cls := .type "tuple", dict := odict, data := .seq items nl, slots := oslots } := Heap.get?_push_of_some _ hol
      have m6 := F.sub_tuple_set
      have m7 := F.sub_tuple_frozenset
      have m8 : (Value.type "tuple" == Value.type "dict") = false := by decide
      have hl1 : (s.heap.push (newSet w)).IsTuple l items := ⟨_, hol2, rfl, nl, rfl⟩
      unfold Builtin.«set.__init__» noKeywords Builtin.Frozenset.updateFrom
      generalize hPI : pyIter = PI
      wp_walk
      subst hPI
      refine wpAny_pyIter_tuple hl1 (wpAny_bind (wpAny_runValue ?_))
      have lS : l < s.heap.objs.size := Heap.lt_size hol
      have zS : (s.heap.push (newSet w)).objs.size = s.heap.objs.size + 1 := Heap.size_push ..
      have hh3 : A.in1.in1.in1.handled = none := by simp [hh]
      have nI : l ≠ (s.heap.push (newSet w)).objs.size := by rw [zS]; exact Nat.ne_of_lt (Nat.lt_succ_of_lt lS)
      have nf : s.heap.objs.size ∉ [(s.heap.push (newSet w)).objs.size, l] := by
        rw [zS]; simp only [List.mem_cons, List.not_mem_nil, or_false, not_or]
        exact ⟨Nat.ne_of_lt (Nat.lt_succ_self _), Nat.ne_of_gt lS⟩
      have val : ∀ (i : Nat) (v : Value), items[i]? = some v → ∃ p, ks[i]? = some p ∧ v = .ref p.1 := fun i v hv => by
        have q : items.toList[i]? = some v := by rw [Array.getElem?_toList]; exact hv
        rw [it, List.getElem?_map] at q
        obtain ⟨p, hp, e⟩ := Option.map_eq_some_iff.mp q
        exact ⟨p, hp, e.symm⟩
      have out : ∀ b, s.heap.objs.size ≤ b → s.heap.get? b = none := fun b hb => by
        cases q : s.heap.get? b with
        | none => rfl
        | some o => exact absurd (Nat.lt_of_lt_of_le (Heap.lt_size q) hb) (Nat.lt_irrefl _)
      refine loopN ((Walks.tuple hh3 _ l nI items).toS) s.heap.objs.size nf ks isz few val s.heap each (out _ (Nat.le_refl _)) (fun b mb => out b (by rw [List.mem_singleton.mp mb, zS]; exact Nat.le_succ _))
        (show A.units + 3 + 8 < cLine by omega) (items.size - 0) 0 _ (by omega) (Nat.zero_le _) ⟨⟨_, Heap.get?_push_size _ rfl, rfl, rfl⟩, (hl1.push _)⟩ (fun b o e => Heap.get?_push_of_some _ (Heap.get?_push_of_some _ e)) ?first ?last
      case first => exact ⟨[], #[], 0, _, Tab.new (Heap.get?_push_of_some _ atS), In.zero ks⟩
      case last =>
        rintro ⟨h2, g2, d2, tk2, os2⟩ L es ep t mv R2 g3 kp
        obtain rfl : g2 = s.gens := mv.gens
        obtain rfl : d2 = s.drawn := mv.drawn
        obtain rfl : os2 = s.os := mv.os
        rw [isz] at g3
        exact wpAny_pure (wpAny_pure ⟨rfl, h2, tk2, L, es, ep, t, rfl, R2, g3, kp⟩)
    · match r2, hr2 with
      | .error e, hr2 => exact hr2
      | .ok (.ret r), hr2 =>
        obtain ⟨rfl, h2, tk, L, es, ep, t, rfl, R2, g3, kp⟩ := hr2
        repeat (any_goals (first | assumption | wp_step))
        exact h _ _ _ _ _ _ R2 g3 kp
end
end L2.NSet
set_option Elab.async false
set_option linter.all false
set_option maxRecDepth 100000
set_option maxHeartbeats 4000000
/-! Sorting tuples of which some may be empty. -/
namespace L2.SortT
open PySem PySem.Spec PySem.Calls PyProof.Rows PySem.W PySem.SeqAt
section
variable {P : Program} {w : World} {A : Around} {E : Value → Shared → Prop} {s : Shared}
theorem call_tuple_lt {Q : Value → Shared → Prop} {l b : Addr} {items items2 : Array Value} {e r : Nat → Bool} (hl : s.heap.IsTuple l items) (hb : s.heap.IsTuple b items2)
    (he : ∀ j (h1 : j < items.size) (h2 : j < items2.size), EqAt A.in1 s items[j] items2[j] (e j)) (hr : ∀ j (h1 : j < items.size) (h2 : j < items2.size), e j = false → RcLt A.in1 s items[j] items2[j] (r j))
    (h : Q (.bool (firstLt e r (decide (items.size < items2.size)) (List.range (min items.size items2.size)))) s) : wpAny (model P w) A (call (.builtin "tuple.__lt__") [.ref l, .ref b]) Q E s := by
  obtain ⟨⟨c1, d1, p1, s1⟩, ho1, hc1, n1, hd1⟩ := hl
  obtain ⟨⟨c2, d2, p2, s2⟩, ho2, hc2, n2, hd2⟩ := hb
  simp only at hc1 hd1 hc2 hd2
  subst hc1 hd1 hc2 hd2
  exact call_meets F.slot_tuple_lt ⟨_, ho1, rfl⟩ F.entry_tuple_lt (F.args_tuple_lt_2 _ _) (tuple_ltAt l b items items2 n1 n2 d1 d2 s1 s2 e r) ⟨ho1, ho2, he, hr, h⟩
/-- one tuple against another, as tuples of one type are asked -/
theorem oneLt_tup {xs ys : List PyData} {a b : Value} {as bs : List Addr} {Q : Bool → Shared → Prop} (ra : Reads s.heap a (.tuple xs) as) (rb : Reads s.heap b (.tuple ys) bs) (hal : alikeAll xs ys = true)
    (hu : A.units + min (PyData.tuple xs).depth (PyData.tuple ys).depth < cLine) (hq : Q (dataLt (.tuple xs) (.tuple ys)) s) : wpAny (model P w) A (oneLt' true a b) Q E s := by
  cases ra with
  | @tuple l o vs n _ as1 h1 h2 h3 h4 =>
    cases rb with
    | @tuple l2 o2 vs2 n2 _ bs1 k1 k2 k3 k4 =>
      have z1 : vs.size = xs.length := by simpa using SeqAt.ReadsAll.length _ _ _ h4
      have z2 : vs2.size = ys.length := by simpa using SeqAt.ReadsAll.length _ _ _ k4
      rw [dataLt_tuple, ← firstLt_toks xs ys hal, ← z1, ← z2] at hq
      rw [oneLt'_eq]
      simp only [if_true]
      refine wpAny_bind (wpAny_cRoomFor (SeqAt.room_here hu) ?_)
      refine wpAny_bind (wpAny_callSpecialIfBound?_slot (T := "tuple") ⟨_, h1, h2⟩ F.slot_tuple_lt (call_tuple_lt (e := pairEq xs ys) (r := fun j => dataLt (xs.getD j .none) (ys.getD j .none)) ⟨_, h1, h2, _, h3⟩ ⟨_, k1, k2, _, k3⟩
        (fun j j1 j2 => ?_) (fun j j1 j2 hj => ?_) (wpAny_truthy_bool hq)))
      · have q := eqAt_alikeAll xs ys A.in1 s vs.toList vs2.toList _ _ h4 k4 hal (SeqAt.room_in hu) j (by simpa using j1) (by simpa using j2)
        simpa using q
      · have q := rcLt_alikeAll xs ys A.in1 s vs.toList vs2.toList _ _ h4 k4 hal (SeqAt.room_in hu) j (by simpa using j1) (by simpa using j2) hj
        simpa using q
/-- the first items of tuples -/
inductive Fsts (h : Heap) : List Value → List (Option Value) → Prop
  | nil : Fsts h [] []
  | cons {a : Addr} {o : Obj} {xs : Array Value} {n : Nat} {vs : List Value} {os : List (Option Value)} : h.get? a = some o → o.cls = .type "tuple" → o.data = .seq xs n → Fsts h vs os → Fsts h (.ref a :: vs) (xs[0]? :: os)
theorem fsts_of {h : Heap} : ∀ {vs : List Value} {ds : List PyData}, EachIs (fun v d => ∃ as, Reads h v d as) vs ds → (∀ d ∈ ds, ∃ xs, d = .tuple xs) →
    ∃ os, Fsts h vs os ∧ ((os.all fun o => o.isSome) = true → ∀ d ∈ ds, ∃ x r, d = .tuple (x :: r))
  | [], _, .nil, _ => ⟨[], .nil, fun _ d m => nomatch m⟩
  | v :: vs, d :: ds, .cons r e, ht => by
    obtain ⟨os, f, g⟩ := fsts_of e fun d m => ht d (List.mem_cons_of_mem _ m)
    obtain ⟨xs, rfl⟩ := ht d List.mem_cons_self
    obtain ⟨as, r⟩ := r
    cases r with
    | @tuple _ _ vs2 _ _ _ h1 h2 h3 h4 =>
      refine ⟨_, .cons h1 h2 h3 f, fun al d m => ?_⟩
      rw [List.all_cons, Bool.and_eq_true] at al
      rcases List.mem_cons.mp m with rfl | m
      · have z : vs2.size = xs.length := by simpa using SeqAt.ReadsAll.length _ _ _ h4
        have q : 0 < vs2.size := by
          cases k : vs2.size with
          | zero =>
            have e0 : vs2[0]? = none := Array.getElem?_eq_none (by omega)
            rw [e0] at al
            cases al.1
          | succ n => exact Nat.succ_pos n
        cases xs with
        | nil =>
          rw [List.length_nil] at z
          omega
        | cons x r => exact ⟨x, r, rfl⟩
      · exact g al.2 d m
theorem fsts_ask {M : Model} {A : Around} {E : Value → Shared → Prop} : ∀ {vs : List Value} {os : List (Option Value)} {s : Shared} {Q : List (Option Value) → Shared → Prop}, Fsts s.heap vs os → Q os s → wpAny M A (vs.mapM firstOfTuple') Q E s
  | [], _, s, Q, .nil, h => by
    rw [List.mapM_nil]
    exact wpAny_pure h
  | _ :: vs, _, s, Q, .cons (a := a) (o := o) (os := os) h1 h2 h3 t, h => by
    rw [List.mapM_cons]
    refine wpAny_bind ?_
    rw [kas_first_eq]
    refine wpAny_bind (Looks.here (show Looks M s.heap (typeOf (.ref a)) o.cls from (Looks.ld h1).andThen .now) ?_)
    rw [h2, if_neg (by first | decide | simp)]
    refine wpAny_bind (listItems_at h1 h3 (wpAny_pure ?_))
    exact wpAny_bind (fsts_ask (Q := fun bs s2 => wpAny M A (pure (_ :: bs)) Q E s2) t (wpAny_pure h))
theorem looks_tup {h : Heap} {M : Model} : ∀ {vs : List Value} {os : List (Option Value)}, Fsts h vs os → ∀ v ∈ vs, Looks M h (typeOf v) (.type "tuple")
  | _ :: vs, _, .cons h1 h2 h3 t, v, m => by
    rcases List.mem_cons.mp m with rfl | m
    · rw [← h2]
      exact (Looks.ld h1).andThen .now
    · exact looks_tup t v m
/-- what kind of keys they are, where some are empty -/
theorem fsts_kind {vs : List Value} {os : List (Option Value)} {M : Model} {Q : SortKind → Shared → Prop} (f : Fsts s.heap vs os) (ne : vs ≠ []) (no : (os.all fun o => o.isSome) = false)
    (h : Q (if (os[0]?.bind id).isSome = true then general' else oneType') s) : wpAny M A (keyKind' vs.toArray) Q E s := by
  rw [kat_kind_eq, List.mapM_toArray, map_eq_pure_bind]
  refine wpAny_bind (wpAny_bind (fsts_ask f (wpAny_pure ?_)))
  have e1 : (os.toArray.all fun x => x.isSome) = false := by simpa using no
  rw [e1, if_neg Bool.false_ne_true]
  have e2 : os.toArray[0]? = os[0]? := by simp
  rw [e2]
  cases e3 : (os[0]?.bind id).isSome with
  | true =>
    rw [e3, if_pos rfl] at h
    rw [if_pos rfl]
    exact wpAny_pure h
  | false =>
    rw [e3, if_neg Bool.false_ne_true] at h
    rw [if_neg Bool.false_ne_true]
    rw [oneTypeOnly'_eq, List.mapM_toArray, map_eq_pure_bind]
    refine wpAny_bind (wpAny_bind (wpAny_bind (kas_mapM (r := Value.type "tuple") _ (fun v hv Q2 hq => (looks_tup f v hv).here hq) (wpAny_pure ?_))))
    have al : ((List.map (fun _ => Value.type "tuple") vs).toArray.all fun x => x == Value.type "tuple") = true := by
      simp only [List.all_toArray, List.all_map, List.all_eq_true]
      intro _ _
      exact beq_self_eq_true _
    have h0 : (List.map (fun _ => Value.type "tuple") vs).toArray[0]? = some (Value.type "tuple") := by
      cases vs with
      | nil => exact absurd rfl ne
      | cons v vs => simp
    rw [h0]
    simp only [al, if_true]
    exact wpAny_pure (wpAny_pure h)
/-- tuples that read as alike data can be sorted -/
theorem sorts_tups {vs : List Value} {ds : List PyData} (e : EachIs (fun v d => ∃ as, Reads s.heap v d as) vs ds) (hal : AllAlike ds) (ht : ∀ d ∈ ds, ∃ xs, d = .tuple xs) (hu : ∀ d, d ∈ ds → A.units + d.depth < cLine) :
    SortsAt P w A s (dataKind s.heap ds) vs := by
  obtain ⟨os, f, g⟩ := fsts_of e ht
  cases al : (os.all fun o => o.isSome) with
  | true => exact SortsAt.data e hal (.inl (g al)) hu
  | false =>
    refine ⟨fun v hv => ?_, if (os[0]?.bind id).isSome = true then general' else oneType', ?_, fun h2 E Q hq => ?_⟩
    · obtain ⟨d, hd, as, r⟩ := e.left v hv
      exact ⟨_, dataKind_some hal hd r⟩
    · intro E x y a b Q ha hb hq
      obtain ⟨d, as, hd, ra, rfl⟩ := dataKind_inv ha
      obtain ⟨d2, as2, hd2, rb, rfl⟩ := dataKind_inv hb
      obtain ⟨xs, rfl⟩ := ht d hd
      obtain ⟨ys, rfl⟩ := ht d2 hd2
      have hdd := hal _ hd _ hd2
      have room : A.units + min (PyData.tuple xs).depth (PyData.tuple ys).depth < cLine := Nat.lt_of_le_of_lt (Nat.add_le_add_left (Nat.min_le_left _ _) _) (hu _ hd)
      split
      · show wpAny (model P w) A (oneLt' false x y) Q E s
        exact oneLt_alike (f := false) (fun z => nomatch z) ra rb hdd (fun z => nomatch z) room hq
      · rw [keyLt'_oneType]
        exact oneLt_tup ra rb (by simpa [alike] using hdd) room hq
    · refine fsts_kind f (fun z => ?_) al hq
      rw [z] at h2
      simp at h2
end
end L2.SortT
set_option Elab.async false
set_option linter.all false
set_option maxRecDepth 100000
set_option maxHeartbeats 4000000
/-! Lists and sets of nested data, sorted; sets of tuples as tracked things. -/
namespace L2.NSet
open PySem PySem.Spec PyProof.Rows L2.SortT
section
variable {P : Program} {w : World} {A : Around} {E : Value → Shared → Prop} {s : Shared} {β : Type} {vs : List Value} {bs : List β} {enc : β → PyData} {R : Value → β → Prop}
open PySem.W PySem.SeqAt
/-- what can be sorted: as the library says, or tuples, empty ones too -/
def Srtb (ds : List PyData) : Prop := PySem.W.Sortable ds ∨ ∀ d ∈ ds, ∃ xs, d = .tuple xs
theorem sorts_any {ds : List PyData} (e : EachIs (fun v d => ∃ as, Reads s.heap v d as) vs ds) (hal : AllAlike ds) (hk : Srtb ds) (hu : ∀ d, d ∈ ds → A.units + d.depth < cLine) : SortsAt P w A s (dataKind s.heap ds) vs :=
  hk.elim (fun k => SortsAt.data e hal k hu) fun k => sorts_tups e hal k hu
theorem sorted_any {l : Addr} {Q : Value → Shared → Prop} (hl : s.heap.IsList l vs.toArray) (e : EachIs R vs bs) (er : EachIs (fun v b => ∃ as, Reads s.heap v (enc b) as) vs bs) (hal : AllAlike (bs.map enc)) (hk : Srtb (bs.map enc)) (hL : bs.length ≤ sizeLine)
    (hu : ∀ b, b ∈ bs → A.units + 2 + (enc b).depth < cLine) (h : ∀ out, out.length = bs.length → EachIs R out (bs.mergeSort (dataLe false enc)) → Q (.ref (s.heap.objs.size + 1)) { s with heap := sortedAll s.heap vs (List.toArray out) }) :
    wpAny (model P w) A (call (.builtin "sorted") [.ref l]) Q E s := by
  have er2 : EachIs (fun v b => ∃ as, Reads (sortingHeap (copyHeap s.heap vs) (s.heap.objs.size + 1) vs) v (enc b) as) vs bs := er.mono fun _ _ ⟨as, r⟩ => ⟨as, PyProof.Rows.Reads.keeps (fun _ _ => sorting_copy_old) r⟩
  refine sorted_vals hl (sorts_any (s := { s with heap := sortingHeap (copyHeap s.heap vs) (s.heap.objs.size + 1) vs }) (each_map (R := fun v d => ∃ as, Reads (sortingHeap (copyHeap s.heap vs) (s.heap.objs.size + 1) vs) v d as) enc er2) hal hk (bound_map hu)) ?_
    (h _ ?_ (sortVals_data false e er2 hal))
  · rw [e.length]
    exact hL
  · rw [sortVals_length false rfl]
    exact e.length
theorem list_sort_any2 {a : Addr} {n : Nat} {Q : Value → Shared → Prop} (ho : s.heap.get? a = some (seqObj "list" vs.toArray n)) (e : EachIs R vs bs) (er : EachIs (fun v b => ∃ as, Reads s.heap v (enc b) as ∧ a ∉ as) vs bs) (hal : AllAlike (bs.map enc)) (hk : Srtb (bs.map enc)) (hL : bs.length ≤ sizeLine)
    (hu : ∀ b, b ∈ bs → A.units + 1 + (enc b).depth < cLine) (h : ∀ out, out.length = bs.length → EachIs R out (bs.mergeSort (dataLe false enc)) → Q .none { s with heap := sortedHeap s.heap a vs (List.toArray out) }) :
    wpAny (model P w) A (call (.builtin "list.sort") [.ref a]) Q E s := by
  have er2 : EachIs (fun v b => ∃ as, Reads (sortingHeap s.heap a vs) v (enc b) as) vs bs := each_keepBut (h' := sortingHeap s.heap a vs) (fun _ _ hb q => sortingHeap_old hb q) (fun o q => by rw [ho] at q; rw [← Option.some.inj q]) hal er
  refine wpAny_call_entry slot_list_sort ⟨_, ho, rfl⟩ entry_list_sort (list_sort_vals (κ := dataKind (sortingHeap s.heap a vs) (bs.map enc)) ho (sorts_any (s := { s with heap := sortingHeap s.heap a vs })
    (each_map (R := fun v d => ∃ as, Reads (sortingHeap s.heap a vs) v d as) enc er2) hal hk (bound_map hu)) ?_ ⟨.none, rfl, ?_⟩) (args_list_sort _)
  · rw [e.length]
    exact hL
  · refine h _ ?_ (sortVals_data false e er2 hal)
    rw [sortVals_length false rfl]
    exact e.length
/-- rising -/
def Rise (enc : β → PyData) (l : List β) : Prop := l.Pairwise fun a b => dataLe false enc a b = true
theorem rise_sort (l : List β) : Rise enc (l.mergeSort (dataLe false enc)) := sort_pairwise (sortLe_total _ false _) l
theorem eachIs_mem {α γ : Type} {R : α → γ → Prop} : ∀ {xs : List α} {ys : List γ}, EachIs R xs ys → ∀ y ∈ ys, ∃ x ∈ xs, R x y
  | _, _, .nil, y, m => nomatch m
  | _, _, .cons r e, y, m => by
    rcases List.mem_cons.mp m with rfl | m
    · exact ⟨_, List.mem_cons_self, r⟩
    · obtain ⟨x, mx, rx⟩ := eachIs_mem e y m
      exact ⟨x, List.mem_cons_of_mem _ mx, rx⟩
theorem vals_each : ∀ {xs : List (V × PyData)} {us : List Value}, Vals (xs.map Prod.fst) us → EachIs (fun v (b : V × PyData) => RelV b.1 v) us xs
  | [], _, .nil => .nil
  | _ :: _, _, .cons r t => .cons r (vals_each t)
theorem each_vals : ∀ {xs : List (V × PyData)} {us : List Value}, EachIs (fun v (b : V × PyData) => RelV b.1 v) us xs → Vals (xs.map Prod.fst) us
  | [], _, .nil => .nil
  | _ :: _, _, .cons r t => .cons r (each_vals t)
end
section
variable {X : Cx} {pins : List (Addr × Obj)} {σ : L2.St} {H : Hp} {s : Shared}
open PySem.W
theorem each_reads (I : Inv X pins σ H s) : ∀ {xs : List (V × PyData)} {us : List Value}, (∀ x ∈ xs, Dp X.K H x.1 x.2) → Vals (xs.map Prod.fst) us → EachIs (fun v (b : V × PyData) => ∃ as, Reads s.heap v b.2 as) us xs
  | [], _, _, .nil => .nil
  | x :: xs, _, h, .cons r t => .cons (Dp.reads I x.2 x.1 _ (h x List.mem_cons_self) r) (each_reads I (fun y m => h y (List.mem_cons_of_mem _ m)) t)
/-- sorted(a list of nested data) -/
def rSortD (K : PySem.W.Frag) : List V → Hp → VK → Prop := fun vs H Q => ∃ (a : Addr) (xs : List (V × PyData)), vs = [V.ref a] ∧ SqL K H a (xs.map Prod.fst) ∧ (∀ x ∈ xs, Dp K H x.1 x.2) ∧ AllAlike (xs.map Prod.snd) ∧ Srtb (xs.map Prod.snd) ∧ xs.length ≤ 1000 ∧
  (∀ x ∈ xs, x.2.depth ≤ 40) ∧ ∀ (ys : List (V × PyData)) (p : Addr), ys.Perm xs → Rise Prod.snd ys → H p = none → Q (.ref p) (upd H p (.lst (ys.map Prod.fst)))
theorem cr_sortD (hu : X.A.units + 64 < cLine) : CallR X (.builtin "sorted") (rSortD X.K) := by
  intro pins s σ H vs us Q I r h
  obtain ⟨a, xs, rfl, ha, hd, hal, hk, few, dp, q⟩ := h
  rw [Vals.ref1 r]
  obtain ⟨its, rv, pl, hz⟩ := I.list ha
  have hl : s.heap.IsList a its.toArray := pl.isList
  refine sorted_any (R := fun v (b : V × PyData) => RelV b.1 v) (bs := xs) (enc := Prod.snd) hl (vals_each rv) (each_reads I hd rv) hal hk (Nat.le_trans few (by rw [sizeLine_eq]; decide)) (fun b m => by have := dp b m; omega) fun out lo eo => ?_
  have pm := List.mergeSort_perm xs (dataLe false Prod.snd)
  have hn : H (s.heap.objs.size + 1) = none := I.hok.fresh (Nat.le_succ _)
  have fit : ((xs.mergeSort (dataLe false Prod.snd)).map Prod.fst).length ≤ sizeLine := by
    rw [List.length_map, pm.length_eq, sizeLine_eq]
    omega
  obtain ⟨c, hc⟩ := sortedAll_at s.heap its out.toArray
  refine ⟨.ref (s.heap.objs.size + 1), upd H (s.heap.objs.size + 1) (.lst ((xs.mergeSort (dataLe false Prod.snd)).map Prod.fst)), I.laid (t' := s.toks) (fun b o e => sortedAll_old e) (Nat.le_succ _) ⟨fit, out, c, each_vals eo, hc⟩, rfl, q _ _ pm (rise_sort xs) hn⟩
end
end L2.NSet
set_option Elab.async false
set_option linter.all false
set_option maxRecDepth 100000
set_option maxHeartbeats 4000000
/-! Sets of tuples as tracked things: made of a list or a tuple, sorted. -/
namespace L2.NSet
open PySem PySem.Spec PyProof.Rows L2.SortT PySem.W
/-- the set at a, its members' tuples apart -/
structure Tab0 (P : Program) (w : World) (h : Heap) (a : Addr) (L : List Mem) : Prop where
  ex : ∃ (es : Array (Int × Value)) (ep : Nat) (t : SetTable), (∃ o, h.get? a = some o ∧ o.ExactSet ∧ o.data = .set es ep t) ∧ es.toList = L.map (rowN w) ∧ TabOk t (L.map fun p => p.2.hash w) ∧ (L.map (·.2)).Nodup ∧
    (w.params.followText "set-order" = true ∨ t.led = true) ∧ L.length * 5 < t.mask * 3 ∧ L.length < 64
def SetN (P : Program) (w : World) (a : Addr) (L : List Mem) : HO := .ext fun h => Tab0 P w h a L
section
variable {P : Program} {w : World} {h : Heap} {H : Hp} {a : Addr} {L : List Mem} {es : Array (Int × Value)} {ep : Nat} {t : SetTable}
theorem Tab.t0 (R : Tab P w h a L es ep t) : Tab0 P w h a L := ⟨es, ep, t, R.here, R.rows, R.lay, R.once, R.told, R.free, R.few⟩
theorem Tab0.full (R : Tab0 P w h a L) (each : ∀ p ∈ L, Kb P w h p.2 p.1) : ∃ es ep t, Tab P w h a L es ep t := by
  obtain ⟨es, ep, t, h1, h2, h3, h4, h5, h6, h7⟩ := R.ex
  exact ⟨es, ep, t, h1, h2, h3, h4, each, h5, h6, h7⟩
theorem setN_new (R : Tab0 P w h a L) : ObjOk P w H h a (SetN P w a L) := by
  have ⟨es, ep, t, ⟨o, ho, r⟩, q⟩ := R.ex
  refine ⟨R, ⟨o, ho⟩, fun h1 h2 p k => ?_⟩
  have ⟨es2, ep2, t2, ⟨o2, ho2, r2⟩, q2⟩ := Tab0.ex p
  exact ⟨es2, ep2, t2, ⟨o2, k o2 ho2, r2⟩, q2⟩
theorem refs_vals : ∀ {ks : List Mem} {us : List Value}, Vals (ks.map fun p => V.ref p.1) us → us = ks.map fun p => Value.ref p.1
  | [], _, .nil => rfl
  | p :: ks, _, .cons r t => by
    cases r
    rw [refs_vals t]
    rfl
theorem vals_refs : ∀ (ks : List Mem), Vals (ks.map fun p => V.ref p.1) (ks.map fun p => Value.ref p.1)
  | [] => .nil
  | p :: ks => .cons rfl (vals_refs ks)
theorem perm_lift {α γ : Type} (f : α → γ) : ∀ {vs : List γ} {L : List α}, vs.Perm (L.map f) → ∃ M : List α, M.Perm L ∧ vs = M.map f
  | [], [], pm => ⟨[], List.Perm.refl _, rfl⟩
  | [], x :: L, pm => by
    have e := pm.length_eq
    cases e
  | v :: vs, L, pm => by
    have m : v ∈ L.map f := pm.mem_iff.mp List.mem_cons_self
    obtain ⟨x, mx, rfl⟩ := List.mem_map.mp m
    obtain ⟨l1, l2, rfl⟩ := List.append_of_mem mx
    have q : (f x :: vs).Perm (f x :: (l1 ++ l2).map f) := by
      refine pm.trans ?_
      rw [List.map_append, List.map_cons, List.map_append]
      exact List.perm_middle
    obtain ⟨M, pM, e⟩ := perm_lift f (List.Perm.cons_inv q)
    exact ⟨x :: M, (List.Perm.cons x pM).trans List.perm_middle.symm, by rw [e]; rfl⟩
end
section
variable {X : Cx} {pins : List (Addr × Obj)} {σ : L2.St} {H : Hp} {s : Shared}
mutual
theorem nest_of (I : Inv X pins σ H s) : ∀ (k : NestedKey) (x : V) (v : Value), Dp X.K H x k.data → RelV x v → NestedIs s.heap k v
  | .none, x, v, d, r => by
    cases d
    cases r
    exact .none
  | .num i, x, v, d, r => by
    cases d
    obtain ⟨t, rfl⟩ := r
    exact .int i t
  | .text z, x, v, d, r => by
    cases d
    obtain ⟨t, rfl⟩ := r
    exact .text z t
  | .tup ks, x, v, d, r => by
    have d : Dp X.K H x (.tuple (NestedKey.datas ks)) := d
    cases d with
    | tup hq ha =>
      cases r
      obtain ⟨its, rv, ⟨o, ho, hc, n, hd⟩, _⟩ := I.tuple hq
      exact .tup ho hc hd (by simpa using nests_of I ks _ its ha rv)
theorem nests_of (I : Inv X pins σ H s) : ∀ (ks : List NestedKey) (xs : List V) (us : List Value), DpAll X.K H xs (NestedKey.datas ks) → Vals xs us → NestedAll s.heap ks us
  | [], xs, us, d, r => by
    cases d
    cases r
    exact .nil
  | k :: ks, xs, us, d, r => by
    have d : DpAll X.K H xs (k.data :: NestedKey.datas ks) := d
    cases d with
    | cons d1 d2 =>
      cases r with
      | cons r1 r2 => exact .cons (nest_of I k _ _ d1 r1) (nests_of I ks _ _ d2 r2)
end
/-- a tuple of references that has no dict of its own, as a thing of the heap alone -/
def PTu (a : Addr) (ts : List Addr) : HO := .ext fun h => ∃ o n, h.get? a = some o ∧ o.cls = .type "tuple" ∧ o.dict = none ∧ o.data = .seq (ts.map Value.ref).toArray n
/-- a tuple of pairs of texts -/
def PtOk (H : Hp) (p : Mem) : Prop := ∃ (ts : List Addr) (ks : List (Str × Str)), H p.1 = some (PTu p.1 ts) ∧ p.2 = .tup (ks.map fun q => .tup [.text q.1, .text q.2]) ∧ Paired (fun t (q : Str × Str) => H t = some (.tup [.str q.1, .str q.2])) ts ks
theorem pt_pairs (I : Inv X pins σ H s) : ∀ {ts : List Addr} {ks : List (Str × Str)}, Paired (fun t (q : Str × Str) => H t = some (.tup [.str q.1, .str q.2])) ts ks →
    NestedAll s.heap (ks.map fun q => .tup [.text q.1, .text q.2]) (ts.map Value.ref) ∧ PySem.ReadsAll s.heap (ts.map Value.ref) (NestedKey.datas (ks.map fun q => .tup [.text q.1, .text q.2])) []
  | _, _, .nil => ⟨.nil, .nil⟩
  | _, _, .cons (a := t) (b := q) h r => by
    obtain ⟨its, rv, ⟨o, ho, hc, n, hd⟩, _⟩ := I.tuple (SqT.of h)
    obtain ⟨i1, i2⟩ := pt_pairs I r
    cases rv with
    | cons r1 r2 =>
      cases r2 with
      | cons r2 r3 =>
        cases r3
        obtain ⟨t1, rfl⟩ := r1
        obtain ⟨t2, rfl⟩ := r2
        refine ⟨.cons (.tup ho hc hd (.cons (.text _ _) (.cons (.text _ _) .nil))) i1, .cons (as := []) (bs := []) ?_ i2⟩
        exact .tuple ho hc hd (.cons (as := []) (bs := []) (.str _ _) (.cons (as := []) (bs := []) (.str _ _) .nil))
/-- the member p stands in its tuple -/
def MemOk (K : PySem.W.Frag) (H : Hp) (p : Mem) : Prop := (Dp K H (.ref p.1) p.2.data ∨ PtOk H p) ∧ p.2.depth ≤ 8
theorem pt_both (I : Inv X pins σ H s) {p : Mem} (m : PtOk H p) : NestedIs s.heap p.2 (.ref p.1) ∧ PySem.Reads s.heap (.ref p.1) p.2.data [] := by
  obtain ⟨ts, ks, h, e, pr⟩ := m
  obtain ⟨o, n, ho, hc, hdn, hd⟩ := (show ∃ o n, s.heap.get? p.1 = some o ∧ o.cls = .type "tuple" ∧ o.dict = none ∧ o.data = .seq (ts.map Value.ref).toArray n from (I.hok p.1 _ h).1)
  obtain ⟨i1, i2⟩ := pt_pairs I pr
  rw [e]
  exact ⟨.tup ho hc hd (by simpa using i1), .tuple ho hc hd (by simpa using i2)⟩
theorem kb_of (I : Inv X pins σ H s) {p : Mem} (m : MemOk X.K H p) : Kb X.prog X.w s.heap p.2 p.1 := by
  rcases m.1 with d | d
  · exact ⟨nest_of I p.2 _ _ d rfl, m.2⟩
  · exact ⟨(pt_both I d).1, m.2⟩
/-- set(xs) -/
def rSetN (K : PySem.W.Frag) (P : Program) (w : World) : List V → Hp → VK → Prop := fun xs H Q => ∃ (l : Addr) (ks : List Mem), xs = [V.ref l] ∧ (SqL K H l (ks.map fun p => V.ref p.1) ∨ SqT K H l (ks.map fun p => V.ref p.1)) ∧ (∀ p ∈ ks, MemOk K H p) ∧ ks.length < 64 ∧
  ∀ a L, H a = none → (∀ p ∈ L, p ∈ ks) → (∀ p ∈ ks, p.2 ∈ L.map (·.2)) → (L.map (·.2)).Nodup → Q (.ref a) (upd H a (SetN P w a L))
theorem cr_setN (hc : X.calm = true) (hu : X.A.units + 64 < cLine) : CallR X (.type "set") (rSetN X.K X.prog X.w) := by
  intro pins s σ H xs us Q I r h
  obtain ⟨l, ks, rfl, hl, hk, few, q⟩ := h
  rw [Vals.ref1 r]
  have hn : H s.heap.objs.size = none := I.hok.fresh (Nat.le_refl _)
  have fin : ∀ (h2 : Heap) (tk : Nat) L es ep t, Tab X.prog X.w h2 s.heap.objs.size L es ep t → In ks ks.length L → (∀ b o, s.heap.get? b = some o → h2.get? b = some o) →
      ∃ y H2, Inv X pins σ H2 { s with heap := h2, toks := tk } ∧ RelV y (.ref s.heap.objs.size) ∧ Q y H2 := fun h2 tk L es ep t R g k =>
    ⟨.ref s.heap.objs.size, upd H s.heap.objs.size (SetN X.prog X.w s.heap.objs.size L), I.laid (t' := tk) k (Nat.le_refl _) (setN_new R.t0), rfl,
      q _ L hn (fun p m => List.mem_of_mem_take (g.from_ p m)) (fun p m => g.to_ p (by rw [List.take_length]; exact m)) R.once⟩
  rcases hl with hl | hl
  · obtain ⟨its, rv, pl, hz⟩ := I.list hl
    exact call_set_list (P := X.prog) (w := X.w) ks (I.ok.hd hc) pl.isList (by simpa using refs_vals rv) (fun p m => kb_of I (hk p m)) few (by omega) fin
  · obtain ⟨its, rv, ⟨o, ho, hcl, n, hd⟩, hz⟩ := I.tuple hl
    exact call_set_tuple (P := X.prog) (w := X.w) ks (I.ok.hd hc) ⟨o, ho, hcl, n, hd⟩ (by simpa using refs_vals rv) (fun p m => kb_of I (hk p m)) few (by omega) fin
/-- sorted(a set of tuples) -/
def rSortN (K : PySem.W.Frag) (P : Program) (w : World) : List V → Hp → VK → Prop := fun vs H Q => ∃ (a : Addr) (L : List Mem), vs = [V.ref a] ∧ H a = some (SetN P w a L) ∧ (∀ p ∈ L, MemOk K H p) ∧ AllAlike (L.map fun p => p.2.data) ∧
  (∀ p ∈ L, ∃ ks, p.2 = .tup ks) ∧ (∀ p ∈ L, p.2.data.depth ≤ 40) ∧ ∀ (M : List Mem) (p : Addr), M.Perm L → Rise (fun p : Mem => p.2.data) M → H p = none → Q (.ref p) (upd H p (.lst (M.map fun p => V.ref p.1)))
mutual
theorem reads_nest {h : Heap} : ∀ (k : NestedKey) (v : Value) (as : List Addr), PySem.Reads h v k.data as → as = []
  | .none, _, _, x => by
    cases x
    rfl
  | .num i, _, _, x => by
    cases x
    rfl
  | .text z, _, _, x => by
    cases x
    rfl
  | .tup ks, _, _, x => by
    have x : PySem.Reads h _ (.tuple (NestedKey.datas ks)) _ := x
    cases x with
    | tuple h1 h2 h3 h4 => exact reads_nests ks _ _ h4
theorem reads_nests {h : Heap} : ∀ (ks : List NestedKey) (vs : List Value) (as : List Addr), PySem.ReadsAll h vs (NestedKey.datas ks) as → as = []
  | [], _, _, x => by
    cases x
    rfl
  | k :: ks, _, _, x => by
    have x : PySem.ReadsAll h _ (k.data :: NestedKey.datas ks) _ := x
    cases x with
    | cons x1 x2 => rw [reads_nest k _ _ x1, reads_nests ks _ _ x2]; rfl
end
theorem each_mem2 (I : Inv X pins σ H s) {h2 : Heap} (k : ∀ b o, s.heap.get? b = some o → h2.get? b = some o) (a : Addr) : ∀ {M : List Mem}, (∀ p ∈ M, MemOk X.K H p) →
    EachIs (fun v (p : Mem) => ∃ as, PySem.Reads h2 v p.2.data as ∧ a ∉ as) (M.map fun p => Value.ref p.1) M
  | [], _ => .nil
  | p :: M, h => by
    obtain ⟨as, r⟩ : ∃ as, PySem.Reads s.heap (.ref p.1) p.2.data as := (h p List.mem_cons_self).1.elim (fun d => Dp.reads I p.2.data (.ref p.1) (.ref p.1) d rfl) fun d => ⟨[], (pt_both I d).2⟩
    have r2 := PyProof.Rows.Reads.keeps k r
    refine .cons ⟨as, r2, ?_⟩ (each_mem2 I k a fun q m => h q (List.mem_cons_of_mem _ m))
    rw [reads_nest p.2 _ _ r2]
    simp
theorem each_ref : ∀ M : List Mem, EachIs (fun v (p : Mem) => v = Value.ref p.1) (M.map fun p => Value.ref p.1) M
  | [] => .nil
  | p :: M => .cons rfl (each_ref M)
theorem ref_each : ∀ {M : List Mem} {out : List Value}, EachIs (fun v (p : Mem) => v = Value.ref p.1) out M → out = M.map fun p => Value.ref p.1
  | [], _, .nil => rfl
  | p :: M, _, .cons r e => by rw [r, ref_each e]; rfl
theorem cr_sortN (hc : X.calm = true) (hu : X.A.units + 64 < cLine) : CallR X (.builtin "sorted") (rSortN X.K X.prog X.w) := by
  intro pins s σ H vs us Q I r h
  obtain ⟨a, L, rfl, ha, hk, hal, htup, dp, q⟩ := h
  have R0 : Tab0 X.prog X.w s.heap a L := (I.hok a _ ha).1
  obtain ⟨es, ep, t, R⟩ := R0.full fun p m => kb_of I (hk p m)
  rw [Vals.ref1 r]
  obtain ⟨o, ho, ox, od⟩ := R.here
  have few := R.few
  refine Calls.call_function_entry kind_sorted plain_sorted entry_sorted (args_sorted1 _) ?_
  unfold Builtin.«sorted»
  refine wpAny_bind (m := checkCount "sorted" 1 1 _) (wpAny_pure (wpAny_bind (collect_set (A := X.A.in1) (I.ok.hd hc) ⟨o, ho, ox.1, od⟩ R.fits (by rw [R.size]; unfold scanBound; omega) R.lay.ris R.told fun s1 vs k1 z1 g1 o1 pm => ?_)))
  have hes : es.toList.map (·.2) = L.map fun p => Value.ref p.1 := by
    rw [R.rows, List.map_map]
    rfl
  rw [hes] at pm
  obtain ⟨M, pM, rfl⟩ := perm_lift _ pm
  have lM : M.length < 64 := by rw [pM.length_eq]; exact few
  refine wpAny_bind (wpAny_newList ?_ (by rw [List.length_map, sizeLine_eq]; omega))
  have at1 : (s1.heap.push (seqObj "list" (M.map fun p => Value.ref p.1).toArray 0)).get? s1.heap.objs.size = some (seqObj "list" (M.map fun p => Value.ref p.1).toArray 0) := Heap.get?_push_size _ rfl
  have mk : ∀ p ∈ M, MemOk X.K H p := fun p m => hk p (pM.mem_iff.mp m)
  have alM : AllAlike (M.map fun p => p.2.data) := fun d hd d2 hd2 => hal d ((pM.map _).mem_iff.mp hd) d2 ((pM.map _).mem_iff.mp hd2)
  refine wpAny_bind (wpAny_holding (list_sort_any2 (R := fun v (p : Mem) => v = Value.ref p.1) (enc := fun p : Mem => p.2.data) (bs := M) at1 (each_ref M) (each_mem2 I (fun b u e => Heap.get?_push_of_some _ (k1 b u e)) _ mk) alM (.inr fun d hd => ?_) (by rw [sizeLine_eq]; omega) (fun p m => ?_) fun out lo eo => ?_))
  · obtain ⟨p, mp, rfl⟩ := List.mem_map.mp hd
    obtain ⟨ks, e⟩ := htup p (pM.mem_iff.mp mp)
    exact ⟨_, by rw [e]; rfl⟩
  · have := dp p (pM.mem_iff.mp m)
    show X.A.units + 1 + 1 + _ < cLine
    omega
  · have eO := ref_each eo
    obtain ⟨c, hc2⟩ := sortedHeap_at (vs := M.map fun p => Value.ref p.1) (out := out.toArray) at1
    generalize hS : M.mergeSort (dataLe false fun p : Mem => p.2.data) = S at eO
    have pS : S.Perm M := by rw [← hS]; exact List.mergeSort_perm _ _
    have rS : Rise (fun p : Mem => p.2.data) S := by rw [← hS]; exact rise_sort M
    have hp : s.heap.objs.size ≤ s1.heap.objs.size := z1
    have hn : H s1.heap.objs.size = none := I.hok.fresh hp
    have old : ∀ b u, s.heap.get? b = some u → (sortedHeap (s1.heap.push (seqObj "list" (M.map fun p => Value.ref p.1).toArray 0)) s1.heap.objs.size (M.map fun p => Value.ref p.1) out.toArray).get? b = some u := fun b u e => by
      have q := k1 b u e
      have lt := Heap.lt_size q
      exact (sortedHeap_old (Nat.ne_of_lt lt) (by rw [size_push']; exact Nat.lt_succ_of_lt lt)).trans (Heap.get?_push_of_some _ q)
    have fit : (S.map fun p => V.ref p.1).length ≤ sizeLine := by rw [List.length_map, pS.length_eq, sizeLine_eq]; omega
    have J : Inv X pins σ (upd H s1.heap.objs.size (.lst (S.map fun p => V.ref p.1))) { s with heap := sortedHeap (s1.heap.push (seqObj "list" (M.map fun p => Value.ref p.1).toArray 0)) s1.heap.objs.size (M.map fun p => Value.ref p.1) out.toArray, gens := s1.gens, drawn := s1.drawn, toks := s1.toks } :=
      I.call (ch := []) (Un.laid old hp hn) (I.hok.laid old hp ⟨fit, out, c, by rw [eO]; exact vals_refs S, hc2⟩) (by rw [g1]; exact I.bare) fun _ z => nomatch z
    refine wpAny_pure ⟨_, rfl, ⟨.ref s1.heap.objs.size, _, ?_, rfl, q S s1.heap.objs.size (pS.trans pM) rS hn⟩⟩
    have e : ({ s1 with heap := sortedHeap (s1.heap.push (seqObj "list" (M.map fun p => Value.ref p.1).toArray 0)) s1.heap.objs.size (M.map fun p => Value.ref p.1) out.toArray } : Shared) = { s with heap := sortedHeap (s1.heap.push (seqObj "list" (M.map fun p => Value.ref p.1).toArray 0)) s1.heap.objs.size (M.map fun p => Value.ref p.1) out.toArray, gens := s1.gens, drawn := s1.drawn, toks := s1.toks } := by
      cases s1
      cases s
      cases o1
      rfl
    rw [e]
    exact J
end
end L2.NSet
set_option Elab.async false
set_option linter.all false
set_option maxRecDepth 100000
set_option maxHeartbeats 4000000
/-! Sets of tuples by comprehension. -/
namespace L2.NSet
open PySem PySem.Spec PyProof.Rows L2.Cmp
section
variable {X : Cx}
/-- a.add(x), x a tuple -/
theorem add_tup {P : Program} {w : World} {A : Around} {E : Value → Shared → Prop} {s : Shared} {a : Addr} {L : List Mem} {es : Array (Int × Value)} {ep : Nat} {t : SetTable} (R : Tab P w s.heap a L es ep t) {x : Addr} {k : NestedKey} (hx : Kb P w s.heap k x)
    (hu : A.units + 20 < cLine) (few : L.length + 1 < 64) {Q : Value → Shared → Prop}
    (hQ : ∀ tk h2 L2 es2 ep2 t2, Heap.SameBut a s.heap h2 → Tab P w h2 a L2 es2 ep2 t2 → (k ∈ L.map (·.2) → L2 = L) → (k ∉ L.map (·.2) → L2.Perm ((x, k) :: L)) → Q .none { s with heap := h2, toks := tk }) :
    wpAny (model P w) A (call (.builtin "set.add") [.ref a, .ref x]) Q E s := by
  have ty : s.TypeIs (.ref a) "set" := by
    obtain ⟨o, ho, ox, _⟩ := R.here
    exact ⟨o, ho, ox.1⟩
  refine wpAny_call_entry F.slot_set_add ty F.entry_set_add ?_ (F.args_set_add_2 _ _)
  unfold Builtin.«set.add» Builtin.Frozenset.oneOther Builtin.Frozenset.addrOf setAdd
  simp only [List.isEmpty_nil, bind_assoc]
  refine wpAny_bind (wpAny_pure (wpAny_bind (wpAny_pure (wpAny_bind (wpAny_holding (wpAny_bind ((nestedKind P w).pyHash (show A.units + 1 + 8 < cLine by omega) hx ?_)))))))
  exact lay (s := { s with toks := s.toks + k.draws }) R hx (show A.units + 1 + 8 < cLine by omega) few fun b h2 L2 es2 ep2 t2 sb R2 c1 c2 => wpAny_pure ⟨_, rfl, hQ _ h2 L2 es2 ep2 t2 sb R2 c1 c2⟩
/-- a tuple into the set at D -/
def tAdN (K : PySem.W.Frag) (P : Program) (w : World) (te : TE) (D : Addr) : TAc := fun σ H C => te σ H fun y H1 => ∃ (p : Mem) (L : List Mem), y = .ref p.1 ∧ H1 D = some (SetN P w D L) ∧ (∀ q ∈ L, MemOk K H1 q) ∧ MemOk K H1 p ∧ L.length + 1 < 64 ∧
  ∀ L2, (p.2 ∈ L.map (·.2) → L2 = L) → (p.2 ∉ L.map (·.2) → L2.Perm (p :: L)) → C (upd H1 D (SetN P w D L2))
def tSetN (K : PySem.W.Frag) (P : Program) (w : World) (wi : TI) (g : TG) (tt : TT) (te : TE) (vs : List Nat) : TE := fun σ H Q => wi σ H fun J H1 => ∀ D, H1 D = none → L2.Cmp.Walk J g tt (tAdN K P w te D) vs σ (fun H => Q (.ref D) H) (upd H1 D (SetN P w D []))
theorem emit_tup {B : Cx} (hx : B.xe = nil2) (hu : B.A.units + 64 < cLine) {elt : Expr} {te : TE} (he : PE B elt te) {D : Addr} : ∀ (pl : List (Addr × Obj)) s σ H C, Inv B pl σ H s → tAdN B.K B.prog B.w te D σ H C →
    wpAny (model B.prog B.w) B.A (do let v ← eval elt B.env; standAt elt.pos; let _ ← call (.builtin "set.add") [.ref D, v]) (fun _ s' => ∃ H', Inv B pl σ H' s' ∧ C H') nil2 s := by
  intro pl s σ H C I q
  have a1 := he.run pl s σ H _ I q
  rw [hx] at a1
  refine wpAny_bind (thnF a1 fun v s1 ⟨y, H1, I1, r1, p, L, ey, hD, hL, hp, few, c⟩ => wpAny_bind (wpAny_standAt (wpAny_bind ?_)))
  subst ey
  cases r1
  have R0 : Tab0 B.prog B.w s1.heap D L := (I1.hok D _ hD).1
  obtain ⟨es, ep, t, R⟩ := R0.full fun p m => kb_of I1 (hL p m)
  refine add_tup R (kb_of I1 hp) (by omega) few fun tk h2 L2 es2 ep2 t2 sb R2 c1 c2 => wpAny_pure ⟨_, ?_, c L2 c1 c2⟩
  have N := setN_new (P := B.prog) (w := B.w) (H := upd H1 D (SetN B.prog B.w D L2)) R2.t0
  exact I1.write (e := D) (t' := tk) (by rw [hD]; trivial) (.inl rfl) (fun b o hb ho => (sb.2 b hb).trans ho) (by obtain ⟨o, ho, _⟩ := R2.here; exact ⟨o, ho⟩) (setN_new R2.t0)
variable {elt tg iter : Expr} {ifs : List Expr} {scope : Scope} {own : List (PySem.Str × Nat)} {pos : Pos} {wi : TI} {g : TG} {tt : TT} {te : TE}
theorem pe_setN {K : PySem.W.Frag} {P : Program} {w : World} (eK : X.K = K) (eP : X.prog = P) (ew : X.w = w) (hc : X.calm = true) (hu : X.A.units + 64 < cLine) (hN : X.N.Nodup) (hi : PI X tg iter wi) (ok : BlkOk X.N X.env.scope scope own)
    (hg : ∀ (s : Shared) (H : Hp) (C : Addr) (cl : List (PySem.Str × Addr)) (fp : List Addr), PG (X.blk s H scope (compEnvC scope cl C X.env) fp) tg g) (ht : ∀ (s : Shared) (H : Hp) (C : Addr) (cl : List (PySem.Str × Addr)) (fp : List Addr), PTs (X.blk s H scope (compEnvC scope cl C X.env) fp) ifs tt)
    (he : ∀ (s : Shared) (H : Hp) (C : Addr) (cl : List (PySem.Str × Addr)) (fp : List Addr), PE (X.blk s H scope (compEnvC scope cl C X.env) fp) elt te) (hs : ∀ x, foldedSetIterable iter X.env x = pure x := by intro _; rfl) :
    PE X (.SetComp elt [⟨tg, iter, ifs, 0⟩] scope pos) (tSetN K P w wi g tt te (own.map (·.2))) := by
  subst eK eP ew
  refine ⟨fun pins s σ H Q I h => ?_⟩
  rw [PpSet.eval_SetComp]
  refine block_any (Q := Q) (Rd := fun J D H1 => L2.Cmp.Walk J g tt (tAdN X.K X.prog X.w te D) (own.map fun z : PySem.Str × Nat => z.2) σ (fun H => Q (.ref D) H) H1) (emp := fun D => SetN X.prog X.w D []) (.inl ⟨_, _, _, _, rfl⟩) rfl (fun q => PpSet.newSet_ok q)
    (fun I1 _ => setN_new (Tab.new (Heap.get?_push_size _ rfl)).t0) hc hN I hi ok hs h
    (fun s3 H3 C cl fp it tn J D s4 T stat I4 st4 nfp rd => ?_) fun D C s' m H' I' q hn f => ⟨m, hn, fun h'' sb => ?_⟩
  · exact clause_ok (B := X.blk s3 H3 scope (compEnvC scope cl C X.env) fp) (tail := tailIn _ _) (p := iter.pos) (.inl ⟨_, _, _, _, rfl⟩) rfl rfl rfl hc T (hg s3 H3 C cl fp) (ht s3 H3 C cl fp) stat (act_in (emit_tup (B := X.blk s3 H3 scope (compEnvC scope cl C X.env) fp) rfl hu (he s3 H3 C cl fp))) rfl
      (fun s' H' I' d => ⟨H', I', d⟩) rd I4 st4 nfp
  · obtain ⟨f0, f1, f2, f3, f4, f5⟩ := f
    exact ⟨.ref D, H', I'.turned (t' := s'.toks) (fun b o hb e => (sb.2 b hb).trans e) f0 f1 f3 f4 f5, rfl, q⟩
end
end L2.NSet
set_option Elab.async false
set_option linter.all false
set_option maxRecDepth 100000
set_option maxHeartbeats 4000000
/-! Dict comprehensions with one `for` whose keys are tuples. -/
namespace L2.Cmp
open PySem PySem.Spec PyProof.Rows
theorem d_dictSetT {X : Cx} {pins : List (Addr × Obj)} {σ : List (Option V)} {H : Hp} {s : Shared} {E : Value → Shared → Prop} {D b : Addr} {kvs : List (List L2.Key × V)} {k : List L2.Key} {v : V} {r : Value} {Q : Unit → Shared → Prop} (hu : X.A.units + 1 < cLine) (I : Inv X pins σ H s)
    (e : H D = some (.dT kvs)) (eb : H b = some (.tup (k.map kV))) (l : kvs.length < sizeLine) (rv : RelV v r) (h : ∀ s', Inv X pins σ (upd H D (.dT (putK kvs k v))) s' → Q () s') : wpAny (model X.prog X.w) X.A (dictSet D (.ref b) r) Q E s := by
  obtain ⟨z, hd, xs, rel, dd⟩ := dt_of I.hok e
  have hz : xs.length ≤ sizeLine := by rw [← Paired.length rel]; exact z
  have hl : (putK kvs k v).length ≤ sizeLine := by have := length_putK kvs k v; omega
  refine wpAny_dictSet_heap (hsz := hz) (show (tupleKind (mixKind X.prog X.w)).room X.A from ?_) (key_of I.hok eb) dd fun h' dd' hs => h _ ?_
  · exact Nat.lt_of_succ_lt hu
  · obtain ⟨q, es, ep, hq, h2, h3, h4, _, h5⟩ := dd'
    refine d_write I (by rw [e]; exact True.intro) hs ⟨q, hq⟩ ⟨hl, hd, _, (rel.put k eb rv).keeps fun c ys ec => ?_, q, es, ep, hq, h2, h3, h4, h5⟩
    rw [upd_ne (ne_of ec e (fun z => nomatch z))]
    exact ec
def tPutT (tk tv : TE) (D : Addr) : TAc := fun σ H C => tk σ H fun y H1 => tv σ H1 fun x H2 => ∃ (kvs : List (List L2.Key × V)) (k : List L2.Key) (b : Addr), y = .ref b ∧ H2 b = some (.tup (k.map kV)) ∧ H2 D = some (.dT kvs) ∧ kvs.length < sizeLine ∧ C (upd H2 D (.dT (putK kvs k x)))
def tDictT (wi : TI) (g : TG) (tt : TT) (tk tv : TE) (vs : List Nat) : TE := fun σ H Q => wi σ H fun J H1 => ∀ D, H1 D = none → Walk J g tt (tPutT tk tv D) vs σ (fun H => Q (.ref D) H) (upd H1 D (.dT []))
section
variable {X : Cx} {kx vx tg iter : Expr} {ifs : List Expr} {scope : Scope} {own : List (PySem.Str × Nat)} {pos : Pos} {wi : TI} {g : TG} {tt : TT} {tk tv : TE}
theorem emit_putT {B : Cx} (hx : B.xe = nil2) (hu : B.A.units + 1 < cLine) (hk : PE B kx tk) (hv : PE B vx tv) {D : Addr} {p : Pos} : ∀ (pl : List (Addr × Obj)) s σ H C, Inv B pl σ H s → tPutT tk tv D σ H C →
    wpAny (model B.prog B.w) B.A (do let kv ← eval kx B.env; let vv ← holding [kv] (eval vx B.env); standAt p; holding [kv, vv] (dictSet D kv vv)) (fun _ s' => ∃ H', Inv B pl σ H' s' ∧ C H') nil2 s := by
  intro pl s σ H C I q
  have a1 := hk.run pl s σ H _ I q
  rw [hx] at a1
  refine wpAny_bind (thnF a1 fun kv s1 ⟨y, H1, I1, r1, q1⟩ => ?_)
  have a2 := hv.run pl s1 σ H1 _ I1 q1
  rw [hx] at a2
  refine wpAny_bind (wpAny_holding (thnF a2 fun vv s2 ⟨x, H2, I2, r2, kvs, k, b, ey, eb, hD, few, c⟩ => ?_))
  subst ey
  cases r1
  exact wpAny_bind (wpAny_standAt (wpAny_holding (d_dictSetT hu I2 hD eb few r2 fun s3 I3 => ⟨_, I3, c⟩)))
theorem pe_dictT (hc : X.calm = true) (hu : X.A.units + 1 < cLine) (hN : X.N.Nodup) (hi : PI X tg iter wi) (ok : BlkOk X.N X.env.scope scope own)
    (hg : ∀ (s : Shared) (H : Hp) (C : Addr) (cl : List (PySem.Str × Addr)) (fp : List Addr), PG (X.blk s H scope (compEnvC scope cl C X.env) fp) tg g) (ht : ∀ (s : Shared) (H : Hp) (C : Addr) (cl : List (PySem.Str × Addr)) (fp : List Addr), PTs (X.blk s H scope (compEnvC scope cl C X.env) fp) ifs tt)
    (hk : ∀ (s : Shared) (H : Hp) (C : Addr) (cl : List (PySem.Str × Addr)) (fp : List Addr), PE (X.blk s H scope (compEnvC scope cl C X.env) fp) kx tk) (he : ∀ (s : Shared) (H : Hp) (C : Addr) (cl : List (PySem.Str × Addr)) (fp : List Addr), PE (X.blk s H scope (compEnvC scope cl C X.env) fp) vx tv)
    (hs : ∀ x, foldedSetIterable iter X.env x = pure x := by intro _; rfl) :
    PE X (.DictComp kx vx [⟨tg, iter, ifs, 0⟩] scope pos) (tDictT wi g tt tk tv (own.map (·.2))) := by
  refine ⟨fun pins s σ H Q I h => ?_⟩
  rw [arm_eval_DictComp]
  refine block_any (Q := Q) (Rd := fun J D H1 => Walk J g tt (tPutT tk tv D) (own.map fun z : PySem.Str × Nat => z.2) σ (fun H => Q (.ref D) H) H1) (emp := fun _ => .dT []) (.inr (.inr ⟨_, _, _, _, _, rfl⟩)) rfl
    (fun q => wpAny_newObj_type q) (fun I' H' => dt_empty _ I'.big) hc hN I hi ok hs h
    (fun s3 H3 C cl fp it tn J D s4 T stat I4 st4 nfp rd => ?_) fun D C s' m H' I' q hn f => ⟨m, hn, fun h'' sb => ?_⟩
  · exact clause_ok (B := X.blk s3 H3 scope (compEnvC scope cl C X.env) fp) (tail := tailIn _ _) (p := iter.pos) (.inr (.inr ⟨_, _, _, _, _, rfl⟩)) rfl rfl rfl hc T (hg s3 H3 C cl fp) (ht s3 H3 C cl fp) stat
      (act_in (emit_putT (B := X.blk s3 H3 scope (compEnvC scope cl C X.env) fp) rfl hu (hk s3 H3 C cl fp) (he s3 H3 C cl fp))) rfl (fun s' H' I' d => ⟨H', I', d⟩) rd I4 st4 nfp
  · obtain ⟨f0, f1, f2, f3, f4, f5⟩ := f
    exact ⟨.ref D, H', I'.turned (t' := s'.toks) (fun b o hb e => (sb.2 b hb).trans e) f0 f1 f3 f4 f5, rfl, q⟩
end
end L2.Cmp
set_option Elab.async false
set_option linter.all false
set_option maxRecDepth 100000
set_option maxHeartbeats 4000000
/-! Store made of facts. -/
namespace L2.LawH
open PySem PySem.Spec PyProof.Rows L2.NSet PySem.W
abbrev sInitS : Stmt := inClass (top 19) 0
/-- a fact as a member of a set, and as a key -/
def ptM (x : Pt) : Mem := (x.1, .tup (.text x.2.1 :: x.2.2.map .text))
def ptK (x : Pt) : List L2.Key := (Sum.inr x.2.1 : L2.Key) :: x.2.2.map Sum.inr
def ptV (x : Pt) : List V := .str x.2.1 :: x.2.2.map V.str
theorem ptK_V (x : Pt) : (ptK x).map kV = ptV x := by
  unfold ptK ptV
  rw [List.map_cons, List.map_map]
  rfl
theorem cr_setNK {X : Cx} {K : PySem.W.Frag} {P : Program} {w : World} (eK : X.K = K) (eP : X.prog = P) (ew : X.w = w) (hc : X.calm = true) (hu : X.A.units + 64 < cLine) : CallR X (.type "set") (rSetN K P w) := by
  subst eK eP ew
  exact cr_setN hc hu
theorem cr_sortNK {X : Cx} {K : PySem.W.Frag} {P : Program} {w : World} (eK : X.K = K) (eP : X.prog = P) (ew : X.w = w) (hc : X.calm = true) (hu : X.A.units + 64 < cLine) : CallR X (.builtin "sorted") (rSortN K P w) := by
  subst eK eP ew
  exact cr_sortN hc hu
theorem ptK_inj {x y : Pt} (h : ptK x = ptK y) : x.2 = y.2 := by
  unfold ptK at h
  injection h with h1 h2
  refine Prod.ext (Sum.inr.inj h1) ?_
  exact List.map_inj_right (fun a b e => Sum.inr.inj e) |>.mp h2
theorem ptM_inj {x y : Pt} (h : (ptM x).2 = (ptM y).2) : x.2 = y.2 := by
  unfold ptM at h
  injection h with h
  injection h with h1 h2
  injection h1 with h1
  exact Prod.ext h1 (List.map_inj_right (fun a b e => by injection e) |>.mp h2)
theorem lift_sub {α β : Type} (f : α → β) {xs : List α} : ∀ {M : List β}, (∀ p ∈ M, p ∈ xs.map f) → ∃ Ms : List α, M = Ms.map f ∧ ∀ x ∈ Ms, x ∈ xs
  | [], _ => ⟨[], rfl, fun x h => nomatch h⟩
  | p :: M, h => by
    obtain ⟨Ms, e, g⟩ := lift_sub f (M := M) fun q hq => h q (List.mem_cons_of_mem _ hq)
    obtain ⟨x, hx, ex⟩ := List.mem_map.mp (h p List.mem_cons_self)
    exact ⟨x :: Ms, by rw [List.map_cons, ex, e], fun y hy => (List.mem_cons.mp hy).elim (fun e => by rw [e]; exact hx) (g y)⟩
theorem valV_out {κ : Type} [DecidableEq κ] {kvs : List (κ × V)} {k : κ} (h : k ∉ kvs.map (·.1)) : valV kvs k = none := by
  cases e : valV kvs k with
  | none => rfl
  | some v =>
    have a := valV_any k kvs
    rw [e] at a
    obtain ⟨kv, m, d⟩ := List.any_eq_true.mp a
    exact absurd (List.mem_map.mpr ⟨kv, m, of_decide_eq_true d⟩) h
theorem datas_text : ∀ zs : List Str, NestedKey.datas (zs.map NestedKey.text) = zs.map PyData.str
  | [] => by simp [NestedKey.datas]
  | z :: zs => by
    rw [List.map_cons, List.map_cons, NestedKey.datas, datas_text zs]
    simp [NestedKey.data]
theorem data_ptM (x : Pt) : (ptM x).2.data = .tuple ((x.2.1 :: x.2.2).map PyData.str) := by
  unfold ptM
  rw [← List.map_cons, NestedKey.data, datas_text]
theorem alike_texts : ∀ a b : List Str, alikeAll (a.map PyData.str) (b.map PyData.str) = true
  | [], _ => by simp [alikeAll]
  | _ :: _, [] => by simp [alikeAll]
  | a :: as, b :: bs => by
    rw [List.map_cons, List.map_cons, alikeAll, alike_texts as bs]
    simp [alike]
theorem alike_ptM (x y : Pt) : alike (ptM x).2.data (ptM y).2.data = true := by
  rw [data_ptM, data_ptM, alike]
  exact alike_texts _ _
theorem ddepth_texts : ∀ a : List Str, PyData.depthAll (a.map PyData.str) = 0
  | [] => by simp [PyData.depthAll]
  | a :: as => by
    rw [List.map_cons, PyData.depthAll, ddepth_texts as]
    simp [PyData.depth]
theorem ddepth_ptM (x : Pt) : (ptM x).2.data.depth ≤ 1 := by
  rw [data_ptM, PyData.depth, ddepth_texts]
  exact Nat.le_refl _
theorem kdepth_texts : ∀ a : List Str, NestedKey.depthAll (a.map NestedKey.text) = 0
  | [] => by simp [NestedKey.depthAll]
  | a :: as => by
    rw [List.map_cons, NestedKey.depthAll, kdepth_texts as]
    simp [NestedKey.depth]
theorem kdepth_ptM (x : Pt) : (ptM x).2.depth ≤ 1 := by
  unfold ptM
  rw [← List.map_cons, NestedKey.depth, kdepth_texts]
  exact Nat.le_refl _
theorem dp_texts {K : PySem.W.Frag} {H : Hp} : ∀ zs : List Str, DpAll K H (zs.map V.str) (zs.map PyData.str)
  | [] => .nil
  | z :: zs => .cons (.str z) (dp_texts zs)
theorem memOk_pt {K : PySem.W.Frag} {H : Hp} {x : Pt} (h : H x.1 = some (.tup (ptV x))) : MemOk K H (ptM x) := by
  refine ⟨.inl ?_, Nat.le_trans (kdepth_ptM x) (by decide)⟩
  rw [data_ptM]
  exact .tup (SqT.of h) (dp_texts (x.2.1 :: x.2.2))
/-- a for over a list or a tuple -/
theorem for_seq {K : PySem.W.Frag} {q : Addr} {xs : List V} {g : TG} {tb : TS} {D : Ends} {σ : St} {H : Hp} (hq : SqL K H q xs ∨ SqT K H q xs) (Pv : Nat → St → Hp → Prop) (h0 : Pv 0 σ H) (st : ∀ i σ H', Pv i σ H' → Ext H H')
    (hs : ∀ i x σ H', xs[i]? = some x → Pv i σ H' → g x σ H' fun σ2 H2 => tb { D with nx := Pv (i + 1), ct := Pv (i + 1), bk := D.nx } σ2 H2) (hd : ∀ σ H, Pv xs.length σ H → D.nx σ H) :
    ((∃ xs, SqL K H q xs) ∧ ∃ W : Nat → Nat → St → Hp → Prop, (∃ m, W 0 m σ H) ∧ ∀ i m σ H, W i m σ H →
      ((Itl K q).stop i H ∧ D.nx σ H) ∨ ((Itl K q).go i H ∧ ∃ N : St → Hp → Prop, (∀ σ' H', N σ' H' → ∃ m', m' < m ∧ W (i + 1) m' σ' H') ∧ ∀ x H', (Itl K q).yld i H x H' → g x σ H' fun σ2 H2 => tb { D with nx := N, ct := N, bk := D.nx } σ2 H2)) ∨
    ((∃ xs, SqT K H q xs) ∧ ∃ W : Nat → Nat → St → Hp → Prop, (∃ m, W 0 m σ H) ∧ ∀ i m σ H, W i m σ H →
      ((Itt K q).stop i H ∧ D.nx σ H) ∨ ((Itt K q).go i H ∧ ∃ N : St → Hp → Prop, (∀ σ' H', N σ' H' → ∃ m', m' < m ∧ W (i + 1) m' σ' H') ∧ ∀ x H', (Itt K q).yld i H x H' → g x σ H' fun σ2 H2 => tb { D with nx := N, ct := N, bk := D.nx } σ2 H2)) :=
  hq.elim
    (fun e => .inl ⟨⟨_, e⟩, for_it (L2.walk_list (K := K)) Pv h0 (fun i σ H' _ p => e.ext (st i σ H' p)) (fun i x σ H' H'' _ p y => by obtain ⟨rfl, hx⟩ := y; exact hs i x σ _ hx p) hd⟩)
    (fun e => .inr ⟨⟨_, e⟩, for_it (L2.walk_tup (K := K)) Pv h0 (fun i σ H' _ p => e.ext (st i σ H' p)) (fun i x σ H' H'' _ p y => by obtain ⟨rfl, hx⟩ := y; exact hs i x σ _ hx p) hd⟩)
/-- the fields of a Store -/
abbrev fsS (t d : Addr) : List (Str × V) := putF "_groups" .non (putF "_held" (.ref d) (putF "_facts" (.ref t) []))
def spInitS (C : Addr) (K : PySem.W.Frag) : Sp := fun vs H Q _ => ∃ (p q dx : Addr) (xs : List Pt), vs = [.ref p, .ref q] ∧ H p = some (.ins C dx []) ∧ (SqL K H q (xs.map fun x => V.ref x.1) ∨ SqT K H q (xs.map fun x => V.ref x.1)) ∧
  (∀ x ∈ xs, H x.1 = some (.tup (ptV x)) ∧ factB (ptV x) = true ∧ x.2.2.length ≤ 3 ∧ ∀ y ∈ ptV x, Okv K H y) ∧ xs.length < 63 ∧
  ∀ (H' : Hp) (t d : Addr) (M : List Pt), (∀ b o, b ≠ p → H b = some o → H' b = some o) → H' p = some (.ins C dx (fsS t d)) → H' t = some (.tup (M.map fun x => V.ref x.1)) → H t = none → H d = none →
    H' d = some (.dT (M.map fun x => (ptK x, V.bl true))) → (∀ x ∈ M, x ∈ xs) → (∀ x ∈ xs, x.2 ∈ M.map (·.2)) → (M.map (·.2)).Nodup → Rise (fun x : Pt => (ptM x).2.data) M → Q .non H'
structure StT (K : PySem.W.Frag) (mg : Str → Option Value) (C : Addr) : Prop where
  cl : Cls K C
  nF : NoAttr K C "_facts"
  nH : NoAttr K C "_held"
  nG : NoAttr K C "_groups"
section
variable {P : Program} {w : World} {K : PySem.W.Frag} {mg : Str → Option Value} {base : Heap}
abbrev nIS : List Str := ["self", "facts", "value", "fact"]
theorem scIS : FnScope nIS ["self", "facts"] (defScope sInitS) := ⟨rfl, rfl, rfl, by decide +kernel, rfl, by decide +kernel, by decide +kernel⟩
theorem ok_initS {f fF C : Addr} {fd fdF : FuncData} {T1 : V} (F : FunD K "__init__" "Store.__init__" (defArgs sInitS) (defBody sInitS) (defScope sInitS) [T1] [] f fd) (T : StT K mg C)
    (GF : FnOk P w K mg base CX0 4 fF fdF ["value"] (spIsP K factB)) (kF : PySem.W.keepIn K (.ref fF) = true) (bF : Binds K fdF ["value"] []) (mF : mg "is_fact" = some (.ref fF))
    (ms : mg "sorted" = none) (mt : mg "tuple" = none) (mS : mg "set" = none) :
    FnOk P w K mg base CX0 5 f fd ["self", "facts"] (spInitS C K) := by
  refine F.ok scIS (fun vs H Q E h => ?_) (fun cdv A outer s H vs Q E hr h => ?_)
  · obtain ⟨p, q, dx, xs, rfl, _⟩ := h
    rfl
  · obtain ⟨p, q, dx, xs, rfl, hp, hq, each, few, k⟩ := h
    have hu := hr.units
    have hu1 := hu_of hr
    refine ⟨_, PSs.nox (pss_cons (ps_for PassesOwn.never rfl (pi_seq (pv 1)) (pg_name (i := 2) scIS.nd rfl (Or.inl rfl))
        (pss_one (ps_if (pt_not (pt_val (pe_call GF hr (by rfl) mF kF bF .nil pass0 (pa_cons (pv 2) pa_nil)))) (pss_one ps_never) pss_nil)))
      (pss_cons (ps_fld (pv 0) (pe_callTy call_tuple_of (by rfl) mt (by decide +kernel) (pa_cons (pe_callB (cr_sortNK (K := K) (P := P) (w := w) rfl rfl rfl rfl hu) (by rfl) ms (by decide +kernel) (pa_cons (pe_callTy (cr_setNK (K := K) (P := P) (w := w) rfl rfl rfl rfl hu) (by rfl) mS (by decide +kernel) (pa_cons (pv 1) pa_nil)) pa_nil)) pa_nil)) rfl)
      (pss_cons (ps_fld (pv 0) (Cmp.pe_dictT (own := [("fact", 3)]) (g := gName 3) (tt := tYes) rfl hu1 scIS.nd (pi_tup (pe_fld (pv 0) rfl))
        (blkOk_by (own := [("fact", 3)]) (N := nIS) (sc := defScope sInitS) (by decide +kernel)) (fun _ _ _ _ _ => pg_name (i := 3) scIS.nd rfl (Or.inl rfl)) (fun _ _ _ _ _ => pts_nil)
        (fun _ _ _ _ _ => pv 3) (fun _ _ _ _ _ => pe_bl)) rfl)
      (pss_one (ps_fld (pv 0) pe_non rfl))))), ?_⟩
    refine ⟨_, rfl, q, rfl, for_seq hq (fun i σ H5 => ∃ v2 : Option V, σ = [some (.ref p), some (.ref q), v2, none] ∧ Same H H5) ⟨none, rfl, fun _ _ h => h⟩ (fun i σ H5 p => let ⟨_, _, s⟩ := p; s) (fun i z σ H5 hz pp => ?_) (fun σ H5 pp => ?_)⟩
    · obtain ⟨v2, rfl, s5⟩ := pp
      rw [List.getElem?_map] at hz
      obtain ⟨x, hx, rfl⟩ := Option.map_eq_some_iff.mp hz
      obtain ⟨e1, e2, e3, e4⟩ := each x (List.mem_of_getElem? hx)
      refine ⟨_, rfl, .ref x.1, rfl, .inl ⟨x.1, ptV x, rfl, s5 _ _ e1, ?_, fun y hy => (e4 y hy).same s5, fun H6 s6 => ?_⟩⟩
      · unfold ptV
        rw [List.length_cons, List.length_map]
        omega
      · rw [e2]
        exact ⟨true, rfl, iteF ⟨_, rfl, fun b o h => s6 _ _ (s5 _ _ h)⟩⟩
    · obtain ⟨v2, rfl, s5⟩ := pp
      have each5 : ∀ x ∈ xs, H5 x.1 = some (.tup (ptV x)) := fun x hx => s5 _ _ (each x hx).1
      have em : (xs.map ptM).map (fun z : Mem => V.ref z.1) = xs.map fun x => V.ref x.1 := by
        rw [List.map_map]
        rfl
      refine ⟨_, rfl, q, xs.map ptM, rfl, ?_, fun z hz => ?_, by rw [List.length_map]; omega, fun sa L ns sub all nd => ?_⟩
      · rw [em]
        exact hq.imp (fun e => e.ext s5) fun e => e.ext s5
      · obtain ⟨x, hx, rfl⟩ := List.mem_map.mp hz
        exact memOk_pt (each5 x hx)
      have s6 : Same H5 (upd H5 sa (SetN P w sa L)) := same_new ns
      have h6 : (upd H5 sa (SetN P w sa L)) sa = some (SetN P w sa L) := upd_same
      generalize upd H5 sa (SetN P w sa L) = H6 at s6 h6 ⊢
      refine ⟨sa, L, rfl, h6, fun z hz => ?_, fun d hd d2 hd2 => ?_, fun z hz => ?_, fun z hz => ?_, fun M l pM rM nl => ?_⟩
      · obtain ⟨x, hx, rfl⟩ := List.mem_map.mp (sub z hz)
        exact memOk_pt (s6 _ _ (each5 x hx))
      · obtain ⟨z, hz, rfl⟩ := List.mem_map.mp hd
        obtain ⟨z2, hz2, rfl⟩ := List.mem_map.mp hd2
        obtain ⟨x, hx, rfl⟩ := List.mem_map.mp (sub z hz)
        obtain ⟨x2, hx2, rfl⟩ := List.mem_map.mp (sub z2 hz2)
        exact alike_ptM x x2
      · obtain ⟨x, hx, rfl⟩ := List.mem_map.mp (sub z hz)
        exact ⟨_, rfl⟩
      · obtain ⟨x, hx, rfl⟩ := List.mem_map.mp (sub z hz)
        exact Nat.le_trans (ddepth_ptM x) (by decide)
      obtain ⟨Ms, rfl, subM⟩ := lift_sub ptM (xs := xs) (M := M) fun z hz => sub z (pM.mem_iff.mp hz)
      have ndM : (Ms.map (·.2)).Nodup := by
        have h := ((pM.map (·.2)).nodup_iff).mpr nd
        rw [List.map_map, List.Nodup, List.pairwise_map] at h
        rw [List.Nodup, List.pairwise_map]
        exact List.Pairwise.imp (fun {a b} h e => h (by show (ptM a).2 = (ptM b).2; unfold ptM; rw [show a.2.1 = b.2.1 by rw [e], show a.2.2 = b.2.2 by rw [e]])) h
      have rise : Rise (fun x : Pt => (ptM x).2.data) Ms := List.pairwise_map.mp rM
      have allM : ∀ x ∈ xs, x.2 ∈ Ms.map (·.2) := fun x hx => by
        obtain ⟨z, hz, e⟩ := List.mem_map.mp (all (ptM x) (List.mem_map.mpr ⟨x, hx, rfl⟩))
        obtain ⟨y, hy, rfl⟩ := List.mem_map.mp (pM.mem_iff.mpr hz)
        exact List.mem_map.mpr ⟨y, hy, ptM_inj e⟩
      have few2 : Ms.length ≤ 63 := by
        have := nodup_len (Ms.map (·.2)) (xs.map (·.2)) ndM fun c hc => by
          obtain ⟨y, hy, rfl⟩ := List.mem_map.mp hc
          exact List.mem_map.mpr ⟨y, subM y hy, rfl⟩
        rw [List.length_map, List.length_map] at this
        omega
      rw [List.map_map]
      refine ⟨l, _, rfl, .inl ⟨SqL.of upd_same, fun t nt => ?_⟩⟩
      have s7 : Same H5 (upd (upd H6 l (.lst (Ms.map ((fun z : Mem => V.ref z.1) ∘ ptM)))) t (.tup (Ms.map ((fun z : Mem => V.ref z.1) ∘ ptM)))) := fun b o h => same_new nt _ _ (same_new nl _ _ (s6 _ _ h))
      have h7 : (upd (upd H6 l (.lst (Ms.map ((fun z : Mem => V.ref z.1) ∘ ptM)))) t (.tup (Ms.map ((fun z : Mem => V.ref z.1) ∘ ptM)))) t = some (.tup (Ms.map fun x => V.ref x.1)) := upd_same
      generalize upd (upd H6 l (.lst (Ms.map ((fun z : Mem => V.ref z.1) ∘ ptM)))) t (.tup (Ms.map ((fun z : Mem => V.ref z.1) ∘ ptM))) = H7 at s7 h7 ⊢
      have pt : p ≠ t := fun e => by
        have h := s5 _ _ hp
        rw [← e] at nt
        rw [same_new nl _ _ (s6 _ _ h)] at nt
        cases nt
      have hp7 := s7 _ _ (s5 _ _ hp)
      refine ⟨_, rfl, p, C, dx, [], rfl, hp7, T.cl, T.nF, (by show 0 < 1000; decide), ?_⟩
      -- the dict
      have a1 : (upd H7 p (.ins C dx (putF "_facts" (.ref t) []))) p = some (.ins C dx (putF "_facts" (.ref t) [])) := upd_same
      have a2 : ∀ b o, b ≠ p → H7 b = some o → (upd H7 p (.ins C dx (putF "_facts" (.ref t) []))) b = some o := fun b o nb h => by
        rw [upd_ne nb]
        exact h
      have a3 := a2 _ _ (Ne.symm pt) h7
      have eachM : ∀ x ∈ Ms, (upd H7 p (.ins C dx (putF "_facts" (.ref t) []))) x.1 = some (.tup (ptV x)) := fun x hx => by
        refine a2 _ _ (fun e => ?_) (s7 _ _ (each5 x (subM x hx)))
        have h := each5 x (subM x hx)
        rw [e, s5 _ _ hp] at h
        cases h
      have ntH : H t = none := by
        cases h : H t with
        | none => rfl
        | some o => rw [same_new nl _ _ (s6 _ _ (s5 _ _ h))] at nt; cases nt
      generalize hH8 : upd H7 p (.ins C dx (putF "_facts" (.ref t) [])) = H8 at a1 a2 a3 eachM ⊢
      refine ⟨_, rfl, p, C, dx, _, .ref t, rfl, a1, T.cl, T.nF, rfl, t, rfl, ⟨_, SqT.of a3⟩, fun D nD => ?_⟩
      refine walk_tup (xs := Ms.map fun x => V.ref x.1) _ _ _ _ _ _ _ (fun i H9 => H9 D = some (.dT ((Ms.take i).map fun x => (ptK x, V.bl true))) ∧ Same H8 H9) ⟨upd_same, same_new nD⟩ (fun i H9 hi p => SqT.of (p.2 _ _ a3)) (fun i z H9 hz pp => ?_) (fun H9 pp => ?_)
      · obtain ⟨b1, b2⟩ := pp
        rw [List.getElem?_map] at hz
        obtain ⟨x, hx, rfl⟩ := Option.map_eq_some_iff.mp hz
        have mx : x ∈ Ms := List.mem_of_getElem? hx
        refine ⟨rfl, ?_⟩
        dsimp only [tYes]
        rw [if_pos rfl]
        have tk1 : Ms.take (i + 1) = Ms.take i ++ [x] := by
          rw [List.take_succ, hx]
          rfl
        have fresh : ptK x ∉ ((Ms.take i).map fun x => (ptK x, V.bl true)).map (·.1) := fun h => by
          rw [List.map_map] at h
          obtain ⟨y, hy, e⟩ := List.mem_map.mp h
          have nd2 : ((Ms.take (i + 1)).map (·.2)).Nodup := ((List.take_sublist (i + 1) Ms).map _).nodup ndM
          rw [tk1, List.map_append, List.nodup_append] at nd2
          exact nd2.2.2 _ (List.mem_map.mpr ⟨y, hy, rfl⟩) _ (by simp) (ptK_inj e)
        refine ⟨_, rfl, _, ptK x, x.1, rfl, by rw [ptK_V]; exact b2 _ _ (eachM x mx), b1, ?_, ?_, fun b o h => ?_⟩
        · rw [List.length_map, List.length_take, sizeLine_eq]
          omega
        · rw [upd_same, putK_new _ (valV_out fresh), tk1, List.map_append]
          rfl
        · rw [upd_ne (ne_of_none h nD)]
          exact b2 _ _ h
      · obtain ⟨b1, b2⟩ := pp
        rw [List.length_map, List.take_length] at b1
        have Dp' : D ≠ p := fun e => by
          rw [e, a1] at nD
          cases nD
        refine ⟨_, rfl, p, C, dx, _, rfl, b2 _ _ a1, T.cl, T.nH, (by show 1 < 1000; decide), ?_⟩
        refine ⟨_, rfl, p, C, dx, _, rfl, upd_same, T.cl, T.nG, (by show 2 < 1000; decide), ?_⟩
        refine k _ t D Ms (fun b o nb h => ?_) upd_same ?_ ntH ?_ ?_ subM allM ndM rise
        · rw [upd_ne nb, upd_ne nb]
          exact b2 _ _ (a2 _ _ nb (s7 _ _ (s5 _ _ h)))
        · rw [upd_ne (Ne.symm pt), upd_ne (Ne.symm pt)]
          exact b2 _ _ a3
        · cases h : H D with
          | none => rfl
          | some o =>
            by_cases e : D = p
            · exact absurd e Dp'
            · rw [a2 _ _ e (s7 _ _ (s5 _ _ h))] at nD
              cases nD
        · rw [upd_ne Dp', upd_ne Dp']
          exact b1
end
end L2.LawH
set_option Elab.async false
set_option linter.all false
set_option maxRecDepth 100000
set_option maxHeartbeats 4000000
/-! Dicts of texts to texts: their items, sorted; a dict of a tuple of pairs. -/
namespace L2.TxtDict
open PySem PySem.Spec PyProof.Rows L2.NSet L2.DX PySem.W
abbrev Prs2 : Type := List (Str × Str)
/-- the entries -/
def kd (m : Prs2) : List (Key × V) := m.map fun p => ((Sum.inr p.1 : Key), V.str p.2)
theorem kd_get {m : Prs2} {j : Nat} {e : Str × Str} (h : m[j]? = some e) : (kd m)[j]? = some (Sum.inr e.1, V.str e.2) := by
  unfold kd
  rw [List.getElem?_map, h]
  rfl
theorem kd_len (m : Prs2) : (kd m).length = m.length := List.length_map ..
section
variable {X : Cx}
/-- d.items() -/
def rItemsK : V → List V → Hp → VK → Prop := fun x xs H Q => ∃ (a : Addr) (kvs : List (Key × V)), x = .ref a ∧ xs = [] ∧ H a = some (.dK kvs) ∧ ∀ p, H p = none → Q (.ref p) (upd H p (itemsO p a))
theorem mt_itemsK : MtR X "dict.items" rItemsK := by
  intro pins s σ H x xs v us Q I rx rxs h
  obtain ⟨a, kvs, rfl, rfl, ha, q⟩ := h
  cases rx
  cases rxs
  obtain ⟨z, hd, vs, rel, o, es, ep, ho, hx, hdat, _⟩ := dk_of I.hok ha
  refine DT.callItems (es := es) (ep := ep) hd ⟨o, ho, hx, hdat⟩ ?_
  exact ⟨.ref s.heap.objs.size, upd H s.heap.objs.size (itemsO s.heap.objs.size a), I.laid (t' := s.toks) (fun b u e => Heap.get?_push_of_some _ e) (Nat.le_refl _) (itemsO_ok (Heap.get?_push_size _ rfl)), rfl, q _ (I.hok.fresh (Nat.le_refl _))⟩
/-- a pair as data -/
def pairD (z : Addr × Str × Str) : PyData := .tuple [.str z.2.1, .str z.2.2]
theorem pairs_alike {α : Type} (f : α → Str × Str) (l : List α) : AllAlike (l.map fun z => PyData.tuple [.str (f z).1, .str (f z).2]) := fun d hd d2 hd2 => by
  obtain ⟨x, _, rfl⟩ := List.mem_map.mp hd
  obtain ⟨y, _, rfl⟩ := List.mem_map.mp hd2
  simp [alike, alikeAll]
/-- sorted(d.items()) -/
def rSortIK : List V → Hp → VK → Prop := fun vs H Q => ∃ (p a : Addr) (m : Prs2), vs = [.ref p] ∧ H p = some (itemsO p a) ∧ H a = some (.dK (kd m)) ∧ m.length < 64 ∧
  ∀ (H' : Hp) (l : Addr) (ps : List (Addr × Str × Str)), (∀ b o, H b = some o → H' b = some o) → H l = none → (ps.map (·.2)).Perm m → Rise pairD ps → H' l = some (.lst (ps.map fun z => V.ref z.1)) →
    (∀ z ∈ ps, H z.1 = none ∧ H' z.1 = some (.tup [.str z.2.1, .str z.2.2])) → Q (.ref l) H'
theorem vals_ref1 : ∀ (ps : List (Addr × Str × Str)), Vals (ps.map fun z => V.ref z.1) (ps.map fun z => Value.ref z.1)
  | [] => .nil
  | _ :: r => .cons rfl (vals_ref1 r)
theorem ref_out : ∀ {ps : List (Addr × Str × Str)} {out : List Value}, EachIs (fun v (z : Addr × Str × Str) => v = Value.ref z.1) out ps → out = ps.map fun z => Value.ref z.1
  | [], _, .nil => rfl
  | _ :: _, _, .cons r e => by rw [r, ref_out e]; rfl
theorem ref_in : ∀ (as : List Addr) (m : Prs2), as.length = m.length → EachIs (fun v (z : Addr × Str × Str) => v = Value.ref z.1) (as.map Value.ref) (as.zip m)
  | [], [], _ => .nil
  | [], _ :: _, h => by cases h
  | _ :: _, [], h => by cases h
  | a :: as, p :: m, h => .cons rfl (ref_in as m (Nat.succ.inj h))
theorem reads_in {h2 : Heap} {L : Addr} : ∀ (as : List Addr) (m : Prs2), as.length = m.length → (∀ (j : Nat) (b : Addr) (e : Str × Str), as[j]? = some b → m[j]? = some e → ∃ t u, h2.get? b = some { cls := .type "tuple", data := .seq #[.str e.1 t, .str e.2 u] }) →
    EachIs (fun v (z : Addr × Str × Str) => ∃ bs, PySem.Reads h2 v (pairD z) bs ∧ L ∉ bs) (as.map Value.ref) (as.zip m)
  | [], [], _, _ => .nil
  | [], _ :: _, h, _ => by cases h
  | _ :: _, [], h, _ => by cases h
  | a :: as, p :: m, h, k => by
    refine .cons ?_ (reads_in as m (Nat.succ.inj h) fun j b e h1 h2 => k (j + 1) b e h1 h2)
    obtain ⟨t, u, g⟩ := k 0 a p rfl rfl
    exact ⟨[], .tuple g rfl rfl (.cons (as := []) (bs := []) (.str _ _) (.cons (as := []) (bs := []) (.str _ _) .nil)), by simp⟩
theorem cr_sortedIK (hc : X.calm = true) (hu : X.A.units + 64 < cLine) : CallR X (.builtin "sorted") rSortIK := by
  intro pins s σ H xs us Q I r h
  obtain ⟨p, a, m, rfl, hp, ha, few, q⟩ := h
  obtain rfl := Vals.ref1 r
  have view : s.heap.IsItemsView p a := (show ObjOk X.prog X.w H s.heap p (itemsO p a) from I.hok p _ hp).1
  obtain ⟨z, hd, vs, rel, dof⟩ := dk_of I.hok ha
  obtain ⟨es, ep, raw, sz, ent⟩ := PySem.Heap.DictOf.raw dof
  have lv : vs.length = m.length := by rw [← kd_len m]; exact (Paired.length rel).symm
  refine DT.sortedI (es := es) (ep := ep) (I.ok.hd hc) view raw (by rw [sz, lv, sizeLine_eq]; omega) fun h' tk as hk hlt hl hG => ?_
  have la : as.length = m.length := by rw [hl, sz, lv]
  have nd : as.Nodup := List.Pairwise.imp (fun h => Nat.ne_of_lt h) hG.rise
  have pr : ∀ (j : Nat) (b : Addr) (e : Str × Str), as[j]? = some b → m[j]? = some e → ∃ t u, h'.get? b = some { cls := .type "tuple", data := .seq #[.str e.1 t, .str e.2 u] } := fun j b e hj he => by
    obtain ⟨en, hen, hg⟩ := hG.pairs j b hj
    obtain ⟨hi, rfl⟩ := Array.getElem?_eq_some_iff.mp hen
    obtain ⟨x, hx, rx⟩ := kv_get rel (kd_get he)
    obtain ⟨k1, k2⟩ := ent j hi _ _ hx
    have rk : RelV (kV (Sum.inr e.1)) es[j].key := relV_key (show keyIs (Sum.inr e.1) es[j].key = true from k1)
    obtain ⟨t, ek⟩ := rk
    obtain ⟨u, eu⟩ := rx
    rw [ek, k2, eu] at hg
    exact ⟨t, u, hg⟩
  have hob : (h'.push { cls := .type "list", data := .seq (as.map Value.ref).toArray }).get? h'.objs.size = some (seqObj "list" (as.map Value.ref).toArray 0) := Heap.get?_push_size _ rfl
  have kb : ∀ b o, s.heap.get? b = some o → (h'.push { cls := .type "list", data := .seq (as.map Value.ref).toArray }).get? b = some o := fun b o e => Heap.get?_push_of_some _ (hk b o e)
  have ka : ∀ b o, h'.get? b = some o → (h'.push { cls := .type "list", data := .seq (as.map Value.ref).toArray }).get? b = some o := fun b o e => Heap.get?_push_of_some _ e
  have ne0 : ∀ b o, h'.get? b = some o → b ≠ h'.objs.size := fun b o e => Nat.ne_of_lt (Heap.lt_size e)
  generalize h'.push { cls := .type "list", data := .seq (as.map Value.ref).toArray } = h2 at hob kb ka ⊢
  refine list_sort_any2 (s := { s with heap := h2, toks := tk }) (R := fun v (z : Addr × Str × Str) => v = Value.ref z.1) (enc := pairD) (bs := as.zip m) hob (ref_in as m la) (reads_in as m la fun j b e h1 h2' => ?_) (pairs_alike (fun z : Addr × Str × Str => z.2) _) (.inr fun d hd => ?_)
    (by rw [List.length_zip, sizeLine_eq]; omega) (fun b _ => ?_) fun out lo eo => ?_
  · obtain ⟨t, u, g⟩ := pr j b e h1 h2'
    exact ⟨t, u, ka _ _ g⟩
  · obtain ⟨x, _, rfl⟩ := List.mem_map.mp hd
    exact ⟨_, rfl⟩
  · show X.A.units + 1 + 1 + (PyData.tuple [.str b.2.1, .str b.2.2]).depth < cLine
    have e : (PyData.tuple [.str b.2.1, .str b.2.2]).depth = 1 := by simp [PyData.depth, PyData.depthAll]
    rw [e]
    omega
  · generalize hS : (as.zip m).mergeSort (dataLe false pairD) = S at eo
    have pS : S.Perm (as.zip m) := by rw [← hS]; exact List.mergeSort_perm _ _
    have rS : Rise pairD S := by rw [← hS]; exact rise_sort _
    have eO := ref_out eo
    have pm : (S.map (·.2)).Perm m := by
      have e := pS.map (·.2)
      have m2 : (as.zip m).map (·.2) = m := List.map_snd_zip (by rw [la]; exact Nat.le_refl _)
      rwa [m2] at e
    have idx : ∀ z ∈ S, ∃ j : Nat, as[j]? = some z.1 ∧ m[j]? = some z.2 := fun z hz => by
      obtain ⟨j, hj⟩ := List.mem_iff_getElem?.mp (pS.mem_iff.mp hz)
      exact ⟨j, List.getElem?_zip_eq_some.mp hj⟩
    have kF : ∀ b o, b ≠ h'.objs.size → h2.get? b = some o → (sortedHeap h2 h'.objs.size (as.map Value.ref) (List.toArray out)).get? b = some o := fun b o hb e => (PyProof.Rows.sortedHeap_old hb (Heap.lt_size e)).trans e
    have kS : ∀ b o, s.heap.get? b = some o → (sortedHeap h2 h'.objs.size (as.map Value.ref) (List.toArray out)).get? b = some o := fun b o e => kF b o (ne0 _ _ (hk b o e)) (kb b o e)
    obtain ⟨eF, heF⟩ := PyProof.Rows.sortedHeap_at (vs := as.map Value.ref) (out := List.toArray out) hob
    have I1 : Inv X pins σ H { s with heap := sortedHeap h2 h'.objs.size (as.map Value.ref) (List.toArray out), toks := tk } := I.kept (t' := tk) kS
    have hn0 : H h'.objs.size = none := I.hok.fresh (Nat.le_of_lt hlt)
    have len : (S.map fun z => V.ref z.1).length ≤ sizeLine := by
      have e := pm.length_eq
      rw [List.length_map] at e
      rw [List.length_map, sizeLine_eq]
      omega
    have I2 : Inv X pins σ (upd H h'.objs.size (.lst (S.map fun z => V.ref z.1))) { s with heap := sortedHeap h2 h'.objs.size (as.map Value.ref) (List.toArray out), toks := tk } :=
      I1.take (h' := sortedHeap h2 h'.objs.size (as.map Value.ref) (List.toArray out)) (t' := tk) (fun b ob _ e => e) (I.fpOk (Nat.le_of_lt hlt) hn0) ⟨len, out, eF, by rw [eO]; exact vals_ref1 S, heF⟩
    obtain ⟨H2, I3, g, qt⟩ := takeT (P := fun b vs => ∃ (j : Nat) (e : Str × Str), as[j]? = some b ∧ m[j]? = some e ∧ vs = [.str e.1, .str e.2]) I as _ I2 nd fun b hb => by
      obtain ⟨j, hj⟩ := List.mem_iff_getElem?.mp hb
      have jl : j < m.length := by
        have := (List.getElem?_eq_some_iff.mp hj).1
        omega
      obtain ⟨t, u, hg⟩ := pr j b m[j] hj (List.getElem?_eq_getElem jl)
      have bl : s.heap.objs.size ≤ b := Nat.le_of_lt (hG.above b hb)
      refine ⟨bl, ?_, [.str m[j].1, .str m[j].2], ⟨j, m[j], hj, List.getElem?_eq_getElem jl, rfl⟩, fun H3 => ⟨(by rw [sizeLine_eq]; show 2 ≤ 16777216; omega), [Value.str m[j].1 t, Value.str m[j].2 u], .cons ⟨t, rfl⟩ (.cons ⟨u, rfl⟩ .nil), ⟨_, kF _ _ (ne0 _ _ hg) (ka _ _ hg), rfl, 0, rfl⟩⟩⟩
      rw [upd_ne (ne0 _ _ hg)]
      exact I.hok.fresh bl
    have gr : ∀ b o, H b = some o → H2 b = some o := fun b o e => g b o (by rw [upd_ne (ne_of_none e hn0)]; exact e)
    refine ⟨.ref h'.objs.size, H2, I3, rfl, q H2 h'.objs.size S gr hn0 pm rS (g _ _ upd_same) fun z hz => ?_⟩
    obtain ⟨i, i1, i2⟩ := idx z hz
    obtain ⟨vs2, ⟨j, e, j1, j2, ev⟩, hH⟩ := qt z.1 (List.mem_of_getElem? i1)
    have eij : i = j := (List.getElem?_inj (List.getElem?_eq_some_iff.mp i1).1 nd).mp (i1.trans j1.symm)
    subst eij
    have ee : e = z.2 := Option.some.inj (j2.symm.trans i2)
    rw [ev, ee] at hH
    exact ⟨I.hok.fresh (Nat.le_of_lt (hG.above _ (List.mem_of_getElem? i1))), hH⟩
/-- dict(ps), ps a tuple or a list of pairs -/
theorem dict_pairs_tup {A : Around} {E : Value → Shared → Prop} {s : Shared} {P : Program} {w : World} : True := trivial
end
end L2.TxtDict
set_option Elab.async false
set_option linter.all false
set_option maxRecDepth 100000
set_option maxHeartbeats 4000000
/-! tuple(pairs) as a plain tuple; dict(a tuple of pairs). -/
namespace L2.TxtDict
open PySem PySem.Spec PyProof.Rows L2.NSet L2.DX PySem.W
section
variable {X : Cx}
def rTupPT (K : PySem.W.Frag) : List V → Hp → VK → Prop := fun xs H Q => ∃ (p : Addr) (ts : List Addr), xs = [V.ref p] ∧ SqL K H p (ts.map V.ref) ∧ ∀ l, H l = none → Q (.ref l) (upd H l (PTu l ts))
theorem call_tuplePT : CallR X (.type "tuple") (rTupPT X.K) := by
  intro pins s σ H xs us Q I r h
  obtain ⟨p, ts, rfl, hq, q⟩ := h
  rw [Vals.ref1 r]
  obtain ⟨its, r', pl, hz⟩ := I.list hq
  have ei := refs_at r'
  subst ei
  refine call_tuple_list pl.isList (fun h' kp => ?_) (by have := hz; simp only [List.size_toArray, List.length_map] at this ⊢; omega)
  have I1 : Inv X pins σ H { s with heap := h' } := I.kept (t' := s.toks) kp
  have ok : ObjOk X.prog X.w (upd H h'.objs.size (PTu h'.objs.size ts)) (h'.push { cls := .type "tuple", data := .seq (ts.map Value.ref).toArray }) h'.objs.size (PTu h'.objs.size ts) :=
    ⟨⟨_, 0, Heap.get?_push_size _ rfl, rfl, rfl, rfl⟩, ⟨_, Heap.get?_push_size _ rfl⟩, fun h1 h2 x k => let ⟨o, n, ho, r⟩ := x; ⟨o, n, k o ho, r⟩⟩
  exact ⟨.ref h'.objs.size, _, I1.laid (t' := s.toks) (fun b o e => Heap.get?_push_of_some _ e) (Nat.le_refl _) ok, rfl, q _ (I1.hok.fresh (Nat.le_refl _))⟩
theorem pairs_raw {pins : List (Addr × Obj)} {σ : L2.St} {H : Hp} {s : Shared} (I : Inv X pins σ H s) : ∀ {ts : List Addr} {m : Prs2}, Paired (fun t (q : Str × Str) => H t = some (.tup [.str q.1, .str q.2])) ts m →
    ∃ (ps : List (Value × Value)) (prs : List (Key × Value)), ps.length = ts.length ∧ prs.length = ts.length ∧ KV (kd m) prs ∧
      ∀ (j : Nat) (k v : Value), ps[j]? = some (k, v) → ∃ (key : Key) (b : Addr), prs[j]? = some (key, v) ∧ (mixKind X.prog X.w).is key k = true ∧ ts[j]? = some b ∧ s.heap.IsTuple b #[k, v]
  | _, _, .nil => ⟨[], [], rfl, rfl, .nil, fun j k v e => by simp at e⟩
  | _, _, .cons (a := t) (b := q) h r => by
    obtain ⟨ps, prs, l1, l2, kv, g⟩ := pairs_raw I r
    obtain ⟨its, rv, pl, _⟩ := I.tuple (SqT.of h)
    obtain ⟨u, y, rfl, ru, ry⟩ := vals2 rv
    refine ⟨(u, y) :: ps, (Sum.inr q.1, y) :: prs, by rw [List.length_cons, List.length_cons, l1], by rw [List.length_cons, List.length_cons, l2], .cons ⟨rfl, ry⟩ kv, fun j k v e => ?_⟩
    cases j with
    | zero =>
      have e2 : (u, y) = (k, v) := Option.some.inj e
      cases e2
      exact ⟨Sum.inr q.1, t, rfl, kV_is (P := X.prog) (w := X.w) (k := Sum.inr q.1) ru, rfl, pl⟩
    | succ j =>
      obtain ⟨key, b, e1, e2, e3, e4⟩ := g j k v (by simpa using e)
      exact ⟨key, b, by simpa using e1, e2, by simpa using e3, e4⟩
def rDictPT : List V → Hp → VK → Prop := fun xs H Q => ∃ (a : Addr) (ts : List Addr) (m : Prs2), xs = [V.ref a] ∧ H a = some (PTu a ts) ∧ Paired (fun t (q : Str × Str) => H t = some (.tup [.str q.1, .str q.2])) ts m ∧ m.length ≤ 1000 ∧
  ∀ p, H p = none → Q (.ref p) (upd H p (.dK (mergeK [] (kd m))))
theorem call_dictPT (hcalm : X.calm = true) : CallR X (.type "dict") rDictPT := by
  intro pins s σ H xs us Q I r h
  obtain ⟨a, ts, m, rfl, ha, hp, few, q⟩ := h
  rw [Vals.ref1 r]
  obtain ⟨o, n, ho, hc, hdn, hd⟩ := (show ∃ o n, s.heap.get? a = some o ∧ o.cls = .type "tuple" ∧ o.dict = none ∧ o.data = .seq (ts.map Value.ref).toArray n from (I.hok a _ ha).1)
  obtain ⟨ps, prs, l1, l2, rel, g⟩ := pairs_raw I hp
  have lm : ts.length = m.length := Paired.length hp
  refine PySem.call_dict_pairs (knd := mixKind X.prog X.w) (kvs := prs) (PairArg.tuple a (ts.map Value.ref).toArray (fun j => ts.getD j 0) ps) (I.ok.hd hcalm) ⟨⟨o, n, ho, hc, hdn, hd⟩, by simp [l1], fun j k v e => ?_⟩ ⟨by rw [l2, l1], fun i key v e => ?_⟩ (by rw [l1, lm, sizeLine_eq]; omega) fun h' tk hd' k => ?_
  · obtain ⟨key, b, e1, e2, e3, e4⟩ := g j k v e
    have eb : ts.getD j 0 = b := by simp [List.getD_eq_getElem?_getD, e3]
    show (List.map Value.ref ts).toArray[j]? = some (Value.ref (ts.getD j 0)) ∧ PairAt s.heap (ts.getD j 0) k v
    rw [eb]
    exact ⟨by simp [e3], .inl e4⟩
  · obtain ⟨k, b, e1, e2, e3, e4⟩ := g i key v e
    exact ⟨k, e1, e2⟩
  · have hm : (s.heap.objs.size == sysModules) = false := beq_eq_false_iff_ne.mpr (Nat.ne_of_gt I.big)
    have len : (mergeK [] (kd m)).length ≤ sizeLine := by
      refine Nat.le_trans (length_mergeK (kd m) []) ?_
      rw [List.length_nil, Nat.zero_add, kd_len, sizeLine_eq]
      omega
    exact ⟨.ref s.heap.objs.size, upd H s.heap.objs.size (.dK (mergeK [] (kd m))), I.laid (t' := tk) (fun b o e => k b o (by simp) e) (Nat.le_refl _) (show ObjOk X.prog X.w _ _ _ (.dK (mergeK [] (kd m))) from ⟨len, hm, merged [] prs, KV.merge rel .nil, hd'⟩), rfl, q _ (I.hok.fresh (Nat.le_refl _))⟩
end
end L2.TxtDict
set_option Elab.async false
set_option linter.all false
set_option maxRecDepth 100000
set_option maxHeartbeats 4000000
/-! Dicts displayed by two stars. -/
namespace L2.TxtDict
open PySem PySem.Spec PyProof.Rows L2.NSet L2.DX PySem.W
section
variable {P : Program} {w : World} {A : Around} {E : Value → Shared → Prop} {s : Shared}
/-- an entry put with its hash -/
theorem put_pairs {d : Addr} {kvs : List (Key × Value)} {k : Key} {key v : Value} {Q : Unit → Shared → Prop} (hk : (mixKind P w).is k key = true) (hm : s.heap.DictOf (mixKind P w) d kvs)
    (hQ : ∀ h2, h2.DictOf (mixKind P w) d (stored kvs k v) → Heap.SameBut d s.heap h2 → Q () { s with heap := h2 }) (hz : kvs.length ≤ sizeLine) : wpAny (model P w) A (dictPut d ((mixKind P w).hash k) key v) Q E s := by
  have q := wpAny_dictSetHashed_pairs (prog := P) (w := w) (knd := mixKind P w) (A := A) (E := E) (s := s) (v := v) (Q := Q) hk hm hQ hz
  obtain ⟨o, es, ep, ho, hc, hd, hks, hp, hn⟩ := hm
  have hes : es.size ≤ sizeLine := by
    have e1 := hp.length
    have e2 : es.toList.length = es.size := by simp
    omega
  have hidx : (es.findIdx? fun e => (mixKind P w).is k e.key) = kvs.findIdx? fun kv => decide (kv.1 = k) := by
    rw [← hp.findIdx k]
    obtain ⟨l⟩ := es
    simp
  unfold dictPut
  refine wpAny_bind (wpAny_dictFind_of hk ho hd hks ?_)
  cases hi : es.findIdx? fun e => (mixKind P w).is k e.key with
  | some i =>
    refine wpAny_updateDict ho hd (hQ _ ⟨_, _, ep, Heap.get?_update_self _ ho (Obj.isFreed_of_dict (Obj.data_mapDict hd _)), hc.mapDict _, Obj.data_mapDict hd _, hks.modify _ _, ?_, ?_⟩ (Heap.SameBut.update ..))
    · rw [stored, if_pos (any_of_findIdx_some (hidx ▸ hi))]
      have hl : (es.toList.findIdx? fun e => (mixKind P w).is k e.key) = some i := by
        rw [← hi]
        obtain ⟨l⟩ := es
        simp
      have z := hp.modify hn hl v
      obtain ⟨l⟩ := es
      simpa using z
    · rw [stored, if_pos (any_of_findIdx_some (hidx ▸ hi)), keys_map_store]
      exact hn
  | none =>
    have nk : k ∉ kvs.map (·.1) := not_mem_of_findIdx_none (hidx ▸ hi)
    have nany : ¬ (kvs.any fun kv => decide (kv.1 = k)) = true := by
      rw [List.any_eq_true]
      rintro ⟨kv, m, e⟩
      exact nk (List.mem_map.mpr ⟨kv, m, of_decide_eq_true e⟩)
    refine wpAny_updateDictKeys (hz := hes) ho hd (hQ _ ⟨_, _, ep + 1, Heap.get?_update_self _ ho (Obj.isFreed_of_dict (Obj.data_mapDictKeys hd _)), hc.mapDictKeys _, Obj.data_mapDictKeys hd _, hks.push hk _, ?_, ?_⟩ (Heap.SameBut.update ..))
    · rw [stored, if_neg nany]
      have z := hp.append hk ((mixKind P w).hash k) v
      obtain ⟨l⟩ := es
      simpa using z
    · rw [stored, if_neg nany, List.map_append, List.nodup_append]
      refine ⟨hn, by simp, fun a ha b hb => ?_⟩
      simp only [List.map_cons, List.map_nil, List.mem_singleton] at hb
      subst hb
      exact fun e => nk (e ▸ ha)
/-- the other dict's entries go into the new one -/
theorem merge_map {d a : Addr} {kvs more : List (Key × Value)} {Q : Unit → Shared → Prop} (da : d ≠ a) (hs : (a == sysModules) = false) (hd : s.heap.DictOf (mixKind P w) d kvs) (ha : s.heap.DictOf (mixKind P w) a more)
    (hQ : ∀ h2, h2.DictOf (mixKind P w) d (merged kvs more) → Heap.SameBut d s.heap h2 → Q () { s with heap := h2 }) (hz : kvs.length + more.length ≤ sizeLine) : wpAny (model P w) A (mergeMapping d (.ref a) false) Q E s := by
  have ty := ha.typeIs
  obtain ⟨od, esd, epd, hod, hcd, hdd, hkd, hpd, hnd⟩ := id hd
  obtain ⟨oo, eso, epo, hoo, hco, hdo, hko, hpo, hno⟩ := id ha
  have len : more.length = eso.size := by
    rw [← hpo.length]
    simp
  unfold mergeMapping
  refine wpAny_bind (wpAny_isInstance ty F.sub_dict_dict ?_)
  simp only [if_true]
  refine wpAny_bind (wpAny_specialOf ty F.slot_dict_iter.lookup ?_)
  have e1 : (some (Value.builtin "dict.__iter__") == some (Value.builtin "dict.__iter__")) = true := beq_self_eq_true _
  rw [e1]
  refine wpAny_bind (wpAny_pure ?_)
  dsimp only
  refine wp_if_neg (by rw [hs]; decide) ?_
  -- the entries, one by one
  have loop : ∀ (R : PUnit → Shared → Prop) (body : Nat → PUnit → Sem (ForInStep PUnit)), (∀ h2, h2.DictOf (mixKind P w) d (merged kvs more) → Heap.SameBut d s.heap h2 → R () { s with heap := h2 }) → (∀ i u, body i u = (do
        let l ← dictEntries a
        match l[i]? with
        | some e => do
          holding [e.key, e.val] (dictPut d e.hash e.key e.val)
          let c ← dictEpoch a
          if (c != epo) = true then do
              unsupported "dict.changed-during-merge"
              pure (ForInStep.yield PUnit.unit)
            else pure (ForInStep.yield PUnit.unit)
        | none => do
          unsupported "dict.changed-during-merge"
          pure (ForInStep.yield PUnit.unit))) → wpAny (model P w) A (forIn (List.range eso.size) PUnit.unit body) R E s := fun R body hR hb => by
    refine wpAny_forIn_list _ (fun rest _ s2 => ∃ h2 i, s2 = { s with heap := h2 } ∧ rest = (List.range eso.size).drop i ∧ i ≤ eso.size ∧ h2.DictOf (mixKind P w) d (merged kvs (more.take i)) ∧ h2.get? a = some oo ∧ Heap.SameBut d s.heap h2) _
      (fun x rest b s2 I => ?_) (fun b s2 I => ?_) _ _ ⟨s.heap, 0, rfl, rfl, Nat.zero_le _, by simpa [merged] using hd, hoo, Heap.SameBut.refl _ _⟩
    · obtain ⟨h2, i, rfl, hr, hi, d2, a2, sb⟩ := I
      have lt : i < eso.size := by
        rcases Nat.lt_or_ge i eso.size with z | z
        · exact z
        · rw [List.drop_of_length_le (by rw [List.length_range]; exact z)] at hr
          cases hr
      have hdr : (List.range eso.size).drop i = i :: (List.range eso.size).drop (i + 1) := by simp [List.drop_eq_getElem_cons, lt]
      rw [hdr] at hr
      injection hr with r1 r2
      subst r1 r2
      rw [hb]
      refine wpAny_bind (wpAny_dictEntries a2 hdo ?_)
      rw [Array.getElem?_eq_getElem lt]
      dsimp only
      obtain ⟨⟨k, v⟩, hkv⟩ : ∃ kv, more[x]? = some kv := ⟨more[x]'(by rw [len]; exact lt), List.getElem?_eq_getElem _⟩
      obtain ⟨hkey, hval⟩ := hpo.get? (e := eso[x]) (by simp [lt]) hkv
      obtain ⟨k2, hkey2, hhash⟩ := hko eso[x] (Array.getElem_mem lt)
      obtain rfl : k2 = k := (mixKind P w).inj _ _ _ hkey2 hkey
      rw [hhash, hval]
      have room : (merged kvs (more.take x)).length ≤ sizeLine := by
        have e1 := merged_length_le kvs (more.take x)
        have e2 : (more.take x).length ≤ more.length := by rw [List.length_take]; omega
        omega
      refine wpAny_bind (wpAny_holding (put_pairs hkey d2 (fun h3 d3 sb3 => ?_) room))
      have a3 : h3.get? a = some oo := (sb3.2 a (Ne.symm da)).trans a2
      refine wpAny_bind (wpAny_dictEpoch a3 hdo ?_)
      rw [if_neg (by simp)]
      exact wpAny_pure ⟨h3, x + 1, rfl, rfl, lt, by rw [merged_take_succ kvs more x (k2, v) hkv]; exact d3, a3, sb.trans sb3⟩
    · obtain ⟨h2, i, rfl, hr, hi, d2, a2, sb⟩ := I
      have hin : i = eso.size := by
        rcases Nat.lt_or_ge i eso.size with z | z
        · have hdr : (List.range eso.size).drop i = i :: (List.range eso.size).drop (i + 1) := by simp [List.drop_eq_getElem_cons, z]
          rw [hdr] at hr
          cases hr
        · exact Nat.le_antisymm hi z
      rw [hin, ← len, List.take_length] at d2
      exact hR h2 d2 sb
  refine wpAny_bind (wpAny_dictEntries hod hdd ?_)
  by_cases emp : esd.isEmpty = true
  · refine wp_if_pos emp (wpAny_bind (wpAny_dictEntries hoo hdo (wpAny_bind ?_)))
    rw [← Array.forIn_toList]
    refine wpAny_forIn_list _ (fun rest _ s2 => s2 = s ∧ ∀ e ∈ rest, e ∈ eso.toList) _ (fun x rest b s2 I => ?_) (fun b s2 I => ?_) _ _ ⟨rfl, fun e m => m⟩
    · obtain ⟨rfl, I2⟩ := I
      obtain ⟨k, hkey, _⟩ := hko x (by simpa using I2 x List.mem_cons_self)
      have rk : RelV (kV k) x.key := relV_key (show keyIs k x.key = true from hkey)
      have e : ∃ c : Bool, True := ⟨true, trivial⟩
      cases k with
      | inl i =>
        obtain ⟨t, ek⟩ := rk
        rw [ek]
        exact wpAny_pure ⟨rfl, fun e m => I2 e (List.mem_cons_of_mem _ m)⟩
      | inr z =>
        obtain ⟨t, ek⟩ := rk
        rw [ek]
        exact wpAny_pure ⟨rfl, fun e m => I2 e (List.mem_cons_of_mem _ m)⟩
    · obtain ⟨rfl, _⟩ := I
      refine wpAny_bind (wpAny_dictEntries hoo hdo (wpAny_bind (wpAny_dictEpoch hoo hdo (wpAny_bind (loop _ _ (fun h2 d2 sb => wpAny_pure (hQ h2 d2 sb)) fun i u => ?_)))))
      refine congrArg (fun k => dictEntries a >>= k) (funext fun l => ?_)
      cases l[i]? <;> rfl
  · refine wp_if_neg emp ?_
    refine wpAny_bind (wpAny_dictEntries hoo hdo (wpAny_bind (wpAny_dictEpoch hoo hdo (wpAny_bind (loop _ _ (fun h2 d2 sb => wpAny_pure (hQ h2 d2 sb)) fun i u => ?_)))))
    refine congrArg (fun k => dictEntries a >>= k) (funext fun l => ?_)
    cases l[i]? <;> rfl
end
section
variable {X : Cx}
/-- {**a, **b} -/
def tStar2 (ta tb : TE) : TE := fun σ H Q => ∀ p, H p = none → ta σ (upd H p (.dK [])) fun x H1 => H1 p = some (.dK []) ∧ ∃ a k1, x = .ref a ∧ a ≠ p ∧ Rd H1 a (.dK k1) ∧ k1.length ≤ 1000 ∧
  tb σ (upd H1 p (.dK (mergeK [] k1))) fun y H2 => H2 p = some (.dK (mergeK [] k1)) ∧ ∃ b k2, y = .ref b ∧ b ≠ p ∧ Rd H2 b (.dK k2) ∧ k2.length ≤ 1000 ∧ Q (.ref p) (upd H2 p (.dK (mergeK (mergeK [] k1) k2)))
theorem merge_I {pins : List (Addr × Obj)} {σ : L2.St} {H : Hp} {s : Shared} {E : Value → Shared → Prop} {p a : Addr} {k0 k1 : List (Key × V)} {Q : Unit → Shared → Prop} (I : Inv X pins σ H s) (hp : H p = some (.dK k0)) (ha : Rd H a (.dK k1)) (pa : a ≠ p) (l0 : k0.length ≤ 1000) (l1 : k1.length ≤ 1000)
    (h : ∀ s2, Inv X pins σ (upd H p (.dK (mergeK k0 k1))) s2 → Q () s2) : wpAny (model X.prog X.w) X.A (mergeMapping p (.ref a) false) Q E s := by
  obtain ⟨z0, hd0, v0, rel0, d0⟩ := dk_of I.hok hp
  obtain ⟨z1, hd1, v1, rel1, d1⟩ := dk_rd I.hok ha
  have e0 := rel0.length
  have e1 := rel1.length
  refine merge_map (Ne.symm pa) hd1 d0 d1 (fun h2 d2 sb => h _ ?_) (by rw [sizeLine_eq]; omega)
  have len : (mergeK k0 k1).length ≤ sizeLine := by
    have := length_mergeK k1 k0
    rw [sizeLine_eq]
    omega
  have he : ∃ q, h2.get? p = some q := let ⟨q, _, _, hq, _⟩ := d2; ⟨q, hq⟩
  exact d_write I (by rw [hp]; exact True.intro) sb he (dk_new len hd0 (KV.merge rel1 rel0) d2)
theorem pe_star2 {a b : Expr} {pos : Pos} {ta tb : TE} (ha : PE X a ta) (hb : PE X b tb) : PE X (.Dict [none, none] [a, b] pos) (tStar2 ta tb) := by
  refine ⟨fun pins s σ H Q I h => ?_⟩
  rw [arm_eval_Dict]
  have shape : (evalEachOpt [none, none] X.env).zip ((evalEach [a, b] X.env).map fun v => (do let x ← v; standAt pos; pure x : Sem Value)) = [(none, do let x ← eval a X.env; standAt pos; pure x), (none, do let x ← eval b X.env; standAt pos; pure x)] := rfl
  rw [shape]
  refine wpAny_bind (wpAny_standAt ?_)
  unfold dictDisplay
  dsimp only
  simp only [List.forIn_cons, List.forIn_nil, List.isEmpty_nil, if_true, pure_bind, bind_assoc]
  refine wpAny_bind (wpAny_alloc ?_)
  have hn : H s.heap.objs.size = none := I.hok.fresh (Nat.le_refl _)
  have I0 : Inv X pins σ (upd H s.heap.objs.size (.dK [])) { s with heap := s.heap.push { cls := .type "dict", data := .dict #[] } } := I.laid (t' := s.toks) (fun _ _ q => Heap.get?_push_of_some _ q) (Nat.le_refl _) (dk_empty s.heap I.big)
  refine wpAny_bind (wpAny_holding (wpAny_bind (thn (ha.run pins _ σ _ _ I0 (h _ hn)) fun v s1 ⟨x, H1, I1, r1, hp1, a', k1, ex, na, rd1, l1, q1⟩ => wpAny_bind (wpAny_standAt (wpAny_pure ?_)))))
  subst ex
  cases r1
  refine wpAny_bind (wpAny_onRaise (wpAny_tryCatch (wpAny_onRaise (wpAny_holding (merge_I I1 hp1 rd1 na (by decide) l1 fun s2 I2 => ?_)))))
  refine wpAny_bind (wpAny_holding (wpAny_bind (thn (hb.run pins _ σ _ _ I2 q1) fun v2 s3 ⟨y, H3, I3, r3, hp3, b', k2, ey, nb, rd3, l2, q3⟩ => wpAny_bind (wpAny_standAt (wpAny_pure ?_)))))
  subst ey
  cases r3
  have l0 : (mergeK [] k1).length ≤ 1000 := by
    have := length_mergeK k1 []
    rw [List.length_nil] at this
    omega
  refine wpAny_bind (wpAny_onRaise (wpAny_tryCatch (wpAny_onRaise (wpAny_holding (merge_I I3 hp3 rd3 nb l0 l2 fun s4 I4 => ?_)))))
  exact wpAny_pure ⟨.ref s.heap.objs.size, _, I4, rfl, q3⟩
end
end L2.TxtDict
set_option Elab.async false
set_option linter.all false
set_option maxRecDepth 100000
set_option maxHeartbeats 4000000
/-! a != b of two lists whose items are equal, dicts among them. -/
namespace L2.LstNe
open PySem PySem.Spec PyProof.Rows PySem.SeqAt AutoSeq1 MeetsSeq MeetsSeq2 MeetsSeq3
section
variable {P : Program} {w : World}
/-- equal item by item -/
def Same2 (P : Program) (w : World) (A : Around) (s : Shared) (xs ys : Array Value) : Prop := ∀ j (h1 : j < xs.size) (h2 : j < ys.size), EqP P w A s xs[j] ys[j] true
theorem ne_turns (l b : Addr) (xs ys : Array Value) (n m : Nat) (d1 d2 : Option Addr) (s1 s2 : Array (Option Value)) (hz : xs.size = ys.size) (k : Nat) : ∀ i : Nat, xs.size - i = k → MeetsIn P w (Builtin.«list.__eq__.loop» ⟨[.ref l, .ref b, rawInt i, rawInt 3], []⟩)
    (fun A R s => s.heap.get? l = some { cls := .type "list", dict := d1, data := .seq xs n, slots := s1 } ∧ s.heap.get? b = some { cls := .type "list", dict := d2, data := .seq ys m, slots := s2 } ∧ Same2 P w A.in1 s xs ys ∧ R (.ok (.ret (.bool false))) s) := by
  induction k with
  | zero =>
    rintro i hk A R ⟨hp, g, d, tk, os⟩ ⟨hl, hb, he, h⟩
    wp_walk using wpAny_loadPart' hl, wpAny_loadPart' hb
    have g1 : xs[((i : Nat) : Int).toNat]? = none := by simp; omega
    have g2 : ys[((i : Nat) : Int).toNat]? = none := by simp; omega
    rw [g1, g2]
    wp_walk using wpAny_loadPart' hl, wpAny_loadPart' hb
    show R (.ok (.ret (.bool (xs.size != ys.size)))) _
    rw [hz]
    simpa using h
  | succ k ih =>
    rintro i hk A R ⟨hp, g, d, tk, os⟩ ⟨hl, hb, he, h⟩
    wp_walk using wpAny_loadPart' hl, wpAny_loadPart' hb
    have l1 : i < xs.size := by omega
    have l2 : i < ys.size := by omega
    have g1 : xs[((i : Nat) : Int).toNat]? = some xs[i] := by simp [l1]
    have g2 : ys[((i : Nat) : Int).toNat]? = some ys[i] := by simp [l2]
    have up : ((i : Int) + 1) = ((i + 1 : Nat) : Int) := by push_cast; rfl
    rw [g1, g2]
    refine wpAny_bind (he i l1 l2 _ _ ?_)
    wp_walk
    rw [up]
    refine ⟨plainId_quiet plain_eq_loop _, codeAny_builtin entry_eq_loop ?_⟩ <;> rw [Around.under_plainId plain_eq_loop _]
    exact ih (i + 1) (by omega) A R _ ⟨hl, hb, he, h⟩
theorem ne_lists {A : Around} {s : Shared} {l b : Addr} {xs ys : Array Value} (hl : s.heap.IsList l xs) (hb : s.heap.IsList b ys) (hz : xs.size = ys.size) (hu : A.units < cLine) (he : Same2 P w A.in1 s xs ys) (E Q : Value → Shared → Prop) (h : Q (.bool false) s) :
    wpAny (model P w) A (richCompare .NotEq (.ref l) (.ref b)) Q E s := by
  obtain ⟨⟨c1, d1, p1, s1⟩, ho1, hc1, n1, hd1⟩ := hl
  obtain ⟨⟨c2, d2, p2, s2⟩, ho2, hc2, n2, hd2⟩ := hb
  simp only at hc1 hd1 hc2 hd2
  subst hc1 hd1 hc2 hd2
  have ta : s.TypeIs (.ref l) "list" := ⟨_, ho1, rfl⟩
  have tb : s.TypeIs (.ref b) "list" := ⟨_, ho2, rfl⟩
  have whole : MeetsIn P w (Builtin.«list.__ne__» ⟨[.ref l, .ref b], []⟩) (fun A R s => s.heap.get? l = some { cls := .type "list", dict := d1, data := .seq xs n1, slots := s1 } ∧ s.heap.get? b = some { cls := .type "list", dict := d2, data := .seq ys n2, slots := s2 } ∧ Same2 P w A.in1 s xs ys ∧ R (.ok (.ret (.bool false))) s) := by
    rintro A R ⟨hp, g, d, tk, os⟩ ⟨hl, hb, he, h⟩
    have f3 := AutoSeq1.sub_list_list
    have hne : ¬ (xs.size != ys.size) = true := by simp [hz]
    wp_walk using wpAny_loadPart' hl, wpAny_loadPart' hb
    refine ⟨plainId_quiet plain_eq_loop _, codeAny_builtin entry_eq_loop ?_⟩ <;> rw [Around.under_plainId plain_eq_loop _]
    exact ne_turns l b xs ys n1 n2 d1 d2 s1 s2 hz _ 0 rfl A R _ ⟨hl, hb, he, h⟩
  exact wpAny_richCompare_same_room (op := .NotEq) ta tb F.slot_list_ne (call_meetsIn F.slot_list_ne ta F.entry_list_ne (F.args_list_ne_2 _ _) whole ⟨ho1, ho2, he, show Value.bool false ≠ Value.notImplemented ∧ Q (.bool false) s from ⟨(fun x => nomatch x), h⟩⟩) hu
end
section
variable {X : Cx}
/-- a != b, two lists that are equal -/
def rNeV (K : PySem.W.Frag) : R2 := fun x y H Q => ∃ n, n ≤ 60 ∧ (∃ a b xs ys, x = .ref a ∧ y = .ref b ∧ SqL K H a xs ∧ SqL K H b ys ∧ Paired (EqV K H n) xs ys) ∧ Q (.bl false) H
theorem op_neV (hu : X.A.units + 64 < cLine) : OpR X (compareOp .NotEq) (rNeV X.K) := by
  intro pins s σ H x y v u Q I rx ry h
  obtain ⟨n, hn, ⟨a, b, xs, ys, rfl, rfl, ha, hb, hp⟩, q⟩ := h
  cases (show v = Value.ref a from rx)
  cases (show u = Value.ref b from ry)
  obtain ⟨us, r1, p1, _⟩ := I.list ha
  obtain ⟨ws, r2, p2, _⟩ := I.list hb
  have hz : us.toArray.size = ws.toArray.size := by
    rw [List.size_toArray, List.size_toArray, ← r1.length, ← r2.length]
    exact Paired.length hp
  refine ne_lists (A := X.A) p1.isList p2.isList hz (by omega) (fun j h1 h2 => ?_) X.xe (EP X pins σ Q) ⟨.bl false, H, I, rfl, q⟩
  have k := items_run (P := X.prog) (w := X.w) (A := X.A.in1) (s := s) (fun x y v u e r1 r2 => eqV_run I n X.A.in1 (by show X.A.units + 1 + n < cLine; omega) x y v u e r1 r2) hp r1 r2 j (by simpa using h1) (by simpa using h2)
  simpa using k
theorem op_neVK {K : PySem.W.Frag} (e : X.K = K) (hu : X.A.units + 64 < cLine) : OpR X (compareOp .NotEq) (rNeV K) := by
  subst e
  exact op_neV hu
end
end L2.LstNe
set_option Elab.async false
set_option linter.all false
set_option maxRecDepth 100000
set_option maxHeartbeats 4000000
/-! Maps of texts to texts: what they hold. -/
namespace L2.LawH
open PySem PySem.Spec PyProof.Rows L2.TxtDict
def look : Prs2 → Str → Option Str
  | [], _ => none
  | p :: m, z => if p.1 = z then some p.2 else look m z
theorem val_kd : ∀ (m : Prs2) (z : Str), valV (kd m) (Sum.inr z : Key) = (look m z).map V.str
  | [], _ => rfl
  | p :: m, z => by
    by_cases e : p.1 = z
    · rw [show kd (p :: m) = ((Sum.inr p.1 : Key), V.str p.2) :: kd m from rfl, valV_pos (by rw [e]), look, if_pos e]
      rfl
    · rw [show kd (p :: m) = ((Sum.inr p.1 : Key), V.str p.2) :: kd m from rfl, valV_neg (fun q => e (Sum.inr.inj q)), look, if_neg e]
      exact val_kd m z
theorem look_mem : ∀ {m : Prs2} {z v : Str}, look m z = some v → (z, v) ∈ m
  | [], _, _, h => nomatch h
  | p :: m, z, v, h => by
    rw [look] at h
    by_cases e : p.1 = z
    · rw [if_pos e] at h
      have := Option.some.inj h
      rw [← e, ← this]
      exact List.mem_cons_self
    · rw [if_neg e] at h
      exact List.mem_cons_of_mem _ (look_mem h)
theorem look_of : ∀ {m : Prs2} {p : Str × Str}, (m.map Prod.fst).Nodup → p ∈ m → look m p.1 = some p.2
  | q :: m, p, nd, h => by
    rw [List.map_cons, List.nodup_cons] at nd
    rw [look]
    rcases List.mem_cons.mp h with rfl | h
    · rw [if_pos rfl]
    · have ne : ¬ q.1 = p.1 := fun e => nd.1 (by rw [e]; exact List.mem_map.mpr ⟨p, h, rfl⟩)
      rw [if_neg ne]
      exact look_of nd.2 h
theorem look_none {m : Prs2} {z : Str} : look m z = none ↔ z ∉ m.map Prod.fst := by
  induction m with
  | nil => simp [look]
  | cons p m ih =>
    rw [look, List.map_cons, List.mem_cons]
    by_cases e : p.1 = z
    · rw [if_pos e]
      simp [e]
    · rw [if_neg e, ih]
      have : ¬ z = p.1 := fun h => e h.symm
      simp [this]
structure Good (m : Prs2) : Prop where
  nd : (m.map Prod.fst).Nodup
  few : m.length ≤ 20
  ok : ∀ p ∈ m, PyData.strOk p.1 = true ∧ PyData.strOk p.2 = true
/-- the map m at d -/
def MapAt (H : Hp) (d : Addr) (m : Prs2) : Prop := H d = some (.dK (kd m))
theorem MapAt.same {H H' : Hp} {d : Addr} {m : Prs2} (h : MapAt H d m) (s : Same H H') : MapAt H' d m := s _ _ h
/-- behind a lock -/
theorem unlocked {H H5 : Hp} {a : Addr} {od : Obj} {u : HO} (h : H a = some u) (s : Same (upd H a (.frz od u)) H5) : Same H (upd H5 a u) := fun b o e => by
  by_cases eb : b = a
  · rw [eb] at e ⊢
    rw [upd_same, ← h, e]
  · rw [upd_ne eb]
    exact s b o (by rw [upd_ne eb]; exact e)
theorem rd_frz {H : Hp} {a b : Addr} {od : Obj} {m1 m2 : Prs2} (ha : MapAt H a m1) (hb : MapAt H b m2) : Rd (upd H a (.frz od (.dK (kd m1)))) b (.dK (kd m2)) := by
  by_cases e : b = a
  · subst e
    have : kd m1 = kd m2 := by
      have q := ha.symm.trans hb
      injection q with q
      injection q
    rw [← this]
    exact .inr ⟨od, upd_same⟩
  · exact .inl (by rw [upd_ne e]; exact hb)
theorem rd_same {H H' : Hp} {a : Addr} {u : HO} (r : Rd H a u) (s : Same H H') : Rd H' a u := r.imp (s _ _) fun ⟨o, e⟩ => ⟨o, s _ _ e⟩
end L2.LawH
set_option Elab.async false
set_option linter.all false
set_option maxRecDepth 100000
set_option maxHeartbeats 4000000
/-! Maps of texts to texts: entries put, maps merged, the order by key; dict comprehensions over walks. -/
namespace L2.LawH
open PySem PySem.Spec PyProof.Rows L2.TxtDict
theorem str_anti {a b : Str} (x : a.cps.toList ≤ b.cps.toList) (y : b.cps.toList ≤ a.cps.toList) : a = b := by
  have e : a.cps.toList = b.cps.toList := List.le_antisymm x y
  cases a
  cases b
  exact congrArg Str.mk (Array.toList_inj.mp e)
/-- by key -/
def leP (p q : Str × Str) : Bool := !ltCps q.1.cps.toList p.1.cps.toList
theorem leP_iff {p q : Str × Str} : leP p q = true ↔ p.1.cps.toList ≤ q.1.cps.toList := by
  simp only [leP, Bool.not_eq_true', ltCps_eq, decide_eq_false_iff_not, List.not_lt]
def canon (m : Prs2) : Prs2 := m.mergeSort leP
theorem canon_perm (m : Prs2) : (canon m).Perm m := List.mergeSort_perm ..
theorem canon_pw (m : Prs2) : (canon m).Pairwise fun p q => p.1.cps.toList ≤ q.1.cps.toList := by
  refine List.Pairwise.imp (fun h => leP_iff.mp h) (List.pairwise_mergeSort (le := leP) (fun a b c x y => ?_) (fun a b => ?_) m)
  · exact leP_iff.mpr (List.le_trans (leP_iff.mp x) (leP_iff.mp y))
  · rcases List.le_total a.1.cps.toList b.1.cps.toList with h | h
    · rw [leP_iff.mpr h]; rfl
    · rw [leP_iff.mpr h, Bool.or_true]
theorem canon_asc (m : Prs2) : sortedS ((canon m).map Prod.fst) = true := by
  refine sortedS_of_pairwise _ ?_
  rw [List.pairwise_map]
  refine List.Pairwise.imp (fun {a b} h => ?_) (canon_pw m)
  rw [ltCps_eq]
  exact decide_eq_false (List.not_lt.mpr h)
theorem keys_canon {m : Prs2} {ys : List Str} (p : ys.Perm (m.map Prod.fst)) (h : sortedS ys = true) : ys = (canon m).map Prod.fst := asc_eq h (canon_asc m) p ((canon_perm m).map _)
theorem canon_nd {m : Prs2} (nd : (m.map Prod.fst).Nodup) : ((canon m).map Prod.fst).Nodup := ((canon_perm m).map _).nodup_iff.mpr nd
theorem look_iff {m : Prs2} (nd : (m.map Prod.fst).Nodup) {z v : Str} : look m z = some v ↔ (z, v) ∈ m := ⟨look_mem, fun h => look_of nd h⟩
theorem look_ext {m m' : Prs2} (nd : (m.map Prod.fst).Nodup) (nd' : (m'.map Prod.fst).Nodup) (h : ∀ p, p ∈ m ↔ p ∈ m') (z : Str) : look m z = look m' z := by
  cases e : look m z with
  | some v => exact ((look_iff nd').mpr ((h _).mp (look_mem e))).symm
  | none =>
    cases e' : look m' z with
    | none => rfl
    | some v =>
      have := (look_iff nd).mpr ((h _).mpr (look_mem e'))
      rw [e] at this
      cases this
theorem look_canon {m : Prs2} (nd : (m.map Prod.fst).Nodup) (z : Str) : look (canon m) z = look m z := look_ext (canon_nd nd) nd (fun _ => (canon_perm m).mem_iff) z
theorem nd_of {m : Prs2} (nd : (m.map Prod.fst).Nodup) : m.Nodup := by
  rw [List.Nodup, List.pairwise_map] at nd
  exact List.Pairwise.imp (fun h e => h (by rw [e])) nd
theorem fst_inj {m : Prs2} (nd : (m.map Prod.fst).Nodup) {p q : Str × Str} (hp : p ∈ m) (hq : q ∈ m) (e : p.1 = q.1) : p = q := by
  have h1 := look_of nd hp
  have h2 := look_of nd hq
  rw [e, h2] at h1
  exact Prod.ext e (Option.some.inj h1).symm
theorem canon_eq {m m' : Prs2} (nd : (m.map Prod.fst).Nodup) (p : m.Perm m') : canon m = canon m' := by
  refine List.Perm.eq_of_pairwise (fun a b ha hb x y => ?_) (canon_pw m) (canon_pw m') ((canon_perm m).trans (p.trans (canon_perm m').symm))
  exact fst_inj nd ((canon_perm m).mem_iff.mp ha) (p.mem_iff.mpr ((canon_perm m').mem_iff.mp hb)) (str_anti x y)
theorem perm_look {m m' : Prs2} (nd : (m.map Prod.fst).Nodup) (nd' : (m'.map Prod.fst).Nodup) (h : ∀ z, look m z = look m' z) : m.Perm m' := by
  refine (List.perm_ext_iff_of_nodup (nd_of nd) (nd_of nd')).mpr fun p => ?_
  obtain ⟨z, v⟩ := p
  rw [← look_iff nd, ← look_iff nd', h]
theorem canon_ext {m m' : Prs2} (nd : (m.map Prod.fst).Nodup) (nd' : (m'.map Prod.fst).Nodup) (h : ∀ z, look m z = look m' z) : canon m = canon m' := canon_eq nd (perm_look nd nd' h)
theorem canon_canon {m : Prs2} (nd : (m.map Prod.fst).Nodup) : canon (canon m) = canon m := canon_eq (canon_nd nd) (canon_perm m)
theorem canon_id {m : Prs2} (h : m.Pairwise fun p q => p.1.cps.toList ≤ q.1.cps.toList) (nd : (m.map Prod.fst).Nodup) : canon m = m :=
  List.Perm.eq_of_pairwise (fun a b ha hb x y => fst_inj nd ((canon_perm m).mem_iff.mp ha) hb (str_anti x y)) (canon_pw m) h (canon_perm m)
theorem canon_len (m : Prs2) : (canon m).length = m.length := (canon_perm m).length_eq
theorem canon_good {m : Prs2} (g : Good m) : Good (canon m) := ⟨canon_nd g.nd, by rw [canon_len]; exact g.few, fun p h => g.ok p ((canon_perm m).mem_iff.mp h)⟩
/-- one entry put -/
def putP (m : Prs2) (k v : Str) : Prs2 := if (look m k).isSome = true then m.map fun p => if p.1 = k then (p.1, v) else p else m ++ [(k, v)]
theorem kd_put (m : Prs2) (k v : Str) : putK (kd m) (Sum.inr k : Key) (V.str v) = kd (putP m k v) := by
  unfold putK putP
  rw [valV_any, val_kd]
  cases e : look m k with
  | none =>
    dsimp only [Option.map, Option.isSome]
    rw [if_neg Bool.false_ne_true, if_neg Bool.false_ne_true]
    unfold kd
    rw [List.map_append]
    rfl
  | some x =>
    dsimp only [Option.map, Option.isSome]
    rw [if_pos rfl, if_pos rfl]
    unfold kd
    rw [List.map_map, List.map_map]
    refine List.map_congr_left fun p _ => ?_
    dsimp only [Function.comp]
    by_cases c : p.1 = k
    · rw [if_pos (by rw [c]), if_pos c]
    · rw [if_neg (fun q => c (Sum.inr.inj q)), if_neg c]
theorem look_put (m : Prs2) (k v z : Str) : look (putP m k v) z = if z = k then some v else look m z := by
  have h := valV_put (kd m) (Sum.inr k : Key) (Sum.inr z) (V.str v)
  rw [kd_put, val_kd, val_kd] at h
  by_cases c : z = k
  · rw [if_pos c]
    rw [if_pos (by rw [c])] at h
    cases e : look (putP m k v) z with
    | none => rw [e] at h; cases h
    | some x =>
      rw [e] at h
      exact congrArg some (V.str.inj (Option.some.inj h))
  · rw [if_neg c]
    rw [if_neg (fun q => c (Sum.inr.inj q))] at h
    cases e : look (putP m k v) z with
    | none =>
      rw [e] at h
      cases e2 : look m z with
      | none => rfl
      | some y => rw [e2] at h; cases h
    | some x =>
      rw [e] at h
      cases e2 : look m z with
      | none => rw [e2] at h; cases h
      | some y =>
        rw [e2] at h
        exact congrArg some (V.str.inj (Option.some.inj h))
theorem keys_put (m : Prs2) (k v : Str) : (putP m k v).map Prod.fst = if (look m k).isSome = true then m.map Prod.fst else m.map Prod.fst ++ [k] := by
  unfold putP
  split
  · rw [List.map_map]
    refine List.map_congr_left fun p _ => ?_
    dsimp only [Function.comp]
    split <;> rfl
  · rw [List.map_append]
    rfl
theorem nd_put {m : Prs2} (nd : (m.map Prod.fst).Nodup) (k v : Str) : ((putP m k v).map Prod.fst).Nodup := by
  rw [keys_put]
  split
  · exact nd
  · rename_i h
    have hn : look m k = none := by
      cases e : look m k with
      | none => rfl
      | some x => rw [e] at h; exact absurd rfl h
    exact List.nodup_append.mpr ⟨nd, by simp, fun a ha b hb e => by
      rw [List.mem_singleton] at hb
      rw [e, hb] at ha
      exact look_none.mp hn ha⟩
theorem len_put (m : Prs2) (k v : Str) : (putP m k v).length ≤ m.length + 1 := by
  unfold putP
  split
  · rw [List.length_map]
    exact Nat.le_succ _
  · rw [List.length_append]
    exact Nat.le_refl _
theorem mem_put {m : Prs2} {k v : Str} {p : Str × Str} (h : p ∈ putP m k v) : p ∈ m ∨ p = (k, v) := by
  unfold putP at h
  split at h
  · obtain ⟨q, hq, e⟩ := List.mem_map.mp h
    by_cases c : q.1 = k
    · rw [if_pos c] at e
      exact .inr (by rw [← e, c])
    · rw [if_neg c] at e
      exact .inl (by rw [← e]; exact hq)
  · rcases List.mem_append.mp h with h | h
    · exact .inl h
    · exact .inr (List.mem_singleton.mp h)
theorem put_new {m : Prs2} {k v : Str} (h : look m k = none) : putP m k v = m ++ [(k, v)] := by
  unfold putP
  rw [if_neg (by rw [h]; exact Bool.false_ne_true)]
/-- all entries of another map put -/
def merP (m more : Prs2) : Prs2 := more.foldl (fun acc p => putP acc p.1 p.2) m
theorem kd_mer : ∀ (more m : Prs2), mergeK (kd m) (kd more) = kd (merP m more)
  | [], _ => rfl
  | p :: more, m => by
    show mergeK (putK (kd m) (Sum.inr p.1 : Key) (V.str p.2)) (kd more) = _
    rw [kd_put]
    exact kd_mer more _
theorem nd_mer : ∀ {more m : Prs2}, (m.map Prod.fst).Nodup → ((merP m more).map Prod.fst).Nodup
  | [], _, h => h
  | p :: more, m, h => nd_mer (more := more) (nd_put h p.1 p.2)
theorem len_mer : ∀ (more m : Prs2), (merP m more).length ≤ m.length + more.length
  | [], _ => Nat.le_refl _
  | p :: more, m => by
    have h := len_mer more (putP m p.1 p.2)
    have h2 := len_put m p.1 p.2
    show (merP (putP m p.1 p.2) more).length ≤ _
    rw [List.length_cons]
    omega
theorem look_mer : ∀ {more : Prs2} (m : Prs2) (z : Str), (more.map Prod.fst).Nodup → look (merP m more) z = (look more z).or (look m z)
  | [], m, z, _ => rfl
  | p :: more, m, z, nd => by
    rw [List.map_cons, List.nodup_cons] at nd
    show look (merP (putP m p.1 p.2) more) z = _
    rw [look_mer _ z nd.2, look_put, look]
    by_cases c : p.1 = z
    · have hn : look more z = none := look_none.mpr (by rw [← c]; exact nd.1)
      rw [if_pos c, if_pos c.symm, hn]
      rfl
    · rw [if_neg c, if_neg fun e => c e.symm]
theorem mem_mer : ∀ {more m : Prs2} {p : Str × Str}, p ∈ merP m more → p ∈ m ∨ p ∈ more
  | [], _, _, h => .inl h
  | q :: more, m, p, h => by
    rcases mem_mer (more := more) (m := putP m q.1 q.2) h with h | h
    · rcases mem_put h with h | h
      · exact .inl h
      · exact .inr (by rw [h]; exact List.mem_cons_self)
    · exact .inr (List.mem_cons_of_mem _ h)
theorem mer_nil : ∀ {m acc : Prs2}, ((acc ++ m).map Prod.fst).Nodup → merP acc m = acc ++ m
  | [], acc, _ => (List.append_nil acc).symm
  | p :: m, acc, nd => by
    have hn : look acc p.1 = none := look_none.mpr fun h => by
      rw [List.map_append, List.nodup_append] at nd
      exact nd.2.2 _ h _ (by rw [List.map_cons]; exact List.mem_cons_self) rfl
    show merP (putP acc p.1 p.2) m = _
    rw [put_new hn, mer_nil (by simpa using nd)]
    simp
/-- the map of both -/
def bothP (m1 m2 : Prs2) : Prs2 := merP (merP [] m1) m2
theorem both_nd (m1 m2 : Prs2) : ((bothP m1 m2).map Prod.fst).Nodup := nd_mer (nd_mer (by simp))
theorem both_look {m1 m2 : Prs2} (n1 : (m1.map Prod.fst).Nodup) (n2 : (m2.map Prod.fst).Nodup) (z : Str) : look (bothP m1 m2) z = (look m2 z).or (look m1 z) := by
  unfold bothP
  rw [look_mer _ z n2, look_mer _ z n1, look, Option.or_none]
theorem both_len (m1 m2 : Prs2) : (bothP m1 m2).length ≤ m1.length + m2.length := by
  have h1 := len_mer m2 (merP [] m1)
  have h2 := len_mer m1 []
  unfold bothP
  rw [List.length_nil] at h2
  omega
theorem both_mem {m1 m2 : Prs2} {p : Str × Str} (h : p ∈ bothP m1 m2) : p ∈ m1 ∨ p ∈ m2 := by
  rcases mem_mer h with h | h
  · rcases mem_mer h with h | h
    · cases h
    · exact .inl h
  · exact .inr h
/-- a dict comprehension over a walk -/
theorem dc_it {J : It} {n : Nat} {G : Hp → Prop} {Y : Nat → Hp → V → Hp → Prop} (w : Walk J n G Y) {g : TG} {tt : TT} {tk tv : TE} {vs : List Nat} {σ : St} {H1 : Hp} {D : Addr} {Qd : Hp → Prop} (Pv : Nat → Hp → Prop) (h0 : Pv 0 (upd H1 D (.dK []))) (hG : ∀ i H, i ≤ n → Pv i H → G H)
    (hs : ∀ i x H H', i < n → Pv i H → Y i H x H' → g x (wipe σ vs) H' fun σ2 H2 => wipe σ2 vs = wipe σ vs ∧ tt σ2 H2 fun b H3 =>
      if b = true then tk σ2 H3 fun y H4 => tv σ2 H4 fun z H5 => ∃ kvs k, y = kV k ∧ H5 D = some (.dK kvs) ∧ kvs.length < sizeLine ∧ Pv (i + 1) (upd H5 D (.dK (putK kvs k z))) else Pv (i + 1) H3) (hd : ∀ H, Pv n H → Qd H) :
    ∃ W : Nat → Nat → Hp → Prop, (∃ m, W 0 m (upd H1 D (.dK []))) ∧ ∀ i m H, W i m H →
      (J.stop i H ∧ Qd H) ∨ (J.go i H ∧ ∃ Nx : Hp → Prop, (∀ H', Nx H' → ∃ m', m' < m ∧ W (i + 1) m' H') ∧ ∀ x H', J.yld i H x H' → g x (wipe σ vs) H' fun σ2 H2 => wipe σ2 vs = wipe σ vs ∧ tt σ2 H2 fun b H3 =>
        if b = true then tk σ2 H3 fun y H4 => tv σ2 H4 fun z H5 => ∃ kvs k, y = kV k ∧ H5 D = some (.dK kvs) ∧ kvs.length < sizeLine ∧ Nx (upd H5 D (.dK (putK kvs k z))) else Nx H3) := by
  refine ⟨fun i m H => m = n - i ∧ i ≤ n ∧ Pv i H, ⟨n, by simp, Nat.zero_le _, h0⟩, ?_⟩
  rintro i m H ⟨rfl, hi, p⟩
  have q := hG i H hi p
  by_cases hlt : i < n
  · exact .inr ⟨w.goes i H hlt q, Pv (i + 1), fun H' p' => ⟨n - (i + 1), by omega, rfl, hlt, p'⟩, fun x H' y => hs i x H H' hlt p (w.yields i H x H' hlt q y)⟩
  · have e : i = n := by omega
    subst e
    exact .inl ⟨w.stops H q, hd H p⟩
end L2.LawH
set_option Elab.async false
set_option linter.all false
set_option maxRecDepth 100000
set_option maxHeartbeats 4000000
/-! New names. -/
namespace L2.LawH
open PySem PySem.Spec PyProof.Rows L2.TxtDict
def newT (n : Nat) : Str := Str.ofString "new" ++ (toString (n : Int) : String)
/-- the number in a text of digits -/
def numOf (l : List Nat) : Nat := l.foldl (fun a c => 10 * a + (c - 48)) 0
theorem new_back : ((List.range 200).all fun n => decide (numOf ((newT n).cps.toList.drop 3) = n) && decide ((newT n).length ≤ 6)) = true := by decide +kernel
theorem new_num {n : Nat} (h : n < 200) : numOf ((newT n).cps.toList.drop 3) = n ∧ (newT n).length ≤ 6 := by
  have q := List.all_eq_true.mp new_back n (List.mem_range.mpr h)
  simpa using q
theorem new_inj {n m : Nat} (hn : n < 200) (hm : m < 200) (e : newT n = newT m) : n = m := by
  rw [← (new_num hn).1, ← (new_num hm).1, e]
/-- the first from n on that is not in U, at most k steps -/
def nxt (U : List Str) : Nat → Nat → Nat
  | 0, n => n
  | k + 1, n => if newT n ∈ U then nxt U k (n + 1) else n
theorem nxt_in {U : List Str} {k n : Nat} (h : newT n ∈ U) : nxt U (k + 1) n = nxt U k (n + 1) := by rw [nxt, if_pos h]
theorem nxt_out {U : List Str} {k n : Nat} (h : newT n ∉ U) : nxt U k n = n := by
  cases k with
  | zero => rfl
  | succ k => rw [nxt, if_neg h]
theorem nxt_le : ∀ (U : List Str) (k n : Nat), n ≤ nxt U k n ∧ nxt U k n ≤ n + k
  | U, 0, n => ⟨Nat.le_refl _, Nat.le_refl _⟩
  | U, k + 1, n => by
    rw [nxt]
    split
    · have := nxt_le U k (n + 1)
      omega
    · omega
theorem nxt_all : ∀ (U : List Str) (k n : Nat), newT (nxt U k n) ∈ U → ∀ i, n ≤ i → i ≤ nxt U k n → newT i ∈ U
  | U, 0, n, h, i, h1, h2 => by
    have e : i = n := Nat.le_antisymm h2 h1
    rw [e]
    exact h
  | U, k + 1, n, h, i, h1, h2 => by
    by_cases c : newT n ∈ U
    · rw [nxt_in c] at h h2
      rcases Nat.eq_or_lt_of_le h1 with e | e
      · rw [← e]
        exact c
      · exact nxt_all U k (n + 1) h i e h2
    · rw [nxt_out c] at h
      exact absurd h c
theorem nxt_full : ∀ (U : List Str) (k n : Nat), newT (nxt U k n) ∈ U → nxt U k n = n + k
  | U, 0, n, _ => rfl
  | U, k + 1, n, h => by
    by_cases c : newT n ∈ U
    · rw [nxt_in c] at h ⊢
      have := nxt_full U k (n + 1) h
      omega
    · rw [nxt_out c] at h
      exact absurd h c
theorem nxt_new {U : List Str} {k n : Nat} (hk : U.length ≤ k) (hn : n + k < 200) : newT (nxt U k n) ∉ U := fun h => by
  have e := nxt_full U k n h
  have nd : ((List.range (k + 1)).map fun i => newT (n + i)).Nodup := by
    rw [List.Nodup, List.pairwise_map]
    refine List.Pairwise.imp_of_mem (fun {a b} ha hb hne q => hne ?_) (List.nodup_range (n := k + 1))
    have := new_inj (n := n + a) (m := n + b) (by have := List.mem_range.mp ha; omega) (by have := List.mem_range.mp hb; omega) q
    omega
  have := nodup_len _ U nd fun z hz => by
    obtain ⟨i, hi, rfl⟩ := List.mem_map.mp hz
    exact nxt_all U k n h (n + i) (by omega) (by have := List.mem_range.mp hi; omega)
  rw [List.length_map, List.length_range] at this
  omega
/-- the new names of the variables zs, behind the number n -/
def giv (U : List Str) : List Str → Nat → Prs2
  | [], _ => []
  | z :: zs, n => (z, newT (nxt U 30 (n + 1))) :: giv U zs (nxt U 30 (n + 1))
/-- the number behind the first i -/
def givN (U : List Str) : Nat → Nat → Nat
  | 0, n => n
  | i + 1, n => givN U i (nxt U 30 (n + 1))
theorem giv_keys (U : List Str) : ∀ (zs : List Str) (n : Nat), (giv U zs n).map Prod.fst = zs
  | [], _ => rfl
  | z :: zs, n => by rw [giv, List.map_cons, giv_keys U zs]
theorem givN_succ (U : List Str) : ∀ (i n : Nat), givN U (i + 1) n = nxt U 30 (givN U i n + 1)
  | 0, n => rfl
  | i + 1, n => givN_succ U i (nxt U 30 (n + 1))
theorem givN_le (U : List Str) : ∀ (i n : Nat), givN U i n ≤ n + 31 * i
  | 0, n => Nat.le_refl _
  | i + 1, n => by
    have h1 := givN_le U i (nxt U 30 (n + 1))
    have h2 := nxt_le U 30 (n + 1)
    show givN U i (nxt U 30 (n + 1)) ≤ _
    omega
theorem giv_take (U : List Str) : ∀ (zs : List Str) (i n : Nat) (z : Str), zs[i]? = some z → giv U (zs.take (i + 1)) n = giv U (zs.take i) n ++ [(z, newT (givN U (i + 1) n))]
  | [], i, n, z, h => by simp at h
  | y :: zs, 0, n, z, h => by
    have e : y = z := by simpa using h
    subst e
    rfl
  | y :: zs, i + 1, n, z, h => by
    have ih := giv_take U zs i (nxt U 30 (n + 1)) z (by simpa using h)
    rw [List.take_succ_cons, List.take_succ_cons, giv, giv, ih]
    rfl
theorem giv_ext {U U' : List Str} (h : ∀ z, z ∈ U ↔ z ∈ U') : ∀ (zs : List Str) (n : Nat), giv U zs n = giv U' zs n := by
  have key : ∀ k n, nxt U k n = nxt U' k n := fun k => by
    induction k with
    | zero => intro n; rfl
    | succ k ih =>
      intro n
      by_cases c : newT n ∈ U
      · rw [nxt_in c, nxt_in ((h _).mp c), ih]
      · rw [nxt_out c, nxt_out fun q => c ((h _).mpr q)]
  intro zs
  induction zs with
  | nil => intro n; rfl
  | cons z zs ih =>
    intro n
    rw [giv, giv, key, ih]
end L2.LawH
set_option Elab.async false
set_option linter.all false
set_option maxRecDepth 100000
set_option maxHeartbeats 4000000
/-! _law_given. -/
namespace L2.LawH
open PySem PySem.Spec PyProof.Rows L2.TxtDict
abbrev sGiven : Stmt := top 38
def allT (xs : List Pt) : List Str := xs.flatMap fun x => x.2.2
theorem op_inK {X : Cx} {K : PySem.W.Frag} (e : X.K = K) : OpR X (compareOp .In) (rIn K false) := by
  subst e
  exact op_in_seq
theorem log_of {n : Nat} (h : n < 200) : ((n : Int)).natAbs.log2 < 1920 := by
  have h9 : ((n : Int)).natAbs.log2 ≤ 11 := by
    by_cases z : ((n : Int)).natAbs = 0
    · rw [z]
      decide
    · refine Nat.le_of_lt ((Nat.log2_lt z).mpr ?_)
      have e2 : (2 : Nat) ^ 11 = 2048 := by decide
      rw [e2]
      omega
  omega
theorem new_sum {n : Nat} (h : n < 200) : (Str.ofString "new").length + ((toString (n : Int) : String) : Str).length ≤ sizeLine := by
  have l := (new_num h).2
  have e1 : (newT n).length = (Str.ofString "new").length + ((toString (n : Int) : String) : Str).length := by
    unfold newT
    rw [← length_toList, toList_append, List.length_append, length_toList, length_toList]
  rw [e1] at l
  rw [sizeLine_eq]
  omega
def spGiven : Sp := fun vs H Q _ => ∃ (q t : Addr) (xs : List Pt) (tk : List Str), vs = [.ref q, .ref t] ∧ H q = some (.lst (xs.map fun x => V.ref x.1)) ∧ LotAt H q xs ∧ (∀ x ∈ xs, ∀ z ∈ x.2.2, z.length ≤ 100) ∧ (frees xs).length ≤ 60 ∧ (uniq (frees xs)).length ≤ 6 ∧
  H t = some (.lst (tk.map V.str)) ∧ (tk ++ allT xs).length ≤ 30 ∧
  ∀ (H' : Hp) (d : Addr) (ys : List Str), Same H H' → H d = none → ys.Perm (uniq (frees xs)) → sortedS ys = true → MapAt H' d (giv (tk ++ allT xs) ys 0) → Q (.ref d) H'
section
variable {P : Program} {w : World} {K : PySem.W.Frag} {mg : Str → Option Value} {base : Heap}
abbrev nGi : List Str := ["_law_lot_here", "_law_taken", "_law_used", "_law_pattern_here", "_law_found", "_law_number", "_law_variable"]
theorem scGi : FnScope nGi ["_law_lot_here", "_law_taken"] (defScope sGiven) := ⟨rfl, rfl, rfl, by decide +kernel, rfl, by decide +kernel, by decide +kernel⟩
theorem ok_given {f fV : Addr} {fd fdV : FuncData} (F : Fun K "_law_given" "_law_given" sGiven f fd)
    (GV : FnOk P w K mg base CX0 2 fV fdV ["_law_lot_here"] spLVars) (kV : PySem.W.keepIn K (.ref fV) = true) (bV : Binds K fdV ["_law_lot_here"] []) (mV : mg "_law_variables" = some (.ref fV)) (ml : mg "list" = none) (ms : mg "str" = none) :
    FnOk P w K mg base CX0 3 f fd ["_law_lot_here", "_law_taken"] spGiven := by
  refine F.ok scGi (fun vs H Q E h => ?_) (fun cdv A outer s H vs Q E hr h => ?_)
  · obtain ⟨q, t, xs, tk, rfl, _⟩ := h
    rfl
  · obtain ⟨q, t, xs, tk, rfl, hq, lot, short, few, vars, ht, lU, k⟩ := h
    have hu := hu_of hr
    refine ⟨_, pss_cons (ps_set (i := 2) scGi.nd rfl (Or.inl rfl) (pe_callTy call_list_of (by rfl) ml (by decide +kernel) (pa_cons (pv 1) pa_nil)))
      (pss_cons (ps_for PassesOwn.never rfl (pi_list (pv 0)) (pg_name (i := 3) scGi.nd rfl (Or.inl rfl))
        (pss_one (ps_set (i := 2) scGi.nd rfl (Or.inl rfl) (pe_op op_cat (pv 2) (pe_callTy call_list_of (by rfl) ml (by decide +kernel) (pa_cons (pe_slice sl_tup (pv 3) (po_some pe_int) po_none) pa_nil))))))
      (pss_cons (ps_set (i := 4) scGi.nd rfl (Or.inl rfl) pe_dnewK)
      (pss_cons (ps_set (i := 5) scGi.nd rfl (Or.inl rfl) pe_int)
      (pss_cons (ps_for PassesOwn.never rfl (pi_list (pe_call GV hr (by rfl) mV kV bV .nil pass0 (pa_cons (pv 0) pa_nil))) (pg_name (i := 6) scGi.nd rfl (Or.inl rfl))
        (pss_cons (ps_set (i := 5) scGi.nd rfl (Or.inl rfl) (pe_op op_add (pv 5) pe_int))
        (pss_cons (ps_while PassesOwn.never (pt_cmpR (op_inK (K := K) rfl) (pe_op op_add_str pe_str (pe_callTy call_str_int (by rfl) ms (by decide +kernel) (pa_cons (pv 5) pa_nil))) (pv 2) (by rfl))
          (pss_one (ps_set (i := 5) scGi.nd rfl (Or.inl rfl) (pe_op op_add (pv 5) pe_int))))
        (pss_one (ps_dput hu (pv 4) (pv 6) (pe_op op_add_str pe_str (pe_callTy call_str_int (by rfl) ms (by decide +kernel) (pa_cons (pv 5) pa_nil))) (by rfl))))))
      (pss_one (ps_ret (pv 4))))))), ?_⟩
    refine ⟨_, rfl, t, _, rfl, .inl (SqL.of ht), fun u0 nu0 => ?_⟩
    have s0 : Same H (upd H u0 (.lst (tk.map V.str))) := same_new nu0
    have h0 : (upd H u0 (.lst (tk.map V.str))) u0 = some (.lst (tk.map V.str)) := upd_same
    generalize upd H u0 (.lst (tk.map V.str)) = H0 at s0 h0 ⊢
    have allT_take : ∀ {i : Nat} {x : Pt}, xs[i]? = some x → allT (xs.take (i + 1)) = allT (xs.take i) ++ x.2.2 := fun {i x} h => by
      unfold allT
      rw [List.take_succ, h]
      simp
    have allT_len : ∀ i, (allT (xs.take i)).length ≤ (allT xs).length := fun i => by
      have e : allT xs = allT (xs.take i) ++ allT (xs.drop i) := by
        unfold allT
        rw [← List.flatMap_append, List.take_append_drop]
      rw [e, List.length_append]
      omega
    refine ⟨_, rfl, q, rfl, ⟨_, SqL.of (s0 _ _ hq)⟩, ?_⟩
    refine for_it (L2.walk_list (K := K) (xs := xs.map fun x => V.ref x.1)) (fun i σ H5 => ∃ (u : Addr) (v3 : Option V), σ = [some (.ref q), some (.ref t), some (.ref u), v3, none, none, none] ∧ H5 u = some (.lst ((tk ++ allT (xs.take i)).map V.str)) ∧ Same H H5)
      ⟨u0, none, rfl, by rw [h0]; simp [allT], s0⟩ (fun i σ H5 hi p => let ⟨_, _, _, _, s⟩ := p; SqL.of (s _ _ hq)) (fun i z σ H5 H6 hi p yy => ?_) (fun σ H5 p => ?_)
    · obtain ⟨rfl, hz⟩ := yy
      obtain ⟨u, v3, rfl, h5, s5⟩ := p
      rw [List.getElem?_map] at hz
      obtain ⟨x, hx, rfl⟩ := Option.map_eq_some_iff.mp hz
      have hx6 := s5 _ _ (lot.each x (List.mem_of_getElem? hx))
      refine ⟨_, rfl, _, rfl, 1, rfl, x.1, _, rfl, SqT.of hx6, cut_part _ _, fun c1 nc1 => ?_⟩
      rw [cut_one]
      refine ⟨c1, _, rfl, .inr (SqT.of upd_same), fun c2 nc2 => ?_⟩
      have s8 : Same H6 (upd (upd H6 c1 (.tup (x.2.2.map V.str))) c2 (.lst (x.2.2.map V.str))) := fun b o h => same_new nc2 _ _ (same_new nc1 _ _ h)
      have l1 := allT_len i
      have l2 := allT_len (i + 1)
      rw [allT_take hx, List.length_append] at l2
      rw [List.length_append] at lU
      refine ⟨u, c2, _, _, rfl, rfl, s8 _ _ h5, upd_same, by rw [List.length_map, List.length_map, List.length_append, sizeLine_eq]; omega, fun u2 nu2 => ⟨u2, _, rfl, ?_, fun b o h => same_new nu2 _ _ (s8 _ _ (s5 _ _ h))⟩⟩
      rw [upd_same, ← List.map_append, List.append_assoc, ← allT_take hx]
    · obtain ⟨u, v3, rfl, h5, s5⟩ := p
      rw [List.length_map, List.take_length] at h5
      generalize hU : tk ++ allT xs = U at h5 lU k
      intro d nd
      have s6 : Same H5 (upd H5 d (.dK [])) := same_new nd
      have hd : (upd H5 d (.dK [])) d = some (.dK []) := upd_same
      have ndH : H d = none := by
        cases h : H d with
        | none => rfl
        | some o => rw [s5 _ _ h] at nd; cases nd
      generalize upd H5 d (.dK []) = H6 at s6 hd ⊢
      have lot6 := lot.same (fun b o h => s6 _ _ (s5 _ _ h))
      refine ⟨_, rfl, q, xs, rfl, s6 _ _ (s5 _ _ hq), lot6, short, few, fun yl ys H7 s7 ny pm so hy => ?_⟩
      have lys : ys.length ≤ 6 := by rw [pm.length_eq]; exact vars
      have ndy : ys.Nodup := pm.nodup_iff.mpr (uniq_nodup _)
      have hu7 := s7 _ _ (s6 _ _ h5)
      have hd7 := s7 _ _ hd
      have dn : d ≠ yl := fun e => by
        rw [← e, hd] at ny
        cases ny
      have dnu : u ≠ d := fun e => by
        rw [e, hd7] at hu7
        cases hu7
      refine ⟨yl, rfl, ⟨_, SqL.of hy⟩, ?_⟩
      refine for_it (L2.walk_list (K := K) (xs := ys.map V.str)) (fun i σ H8 => ∃ v6 : Option V, ∃ v3 : Option V, σ = [some (.ref q), some (.ref t), some (.ref u), v3, some (.ref d), some (.int (givN U i 0)), v6] ∧ H8 d = some (.dK (kd (giv U (ys.take i) 0))) ∧ ∀ b o, b ≠ d → H7 b = some o → H8 b = some o)
        ⟨none, _, rfl, hd7, fun _ _ _ h => h⟩ (fun i σ H8 hi p => let ⟨_, _, _, _, p3⟩ := p; SqL.of (p3 _ _ (Ne.symm dn) hy)) (fun i z σ H8 H9 hi p yy => ?_) (fun σ H8 p => ?_)
      · obtain ⟨rfl, hz⟩ := yy
        obtain ⟨v6, v3, rfl, p1, p2⟩ := p
        rw [List.length_map] at hi
        rw [List.getElem?_map] at hz
        obtain ⟨y, hy2, rfl⟩ := Option.map_eq_some_iff.mp hz
        have gl := givN_le U i 0
        have nl := nxt_le U 30 (givN U i 0 + 1)
        have nn : newT (nxt U 30 (givN U i 0 + 1)) ∉ U := nxt_new lU (by omega)
        have hu9 := p2 _ _ dnu hu7
        generalize hT : nxt U 30 (givN U i 0 + 1) = T at nl nn
        have eT : givN U (i + 1) 0 = T := by rw [givN_succ, hT]
        refine ⟨_, rfl, _, _, rfl, rfl, fun m σ HW => ∃ (n : Nat) (z : Int), σ = [some (.ref q), some (.ref t), some (.ref u), v3, some (.ref d), some (.int z), some (.str y)] ∧ z = n ∧ HW = H9 ∧ nxt U m n = T ∧ n ≤ T,
          ⟨30, givN U i 0 + 1, _, rfl, by omega, rfl, hT, nl.1⟩, ?_⟩
        rintro m σ HW ⟨n, z, rfl, rfl, rfl, e1, e2⟩
        refine ⟨_, rfl, _, rfl, log_of (by omega), _, _, rfl, rfl, new_sum (by omega), _, rfl, u, _, rfl, .inl (SqL.of hu9), rfl, flat_strs U, _, rfl, ?_⟩
        rw [if_neg Bool.false_ne_true, inV_strs]
        refine ite2 (fun c0 => ?_) (fun c0 => ?_)
        · have c : newT n ∈ U := of_decide_eq_true c0
          cases m with
          | zero =>
            have e3 : n = T := e1
            rw [← e3] at nn
            exact absurd c nn
          | succ m =>
            rw [nxt_in c] at e1
            refine ⟨fun σ' H' => ∃ (n : Nat) (z : Int), σ' = [some (.ref q), some (.ref t), some (.ref u), v3, some (.ref d), some (.int z), some (.str y)] ∧ z = n ∧ H' = HW ∧ nxt U m n = T ∧ n ≤ T, fun σ' H' w => ⟨m, Nat.lt_succ_self _, w⟩, ?_⟩
            have e3 := (nxt_le U m (n + 1)).1
            exact ⟨_, rfl, _, _, rfl, rfl, n + 1, _, rfl, by omega, rfl, e1, by omega⟩
        · have c : newT n ∉ U := fun h => c0 (decide_eq_true h)
          rw [nxt_out c] at e1
          subst e1
          have l1 : (kd (giv U (ys.take i) 0)).length < sizeLine := by
            have e := congrArg List.length (giv_keys U (ys.take i) 0)
            rw [List.length_map, List.length_take] at e
            rw [TxtDict.kd_len, e, sizeLine_eq]
            omega
          refine ⟨_, rfl, _, rfl, log_of (by omega), _, _, rfl, rfl, new_sum (by omega), _, rfl, _, rfl, d, _, rfl, DPut.k (k := Sum.inr y) p1 l1, _, v3, by rw [eT], ?_, fun b o hb h => ?_⟩
          · have fr : look (giv U (ys.take i) 0) y = none := look_none.mpr fun hm => by
              rw [giv_keys] at hm
              have nd2 : (ys.take (i + 1)).Nodup := (List.take_sublist (i + 1) ys).nodup ndy
              rw [List.take_succ, hy2] at nd2
              exact (List.nodup_append.mp nd2).2.2 _ hm _ (by simp) rfl
            rw [upd_same, kd_put, put_new fr, giv_take U ys i 0 y hy2, eT]
            rfl
          · rw [upd_ne hb]
            exact p2 b o hb h
      · obtain ⟨v6, v3, rfl, p1, p2⟩ := p
        rw [List.length_map, List.take_length] at p1
        exact ⟨_, rfl, k H8 d ys (fun b o h => p2 _ _ (fun e => by rw [e, ndH] at h; cases h) (s7 _ _ (s6 _ _ (s5 _ _ h)))) ndH pm so p1⟩
end
end L2.LawH
set_option Elab.async false
set_option linter.all false
set_option maxRecDepth 100000
set_option maxHeartbeats 4000000
/-! A dict comprehension with two `for`s, stored by a name of its own line. -/
namespace L2.Cmp
open PySem PySem.Spec PyProof.Rows
section
variable {X : Cx} {kx vx tg iter : Expr} {ifs : List Expr} {scope : Scope} {own : List (PySem.Str × Nat)} {pos spos : Pos} {wi : TI} {g : TG} {tt : TT} {tk tv : TE}
theorem swD_true {gs : List Comprehension} {py : Pos} {y : PySem.Str} {l : Nat} {env : Env} (hk : env.scope.kind = .function) (hy : env.scope.names.lookup y = some .local) (hl : (py.line == pos.line) = true)
    (ha : (scope.names.any fun (n, k) => n == y && (k == .local || k == .cell)) = false) : swapsWith (.DictComp kx vx gs scope pos) (some (.Name y py)) l env = pure true := by
  have ky : env.kindOf y = some .local := hy
  have hb : env.blockKind = .function := by unfold Env.blockKind; rw [hk]; rfl
  unfold swapsWith
  simp only [hb, ky, ha, Expr.pos, hl]
  rfl
theorem ps_setD2 {i : Nat} {y : PySem.Str} {py : Pos} {tg1 iter1 : Expr} {ifs1 : List Expr} {wi1 : TI} {g1 : TG} {tt1 : TT} {vs1 : List Nat} (hc : X.calm = true) (hN : X.N.Nodup) (hy : X.N[i]? = some y) (hyl : X.env.scope.names.lookup y = some .local)
    (hsw : swapsWith (.DictComp kx vx [⟨tg, iter, ifs, 0⟩, ⟨tg1, iter1, ifs1, 0⟩] scope pos) (some (.Name y py)) spos.line X.env = pure true) (hi : PI X tg iter wi) (ok : BlkOk X.N X.env.scope scope own) (hv : ∀ i ∈ vs1, i ∈ own.map (·.2))
    (hg : ∀ (s : Shared) (H : Hp) (C : Addr) (cl : List (PySem.Str × Addr)) (fp : List Addr), PG (X.blk s H scope (compEnvC scope cl C X.env) fp) tg g) (ht : ∀ (s : Shared) (H : Hp) (C : Addr) (cl : List (PySem.Str × Addr)) (fp : List Addr), PTs (X.blk s H scope (compEnvC scope cl C X.env) fp) ifs tt)
    (hi1 : ∀ (s : Shared) (H : Hp) (C : Addr) (cl : List (PySem.Str × Addr)) (fp : List Addr), PI (X.blk s H scope (compEnvC scope cl C X.env) fp) tg1 iter1 wi1)
    (hg1 : ∀ (s : Shared) (H : Hp) (C : Addr) (cl : List (PySem.Str × Addr)) (fp : List Addr), PG (X.blk s H scope (compEnvC scope cl C X.env) fp) tg1 g1) (ht1 : ∀ (s : Shared) (H : Hp) (C : Addr) (cl : List (PySem.Str × Addr)) (fp : List Addr), PTs (X.blk s H scope (compEnvC scope cl C X.env) fp) ifs1 tt1)
    (hk : ∀ (s : Shared) (H : Hp) (C : Addr) (cl : List (PySem.Str × Addr)) (fp : List Addr), PE (X.blk s H scope (compEnvC scope cl C X.env) fp) kx tk) (he : ∀ (s : Shared) (H : Hp) (C : Addr) (cl : List (PySem.Str × Addr)) (fp : List Addr), PE (X.blk s H scope (compEnvC scope cl C X.env) fp) vx tv)
    (hs : ∀ x, foldedSetIterable iter X.env x = pure x := by intro _; rfl) (hs1 : ∀ env x, foldedSetIterable iter1 env x = pure x := by intro _ _; rfl) :
    PS X (.Assign [.Name y py] (.DictComp kx vx [⟨tg, iter, ifs, 0⟩, ⟨tg1, iter1, ifs1, 0⟩] scope pos) spos) (tAsg (tDict2 wi g tt wi1 g1 tt1 tk tv (own.map (·.2)) vs1) (gName i)) := by
  refine ⟨fun pins s σ H DE I h => ?_⟩
  rw [exec_Assign_Name_used _ _ _ _ hsw]
  refine wpAny_bind (wpAny_standAt (wpAny_bind ?_))
  show wpAny _ X.A (do let _ ← comprehension (.DictComp kx vx [⟨tg, iter, ifs, 0⟩, ⟨tg1, iter1, ifs1, 0⟩] scope pos) scope X.env (firstIterPos [⟨tg, iter, ifs, 0⟩, ⟨tg1, iter1, ifs1, 0⟩] pos) newDict false (eval iter X.env) (some (assign (.Name y py) X.env))) _ _ s
  have h : tDict2 wi g tt wi1 g1 tt1 tk tv (own.map (·.2)) vs1 σ H (fun x H1 => gName i x σ H1 DE.nx) := h
  refine wpAny_bind (thn (block_any (Q := fun x H1 => gName i x σ H1 DE.nx) (Qf := fun _ s' => SP X pins DE .next s') (Rd := fun J D H1 => Walk J g tt (fun σ2 H2 C => wi1 σ2 H2 fun J1 H3 => Walk J1 g1 tt1 (tPut tk tv D) vs1 σ2 C H3) (own.map fun z : PySem.Str × Nat => z.2) σ (fun H => gName i (.ref D) σ H DE.nx) H1) (emp := fun _ => .dK []) (.inr (.inr ⟨_, _, _, _, _, rfl⟩)) rfl
    (fun q => wpAny_newObj_type q) (fun I' H' => dk_empty _ I'.big) hc hN I hi ok hs h
    (fun s3 H3 C cl fp it tn J L s4 T stat I4 st4 nfp rd => ?_) fun L C s' m H' I' q hn f => ?_) fun _ s' hq => wpAny_pure (wpAny_pure hq))
  · exact clause_ok (B := X.blk s3 H3 scope (compEnvC scope cl C X.env) fp) (tail := tailOut _ iter1 (.ref L) _ _) (p := iter.pos) (.inr (.inr ⟨_, _, _, _, _, rfl⟩)) rfl rfl rfl hc T (hg s3 H3 C cl fp) (ht s3 H3 C cl fp) stat
      (act_out (p1 := iter1.pos) (.inr (.inr ⟨_, _, _, _, _, rfl⟩)) rfl (fun it1 => rfl) rfl hc hv (hs1 _) (hi1 s3 H3 C cl fp) (hg1 s3 H3 C cl fp) (ht1 s3 H3 C cl fp) (emit_put (B := X.blk s3 H3 scope (compEnvC scope cl C X.env) fp) rfl (hk s3 H3 C cl fp) (he s3 H3 C cl fp))) rfl
      (fun s' H' I' d => ⟨H', I', d⟩) rd I4 st4 nfp
  · show wpAny _ _ (assign (.Name y py) X.env (.ref L)) _ _ _
    refine wpAny_assign_Name (store_ok2 (v := V.ref L) I' hN hy (.inl hyl) rfl (fun s2 I2 ⟨a, sb, ha⟩ => ?_) (.inr hyl))
    obtain ⟨f0, f1, f2, f3, f4, f5⟩ := f
    have haC : C ≠ a := by
      rcases ha with z | z
      · rw [z]; exact f1
      · exact fun e => f4 y a z e.symm
    refine ⟨m, hn.sameBut sb haC, fun h3 sb3 => ?_⟩
    exact ⟨_, H', I2.turned (t' := s2.toks) (fun b o hb e => (sb3.2 b hb).trans e) f0 f1 f3 f4 f5, q⟩
end
end L2.Cmp
set_option Elab.async false
set_option linter.all false
set_option maxRecDepth 100000
set_option maxHeartbeats 4000000
/-! store_with. -/
namespace L2.LawH
open PySem PySem.Spec PyProof.Rows L2.NSet PySem.W
abbrev sStoreWith : Stmt := top 18
def spStoreWith (C : Addr) (K : PySem.W.Frag) : Sp := fun vs H Q _ => ∃ (q : Addr) (xs : List Pt), vs = [.ref q] ∧ (SqL K H q (xs.map fun x => V.ref x.1) ∨ SqT K H q (xs.map fun x => V.ref x.1)) ∧
  (∀ x ∈ xs, H x.1 = some (.tup (ptV x))) ∧ xs.length < 63 ∧
  ∀ (H' : Hp) (p dx t d : Addr) (M : List Pt), Same H H' → H' p = some (.ins C dx (fsS t d)) → H' t = some (.tup (M.map fun x => V.ref x.1)) → H p = none → H t = none → H d = none →
    H' d = some (.dT (M.map fun x => (ptK x, V.bl true))) → (∀ x ∈ M, x ∈ xs) → (∀ x ∈ xs, x.2 ∈ M.map (·.2)) → (M.map (·.2)).Nodup → Rise (fun x : Pt => (ptM x).2.data) M → Q (.ref p) H'
section
variable {P : Program} {w : World} {K : PySem.W.Frag} {mg : Str → Option Value} {base : Heap}
abbrev nSW : List Str := ["facts", "store", "fact"]
theorem scSW : FnScope nSW ["facts"] (defScope sStoreWith) := ⟨rfl, rfl, rfl, by decide +kernel, rfl, by decide +kernel, by decide +kernel⟩
theorem ok_storeWith {f fI C T0 : Addr} {fd fdI : FuncData} (F : Fun K "store_with" "store_with" sStoreWith f fd) (T : StT K mg C) (M : Mk K C fI)
    (GI : FnOk P w K mg base CX0 5 fI fdI ["self", "facts"] (spInitS C K)) (bI : Binds K fdI ["self", "facts"] [.ref T0]) (hT0 : ∀ H, SqT K H T0 []) (mC : mg "Store" = some (.ref C))
    (ms : mg "sorted" = none) (mt : mg "tuple" = none) (mS : mg "set" = none) :
    FnOk P w K mg base CX0 7 f fd ["facts"] (spStoreWith C K) := by
  refine F.ok scSW (fun vs H Q E h => ?_) (fun cdv A outer s H vs Q E hr h => ?_)
  · obtain ⟨q, xs, rfl, _⟩ := h
    rfl
  · obtain ⟨q, xs, rfl, hq, each, few, k⟩ := h
    have hu := hr.units
    have hu1 := hu_of hr
    refine ⟨_, PSs.nox (pss_cons (ps_set (i := 1) scSW.nd rfl (Or.inl rfl) (pe_make0 M GI hr (by rfl) mC bI (dvs := [.ref T0]) (.cons rfl .nil) pass0))
      (pss_cons (ps_fld (pv 1) (pe_callTy call_tuple_of (by rfl) mt (by decide +kernel) (pa_cons (pe_callB (cr_sortNK (K := K) (P := P) (w := w) rfl rfl rfl rfl hu) (by rfl) ms (by decide +kernel) (pa_cons (pe_callTy (cr_setNK (K := K) (P := P) (w := w) rfl rfl rfl rfl hu) (by rfl) mS (by decide +kernel) (pa_cons (pv 0) pa_nil)) pa_nil)) pa_nil)) rfl)
      (pss_cons (ps_fld (pv 1) (Cmp.pe_dictT (own := [("fact", 2)]) (g := gName 2) (tt := tYes) rfl hu1 scSW.nd (pi_tup (pe_fld (pv 1) rfl))
        (blkOk_by (own := [("fact", 2)]) (N := nSW) (sc := defScope sStoreWith) (by decide +kernel)) (fun _ _ _ _ _ => pg_name (i := 2) scSW.nd rfl (Or.inl rfl)) (fun _ _ _ _ _ => pts_nil)
        (fun _ _ _ _ _ => pv 2) (fun _ _ _ _ _ => pe_bl)) rfl)
      (pss_one (ps_ret (pv 1)))))), ?_⟩
    intro p dx np ndx ne
    have sP : Same H (upd (upd H dx (.own p)) p (.ins C dx [])) := fun b o h => by
      rw [upd_ne (ne_of_none h np), upd_ne (ne_of_none h ndx)]
      exact h
    have hp0 : (upd (upd H dx (.own p)) p (.ins C dx [])) p = some (.ins C dx []) := upd_same
    generalize upd (upd H dx (.own p)) p (.ins C dx []) = H0 at sP hp0 ⊢
    have nxp : ∀ {b o}, H b = some o → b ≠ p := fun {b o} h e => by
      rw [e, np] at h
      cases h
    refine ⟨p, T0, dx, [], rfl, hp0, .inr (hT0 _), fun x h => (nomatch h), by decide, fun H1 t0 d0 M0 keep0 hp1 _ _ _ _ _ _ _ _ => ?_⟩
    have s1 : Same H H1 := fun b o h => keep0 _ _ (nxp h) (sP _ _ h)
    refine ⟨rfl, ?_⟩
    have each5 : ∀ x ∈ xs, H1 x.1 = some (.tup (ptV x)) := fun x hx => s1 _ _ (each x hx)
    have em : (xs.map ptM).map (fun z : Mem => V.ref z.1) = xs.map fun x => V.ref x.1 := by
      rw [List.map_map]
      rfl
    refine ⟨_, rfl, q, xs.map ptM, rfl, ?_, fun z hz => ?_, by rw [List.length_map]; omega, fun sa L ns sub all nd => ?_⟩
    · rw [em]
      exact hq.imp (fun e => e.ext s1) fun e => e.ext s1
    · obtain ⟨x, hx, rfl⟩ := List.mem_map.mp hz
      exact memOk_pt (each5 x hx)
    have s6 : Same H1 (upd H1 sa (SetN P w sa L)) := same_new ns
    have h6 : (upd H1 sa (SetN P w sa L)) sa = some (SetN P w sa L) := upd_same
    generalize upd H1 sa (SetN P w sa L) = H6 at s6 h6 ⊢
    refine ⟨sa, L, rfl, h6, fun z hz => ?_, fun d hd d2 hd2 => ?_, fun z hz => ?_, fun z hz => ?_, fun M l pM rM nl => ?_⟩
    · obtain ⟨x, hx, rfl⟩ := List.mem_map.mp (sub z hz)
      exact memOk_pt (s6 _ _ (each5 x hx))
    · obtain ⟨z, hz, rfl⟩ := List.mem_map.mp hd
      obtain ⟨z2, hz2, rfl⟩ := List.mem_map.mp hd2
      obtain ⟨x, hx, rfl⟩ := List.mem_map.mp (sub z hz)
      obtain ⟨x2, hx2, rfl⟩ := List.mem_map.mp (sub z2 hz2)
      exact alike_ptM x x2
    · obtain ⟨x, hx, rfl⟩ := List.mem_map.mp (sub z hz)
      exact ⟨_, rfl⟩
    · obtain ⟨x, hx, rfl⟩ := List.mem_map.mp (sub z hz)
      exact Nat.le_trans (ddepth_ptM x) (by decide)
    obtain ⟨Ms, rfl, subM⟩ := lift_sub ptM (xs := xs) (M := M) fun z hz => sub z (pM.mem_iff.mp hz)
    have ndM : (Ms.map (·.2)).Nodup := by
      have h := ((pM.map (·.2)).nodup_iff).mpr nd
      rw [List.map_map, List.Nodup, List.pairwise_map] at h
      rw [List.Nodup, List.pairwise_map]
      exact List.Pairwise.imp (fun {a b} h e => h (by show (ptM a).2 = (ptM b).2; unfold ptM; rw [show a.2.1 = b.2.1 by rw [e], show a.2.2 = b.2.2 by rw [e]])) h
    have rise : Rise (fun x : Pt => (ptM x).2.data) Ms := List.pairwise_map.mp rM
    have allM : ∀ x ∈ xs, x.2 ∈ Ms.map (·.2) := fun x hx => by
      obtain ⟨z, hz, e⟩ := List.mem_map.mp (all (ptM x) (List.mem_map.mpr ⟨x, hx, rfl⟩))
      obtain ⟨y, hy, rfl⟩ := List.mem_map.mp (pM.mem_iff.mpr hz)
      exact List.mem_map.mpr ⟨y, hy, ptM_inj e⟩
    have few2 : Ms.length ≤ 63 := by
      have := nodup_len (Ms.map (·.2)) (xs.map (·.2)) ndM fun c hc => by
        obtain ⟨y, hy, rfl⟩ := List.mem_map.mp hc
        exact List.mem_map.mpr ⟨y, subM y hy, rfl⟩
      rw [List.length_map, List.length_map] at this
      omega
    rw [List.map_map]
    refine ⟨l, _, rfl, .inl ⟨SqL.of upd_same, fun t nt => ?_⟩⟩
    have s7 : Same H1 (upd (upd H6 l (.lst (Ms.map ((fun z : Mem => V.ref z.1) ∘ ptM)))) t (.tup (Ms.map ((fun z : Mem => V.ref z.1) ∘ ptM)))) := fun b o h => same_new nt _ _ (same_new nl _ _ (s6 _ _ h))
    have h7 : (upd (upd H6 l (.lst (Ms.map ((fun z : Mem => V.ref z.1) ∘ ptM)))) t (.tup (Ms.map ((fun z : Mem => V.ref z.1) ∘ ptM)))) t = some (.tup (Ms.map fun x => V.ref x.1)) := upd_same
    generalize upd (upd H6 l (.lst (Ms.map ((fun z : Mem => V.ref z.1) ∘ ptM)))) t (.tup (Ms.map ((fun z : Mem => V.ref z.1) ∘ ptM))) = H7 at s7 h7 ⊢
    have pt : p ≠ t := fun e => by
      rw [← e] at nt
      rw [same_new nl _ _ (s6 _ _ hp1)] at nt
      cases nt
    have hp7 := s7 _ _ hp1
    refine ⟨_, rfl, p, C, dx, _, rfl, hp7, T.cl, T.nF, (by show 3 < 1000; decide), ?_⟩
    have a1 : (upd H7 p (.ins C dx (putF "_facts" (.ref t) (fsS t0 d0)))) p = some (.ins C dx (putF "_facts" (.ref t) (fsS t0 d0))) := upd_same
    have a2 : ∀ b o, b ≠ p → H7 b = some o → (upd H7 p (.ins C dx (putF "_facts" (.ref t) (fsS t0 d0)))) b = some o := fun b o nb h => by
      rw [upd_ne nb]
      exact h
    have a3 := a2 _ _ (Ne.symm pt) h7
    have eachM : ∀ x ∈ Ms, (upd H7 p (.ins C dx (putF "_facts" (.ref t) (fsS t0 d0)))) x.1 = some (.tup (ptV x)) := fun x hx => by
      refine a2 _ _ (fun e => ?_) (s7 _ _ (each5 x (subM x hx)))
      have h := each x (subM x hx)
      rw [e, np] at h
      cases h
    have ntH : H t = none := by
      cases h : H t with
      | none => rfl
      | some o => rw [same_new nl _ _ (s6 _ _ (s1 _ _ h))] at nt; cases nt
    generalize hH8 : upd H7 p (.ins C dx (putF "_facts" (.ref t) (fsS t0 d0))) = H8 at a1 a2 a3 eachM ⊢
    refine ⟨_, rfl, p, C, dx, _, .ref t, rfl, a1, T.cl, T.nF, rfl, t, rfl, ⟨_, SqT.of a3⟩, fun D nD => ?_⟩
    refine walk_tup (xs := Ms.map fun x => V.ref x.1) _ _ _ _ _ _ _ (fun i H9 => H9 D = some (.dT ((Ms.take i).map fun x => (ptK x, V.bl true))) ∧ Same H8 H9) ⟨upd_same, same_new nD⟩ (fun i H9 hi p => SqT.of (p.2 _ _ a3)) (fun i z H9 hz pp => ?_) (fun H9 pp => ?_)
    · obtain ⟨b1, b2⟩ := pp
      rw [List.getElem?_map] at hz
      obtain ⟨x, hx, rfl⟩ := Option.map_eq_some_iff.mp hz
      have mx : x ∈ Ms := List.mem_of_getElem? hx
      refine ⟨rfl, ?_⟩
      dsimp only [tYes]
      rw [if_pos rfl]
      have tk1 : Ms.take (i + 1) = Ms.take i ++ [x] := by
        rw [List.take_succ, hx]
        rfl
      have fresh : ptK x ∉ ((Ms.take i).map fun x => (ptK x, V.bl true)).map (·.1) := fun h => by
        rw [List.map_map] at h
        obtain ⟨y, hy, e⟩ := List.mem_map.mp h
        have nd2 : ((Ms.take (i + 1)).map (·.2)).Nodup := ((List.take_sublist (i + 1) Ms).map _).nodup ndM
        rw [tk1, List.map_append, List.nodup_append] at nd2
        exact nd2.2.2 _ (List.mem_map.mpr ⟨y, hy, rfl⟩) _ (by simp) (ptK_inj e)
      refine ⟨_, rfl, _, ptK x, x.1, rfl, by rw [ptK_V]; exact b2 _ _ (eachM x mx), b1, ?_, ?_, fun b o h => ?_⟩
      · rw [List.length_map, List.length_take, sizeLine_eq]
        omega
      · rw [upd_same, putK_new _ (valV_out fresh), tk1, List.map_append]
        rfl
      · rw [upd_ne (ne_of_none h nD)]
        exact b2 _ _ h
    · obtain ⟨b1, b2⟩ := pp
      rw [List.length_map, List.take_length] at b1
      have Dp' : D ≠ p := fun e => by
        rw [e, a1] at nD
        cases nD
      refine ⟨_, rfl, p, C, dx, _, rfl, b2 _ _ a1, T.cl, T.nH, (by show 3 < 1000; decide), ?_⟩
      refine ⟨_, rfl, ?_⟩
      refine k _ p dx t D Ms (fun b o h => ?_) upd_same ?_ np ntH ?_ ?_ subM allM ndM rise
      · rw [upd_ne (nxp h)]
        exact b2 _ _ (a2 _ _ (nxp h) (s7 _ _ (s1 _ _ h)))
      · rw [upd_ne (Ne.symm pt)]
        exact b2 _ _ a3
      · cases h : H D with
        | none => rfl
        | some o =>
          rw [a2 _ _ (nxp h) (s7 _ _ (s1 _ _ h))] at nD
          cases nD
      · rw [upd_ne Dp']
        exact b1
end
end L2.LawH
set_option Elab.async false
set_option linter.all false
set_option maxRecDepth 100000
set_option maxHeartbeats 4000000
/-! store_of. -/
namespace L2.LawH
open PySem PySem.Spec PyProof.Rows L2.TxtDict L2.NSet PySem.W
abbrev sStoreOf : Stmt := top 21
/-- a fact out of a pattern whose variables are all named -/
def nmd (m : Prs2) (z : Str) : Str := (look m z).getD z
theorem fill_nmd (m : Prs2) (z : Str) : fillV (kd m) z = .str (nmd m z) := by
  unfold fillV nmd
  rw [val_kd]
  cases look m z <;> rfl
theorem newF (n : Nat) : Str.empty ++ Str.ofString "new" ++ Str.ofString (toString (n : Int)) = newT n := by
  have e : ∀ a : Str, Str.empty ++ a = a := fun a => by
    have h : (Str.empty ++ a).cps.toList = a.cps.toList := by
      rw [toList_append]
      rfl
    exact str_of_cps h
  rw [e]
  rfl
theorem none_of8 {H H' : Hp} {a : Addr} (s : Same H H') (n : H' a = none) : H a = none := by
  cases h : H a with
  | none => rfl
  | some o => rw [s _ _ h] at n; cases n
def spStoreOf (C : Addr) (K : PySem.W.Frag) : Sp := fun vs H Q _ => ∃ (q t : Addr) (xs : List Pt) (tk : List Str), vs = [.ref q, .ref t] ∧ LotAt H q xs ∧ (∀ x ∈ xs, ∀ z ∈ x.2.2, 1 ≤ z.length ∧ z.length ≤ 100) ∧ (frees xs).length ≤ 60 ∧ (uniq (frees xs)).length ≤ 6 ∧
  (SqL K H t (tk.map V.str) ∨ SqT K H t (tk.map V.str)) ∧ (tk ++ allT xs).length ≤ 30 ∧ xs.length ≤ 20 ∧ (∀ x ∈ xs, x.2.2.length ≤ 3 ∧ ∀ ys : List Str, ys.Perm (uniq (frees xs)) → factB (.str (nmd (giv (tk ++ allT xs) ys 0) x.2.1) :: (x.2.2.map (nmd (giv (tk ++ allT xs) ys 0))).map V.str) = true ∧
    ∀ z ∈ x.2.1 :: x.2.2, (nmd (giv (tk ++ allT xs) ys 0) z).length ≤ 100000) ∧
  ∀ (H' : Hp) (r s d t' dh dx : Addr) (ys : List Str) (M : List Pt), Same H H' → ys.Perm (uniq (frees xs)) → sortedS ys = true → H' r = some (.tup [.ref s, .ref d]) → MapAt H' d (giv (tk ++ allT xs) ys 0) → H d = none →
    H' s = some (.ins C dx (fsS t' dh)) → H' t' = some (.tup (M.map fun x => V.ref x.1)) → (∀ x ∈ M, H' x.1 = some (.tup (ptV x))) → H' dh = some (.dT (M.map fun x => (ptK x, V.bl true))) →
    (∀ c, c ∈ M.map (·.2) ↔ c ∈ xs.map fun x => (nmd (giv (tk ++ allT xs) ys 0) x.2.1, x.2.2.map (nmd (giv (tk ++ allT xs) ys 0)))) → (M.map (·.2)).Nodup → Rise (fun x : Pt => (ptM x).2.data) M → Q (.ref r) H'
section
variable {P : Program} {w : World} {K : PySem.W.Frag} {mg : Str → Option Value} {base : Heap}
abbrev nSO : List Str := ["lot", "taken", "used", "pattern", "term", "names", "number", "name"]
theorem scSO : FnScope nSO ["lot", "taken"] (defScope sStoreOf) := ⟨rfl, rfl, rfl, by decide +kernel, rfl, by decide +kernel, by decide +kernel⟩
theorem ok_storeOf {f fV fF fW C : Addr} {fd fdV fdF fdW : FuncData} {T0 : V} (F : FunD K "store_of" "store_of" (defArgs sStoreOf) (defBody sStoreOf) (defScope sStoreOf) [T0] [] f fd)
    (GW : FnOk P w K mg base CX0 7 fW fdW ["facts"] (spStoreWith C K)) (kW : PySem.W.keepIn K (.ref fW) = true) (bW : Binds K fdW ["facts"] []) (mW : mg "store_with" = some (.ref fW))
    (GV : FnOk P w K mg base CX0 2 fV fdV ["lot"] spVars) (kV : PySem.W.keepIn K (.ref fV) = true) (bV : Binds K fdV ["lot"] []) (mV : mg "variables_of" = some (.ref fV))
    (GF : FnOk P w K mg base CX0 1 fF fdF ["pattern", "known"] spFil) (kF : PySem.W.keepIn K (.ref fF) = true) (bF : Binds K fdF ["pattern", "known"] []) (mF : mg "filled" = some (.ref fF)) :
    FnOk P w K mg base CX0 8 f fd ["lot", "taken"] (spStoreOf C K) := by
  refine F.ok scSO (fun vs H Q E h => ?_) (fun cdv A outer s H vs Q E hr h => ?_)
  · obtain ⟨q, t, xs, tk, rfl, _⟩ := h
    rfl
  · obtain ⟨q, t, xs, tk, rfl, lot, shape, few, vars, ht, lU, lx, facts, k⟩ := h
    have hu := hu_of hr
    have hr1 : Room 1 _ := hr.mono (by decide)
    have hr2 : Room 2 _ := hr.mono (by decide)
    refine ⟨_, PSs.nox (pss_cons (Cmp.ps_setD2 (i := 2) (own := [("pattern", 3), ("term", 4)]) (vs1 := [4]) (g := gName 3) (g1 := gName 4) (tt := tYes) (tt1 := tYes) rfl scSO.nd rfl rfl (Cmp.swD_true rfl rfl rfl (by decide +kernel)) (pi_seq (pv 0))
        (blkOk_by (own := [("pattern", 3), ("term", 4)]) (N := nSO) (sc := defScope sStoreOf) (by decide +kernel)) (by decide)
        (fun _ _ _ _ _ => pg_name (i := 3) scSO.nd rfl (Or.inl rfl)) (fun _ _ _ _ _ => pts_nil)
        (fun _ _ _ _ _ => pi_tupK (K := K) rfl (pe_slice (sl_tupK (K := K) rfl) (pv 3) (po_some pe_int) po_none))
        (fun _ _ _ _ _ => pg_name (i := 4) scSO.nd rfl (Or.inl rfl)) (fun _ _ _ _ _ => pts_nil)
        (fun _ _ _ _ _ => pv 4) (fun _ _ _ _ _ => pe_bl))
      (pss_cons (ps_set (i := 5) scSO.nd rfl (Or.inr rfl) pe_dnewK)
      (pss_cons (ps_set (i := 6) scSO.nd rfl (Or.inl rfl) pe_int)
      (pss_cons (ps_for PassesOwn.never rfl (pi_list (pe_call GV hr2 (by rfl) mV kV bV .nil pass0 (pa_cons (pv 0) pa_nil))) (pg_name (i := 7) scSO.nd rfl (Or.inl rfl))
        (pss_cons (ps_aug (i := 6) scSO.nd rfl (Or.inl rfl) pe_int ip_add)
        (pss_cons (ps_while PassesOwn.never (PW.pt (pw_or (pt_cmp (pc_din hu (pe_joined (.cons pe_str (.cons (pe_fmt (pv 6)) .nil))) (pv 2)))
            (pw_or1 (pt_cmpR (op_inK (K := K) rfl) (pe_joined (.cons pe_str (.cons (pe_fmt (pv 6)) .nil))) (pv 1) (by rfl)))))
          (pss_one (ps_aug (i := 6) scSO.nd rfl (Or.inl rfl) pe_int ip_add)))
        (pss_one (ps_dput hu (pv 5) (pv 7) (pe_joined (.cons pe_str (.cons (pe_fmt (pv 6)) .nil))) (by rfl))))))
      (pss_one (ps_ret (pe_tup (pa_cons (pe_call GW hr (by rfl) mW kW bW .nil pass0 (pa_cons (pe_lc (own := [("pattern", 3)]) (g := gName 3) (tt := tYes) rfl scSO.nd (pi_seq (pv 0))
          (blkOk_by (own := [("pattern", 3)]) (N := nSO) (sc := defScope sStoreOf) (by decide +kernel)) (fun _ _ _ _ _ => pg_name (i := 3) scSO.nd rfl (Or.inl rfl)) (fun _ _ _ _ _ => pts_nil)
          (fun _ _ _ _ _ => pe_call GF hr1 (by rfl) mF kF bF .nil pass0 (pa_cons (pv 3) (pa_cons (pv 5) pa_nil)))) pa_nil)) (pa_cons (pv 5) pa_nil))))))))), ?_⟩
    have allT_take : ∀ {i : Nat} {x : Pt}, xs[i]? = some x → allT (xs.take (i + 1)) = allT (xs.take i) ++ x.2.2 := fun {i x} h => by
      unfold allT
      rw [List.take_succ, h]
      simp
    have allT_len : ∀ i, (allT (xs.take i)).length ≤ (allT xs).length := fun i => by
      have e : allT xs = allT (xs.take i) ++ allT (xs.drop i) := by
        unfold allT
        rw [← List.flatMap_append, List.take_append_drop]
      rw [e, List.length_append]
      omega
    have lA : (allT xs).length ≤ 30 := by
      rw [List.length_append] at lU
      omega
    -- used
    have main : ∀ (J : It) (Sq : Hp → Prop), WalkR J Sq (xs.map fun x => V.ref x.1) → (∀ H', Same H H' → Sq H') → ∀ (Qd : Hp → Prop) (D : Addr), H D = none → (∀ (H' : Hp) (kvs : List (L2.Key × V)), Same H H' → H' D = some (.dK kvs) → (∀ z, (valV kvs (Sum.inr z)).isSome = decide (z ∈ allT xs)) → Qd H') →
        Cmp.Walk J (gName 3) tYes (fun σ2 H2 C => iTup K (tSl (rSlT K) (tVar 3) (tPart (tC (.int 1))) tNoPart) σ2 H2 fun J1 H3 => Cmp.Walk J1 (gName 4) tYes (Cmp.tPut (tVar 4) (tC (.bl true)) D) [4] σ2 C H3) [3, 4] [some (.ref q), some (.ref t), none, none, none, none, none, none] Qd (upd H D (.dK [])) := by
      intro J Sq wr st Qd D nD hd
      refine wr _ _ _ _ _ _ _ (fun i H5 => ∃ kvs : List (L2.Key × V), H5 D = some (.dK kvs) ∧ kvs.length ≤ (allT (xs.take i)).length ∧ (∀ z, (valV kvs (Sum.inr z)).isSome = decide (z ∈ allT (xs.take i))) ∧ Same H H5) ⟨[], upd_same, Nat.zero_le _, fun z => by simp [allT, valV], same_new nD⟩ (fun i H5 hi p => let ⟨_, _, _, _, s⟩ := p; st _ s) (fun i x H5 hx p => ?_) fun H5 p => ?_
      · obtain ⟨kvs, p1, p2, p3, p4⟩ := p
        rw [List.getElem?_map] at hx
        obtain ⟨y, hy, rfl⟩ := Option.map_eq_some_iff.mp hx
        have ty := lot.each y (List.mem_of_getElem? hy)
        have l2 := allT_len (i + 1)
        have l3 := allT_take hy
        rw [l3, List.length_append] at l2
        refine ⟨rfl, ?_⟩
        dsimp only [tYes]
        rw [if_pos rfl]
        refine ⟨_, rfl, _, rfl, y.1, _, rfl, SqT.of (p4 _ _ ty), cut_part _ _, fun u nu => ⟨u, rfl, ⟨_, SqT.of upd_same⟩, ?_⟩⟩
        rw [cut_one]
        have uD : u ≠ D := fun e => by
          rw [e, p1] at nu
          cases nu
        refine walk_tup (xs := y.2.2.map V.str) _ _ _ _ _ _ _ (fun j H6 => ∃ kvs : List (L2.Key × V), H6 D = some (.dK kvs) ∧ kvs.length ≤ (allT (xs.take i)).length + j ∧ (∀ z, (valV kvs (Sum.inr z)).isSome = decide (z ∈ allT (xs.take i) ++ y.2.2.take j)) ∧ Same H H6 ∧ H6 u = some (.tup (y.2.2.map V.str)))
          ⟨kvs, by rw [upd_ne (Ne.symm uD)]; exact p1, p2, fun z => by rw [p3]; simp, fun b o h => same_new nu _ _ (p4 _ _ h), upd_same⟩ (fun j H6 hj p => let ⟨_, _, _, _, _, h⟩ := p; SqT.of h) (fun j x H6 hx p => ?_) (fun H6 p => ?_)
        · obtain ⟨kv2, r1, r2, r3, r4, r5⟩ := p
          rw [List.getElem?_map] at hx
          obtain ⟨z, hz, rfl⟩ := Option.map_eq_some_iff.mp hx
          have lj : j < y.2.2.length := (List.getElem?_eq_some_iff.mp hz).1
          have tk1 : y.2.2.take (j + 1) = y.2.2.take j ++ [z] := by
            rw [List.take_succ, hz]
            rfl
          refine ⟨rfl, ?_⟩
          dsimp only [tYes]
          rw [if_pos rfl]
          refine ⟨_, rfl, kv2, Sum.inr z, rfl, r1, by rw [sizeLine_eq]; omega, putK kv2 (Sum.inr z) (.bl true), upd_same, ?_, fun z2 => ?_, fun b o h => ?_, ?_⟩
          · have := length_putK kv2 (Sum.inr z : L2.Key) (.bl true)
            omega
          · rw [valV_put, tk1, ← List.append_assoc]
            by_cases c : (Sum.inr z2 : L2.Key) = Sum.inr z
            · rw [if_pos c]
              have c2 := Sum.inr.inj c
              simp [c2]
            · rw [if_neg c, r3]
              have c2 : z2 ≠ z := fun e => c (by rw [e])
              simp [c2]
          · rw [upd_ne (ne_of_none h nD)]
            exact r4 _ _ h
          · rw [upd_ne uD]
            exact r5
        · obtain ⟨kv2, r1, r2, r3, r4, r5⟩ := p
          rw [List.length_map, List.take_length] at r3
          rw [List.length_map] at r2
          exact ⟨kv2, r1, by rw [l3, List.length_append]; exact r2, fun z => by rw [r3, l3], r4⟩
      · obtain ⟨kvs, p1, p2, p3, p4⟩ := p
        rw [List.length_map, List.take_length] at p3
        exact hd H5 kvs p4 p1 p3
    have f1 : (Str.empty ++ Str.ofString "new").length ≤ sizeLine := by
      have : (Str.empty ++ Str.ofString "new").length = 3 := by decide +kernel
      rw [this, sizeLine_eq]
      decide
    have f2 : ∀ {n : Nat}, n < 200 → (Str.empty ++ Str.ofString "new" ++ Str.ofString (toString (n : Int))).length ≤ sizeLine := fun {n} hn => by
      rw [newF, sizeLine_eq]
      exact Nat.le_trans (new_num hn).2 (by decide)
    refine ⟨_, rfl, q, rfl, ?_⟩
    rcases lot.sq with hq | hq
    refine .inl ⟨⟨_, SqL.of hq⟩, fun D nD => main _ _ walk_list (fun H' s => SqL.of (s _ _ hq)) _ D nD ?_⟩
    rotate_left
    refine .inr ⟨⟨_, SqT.of hq⟩, fun D nD => main _ _ walk_tup (fun H' s => SqT.of (s _ _ hq)) _ D nD ?_⟩
    all_goals
      intro H1 kvs s1 hD1 hkv
      intro d nd
      have s2 : Same H1 (upd H1 d (.dK [])) := same_new nd
      have hd2 : (upd H1 d (.dK [])) d = some (.dK []) := upd_same
      have ndH : H d = none := by
        cases h : H d with
        | none => rfl
        | some o => rw [s1 _ _ h] at nd; cases nd
      generalize upd H1 d (.dK []) = H2 at s2 hd2 ⊢
      have s02 : Same H H2 := fun b o h => s2 _ _ (s1 _ _ h)
      refine ⟨_, rfl, q, xs, rfl, lot.same s02, shape, few, fun yl ys H3 s3 ny pm so hy => ?_⟩
      have lys : ys.length ≤ 6 := by rw [pm.length_eq]; exact vars
      have ndy : ys.Nodup := pm.nodup_iff.mpr (uniq_nodup _)
      have hd3 := s3 _ _ hd2
      have hD3 := s3 _ _ (s2 _ _ hD1)
      have dD : D ≠ d := ne_of_none hD1 nd
      have dn : yl ≠ d := fun e => by
        rw [e, hd2] at ny
        cases ny
      have facts2 := fun x hx => (facts x hx).1
      have facts3 := fun x hx => (facts x hx).2 ys pm
      have k2 := fun H' r s d t' dh dx M => k H' r s d t' dh dx ys M
      generalize hU : tk ++ allT xs = U at lU facts3 k2
      have inU : ∀ z, z ∈ U ↔ z ∈ allT xs ∨ z ∈ tk := fun z => by
        rw [← hU, List.mem_append]
        exact Or.comm
      refine ⟨yl, rfl, ⟨_, SqL.of hy⟩, ?_⟩
      refine for_it (L2.walk_list (K := K) (xs := ys.map V.str)) (fun i σ H8 => ∃ v7 v3 v4 : Option V, σ = [some (.ref q), some (.ref t), some (.ref D), v3, v4, some (.ref d), some (.int (givN U i 0)), v7] ∧ H8 d = some (.dK (kd (giv U (ys.take i) 0))) ∧ ∀ b o, b ≠ d → H3 b = some o → H8 b = some o)
        ⟨none, _, _, rfl, hd3, fun _ _ _ h => h⟩ (fun i σ H8 hi p => let ⟨_, _, _, _, _, p3⟩ := p; SqL.of (p3 _ _ dn hy)) (fun i z σ H8 H9 hi p yy => ?_) (fun σ H8 p => ?_)
      · obtain ⟨rfl, hz⟩ := yy
        obtain ⟨v7, v3, v4, rfl, p1, p2⟩ := p
        rw [List.length_map] at hi
        rw [List.getElem?_map] at hz
        obtain ⟨y, hy2, rfl⟩ := Option.map_eq_some_iff.mp hz
        have gl := givN_le U i 0
        have nl := nxt_le U 30 (givN U i 0 + 1)
        have nn : newT (nxt U 30 (givN U i 0 + 1)) ∉ U := nxt_new lU (by omega)
        have hD9 : H9 D = some (.dK kvs) := p2 _ _ dD hD3
        have s09 : Same H H9 := fun b o h => p2 _ _ (fun e => by rw [e, ndH] at h; cases h) (s3 _ _ (s02 _ _ h))
        have ht9 : SqL K H9 t (tk.map V.str) ∨ SqT K H9 t (tk.map V.str) := ht.imp (fun h => s09.seq h) fun h => SqT.ext h s09
        generalize hT : nxt U 30 (givN U i 0 + 1) = T' at nl nn
        have eT : givN U (i + 1) 0 = T' := by rw [givN_succ, hT]
        refine ⟨_, rfl, _, _, rfl, rfl, fun m σ HW => ∃ (n : Nat) (z : Int), σ = [some (.ref q), some (.ref t), some (.ref D), v3, v4, some (.ref d), some (.int z), some (.str y)] ∧ z = n ∧ HW = H9 ∧ nxt U m n = T' ∧ n ≤ T',
          ⟨30, givN U i 0 + 1, _, rfl, (by show ((givN U i 0 : Int) + 1) = ((givN U i 0 + 1 : Nat) : Int); omega), rfl, hT, nl.1⟩, ?_⟩
        rintro m σ HW ⟨n, z, rfl, rfl, rfl, e1, e2⟩
        -- the name is taken, by a term or otherwise
        have again : newT n ∈ U → ∃ N : St → Hp → Prop, (∀ σ' H', N σ' H' → ∃ m', m' < m ∧ ∃ (n : Nat) (z : Int), σ' = [some (.ref q), some (.ref t), some (.ref D), v3, v4, some (.ref d), some (.int z), some (.str y)] ∧ z = n ∧ H' = HW ∧ nxt U m' n = T' ∧ n ≤ T') ∧
            N [some (.ref q), some (.ref t), some (.ref D), v3, v4, some (.ref d), some (.int ((n : Int) + 1)), some (.str y)] HW := fun c => by
          cases m with
          | zero =>
            have e3 : n = T' := e1
            rw [← e3] at nn
            exact absurd c nn
          | succ m =>
            rw [nxt_in c] at e1
            have e3 := (nxt_le U m (n + 1)).1
            exact ⟨fun σ' H' => ∃ (n : Nat) (z : Int), σ' = [some (.ref q), some (.ref t), some (.ref D), v3, v4, some (.ref d), some (.int z), some (.str y)] ∧ z = n ∧ H' = HW ∧ nxt U m n = T' ∧ n ≤ T', fun σ' H' w => ⟨m, Nat.lt_succ_self _, w⟩, n + 1, _, rfl, by omega, rfl, e1, by omega⟩
        refine ⟨_, rfl, f1, _, rfl, .inr ⟨(n : Int), rfl, log_of (by omega), _, rfl, f2 (by omega), ?_⟩⟩
        refine ⟨_, rfl, D, valV kvs (Sum.inr (newT n)), rfl, .inl ⟨kvs, Sum.inr (newT n), .inl hD9, by rw [newF]; rfl, rfl⟩, _, rfl, ?_⟩
        rw [hkv]
        by_cases c1 : newT n ∈ allT xs
        · rw [decide_eq_true c1]
          obtain ⟨N, hN, w⟩ := again ((inU _).mpr (.inl c1))
          exact iteT ⟨N, hN, _, rfl, _, _, rfl, rfl, w⟩
        · rw [decide_eq_false c1]
          refine iteF ?_
          refine ⟨_, rfl, f1, _, rfl, .inr ⟨(n : Int), rfl, log_of (by omega), _, rfl, f2 (by omega), ?_⟩⟩
          refine ⟨_, rfl, t, _, rfl, ht9, rfl, flat_strs tk, _, rfl, ?_⟩
          rw [if_neg Bool.false_ne_true, newF, inV_strs]
          refine ite2 (fun c0 => ?_) (fun c0 => ?_)
          · have c : newT n ∈ tk := of_decide_eq_true c0
            obtain ⟨N, hN, w⟩ := again ((inU _).mpr (.inr c))
            exact ⟨N, hN, _, rfl, _, _, rfl, rfl, w⟩
          · have c : newT n ∉ U := fun h => ((inU _).mp h).elim c1 fun h => c0 (decide_eq_true h)
            rw [nxt_out c] at e1
            subst e1
            have l1 : (kd (giv U (ys.take i) 0)).length < sizeLine := by
              have e := congrArg List.length (giv_keys U (ys.take i) 0)
              rw [List.length_map, List.length_take] at e
              rw [TxtDict.kd_len, e, sizeLine_eq]
              omega
            refine ⟨_, rfl, f1, _, rfl, .inr ⟨(n : Int), rfl, log_of (by omega), _, rfl, f2 (by omega), ?_⟩⟩
            refine ⟨_, rfl, _, rfl, d, _, rfl, DPut.k (k := Sum.inr y) p1 l1, _, _, _, by rw [eT], ?_, fun b o hb h => ?_⟩
            · have fr : look (giv U (ys.take i) 0) y = none := look_none.mpr fun hm => by
                rw [giv_keys] at hm
                have nd2 : (ys.take (i + 1)).Nodup := (List.take_sublist (i + 1) ys).nodup ndy
                rw [List.take_succ, hy2] at nd2
                exact (List.nodup_append.mp nd2).2.2 _ hm _ (by simp) rfl
              rw [upd_same, newF, kd_put, put_new fr, giv_take U ys i 0 y hy2, eT]
            · rw [upd_ne hb]
              exact p2 b o hb h
      · obtain ⟨v7, v3, v4, rfl, p1, p2⟩ := p
        rw [List.length_map, List.take_length] at p1
        have s08 : Same H H8 := fun b o h => p2 _ _ (fun e => by rw [e, ndH] at h; cases h) (s3 _ _ (s02 _ _ h))
        generalize hmp : giv U ys 0 = mp at p1 facts3 k2
        have step : ∀ (L : Addr), H8 L = none → ∀ (i : Nat) (z : V) (HA HB : Hp), i < (xs.map fun x => V.ref x.1).length → (∃ Fs : List Pt, HA L = some (.lst (Fs.map fun x => V.ref x.1)) ∧ Fs.map (·.2) = (xs.take i).map (fun x => (nmd mp x.2.1, x.2.2.map (nmd mp))) ∧ (∀ x ∈ Fs, HA x.1 = some (.tup (ptV x)) ∧ x.1 ≠ L) ∧ Same H8 HA) →
            YAt (xs.map fun x => V.ref x.1) i HA z HB → ∃ x : Pt, z = .ref x.1 ∧ HB = HA ∧ xs[i]? = some x ∧ HA x.1 = some (.tup ((x.2.1 :: x.2.2).map V.str)) ∧ ∀ (u : Addr) (H' : Hp), Same HA H' → HA u = none → H' u = some (.tup ((x.2.1 :: x.2.2).map (fillV (kd mp)))) →
              ∃ acc, H' L = some (.lst acc) ∧ acc.length < sizeLine ∧ ∃ Fs : List Pt, (upd H' L (.lst (acc ++ [.ref u]))) L = some (.lst (Fs.map fun x => V.ref x.1)) ∧ Fs.map (·.2) = (xs.take (i + 1)).map (fun x => (nmd mp x.2.1, x.2.2.map (nmd mp))) ∧ (∀ x ∈ Fs, (upd H' L (.lst (acc ++ [.ref u]))) x.1 = some (.tup (ptV x)) ∧ x.1 ≠ L) ∧ Same H8 (upd H' L (.lst (acc ++ [.ref u]))) := fun L nL i z HA HB hi pp yy => by
          obtain ⟨rfl, hz⟩ := yy
          obtain ⟨Fs, b1, b2, b3, b4⟩ := pp
          rw [List.getElem?_map] at hz
          obtain ⟨x, hx, rfl⟩ := Option.map_eq_some_iff.mp hz
          refine ⟨x, rfl, rfl, hx, b4 _ _ (s08 _ _ (lot.each x (List.mem_of_getElem? hx))), fun u H' s' nu hu' => ⟨_, s' _ _ b1, ?_, Fs ++ [(u, nmd mp x.2.1, x.2.2.map (nmd mp))], by rw [upd_same, List.map_append]; rfl, ?_, fun y hy => ?_, fun b o h => ?_⟩⟩
          · have e := congrArg List.length b2
            rw [List.length_map, List.length_map, List.length_take] at e
            rw [List.length_map, sizeLine_eq]
            omega
          · rw [List.map_append, b2, List.take_succ, hx]
            simp
          · have uL : u ≠ L := fun e => by
              rw [e, b1] at nu
              cases nu
            rcases List.mem_append.mp hy with hy | hy
            · obtain ⟨c1, c2⟩ := b3 y hy
              exact ⟨by rw [upd_ne c2]; exact s' _ _ c1, c2⟩
            · rw [List.mem_singleton.mp hy]
              refine ⟨?_, uL⟩
              show (upd H' L _) u = _
              rw [upd_ne uL, hu', List.map_cons, fill_nmd, ptV]
              have e : x.2.2.map (fillV (kd mp)) = (x.2.2.map (nmd mp)).map V.str := by
                rw [List.map_map]
                exact List.map_congr_left fun z _ => fill_nmd mp z
              rw [e]
          · rw [upd_ne (ne_of_none h nL)]
            exact s' _ _ (b4 _ _ h)
        have fin : ∀ (L : Addr), H8 L = none → ∀ HA : Hp, (∃ Fs : List Pt, HA L = some (.lst (Fs.map fun x => V.ref x.1)) ∧ Fs.map (·.2) = xs.map (fun x => (nmd mp x.2.1, x.2.2.map (nmd mp))) ∧ (∀ x ∈ Fs, HA x.1 = some (.tup (ptV x)) ∧ x.1 ≠ L) ∧ Same H8 HA) →
            ∀ (Q2 : VK), (∀ x H2, (∀ r, H2 r = none → Q (.ref r) (upd H2 r (.tup [.ref x, .ref d]))) → Q2 (.ref x) H2) →
            spStoreWith C K [.ref L] HA Q2 E0 := fun L nL HA pp Q2 hQ2 => by
          obtain ⟨Fs, b1, b2, b3, b4⟩ := pp
          have old : ∀ y ∈ Fs, ∃ z ∈ xs, (nmd mp z.2.1, z.2.2.map (nmd mp)) = y.2 := fun y hy => by
            have h : y.2 ∈ Fs.map (·.2) := List.mem_map.mpr ⟨y, hy, rfl⟩
            rw [b2] at h
            obtain ⟨z, hz, e⟩ := List.mem_map.mp h
            exact ⟨z, hz, e⟩
          have lF : Fs.length = xs.length := by
            have e := congrArg List.length b2
            simpa using e
          refine ⟨L, Fs, rfl, .inl (SqL.of b1), fun y hy => (b3 y hy).1, by omega, fun H' x dx t' dh M keep hp ht' nx nt nh hdh sub all ndM rise => hQ2 x H' fun r nr => ?_⟩
          have r1 : ∀ b o, H' b = some o → (upd H' r (.tup [.ref x, .ref d])) b = some o := fun b o h => by
            rw [upd_ne (ne_of_none h nr)]
            exact h
          have up8 : ∀ b o, H8 b = some o → H' b = some o := fun b o h => keep b o (b4 _ _ h)
          refine k2 _ r x d t' dh dx M (fun b o h => r1 _ _ (up8 _ _ (s08 _ _ h))) pm so upd_same (r1 _ _ (up8 _ _ p1)) ndH (r1 _ _ hp) (r1 _ _ ht') (fun y hy => r1 _ _ (keep _ _ (b3 y (sub y hy)).1)) (r1 _ _ hdh) (fun c => ?_) ndM rise
          rw [← b2]
          constructor
          · intro h
            obtain ⟨y, hy, rfl⟩ := List.mem_map.mp h
            exact List.mem_map.mpr ⟨y, sub y hy, rfl⟩
          · intro h
            obtain ⟨y, hy, rfl⟩ := List.mem_map.mp h
            exact all y hy
        have el : (xs.map fun x => V.ref x.1).length = xs.length := List.length_map ..
        have hq8 := s08 _ _ hq
        first
          | refine ⟨_, rfl, q, rfl, .inl ⟨⟨_, SqL.of hq8⟩, fun L nL => lc_it (L2.walk_list (K := K) (xs := xs.map fun x => V.ref x.1)) (fun i HA => ∃ Fs : List Pt, HA L = some (.lst (Fs.map fun x => V.ref x.1)) ∧ Fs.map (·.2) = (xs.take i).map (fun x => (nmd mp x.2.1, x.2.2.map (nmd mp))) ∧ (∀ x ∈ Fs, HA x.1 = some (.tup (ptV x)) ∧ x.1 ≠ L) ∧ Same H8 HA)
              ⟨[], upd_same, rfl, fun x h => (nomatch h), same_new nL⟩ (fun i HA hi p => let ⟨_, _, _, _, s⟩ := p; SqL.of (s _ _ hq8)) (fun i z HA HB hi pp yy => ?_) (fun HA pp => ?_)⟩⟩
          | refine ⟨_, rfl, q, rfl, .inr ⟨⟨_, SqT.of hq8⟩, fun L nL => lc_it (L2.walk_tup (K := K) (xs := xs.map fun x => V.ref x.1)) (fun i HA => ∃ Fs : List Pt, HA L = some (.lst (Fs.map fun x => V.ref x.1)) ∧ Fs.map (·.2) = (xs.take i).map (fun x => (nmd mp x.2.1, x.2.2.map (nmd mp))) ∧ (∀ x ∈ Fs, HA x.1 = some (.tup (ptV x)) ∧ x.1 ≠ L) ∧ Same H8 HA)
              ⟨[], upd_same, rfl, fun x h => (nomatch h), same_new nL⟩ (fun i HA hi p => let ⟨_, _, _, _, s⟩ := p; SqT.of (s _ _ hq8)) (fun i z HA HB hi pp yy => ?_) (fun HA pp => ?_)⟩⟩
        · obtain ⟨x, rfl, rfl, hx, hxt, cont⟩ := step L nL i z HA HB hi pp yy
          obtain ⟨_, _, _, _, pS⟩ := pp
          refine ⟨rfl, ?_⟩
          dsimp only [tYes]
          rw [if_pos rfl]
          refine ⟨_, rfl, _, rfl, x.1, d, x.2.1 :: x.2.2, kd mp, rfl, hxt, pS _ _ p1, ?_, fun u H' s' nu hu' => ?_⟩
          · rw [List.length_cons]
            have := facts2 x (List.mem_of_getElem? hx)
            omega
          · exact cont u H' s' nu hu'
        · rw [el, List.take_length] at pp
          dsimp only [tNil, List.cons_append, List.nil_append]
          exact fin L nL HA pp _ fun x H2 h2 => ⟨_, rfl, (by show 2 ≤ sizeLine; rw [sizeLine_eq]; decide), fun r nr => h2 r nr⟩
end
end L2.LawH
set_option Elab.async false
set_option linter.all false
set_option maxRecDepth 100000
set_option maxHeartbeats 4000000
/-! x != y of tuples and of instances that are equal by a class's own ==. -/
namespace L2.InsNe
open PySem PySem.Spec PyProof.Rows PySem.SeqAt AutoSeq1 MeetsSeq MeetsSeq2 MeetsSeq3 SeqRoads2 GQ
section
variable {P : Program} {w : World} {A : Around} {R : Result → Shared → Prop}
theorem tup_ne (a c : Addr) (us vs : Array Value) (n m : Nat) (d1 d2 : Option Addr) (s1 s2 : Array (Option Value)) (hz : us.size = vs.size) (J : Nat → Shared → Prop)
    (step : ∀ j (k1 : j < us.size) (k2 : j < vs.size) t, J j t → wpAny (model P w) A.in1 (eqBool us[j] vs[j]) (fun r t' => r = true ∧ J (j + 1) t') (fun e t' => R (.error e) t') t)
    (stop : ∀ t, J us.size t → R (.ok (.ret (.bool false))) t) {t : Shared} (ha : t.heap.get? a = some { cls := .type "tuple", dict := d1, data := .seq us n, slots := s1 }) (hc : t.heap.get? c = some { cls := .type "tuple", dict := d2, data := .seq vs m, slots := s2 }) (j0 : J 0 t) :
    wpAny (model P w) A.in1 (Builtin.«tuple.__ne__» ⟨[.ref a, .ref c], []⟩) (FinOf P w A R) (fun e t' => R (.error e) t') t := by
  have sub := AutoSeq1.sub_tuple_tuple
  have lz : (us.toList.zip vs.toList).length = us.size := by simp [hz]
  have keep := j0
  obtain ⟨hp, g, d, tk, os⟩ := t
  wp_walk using wpAny_loadPart' ha, wpAny_loadPart' hc, wpAny_forIn_list _ (fun left q t' => q.1 = none ∧ ∃ k, left = (us.toList.zip vs.toList).drop k ∧ k ≤ us.size ∧ J k t') _
  case turn =>
    rintro ⟨u, v⟩ left q t' ⟨_, k, e, _, hJ⟩
    have lt : k < (us.toList.zip vs.toList).length := Nat.lt_of_not_le fun ge => by
      rw [List.drop_of_length_le ge] at e
      cases e
    have k1 : k < us.size := lz ▸ lt
    have k2 : k < vs.size := hz ▸ k1
    rw [List.drop_eq_getElem_cons lt] at e
    injection e with e1 e2
    have eu : u = us[k] := by simpa using congrArg Prod.fst e1
    have ev : v = vs[k] := by simpa using congrArg Prod.snd e1
    subst eu ev
    refine wpAny_bind (wpAny_mono (step k k1 k2 t' hJ) (fun r t2 z => ?_) fun _ _ x => x)
    obtain ⟨rfl, z⟩ := z
    wp_walk
    exact ⟨rfl, k + 1, e2, k1, z⟩
  case fin =>
    rintro ⟨q1, q2⟩ t' ⟨e0, k, e, le, hJ⟩
    simp only at e0
    subst e0
    have ge : us.size ≤ k := Nat.le_of_not_lt fun lt => by
      rw [List.drop_eq_getElem_cons (by rw [lz]; exact lt)] at e
      cases e
    obtain rfl : k = us.size := Nat.le_antisymm le ge
    have fin := stop t' hJ
    wp_walk
    simpa [Builtin.Tuple.tupleCompareSizes, hz] using fin
  case h =>
    exact ⟨rfl, 0, rfl, Nat.zero_le _, keep⟩
end
section
variable {P : Program} {w : World} {A : Around} {E : Value → Shared → Prop} {t : Shared}
theorem rc_tup_ne {a c : Addr} {us vs : Array Value} {Q : Value → Shared → Prop} (hz : us.size = vs.size) (hu : A.units < cLine) (J : Nat → Shared → Prop) (ha : t.heap.IsTuple a us) (hc : t.heap.IsTuple c vs)
    (step : ∀ j (k1 : j < us.size) (k2 : j < vs.size) t, J j t → wpAny (model P w) A.in1 (eqBool us[j] vs[j]) (fun r t' => r = true ∧ J (j + 1) t') E t) (stop : ∀ t, J us.size t → Q (.bool false) t) (j0 : J 0 t) :
    wpAny (model P w) A (richCompare .NotEq (.ref a) (.ref c)) Q E t := by
  obtain ⟨⟨c1, d1, x1, s1⟩, o1, k1, n1, e1⟩ := id ha
  obtain ⟨⟨c2, d2, x2, s2⟩, o2, k2, n2, e2⟩ := id hc
  simp only at k1 e1 k2 e2
  subst k1 e1 k2 e2
  refine wpAny_richCompare_same_room (op := .NotEq) ⟨_, o1, rfl⟩ ⟨_, o2, rfl⟩ F.slot_tuple_ne (call_here F.slot_tuple_ne ⟨_, o1, rfl⟩ F.entry_tuple_ne (F.args_tuple_ne_2 _ _) ?_) hu
  exact tup_ne (R := wants (fun v t' => v ≠ .notImplemented ∧ Q v t') E) a c us vs n1 n2 d1 d2 s1 s2 hz J step (fun t' q => ⟨(fun x => nomatch x), stop t' q⟩) o1 o2 j0
end
section
variable {M : Model} {P : Program} {w : World} {A : Around} {E : Value → Shared → Prop} {s : Shared} {K : PySem.W.Frag} {x C f : Addr} {ox : Obj} {od : Option Obj}
theorem bound_ne {args : List Value} {Q : Option Value → Shared → Prop} (X : K.In s.heap) (I : PySem.W.InstAt s.heap x ox C od) (hs : PySem.W.findIn K (.ref C) "__ne__" = some (some (.builtin "object.__ne__")))
    (h : wpAny M A (call (.builtin "object.__ne__") (.ref x :: args)) (fun v => Q (some v)) E s) : wpAny M A (callSpecialIfBound? (.ref x) "__ne__" args) Q E s := by
  simp only [callSpecialIfBound?, bindSpecialIfBound?]
  refine wpAny_holding (wpAny_bind (wpAny_bind (wpAny_bind (I.type.here ((PySem.W.looks_findIn X hs).here ?_)))))
  refine wpAny_bind (wpAny_askSetting (wpAny_ite ?_))
  have last : wpAny M A (call (.builtin "object.__ne__") ([.ref x] ++ args) >>= fun v => pure (some v)) Q E s := wpAny_bind (wpAny_mono h (fun v s' z => wpAny_pure z) fun _ _ z => z)
  split
  · exact wpAny_bind (wpAny_of_eq (F.cmp_object.ne.bind _) (wpAny_pure (by exact last)))
  · exact wpAny_tryCatch (wpAny_bind (wpAny_of_eq (F.cmp_object.ne.bind _) (wpAny_pure (by exact last))))
theorem body_ne {y : Value} {Q : Fin → Shared → Prop} (X : K.In s.heap) (I : PySem.W.InstAt s.heap x ox C od) (hs : PySem.W.findIn K (.ref C) "__eq__" = some (some (.ref f))) (hf : PySem.W.isFn K (.ref f) = true) (hu : A.units < cLine)
    (h : wpAny (model P w) A (call (.ref f) [.ref x, y]) (fun v s' => ∃ b, v = .bool b ∧ Q (.done (.ret (.bool (!b)))) s') E s) : wpAny (model P w) A (Builtin.«object.__ne__» ⟨[.ref x, y], []⟩) Q E s := by
  unfold Builtin.«object.__ne__»
  repeat (first
    | with_reducible refine wpAny_cRoomFor hu ?_
    | (refine wpAny_bind (m := callSpecialIfBound? (.ref x) (Str.ofString "__eq__") [y]) (PySem.W.ifBound_K X I hs hf (wpAny_mono h (fun r s' z => by
        obtain ⟨b, rfl, z⟩ := z
        repeat (first | exact z | exact wpAny_pure z | exact wpAny_truthy_bool z | (refine wpAny_bind (m := truthy (.bool _)) (wpAny_truthy_bool ?_)) | wp_step)) fun _ _ z => z)))
    | wp_step)
theorem rc_ne {y : Addr} {oy : Obj} {oe : Option Obj} {Q : Value → Shared → Prop} (X : K.In s.heap) (I : PySem.W.InstAt s.heap x ox C od) (I2 : PySem.W.InstAt s.heap y oy C oe) (hm : PySem.W.mroIn K C (.type "object") = some true) (hn : PySem.W.findIn K (.ref C) "__ne__" = some (some (.builtin "object.__ne__"))) (hs : PySem.W.findIn K (.ref C) "__eq__" = some (some (.ref f))) (hf : PySem.W.isFn K (.ref f) = true) (hu : A.units + 1 < cLine)
    (h : wpAny (model P w) A.in1 (call (.ref f) [.ref x, .ref y]) (fun v s' => ∃ b, v = .bool b ∧ Q (.bool (!b)) s') E s) : wpAny (model P w) A (richCompare .NotEq (.ref x) (.ref y)) Q E s := by
  have one : wpAny (model P w) A (tryCompare (.ref x) "__ne__" (.ref y)) (fun r s' => ∃ v, r = some v ∧ Q v s') E s := by
    unfold tryCompare
    refine wpAny_bind (bound_ne X I hn (wpAny_call (codeAny_call_builtin F.cmp_object.ne.plain F.cmpEntry_ne (PySem.W.check_slot F.cmpKind_ne F.cmpSplit_ne (I.type.andThen (PySem.W.looks_mroIn X hm)) (F.cmpArgs_ne _ _)
      (body_ne (A := A.in1) X I hs hf hu (wpAny_mono h (fun v s' z => ?_) fun _ _ z => z))))))
    obtain ⟨b, rfl, z⟩ := z
    exact ⟨b, rfl, wpAny_pure ⟨_, rfl, z⟩⟩
  unfold richCompare
  simp only [oneThing_ref]
  refine wpAny_holding (wpAny_bind (wpAny_cRoomFor (Nat.lt_of_succ_lt hu) ?_))
  refine wpAny_bind (I.type.here (wpAny_bind (I2.type.here ?_)))
  split
  · rename_i q
    simp at q
  · refine wpAny_bind (wpAny_pure ?_)
    simp only [Bool.false_eq_true, if_false]
    refine wpAny_bind (wpAny_mono one (fun r s' z => ?_) fun _ _ e => e)
    obtain ⟨v, rfl, hq⟩ := z
    exact wpAny_pure hq
end
end L2.InsNe
namespace L2
open PySem PySem.Spec PyProof.Rows
/-- != gives False for what D says, and only makes objects -/
def NcG (X : Cx) (n : Nat) (D : Eqv) : Prop :=
  ∀ (A : Around) (pins : List (Addr × Obj)) (s : Shared) (σ : St) (H : Hp) (x y : V) (u v : Value), Sub X n A → Inv X pins σ H s → RelV x u → RelV y v → D x y H →
    wpAny (model X.prog X.w) A (richCompare .NotEq u v) (fun r s' => r = .bool false ∧ ∃ H', Inv X pins σ H' s' ∧ Ext H H') X.xe s
section
variable {X : Cx} {n m : Nat} {D D' : Eqv}
theorem ncG_tup (hD : Mon D) (h : EqG X n D) : NcG X (n + 1) (DTup X.K D) := by
  intro A pins s σ H x y u v sb I rx ry d
  obtain ⟨a, b, xs, ys, rfl, rfl, ha, hb, p⟩ := d
  cases rx
  cases ry
  obtain ⟨i1, r1, e1, _⟩ := I.tuple ha
  obtain ⟨i2, r2, e2, _⟩ := I.tuple hb
  have hz : i1.toArray.size = i2.toArray.size := by rw [List.size_toArray, List.size_toArray, ← r1.length, ← r2.length]; exact p.1
  exact InsNe.rc_tup_ne hz sb.room.units0 (fun _ t => LoopI X pins σ H t) e1 e2 (fun j k1 k2 t q => turnG hD h sb p r1 r2 j k1 k2 t q) (fun t q => ⟨rfl, q⟩) ⟨H, I, Ext.rfl'⟩
theorem ncG_ins {CX : CXT} {C f : Addr} {fd : FuncData} {ps : List Str} {R : Addr → Addr → Hp → Prop} {E : XK} (F : FnOk X.prog X.w X.K X.mg X.base CX n f fd ps (spEq R)) (hm : PySem.W.mroIn X.K C (.type "object") = some true) (hn : PySem.W.findIn X.K (.ref C) "__ne__" = some (some (.builtin "object.__ne__")))
    (hs : PySem.W.findIn X.K (.ref C) "__eq__" = some (some (.ref f))) (hf : PySem.W.isFn X.K (.ref f) = true) (hb : Binds X.K fd ps []) (hx : Passes CX X E) : NcG X (n + 1) (DIns C R) := by
  intro A pins s σ H x y u v sb I rx ry d
  obtain ⟨a, b, dx, dy, fs, gs, rfl, rfl, ha, hb', hr⟩ := d
  cases rx
  cases ry
  obtain ⟨mA, J, _⟩ := ins_get I.hok ha
  obtain ⟨mB, J', _⟩ := ins_get I.hok hb'
  obtain ⟨od, J, _⟩ := J.look
  obtain ⟨od', J', _⟩ := J'.look
  refine InsNe.rc_ne I.kIn J J' hm hn hs hf (by have := sb.room.un; omega) ?_
  have want : spEq R [.ref a, .ref b] H (fun v H' => v = .bl true ∧ Ext H H') E := ⟨a, b, rfl, hr, fun H' e => ⟨rfl, e⟩⟩
  have e0 : Env0 X.prog X.w X.K X.mg X.base A.in1 X.stack s H := by
    have e := I.env0
    have sf : A.in1.frames = X.A.frames := sb.in1.fr
    exact ⟨by rw [sf]; exact e.frames, e.mod, e.bs, e.bsz, e.funs, e.frf, e.hok, e.bare⟩
  have hl := F.len _ _ _ _ want
  refine wpAny_call (codeAny_mono (F.run A.in1 X.stack s H ⟨[.ref a, .ref b], []⟩ [.ref a, .ref b] [.ref a, .ref b] _ E sb.in1.room e0 (by
    have := hb s [.ref a, .ref b] I.kIn (by simpa using hl)
    simpa using this) (.cons rfl (.cons rfl .nil)) want) fun r s' hq => ?_)
  cases r with
  | error e => exact hx pins σ H s e s' I hq
  | ok fl =>
    cases fl with
    | ret z =>
      obtain ⟨_, H', I', rz, ez, ex⟩ := I.after hq
      subst ez
      cases rz
      exact ⟨true, rfl, rfl, H', I', ex⟩
    | next => exact False.elim hq
    | brk => exact False.elim hq
    | cont => exact False.elim hq
/-- x != y, which are equal -/
def rNeG (D : Eqv) : R2 := fun x y H Q => D x y H ∧ ∀ H', Ext H H' → Q (.bl false) H'
theorem op_neG (h : NcG X n D) (hr : Room n X.A) : OpR X (compareOp .NotEq) (rNeG D) := by
  intro pins s σ H x y v u Q I rx ry hq
  obtain ⟨d, q⟩ := hq
  show wpAny (model X.prog X.w) X.A (richCompare .NotEq v u) (EP X pins σ Q) X.xe s
  refine wpAny_mono (h X.A pins s σ H x y v u ⟨hr, rfl⟩ I rx ry d) (fun r t z => ?_) fun _ _ x => x
  obtain ⟨rfl, H', I', e⟩ := z
  exact ⟨.bl false, H', I', rfl, q H' e⟩
/-- two dicts of texts with the same pairs -/
def DDic : Eqv := fun x y H => ∃ a b ks, x = .ref a ∧ y = .ref b ∧ H a = some (.dK ks) ∧ H b = some (.dK ks) ∧ ∀ p ∈ ks, valV ks p.1 = some p.2 ∧ flatB p.2 = true
theorem mon_dic : Mon DDic := fun x y H H' e ⟨a, b, ks, hx, hy, h1, h2, k⟩ => ⟨a, b, ks, hx, hy, e _ _ h1, e _ _ h2, k⟩
theorem eqG_dic : EqG X 2 DDic := by
  intro A pins s σ H x y u v sb I rx ry d
  obtain ⟨a, b, ks, rfl, rfl, h1, h2, k⟩ := d
  refine eqV_run I 2 A (by have := sb.room.un; omega) (.ref a) (.ref b) u v (.inr (.inr (.inr ⟨a, b, ks, ks, rfl, rfl, h1, h2, rfl, fun p hp => ?_⟩))) rx ry _ _ ⟨rfl, H, I, Ext.rfl'⟩
  obtain ⟨e, f⟩ := k p hp
  exact ⟨p.2, e, .inl ⟨rfl, f⟩⟩
end
end L2
set_option Elab.async false
set_option linter.all false
set_option maxRecDepth 100000
set_option maxHeartbeats 4000000
/-! Store's own ==. -/
namespace L2.LawH
open PySem PySem.Spec PyProof.Rows L2.TxtDict L2.NSet PySem.W
abbrev sEqS : Stmt := inClass (top 19) 7
/-- a Store with these facts stands at a -/
def StoreAt (C : Addr) (H : Hp) (a : Addr) (M : List Pt) : Prop := ∃ dx t d, H a = some (.ins C dx (fsS t d)) ∧ H t = some (.tup (M.map fun x => V.ref x.1)) ∧ ∀ x ∈ M, H x.1 = some (.tup (ptV x))
theorem StoreAt.ext {C : Addr} {H H' : Hp} {a : Addr} {M : List Pt} (h : StoreAt C H a M) (e : Ext H H') : StoreAt C H' a M :=
  let ⟨dx, t, d, h1, h2, h3⟩ := h
  ⟨dx, t, d, e _ _ h1, e _ _ h2, fun x hx => e _ _ (h3 x hx)⟩
/-- two Stores with the same facts -/
def RS (C : Addr) (a b : Addr) (H : Hp) : Prop := ∃ M N : List Pt, StoreAt C H a M ∧ StoreAt C H b N ∧ M.map (·.2) = N.map (·.2)
theorem RS.mon {C : Addr} (a b : Addr) (H H' : Hp) (e : Ext H H') (r : RS C a b H) : RS C a b H' := let ⟨M, N, h1, h2, h3⟩ := r; ⟨M, N, h1.ext e, h2.ext e, h3⟩
theorem op_eqTTK {X : Cx} {K : PySem.W.Frag} (e : X.K = K) (hr : Room 2 X.A) : OpR X (compareOp .Eq) (rEqG (DTup K (DTup K DFlat))) := by
  subst e
  exact op_eqG (rcG_tup (mon_tup mon_flat) (eqG_tup mon_flat eqG_flat)) hr
theorem call_isCK {X : Cx} {K : PySem.W.Frag} {C : Addr} (e : X.K = K) (c : C8.InsC K C) : CallR X (.builtin "isinstance") (fun xs H Q => ∃ a dx fs, xs = [.ref a, .ref C] ∧ H a = some (.ins C dx fs) ∧ Q (.bl true) H) := by
  subst e
  exact C8.call_isC c
theorem eqV_str (z : Str) : eqV (.str z) (.str z) = true := by simp [eqV]
theorem prs_strs : ∀ (zs : List Str) {H : Hp}, Prs DFlat (zs.map V.str) (zs.map V.str) H
  | [], _ => .nil
  | z :: zs, _ => .cons ⟨rfl, rfl, eqV_str z⟩ (prs_strs zs)
theorem ptV_map (x : Pt) : ptV x = (x.2.1 :: x.2.2).map V.str := rfl
theorem prs_pts {K : PySem.W.Frag} {H : Hp} : ∀ {M N : List Pt}, M.map (·.2) = N.map (·.2) → (∀ x ∈ M, H x.1 = some (.tup (ptV x))) → (∀ x ∈ N, H x.1 = some (.tup (ptV x))) →
    Prs (DTup K DFlat) (M.map fun x => V.ref x.1) (N.map fun x => V.ref x.1) H
  | [], [], _, _, _ => .nil
  | [], _ :: _, h, _, _ => nomatch h
  | _ :: _, [], h, _, _ => nomatch h
  | x :: M, y :: N, h, h1, h2 => by
    rw [List.map_cons, List.map_cons] at h
    injection h with e1 e2
    refine .cons ⟨x.1, y.1, ptV x, ptV y, rfl, rfl, SqT.of (h1 x List.mem_cons_self), SqT.of (h2 y List.mem_cons_self), ?_⟩ (prs_pts e2 (fun z hz => h1 z (List.mem_cons_of_mem _ hz)) fun z hz => h2 z (List.mem_cons_of_mem _ hz))
    rw [ptV_map, ptV_map, e1]
    exact prs_strs _
section
variable {P : Program} {w : World} {K : PySem.W.Frag} {mg : Str → Option Value} {base : Heap}
theorem scEq : FnScope ["self", "other"] ["self", "other"] (defScope sEqS) := ⟨rfl, rfl, rfl, by decide +kernel, rfl, by decide +kernel, by decide +kernel⟩
theorem ok_eqS {f C : Addr} {fd : FuncData} (F : Fun K "__eq__" "Store.__eq__" sEqS f fd) (T : StT K mg C) (c : C8.InsC K C) (mC : mg "Store" = some (.ref C)) (mi : mg "isinstance" = none) :
    FnOk P w K mg base CX0 3 f fd ["self", "other"] (spEq (RS C)) := by
  refine F.ok scEq (fun vs H Q E h => ?_) (fun cdv A outer s H vs Q E hr h => ?_)
  · obtain ⟨a, b, rfl, _⟩ := h
    rfl
  · obtain ⟨a, b, rfl, ⟨M, N, ⟨dx, t, d, h1, h2, h3⟩, ⟨dy, t', d', g1, g2, g3⟩, e⟩, k⟩ := h
    refine ⟨_, pss_one (ps_ret (pe_and (pe_callB (call_isCK (K := K) rfl c) (by rfl) mi (by decide +kernel) (pa_cons (pv 1) (pa_cons (pe_glob (v := .ref C) (by rfl) mC rfl) pa_nil)))
      (pe_one (pe_cmpR (op_eqTTK (K := K) rfl hr) (pe_fld (pv 0) rfl) (pe_fld (pv 1) rfl) (nomark _))))), ?_⟩
    refine ⟨_, rfl, b, dy, _, rfl, g1, true, rfl, iteT ?_⟩
    refine ⟨_, rfl, a, C, dx, _, .ref t, rfl, h1, T.cl, T.nF, rfl, _, rfl, b, C, dy, _, .ref t', rfl, g1, T.cl, T.nF, rfl, ?_⟩
    exact ⟨⟨t, t', _, _, rfl, rfl, SqT.of h2, SqT.of g2, prs_pts e h3 g3⟩, k⟩
end
end L2.LawH
set_option Elab.async false
set_option linter.all false
set_option maxRecDepth 100000
set_option maxHeartbeats 4000000
/-! A pattern filled, as the law does it. -/
namespace L2.LawH
open PySem PySem.Spec PyProof.Rows L2.Cmp L2.TxtSet
abbrev sLFil : Stmt := top 33
def spLFil : Sp := fun vs H Q _ => ∃ (t d : Addr) (x : Str) (zs : List Str) (kvs : List (Key × V)), vs = [.ref t, .ref d] ∧ H t = some (.tup ((x :: zs).map V.str)) ∧ H d = some (.dK kvs) ∧ zs.length ≤ 1000 ∧
  ∀ (u : Addr) (H' : Hp), Same H H' → H u = none → H' u = some (.tup (.str x :: zs.map (fillV kvs))) → Q (.ref u) H'
section
variable {P : Program} {w : World} {K : PySem.W.Frag} {mg : Str → Option Value} {base : Heap}
abbrev nLF : List Str := ["_law_pattern_here", "_law_known", "_law_term_here"]
theorem scLFi : FnScope nLF ["_law_pattern_here", "_law_known"] (defScope sLFil) := ⟨rfl, rfl, rfl, by decide +kernel, rfl, by decide +kernel, by decide +kernel⟩
theorem ok_lfil {f : Addr} {fd : FuncData} (F : Fun K "_law_filled" "_law_filled" sLFil f fd) (mt : mg "tuple" = none) : FnOk P w K mg base CX0 1 f fd ["_law_pattern_here", "_law_known"] spLFil := by
  refine F.ok scLFi (fun vs H Q E h => ?_) (fun cdv A outer s H vs Q E hr h => ?_)
  · obtain ⟨t, d, x, zs, kvs, rfl, _⟩ := h
    rfl
  · obtain ⟨t, d, x, zs, kvs, rfl, ht, hd, few, k⟩ := h
    have hu := hu_of hr
    refine ⟨_, pss_one (ps_ret (pe_callTy call_tuple_of (by rfl) mt (by decide +kernel) (pa_cons (pe_op op_cat (pe_lst (pa_cons (pe_ix ix_tup (pv 0) pe_int (fun _ _ => rfl)) pa_nil))
      (pe_lc (own := [("_law_term_here", 2)]) (g := gName 2) (tt := tYes) rfl scLFi.nd (pi_tup (pe_slice sl_tup (pv 0) (po_some pe_int) po_none))
      (blkOk_by (own := [("_law_term_here", 2)]) (N := nLF) (sc := defScope sLFil) (by decide +kernel)) (fun _ _ _ _ _ => pg_name (i := 2) scLFi.nd rfl (Or.inl rfl)) (fun _ _ _ _ _ => pts_nil)
      (fun _ _ _ _ _ => pe_dget2 hu (pv 1) (pv 2) (pv 2) ⟨rfl, rfl, rfl, rfl⟩))) pa_nil))), ?_⟩
    have h0 : atI ((x :: zs).map V.str) 0 = some (.str x) := atI_nat (by rfl : ((x :: zs).map V.str)[0]? = some (V.str x))
    refine ⟨_, rfl, t, _, 0, _, rfl, rfl, SqT.of ht, h0, (by show 1 ≤ sizeLine; rw [sizeLine_eq]; decide), fun p1 n1 => ?_⟩
    have s1 : Same H (upd H p1 (.lst [V.str x])) := same_new n1
    have q1 : (upd H p1 (.lst [V.str x])) p1 = some (.lst [V.str x]) := upd_same
    generalize upd H p1 (.lst [V.str x]) = H1 at s1 q1 ⊢
    refine ⟨_, rfl, _, rfl, t, _, rfl, SqT.of (s1 _ _ ht), cut_part _ _, fun u1 nu1 => ⟨u1, rfl, ⟨_, SqT.of upd_same⟩, ?_⟩⟩
    rw [show cutV (List.map V.str (x :: zs)) (some 1) none = zs.map V.str from cut_one _ _]
    have s2 : Same H1 (upd H1 u1 (.tup (zs.map V.str))) := same_new nu1
    have q2 : (upd H1 u1 (.tup (zs.map V.str))) u1 = some (.tup (zs.map V.str)) := upd_same
    generalize upd H1 u1 (.tup (zs.map V.str)) = H2 at s2 q2 ⊢
    intro D nD
    have s02 : Same H H2 := fun b o e => s2 _ _ (s1 _ _ e)
    refine lc_tup (K := K) (a := u1) (xs := zs.map V.str) (fun i H5 => Same H2 H5 ∧ H5 D = some (.lst ((zs.take i).map (fillV kvs)))) ⟨same_new nD, upd_same⟩ (fun i H5 _ p => SqT.of (p.1 _ _ q2)) (fun i y H5 hy p => ?_) (fun H5 p => ?_)
    · obtain ⟨r1, r3⟩ := p
      rw [List.getElem?_map] at hy
      obtain ⟨z, hz, rfl⟩ := Option.map_eq_some_iff.mp hy
      refine ⟨rfl, ?_⟩
      dsimp only [tYes]
      rw [if_pos rfl]
      refine ⟨_, rfl, d, rfl, .inl ⟨kvs, .inl (r1 _ _ (s02 _ _ hd))⟩, _, rfl, _, rfl, _, DGet.k (k := Sum.inr z) (r1 _ _ (s02 _ _ hd)), _, r3, ?_, fun b o e => ?_, ?_⟩
      · rw [List.length_map, List.length_take, sizeLine_eq]
        omega
      · rw [upd_ne (ne_of_none e nD)]
        exact r1 _ _ e
      · rw [upd_same, List.take_add_one, hz]
        simp [fillV]
    · obtain ⟨r1, r3⟩ := p
      rw [List.length_map, List.take_length] at r3
      refine ⟨p1, D, _, _, rfl, rfl, r1 _ _ (s2 _ _ q1), r3, ?_, fun L nL => ?_⟩
      · rw [List.length_map, sizeLine_eq]
        show 1 + zs.length ≤ _
        omega
      refine ⟨L, _, rfl, .inl ⟨SqL.of upd_same, fun u nu => k u _ (fun b o e => ?_) ?_ upd_same⟩⟩
      · exact same_new nu _ _ (same_new nL _ _ (r1 _ _ (s02 _ _ e)))
      · cases e : H u with
        | none => rfl
        | some o =>
          rw [same_new nL _ _ (r1 _ _ (s02 _ _ e))] at nu
          cases nu
end
end L2.LawH
set_option Elab.async false
set_option linter.all false
set_option maxRecDepth 100000
set_option maxHeartbeats 4000000
/-! Facts in order; names that are given. -/
namespace L2.LawH
open PySem PySem.Spec PyProof.Rows L2.TxtDict L2.NSet PySem.W
open Builtin.Int (intBits)
def tkT (zs : List Str) : List (Int ⊕ List Nat) := keyToksAll (zs.map PyData.str)
theorem tkT_nil : tkT [] = [.inl 0] := by simp [tkT, keyToksAll]
theorem tkT_cons (z : Str) (zs : List Str) : tkT (z :: zs) = .inl 1 :: .inr z.cps.toList :: tkT zs := by simp [tkT, keyToksAll, keyToks]
theorem str_cps {a b : Str} (h : a.cps.toList = b.cps.toList) : a = b := by
  cases a
  cases b
  exact congrArg Str.mk (Array.toList_inj.mp h)
theorem tkT_inj : ∀ {m m' : List Str}, tkT m = tkT m' → m = m'
  | [], [], _ => rfl
  | [], p :: m', h => by
    rw [tkT_nil, tkT_cons] at h
    injection h with h1 h2
    exact absurd h1 (by decide)
  | p :: m, [], h => by
    rw [tkT_nil, tkT_cons] at h
    injection h with h1 h2
    exact absurd h1 (by decide)
  | p :: m, q :: m', h => by
    rw [tkT_cons, tkT_cons] at h
    injection h with _ h
    injection h with h1 h
    rw [tkT_inj h, str_cps (Sum.inr.inj h1)]
theorem toks_ptM (x : Pt) : keyToks (ptM x).2.data = tkT (x.2.1 :: x.2.2) := by
  rw [data_ptM]
  simp [tkT, keyToks]
def leF (a b : Str × List Str) : Bool := !PyProof.Rows.lexLt itemOrd (tkT (b.1 :: b.2)) (tkT (a.1 :: a.2))
theorem leF_anti {a b : Str × List Str} (x : leF a b = true) (y : leF b a = true) : a = b := by
  unfold leF at x y
  rw [Bool.not_eq_true'] at x y
  have e := tkT_inj (lex_total (O := itemOrd) _ _ y x)
  injection e with e1 e2
  exact Prod.ext e1 e2
theorem rise_up {M : List Pt} (r : Rise (fun x : Pt => (ptM x).2.data) M) : (M.map (·.2)).Pairwise fun a b => leF a b = true := by
  rw [List.pairwise_map]
  refine List.Pairwise.imp (fun {a b} h => ?_) r
  have h' : (!PyProof.Rows.lexLt itemOrd (keyToks (ptM b).2.data) (keyToks (ptM a).2.data)) = true := h
  rw [toks_ptM, toks_ptM] at h'
  exact h'
/-- two lists of the same facts in order are one -/
theorem rise_one {M N : List Pt} (nM : (M.map (·.2)).Nodup) (nN : (N.map (·.2)).Nodup) (rM : Rise (fun x : Pt => (ptM x).2.data) M) (rN : Rise (fun x : Pt => (ptM x).2.data) N) (h : ∀ c, c ∈ M.map (·.2) ↔ c ∈ N.map (·.2)) : M.map (·.2) = N.map (·.2) :=
  List.Perm.eq_of_pairwise (fun a b _ _ x y => leF_anti x y) (rise_up rM) (rise_up rN) ((List.perm_ext_iff_of_nodup nM nN).mpr h)
theorem isV_hd {z : Str} (h : isV z = true) : nmB z.cps.toList = false := by
  rw [← first_sign] at h
  have e : cutS z none (some 1) = Str.ofString "?" := of_decide_eq_true h
  have q1 : (Str.ofString "?").cps.toList = [63] := by decide +kernel
  have e2 : HT.sIx z.length z.length (some 1) = min 1 z.length := HT.sIx_nat z.length z.length 1
  have e3 := congrArg (fun y : Str => y.cps.toList) e
  unfold cutS at e3
  rw [HT.sIx_none, e2] at e3
  simp only [q1] at e3
  have l : z.cps.toList.length = z.length := length_toList z
  cases hc : z.cps.toList with
  | nil => rfl
  | cons c r =>
    rw [hc] at e3 l
    rw [List.length_cons] at l
    have m : min 1 z.length = 1 := by omega
    rw [m] at e3
    simp at e3
    rw [e3]
    show (isLet 63 && r.all isSgn && decide (r.length ≤ 11)) = false
    have : isLet 63 = false := by decide
    rw [this, Bool.false_and, Bool.false_and]
theorem nm_noV {z : Str} (h : Nm z) : isV z = false := by
  cases e : isV z with
  | false => rfl
  | true =>
    have a := isV_hd e
    rw [show nmB z.cps.toList = true from h] at a
    cases a
theorem nm_size {z : Str} (h : Nm z) : 1 ≤ z.length ∧ z.length ≤ 12 := by
  have h : nmB z.cps.toList = true := h
  rw [← length_toList]
  cases e : z.cps.toList with
  | nil =>
    rw [e] at h
    cases h
  | cons c r =>
    rw [e] at h
    simp only [nmB, Bool.and_eq_true, decide_eq_true_eq] at h
    rw [List.length_cons]
    omega
theorem vr_isV {z : Str} (h : Vr z) : isV z = true := by
  obtain ⟨y, _, rfl⟩ := h
  rw [← first_sign, decide_eq_true_iff]
  have q1 : (Str.ofString "?").cps.toList = [63] := by decide +kernel
  have l : (Str.ofString "?" ++ y).cps.toList = 63 :: y.cps.toList := by rw [toList_append, q1]; rfl
  have l2 : (Str.ofString "?" ++ y).length = y.cps.toList.length + 1 := by rw [← length_toList, l, List.length_cons]
  have e2 : HT.sIx (Str.ofString "?" ++ y).length (Str.ofString "?" ++ y).length (some 1) = min 1 (Str.ofString "?" ++ y).length := HT.sIx_nat _ _ 1
  refine str_cps ?_
  unfold cutS
  rw [HT.sIx_none, e2, q1, l2, l]
  have m : min 1 (y.cps.toList.length + 1) = 1 := by omega
  rw [m]
  simp
theorem vr_size {z : Str} (h : Vr z) : 1 ≤ z.length ∧ z.length ≤ 13 := by
  obtain ⟨y, ny, rfl⟩ := h
  have q1 : (Str.ofString "?").cps.toList = [63] := by decide +kernel
  have := nm_size ny
  have e : (Str.ofString "?" ++ y).length = y.length + 1 := by
    rw [← length_toList, toList_append, q1, ← length_toList y]
    simp
  omega
theorem giv_val (U : List Str) : ∀ (zs : List Str) (n : Nat) (p : Str × Str), p ∈ giv U zs n → ∃ k, k ≤ n + 31 * zs.length ∧ p.2 = newT k
  | [], n, p, h => nomatch h
  | z :: zs, n, p, h => by
    have b := nxt_le U 30 (n + 1)
    rw [giv] at h
    rcases List.mem_cons.mp h with rfl | h
    · exact ⟨_, by rw [List.length_cons]; omega, rfl⟩
    · obtain ⟨k, h1, h2⟩ := giv_val U zs _ p h
      exact ⟨k, by rw [List.length_cons]; omega, h2⟩
theorem new_names : ((List.range 200).all fun n => nmB (newT n).cps.toList) = true := by decide +kernel
theorem nm_new {n : Nat} (h : n < 200) : Nm (newT n) := List.all_eq_true.mp new_names n (List.mem_range.mpr h)
theorem nmd_out {U ys : List Str} {z : Str} (h : z ∉ ys) : nmd (giv U ys 0) z = z := by
  unfold nmd
  rw [look_none.mpr (by rw [giv_keys]; exact h)]
  rfl
theorem nmd_in {U ys : List Str} {z : Str} (h : z ∈ ys) : ∃ k, k ≤ 31 * ys.length ∧ nmd (giv U ys 0) z = newT k := by
  cases e : look (giv U ys 0) z with
  | none =>
    have := look_none.mp e
    rw [giv_keys] at this
    exact absurd h this
  | some v =>
    obtain ⟨k, h1, h2⟩ := giv_val U ys 0 _ (look_mem e)
    refine ⟨k, by omega, ?_⟩
    unfold nmd
    rw [e]
    exact h2
theorem nmd_nm {U ys : List Str} {z : Str} (few : ys.length ≤ 6) (h : Nm z ∨ z ∈ ys) : Nm (nmd (giv U ys 0) z) := by
  by_cases c : z ∈ ys
  · obtain ⟨k, h1, h2⟩ := nmd_in (U := U) c
    rw [h2]
    exact nm_new (by omega)
  · rw [nmd_out c]
    exact h.elim id fun q => absurd q c
theorem factB_nm {T : Str} {zs : List Str} (hT : Nm T) (few : zs.length ≤ 3) (hz : ∀ z ∈ zs, Nm z) : factB (.str T :: zs.map V.str) = true := by
  have a1 : vN (.str T) = true := hT
  have a2 : (zs.map V.str).all vN = true := List.all_eq_true.mpr fun y hy => by
    obtain ⟨z, h, rfl⟩ := List.mem_map.mp hy
    exact hz z h
  have a3 : ((zs.map V.str).all fun y => vN y || vV y) = true := List.all_eq_true.mpr fun y hy => by rw [List.all_eq_true.mp a2 y hy]; rfl
  show ((decide ((zs.map V.str).length ≤ 3) && vN (.str T) && (zs.map V.str).all fun y => vN y || vV y) && (vN (.str T) && (zs.map V.str).all vN)) = true
  rw [List.length_map, decide_eq_true few, a1, a2, a3]
  rfl
/-- what the law's lots are like -/
structure LotLaw (W : List Str) (xs : List Pt) : Prop where
  few : xs.length ≤ 6
  nT : ∀ x ∈ xs, Nm x.2.1
  l3 : ∀ x ∈ xs, x.2.2.length ≤ 3
  trm : ∀ x ∈ xs, ∀ z ∈ x.2.2, Nm z ∨ (Vr z ∧ z ∈ W)
theorem LotLaw.size {W : List Str} {xs : List Pt} (h : LotLaw W xs) : ∀ x ∈ xs, ∀ z ∈ x.2.2, 1 ≤ z.length ∧ z.length ≤ 100 := fun x hx z hz => by
  rcases h.trm x hx z hz with q | ⟨q, _⟩
  · have := nm_size q
    omega
  · have := vr_size q
    omega
theorem allT_len : ∀ {xs : List Pt}, (∀ x ∈ xs, x.2.2.length ≤ 3) → (allT xs).length ≤ 3 * xs.length
  | [], _ => Nat.le_refl _
  | x :: xs, h => by
    have a := allT_len (xs := xs) fun y hy => h y (List.mem_cons_of_mem _ hy)
    have b := h x List.mem_cons_self
    unfold allT at a ⊢
    rw [List.flatMap_cons, List.length_append, List.length_cons]
    omega
theorem LotLaw.all18 {W : List Str} {xs : List Pt} (h : LotLaw W xs) : (allT xs).length ≤ 18 := by
  have := allT_len h.l3
  have := h.few
  omega
theorem LotLaw.frees {W : List Str} {xs : List Pt} (h : LotLaw W xs) : (frees xs).length ≤ 18 := Nat.le_trans (List.length_filter_le _ _) h.all18
theorem mem_frees {xs : List Pt} {z : Str} : z ∈ LawH.frees xs ↔ (∃ x ∈ xs, z ∈ x.2.2) ∧ isV z = true := by
  unfold LawH.frees
  rw [List.mem_filter, List.mem_flatMap]
theorem LotLaw.vars {W : List Str} {xs : List Pt} (h : LotLaw W xs) (w6 : W.length ≤ 6) : (uniq (LawH.frees xs)).length ≤ 6 := by
  refine Nat.le_trans (nodup_len _ W (uniq_nodup _) fun z hz => ?_) w6
  obtain ⟨⟨x, hx, hz⟩, hv⟩ := mem_frees.mp (uniq_mem.mp hz)
  rcases h.trm x hx z hz with q | ⟨_, q⟩
  · rw [nm_noV q] at hv
    cases hv
  · exact q
theorem LotLaw.facts {W : List Str} {xs : List Pt} (h : LotLaw W xs) (w6 : W.length ≤ 6) (U : List Str) : ∀ x ∈ xs, x.2.2.length ≤ 3 ∧ ∀ ys : List Str, ys.Perm (uniq (LawH.frees xs)) →
    factB (.str (nmd (giv U ys 0) x.2.1) :: (x.2.2.map (nmd (giv U ys 0))).map V.str) = true ∧ ∀ z ∈ x.2.1 :: x.2.2, (nmd (giv U ys 0) z).length ≤ 100000 := fun x hx => by
  refine ⟨h.l3 x hx, fun ys pm => ?_⟩
  have l6 : ys.length ≤ 6 := by rw [pm.length_eq]; exact h.vars w6
  have all : ∀ z ∈ x.2.1 :: x.2.2, Nm (nmd (giv U ys 0) z) := fun z hz => by
    refine nmd_nm l6 ?_
    rcases List.mem_cons.mp hz with rfl | hz
    · exact .inl (h.nT x hx)
    · rcases h.trm x hx z hz with q | ⟨q, _⟩
      · exact .inl q
      · exact .inr (pm.mem_iff.mpr (uniq_mem.mpr (mem_frees.mpr ⟨⟨x, hx, hz⟩, vr_isV q⟩)))
  refine ⟨factB_nm (all _ List.mem_cons_self) (by rw [List.length_map]; exact h.l3 x hx) fun z hz => ?_, fun z hz => ?_⟩
  · obtain ⟨y, hy, rfl⟩ := List.mem_map.mp hz
    exact all y (List.mem_cons_of_mem _ hy)
  · have := nm_size (all z hz)
    omega
/-- a table's name is not a variable -/
theorem LotLaw.tab {W : List Str} {xs : List Pt} (h : LotLaw W xs) (U ys : List Str) (pm : ys.Perm (uniq (LawH.frees xs))) : ∀ x ∈ xs, nmd (giv U ys 0) x.2.1 = x.2.1 := fun x hx => nmd_out fun m => by
  obtain ⟨_, v⟩ := mem_frees.mp (uniq_mem.mp (pm.mem_iff.mp m))
  rw [nm_noV (h.nT x hx)] at v
  cases v
theorem cutV_to (xs : List V) (k : Nat) : cutV xs none (some (k : Int)) = xs.take k := by
  unfold cutV
  rw [HT.sIx_nat, HT.sIx_none, List.drop_zero, Nat.sub_zero]
  rcases Nat.le_total k xs.length with h | h
  · rw [Nat.min_eq_left h]
  · rw [Nat.min_eq_right h, List.take_of_length_le (Nat.le_refl _), List.take_of_length_le h]
theorem cut_ints {ns : List Int} (hb : ∀ z ∈ ns, intBits z ≤ 1048576) {i : Nat} {v : V} (lo hi : Option Int)
    (h : (cutV (ns.map V.int) lo hi ++ [V.int 0])[i]? = some v) : ∃ z, v = .int z ∧ intBits z ≤ 1048576 := by
  have hm := List.mem_of_getElem? h
  rcases List.mem_append.mp hm with q | q
  · have q2 : v ∈ ns.map V.int := List.mem_of_mem_drop (List.mem_of_mem_take q)
    obtain ⟨z, hz, rfl⟩ := List.mem_map.mp q2
    exact ⟨z, rfl, hb z hz⟩
  · have q2 : v = .int 0 := by simpa using q
    exact ⟨0, q2, by decide⟩
theorem map_keep {H H' : Hp} {a d : Addr} {c : Int} {n : Nat} {m : Prs2} (h : MapAt H d m) (s : SrcAt H a c n) (k : Keep a H H') : MapAt H' d m := by
  refine k _ _ h fun e => ?_
  obtain ⟨x, y, e2, _⟩ := s
  rw [← e, show H d = some (.dK (kd m)) from h] at e2
  cases e2
/-- a pool with some more names -/
theorem PoolAt.more {a : Addr} {H : Hp} {p q cs : Addr} {π : Pool} {N : List Str} (h : PoolAt a H p π) (hq : H q = some (.lst [.ref π.r, .ref cs, .ref π.vs])) (hc : H cs = some (.lst ((π.C ++ N).map V.str))) (nN : ∀ z ∈ N, Nm z) (lN : N.length ≤ 2) (c9 : π.C.length ≤ 9) (nq : q ≠ a) (nc : cs ≠ a) :
    PoolAt a H q { π with cs := cs, C := π.C ++ N } :=
  ⟨hq, h.hr, h.hrow, h.rows1, h.rows9, hc, fun z hz => (List.mem_append.mp hz).elim (h.nC z) (nN z), by have := h.C2; show 2 ≤ (π.C ++ N).length; rw [List.length_append]; omega, by show (π.C ++ N).length ≤ 20; rw [List.length_append]; omega, h.hv, h.nW, h.W9, nq, h.nr, nc, h.nv⟩
theorem new13 : ∀ z ∈ [Str.ofString "new1", Str.ofString "new3"], Nm z := by
  have e : ([Str.ofString "new1", Str.ofString "new3"].all fun z => nmB z.cps.toList) = true := by decide +kernel
  exact fun z hz => List.all_eq_true.mp e z hz
theorem lot_law {a : Addr} {π : Pool} {W : List Str} {H : Hp} {q : Addr} {xs : List Pt} {p : Addr} (hp : PoolAt a H p π) (h : LotOf a π W H q xs) (few : xs.length ≤ 6) (hW : ∀ z ∈ W, Vr z) : LotLaw W xs :=
  ⟨few, fun x hx => by
      obtain ⟨y, hy, e, _⟩ := (h.pat x hx).tab
      rw [← e]
      exact (hp.hrow y hy).2.1,
    fun x hx => by
      obtain ⟨y, hy, _, e⟩ := (h.pat x hx).tab
      rw [e]
      exact (hp.hrow y hy).2.2.1,
    fun x hx z hz => ((h.pat x hx).trm z hz).imp (hp.nC z) fun q => ⟨hW z q, q⟩⟩
end L2.LawH
set_option Elab.async false
set_option linter.all false
set_option maxRecDepth 100000
set_option maxHeartbeats 8000000
/-! The law on stores of lots: its rows. -/
namespace L2.LawH
open PySem PySem.Spec PyProof.Rows L2.TxtDict L2.NSet PySem.W L2.LstNe
open Builtin.Int (intBits)
abbrev sLaw : Stmt := top 39
def spLaw (K : PySem.W.Frag) : Sp := fun vs H Q _ => ∃ (a : Addr) (ns : List Int), vs = [.ref a] ∧ SqL K H a (ns.map V.int) ∧ ns.length ≤ 63 ∧
  (∀ n ∈ ns, intBits n ≤ 1048576) ∧ ∀ H', Q (.bl true) H'
theorem op_neTK {X : Cx} {n : Nat} {D : Eqv} {K : PySem.W.Frag} (e : X.K = K) (hD : Mon D) (h : EqG X n D) (hr : Room (n + 1) X.A) : OpR X (compareOp .NotEq) (rNeG (DTup K D)) := by
  subst e
  exact op_neG (ncG_tup hD h) hr
theorem op_eqTK {X : Cx} {n : Nat} {D : Eqv} {K : PySem.W.Frag} (e : X.K = K) (hD : Mon D) (h : EqG X n D) (hr : Room (n + 1) X.A) : OpR X (compareOp .Eq) (rEqG (DTup K D)) := by
  subst e
  exact op_eqG (rcG_tup hD h) hr
/-- Stores, or dicts, that are equal -/
abbrev DSD (C : Addr) : Eqv := fun x y H => DIns C (RS C) x y H ∨ DDic x y H
theorem mon_SD {C : Addr} : Mon (DSD C) := (mon_ins RS.mon).or mon_dic
/-- the class Store, its == among the rest -/
structure EqC (P : Program) (w : World) (K : PySem.W.Frag) (mg : Str → Option Value) (base : Heap) (C f : Addr) (fd : FuncData) : Prop where
  G : FnOk P w K mg base CX0 3 f fd ["self", "other"] (spEq (RS C))
  o : PySem.W.mroIn K C (.type "object") = some true
  ne : PySem.W.findIn K (.ref C) "__ne__" = some (some (.builtin "object.__ne__"))
  eq : PySem.W.findIn K (.ref C) "__eq__" = some (some (.ref f))
  fn : PySem.W.isFn K (.ref f) = true
  b : Binds K fd ["self", "other"] []
theorem eq_SD {X : Cx} {C f : Addr} {fd : FuncData} (c : EqC X.prog X.w X.K X.mg X.base C f fd) : EqG X 3 (DSD C) := (eqG_ins c.G c.eq c.fn c.b pass0).or (eqG_dic.mono (by decide))
theorem kd_all {m : Prs2} (nd : (m.map Prod.fst).Nodup) : ∀ p ∈ kd m, valV (kd m) p.1 = some p.2 ∧ flatB p.2 = true := fun p hp => by
  obtain ⟨q, hq, rfl⟩ := List.mem_map.mp hp
  refine ⟨?_, rfl⟩
  show valV (kd m) (Sum.inr q.1) = some (V.str q.2)
  rw [val_kd, look_of nd hq]
  rfl
theorem pair_strs {K : PySem.W.Frag} {H : Hp} : ∀ ys : List Str, Paired (EqV K H 1) (ys.map V.str) (ys.map V.str)
  | [] => .nil
  | y :: ys => .cons (.inl ⟨rfl, rfl⟩) (pair_strs ys)
theorem kd_keys (m : Prs2) : (kd m).map (fun kv => kV kv.1) = (m.map Prod.fst).map V.str := by
  unfold kd
  rw [List.map_map, List.map_map]
  rfl
theorem told_eq {C : Addr} {H : Hp} {s d s' d' : Addr} {M M' : List Pt} {m : Prs2} (h1 : StoreAt C H s M) (h2 : StoreAt C H s' M') (e : M.map (·.2) = M'.map (·.2)) (a1 : MapAt H d m) (a2 : MapAt H d' m) (nd : (m.map Prod.fst).Nodup) :
    Prs (DSD C) [.ref s, .ref d] [.ref s', .ref d'] H := by
  obtain ⟨dx, t, dh, g1, _⟩ := id h1
  obtain ⟨dy, t', dh', g2, _⟩ := id h2
  exact .cons (.inl ⟨s, s', dx, dy, _, _, rfl, rfl, g1, g2, M, M', h1, h2, e⟩) (.cons (.inr ⟨d, d', _, rfl, rfl, a1, a2, kd_all nd⟩) .nil)
section
variable {P : Program} {w : World} {K : PySem.W.Frag} {mg : Str → Option Value} {base : Heap}
abbrev nLaw : List Str := ["_law_script", "_law_cell", "_law_source_here", "_law_pool_here", "_law_k", "_law_here", "_law_lot_here", "_law_some", "_law_taken", "_law_due", "_law_told", "_law_pattern_here", "_law_j"]
theorem scLaw : FnScope nLaw ["_law_script"] (defScope sLaw) := ⟨rfl, rfl, rfl, by decide +kernel, rfl, by decide +kernel, by decide +kernel⟩
def kTake (us ws : List Value) : List Value := us ++ ws
def kTakeV (us ws : List V) : List V := us ++ ws
theorem ok_law {f fS fPo fD fLt fG fSo fV fF fI fE C T0 T1 : Addr} {fd fdS fdPo fdD fdLt fdG fdSo fdV fdF fdI fdE : FuncData} (F : Fun K "law" "law" sLaw f fd)
    (GS : FnOk P w K mg base CX0 1 fS fdS ["_law_cell"] spSource) (kS : PySem.W.keepIn K (.ref fS) = true) (bS : Binds K fdS ["_law_cell"] []) (mS : mg "_law_source" = some (.ref fS))
    (GPo : FnOk P w K mg base CX0 4 fPo fdPo ["_law_source_here"] spPool) (kPo : PySem.W.keepIn K (.ref fPo) = true) (bPo : Binds K fdPo ["_law_source_here"] []) (mPo : mg "_law_pool" = some (.ref fPo))
    (GD : FnOk P w K mg base CX0 1 fD fdD ["_law_source_here", "_law_limit"] spDraw) (kD : PySem.W.keepIn K (.ref fD) = true) (bD : Binds K fdD ["_law_source_here", "_law_limit"] []) (mD : mg "_law_draw" = some (.ref fD))
    (GL : FnOk P w K mg base CX0 4 fLt fdLt pLot spLot) (kL : PySem.W.keepIn K (.ref fLt) = true) (bL : Binds K fdLt pLot []) (mL : mg "_law_lot" = some (.ref fLt))
    (GG : FnOk P w K mg base CX0 3 fG fdG ["_law_lot_here", "_law_taken"] spGiven) (kG : PySem.W.keepIn K (.ref fG) = true) (bG : Binds K fdG ["_law_lot_here", "_law_taken"] []) (mG : mg "_law_given" = some (.ref fG))
    (GO : FnOk P w K mg base CX0 8 fSo fdSo ["lot", "taken"] (spStoreOf C K)) (kO : PySem.W.keepIn K (.ref fSo) = true) (bO : Binds K fdSo ["lot", "taken"] []) (mO : mg "store_of" = some (.ref fSo))
    (bO0 : Binds K fdSo ["lot", "taken"] [.ref T0]) (bOK : KBn K fdSo ["lot", "taken"] 1 ["taken"] kTake kTakeV) (hT0 : ∀ H, SqT K H T0 [])
    (GV : FnOk P w K mg base CX0 2 fV fdV ["_law_lot_here"] spLVars) (kV : PySem.W.keepIn K (.ref fV) = true) (bV : Binds K fdV ["_law_lot_here"] []) (mV : mg "_law_variables" = some (.ref fV))
    (GF : FnOk P w K mg base CX0 1 fF fdF ["_law_pattern_here", "_law_known"] spLFil) (kF : PySem.W.keepIn K (.ref fF) = true) (bF : Binds K fdF ["_law_pattern_here", "_law_known"] []) (mF : mg "_law_filled" = some (.ref fF))
    (M : Mk K C fI) (GI : FnOk P w K mg base CX0 5 fI fdI ["self", "facts"] (spInitS C K)) (bI : Binds K fdI ["self", "facts"] []) (bI0 : Binds K fdI ["self", "facts"] [.ref T1]) (hT1 : ∀ H, SqT K H T1 []) (mC : mg "Store" = some (.ref C))
    (E : EqC P w K mg base C fE fdE) (mi : mg "isinstance" = none) (ml : mg "list" = none) (mt : mg "tuple" = none) (mr : mg "range" = none) :
    FnOk P w K mg base CX0 9 f fd ["_law_script"] (spLaw K) := by
  refine F.ok scLaw (fun vs H Q E h => ?_) (fun cdv A' outer s H vs Q E' hr h => ?_)
  · obtain ⟨a, ns, rfl, _⟩ := h
    rfl
  · obtain ⟨a, ns, rfl, hS, hlen, hbits, k⟩ := h
    have hr1 : Room 1 _ := hr.mono (by decide)
    have hr2 : Room 2 _ := hr.mono (by decide)
    have hr3 : Room 3 _ := hr.mono (by decide)
    have hr4 : Room 4 _ := hr.mono (by decide)
    have hr6 : Room 6 _ := hr.mono (by decide)
    have hu := hr.units
    have hu1 := hu_of hr
    refine ⟨_, pss_cons (ps_for PassesOwn.never rfl (pi_list (pe_op op_cat (pe_slice sl_list (pv 0) po_none (po_some pe_int)) (pe_lst (pa_cons pe_int pa_nil)))) (pg_name (i := 1) scLaw.nd rfl (Or.inl rfl))
      (pss_cons (ps_set (i := 2) scLaw.nd rfl (Or.inr rfl) (pe_call GS hr1 (by rfl) mS kS bS .nil pass0 (pa_cons (pv 1) pa_nil)))
      (pss_cons (ps_set (i := 3) scLaw.nd rfl (Or.inl rfl) (pe_call GPo hr4 (by rfl) mPo kPo bPo .nil pass0 (pa_cons (pv 2) pa_nil)))
      (pss_one (ps_for PassesOwn.never rfl (pi_range1 (by rfl) mr (pa_cons pe_int pa_nil)) (pg_name (i := 4) scLaw.nd rfl (Or.inl rfl))
        (pss_cons (ps_set (i := 5) scLaw.nd rfl (Or.inl rfl) (pe_lst (pa_cons (pe_ix ix_list (pv 3) pe_int (fun _ _ => rfl)) (pa_cons (pe_op op_cat (pe_ix ix_list (pv 3) pe_int (fun _ _ => rfl)) (pe_slice sl_list (pe_lst (pa_cons pe_str (pa_cons pe_str pa_nil))) po_none (po_some (pe_call GD hr1 (by rfl) mD kD bD .nil pass0 (pa_cons (pv 2) (pa_cons pe_int pa_nil))))))
          (pa_cons (pe_ix ix_list (pv 3) pe_int (fun _ _ => rfl)) pa_nil)))))
        (pss_cons (ps_set (i := 6) scLaw.nd rfl (Or.inl rfl) (pe_call GL hr4 (by rfl) mL kL bL .nil pass0 (pa_cons (pv 2) (pa_cons (pv 5) (pa_cons (pe_slice sl_list (pe_ix ix_list (pv 3) pe_int (fun _ _ => rfl)) po_none (po_some pe_int)) (pa_cons pe_int pa_nil))))))
        (pss_cons (ps_set (i := 7) scLaw.nd rfl (Or.inr rfl) (pe_lst (pa_cons pe_str (pa_cons pe_str (pa_cons pe_str (pa_cons pe_str (pa_cons pe_str (pa_cons pe_str pa_nil))))))))
        (pss_cons (ps_setLc (i := 8) (own := [("_law_j", 12)]) (g := gName 12) (tt := tYes) rfl scLaw.nd rfl rfl (sw_true rfl rfl rfl (by decide +kernel)) (pi_range1 (by rfl) mr (pa_cons (pe_call GD hr1 (by rfl) mD kD bD .nil pass0 (pa_cons (pv 2) (pa_cons pe_int pa_nil))) pa_nil))
          (blkOk_by (own := [("_law_j", 12)]) (N := nLaw) (sc := defScope sLaw) (by decide +kernel)) (fun _ _ _ _ _ => pg_name (i := 12) scLaw.nd rfl (Or.inl rfl)) (fun _ _ _ _ _ => pts_nil)
          (fun _ _ _ _ _ => pe_ix (ix_listK (K := K) rfl) (pv 7) (pe_call GD hr1 (by rfl) mD kD bD .nil pass0 (pa_cons (pv 2) (pa_cons pe_int pa_nil))) (fun _ _ => rfl)))
        (pss_cons (ps_set (i := 9) scLaw.nd rfl (Or.inr rfl) (pe_call GG hr3 (by rfl) mG kG bG .nil pass0 (pa_cons (pv 6) (pa_cons (pv 8) pa_nil))))
        (pss_cons (ps_set (i := 10) scLaw.nd rfl (Or.inl rfl) (pe_call GO hr (by rfl) mO kO bO .nil pass0 (pa_cons (pv 6) (pa_cons (pv 8) pa_nil))))
        (pss_cons (ps_if (PW.pt (pw_or (pt_not (pt_val (pe_callB call_isi (by rfl) mi (by decide +kernel) (pa_cons (pv 10) (pa_cons (pe_bltn (v := .ty "tuple") (by rfl) mt (by decide +kernel) rfl) pa_nil)))))
            (pw_or (pt_cmpR (op_ne_dictA hr.units0) (pe_ix ix_tup (pv 10) pe_int (fun _ _ => rfl)) (pv 9) (nomark _))
            (pw_or1 (pt_cmpR (op_neVK (K := K) rfl hu) (pe_callTy (call_listD rfl) (by rfl) ml (by decide +kernel) (pa_cons (pe_ix ix_tup (pv 10) pe_int (fun _ _ => rfl)) pa_nil)) (pe_call GV hr2 (by rfl) mV kV bV .nil pass0 (pa_cons (pv 6) pa_nil)) (nomark _)))))) (pss_one (ps_ret pe_bl)) pss_nil)
        (pss_cons (ps_if (pt_cmpR (op_neG (ncG_ins E.G E.o E.ne E.eq E.fn E.b pass0) hr4) (pe_ix ix_tup (pv 10) pe_int (fun _ _ => rfl)) (pe_make M GI hr6 (by rfl) mC bI .nil pass0 (pa_cons (pe_lc (own := [("_law_pattern_here", 11)]) (g := gName 11) (tt := tYes) rfl scLaw.nd (pi_list (pv 6))
          (blkOk_by (own := [("_law_pattern_here", 11)]) (N := nLaw) (sc := defScope sLaw) (by decide +kernel)) (fun _ _ _ _ _ => pg_name (i := 11) scLaw.nd rfl (Or.inl rfl)) (fun _ _ _ _ _ => pts_nil)
          (fun _ _ _ _ _ => pe_call GF hr1 (by rfl) mF kF bF .nil pass0 (pa_cons (pv 11) (pa_cons (pv 9) pa_nil)))) pa_nil)) (nomark _)) (pss_one (ps_ret pe_bl)) pss_nil)
        (pss_one (ps_if (PW.pt (pw_or (pt_cmpR (op_neTK (K := K) rfl mon_SD (eq_SD E) hr4) (pe_callN GO hr (by rfl) mO kO bOK pass0 (pa_cons (pe_callTy call_tuple_of (by rfl) mt (by decide +kernel) (pa_cons (pv 6) pa_nil)) pa_nil) (pk_cons (pe_callTy call_tuple_of (by rfl) mt (by decide +kernel) (pa_cons (pv 8) pa_nil)) pk_nil)) (pv 10) (nomark _))
          (pw_or1 (PW.pt (pw_and (pt_cmpR (op_eqD hu) (pv 8) (pe_lst pa_nil) (nomark _)) (pw_and1 (pt_cmpR (op_neTK (K := K) rfl mon_SD (eq_SD E) hr4) (pe_call GO hr (by rfl) mO kO bO0 (dvs := [.ref T0]) (.cons rfl .nil) pass0 (pa_cons (pv 6) pa_nil)) (pv 10) (nomark _)))))))) (pss_one (ps_ret pe_bl)) pss_nil)))))))))))))))
      (pss_one (ps_ret (pe_cmpR (op_eqTK (K := K) rfl mon_SD (eq_SD E) hr4) (pe_call GO hr (by rfl) mO kO bO0 (dvs := [.ref T0]) (.cons rfl .nil) pass0 (pa_cons (pe_lst pa_nil) pa_nil))
        (pe_tup (pa_cons (pe_make0 M GI hr6 (by rfl) mC bI0 (dvs := [.ref T1]) (.cons rfl .nil) pass0) (pa_cons pe_dnewK pa_nil))) (nomark _)))), ?_⟩
    refine ⟨_, rfl, 5, rfl, a, _, rfl, hS, fun p1 n1 => ⟨(by show 1 ≤ sizeLine; decide), fun p2 n2 => ?_⟩⟩
    have u1 := same_new (o := .lst (cutV (ns.map V.int) none (some 5))) n1
    have u2 := same_new (o := .lst [V.int 0]) n2
    have few : (cutV (ns.map V.int) none (some 5)).length ≤ 63 := by
      refine Nat.le_trans (cutV_length _ _ _) ?_
      rw [List.length_map]
      exact hlen
    refine ⟨p1, p2, _, _, rfl, rfl, u2 _ _ upd_same, upd_same, (by rw [sizeLine_eq]; show _ + 1 ≤ _; omega), fun p3 n3 => ?_⟩
    refine ⟨p3, rfl, ⟨_, SqL.of upd_same⟩, for_list (K := K) (a := p3) (xs := cutV (ns.map V.int) none (some 5) ++ [V.int 0])
      (fun i σ H5 => (∃ v1 v2 v3 v4 v5 v6 v7 v8 v9 v10 v11 v12 : Option V, σ = [some (.ref a), v1, v2, v3, v4, v5, v6, v7, v8, v9, v10, v11, v12]) ∧ H5 p3 = some (.lst (cutV (ns.map V.int) none (some 5) ++ [V.int 0])))
      ⟨⟨none, none, none, none, none, none, none, none, none, none, none, none, rfl⟩, upd_same⟩ (fun i σ H5 _ h5 => SqL.of h5.2) ?_ ?_⟩
    · rintro i v σ H0 hi ⟨⟨v1, v2, v3, v4, v5, v6, v7, v8, v9, v10, v11, v12, rfl⟩, h3⟩
      obtain ⟨c, rfl, hc⟩ := cut_ints hbits none (some 5) hi
      refine ⟨_, rfl, c, rfl, hc, fun pS H1 s1 nS src1 => ?_⟩
      have zS : p3 ≠ pS := ne_of_none h3 nS
      have k1 : Keep pS H0 H1 := Keep.of s1
      refine ⟨_, rfl, pS, c, 999700, rfl, src1, fun p π H2 hp c9 src2 k2 => ?_⟩
      have k2 := k1.trans k2
      refine ⟨_, rfl, by omega, by omega, for_range (lo := 0) (n := 4) (fun j σ H5 => ∃ (w4 w5 w6 w7 w8 w9 w10 w11 w12 : Option V), σ = [some (.ref a), some (.int c), some (.ref pS), some (.ref p), w4, w5, w6, w7, w8, w9, w10, w11, w12] ∧
          SrcAt H5 pS c (1000 + 150 * (4 - j)) ∧ PoolAt pS H5 p π ∧ Keep pS H0 H5)
        ⟨_, _, _, _, _, _, _, _, _, rfl, src2.mono (by decide), hp, k2⟩ ?_ ?_⟩
      · rintro j σ H5 hj ⟨w4, w5, w6, w7, w8, w9, w10, w11, w12, rfl, src, hp5, k5⟩
        -- the pool with new names
        refine ⟨_, rfl, p, _, 0, _, rfl, rfl, SqL.of hp5.hp, rfl, _, rfl, p, _, 1, _, rfl, rfl, SqL.of hp5.hp, rfl, (by show 2 ≤ sizeLine; rw [sizeLine_eq]; decide), fun q1 nq1 => ?_⟩
        have src6 : SrcAt (upd H5 q1 (.lst [.str (Str.ofString "new1"), .str (Str.ofString "new3")])) pS c (1000 + 150 * (4 - (j + 1)) + 149 + 1) := (src.same (same_new nq1)).mono (by omega)
        have q1S : q1 ≠ pS := src.ne nq1
        have hp6 := hp5.keep (Keep.of (a := pS) (same_new (o := .lst [.str (Str.ofString "new1"), .str (Str.ofString "new3")]) nq1))
        have k6 : Keep pS H5 (upd H5 q1 (.lst [.str (Str.ofString "new1"), .str (Str.ofString "new3")])) := Keep.of (same_new nq1)
        have hq1 : (upd H5 q1 (.lst [.str (Str.ofString "new1"), .str (Str.ofString "new3")])) q1 = some (.lst [.str (Str.ofString "new1"), .str (Str.ofString "new3")]) := upd_same
        generalize upd H5 q1 (.lst [.str (Str.ofString "new1"), .str (Str.ofString "new3")]) = H6 at src6 hp6 k6 hq1 ⊢
        refine ⟨_, rfl, pS, c, _, 3, rfl, src6, by decide, by decide, fun r H7 r0 r1 src7 k7 => ?_⟩
        have hq7 := k7 _ _ hq1 q1S
        have hp7 := hp6.keep k7
        have k57 := k6.trans k7
        obtain ⟨jr, rfl⟩ : ∃ j : Nat, r = j := ⟨r.toNat, by omega⟩
        refine ⟨(jr : Int), rfl, q1, _, rfl, SqL.of hq7, fun q2 nq2 => ?_⟩
        rw [cutV_to]
        have hN : ([V.str (Str.ofString "new1"), V.str (Str.ofString "new3")].take jr) = (([Str.ofString "new1", Str.ofString "new3"].take jr).map V.str) := by rw [List.map_take]; rfl
        rw [hN]
        have nN : ∀ z ∈ [Str.ofString "new1", Str.ofString "new3"].take jr, Nm z := fun z hz => new13 z (List.mem_of_mem_take hz)
        have lN : ([Str.ofString "new1", Str.ofString "new3"].take jr).length ≤ 2 := by
          rw [List.length_take]
          show min jr 2 ≤ 2
          omega
        generalize [Str.ofString "new1", Str.ofString "new3"].take jr = N at nN lN ⊢
        have s8 : Same H7 (upd H7 q2 (.lst (N.map V.str))) := same_new nq2
        have hq8 : (upd H7 q2 (.lst (N.map V.str))) q2 = some (.lst (N.map V.str)) := upd_same
        generalize upd H7 q2 (.lst (N.map V.str)) = H8 at s8 hq8 ⊢
        have hp8 := hp7.keep (Keep.of (a := pS) s8)
        have src8 := src7.same s8
        refine ⟨π.cs, q2, _, _, rfl, rfl, hp8.hc, hq8, ?_, fun q3 nq3 => ?_⟩
        · rw [List.length_map, List.length_map, sizeLine_eq]
          omega
        have s9 : Same H8 (upd H8 q3 (.lst (π.C.map V.str ++ N.map V.str))) := same_new nq3
        have hq9 : (upd H8 q3 (.lst (π.C.map V.str ++ N.map V.str))) q3 = some (.lst ((π.C ++ N).map V.str)) := by rw [upd_same, List.map_append]
        have nq3S : q3 ≠ pS := src8.ne nq3
        generalize upd H8 q3 (.lst (π.C.map V.str ++ N.map V.str)) = H9 at s9 hq9 ⊢
        have hp9 := hp8.keep (Keep.of (a := pS) s9)
        have src9 := src8.same s9
        refine ⟨_, rfl, p, _, 2, _, rfl, rfl, SqL.of hp9.hp, rfl, (by show 3 ≤ sizeLine; rw [sizeLine_eq]; decide), fun q4 nq4 => ?_⟩
        have s10 : Same H9 (upd H9 q4 (.lst [.ref π.r, .ref q3, .ref π.vs])) := same_new nq4
        have hq10 : (upd H9 q4 (.lst [.ref π.r, .ref q3, .ref π.vs])) q4 = some (.lst [.ref π.r, .ref q3, .ref π.vs]) := upd_same
        have nq4S : q4 ≠ pS := src9.ne nq4
        generalize upd H9 q4 (.lst [.ref π.r, .ref q3, .ref π.vs]) = H10 at s10 hq10 ⊢
        have hp10 := hp9.keep (Keep.of (a := pS) s10)
        have src10 := src9.same s10
        have hpN := hp10.more hq10 (s10 _ _ hq9) nN lN c9 nq4S nq3S
        have k510 : Keep pS H5 H10 := ((k57.trans (Keep.of s8)).trans (Keep.of s9)).trans (Keep.of s10)
        clear hp5 hp6 hp7 hp8 hp9 src src6 src7 src8 src9 k6 k7 k57 s8 s9 s10 hq1 hq7 hq8 hq9 hq10
        -- the lot
        refine ⟨_, rfl, _, rfl, _, rfl, p, _, 2, _, rfl, rfl, SqL.of hp10.hp, rfl, 6, rfl, π.vs, _, rfl, SqL.of hp10.hv, fun q5 nq5 => ?_⟩
        have s11 : Same H10 (upd H10 q5 (.lst (cutV (π.W.map V.str) none (some 6)))) := same_new nq5
        have hq11 : (upd H10 q5 (.lst (cutV (π.W.map V.str) none (some 6)))) q5 = some (.lst ((π.W.take 6).map V.str)) := by
          rw [upd_same, List.map_take]
          exact congrArg (fun l => some (HO.lst l)) (cutV_to (π.W.map V.str) 6)
        have nq5S : q5 ≠ pS := src10.ne nq5
        generalize upd H10 q5 (.lst (cutV (π.W.map V.str) none (some 6))) = H11 at s11 hq11 ⊢
        have hW : ∀ z ∈ π.W.take 6, Vr z := fun z hz => hp10.nW z (List.mem_of_mem_take hz)
        have lW : (π.W.take 6).length ≤ 6 := List.length_take_le _ _
        have hv11 : VarsAt pS H11 q5 (π.W.take 6) := ⟨hq11, hW, by omega, nq5S⟩
        generalize π.W.take 6 = W at hW lW hv11
        have src11 : SrcAt H11 pS c (1000 + 150 * (4 - (j + 1)) + 28 + 20 * 6 + 1) := (src10.same s11).mono (by omega)
        refine ⟨pS, q4, q5, c, _, 6, _, W, rfl, by decide, src11, hpN.keep (Keep.of s11), hv11, fun q xs H12 lot lx src12 k12 => ?_⟩
        have ll : LotLaw W xs := lot_law (hpN.keep ((Keep.of s11).trans k12)) lot lx hW
        have k512 : Keep pS H5 H12 := (k510.trans (Keep.of s11)).trans k12
        have hp12 := hp10.keep ((Keep.of s11).trans k12)
        clear hv11 hq11 nq5S s11 hpN src10 src11 hp10 k510 k12
        -- the names that are taken
        refine ⟨(by show 6 ≤ sizeLine; rw [sizeLine_eq]; decide), fun q6 nq6 => ?_⟩
        have nq6S : q6 ≠ pS := src12.ne nq6
        have s13 := same_new (o := .lst [.str (Str.ofString "new1"), .str (Str.ofString "new2"), .str (Str.ofString "new4"), .str (Str.ofString "a"), .str (Str.ofString "z9"), .str (Str.ofString "new10")]) nq6
        have hq13 : (upd H12 q6 (.lst [.str (Str.ofString "new1"), .str (Str.ofString "new2"), .str (Str.ofString "new4"), .str (Str.ofString "a"), .str (Str.ofString "z9"), .str (Str.ofString "new10")])) q6 = some (.lst ([Str.ofString "new1", Str.ofString "new2", Str.ofString "new4", Str.ofString "a", Str.ofString "z9", Str.ofString "new10"].map V.str)) := upd_same
        generalize upd H12 q6 (.lst [.str (Str.ofString "new1"), .str (Str.ofString "new2"), .str (Str.ofString "new4"), .str (Str.ofString "a"), .str (Str.ofString "z9"), .str (Str.ofString "new10")]) = H13 at s13 hq13 ⊢
        have six : ∀ z ∈ [Str.ofString "new1", Str.ofString "new2", Str.ofString "new4", Str.ofString "a", Str.ofString "z9", Str.ofString "new10"], PyData.strOk z = true := by
          have e : ([Str.ofString "new1", Str.ofString "new2", Str.ofString "new4", Str.ofString "a", Str.ofString "z9", Str.ofString "new10"].all PyData.strOk) = true := by decide +kernel
          exact fun z hz => List.all_eq_true.mp e z hz
        have l6 : [Str.ofString "new1", Str.ofString "new2", Str.ofString "new4", Str.ofString "a", Str.ofString "z9", Str.ofString "new10"].length = 6 := rfl
        generalize [Str.ofString "new1", Str.ofString "new2", Str.ofString "new4", Str.ofString "a", Str.ofString "z9", Str.ofString "new10"] = Z at six l6 hq13
        have src13 : SrcAt H13 pS c (1000 + 150 * (4 - (j + 1)) + 27 + 1) := src12.same s13
        refine ⟨_, rfl, pS, c, _, 4, rfl, src13, by decide, by decide, fun r H14 r0 r1 src14 k14 => ?_⟩
        obtain ⟨tn, rfl⟩ : ∃ j : Nat, r = j := ⟨r.toNat, by omega⟩
        have hq14 := k14 _ _ hq13 nq6S
        have k1214 : Keep pS H12 H14 := (Keep.of s13).trans k14
        refine ⟨_, rfl, by omega, by omega, fun D nD => ?_⟩
        have nDS : D ≠ pS := src14.ne nD
        have q6D : q6 ≠ D := ne_of_none hq14 nD
        refine lc_range (lo := 0) (n := tn) (fun i H => ∃ tk : List Str, tk.length = i ∧ (∀ z ∈ tk, PyData.strOk z = true) ∧ H D = some (.lst (tk.map V.str)) ∧ SrcAt H pS c (1000 + 150 * (4 - (j + 1)) + 27 - i) ∧ (∀ b o, b ≠ pS → H14 b = some o → H b = some o))
          ⟨[], rfl, fun z h => (nomatch h), upd_same, (src14.same (same_new nD)), fun b o _ h => same_new nD _ _ h⟩ (fun i H hi p => ?_) (fun H15 p => ?_)
        · obtain ⟨tk, t1, t2, t3, t4, t5⟩ := p
          refine ⟨rfl, ?_⟩
          dsimp only [tYes]
          rw [if_pos rfl]
          have src15 : SrcAt H pS c (1000 + 150 * (4 - (j + 1)) + 27 - (i + 1) + 1) := t4.mono (by omega)
          refine ⟨_, rfl, _, rfl, pS, c, _, 6, rfl, src15, by decide, by decide, fun r2 H16 r20 r21 src16 k16 => ?_⟩
          obtain ⟨jz, rfl⟩ : ∃ j : Nat, r2 = j := ⟨r2.toNat, by omega⟩
          have jl : jz < Z.length := by omega
          refine ⟨q6, _, _, _, rfl, rfl, SqL.of (k16 _ _ (t5 _ _ nq6S hq14) nq6S), atI_nat (strs_get jl), _, k16 _ _ t3 nDS, ?_, tk ++ [Z[jz]], ?_, fun z hz => ?_, ?_, ?_, fun b o nb h => ?_⟩
          · rw [List.length_map, t1, sizeLine_eq]
            omega
          · rw [List.length_append, t1]
            rfl
          · rcases List.mem_append.mp hz with hz | hz
            · exact t2 z hz
            · rw [List.mem_singleton.mp hz]
              exact six _ (List.getElem_mem jl)
          · rw [upd_same, List.map_append]
            rfl
          · obtain ⟨x1, x2, x3, x4⟩ := src16
            exact ⟨x1, x2, by rw [upd_ne nDS.symm]; exact x3, x4⟩
          · rw [upd_ne (ne_of_none h nD)]
            exact k16 _ _ (t5 _ _ nb h) nb
        · obtain ⟨tk, t1, t2K, t3, t4, t5⟩ := p
          have src15 : SrcAt H15 pS c (1000 + 150 * (4 - (j + 1))) := t4.mono (by omega)
          have k1215 : Keep pS H12 H15 := k1214.trans fun b o h nb => t5 b o nb h
          have k515 := k512.trans k1215
          have lot15 := lot.keep k1215
          have hp15 := hp12.keep k1215
          clear t4 t5 q6D nDS hq14 k14 src14 src13 src12 k1214 s13 hq13 six l6 nq6S k1215 lot hp12 k512
          have len : (tk ++ allT xs).length ≤ 30 := by
            have := ll.all18
            rw [List.length_append]
            omega
          have few60 : (frees xs).length ≤ 60 := Nat.le_trans ll.frees (by decide)
          refine ⟨_, rfl, _, rfl, q, D, xs, tk, rfl, lot15.sq, lot15.at, fun x hx z hz => (ll.size x hx z hz).2, few60, ll.vars lW, t3, len, fun H16 d ys s16 nd pm so at16 => ?_⟩
          have facts := ll.facts lW (tk ++ allT xs)
          refine ⟨_, rfl, _, rfl, q, D, xs, tk, rfl, lot15.at.same s16, ll.size, few60, ll.vars lW, .inl (SqL.of (s16 _ _ t3)), len, by have := ll.few; omega, facts, fun H17 r s d2 t' dh dx ys' M s17 pm' so' hr at17 nd' hs ht' each hdh mem ndM rise => ?_⟩
          obtain rfl : ys' = ys := asc_eq so' so pm' pm
          have tab := ll.tab (tk ++ allT xs) ys' pm
          have nodup : ((giv (tk ++ allT xs) ys' 0).map Prod.fst).Nodup := by
            rw [giv_keys]
            exact pm.nodup_iff.mpr (uniq_nodup _)
          have at17d : MapAt H17 d (giv (tk ++ allT xs) ys' 0) := s17 _ _ at16
          have s517 : Same H15 H17 := fun b o h => s17 _ _ (s16 _ _ h)
          have sA : StoreAt C H17 s M := ⟨dx, t', dh, hs, ht', each⟩
          have keys : (giv (tk ++ allT xs) ys' 0).map Prod.fst = ys' := giv_keys _ _ _
          generalize hmp : giv (tk ++ allT xs) ys' 0 = mp at at17 at17d tab nodup mem at16 facts keys
          -- a tuple, the dict, its keys
          refine ⟨_, rfl, .ref r, .ty "tuple", _, _, true, rfl, .ty "tuple", .base (.tup hr), kit_ty (by decide +kernel), true, rfl, iteF ?_⟩
          have i1 : atI [V.ref s, V.ref d2] 1 = some (.ref d2) := rfl
          have i0 : atI [V.ref s, V.ref d2] 0 = some (.ref s) := rfl
          refine ⟨_, rfl, r, _, 1, _, rfl, rfl, SqT.of hr, i1, _, rfl, d2, d, _, _, rfl, rfl, at17, at17d, rfl, kd_all nodup, _, rfl, iteF ?_⟩
          refine ⟨_, rfl, r, _, 1, _, rfl, rfl, SqT.of hr, i1, d2, _, rfl, .inl at17, fun l1 nl1 => ?_⟩
          rw [kd_keys, keys]
          have s18 : Same H17 (upd H17 l1 (.lst (ys'.map V.str))) := same_new nl1
          have hl1 : (upd H17 l1 (.lst (ys'.map V.str))) l1 = some (.lst (ys'.map V.str)) := upd_same
          generalize upd H17 l1 (.lst (ys'.map V.str)) = H18 at s18 hl1 ⊢
          have s518 : Same H15 H18 := fun b o h => s18 _ _ (s517 _ _ h)
          refine ⟨_, rfl, q, xs, rfl, s518 _ _ lot15.sq, lot15.at.same s518, fun x hx z hz => (ll.size x hx z hz).2, few60, fun l2 zs H19 s19 nl2 pm2 so2 hl2 => ?_⟩
          obtain rfl : zs = ys' := asc_eq so2 so pm2 pm
          refine ⟨1, by decide, ⟨l1, l2, _, _, rfl, rfl, SqL.of (s19 _ _ hl1), SqL.of hl2, pair_strs _⟩, _, rfl, iteF ?_⟩
          have s519 : Same H15 H19 := fun b o h => s19 _ _ (s518 _ _ h)
          have s1719 : Same H17 H19 := fun b o h => s19 _ _ (s18 _ _ h)
          have sA19 := sA.ext s1719
          have hr19 := s1719 _ _ hr
          have at19 : MapAt H19 d2 mp := s1719 _ _ at17
          have at19d : MapAt H19 d mp := s1719 _ _ at17d
          have lot19 := lot15.at.same s519
          have sq19 := s519 _ _ lot15.sq
          have t19 := s519 _ _ t3
          clear sA hs ht' each hdh at17 at17d hr s18 s19 hl1 hl2 s518 s1719 s517 s17 s16 at16 nd nd'
          -- the Store of the filled patterns
          refine ⟨_, rfl, r, _, 0, _, rfl, rfl, SqT.of hr19, i0, _, rfl, q, rfl, ⟨_, SqL.of sq19⟩, fun L nL => ?_⟩
          refine lc_it (L2.walk_list (K := K) (xs := xs.map fun x => V.ref x.1)) (fun i HA => ∃ Fs : List Pt, HA L = some (.lst (Fs.map fun x => V.ref x.1)) ∧ Fs.map (·.2) = (xs.take i).map (fun x => (x.2.1, x.2.2.map (nmd mp))) ∧ (∀ x ∈ Fs, HA x.1 = some (.tup (ptV x)) ∧ x.1 ≠ L) ∧ Same H19 HA)
            ⟨[], upd_same, rfl, fun x h => (nomatch h), same_new nL⟩ (fun i HA hi p => let ⟨_, _, _, _, s⟩ := p; SqL.of (s _ _ sq19)) (fun i z HA HB hi pp yy => ?_) (fun HA pp => ?_)
          · obtain ⟨rfl, hz⟩ := yy
            obtain ⟨Fs, b1, b2, b3, b4⟩ := pp
            rw [List.getElem?_map] at hz
            obtain ⟨x, hx, rfl⟩ := Option.map_eq_some_iff.mp hz
            have mx := List.mem_of_getElem? hx
            refine ⟨rfl, ?_⟩
            dsimp only [tYes]
            rw [if_pos rfl]
            refine ⟨_, rfl, _, rfl, x.1, d, x.2.1, x.2.2, kd mp, rfl, b4 _ _ (lot19.each x mx), b4 _ _ at19d, by have := ll.l3 x mx; omega, fun u H' s' nu hu' => ⟨_, s' _ _ b1, ?_, Fs ++ [(u, x.2.1, x.2.2.map (nmd mp))], by rw [upd_same, List.map_append]; rfl, ?_, fun y hy => ?_, fun b o h => ?_⟩⟩
            · have e := congrArg List.length b2
              rw [List.length_map, List.length_map, List.length_take] at e
              have := ll.few
              rw [List.length_map, sizeLine_eq]
              omega
            · rw [List.map_append, b2, List.take_succ, hx]
              simp
            · have uL : u ≠ L := fun e => by
                rw [e, b1] at nu
                cases nu
              rcases List.mem_append.mp hy with hy | hy
              · obtain ⟨c1, c2⟩ := b3 y hy
                exact ⟨by rw [upd_ne c2]; exact s' _ _ c1, c2⟩
              · rw [List.mem_singleton.mp hy]
                refine ⟨?_, uL⟩
                show (upd H' L _) u = _
                have e : x.2.2.map (fillV (kd mp)) = (x.2.2.map (nmd mp)).map V.str := by
                  rw [List.map_map]
                  exact List.map_congr_left fun z _ => fill_nmd mp z
                rw [upd_ne uL, hu', ptV, e]
            · rw [upd_ne (ne_of_none h nL)]
              exact s' _ _ (b4 _ _ h)
          obtain ⟨Fs, b1, b2, b3, b4⟩ := pp
          rw [List.length_map, List.take_length] at b2
          intro x dx1 nx ndx ne
          have sU : Same HA (upd (upd HA dx1 (.own x)) x (.ins C dx1 [])) := fun b o h => by
            rw [upd_ne (ne_of_none h nx), upd_ne (ne_of_none h ndx)]
            exact h
          have hxi : (upd (upd HA dx1 (.own x)) x (.ins C dx1 [])) x = some (.ins C dx1 []) := upd_same
          have nx19 : H19 x = none := none_of8 b4 nx
          have s19B : ∀ b o, H19 b = some o → (upd (upd HA dx1 (.own x)) x (.ins C dx1 [])) b = some o := fun b o h => sU _ _ (b4 _ _ h)
          generalize upd (upd HA dx1 (.own x)) x (.ins C dx1 []) = HB at sU hxi s19B ⊢
          have old : ∀ y ∈ Fs, ∃ z ∈ xs, (z.2.1, z.2.2.map (nmd mp)) = y.2 := fun y hy => by
            have h : y.2 ∈ Fs.map (·.2) := List.mem_map.mpr ⟨y, hy, rfl⟩
            rw [b2] at h
            obtain ⟨z, hz, e⟩ := List.mem_map.mp h
            exact ⟨z, hz, e⟩
          have lF : Fs.length = xs.length := by
            have e := congrArg List.length b2
            simpa using e
          have factsOf : ∀ z ∈ xs, factB (.str z.2.1 :: (z.2.2.map (nmd mp)).map V.str) = true ∧ z.2.1.length ≤ 100000 ∧ ∀ y ∈ z.2.2, (nmd mp y).length ≤ 100000 := fun z hz => by
            have q := (facts z hz).2 zs pm
            rw [hmp, tab z hz] at q
            exact ⟨q.1, by have := nm_size (ll.nT z hz); omega, fun y hy => q.2 y (List.mem_cons_of_mem _ hy)⟩
          refine ⟨x, L, dx1, Fs, rfl, hxi, .inl (SqL.of (sU _ _ b1)), fun y hy => ⟨sU _ _ (b3 y hy).1, ?_, ?_, ?_⟩, by have := ll.few; omega, fun H20 t2 dh2 M2 keep hp2 ht2 nt2 nh2 hdh2 sub2 all2 ndM2 rise2 => ⟨rfl, ?_⟩⟩
          · obtain ⟨z, hz, e⟩ := old y hy
            unfold ptV
            rw [← e]
            exact (factsOf z hz).1
          · obtain ⟨z, hz, e⟩ := old y hy
            rw [← e, List.length_map]
            exact ll.l3 z hz
          · intro v hv
            obtain ⟨z, hz, e⟩ := old y hy
            unfold ptV at hv
            rw [← e] at hv
            rcases List.mem_cons.mp hv with rfl | hv
            · exact .inl ⟨_, rfl, (factsOf z hz).2.1⟩
            · rw [List.map_map] at hv
              obtain ⟨w2, hw2, rfl⟩ := List.mem_map.mp hv
              exact .inl ⟨_, rfl, (factsOf z hz).2.2 _ hw2⟩
          have s1920 : Same H19 H20 := fun b o h => keep b o (fun e => by rw [e, nx19] at h; cases h) (s19B _ _ h)
          have sB : StoreAt C H20 x M2 := ⟨dx1, t2, dh2, hp2, ht2, fun y hy => keep _ _ (fun e => by
            have h := sU _ _ (b3 y (sub2 y hy)).1
            rw [e, hxi] at h
            cases h) (sU _ _ (b3 y (sub2 y hy)).1)⟩
          have want : ∀ c, c ∈ M.map (·.2) ↔ c ∈ xs.map fun x => (x.2.1, x.2.2.map (nmd mp)) := fun c => by
            have e : (xs.map fun x => (nmd mp x.2.1, x.2.2.map (nmd mp))) = xs.map fun x => (x.2.1, x.2.2.map (nmd mp)) := List.map_congr_left fun z hz => by rw [tab z hz]
            rw [← e]
            exact mem c
          have eqM : M.map (·.2) = M2.map (·.2) := rise_one ndM ndM2 rise rise2 fun c => by
            rw [want, ← b2]
            constructor
            · intro h
              obtain ⟨y, hy, rfl⟩ := List.mem_map.mp h
              exact all2 y hy
            · intro h
              obtain ⟨y, hy, rfl⟩ := List.mem_map.mp h
              exact List.mem_map.mpr ⟨y, sub2 y hy, rfl⟩
          have sA20 := sA19.ext s1920
          obtain ⟨dxa, ta, da, ga, ga2⟩ := id sA20
          refine ⟨⟨s, x, dxa, dx1, _, _, rfl, rfl, ga, hp2, M, M2, sA20, sB, eqM⟩, fun H21 e21 => ⟨_, rfl, iteF ?_⟩⟩
          have s521 : Same H15 H21 := fun b o h => e21 _ _ (s1920 _ _ (s519 _ _ h))
          have s1921 : Same H19 H21 := fun b o h => e21 _ _ (s1920 _ _ h)
          have sA21 := sA19.ext s1921
          have at21 : MapAt H21 d2 mp := s1921 _ _ at19
          have hr21 := s1921 _ _ hr19
          have lot21 := lot15.at.same s521
          have sq21 := s521 _ _ lot15.sq
          have t21 := s521 _ _ t3
          have src21 := src15.same s521
          have hp21 := hp15.keep (Keep.of (a := pS) s521)
          have k521' := k515.trans (Keep.of s521)
          clear sA20 ga ga2 sB s1920 sA19 at19 at19d hr19 lot19 sq19 t19 e21 keep hp2 ht2 nt2 nh2 hdh2 sub2 all2 ndM2 rise2 eqM b1 b2 b3 b4 sU hxi s19B old lF factsOf nx ndx nx19
          -- the same of a tuple, by name
          have small : xs.length ≤ 20 := by have := ll.few; omega
          have again : ∀ {H23 : Hp} {r2 s2 d3 t2 dh2 dx2 : Addr} {ys2 : List Str} {M2 : List Pt}, Same H21 H23 → ys2.Perm (uniq (frees xs)) → sortedS ys2 = true → H23 r2 = some (.tup [.ref s2, .ref d3]) → MapAt H23 d3 (giv (tk ++ allT xs) ys2 0) →
              H23 s2 = some (.ins C dx2 (fsS t2 dh2)) → H23 t2 = some (.tup (M2.map fun x => V.ref x.1)) → (∀ x ∈ M2, H23 x.1 = some (.tup (ptV x))) →
              (∀ c, c ∈ M2.map (·.2) ↔ c ∈ xs.map fun x => (nmd (giv (tk ++ allT xs) ys2 0) x.2.1, x.2.2.map (nmd (giv (tk ++ allT xs) ys2 0)))) → (M2.map (·.2)).Nodup → Rise (fun x : Pt => (ptM x).2.data) M2 →
              DTup K (DSD C) (.ref r2) (.ref r) H23 := fun {H23 r2 s2 d3 t2 dh2 dx2 ys2 M2} s23 pm3 so3 hr3 at3 hs3 ht3 each3 mem3 nd3 rise3 => by
            obtain rfl : ys2 = zs := asc_eq so3 so2 pm3 pm2
            rw [hmp] at at3 mem3
            refine ⟨r2, r, _, _, rfl, rfl, SqT.of hr3, SqT.of (s23 _ _ hr21), told_eq ⟨dx2, t2, dh2, hs3, ht3, each3⟩ (sA21.ext s23) ?_ at3 (s23 _ _ at21) nodup⟩
            exact rise_one nd3 ndM rise3 rise fun c => by rw [mem3, mem]
          refine ⟨_, rfl, q, _, rfl, .inl ⟨SqL.of sq21, fun tq ntq => ?_⟩⟩
          have s22 : Same H21 (upd H21 tq (.tup (xs.map fun x => V.ref x.1))) := same_new ntq
          have hq22 : (upd H21 tq (.tup (xs.map fun x => V.ref x.1))) tq = some (.tup (xs.map fun x => V.ref x.1)) := upd_same
          generalize upd H21 tq (.tup (xs.map fun x => V.ref x.1)) = H22 at s22 hq22 ⊢
          refine ⟨_, rfl, D, _, rfl, .inl ⟨SqL.of (s22 _ _ t21), fun tt ntt => ?_⟩⟩
          have s23 : Same H22 (upd H22 tt (.tup (tk.map V.str))) := same_new ntt
          have ht23 : (upd H22 tt (.tup (tk.map V.str))) tt = some (.tup (tk.map V.str)) := upd_same
          generalize upd H22 tt (.tup (tk.map V.str)) = H23 at s23 ht23 ⊢
          have s2123 : Same H21 H23 := fun b o h => s23 _ _ (s22 _ _ h)
          refine ⟨rfl, rfl, tq, tt, xs, tk, rfl, ⟨.inr (s23 _ _ hq22), (lot21.same s2123).each⟩, ll.size, few60, ll.vars lW, .inr (SqT.of ht23), len, small, ll.facts lW _, fun H24 r2 s2 d3 t2 dh2 dx2 ys2 M2 s24 pm3 so3 hr3 at3 nd3 hs3 ht3 each3 hdh3 mem3 ndM3 rise3 => ?_⟩
          have s2124 : Same H21 H24 := fun b o h => s24 _ _ (s2123 _ _ h)
          refine ⟨_, rfl, again s2124 pm3 so3 hr3 at3 hs3 ht3 each3 mem3 ndM3 rise3, fun H25 e25 => ⟨_, rfl, iteF ?_⟩⟩
          have s2125 : Same H21 H25 := fun b o h => e25 _ _ (s2124 _ _ h)
          clear s24 pm3 so3 hr3 at3 nd3 hs3 ht3 each3 hdh3 mem3 ndM3 rise3 e25 s2124 s2123 s23 s22 hq22 ht23
          have ends : ∀ (w4 w5 w6 w7 w8 w9 w10 w11 w12 : Option V) (HZ : Hp), Same H21 HZ → ∃ (v4 v5 v6 v7 v8 v9 v10 v11 v12 : Option V), ([some (.ref a), some (.int c), some (.ref pS), some (.ref p), w4, w5, w6, w7, w8, w9, w10, w11, w12] : St) = [some (.ref a), some (.int c), some (.ref pS), some (.ref p), v4, v5, v6, v7, v8, v9, v10, v11, v12] ∧
              SrcAt HZ pS c (1000 + 150 * (4 - (j + 1))) ∧ PoolAt pS HZ p π ∧ Keep pS H0 HZ := fun w4 w5 w6 w7 w8 w9 w10 w11 w12 HZ sZ =>
            ⟨w4, w5, w6, w7, w8, w9, w10, w11, w12, rfl, src21.same sZ, hp21.keep (Keep.of sZ), (k5.trans k521').trans (Keep.of sZ)⟩
          -- without names that are taken
          refine ⟨_, rfl, (by show 0 ≤ sizeLine; decide), fun l0 nl0 => ?_⟩
          have s26 : Same H25 (upd H25 l0 (.lst [])) := same_new nl0
          have hl0 : (upd H25 l0 (.lst [])) l0 = some (.lst []) := upd_same
          generalize upd H25 l0 (.lst []) = H26 at s26 hl0 ⊢
          have s2126 : Same H21 H26 := fun b o h => s26 _ _ (s2125 _ _ h)
          refine ⟨_, _, .lst (SqL.of (s2126 _ _ t21)) (dp_strs tk), .lst (SqL.of hl0) .nil, shaped_strs t2K, by decide, _, rfl, ?_⟩
          rw [eqv_nil]
          by_cases e0 : tk = []
          · rw [decide_eq_true e0]
            refine iteT ?_
            subst e0
            refine ⟨_, rfl, q, T0, xs, [], rfl, lot21.same s2126, ll.size, few60, ll.vars lW, .inr (hT0 _), len, small, ll.facts lW _, fun H27 r2 s2 d3 t2 dh2 dx2 ys2 M2 s27 pm3 so3 hr3 at3 nd3 hs3 ht3 each3 hdh3 mem3 ndM3 rise3 => ?_⟩
            have s2127 : Same H21 H27 := fun b o h => s27 _ _ (s2126 _ _ h)
            refine ⟨_, rfl, again s2127 pm3 so3 hr3 at3 hs3 ht3 each3 mem3 ndM3 rise3, fun H28 e28 => ⟨_, rfl, iteF ?_⟩⟩
            exact ends _ _ _ _ _ _ _ _ _ _ fun b o h => e28 _ _ (s2127 _ _ h)
          · rw [decide_eq_false e0]
            refine iteF ?_
            refine iteF ?_
            exact ends _ _ _ _ _ _ _ _ _ _ s2126
      · rintro σ H5 ⟨w4, w5, w6, w7, w8, w9, w10, w11, w12, rfl, src, hp5, k5⟩
        exact ⟨⟨_, _, _, _, _, _, _, _, _, _, _, _, rfl⟩, k5 _ _ h3 zS⟩
    · rintro σ HZ ⟨⟨v1, v2, v3, v4, v5, v6, v7, v8, v9, v10, v11, v12, rfl⟩, _⟩
      refine ⟨(by show 0 ≤ sizeLine; decide), fun l0 nl0 => ?_⟩
      have hl0 : (upd HZ l0 (.lst [])) l0 = some (.lst []) := upd_same
      generalize upd HZ l0 (.lst []) = H1 at hl0 ⊢
      refine ⟨l0, T0, [], [], rfl, ⟨.inl hl0, fun x h => nomatch h⟩, (fun x h => nomatch h), by decide, by decide, .inr (hT0 _), by decide, by decide, (fun x h => nomatch h), fun H2 r s d t' dh dx ys M s2 pm so hr at2 nd hs ht each hdh mem ndM rise => ?_⟩
      obtain rfl : ys = [] := List.length_eq_zero_iff.mp pm.length_eq
      have m0 : ∀ {M : List Pt}, (∀ x ∈ M, x ∈ ([] : List Pt)) → M = [] := fun {M} h => List.eq_nil_iff_forall_not_mem.mpr fun x hx => nomatch h x hx
      have M0 : M.map (·.2) = [] := List.eq_nil_iff_forall_not_mem.mpr fun c hc => nomatch (mem c).mp hc
      intro x dx1 nx ndx ne
      have sU : Same H2 (upd (upd H2 dx1 (.own x)) x (.ins C dx1 [])) := fun b o h => by
        rw [upd_ne (ne_of_none h nx), upd_ne (ne_of_none h ndx)]
        exact h
      have hxi : (upd (upd H2 dx1 (.own x)) x (.ins C dx1 [])) x = some (.ins C dx1 []) := upd_same
      generalize upd (upd H2 dx1 (.own x)) x (.ins C dx1 []) = H3 at sU hxi ⊢
      refine ⟨x, T1, dx1, [], rfl, hxi, .inr (hT1 _), (fun x h => nomatch h), by decide, fun H4 t4 dh4 M4 keep hp4 ht4 nt4 nh4 hdh4 sub4 all4 ndM4 rise4 => ⟨rfl, ?_⟩⟩
      have s24 : Same H2 H4 := fun b o h => keep b o (fun e => by rw [e, nx] at h; cases h) (sU _ _ h)
      obtain rfl := m0 sub4
      intro d5 nd5
      refine ⟨(by show 2 ≤ sizeLine; rw [sizeLine_eq]; decide), fun r6 nr6 => ?_⟩
      have s46 : ∀ v, Same H4 (upd (upd H4 d5 (.dK [])) r6 v) := fun v b o h => same_new nr6 _ _ (same_new nd5 _ _ h)
      have d6 : ∀ v, (upd (upd H4 d5 (.dK [])) r6 v) d5 = some (.dK []) := fun v => same_new nr6 _ _ upd_same
      refine ⟨⟨r, r6, _, _, rfl, rfl, SqT.of (s46 _ _ _ (s24 _ _ hr)), SqT.of upd_same, ?_⟩, fun H7 _ => k H7⟩
      refine told_eq (m := []) (M := M) (M' := []) ⟨dx, t', dh, s46 _ _ _ (s24 _ _ hs), s46 _ _ _ (s24 _ _ ht), fun y hy => s46 _ _ _ (s24 _ _ (each y hy))⟩ ⟨dx1, t4, dh4, s46 _ _ _ hp4, s46 _ _ _ ht4, fun y h => nomatch h⟩ M0 (s46 _ _ _ (s24 _ _ at2)) (d6 _) (by decide)
end
end L2.LawH
set_option Elab.async false
set_option linter.all false
set_option maxRecDepth 100000
set_option maxHeartbeats 0
/-! The law on stores of lots: its end. -/
namespace L2.LawH
open PySem PySem.Spec PyProof.Rows L2.TxtDict L2.NSet L2.LstNe PySem.W
open Builtin.Int (intBits)
/-- a def with the default () -/
theorem fund_mk {K : PySem.W.Frag} {x qual : Str} {st : Stmt} {f TD T0 : Addr} {oc kV doc pm cdv ct : Value} {od an d2 d3 : Option Addr} {osl s2 s3 : Array (Option Value)} {c2 : Value} {n2 n3 : Nat}
    (l : K.lookup f = some ⟨oc, od, .func (PySem.W.fnOf x qual (defArgs st) (defBody st) (defScope st) (.ref TD) kV doc pm an cdv ct), osl⟩) (c : PySem.W.codeIn K cdv qual = true) (k : PySem.W.keepIn K (.ref f) = true)
    (lD : K.lookup TD = some ⟨c2, d2, .seq #[.ref T0] n2, s2⟩) (l0 : K.lookup T0 = some ⟨.type "tuple", d3, .seq #[] n3, s3⟩) :
    ∃ fd T0, FunD K x qual (defArgs st) (defBody st) (defScope st) [.ref T0] [] f fd ∧ ∀ H, SqT K H T0 [] :=
  ⟨_, T0, ⟨⟨oc, od, _, kV, doc, pm, an, cdv, ct, osl, rfl, l, c, .inr ⟨by simp, TD, _, [.ref T0], n2, rfl, lD, rfl, .cons rfl .nil⟩, .inl rfl⟩, k⟩,
    fun H => .inr ⟨_, #[], n3, l0, rfl, rfl, (by show 0 ≤ sizeLine; decide), .nil⟩⟩
theorem all_given {K : PySem.W.Frag} {x qual : Str} {st : Stmt} {T0 : V} {f : Addr} {fd : FuncData} {p1 p2 : Str} (F : FunD K x qual (defArgs st) (defBody st) (defScope st) [T0] [] f fd)
    (h : ∀ (T : Addr) (kV doc pm : Value) (an : Option Addr) (cdv ct : Value) (us its : List Value), us.length = 2 → its.length = 1 →
      ∃ k, bindArgs (PySem.W.fnOf x qual (defArgs st) (defBody st) (defScope st) (.ref T) kV doc pm an cdv ct) ⟨us, []⟩ = seqItems? (.ref T) >>= k ∧ k (some its.toArray) = pure ([p1, p2].zip (us ++ its.drop 1))) : Binds K fd [p1, p2] [] := by
  obtain ⟨ds, v, b⟩ := FunD.binds1 (ps := [p1, p2]) F 2 1 (by simp) rfl h
  cases v
  exact b
theorem one_given {K : PySem.W.Frag} {x qual : Str} {st : Stmt} {T0 : Addr} {f : Addr} {fd : FuncData} {p1 p2 : Str} (F : FunD K x qual (defArgs st) (defBody st) (defScope st) [.ref T0] [] f fd)
    (h : ∀ (T : Addr) (kV doc pm : Value) (an : Option Addr) (cdv ct : Value) (us its : List Value), us.length = 1 → its.length = 1 →
      ∃ k, bindArgs (PySem.W.fnOf x qual (defArgs st) (defBody st) (defScope st) (.ref T) kV doc pm an cdv ct) ⟨us, []⟩ = seqItems? (.ref T) >>= k ∧ k (some its.toArray) = pure ([p1, p2].zip (us ++ its.drop 0))) : Binds K fd [p1, p2] [.ref T0] := by
  obtain ⟨ds, v, b⟩ := FunD.binds1 (ps := [p1, p2]) F 1 0 (by simp) rfl h
  cases v with
  | cons r t =>
    cases t
    cases r
    exact b
theorem all_mk {P : Program} {w : World} {K : PySem.W.Frag} {h : Heap} {mg : Str → Option Value} {fa fS fD fNm fNs fPo fTm fPt fLo fLv fLf fGi fVs fN fV fP fF fFi fW fL fO fC fI fE : Addr} {t3 t4 : Tok}
    (X : K.In h) (G : h.Ns mainGlobals mg) (hfa : mg "law" = some (.ref fa))
    (bS : PySem.W.nsIn K mainGlobals "_law_source" = some (some (.ref fS)))
    (ES : ∃ fd, Fun K "_law_source" "_law_source" sSource fS fd)
    (bD : PySem.W.nsIn K mainGlobals "_law_draw" = some (some (.ref fD)))
    (ED : ∃ fd, Fun K "_law_draw" "_law_draw" sDraw fD fd)
    (bNm : PySem.W.nsIn K mainGlobals "_law_name" = some (some (.ref fNm)))
    (ENm : ∃ fd, Fun K "_law_name" "_law_name" sName fNm fd)
    (bNs : PySem.W.nsIn K mainGlobals "_law_names" = some (some (.ref fNs)))
    (ENs : ∃ fd, Fun K "_law_names" "_law_names" sNames fNs fd)
    (bPo : PySem.W.nsIn K mainGlobals "_law_pool" = some (some (.ref fPo)))
    (EPo : ∃ fd, Fun K "_law_pool" "_law_pool" sPool fPo fd)
    (bTm : PySem.W.nsIn K mainGlobals "_law_term" = some (some (.ref fTm)))
    (ETm : ∃ fd, Fun K "_law_term" "_law_term" sTerm fTm fd)
    (bPt : PySem.W.nsIn K mainGlobals "_law_pattern" = some (some (.ref fPt)))
    (EPt : ∃ fd, Fun K "_law_pattern" "_law_pattern" sPat fPt fd)
    (bLo : PySem.W.nsIn K mainGlobals "_law_lot" = some (some (.ref fLo)))
    (ELo : ∃ fd, Fun K "_law_lot" "_law_lot" sLot7 fLo fd)
    (bLv : PySem.W.nsIn K mainGlobals "_law_variables" = some (some (.ref fLv)))
    (ELv : ∃ fd, Fun K "_law_variables" "_law_variables" sLVars fLv fd)
    (bLf : PySem.W.nsIn K mainGlobals "_law_filled" = some (some (.ref fLf)))
    (ELf : ∃ fd, Fun K "_law_filled" "_law_filled" sLFil fLf fd)
    (bGi : PySem.W.nsIn K mainGlobals "_law_given" = some (some (.ref fGi)))
    (EGi : ∃ fd, Fun K "_law_given" "_law_given" sGiven fGi fd)
    (bVs : PySem.W.nsIn K mainGlobals "variables_of" = some (some (.ref fVs)))
    (EVs : ∃ fd, Fun K "variables_of" "variables_of" sVars fVs fd)
    (bN : PySem.W.nsIn K mainGlobals "is_name" = some (some (.ref fN)))
    (EN : ∃ fd, Fun K "is_name" "is_name" sIsN fN fd)
    (bV : PySem.W.nsIn K mainGlobals "is_variable" = some (some (.ref fV)))
    (EV : ∃ fd, Fun K "is_variable" "is_variable" sIsV9 fV fd)
    (bP : PySem.W.nsIn K mainGlobals "is_pattern" = some (some (.ref fP)))
    (EP : ∃ fd, Fun K "is_pattern" "is_pattern" sIsP9 fP fd)
    (bF : PySem.W.nsIn K mainGlobals "is_fact" = some (some (.ref fF)))
    (EF : ∃ fd, Fun K "is_fact" "is_fact" sIsF10 fF fd)
    (bFi : PySem.W.nsIn K mainGlobals "filled" = some (some (.ref fFi)))
    (EFi : ∃ fd, Fun K "filled" "filled" sFil fFi fd)
    (bW : PySem.W.nsIn K mainGlobals "store_with" = some (some (.ref fW)))
    (EW : ∃ fd, Fun K "store_with" "store_with" sStoreWith fW fd)
    (bL : PySem.W.nsIn K mainGlobals "law" = some (some (.ref fL)))
    (EL : ∃ fd, Fun K "law" "law" sLaw fL fd)
    (bO : PySem.W.nsIn K mainGlobals "store_of" = some (some (.ref fO)))
    (DO : ∃ fd T0, FunD K "store_of" "store_of" (defArgs sStoreOf) (defBody sStoreOf) (defScope sStoreOf) [.ref T0] [] fO fd ∧ ∀ H, SqT K H T0 [])
    (bC : PySem.W.nsIn K mainGlobals "Store" = some (some (.ref fC)))
    (bI : PySem.W.findIn K (.ref fC) "__init__" = some (some (.ref fI)))
    (DI : ∃ fd T0, FunD K "__init__" "Store.__init__" (defArgs sInitS) (defBody sInitS) (defScope sInitS) [.ref T0] [] fI fd ∧ ∀ H, SqT K H T0 [])
    (iI : PySem.W.isFn K (.ref fI) = true)
    (bE : PySem.W.findIn K (.ref fC) "__eq__" = some (some (.ref fE)))
    (EE : ∃ fd, Fun K "__eq__" "Store.__eq__" sEqS fE fd)
    (iE : PySem.W.isFn K (.ref fE) = true)
    (pg : PySem.W.plainGet K fC Str.empty = true)
    (hd : PySem.W.hasDictIn K fC = true)
    (po : PySem.W.plainOver K fC = true)
    (sa : PySem.W.findIn K (.ref fC) "__setattr__" = some (some (.builtin "object.__setattr__")))
    (mk : PySem.W.makesIn K fC = true)
    (kc : PySem.W.keepIn K (.ref fC) = true)
    (nF : PySem.W.findIn K (.ref fC) "_facts" = some none)
    (nH : PySem.W.findIn K (.ref fC) "_held" = some none)
    (nG : PySem.W.findIn K (.ref fC) "_groups" = some none)
    (ha : PySem.W.findIn K (.ref fC) "__class__" = some (some (.builtin "object.__class__")))
    (hn : PySem.W.specialIn K (.builtin "object.__class__") "__get__" = some (some (.builtin "getset_descriptor.__get__")))
    (htk : PySem.W.takesIn K (.builtin "object.__class__") = some true)
    (hm : PySem.W.mroIn K fC (.type "object") = some true)
    (ne : PySem.W.findIn K (.ref fC) "__ne__" = some (some (.builtin "object.__ne__")))
    (z_int : PySem.W.nsIn K mainGlobals "int" = some none)
    (z_str : PySem.W.nsIn K mainGlobals "str" = some none)
    (z_len : PySem.W.nsIn K mainGlobals "len" = some none)
    (z_range : PySem.W.nsIn K mainGlobals "range" = some none)
    (z_tuple : PySem.W.nsIn K mainGlobals "tuple" = some none)
    (z_list : PySem.W.nsIn K mainGlobals "list" = some none)
    (z_sorted : PySem.W.nsIn K mainGlobals "sorted" = some none)
    (z_all : PySem.W.nsIn K mainGlobals "all" = some none)
    (z_isinstance : PySem.W.nsIn K mainGlobals "isinstance" = some none)
    (z_set : PySem.W.nsIn K mainGlobals "set" = some none)
    (c0 : PySem.W.nsIn K mainGlobals "LONGEST_NAME" = some (some (.int 12 t3)))
    (c1 : PySem.W.nsIn K mainGlobals "MOST_TERMS" = some (some (.int 3 t4)))
    : ∃ fd : FuncData, (∀ (s : Shared) (v : Value), BindsTo s fd ⟨[v], []⟩ [("_law_script", v)]) ∧
      ∀ base : Heap, K.In base → base.Ns mainGlobals mg → FnOk P w K mg base CX0 9 fa fd ["_law_script"] (spLaw K) := by
  have e := hfa.symm.trans (PySem.W.mg_of X G bL)
  cases e
  obtain ⟨dS, FS⟩ := ES
  obtain ⟨dD, FD⟩ := ED
  obtain ⟨dNm, FNm⟩ := ENm
  obtain ⟨dNs, FNs⟩ := ENs
  obtain ⟨dPo, FPo⟩ := EPo
  obtain ⟨dTm, FTm⟩ := ETm
  obtain ⟨dPt, FPt⟩ := EPt
  obtain ⟨dLo, FLo⟩ := ELo
  obtain ⟨dLv, FLv⟩ := ELv
  obtain ⟨dLf, FLf⟩ := ELf
  obtain ⟨dGi, FGi⟩ := EGi
  obtain ⟨dVs, FVs⟩ := EVs
  obtain ⟨dN, FN⟩ := EN
  obtain ⟨dV, FV⟩ := EV
  obtain ⟨dP, FP⟩ := EP
  obtain ⟨dF, FF⟩ := EF
  obtain ⟨dFi, FFi⟩ := EFi
  obtain ⟨dW, FW⟩ := EW
  obtain ⟨dL, FL⟩ := EL
  obtain ⟨dO, T0, FO, hT0⟩ := DO
  obtain ⟨dI, T1, FI, hT1⟩ := DI
  obtain ⟨dE, FE⟩ := EE
  have mS := PySem.W.mg_of X G bS
  have qS := FS.binds (ps := ["_law_cell"]) fun _ _ _ _ _ _ us hl => match us, hl with | [_], _ => rfl
  have mD := PySem.W.mg_of X G bD
  have qD := FD.binds (ps := ["_law_source_here", "_law_limit"]) fun _ _ _ _ _ _ us hl => match us, hl with | [_, _], _ => rfl
  have mNm := PySem.W.mg_of X G bNm
  have qNm := FNm.binds (ps := ["_law_source_here"]) fun _ _ _ _ _ _ us hl => match us, hl with | [_], _ => rfl
  have mNs := PySem.W.mg_of X G bNs
  have qNs := FNs.binds (ps := ["_law_source_here", "_law_many"]) fun _ _ _ _ _ _ us hl => match us, hl with | [_, _], _ => rfl
  have mPo := PySem.W.mg_of X G bPo
  have qPo := FPo.binds (ps := ["_law_source_here"]) fun _ _ _ _ _ _ us hl => match us, hl with | [_], _ => rfl
  have mTm := PySem.W.mg_of X G bTm
  have qTm := FTm.binds (ps := ["_law_source_here", "_law_pool_here", "_law_variables_here", "_law_share"]) fun _ _ _ _ _ _ us hl => match us, hl with | [_, _, _, _], _ => rfl
  have mPt := PySem.W.mg_of X G bPt
  have qPt := FPt.binds (ps := ["_law_source_here", "_law_pool_here", "_law_variables_here", "_law_share"]) fun _ _ _ _ _ _ us hl => match us, hl with | [_, _, _, _], _ => rfl
  have mLo := PySem.W.mg_of X G bLo
  have qLo := FLo.binds (ps := ["_law_source_here", "_law_pool_here", "_law_variables_here", "_law_most"]) fun _ _ _ _ _ _ us hl => match us, hl with | [_, _, _, _], _ => rfl
  have mLv := PySem.W.mg_of X G bLv
  have qLv := FLv.binds (ps := ["_law_lot_here"]) fun _ _ _ _ _ _ us hl => match us, hl with | [_], _ => rfl
  have mLf := PySem.W.mg_of X G bLf
  have qLf := FLf.binds (ps := ["_law_pattern_here", "_law_known"]) fun _ _ _ _ _ _ us hl => match us, hl with | [_, _], _ => rfl
  have mGi := PySem.W.mg_of X G bGi
  have qGi := FGi.binds (ps := ["_law_lot_here", "_law_taken"]) fun _ _ _ _ _ _ us hl => match us, hl with | [_, _], _ => rfl
  have mVs := PySem.W.mg_of X G bVs
  have qVs := FVs.binds (ps := ["lot"]) fun _ _ _ _ _ _ us hl => match us, hl with | [_], _ => rfl
  have mN := PySem.W.mg_of X G bN
  have qN := FN.binds (ps := ["value"]) fun _ _ _ _ _ _ us hl => match us, hl with | [_], _ => rfl
  have mV := PySem.W.mg_of X G bV
  have qV := FV.binds (ps := ["value"]) fun _ _ _ _ _ _ us hl => match us, hl with | [_], _ => rfl
  have mP := PySem.W.mg_of X G bP
  have qP := FP.binds (ps := ["value"]) fun _ _ _ _ _ _ us hl => match us, hl with | [_], _ => rfl
  have mF := PySem.W.mg_of X G bF
  have qF := FF.binds (ps := ["value"]) fun _ _ _ _ _ _ us hl => match us, hl with | [_], _ => rfl
  have mFi := PySem.W.mg_of X G bFi
  have qFi := FFi.binds (ps := ["pattern", "known"]) fun _ _ _ _ _ _ us hl => match us, hl with | [_, _], _ => rfl
  have mW := PySem.W.mg_of X G bW
  have qW := FW.binds (ps := ["facts"]) fun _ _ _ _ _ _ us hl => match us, hl with | [_], _ => rfl
  have mL := PySem.W.mg_of X G bL
  have mO := PySem.W.mg_of X G bO
  have mC := PySem.W.mg_of X G bC
  have qO := all_given (p1 := "lot") (p2 := "taken") FO fun _ _ _ _ _ _ _ us its hl h1 => match us, hl, its, h1 with | [_, _], _, [_], _ => ⟨_, rfl, rfl⟩
  have qO0 := one_given (p1 := "lot") (p2 := "taken") FO fun _ _ _ _ _ _ _ us its hl h1 => match us, hl, its, h1 with | [_], _, [_], _ => ⟨_, rfl, rfl⟩
  have qI := all_given (p1 := "self") (p2 := "facts") FI fun _ _ _ _ _ _ _ us its hl h1 => match us, hl, its, h1 with | [_, _], _, [_], _ => ⟨_, rfl, rfl⟩
  have qI0 := one_given (p1 := "self") (p2 := "facts") FI fun _ _ _ _ _ _ _ us its hl h1 => match us, hl, its, h1 with | [_], _, [_], _ => ⟨_, rfl, rfl⟩
  obtain ⟨_, qOK⟩ := FunD.kbindsD (ps := ["lot", "taken"]) FO 1 ["taken"] (fun us _ ws => us ++ ws) (by simp) (fun r1 _ r3 => r1.append r3) fun _ _ _ _ _ _ _ us its ws hl h1 h2 => match us, hl, its, h1, ws, h2 with | [_], _, [_], _, [_], _ => ⟨_, rfl, rfl⟩
  have qE := FE.binds (ps := ["self", "other"]) fun _ _ _ _ _ _ us hl => match us, hl with | [_, _], _ => rfl
  have y_int := PySem.W.mg_none_of X G z_int
  have y_str := PySem.W.mg_none_of X G z_str
  have y_len := PySem.W.mg_none_of X G z_len
  have y_range := PySem.W.mg_none_of X G z_range
  have y_tuple := PySem.W.mg_none_of X G z_tuple
  have y_list := PySem.W.mg_none_of X G z_list
  have y_sorted := PySem.W.mg_none_of X G z_sorted
  have y_all := PySem.W.mg_none_of X G z_all
  have y_isinstance := PySem.W.mg_none_of X G z_isinstance
  have y_set := PySem.W.mg_none_of X G z_set
  have g0 := PySem.W.mg_of X G c0
  have g1 := PySem.W.mg_of X G c1
  have cl : Cls K fC := ⟨pg, hd, po, sa⟩
  have T : StT K mg fC := ⟨cl, nF, nH, nG⟩
  have M : Mk K fC fI := ⟨mk, bI, iI, kc⟩
  have me : PySem.W.kitOne K (.ref fC) (.ref fC) = some true := by
    show (if (Value.ref fC == Value.ref fC) = true then some true else PySem.W.kitCls K (.ref fC) (.ref fC)) = some true
    rw [if_pos (by simp)]
  have IC : C8.InsC K fC := ⟨cl, ha, hn, htk, hm, me⟩
  have FL' := FL
  obtain ⟨oc, od, kV, doc, pm, an, cdv, ct, osl, ez, _, _⟩ := FL.ex
  subst ez
  refine ⟨PySem.W.fnOf "law" "law" (defArgs sLaw) (defBody sLaw) (defScope sLaw) .none kV doc pm an cdv ct, fun s v => .of_eq rfl, fun base _ _ => ?_⟩
  have GS := ok_source (P := P) (w := w) (mg := mg) (base := base) FS
  have GD := ok_draw (P := P) (w := w) (mg := mg) (base := base) FD y_int
  have GNm := ok_name (P := P) (w := w) (mg := mg) (base := base) FNm FD qD y_int mD y_range
  have GNs := ok_names (P := P) (w := w) (mg := mg) (base := base) FNs GNm FNm.kp qNm mNm y_range y_str
  have GPo := ok_pool (P := P) (w := w) (mg := mg) (base := base) FPo GD FD.kp qD mD GNs FNs.kp qNs mNs y_range y_len
  have GTm := ok_term (P := P) (w := w) (mg := mg) (base := base) FTm GD FD.kp qD mD y_len
  have GPt := ok_pat (P := P) (w := w) (mg := mg) (base := base) FPt GD FD.kp qD mD GTm FTm.kp qTm mTm y_len y_range y_tuple
  have GLo := ok_lot (P := P) (w := w) (mg := mg) (base := base) FLo GD FD.kp qD mD GPt FPt.kp qPt mPt y_range
  have GLv := ok_lvars (P := P) (w := w) (mg := mg) (base := base) FLv y_sorted
  have GLf := ok_lfil (P := P) (w := w) (mg := mg) (base := base) FLf y_tuple
  have GGi := ok_given (P := P) (w := w) (mg := mg) (base := base) FGi GLv FLv.kp qLv mLv y_list y_str
  have GVs := ok_vars (P := P) (w := w) (mg := mg) (base := base) FVs y_sorted
  have GN := ok_isN (P := P) (w := w) (mg := mg) (base := base) FN g0 y_isinstance y_str y_len
  have GV := ok_isV (P := P) (w := w) (mg := mg) (base := base) FV GN FN.kp qN mN y_isinstance y_str
  have GP := ok_isP (P := P) (w := w) (mg := mg) (base := base) FP GN FN.kp qN mN GV FV.kp qV mV g1 y_isinstance y_tuple y_len
  have GF := ok_isF (P := P) (w := w) (mg := mg) (base := base) FF GN FN.kp qN mN g1 y_isinstance y_tuple y_len
  have GFi := ok_fil (P := P) (w := w) (mg := mg) (base := base) FFi y_tuple
  have GI := ok_initS (P := P) (w := w) (mg := mg) (base := base) FI T GF FF.kp qF mF y_sorted y_tuple y_set
  have GW := ok_storeWith (P := P) (w := w) (mg := mg) (base := base) FW T M GI qI0 hT1 mC y_sorted y_tuple y_set
  have GO := ok_storeOf (P := P) (w := w) (mg := mg) (base := base) FO GW FW.kp qW mW GVs FVs.kp qVs mVs GFi FFi.kp qFi mFi
  have GE := ok_eqS (P := P) (w := w) (mg := mg) (base := base) FE T IC mC y_isinstance
  exact ok_law FL' GS FS.kp qS mS GPo FPo.kp qPo mPo GD FD.kp qD mD GLo FLo.kp qLo mLo GGi FGi.kp qGi mGi GO FO.kp qO mO qO0 qOK hT0 GLv FLv.kp qLv mLv GLf FLf.kp qLf mLf M GI qI qI0 hT1 mC ⟨GE, hm, ne, bE, iE, qE⟩ y_isinstance y_list y_tuple y_range
theorem walk {l : PySem.W.OpenLaw} {q : Program} {loose : List Str} {XP : (Str → Option Value) → Heap → Prop} {YP : World → Heap → Prop} {d : DefRec} {K : Params → PySem.W.Frag}
    (hn : l.most = some 63) (hdf : d.params.defaults = []) (hY : ∀ (w : World) (h : Heap), YP w h → (K w.params).In h)
    (F : ∀ (w : World) (mg : Str → Option Value) (fa : Addr) (h : Heap), (K w.params).In h → h.Ns mainGlobals mg → mg d.name = some (.ref fa) →
      ∃ fd : FuncData, (∀ (s : Shared) (u : Value), BindsTo s fd ⟨[u], []⟩ [("_law_script", u)]) ∧
        ∀ base : Heap, (K w.params).In base → base.Ns mainGlobals mg → FnOk l.prog w (K w.params) mg base CX0 9 fa fd ["_law_script"] (spLaw (K w.params))) :
    PySem.W.WalkO q loose XP YP l.row.toRowW d [] (fun f vs => PySem.call f vs) :=
  L2.walk_ofB (n := 63) (k := 9) (x := "_law_script") (CX := fun _ => CX0) (sp := fun w => spLaw (K w.params)) hn (by decide) hdf ⟨rfl, by decide, by decide⟩ hY F
    (fun _ _ a ns hl hb _ hS => ⟨a, ns, rfl, hS, hl, hb, fun _ => rfl⟩) fun _ _ _ _ _ z => z
end L2.LawH
set_option Elab.async false
open PySem PySem.W PyProof.Rows
set_option maxRecDepth 100000 in
set_option maxHeartbeats 0 in
theorem PySem.Challenge.cw_fullestrows_k13_stores_of_lots_holds : PySem.Challenge.rw_fullestrows_k13_stores_of_lots.Holds := by
  w_on; o_law; k_head; (case hw => w_witness2)
  k_fill
  refine L2.LawH.walk (l := PySem.Challenge.rw_fullestrows_k13_stores_of_lots) rfl rfl (fun w h Y => PySem.W.kIn_of Y) ?F
  case F =>
    intro w mg fa h KX G hmg
    refine' L2.LawH.all_mk KX G hmg ?bS ?ES ?bD ?ED ?bNm ?ENm ?bNs ?ENs ?bPo ?EPo ?bTm ?ETm ?bPt ?EPt ?bLo ?ELo ?bLv ?ELv ?bLf ?ELf ?bGi ?EGi ?bVs ?EVs ?bN ?EN ?bV ?EV ?bP ?EP ?bF ?EF ?bFi ?EFi ?bW ?EW ?bL ?EL ?bO ?DO ?bC ?bI ?DI ?iI ?bE ?EE ?iE ?pg ?hd ?po ?sa ?mk ?kc ?nF ?nH ?nG ?ha ?hn ?htk ?hm ?ne ?z_int ?z_str ?z_len ?z_range ?z_tuple ?z_list ?z_sorted ?z_all ?z_isinstance ?z_set ?c0 ?c1
    (case bS => k_is)
    (case ES => exact ⟨_, L2.fun_mk (by k_is) (by k_is) (by k_is)⟩)
    (case bD => k_is)
    (case ED => exact ⟨_, L2.fun_mk (by k_is) (by k_is) (by k_is)⟩)
    (case bNm => k_is)
    (case ENm => exact ⟨_, L2.fun_mk (by k_is) (by k_is) (by k_is)⟩)
    (case bNs => k_is)
    (case ENs => exact ⟨_, L2.fun_mk (by k_is) (by k_is) (by k_is)⟩)
    (case bPo => k_is)
    (case EPo => exact ⟨_, L2.fun_mk (by k_is) (by k_is) (by k_is)⟩)
    (case bTm => k_is)
    (case ETm => exact ⟨_, L2.fun_mk (by k_is) (by k_is) (by k_is)⟩)
    (case bPt => k_is)
    (case EPt => exact ⟨_, L2.fun_mk (by k_is) (by k_is) (by k_is)⟩)
    (case bLo => k_is)
    (case ELo => exact ⟨_, L2.fun_mk (by k_is) (by k_is) (by k_is)⟩)
    (case bLv => k_is)
    (case ELv => exact ⟨_, L2.fun_mk (by k_is) (by k_is) (by k_is)⟩)
    (case bLf => k_is)
    (case ELf => exact ⟨_, L2.fun_mk (by k_is) (by k_is) (by k_is)⟩)
    (case bGi => k_is)
    (case EGi => exact ⟨_, L2.fun_mk (by k_is) (by k_is) (by k_is)⟩)
    (case bVs => k_is)
    (case EVs => exact ⟨_, L2.fun_mk (by k_is) (by k_is) (by k_is)⟩)
    (case bN => k_is)
    (case EN => exact ⟨_, L2.fun_mk (by k_is) (by k_is) (by k_is)⟩)
    (case bV => k_is)
    (case EV => exact ⟨_, L2.fun_mk (by k_is) (by k_is) (by k_is)⟩)
    (case bP => k_is)
    (case EP => exact ⟨_, L2.fun_mk (by k_is) (by k_is) (by k_is)⟩)
    (case bF => k_is)
    (case EF => exact ⟨_, L2.fun_mk (by k_is) (by k_is) (by k_is)⟩)
    (case bFi => k_is)
    (case EFi => exact ⟨_, L2.fun_mk (by k_is) (by k_is) (by k_is)⟩)
    (case bW => k_is)
    (case EW => exact ⟨_, L2.fun_mk (by k_is) (by k_is) (by k_is)⟩)
    (case bL => k_is)
    (case EL => exact ⟨_, L2.fun_mk (by k_is) (by k_is) (by k_is)⟩)
    (case bO => k_is)
    (case DO => exact L2.LawH.fund_mk (by k_is) (by k_is) (by k_is) (by k_is) (by k_is))
    (case bC => k_is)
    (case bI => k_is)
    (case DI => exact L2.LawH.fund_mk (by k_is) (by k_is) (by k_is) (by k_is) (by k_is))
    (case iI => k_is)
    (case bE => k_is)
    (case EE => exact ⟨_, L2.fun_mk (by k_is) (by k_is) (by k_is)⟩)
    (case iE => k_is)
    (case pg => k_is)
    (case hd => k_is)
    (case po => k_is)
    (case sa => k_is)
    (case mk => k_is)
    (case kc => k_is)
    (case nF => k_is)
    (case nH => k_is)
    (case nG => k_is)
    (case ha => k_is)
    (case hn => k_is)
    (case htk => k_is)
    (case hm => k_is)
    (case ne => k_is)
    (case z_int => k_is)
    (case z_str => k_is)
    (case z_len => k_is)
    (case z_range => k_is)
    (case z_tuple => k_is)
    (case z_list => k_is)
    (case z_sorted => k_is)
    (case z_all => k_is)
    (case z_isinstance => k_is)
    (case z_set => k_is)
    (case c0 => k_is)
    (case c1 => k_is)
