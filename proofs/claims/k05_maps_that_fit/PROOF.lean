import PyProof.Rows.All
import Wide.All
import OpenK.AllK
import Wide.FinOn
import HandS.ForMost
import HandS.EndBits
import HandS.Set
import HandS.SetKeys
import HandS.SetBool
import HandS.Comp
import HandS.DictComp
import HandS.Strs
import HandS.SetTxt0
import HandS.More
import HandS.IsInst
import HandS.StrMore
import HandS.TupSets
import KE.KeyNested
import KE.KDictKeyed
import KE.SortData
import KE.SortCalls
import PyProof.FactsAll.tuple_2
import HandS.Deep
import PyProof.DictFindH
import HandS.ForExc
import HandS.Walk
import HandS.OwnEq
import HandS.Defaults
import HandS.DictTup
import HandS.ListItems
import HandS.SortRule
import KE.KDictPairs
import PyProof.DictUpdate
import PyProof.NeKinds
import HandS.ListEq
import HandS.DeepEq
import HandS.Codes
import PyProof.InstNe
import PyProof.DictMoreH
import HandS.TupAny
import KE.KDictZip
import KE.GoesZip
import KE.GoesMore
import KE.GoesEnum
import HandS.GenBody
import HandS.GenYield
import HandS.GenCall
import HandS.GenList
import PyProof.MinMaxWalk
import KE.DataCmp
import HandS.Conv
import KE.KDictCopyH
import KE.KDictList
import HandS.Style
import HandS.Property
import HandS.Finally
import HandS.MakeKw
import PySem.Challenge.RW_fullestrows_k05_maps_that_fit
set_option Elab.async false
set_option linter.all false
set_option maxRecDepth 100000
set_option maxHeartbeats 4000000
/-! The helpers of the laws: draws and names. -/
namespace L2.LawH
open PySem PySem.Spec PyProof.Rows
open Builtin.Int (intBits)
def top (i : Nat) : Stmt := PySem.Challenge.pw_fullestrows_k05_maps_that_fit.main.body.getD i (.Pass ⟨0, 0, 0, 0⟩)
abbrev sSource : Stmt := top 65
abbrev sDraw : Stmt := top 66
abbrev sName : Stmt := top 67

/-! ### numbers -/
theorem mod_pos {x y : Int} (h : 0 < y) : 0 ≤ x.fmod y ∧ x.fmod y < y := by
  rw [Int.fmod_eq_emod_of_nonneg x (Int.le_of_lt h)]
  exact ⟨Int.emod_nonneg x (by omega), Int.emod_lt_of_pos x h⟩
theorem small_bits {x : Int} (h0 : 0 ≤ x) (h : x < 1152921504606846976) : intBits x ≤ 60 := by
  refine PySem.intBits_le_iff.mpr ?_
  have e : (2 : Nat) ^ 60 = 1152921504606846976 := by decide
  rw [e]
  omega
theorem big_ok {c n m : Int} (hc : intBits c ≤ 1048576) (h0 : 0 ≤ n) (hn : n ≤ 1000000) (m0 : 0 ≤ m) (m1 : m ≤ 1000000) :
    (intBits (c * m + n * 40699 + 12011) : Int) * 3 ≤ 2 ^ 27 := by
  have h1 : intBits (c * m) ≤ 1048576 + 60 := PySem.intBits_mul_le hc (small_bits m0 (by omega))
  have h2 : intBits (n * 40699) ≤ 60 := small_bits (by omega) (by omega)
  have h3 : intBits (12011 : Int) ≤ 60 := small_bits (by omega) (by omega)
  have h5 := PySem.intBits_add_le (PySem.intBits_add_le h1 h2) h3
  have e : (2 : Int) ^ 27 = 134217728 := by decide
  rw [e]
  have h6 : max (max (1048576 + 60) 60 + 1) 60 + 1 = 1048638 := by decide
  rw [h6] at h5
  omega
theorem small_ok {x : Int} (h0 : 0 ≤ x) (h : x < 1152921504606846976) : (intBits x : Int) * 3 ≤ 2 ^ 27 := by
  have := small_bits h0 h
  have e : (2 : Int) ^ 27 = 134217728 := by decide
  rw [e]
  omega
theorem op_powB {X : Cx} : OpR X (binaryOp .Pow) (rI (fun i j => 0 ≤ j ∧ (Builtin.Int.intBits i : Int) * j ≤ 2 ^ 27) fun i j => .int (i ^ j.toNat)) :=
  opI fun _ _ _ _ _ _ _ hc q => pow_int hc.1 hc.2 q

/-! ### heaps -/
/-- all but a stands as it stood -/
def Keep (a : Addr) (H H' : Hp) : Prop := ∀ b o, H b = some o → b ≠ a → H' b = some o
theorem Keep.refl (a : Addr) (H : Hp) : Keep a H H := fun _ _ e _ => e
theorem Keep.trans {a : Addr} {H H1 H2 : Hp} (k : Keep a H H1) (l : Keep a H1 H2) : Keep a H H2 := fun b o e n => l b o (k b o e n) n
theorem Keep.of {a : Addr} {H H' : Hp} (s : Same H H') : Keep a H H' := fun b o e _ => s b o e
theorem same_new {H : Hp} {p : Addr} {o : HO} (n : H p = none) : Same H (upd H p o) := fun b u e => by
  rw [upd_ne (ne_of_none e n)]
  exact e
theorem Keep.free {a b : Addr} {H H' : Hp} (k : Keep a H H') (n : H' b = none) (ha : H' a ≠ none) : H b = none := by
  cases e : H b with
  | none => rfl
  | some o =>
    have nb : b ≠ a := fun z => ha (by rw [← z]; exact n)
    rw [k b o e nb] at n
    cases n

/-! ### the source of draws -/
/-- the source at a, of the cell c, with m draws still to be had -/
def SrcAt (H : Hp) (a : Addr) (c : Int) (m : Nat) : Prop := ∃ (d : Int) (n : Nat), H a = some (.lst [.int c, .int d, .int n]) ∧ n + m ≤ 1000000 ∧ intBits c ≤ 1048576
theorem SrcAt.mono {H : Hp} {a : Addr} {c : Int} {m m' : Nat} (h : SrcAt H a c m) (l : m' ≤ m) : SrcAt H a c m' := by
  obtain ⟨d, n, e, f, b⟩ := h
  exact ⟨d, n, e, by omega, b⟩
theorem SrcAt.some {H : Hp} {a : Addr} {c : Int} {m : Nat} (h : SrcAt H a c m) : H a ≠ none := by
  obtain ⟨d, n, e, _⟩ := h
  rw [e]
  exact fun z => by cases z
theorem SrcAt.same {H H' : Hp} {a : Addr} {c : Int} {m : Nat} (h : SrcAt H a c m) (s : Same H H') : SrcAt H' a c m := by
  obtain ⟨d, n, e, f, b⟩ := h
  exact ⟨d, n, s _ _ e, f, b⟩
theorem SrcAt.ne {H : Hp} {a p : Addr} {c : Int} {m : Nat} (h : SrcAt H a c m) (n : H p = none) : p ≠ a := by
  obtain ⟨d, k, e, _⟩ := h
  exact (ne_of_none e n).symm
def spSource : Sp := fun vs H Q _ => ∃ c : Int, vs = [.int c] ∧ intBits c ≤ 1048576 ∧ ∀ a H', Same H H' → H a = none → SrcAt H' a c 1000000 → Q (.ref a) H'
def spDraw : Sp := fun vs H Q _ => ∃ (a : Addr) (c : Int) (m : Nat) (k : Int), vs = [.ref a, .int k] ∧ SrcAt H a c (m + 1) ∧
  0 < k ∧ k ≤ 1000000 ∧ ∀ (r : Int) (H' : Hp), 0 ≤ r → r < k → SrcAt H' a c m → Keep a H H' → Q (.int r) H'

section
variable {P : Program} {w : World} {K : PySem.W.Frag} {mg : Str → Option Value} {base : Heap}
theorem scS : FnScope ["_law_cell"] ["_law_cell"] (defScope sSource) := ⟨rfl, rfl, rfl, by decide +kernel, rfl, by decide +kernel, by decide +kernel⟩
theorem ok_source {f : Addr} {fd : FuncData} (F : Fun K "_law_source" "_law_source" sSource f fd) : FnOk P w K mg base CX0 1 f fd ["_law_cell"] spSource := by
  refine F.ok scS (fun vs H Q E h => ?_) (fun cdv A outer s H vs Q E hr h => ?_)
  · obtain ⟨c, rfl, _⟩ := h
    rfl
  · obtain ⟨c, rfl, hb, k⟩ := h
    refine ⟨_, pss_one (ps_ret (pe_lst (pa_cons (pv 0) (pa_cons (pv 0) (pa_cons pe_int pa_nil))))), ?_⟩
    exact ⟨_, rfl, _, rfl, (by show 3 ≤ sizeLine; decide), fun a ha => k a _ (same_new ha) ha ⟨c, 0, upd_same, by decide, hb⟩⟩
theorem scD : FnScope ["_law_source_here", "_law_limit", "_law_digit", "_law_mixed"] ["_law_source_here", "_law_limit"] (defScope sDraw) :=
  ⟨rfl, rfl, rfl, by decide +kernel, rfl, by decide +kernel, by decide +kernel⟩
theorem ok_draw {f : Addr} {fd : FuncData} (F : Fun K "_law_draw" "_law_draw" sDraw f fd) (mi : mg "int" = none) :
    FnOk P w K mg base CX0 1 f fd ["_law_source_here", "_law_limit"] spDraw := by
  refine F.ok scD (fun vs H Q E h => ?_) (fun cdv A outer s H vs Q E hr h => ?_)
  · obtain ⟨a, c, n, m, rfl, _⟩ := h
    rfl
  · obtain ⟨a, c, fu, m, rfl, ⟨d, n, hs, hn, hc⟩, m0, m1, k⟩ := h
    refine ⟨_, pss_cons (ps_asg (pe_op op_add (pe_ix ix_list (pv 0) pe_int (fun _ _ => rfl)) pe_int) (pg_sub (pv 0) pe_int set_list))
      (pss_cons (ps_if (pt_cmpR op_ge (pe_ix ix_list (pv 0) pe_int (fun _ _ => rfl)) (pe_op op_pow pe_int pe_int) (nomark _))
        (pss_cons (ps_set (i := 2) scD.nd rfl (Or.inl rfl) (pe_op op_modN (pe_callTy call_int1 (by rfl) mi (by decide +kernel) (pa_cons (pe_ix ix_list (pv 0) pe_int (fun _ _ => rfl)) pa_nil)) (pv 1)))
        (pss_cons (ps_asg (pe_op op_fdivN (pe_ix ix_list (pv 0) pe_int (fun _ _ => rfl)) (pv 1)) (pg_sub (pv 0) pe_int set_list))
        (pss_one (ps_ret (pv 2))))) pss_nil)
      (pss_cons (ps_set (i := 3) scD.nd rfl (Or.inl rfl) (pe_op op_modN (pe_callTy call_int1 (by rfl) mi (by decide +kernel) (pa_cons (pe_op op_powB (pe_callTy call_int1 (by rfl) mi (by decide +kernel) (pa_cons (pe_op op_add (pe_op op_add (pe_op op_mul (pe_callTy call_int1 (by rfl) mi (by decide +kernel) (pa_cons (pe_ix ix_list (pv 0) pe_int (fun _ _ => rfl)) pa_nil)) pe_int) (pe_op op_mul (pe_ix ix_list (pv 0) pe_int (fun _ _ => rfl)) pe_int)) pe_int) pa_nil)) pe_int) pa_nil)) pe_int))
      (pss_cons (ps_set (i := 3) scD.nd rfl (Or.inl rfl) (pe_op op_modN (pe_callTy call_int1 (by rfl) mi (by decide +kernel) (pa_cons (pe_op op_powB (pe_callTy call_int1 (by rfl) mi (by decide +kernel) (pa_cons (pe_op op_add (pv 3) (pe_op op_mul (pe_op op_mul (pe_ix ix_list (pv 0) pe_int (fun _ _ => rfl)) (pe_ix ix_list (pv 0) pe_int (fun _ _ => rfl))) pe_int)) pa_nil)) pe_int) pa_nil)) pe_int))
      (pss_one (ps_ret (pe_op op_modN (pe_op op_fdivN (pv 3) pe_int) (pv 1))))))), ?_⟩
    -- src[2] = src[2] + 1
    refine ⟨_, rfl, a, _, _, _, rfl, rfl, SqL.of hs, rfl, _, _, rfl, rfl, _, rfl, a, _, _, _, rfl, rfl, hs, rfl, ?_⟩
    -- if src[0] >= 10 ** 18
    refine ⟨_, rfl, a, _, _, _, rfl, rfl, SqL.of upd_same, rfl, _, _, rfl, rfl, ⟨by decide, by decide, by decide⟩, _, _, rfl, rfl, _, rfl, ?_⟩
    refine ite2 (fun _ => ?_) (fun _ => ?_)
    · refine ⟨_, rfl, a, _, _, _, rfl, rfl, SqL.of upd_same, rfl, .inl ⟨_, rfl, ?_⟩⟩
      refine ⟨_, rfl, _, _, rfl, rfl, by omega, ?_⟩
      refine ⟨_, rfl, a, _, _, _, rfl, rfl, SqL.of upd_same, rfl, _, rfl, _, _, rfl, rfl, ⟨by omega, by omega⟩, _, rfl, a, _, _, _, rfl, rfl, upd_same, rfl, ?_⟩
      refine ⟨_, rfl, k _ _ (mod_pos m0).1 (mod_pos m0).2 ⟨_, n + 1, upd_same, by omega, hc⟩ fun b o e nb => ?_⟩
      rw [upd_ne nb, upd_ne nb]
      exact e
    · -- mixed
      refine ⟨_, rfl, a, _, _, _, rfl, rfl, SqL.of upd_same, rfl, .inl ⟨_, rfl, ?_⟩⟩
      refine ⟨_, _, rfl, rfl, .inr ⟨by decide, by decide⟩, _, rfl, a, _, _, _, rfl, rfl, SqL.of upd_same, rfl, _, _, rfl, rfl, .inr ⟨by decide, by decide⟩, _, _, rfl, rfl, _, _, rfl, rfl, .inl ⟨_, rfl, ?_⟩⟩
      refine ⟨_, _, rfl, rfl, ⟨by decide, big_ok hc (by omega) (by omega) (by decide) (by decide)⟩, .inl ⟨_, rfl, _, _, rfl, rfl, (by show (2147483647 : Int) ≠ 0; decide), ?_⟩⟩
      refine ⟨_, rfl, _, rfl, a, _, _, _, rfl, rfl, SqL.of upd_same, rfl, _, rfl, a, _, _, _, rfl, rfl, SqL.of upd_same, rfl, _, _, rfl, rfl, .inr ⟨by omega, by omega⟩, _, _, rfl, rfl, .inr ⟨by decide, by decide⟩, _, _, rfl, rfl, .inl ⟨_, rfl, ?_⟩⟩
      have sq0 : 0 ≤ ((n : Int) + 1) * ((n : Int) + 1) := Int.mul_nonneg (by omega) (by omega)
      have sq1 : ((n : Int) + 1) * ((n : Int) + 1) ≤ 1000001 * 1000001 := Int.mul_le_mul (by omega) (by omega) (by omega) (by omega)
      have b1 := fun x : Int => mod_pos (x := x) (y := 2147483647) (by decide)
      refine ⟨_, _, rfl, rfl, ⟨by decide, small_ok ?_ ?_⟩, .inl ⟨_, rfl, _, _, rfl, rfl, (by show (2147483629 : Int) ≠ 0; decide), ?_⟩⟩
      · exact Int.add_nonneg (b1 _).1 (by omega)
      · refine Int.lt_of_lt_of_le (Int.add_lt_add_right (b1 _).2 _) (by omega)
      -- return mixed // 64 % limit
      refine ⟨_, rfl, _, _, rfl, rfl, ⟨by decide, by decide⟩, _, rfl, _, _, rfl, rfl, (by show m ≠ 0; omega), ?_⟩
      refine k _ _ (mod_pos m0).1 (mod_pos m0).2 ⟨_, n + 1, upd_same, by omega, hc⟩ fun b o e nb => ?_
      rw [upd_ne nb]
      exact e

/-! ### names -/
def isLet (c : Nat) : Bool := decide (97 ≤ c) && decide (c ≤ 122)
def isSgn (c : Nat) : Bool := isLet c || (decide (48 ≤ c) && decide (c ≤ 57))
def nmB : List Nat → Bool
  | [] => false
  | c :: r => isLet c && r.all isSgn && decide (r.length ≤ 11)
/-- a name -/
def Nm (z : Str) : Prop := nmB z.cps.toList = true
theorem toList_append (a b : Str) : (a ++ b).cps.toList = a.cps.toList ++ b.cps.toList := by
  rw [Str.cps_append, Array.toList_append]
theorem length_toList (a : Str) : a.cps.toList.length = a.length := by
  show a.cps.toList.length = a.cps.size
  exact Array.length_toList
abbrev letS : Str := Str.ofString "abcdefghijklmnopqrstuvwxyz"
abbrev digS : Str := Str.ofString "0123456789"
theorem let_all : letS.cps.toList.all isLet = true := by decide +kernel
theorem sgn_all : (letS ++ digS).cps.toList.all isSgn = true := by decide +kernel
theorem let_len : letS.cps.toList.length = 26 := by decide +kernel
theorem sgn_len : (letS ++ digS).cps.toList.length = 36 := by decide +kernel
theorem pick {l : List Nat} {p : Nat → Bool} {n : Nat} (all : l.all p = true) (len : l.length = n) {r : Int} (h0 : 0 ≤ r) (h1 : r < n) :
    ∃ c, atI l r = some c ∧ p c = true := by
  obtain ⟨j, rfl⟩ : ∃ j : Nat, r = j := ⟨r.toNat, by omega⟩
  have hj : j < l.length := by omega
  refine ⟨l[j], atI_nat (List.getElem?_eq_getElem hj), ?_⟩
  exact List.all_eq_true.mp all _ (List.getElem_mem hj)
def spName : Sp := fun vs H Q _ => ∃ (a : Addr) (c : Int) (m : Nat), vs = [.ref a] ∧ SrcAt H a c (m + 14) ∧
  ∀ (z : Str) (H' : Hp), Nm z → SrcAt H' a c m → Keep a H H' → Q (.str z) H'
theorem scN : FnScope ["_law_source_here", "_law_letters", "_law_size", "_law_found", "_law_k"] ["_law_source_here"] (defScope sName) :=
  ⟨rfl, rfl, rfl, by decide +kernel, rfl, by decide +kernel, by decide +kernel⟩
theorem nm_one {c : Nat} (h : isLet c = true) : Nm ⟨#[c]⟩ := by
  show nmB [c] = true
  simp [nmB, h]
theorem sgn_of_let {c : Nat} (h : isLet c = true) : isSgn c = true := by simp [isSgn, h]
theorem nm_sgns {l : List Nat} (h : nmB l = true) : l.all isSgn = true ∧ l.length ≤ 12 ∧ 1 ≤ l.length := by
  cases l with
  | nil => cases h
  | cons c r =>
    simp only [nmB, Bool.and_eq_true, decide_eq_true_eq] at h
    refine ⟨?_, by simp; omega, by simp⟩
    simp only [List.all_cons, Bool.and_eq_true]
    exact ⟨sgn_of_let h.1.1, h.1.2⟩
theorem nm_tail {z : Str} (h : Nm z) : Nm (Str.ofString "m" ++ cutS z (some 1) none) := by
  obtain ⟨h1, h2, h3⟩ := nm_sgns h
  have e1 : (Str.ofString "m").cps.toList = [109] := by decide +kernel
  show nmB (Str.ofString "m" ++ cutS z (some 1) none).cps.toList = true
  rw [toList_append, e1]
  have e2 : (cutS z (some 1) none).cps.toList = (z.cps.toList.drop (min 1 z.length)).take (z.length - min 1 z.length) := by
    have e3 : HT.sIx z.length 0 (some 1) = min 1 z.length := HT.sIx_nat z.length 0 1
    unfold cutS
    rw [e3, HT.sIx_none]
  rw [e2]
  have l1 := length_toList z
  simp only [List.cons_append, List.nil_append, nmB, Bool.and_eq_true, decide_eq_true_eq]
  refine ⟨⟨by decide, ?_⟩, ?_⟩
  · rw [List.all_eq_true] at h1 ⊢
    exact fun x hx => h1 x (List.mem_of_mem_drop (List.mem_of_mem_take hx))
  · rw [List.length_take, List.length_drop]
    omega
theorem ok_name {f fD : Addr} {fd fdD : FuncData} (F : Fun K "_law_name" "_law_name" sName f fd) (FD : Fun K "_law_draw" "_law_draw" sDraw fD fdD)
    (bD : Binds K fdD ["_law_source_here", "_law_limit"] []) (mi : mg "int" = none) (mD : mg "_law_draw" = some (.ref fD)) (mr : mg "range" = none) :
    FnOk P w K mg base CX0 2 f fd ["_law_source_here"] spName := by
  have GD : FnOk P w K mg base CX0 1 fD fdD ["_law_source_here", "_law_limit"] spDraw := ok_draw FD mi
  refine F.ok scN (fun vs H Q E h => ?_) (fun cdv A outer s H vs Q E hr h => ?_)
  · obtain ⟨a, c, m, rfl, _⟩ := h
    rfl
  · obtain ⟨a, c, m, rfl, hs, k⟩ := h
    have hr1 : Room 1 _ := hr.mono (by decide)
    refine ⟨_, pss_cons (ps_set (i := 1) scN.nd rfl (Or.inl rfl) pe_str)
      (pss_cons (ps_set (i := 2) scN.nd rfl (Or.inl rfl) (pe_ix ix_list (pe_lst (pa_cons pe_int (pa_cons pe_int (pa_cons pe_int (pa_cons pe_int (pa_cons pe_int (pa_cons pe_int (pa_cons pe_int pa_nil)))))))) (pe_call GD hr1 (by rfl) mD FD.kp bD .nil pass0 (pa_cons (pv 0) (pa_cons pe_int pa_nil))) (fun _ _ => rfl)))
      (pss_cons (ps_set (i := 3) scN.nd rfl (Or.inl rfl) (pe_ix ix_str (pv 1) (pe_call GD hr1 (by rfl) mD FD.kp bD .nil pass0 (pa_cons (pv 0) (pa_cons pe_int pa_nil))) (fun _ _ => rfl)))
      (pss_cons (ps_for PassesOwn.never rfl (pi_range1 rfl mr (pa_cons (pv 2) pa_nil)) (pg_name (i := 4) scN.nd rfl (Or.inl rfl))
        (pss_one (ps_set (i := 3) scN.nd rfl (Or.inl rfl) (pe_op op_add_str (pv 3) (pe_ix ix_str (pe_op op_add_str (pv 1) pe_str) (pe_call GD hr1 (by rfl) mD FD.kp bD .nil pass0 (pa_cons (pv 0) (pa_cons pe_int pa_nil))) (fun _ _ => rfl))))))
      (pss_one (ps_ret (pe_ifExp (pt_cmpR op_ne (pe_slice sl_str (pv 3) po_none (po_some pe_int)) pe_str (nomark _)) (pv 3)
        (pe_op op_add_str pe_str (pe_slice sl_str (pv 3) (po_some pe_int) po_none)))))))), ?_⟩
    -- size
    refine ⟨(by show 7 ≤ sizeLine; decide), fun p1 n1 => ?_⟩
    have u1 := same_new (o := .lst [V.int 0, V.int 0, V.int 1, V.int 2, V.int 3, V.int 5, V.int 11]) n1
    have z1 := hs.ne n1
    refine ⟨_, rfl, a, c, m + 13, 7, rfl, hs.same u1, by decide, by decide, fun r1 H1 r10 r11 s1 k1 => ?_⟩
    have hl := k1 _ _ upd_same z1
    have size : ∃ sz : Nat, atI [V.int 0, V.int 0, V.int 1, V.int 2, V.int 3, V.int 5, V.int 11] r1 = some (.int sz) ∧ sz ≤ 11 := by
      obtain ⟨j, rfl⟩ : ∃ j : Nat, r1 = j := ⟨r1.toNat, by omega⟩
      have hj : j = 0 ∨ j = 1 ∨ j = 2 ∨ j = 3 ∨ j = 4 ∨ j = 5 ∨ j = 6 := by omega
      rcases hj with rfl | rfl | rfl | rfl | rfl | rfl | rfl
      · exact ⟨0, atI_nat (j := 0) rfl, by decide⟩
      · exact ⟨0, atI_nat (j := 1) rfl, by decide⟩
      · exact ⟨1, atI_nat (j := 2) rfl, by decide⟩
      · exact ⟨2, atI_nat (j := 3) rfl, by decide⟩
      · exact ⟨3, atI_nat (j := 4) rfl, by decide⟩
      · exact ⟨5, atI_nat (j := 5) rfl, by decide⟩
      · exact ⟨11, atI_nat (j := 6) rfl, by decide⟩
    obtain ⟨sz, esz, hsz⟩ := size
    refine ⟨p1, _, _, _, rfl, rfl, SqL.of hl, esz, ?_⟩
    -- found
    refine ⟨_, rfl, _, rfl, a, c, m + 12, 26, rfl, s1, by decide, by decide, fun r2 H2 r20 r21 s2 k2 => ?_⟩
    obtain ⟨c0, ec0, lc0⟩ := pick let_all let_len r20 r21
    refine ⟨_, _, _, rfl, rfl, (by decide +kernel), ec0, ?_⟩
    -- the loop
    refine ⟨_, rfl, _, rfl, by omega, by omega, for_range (lo := 0) (n := (sz : Int).toNat) (fun i σ H3 => ∃ (z : Str) (v : Option V), σ = [some (.ref a), some (.str letS), some (.int sz), some (.str z), v] ∧
      nmB z.cps.toList = true ∧ z.cps.toList.length = i + 1 ∧ SrcAt H3 a c (m + 12 - i) ∧ Keep a H H3) ⟨_, none, rfl, nm_one lc0, rfl, s2, ((Keep.of u1).trans k1).trans k2⟩ ?_ ?_⟩
    · rintro i σ H3 hi ⟨z, v, rfl, hz, lz, s3, k3⟩
      rw [Int.toNat_natCast] at hi
      have lz2 := length_toList z
      refine ⟨_, rfl, _, rfl, _, _, rfl, rfl, (by decide +kernel), ?_⟩
      have s3' : SrcAt H3 a c (m + 12 - (i + 1) + 1) := s3.mono (by omega)
      refine ⟨_, rfl, a, c, m + 12 - (i + 1), 36, rfl, s3', by decide, by decide, fun r4 H4 r40 r41 s4 k4 => ?_⟩
      obtain ⟨c4, ec4, lc4⟩ := pick sgn_all sgn_len r40 r41
      refine ⟨_, _, _, rfl, rfl, (by decide +kernel), ec4, ?_⟩
      refine ⟨_, _, rfl, rfl, ?_, ?_⟩
      · have e1 : (⟨#[c4]⟩ : Str).length = 1 := rfl
        rw [e1, sizeLine_eq]
        omega
      · refine ⟨_, _, rfl, ?_, ?_, s4, k3.trans k4⟩
        · rw [toList_append]
          cases hz2 : z.cps.toList with
          | nil =>
            rw [hz2] at hz
            cases hz
          | cons x xs =>
            rw [hz2] at hz lz
            simp only [nmB, Bool.and_eq_true, decide_eq_true_eq] at hz
            show nmB (x :: (xs ++ [c4])) = true
            simp only [List.length_cons] at lz
            simp only [nmB, List.all_append, List.length_append, Bool.and_eq_true, decide_eq_true_eq]
            refine ⟨⟨hz.1.1, hz.1.2, by simp [lc4]⟩, ?_⟩
            show xs.length + 1 ≤ 11
            omega
        · rw [toList_append, List.length_append, lz]
          rfl
    · rintro σ H3 ⟨z, v, rfl, hz, lz, s3, k3⟩
      rw [Int.toNat_natCast] at s3 lz
      have s3' : SrcAt H3 a c m := s3.mono (by omega)
      obtain ⟨_, l12, _⟩ := nm_sgns hz
      have lz2 := length_toList z
      have lzs : z.length ≤ sizeLine := by rw [sizeLine_eq]; omega
      refine ⟨_, rfl, 3, rfl, z, rfl, lzs, rfl, _, rfl, ?_⟩
      refine ite2 (fun _ => ?_) (fun _ => ?_)
      · exact ⟨_, rfl, k z H3 hz s3' k3⟩
      · refine ⟨_, rfl, 1, rfl, z, rfl, lzs, _, _, rfl, rfl, ?_, k _ H3 (nm_tail hz) s3' k3⟩
        have e1 : (Str.ofString "m").length = 1 := by decide +kernel
        have e2 : (cutS z (some 1) none).length ≤ z.length := by
          rw [← length_toList, ← length_toList]
          unfold cutS
          show ((z.cps.toList.drop _).take _).length ≤ _
          rw [List.length_take, List.length_drop]
          omega
        rw [e1, sizeLine_eq]
        omega
end
end L2.LawH
set_option Elab.async false
set_option linter.all false
set_option maxRecDepth 100000
set_option maxHeartbeats 4000000
/-! The helpers of the laws: lists of names. -/
namespace L2.LawH
open PySem PySem.Spec PyProof.Rows
open Builtin.Int (intBits)
abbrev sNames : Stmt := top 68
theorem nodup_len {α : Type} [DecidableEq α] : ∀ (l D : List α), l.Nodup → (∀ x ∈ l, x ∈ D) → l.length ≤ D.length
  | [], _, _, _ => Nat.zero_le _
  | x :: l, D, nd, h => by
    obtain ⟨n1, n2⟩ := List.nodup_cons.mp nd
    have hx := h x List.mem_cons_self
    have ih := nodup_len l (D.erase x) n2 fun y hy => by
      have ne : y ≠ x := fun z => n1 (by rw [← z]; exact hy)
      exact (List.mem_erase_of_ne ne).mpr (h y (List.mem_cons_of_mem _ hy))
    have e := List.length_erase_of_mem hx
    have pos : 0 < D.length := List.length_pos_of_mem hx
    rw [List.length_cons]
    omega
theorem op_notInK {X : Cx} {K : PySem.W.Frag} (e : X.K = K) : OpR X (compareOp .NotIn) (rIn K true) := by
  subst e
  exact op_notIn_seq
theorem inV_strs (q : Str) : ∀ L : List Str, inV (.str q) (L.map V.str) = decide (q ∈ L)
  | [] => by simp [inV]
  | x :: L => by
    have ih := inV_strs q L
    unfold inV at ih ⊢
    rw [List.map_cons, List.any_cons, ih]
    by_cases h : x = q
    · subst h
      simp [eqV]
    · have h' : ¬ q = x := fun z => h z.symm
      simp [eqV, h, h']
theorem flat_strs : ∀ L : List Str, (L.map V.str).all flatV = true
  | [] => rfl
  | _ :: L => by
    rw [List.map_cons, List.all_cons, flat_strs L]
    rfl
def qn (j : Nat) : Str := Str.ofString "q" ++ (toString (j : Int) : String)
theorem qn_ok : ((List.range 10).all fun j => nmB (qn j).cps.toList && decide ((qn j).length ≤ 3)) = true := by decide +kernel
theorem qn_nd : ((List.range 10).map qn).Nodup := by decide +kernel
def qs (n : Nat) : List Str := (List.range n).map qn
theorem qs_nd {n : Nat} (h : n ≤ 10) : (qs n).Nodup := by
  have e : qs n = ((List.range 10).map qn).take n := by
    unfold qs
    rw [← List.map_take, List.take_range, Nat.min_eq_left h]
  rw [e]
  exact qn_nd.sublist (List.take_sublist _ _)
theorem qs_len (n : Nat) : (qs n).length = n := by simp [qs]
theorem qs_get {n i : Nat} (h : i < n) : (qs n)[i]? = some (qn i) := by simp [qs, h]
theorem qs_nm {n : Nat} (h : n ≤ 10) {q : Str} (hq : q ∈ qs n) : Nm q := by
  obtain ⟨j, hj, rfl⟩ := List.mem_map.mp hq
  have h2 := List.all_eq_true.mp qn_ok j (List.mem_range.mpr (Nat.lt_of_lt_of_le (List.mem_range.mp hj) h))
  exact (Bool.and_eq_true_iff.mp h2).1
theorem qn_len {j : Nat} (h : j < 10) : (qn j).length ≤ 3 := by
  have h2 := List.all_eq_true.mp qn_ok j (List.mem_range.mpr h)
  exact of_decide_eq_true (Bool.and_eq_true_iff.mp h2).2
def free (L : List Str) (q : Str) : Bool := !decide (q ∈ L)
theorem some_free {L : List Str} {n : Nat} (h : n ≤ 10) (hl : L.length < n) : ∃ q r, (qs n).filter (free L) = q :: r ∧ Nm q ∧ q ∉ L := by
  cases e : (qs n).filter (free L) with
  | nil =>
    exfalso
    have all : ∀ q ∈ qs n, q ∈ L := by
      intro q hq
      have z := List.filter_eq_nil_iff.mp e q hq
      simpa [free] using z
    have := nodup_len _ _ (qs_nd h) all
    rw [qs_len] at this
    omega
  | cons q r =>
    have hm : q ∈ (qs n).filter (free L) := by
      rw [e]
      exact List.mem_cons_self
    obtain ⟨h1, h2⟩ := List.mem_filter.mp hm
    exact ⟨q, r, rfl, qs_nm h h1, by simpa [free] using h2⟩
theorem Keep.upd_new {a p : Addr} {H H' : Hp} {o : HO} (k : Keep a H H') (n : H p = none) : Keep a H (upd H' p o) := fun b u e nb => by
  rw [upd_ne (ne_of_none e n)]
  exact k b u e nb

def spNames : Sp := fun vs H Q _ => ∃ (a : Addr) (c : Int) (m cn : Nat), vs = [.ref a, .int cn] ∧ cn ≤ 9 ∧ SrcAt H a c (m + 14 * cn) ∧
  ∀ (p : Addr) (L : List Str) (H' : Hp), L.length = cn → (∀ z ∈ L, Nm z) → L.Nodup → H p = none → H' p = some (.lst (L.map V.str)) → SrcAt H' a c m → Keep a H H' → Q (.ref p) H'
section
variable {P : Program} {w : World} {K : PySem.W.Frag} {mg : Str → Option Value} {base : Heap}
abbrev nNames : List Str := ["_law_source_here", "_law_many", "_law_found", "_law_k", "_law_name_here", "_law_spare", "_law_one", "_law_j"]
theorem scNs : FnScope nNames ["_law_source_here", "_law_many"] (defScope sNames) := ⟨rfl, rfl, rfl, by decide +kernel, rfl, by decide +kernel, by decide +kernel⟩
theorem ok_names {f fN : Addr} {fd fdN : FuncData} (F : Fun K "_law_names" "_law_names" sNames f fd) (GN : FnOk P w K mg base CX0 2 fN fdN ["_law_source_here"] spName)
    (kN : PySem.W.keepIn K (.ref fN) = true) (bN : Binds K fdN ["_law_source_here"] []) (mN : mg "_law_name" = some (.ref fN)) (mr : mg "range" = none) (ms : mg "str" = none) :
    FnOk P w K mg base CX0 3 f fd ["_law_source_here", "_law_many"] spNames := by
  refine F.ok scNs (fun vs H Q E h => ?_) (fun cdv A outer s H vs Q E hr h => ?_)
  · obtain ⟨a, c, m, cn, rfl, _⟩ := h
    rfl
  · obtain ⟨a, c, m, cn, rfl, hcn, hs, k⟩ := h
    have hr2 : Room 2 _ := hr.mono (by decide)
    refine ⟨_, pss_cons (ps_set (i := 2) scNs.nd rfl (Or.inr rfl) (pe_lst pa_nil))
      (pss_cons (ps_for PassesOwn.never rfl (pi_range1 rfl mr (pa_cons (pv 1) pa_nil)) (pg_name (i := 3) scNs.nd rfl (Or.inl rfl))
        (pss_cons (ps_set (i := 4) scNs.nd rfl (Or.inl rfl) (pe_call GN hr2 (by rfl) mN kN bN .nil pass0 (pa_cons (pv 0) pa_nil)))
        (pss_cons (ps_setLc (i := 5) (own := [("_law_one", 6)]) (g := gName 6) (tt := tTest (tOp (rIn K true) (tVar 6) (tVar 2))) rfl scNs.nd rfl rfl (sw_true rfl rfl rfl (by decide +kernel))
            (pi_list (pe_lc (own := [("_law_j", 7)]) (g := gName 7) (tt := tYes) rfl scNs.nd (pi_range1 rfl mr (pa_cons (pe_op op_add (pv 1) pe_int) pa_nil))
              (blkOk_by (own := [("_law_j", 7)]) (N := nNames) (sc := defScope sNames) (by decide +kernel))
              (fun _ _ _ _ _ => pg_name (i := 7) scNs.nd rfl (Or.inl rfl)) (fun _ _ _ _ _ => pts_nil)
              (fun _ _ _ _ _ => pe_op op_add_str pe_str (pe_callTy call_str_int (by rfl) ms (by decide +kernel) (pa_cons (pv 7) pa_nil)))))
            (blkOk_by (own := [("_law_one", 6)]) (N := nNames) (sc := defScope sNames) (by decide +kernel))
            (fun _ _ _ _ _ => pg_name (i := 6) scNs.nd rfl (Or.inl rfl)) (fun _ _ _ _ _ => pts_one (pt_cmpR (op_notInK rfl) (pv 6) (pv 2) (by rfl))) (fun _ _ _ _ _ => pv 6))
        (pss_one (ps_expr (pe_bm PySem.F.plainAttrs_list PySem.F.slot_list_append PySem.F.type_list_append mt_append (pv 2)
          (pa_cons (pe_ifExp (pt_cmpR op_notIn_seq (pv 4) (pv 2) (by rfl)) (pv 4) (pe_ix ix_list (pv 5) pe_int (fun _ _ => rfl))) pa_nil)))))))
      (pss_one (ps_ret (pv 2)))), ?_⟩
    refine ⟨(by show 0 ≤ sizeLine; decide), fun p np => ?_⟩
    have pa := hs.ne np
    refine ⟨_, rfl, _, rfl, by omega, by omega, for_range (lo := 0) (n := (cn : Int).toNat) (fun i σ H3 => ∃ (L : List Str) (v3 v4 v5 v6 v7 : Option V), σ = [some (.ref a), some (.int cn), some (.ref p), v3, v4, v5, v6, v7] ∧
      L.length = i ∧ (∀ z ∈ L, Nm z) ∧ L.Nodup ∧ H3 p = some (.lst (L.map V.str)) ∧ SrcAt H3 a c (m + 14 * (cn - i)) ∧ Keep a H H3)
      ⟨[], none, none, none, none, none, rfl, rfl, fun _ z => (by cases z), List.nodup_nil, upd_same, (hs.same (same_new np)).mono (by omega), Keep.of (same_new np)⟩ ?_ ?_⟩
    · rintro i σ H3 hi ⟨L, v3, v4, v5, v6, v7, rfl, hl, hnm, hnd, h3, s3, k3⟩
      rw [Int.toNat_natCast] at hi
      -- name_here
      have s3' : SrcAt H3 a c (m + 14 * (cn - (i + 1)) + 14) := s3.mono (by omega)
      refine ⟨_, rfl, a, c, m + 14 * (cn - (i + 1)), rfl, s3', fun z H4 nz s4 k4 => ?_⟩
      have h4 := k4 _ _ h3 pa
      -- spare: the inner list
      refine ⟨_, rfl, _, _, rfl, rfl, _, rfl, by omega, by omega, fun D nD => ?_⟩
      have tn : ((cn : Int) + 1).toNat = cn + 1 := by omega
      rw [tn]
      refine lc_range (lo := 0) (n := cn + 1) (fun j H5 => Same H4 H5 ∧ H5 D = some (.lst (((qs (cn + 1)).take j).map V.str))) ⟨same_new nD, upd_same⟩ ?_ ?_
      · rintro j H5 hj ⟨s5, hD⟩
        refine ⟨rfl, ?_⟩
        dsimp only [tYes]
        rw [if_pos rfl]
        have e0 : (0 : Int) + (j : Int) = (j : Int) := by omega
        rw [e0]
        have sz : (toString (j : Int) : String) = toString (j : Int) := rfl
        have l3 : (Str.ofString "q" ++ ((toString (j : Int) : String) : Str)).length ≤ 3 := qn_len (j := j) (by omega)
        have lsum : (Str.ofString "q").length + ((toString (j : Int) : String) : Str).length ≤ sizeLine := by
          have e1 : (Str.ofString "q" ++ ((toString (j : Int) : String) : Str)).length = (Str.ofString "q").length + ((toString (j : Int) : String) : Str).length := by
            rw [← length_toList, toList_append, List.length_append, length_toList, length_toList]
          rw [e1] at l3
          rw [sizeLine_eq]
          omega
        have lg : ((j : Int)).natAbs.log2 < 1920 := by
          have : ((j : Int)).natAbs < 2 ^ 11 := by
            have e2 : (2 : Nat) ^ 11 = 2048 := by decide
            rw [e2]
            omega
          have h9 : ((j : Int)).natAbs.log2 ≤ 11 := by
            by_cases z : ((j : Int)).natAbs = 0
            · rw [z]
              decide
            · exact Nat.le_of_lt ((Nat.log2_lt z).mpr this)
          omega
        refine ⟨_, rfl, _, rfl, lg, _, _, rfl, rfl, lsum, _, hD, ?_, fun b o e => ?_, ?_⟩
        · rw [List.length_map, List.length_take, qs_len]
          refine Nat.lt_of_le_of_lt (Nat.min_le_right _ _) ?_
          rw [sizeLine_eq]
          omega
        · rw [upd_ne (ne_of_none e nD)]
          exact s5 b o e
        · rw [upd_same, List.take_add_one, qs_get hj]
          simp [qn]
      · rintro H5 ⟨s5, hD⟩
        have hD' : H5 D = some (.lst ((qs (cn + 1)).map V.str)) := by
          rw [hD, List.take_of_length_le (by rw [qs_len]; exact Nat.le_refl _)]
        have h5 := s5 _ _ h4
        -- spare: the outer list
        refine ⟨D, rfl, ⟨_, SqL.of hD'⟩, fun D2 nD2 => ?_⟩
        refine lc_list (K := K) (a := D) (xs := (qs (cn + 1)).map V.str) (fun j H6 => Same H5 H6 ∧ H6 D2 = some (.lst ((((qs (cn + 1)).take j).filter (free L)).map V.str)))
          ⟨same_new nD2, upd_same⟩ (fun j H6 _ h6 => h6.1.seq (SqL.of hD')) ?_ ?_
        · rintro j v H6 hj ⟨s6, hD2⟩
          rw [List.getElem?_map] at hj
          cases eb : (qs (cn + 1))[j]? with
          | none =>
            rw [eb] at hj
            cases hj
          | some q =>
            rw [eb] at hj
            cases hj
            have h6 := s6 _ _ h5
            refine ⟨rfl, _, rfl, _, rfl, p, _, rfl, .inl (SqL.of h6), rfl, flat_strs L, _, rfl, ?_⟩
            rw [List.take_add_one, eb, List.filter_append]
            have e2 : (if true = true then !inV (V.str q) (L.map V.str) else inV (V.str q) (L.map V.str)) = free L q := by
              rw [if_pos rfl, inV_strs]
              rfl
            rw [e2]
            cases ef : free L q with
            | true =>
              refine iteT ?_
              refine ⟨_, rfl, _, hD2, ?_, fun b o e => ?_, ?_⟩
              · rw [List.length_map]
                refine Nat.lt_of_le_of_lt (List.length_filter_le _ _) ?_
                rw [List.length_take, qs_len, sizeLine_eq]
                omega
              · rw [upd_ne (ne_of_none e nD2)]
                exact s6 b o e
              · rw [upd_same]
                simp [ef]
            | false =>
              refine iteF ?_
              refine ⟨s6, ?_⟩
              rw [hD2]
              simp [ef]
        · rintro H6 ⟨s6, hD2⟩
          have hD2' : H6 D2 = some (.lst (((qs (cn + 1)).filter (free L)).map V.str)) := by
            rw [hD2, List.length_map, List.take_of_length_le (Nat.le_refl _)]
          have h6 := s6 _ _ h5
          have s46 : Same H4 H6 := s5.trans s6
          -- found.append(..)
          obtain ⟨q, r, eq, nq, fq⟩ := some_free (L := L) (n := cn + 1) (by omega) (by omega)
          refine ⟨_, rfl, .inl ⟨rfl, _, .inl (.inl h6)⟩, ?_⟩
          refine ⟨_, rfl, _, rfl, p, _, rfl, .inl (SqL.of h6), rfl, flat_strs L, _, rfl, ?_⟩
          have e2 : (if true = true then !inV (V.str z) (L.map V.str) else inV (V.str z) (L.map V.str)) = free L z := by
            rw [if_pos rfl, inV_strs]
            rfl
          rw [e2]
          have few : (L.map V.str).length < sizeLine := by
            rw [List.length_map, sizeLine_eq]
            omega
          have fin : ∀ t : Str, Nm t → t ∉ L → ∃ (L' : List Str) (w3 w4 w5 w6 w7 : Option V), [some (.ref a), some (.int cn), some (.ref p), some (V.int (0 + (i : Int))), some (.str z), some (.ref D2), v6, v7] = [some (.ref a), some (.int cn), some (.ref p), w3, w4, w5, w6, w7] ∧
              L'.length = i + 1 ∧ (∀ z ∈ L', Nm z) ∧ L'.Nodup ∧ (upd H6 p (.lst (L.map V.str ++ [V.str t]))) p = some (.lst (L'.map V.str)) ∧ SrcAt (upd H6 p (.lst (L.map V.str ++ [V.str t]))) a c (m + 14 * (cn - (i + 1))) ∧ Keep a H (upd H6 p (.lst (L.map V.str ++ [V.str t]))) := by
            intro t nt ft
            refine ⟨L ++ [t], _, _, _, _, _, rfl, by simp [hl], fun y hy => ?_, ?_, by rw [upd_same]; simp, ?_, ?_⟩
            · rcases List.mem_append.mp hy with hy | hy
              · exact hnm y hy
              · have : y = t := by simpa using hy
                rw [this]
                exact nt
            · rw [List.nodup_append]
              refine ⟨hnd, by simp, fun x hx y hy e => ?_⟩
              have : y = t := by simpa using hy
              rw [e, this] at hx
              exact ft hx
            · obtain ⟨d, n, e, g⟩ := s4.same s46
              exact ⟨d, n, by rw [upd_ne pa.symm]; exact e, g⟩
            · exact ((k3.trans k4).trans (Keep.of s46)).upd_new np
          cases ef : free L z with
          | true =>
            refine iteT ?_
            refine ⟨_, rfl, p, _, _, rfl, rfl, h6, few, ?_⟩
            exact fin z nz (by simpa [free] using ef)
          | false =>
            refine iteF ?_
            refine ⟨_, rfl, D2, _, 0, .str q, rfl, rfl, SqL.of hD2', ?_, p, _, _, rfl, rfl, h6, few, ?_⟩
            · rw [eq]
              exact atI_nat (j := 0) rfl
            · exact fin q nq fq
    · rintro σ H3 ⟨L, v3, v4, v5, v6, v7, rfl, hl, hnm, hnd, h3, s3, k3⟩
      rw [Int.toNat_natCast] at hl
      exact ⟨_, rfl, k p L H3 hl hnm hnd np h3 (s3.mono (by omega)) k3⟩
end
end L2.LawH
set_option Elab.async false
set_option linter.all false
set_option maxRecDepth 100000
set_option maxHeartbeats 4000000
/-! The helpers of the laws: the pool of tables, constants and variables. -/
namespace L2.LawH
open PySem PySem.Spec PyProof.Rows
open Builtin.Int (intBits)
abbrev sPool : Stmt := top 69
theorem ix_listK {X : Cx} {K : PySem.W.Frag} (e : X.K = K) : IxR X (rIxL K) := by
  subst e
  exact ix_list
/-- a variable -/
def Vr (z : Str) : Prop := ∃ y : Str, Nm y ∧ z = Str.ofString "?" ++ y
structure Pool where
  (r cs vs : Addr)
  rows : List (Addr × Str × Nat)
  (C W : List Str)
structure PoolAt (a : Addr) (H : Hp) (p : Addr) (π : Pool) : Prop where
  hp : H p = some (.lst [.ref π.r, .ref π.cs, .ref π.vs])
  hr : H π.r = some (.lst (π.rows.map fun x => V.ref x.1))
  hrow : ∀ x ∈ π.rows, H x.1 = some (.tup [.str x.2.1, .int (x.2.2 : Nat)]) ∧ Nm x.2.1 ∧ x.2.2 ≤ 3 ∧ x.1 ≠ a
  rows1 : 1 ≤ π.rows.length
  rows9 : π.rows.length ≤ 9
  hc : H π.cs = some (.lst (π.C.map V.str))
  nC : ∀ z ∈ π.C, Nm z
  C2 : 2 ≤ π.C.length
  C9 : π.C.length ≤ 4
  hv : H π.vs = some (.lst (π.W.map V.str))
  nW : ∀ z ∈ π.W, Vr z
  W9 : π.W.length = 9
  np : p ≠ a
  nr : π.r ≠ a
  nc : π.cs ≠ a
  nv : π.vs ≠ a
theorem PoolAt.keep {a : Addr} {H H' : Hp} {p : Addr} {π : Pool} (h : PoolAt a H p π) (k : Keep a H H') : PoolAt a H' p π :=
  ⟨k _ _ h.hp h.np, k _ _ h.hr h.nr, fun x hx => let ⟨h1, h2, h3, h4⟩ := h.hrow x hx; ⟨k _ _ h1 h4, h2, h3, h4⟩, h.rows1, h.rows9, k _ _ h.hc h.nc, h.nC, h.C2, h.C9, k _ _ h.hv h.nv, h.nW, h.W9, h.np, h.nr, h.nc, h.nv⟩
def spPool : Sp := fun vs H Q _ => ∃ (a : Addr) (c : Int) (m : Nat), vs = [.ref a] ∧ SrcAt H a c (m + 300) ∧
  ∀ (p : Addr) (π : Pool) (H' : Hp), PoolAt a H' p π → SrcAt H' a c m → Keep a H H' → Q (.ref p) H'
section
variable {P : Program} {w : World} {K : PySem.W.Frag} {mg : Str → Option Value} {base : Heap}
abbrev nPool : List Str := ["_law_source_here", "_law_tables", "_law_sizes", "_law_constants", "_law_variables_here", "_law_rows", "_law_k", "_law_name_here"]
theorem scP : FnScope nPool ["_law_source_here"] (defScope sPool) := ⟨rfl, rfl, rfl, by decide +kernel, rfl, by decide +kernel, by decide +kernel⟩
theorem menu8 {r : Int} (h0 : 0 ≤ r) (h1 : r < 8) : ∃ n : Nat, atI [V.int 2, V.int 1, V.int 2, V.int 3, V.int 2, V.int 0, V.int 1, V.int 2] r = some (.int n) ∧ n ≤ 3 := by
  obtain ⟨j, rfl⟩ : ∃ j : Nat, r = j := ⟨r.toNat, by omega⟩
  have hj : j = 0 ∨ j = 1 ∨ j = 2 ∨ j = 3 ∨ j = 4 ∨ j = 5 ∨ j = 6 ∨ j = 7 := by omega
  rcases hj with rfl | rfl | rfl | rfl | rfl | rfl | rfl | rfl
  · exact ⟨2, atI_nat (j := 0) rfl, by decide⟩
  · exact ⟨1, atI_nat (j := 1) rfl, by decide⟩
  · exact ⟨2, atI_nat (j := 2) rfl, by decide⟩
  · exact ⟨3, atI_nat (j := 3) rfl, by decide⟩
  · exact ⟨2, atI_nat (j := 4) rfl, by decide⟩
  · exact ⟨0, atI_nat (j := 5) rfl, by decide⟩
  · exact ⟨1, atI_nat (j := 6) rfl, by decide⟩
  · exact ⟨2, atI_nat (j := 7) rfl, by decide⟩
theorem menu4 {r : Int} (h0 : 0 ≤ r) (h1 : r < 4) : ∃ n : Nat, atI [V.int 1, V.int 3, V.int 0, V.int 1] r = some (.int n) ∧ n ≤ 3 := by
  obtain ⟨j, rfl⟩ : ∃ j : Nat, r = j := ⟨r.toNat, by omega⟩
  have hj : j = 0 ∨ j = 1 ∨ j = 2 ∨ j = 3 := by omega
  rcases hj with rfl | rfl | rfl | rfl
  · exact ⟨1, atI_nat (j := 0) rfl, by decide⟩
  · exact ⟨3, atI_nat (j := 1) rfl, by decide⟩
  · exact ⟨0, atI_nat (j := 2) rfl, by decide⟩
  · exact ⟨1, atI_nat (j := 3) rfl, by decide⟩
theorem ints_get {Z : List Nat} {i : Nat} (h : i < Z.length) : (Z.map fun n : Nat => V.int (n : Int))[i]? = some (.int (Z[i] : Nat)) := by
  rw [List.getElem?_map, List.getElem?_eq_getElem h]
  rfl
theorem strs_get {L : List Str} {i : Nat} (h : i < L.length) : (L.map V.str)[i]? = some (.str L[i]) := by
  rw [List.getElem?_map, List.getElem?_eq_getElem h]
  rfl
theorem ok_pool {f fD fS : Addr} {fd fdD fdS : FuncData} (F : Fun K "_law_pool" "_law_pool" sPool f fd)
    (GD : FnOk P w K mg base CX0 1 fD fdD ["_law_source_here", "_law_limit"] spDraw) (kD : PySem.W.keepIn K (.ref fD) = true) (bD : Binds K fdD ["_law_source_here", "_law_limit"] []) (mD : mg "_law_draw" = some (.ref fD))
    (GS : FnOk P w K mg base CX0 3 fS fdS ["_law_source_here", "_law_many"] spNames) (kS : PySem.W.keepIn K (.ref fS) = true) (bS : Binds K fdS ["_law_source_here", "_law_many"] []) (mS : mg "_law_names" = some (.ref fS))
    (mr : mg "range" = none) (ml : mg "len" = none) :
    FnOk P w K mg base CX0 4 f fd ["_law_source_here"] spPool := by
  refine F.ok scP (fun vs H Q E h => ?_) (fun cdv A outer s H vs Q E hr h => ?_)
  · obtain ⟨a, c, m, rfl, _⟩ := h
    rfl
  · obtain ⟨a, c, m, rfl, hs, k⟩ := h
    have hr1 : Room 1 _ := hr.mono (by decide)
    refine ⟨_, pss_cons (ps_set (i := 1) scP.nd rfl (Or.inr rfl) (pe_call GS hr (by rfl) mS kS bS .nil pass0 (pa_cons (pv 0) (pa_cons (pe_op op_add pe_int (pe_call GD hr1 (by rfl) mD kD bD .nil pass0 (pa_cons (pv 0) (pa_cons pe_int pa_nil)))) pa_nil))))
      (pss_cons (ps_set (i := 2) scP.nd rfl (Or.inr rfl) (pe_op op_cat (pe_lst (pa_cons pe_int pa_nil))
        (pe_lc (own := [("_law_k", 6)]) (g := gName 6) (tt := tYes) rfl scP.nd (pi_range1 (by rfl) mr (pa_cons (pe_op op_sub (pe_callB call_len_seq (by rfl) ml (by decide +kernel) (pa_cons (pv 1) pa_nil)) pe_int) pa_nil))
          (blkOk_by (own := [("_law_k", 6)]) (N := nPool) (sc := defScope sPool) (by decide +kernel)) (fun _ _ _ _ _ => pg_name (i := 6) scP.nd rfl (Or.inl rfl)) (fun _ _ _ _ _ => pts_nil)
          (fun _ _ _ _ _ => pe_ix (ix_listK rfl) (pe_lst (pa_cons pe_int (pa_cons pe_int (pa_cons pe_int (pa_cons pe_int (pa_cons pe_int (pa_cons pe_int (pa_cons pe_int (pa_cons pe_int pa_nil))))))))) (pe_call GD hr1 (by rfl) mD kD bD .nil pass0 (pa_cons (pv 0) (pa_cons pe_int pa_nil))) (fun _ _ => rfl)))))
      (pss_cons (ps_set (i := 3) scP.nd rfl (Or.inl rfl) (pe_call GS hr (by rfl) mS kS bS .nil pass0 (pa_cons (pv 0) (pa_cons (pe_op op_add pe_int (pe_call GD hr1 (by rfl) mD kD bD .nil pass0 (pa_cons (pv 0) (pa_cons pe_int pa_nil)))) pa_nil))))
      (pss_cons (ps_setLc (i := 4) (own := [("_law_name_here", 7)]) (g := gName 7) (tt := tYes) rfl scP.nd rfl rfl (sw_true rfl rfl rfl (by decide +kernel))
          (pi_list (pe_call GS hr (by rfl) mS kS bS .nil pass0 (pa_cons (pv 0) (pa_cons pe_int pa_nil))))
          (blkOk_by (own := [("_law_name_here", 7)]) (N := nPool) (sc := defScope sPool) (by decide +kernel)) (fun _ _ _ _ _ => pg_name (i := 7) scP.nd rfl (Or.inl rfl)) (fun _ _ _ _ _ => pts_nil)
          (fun _ _ _ _ _ => pe_op op_add_str pe_str (pv 7)))
      (pss_cons (ps_setLc (i := 5) (own := [("_law_k", 6)]) (g := gName 6) (tt := tYes) rfl scP.nd rfl rfl (sw_true rfl rfl rfl (by decide +kernel))
          (pi_range1 (by rfl) mr (pa_cons (pe_callB call_len_seq (by rfl) ml (by decide +kernel) (pa_cons (pv 1) pa_nil)) pa_nil))
          (blkOk_by (own := [("_law_k", 6)]) (N := nPool) (sc := defScope sPool) (by decide +kernel)) (fun _ _ _ _ _ => pg_name (i := 6) scP.nd rfl (Or.inl rfl)) (fun _ _ _ _ _ => pts_nil)
          (fun _ _ _ _ _ => pe_tup (pa_cons (pe_ix (ix_listK rfl) (pv 1) (pv 6) (fun _ _ => rfl)) (pa_cons (pe_ix (ix_listK rfl) (pv 2) (pv 6) (fun _ _ => rfl)) pa_nil))))
      (pss_cons (ps_if (pt_cmpR op_eq (pe_call GD hr1 (by rfl) mD kD bD .nil pass0 (pa_cons (pv 0) (pa_cons pe_int pa_nil))) pe_int (nomark _))
        (pss_one (ps_expr (pe_bm PySem.F.plainAttrs_list PySem.F.slot_list_append PySem.F.type_list_append mt_append (pv 5)
          (pa_cons (pe_tup (pa_cons (pe_ix ix_list (pv 1) pe_int (fun _ _ => rfl)) (pa_cons (pe_ix ix_list (pe_lst (pa_cons pe_int (pa_cons pe_int (pa_cons pe_int (pa_cons pe_int pa_nil))))) (pe_call GD hr1 (by rfl) mD kD bD .nil pass0 (pa_cons (pv 0) (pa_cons pe_int pa_nil))) (fun _ _ => rfl)) pa_nil))) pa_nil)))) pss_nil)
      (pss_one (ps_ret (pe_lst (pa_cons (pv 5) (pa_cons (pv 3) (pa_cons (pv 4) pa_nil))))))))))), ?_⟩
    -- tables
    refine ⟨_, rfl, _, rfl, a, c, m + 299, 3, rfl, hs, by decide, by decide, fun r1 H1 r10 r11 s1 k1 => ⟨_, _, rfl, rfl, ?_⟩⟩
    obtain ⟨j1, rfl⟩ : ∃ j : Nat, r1 = j := ⟨r1.toNat, by omega⟩
    refine ⟨a, c, m + 240, 2 + j1, rfl, by omega, s1.mono (by omega), fun t L H2 lL nL ndL nt ht s2 k2 => ?_⟩
    have ta : t ≠ a := s1.ne nt
    have K2 := k1.trans k2
    -- sizes
    refine ⟨(by show 1 ≤ sizeLine; decide), fun pA nA => ?_⟩
    have uA := same_new (o := .lst [V.int 2]) nA
    have zA := s2.ne nA
    refine ⟨_, rfl, t, _, rfl, .inl (SqL.of (uA _ _ ht)), _, _, rfl, rfl, ?_⟩
    have lS : (L.map V.str).length = 2 + j1 := by rw [List.length_map, lL]
    refine ⟨_, rfl, by rw [lS]; omega, by rw [lS]; omega, fun D nD => ?_⟩
    have tn : (((L.map V.str).length : Int) - 1).toNat = 1 + j1 := by rw [lS]; omega
    rw [tn]
    have sA := s2.same uA
    have zD := sA.ne nD
    refine lc_range (lo := 0) (n := 1 + j1) (fun j H5 => ∃ Z : List Nat, Z.length = j ∧ (∀ n ∈ Z, n ≤ 3) ∧ H5 D = some (.lst (Z.map fun n : Nat => V.int (n : Int))) ∧ SrcAt H5 a c (m + 239 - j) ∧ Keep a H H5 ∧ H5 t = some (.lst (L.map V.str)) ∧ H5 pA = some (.lst [V.int 2]))
      ⟨[], rfl, fun _ z => (by cases z), upd_same, (sA.same (same_new nD)).mono (by omega), K2.trans (Keep.of (uA.trans (same_new nD))), (same_new nD) _ _ (uA _ _ ht), (same_new nD) _ _ upd_same⟩ ?_ ?_
    · rintro j H5 hj ⟨Z, lZ, Z3, hD, s5, k5, t5, a5⟩
      refine ⟨rfl, ?_⟩
      dsimp only [tYes]
      rw [if_pos rfl]
      refine ⟨(by show 8 ≤ sizeLine; decide), fun p8 n8 => ?_⟩
      have u8 := same_new (o := .lst [V.int 2, V.int 1, V.int 2, V.int 3, V.int 2, V.int 0, V.int 1, V.int 2]) n8
      have z8 := s5.ne n8
      refine ⟨_, rfl, a, c, m + 239 - (j + 1), 8, rfl, (s5.same u8).mono (by omega), by decide, by decide, fun r H6 r0 r1 s6 k6 => ?_⟩
      obtain ⟨n, en, n3⟩ := menu8 r0 r1
      refine ⟨p8, _, _, _, rfl, rfl, SqL.of (k6 _ _ upd_same z8), en, _, k6 _ _ (u8 _ _ hD) zD, ?_, Z ++ [n], ?_, ?_, ?_, ?_, ?_, ?_, ?_⟩
      · rw [List.length_map, lZ, sizeLine_eq]
        omega
      · simp [lZ]
      · intro x hx
        rcases List.mem_append.mp hx with hx | hx
        · exact Z3 x hx
        · have e : x = n := by simpa using hx
          rw [e]
          exact n3
      · rw [upd_same]
        simp
      · obtain ⟨d, nn, e, g⟩ := s6
        exact ⟨d, nn, by rw [upd_ne zD.symm]; exact e, g⟩
      · have kk : Keep a H H6 := (k5.trans (Keep.of u8)).trans k6
        intro b o e nb
        by_cases hb : b = D
        · exfalso
          subst hb
          have q := (K2.trans (Keep.of uA)) _ _ e nb
          rw [nD] at q
          cases q
        · rw [upd_ne hb]
          exact kk b o e nb
      · have tD : t ≠ D := ne_of_none (uA _ _ ht) nD
        rw [upd_ne tD]
        exact k6 _ _ (u8 _ _ t5) ta
      · have aD : pA ≠ D := ne_of_none (upd_same (H := H2) (o := .lst [V.int 2])) nD
        rw [upd_ne aD]
        exact k6 _ _ (u8 _ _ a5) zA
    · rintro H5 ⟨Z, lZ, Z3, hD, s5, k5, t5, a5⟩
      refine ⟨pA, D, _, _, rfl, rfl, a5, hD, ?_, fun pZ nZ => ?_⟩
      · rw [List.length_map, lZ, sizeLine_eq]
        show 1 + (1 + j1) ≤ _
        omega
      have uZ := same_new (o := .lst ([V.int 2] ++ Z.map fun n : Nat => V.int (n : Int))) nZ
      have zZ := s5.ne nZ
      have sZ : SrcAt _ a c (m + 235) := (s5.same uZ).mono (by omega)
      have hZ : (upd H5 pZ (.lst ([V.int 2] ++ Z.map fun n : Nat => V.int (n : Int)))) pZ = some (.lst ((2 :: Z).map fun n : Nat => V.int (n : Int))) := upd_same
      -- constants
      refine ⟨_, rfl, _, rfl, a, c, m + 234, 3, rfl, sZ, by decide, by decide, fun r2 H6 r20 r21 s6 k6 => ⟨_, _, rfl, rfl, ?_⟩⟩
      obtain ⟨j2, rfl⟩ : ∃ j : Nat, r2 = j := ⟨r2.toNat, by omega⟩
      refine ⟨a, c, m + 150, 2 + j2, rfl, by omega, s6.mono (by omega), fun pC C H7 lC nC ndC ntC hC s7 k7 => ?_⟩
      have zC := s6.ne ntC
      have t7 := k7 _ _ (k6 _ _ (uZ _ _ t5) ta) ta
      have z7 := k7 _ _ (k6 _ _ hZ zZ) zZ
      have kH7 := ((k5.trans (Keep.of uZ)).trans k6).trans k7
      -- variables
      refine ⟨_, rfl, a, c, m + 20, 9, rfl, by decide, s7.mono (by omega), fun pN N9 H8 lN nN ndN ntN hN s8 k8 => ?_⟩
      have t8 := k8 _ _ t7 ta
      have z8 := k8 _ _ z7 zZ
      have c8 := k8 _ _ hC zC
      have kH8 := kH7.trans k8
      refine ⟨pN, rfl, ⟨_, SqL.of hN⟩, fun DV nDV => ?_⟩
      have zV := s8.ne nDV
      refine lc_list (K := K) (a := pN) (xs := N9.map V.str) (fun j H9 => Same H8 H9 ∧ H9 DV = some (.lst (((N9.take j).map fun y => Str.ofString "?" ++ y).map V.str)))
        ⟨same_new nDV, upd_same⟩ (fun j H9 _ h9 => h9.1.seq (SqL.of hN)) ?_ ?_
      · rintro j v H9 hj ⟨s9, hDV⟩
        rw [List.getElem?_map] at hj
        cases eb : N9[j]? with
        | none =>
          rw [eb] at hj
          cases hj
        | some y =>
          rw [eb] at hj
          cases hj
          refine ⟨rfl, ?_⟩
          dsimp only [tYes]
          rw [if_pos rfl]
          have ny := nN y (List.mem_of_getElem? eb)
          obtain ⟨_, l12, _⟩ := nm_sgns ny
          have ly := length_toList y
          refine ⟨_, rfl, _, _, rfl, rfl, ?_, _, hDV, ?_, fun b o e => ?_, ?_⟩
          · have e1 : (Str.ofString "?").length = 1 := by decide +kernel
            rw [e1, sizeLine_eq]
            omega
          · rw [List.length_map, List.length_map, List.length_take, lN, sizeLine_eq]
            omega
          · rw [upd_ne (ne_of_none e nDV)]
            exact s9 b o e
          · rw [upd_same, List.take_add_one, eb]
            simp
      · rintro H9 ⟨s9, hDV⟩
        rw [List.length_map, List.take_of_length_le (Nat.le_refl _)] at hDV
        have t9 := s9 _ _ t8
        have z9 := s9 _ _ z8
        have c9 := s9 _ _ c8
        have sr9 := s8.same s9
        have kH9 := kH8.trans (Keep.of s9)
        -- rows
        refine ⟨_, rfl, t, _, rfl, .inl (SqL.of t9), _, rfl, by rw [lS]; omega, by rw [lS]; omega, fun DR nDR => ?_⟩
        have tn2 : (((L.map V.str).length : Int)).toNat = 2 + j1 := by rw [lS]; omega
        rw [tn2]
        have zR := sr9.ne nDR
        refine lc_range (lo := 0) (n := 2 + j1) (fun j H10 => ∃ rows : List (Addr × Str × Nat), rows.length = j ∧ Same H9 H10 ∧ H10 DR = some (.lst (rows.map fun x => V.ref x.1)) ∧
          ∀ x ∈ rows, H10 x.1 = some (.tup [.str x.2.1, .int (x.2.2 : Nat)]) ∧ Nm x.2.1 ∧ x.2.2 ≤ 3 ∧ x.1 ≠ a ∧ x.1 ≠ DR)
          ⟨[], rfl, same_new nDR, upd_same, fun _ z => by cases z⟩ ?_ ?_
        · rintro j H10 hj ⟨rows, lR, s10, hDR, all⟩
          refine ⟨rfl, ?_⟩
          dsimp only [tYes]
          rw [if_pos rfl]
          have e0 : (0 : Int) + (j : Int) = (j : Int) := by omega
          rw [e0]
          have jL : j < L.length := by omega
          have jZ : j < (2 :: Z).length := by simp; omega
          refine ⟨_, rfl, _, rfl, t, _, _, _, rfl, rfl, SqL.of (s10 _ _ t9), atI_nat (strs_get jL), _, rfl, _, rfl, pZ, _, _, _, rfl, rfl, SqL.of (s10 _ _ z9), atI_nat (ints_get jZ), (by show 2 ≤ sizeLine; decide), fun pt npt => ?_⟩
          have upt := same_new (o := .tup [V.str L[j], V.int (((2 :: Z)[j] : Nat) : Int)]) npt
          have zpt : pt ≠ a := (sr9.same s10).ne npt
          have zDR : pt ≠ DR := (ne_of_none hDR npt).symm
          have z3 : (2 :: Z)[j] ≤ 3 := by
            have hm : (2 :: Z)[j] ∈ (2 :: Z) := List.getElem_mem jZ
            rcases List.mem_cons.mp hm with e | e
            · rw [e]
              decide
            · exact Z3 _ e
          refine ⟨_, upt _ _ hDR, ?_, rows ++ [(pt, L[j], (2 :: Z)[j])], by simp [lR], fun b o e => ?_, by rw [upd_same]; simp, fun x hx => ?_⟩
          · rw [List.length_map, lR, sizeLine_eq]
            omega
          · rw [upd_ne (ne_of_none e nDR)]
            exact upt _ _ (s10 b o e)
          · rcases List.mem_append.mp hx with hx | hx
            · obtain ⟨h1, h2, h3, h4, h5⟩ := all x hx
              exact ⟨by rw [upd_ne h5]; exact upt _ _ h1, h2, h3, h4, h5⟩
            · have e : x = (pt, L[j], (2 :: Z)[j]) := by simpa using hx
              rw [e]
              exact ⟨by rw [upd_ne zDR]; exact upd_same, nL _ (List.getElem_mem jL), z3, zpt, zDR⟩
        · rintro H10 ⟨rows, lR, s10, hDR, all⟩
          have sr10 := sr9.same s10
          -- the return
          have fin : ∀ (H11 : Hp) (rows' : List (Addr × Str × Nat)), 1 ≤ rows'.length → rows'.length ≤ 9 → H11 DR = some (.lst (rows'.map fun x => V.ref x.1)) →
              (∀ x ∈ rows', H11 x.1 = some (.tup [.str x.2.1, .int (x.2.2 : Nat)]) ∧ Nm x.2.1 ∧ x.2.2 ≤ 3 ∧ x.1 ≠ a) → H11 pC = some (.lst (C.map V.str)) →
              H11 DV = some (.lst ((N9.map fun y => Str.ofString "?" ++ y).map V.str)) → SrcAt H11 a c m → Keep a H H11 →
              ∀ p, H11 p = none → Q (.ref p) (upd H11 p (.lst [.ref DR, .ref pC, .ref DV])) := by
            intro H11 rows' l1 l9 hR allR hC11 hV11 s11 k11 p np
            have up := same_new (o := .lst [V.ref DR, V.ref pC, V.ref DV]) np
            refine k p ⟨DR, pC, DV, rows', C, N9.map fun y => Str.ofString "?" ++ y⟩ _ ⟨upd_same, up _ _ hR, fun x hx => let ⟨h1, h2, h3, h4⟩ := allR x hx; ⟨up _ _ h1, h2, h3, h4⟩, l1, l9, up _ _ hC11, nC, by rw [lC]; omega, by rw [lC]; omega, up _ _ hV11, fun z hz => ?_, by simp [lN], s11.ne np, zR, zC, zV⟩ (s11.same up) (k11.trans (Keep.of up))
            obtain ⟨y, hy, rfl⟩ := List.mem_map.mp hz
            exact ⟨y, nN y hy, rfl⟩
          -- if draw(3) == 0
          refine ⟨_, rfl, a, c, m + 10, 3, rfl, sr10.mono (by omega), by decide, by decide, fun r5 H11 r50 r51 s11 k11 => ⟨rfl, _, rfl, ?_⟩⟩
          have hR11 := k11 _ _ hDR zR
          have c11 := k11 _ _ (s10 _ _ c9) zC
          have v11 := k11 _ _ (s10 _ _ hDV) zV
          have t11 := k11 _ _ (s10 _ _ t9) ta
          have kH11 := (kH9.trans (Keep.of s10)).trans k11
          refine ite2 (fun _ => ?_) (fun _ => ?_)
          · have L0 : 0 < L.length := by omega
            refine ⟨_, rfl, .inl ⟨rfl, _, .inl (.inl hR11)⟩, ?_⟩
            refine ⟨_, rfl, t, _, 0, _, rfl, rfl, SqL.of t11, atI_nat (j := 0) (strs_get L0), (by show 4 ≤ sizeLine; decide), fun p4 n4 => ?_⟩
            have u4 := same_new (o := .lst [V.int 1, V.int 3, V.int 0, V.int 1]) n4
            have z4 := s11.ne n4
            refine ⟨_, rfl, a, c, m + 5, 4, rfl, (s11.same u4).mono (by omega), by decide, by decide, fun r6 H12 r60 r61 s12 k12 => ?_⟩
            obtain ⟨n, en, n3⟩ := menu4 r60 r61
            refine ⟨p4, _, _, _, rfl, rfl, SqL.of (k12 _ _ upd_same z4), en, (by show 2 ≤ sizeLine; decide), fun pt npt => ?_⟩
            have upt := same_new (o := .tup [V.str L[0], V.int (n : Int)]) npt
            have zpt := s12.ne npt
            have hR12 := k12 _ _ (u4 _ _ hR11) zR
            have zDR : pt ≠ DR := (ne_of_none hR12 npt).symm
            refine ⟨DR, _, _, rfl, rfl, upt _ _ hR12, ?_, ?_⟩
            · rw [List.length_map, lR, sizeLine_eq]
              omega
            · have ks : Keep DR (upd H12 pt (.tup [V.str L[0], V.int (n : Int)])) (upd (upd H12 pt (.tup [V.str L[0], V.int (n : Int)])) DR (.lst (rows.map (fun x => V.ref x.1) ++ [V.ref pt]))) := fun b o e nb => by
                rw [upd_ne nb]
                exact e
              have aDR : a ≠ DR := zR.symm
              refine ⟨_, rfl, _, rfl, _, rfl, (by show 3 ≤ sizeLine; decide), fin _ (rows ++ [(pt, L[0], n)]) (by simp) (by simp [lR]; omega) (by rw [upd_same]; simp) (fun x hx => ?_) ?_ ?_ ?_ ?_⟩
              · rcases List.mem_append.mp hx with hx | hx
                · obtain ⟨h1, h2, h3, h4, h5⟩ := all x hx
                  exact ⟨ks _ _ (upt _ _ (k12 _ _ (u4 _ _ (k11 _ _ h1 h4)) h4)) h5, h2, h3, h4⟩
                · have e : x = (pt, L[0], n) := by simpa using hx
                  rw [e]
                  exact ⟨ks _ _ upd_same zDR, nL _ (List.getElem_mem L0), n3, zpt⟩
              · exact ks _ _ (upt _ _ (k12 _ _ (u4 _ _ c11) zC)) (ne_of_none (s10.trans (Same.refl _) |> fun _ => c9) nDR)
              · exact ks _ _ (upt _ _ (k12 _ _ (u4 _ _ v11) zV)) (ne_of_none hDV nDR)
              · obtain ⟨d, nn, e, g, bb⟩ := s12.same upt
                exact ⟨d, nn, ks _ _ e aDR, by omega, bb⟩
              · have k13 := (kH11.trans (Keep.of u4)).trans (k12.trans (Keep.of upt))
                intro b o e nb
                have nD' : b ≠ DR := ne_of_none (kH9 b o e nb) nDR
                exact ks _ _ (k13 b o e nb) nD'
          · refine ⟨_, rfl, _, rfl, _, rfl, (by show 3 ≤ sizeLine; decide), fin _ rows (by omega) (by omega) hR11 (fun x hx => ?_) c11 v11 (s11.mono (by omega)) kH11⟩
            obtain ⟨h1, h2, h3, h4, h5⟩ := all x hx
            exact ⟨k11 _ _ h1 h4, h2, h3, h4⟩
end
end L2.LawH
set_option Elab.async false
set_option linter.all false
set_option maxRecDepth 100000
set_option maxHeartbeats 4000000
/-! The helpers of the laws: terms, patterns, lots. -/
namespace L2.LawH
open PySem PySem.Spec PyProof.Rows
open Builtin.Int (intBits)
abbrev sTerm : Stmt := top 70
abbrev sPat : Stmt := top 71
abbrev sLot : Stmt := top 73
/-! ### texts that can be compared -/
theorem ok_list {z : Str} (h : ∀ c ∈ z.cps.toList, c < 0x110000) : PyData.strOk z = true := by
  unfold PyData.strOk
  rw [← Array.all_toList, List.all_eq_true]
  exact fun c hc => decide_eq_true (h c hc)
theorem sgn_small {c : Nat} (h : isSgn c = true) : c < 0x110000 := by
  simp only [isSgn, isLet, Bool.or_eq_true, Bool.and_eq_true, decide_eq_true_eq] at h
  omega
theorem Nm.strOk {z : Str} (h : Nm z) : PyData.strOk z = true := by
  obtain ⟨h1, _, _⟩ := nm_sgns h
  exact ok_list fun c hc => sgn_small (List.all_eq_true.mp h1 c hc)
theorem Vr.strOk {z : Str} (h : Vr z) : PyData.strOk z = true := by
  obtain ⟨y, ny, rfl⟩ := h
  obtain ⟨h1, _, _⟩ := nm_sgns ny
  refine ok_list fun c hc => ?_
  rw [toList_append] at hc
  rcases List.mem_append.mp hc with hc | hc
  · have e1 : (Str.ofString "?").cps.toList = [63] := by decide +kernel
    rw [e1] at hc
    have e : c = 63 := by simpa using hc
    omega
  · exact sgn_small (List.all_eq_true.mp h1 c hc)
theorem dp_strs {K : PySem.W.Frag} {H : Hp} : ∀ zs : List Str, DpAll K H (zs.map V.str) (zs.map PyData.str)
  | [] => .nil
  | z :: zs => .cons (.str z) (dp_strs zs)
theorem lay_strs : ∀ zs : List Str, (PyData.list (zs.map PyData.str)).canLay0 = (zs.all PyData.strOk)
  | [] => rfl
  | z :: zs => by
    have ih := lay_strs zs
    simp only [PyData.canLay0, PyData.canLayAll0, List.map_cons, List.all_cons] at ih ⊢
    rw [ih]
theorem depth_strs : ∀ zs : List Str, (PyData.list (zs.map PyData.str)).depth ≤ 2
  | [] => by decide
  | z :: zs => by
    have ih := depth_strs zs
    simp only [PyData.depth, PyData.depthAll, List.map_cons] at ih ⊢
    omega
theorem shaped_strs {zs : List Str} (h : ∀ z ∈ zs, PyData.strOk z = true) : SeqAt.shaped (.list (zs.map PyData.str)) = true := by
  unfold SeqAt.shaped
  rw [lay_strs, List.all_eq_true.mpr h, Bool.true_and]
  exact decide_eq_true (Nat.le_trans (depth_strs zs) (by decide))
theorem eqv_nil : ∀ zs : List Str, PyData.eqv (.list (zs.map PyData.str)) (.list []) = decide (zs = [])
  | [] => by decide
  | z :: zs => by simp [PyData.eqv, PyData.eqvAll]

/-- a list of variables at q -/
structure VarsAt (a : Addr) (H : Hp) (q : Addr) (W : List Str) : Prop where
  hq : H q = some (.lst (W.map V.str))
  all : ∀ z ∈ W, Vr z
  few : W.length ≤ 100
  nq : q ≠ a
theorem VarsAt.keep {a : Addr} {H H' : Hp} {q : Addr} {W : List Str} (h : VarsAt a H q W) (k : Keep a H H') : VarsAt a H' q W := ⟨k _ _ h.hq h.nq, h.all, h.few, h.nq⟩
def spTerm : Sp := fun vs H Q _ => ∃ (a p q : Addr) (c : Int) (m : Nat) (sh : Int) (π : Pool) (W : List Str), vs = [.ref a, .ref p, .ref q, .int sh] ∧ SrcAt H a c (m + 3) ∧ PoolAt a H p π ∧ VarsAt a H q W ∧
  ∀ (z : Str) (H' : Hp), (z ∈ π.C ∨ z ∈ W) → SrcAt H' a c m → Keep a H H' → Q (.str z) H'
/-- a pattern over a pool and variables -/
structure PatOf (π : Pool) (W : List Str) (T : Str) (zs : List Str) : Prop where
  tab : ∃ x ∈ π.rows, x.2.1 = T ∧ zs.length = x.2.2
  trm : ∀ z ∈ zs, z ∈ π.C ∨ z ∈ W
def spPat : Sp := fun vs H Q _ => ∃ (a p q : Addr) (c : Int) (m : Nat) (sh : Int) (π : Pool) (W : List Str), vs = [.ref a, .ref p, .ref q, .int sh] ∧ SrcAt H a c (m + 20) ∧ PoolAt a H p π ∧ VarsAt a H q W ∧
  ∀ (t : Addr) (T : Str) (zs : List Str) (H' : Hp), PatOf π W T zs → H' t = some (.tup (.str T :: zs.map V.str)) → t ≠ a → SrcAt H' a c m → Keep a H H' → Q (.ref t) H'
section
variable {P : Program} {w : World} {K : PySem.W.Frag} {mg : Str → Option Value} {base : Heap}
abbrev nTerm : List Str := ["_law_source_here", "_law_pool_here", "_law_variables_here", "_law_share"]
theorem scT : FnScope nTerm nTerm (defScope sTerm) := ⟨rfl, rfl, rfl, by decide +kernel, rfl, by decide +kernel, by decide +kernel⟩
theorem ok_term {f fD : Addr} {fd fdD : FuncData} (F : Fun K "_law_term" "_law_term" sTerm f fd)
    (GD : FnOk P w K mg base CX0 1 fD fdD ["_law_source_here", "_law_limit"] spDraw) (kD : PySem.W.keepIn K (.ref fD) = true) (bD : Binds K fdD ["_law_source_here", "_law_limit"] []) (mD : mg "_law_draw" = some (.ref fD))
    (ml : mg "len" = none) : FnOk P w K mg base CX0 2 f fd nTerm spTerm := by
  refine F.ok scT (fun vs H Q E h => ?_) (fun cdv A outer s H vs Q E hr h => ?_)
  · obtain ⟨a, p, q, c, m, sh, π, W, rfl, _⟩ := h
    rfl
  · obtain ⟨a, p, q, c, m, sh, π, W, rfl, hs, hp, hv, k⟩ := h
    have hr1 : Room 1 _ := hr.mono (by decide)
    have hu := hr.units
    refine ⟨_, pss_cons (ps_if (PW.pt (pw_and (pt_cmpR (op_neD hu) (pv 2) (pe_lst pa_nil) (nomark _)) (pw_and1 (pt_cmpR op_lt (pe_call GD hr1 (by rfl) mD kD bD .nil pass0 (pa_cons (pv 0) (pa_cons pe_int pa_nil))) (pv 3) (nomark _)))))
        (pss_one (ps_ret (pe_ix ix_list (pv 2) (pe_call GD hr1 (by rfl) mD kD bD .nil pass0 (pa_cons (pv 0) (pa_cons (pe_callB call_len_seq (by rfl) ml (by decide +kernel) (pa_cons (pv 2) pa_nil)) pa_nil))) (fun _ _ => rfl)))) pss_nil)
      (pss_one (ps_ret (pe_ix ix_list (pe_ix ix_list (pv 1) pe_int (fun _ _ => rfl)) (pe_call GD hr1 (by rfl) mD kD bD .nil pass0 (pa_cons (pv 0) (pa_cons (pe_callB call_len_seq (by rfl) ml (by decide +kernel) (pa_cons (pe_ix ix_list (pv 1) pe_int (fun _ _ => rfl)) pa_nil)) pa_nil))) (fun _ _ => rfl)))), ?_⟩
    -- the second way
    have snd : ∀ H1, SrcAt H1 a c (m + 1) → Keep a H H1 → ∀ σ : List (Option V), σ = [some (.ref a), some (.ref p), some (.ref q), some (.int sh)] →
        tRet (tOp (rIxL K) (tOp (rIxL K) (tVar 1) (tC (.int 1))) (tCall spDraw [] E0 (tCons (tVar 0) (tCons (tCB (fun xs H Q => ∃ p ys, xs = [.ref p] ∧ (SqL K H p ys ∨ SqT K H p ys) ∧ Q (.int ys.length) H) (tCons (tOp (rIxL K) (tVar 1) (tC (.int 1))) tNil)) tNil))))
          { nx := fun _ H' => Q .non H', rt := Q } σ H1 := by
      rintro H1 s1 k1 σ rfl
      have p1 := hp.keep k1
      have lC : (π.C.map V.str).length = π.C.length := List.length_map _
      have c2 := π.C.length
      refine ⟨_, rfl, p, _, 1, _, rfl, rfl, SqL.of p1.hp, rfl, _, rfl, _, rfl, p, _, 1, _, rfl, rfl, SqL.of p1.hp, rfl, π.cs, _, rfl, .inl (SqL.of p1.hc), ?_⟩
      refine ⟨a, c, m, _, rfl, s1, by rw [lC]; have := hp.C2; omega, by rw [lC]; have := hp.C9; omega, fun r H2 r0 r1 s2 k2 => ?_⟩
      obtain ⟨j, rfl⟩ : ∃ j : Nat, r = j := ⟨r.toNat, by omega⟩
      rw [lC] at r1
      have hj : j < π.C.length := by omega
      exact ⟨π.cs, _, _, _, rfl, rfl, SqL.of (k2 _ _ p1.hc p1.nc), atI_nat (strs_get hj), k _ H2 (.inl (List.getElem_mem hj)) s2 (k1.trans k2)⟩
    refine ⟨_, rfl, (by show 0 ≤ sizeLine; decide), fun p0 n0 => ?_⟩
    have u0 := same_new (o := .lst []) n0
    have s0 := hs.same u0
    have hv0 := hv.keep (Keep.of u0)
    refine ⟨_, _, .lst (SqL.of hv0.hq) (dp_strs W), .lst (SqL.of upd_same) .nil, shaped_strs fun z hz => (hv.all z hz).strOk, by decide, _, rfl, ?_⟩
    rw [eqv_nil]
    by_cases e : W = []
    · rw [decide_eq_true e]
      refine iteF ?_
      refine iteF ?_
      exact snd _ (s0.mono (by omega)) (Keep.of u0) _ rfl
    · rw [decide_eq_false e]
      refine iteT ?_
      refine ⟨_, rfl, a, c, m + 2, 6, rfl, s0, by decide, by decide, fun r H1 r0 r1 s1 k1 => ?_⟩
      have hv1 := hv0.keep k1
      refine ⟨_, rfl, _, _, rfl, rfl, _, rfl, ?_⟩
      refine ite2 (fun _ => ?_) (fun _ => ?_)
      · have lW : (W.map V.str).length = W.length := List.length_map _
        have W0 : 0 < W.length := List.length_pos_iff.mpr e
        refine ⟨_, rfl, _, rfl, _, rfl, q, _, rfl, .inl (SqL.of hv1.hq), ?_⟩
        refine ⟨a, c, m + 1, _, rfl, s1, by rw [lW]; omega, by rw [lW]; have := hv.few; omega, fun r2 H2 r20 r21 s2 k2 => ?_⟩
        obtain ⟨j, rfl⟩ : ∃ j : Nat, r2 = j := ⟨r2.toNat, by omega⟩
        rw [lW] at r21
        have hj : j < W.length := by omega
        exact ⟨q, _, _, _, rfl, rfl, SqL.of (k2 _ _ hv1.hq hv.nq), atI_nat (strs_get hj), k _ H2 (.inr (List.getElem_mem hj)) (s2.mono (by omega)) (((Keep.of u0).trans k1).trans k2)⟩
      · exact snd _ (s1.mono (by omega)) ((Keep.of u0).trans k1) _ rfl
abbrev nPat : List Str := ["_law_source_here", "_law_pool_here", "_law_variables_here", "_law_share", "_law_table", "_law_size", "_law_k"]
theorem scPt : FnScope nPat nTerm (defScope sPat) := ⟨rfl, rfl, rfl, by decide +kernel, rfl, by decide +kernel, by decide +kernel⟩
theorem ok_pat {f fD fT : Addr} {fd fdD fdT : FuncData} (F : Fun K "_law_pattern" "_law_pattern" sPat f fd)
    (GD : FnOk P w K mg base CX0 1 fD fdD ["_law_source_here", "_law_limit"] spDraw) (kD : PySem.W.keepIn K (.ref fD) = true) (bD : Binds K fdD ["_law_source_here", "_law_limit"] []) (mD : mg "_law_draw" = some (.ref fD))
    (GT : FnOk P w K mg base CX0 2 fT fdT nTerm spTerm) (kT : PySem.W.keepIn K (.ref fT) = true) (bT : Binds K fdT nTerm []) (mT : mg "_law_term" = some (.ref fT))
    (ml : mg "len" = none) (mr : mg "range" = none) (mt : mg "tuple" = none) : FnOk P w K mg base CX0 3 f fd nTerm spPat := by
  refine F.ok scPt (fun vs H Q E h => ?_) (fun cdv A outer s H vs Q E hr h => ?_)
  · obtain ⟨a, p, q, c, m, sh, π, W, rfl, _⟩ := h
    rfl
  · obtain ⟨a, p, q, c, m, sh, π, W, rfl, hs, hp, hv, k⟩ := h
    have hr1 : Room 1 _ := hr.mono (by decide)
    refine ⟨_, pss_cons (ps_asg (pe_ix ix_list (pe_ix ix_list (pv 1) pe_int (fun _ _ => rfl)) (pe_call GD hr1 (by rfl) mD kD bD .nil pass0 (pa_cons (pv 0) (pa_cons (pe_callB call_len_seq (by rfl) ml (by decide +kernel) (pa_cons (pe_ix ix_list (pv 1) pe_int (fun _ _ => rfl)) pa_nil)) pa_nil))) (fun _ _ => rfl))
        (pg_tup (by rfl) (pgs_cons (pg_name (i := 4) scPt.nd rfl (Or.inl rfl)) (pgs_cons (pg_name (i := 5) scPt.nd rfl (Or.inl rfl)) pgs_nil))))
      (pss_one (ps_ret (pe_callTy call_tuple_of (by rfl) mt (by decide +kernel) (pa_cons (pe_op op_cat (pe_lst (pa_cons (pv 4) pa_nil))
        (pe_lc (own := [("_law_k", 6)]) (g := gName 6) (tt := tYes) rfl scPt.nd (pi_range1 (by rfl) mr (pa_cons (pv 5) pa_nil))
          (blkOk_by (own := [("_law_k", 6)]) (N := nPat) (sc := defScope sPat) (by decide +kernel)) (fun _ _ _ _ _ => pg_name (i := 6) scPt.nd rfl (Or.inl rfl)) (fun _ _ _ _ _ => pts_nil)
          (fun _ _ _ _ _ => pe_call GT hr (by rfl) mT kT bT .nil pass0 (pa_cons (pv 0) (pa_cons (pv 1) (pa_cons (pv 2) (pa_cons (pv 3) pa_nil))))))) pa_nil)))), ?_⟩
    have lR : (π.rows.map fun x => V.ref x.1).length = π.rows.length := List.length_map _
    refine ⟨_, rfl, p, _, 0, _, rfl, rfl, SqL.of hp.hp, rfl, _, rfl, _, rfl, p, _, 0, _, rfl, rfl, SqL.of hp.hp, rfl, π.r, _, rfl, .inl (SqL.of hp.hr), ?_⟩
    refine ⟨a, c, m + 19, _, rfl, hs, by rw [lR]; have := hp.rows1; omega, by rw [lR]; have := hp.rows9; omega, fun r H1 r0 r1 s1 k1 => ?_⟩
    obtain ⟨j, rfl⟩ : ∃ j : Nat, r = j := ⟨r.toNat, by omega⟩
    rw [lR] at r1
    have hj : j < π.rows.length := by omega
    have hp1 := hp.keep k1
    have hv1 := hv.keep k1
    have hx : (π.rows.map fun x => V.ref x.1)[j]? = some (.ref π.rows[j].1) := by
      rw [List.getElem?_map, List.getElem?_eq_getElem hj]
      rfl
    have mx : π.rows[j] ∈ π.rows := List.getElem_mem hj
    obtain ⟨t1, nT, n3, nx⟩ := hp1.hrow _ mx
    refine ⟨π.r, _, _, _, rfl, rfl, SqL.of hp1.hr, atI_nat hx, _, _, rfl, SqT.of t1, rfl, _, _, rfl, _, _, rfl, rfl, ?_⟩
    -- tuple([table] + [..])
    refine ⟨_, rfl, (by show 1 ≤ sizeLine; decide), fun pA nA => ?_⟩
    have uA := same_new (o := .lst [V.str π.rows[j].2.1]) nA
    have zA := s1.ne nA
    refine ⟨_, rfl, _, rfl, by omega, by omega, fun D nD => ?_⟩
    have sA := s1.same uA
    have zD := sA.ne nD
    rw [Int.toNat_natCast]
    refine lc_range (lo := 0) (n := π.rows[j].2.2) (fun i H5 => ∃ zs : List Str, zs.length = i ∧ (∀ z ∈ zs, z ∈ π.C ∨ z ∈ W) ∧ H5 D = some (.lst (zs.map V.str)) ∧ SrcAt H5 a c (m + 19 - 3 * i) ∧ Keep a H H5 ∧ H5 pA = some (.lst [V.str π.rows[j].2.1]))
      ⟨[], rfl, fun _ z => (by cases z), upd_same, sA.same (same_new nD), (k1.trans (Keep.of uA)).trans (Keep.of (same_new nD)), (same_new nD) _ _ upd_same⟩ ?_ ?_
    · rintro i H5 hi ⟨zs, lz, hz, hD, s5, k5, a5⟩
      refine ⟨rfl, ?_⟩
      dsimp only [tYes]
      rw [if_pos rfl]
      have s5' : SrcAt H5 a c (m + 19 - 3 * (i + 1) + 3) := s5.mono (by omega)
      refine ⟨_, rfl, _, rfl, _, rfl, _, rfl, a, p, q, c, m + 19 - 3 * (i + 1), sh, π, W, rfl, s5', hp.keep k5, hv.keep k5, fun z H6 hz6 s6 k6 => ?_⟩
      refine ⟨_, k6 _ _ hD zD, ?_, zs ++ [z], by simp [lz], fun y hy => ?_, by rw [upd_same]; simp, ?_, ?_, ?_⟩
      · rw [List.length_map, lz, sizeLine_eq]
        omega
      · rcases List.mem_append.mp hy with hy | hy
        · exact hz y hy
        · have e : y = z := by simpa using hy
          rw [e]
          exact hz6
      · obtain ⟨d, nn, e, g⟩ := s6
        exact ⟨d, nn, by rw [upd_ne zD.symm]; exact e, g⟩
      · intro b o e nb
        have hb : b ≠ D := ne_of_none ((k1.trans (Keep.of uA)) b o e nb) nD
        rw [upd_ne hb]
        exact (k5.trans k6) b o e nb
      · have aD : pA ≠ D := ne_of_none (upd_same (H := H1) (o := .lst [V.str π.rows[j].2.1])) nD
        rw [upd_ne aD]
        exact k6 _ _ a5 zA
    · rintro H5 ⟨zs, lz, hz, hD, s5, k5, a5⟩
      refine ⟨pA, D, _, _, rfl, rfl, a5, hD, ?_, fun pL nL => ?_⟩
      · rw [List.length_map, lz, sizeLine_eq]
        show 1 + _ ≤ _
        omega
      have uL := same_new (o := .lst ([V.str π.rows[j].2.1] ++ zs.map V.str)) nL
      refine ⟨pL, _, rfl, .inl ⟨SqL.of upd_same, fun pt npt => ?_⟩⟩
      have ut := same_new (o := .tup ([V.str π.rows[j].2.1] ++ zs.map V.str)) npt
      have s6 := (s5.same uL).same ut
      exact k pt _ zs _ ⟨⟨_, mx, rfl, lz⟩, hz⟩ upd_same ((s5.same uL).ne npt) (s6.mono (by omega)) ((k5.trans (Keep.of uL)).trans (Keep.of ut))
end
end L2.LawH
set_option Elab.async false
set_option linter.all false
set_option maxRecDepth 100000
set_option maxHeartbeats 4000000
/-! Sets whose members have a key (texts, numbers): what they hold, in any order; adding; walking them; sorting sets of texts. -/
namespace L2.GSet
open PySem PySem.Spec PyProof.Rows
section
variable {P : Program} {w : World} {κ : Type} [DecidableEq κ]
/-- a set's payload holds the keys ks, and its table can be walked -/
structure Pay (kd : PySem.KeyKind P w κ) (key : Value → κ) (es : Array (Int × Value)) (t : SetTable) (ks : List κ) : Prop where
  el : ElemsOf kd es.toList
  pm : (es.toList.map fun e => key e.2).Perm ks
  few : es.size < scanBound
  fit : t.fits es.size = true
  ris : Ris t.place.toList
  led : w.params.followText "set-order" = true ∨ t.led = true
def GAt (kd : PySem.KeyKind P w κ) (key : Value → κ) (h : Heap) (a : Addr) (ks : List κ) : Prop :=
  ∃ o es ep t, h.get? a = some o ∧ o.ExactSet ∧ o.data = .set es ep t ∧ Pay kd key es t ks
variable {kd : PySem.KeyKind P w κ} {key : Value → κ} {es : Array (Int × Value)} {t : SetTable} {ks : List κ} {h h' : Heap} {a : Addr}
theorem GAt.keep (R : GAt kd key h a ks) (k : ∀ o, h.get? a = some o → h'.get? a = some o) : GAt kd key h' a ks :=
  let ⟨o, es, ep, t, ho, r⟩ := R
  ⟨o, es, ep, t, k o ho, r⟩
theorem GAt.some (R : GAt kd key h a ks) : ∃ o, h.get? a = some o := let ⟨o, _, _, _, ho, _⟩ := R; ⟨o, ho⟩
theorem Pay.size (p : Pay kd key es t ks) : es.size = ks.length := by
  have q := p.pm.length_eq
  rwa [List.length_map, Array.length_toList] at q
theorem Pay.is (hk : ∀ k v, kd.is k v = true → key v = k) (p : Pay kd key es t ks) {e : Int × Value} (he : e ∈ es.toList) (k : κ) : kd.is k e.2 = true ↔ key e.2 = k := by
  obtain ⟨⟨k', i, _⟩, _⟩ := p.el e he
  refine ⟨hk k _, fun z => ?_⟩
  rw [← z, hk k' _ i]
  exact i
theorem Pay.mem (hk : ∀ k v, kd.is k v = true → key v = k) (p : Pay kd key es t ks) (k : κ) : k ∈ ks ↔ ∃ e ∈ es.toList, kd.is k e.2 = true := by
  rw [← p.pm.mem_iff, List.mem_map]
  exact ⟨fun ⟨e, m, q⟩ => ⟨e, m, (p.is hk m k).2 q⟩, fun ⟨e, m, q⟩ => ⟨e, m, (p.is hk m k).1 q⟩⟩
end
section
variable {P : Program} {w : World} {κ : Type} [DecidableEq κ] {kd : PySem.KeyKind P w κ} {key : Value → κ} {A : Around} {E : Value → Shared → Prop} {s : Shared} {a : Addr} {ks : List κ}
/-- laying the payload down, with the growing behind it -/
theorem lay_down {grow : Bool → Sem Unit} (hgrow : ∀ (b : Bool) (s1 : Shared) (C : Unit → Shared → Prop), C () s1 → wpAny (model P w) A (grow b) C E s1)
    {o : Obj} {es0 es : Array (Int × Value)} {ep : Nat} {t0 t : SetTable} (ho : s.heap.get? a = some o) (ox : o.ExactSet) (od : o.data = .set es0 ep t0) (p : Pay kd key es t ks) {wd : Bool} {R : Option Bool → Shared → Prop}
    (hR : ∀ h', Heap.SameBut a s.heap h' → GAt kd key h' a ks → R (some true) { s with heap := h' }) :
    wpAny (model P w) A (do
        storeSet a es t
        if (!wd && t.tooFull) = true then do
            grow (relayAll t es (SetTable.grown es.size)).2.2
            storeSet a (relayAll t es (SetTable.grown es.size)).1 (relayAll t es (SetTable.grown es.size)).2.1
            pure (some true)
          else pure (some true)) R E s := by
  have b1 := Heap.SameBut.update s.heap a (Obj.putSet es t)
  have o1 := PpSet.storeB_at (es' := es) (t' := t) ho od
  refine wpAny_bind (wpAny_storeSet_of ho od ?_ (fits_of_scanBound p.few))
  split
  · have q1 := relayAll_perm t es (SetTable.grown es.size)
    have q2 := relayAll_fits t es (SetTable.grown es.size)
    have q3 := relayAll_ris t es (SetTable.grown es.size)
    have q4 := relayAll_led t es (SetTable.grown es.size)
    cases e : relayAll t es (SetTable.grown es.size) with
    | mk es2 rest =>
      obtain ⟨t2, gw⟩ := rest
      rw [e] at q1 q2 q3 q4
      have zz : es2.size = es.size := by
        have := q1.length_eq
        rwa [Array.length_toList, Array.length_toList] at this
      have p2 : Pay kd key es2 t2 ks := ⟨p.el.perm q1, (q1.map _).trans p.pm, by rw [zz]; exact p.few, q2, q3, p.led.imp id fun z => q4.trans z⟩
      have o2 := PpSet.storeB_at (es' := es2) (t' := t2) o1 rfl
      refine wpAny_bind (hgrow _ _ _ (wpAny_bind (wpAny_storeSet_of o1 rfl (wpAny_pure (hR _ (b1.trans (Heap.SameBut.update _ a _)) ⟨_, es2, _, t2, o2, ox, rfl, p2⟩)) (fits_of_scanBound p2.few))))
  · exact wpAny_pure (hR _ b1 ⟨_, es, _, t, o1, ox, rfl, p⟩)
theorem add_hashed (hk : ∀ k v, kd.is k v = true → key v = k) {k : κ} {x : Value} {Q : Bool → Shared → Prop} (hx : kd.is k x = true) (hsc : x.scannable = true) (R : GAt kd key s.heap a ks) (room : ks.length + 1 < scanBound)
    (hQ : ∀ b h', Heap.SameBut a s.heap h' → GAt kd key h' a (if k ∈ ks then ks else ks ++ [k]) → Q b { s with heap := h' }) :
    wpAny (model P w) A (setAddHashed a x (kd.hash k)) Q E s := by
  obtain ⟨o, es, ep, t, ho, ox, od, p⟩ := R
  unfold setAddHashed setAddHashedIn
  refine wpAny_holding (wpAny_bind (wpAny_setState_of ho od p.fit ?_))
  dsimp only
  rw [byScan_of hsc p.few p.el, if_pos rfl]
  unfold setAddByScan
  refine wpAny_bind (wpAny_bind (wpAny_rule (wpAny_bind (wpAny_setScan_of hx ho od p.fit p.el ?_))))
  cases fi : List.findIdx? (fun e => kd.is k e.2) es.toList with
  | some j =>
    obtain ⟨lj, ij, _⟩ := List.findIdx?_eq_some_iff_getElem.mp fi
    have mk : k ∈ ks := (p.mem hk k).2 ⟨_, List.getElem_mem lj, ij⟩
    have q := hQ false s.heap (Heap.SameBut.refl a s.heap) ⟨o, es, ep, t, ho, ox, od, by rw [if_pos mk]; exact p⟩
    exact wpAny_pure (wpAny_pure q)
  | none =>
    have mk : k ∉ ks := fun z => by
      obtain ⟨e, he, i⟩ := (p.mem hk k).1 z
      have c := List.findIdx?_eq_none_iff.mp fi e he
      rw [i] at c
      exact Bool.noConfusion c
    dsimp only
    have q1 := layNew_perm t es (kd.hash k) x
    have q2 := layNew_fits t es (kd.hash k) x
    have q3 := layNew_ris t es (kd.hash k) x p.ris
    have q4 := layNew_led t es (kd.hash k) x
    generalize layNew t es (kd.hash k) x = Z at q1 q2 q3 q4 ⊢
    obtain ⟨es1, t1, wd, gw⟩ := Z
    dsimp only at q1 q2 q3 q4 ⊢
    rw [Array.toList_push] at q1
    have zz : es1.size = ks.length + 1 := by
      have z := q1.length_eq
      rw [List.length_append, Array.length_toList, Array.length_toList, p.size] at z
      exact z
    have pay : ∀ t' : SetTable, t'.fits es1.size = true → Ris t'.place.toList → t'.led = t.led → Pay kd key es1 t' (ks ++ [k]) := fun t' f r l =>
      ⟨(p.el.push hx hsc).perm q1, by
        have z := q1.map fun e => key e.2
        rw [List.map_append, List.map_cons, List.map_nil, hk k x hx] at z
        exact z.trans (p.pm.append_right _), by rw [zz]; exact room, f, r, p.led.imp id fun z => l.trans z⟩
    have fin : ∀ h', Heap.SameBut a s.heap h' → GAt kd key h' a (ks ++ [k]) → Q true { s with heap := h' } := fun h' sb g => hQ true h' sb (by rw [if_neg mk]; exact g)
    have gives : ∀ (b : Bool) (s1 : Shared) (C : Unit → Shared → Prop), C () s1 → wpAny (model P w) A (match b with | true => rule "set.scan.the-table-gave-way" | false => pure ()) C E s1 := fun b s1 C q => by
      cases b
      · exact wpAny_pure q
      · exact wpAny_rule q
    refine wpAny_bind (gives _ _ _ ?_)
    split
    · refine wpAny_bind ?_
      rw [hashByValue_scannable 8 hsc]
      refine wpAny_pure (lay_down gives ho ox od (pay _ ?_ ?_ ?_) fun h' sb g => wpAny_pure (fin h' sb g))
      · split
        · exact q2
        · exact SetTable.fits_plain_off q2
      · split <;> exact q3
      · split <;> exact q4
    · refine wpAny_bind (wpAny_pure ?_)
      simp only [↓reduceIte]
      exact lay_down gives ho ox od (pay _ q2 q3 q4) fun h' sb g => wpAny_pure (fin h' sb g)
/-- a.add(x) -/
theorem add_call (hk : ∀ k v, kd.is k v = true → key v = k) {k : κ} {x : Value} {Q : Value → Shared → Prop} (hx : kd.is k x = true) (hsc : x.scannable = true) (R : GAt kd key s.heap a ks) (room : ks.length + 1 < scanBound)
    (hQ : ∀ h', Heap.SameBut a s.heap h' → GAt kd key h' a (if k ∈ ks then ks else ks ++ [k]) → Q .none { s with heap := h', toks := s.toks + 1 }) :
    wpAny (model P w) A (call (.builtin "set.add") [.ref a, x]) Q E s := by
  have ty : s.TypeIs (.ref a) "set" := by
    obtain ⟨o, es, ep, t, ho, ox, _⟩ := R
    exact ⟨o, ho, ox.1⟩
  refine wpAny_call_entry F.slot_set_add ty F.entry_set_add ?_ (F.args_set_add_2 _ _)
  unfold Builtin.«set.add» Builtin.Frozenset.oneOther Builtin.Frozenset.addrOf setAdd
  simp only [List.isEmpty_nil, bind_assoc]
  refine wpAny_bind (wpAny_pure (wpAny_bind (wpAny_pure (wpAny_bind (wpAny_holding (wpAny_bind (kd.pyHash hx ?_)))))))
  exact add_hashed (s := { s with toks := s.toks + 1 }) hk hx hsc R room fun b h' sb g => wpAny_pure ⟨_, rfl, hQ h' sb g⟩
theorem fresh (h : Heap) : GAt kd key (h.push { cls := .type "set", dict := none, data := .set #[] 0 (.fresh 0 0 (!w.params.followText "set-order")) }) h.objs.size [] := by
  refine ⟨_, #[], 0, _, Heap.get?_push_size _ rfl, ⟨rfl, rfl, rfl⟩, rfl, ⟨fun e z => by simp at z, .nil, by decide, rfl, List.Pairwise.nil, ?_⟩⟩
  show _ ∨ (!w.params.followText "set-order") = true
  cases w.params.followText "set-order"
  · exact .inr rfl
  · exact .inl rfl
end
end L2.GSet
set_option Elab.async false
set_option linter.all false
set_option maxRecDepth 100000
set_option maxHeartbeats 4000000
/-! Comprehensions of any kind with one or two `for`s, by what is laid ahead of them and what a turn's end does. -/
namespace L2.Cmp
open PySem PySem.Spec PyProof.Rows
/-- a turn's shape -/
def turnOf (tg : Expr) (ifs : List Expr) (p : Pos) (it : Value) (env : Env) (tail : Bool → Sem PySem.Fin) : Sem PySem.Fin := do
  standAt p
  match ← pyNext it with
  | none => pure (.done .next)
  | some v =>
    letOwnedTupleGo tg it v
    assign tg env v
    let ok ← forIn ifs true fun c r => if r = true then do let ok ← isTrue c env (eval c env); pure (ForInStep.yield ok) else pure (ForInStep.yield r)
    tail ok
/-- the innermost turn's end -/
def tailIn (em : Sem Unit) (cd : Code) : Bool → Sem PySem.Fin := fun ok => if ok = true then em >>= fun _ => again cd else again cd
/-- the outer one's: the second source is walked -/
def tailOut (node i1 : Expr) (acc : Value) (env : Env) (cd : Code) : Bool → Sem PySem.Fin := fun ok => if ok = true then do
    let x ← eval i1 env
    standAt i1.pos
    let x ← foldedSetIterable i1 env x
    let _ ← runOwn (.compStart node 1 (← holding [x] (pyIter x)) acc env) env
    again cd
  else again cd
/-- a set's, a list's or a dict's comprehension -/
def IsC (node : Expr) : Prop := (∃ e gs sc p, node = .SetComp e gs sc p) ∨ (∃ e gs sc p, node = .ListComp e gs sc p) ∨ ∃ k v gs sc p, node = .DictComp k v gs sc p
theorem IsC.den {prog : Program} {w : World} {node : Expr} (c : IsC node) (lvl : Nat) (it acc : Value) (env : Env) (A : Around) :
    (A.under (.compLoop node lvl it acc env) = A ∧ (model prog w).den (.compLoop node lvl it acc env) = (compTurn node lvl it acc env).onRaise (fun x => do noteFrame x env; theTreesLotGoes x) ∧ (Code.compLoop node lvl it acc env).quiet = true) ∧
    (A.under (.compStart node lvl it acc env) = A ∧ (model prog w).den (.compStart node lvl it acc env) = (compStart node lvl it acc env).onRaise (fun x => do noteFrame x env; standAt theWindowsPlace)) := by
  rcases c with ⟨e, gs, sc, p, rfl⟩ | ⟨e, gs, sc, p, rfl⟩ | ⟨k, v, gs, sc, p, rfl⟩ <;> exact ⟨⟨rfl, rfl, rfl⟩, rfl, rfl⟩
abbrev nil2 : Value → Shared → Prop := fun _ _ => False
theorem loop_any {prog : Program} {w : World} {A : Around} {R : Result → Shared → Prop} {s : Shared} {node : Expr} {lvl : Nat} {it acc : Value} {env : Env} (ic : IsC node) (Iv : Nat → Shared → Prop)
    (turn : ∀ n s, Iv n s → wpAny (model prog w) A (compTurn node lvl it acc env) (fun fin s' => match fin with | .done f => R (.ok f) s' | .again c' => c' = Code.compLoop node lvl it acc env ∧ ∃ m, m < n ∧ Iv m s') nil2 s)
    (n : Nat) (h : Iv n s) : codeAny (model prog w) A (.compLoop node lvl it acc env) R s := by
  obtain ⟨d1, d2, d3⟩ := (ic.den (prog := prog) (w := w) lvl it acc env A).1
  refine codeAny_loop d3 Iv (fun n s hI => ?_) n h
  rw [d1, d2]
  exact wpAny_noted (wpAny_mono (turn n s hI) (fun _ _ z => z) fun _ _ z => z.elim)
theorem start_any {prog : Program} {w : World} {A : Around} {R : Result → Shared → Prop} {s : Shared} {node tg iter : Expr} {ifs : List Expr} {lvl : Nat} {it acc : Value} {env : Env} (ic : IsC node) (hcl : (clausesOf node)[lvl]? = some ⟨tg, iter, ifs, 0⟩)
    (h0 : codeAny (model prog w) A (.compLoop node lvl it acc env) R s)
    (h : wpAny (model prog w) A (pyIter it) (fun it' s' => codeAny (model prog w) A (.compLoop node lvl it' acc env) R s') nil2 s) :
    codeAny (model prog w) A (.compStart node lvl it acc env) R s := by
  obtain ⟨d1, d2⟩ := (ic.den (prog := prog) (w := w) lvl it acc env A).2
  have qu : ∀ it', (Code.compLoop node lvl it' acc env).quiet = true := fun it' => (ic.den (prog := prog) (w := w) lvl it' acc env A).1.2.2
  refine codeAny_of_tree ?_
  rw [d1, d2]
  refine wpAny_notedAt ?_
  unfold compStart
  rw [hcl]
  show wpAny _ _ (ask >>= _) _ _ s
  refine wpAny_bind (wpAny_askSetting (wpAny_ite ?_))
  split
  · first
      | exact wpAny_bind (wpAny_pure (wpAny_pure (And.intro (qu _) h0)))
      | exact wpAny_pure (And.intro (qu _) h0)
  · refine wpAny_bind (wpAny_rule ?_)
    show wpAny _ _ (standAt iter.pos >>= _) _ _ s
    exact wpAny_bind (wpAny_standAt (wpAny_bind (wpAny_mono h (fun it' s' h' => wpAny_pure (And.intro (qu _) h')) fun _ _ z => z.elim)))
/-- what the end of a turn reaches from the slots σ: it forgets at most vs -/
def Past (B : Cx) (pins : List (Addr × Obj)) (vs : List Nat) (σ : List (Option V)) (C : Hp → Prop) (s' : Shared) : Prop :=
  ∃ σ' H', Inv B pins σ' H' s' ∧ σ'.length = σ.length ∧ (∀ (j : Nat) v, j ∉ vs → σ[j]? = some (some v) → σ'[j]? = some (some v)) ∧ C H'
abbrev TAc := List (Option V) → Hp → (Hp → Prop) → Prop
/-- the walk of one clause, as it is read -/
def Walk (J : It) (g : TG) (tt : TT) (ta : TAc) (vs : List Nat) (σ : List (Option V)) (Done : Hp → Prop) (H0 : Hp) : Prop :=
  ∃ W : Nat → Nat → Hp → Prop, (∃ m, W 0 m H0) ∧ ∀ i m H, W i m H → (J.stop i H ∧ Done H) ∨ (J.go i H ∧ ∃ Nx : Hp → Prop, (∀ H', Nx H' → ∃ m', m' < m ∧ W (i + 1) m' H') ∧
    ∀ x H', J.yld i H x H' → g x (wipe σ vs) H' fun σ2 H2 => wipe σ2 vs = wipe σ vs ∧ tt σ2 H2 fun b H3 => if b = true then ta σ2 H3 Nx else Nx H3)
section
variable {B : Cx} {pins : List (Addr × Obj)} {it : Addr} {fp : List Addr} {tn : Nat → Heap → Prop} {J : It} {vs : List Nat} {σ : List (Option V)} {tg : Expr} {ifs : List Expr} {g : TG} {tt : TT} {ta : TAc} {p : Pos} {tail : Bool → Sem PySem.Fin} {cd : Code}
theorem turn_ok (hx : B.xe = nil2) (hc : B.calm = true) (T : Turn B.prog B.w B.K tg J fp it tn) (pg : PG B tg g) (pt : PTs B ifs tt) (stat : ∀ H', (∀ b ∈ fp, H' b = none) → ∀ b ∈ fp, FpOk B pins H' b)
    (act : ∀ (pl : List (Addr × Obj)) s σ H C, Inv B pl σ H s → ta σ H C → wpAny (model B.prog B.w) B.A (tail true) (fun fin s' => fin = .again cd ∧ Past B pl vs σ C s') nil2 s) (no : tail false = again cd)
    {R : Result → Shared → Prop} {W : Nat → Nat → Hp → Prop} {Done : Hp → Prop} (hd : ∀ s' H', Inv B pins (wipe σ vs) H' s' → Done H' → R (.ok .next) s')
    (turn : ∀ i m H, W i m H → (J.stop i H ∧ Done H) ∨ (J.go i H ∧ ∃ Nx : Hp → Prop, (∀ H', Nx H' → ∃ m', m' < m ∧ W (i + 1) m' H') ∧
      ∀ x H', J.yld i H x H' → g x (wipe σ vs) H' fun σ2 H2 => wipe σ2 vs = wipe σ vs ∧ tt σ2 H2 fun b H3 => if b = true then ta σ2 H3 Nx else Nx H3)) (n : Nat) (s : Shared)
    (start : ∃ i H', Inv B pins (wipe σ vs) H' s ∧ tn i s.heap ∧ (∀ b ∈ fp, H' b = none) ∧ W i n H') :
    wpAny (model B.prog B.w) B.A (turnOf tg ifs p (.ref it) B.env tail) (fun fin s' => match fin with | .done f => R (.ok f) s' | .again c' => c' = cd ∧ ∃ m, m < n ∧ ∃ i H', Inv B pins (wipe σ vs) H' s' ∧ tn i s'.heap ∧ (∀ b ∈ fp, H' b = none) ∧ W i m H') nil2 s := by
  obtain ⟨i, H5, I5, st5, n5, w5⟩ := start
  unfold turnOf
  refine wpAny_bind (wpAny_standAt (wpAny_bind ?_))
  rcases turn i n H5 w5 with ⟨stop, dn⟩ | ⟨go, Nx, hNx, step⟩
  · refine thnF (T.done B rfl rfl rfl hc i pins s _ H5 nil2 I5 (stat _ n5) st5 stop) fun r s6 ⟨hr, I6⟩ => ?_
    subst hr
    exact wpAny_pure (hd _ _ I6 dn)
  · refine thnF (T.item B rfl rfl rfl hc i pins s _ H5 nil2 I5 (stat _ n5) st5 go) fun r s6 ⟨u, hr, h6⟩ => ?_
    subst hr
    refine wpAny_bind (thnF h6 fun _ s7 ⟨x, H7, I7, r7, y7, st7, n7⟩ => ?_)
    have a1 := pg.run _ s7 _ H7 x u _ (I7.pinned (stat _ n7) (T.obj _ _ st7)) r7 (step x H7 y7)
    rw [hx] at a1
    refine wpAny_bind (thnF a1 fun _ s8 ⟨σ8, H8, I8, hw8, q8⟩ => ?_)
    have a2 := pt.run _ s8 σ8 H8 _ I8 q8
    rw [hx] at a2
    refine wpAny_bind (thnF a2 fun b s9 ⟨H9, I9, q9⟩ => ?_)
    have fin : ∀ s', Past B (pins ++ pinsAt fp s7.heap) vs σ8 Nx s' → ∃ m, m < n ∧ ∃ i H', Inv B pins (wipe σ vs) H' s' ∧ tn i s'.heap ∧ (∀ b ∈ fp, H' b = none) ∧ W i m H' := by
      rintro s' ⟨σ', H', I', hl, hk, nx⟩
      obtain ⟨m, lt, wm⟩ := hNx H' nx
      have there : ∀ b ∈ fp, ∀ o, s7.heap.get? b = some o → s'.heap.get? b = some o ∧ H' b = none := fun b hb o e =>
        let z := I'.pin (b, o) (List.mem_append_right _ (List.mem_append_right _ (mem_pinsAt hb e)))
        ⟨z.1, z.2.1⟩
      refine ⟨m, lt, i + 1, H', I'.unpinned.weak ?_ ?_, T.keep _ _ _ st7 fun b hb o e => (there b hb o e).1, fun b hb => ?_, wm⟩
      · rw [hl, ← hw8, wipe_length]
      · intro j v e
        rw [← hw8] at e
        exact hk j v (wipe_some e).2 (wipe_some e).1
      · obtain ⟨o, e, _⟩ := T.obj _ _ st7 b hb
        exact (there b hb o e).2
    cases b with
    | false =>
      rw [no]
      exact wpAny_pure ⟨rfl, fin _ ⟨σ8, H9, I9, rfl, fun _ _ _ e => e, q9⟩⟩
    | true =>
      refine wpAny_mono (act _ s9 σ8 H9 _ I9 q9) (fun f s' z => ?_) fun _ _ z => z.elim
      obtain ⟨rfl, pa⟩ := z
      exact ⟨rfl, fin _ pa⟩
/-- the whole loop of a clause -/
theorem clause_ok {node : Expr} {lvl : Nat} {acc : Value} (ic : IsC node) (ht : compTurn node lvl (.ref it) acc B.env = turnOf tg ifs p (.ref it) B.env tail) (hcd : cd = .compLoop node lvl (.ref it) acc B.env)
    (hx : B.xe = nil2) (hc : B.calm = true) (T : Turn B.prog B.w B.K tg J fp it tn) (pg : PG B tg g) (pt : PTs B ifs tt) (stat : ∀ H', (∀ b ∈ fp, H' b = none) → ∀ b ∈ fp, FpOk B pins H' b)
    (act : ∀ (pl : List (Addr × Obj)) s σ H C, Inv B pl σ H s → ta σ H C → wpAny (model B.prog B.w) B.A (tail true) (fun fin s' => fin = .again cd ∧ Past B pl vs σ C s') nil2 s) (no : tail false = again cd)
    {R : Result → Shared → Prop} {Done : Hp → Prop} (hd : ∀ s' H', Inv B pins (wipe σ vs) H' s' → Done H' → R (.ok .next) s')
    {H0 : Hp} (wk : Walk J g tt ta vs σ Done H0) {s : Shared} (I : Inv B pins (wipe σ vs) H0 s) (st : tn 0 s.heap) (n0 : ∀ b ∈ fp, H0 b = none) :
    codeAny (model B.prog B.w) B.A (.compLoop node lvl (.ref it) acc B.env) R s := by
  obtain ⟨W, ⟨m0, w0⟩, turn⟩ := wk
  subst hcd
  refine loop_any ic (fun n s' => ∃ i H', Inv B pins (wipe σ vs) H' s' ∧ tn i s'.heap ∧ (∀ b ∈ fp, H' b = none) ∧ W i n H') (fun n s' z => ?_) m0 ⟨0, H0, I, st, n0, w0⟩
  rw [ht]
  exact turn_ok hx hc T pg pt stat act no hd turn n s' z
/-- the end of an innermost turn, by what the code em does -/
theorem act_in {em : Sem Unit} (h : ∀ (pl : List (Addr × Obj)) s σ H C, Inv B pl σ H s → ta σ H C → wpAny (model B.prog B.w) B.A em (fun _ s' => ∃ H', Inv B pl σ H' s' ∧ C H') nil2 s) :
    ∀ (pl : List (Addr × Obj)) s σ H C, Inv B pl σ H s → ta σ H C → wpAny (model B.prog B.w) B.A (tailIn em cd true) (fun fin s' => fin = .again cd ∧ Past B pl vs σ C s') nil2 s := by
  intro pl s σ H C I q
  show wpAny _ _ (em >>= fun _ => again cd) _ _ s
  exact wpAny_bind (wpAny_mono (h pl s σ H C I q) (fun _ s' ⟨H', I', c⟩ => wpAny_pure ⟨rfl, σ, H', I', rfl, fun _ _ _ e => e, c⟩) fun _ _ z => z)
/-- the end of an outer turn -/
theorem act_out {node i1 t1 : Expr} {ifs1 : List Expr} {acc : Value} {wi1 : TI} {g1 : TG} {tt1 : TT} {vs1 : List Nat} {em : Sem Unit} {p1 : Pos} (ic : IsC node) (hcl : (clausesOf node)[1]? = some ⟨t1, i1, ifs1, 0⟩)
    (ht : ∀ it1, compTurn node 1 (.ref it1) acc B.env = turnOf t1 ifs1 p1 (.ref it1) B.env (tailIn em (.compLoop node 1 (.ref it1) acc B.env)))
    (hx : B.xe = nil2) (hc : B.calm = true) (hv : ∀ i ∈ vs1, i ∈ vs) (hs : ∀ x, foldedSetIterable i1 B.env x = pure x) (hi1 : PI B t1 i1 wi1) (pg1 : PG B t1 g1) (pt1 : PTs B ifs1 tt1)
    (h : ∀ (pl : List (Addr × Obj)) s σ H C, Inv B pl σ H s → ta σ H C → wpAny (model B.prog B.w) B.A em (fun _ s' => ∃ H', Inv B pl σ H' s' ∧ C H') nil2 s) :
    ∀ (pl : List (Addr × Obj)) s σ H C, Inv B pl σ H s → (wi1 σ H fun J1 H1 => Walk J1 g1 tt1 ta vs1 σ C H1) →
      wpAny (model B.prog B.w) B.A (tailOut node i1 acc B.env cd true) (fun fin s' => fin = .again cd ∧ Past B pl vs σ C s') nil2 s := by
  intro pl s σ H C I q
  unfold tailOut
  rw [if_pos rfl]
  have a1 := hi1.run pl s σ H _ I q
  rw [hx] at a1
  refine wpAny_bind (thnF a1 fun xv s1 a2 => ?_)
  refine wpAny_bind (wpAny_standAt (wpAny_bind (wpAny_of_eq (hs xv) (wpAny_bind (wpAny_holding (thnF a2 fun itv s2 z => ?_))))))
  obtain ⟨it1, fp1, tn1, J1, H2, rfl, I2, T1, st2, f2, wk⟩ := z
  refine wpAny_bind (wpAny_runOwn ?_)
  have stat1 : ∀ H', (∀ b ∈ fp1, H' b = none) → ∀ b ∈ fp1, FpOk B pl H' b := fun H' hn b hb => ⟨hn b hb, (f2 b hb).2⟩
  have lp : codeAny (model B.prog B.w) B.A (.compLoop node 1 (.ref it1) acc B.env) (fun r s' => match r with | .ok _ => Past B pl vs σ C s' | .error _ => False) s2 :=
    clause_ok (cd := .compLoop node 1 (.ref it1) acc B.env) ic (ht it1) rfl hx hc T1 pg1 pt1 stat1 (act_in h) rfl
      (fun s' H' I' c => ⟨wipe σ vs1, H', I', wipe_length _ _, fun j v nj e => by rw [wipe_out fun m => nj (hv j m)]; exact e, c⟩) wk (I2.weak (wipe_length _ _) fun j v e => (wipe_some e).1) st2 fun b hb => (f2 b hb).1
  rw [Around.mark_none]
  refine codeAny_mono (start_any ic hcl lp (T1.self B.A 0 _ _ _ st2 lp)) fun r s' hr => ?_
  cases r with
  | error e => exact hr.elim
  | ok f => first
    | exact wpAny_pure ⟨rfl, hr⟩
    | exact wpAny_bind (wpAny_pure (wpAny_pure ⟨rfl, hr⟩))
end
end L2.Cmp
set_option Elab.async false
set_option linter.all false
set_option maxRecDepth 100000
set_option maxHeartbeats 4000000
/-! Set comprehensions with one or two `for`s. -/
namespace L2.Cmp
open PySem PySem.Spec PyProof.Rows
section
variable {X : Cx}
/-- from the comprehension to its first clause's loop -/
theorem block_any {pins : List (Addr × Obj)} {s : Shared} {σ : L2.St} {H : Hp} {Q : VK} {node tg iter : Expr} {ifs : List Expr} {rest : List Comprehension} {scope : Scope} {own : List (PySem.Str × Nat)} {pos' : Pos} {wi : TI} {use : Option (Value → Sem Unit)} {Qf : Value → Shared → Prop}
    {newAcc : Sem Value} {O : Obj} {emp : Addr → HO} {Rd : It → Addr → Hp → Prop} (ic : IsC node) (hcl : clausesOf node = ⟨tg, iter, ifs, 0⟩ :: rest)
    (hnew : ∀ {s : Shared} {Q E : Value → Shared → Prop}, Q (.ref s.heap.objs.size) { s with heap := s.heap.push O } → wpAny (model X.prog X.w) X.A newAcc Q E s)
    (hemp : ∀ {pins : List (Addr × Obj)} {σ : L2.St} {H : Hp} {s : Shared}, Inv X pins σ H s → ∀ H' : Hp, ObjOk X.prog X.w H' (s.heap.push O) s.heap.objs.size (emp s.heap.objs.size))
    (hc : X.calm = true) (hN : X.N.Nodup) (I : Inv X pins σ H s) (hi : PI X tg iter wi) (ok : BlkOk X.N X.env.scope scope own) (hs : ∀ x, foldedSetIterable iter X.env x = pure x)
    (h : wi σ H fun J H1 => ∀ D, H1 D = none → Rd J D (upd H1 D (emp D)))
    (loop : ∀ (s3 : Shared) (H3 : Hp) (C : Addr) (cl : List (PySem.Str × Addr)) (fp : List Addr) (it : Addr) (tn : Nat → Heap → Prop) (J : It) (D : Addr) (s4 : Shared), Turn X.prog X.w X.K tg J fp it tn →
      (∀ H', (∀ b ∈ fp, H' b = none) → ∀ b ∈ fp, FpOk (X.blk s3 H3 scope (compEnvC scope cl C X.env) fp) [] H' b) → Inv (X.blk s3 H3 scope (compEnvC scope cl C X.env) fp) [] (wipe σ (own.map (·.2))) H3 s4 → tn 0 s4.heap → (∀ b ∈ fp, H3 b = none) → Rd J D H3 →
      codeAny (model X.prog X.w) X.A (.compLoop node 0 (.ref it) (.ref D) (compEnvC scope cl C X.env)) (fun r s' => match r with
        | .ok _ => ∃ H', Inv (X.blk s3 H3 scope (compEnvC scope cl C X.env) fp) [] (wipe σ (own.map (·.2))) H' s' ∧ Q (.ref D) H'
        | .error _ => False) s4)
    (hRR : ∀ D C s' m H', Inv X pins σ H' s' → Q (.ref D) H' → s'.heap.Ns C m → FpOk X pins H' C → compPost (model X.prog X.w) X.A X.xe use Qf (.ref D) C (.ok .next) s') :
    wpAny (model X.prog X.w) X.A (comprehension node scope X.env pos' newAcc false (eval iter X.env) use) Qf X.xe s := by
  have frees : ∀ y ∈ scope.names, y.2 = .free → ∃ c, X.env.cells.lookup y.1 = some c := fun y hy e => (ok.free y hy e).elim (fun k => I.ok.has _ (.inl k)) fun k => I.ok.has _ (.inr k)
  refine wpAny_comprehension_free (use := use) hcl hs (closure_ok frees) ok.kind (fun y hy e => by rw [ok.uniq y hy, e]) (thn (hi.run pins s σ H _ I h) fun xv s1 hx => thn hx fun itv s2 z => ?_)
  obtain ⟨it, fp, tn, J, H2, rfl, I2, T, st2, f2, q⟩ := z
  refine hnew (newEnv_comp ?_)
  obtain ⟨D, hD⟩ : ∃ D, s2.heap.objs.size = D := ⟨_, rfl⟩
  have rd := q D (I2.hok.fresh (Nat.le_of_eq hD))
  obtain ⟨s3, hs3⟩ : ∃ s3 : Shared, ({ s2 with heap := s2.heap.push O } : Shared) = s3 := ⟨_, rfl⟩
  have push3 : s3.heap = s2.heap.push O := by rw [← hs3]
  have I3 : Inv X pins σ (upd H2 D (emp D)) s3 := by
    rw [← hs3, ← hD]
    exact I2.laid (t' := s2.toks) (fun b o e => Heap.get?_push_of_some _ e) (Nat.le_refl _) (hemp I2 _)
  have f3 : ∀ b ∈ fp, FpOk X pins (upd H2 D (emp D)) b ∧ b < s3.heap.objs.size := fun b hb => by
    obtain ⟨o, e, _⟩ := T.obj _ _ st2 b hb
    have lt := Heap.lt_size e
    refine ⟨⟨?_, (f2 b hb).2⟩, by rw [push3, Heap.size_push]; exact Nat.lt_succ_of_lt lt⟩
    rw [upd_ne (Nat.ne_of_lt (hD ▸ lt))]
    exact (f2 b hb).1
  have st3 : tn 0 s3.heap := T.keep _ _ _ st2 fun b _ o e => by rw [push3]; exact Heap.get?_push_of_some _ e
  rw [hD, hs3]
  generalize hH3 : upd H2 D (emp D) = H3 at I3 f3 rd
  have I4 := block_start I3 ok hN f3
  generalize hcl' : cellsFrom (s3.heap.objs.size + 1) scope.names (cloFrom X.env.cells scope.names []) = cl at I4 ⊢
  obtain ⟨s4, hs4⟩ : ∃ s4 : Shared, ({ s3 with heap := pushCells (s3.heap.push { cls := .type "dict", data := .dict #[] }) scope.names } : Shared) = s4 := ⟨_, rfl⟩
  rw [hs4] at I4
  have st4 : tn 0 s4.heap := T.keep _ _ _ st3 fun b _ o e => by rw [← hs4]; exact pushCells_keeps _ _ _ _ (Heap.get?_push_of_some _ e)
  have nfp : ∀ b ∈ fp, H3 b = none := fun b hb => (f3 b hb).1.1
  have stat : ∀ H', (∀ b ∈ fp, H' b = none) → ∀ b ∈ fp, FpOk (X.blk s3 H3 scope (compEnvC scope cl s3.heap.objs.size X.env) fp) [] H' b := fun H' hn b hb =>
    ⟨hn b hb, (I4.ok.exf b hb).1, I4.ok.exfs b hb, .inl hb, fun x c e => (I4.ok.exf b hb).2 x c e, fun p hp => absurd (show p ∈ ([] : List (Addr × Obj)) ++ [] from hp) (by simp)⟩
  show codeAny _ _ (.compStart node 0 (.ref it) (.ref D) (compEnvC scope cl s3.heap.objs.size X.env)) (compPost (model X.prog X.w) X.A X.xe use Qf (.ref D) s3.heap.objs.size) _
  rw [hs4]
  have lp := codeAny_mono (loop s3 H3 s3.heap.objs.size cl fp it tn J D s4 T stat I4 st4 nfp rd) (R' := compPost (model X.prog X.w) X.A X.xe use Qf (.ref D) s3.heap.objs.size) fun r s' z => by
    cases r with
    | error e => exact z.elim
    | ok f =>
      obtain ⟨H', I', qq⟩ := z
      have I7 : Inv X pins σ H' s' := I3.call' (ch := fp) I'.os I'.base I'.hok I'.bare fun b hb => ⟨(f3 b hb).1.2.2.2.1, (f3 b hb).1.2.1, (f3 b hb).1.2.2.2.2.1, (f3 b hb).1.2.2.2.2.2⟩
      have nC : H' s3.heap.objs.size = none := I'.free
      obtain ⟨m, hn, _⟩ := I'.loc
      have cp := hRR D s3.heap.objs.size s' m H' I7 qq hn (I3.fpOk (Nat.le_refl _) nC)
      cases use <;> exact cp
  exact start_any ic (by rw [hcl]; rfl) lp (T.self X.A 0 _ _ _ st4 lp)
end
/-- how values go into a new set -/
structure Adder (P : Program) (w : World) where
  emp : Addr → HO
  ad : Addr → V → Hp → (Hp → Prop) → Prop
  fresh : ∀ (H : Hp) (h : Heap), ObjOk P w H (h.push { cls := .type "set", dict := none, data := .set #[] 0 (.fresh 0 0 (!w.params.followText "set-order")) }) h.objs.size (emp h.objs.size)
  add : ∀ {X : Cx}, X.prog = P → X.w = w → ∀ {pins : List (Addr × Obj)} {σ : L2.St} {H : Hp} {s : Shared} {E : Value → Shared → Prop} {D : Addr} {y : V} {v : Value} {C : Hp → Prop}, Inv X pins σ H s → RelV y v → ad D y H C →
    wpAny (model P w) X.A (call (.builtin "set.add") [.ref D, v]) (fun _ s' => ∃ H', Inv X pins σ H' s' ∧ C H') E s
/-- an item into the set at D -/
def tAd {P : Program} {w : World} (M : Adder P w) (te : TE) (D : Addr) : TAc := fun σ H C => te σ H fun y H' => M.ad D y H' C
def tSet1 {P : Program} {w : World} (M : Adder P w) (wi : TI) (g : TG) (tt : TT) (te : TE) (vs : List Nat) : TE := fun σ H Q => wi σ H fun J H1 => ∀ D, H1 D = none → Walk J g tt (tAd M te D) vs σ (fun H => Q (.ref D) H) (upd H1 D (M.emp D))
def tSet2 {P : Program} {w : World} (M : Adder P w) (wi : TI) (g : TG) (tt : TT) (wi1 : TI) (g1 : TG) (tt1 : TT) (te : TE) (vs vs1 : List Nat) : TE := fun σ H Q => wi σ H fun J H1 => ∀ D, H1 D = none →
  Walk J g tt (fun σ2 H2 C => wi1 σ2 H2 fun J1 H3 => Walk J1 g1 tt1 (tAd M te D) vs1 σ2 C H3) vs σ (fun H => Q (.ref D) H) (upd H1 D (M.emp D))
section
variable {X : Cx} {elt tg iter : Expr} {ifs : List Expr} {scope : Scope} {own : List (PySem.Str × Nat)} {pos : Pos} {wi : TI} {g : TG} {tt : TT} {te : TE}
theorem emit_ok {B : Cx} (M : Adder B.prog B.w) (hx : B.xe = nil2) (he : PE B elt te) {D : Addr} : ∀ (pl : List (Addr × Obj)) s σ H C, Inv B pl σ H s → tAd M te D σ H C →
    wpAny (model B.prog B.w) B.A (do let v ← eval elt B.env; standAt elt.pos; let _ ← call (.builtin "set.add") [.ref D, v]) (fun _ s' => ∃ H', Inv B pl σ H' s' ∧ C H') nil2 s := by
  intro pl s σ H C I q
  have a1 := he.run pl s σ H _ I q
  rw [hx] at a1
  exact wpAny_bind (thnF a1 fun v s1 ⟨y, H1, I1, r1, q1⟩ => wpAny_bind (wpAny_standAt (wpAny_bind (thnF (M.add rfl rfl I1 r1 q1) fun _ s2 z => wpAny_pure z))))
theorem pe_set1 (M : Adder X.prog X.w) (hc : X.calm = true) (hN : X.N.Nodup) (hi : PI X tg iter wi) (ok : BlkOk X.N X.env.scope scope own)
    (hg : ∀ (s : Shared) (H : Hp) (C : Addr) (cl : List (PySem.Str × Addr)) (fp : List Addr), PG (X.blk s H scope (compEnvC scope cl C X.env) fp) tg g) (ht : ∀ (s : Shared) (H : Hp) (C : Addr) (cl : List (PySem.Str × Addr)) (fp : List Addr), PTs (X.blk s H scope (compEnvC scope cl C X.env) fp) ifs tt)
    (he : ∀ (s : Shared) (H : Hp) (C : Addr) (cl : List (PySem.Str × Addr)) (fp : List Addr), PE (X.blk s H scope (compEnvC scope cl C X.env) fp) elt te) (hs : ∀ x, foldedSetIterable iter X.env x = pure x := by intro _; rfl) :
    PE X (.SetComp elt [⟨tg, iter, ifs, 0⟩] scope pos) (tSet1 M wi g tt te (own.map (·.2))) := by
  refine ⟨fun pins s σ H Q I h => ?_⟩
  rw [PpSet.eval_SetComp]
  refine block_any (Q := Q) (Rd := fun J D H1 => Walk J g tt (tAd M te D) (own.map fun z : PySem.Str × Nat => z.2) σ (fun H => Q (.ref D) H) H1) (.inl ⟨_, _, _, _, rfl⟩) rfl (fun q => PpSet.newSet_ok q) (fun _ _ => M.fresh _ _) hc hN I hi ok hs h
    (fun s3 H3 C cl fp it tn J D s4 T stat I4 st4 nfp rd => ?_) fun D C s' m H' I' q hn f => ⟨m, hn, fun h'' sb => ?_⟩
  · exact clause_ok (B := X.blk s3 H3 scope (compEnvC scope cl C X.env) fp) (tail := tailIn _ _) (p := iter.pos) (.inl ⟨_, _, _, _, rfl⟩) rfl rfl rfl hc T (hg s3 H3 C cl fp) (ht s3 H3 C cl fp) stat (act_in (emit_ok (B := X.blk s3 H3 scope (compEnvC scope cl C X.env) fp) M rfl (he s3 H3 C cl fp))) rfl
      (fun s' H' I' d => ⟨H', I', d⟩) rd I4 st4 nfp
  · obtain ⟨f0, f1, f2, f3, f4, f5⟩ := f
    exact ⟨.ref D, H', I'.turned (t' := s'.toks) (fun b o hb e => (sb.2 b hb).trans e) f0 f1 f3 f4 f5, rfl, q⟩
theorem pe_set2 (M : Adder X.prog X.w) {tg1 iter1 : Expr} {ifs1 : List Expr} {wi1 : TI} {g1 : TG} {tt1 : TT} {vs1 : List Nat} (hc : X.calm = true) (hN : X.N.Nodup) (hi : PI X tg iter wi) (ok : BlkOk X.N X.env.scope scope own) (hv : ∀ i ∈ vs1, i ∈ own.map (·.2))
    (hg : ∀ (s : Shared) (H : Hp) (C : Addr) (cl : List (PySem.Str × Addr)) (fp : List Addr), PG (X.blk s H scope (compEnvC scope cl C X.env) fp) tg g) (ht : ∀ (s : Shared) (H : Hp) (C : Addr) (cl : List (PySem.Str × Addr)) (fp : List Addr), PTs (X.blk s H scope (compEnvC scope cl C X.env) fp) ifs tt)
    (hi1 : ∀ (s : Shared) (H : Hp) (C : Addr) (cl : List (PySem.Str × Addr)) (fp : List Addr), PI (X.blk s H scope (compEnvC scope cl C X.env) fp) tg1 iter1 wi1)
    (hg1 : ∀ (s : Shared) (H : Hp) (C : Addr) (cl : List (PySem.Str × Addr)) (fp : List Addr), PG (X.blk s H scope (compEnvC scope cl C X.env) fp) tg1 g1) (ht1 : ∀ (s : Shared) (H : Hp) (C : Addr) (cl : List (PySem.Str × Addr)) (fp : List Addr), PTs (X.blk s H scope (compEnvC scope cl C X.env) fp) ifs1 tt1)
    (he : ∀ (s : Shared) (H : Hp) (C : Addr) (cl : List (PySem.Str × Addr)) (fp : List Addr), PE (X.blk s H scope (compEnvC scope cl C X.env) fp) elt te)
    (hs : ∀ x, foldedSetIterable iter X.env x = pure x := by intro _; rfl) (hs1 : ∀ env x, foldedSetIterable iter1 env x = pure x := by intro _ _; rfl) :
    PE X (.SetComp elt [⟨tg, iter, ifs, 0⟩, ⟨tg1, iter1, ifs1, 0⟩] scope pos) (tSet2 M wi g tt wi1 g1 tt1 te (own.map (·.2)) vs1) := by
  refine ⟨fun pins s σ H Q I h => ?_⟩
  rw [PpSet.eval_SetComp]
  refine block_any (Q := Q) (Rd := fun J D H1 => Walk J g tt (fun σ2 H2 C => wi1 σ2 H2 fun J1 H3 => Walk J1 g1 tt1 (tAd M te D) vs1 σ2 C H3) (own.map fun z : PySem.Str × Nat => z.2) σ (fun H => Q (.ref D) H) H1) (.inl ⟨_, _, _, _, rfl⟩) rfl (fun q => PpSet.newSet_ok q) (fun _ _ => M.fresh _ _) hc hN I hi ok hs h
    (fun s3 H3 C cl fp it tn J D s4 T stat I4 st4 nfp rd => ?_) fun D C s' m H' I' q hn f => ⟨m, hn, fun h'' sb => ?_⟩
  · exact clause_ok (B := X.blk s3 H3 scope (compEnvC scope cl C X.env) fp) (tail := tailOut _ iter1 (.ref D) _ _) (p := iter.pos) (.inl ⟨_, _, _, _, rfl⟩) rfl rfl rfl hc T (hg s3 H3 C cl fp) (ht s3 H3 C cl fp) stat
      (act_out (p1 := iter1.pos) (.inl ⟨_, _, _, _, rfl⟩) rfl (fun it1 => rfl) rfl hc hv (hs1 _) (hi1 s3 H3 C cl fp) (hg1 s3 H3 C cl fp) (ht1 s3 H3 C cl fp) (emit_ok (B := X.blk s3 H3 scope (compEnvC scope cl C X.env) fp) M rfl (he s3 H3 C cl fp))) rfl
      (fun s' H' I' d => ⟨H', I', d⟩) rd I4 st4 nfp
  · obtain ⟨f0, f1, f2, f3, f4, f5⟩ := f
    exact ⟨.ref D, H', I'.turned (t' := s'.toks) (fun b o hb e => (sb.2 b hb).trans e) f0 f1 f3 f4 f5, rfl, q⟩
end
/-- a key and a value into the dict at D -/
def tPut (tk tv : TE) (D : Addr) : TAc := fun σ H C => tk σ H fun y H1 => tv σ H1 fun x H2 => ∃ (kvs : List (Key × V)) (k : Key), y = kV k ∧ H2 D = some (.dK kvs) ∧ kvs.length < sizeLine ∧ C (upd H2 D (.dK (putK kvs k x)))
def tDict2 (wi : TI) (g : TG) (tt : TT) (wi1 : TI) (g1 : TG) (tt1 : TT) (tk tv : TE) (vs vs1 : List Nat) : TE := fun σ H Q => wi σ H fun J H1 => ∀ D, H1 D = none →
  Walk J g tt (fun σ2 H2 C => wi1 σ2 H2 fun J1 H3 => Walk J1 g1 tt1 (tPut tk tv D) vs1 σ2 C H3) vs σ (fun H => Q (.ref D) H) (upd H1 D (.dK []))
section
variable {X : Cx} {kx vx tg iter : Expr} {ifs : List Expr} {scope : Scope} {own : List (PySem.Str × Nat)} {pos : Pos} {wi : TI} {g : TG} {tt : TT} {tk tv : TE}
theorem emit_put {B : Cx} (hx : B.xe = nil2) (hk : PE B kx tk) (hv : PE B vx tv) {D : Addr} {p : Pos} : ∀ (pl : List (Addr × Obj)) s σ H C, Inv B pl σ H s → tPut tk tv D σ H C →
    wpAny (model B.prog B.w) B.A (do let kv ← eval kx B.env; let vv ← holding [kv] (eval vx B.env); standAt p; holding [kv, vv] (dictSet D kv vv)) (fun _ s' => ∃ H', Inv B pl σ H' s' ∧ C H') nil2 s := by
  intro pl s σ H C I q
  have a1 := hk.run pl s σ H _ I q
  rw [hx] at a1
  refine wpAny_bind (thnF a1 fun kv s1 ⟨y, H1, I1, r1, q1⟩ => ?_)
  have a2 := hv.run pl s1 σ H1 _ I1 q1
  rw [hx] at a2
  refine wpAny_bind (wpAny_holding (thnF a2 fun vv s2 ⟨x, H2, I2, r2, kvs, k, ey, hD, few, c⟩ => ?_))
  subst ey
  exact wpAny_bind (wpAny_standAt (wpAny_holding (d_dictSet I2 hD few r1 r2 fun s3 I3 => ⟨_, I3, c⟩)))
theorem pe_dict2 {tg1 iter1 : Expr} {ifs1 : List Expr} {wi1 : TI} {g1 : TG} {tt1 : TT} {vs1 : List Nat} (hc : X.calm = true) (hN : X.N.Nodup) (hi : PI X tg iter wi) (ok : BlkOk X.N X.env.scope scope own) (hv : ∀ i ∈ vs1, i ∈ own.map (·.2))
    (hg : ∀ (s : Shared) (H : Hp) (C : Addr) (cl : List (PySem.Str × Addr)) (fp : List Addr), PG (X.blk s H scope (compEnvC scope cl C X.env) fp) tg g) (ht : ∀ (s : Shared) (H : Hp) (C : Addr) (cl : List (PySem.Str × Addr)) (fp : List Addr), PTs (X.blk s H scope (compEnvC scope cl C X.env) fp) ifs tt)
    (hi1 : ∀ (s : Shared) (H : Hp) (C : Addr) (cl : List (PySem.Str × Addr)) (fp : List Addr), PI (X.blk s H scope (compEnvC scope cl C X.env) fp) tg1 iter1 wi1)
    (hg1 : ∀ (s : Shared) (H : Hp) (C : Addr) (cl : List (PySem.Str × Addr)) (fp : List Addr), PG (X.blk s H scope (compEnvC scope cl C X.env) fp) tg1 g1) (ht1 : ∀ (s : Shared) (H : Hp) (C : Addr) (cl : List (PySem.Str × Addr)) (fp : List Addr), PTs (X.blk s H scope (compEnvC scope cl C X.env) fp) ifs1 tt1)
    (hk : ∀ (s : Shared) (H : Hp) (C : Addr) (cl : List (PySem.Str × Addr)) (fp : List Addr), PE (X.blk s H scope (compEnvC scope cl C X.env) fp) kx tk) (he : ∀ (s : Shared) (H : Hp) (C : Addr) (cl : List (PySem.Str × Addr)) (fp : List Addr), PE (X.blk s H scope (compEnvC scope cl C X.env) fp) vx tv)
    (hs : ∀ x, foldedSetIterable iter X.env x = pure x := by intro _; rfl) (hs1 : ∀ env x, foldedSetIterable iter1 env x = pure x := by intro _ _; rfl) :
    PE X (.DictComp kx vx [⟨tg, iter, ifs, 0⟩, ⟨tg1, iter1, ifs1, 0⟩] scope pos) (tDict2 wi g tt wi1 g1 tt1 tk tv (own.map (·.2)) vs1) := by
  refine ⟨fun pins s σ H Q I h => ?_⟩
  rw [arm_eval_DictComp]
  refine block_any (Q := Q) (Rd := fun J D H1 => Walk J g tt (fun σ2 H2 C => wi1 σ2 H2 fun J1 H3 => Walk J1 g1 tt1 (tPut tk tv D) vs1 σ2 C H3) (own.map fun z : PySem.Str × Nat => z.2) σ (fun H => Q (.ref D) H) H1) (emp := fun _ => .dK []) (.inr (.inr ⟨_, _, _, _, _, rfl⟩)) rfl
    (fun q => wpAny_newObj_type q) (fun I' H' => dk_empty _ I'.big) hc hN I hi ok hs h
    (fun s3 H3 C cl fp it tn J D s4 T stat I4 st4 nfp rd => ?_) fun D C s' m H' I' q hn f => ⟨m, hn, fun h'' sb => ?_⟩
  · exact clause_ok (B := X.blk s3 H3 scope (compEnvC scope cl C X.env) fp) (tail := tailOut _ iter1 (.ref D) _ _) (p := iter.pos) (.inr (.inr ⟨_, _, _, _, _, rfl⟩)) rfl rfl rfl hc T (hg s3 H3 C cl fp) (ht s3 H3 C cl fp) stat
      (act_out (p1 := iter1.pos) (.inr (.inr ⟨_, _, _, _, _, rfl⟩)) rfl (fun it1 => rfl) rfl hc hv (hs1 _) (hi1 s3 H3 C cl fp) (hg1 s3 H3 C cl fp) (ht1 s3 H3 C cl fp) (emit_put (B := X.blk s3 H3 scope (compEnvC scope cl C X.env) fp) rfl (hk s3 H3 C cl fp) (he s3 H3 C cl fp))) rfl
      (fun s' H' I' d => ⟨H', I', d⟩) rd I4 st4 nfp
  · obtain ⟨f0, f1, f2, f3, f4, f5⟩ := f
    exact ⟨.ref D, H', I'.turned (t' := s'.toks) (fun b o hb e => (sb.2 b hb).trans e) f0 f1 f3 f4 f5, rfl, q⟩
end
end L2.Cmp
set_option Elab.async false
set_option linter.all false
set_option maxRecDepth 100000
set_option maxHeartbeats 4000000
/-! Sets of texts: as tracked things, by comprehension, sorted. -/
namespace L2.TxtSet
open PySem PySem.Spec PyProof.Rows L2.GSet L2.Cmp
def keyT : Value → Str
  | .str x _ => x
  | _ => ⟨#[]⟩
theorem keyT_is (P : Program) (w : World) : ∀ k v, (PySem.strKind P w).is k v = true → keyT v = k := fun k v h => by
  obtain ⟨t, rfl⟩ := Value.isStrOf_shape h
  rfl
/-- the set of texts at a: ks, in some order -/
def SetT (P : Program) (w : World) (a : Addr) (ks : List Str) : HO := .ext fun h => GAt (PySem.strKind P w) keyT h a ks
theorem setT_new {P : Program} {w : World} {H : Hp} {h : Heap} {a : Addr} {ks : List Str} (R : GAt (PySem.strKind P w) keyT h a ks) : ObjOk P w H h a (SetT P w a ks) := ⟨R, R.some, fun h1 h2 p k => GAt.keep p k⟩
section
variable {X : Cx} {pins : List (Addr × Obj)} {σ : L2.St} {H : Hp} {s : Shared}
theorem setT_get {a : Addr} {ks : List Str} (I : Inv X pins σ H s) (ha : H a = some (SetT X.prog X.w a ks)) : GAt (PySem.strKind X.prog X.w) keyT s.heap a ks := (I.hok a _ ha).1
end
/-- texts into a set of texts -/
def addT (P : Program) (w : World) : Adder P w where
  emp := fun D => SetT P w D []
  ad := fun D y H C => ∃ (z : Str) (ks : List Str), y = .str z ∧ H D = some (SetT P w D ks) ∧ ks.length + 1 < scanBound ∧ C (upd H D (SetT P w D (if z ∈ ks then ks else ks ++ [z])))
  fresh := fun H h => setT_new (GSet.fresh h)
  add := fun {X} hP hw {pins σ H s E D y v C} I r q => by
    subst hP
    subst hw
    obtain ⟨z, ks, rfl, hD, room, c⟩ := q
    obtain ⟨u, rfl⟩ := r
    refine add_call (keyT_is X.prog X.w) (k := z) (Froz.is_str z u) rfl (setT_get I hD) room fun h' sb new => ⟨_, ?_, c⟩
    exact I.write (e := D) (t' := s.toks + 1) (by rw [hD]; trivial) (.inl rfl) (fun b o hb ho => (sb.2 b hb).trans ho) new.some (setT_new new)
/-- sorted(a set of texts) -/
def rSortT (P : Program) (w : World) : List V → Hp → VK → Prop := fun vs H Q => ∃ (a : Addr) (ks : List Str), vs = [V.ref a] ∧ H a = some (SetT P w a ks) ∧ ks.length < 64 ∧
  ∀ (ys : List Str) (p : Addr), ys.Perm ks → sortedS ys = true → H p = none → Q (.ref p) (upd H p (.lst (ys.map V.str)))
theorem strs_out : ∀ {vs : List Value}, (∀ v ∈ vs, ∃ x u, v = Value.str x u) → StrsAre vs (vs.map keyT)
  | [], _ => .nil
  | v :: vs, h => by
    obtain ⟨x, u, rfl⟩ := h v List.mem_cons_self
    exact .cons x u (strs_out fun y m => h y (List.mem_cons_of_mem _ m))
theorem sort_tree {P : Program} {w : World} {A : Around} {E : Value → Shared → Prop} {s : Shared} {a : Addr} {ks : List Str} {Q : Value → Shared → Prop} (R : GAt (PySem.strKind P w) keyT s.heap a ks) (hh : A.handled = none) (h64 : ks.length < 64)
    (hQ : ∀ s' p (out : Array Value) (c : Nat) (ys : List Str), (∀ b o, s.heap.get? b = some o → s'.heap.get? b = some o) → s'.gens = s.gens → s'.os = s.os → s.heap.objs.size ≤ p → s'.heap.get? p = some (seqObj "list" out c) →
      StrsAre out.toList ys → ys.Perm ks → sortedS ys = true → Q (.ref p) s') : wpAny (model P w) A (call (.builtin "sorted") [.ref a]) Q E s := by
  obtain ⟨o, es, ep, t, ho, ox, od, p⟩ := R
  refine Calls.call_function_entry kind_sorted plain_sorted entry_sorted (args_sorted1 _) ?_
  unfold Builtin.«sorted»
  refine wpAny_bind (m := checkCount "sorted" 1 1 _) (wpAny_pure (wpAny_bind (collect_set (A := A.in1) hh ⟨o, ho, ox.1, od⟩ p.fit p.few p.ris p.led fun s1 vs k1 z1 g1 o1 pm => ?_)))
  have lv : vs.length = ks.length := by rw [pm.length_eq, List.length_map, Array.length_toList, p.size]
  have tx : StrsAre vs (vs.map keyT) := strs_out fun v m => by
    obtain ⟨e, he, rfl⟩ := List.mem_map.mp (pm.mem_iff.mp m)
    obtain ⟨⟨k, i, _⟩, _⟩ := p.el e he
    obtain ⟨u, q⟩ := Value.isStrOf_shape i
    exact ⟨k, u, q⟩
  have pk : (vs.map keyT).Perm ks := by
    have z := pm.map keyT
    rw [List.map_map] at z
    exact z.trans p.pm
  refine wpAny_bind (wpAny_newList ?_ (by rw [lv, sizeLine_eq]; omega))
  have at1 : (s1.heap.push (seqObj "list" vs.toArray 0)).get? s1.heap.objs.size = some (seqObj "list" vs.toArray 0) := Heap.get?_push_size _ rfl
  refine wpAny_bind (wpAny_holding (wpAny_call_entry slot_list_sort ⟨_, at1, rfl⟩ entry_list_sort (list_sort_treeK strKind_oneLt at1 tx.keysOf (fun v₁ v₂ rest e => keyKind_strs (by rw [← e]; exact tx)) (by rw [lv]; exact h64) fun st' hp' hs' => ?_) (args_list_sort _)))
  obtain ⟨ys, a1, a2, a3⟩ := sorted_out_str tx hp' hs'
  refine ⟨_, rfl, ?_⟩
  generalize ho' : (arrOf st').map (·.2) = out at a1
  obtain ⟨c, hc⟩ := sortedHeap_at (vs := vs) (out := out) at1
  refine wpAny_pure ⟨_, rfl, hQ _ s1.heap.objs.size out c ys (fun b u e => ?_) g1 o1 z1 hc a1 (a2.trans pk) a3⟩
  have q := k1 b u e
  have lt := Heap.lt_size q
  exact (sortedHeap_old (Nat.ne_of_lt lt) (by rw [size_push']; exact Nat.lt_succ_of_lt lt)).trans (Heap.get?_push_of_some _ q)
section
variable {X : Cx}
theorem cr_sortT (hc : X.calm = true) : CallR X (.builtin "sorted") (rSortT X.prog X.w) := by
  intro pins s σ H vs us Q I r h
  obtain ⟨a, ks, rfl, ha, h64, q⟩ := h
  rw [Vals.ref1 r]
  refine sort_tree (setT_get I ha) (I.ok.hd hc) h64 fun s' p out c ys k g o hp at2 tx pm so => ?_
  have hn : H p = none := I.hok.fresh hp
  have fits : (ys.map V.str).length ≤ sizeLine := by rw [List.length_map, pm.length_eq, sizeLine_eq]; omega
  have J : Inv X pins σ (upd H p (.lst (ys.map V.str))) { s with heap := s'.heap, gens := s'.gens, drawn := s'.drawn, toks := s'.toks } :=
    I.call (ch := []) (Un.laid k hp hn) (I.hok.laid k hp ⟨fits, out.toList, c, vals_of_strs tx, at2⟩) (by rw [g]; exact I.bare) fun _ z => nomatch z
  have e : s' = { s with heap := s'.heap, gens := s'.gens, drawn := s'.drawn, toks := s'.toks } := by
    cases s'
    cases s
    cases o
    rfl
  rw [e]
  exact ⟨.ref p, _, J, rfl, q ys p pm so hn⟩
end
end L2.TxtSet
set_option Elab.async false
set_option linter.all false
set_option maxRecDepth 100000
set_option maxHeartbeats 4000000
/-! is_free, variables_of. -/
namespace L2.LawH
open PySem PySem.Spec PyProof.Rows L2.Cmp L2.TxtSet
abbrev sVars : Stmt := top 12
/-! ### walks of a list or a tuple -/
def iSeq (K : PySem.W.Frag) (tl : TE) : TI := fun σ H R => tl σ H fun x H1 => ∃ a, x = .ref a ∧ (((∃ xs, SqL K H1 a xs) ∧ R (Itl K a) H1) ∨ ((∃ xs, SqT K H1 a xs) ∧ R (Itt K a) H1))
theorem pi_seq {X : Cx} {tg l : Expr} {tl : TE} (hl : PE X l tl) : PI X tg l (iSeq X.K tl) := by
  refine ⟨fun pins s σ H R I h => thn (hl.run pins s σ H _ I h) fun v s1 ⟨x, H1, I1, r1, q1⟩ => ?_⟩
  obtain ⟨a, rfl, q⟩ := q1
  cases r1
  have frs : ∀ b ∈ [s1.heap.objs.size], FpOk X pins H1 b := fun b hb => by
    obtain rfl : b = s1.heap.objs.size := by simpa using hb
    exact I1.fpOk (Nat.le_refl _) (I1.hok.fresh (Nat.le_refl _))
  rcases q with ⟨⟨xs, hq⟩, q⟩ | ⟨⟨xs, hq⟩, q⟩
  · obtain ⟨its, _, p, _⟩ := I1.list hq
    exact wpAny_pyIter_list p.isList ⟨_, _, _, _, H1, rfl, I1.kept (t' := s1.toks) fun b o e => Heap.get?_push_of_some _ e, turn_list a _, ⟨_, Heap.get?_push_size _ rfl, rfl, rfl⟩, frs, q⟩
  · obtain ⟨its, _, p, _⟩ := I1.tuple hq
    exact wpAny_pyIter_tuple (show s1.heap.IsTuple a its.toArray from p) ⟨_, _, _, _, H1, rfl, I1.kept (t' := s1.toks) fun b o e => Heap.get?_push_of_some _ e, turn_tuple a _, ⟨_, Heap.get?_push_size _ rfl, rfl, rfl⟩, frs, q⟩
theorem pi_tupK {X : Cx} {K : PySem.W.Frag} (e : X.K = K) {tg l : Expr} {tl : TE} (hl : PE X l tl) : PI X tg l (iTup K tl) := by
  subst e
  exact pi_tup hl
theorem sl_tupK {X : Cx} {K : PySem.W.Frag} (e : X.K = K) : SlR X (rSlT K) := by
  subst e
  exact sl_tup
/-- how a clause over xs is walked, where Sq says that they stand there -/
def WalkR (J : It) (Sq : Hp → Prop) (xs : List V) : Prop := ∀ (g : TG) (tt : TT) (ta : TAc) (vs : List Nat) (σ : List (Option V)) (H0 : Hp) (Done : Hp → Prop) (Pv : Nat → Hp → Prop), Pv 0 H0 → (∀ i H, i ≤ xs.length → Pv i H → Sq H) →
  (∀ i x H, xs[i]? = some x → Pv i H → g x (wipe σ vs) H fun σ2 H2 => wipe σ2 vs = wipe σ vs ∧ tt σ2 H2 fun b H3 => if b = true then ta σ2 H3 (Pv (i + 1)) else Pv (i + 1) H3) → (∀ H, Pv xs.length H → Done H) → L2.Cmp.Walk J g tt ta vs σ Done H0
theorem walk_list {K : PySem.W.Frag} {a : Addr} {xs : List V} : WalkR (Itl K a) (fun H => SqL K H a xs) xs := by
  intro g tt ta vs σ H0 Done Pv h0 hl hs hd
  refine ⟨fun i m H => m = xs.length - i ∧ i ≤ xs.length ∧ Pv i H, ⟨xs.length, rfl, Nat.zero_le _, h0⟩, ?_⟩
  rintro i m H ⟨rfl, hi, p⟩
  rcases Nat.lt_or_eq_of_le hi with lt | rfl
  · refine .inr ⟨⟨xs, xs[i], hl i H hi p, by simp [lt]⟩, Pv (i + 1), fun H' p' => ⟨xs.length - (i + 1), by omega, rfl, lt, p'⟩, ?_⟩
    rintro x _ ⟨rfl, y⟩
    exact hs i x _ (y xs (hl i _ hi p)) p
  · exact .inl ⟨⟨xs, hl _ H hi p, Nat.le_refl _⟩, hd H p⟩
theorem walk_tup {K : PySem.W.Frag} {a : Addr} {xs : List V} : WalkR (Itt K a) (fun H => SqT K H a xs) xs := by
  intro g tt ta vs σ H0 Done Pv h0 hl hs hd
  refine ⟨fun i m H => m = xs.length - i ∧ i ≤ xs.length ∧ Pv i H, ⟨xs.length, rfl, Nat.zero_le _, h0⟩, ?_⟩
  rintro i m H ⟨rfl, hi, p⟩
  rcases Nat.lt_or_eq_of_le hi with lt | rfl
  · refine .inr ⟨⟨xs, xs[i], hl i H hi p, by simp [lt]⟩, Pv (i + 1), fun H' p' => ⟨xs.length - (i + 1), by omega, rfl, lt, p'⟩, ?_⟩
    rintro x _ ⟨rfl, y⟩
    exact hs i x _ (y xs (hl i _ hi p)) p
  · exact .inl ⟨⟨xs, hl _ H hi p, Nat.le_refl _⟩, hd H p⟩
/-! ### each once -/
def put1 (ks : List Str) (z : Str) : List Str := if z ∈ ks then ks else ks ++ [z]
def uniq (l : List Str) : List Str := l.foldl put1 []
theorem uniq_snoc (l : List Str) (z : Str) : uniq (l ++ [z]) = put1 (uniq l) z := by
  unfold uniq
  rw [List.foldl_append]
  rfl
theorem fold_len : ∀ (l acc : List Str), (l.foldl put1 acc).length ≤ acc.length + l.length
  | [], acc => Nat.le_refl _
  | z :: l, acc => by
    have ih := fold_len l (put1 acc z)
    have : (put1 acc z).length ≤ acc.length + 1 := by
      unfold put1
      split
      · omega
      · simp
    rw [List.foldl_cons, List.length_cons]
    omega
theorem uniq_len (l : List Str) : (uniq l).length ≤ l.length := by
  have h := fold_len l []
  rw [List.length_nil, Nat.zero_add] at h
  exact h
theorem fold_mem {y : Str} : ∀ (l acc : List Str), y ∈ l.foldl put1 acc ↔ y ∈ acc ∨ y ∈ l
  | [], acc => by simp
  | z :: l, acc => by
    rw [List.foldl_cons, fold_mem l (put1 acc z), List.mem_cons]
    unfold put1
    split
    · rename_i m
      constructor
      · rintro (h | h)
        · exact .inl h
        · exact .inr (.inr h)
      · rintro (h | rfl | h)
        · exact .inl h
        · exact .inl m
        · exact .inr h
    · rw [List.mem_append, List.mem_singleton, or_assoc]
theorem uniq_mem {y : Str} {l : List Str} : y ∈ uniq l ↔ y ∈ l := by
  unfold uniq
  rw [fold_mem]
  simp
theorem fold_nodup : ∀ (l acc : List Str), acc.Nodup → (l.foldl put1 acc).Nodup
  | [], acc, h => h
  | z :: l, acc, h => by
    rw [List.foldl_cons]
    refine fold_nodup l _ ?_
    unfold put1
    split
    · exact h
    · rename_i m
      rw [List.nodup_append]
      exact ⟨h, by simp, fun a ha b hb e => by
        rw [List.mem_singleton.mp hb] at e
        exact m (e ▸ ha)⟩
theorem uniq_nodup (l : List Str) : (uniq l).Nodup := fold_nodup l [] List.nodup_nil
/-! ### lots of patterns, as they stand -/
abbrev Pt : Type := Addr × Str × List Str
def isV (z : Str) : Bool := Txt.startswith z (Str.ofString "?")
def frees (xs : List Pt) : List Str := (xs.flatMap fun x => x.2.2).filter isV
theorem frees_snoc (xs : List Pt) (x : Pt) : frees (xs ++ [x]) = frees xs ++ x.2.2.filter isV := by
  unfold frees
  rw [List.flatMap_append, List.filter_append]
  simp
theorem frees_take {xs : List Pt} {i : Nat} {x : Pt} (h : xs[i]? = some x) : frees (xs.take (i + 1)) = frees (xs.take i) ++ x.2.2.filter isV := by
  rw [List.take_succ, h]
  exact frees_snoc _ _
theorem frees_le (xs : List Pt) (i : Nat) : (frees (xs.take i)).length ≤ (frees xs).length := by
  have e : frees xs = frees (xs.take i) ++ frees (xs.drop i) := by
    unfold frees
    rw [← List.filter_append, ← List.flatMap_append, List.take_append_drop]
  rw [e, List.length_append]
  omega
/-- the lot xs at q, a list or a tuple -/
structure LotAt (H : Hp) (q : Addr) (xs : List Pt) : Prop where
  sq : H q = some (.lst (xs.map fun x => V.ref x.1)) ∨ H q = some (.tup (xs.map fun x => V.ref x.1))
  each : ∀ x ∈ xs, H x.1 = some (.tup (.str x.2.1 :: x.2.2.map V.str))
theorem cut_one (v : V) (l : List V) : cutV (v :: l) (some 1) none = l := by
  have e : HT.sIx (v :: l).length 0 (some 1) = 1 := by
    have z := HT.sIx_nat (v :: l).length 0 1
    rw [List.length_cons] at z ⊢
    exact z.trans (by omega)
  unfold cutV
  rw [e, HT.sIx_none]
  simp
theorem cut_part (v : V) (l : List V) : ¬ (HT.sIx (v :: l).length 0 (some 1) = 0 ∧ HT.sIx (v :: l).length (v :: l).length none = (v :: l).length) := by
  rintro ⟨e, _⟩
  have z := HT.sIx_nat (v :: l).length 0 1
  rw [List.length_cons] at z e
  have z' := z.symm.trans e
  omega
theorem LotAt.same {H H' : Hp} {q : Addr} {xs : List Pt} (h : LotAt H q xs) (s : Same H H') : LotAt H' q xs := ⟨h.sq.imp (s _ _) (s _ _), fun x m => s _ _ (h.each x m)⟩
theorem first_one {z : Str} {c : Nat} {r : List Nat} (h : z.cps.toList = c :: r) : decide (V.str ⟨#[c]⟩ = V.str (Str.ofString "?")) = isV z := by
  have q1 : (Str.ofString "?").cps = #[63] := by decide +kernel
  have q2 : (Str.ofString "?").length = 1 := by decide +kernel
  have es : Str.ofString "?" = ⟨#[63]⟩ := by
    cases h : Str.ofString "?" with
    | mk c => rw [h] at q1; exact congrArg Str.mk q1
  have l := length_toList z
  rw [h, List.length_cons] at l
  have hz : z.cps = (c :: r).toArray := by rw [← h]
  have z0 : z.cps[0]? = some c := by
    rw [← Array.getElem?_toList, h]
    rfl
  unfold isV Txt.startswith Builtin.Str.subAt
  rw [q1, q2, es, Bool.eq_iff_iff, decide_eq_true_iff, hz]
  have l0 : z.length = r.length + 1 := l.symm
  rw [l0]
  simp
def spVars : Sp := fun vs H Q _ => ∃ (q : Addr) (xs : List Pt), vs = [.ref q] ∧ LotAt H q xs ∧ (∀ x ∈ xs, ∀ z ∈ x.2.2, 1 ≤ z.length ∧ z.length ≤ 100) ∧ (frees xs).length ≤ 60 ∧
  ∀ (p : Addr) (ys : List Str) (H' : Hp), Same H H' → H p = none → ys.Perm (uniq (frees xs)) → sortedS ys = true → H' p = some (.lst (ys.map V.str)) → Q (.ref p) H'
section
variable {P : Program} {w : World} {K : PySem.W.Frag} {mg : Str → Option Value} {base : Heap}
abbrev nVars : List Str := ["lot", "pattern", "term"]
theorem scVs : FnScope nVars ["lot"] (defScope sVars) := ⟨rfl, rfl, rfl, by decide +kernel, rfl, by decide +kernel, by decide +kernel⟩
theorem ok_vars {f : Addr} {fd : FuncData} (F : Fun K "variables_of" "variables_of" sVars f fd) (ms : mg "sorted" = none) :
    FnOk P w K mg base CX0 2 f fd ["lot"] spVars := by
  refine F.ok scVs (fun vs H Q E h => ?_) (fun cdv A outer s H vs Q E hr h => ?_)
  · obtain ⟨q, xs, rfl, _⟩ := h
    rfl
  · obtain ⟨q, xs, rfl, lot, shape, few, k⟩ := h
    refine ⟨_, pss_one (ps_ret (pe_callB (L2.TxtSet.cr_sortT rfl) (by rfl) ms (by decide +kernel) (pa_cons
      (pe_set2 (own := [("pattern", 1), ("term", 2)]) (vs1 := [2]) (g := gName 1) (g1 := gName 2) (tt := tYes) (addT P w) rfl scVs.nd (pi_seq (pv 0))
        (blkOk_by (own := [("pattern", 1), ("term", 2)]) (N := nVars) (sc := defScope sVars) (by decide +kernel)) (by decide)
        (fun _ _ _ _ _ => pg_name (i := 1) scVs.nd rfl (Or.inl rfl)) (fun _ _ _ _ _ => pts_nil)
        (fun _ _ _ _ _ => pi_tupK (K := K) rfl (pe_slice (sl_tupK (K := K) rfl) (pv 1) (po_some pe_int) po_none))
        (fun _ _ _ _ _ => pg_name (i := 2) scVs.nd rfl (Or.inl rfl))
        (fun _ _ _ _ _ => pts_one (pt_cmpR op_eq (pe_ix ix_str (pv 2) pe_int (fun _ _ => rfl)) pe_str (nomark _)))
        (fun _ _ _ _ _ => pv 2)) pa_nil))), ?_⟩
    have main : ∀ (J : It) (Sq : Hp → Prop), WalkR J Sq (xs.map fun x => V.ref x.1) → (∀ H', Same H H' → Sq H') → ∀ (Qd : Hp → Prop) (D : Addr), H D = none → (∀ H', Same H H' → H' D = some (SetT P w D (uniq (frees xs))) → Qd H') →
        L2.Cmp.Walk J (gName 1) tYes (fun σ2 H2 C => iTup K (tSl (rSlT K) (tVar 1) (tPart (tC (.int 1))) tNoPart) σ2 H2 fun J1 H3 => L2.Cmp.Walk J1 (gName 2) (tTest (tOp rEq (tOp rIxS (tVar 2) (tC (.int 0))) (tC (.str (Str.ofString "?"))))) (tAd (addT P w) (tVar 2) D) [2] σ2 C H3) [1, 2] [some (.ref q), none, none] Qd (upd H D (SetT P w D [])) := by
      intro J Sq wr st Qd D nD hd
      refine wr _ _ _ _ _ _ _ (fun i H5 => H5 D = some (SetT P w D (uniq (frees (xs.take i)))) ∧ Same H H5) ⟨upd_same, same_new nD⟩ (fun i H5 hi p => st _ p.2) (fun i x H5 hx p => ?_) fun H5 p => hd H5 p.2 ?_
      · obtain ⟨p1, p2⟩ := p
        rw [List.getElem?_map] at hx
        obtain ⟨y, hy, rfl⟩ := Option.map_eq_some_iff.mp hx
        have my : y ∈ xs := List.mem_of_getElem? hy
        have ty := lot.each y my
        refine ⟨rfl, ?_⟩
        dsimp only [tYes]
        rw [if_pos rfl]
        refine ⟨_, rfl, _, rfl, y.1, _, rfl, SqT.of (p2 _ _ ty), cut_part _ _, fun t nt => ⟨t, rfl, ⟨_, SqT.of upd_same⟩, ?_⟩⟩
        rw [cut_one]
        have tD : t ≠ D := fun e => by
          rw [e, p1] at nt
          cases nt
        refine walk_tup (xs := y.2.2.map V.str) _ _ _ _ _ _ _ (fun j H6 => H6 D = some (SetT P w D (uniq (frees (xs.take i) ++ (y.2.2.take j).filter isV))) ∧ Same H H6 ∧ H6 t = some (.tup (y.2.2.map V.str))) ?_ (fun j H6 hj p => SqT.of p.2.2) (fun j x H6 hx p => ?_) (fun H6 p => ?_)
        · refine ⟨?_, fun b o e => ?_, upd_same⟩
          · rw [upd_ne (Ne.symm tD), p1]
            simp
          · have q5 := p2 b o e
            rw [upd_ne (ne_of_none q5 nt)]
            exact q5
        · obtain ⟨p3, p4, p5⟩ := p
          rw [List.getElem?_map] at hx
          obtain ⟨z, hz, rfl⟩ := Option.map_eq_some_iff.mp hx
          have tk : (y.2.2.take (j + 1)) = y.2.2.take j ++ [z] := by
            rw [List.take_succ, hz]
            rfl
          have sh := shape y my z (List.mem_of_getElem? hz)
          obtain ⟨c, r, hc⟩ : ∃ c r, z.cps.toList = c :: r := by
            cases e : z.cps.toList with
            | nil =>
              have l := length_toList z
              rw [e] at l
              have l0 : z.length = 0 := l.symm
              omega
            | cons c r => exact ⟨c, r, rfl⟩
          refine ⟨rfl, _, rfl, z, 0, c, rfl, rfl, by rw [sizeLine_eq]; omega, by rw [hc]; exact atI_nat (j := 0) rfl, rfl, _, rfl, ?_⟩
          rw [first_one hc]
          by_cases hv : isV z = true
          · rw [hv]
            dsimp only
            rw [if_pos rfl]
            have room : (uniq (frees (xs.take i) ++ (y.2.2.take j).filter isV)).length ≤ 60 := by
              have u1 := uniq_len (frees (xs.take i) ++ (y.2.2.take j).filter isV)
              have u2 := frees_le xs (i + 1)
              rw [frees_take hy, List.length_append] at u2
              have u3 : ((y.2.2.take j).filter isV).length ≤ (y.2.2.filter isV).length := ((List.take_sublist _ _).filter _).length_le
              rw [List.length_append] at u1
              omega
            refine ⟨_, rfl, z, _, rfl, p3, Nat.lt_of_le_of_lt (Nat.succ_le_succ room) (by decide), ?_, fun b o e => ?_, ?_⟩
            · rw [upd_same, tk, List.filter_append, List.filter_cons_of_pos hv, List.filter_nil, ← List.append_assoc, uniq_snoc]
              rfl
            · have hb : b ≠ D := ne_of_none e nD
              rw [upd_ne hb]
              exact p4 b o e
            · rw [upd_ne tD]
              exact p5
          · have hv' : isV z = false := by simpa using hv
            rw [hv']
            dsimp only
            rw [if_neg Bool.false_ne_true]
            refine ⟨?_, p4, p5⟩
            rw [tk, List.filter_append, List.filter_cons_of_neg hv, List.filter_nil, List.append_nil]
            exact p3
        · rw [List.length_map, List.take_length] at p
          exact ⟨by rw [frees_take hy]; exact p.1, p.2.1⟩
      · have e := p.1
        rw [List.length_map, List.take_length] at e
        exact e
    have fin : ∀ (D : Addr), H D = none → ∀ H', Same H H' → H' D = some (SetT P w D (uniq (frees xs))) → L2.TxtSet.rSortT P w [.ref D] H' Q := fun D nD H' sm hD =>
      ⟨D, _, rfl, hD, Nat.lt_of_le_of_lt (Nat.le_trans (uniq_len _) few) (by decide), fun ys p pm so np => k p ys _ (fun b o e => by
        have e' := sm b o e
        rw [upd_ne (ne_of_none e' np)]
        exact e') (by
        cases e : H p with
        | none => rfl
        | some o =>
          rw [sm p o e] at np
          cases np) pm so upd_same⟩
    refine ⟨_, rfl, q, rfl, ?_⟩
    rcases lot.sq with hq | hq
    · exact .inl ⟨⟨_, SqL.of hq⟩, fun D nD => main _ _ walk_list (fun H' sm => SqL.of (sm _ _ hq)) _ D nD (fin D nD)⟩
    · exact .inr ⟨⟨_, SqT.of hq⟩, fun D nD => main _ _ walk_tup (fun H' sm => SqT.of (sm _ _ hq)) _ D nD (fin D nD)⟩
end
end L2.LawH
set_option Elab.async false
set_option linter.all false
set_option maxRecDepth 100000
set_option maxHeartbeats 4000000
/-! _law_variables. -/
namespace L2.LawH
open PySem PySem.Spec PyProof.Rows L2.Cmp L2.TxtSet
abbrev sLVars : Stmt := top 74
theorem first_sign (z : Str) : decide (cutS z none (some 1) = Str.ofString "?") = isV z := by
  have q1 : (Str.ofString "?").cps = #[63] := by decide +kernel
  have q2 : (Str.ofString "?").length = 1 := by decide +kernel
  have e2 : HT.sIx z.length z.length (some 1) = min 1 z.length := HT.sIx_nat z.length z.length 1
  have l : z.cps.toList.length = z.length := length_toList z
  have es : Str.ofString "?" = ⟨#[63]⟩ := by
    cases h : Str.ofString "?" with
    | mk c => rw [h] at q1; exact congrArg Str.mk q1
  unfold isV Txt.startswith cutS Builtin.Str.subAt
  rw [HT.sIx_none, e2, q1, q2, es, Bool.eq_iff_iff, decide_eq_true_iff]
  cases hz : z.cps.toList with
  | nil =>
    rw [hz] at l
    have l0 : z.length = 0 := l.symm
    rw [l0]
    simp
  | cons x r =>
    rw [hz] at l
    have l0 : z.length = r.length + 1 := l.symm
    have ez : z.cps = (x :: r).toArray := by rw [← hz]
    rw [l0, ez]
    have m : min 1 (r.length + 1) = 1 := by omega
    rw [m]
    simp
def spLVars : Sp := fun vs H Q _ => ∃ (q : Addr) (xs : List Pt), vs = [.ref q] ∧ H q = some (.lst (xs.map fun x => V.ref x.1)) ∧ LotAt H q xs ∧ (∀ x ∈ xs, ∀ z ∈ x.2.2, z.length ≤ 100) ∧ (frees xs).length ≤ 60 ∧
  ∀ (p : Addr) (ys : List Str) (H' : Hp), Same H H' → H p = none → ys.Perm (uniq (frees xs)) → sortedS ys = true → H' p = some (.lst (ys.map V.str)) → Q (.ref p) H'
section
variable {P : Program} {w : World} {K : PySem.W.Frag} {mg : Str → Option Value} {base : Heap}
abbrev nLVars : List Str := ["_law_lot_here", "_law_found", "_law_pattern_here", "_law_term_here"]
theorem scLV : FnScope nLVars ["_law_lot_here"] (defScope sLVars) := ⟨rfl, rfl, rfl, by decide +kernel, rfl, by decide +kernel, by decide +kernel⟩
theorem ok_lvars {f : Addr} {fd : FuncData} (F : Fun K "_law_variables" "_law_variables" sLVars f fd) (ms : mg "sorted" = none) :
    FnOk P w K mg base CX0 2 f fd ["_law_lot_here"] spLVars := by
  refine F.ok scLV (fun vs H Q E h => ?_) (fun cdv A outer s H vs Q E hr h => ?_)
  · obtain ⟨q, xs, rfl, _⟩ := h
    rfl
  · obtain ⟨q, xs, rfl, hq, lot, short, few, k⟩ := h
    refine ⟨_, pss_cons (ps_set (i := 1) scLV.nd rfl (Or.inl rfl) (pe_lst pa_nil))
      (pss_cons (ps_for PassesOwn.never rfl (pi_list (pv 0)) (pg_name (i := 2) scLV.nd rfl (Or.inl rfl))
        (pss_one (ps_for PassesOwn.never rfl (pi_tup (pe_slice sl_tup (pv 2) (po_some pe_int) po_none)) (pg_name (i := 3) scLV.nd rfl (Or.inl rfl))
          (pss_one (ps_if (PW.pt (pw_and (pt_cmpR op_eq (pe_slice sl_str (pv 3) po_none (po_some pe_int)) pe_str (nomark _)) (pw_and1 (pt_cmpR op_notIn_seq (pv 3) (pv 1) (by rfl)))))
            (pss_one (ps_expr (pe_bm PySem.F.plainAttrs_list PySem.F.slot_list_append PySem.F.type_list_append mt_append (pv 1) (pa_cons (pv 3) pa_nil)))) pss_nil)))))
      (pss_one (ps_ret (pe_callB cr_sortedS (by rfl) ms (by decide +kernel) (pa_cons (pv 1) pa_nil))))), ?_⟩
    refine ⟨(by show 0 ≤ sizeLine; decide), fun D nD => ?_⟩
    refine ⟨_, rfl, q, rfl, ⟨_, SqL.of ((same_new nD) _ _ hq)⟩, for_list (xs := xs.map fun x => V.ref x.1) (fun i σ H5 => ∃ v2 v3, σ = [some (.ref q), some (.ref D), v2, v3] ∧ H5 D = some (.lst ((uniq (frees (xs.take i))).map V.str)) ∧ Same H H5)
      ⟨none, none, rfl, upd_same, same_new nD⟩ (fun i σ H5 hi p => ?_) (fun i x σ H5 hx p => ?_) (fun σ H5 p => ?_)⟩
    · obtain ⟨_, _, _, _, s5⟩ := p
      exact SqL.of (s5 _ _ hq)
    · obtain ⟨v2, v3, rfl, p1, p2⟩ := p
      rw [List.getElem?_map] at hx
      obtain ⟨y, hy, rfl⟩ := Option.map_eq_some_iff.mp hx
      have my : y ∈ xs := List.mem_of_getElem? hy
      have ty := lot.each y my
      refine ⟨_, rfl, _, rfl, y.1, _, rfl, SqT.of (p2 _ _ ty), cut_part _ _, fun t nt => ⟨t, rfl, ⟨_, SqT.of upd_same⟩, ?_⟩⟩
      rw [cut_one]
      have tD : t ≠ D := fun e => by
        rw [e, p1] at nt
        cases nt
      refine for_tup (xs := y.2.2.map V.str) (fun j σ H6 => ∃ v3, σ = [some (.ref q), some (.ref D), some (.ref y.1), v3] ∧ H6 D = some (.lst ((uniq (frees (xs.take i) ++ (y.2.2.take j).filter isV)).map V.str)) ∧ Same H H6 ∧ H6 t = some (.tup (y.2.2.map V.str)))
        ?_ (fun j σ H6 hj p => ?_) (fun j x σ H6 hx p => ?_) (fun σ H6 p => ?_)
      · refine ⟨_, rfl, ?_, fun b o e => ?_, upd_same⟩
        · rw [upd_ne (Ne.symm tD), p1]
          simp
        · have q5 := p2 b o e
          rw [upd_ne (ne_of_none q5 nt)]
          exact q5
      · obtain ⟨_, _, _, _, p5⟩ := p
        exact SqT.of p5
      · obtain ⟨v3', rfl, p3, p4, p5⟩ := p
        rw [List.getElem?_map] at hx
        obtain ⟨z, hz, rfl⟩ := Option.map_eq_some_iff.mp hx
        have mz : z ∈ y.2.2 := List.mem_of_getElem? hz
        have tk : (y.2.2.take (j + 1)) = y.2.2.take j ++ [z] := by
          rw [List.take_succ, hz]
          rfl
        have u1 : (uniq (frees (xs.take i) ++ (y.2.2.take j).filter isV)).length ≤ 60 := by
          have u1 := uniq_len (frees (xs.take i) ++ (y.2.2.take j).filter isV)
          have u2 := frees_le xs (i + 1)
          rw [frees_take hy, List.length_append] at u2
          have u3 : ((y.2.2.take j).filter isV).length ≤ (y.2.2.filter isV).length := ((List.take_sublist _ _).filter _).length_le
          rw [List.length_append] at u1
          omega
        refine ⟨_, rfl, _, rfl, z, rfl, ?_, rfl, _, rfl, ?_⟩
        · have := short y my z mz
          rw [sizeLine_eq]
          omega
        have ed : decide (V.str (cutS z none (some 1)) = V.str (Str.ofString "?")) = isV z := by
          rw [← first_sign]
          exact decide_eq_decide.mpr ⟨fun e => V.str.inj e, fun e => by rw [e]⟩
        rw [ed]
        by_cases hv : isV z = true
        · rw [hv]
          refine iteT ?_
          refine ⟨_, rfl, _, rfl, D, _, rfl, .inl (SqL.of p3), rfl, flat_strs _, _, rfl, ?_⟩
          rw [if_pos rfl, inV_strs]
          by_cases hm : z ∈ uniq (frees (xs.take i) ++ (y.2.2.take j).filter isV)
          · rw [decide_eq_true hm]
            refine iteF ?_
            refine ⟨_, rfl, ?_, p4, p5⟩
            rw [tk, List.filter_append, List.filter_cons_of_pos hv, List.filter_nil, ← List.append_assoc, uniq_snoc]
            unfold put1
            rw [if_pos hm]
            exact p3
          · rw [decide_eq_false hm]
            refine iteT ?_
            refine ⟨_, rfl, .inl ⟨rfl, _, SqL.of p3⟩, _, rfl, D, _, _, rfl, rfl, p3, ?_, ?_⟩
            · rw [List.length_map, sizeLine_eq]
              omega
            · refine ⟨_, rfl, ?_, fun b o e => ?_, ?_⟩
              · rw [upd_same, tk, List.filter_append, List.filter_cons_of_pos hv, List.filter_nil, ← List.append_assoc, uniq_snoc]
                unfold put1
                rw [if_neg hm, List.map_append]
                rfl
              · rw [upd_ne (ne_of_none e nD)]
                exact p4 b o e
              · rw [upd_ne tD]
                exact p5
        · have hv' : isV z = false := by simpa using hv
          rw [hv']
          refine iteF ?_
          refine iteF ?_
          refine ⟨_, rfl, ?_, p4, p5⟩
          rw [tk, List.filter_append, List.filter_cons_of_neg hv, List.filter_nil, List.append_nil]
          exact p3
      · rw [List.length_map, List.take_length] at p
        obtain ⟨v3', rfl, p3, p4, _⟩ := p
        exact ⟨_, _, rfl, by rw [frees_take hy]; exact p3, p4⟩
    · obtain ⟨v2, v3, rfl, p1, p2⟩ := p
      rw [List.length_map, List.take_length] at p1
      refine ⟨_, rfl, D, _, rfl, SqL.of p1, Nat.lt_of_le_of_lt (Nat.le_trans (uniq_len _) few) (by decide), fun ys p pm so np => ?_⟩
      refine k p ys _ (fun b o e => ?_) ?_ pm so upd_same
      · have e' := p2 b o e
        rw [upd_ne (ne_of_none e' np)]
        exact e'
      · cases e : H p with
        | none => rfl
        | some o =>
          rw [p2 p o e] at np
          cases np
end
end L2.LawH
set_option Elab.async false
set_option linter.all false
set_option maxRecDepth 100000
set_option maxHeartbeats 4000000
/-! _law_lot; two ascending lists of the same texts. -/
namespace L2.LawH
open PySem PySem.Spec PyProof.Rows L2.Cmp L2.TxtSet
theorem asc_pw : ∀ (l : List Str) (p : Str), risingS p l = true → (p :: l).Pairwise fun a b => a.cps.toList ≤ b.cps.toList
  | [], p, _ => List.pairwise_singleton _ _
  | x :: r, p, h => by
    simp only [risingS, Bool.and_eq_true, Bool.not_eq_true', ltCps_eq, decide_eq_false_iff_not, List.not_lt] at h
    have ih := asc_pw r x h.2
    refine List.pairwise_cons.mpr ⟨fun y hy => ?_, ih⟩
    rcases List.mem_cons.mp hy with rfl | hy
    · exact h.1
    · exact List.le_trans h.1 ((List.pairwise_cons.mp ih).1 y hy)
theorem asc_all {l : List Str} (h : sortedS l = true) : l.Pairwise fun a b => a.cps.toList ≤ b.cps.toList := by
  cases l with
  | nil => exact List.Pairwise.nil
  | cons x r => exact asc_pw r x h
theorem asc_eq {l l' u : List Str} (h : sortedS l = true) (h' : sortedS l' = true) (p : l.Perm u) (p' : l'.Perm u) : l = l' := by
  refine List.Perm.eq_of_pairwise (fun a b _ _ x y => ?_) (asc_all h) (asc_all h') (p.trans p'.symm)
  have e : a.cps.toList = b.cps.toList := List.le_antisymm x y
  cases a
  cases b
  exact congrArg Str.mk (Array.toList_inj.mp e)
abbrev sLot7 : Stmt := top 73
/-- a lot xs at q, drawn over a pool and variables, outside the source -/
structure LotOf (a : Addr) (π : Pool) (W : List Str) (H : Hp) (q : Addr) (xs : List Pt) : Prop where
  sq : H q = some (.lst (xs.map fun x => V.ref x.1))
  each : ∀ x ∈ xs, H x.1 = some (.tup (.str x.2.1 :: x.2.2.map V.str))
  pat : ∀ x ∈ xs, PatOf π W x.2.1 x.2.2
  nq : q ≠ a
  nx : ∀ x ∈ xs, x.1 ≠ a
theorem LotOf.at {a : Addr} {π : Pool} {W : List Str} {H : Hp} {q : Addr} {xs : List Pt} (h : LotOf a π W H q xs) : LotAt H q xs := ⟨.inl h.sq, h.each⟩
theorem LotOf.keep {a : Addr} {π : Pool} {W : List Str} {H H' : Hp} {q : Addr} {xs : List Pt} (h : LotOf a π W H q xs) (k : Keep a H H') : LotOf a π W H' q xs :=
  ⟨k _ _ h.sq h.nq, fun x m => k _ _ (h.each x m) (h.nx x m), h.pat, h.nq, h.nx⟩
def spLot : Sp := fun vs H Q _ => ∃ (a p q : Addr) (c : Int) (m n : Nat) (π : Pool) (W : List Str), vs = [.ref a, .ref p, .ref q, .int n] ∧ n ≤ 100 ∧ SrcAt H a c (m + 20 * n + 1) ∧ PoolAt a H p π ∧ VarsAt a H q W ∧
  ∀ (t : Addr) (xs : List Pt) (H' : Hp), LotOf a π W H' t xs → xs.length ≤ n → SrcAt H' a c m → Keep a H H' → Q (.ref t) H'
section
variable {P : Program} {w : World} {K : PySem.W.Frag} {mg : Str → Option Value} {base : Heap}
abbrev nLot : List Str := ["_law_source_here", "_law_pool_here", "_law_variables_here", "_law_most", "_law_k"]
abbrev pLot : List Str := ["_law_source_here", "_law_pool_here", "_law_variables_here", "_law_most"]
theorem scLt : FnScope nLot pLot (defScope sLot7) := ⟨rfl, rfl, rfl, by decide +kernel, rfl, by decide +kernel, by decide +kernel⟩
theorem ok_lot {f fD fP : Addr} {fd fdD fdP : FuncData} (F : Fun K "_law_lot" "_law_lot" sLot7 f fd)
    (GD : FnOk P w K mg base CX0 1 fD fdD ["_law_source_here", "_law_limit"] spDraw) (kD : PySem.W.keepIn K (.ref fD) = true) (bD : Binds K fdD ["_law_source_here", "_law_limit"] []) (mD : mg "_law_draw" = some (.ref fD))
    (GP : FnOk P w K mg base CX0 3 fP fdP nTerm spPat) (kP : PySem.W.keepIn K (.ref fP) = true) (bP : Binds K fdP nTerm []) (mP : mg "_law_pattern" = some (.ref fP)) (mr : mg "range" = none) :
    FnOk P w K mg base CX0 4 f fd pLot spLot := by
  refine F.ok scLt (fun vs H Q E h => ?_) (fun cdv A outer s H vs Q E hr h => ?_)
  · obtain ⟨a, p, q, c, m, n, π, W, rfl, _⟩ := h
    rfl
  · obtain ⟨a, p, q, c, m, n, π, W, rfl, hn, hs, hp, hv, k⟩ := h
    have hr1 : Room 1 _ := hr.mono (by decide)
    have hr3 : Room 3 _ := hr.mono (by decide)
    refine ⟨_, pss_one (ps_ret (pe_lc (own := [("_law_k", 4)]) (g := gName 4) (tt := tYes) rfl scLt.nd (pi_range1 (by rfl) mr (pa_cons (pe_call GD hr1 (by rfl) mD kD bD .nil pass0 (pa_cons (pv 0) (pa_cons (pe_op op_add (pv 3) pe_int) pa_nil))) pa_nil))
      (blkOk_by (own := [("_law_k", 4)]) (N := nLot) (sc := defScope sLot7) (by decide +kernel)) (fun _ _ _ _ _ => pg_name (i := 4) scLt.nd rfl (Or.inl rfl)) (fun _ _ _ _ _ => pts_nil)
      (fun _ _ _ _ _ => pe_call GP hr3 (by rfl) mP kP bP .nil pass0 (pa_cons (pv 0) (pa_cons (pv 1) (pa_cons (pv 2) (pa_cons pe_int pa_nil))))))), ?_⟩
    refine ⟨_, rfl, _, rfl, _, _, rfl, rfl, a, c, m + 20 * n, _, rfl, hs, by omega, by omega, fun r H1 r0 r1 s1 k1 => ?_⟩
    obtain ⟨j, rfl⟩ : ∃ j : Nat, r = j := ⟨r.toNat, by omega⟩
    refine ⟨_, rfl, by omega, by omega, fun D nD => ?_⟩
    rw [Int.toNat_natCast]
    have hj : j ≤ n := by omega
    have zD := s1.ne nD
    refine lc_range (lo := 0) (n := j) (fun i H5 => ∃ xs : List Pt, xs.length = i ∧ H5 D = some (.lst (xs.map fun x => V.ref x.1)) ∧ (∀ x ∈ xs, H5 x.1 = some (.tup (.str x.2.1 :: x.2.2.map V.str)) ∧ PatOf π W x.2.1 x.2.2 ∧ x.1 ≠ a ∧ x.1 ≠ D) ∧ SrcAt H5 a c (m + 20 * (n - i)) ∧ Keep a H H5)
      ⟨[], rfl, upd_same, fun _ z => (by cases z), (s1.same (same_new nD)).mono (by omega), k1.trans (Keep.of (same_new nD))⟩ ?_ ?_
    · rintro i H5 hi ⟨xs, lx, hD, hx, s5, k5⟩
      refine ⟨rfl, ?_⟩
      dsimp only [tYes]
      rw [if_pos rfl]
      have s5' : SrcAt H5 a c (m + 20 * (n - (i + 1)) + 20) := s5.mono (by omega)
      refine ⟨_, rfl, _, rfl, _, rfl, a, p, q, c, m + 20 * (n - (i + 1)), 4, π, W, rfl, s5', hp.keep k5, hv.keep k5, fun t T zs H6 pt ht ta s6 k6 => ?_⟩
      have hD6 := k6 _ _ hD zD
      have tD : t ≠ D := fun e => by
        rw [e, hD6] at ht
        cases ht
      refine ⟨_, hD6, ?_, xs ++ [(t, T, zs)], by simp [lx], by rw [upd_same]; simp, fun y hy => ?_, ?_, ?_⟩
      · rw [List.length_map, lx, sizeLine_eq]
        omega
      · rcases List.mem_append.mp hy with hy | hy
        · obtain ⟨h1, h2, h3, h4⟩ := hx y hy
          exact ⟨by rw [upd_ne h4]; exact k6 _ _ h1 h3, h2, h3, h4⟩
        · have e : y = (t, T, zs) := by simpa using hy
          rw [e]
          exact ⟨by rw [upd_ne tD]; exact ht, pt, ta, tD⟩
      · obtain ⟨d, nn, e, g⟩ := s6
        exact ⟨d, nn, by rw [upd_ne zD.symm]; exact e, g⟩
      · intro b o e nb
        have hb : b ≠ D := ne_of_none (k1 b o e nb) nD
        rw [upd_ne hb]
        exact (k5.trans k6) b o e nb
    · rintro H5 ⟨xs, lx, hD, hx, s5, k5⟩
      exact k D xs H5 ⟨hD, fun x m => (hx x m).1, fun x m => (hx x m).2.1, zD, fun x m => (hx x m).2.2.1⟩ (by omega) (s5.mono (by omega)) k5
end
end L2.LawH
set_option Elab.async false
set_option linter.all false
set_option maxRecDepth 100000
set_option maxHeartbeats 4000000
/-! is_name, is_variable. -/
namespace L2.LawH
open PySem PySem.Spec PyProof.Rows L2.Cmp L2.TxtSet
abbrev sIsN : Stmt := top 8
abbrev sIsV : Stmt := top 9
/-- a value of a kind that is no text -/
def NotS (K : PySem.W.Frag) (H : Hp) (x : V) : Prop := ∃ n : String, TyX K H x (.type n) ∧ kitB n "str" = some false
abbrev letS8 : Str := "abcdefghijklmnopqrstuvwxyz"
abbrev sgnS8 : Str := "abcdefghijklmnopqrstuvwxyz0123456789"
def spIsN (K : PySem.W.Frag) : Sp := fun vs H Q _ => ∃ x : V, vs = [x] ∧ ((∃ z : Str, x = .str z ∧ z.length ≤ 100000 ∧ ∀ H', Same H H' → Q (.bl (nmB z.cps.toList)) H') ∨ (NotS K H x ∧ Q (.bl false) H))
theorem in_let (c : Nat) : (!(Builtin.Str.occurrences letS8 ⟨#[c]⟩ 0 letS8.length 1).isEmpty) = isLet c := by
  rw [empty_one, Bool.not_not]
  have e : letS8.cps.toList = [97,98,99,100,101,102,103,104,105,106,107,108,109,110,111,112,113,114,115,116,117,118,119,120,121,122] := by decide +kernel
  rw [e]
  unfold isLet
  rw [Bool.eq_iff_iff]
  simp only [decide_eq_true_eq, Bool.and_eq_true, List.mem_cons, List.not_mem_nil, or_false]
  omega
theorem in_sgn (c : Nat) : (!(Builtin.Str.occurrences sgnS8 ⟨#[c]⟩ 0 sgnS8.length 1).isEmpty) = isSgn c := by
  rw [empty_one, Bool.not_not]
  have e : sgnS8.cps.toList = [97,98,99,100,101,102,103,104,105,106,107,108,109,110,111,112,113,114,115,116,117,118,119,120,121,122,48,49,50,51,52,53,54,55,56,57] := by decide +kernel
  rw [e]
  unfold isSgn isLet
  rw [Bool.eq_iff_iff]
  simp only [decide_eq_true_eq, Bool.and_eq_true, Bool.or_eq_true, List.mem_cons, List.not_mem_nil, or_false]
  omega
theorem nmB_eq (c : Nat) (r : List Nat) (h : r.length ≤ 11) : nmB (c :: r) = (isLet c && ((c :: r).all isSgn)) := by
  show (isLet c && r.all isSgn && decide (r.length ≤ 11)) = _
  rw [decide_eq_true h, Bool.and_true, List.all_cons]
  cases hl : isLet c with
  | false => rfl
  | true =>
    have : isSgn c = true := by
      unfold isSgn
      rw [hl]
      rfl
    rw [this]
    rfl
theorem asc_tab : ((List.range 128).all fun c => (Unicode.isAlnum c == (isSgn c || (decide (65 ≤ c) && decide (c ≤ 90)))) && (Unicode.isLower c == isLet c) &&
    ((Unicode.isUpper c || Unicode.isTitle c) == (decide (65 ≤ c) && decide (c ≤ 90))) && (Unicode.isAlpha c == (isLet c || (decide (65 ≤ c) && decide (c ≤ 90))))) = true := by decide +kernel
theorem asc_at {c : Nat} (h : c < 128) : Unicode.isAlnum c = (isSgn c || (decide (65 ≤ c) && decide (c ≤ 90))) ∧ Unicode.isLower c = isLet c ∧
    (Unicode.isUpper c || Unicode.isTitle c) = (decide (65 ≤ c) && decide (c ≤ 90)) ∧ Unicode.isAlpha c = (isLet c || (decide (65 ≤ c) && decide (c ≤ 90))) := by
  have q := List.all_eq_true.mp asc_tab c (List.mem_range.mpr h)
  simp only [Bool.and_eq_true, beq_iff_eq] at q
  exact ⟨q.1.1.1, q.1.1.2, q.1.2, q.2⟩
theorem all_cps (z : Str) (p : Nat → Bool) : z.cps.all p = z.cps.toList.all p := by rw [Array.all_toList]
theorem any_cps (z : Str) (p : Nat → Bool) : z.cps.any p = z.cps.toList.any p := by rw [Array.any_toList]
theorem sgn_asc {c : Nat} (h : isSgn c = true) : c < 128 := by
  unfold isSgn isLet at h
  simp only [Bool.or_eq_true, Bool.and_eq_true, decide_eq_true_eq] at h
  omega
/-- what the name test asks before the first sign -/
def pre8 (l : List Nat) : Bool := l.all (fun c => decide (c < 128)) && (decide (l.length > 0) && l.all Unicode.isAlnum) && (l.any Unicode.isLower && !l.any fun c => Unicode.isUpper c || Unicode.isTitle c)
theorem pre8_sgn {l : List Nat} (h : pre8 l = true) : l.all isSgn = true := by
  unfold pre8 at h
  simp only [Bool.and_eq_true, decide_eq_true_eq, Bool.not_eq_true'] at h
  obtain ⟨⟨h1, h2, h3⟩, h4, h5⟩ := h
  refine List.all_eq_true.mpr fun c m => ?_
  have a := of_decide_eq_true (List.all_eq_true.mp h1 c m)
  have b := List.all_eq_true.mp h3 c m
  have d := List.any_eq_false.mp h5 c m
  obtain ⟨q1, q2, q3, q4⟩ := asc_at a
  rw [q1] at b
  rw [q3] at d
  simpa [d] using b
theorem pre8_of {c : Nat} {r : List Nat} (hc : isLet c = true) (h : (c :: r).all isSgn = true) : pre8 (c :: r) = true := by
  have asc : ∀ d ∈ c :: r, d < 128 := fun d m => sgn_asc (List.all_eq_true.mp h d m)
  unfold pre8
  simp only [Bool.and_eq_true, decide_eq_true_eq, Bool.not_eq_true']
  refine ⟨⟨List.all_eq_true.mpr fun d m => decide_eq_true (asc d m), Nat.succ_pos _, List.all_eq_true.mpr fun d m => ?_⟩, List.any_eq_true.mpr ⟨c, List.mem_cons_self, ?_⟩, List.any_eq_false.mpr fun d m => ?_⟩
  · rw [(asc_at (asc d m)).1, List.all_eq_true.mp h d m, Bool.true_or]
  · rw [(asc_at (asc c List.mem_cons_self)).2.1, hc]
  · rw [(asc_at (asc d m)).2.2.1]
    have q := List.all_eq_true.mp h d m
    unfold isSgn isLet at q
    simp only [Bool.or_eq_true, Bool.and_eq_true, decide_eq_true_eq] at q
    simp only [Bool.and_eq_true, decide_eq_true_eq]
    omega
theorem nmB_pre {c : Nat} {r : List Nat} (h : pre8 (c :: r) = true) : nmB (c :: r) = (Unicode.isAlpha c && decide ((c :: r).length ≤ 12)) := by
  have sg := pre8_sgn h
  rw [List.all_cons, Bool.and_eq_true] at sg
  have asc := sgn_asc sg.1
  obtain ⟨q1, q2, q3, q4⟩ := asc_at asc
  have al : Unicode.isAlpha c = isLet c := by
    have s := sg.1
    unfold isSgn at s
    rw [q4]
    unfold isLet at s ⊢
    rw [Bool.eq_iff_iff]
    simp only [Bool.or_eq_true, Bool.and_eq_true, decide_eq_true_eq] at s ⊢
    omega
  show (isLet c && r.all isSgn && decide (r.length ≤ 11)) = _
  rw [sg.2, al, Bool.and_true, List.length_cons]
  congr 1
  exact decide_eq_decide.mpr ⟨fun h => by omega, fun h => by omega⟩
theorem pre8_eq (z : Str) : (Txt.isascii z && Txt.isalnum z && Txt.islower z) = pre8 z.cps.toList := by
  unfold Txt.isascii Txt.isalnum Txt.islower pre8
  rw [all_cps, all_cps, any_cps, any_cps, length_toList]
theorem nmB_no {l : List Nat} (h : pre8 l = false) : nmB l = false := by
  cases l with
  | nil => rfl
  | cons c r =>
    cases e : nmB (c :: r) with
    | false => rfl
    | true =>
      have e : (isLet c && r.all isSgn && decide (r.length ≤ 11)) = true := e
      simp only [Bool.and_eq_true] at e
      have sg : isSgn c = true := by
        unfold isSgn
        rw [e.1.1, Bool.true_or]
      rw [pre8_of e.1.1 (by rw [List.all_cons, sg, e.1.2, Bool.and_self])] at h
      cases h
section
variable {P : Program} {w : World} {K : PySem.W.Frag} {mg : Str → Option Value} {base : Heap}
theorem scIN : FnScope ["value"] ["value"] (defScope sIsN) := ⟨rfl, rfl, rfl, by decide +kernel, rfl, by decide +kernel, by decide +kernel⟩
theorem ok_isN {f : Addr} {fd : FuncData} (F : Fun K "is_name" "is_name" sIsN f fd) {t3 : Tok} (mM : mg "LONGEST_NAME" = some (.int 12 t3))
    (mi : mg "isinstance" = none) (mst : mg "str" = none) (ml : mg "len" = none) :
    FnOk P w K mg base CX0 1 f fd ["value"] (spIsN K) := by
  refine F.ok scIN (fun vs H Q E h => ?_) (fun cdv A outer s H vs Q E hr h => ?_)
  · obtain ⟨x, rfl, _⟩ := h
    rfl
  · obtain ⟨x, rfl, h⟩ := h
    refine ⟨_, pss_one (ps_ret (pe_and (pe_callB call_isi (by rfl) mi (by decide +kernel) (pa_cons (pv 0) (pa_cons (pe_bltn (v := .ty "str") (by rfl) mst (by decide +kernel) rfl) pa_nil)))
      (pe_and (pe_m0 PySem.F.slot_str_isascii PySem.F.type_str_isascii mt_isascii (pv 0))
      (pe_and (pe_m0 PySem.F.slot_str_isalnum PySem.F.type_str_isalnum mt_isalnum (pv 0))
      (pe_and (pe_m0 PySem.F.slot_str_islower PySem.F.type_str_islower mt_islower (pv 0))
      (pe_and (pe_m0 PySem.F.slot_str_isalpha PySem.F.type_str_isalpha mt_isalpha (pe_ix ix_str (pv 0) pe_int (fun _ _ => rfl)))
        (pe_one (pe_cmpR op_le (pe_callB call_len_str (by rfl) ml (by decide +kernel) (pa_cons (pv 0) pa_nil)) (pe_glob (v := .int 12) (by rfl) mM ⟨_, rfl⟩) (by rfl))))))))), ?_⟩
    rcases h with ⟨z, rfl, hz, k⟩ | ⟨⟨n, ty, kb⟩, k⟩
    · have szl : z.length ≤ sizeLine := by rw [sizeLine_eq]; omega
      have no : pre8 z.cps.toList = false → Q (.bl false) H := fun e => by
        have q := k H fun _ _ e => e
        rw [nmB_no e] at q
        exact q
      have pe := pre8_eq z
      refine ⟨_, rfl, _, .ty "str", _, _, true, rfl, .ty "str", .base (.str z), kit_ty (by decide +kernel), _, rfl, ?_⟩
      refine iteT ?_
      refine ⟨_, rfl, ⟨_, rfl⟩, _, rfl, rfl, trivial, _, rfl, ?_⟩
      cases eA : Txt.isascii z with
      | false => exact iteF (no (by rw [← pe, eA, Bool.false_and, Bool.false_and]))
      | true =>
        refine iteT ⟨_, rfl, ⟨_, rfl⟩, _, rfl, rfl, trivial, _, rfl, ?_⟩
        cases eB : Txt.isalnum z with
        | false => exact iteF (no (by rw [← pe, eB, Bool.and_false, Bool.false_and]))
        | true =>
          refine iteT ⟨_, rfl, ⟨_, rfl⟩, _, rfl, rfl, trivial, _, rfl, ?_⟩
          cases eC : Txt.islower z with
          | false => exact iteF (no (by rw [← pe, eC, Bool.and_false]))
          | true =>
            have p8 : pre8 z.cps.toList = true := by rw [← pe, eA, eB, eC]; rfl
            have lz : z.cps.toList.length = z.length := length_toList z
            have k' := k H fun _ _ e => e
            cases hc : z.cps.toList with
            | nil =>
              rw [hc] at p8
              cases p8
            | cons c r =>
              rw [hc] at p8 k' lz
              rw [nmB_pre p8] at k'
              refine iteT ⟨_, rfl, z, 0, c, rfl, rfl, szl, by rw [hc]; exact atI_nat (j := 0) rfl, ⟨_, rfl⟩, _, rfl, rfl, trivial, _, rfl, ?_⟩
              have ea : Txt.isalpha ⟨#[c]⟩ = Unicode.isAlpha c := by
                unfold Txt.isalpha
                simp [Str.length]
              rw [ea]
              cases eD : Unicode.isAlpha c with
              | false =>
                rw [eD, Bool.false_and] at k'
                exact iteF k'
              | true =>
                rw [eD, Bool.true_and] at k'
                refine iteT ⟨_, rfl, z, rfl, szl, _, _, rfl, rfl, ?_⟩
                have e : decide ((z.length : Int) ≤ 12) = decide ((c :: r).length ≤ 12) := decide_eq_decide.mpr ⟨fun h => by omega, fun h => by omega⟩
                rw [← e] at k'
                exact k'
    · refine ⟨_, rfl, _, .ty "str", _, _, false, rfl, .ty "str", ty, kit_ty kb, _, rfl, ?_⟩
      exact iteF k
end
end L2.LawH
set_option Elab.async false
set_option linter.all false
set_option maxRecDepth 100000
set_option maxHeartbeats 4000000
/-! is_variable, is_pattern, is_fact. -/
namespace L2.LawH
open PySem PySem.Spec PyProof.Rows L2.Cmp L2.TxtSet
abbrev sIsV9 : Stmt := top 9
abbrev sIsP9 : Stmt := top 10
abbrev sIsF9 : Stmt := top 11
def varB (z : Str) : Bool := isV z && nmB (z.cps.toList.drop 1)
theorem cut_tail (z : Str) : (cutS z (some 1) none).cps.toList = z.cps.toList.drop 1 := by
  have l : z.cps.toList.length = z.length := length_toList z
  have e1 : HT.sIx z.length 0 (some 1) = min 1 z.length := HT.sIx_nat z.length 0 1
  unfold cutS
  rw [e1, HT.sIx_none]
  show (z.cps.toList.drop (min 1 z.length)).take (z.length - min 1 z.length) = _
  cases hc : z.cps.toList with
  | nil => simp
  | cons c r =>
    rw [hc, List.length_cons] at l
    have m : min 1 z.length = 1 := by omega
    rw [m]
    have e : z.length - 1 = r.length := by omega
    rw [e]
    simp
/-- names and variables among values -/
def vN : V → Bool
  | .str z => nmB z.cps.toList
  | _ => false
def vV : V → Bool
  | .str z => varB z
  | _ => false
/-- a value that may be asked -/
def Okv (K : PySem.W.Frag) (H : Hp) (x : V) : Prop := (∃ z : Str, x = .str z ∧ z.length ≤ 100000) ∨ (NotS K H x ∧ ∀ z, x ≠ .str z)
theorem tyx_same {K : PySem.W.Frag} {H H' : Hp} (s : Same H H') {x : V} {t : Value} (h : TyX K H x t) : TyX K H' x t := by
  cases h with
  | base b =>
    refine .base ?_
    cases b with
    | non => exact .non
    | bl x => exact .bl x
    | int i => exact .int i
    | str x => exact .str x
    | flt x => exact .flt x
    | lst e => exact .lst (s _ _ e)
    | frz e => exact .frz (s _ _ e)
    | tup e => exact .tup (s _ _ e)
    | dK e => exact .dK (s _ _ e)
    | dT e => exact .dT (s _ _ e)
    | ins e cl ha hn htk hm => exact .ins (s _ _ e) cl ha hn htk hm
  | byt b => exact .byt b
  | set e => exact .set (s _ _ e)
  | kList e c => exact .kList e c
  | kTuple e c => exact .kTuple e c
  | kDict e c => exact .kDict e c
  | fTuple e => exact .fTuple (s _ _ e)
  | fDict e => exact .fDict (s _ _ e)
theorem Okv.same {K : PySem.W.Frag} {H H' : Hp} (s : Same H H') {x : V} (h : Okv K H x) : Okv K H' x := by
  rcases h with h | ⟨⟨n, ty, kb⟩, no⟩
  · exact .inl h
  · exact .inr ⟨⟨n, tyx_same s ty, kb⟩, no⟩
def NotT (K : PySem.W.Frag) (H : Hp) (x : V) : Prop := ∃ n : String, TyX K H x (.type n) ∧ kitB n "tuple" = some false
def patB (xs : List V) : Bool := match xs with
  | [] => false
  | x :: r => decide (r.length ≤ 3) && vN x && r.all fun y => vN y || vV y
def factB (xs : List V) : Bool := patB xs && xs.all vN
def spIsVr (K : PySem.W.Frag) : Sp := fun vs H Q _ => ∃ x : V, vs = [x] ∧ Okv K H x ∧ ∀ H', Same H H' → Q (.bl (vV x)) H'
def spIsP (K : PySem.W.Frag) (f : List V → Bool) : Sp := fun vs H Q _ => ∃ x : V, vs = [x] ∧
  ((∃ (t : Addr) (xs : List V), x = .ref t ∧ H t = some (.tup xs) ∧ xs.length ≤ 100000 ∧ (∀ y ∈ xs, Okv K H y) ∧ ∀ H', Same H H' → Q (.bl (f xs)) H') ∨ (NotT K H x ∧ ∀ H', Same H H' → Q (.bl false) H'))
theorem isN_of {K : PySem.W.Frag} {H : Hp} {x : V} {Q : VK} {E : XK} (o : Okv K H x) (k : ∀ H', Same H H' → Q (.bl (vN x)) H') : spIsN K [x] H Q E := by
  refine ⟨x, rfl, ?_⟩
  rcases o with ⟨z, rfl, l⟩ | ⟨n, no⟩
  · exact .inl ⟨z, rfl, l, k⟩
  · refine .inr ⟨n, ?_⟩
    have e : vN x = false := by
      cases x with
      | str z => exact absurd rfl (no z)
      | _ => rfl
    have q := k H fun _ _ e => e
    rw [e] at q
    exact q
section
variable {P : Program} {w : World} {K : PySem.W.Frag} {mg : Str → Option Value} {base : Heap}
theorem scIV : FnScope ["value"] ["value"] (defScope sIsV9) := ⟨rfl, rfl, rfl, by decide +kernel, rfl, by decide +kernel, by decide +kernel⟩
theorem ok_isV {f fN : Addr} {fd fdN : FuncData} (F : Fun K "is_variable" "is_variable" sIsV9 f fd)
    (GN : FnOk P w K mg base CX0 1 fN fdN ["value"] (spIsN K)) (kN : PySem.W.keepIn K (.ref fN) = true) (bN : Binds K fdN ["value"] []) (mN : mg "is_name" = some (.ref fN))
    (mi : mg "isinstance" = none) (mst : mg "str" = none) :
    FnOk P w K mg base CX0 2 f fd ["value"] (spIsVr K) := by
  refine F.ok scIV (fun vs H Q E h => ?_) (fun cdv A outer s H vs Q E hr h => ?_)
  · obtain ⟨x, rfl, _⟩ := h
    rfl
  · obtain ⟨x, rfl, o, k⟩ := h
    have hr1 : Room 1 _ := hr.mono (by decide)
    refine ⟨_, pss_one (ps_ret (pe_and (pe_callB call_isi (by rfl) mi (by decide +kernel) (pa_cons (pv 0) (pa_cons (pe_bltn (v := .ty "str") (by rfl) mst (by decide +kernel) rfl) pa_nil)))
      (pe_and (pe_m1 PySem.F.slot_str_startswith PySem.F.type_str_startswith mt_startswith (pv 0) pe_str)
        (pe_one (pe_call GN hr1 (by rfl) mN kN bN .nil pass0 (pa_cons (pe_slice sl_str (pv 0) (po_some pe_int) po_none) pa_nil)))))), ?_⟩
    rcases o with ⟨z, rfl, l⟩ | ⟨⟨n, ty, kb⟩, no⟩
    · have kv : ∀ H', Same H H' → Q (.bl (varB z)) H' := k
      refine ⟨_, rfl, _, .ty "str", _, _, true, rfl, .ty "str", .base (.str z), kit_ty (by decide +kernel), _, rfl, ?_⟩
      refine iteT ?_
      refine ⟨_, rfl, ⟨_, rfl⟩, _, _, rfl, rfl, _, rfl, ?_⟩
      refine ite2 (fun h1 => ?_) (fun h1 => ?_)
      · have h1 : isV z = true := h1
        refine ⟨_, rfl, _, rfl, z, rfl, by rw [sizeLine_eq]; omega, ?_⟩
        refine isN_of (E := E0) (.inl ⟨_, rfl, Nat.le_trans (cutS_length z (some 1) none) l⟩) fun H' s => ?_
        have q := kv H' s
        unfold varB at q
        rw [h1, Bool.true_and, ← cut_tail] at q
        exact q
      · have h1 : isV z = false := by
          cases e : isV z with
          | false => rfl
          | true => exact absurd e h1
        have q := kv H fun _ _ e => e
        unfold varB at q
        rw [h1, Bool.false_and] at q
        exact q
    · refine ⟨_, rfl, _, .ty "str", _, _, false, rfl, .ty "str", ty, kit_ty kb, _, rfl, ?_⟩
      refine iteF ?_
      have q := k H fun _ _ e => e
      have e : vV x = false := by
        cases x with
        | str z => exact absurd rfl (no z)
        | _ => rfl
      rw [e] at q
      exact q
theorem scIP : FnScope ["value", "term"] ["value"] (defScope sIsP9) := ⟨rfl, rfl, rfl, by decide +kernel, rfl, by decide +kernel, by decide +kernel⟩
theorem ok_isP {f fN fV : Addr} {fd fdN fdV : FuncData} (F : Fun K "is_pattern" "is_pattern" sIsP9 f fd)
    (GN : FnOk P w K mg base CX0 1 fN fdN ["value"] (spIsN K)) (kN : PySem.W.keepIn K (.ref fN) = true) (bN : Binds K fdN ["value"] []) (mN : mg "is_name" = some (.ref fN))
    (GV : FnOk P w K mg base CX0 2 fV fdV ["value"] (spIsVr K)) (kV : PySem.W.keepIn K (.ref fV) = true) (bV : Binds K fdV ["value"] []) (mV : mg "is_variable" = some (.ref fV))
    {t3 : Tok} (mM : mg "MOST_TERMS" = some (.int 3 t3)) (mi : mg "isinstance" = none) (mtp : mg "tuple" = none) (ml : mg "len" = none) :
    FnOk P w K mg base CX0 3 f fd ["value"] (spIsP K patB) := by
  refine F.ok scIP (fun vs H Q E h => ?_) (fun cdv A outer s H vs Q E hr h => ?_)
  · obtain ⟨x, rfl, _⟩ := h
    rfl
  · obtain ⟨x, rfl, h⟩ := h
    have hr1 : Room 1 _ := hr.mono (by decide)
    have hr2 : Room 2 _ := hr.mono (by decide)
    refine ⟨_, pss_cons (ps_if (PW.pt (pw_or (pt_not (pt_val (pe_callB call_isi (by rfl) mi (by decide +kernel) (pa_cons (pv 0) (pa_cons (pe_bltn (v := .ty "tuple") (by rfl) mtp (by decide +kernel) rfl) pa_nil)))))
          (pw_or1 (pt_not (pt_chain op_le op_le pe_int (pe_callB call_len_seq (by rfl) ml (by decide +kernel) (pa_cons (pv 0) pa_nil)) (pe_op op_add pe_int (pe_glob (v := .int 3) (by rfl) mM ⟨_, rfl⟩))))))) (pss_one (ps_ret pe_bl)) pss_nil)
      (pss_cons (ps_for PassesOwn.never rfl (pi_tup (pe_slice sl_tup (pv 0) (po_some pe_int) po_none)) (pg_name (i := 1) scIP.nd rfl (Or.inl rfl))
        (pss_one (ps_if (PW.pt (pw_and (pt_not (pt_val (pe_call GN hr1 (by rfl) mN kN bN .nil pass0 (pa_cons (pv 1) pa_nil)))) (pw_and1 (pt_not (pt_val (pe_call GV hr2 (by rfl) mV kV bV .nil pass0 (pa_cons (pv 1) pa_nil)))))))
          (pss_one (ps_ret pe_bl)) pss_nil)))
      (pss_one (ps_ret (pe_call GN hr1 (by rfl) mN kN bN .nil pass0 (pa_cons (pe_ix ix_tup (pv 0) pe_int (fun _ _ => rfl)) pa_nil))))), ?_⟩
    rcases h with ⟨t, xs, rfl, ht, lx, okx, k⟩ | ⟨⟨n, ty, kb⟩, k⟩
    · have big : ¬ (1 ≤ xs.length ∧ xs.length ≤ 4) → Q (.bl false) H := fun no => by
        have q := k H fun _ _ e => e
        have e : patB xs = false := by
          cases xs with
          | nil => rfl
          | cons x r =>
            rw [List.length_cons] at no
            show (decide (r.length ≤ 3) && vN x && r.all fun y => vN y || vV y) = false
            rw [decide_eq_false (by omega), Bool.false_and, Bool.false_and]
        rw [e] at q
        exact q
      refine ⟨_, rfl, _, .ty "tuple", _, _, true, rfl, .ty "tuple", .base (.tup ht), kit_ty (by decide +kernel), _, rfl, ?_⟩
      refine iteF ?_
      refine ⟨_, rfl, t, _, rfl, .inr (SqT.of ht), _, _, rfl, rfl, _, rfl, ?_⟩
      refine ite2 (fun l1 => ⟨_, _, rfl, rfl, _, _, rfl, rfl, _, rfl, ?_⟩) (fun l1 => ⟨_, rfl, iteT (big fun y => l1 (decide_eq_true (by omega)))⟩)
      have l1 : (1 : Int) ≤ xs.length := of_decide_eq_true l1
      refine ite2 (fun l2 => ?_) (fun l2 => ?_)
      · have l2' : ¬ ((xs.length : Int) ≤ 1 + 3) := fun y => by
          rw [decide_eq_true y] at l2
          cases l2
        exact big fun y => l2' (by omega)
      · have l2' : (xs.length : Int) ≤ 1 + 3 := by
          by_cases y : (xs.length : Int) ≤ 1 + 3
          · exact y
          · rw [decide_eq_false y] at l2
            exact absurd rfl l2
        cases xs with
        | nil =>
          rw [List.length_nil] at l1
          omega
        | cons y r =>
          have lr : r.length ≤ 3 := by
            rw [List.length_cons] at l2'
            omega
          have k : ∀ H', Same H H' → Q (.bl (vN y && r.all fun y => vN y || vV y)) H' := fun H' s => by
            have q := k H' s
            have e : patB (y :: r) = (vN y && r.all fun y => vN y || vV y) := by
              show (decide (r.length ≤ 3) && vN y && r.all fun y => vN y || vV y) = _
              rw [decide_eq_true lr, Bool.true_and]
            rw [e] at q
            exact q
          refine ⟨_, rfl, _, rfl, t, _, rfl, SqT.of ht, cut_part _ _, fun u nu => ⟨u, rfl, ⟨_, SqT.of upd_same⟩, ?_⟩⟩
          rw [cut_one]
          refine for_tup (xs := r) (fun i σ H5 => ∃ v1, σ = [some (.ref t), v1] ∧ Same H H5 ∧ H5 u = some (.tup r) ∧ ((r.take i).all fun y => vN y || vV y) = true)
            ⟨none, rfl, same_new nu, upd_same, rfl⟩ (fun i σ H5 _ p => ?_) (fun i x σ H5 hx p => ?_) (fun σ H5 p => ?_)
          · obtain ⟨_, _, _, p2, _⟩ := p
            exact SqT.of p2
          · obtain ⟨v1, rfl, p1, p2, p3⟩ := p
            have ox : Okv K H x := okx x (List.mem_cons_of_mem _ (List.mem_of_getElem? hx))
            have more : (vN x || vV x) = true → ((r.take (i + 1)).all fun y => vN y || vV y) = true := fun e => by
              rw [List.take_add_one, hx, List.all_append, p3]
              simpa using e
            have less : (vN x || vV x) = false → ∀ H', Same H H' → Q (.bl false) H' := fun e H' s => by
              have q := k H' s
              have n : (r.all fun y => vN y || vV y) = false := by
                rw [List.all_eq_false]
                exact ⟨x, List.mem_of_getElem? hx, by rw [e]; decide⟩
              rw [n, Bool.and_false] at q
              exact q
            refine ⟨_, rfl, ?_⟩
            dsimp only [tNil, List.cons_append, List.nil_append]
            refine isN_of (K := K) (E := E0) (ox.same p1) fun H6 s6 => ⟨_, rfl, ?_⟩
            cases en : vN x with
            | true =>
              refine iteF ⟨_, rfl, p1.trans s6, s6 _ _ p2, more (by rw [en]; rfl)⟩
            | false =>
              refine iteT ⟨_, rfl, x, rfl, ox.same (p1.trans s6), fun H7 s7 => ⟨_, rfl, ?_⟩⟩
              cases ev : vV x with
              | true => exact iteF ⟨_, rfl, (p1.trans s6).trans s7, s7 _ _ (s6 _ _ p2), more (by rw [ev, Bool.or_true])⟩
              | false => exact iteT (less (by rw [en, ev]; rfl) _ ((p1.trans s6).trans s7))
          · obtain ⟨v1, rfl, p1, p2, p3⟩ := p
            rw [List.take_length] at p3
            refine ⟨_, rfl, t, _, 0, y, rfl, rfl, SqT.of (p1 _ _ ht), atI_nat (j := 0) rfl, ?_⟩
            dsimp only [tNil, List.cons_append, List.nil_append]
            refine isN_of (K := K) (E := E0) ((okx y List.mem_cons_self).same p1) fun H1 s1 => ?_
            have q := k H1 (p1.trans s1)
            rw [p3, Bool.and_true] at q
            exact q
    · refine ⟨_, rfl, _, .ty "tuple", _, _, false, rfl, .ty "tuple", ty, kit_ty kb, _, rfl, ?_⟩
      exact iteT (k H fun _ _ e => e)
end
end L2.LawH
set_option Elab.async false
set_option linter.all false
set_option maxRecDepth 100000
set_option maxHeartbeats 4000000
/-! is_fact. -/
namespace L2.LawH
open PySem PySem.Spec PyProof.Rows L2.Cmp L2.TxtSet
abbrev sIsF10 : Stmt := top 11
section
variable {P : Program} {w : World} {K : PySem.W.Frag} {mg : Str → Option Value} {base : Heap}
theorem scIF : FnScope ["value", "term"] ["value"] (defScope sIsF10) := ⟨rfl, rfl, rfl, by decide +kernel, rfl, by decide +kernel, by decide +kernel⟩
theorem factB_eq {xs : List V} (h0 : 1 ≤ xs.length) (h : xs.length ≤ 4) : factB xs = xs.all vN := by
  cases xs with
  | nil => cases h0
  | cons y r =>
    rw [List.length_cons] at h
    show ((decide (r.length ≤ 3) && vN y && (r.all fun y => vN y || vV y)) && (vN y && r.all vN)) = (vN y && r.all vN)
    rw [decide_eq_true (by omega), Bool.true_and]
    cases e : r.all vN with
    | false => simp
    | true =>
      have e2 : (r.all fun y => vN y || vV y) = true := List.all_eq_true.mpr fun x m => by rw [List.all_eq_true.mp e x m, Bool.true_or]
      rw [e2]
      simp
theorem factB_no {xs : List V} (h : ¬ (1 ≤ xs.length ∧ xs.length ≤ 4)) : factB xs = false := by
  cases xs with
  | nil => rfl
  | cons y r =>
    rw [List.length_cons] at h
    show ((decide (r.length ≤ 3) && vN y && (r.all fun y => vN y || vV y)) && (vN y && r.all vN)) = false
    rw [decide_eq_false (by omega), Bool.false_and, Bool.false_and, Bool.false_and]
theorem ok_isF {f fN : Addr} {fd fdN : FuncData} (F : Fun K "is_fact" "is_fact" sIsF10 f fd)
    (GN : FnOk P w K mg base CX0 1 fN fdN ["value"] (spIsN K)) (kN : PySem.W.keepIn K (.ref fN) = true) (bN : Binds K fdN ["value"] []) (mN : mg "is_name" = some (.ref fN))
    {t3 : Tok} (mM : mg "MOST_TERMS" = some (.int 3 t3)) (mi : mg "isinstance" = none) (mtp : mg "tuple" = none) (ml : mg "len" = none) :
    FnOk P w K mg base CX0 4 f fd ["value"] (spIsP K factB) := by
  refine F.ok scIF (fun vs H Q E h => ?_) (fun cdv A outer s H vs Q E hr h => ?_)
  · obtain ⟨x, rfl, _⟩ := h
    rfl
  · obtain ⟨x, rfl, h⟩ := h
    have hr1 : Room 1 _ := hr.mono (by decide)
    refine ⟨_, pss_cons (ps_if (PW.pt (pw_or (pt_not (pt_val (pe_callB call_isi (by rfl) mi (by decide +kernel) (pa_cons (pv 0) (pa_cons (pe_bltn (v := .ty "tuple") (by rfl) mtp (by decide +kernel) rfl) pa_nil)))))
          (pw_or1 (pt_not (pt_chain op_le op_le pe_int (pe_callB call_len_seq (by rfl) ml (by decide +kernel) (pa_cons (pv 0) pa_nil)) (pe_op op_add pe_int (pe_glob (v := .int 3) (by rfl) mM ⟨_, rfl⟩))))))) (pss_one (ps_ret pe_bl)) pss_nil)
      (pss_cons (ps_for PassesOwn.never rfl (pi_tup (pv 0)) (pg_name (i := 1) scIF.nd rfl (Or.inl rfl))
        (pss_one (ps_if (pt_not (pt_val (pe_call GN hr1 (by rfl) mN kN bN .nil pass0 (pa_cons (pv 1) pa_nil)))) (pss_one (ps_ret pe_bl)) pss_nil)))
      (pss_one (ps_ret pe_bl))), ?_⟩
    rcases h with ⟨t, xs, rfl, ht, lx, okx, k⟩ | ⟨⟨n, ty, kb⟩, k⟩
    · have big : ¬ (1 ≤ xs.length ∧ xs.length ≤ 4) → Q (.bl false) H := fun no => by
        have q := k H fun _ _ e => e
        rw [factB_no no] at q
        exact q
      refine ⟨_, rfl, _, .ty "tuple", _, _, true, rfl, .ty "tuple", .base (.tup ht), kit_ty (by decide +kernel), _, rfl, ?_⟩
      refine iteF ?_
      refine ⟨_, rfl, t, _, rfl, .inr (SqT.of ht), _, _, rfl, rfl, _, rfl, ?_⟩
      refine ite2 (fun l1 => ⟨_, _, rfl, rfl, _, _, rfl, rfl, _, rfl, ?_⟩) (fun l1 => ⟨_, rfl, iteT (big fun y => l1 (decide_eq_true (by omega)))⟩)
      have l1 : (1 : Int) ≤ xs.length := of_decide_eq_true l1
      refine ite2 (fun l2 => ?_) (fun l2 => ?_)
      · have l2' : ¬ ((xs.length : Int) ≤ 1 + 3) := fun y => by
          rw [decide_eq_true y] at l2
          cases l2
        exact big fun y => l2' (by omega)
      · have l2' : (xs.length : Int) ≤ 1 + 3 := by
          by_cases y : (xs.length : Int) ≤ 1 + 3
          · exact y
          · rw [decide_eq_false y] at l2
            exact absurd rfl l2
        rw [factB_eq (by omega) (by omega)] at k
        refine ⟨_, rfl, t, rfl, ⟨_, SqT.of ht⟩, ?_⟩
        refine for_tup (xs := xs) (fun i σ H5 => ∃ v1, σ = [some (.ref t), v1] ∧ Same H H5 ∧ ((xs.take i).all vN) = true)
          ⟨none, rfl, fun _ _ e => e, rfl⟩ (fun i σ H5 _ p => ?_) (fun i x σ H5 hx p => ?_) (fun σ H5 p => ?_)
        · obtain ⟨_, _, p1, _⟩ := p
          exact SqT.of (p1 _ _ ht)
        · obtain ⟨v1, rfl, p1, p3⟩ := p
          have ox : Okv K H x := okx x (List.mem_of_getElem? hx)
          refine ⟨_, rfl, ?_⟩
          dsimp only [tNil, List.cons_append, List.nil_append]
          refine isN_of (K := K) (E := E0) (ox.same p1) fun H6 s6 => ⟨_, rfl, ?_⟩
          cases en : vN x with
          | true =>
            refine iteF ⟨_, rfl, p1.trans s6, ?_⟩
            rw [List.take_add_one, hx, List.all_append, p3]
            simpa using en
          | false =>
            have q := k H6 (p1.trans s6)
            have n : xs.all vN = false := by
              rw [List.all_eq_false]
              exact ⟨x, List.mem_of_getElem? hx, by rw [en]; decide⟩
            rw [n] at q
            exact iteT q
        · obtain ⟨v1, rfl, p1, p3⟩ := p
          rw [List.take_length] at p3
          have q := k H5 p1
          rw [p3] at q
          exact q
    · refine ⟨_, rfl, _, .ty "tuple", _, _, false, rfl, .ty "tuple", ty, kit_ty kb, _, rfl, ?_⟩
      exact iteT (k H fun _ _ e => e)
end
end L2.LawH
set_option Elab.async false
set_option linter.all false
set_option maxRecDepth 100000
set_option maxHeartbeats 4000000
/-! filled. -/
namespace L2.LawH
open PySem PySem.Spec PyProof.Rows L2.Cmp L2.TxtSet
abbrev sFil : Stmt := top 8
/-- what a term is replaced by -/
def fillV (kvs : List (Key × V)) (z : Str) : V := (valV kvs (Sum.inr z)).getD (.str z)
def spFil : Sp := fun vs H Q _ => ∃ (t d : Addr) (zs : List Str) (kvs : List (Key × V)), vs = [.ref t, .ref d] ∧ H t = some (.tup (zs.map V.str)) ∧ H d = some (.dK kvs) ∧ zs.length ≤ 1000 ∧
  ∀ (u : Addr) (H' : Hp), Same H H' → H u = none → H' u = some (.tup (zs.map (fillV kvs))) → Q (.ref u) H'
section
variable {P : Program} {w : World} {K : PySem.W.Frag} {mg : Str → Option Value} {base : Heap}
end
end L2.LawH
set_option Elab.async false
set_option linter.all false
set_option maxRecDepth 100000
set_option maxHeartbeats 4000000
/-! Sets whose members are tuples, nested as they may be: what is asked of a member while it is sought and laid. -/
namespace L2.NSet
open PySem PySem.Spec PyProof.Rows
section
variable {P : Program} {w : World}
def ClsAt (P : Program) (w : World) (n : Nat) (s : Shared) (v : Value) : Prop := ∀ (A : Around) (E : Value → Shared → Prop) (Q : Bool → Shared → Prop), Q false s → wpAny (model P w) A (ofAClassStatement n v) Q E s
theorem ClsAt.flat {n : Nat} {s : Shared} {v : Value} (h : ∀ a, v ≠ .ref a) : ClsAt P w n s v := fun A E Q q => by
  have e : ofAClassStatement n v = pure false := by
    cases v with
    | ref a => exact absurd rfl (h a)
    | _ => cases n <;> rfl
  rw [e]
  exact wpAny_pure q
theorem ClsAt.tup {n : Nat} {s : Shared} {a : Addr} {o : Obj} {vs : Array Value} {m : Nat} (ho : s.heap.get? a = some o) (hc : o.cls = .type "tuple") (hd : o.data = .seq vs m) (hq : ∀ v ∈ vs.toList, ClsAt P w n s v) :
    ClsAt P w (n + 1) s (.ref a) := fun A E Q h => by
  unfold ofAClassStatement
  refine wpAny_bind (wpAny_typeOf ⟨o, ho, hc⟩ ?_)
  dsimp only
  have e : (("tuple" : String) == "tuple") = true := by decide
  simp only [e, if_true, Bool.not_true, Bool.false_eq_true, if_false]
  refine wpAny_bind (wpAny_pure ?_)
  simp only [Bool.not_true, Bool.false_eq_true, if_false]
  refine wpAny_bind (wpAny_seqItems ho hd ?_)
  dsimp only
  refine wpAny_bind ?_
  show wpAny _ _ (forIn vs _ _) _ _ s
  rw [← Array.forIn_toList]
  refine wpAny_forIn_list _ (fun rest r s1 => r.1 = none ∧ s1 = s ∧ ∀ v ∈ rest, ClsAt P w n s v) _ (fun v rest r s1 I => ?_) (fun r s1 I => ?_) _ _ ⟨rfl, rfl, hq⟩
  · obtain ⟨i1, rfl, i2⟩ := I
    refine wpAny_bind (i2 v List.mem_cons_self _ _ _ ?_)
    simp only [Bool.false_eq_true, if_false]
    exact wpAny_pure ⟨rfl, rfl, fun u m => i2 u (List.mem_cons_of_mem _ m)⟩
  · obtain ⟨r1, r2⟩ := r
    obtain ⟨i1, rfl, _⟩ := I
    simp only at i1
    subst i1
    exact wpAny_pure h
mutual
theorem cls_key : ∀ (k : NestedKey) (v : Value) (n : Nat) (s : Shared), NestedIs s.heap k v → k.depth ≤ n → ClsAt P w n s v
  | .none, _, _, _, x, _ => by cases x; exact .flat fun a e => nomatch e
  | .num i, _, _, _, x, _ => by cases x <;> exact .flat fun a e => nomatch e
  | .text y, _, _, _, x, _ => by cases x; exact .flat fun a e => nomatch e
  | .tup ks, _, n, s, x, hn => by
    cases x with
    | tup hg hc hd hk =>
      simp only [NestedKey.depth] at hn
      match n, hn with
      | n + 1, hn => exact .tup hg hc hd (cls_keys ks _ n s hk (Nat.le_of_succ_le_succ hn))
theorem cls_keys : ∀ (ks : List NestedKey) (vs : List Value) (n : Nat) (s : Shared), NestedAll s.heap ks vs → NestedKey.depthAll ks ≤ n → ∀ v ∈ vs, ClsAt P w n s v
  | [], _, _, _, x, _, v, hv => by cases x; cases hv
  | k :: ks, _, n, s, x, hn, v, hv => by
    cases x with
    | cons x1 x2 =>
      simp only [NestedKey.depthAll] at hn
      rcases List.mem_cons.mp hv with rfl | hv
      · exact cls_key k _ n s x1 (Nat.le_trans (Nat.le_max_left _ _) hn)
      · exact cls_keys ks _ n s x2 (Nat.le_trans (Nat.le_max_right _ _) hn) v hv
end
/-- hash by value: some answer -/
def HbvAt (P : Program) (w : World) (n : Nat) (s : Shared) (v : Value) : Prop := ∀ (A : Around) (E : Value → Shared → Prop) (Q : Bool → Shared → Prop), (∀ b, Q b s) → wpAny (model P w) A (hashByValue n v) Q E s
theorem HbvAt.tup {n : Nat} {s : Shared} {a : Addr} {o : Obj} {vs : Array Value} {m : Nat} (ho : s.heap.get? a = some o) (hc : o.cls = .type "tuple") (hd : o.data = .seq vs m) (hq : ∀ v ∈ vs.toList, HbvAt P w n s v) :
    HbvAt P w (n + 1) s (.ref a) := fun A E Q h => by
  unfold hashByValue
  refine wpAny_bind (wpAny_specialOf ⟨o, ho, hc⟩ F.slot_tuple_hash.lookup ?_)
  show wpAny _ _ (seqItems? (.ref a) >>= _) _ _ s
  refine wpAny_bind (wpAny_seqItems ho hd ?_)
  refine wpAny_bind ?_
  show wpAny _ _ (forIn vs _ _) _ _ s
  rw [← Array.forIn_toList]
  refine wpAny_forIn_list _ (fun rest r s1 => r.1 = none ∧ s1 = s ∧ ∀ v ∈ rest, HbvAt P w n s v) _ (fun v rest r s1 I => ?_) (fun r s1 I => ?_) _ _ ⟨rfl, rfl, hq⟩
  · obtain ⟨i1, rfl, i2⟩ := I
    refine wpAny_bind (i2 v List.mem_cons_self _ _ _ fun b => ?_)
    cases b with
    | true =>
      simp only [Bool.not_true, Bool.false_eq_true, if_false]
      exact wpAny_pure ⟨rfl, rfl, fun u m => i2 u (List.mem_cons_of_mem _ m)⟩
    | false =>
      simp only [Bool.not_false, if_true]
      exact wpAny_pure (wpAny_pure (h _))
  · obtain ⟨r1, r2⟩ := r
    obtain ⟨i1, rfl, _⟩ := I
    simp only at i1
    subst i1
    exact wpAny_pure (h _)
theorem HbvAt.flat {n : Nat} {s : Shared} {v : Value} (b : Bool) (e : hashByValue n v = pure b) : HbvAt P w n s v := fun A E Q q => by
  rw [e]
  exact wpAny_pure (q b)
mutual
theorem hbv_key : ∀ (k : NestedKey) (v : Value) (n : Nat) (s : Shared), NestedIs s.heap k v → k.depth ≤ n → HbvAt P w n s v
  | .none, _, n, _, x, _ => by cases x; exact .flat true (by cases n <;> rfl)
  | .num i, _, n, _, x, _ => by cases x <;> exact .flat true (by cases n <;> rfl)
  | .text y, _, n, _, x, _ => by cases x; exact .flat false (by cases n <;> rfl)
  | .tup ks, _, n, s, x, hn => by
    cases x with
    | tup hg hc hd hk =>
      simp only [NestedKey.depth] at hn
      match n, hn with
      | n + 1, hn => exact .tup hg hc hd (hbv_keys ks _ n s hk (Nat.le_of_succ_le_succ hn))
theorem hbv_keys : ∀ (ks : List NestedKey) (vs : List Value) (n : Nat) (s : Shared), NestedAll s.heap ks vs → NestedKey.depthAll ks ≤ n → ∀ v ∈ vs, HbvAt P w n s v
  | [], _, _, _, x, _, v, hv => by cases x; cases hv
  | k :: ks, _, n, s, x, hn, v, hv => by
    cases x with
    | cons x1 x2 =>
      simp only [NestedKey.depthAll] at hn
      rcases List.mem_cons.mp hv with rfl | hv
      · exact hbv_key k _ n s x1 (Nat.le_trans (Nat.le_max_left _ _) hn)
      · exact hbv_keys ks _ n s x2 (Nat.le_trans (Nat.le_max_right _ _) hn) v hv
end
end
section
variable {P : Program} {w : World} {A : Around} {E : Value → Shared → Prop} {s : Shared}
/-- the tuple at b is the key k -/
abbrev Kb (P : Program) (w : World) (h : Heap) (k : NestedKey) (b : Addr) : Prop := (nestedKind P w).is h k b
theorem kb_at {h h' : Heap} {k : NestedKey} {b : Addr} (x : Kb P w h k b) (hk : ∀ c o vs n, h.get? c = some o → o.data = .seq vs n → h'.get? c = some o) : Kb P w h' k b := ⟨NestedIs.at hk _ _ x.1, x.2⟩
theorem kb_but {h h' : Heap} {k : NestedKey} {a b : Addr} {o : Obj} {es : Array (Int × Value)} {ep : Nat} {t : SetTable} (x : Kb P w h k b) (ho : h.get? a = some o) (hd : o.data = .set es ep t) (hs : Heap.SameBut a h h') : Kb P w h' k b :=
  kb_at x fun c u vs n e1 e2 => (hs.2 c fun z => by
    rw [z, ho] at e1
    cases e1
    rw [hd] at e2
    cases e2).trans e1
theorem seen_key {k : NestedKey} {b : Addr} {Q : Bool → Shared → Prop} (hk : Kb P w s.heap k b) {ys : List Value} (hy : ∀ y ∈ ys, ∃ k2 c, y = Value.ref c ∧ Kb P w s.heap k2 c) (h : Q false s) :
    wpAny (model P w) A (searchCouldBeSeen (.ref b) ys) Q E s := by
  unfold searchCouldBeSeen
  refine wpAny_bind ?_
  refine wpAny_forIn_list _ (fun rest r s1 => r.1 = none ∧ s1 = s ∧ ∀ y ∈ rest, ∃ k2 c, y = Value.ref c ∧ Kb P w s.heap k2 c) _ (fun v rest r s1 I => ?_) (fun r s1 I => ?_) _ _ ⟨rfl, rfl, hy⟩
  · obtain ⟨i1, rfl, i2⟩ := I
    obtain ⟨k2, c, rfl, hc⟩ := i2 v List.mem_cons_self
    have more : ∀ y ∈ rest, ∃ k2 c, y = Value.ref c ∧ Kb P w s1.heap k2 c := fun u m => i2 u (List.mem_cons_of_mem _ m)
    dsimp only
    by_cases very : (b == c || (carriedByValue (.ref b) && carriedByValue (.ref c))) = true
    · exact wp_if_pos very (wpAny_pure ⟨rfl, rfl, more⟩)
    · refine wp_if_neg very (wpAny_bind ((nestedKind P w).quiet hk ?_))
      simp only [Bool.not_true, Bool.false_eq_true, if_false]
      refine wpAny_bind ((nestedKind P w).quiet hc ?_)
      simp only [Bool.not_true, Bool.false_eq_true, if_false]
      refine wpAny_bind (cls_key k _ 8 _ hk.1 hk.2 _ _ _ ?_)
      simp only [Bool.false_eq_true, if_false]
      refine wpAny_bind (cls_key k2 _ 8 _ hc.1 hc.2 _ _ _ ?_)
      simp only [Bool.false_eq_true, if_false]
      exact wpAny_pure ⟨rfl, rfl, more⟩
  · obtain ⟨r1, r2⟩ := r
    obtain ⟨i1, rfl, _⟩ := I
    simp only at i1
    subst i1
    exact wpAny_pure h
end
end L2.NSet
set_option Elab.async false
set_option linter.all false
set_option maxRecDepth 100000
set_option maxHeartbeats 4000000
/-! Sets whose members are tuples, nested as they may be: seeking a member in the table. -/
namespace L2.NSet
open PySem PySem.Spec PyProof.Rows
/-- the rows of the table: hash and address of each member -/
abbrev Mem : Type := Addr × NestedKey
def rowN (w : World) (p : Mem) : Int × Value := (p.2.hash w, Value.ref p.1)
structure Tab (P : Program) (w : World) (h : Heap) (a : Addr) (L : List Mem) (es : Array (Int × Value)) (ep : Nat) (t : SetTable) : Prop where
  here : ∃ o, h.get? a = some o ∧ o.ExactSet ∧ o.data = .set es ep t
  rows : es.toList = L.map (rowN w)
  lay : TabOk t (L.map fun p => p.2.hash w)
  once : (L.map (·.2)).Nodup
  each : ∀ p ∈ L, Kb P w h p.2 p.1
  told : w.params.followText "set-order" = true ∨ t.led = true
  free : L.length * 5 < t.mask * 3
  few : L.length < 64
section
variable {P : Program} {w : World} {A : Around} {E : Value → Shared → Prop} {s : Shared} {a : Addr} {L : List Mem} {es : Array (Int × Value)} {ep : Nat} {t : SetTable}
theorem rows_size (h : es.toList = L.map (rowN w)) : es.size = L.length := by
  rw [← Array.length_toList, h, List.length_map]
theorem rows_at (h : es.toList = L.map (rowN w)) {i : Nat} {p : Mem} (e : L[i]? = some p) : es[i]? = some (p.2.hash w, Value.ref p.1) := by
  rw [← Array.getElem?_toList, h, List.getElem?_map, e]
  rfl
theorem Tab.size (R : Tab P w s.heap a L es ep t) : es.size = L.length := rows_size R.rows
theorem Tab.fits (R : Tab P w s.heap a L es ep t) : t.fits es.size = true := by
  have h1 := R.lay.sz
  have h2 := R.size
  have h3 := R.free
  rw [List.length_map] at h1
  unfold SetTable.fits SetTable.fill
  rw [R.lay.dm, Bool.and_eq_true, beq_iff_eq, decide_eq_true_eq]
  show t.place.size = es.size ∧ t.place.size + 0 ≤ t.mask
  omega
/-- where the way of a hash begins -/
abbrev top0 (m : Nat) (hx : Int) : SetTable.Probe := runAt m (SetTable.bits hx % (m + 1)) (SetTable.bits hx)
theorem top_dummy (m : Nat) (hx : Int) (c : Nat) : (nth m (top0 m hx) c).dummy = none := by
  have key : ∀ (n : Nat) (p : SetTable.Probe), p.dummy = none → (nth m p n).dummy = none := fun n => by
    induction n with
    | zero => exact fun p h => h
    | succ n ih =>
      refine fun p h => ih (adv m p) ?_
      unfold adv
      split <;> exact h
  exact key c _ rfl
/-- the rest behind a candidate whose answer is known -/
theorem rest_of (R : Tab P w s.heap a L es ep t) {x : Addr} {k : NestedKey} (hx : Kb P w s.heap k x) (hu : A.units + 8 < cLine) {i j : Nat} {p : Mem} (hp : L[i]? = some p) (hi : t.place.toList[i]? = some j) {f : Nat} {nx : SetTable.Probe} {Q : SetFound → Shared → Prop}
    (yes : p.2 = k → Q (.there none) s) (no : p.2 ≠ k → wpAny (model P w) A (setSearchFrom a (.ref x) (k.hash w) true f (some nx)) Q E s) :
    wpAny (model P w) A (searchRest a (.ref x) (k.hash w) true f es t j i nx) Q E s := by
  obtain ⟨o, ho, ox, od⟩ := R.here
  have mp : p ∈ L := List.mem_of_getElem? hp
  unfold searchRest
  rw [rows_at R.rows hp]
  dsimp only
  refine wpAny_bind (wpAny_holding ((nestedKind P w).eqBool hu (R.each p mp) hx ?_))
  refine wpAny_bind (wpAny_setState_of ho od R.fits ?_)
  dsimp only
  by_cases e : p.2 = k
  · exact wp_if_pos (by simp [e]) (wpAny_pure (yes e))
  · refine wp_if_neg (by simp [e]) ?_
    rw [sameMem]
    dsimp only
    simp only [if_true, slot_live R.lay.ris hi, rows_at R.rows hp]
    refine wpAny_bind (wpAny_isSame_ref_self (wpAny_bind (wpAny_pure ?_)))
    simp only [if_true]
    exact wp_if_neg (by simp [e]) (no e)
theorem seek (R : Tab P w s.heap a L es ep t) {x : Addr} {k : NestedKey} (hx : Kb P w s.heap k x) (hu : A.units + 8 < cLine) {N : Nat} (nf : N < 10 * SetTable.turns t.mask)
    (n0 : way t.mask (k.hash w) N ∉ t.place.toList) (nb : ∀ c, c < N → way t.mask (k.hash w) c ∈ t.place.toList) {Q : SetFound → Shared → Prop}
    (yes : k ∈ L.map (·.2) → Q (.there none) s) (no : k ∉ L.map (·.2) → Q (.free (way t.mask (k.hash w) N) false) s) :
    ∀ (f c : Nat) (st : Option SetTable.Probe), st.getD (t.probeStart (k.hash w)) = nth t.mask (top0 t.mask (k.hash w)) c → c ≤ N → N - c < f →
      (∀ (i : Nat) p, L[i]? = some p → p.2 = k → ∃ d, c ≤ d ∧ d < N ∧ t.place.toList[i]? = some (way t.mask (k.hash w) d)) →
      wpAny (model P w) A (setSearchFrom a (.ref x) (k.hash w) true f st) Q E s
  | 0, _, _, _, _, z, _ => absurd z (Nat.not_lt_zero _)
  | f + 1, c, st, hst, hc, hf, ahead => by
    obtain ⟨o, ho, ox, od⟩ := R.here
    rw [setSearchFrom_succ]
    refine wpAny_bind (wpAny_setState_of ho od R.fits ?_)
    dsimp only
    have gw : ¬ t.gaveWay = true := by
      unfold SetTable.gaveWay
      rw [mask_odd R.lay.mok]
      decide
    refine wp_if_neg gw ?_
    have sh : ∀ q, nth t.mask (nth t.mask (top0 t.mask (k.hash w)) c) q = nth t.mask (top0 t.mask (k.hash w)) (c + q) := fun q => (nth_add t.mask c _ q).symm
    have ej : ∀ q, (nth t.mask (nth t.mask (top0 t.mask (k.hash w)) c) q).j = way t.mask (k.hash w) (c + q) := fun q => congrArg SetTable.Probe.j (sh q)
    have cN : c + (N - c) = N := by omega
    have G := go_spec t R.lay.ris R.lay.dm (fun i => (es[i]?.map (·.1)).getD 0) (k.hash w) (10 * SetTable.turns t.mask) (N - c) _ (top_dummy t.mask (k.hash w) c) (by omega)
      (fun q hq => by rw [ej]; exact nb (c + q) (by omega)) (by rw [ej, cN]; exact n0)
    have hat : ∀ (i : Nat) p, L[i]? = some p → (fun i => (es[i]?.map (·.1)).getD 0) i = p.2.hash w := fun i p hp => by
      show (es[i]?.map (·.1)).getD 0 = _
      rw [rows_at R.rows hp]
      rfl
    rcases G with ⟨q, i, hq, hi, hh, skip, pr⟩ | ⟨skip, pr⟩
    · rw [ej] at hi
      have pr2 : t.probe (fun i => (es[i]?.map (·.1)).getD 0) (k.hash w) (st.getD (t.probeStart (k.hash w))) = some (.candidate (way t.mask (k.hash w) (c + q)) i (nth t.mask (top0 t.mask (k.hash w)) (c + (q + 1)))) := by
        rw [hst, ← ej, ← sh]
        exact pr
      rw [pr2]
      dsimp only
      have il : i < L.length := by
        have h1 : i < t.place.toList.length := (List.getElem?_eq_some_iff.mp hi).1
        have h2 := R.lay.sz
        rw [List.length_map] at h2
        rw [Array.length_toList] at h1
        omega
      obtain ⟨p, hp⟩ : ∃ p, L[i]? = some p := ⟨_, List.getElem?_eq_getElem il⟩
      have go : wpAny (model P w) A (searchRest a (.ref x) (k.hash w) true f es t (way t.mask (k.hash w) (c + q)) i (nth t.mask (top0 t.mask (k.hash w)) (c + (q + 1)))) Q E s := by
        refine rest_of R hx hu hp hi (fun e => yes (List.mem_map.mpr ⟨p, List.mem_of_getElem? hp, e⟩)) fun ne => ?_
        refine seek R hx hu nf n0 nb yes no f (c + (q + 1)) _ rfl (by omega) (by omega) fun i2 p2 h2 k2 => ?_
        obtain ⟨d, d1, d2, d3⟩ := ahead i2 p2 h2 k2
        have hk2 : (fun i => (es[i]?.map (·.1)).getD 0) i2 = k.hash w := (hat i2 p2 h2).trans (by rw [k2])
        refine ⟨d, ?_, d2, d3⟩
        rcases Nat.lt_trichotomy d (c + q) with z | z | z
        · exact absurd hk2 (skip (d - c) i2 (by omega) (by rw [ej, show c + (d - c) = d by omega]; exact d3))
        · rw [z] at d3
          have s1 := slot_live R.lay.ris hi
          have s2 := slot_live R.lay.ris d3
          rw [s1] at s2
          injection s2 with s2
          rw [← s2, hp] at h2
          cases h2
          exact absurd k2 ne
        · omega
      by_cases led : t.led = true
      · exact wp_if_neg (by simp [led]) go
      · refine wp_if_pos (by simp [led]) (wpAny_bind (seen_key hx (fun y hy => ?_) ?_))
        · obtain ⟨e, he, rfl⟩ := List.mem_map.mp hy
          have he2 : e ∈ es.toList := by
            have : e ∈ es ∧ e.1 = k.hash w := by simpa using he
            simpa using this.1
          rw [R.rows] at he2
          obtain ⟨p2, m2, rfl⟩ := List.mem_map.mp he2
          exact ⟨p2.2, p2.1, rfl, R.each p2 m2⟩
        · exact wp_if_neg (by decide) go
    · have pr2 : t.probe (fun i => (es[i]?.map (·.1)).getD 0) (k.hash w) (st.getD (t.probeStart (k.hash w))) = some (.empty (way t.mask (k.hash w) N) none) := by
        have e2 : way t.mask (k.hash w) N = (nth t.mask (nth t.mask (top0 t.mask (k.hash w)) c) (N - c)).j := by rw [ej, cN]
        rw [hst, e2]
        exact pr
      rw [pr2]
      dsimp only
      refine wpAny_pure (no fun m => ?_)
      obtain ⟨p, mp, ek⟩ := List.mem_map.mp m
      obtain ⟨i, hi, e⟩ := List.getElem_of_mem mp
      have hp : L[i]? = some p := by rw [List.getElem?_eq_getElem hi, e]
      obtain ⟨d, d1, d2, d3⟩ := ahead i p hp ek
      exact skip (d - c) i (by omega) (by rw [ej, show c + (d - c) = d by omega]; exact d3) ((hat i p hp).trans (by rw [ek]))
theorem seek_all (R : Tab P w s.heap a L es ep t) {x : Addr} {k : NestedKey} (hx : Kb P w s.heap k x) (hu : A.units + 8 < cLine) {Q : SetFound → Shared → Prop}
    (yes : k ∈ L.map (·.2) → Q (.there none) s)
    (no : ∀ N, k ∉ L.map (·.2) → way t.mask (k.hash w) N ∉ t.place.toList → (∀ c, c < N → way t.mask (k.hash w) c ∈ t.place.toList) → Q (.free (way t.mask (k.hash w) N) false) s) :
    wpAny (model P w) A (setSearch a (.ref x) (k.hash w) true) Q E s := by
  have fr := R.free
  obtain ⟨N, nf, n0, nb⟩ := R.lay.first (by rw [List.length_map]; omega) (k.hash w)
  have small : N < 100000 := by
    have : 10 * SetTable.turns t.mask ≤ 1420 := by
      unfold SetTable.turns
      rcases R.lay.mok with e | e | e <;> omega
    omega
  unfold setSearch
  refine seek R hx hu nf n0 nb yes (fun m => no N m n0 nb) 100000 0 none rfl (Nat.zero_le _) (by omega) fun i p hp hk => ?_
  have hi : (L.map fun p => p.2.hash w)[i]? = some (k.hash w) := by
    rw [List.getElem?_map, hp, ← hk]
    rfl
  have il : i < t.place.toList.length := by
    have h1 : i < L.length := (List.getElem?_eq_some_iff.mp hp).1
    have h2 := R.lay.sz
    rw [List.length_map] at h2
    rw [Array.length_toList]
    omega
  have hj := List.getElem?_eq_getElem il
  obtain ⟨c, hc, e⟩ := R.lay.before n0 hi hj
  exact ⟨c, Nat.zero_le _, hc, by rw [hj, e]⟩
end
end L2.NSet
set_option Elab.async false
set_option linter.all false
set_option maxRecDepth 100000
set_option maxHeartbeats 4000000
/-! Sets whose members are tuples, nested as they may be: laying a member down. -/
namespace L2.NSet
open PySem PySem.Spec PyProof.Rows
section
variable {P : Program} {w : World} {A : Around} {E : Value → Shared → Prop} {s : Shared} {a : Addr} {L : List Mem} {es : Array (Int × Value)} {ep : Nat} {t : SetTable}
/-- rows picked by places -/
theorem picked (h : es.toList = L.map (rowN w)) {l : List Nat} (hl : ∀ i ∈ l, i < L.length) : ∃ M : List Mem, l.filterMap (fun i => es[i]?) = M.map (rowN w) ∧ M = l.filterMap (fun i => L[i]?) ∧
    (M.map fun p => p.2.hash w) = l.map fun i => (es.map (·.1)).getD i 0 := by
  induction l with
  | nil => exact ⟨[], rfl, rfl, rfl⟩
  | cons i l ih =>
    obtain ⟨M, m1, m2, m3⟩ := ih fun j m => hl j (List.mem_cons_of_mem _ m)
    have li := hl i List.mem_cons_self
    have hp : L[i]? = some L[i] := List.getElem?_eq_getElem li
    have he := rows_at h hp
    refine ⟨L[i] :: M, ?_, ?_, ?_⟩
    · rw [List.filterMap_cons_some he, m1]
      rfl
    · rw [List.filterMap_cons_some hp, m2]
    · rw [List.map_cons, List.map_cons, m3]
      have e5 : (es.map (·.1))[i]? = some ((L[i]).2.hash w) := by
        rw [Array.getElem?_map, he]
        rfl
      simp [Array.getD_eq_getD_getElem?, e5]
theorem all_places (L : List Mem) : (List.range L.length).filterMap (fun i => L[i]?) = L := by
  have key : ∀ n, n ≤ L.length → (List.range n).filterMap (fun i => L[i]?) = L.take n := fun n => by
    induction n with
    | zero => exact fun _ => rfl
    | succ n ih =>
      intro hn
      have lt : n < L.length := hn
      have hp : L[n]? = some L[n] := List.getElem?_eq_getElem lt
      rw [List.range_succ, List.filterMap_append, ih (Nat.le_of_lt lt), List.take_succ, hp, List.filterMap_cons_some hp]
      rfl
  rw [key L.length (Nat.le_refl _), List.take_length]
theorem reordered (h : es.toList = L.map (rowN w)) {order : Array Nat} (pm : order.toList.Perm (List.range L.length)) :
    ∃ M : List Mem, (order.filterMap (es[·]?)).toList = M.map (rowN w) ∧ M.Perm L ∧ (M.map fun p => p.2.hash w) = order.toList.map fun i => (es.map (·.1)).getD i 0 := by
  obtain ⟨M, m1, m2, m3⟩ := picked h (l := order.toList) fun i m => List.mem_range.mp (pm.mem_iff.mp m)
  refine ⟨M, ?_, ?_, m3⟩
  · rw [Array.toList_filterMap]
    exact m1
  · have q := pm.filterMap fun i => L[i]?
    rw [all_places, ← m2] at q
    exact q
/-- the table laid anew -/
theorem widen {o : Obj} (ho : s.heap.get? a = some o) (ox : o.ExactSet) (od : o.data = .set es ep t) (hr : es.toList = L.map (rowN w)) (hz : t.place.size = es.size) (hd : t.dummies = #[]) (hf : es.size ≤ t.mask)
    (nd : (L.map (·.2)).Nodup) (each : ∀ p ∈ L, Kb P w s.heap p.2 p.1) (told : w.params.followText "set-order" = true ∨ t.led = true) (few : L.length < 64) {want M : Nat}
    (hw : SetTable.sizeAbove want - 1 = M) (hM : MaskOk M) (h128 : SetTable.sizeAbove want ≤ 128) (hroom : L.length * 5 < M * 3) {Q : Unit → Shared → Prop}
    (hQ : ∀ h2 L2 es2 ep2 t2, Heap.SameBut a s.heap h2 → Tab P w h2 a L2 es2 ep2 t2 → L2.Perm L → Q () { s with heap := h2 }) : wpAny (model P w) A (setRelay a want) Q E s := by
  have sz := rows_size hr
  have fits : t.fits es.size = true := by
    unfold SetTable.fits SetTable.fill
    rw [hd, Bool.and_eq_true, beq_iff_eq, decide_eq_true_eq]
    show t.place.size = es.size ∧ t.place.size + 0 ≤ t.mask
    omega
  obtain ⟨t2, order, e, pm, T, em, el, e3, e4⟩ := relaid_ok t (hs := es.map (·.1)) (wanted := want) hw hM (by rw [Array.size_map, sz]; omega)
  rw [Array.size_map, sz] at pm
  obtain ⟨M2, r1, r2, r3⟩ := reordered hr pm
  rw [← r3] at T
  have z2 : (order.filterMap (es[·]?)).size = es.size := by rw [rows_size r1, r2.length_eq, sz]
  rw [setRelay_eq]
  refine wpAny_bind (wpAny_setState_of ho od fits ?_)
  dsimp only
  refine wp_if_neg (by rw [sizeLine_eq]; omega) ?_
  rw [e]
  dsimp only
  refine wpAny_bind (wp_if_neg (by rw [z2]; simp) (wpAny_pure ?_))
  dsimp only
  refine wpAny_storeSet_of ho od ?_ (by rw [z2, sz, sizeLine_eq]; omega)
  have sb := Heap.SameBut.update s.heap a (Obj.putSet (order.filterMap (es[·]?)) t2)
  refine hQ _ M2 (order.filterMap (es[·]?)) (ep + 1) t2 sb ⟨⟨_, store_at ho od, ⟨ox.1, ox.2.1, ox.2.2⟩, rfl⟩, r1, T, (r2.map (·.2)).nodup_iff.mpr nd, fun p m => kb_but (each p (r2.mem_iff.mp m)) ho od sb, by rw [el]; exact told, ?_, by rw [r2.length_eq]; exact few⟩ r2
  rw [r2.length_eq, em]
  exact hroom
theorem put_mid (L : List Mem) (p : Nat) (x : Mem) : (L.take p ++ x :: L.drop p).Perm (x :: L) := by
  have h : (L.take p ++ x :: L.drop p).Perm (x :: (L.take p ++ L.drop p)) := List.perm_middle
  rwa [List.take_append_drop] at h
/-- adding a tuple -/
theorem lay (R : Tab P w s.heap a L es ep t) {x : Addr} {k : NestedKey} (hx : Kb P w s.heap k x) (hu : A.units + 8 < cLine) (few : L.length + 1 < 64) {Q : Bool → Shared → Prop}
    (hQ : ∀ b h2 L2 es2 ep2 t2, Heap.SameBut a s.heap h2 → Tab P w h2 a L2 es2 ep2 t2 → (k ∈ L.map (·.2) → L2 = L) → (k ∉ L.map (·.2) → L2.Perm ((x, k) :: L)) → Q b { s with heap := h2 }) :
    wpAny (model P w) A (setAddHashed a (.ref x) (k.hash w)) Q E s := by
  obtain ⟨o, ho, ox, od⟩ := R.here
  have sz := R.size
  have fr := R.free
  unfold setAddHashed
  refine wpAny_holding ?_
  rw [show (100000 : Nat) = 99999 + 1 from rfl, setAddHashedIn_succ]
  refine wpAny_bind (wpAny_setState_of ho od R.fits ?_)
  dsimp only
  refine wp_if_neg (by simp [byScan, Value.scannable]) ?_
  refine wpAny_bind (seek_all R hx hu (fun m => ?_) fun N m n0 nb => ?_)
  · dsimp only
    exact wpAny_pure (hQ false s.heap L es ep t (Heap.SameBut.refl a s.heap) R (fun _ => rfl) fun z => absurd m z)
  dsimp only
  refine wpAny_bind (wpAny_setState_of ho od R.fits ?_)
  dsimp only
  obtain ⟨q1, q2, q3, q4, q5, _, _, _, q9⟩ := R.lay.put n0 nb
  generalize t.put (way t.mask (k.hash w) N) = pt at q1 q3 q4 q5 q9 ⊢
  obtain ⟨t1, p⟩ := pt
  dsimp only at q1 q3 q4 q5 q9 ⊢
  subst q1
  have mid : ∀ b : Bool, wpAny (model P w) A (do
      storeSet a (SetTable.insertAt es (SetTable.below t.place (way t.mask (k.hash w) N)) (k.hash w, Value.ref x)) (if b = true then t1 else { t1 with plain := false })
      if (!false && (if b = true then t1 else { t1 with plain := false }).tooFull) = true then setRelay a (SetTable.grown (es.size + 1))
      return true) Q E s := fun b => by
    have hin : (SetTable.insertAt es (SetTable.below t.place (way t.mask (k.hash w) N)) (k.hash w, Value.ref x)).toList = (L.take (SetTable.below t.place (way t.mask (k.hash w) N)) ++ (x, k) :: L.drop (SetTable.below t.place (way t.mask (k.hash w) N))).map (rowN w) := by
      rw [SetTable.toList_insertAt, R.rows, List.map_append, List.map_cons, List.map_take, List.map_drop]
      rfl
    generalize SetTable.below t.place (way t.mask (k.hash w) N) = p at q2 q3 hin ⊢
    have pm := put_mid L p (x, k)
    have len : (L.take p ++ (x, k) :: L.drop p).length = L.length + 1 := pm.length_eq
    have hh : (L.take p ++ (x, k) :: L.drop p).map (fun p => p.2.hash w) = (L.map fun p => p.2.hash w).take p ++ k.hash w :: (L.map fun p => p.2.hash w).drop p := by
      rw [List.map_append, List.map_cons, List.map_take, List.map_drop]
    rw [← hh] at q3
    have nd : ((L.take p ++ (x, k) :: L.drop p).map (·.2)).Nodup := (pm.map (·.2)).nodup_iff.mpr (List.nodup_cons.mpr ⟨m, R.once⟩)
    have z1 := rows_size hin
    rw [len] at z1
    generalize SetTable.insertAt es p (k.hash w, Value.ref x) = es1 at hin z1 ⊢
    generalize L.take p ++ (x, k) :: L.drop p = L1 at pm len q3 nd hin
    obtain ⟨u, hu2, u3, u4, u5, u6⟩ : ∃ u : SetTable, (if b = true then t1 else { t1 with plain := false }) = u ∧ TabOk u (L1.map fun p => p.2.hash w) ∧ u.mask = t.mask ∧ u.led = t.led ∧ u.fill = L.length + 1 := by
      cases b
      · exact ⟨{ t1 with plain := false }, rfl, ⟨q3.ris, q3.dm, q3.sz, q3.mok, q3.bd, q3.reach⟩, q4, q5, by rw [List.length_map] at q9; exact q9⟩
      · exact ⟨t1, rfl, q3, q4, q5, by rw [List.length_map] at q9; exact q9⟩
    rw [hu2]
    refine wpAny_bind (wpAny_storeSet_of ho od ?_ (by rw [z1, sizeLine_eq]; omega))
    have sb : Heap.SameBut a s.heap (s.heap.update a (Obj.putSet es1 u)) := Heap.SameBut.update ..
    have ho1 := store_at (es' := es1) (t' := u) ho od
    generalize s.heap.update a (Obj.putSet es1 u) = h1 at sb ho1 ⊢
    have each : ∀ p ∈ L1, Kb P w h1 p.2 p.1 := fun p mp => by
      rcases List.mem_cons.mp (pm.mem_iff.mp mp) with e | mp
      · rw [e]
        exact kb_but hx ho od sb
      · exact kb_but (R.each p mp) ho od sb
    have told : w.params.followText "set-order" = true ∨ u.led = true := by rw [u5]; exact R.told
    by_cases full : u.tooFull = true
    · refine wp_if_pos (by simp [full]) (wpAny_bind ?_)
      have tight : (L.length + 1) * 5 ≥ u.mask * 3 := by
        have h := full
        unfold SetTable.tooFull at h
        rw [decide_eq_true_eq, u6] at h
        exact h
      rw [sz]
      have z2 : u.place.size = es1.size := by
        have h := u3.sz
        rw [List.length_map, len] at h
        rw [h, z1]
      have two : (t.mask = 7 ∧ L.length = 4) ∨ (t.mask = 31 ∧ L.length = 18) := by
        rcases R.lay.mok with e | e | e
        · rw [u4, e] at tight
          rw [e] at fr
          exact .inl ⟨e, by omega⟩
        · rw [u4, e] at tight
          rw [e] at fr
          exact .inr ⟨e, by omega⟩
        · rw [u4, e] at tight
          omega
      have go : ∀ M, SetTable.sizeAbove (SetTable.grown (L.length + 1)) - 1 = M → MaskOk M → SetTable.sizeAbove (SetTable.grown (L.length + 1)) ≤ 128 → (L.length + 1) * 5 < M * 3 →
          wpAny (model P w) A (setRelay a (SetTable.grown (L.length + 1))) (fun _ s2 => wpAny (model P w) A (pure true) Q E s2) E { s with heap := h1 } := fun M g1 g2 g3 g4 =>
        widen (s := { s with heap := h1 }) ho1 ⟨ox.1, ox.2.1, ox.2.2⟩ rfl hin z2 u3.dm (by rw [z1, u4]; rcases two with ⟨e, e2⟩ | ⟨e, e2⟩ <;> omega) nd each told (by rw [len]; exact few) g1 g2 g3 (by rw [len]; exact g4)
          fun h2 L2 es2 ep2 t2 sb2 R2 pm2 => wpAny_pure (hQ true h2 L2 es2 ep2 t2 (sb.trans sb2) R2 (fun z => absurd z m) fun _ => pm2.trans pm)
      rcases two with ⟨_, e2⟩ | ⟨_, e2⟩
      · exact go 31 (by rw [e2, size_20]) (.inr (.inl rfl)) (by rw [e2, size_20]; decide) (by omega)
      · exact go 127 (by rw [e2, size_76]) (.inr (.inr rfl)) (by rw [e2, size_76]; decide) (by omega)
    · refine wp_if_neg (by simp [full]) (wpAny_pure (hQ true h1 L1 es1 (ep + 1) u sb ⟨⟨_, ho1, ⟨ox.1, ox.2.1, ox.2.2⟩, rfl⟩, hin, u3, nd, each, told, ?_, by rw [len]; exact few⟩ (fun z => absurd z m) fun _ => pm))
      have h := full
      unfold SetTable.tooFull at h
      rw [decide_eq_true_eq, u6] at h
      rw [len]
      omega
  by_cases pl : t1.plain = true
  · refine wp_if_pos pl (wpAny_bind (hbv_key k _ 8 _ hx.1 hx.2 _ _ _ fun b => ?_))
    exact mid b
  · refine wp_if_neg pl (wpAny_bind (wpAny_pure ?_))
    exact mid true
end
end L2.NSet
set_option Elab.async false
set_option linter.all false
set_option maxRecDepth 100000
set_option maxHeartbeats 4000000
/-! set(tuples): a list or a tuple of tuples goes into a new set. -/
namespace L2.NSet
open PySem PySem.Spec PyProof.Rows
section
variable {P : Program} {w : World} {A : Around} {E : Value → Shared → Prop} {s : Shared}
/-- what stands in the set when the first i have gone in -/
structure In (ks : List Mem) (i : Nat) (L : List Mem) : Prop where
  from_ : ∀ p ∈ L, p ∈ ks.take i
  to_ : ∀ p ∈ ks.take i, p.2 ∈ L.map (·.2)
  le : L.length ≤ i
theorem In.zero (ks : List Mem) : In ks 0 [] := ⟨fun p h => (nomatch h), fun p h => (by simp at h), Nat.le_refl _⟩
theorem In.next {ks L M : List Mem} {i : Nat} {x : Mem} (g : In ks i L) (h : ks[i]? = some x) (old : x.2 ∈ L.map (·.2) → M = L) (new : x.2 ∉ L.map (·.2) → M.Perm (x :: L)) : In ks (i + 1) M := by
  have tk : ks.take (i + 1) = ks.take i ++ [x] := by
    rw [List.take_succ, h]
    rfl
  by_cases m : x.2 ∈ L.map (·.2)
  · rw [old m]
    refine ⟨fun p mp => ?_, fun p mp => ?_, Nat.le_succ_of_le g.le⟩
    · rw [tk]
      exact List.mem_append_left _ (g.from_ p mp)
    · rw [tk] at mp
      rcases List.mem_append.mp mp with z | z
      · exact g.to_ p z
      · rw [List.mem_singleton.mp z]
        exact m
  · have pm := new m
    refine ⟨fun p mp => ?_, fun p mp => ?_, ?_⟩
    · rw [tk]
      rcases List.mem_cons.mp (pm.mem_iff.mp mp) with e | z
      · rw [e]
        exact List.mem_append_right _ (List.mem_singleton.mpr rfl)
      · exact List.mem_append_left _ (g.from_ p z)
    · rw [(pm.map (·.2)).mem_iff, List.map_cons]
      rw [tk] at mp
      rcases List.mem_append.mp mp with z | z
      · exact List.mem_cons_of_mem _ (g.to_ p z)
      · rw [List.mem_singleton.mp z]
        exact List.mem_cons_self
    · rw [pm.length_eq, List.length_cons]
      exact Nat.succ_le_succ g.le
theorem Tab.keep {h h2 : Heap} {a : Addr} {L : List Mem} {es : Array (Int × Value)} {ep : Nat} {t : SetTable} (R : Tab P w h a L es ep t) (ha : ∀ o, h.get? a = some o → h2.get? a = some o) (each : ∀ p ∈ L, Kb P w h2 p.2 p.1) : Tab P w h2 a L es ep t :=
  let ⟨o, ho, r⟩ := R.here
  ⟨⟨o, ha o ho, r⟩, R.rows, R.lay, R.once, each, R.told, R.free, R.few⟩
abbrev newSet (w : World) : Obj := { cls := .type "set", dict := none, data := .set #[] 0 (.fresh 0 0 (!w.params.followText "set-order")) }
theorem Tab.new {h : Heap} {a : Addr} (ho : h.get? a = some (newSet w)) : Tab P w h a [] #[] 0 (.fresh 0 0 (!w.params.followText "set-order")) where
  here := ⟨_, ho, ⟨rfl, rfl, rfl⟩, rfl⟩
  rows := rfl
  lay := ⟨List.Pairwise.nil, rfl, rfl, .inl rfl, fun x hx => (nomatch hx), fun i h j hi => (by simp at hi)⟩
  once := List.nodup_nil
  each := fun p hp => nomatch hp
  told := by
    show _ ∨ (!w.params.followText "set-order") = true
    cases w.params.followText "set-order"
    · exact .inr rfl
    · exact .inl rfl
  free := by
    show 0 * 5 < 7 * 3
    decide
  few := by
    show 0 < 64
    decide
theorem kb_keep {h h2 : Heap} {k : NestedKey} {b : Addr} (x : Kb P w h k b) (hk : ∀ c o, h.get? c = some o → h2.get? c = some o) : Kb P w h2 k b := kb_at x fun c o _ _ e _ => hk c o e
/-- the loop of set.update -/
theorem loopN {I : Addr} {fp wr : List Addr} {G : Array GenState → Array GenState → Prop} {n : Nat} {Pv : Nat → Value → Prop} {St : Nat → Shared → Prop} {R : Result → Shared → Prop}
    (W : WalksS P w A.in1 I fp wr G n Pv St) (S : Addr) (nf : S ∉ fp) (ks : List Mem) (hn : n = ks.length) (few : ks.length < 64) (val : ∀ i v, Pv i v → ∃ p, ks[i]? = some p ∧ v = .ref p.1)
    (g0 : Heap) (each : ∀ p ∈ ks, Kb P w g0 p.2 p.1) (s0 : g0.get? S = none) (w0 : ∀ b ∈ wr, g0.get? b = none) (hu : A.in1.units + 8 < cLine) :
    ∀ (m i : Nat) (s : Shared), n - i = m → i ≤ n → St i s → (∀ b o, g0.get? b = some o → s.heap.get? b = some o) → (∃ L es ep t, Tab P w s.heap S L es ep t ∧ In ks i L) →
      (∀ s2 L es ep t, Moved (S :: wr) G s s2 → Tab P w s2.heap S L es ep t → In ks n L → (∀ b o, g0.get? b = some o → s2.heap.get? b = some o) → R (.ok (.ret .none)) s2) →
      codeAny (model P w) A (.builtin "set.update.loop" ⟨[.ref S, .ref I], []⟩) R s := by
  have nw : S ∉ wr := fun h => nf (W.sub _ h)
  have wider : ∀ b ∈ wr, b ∈ S :: wr := fun b m => List.mem_cons_of_mem _ m
  have hold : ∀ {s1 s2 : Shared}, Moved wr G s1 s2 → (∀ b o, g0.get? b = some o → s1.heap.get? b = some o) → ∀ b o, g0.get? b = some o → s2.heap.get? b = some o := fun mv k b o e =>
    mv.heap b o (fun m => by rw [w0 b m] at e; cases e) (k b o e)
  intro m
  induction m with
  | zero =>
    rintro i s hm hi hst kp ⟨L, es, ep, t, R0, g⟩ hR
    obtain rfl : i = n := by omega
    refine codeAny_builtin F.entry_set_update_loop ?_
    rw [Around.under_plainId F.plain_set_update_loop _] <;> show wpAny _ A.in1 (pyNext (.ref I) >>= _) _ _ s
    refine wpAny_bind (W.done s _ _ hst fun s2 mv => ?_)
    have kp2 := hold mv kp
    exact wpAny_pure (hR s2 L es ep t (mv.mono wider) (R0.keep (fun o e => mv.heap S o nw e) fun p mp => kb_keep (each p (List.mem_of_mem_take (g.from_ p mp))) kp2) g kp2)
  | succ m ih =>
    rintro i s hm hi hst kp ⟨L, es, ep, t, R0, g⟩ hR
    have lt : i < n := by omega
    refine codeAny_builtin F.entry_set_update_loop ?_
    rw [Around.under_plainId F.plain_set_update_loop _] <;> show wpAny _ A.in1 (pyNext (.ref I) >>= _) _ _ s
    refine wpAny_bind (W.item i s _ _ lt hst fun v s2 hv hst2 mv => ?_)
    obtain ⟨p, hp, rfl⟩ := val i v hv
    have kp2 := hold mv kp
    have R2 : Tab P w s2.heap S L es ep t := R0.keep (fun o e => mv.heap S o nw e) fun q mq => kb_keep (each q (List.mem_of_mem_take (g.from_ q mq))) kp2
    have hx : Kb P w s2.heap p.2 p.1 := kb_keep (each p (List.mem_of_getElem? hp)) kp2
    show wpAny _ A.in1 (holding [Value.ref p.1] (setAdd S (.ref p.1)) >>= _) _ _ s2
    unfold setAdd
    refine wpAny_bind (wpAny_holding (wpAny_holding (wpAny_bind ((nestedKind P w).pyHash hu hx ?_))))
    refine lay (s := { s2 with toks := s2.toks + p.2.draws }) R2 hx hu (by have := g.le; omega) fun b h3 L3 es3 ep3 t3 sb R3 c1 c2 => ?_
    have kp3 : ∀ b o, g0.get? b = some o → h3.get? b = some o := fun b o e => (sb.2 b fun z => by rw [z, s0] at e; cases e).trans (kp2 b o e)
    refine wpAny_pure ⟨plainId_quiet F.plain_set_update_loop _, ih (i + 1) _ (by omega) lt (W.frame _ s2 _ _ hst2 (Nat.le_add_right _ _) fun b mb o e => ?_) kp3 ⟨L3, es3, ep3, t3, R3, g.next hp c1 c2⟩
      fun s4 L4 es4 ep4 t4 mv4 R4 g4 kp4 => hR s4 L4 es4 ep4 t4 (Moved.trans W.gtrans ((mv.mono wider).then_heap (Nat.le_add_right _ _) fun b o nb e => ?_) mv4) R4 g4 kp4⟩
    · rw [sb.2 b fun z => nf (by rw [← z]; exact mb)]
      exact e
    · rw [sb.2 b fun z => nb (by rw [z]; exact List.mem_cons_self)]
      exact e

set_option maxHeartbeats 16000000 in
/-- set(a list of tuples) -/
theorem call_set_list {l : Addr} {items : Array Value} (ks : List Mem) {Q : Value → Shared → Prop} (hh : A.handled = none) (hl : s.heap.IsList l items) (it : items.toList = ks.map fun p => Value.ref p.1)
    (each : ∀ p ∈ ks, Kb P w s.heap p.2 p.1) (few : ks.length < 64) (hu : A.units + 20 < cLine)
    (h : ∀ (h2 : Heap) (tk : Nat) L es ep t, Tab P w h2 s.heap.objs.size L es ep t → In ks ks.length L → (∀ b o, s.heap.get? b = some o → h2.get? b = some o) → Q (.ref s.heap.objs.size) { s with heap := h2, toks := tk }) :
    wpAny (model P w) A (call (.type "set") [.ref l]) Q E s := by
  have isz : items.size = ks.length := by rw [← Array.length_toList, it, List.length_map]
  obtain ⟨mc, mt, mmro⟩ := F.called_set.mro
  have mmade := F.called_set.made
  have msub := F.called_set.sub
  refine wpAny_call (codeAny_of_tree ?_) <;> show wpAny _ _ (callAny (.type "set") _) _ _ _
  refine wpAny_pure ⟨Code.quiet_builtin _ (by decide +kernel), codeAny_builtin F.entry_type_call ?_⟩ <;> rw [Around.under_plain (weight_type_call_type "set" [.ref l] []) rfl]
  have m1 := F.called_set.notType
  have m2 := F.called_set.canCreate
  have m3 := F.typeCall_set_1 (.ref l)
  repeat (any_goals (first | assumption | wp_step))
  refine codeAny_mono (code_set_led1 (.ref l) (E := E) (Q₁ := fun obj s1 => obj = .ref s.heap.objs.size ∧ s1 = { s with heap := s.heap.push (newSet w) }) ⟨rfl, rfl⟩) fun r s1 hr => ?_
  match r, hr with
  | .error e, hr => exact hr
  | .ok (.ret obj), hr =>
    obtain ⟨rfl, rfl⟩ := hr
    have atS : (s.heap.push (newSet w)).get? s.heap.objs.size = some (newSet w) := Heap.get?_push_size _ rfl
    have tyS : Shared.TypeIs { s with heap := s.heap.push (newSet w) } (.ref s.heap.objs.size) "set" := ⟨_, atS, rfl⟩
    have m4 := F.called_set.init.lookup
    have m5 := F.called_set.init.bind (.ref s.heap.objs.size)
    repeat (any_goals (first | assumption | wp_step))
    refine codeAny_mono (codeAny_call_builtin (R := wants (fun r s2 => r = .none ∧ ∃ h2 tk L es ep t, s2 = { s with heap := h2, toks := tk } ∧ Tab P w h2 s.heap.objs.size L es ep t ∧ In ks ks.length L ∧
        (∀ b o, s.heap.get? b = some o → h2.get? b = some o)) E) F.called_set.init.plain F.entry_set_init (check_set_init_1 tyS ?_)) fun r2 s2 hr2 => ?_
    · obtain ⟨⟨_, odict, _, oslots⟩, hol, hcl, nl, hdl⟩ := hl
      simp only at hcl hdl
      subst hcl; subst hdl
      have hol2 : (s.heap.push (newSet w)).get? l = some { cls := .type "list", dict := odict, data := .seq items nl, slots := oslots } := Heap.get?_push_of_some _ hol
      have m6 := F.sub_list_set
      have m7 := F.sub_list_frozenset
      have m8 : (Value.type "list" == Value.type "dict") = false := by decide
      have hl1 : (s.heap.push (newSet w)).IsList l items := ⟨_, hol2, rfl, nl, rfl⟩
      unfold Builtin.«set.__init__» noKeywords Builtin.Frozenset.updateFrom
      generalize hPI : pyIter = PI
      wp_walk
      subst hPI
      refine wpAny_pyIter_list hl1 (wpAny_bind (wpAny_runValue ?_))
      have lS : l < s.heap.objs.size := Heap.lt_size hol
      have zS : (s.heap.push (newSet w)).objs.size = s.heap.objs.size + 1 := Heap.size_push ..
      have hh3 : A.in1.in1.in1.handled = none := by simp [hh]
      have nI : l ≠ (s.heap.push (newSet w)).objs.size := by rw [zS]; exact Nat.ne_of_lt (Nat.lt_succ_of_lt lS)
      have nf : s.heap.objs.size ∉ [(s.heap.push (newSet w)).objs.size, l] := by
        rw [zS]; simp only [List.mem_cons, List.not_mem_nil, or_false, not_or]
        exact ⟨Nat.ne_of_lt (Nat.lt_succ_self _), Nat.ne_of_gt lS⟩
      have val : ∀ (i : Nat) (v : Value), items[i]? = some v → ∃ p, ks[i]? = some p ∧ v = .ref p.1 := fun i v hv => by
        have q : items.toList[i]? = some v := by rw [Array.getElem?_toList]; exact hv
        rw [it, List.getElem?_map] at q
        obtain ⟨p, hp, e⟩ := Option.map_eq_some_iff.mp q
        exact ⟨p, hp, e.symm⟩
      have out : ∀ b, s.heap.objs.size ≤ b → s.heap.get? b = none := fun b hb => by
        cases q : s.heap.get? b with
        | none => rfl
        | some o => exact absurd (Nat.lt_of_lt_of_le (Heap.lt_size q) hb) (Nat.lt_irrefl _)
      refine loopN ((Walks.list hh3 _ l nI items).toS) s.heap.objs.size nf ks isz few val s.heap each (out _ (Nat.le_refl _)) (fun b mb => out b (by rw [List.mem_singleton.mp mb, zS]; exact Nat.le_succ _))
        (show A.units + 3 + 8 < cLine by omega) (items.size - 0) 0 _ (by omega) (Nat.zero_le _) ⟨⟨_, Heap.get?_push_size _ rfl, rfl, rfl⟩, (hl1.push _)⟩ (fun b o e => Heap.get?_push_of_some _ (Heap.get?_push_of_some _ e)) ?first ?last
      case first => exact ⟨[], #[], 0, _, Tab.new (Heap.get?_push_of_some _ atS), In.zero ks⟩
      case last =>
        rintro ⟨h2, g2, d2, tk2, os2⟩ L es ep t mv R2 g3 kp
        obtain rfl : g2 = s.gens := mv.gens
        obtain rfl : d2 = s.drawn := mv.drawn
        obtain rfl : os2 = s.os := mv.os
        rw [isz] at g3
        exact wpAny_pure (wpAny_pure ⟨rfl, h2, tk2, L, es, ep, t, rfl, R2, g3, kp⟩)
    · match r2, hr2 with
      | .error e, hr2 => exact hr2
      | .ok (.ret r), hr2 =>
        obtain ⟨rfl, h2, tk, L, es, ep, t, rfl, R2, g3, kp⟩ := hr2
        repeat (any_goals (first | assumption | wp_step))
        exact h _ _ _ _ _ _ R2 g3 kp

set_option maxHeartbeats 16000000 in
/-- set(a tuple of tuples) -/
theorem call_set_tuple {l : Addr} {items : Array Value} (ks : List Mem) {Q : Value → Shared → Prop} (hh : A.handled = none) (hl : s.heap.IsTuple l items) (it : items.toList = ks.map fun p => Value.ref p.1)
    (each : ∀ p ∈ ks, Kb P w s.heap p.2 p.1) (few : ks.length < 64) (hu : A.units + 20 < cLine)
    (h : ∀ (h2 : Heap) (tk : Nat) L es ep t, Tab P w h2 s.heap.objs.size L es ep t → In ks ks.length L → (∀ b o, s.heap.get? b = some o → h2.get? b = some o) → Q (.ref s.heap.objs.size) { s with heap := h2, toks := tk }) :
    wpAny (model P w) A (call (.type "set") [.ref l]) Q E s := by
  have isz : items.size = ks.length := by rw [← Array.length_toList, it, List.length_map]
  obtain ⟨mc, mt, mmro⟩ := F.called_set.mro
  have mmade := F.called_set.made
  have msub := F.called_set.sub
  refine wpAny_call (codeAny_of_tree ?_) <;> show wpAny _ _ (callAny (.type "set") _) _ _ _
  refine wpAny_pure ⟨Code.quiet_builtin _ (by decide +kernel), codeAny_builtin F.entry_type_call ?_⟩ <;> rw [Around.under_plain (weight_type_call_type "set" [.ref l] []) rfl]
  have m1 := F.called_set.notType
  have m2 := F.called_set.canCreate
  have m3 := F.typeCall_set_1 (.ref l)
  repeat (any_goals (first | assumption | wp_step))
  refine codeAny_mono (code_set_led1 (.ref l) (E := E) (Q₁ := fun obj s1 => obj = .ref s.heap.objs.size ∧ s1 = { s with heap := s.heap.push (newSet w) }) ⟨rfl, rfl⟩) fun r s1 hr => ?_
  match r, hr with
  | .error e, hr => exact hr
  | .ok (.ret obj), hr =>
    obtain ⟨rfl, rfl⟩ := hr
    have atS : (s.heap.push (newSet w)).get? s.heap.objs.size = some (newSet w) := Heap.get?_push_size _ rfl
    have tyS : Shared.TypeIs { s with heap := s.heap.push (newSet w) } (.ref s.heap.objs.size) "set" := ⟨_, atS, rfl⟩
    have m4 := F.called_set.init.lookup
    have m5 := F.called_set.init.bind (.ref s.heap.objs.size)
    repeat (any_goals (first | assumption | wp_step))
    refine codeAny_mono (codeAny_call_builtin (R := wants (fun r s2 => r = .none ∧ ∃ h2 tk L es ep t, s2 = { s with heap := h2, toks := tk } ∧ Tab P w h2 s.heap.objs.size L es ep t ∧ In ks ks.length L ∧
        (∀ b o, s.heap.get? b = some o → h2.get? b = some o)) E) F.called_set.init.plain F.entry_set_init (check_set_init_1 tyS ?_)) fun r2 s2 hr2 => ?_
    · obtain ⟨⟨_, odict, _, oslots⟩, hol, hcl, nl, hdl⟩ := hl
      simp only at hcl hdl
      subst hcl; subst hdl
      have hol2 : (s.heap.push (newSet w)).get? l = some { cls := .type "tuple", dict := odict, data := .seq items nl, slots := oslots } := Heap.get?_push_of_some _ hol
      have m6 := F.sub_tuple_set
      have m7 := F.sub_tuple_frozenset
      have m8 : (Value.type "tuple" == Value.type "dict") = false := by decide
      have hl1 : (s.heap.push (newSet w)).IsTuple l items := ⟨_, hol2, rfl, nl, rfl⟩
      unfold Builtin.«set.__init__» noKeywords Builtin.Frozenset.updateFrom
      generalize hPI : pyIter = PI
      wp_walk
      subst hPI
      refine wpAny_pyIter_tuple hl1 (wpAny_bind (wpAny_runValue ?_))
      have lS : l < s.heap.objs.size := Heap.lt_size hol
      have zS : (s.heap.push (newSet w)).objs.size = s.heap.objs.size + 1 := Heap.size_push ..
      have hh3 : A.in1.in1.in1.handled = none := by simp [hh]
      have nI : l ≠ (s.heap.push (newSet w)).objs.size := by rw [zS]; exact Nat.ne_of_lt (Nat.lt_succ_of_lt lS)
      have nf : s.heap.objs.size ∉ [(s.heap.push (newSet w)).objs.size, l] := by
        rw [zS]; simp only [List.mem_cons, List.not_mem_nil, or_false, not_or]
        exact ⟨Nat.ne_of_lt (Nat.lt_succ_self _), Nat.ne_of_gt lS⟩
      have val : ∀ (i : Nat) (v : Value), items[i]? = some v → ∃ p, ks[i]? = some p ∧ v = .ref p.1 := fun i v hv => by
        have q : items.toList[i]? = some v := by rw [Array.getElem?_toList]; exact hv
        rw [it, List.getElem?_map] at q
        obtain ⟨p, hp, e⟩ := Option.map_eq_some_iff.mp q
        exact ⟨p, hp, e.symm⟩
      have out : ∀ b, s.heap.objs.size ≤ b → s.heap.get? b = none := fun b hb => by
        cases q : s.heap.get? b with
        | none => rfl
        | some o => exact absurd (Nat.lt_of_lt_of_le (Heap.lt_size q) hb) (Nat.lt_irrefl _)
      refine loopN ((Walks.tuple hh3 _ l nI items).toS) s.heap.objs.size nf ks isz few val s.heap each (out _ (Nat.le_refl _)) (fun b mb => out b (by rw [List.mem_singleton.mp mb, zS]; exact Nat.le_succ _))
        (show A.units + 3 + 8 < cLine by omega) (items.size - 0) 0 _ (by omega) (Nat.zero_le _) ⟨⟨_, Heap.get?_push_size _ rfl, rfl, rfl⟩, (hl1.push _)⟩ (fun b o e => Heap.get?_push_of_some _ (Heap.get?_push_of_some _ e)) ?first ?last
      case first => exact ⟨[], #[], 0, _, Tab.new (Heap.get?_push_of_some _ atS), In.zero ks⟩
      case last =>
        rintro ⟨h2, g2, d2, tk2, os2⟩ L es ep t mv R2 g3 kp
        obtain rfl : g2 = s.gens := mv.gens
        obtain rfl : d2 = s.drawn := mv.drawn
        obtain rfl : os2 = s.os := mv.os
        rw [isz] at g3
        exact wpAny_pure (wpAny_pure ⟨rfl, h2, tk2, L, es, ep, t, rfl, R2, g3, kp⟩)
    · match r2, hr2 with
      | .error e, hr2 => exact hr2
      | .ok (.ret r), hr2 =>
        obtain ⟨rfl, h2, tk, L, es, ep, t, rfl, R2, g3, kp⟩ := hr2
        repeat (any_goals (first | assumption | wp_step))
        exact h _ _ _ _ _ _ R2 g3 kp
end
end L2.NSet
set_option Elab.async false
set_option linter.all false
set_option maxRecDepth 100000
set_option maxHeartbeats 4000000
/-! Sorting tuples of which some may be empty. -/
namespace L2.SortT
open PySem PySem.Spec PySem.Calls PyProof.Rows PySem.W PySem.SeqAt
section
variable {P : Program} {w : World} {A : Around} {E : Value → Shared → Prop} {s : Shared}
theorem call_tuple_lt {Q : Value → Shared → Prop} {l b : Addr} {items items2 : Array Value} {e r : Nat → Bool} (hl : s.heap.IsTuple l items) (hb : s.heap.IsTuple b items2)
    (he : ∀ j (h1 : j < items.size) (h2 : j < items2.size), EqAt A.in1 s items[j] items2[j] (e j)) (hr : ∀ j (h1 : j < items.size) (h2 : j < items2.size), e j = false → RcLt A.in1 s items[j] items2[j] (r j))
    (h : Q (.bool (firstLt e r (decide (items.size < items2.size)) (List.range (min items.size items2.size)))) s) : wpAny (model P w) A (call (.builtin "tuple.__lt__") [.ref l, .ref b]) Q E s := by
  obtain ⟨⟨c1, d1, p1, s1⟩, ho1, hc1, n1, hd1⟩ := hl
  obtain ⟨⟨c2, d2, p2, s2⟩, ho2, hc2, n2, hd2⟩ := hb
  simp only at hc1 hd1 hc2 hd2
  subst hc1 hd1 hc2 hd2
  exact call_meets F.slot_tuple_lt ⟨_, ho1, rfl⟩ F.entry_tuple_lt (F.args_tuple_lt_2 _ _) (tuple_ltAt l b items items2 n1 n2 d1 d2 s1 s2 e r) ⟨ho1, ho2, he, hr, h⟩
/-- one tuple against another, as tuples of one type are asked -/
theorem oneLt_tup {xs ys : List PyData} {a b : Value} {as bs : List Addr} {Q : Bool → Shared → Prop} (ra : Reads s.heap a (.tuple xs) as) (rb : Reads s.heap b (.tuple ys) bs) (hal : alikeAll xs ys = true)
    (hu : A.units + min (PyData.tuple xs).depth (PyData.tuple ys).depth < cLine) (hq : Q (dataLt (.tuple xs) (.tuple ys)) s) : wpAny (model P w) A (oneLt' true a b) Q E s := by
  cases ra with
  | @tuple l o vs n _ as1 h1 h2 h3 h4 =>
    cases rb with
    | @tuple l2 o2 vs2 n2 _ bs1 k1 k2 k3 k4 =>
      have z1 : vs.size = xs.length := by simpa using SeqAt.ReadsAll.length _ _ _ h4
      have z2 : vs2.size = ys.length := by simpa using SeqAt.ReadsAll.length _ _ _ k4
      rw [dataLt_tuple, ← firstLt_toks xs ys hal, ← z1, ← z2] at hq
      rw [oneLt'_eq]
      simp only [if_true]
      refine wpAny_bind (wpAny_cRoomFor (SeqAt.room_here hu) ?_)
      refine wpAny_bind (wpAny_callSpecialIfBound?_slot (T := "tuple") ⟨_, h1, h2⟩ F.slot_tuple_lt (call_tuple_lt (e := pairEq xs ys) (r := fun j => dataLt (xs.getD j .none) (ys.getD j .none)) ⟨_, h1, h2, _, h3⟩ ⟨_, k1, k2, _, k3⟩
        (fun j j1 j2 => ?_) (fun j j1 j2 hj => ?_) (wpAny_truthy_bool hq)))
      · have q := eqAt_alikeAll xs ys A.in1 s vs.toList vs2.toList _ _ h4 k4 hal (SeqAt.room_in hu) j (by simpa using j1) (by simpa using j2)
        simpa using q
      · have q := rcLt_alikeAll xs ys A.in1 s vs.toList vs2.toList _ _ h4 k4 hal (SeqAt.room_in hu) j (by simpa using j1) (by simpa using j2) hj
        simpa using q
/-- the first items of tuples -/
inductive Fsts (h : Heap) : List Value → List (Option Value) → Prop
  | nil : Fsts h [] []
  | cons {a : Addr} {o : Obj} {xs : Array Value} {n : Nat} {vs : List Value} {os : List (Option Value)} : h.get? a = some o → o.cls = .type "tuple" → o.data = .seq xs n → Fsts h vs os → Fsts h (.ref a :: vs) (xs[0]? :: os)
theorem fsts_of {h : Heap} : ∀ {vs : List Value} {ds : List PyData}, EachIs (fun v d => ∃ as, Reads h v d as) vs ds → (∀ d ∈ ds, ∃ xs, d = .tuple xs) →
    ∃ os, Fsts h vs os ∧ ((os.all fun o => o.isSome) = true → ∀ d ∈ ds, ∃ x r, d = .tuple (x :: r))
  | [], _, .nil, _ => ⟨[], .nil, fun _ d m => nomatch m⟩
  | v :: vs, d :: ds, .cons r e, ht => by
    obtain ⟨os, f, g⟩ := fsts_of e fun d m => ht d (List.mem_cons_of_mem _ m)
    obtain ⟨xs, rfl⟩ := ht d List.mem_cons_self
    obtain ⟨as, r⟩ := r
    cases r with
    | @tuple _ _ vs2 _ _ _ h1 h2 h3 h4 =>
      refine ⟨_, .cons h1 h2 h3 f, fun al d m => ?_⟩
      rw [List.all_cons, Bool.and_eq_true] at al
      rcases List.mem_cons.mp m with rfl | m
      · have z : vs2.size = xs.length := by simpa using SeqAt.ReadsAll.length _ _ _ h4
        have q : 0 < vs2.size := by
          cases k : vs2.size with
          | zero =>
            have e0 : vs2[0]? = none := Array.getElem?_eq_none (by omega)
            rw [e0] at al
            cases al.1
          | succ n => exact Nat.succ_pos n
        cases xs with
        | nil =>
          rw [List.length_nil] at z
          omega
        | cons x r => exact ⟨x, r, rfl⟩
      · exact g al.2 d m
theorem fsts_ask {M : Model} {A : Around} {E : Value → Shared → Prop} : ∀ {vs : List Value} {os : List (Option Value)} {s : Shared} {Q : List (Option Value) → Shared → Prop}, Fsts s.heap vs os → Q os s → wpAny M A (vs.mapM firstOfTuple') Q E s
  | [], _, s, Q, .nil, h => by
    rw [List.mapM_nil]
    exact wpAny_pure h
  | _ :: vs, _, s, Q, .cons (a := a) (o := o) (os := os) h1 h2 h3 t, h => by
    rw [List.mapM_cons]
    refine wpAny_bind ?_
    rw [kas_first_eq]
    refine wpAny_bind (Looks.here (show Looks M s.heap (typeOf (.ref a)) o.cls from (Looks.ld h1).andThen .now) ?_)
    rw [h2, if_neg (by first | decide | simp)]
    refine wpAny_bind (listItems_at h1 h3 (wpAny_pure ?_))
    exact wpAny_bind (fsts_ask (Q := fun bs s2 => wpAny M A (pure (_ :: bs)) Q E s2) t (wpAny_pure h))
theorem looks_tup {h : Heap} {M : Model} : ∀ {vs : List Value} {os : List (Option Value)}, Fsts h vs os → ∀ v ∈ vs, Looks M h (typeOf v) (.type "tuple")
  | _ :: vs, _, .cons h1 h2 h3 t, v, m => by
    rcases List.mem_cons.mp m with rfl | m
    · rw [← h2]
      exact (Looks.ld h1).andThen .now
    · exact looks_tup t v m
/-- what kind of keys they are, where some are empty -/
theorem fsts_kind {vs : List Value} {os : List (Option Value)} {M : Model} {Q : SortKind → Shared → Prop} (f : Fsts s.heap vs os) (ne : vs ≠ []) (no : (os.all fun o => o.isSome) = false)
    (h : Q (if (os[0]?.bind id).isSome = true then general' else oneType') s) : wpAny M A (keyKind' vs.toArray) Q E s := by
  rw [kat_kind_eq, List.mapM_toArray, map_eq_pure_bind]
  refine wpAny_bind (wpAny_bind (fsts_ask f (wpAny_pure ?_)))
  have e1 : (os.toArray.all fun x => x.isSome) = false := by simpa using no
  rw [e1, if_neg Bool.false_ne_true]
  have e2 : os.toArray[0]? = os[0]? := by simp
  rw [e2]
  cases e3 : (os[0]?.bind id).isSome with
  | true =>
    rw [e3, if_pos rfl] at h
    rw [if_pos rfl]
    exact wpAny_pure h
  | false =>
    rw [e3, if_neg Bool.false_ne_true] at h
    rw [if_neg Bool.false_ne_true]
    rw [oneTypeOnly'_eq, List.mapM_toArray, map_eq_pure_bind]
    refine wpAny_bind (wpAny_bind (wpAny_bind (kas_mapM (r := Value.type "tuple") _ (fun v hv Q2 hq => (looks_tup f v hv).here hq) (wpAny_pure ?_))))
    have al : ((List.map (fun _ => Value.type "tuple") vs).toArray.all fun x => x == Value.type "tuple") = true := by
      simp only [List.all_toArray, List.all_map, List.all_eq_true]
      intro _ _
      exact beq_self_eq_true _
    have h0 : (List.map (fun _ => Value.type "tuple") vs).toArray[0]? = some (Value.type "tuple") := by
      cases vs with
      | nil => exact absurd rfl ne
      | cons v vs => simp
    rw [h0]
    simp only [al, if_true]
    exact wpAny_pure (wpAny_pure h)
/-- tuples that read as alike data can be sorted -/
theorem sorts_tups {vs : List Value} {ds : List PyData} (e : EachIs (fun v d => ∃ as, Reads s.heap v d as) vs ds) (hal : AllAlike ds) (ht : ∀ d ∈ ds, ∃ xs, d = .tuple xs) (hu : ∀ d, d ∈ ds → A.units + d.depth < cLine) :
    SortsAt P w A s (dataKind s.heap ds) vs := by
  obtain ⟨os, f, g⟩ := fsts_of e ht
  cases al : (os.all fun o => o.isSome) with
  | true => exact SortsAt.data e hal (.inl (g al)) hu
  | false =>
    refine ⟨fun v hv => ?_, if (os[0]?.bind id).isSome = true then general' else oneType', ?_, fun h2 E Q hq => ?_⟩
    · obtain ⟨d, hd, as, r⟩ := e.left v hv
      exact ⟨_, dataKind_some hal hd r⟩
    · intro E x y a b Q ha hb hq
      obtain ⟨d, as, hd, ra, rfl⟩ := dataKind_inv ha
      obtain ⟨d2, as2, hd2, rb, rfl⟩ := dataKind_inv hb
      obtain ⟨xs, rfl⟩ := ht d hd
      obtain ⟨ys, rfl⟩ := ht d2 hd2
      have hdd := hal _ hd _ hd2
      have room : A.units + min (PyData.tuple xs).depth (PyData.tuple ys).depth < cLine := Nat.lt_of_le_of_lt (Nat.add_le_add_left (Nat.min_le_left _ _) _) (hu _ hd)
      split
      · show wpAny (model P w) A (oneLt' false x y) Q E s
        exact oneLt_alike (f := false) (fun z => nomatch z) ra rb hdd (fun z => nomatch z) room hq
      · rw [keyLt'_oneType]
        exact oneLt_tup ra rb (by simpa [alike] using hdd) room hq
    · refine fsts_kind f (fun z => ?_) al hq
      rw [z] at h2
      simp at h2
end
end L2.SortT
set_option Elab.async false
set_option linter.all false
set_option maxRecDepth 100000
set_option maxHeartbeats 4000000
/-! Lists and sets of nested data, sorted; sets of tuples as tracked things. -/
namespace L2.NSet
open PySem PySem.Spec PyProof.Rows L2.SortT
section
variable {P : Program} {w : World} {A : Around} {E : Value → Shared → Prop} {s : Shared} {β : Type} {vs : List Value} {bs : List β} {enc : β → PyData} {R : Value → β → Prop}
open PySem.W PySem.SeqAt
/-- what can be sorted: as the library says, or tuples, empty ones too -/
def Srtb (ds : List PyData) : Prop := PySem.W.Sortable ds ∨ ∀ d ∈ ds, ∃ xs, d = .tuple xs
theorem sorts_any {ds : List PyData} (e : EachIs (fun v d => ∃ as, Reads s.heap v d as) vs ds) (hal : AllAlike ds) (hk : Srtb ds) (hu : ∀ d, d ∈ ds → A.units + d.depth < cLine) : SortsAt P w A s (dataKind s.heap ds) vs :=
  hk.elim (fun k => SortsAt.data e hal k hu) fun k => sorts_tups e hal k hu
theorem sorted_any {l : Addr} {Q : Value → Shared → Prop} (hl : s.heap.IsList l vs.toArray) (e : EachIs R vs bs) (er : EachIs (fun v b => ∃ as, Reads s.heap v (enc b) as) vs bs) (hal : AllAlike (bs.map enc)) (hk : Srtb (bs.map enc)) (hL : bs.length ≤ sizeLine)
    (hu : ∀ b, b ∈ bs → A.units + 2 + (enc b).depth < cLine) (h : ∀ out, out.length = bs.length → EachIs R out (bs.mergeSort (dataLe false enc)) → Q (.ref (s.heap.objs.size + 1)) { s with heap := sortedAll s.heap vs (List.toArray out) }) :
    wpAny (model P w) A (call (.builtin "sorted") [.ref l]) Q E s := by
  have er2 : EachIs (fun v b => ∃ as, Reads (sortingHeap (copyHeap s.heap vs) (s.heap.objs.size + 1) vs) v (enc b) as) vs bs := er.mono fun _ _ ⟨as, r⟩ => ⟨as, PyProof.Rows.Reads.keeps (fun _ _ => sorting_copy_old) r⟩
  refine sorted_vals hl (sorts_any (s := { s with heap := sortingHeap (copyHeap s.heap vs) (s.heap.objs.size + 1) vs }) (each_map (R := fun v d => ∃ as, Reads (sortingHeap (copyHeap s.heap vs) (s.heap.objs.size + 1) vs) v d as) enc er2) hal hk (bound_map hu)) ?_
    (h _ ?_ (sortVals_data false e er2 hal))
  · rw [e.length]
    exact hL
  · rw [sortVals_length false rfl]
    exact e.length
theorem list_sort_any2 {a : Addr} {n : Nat} {Q : Value → Shared → Prop} (ho : s.heap.get? a = some (seqObj "list" vs.toArray n)) (e : EachIs R vs bs) (er : EachIs (fun v b => ∃ as, Reads s.heap v (enc b) as ∧ a ∉ as) vs bs) (hal : AllAlike (bs.map enc)) (hk : Srtb (bs.map enc)) (hL : bs.length ≤ sizeLine)
    (hu : ∀ b, b ∈ bs → A.units + 1 + (enc b).depth < cLine) (h : ∀ out, out.length = bs.length → EachIs R out (bs.mergeSort (dataLe false enc)) → Q .none { s with heap := sortedHeap s.heap a vs (List.toArray out) }) :
    wpAny (model P w) A (call (.builtin "list.sort") [.ref a]) Q E s := by
  have er2 : EachIs (fun v b => ∃ as, Reads (sortingHeap s.heap a vs) v (enc b) as) vs bs := each_keepBut (h' := sortingHeap s.heap a vs) (fun _ _ hb q => sortingHeap_old hb q) (fun o q => by rw [ho] at q; rw [← Option.some.inj q]) hal er
  refine wpAny_call_entry slot_list_sort ⟨_, ho, rfl⟩ entry_list_sort (list_sort_vals (κ := dataKind (sortingHeap s.heap a vs) (bs.map enc)) ho (sorts_any (s := { s with heap := sortingHeap s.heap a vs })
    (each_map (R := fun v d => ∃ as, Reads (sortingHeap s.heap a vs) v d as) enc er2) hal hk (bound_map hu)) ?_ ⟨.none, rfl, ?_⟩) (args_list_sort _)
  · rw [e.length]
    exact hL
  · refine h _ ?_ (sortVals_data false e er2 hal)
    rw [sortVals_length false rfl]
    exact e.length
/-- rising -/
def Rise (enc : β → PyData) (l : List β) : Prop := l.Pairwise fun a b => dataLe false enc a b = true
theorem rise_sort (l : List β) : Rise enc (l.mergeSort (dataLe false enc)) := sort_pairwise (sortLe_total _ false _) l
theorem eachIs_mem {α γ : Type} {R : α → γ → Prop} : ∀ {xs : List α} {ys : List γ}, EachIs R xs ys → ∀ y ∈ ys, ∃ x ∈ xs, R x y
  | _, _, .nil, y, m => nomatch m
  | _, _, .cons r e, y, m => by
    rcases List.mem_cons.mp m with rfl | m
    · exact ⟨_, List.mem_cons_self, r⟩
    · obtain ⟨x, mx, rx⟩ := eachIs_mem e y m
      exact ⟨x, List.mem_cons_of_mem _ mx, rx⟩
theorem vals_each : ∀ {xs : List (V × PyData)} {us : List Value}, Vals (xs.map Prod.fst) us → EachIs (fun v (b : V × PyData) => RelV b.1 v) us xs
  | [], _, .nil => .nil
  | _ :: _, _, .cons r t => .cons r (vals_each t)
theorem each_vals : ∀ {xs : List (V × PyData)} {us : List Value}, EachIs (fun v (b : V × PyData) => RelV b.1 v) us xs → Vals (xs.map Prod.fst) us
  | [], _, .nil => .nil
  | _ :: _, _, .cons r t => .cons r (each_vals t)
end
section
variable {X : Cx} {pins : List (Addr × Obj)} {σ : L2.St} {H : Hp} {s : Shared}
open PySem.W
theorem each_reads (I : Inv X pins σ H s) : ∀ {xs : List (V × PyData)} {us : List Value}, (∀ x ∈ xs, Dp X.K H x.1 x.2) → Vals (xs.map Prod.fst) us → EachIs (fun v (b : V × PyData) => ∃ as, Reads s.heap v b.2 as) us xs
  | [], _, _, .nil => .nil
  | x :: xs, _, h, .cons r t => .cons (Dp.reads I x.2 x.1 _ (h x List.mem_cons_self) r) (each_reads I (fun y m => h y (List.mem_cons_of_mem _ m)) t)
/-- sorted(a list of nested data) -/
def rSortD (K : PySem.W.Frag) : List V → Hp → VK → Prop := fun vs H Q => ∃ (a : Addr) (xs : List (V × PyData)), vs = [V.ref a] ∧ SqL K H a (xs.map Prod.fst) ∧ (∀ x ∈ xs, Dp K H x.1 x.2) ∧ AllAlike (xs.map Prod.snd) ∧ Srtb (xs.map Prod.snd) ∧ xs.length ≤ 1000 ∧
  (∀ x ∈ xs, x.2.depth ≤ 40) ∧ ∀ (ys : List (V × PyData)) (p : Addr), ys.Perm xs → Rise Prod.snd ys → H p = none → Q (.ref p) (upd H p (.lst (ys.map Prod.fst)))
theorem cr_sortD (hu : X.A.units + 64 < cLine) : CallR X (.builtin "sorted") (rSortD X.K) := by
  intro pins s σ H vs us Q I r h
  obtain ⟨a, xs, rfl, ha, hd, hal, hk, few, dp, q⟩ := h
  rw [Vals.ref1 r]
  obtain ⟨its, rv, pl, hz⟩ := I.list ha
  have hl : s.heap.IsList a its.toArray := pl.isList
  refine sorted_any (R := fun v (b : V × PyData) => RelV b.1 v) (bs := xs) (enc := Prod.snd) hl (vals_each rv) (each_reads I hd rv) hal hk (Nat.le_trans few (by rw [sizeLine_eq]; decide)) (fun b m => by have := dp b m; omega) fun out lo eo => ?_
  have pm := List.mergeSort_perm xs (dataLe false Prod.snd)
  have hn : H (s.heap.objs.size + 1) = none := I.hok.fresh (Nat.le_succ _)
  have fit : ((xs.mergeSort (dataLe false Prod.snd)).map Prod.fst).length ≤ sizeLine := by
    rw [List.length_map, pm.length_eq, sizeLine_eq]
    omega
  obtain ⟨c, hc⟩ := sortedAll_at s.heap its out.toArray
  refine ⟨.ref (s.heap.objs.size + 1), upd H (s.heap.objs.size + 1) (.lst ((xs.mergeSort (dataLe false Prod.snd)).map Prod.fst)), I.laid (t' := s.toks) (fun b o e => sortedAll_old e) (Nat.le_succ _) ⟨fit, out, c, each_vals eo, hc⟩, rfl, q _ _ pm (rise_sort xs) hn⟩
end
end L2.NSet
set_option Elab.async false
set_option linter.all false
set_option maxRecDepth 100000
set_option maxHeartbeats 4000000
/-! Sets of tuples as tracked things: made of a list or a tuple, sorted. -/
namespace L2.NSet
open PySem PySem.Spec PyProof.Rows L2.SortT PySem.W
/-- the set at a, its members' tuples apart -/
structure Tab0 (P : Program) (w : World) (h : Heap) (a : Addr) (L : List Mem) : Prop where
  ex : ∃ (es : Array (Int × Value)) (ep : Nat) (t : SetTable), (∃ o, h.get? a = some o ∧ o.ExactSet ∧ o.data = .set es ep t) ∧ es.toList = L.map (rowN w) ∧ TabOk t (L.map fun p => p.2.hash w) ∧ (L.map (·.2)).Nodup ∧
    (w.params.followText "set-order" = true ∨ t.led = true) ∧ L.length * 5 < t.mask * 3 ∧ L.length < 64
def SetN (P : Program) (w : World) (a : Addr) (L : List Mem) : HO := .ext fun h => Tab0 P w h a L
section
variable {P : Program} {w : World} {h : Heap} {H : Hp} {a : Addr} {L : List Mem} {es : Array (Int × Value)} {ep : Nat} {t : SetTable}
theorem Tab.t0 (R : Tab P w h a L es ep t) : Tab0 P w h a L := ⟨es, ep, t, R.here, R.rows, R.lay, R.once, R.told, R.free, R.few⟩
theorem Tab0.full (R : Tab0 P w h a L) (each : ∀ p ∈ L, Kb P w h p.2 p.1) : ∃ es ep t, Tab P w h a L es ep t := by
  obtain ⟨es, ep, t, h1, h2, h3, h4, h5, h6, h7⟩ := R.ex
  exact ⟨es, ep, t, h1, h2, h3, h4, each, h5, h6, h7⟩
theorem setN_new (R : Tab0 P w h a L) : ObjOk P w H h a (SetN P w a L) := by
  have ⟨es, ep, t, ⟨o, ho, r⟩, q⟩ := R.ex
  refine ⟨R, ⟨o, ho⟩, fun h1 h2 p k => ?_⟩
  have ⟨es2, ep2, t2, ⟨o2, ho2, r2⟩, q2⟩ := Tab0.ex p
  exact ⟨es2, ep2, t2, ⟨o2, k o2 ho2, r2⟩, q2⟩
theorem refs_vals : ∀ {ks : List Mem} {us : List Value}, Vals (ks.map fun p => V.ref p.1) us → us = ks.map fun p => Value.ref p.1
  | [], _, .nil => rfl
  | p :: ks, _, .cons r t => by
    cases r
    rw [refs_vals t]
    rfl
theorem vals_refs : ∀ (ks : List Mem), Vals (ks.map fun p => V.ref p.1) (ks.map fun p => Value.ref p.1)
  | [] => .nil
  | p :: ks => .cons rfl (vals_refs ks)
theorem perm_lift {α γ : Type} (f : α → γ) : ∀ {vs : List γ} {L : List α}, vs.Perm (L.map f) → ∃ M : List α, M.Perm L ∧ vs = M.map f
  | [], [], pm => ⟨[], List.Perm.refl _, rfl⟩
  | [], x :: L, pm => by
    have e := pm.length_eq
    cases e
  | v :: vs, L, pm => by
    have m : v ∈ L.map f := pm.mem_iff.mp List.mem_cons_self
    obtain ⟨x, mx, rfl⟩ := List.mem_map.mp m
    obtain ⟨l1, l2, rfl⟩ := List.append_of_mem mx
    have q : (f x :: vs).Perm (f x :: (l1 ++ l2).map f) := by
      refine pm.trans ?_
      rw [List.map_append, List.map_cons, List.map_append]
      exact List.perm_middle
    obtain ⟨M, pM, e⟩ := perm_lift f (List.Perm.cons_inv q)
    exact ⟨x :: M, (List.Perm.cons x pM).trans List.perm_middle.symm, by rw [e]; rfl⟩
end
section
variable {X : Cx} {pins : List (Addr × Obj)} {σ : L2.St} {H : Hp} {s : Shared}
mutual
theorem nest_of (I : Inv X pins σ H s) : ∀ (k : NestedKey) (x : V) (v : Value), Dp X.K H x k.data → RelV x v → NestedIs s.heap k v
  | .none, x, v, d, r => by
    cases d
    cases r
    exact .none
  | .num i, x, v, d, r => by
    cases d
    obtain ⟨t, rfl⟩ := r
    exact .int i t
  | .text z, x, v, d, r => by
    cases d
    obtain ⟨t, rfl⟩ := r
    exact .text z t
  | .tup ks, x, v, d, r => by
    have d : Dp X.K H x (.tuple (NestedKey.datas ks)) := d
    cases d with
    | tup hq ha =>
      cases r
      obtain ⟨its, rv, ⟨o, ho, hc, n, hd⟩, _⟩ := I.tuple hq
      exact .tup ho hc hd (by simpa using nests_of I ks _ its ha rv)
theorem nests_of (I : Inv X pins σ H s) : ∀ (ks : List NestedKey) (xs : List V) (us : List Value), DpAll X.K H xs (NestedKey.datas ks) → Vals xs us → NestedAll s.heap ks us
  | [], xs, us, d, r => by
    cases d
    cases r
    exact .nil
  | k :: ks, xs, us, d, r => by
    have d : DpAll X.K H xs (k.data :: NestedKey.datas ks) := d
    cases d with
    | cons d1 d2 =>
      cases r with
      | cons r1 r2 => exact .cons (nest_of I k _ _ d1 r1) (nests_of I ks _ _ d2 r2)
end
/-- a tuple of references that has no dict of its own, as a thing of the heap alone -/
def PTu (a : Addr) (ts : List Addr) : HO := .ext fun h => ∃ o n, h.get? a = some o ∧ o.cls = .type "tuple" ∧ o.dict = none ∧ o.data = .seq (ts.map Value.ref).toArray n
/-- a tuple of pairs of texts -/
def PtOk (H : Hp) (p : Mem) : Prop := ∃ (ts : List Addr) (ks : List (Str × Str)), H p.1 = some (PTu p.1 ts) ∧ p.2 = .tup (ks.map fun q => .tup [.text q.1, .text q.2]) ∧ Paired (fun t (q : Str × Str) => H t = some (.tup [.str q.1, .str q.2])) ts ks
theorem pt_pairs (I : Inv X pins σ H s) : ∀ {ts : List Addr} {ks : List (Str × Str)}, Paired (fun t (q : Str × Str) => H t = some (.tup [.str q.1, .str q.2])) ts ks →
    NestedAll s.heap (ks.map fun q => .tup [.text q.1, .text q.2]) (ts.map Value.ref) ∧ PySem.ReadsAll s.heap (ts.map Value.ref) (NestedKey.datas (ks.map fun q => .tup [.text q.1, .text q.2])) []
  | _, _, .nil => ⟨.nil, .nil⟩
  | _, _, .cons (a := t) (b := q) h r => by
    obtain ⟨its, rv, ⟨o, ho, hc, n, hd⟩, _⟩ := I.tuple (SqT.of h)
    obtain ⟨i1, i2⟩ := pt_pairs I r
    cases rv with
    | cons r1 r2 =>
      cases r2 with
      | cons r2 r3 =>
        cases r3
        obtain ⟨t1, rfl⟩ := r1
        obtain ⟨t2, rfl⟩ := r2
        refine ⟨.cons (.tup ho hc hd (.cons (.text _ _) (.cons (.text _ _) .nil))) i1, .cons (as := []) (bs := []) ?_ i2⟩
        exact .tuple ho hc hd (.cons (as := []) (bs := []) (.str _ _) (.cons (as := []) (bs := []) (.str _ _) .nil))
/-- the member p stands in its tuple -/
def MemOk (K : PySem.W.Frag) (H : Hp) (p : Mem) : Prop := (Dp K H (.ref p.1) p.2.data ∨ PtOk H p) ∧ p.2.depth ≤ 8
theorem pt_both (I : Inv X pins σ H s) {p : Mem} (m : PtOk H p) : NestedIs s.heap p.2 (.ref p.1) ∧ PySem.Reads s.heap (.ref p.1) p.2.data [] := by
  obtain ⟨ts, ks, h, e, pr⟩ := m
  obtain ⟨o, n, ho, hc, hdn, hd⟩ := (show ∃ o n, s.heap.get? p.1 = some o ∧ o.cls = .type "tuple" ∧ o.dict = none ∧ o.data = .seq (ts.map Value.ref).toArray n from (I.hok p.1 _ h).1)
  obtain ⟨i1, i2⟩ := pt_pairs I pr
  rw [e]
  exact ⟨.tup ho hc hd (by simpa using i1), .tuple ho hc hd (by simpa using i2)⟩
theorem kb_of (I : Inv X pins σ H s) {p : Mem} (m : MemOk X.K H p) : Kb X.prog X.w s.heap p.2 p.1 := by
  rcases m.1 with d | d
  · exact ⟨nest_of I p.2 _ _ d rfl, m.2⟩
  · exact ⟨(pt_both I d).1, m.2⟩
/-- set(xs) -/
def rSetN (K : PySem.W.Frag) (P : Program) (w : World) : List V → Hp → VK → Prop := fun xs H Q => ∃ (l : Addr) (ks : List Mem), xs = [V.ref l] ∧ (SqL K H l (ks.map fun p => V.ref p.1) ∨ SqT K H l (ks.map fun p => V.ref p.1)) ∧ (∀ p ∈ ks, MemOk K H p) ∧ ks.length < 64 ∧
  ∀ a L, H a = none → (∀ p ∈ L, p ∈ ks) → (∀ p ∈ ks, p.2 ∈ L.map (·.2)) → (L.map (·.2)).Nodup → Q (.ref a) (upd H a (SetN P w a L))
theorem cr_setN (hc : X.calm = true) (hu : X.A.units + 64 < cLine) : CallR X (.type "set") (rSetN X.K X.prog X.w) := by
  intro pins s σ H xs us Q I r h
  obtain ⟨l, ks, rfl, hl, hk, few, q⟩ := h
  rw [Vals.ref1 r]
  have hn : H s.heap.objs.size = none := I.hok.fresh (Nat.le_refl _)
  have fin : ∀ (h2 : Heap) (tk : Nat) L es ep t, Tab X.prog X.w h2 s.heap.objs.size L es ep t → In ks ks.length L → (∀ b o, s.heap.get? b = some o → h2.get? b = some o) →
      ∃ y H2, Inv X pins σ H2 { s with heap := h2, toks := tk } ∧ RelV y (.ref s.heap.objs.size) ∧ Q y H2 := fun h2 tk L es ep t R g k =>
    ⟨.ref s.heap.objs.size, upd H s.heap.objs.size (SetN X.prog X.w s.heap.objs.size L), I.laid (t' := tk) k (Nat.le_refl _) (setN_new R.t0), rfl,
      q _ L hn (fun p m => List.mem_of_mem_take (g.from_ p m)) (fun p m => g.to_ p (by rw [List.take_length]; exact m)) R.once⟩
  rcases hl with hl | hl
  · obtain ⟨its, rv, pl, hz⟩ := I.list hl
    exact call_set_list (P := X.prog) (w := X.w) ks (I.ok.hd hc) pl.isList (by simpa using refs_vals rv) (fun p m => kb_of I (hk p m)) few (by omega) fin
  · obtain ⟨its, rv, ⟨o, ho, hcl, n, hd⟩, hz⟩ := I.tuple hl
    exact call_set_tuple (P := X.prog) (w := X.w) ks (I.ok.hd hc) ⟨o, ho, hcl, n, hd⟩ (by simpa using refs_vals rv) (fun p m => kb_of I (hk p m)) few (by omega) fin
/-- sorted(a set of tuples) -/
def rSortN (K : PySem.W.Frag) (P : Program) (w : World) : List V → Hp → VK → Prop := fun vs H Q => ∃ (a : Addr) (L : List Mem), vs = [V.ref a] ∧ H a = some (SetN P w a L) ∧ (∀ p ∈ L, MemOk K H p) ∧ AllAlike (L.map fun p => p.2.data) ∧
  (∀ p ∈ L, ∃ ks, p.2 = .tup ks) ∧ (∀ p ∈ L, p.2.data.depth ≤ 40) ∧ ∀ (M : List Mem) (p : Addr), M.Perm L → Rise (fun p : Mem => p.2.data) M → H p = none → Q (.ref p) (upd H p (.lst (M.map fun p => V.ref p.1)))
mutual
theorem reads_nest {h : Heap} : ∀ (k : NestedKey) (v : Value) (as : List Addr), PySem.Reads h v k.data as → as = []
  | .none, _, _, x => by
    cases x
    rfl
  | .num i, _, _, x => by
    cases x
    rfl
  | .text z, _, _, x => by
    cases x
    rfl
  | .tup ks, _, _, x => by
    have x : PySem.Reads h _ (.tuple (NestedKey.datas ks)) _ := x
    cases x with
    | tuple h1 h2 h3 h4 => exact reads_nests ks _ _ h4
theorem reads_nests {h : Heap} : ∀ (ks : List NestedKey) (vs : List Value) (as : List Addr), PySem.ReadsAll h vs (NestedKey.datas ks) as → as = []
  | [], _, _, x => by
    cases x
    rfl
  | k :: ks, _, _, x => by
    have x : PySem.ReadsAll h _ (k.data :: NestedKey.datas ks) _ := x
    cases x with
    | cons x1 x2 => rw [reads_nest k _ _ x1, reads_nests ks _ _ x2]; rfl
end
theorem each_mem2 (I : Inv X pins σ H s) {h2 : Heap} (k : ∀ b o, s.heap.get? b = some o → h2.get? b = some o) (a : Addr) : ∀ {M : List Mem}, (∀ p ∈ M, MemOk X.K H p) →
    EachIs (fun v (p : Mem) => ∃ as, PySem.Reads h2 v p.2.data as ∧ a ∉ as) (M.map fun p => Value.ref p.1) M
  | [], _ => .nil
  | p :: M, h => by
    obtain ⟨as, r⟩ : ∃ as, PySem.Reads s.heap (.ref p.1) p.2.data as := (h p List.mem_cons_self).1.elim (fun d => Dp.reads I p.2.data (.ref p.1) (.ref p.1) d rfl) fun d => ⟨[], (pt_both I d).2⟩
    have r2 := PyProof.Rows.Reads.keeps k r
    refine .cons ⟨as, r2, ?_⟩ (each_mem2 I k a fun q m => h q (List.mem_cons_of_mem _ m))
    rw [reads_nest p.2 _ _ r2]
    simp
theorem each_ref : ∀ M : List Mem, EachIs (fun v (p : Mem) => v = Value.ref p.1) (M.map fun p => Value.ref p.1) M
  | [] => .nil
  | p :: M => .cons rfl (each_ref M)
theorem ref_each : ∀ {M : List Mem} {out : List Value}, EachIs (fun v (p : Mem) => v = Value.ref p.1) out M → out = M.map fun p => Value.ref p.1
  | [], _, .nil => rfl
  | p :: M, _, .cons r e => by rw [r, ref_each e]; rfl
theorem cr_sortN (hc : X.calm = true) (hu : X.A.units + 64 < cLine) : CallR X (.builtin "sorted") (rSortN X.K X.prog X.w) := by
  intro pins s σ H vs us Q I r h
  obtain ⟨a, L, rfl, ha, hk, hal, htup, dp, q⟩ := h
  have R0 : Tab0 X.prog X.w s.heap a L := (I.hok a _ ha).1
  obtain ⟨es, ep, t, R⟩ := R0.full fun p m => kb_of I (hk p m)
  rw [Vals.ref1 r]
  obtain ⟨o, ho, ox, od⟩ := R.here
  have few := R.few
  refine Calls.call_function_entry kind_sorted plain_sorted entry_sorted (args_sorted1 _) ?_
  unfold Builtin.«sorted»
  refine wpAny_bind (m := checkCount "sorted" 1 1 _) (wpAny_pure (wpAny_bind (collect_set (A := X.A.in1) (I.ok.hd hc) ⟨o, ho, ox.1, od⟩ R.fits (by rw [R.size]; unfold scanBound; omega) R.lay.ris R.told fun s1 vs k1 z1 g1 o1 pm => ?_)))
  have hes : es.toList.map (·.2) = L.map fun p => Value.ref p.1 := by
    rw [R.rows, List.map_map]
    rfl
  rw [hes] at pm
  obtain ⟨M, pM, rfl⟩ := perm_lift _ pm
  have lM : M.length < 64 := by rw [pM.length_eq]; exact few
  refine wpAny_bind (wpAny_newList ?_ (by rw [List.length_map, sizeLine_eq]; omega))
  have at1 : (s1.heap.push (seqObj "list" (M.map fun p => Value.ref p.1).toArray 0)).get? s1.heap.objs.size = some (seqObj "list" (M.map fun p => Value.ref p.1).toArray 0) := Heap.get?_push_size _ rfl
  have mk : ∀ p ∈ M, MemOk X.K H p := fun p m => hk p (pM.mem_iff.mp m)
  have alM : AllAlike (M.map fun p => p.2.data) := fun d hd d2 hd2 => hal d ((pM.map _).mem_iff.mp hd) d2 ((pM.map _).mem_iff.mp hd2)
  refine wpAny_bind (wpAny_holding (list_sort_any2 (R := fun v (p : Mem) => v = Value.ref p.1) (enc := fun p : Mem => p.2.data) (bs := M) at1 (each_ref M) (each_mem2 I (fun b u e => Heap.get?_push_of_some _ (k1 b u e)) _ mk) alM (.inr fun d hd => ?_) (by rw [sizeLine_eq]; omega) (fun p m => ?_) fun out lo eo => ?_))
  · obtain ⟨p, mp, rfl⟩ := List.mem_map.mp hd
    obtain ⟨ks, e⟩ := htup p (pM.mem_iff.mp mp)
    exact ⟨_, by rw [e]; rfl⟩
  · have := dp p (pM.mem_iff.mp m)
    show X.A.units + 1 + 1 + _ < cLine
    omega
  · have eO := ref_each eo
    obtain ⟨c, hc2⟩ := sortedHeap_at (vs := M.map fun p => Value.ref p.1) (out := out.toArray) at1
    generalize hS : M.mergeSort (dataLe false fun p : Mem => p.2.data) = S at eO
    have pS : S.Perm M := by rw [← hS]; exact List.mergeSort_perm _ _
    have rS : Rise (fun p : Mem => p.2.data) S := by rw [← hS]; exact rise_sort M
    have hp : s.heap.objs.size ≤ s1.heap.objs.size := z1
    have hn : H s1.heap.objs.size = none := I.hok.fresh hp
    have old : ∀ b u, s.heap.get? b = some u → (sortedHeap (s1.heap.push (seqObj "list" (M.map fun p => Value.ref p.1).toArray 0)) s1.heap.objs.size (M.map fun p => Value.ref p.1) out.toArray).get? b = some u := fun b u e => by
      have q := k1 b u e
      have lt := Heap.lt_size q
      exact (sortedHeap_old (Nat.ne_of_lt lt) (by rw [size_push']; exact Nat.lt_succ_of_lt lt)).trans (Heap.get?_push_of_some _ q)
    have fit : (S.map fun p => V.ref p.1).length ≤ sizeLine := by rw [List.length_map, pS.length_eq, sizeLine_eq]; omega
    have J : Inv X pins σ (upd H s1.heap.objs.size (.lst (S.map fun p => V.ref p.1))) { s with heap := sortedHeap (s1.heap.push (seqObj "list" (M.map fun p => Value.ref p.1).toArray 0)) s1.heap.objs.size (M.map fun p => Value.ref p.1) out.toArray, gens := s1.gens, drawn := s1.drawn, toks := s1.toks } :=
      I.call (ch := []) (Un.laid old hp hn) (I.hok.laid old hp ⟨fit, out, c, by rw [eO]; exact vals_refs S, hc2⟩) (by rw [g1]; exact I.bare) fun _ z => nomatch z
    refine wpAny_pure ⟨_, rfl, ⟨.ref s1.heap.objs.size, _, ?_, rfl, q S s1.heap.objs.size (pS.trans pM) rS hn⟩⟩
    have e : ({ s1 with heap := sortedHeap (s1.heap.push (seqObj "list" (M.map fun p => Value.ref p.1).toArray 0)) s1.heap.objs.size (M.map fun p => Value.ref p.1) out.toArray } : Shared) = { s with heap := sortedHeap (s1.heap.push (seqObj "list" (M.map fun p => Value.ref p.1).toArray 0)) s1.heap.objs.size (M.map fun p => Value.ref p.1) out.toArray, gens := s1.gens, drawn := s1.drawn, toks := s1.toks } := by
      cases s1
      cases s
      cases o1
      rfl
    rw [e]
    exact J
end
end L2.NSet
set_option Elab.async false
set_option linter.all false
set_option maxRecDepth 100000
set_option maxHeartbeats 4000000
/-! Sets of tuples by comprehension. -/
namespace L2.NSet
open PySem PySem.Spec PyProof.Rows L2.Cmp
section
variable {X : Cx}
/-- a.add(x), x a tuple -/
theorem add_tup {P : Program} {w : World} {A : Around} {E : Value → Shared → Prop} {s : Shared} {a : Addr} {L : List Mem} {es : Array (Int × Value)} {ep : Nat} {t : SetTable} (R : Tab P w s.heap a L es ep t) {x : Addr} {k : NestedKey} (hx : Kb P w s.heap k x)
    (hu : A.units + 20 < cLine) (few : L.length + 1 < 64) {Q : Value → Shared → Prop}
    (hQ : ∀ tk h2 L2 es2 ep2 t2, Heap.SameBut a s.heap h2 → Tab P w h2 a L2 es2 ep2 t2 → (k ∈ L.map (·.2) → L2 = L) → (k ∉ L.map (·.2) → L2.Perm ((x, k) :: L)) → Q .none { s with heap := h2, toks := tk }) :
    wpAny (model P w) A (call (.builtin "set.add") [.ref a, .ref x]) Q E s := by
  have ty : s.TypeIs (.ref a) "set" := by
    obtain ⟨o, ho, ox, _⟩ := R.here
    exact ⟨o, ho, ox.1⟩
  refine wpAny_call_entry F.slot_set_add ty F.entry_set_add ?_ (F.args_set_add_2 _ _)
  unfold Builtin.«set.add» Builtin.Frozenset.oneOther Builtin.Frozenset.addrOf setAdd
  simp only [List.isEmpty_nil, bind_assoc]
  refine wpAny_bind (wpAny_pure (wpAny_bind (wpAny_pure (wpAny_bind (wpAny_holding (wpAny_bind ((nestedKind P w).pyHash (show A.units + 1 + 8 < cLine by omega) hx ?_)))))))
  exact lay (s := { s with toks := s.toks + k.draws }) R hx (show A.units + 1 + 8 < cLine by omega) few fun b h2 L2 es2 ep2 t2 sb R2 c1 c2 => wpAny_pure ⟨_, rfl, hQ _ h2 L2 es2 ep2 t2 sb R2 c1 c2⟩
/-- a tuple into the set at D -/
def tAdN (K : PySem.W.Frag) (P : Program) (w : World) (te : TE) (D : Addr) : TAc := fun σ H C => te σ H fun y H1 => ∃ (p : Mem) (L : List Mem), y = .ref p.1 ∧ H1 D = some (SetN P w D L) ∧ (∀ q ∈ L, MemOk K H1 q) ∧ MemOk K H1 p ∧ L.length + 1 < 64 ∧
  ∀ L2, (p.2 ∈ L.map (·.2) → L2 = L) → (p.2 ∉ L.map (·.2) → L2.Perm (p :: L)) → C (upd H1 D (SetN P w D L2))
def tSetN (K : PySem.W.Frag) (P : Program) (w : World) (wi : TI) (g : TG) (tt : TT) (te : TE) (vs : List Nat) : TE := fun σ H Q => wi σ H fun J H1 => ∀ D, H1 D = none → L2.Cmp.Walk J g tt (tAdN K P w te D) vs σ (fun H => Q (.ref D) H) (upd H1 D (SetN P w D []))
theorem emit_tup {B : Cx} (hx : B.xe = nil2) (hu : B.A.units + 64 < cLine) {elt : Expr} {te : TE} (he : PE B elt te) {D : Addr} : ∀ (pl : List (Addr × Obj)) s σ H C, Inv B pl σ H s → tAdN B.K B.prog B.w te D σ H C →
    wpAny (model B.prog B.w) B.A (do let v ← eval elt B.env; standAt elt.pos; let _ ← call (.builtin "set.add") [.ref D, v]) (fun _ s' => ∃ H', Inv B pl σ H' s' ∧ C H') nil2 s := by
  intro pl s σ H C I q
  have a1 := he.run pl s σ H _ I q
  rw [hx] at a1
  refine wpAny_bind (thnF a1 fun v s1 ⟨y, H1, I1, r1, p, L, ey, hD, hL, hp, few, c⟩ => wpAny_bind (wpAny_standAt (wpAny_bind ?_)))
  subst ey
  cases r1
  have R0 : Tab0 B.prog B.w s1.heap D L := (I1.hok D _ hD).1
  obtain ⟨es, ep, t, R⟩ := R0.full fun p m => kb_of I1 (hL p m)
  refine add_tup R (kb_of I1 hp) (by omega) few fun tk h2 L2 es2 ep2 t2 sb R2 c1 c2 => wpAny_pure ⟨_, ?_, c L2 c1 c2⟩
  have N := setN_new (P := B.prog) (w := B.w) (H := upd H1 D (SetN B.prog B.w D L2)) R2.t0
  exact I1.write (e := D) (t' := tk) (by rw [hD]; trivial) (.inl rfl) (fun b o hb ho => (sb.2 b hb).trans ho) (by obtain ⟨o, ho, _⟩ := R2.here; exact ⟨o, ho⟩) (setN_new R2.t0)
variable {elt tg iter : Expr} {ifs : List Expr} {scope : Scope} {own : List (PySem.Str × Nat)} {pos : Pos} {wi : TI} {g : TG} {tt : TT} {te : TE}
theorem pe_setN {K : PySem.W.Frag} {P : Program} {w : World} (eK : X.K = K) (eP : X.prog = P) (ew : X.w = w) (hc : X.calm = true) (hu : X.A.units + 64 < cLine) (hN : X.N.Nodup) (hi : PI X tg iter wi) (ok : BlkOk X.N X.env.scope scope own)
    (hg : ∀ (s : Shared) (H : Hp) (C : Addr) (cl : List (PySem.Str × Addr)) (fp : List Addr), PG (X.blk s H scope (compEnvC scope cl C X.env) fp) tg g) (ht : ∀ (s : Shared) (H : Hp) (C : Addr) (cl : List (PySem.Str × Addr)) (fp : List Addr), PTs (X.blk s H scope (compEnvC scope cl C X.env) fp) ifs tt)
    (he : ∀ (s : Shared) (H : Hp) (C : Addr) (cl : List (PySem.Str × Addr)) (fp : List Addr), PE (X.blk s H scope (compEnvC scope cl C X.env) fp) elt te) (hs : ∀ x, foldedSetIterable iter X.env x = pure x := by intro _; rfl) :
    PE X (.SetComp elt [⟨tg, iter, ifs, 0⟩] scope pos) (tSetN K P w wi g tt te (own.map (·.2))) := by
  subst eK eP ew
  refine ⟨fun pins s σ H Q I h => ?_⟩
  rw [PpSet.eval_SetComp]
  refine block_any (Q := Q) (Rd := fun J D H1 => L2.Cmp.Walk J g tt (tAdN X.K X.prog X.w te D) (own.map fun z : PySem.Str × Nat => z.2) σ (fun H => Q (.ref D) H) H1) (emp := fun D => SetN X.prog X.w D []) (.inl ⟨_, _, _, _, rfl⟩) rfl (fun q => PpSet.newSet_ok q)
    (fun I1 _ => setN_new (Tab.new (Heap.get?_push_size _ rfl)).t0) hc hN I hi ok hs h
    (fun s3 H3 C cl fp it tn J D s4 T stat I4 st4 nfp rd => ?_) fun D C s' m H' I' q hn f => ⟨m, hn, fun h'' sb => ?_⟩
  · exact clause_ok (B := X.blk s3 H3 scope (compEnvC scope cl C X.env) fp) (tail := tailIn _ _) (p := iter.pos) (.inl ⟨_, _, _, _, rfl⟩) rfl rfl rfl hc T (hg s3 H3 C cl fp) (ht s3 H3 C cl fp) stat (act_in (emit_tup (B := X.blk s3 H3 scope (compEnvC scope cl C X.env) fp) rfl hu (he s3 H3 C cl fp))) rfl
      (fun s' H' I' d => ⟨H', I', d⟩) rd I4 st4 nfp
  · obtain ⟨f0, f1, f2, f3, f4, f5⟩ := f
    exact ⟨.ref D, H', I'.turned (t' := s'.toks) (fun b o hb e => (sb.2 b hb).trans e) f0 f1 f3 f4 f5, rfl, q⟩
end
end L2.NSet
set_option Elab.async false
set_option linter.all false
set_option maxRecDepth 100000
set_option maxHeartbeats 4000000
/-! Dict comprehensions with one `for` whose keys are tuples. -/
namespace L2.Cmp
open PySem PySem.Spec PyProof.Rows
theorem d_dictSetT {X : Cx} {pins : List (Addr × Obj)} {σ : List (Option V)} {H : Hp} {s : Shared} {E : Value → Shared → Prop} {D b : Addr} {kvs : List (List L2.Key × V)} {k : List L2.Key} {v : V} {r : Value} {Q : Unit → Shared → Prop} (hu : X.A.units + 1 < cLine) (I : Inv X pins σ H s)
    (e : H D = some (.dT kvs)) (eb : H b = some (.tup (k.map kV))) (l : kvs.length < sizeLine) (rv : RelV v r) (h : ∀ s', Inv X pins σ (upd H D (.dT (putK kvs k v))) s' → Q () s') : wpAny (model X.prog X.w) X.A (dictSet D (.ref b) r) Q E s := by
  obtain ⟨z, hd, xs, rel, dd⟩ := dt_of I.hok e
  have hz : xs.length ≤ sizeLine := by rw [← Paired.length rel]; exact z
  have hl : (putK kvs k v).length ≤ sizeLine := by have := length_putK kvs k v; omega
  refine wpAny_dictSet_heap (hsz := hz) (show (tupleKind (mixKind X.prog X.w)).room X.A from ?_) (key_of I.hok eb) dd fun h' dd' hs => h _ ?_
  · exact Nat.lt_of_succ_lt hu
  · obtain ⟨q, es, ep, hq, h2, h3, h4, _, h5⟩ := dd'
    refine d_write I (by rw [e]; exact True.intro) hs ⟨q, hq⟩ ⟨hl, hd, _, (rel.put k eb rv).keeps fun c ys ec => ?_, q, es, ep, hq, h2, h3, h4, h5⟩
    rw [upd_ne (ne_of ec e (fun z => nomatch z))]
    exact ec
def tPutT (tk tv : TE) (D : Addr) : TAc := fun σ H C => tk σ H fun y H1 => tv σ H1 fun x H2 => ∃ (kvs : List (List L2.Key × V)) (k : List L2.Key) (b : Addr), y = .ref b ∧ H2 b = some (.tup (k.map kV)) ∧ H2 D = some (.dT kvs) ∧ kvs.length < sizeLine ∧ C (upd H2 D (.dT (putK kvs k x)))
def tDictT (wi : TI) (g : TG) (tt : TT) (tk tv : TE) (vs : List Nat) : TE := fun σ H Q => wi σ H fun J H1 => ∀ D, H1 D = none → Walk J g tt (tPutT tk tv D) vs σ (fun H => Q (.ref D) H) (upd H1 D (.dT []))
section
variable {X : Cx} {kx vx tg iter : Expr} {ifs : List Expr} {scope : Scope} {own : List (PySem.Str × Nat)} {pos : Pos} {wi : TI} {g : TG} {tt : TT} {tk tv : TE}
theorem emit_putT {B : Cx} (hx : B.xe = nil2) (hu : B.A.units + 1 < cLine) (hk : PE B kx tk) (hv : PE B vx tv) {D : Addr} {p : Pos} : ∀ (pl : List (Addr × Obj)) s σ H C, Inv B pl σ H s → tPutT tk tv D σ H C →
    wpAny (model B.prog B.w) B.A (do let kv ← eval kx B.env; let vv ← holding [kv] (eval vx B.env); standAt p; holding [kv, vv] (dictSet D kv vv)) (fun _ s' => ∃ H', Inv B pl σ H' s' ∧ C H') nil2 s := by
  intro pl s σ H C I q
  have a1 := hk.run pl s σ H _ I q
  rw [hx] at a1
  refine wpAny_bind (thnF a1 fun kv s1 ⟨y, H1, I1, r1, q1⟩ => ?_)
  have a2 := hv.run pl s1 σ H1 _ I1 q1
  rw [hx] at a2
  refine wpAny_bind (wpAny_holding (thnF a2 fun vv s2 ⟨x, H2, I2, r2, kvs, k, b, ey, eb, hD, few, c⟩ => ?_))
  subst ey
  cases r1
  exact wpAny_bind (wpAny_standAt (wpAny_holding (d_dictSetT hu I2 hD eb few r2 fun s3 I3 => ⟨_, I3, c⟩)))
theorem pe_dictT (hc : X.calm = true) (hu : X.A.units + 1 < cLine) (hN : X.N.Nodup) (hi : PI X tg iter wi) (ok : BlkOk X.N X.env.scope scope own)
    (hg : ∀ (s : Shared) (H : Hp) (C : Addr) (cl : List (PySem.Str × Addr)) (fp : List Addr), PG (X.blk s H scope (compEnvC scope cl C X.env) fp) tg g) (ht : ∀ (s : Shared) (H : Hp) (C : Addr) (cl : List (PySem.Str × Addr)) (fp : List Addr), PTs (X.blk s H scope (compEnvC scope cl C X.env) fp) ifs tt)
    (hk : ∀ (s : Shared) (H : Hp) (C : Addr) (cl : List (PySem.Str × Addr)) (fp : List Addr), PE (X.blk s H scope (compEnvC scope cl C X.env) fp) kx tk) (he : ∀ (s : Shared) (H : Hp) (C : Addr) (cl : List (PySem.Str × Addr)) (fp : List Addr), PE (X.blk s H scope (compEnvC scope cl C X.env) fp) vx tv)
    (hs : ∀ x, foldedSetIterable iter X.env x = pure x := by intro _; rfl) :
    PE X (.DictComp kx vx [⟨tg, iter, ifs, 0⟩] scope pos) (tDictT wi g tt tk tv (own.map (·.2))) := by
  refine ⟨fun pins s σ H Q I h => ?_⟩
  rw [arm_eval_DictComp]
  refine block_any (Q := Q) (Rd := fun J D H1 => Walk J g tt (tPutT tk tv D) (own.map fun z : PySem.Str × Nat => z.2) σ (fun H => Q (.ref D) H) H1) (emp := fun _ => .dT []) (.inr (.inr ⟨_, _, _, _, _, rfl⟩)) rfl
    (fun q => wpAny_newObj_type q) (fun I' H' => dt_empty _ I'.big) hc hN I hi ok hs h
    (fun s3 H3 C cl fp it tn J D s4 T stat I4 st4 nfp rd => ?_) fun D C s' m H' I' q hn f => ⟨m, hn, fun h'' sb => ?_⟩
  · exact clause_ok (B := X.blk s3 H3 scope (compEnvC scope cl C X.env) fp) (tail := tailIn _ _) (p := iter.pos) (.inr (.inr ⟨_, _, _, _, _, rfl⟩)) rfl rfl rfl hc T (hg s3 H3 C cl fp) (ht s3 H3 C cl fp) stat
      (act_in (emit_putT (B := X.blk s3 H3 scope (compEnvC scope cl C X.env) fp) rfl hu (hk s3 H3 C cl fp) (he s3 H3 C cl fp))) rfl (fun s' H' I' d => ⟨H', I', d⟩) rd I4 st4 nfp
  · obtain ⟨f0, f1, f2, f3, f4, f5⟩ := f
    exact ⟨.ref D, H', I'.turned (t' := s'.toks) (fun b o hb e => (sb.2 b hb).trans e) f0 f1 f3 f4 f5, rfl, q⟩
end
end L2.Cmp
set_option Elab.async false
set_option linter.all false
set_option maxRecDepth 100000
set_option maxHeartbeats 4000000
/-! Store made of facts. -/
namespace L2.LawH
open PySem PySem.Spec PyProof.Rows L2.NSet PySem.W
abbrev sInitS : Stmt := inClass (top 18) 0
/-- a fact as a member of a set, and as a key -/
def ptM (x : Pt) : Mem := (x.1, .tup (.text x.2.1 :: x.2.2.map .text))
def ptK (x : Pt) : List L2.Key := (Sum.inr x.2.1 : L2.Key) :: x.2.2.map Sum.inr
def ptV (x : Pt) : List V := .str x.2.1 :: x.2.2.map V.str
theorem ptK_V (x : Pt) : (ptK x).map kV = ptV x := by
  unfold ptK ptV
  rw [List.map_cons, List.map_map]
  rfl
theorem cr_setNK {X : Cx} {K : PySem.W.Frag} {P : Program} {w : World} (eK : X.K = K) (eP : X.prog = P) (ew : X.w = w) (hc : X.calm = true) (hu : X.A.units + 64 < cLine) : CallR X (.type "set") (rSetN K P w) := by
  subst eK eP ew
  exact cr_setN hc hu
theorem cr_sortNK {X : Cx} {K : PySem.W.Frag} {P : Program} {w : World} (eK : X.K = K) (eP : X.prog = P) (ew : X.w = w) (hc : X.calm = true) (hu : X.A.units + 64 < cLine) : CallR X (.builtin "sorted") (rSortN K P w) := by
  subst eK eP ew
  exact cr_sortN hc hu
theorem ptK_inj {x y : Pt} (h : ptK x = ptK y) : x.2 = y.2 := by
  unfold ptK at h
  injection h with h1 h2
  refine Prod.ext (Sum.inr.inj h1) ?_
  exact List.map_inj_right (fun a b e => Sum.inr.inj e) |>.mp h2
theorem ptM_inj {x y : Pt} (h : (ptM x).2 = (ptM y).2) : x.2 = y.2 := by
  unfold ptM at h
  injection h with h
  injection h with h1 h2
  injection h1 with h1
  exact Prod.ext h1 (List.map_inj_right (fun a b e => by injection e) |>.mp h2)
theorem lift_sub {α β : Type} (f : α → β) {xs : List α} : ∀ {M : List β}, (∀ p ∈ M, p ∈ xs.map f) → ∃ Ms : List α, M = Ms.map f ∧ ∀ x ∈ Ms, x ∈ xs
  | [], _ => ⟨[], rfl, fun x h => nomatch h⟩
  | p :: M, h => by
    obtain ⟨Ms, e, g⟩ := lift_sub f (M := M) fun q hq => h q (List.mem_cons_of_mem _ hq)
    obtain ⟨x, hx, ex⟩ := List.mem_map.mp (h p List.mem_cons_self)
    exact ⟨x :: Ms, by rw [List.map_cons, ex, e], fun y hy => (List.mem_cons.mp hy).elim (fun e => by rw [e]; exact hx) (g y)⟩
theorem valV_out {κ : Type} [DecidableEq κ] {kvs : List (κ × V)} {k : κ} (h : k ∉ kvs.map (·.1)) : valV kvs k = none := by
  cases e : valV kvs k with
  | none => rfl
  | some v =>
    have a := valV_any k kvs
    rw [e] at a
    obtain ⟨kv, m, d⟩ := List.any_eq_true.mp a
    exact absurd (List.mem_map.mpr ⟨kv, m, of_decide_eq_true d⟩) h
theorem datas_text : ∀ zs : List Str, NestedKey.datas (zs.map NestedKey.text) = zs.map PyData.str
  | [] => by simp [NestedKey.datas]
  | z :: zs => by
    rw [List.map_cons, List.map_cons, NestedKey.datas, datas_text zs]
    simp [NestedKey.data]
theorem data_ptM (x : Pt) : (ptM x).2.data = .tuple ((x.2.1 :: x.2.2).map PyData.str) := by
  unfold ptM
  rw [← List.map_cons, NestedKey.data, datas_text]
theorem alike_texts : ∀ a b : List Str, alikeAll (a.map PyData.str) (b.map PyData.str) = true
  | [], _ => by simp [alikeAll]
  | _ :: _, [] => by simp [alikeAll]
  | a :: as, b :: bs => by
    rw [List.map_cons, List.map_cons, alikeAll, alike_texts as bs]
    simp [alike]
theorem alike_ptM (x y : Pt) : alike (ptM x).2.data (ptM y).2.data = true := by
  rw [data_ptM, data_ptM, alike]
  exact alike_texts _ _
theorem ddepth_texts : ∀ a : List Str, PyData.depthAll (a.map PyData.str) = 0
  | [] => by simp [PyData.depthAll]
  | a :: as => by
    rw [List.map_cons, PyData.depthAll, ddepth_texts as]
    simp [PyData.depth]
theorem ddepth_ptM (x : Pt) : (ptM x).2.data.depth ≤ 1 := by
  rw [data_ptM, PyData.depth, ddepth_texts]
  exact Nat.le_refl _
theorem kdepth_texts : ∀ a : List Str, NestedKey.depthAll (a.map NestedKey.text) = 0
  | [] => by simp [NestedKey.depthAll]
  | a :: as => by
    rw [List.map_cons, NestedKey.depthAll, kdepth_texts as]
    simp [NestedKey.depth]
theorem kdepth_ptM (x : Pt) : (ptM x).2.depth ≤ 1 := by
  unfold ptM
  rw [← List.map_cons, NestedKey.depth, kdepth_texts]
  exact Nat.le_refl _
theorem dp_texts {K : PySem.W.Frag} {H : Hp} : ∀ zs : List Str, DpAll K H (zs.map V.str) (zs.map PyData.str)
  | [] => .nil
  | z :: zs => .cons (.str z) (dp_texts zs)
theorem memOk_pt {K : PySem.W.Frag} {H : Hp} {x : Pt} (h : H x.1 = some (.tup (ptV x))) : MemOk K H (ptM x) := by
  refine ⟨.inl ?_, Nat.le_trans (kdepth_ptM x) (by decide)⟩
  rw [data_ptM]
  exact .tup (SqT.of h) (dp_texts (x.2.1 :: x.2.2))
/-- a for over a list or a tuple -/
theorem for_seq {K : PySem.W.Frag} {q : Addr} {xs : List V} {g : TG} {tb : TS} {D : Ends} {σ : St} {H : Hp} (hq : SqL K H q xs ∨ SqT K H q xs) (Pv : Nat → St → Hp → Prop) (h0 : Pv 0 σ H) (st : ∀ i σ H', Pv i σ H' → Ext H H')
    (hs : ∀ i x σ H', xs[i]? = some x → Pv i σ H' → g x σ H' fun σ2 H2 => tb { D with nx := Pv (i + 1), ct := Pv (i + 1), bk := D.nx } σ2 H2) (hd : ∀ σ H, Pv xs.length σ H → D.nx σ H) :
    ((∃ xs, SqL K H q xs) ∧ ∃ W : Nat → Nat → St → Hp → Prop, (∃ m, W 0 m σ H) ∧ ∀ i m σ H, W i m σ H →
      ((Itl K q).stop i H ∧ D.nx σ H) ∨ ((Itl K q).go i H ∧ ∃ N : St → Hp → Prop, (∀ σ' H', N σ' H' → ∃ m', m' < m ∧ W (i + 1) m' σ' H') ∧ ∀ x H', (Itl K q).yld i H x H' → g x σ H' fun σ2 H2 => tb { D with nx := N, ct := N, bk := D.nx } σ2 H2)) ∨
    ((∃ xs, SqT K H q xs) ∧ ∃ W : Nat → Nat → St → Hp → Prop, (∃ m, W 0 m σ H) ∧ ∀ i m σ H, W i m σ H →
      ((Itt K q).stop i H ∧ D.nx σ H) ∨ ((Itt K q).go i H ∧ ∃ N : St → Hp → Prop, (∀ σ' H', N σ' H' → ∃ m', m' < m ∧ W (i + 1) m' σ' H') ∧ ∀ x H', (Itt K q).yld i H x H' → g x σ H' fun σ2 H2 => tb { D with nx := N, ct := N, bk := D.nx } σ2 H2)) :=
  hq.elim
    (fun e => .inl ⟨⟨_, e⟩, for_it (L2.walk_list (K := K)) Pv h0 (fun i σ H' _ p => e.ext (st i σ H' p)) (fun i x σ H' H'' _ p y => by obtain ⟨rfl, hx⟩ := y; exact hs i x σ _ hx p) hd⟩)
    (fun e => .inr ⟨⟨_, e⟩, for_it (L2.walk_tup (K := K)) Pv h0 (fun i σ H' _ p => e.ext (st i σ H' p)) (fun i x σ H' H'' _ p y => by obtain ⟨rfl, hx⟩ := y; exact hs i x σ _ hx p) hd⟩)
/-- the fields of a Store -/
abbrev fsS (t d : Addr) : List (Str × V) := putF "_groups" .non (putF "_held" (.ref d) (putF "_facts" (.ref t) []))
def spInitS (C : Addr) (K : PySem.W.Frag) : Sp := fun vs H Q _ => ∃ (p q dx : Addr) (xs : List Pt), vs = [.ref p, .ref q] ∧ H p = some (.ins C dx []) ∧ (SqL K H q (xs.map fun x => V.ref x.1) ∨ SqT K H q (xs.map fun x => V.ref x.1)) ∧
  (∀ x ∈ xs, H x.1 = some (.tup (ptV x)) ∧ factB (ptV x) = true ∧ x.2.2.length ≤ 3 ∧ ∀ y ∈ ptV x, Okv K H y) ∧ xs.length < 63 ∧
  ∀ (H' : Hp) (t d : Addr) (M : List Pt), (∀ b o, b ≠ p → H b = some o → H' b = some o) → H' p = some (.ins C dx (fsS t d)) → H' t = some (.tup (M.map fun x => V.ref x.1)) → H t = none → H d = none →
    H' d = some (.dT (M.map fun x => (ptK x, V.bl true))) → (∀ x ∈ M, x ∈ xs) → (∀ x ∈ xs, x.2 ∈ M.map (·.2)) → (M.map (·.2)).Nodup → Rise (fun x : Pt => (ptM x).2.data) M → Q .non H'
structure StT (K : PySem.W.Frag) (mg : Str → Option Value) (C : Addr) : Prop where
  cl : Cls K C
  nF : NoAttr K C "_facts"
  nH : NoAttr K C "_held"
  nG : NoAttr K C "_groups"
section
variable {P : Program} {w : World} {K : PySem.W.Frag} {mg : Str → Option Value} {base : Heap}
abbrev nIS : List Str := ["self", "facts", "value", "fact"]
theorem scIS : FnScope nIS ["self", "facts"] (defScope sInitS) := ⟨rfl, rfl, rfl, by decide +kernel, rfl, by decide +kernel, by decide +kernel⟩
theorem ok_initS {f fF C : Addr} {fd fdF : FuncData} {T1 : V} (F : FunD K "__init__" "Store.__init__" (defArgs sInitS) (defBody sInitS) (defScope sInitS) [T1] [] f fd) (T : StT K mg C)
    (GF : FnOk P w K mg base CX0 4 fF fdF ["value"] (spIsP K factB)) (kF : PySem.W.keepIn K (.ref fF) = true) (bF : Binds K fdF ["value"] []) (mF : mg "is_fact" = some (.ref fF))
    (ms : mg "sorted" = none) (mt : mg "tuple" = none) (mS : mg "set" = none) :
    FnOk P w K mg base CX0 5 f fd ["self", "facts"] (spInitS C K) := by
  refine F.ok scIS (fun vs H Q E h => ?_) (fun cdv A outer s H vs Q E hr h => ?_)
  · obtain ⟨p, q, dx, xs, rfl, _⟩ := h
    rfl
  · obtain ⟨p, q, dx, xs, rfl, hp, hq, each, few, k⟩ := h
    have hu := hr.units
    have hu1 := hu_of hr
    refine ⟨_, PSs.nox (pss_cons (ps_for PassesOwn.never rfl (pi_seq (pv 1)) (pg_name (i := 2) scIS.nd rfl (Or.inl rfl))
        (pss_one (ps_if (pt_not (pt_val (pe_call GF hr (by rfl) mF kF bF .nil pass0 (pa_cons (pv 2) pa_nil)))) (pss_one ps_never) pss_nil)))
      (pss_cons (ps_fld (pv 0) (pe_callTy call_tuple_of (by rfl) mt (by decide +kernel) (pa_cons (pe_callB (cr_sortNK (K := K) (P := P) (w := w) rfl rfl rfl rfl hu) (by rfl) ms (by decide +kernel) (pa_cons (pe_callTy (cr_setNK (K := K) (P := P) (w := w) rfl rfl rfl rfl hu) (by rfl) mS (by decide +kernel) (pa_cons (pv 1) pa_nil)) pa_nil)) pa_nil)) rfl)
      (pss_cons (ps_fld (pv 0) (Cmp.pe_dictT (own := [("fact", 3)]) (g := gName 3) (tt := tYes) rfl hu1 scIS.nd (pi_tup (pe_fld (pv 0) rfl))
        (blkOk_by (own := [("fact", 3)]) (N := nIS) (sc := defScope sInitS) (by decide +kernel)) (fun _ _ _ _ _ => pg_name (i := 3) scIS.nd rfl (Or.inl rfl)) (fun _ _ _ _ _ => pts_nil)
        (fun _ _ _ _ _ => pv 3) (fun _ _ _ _ _ => pe_bl)) rfl)
      (pss_one (ps_fld (pv 0) pe_non rfl))))), ?_⟩
    refine ⟨_, rfl, q, rfl, for_seq hq (fun i σ H5 => ∃ v2 : Option V, σ = [some (.ref p), some (.ref q), v2, none] ∧ Same H H5) ⟨none, rfl, fun _ _ h => h⟩ (fun i σ H5 p => let ⟨_, _, s⟩ := p; s) (fun i z σ H5 hz pp => ?_) (fun σ H5 pp => ?_)⟩
    · obtain ⟨v2, rfl, s5⟩ := pp
      rw [List.getElem?_map] at hz
      obtain ⟨x, hx, rfl⟩ := Option.map_eq_some_iff.mp hz
      obtain ⟨e1, e2, e3, e4⟩ := each x (List.mem_of_getElem? hx)
      refine ⟨_, rfl, .ref x.1, rfl, .inl ⟨x.1, ptV x, rfl, s5 _ _ e1, ?_, fun y hy => (e4 y hy).same s5, fun H6 s6 => ?_⟩⟩
      · unfold ptV
        rw [List.length_cons, List.length_map]
        omega
      · rw [e2]
        exact ⟨true, rfl, iteF ⟨_, rfl, fun b o h => s6 _ _ (s5 _ _ h)⟩⟩
    · obtain ⟨v2, rfl, s5⟩ := pp
      have each5 : ∀ x ∈ xs, H5 x.1 = some (.tup (ptV x)) := fun x hx => s5 _ _ (each x hx).1
      have em : (xs.map ptM).map (fun z : Mem => V.ref z.1) = xs.map fun x => V.ref x.1 := by
        rw [List.map_map]
        rfl
      refine ⟨_, rfl, q, xs.map ptM, rfl, ?_, fun z hz => ?_, by rw [List.length_map]; omega, fun sa L ns sub all nd => ?_⟩
      · rw [em]
        exact hq.imp (fun e => e.ext s5) fun e => e.ext s5
      · obtain ⟨x, hx, rfl⟩ := List.mem_map.mp hz
        exact memOk_pt (each5 x hx)
      have s6 : Same H5 (upd H5 sa (SetN P w sa L)) := same_new ns
      have h6 : (upd H5 sa (SetN P w sa L)) sa = some (SetN P w sa L) := upd_same
      generalize upd H5 sa (SetN P w sa L) = H6 at s6 h6 ⊢
      refine ⟨sa, L, rfl, h6, fun z hz => ?_, fun d hd d2 hd2 => ?_, fun z hz => ?_, fun z hz => ?_, fun M l pM rM nl => ?_⟩
      · obtain ⟨x, hx, rfl⟩ := List.mem_map.mp (sub z hz)
        exact memOk_pt (s6 _ _ (each5 x hx))
      · obtain ⟨z, hz, rfl⟩ := List.mem_map.mp hd
        obtain ⟨z2, hz2, rfl⟩ := List.mem_map.mp hd2
        obtain ⟨x, hx, rfl⟩ := List.mem_map.mp (sub z hz)
        obtain ⟨x2, hx2, rfl⟩ := List.mem_map.mp (sub z2 hz2)
        exact alike_ptM x x2
      · obtain ⟨x, hx, rfl⟩ := List.mem_map.mp (sub z hz)
        exact ⟨_, rfl⟩
      · obtain ⟨x, hx, rfl⟩ := List.mem_map.mp (sub z hz)
        exact Nat.le_trans (ddepth_ptM x) (by decide)
      obtain ⟨Ms, rfl, subM⟩ := lift_sub ptM (xs := xs) (M := M) fun z hz => sub z (pM.mem_iff.mp hz)
      have ndM : (Ms.map (·.2)).Nodup := by
        have h := ((pM.map (·.2)).nodup_iff).mpr nd
        rw [List.map_map, List.Nodup, List.pairwise_map] at h
        rw [List.Nodup, List.pairwise_map]
        exact List.Pairwise.imp (fun {a b} h e => h (by show (ptM a).2 = (ptM b).2; unfold ptM; rw [show a.2.1 = b.2.1 by rw [e], show a.2.2 = b.2.2 by rw [e]])) h
      have rise : Rise (fun x : Pt => (ptM x).2.data) Ms := List.pairwise_map.mp rM
      have allM : ∀ x ∈ xs, x.2 ∈ Ms.map (·.2) := fun x hx => by
        obtain ⟨z, hz, e⟩ := List.mem_map.mp (all (ptM x) (List.mem_map.mpr ⟨x, hx, rfl⟩))
        obtain ⟨y, hy, rfl⟩ := List.mem_map.mp (pM.mem_iff.mpr hz)
        exact List.mem_map.mpr ⟨y, hy, ptM_inj e⟩
      have few2 : Ms.length ≤ 63 := by
        have := nodup_len (Ms.map (·.2)) (xs.map (·.2)) ndM fun c hc => by
          obtain ⟨y, hy, rfl⟩ := List.mem_map.mp hc
          exact List.mem_map.mpr ⟨y, subM y hy, rfl⟩
        rw [List.length_map, List.length_map] at this
        omega
      rw [List.map_map]
      refine ⟨l, _, rfl, .inl ⟨SqL.of upd_same, fun t nt => ?_⟩⟩
      have s7 : Same H5 (upd (upd H6 l (.lst (Ms.map ((fun z : Mem => V.ref z.1) ∘ ptM)))) t (.tup (Ms.map ((fun z : Mem => V.ref z.1) ∘ ptM)))) := fun b o h => same_new nt _ _ (same_new nl _ _ (s6 _ _ h))
      have h7 : (upd (upd H6 l (.lst (Ms.map ((fun z : Mem => V.ref z.1) ∘ ptM)))) t (.tup (Ms.map ((fun z : Mem => V.ref z.1) ∘ ptM)))) t = some (.tup (Ms.map fun x => V.ref x.1)) := upd_same
      generalize upd (upd H6 l (.lst (Ms.map ((fun z : Mem => V.ref z.1) ∘ ptM)))) t (.tup (Ms.map ((fun z : Mem => V.ref z.1) ∘ ptM))) = H7 at s7 h7 ⊢
      have pt : p ≠ t := fun e => by
        have h := s5 _ _ hp
        rw [← e] at nt
        rw [same_new nl _ _ (s6 _ _ h)] at nt
        cases nt
      have hp7 := s7 _ _ (s5 _ _ hp)
      refine ⟨_, rfl, p, C, dx, [], rfl, hp7, T.cl, T.nF, (by show 0 < 1000; decide), ?_⟩
      -- the dict
      have a1 : (upd H7 p (.ins C dx (putF "_facts" (.ref t) []))) p = some (.ins C dx (putF "_facts" (.ref t) [])) := upd_same
      have a2 : ∀ b o, b ≠ p → H7 b = some o → (upd H7 p (.ins C dx (putF "_facts" (.ref t) []))) b = some o := fun b o nb h => by
        rw [upd_ne nb]
        exact h
      have a3 := a2 _ _ (Ne.symm pt) h7
      have eachM : ∀ x ∈ Ms, (upd H7 p (.ins C dx (putF "_facts" (.ref t) []))) x.1 = some (.tup (ptV x)) := fun x hx => by
        refine a2 _ _ (fun e => ?_) (s7 _ _ (each5 x (subM x hx)))
        have h := each5 x (subM x hx)
        rw [e, s5 _ _ hp] at h
        cases h
      have ntH : H t = none := by
        cases h : H t with
        | none => rfl
        | some o => rw [same_new nl _ _ (s6 _ _ (s5 _ _ h))] at nt; cases nt
      generalize hH8 : upd H7 p (.ins C dx (putF "_facts" (.ref t) [])) = H8 at a1 a2 a3 eachM ⊢
      refine ⟨_, rfl, p, C, dx, _, .ref t, rfl, a1, T.cl, T.nF, rfl, t, rfl, ⟨_, SqT.of a3⟩, fun D nD => ?_⟩
      refine walk_tup (xs := Ms.map fun x => V.ref x.1) _ _ _ _ _ _ _ (fun i H9 => H9 D = some (.dT ((Ms.take i).map fun x => (ptK x, V.bl true))) ∧ Same H8 H9) ⟨upd_same, same_new nD⟩ (fun i H9 hi p => SqT.of (p.2 _ _ a3)) (fun i z H9 hz pp => ?_) (fun H9 pp => ?_)
      · obtain ⟨b1, b2⟩ := pp
        rw [List.getElem?_map] at hz
        obtain ⟨x, hx, rfl⟩ := Option.map_eq_some_iff.mp hz
        have mx : x ∈ Ms := List.mem_of_getElem? hx
        refine ⟨rfl, ?_⟩
        dsimp only [tYes]
        rw [if_pos rfl]
        have tk1 : Ms.take (i + 1) = Ms.take i ++ [x] := by
          rw [List.take_succ, hx]
          rfl
        have fresh : ptK x ∉ ((Ms.take i).map fun x => (ptK x, V.bl true)).map (·.1) := fun h => by
          rw [List.map_map] at h
          obtain ⟨y, hy, e⟩ := List.mem_map.mp h
          have nd2 : ((Ms.take (i + 1)).map (·.2)).Nodup := ((List.take_sublist (i + 1) Ms).map _).nodup ndM
          rw [tk1, List.map_append, List.nodup_append] at nd2
          exact nd2.2.2 _ (List.mem_map.mpr ⟨y, hy, rfl⟩) _ (by simp) (ptK_inj e)
        refine ⟨_, rfl, _, ptK x, x.1, rfl, by rw [ptK_V]; exact b2 _ _ (eachM x mx), b1, ?_, ?_, fun b o h => ?_⟩
        · rw [List.length_map, List.length_take, sizeLine_eq]
          omega
        · rw [upd_same, putK_new _ (valV_out fresh), tk1, List.map_append]
          rfl
        · rw [upd_ne (ne_of_none h nD)]
          exact b2 _ _ h
      · obtain ⟨b1, b2⟩ := pp
        rw [List.length_map, List.take_length] at b1
        have Dp' : D ≠ p := fun e => by
          rw [e, a1] at nD
          cases nD
        refine ⟨_, rfl, p, C, dx, _, rfl, b2 _ _ a1, T.cl, T.nH, (by show 1 < 1000; decide), ?_⟩
        refine ⟨_, rfl, p, C, dx, _, rfl, upd_same, T.cl, T.nG, (by show 2 < 1000; decide), ?_⟩
        refine k _ t D Ms (fun b o nb h => ?_) upd_same ?_ ntH ?_ ?_ subM allM ndM rise
        · rw [upd_ne nb, upd_ne nb]
          exact b2 _ _ (a2 _ _ nb (s7 _ _ (s5 _ _ h)))
        · rw [upd_ne (Ne.symm pt), upd_ne (Ne.symm pt)]
          exact b2 _ _ a3
        · cases h : H D with
          | none => rfl
          | some o =>
            by_cases e : D = p
            · exact absurd e Dp'
            · rw [a2 _ _ e (s7 _ _ (s5 _ _ h))] at nD
              cases nD
        · rw [upd_ne Dp', upd_ne Dp']
          exact b1
end
end L2.LawH
set_option Elab.async false
set_option linter.all false
set_option maxRecDepth 100000
set_option maxHeartbeats 4000000
/-! Dicts of texts to texts: their items, sorted; a dict of a tuple of pairs. -/
namespace L2.TxtDict
open PySem PySem.Spec PyProof.Rows L2.NSet L2.DX PySem.W
abbrev Prs2 : Type := List (Str × Str)
/-- the entries -/
def kd (m : Prs2) : List (Key × V) := m.map fun p => ((Sum.inr p.1 : Key), V.str p.2)
theorem kd_get {m : Prs2} {j : Nat} {e : Str × Str} (h : m[j]? = some e) : (kd m)[j]? = some (Sum.inr e.1, V.str e.2) := by
  unfold kd
  rw [List.getElem?_map, h]
  rfl
theorem kd_len (m : Prs2) : (kd m).length = m.length := List.length_map ..
section
variable {X : Cx}
/-- d.items() -/
def rItemsK : V → List V → Hp → VK → Prop := fun x xs H Q => ∃ (a : Addr) (kvs : List (Key × V)), x = .ref a ∧ xs = [] ∧ H a = some (.dK kvs) ∧ ∀ p, H p = none → Q (.ref p) (upd H p (itemsO p a))
theorem mt_itemsK : MtR X "dict.items" rItemsK := by
  intro pins s σ H x xs v us Q I rx rxs h
  obtain ⟨a, kvs, rfl, rfl, ha, q⟩ := h
  cases rx
  cases rxs
  obtain ⟨z, hd, vs, rel, o, es, ep, ho, hx, hdat, _⟩ := dk_of I.hok ha
  refine DT.callItems (es := es) (ep := ep) hd ⟨o, ho, hx, hdat⟩ ?_
  exact ⟨.ref s.heap.objs.size, upd H s.heap.objs.size (itemsO s.heap.objs.size a), I.laid (t' := s.toks) (fun b u e => Heap.get?_push_of_some _ e) (Nat.le_refl _) (itemsO_ok (Heap.get?_push_size _ rfl)), rfl, q _ (I.hok.fresh (Nat.le_refl _))⟩
/-- a pair as data -/
def pairD (z : Addr × Str × Str) : PyData := .tuple [.str z.2.1, .str z.2.2]
theorem pairs_alike {α : Type} (f : α → Str × Str) (l : List α) : AllAlike (l.map fun z => PyData.tuple [.str (f z).1, .str (f z).2]) := fun d hd d2 hd2 => by
  obtain ⟨x, _, rfl⟩ := List.mem_map.mp hd
  obtain ⟨y, _, rfl⟩ := List.mem_map.mp hd2
  simp [alike, alikeAll]
/-- sorted(d.items()) -/
def rSortIK : List V → Hp → VK → Prop := fun vs H Q => ∃ (p a : Addr) (m : Prs2), vs = [.ref p] ∧ H p = some (itemsO p a) ∧ H a = some (.dK (kd m)) ∧ m.length < 64 ∧
  ∀ (H' : Hp) (l : Addr) (ps : List (Addr × Str × Str)), (∀ b o, H b = some o → H' b = some o) → H l = none → (ps.map (·.2)).Perm m → Rise pairD ps → H' l = some (.lst (ps.map fun z => V.ref z.1)) →
    (∀ z ∈ ps, H z.1 = none ∧ H' z.1 = some (.tup [.str z.2.1, .str z.2.2])) → Q (.ref l) H'
theorem vals_ref1 : ∀ (ps : List (Addr × Str × Str)), Vals (ps.map fun z => V.ref z.1) (ps.map fun z => Value.ref z.1)
  | [] => .nil
  | _ :: r => .cons rfl (vals_ref1 r)
theorem ref_out : ∀ {ps : List (Addr × Str × Str)} {out : List Value}, EachIs (fun v (z : Addr × Str × Str) => v = Value.ref z.1) out ps → out = ps.map fun z => Value.ref z.1
  | [], _, .nil => rfl
  | _ :: _, _, .cons r e => by rw [r, ref_out e]; rfl
theorem ref_in : ∀ (as : List Addr) (m : Prs2), as.length = m.length → EachIs (fun v (z : Addr × Str × Str) => v = Value.ref z.1) (as.map Value.ref) (as.zip m)
  | [], [], _ => .nil
  | [], _ :: _, h => by cases h
  | _ :: _, [], h => by cases h
  | a :: as, p :: m, h => .cons rfl (ref_in as m (Nat.succ.inj h))
theorem reads_in {h2 : Heap} {L : Addr} : ∀ (as : List Addr) (m : Prs2), as.length = m.length → (∀ (j : Nat) (b : Addr) (e : Str × Str), as[j]? = some b → m[j]? = some e → ∃ t u, h2.get? b = some { cls := .type "tuple", data := .seq #[.str e.1 t, .str e.2 u] }) →
    EachIs (fun v (z : Addr × Str × Str) => ∃ bs, PySem.Reads h2 v (pairD z) bs ∧ L ∉ bs) (as.map Value.ref) (as.zip m)
  | [], [], _, _ => .nil
  | [], _ :: _, h, _ => by cases h
  | _ :: _, [], h, _ => by cases h
  | a :: as, p :: m, h, k => by
    refine .cons ?_ (reads_in as m (Nat.succ.inj h) fun j b e h1 h2 => k (j + 1) b e h1 h2)
    obtain ⟨t, u, g⟩ := k 0 a p rfl rfl
    exact ⟨[], .tuple g rfl rfl (.cons (as := []) (bs := []) (.str _ _) (.cons (as := []) (bs := []) (.str _ _) .nil)), by simp⟩
theorem cr_sortedIK (hc : X.calm = true) (hu : X.A.units + 64 < cLine) : CallR X (.builtin "sorted") rSortIK := by
  intro pins s σ H xs us Q I r h
  obtain ⟨p, a, m, rfl, hp, ha, few, q⟩ := h
  obtain rfl := Vals.ref1 r
  have view : s.heap.IsItemsView p a := (show ObjOk X.prog X.w H s.heap p (itemsO p a) from I.hok p _ hp).1
  obtain ⟨z, hd, vs, rel, dof⟩ := dk_of I.hok ha
  obtain ⟨es, ep, raw, sz, ent⟩ := PySem.Heap.DictOf.raw dof
  have lv : vs.length = m.length := by rw [← kd_len m]; exact (Paired.length rel).symm
  refine DT.sortedI (es := es) (ep := ep) (I.ok.hd hc) view raw (by rw [sz, lv, sizeLine_eq]; omega) fun h' tk as hk hlt hl hG => ?_
  have la : as.length = m.length := by rw [hl, sz, lv]
  have nd : as.Nodup := List.Pairwise.imp (fun h => Nat.ne_of_lt h) hG.rise
  have pr : ∀ (j : Nat) (b : Addr) (e : Str × Str), as[j]? = some b → m[j]? = some e → ∃ t u, h'.get? b = some { cls := .type "tuple", data := .seq #[.str e.1 t, .str e.2 u] } := fun j b e hj he => by
    obtain ⟨en, hen, hg⟩ := hG.pairs j b hj
    obtain ⟨hi, rfl⟩ := Array.getElem?_eq_some_iff.mp hen
    obtain ⟨x, hx, rx⟩ := kv_get rel (kd_get he)
    obtain ⟨k1, k2⟩ := ent j hi _ _ hx
    have rk : RelV (kV (Sum.inr e.1)) es[j].key := relV_key (show keyIs (Sum.inr e.1) es[j].key = true from k1)
    obtain ⟨t, ek⟩ := rk
    obtain ⟨u, eu⟩ := rx
    rw [ek, k2, eu] at hg
    exact ⟨t, u, hg⟩
  have hob : (h'.push { cls := .type "list", data := .seq (as.map Value.ref).toArray }).get? h'.objs.size = some (seqObj "list" (as.map Value.ref).toArray 0) := Heap.get?_push_size _ rfl
  have kb : ∀ b o, s.heap.get? b = some o → (h'.push { cls := .type "list", data := .seq (as.map Value.ref).toArray }).get? b = some o := fun b o e => Heap.get?_push_of_some _ (hk b o e)
  have ka : ∀ b o, h'.get? b = some o → (h'.push { cls := .type "list", data := .seq (as.map Value.ref).toArray }).get? b = some o := fun b o e => Heap.get?_push_of_some _ e
  have ne0 : ∀ b o, h'.get? b = some o → b ≠ h'.objs.size := fun b o e => Nat.ne_of_lt (Heap.lt_size e)
  generalize h'.push { cls := .type "list", data := .seq (as.map Value.ref).toArray } = h2 at hob kb ka ⊢
  refine list_sort_any2 (s := { s with heap := h2, toks := tk }) (R := fun v (z : Addr × Str × Str) => v = Value.ref z.1) (enc := pairD) (bs := as.zip m) hob (ref_in as m la) (reads_in as m la fun j b e h1 h2' => ?_) (pairs_alike (fun z : Addr × Str × Str => z.2) _) (.inr fun d hd => ?_)
    (by rw [List.length_zip, sizeLine_eq]; omega) (fun b _ => ?_) fun out lo eo => ?_
  · obtain ⟨t, u, g⟩ := pr j b e h1 h2'
    exact ⟨t, u, ka _ _ g⟩
  · obtain ⟨x, _, rfl⟩ := List.mem_map.mp hd
    exact ⟨_, rfl⟩
  · show X.A.units + 1 + 1 + (PyData.tuple [.str b.2.1, .str b.2.2]).depth < cLine
    have e : (PyData.tuple [.str b.2.1, .str b.2.2]).depth = 1 := by simp [PyData.depth, PyData.depthAll]
    rw [e]
    omega
  · generalize hS : (as.zip m).mergeSort (dataLe false pairD) = S at eo
    have pS : S.Perm (as.zip m) := by rw [← hS]; exact List.mergeSort_perm _ _
    have rS : Rise pairD S := by rw [← hS]; exact rise_sort _
    have eO := ref_out eo
    have pm : (S.map (·.2)).Perm m := by
      have e := pS.map (·.2)
      have m2 : (as.zip m).map (·.2) = m := List.map_snd_zip (by rw [la]; exact Nat.le_refl _)
      rwa [m2] at e
    have idx : ∀ z ∈ S, ∃ j : Nat, as[j]? = some z.1 ∧ m[j]? = some z.2 := fun z hz => by
      obtain ⟨j, hj⟩ := List.mem_iff_getElem?.mp (pS.mem_iff.mp hz)
      exact ⟨j, List.getElem?_zip_eq_some.mp hj⟩
    have kF : ∀ b o, b ≠ h'.objs.size → h2.get? b = some o → (sortedHeap h2 h'.objs.size (as.map Value.ref) (List.toArray out)).get? b = some o := fun b o hb e => (PyProof.Rows.sortedHeap_old hb (Heap.lt_size e)).trans e
    have kS : ∀ b o, s.heap.get? b = some o → (sortedHeap h2 h'.objs.size (as.map Value.ref) (List.toArray out)).get? b = some o := fun b o e => kF b o (ne0 _ _ (hk b o e)) (kb b o e)
    obtain ⟨eF, heF⟩ := PyProof.Rows.sortedHeap_at (vs := as.map Value.ref) (out := List.toArray out) hob
    have I1 : Inv X pins σ H { s with heap := sortedHeap h2 h'.objs.size (as.map Value.ref) (List.toArray out), toks := tk } := I.kept (t' := tk) kS
    have hn0 : H h'.objs.size = none := I.hok.fresh (Nat.le_of_lt hlt)
    have len : (S.map fun z => V.ref z.1).length ≤ sizeLine := by
      have e := pm.length_eq
      rw [List.length_map] at e
      rw [List.length_map, sizeLine_eq]
      omega
    have I2 : Inv X pins σ (upd H h'.objs.size (.lst (S.map fun z => V.ref z.1))) { s with heap := sortedHeap h2 h'.objs.size (as.map Value.ref) (List.toArray out), toks := tk } :=
      I1.take (h' := sortedHeap h2 h'.objs.size (as.map Value.ref) (List.toArray out)) (t' := tk) (fun b ob _ e => e) (I.fpOk (Nat.le_of_lt hlt) hn0) ⟨len, out, eF, by rw [eO]; exact vals_ref1 S, heF⟩
    obtain ⟨H2, I3, g, qt⟩ := takeT (P := fun b vs => ∃ (j : Nat) (e : Str × Str), as[j]? = some b ∧ m[j]? = some e ∧ vs = [.str e.1, .str e.2]) I as _ I2 nd fun b hb => by
      obtain ⟨j, hj⟩ := List.mem_iff_getElem?.mp hb
      have jl : j < m.length := by
        have := (List.getElem?_eq_some_iff.mp hj).1
        omega
      obtain ⟨t, u, hg⟩ := pr j b m[j] hj (List.getElem?_eq_getElem jl)
      have bl : s.heap.objs.size ≤ b := Nat.le_of_lt (hG.above b hb)
      refine ⟨bl, ?_, [.str m[j].1, .str m[j].2], ⟨j, m[j], hj, List.getElem?_eq_getElem jl, rfl⟩, fun H3 => ⟨(by rw [sizeLine_eq]; show 2 ≤ 16777216; omega), [Value.str m[j].1 t, Value.str m[j].2 u], .cons ⟨t, rfl⟩ (.cons ⟨u, rfl⟩ .nil), ⟨_, kF _ _ (ne0 _ _ hg) (ka _ _ hg), rfl, 0, rfl⟩⟩⟩
      rw [upd_ne (ne0 _ _ hg)]
      exact I.hok.fresh bl
    have gr : ∀ b o, H b = some o → H2 b = some o := fun b o e => g b o (by rw [upd_ne (ne_of_none e hn0)]; exact e)
    refine ⟨.ref h'.objs.size, H2, I3, rfl, q H2 h'.objs.size S gr hn0 pm rS (g _ _ upd_same) fun z hz => ?_⟩
    obtain ⟨i, i1, i2⟩ := idx z hz
    obtain ⟨vs2, ⟨j, e, j1, j2, ev⟩, hH⟩ := qt z.1 (List.mem_of_getElem? i1)
    have eij : i = j := (List.getElem?_inj (List.getElem?_eq_some_iff.mp i1).1 nd).mp (i1.trans j1.symm)
    subst eij
    have ee : e = z.2 := Option.some.inj (j2.symm.trans i2)
    rw [ev, ee] at hH
    exact ⟨I.hok.fresh (Nat.le_of_lt (hG.above _ (List.mem_of_getElem? i1))), hH⟩
/-- dict(ps), ps a tuple or a list of pairs -/
theorem dict_pairs_tup {A : Around} {E : Value → Shared → Prop} {s : Shared} {P : Program} {w : World} : True := trivial
end
end L2.TxtDict
set_option Elab.async false
set_option linter.all false
set_option maxRecDepth 100000
set_option maxHeartbeats 4000000
/-! tuple(pairs) as a plain tuple; dict(a tuple of pairs). -/
namespace L2.TxtDict
open PySem PySem.Spec PyProof.Rows L2.NSet L2.DX PySem.W
section
variable {X : Cx}
def rTupPT (K : PySem.W.Frag) : List V → Hp → VK → Prop := fun xs H Q => ∃ (p : Addr) (ts : List Addr), xs = [V.ref p] ∧ SqL K H p (ts.map V.ref) ∧ ∀ l, H l = none → Q (.ref l) (upd H l (PTu l ts))
theorem call_tuplePT : CallR X (.type "tuple") (rTupPT X.K) := by
  intro pins s σ H xs us Q I r h
  obtain ⟨p, ts, rfl, hq, q⟩ := h
  rw [Vals.ref1 r]
  obtain ⟨its, r', pl, hz⟩ := I.list hq
  have ei := refs_at r'
  subst ei
  refine call_tuple_list pl.isList (fun h' kp => ?_) (by have := hz; simp only [List.size_toArray, List.length_map] at this ⊢; omega)
  have I1 : Inv X pins σ H { s with heap := h' } := I.kept (t' := s.toks) kp
  have ok : ObjOk X.prog X.w (upd H h'.objs.size (PTu h'.objs.size ts)) (h'.push { cls := .type "tuple", data := .seq (ts.map Value.ref).toArray }) h'.objs.size (PTu h'.objs.size ts) :=
    ⟨⟨_, 0, Heap.get?_push_size _ rfl, rfl, rfl, rfl⟩, ⟨_, Heap.get?_push_size _ rfl⟩, fun h1 h2 x k => let ⟨o, n, ho, r⟩ := x; ⟨o, n, k o ho, r⟩⟩
  exact ⟨.ref h'.objs.size, _, I1.laid (t' := s.toks) (fun b o e => Heap.get?_push_of_some _ e) (Nat.le_refl _) ok, rfl, q _ (I1.hok.fresh (Nat.le_refl _))⟩
theorem pairs_raw {pins : List (Addr × Obj)} {σ : L2.St} {H : Hp} {s : Shared} (I : Inv X pins σ H s) : ∀ {ts : List Addr} {m : Prs2}, Paired (fun t (q : Str × Str) => H t = some (.tup [.str q.1, .str q.2])) ts m →
    ∃ (ps : List (Value × Value)) (prs : List (Key × Value)), ps.length = ts.length ∧ prs.length = ts.length ∧ KV (kd m) prs ∧
      ∀ (j : Nat) (k v : Value), ps[j]? = some (k, v) → ∃ (key : Key) (b : Addr), prs[j]? = some (key, v) ∧ (mixKind X.prog X.w).is key k = true ∧ ts[j]? = some b ∧ s.heap.IsTuple b #[k, v]
  | _, _, .nil => ⟨[], [], rfl, rfl, .nil, fun j k v e => by simp at e⟩
  | _, _, .cons (a := t) (b := q) h r => by
    obtain ⟨ps, prs, l1, l2, kv, g⟩ := pairs_raw I r
    obtain ⟨its, rv, pl, _⟩ := I.tuple (SqT.of h)
    obtain ⟨u, y, rfl, ru, ry⟩ := vals2 rv
    refine ⟨(u, y) :: ps, (Sum.inr q.1, y) :: prs, by rw [List.length_cons, List.length_cons, l1], by rw [List.length_cons, List.length_cons, l2], .cons ⟨rfl, ry⟩ kv, fun j k v e => ?_⟩
    cases j with
    | zero =>
      have e2 : (u, y) = (k, v) := Option.some.inj e
      cases e2
      exact ⟨Sum.inr q.1, t, rfl, kV_is (P := X.prog) (w := X.w) (k := Sum.inr q.1) ru, rfl, pl⟩
    | succ j =>
      obtain ⟨key, b, e1, e2, e3, e4⟩ := g j k v (by simpa using e)
      exact ⟨key, b, by simpa using e1, e2, by simpa using e3, e4⟩
def rDictPT : List V → Hp → VK → Prop := fun xs H Q => ∃ (a : Addr) (ts : List Addr) (m : Prs2), xs = [V.ref a] ∧ H a = some (PTu a ts) ∧ Paired (fun t (q : Str × Str) => H t = some (.tup [.str q.1, .str q.2])) ts m ∧ m.length ≤ 1000 ∧
  ∀ p, H p = none → Q (.ref p) (upd H p (.dK (mergeK [] (kd m))))
theorem call_dictPT (hcalm : X.calm = true) : CallR X (.type "dict") rDictPT := by
  intro pins s σ H xs us Q I r h
  obtain ⟨a, ts, m, rfl, ha, hp, few, q⟩ := h
  rw [Vals.ref1 r]
  obtain ⟨o, n, ho, hc, hdn, hd⟩ := (show ∃ o n, s.heap.get? a = some o ∧ o.cls = .type "tuple" ∧ o.dict = none ∧ o.data = .seq (ts.map Value.ref).toArray n from (I.hok a _ ha).1)
  obtain ⟨ps, prs, l1, l2, rel, g⟩ := pairs_raw I hp
  have lm : ts.length = m.length := Paired.length hp
  refine PySem.call_dict_pairs (knd := mixKind X.prog X.w) (kvs := prs) (PairArg.tuple a (ts.map Value.ref).toArray (fun j => ts.getD j 0) ps) (I.ok.hd hcalm) ⟨⟨o, n, ho, hc, hdn, hd⟩, by simp [l1], fun j k v e => ?_⟩ ⟨by rw [l2, l1], fun i key v e => ?_⟩ (by rw [l1, lm, sizeLine_eq]; omega) fun h' tk hd' k => ?_
  · obtain ⟨key, b, e1, e2, e3, e4⟩ := g j k v e
    have eb : ts.getD j 0 = b := by simp [List.getD_eq_getElem?_getD, e3]
    show (List.map Value.ref ts).toArray[j]? = some (Value.ref (ts.getD j 0)) ∧ PairAt s.heap (ts.getD j 0) k v
    rw [eb]
    exact ⟨by simp [e3], .inl e4⟩
  · obtain ⟨k, b, e1, e2, e3, e4⟩ := g i key v e
    exact ⟨k, e1, e2⟩
  · have hm : (s.heap.objs.size == sysModules) = false := beq_eq_false_iff_ne.mpr (Nat.ne_of_gt I.big)
    have len : (mergeK [] (kd m)).length ≤ sizeLine := by
      refine Nat.le_trans (length_mergeK (kd m) []) ?_
      rw [List.length_nil, Nat.zero_add, kd_len, sizeLine_eq]
      omega
    exact ⟨.ref s.heap.objs.size, upd H s.heap.objs.size (.dK (mergeK [] (kd m))), I.laid (t' := tk) (fun b o e => k b o (by simp) e) (Nat.le_refl _) (show ObjOk X.prog X.w _ _ _ (.dK (mergeK [] (kd m))) from ⟨len, hm, merged [] prs, KV.merge rel .nil, hd'⟩), rfl, q _ (I.hok.fresh (Nat.le_refl _))⟩
end
end L2.TxtDict
set_option Elab.async false
set_option linter.all false
set_option maxRecDepth 100000
set_option maxHeartbeats 4000000
/-! Dicts displayed by two stars. -/
namespace L2.TxtDict
open PySem PySem.Spec PyProof.Rows L2.NSet L2.DX PySem.W
section
variable {P : Program} {w : World} {A : Around} {E : Value → Shared → Prop} {s : Shared}
/-- an entry put with its hash -/
theorem put_pairs {d : Addr} {kvs : List (Key × Value)} {k : Key} {key v : Value} {Q : Unit → Shared → Prop} (hk : (mixKind P w).is k key = true) (hm : s.heap.DictOf (mixKind P w) d kvs)
    (hQ : ∀ h2, h2.DictOf (mixKind P w) d (stored kvs k v) → Heap.SameBut d s.heap h2 → Q () { s with heap := h2 }) (hz : kvs.length ≤ sizeLine) : wpAny (model P w) A (dictPut d ((mixKind P w).hash k) key v) Q E s := by
  have q := wpAny_dictSetHashed_pairs (prog := P) (w := w) (knd := mixKind P w) (A := A) (E := E) (s := s) (v := v) (Q := Q) hk hm hQ hz
  obtain ⟨o, es, ep, ho, hc, hd, hks, hp, hn⟩ := hm
  have hes : es.size ≤ sizeLine := by
    have e1 := hp.length
    have e2 : es.toList.length = es.size := by simp
    omega
  have hidx : (es.findIdx? fun e => (mixKind P w).is k e.key) = kvs.findIdx? fun kv => decide (kv.1 = k) := by
    rw [← hp.findIdx k]
    obtain ⟨l⟩ := es
    simp
  unfold dictPut
  refine wpAny_bind (wpAny_dictFind_of hk ho hd hks ?_)
  cases hi : es.findIdx? fun e => (mixKind P w).is k e.key with
  | some i =>
    refine wpAny_updateDict ho hd (hQ _ ⟨_, _, ep, Heap.get?_update_self _ ho (Obj.isFreed_of_dict (Obj.data_mapDict hd _)), hc.mapDict _, Obj.data_mapDict hd _, hks.modify _ _, ?_, ?_⟩ (Heap.SameBut.update ..))
    · rw [stored, if_pos (any_of_findIdx_some (hidx ▸ hi))]
      have hl : (es.toList.findIdx? fun e => (mixKind P w).is k e.key) = some i := by
        rw [← hi]
        obtain ⟨l⟩ := es
        simp
      have z := hp.modify hn hl v
      obtain ⟨l⟩ := es
      simpa using z
    · rw [stored, if_pos (any_of_findIdx_some (hidx ▸ hi)), keys_map_store]
      exact hn
  | none =>
    have nk : k ∉ kvs.map (·.1) := not_mem_of_findIdx_none (hidx ▸ hi)
    have nany : ¬ (kvs.any fun kv => decide (kv.1 = k)) = true := by
      rw [List.any_eq_true]
      rintro ⟨kv, m, e⟩
      exact nk (List.mem_map.mpr ⟨kv, m, of_decide_eq_true e⟩)
    refine wpAny_updateDictKeys (hz := hes) ho hd (hQ _ ⟨_, _, ep + 1, Heap.get?_update_self _ ho (Obj.isFreed_of_dict (Obj.data_mapDictKeys hd _)), hc.mapDictKeys _, Obj.data_mapDictKeys hd _, hks.push hk _, ?_, ?_⟩ (Heap.SameBut.update ..))
    · rw [stored, if_neg nany]
      have z := hp.append hk ((mixKind P w).hash k) v
      obtain ⟨l⟩ := es
      simpa using z
    · rw [stored, if_neg nany, List.map_append, List.nodup_append]
      refine ⟨hn, by simp, fun a ha b hb => ?_⟩
      simp only [List.map_cons, List.map_nil, List.mem_singleton] at hb
      subst hb
      exact fun e => nk (e ▸ ha)
/-- the other dict's entries go into the new one -/
theorem merge_map {d a : Addr} {kvs more : List (Key × Value)} {Q : Unit → Shared → Prop} (da : d ≠ a) (hs : (a == sysModules) = false) (hd : s.heap.DictOf (mixKind P w) d kvs) (ha : s.heap.DictOf (mixKind P w) a more)
    (hQ : ∀ h2, h2.DictOf (mixKind P w) d (merged kvs more) → Heap.SameBut d s.heap h2 → Q () { s with heap := h2 }) (hz : kvs.length + more.length ≤ sizeLine) : wpAny (model P w) A (mergeMapping d (.ref a) false) Q E s := by
  have ty := ha.typeIs
  obtain ⟨od, esd, epd, hod, hcd, hdd, hkd, hpd, hnd⟩ := id hd
  obtain ⟨oo, eso, epo, hoo, hco, hdo, hko, hpo, hno⟩ := id ha
  have len : more.length = eso.size := by
    rw [← hpo.length]
    simp
  unfold mergeMapping
  refine wpAny_bind (wpAny_isInstance ty F.sub_dict_dict ?_)
  simp only [if_true]
  refine wpAny_bind (wpAny_specialOf ty F.slot_dict_iter.lookup ?_)
  have e1 : (some (Value.builtin "dict.__iter__") == some (Value.builtin "dict.__iter__")) = true := beq_self_eq_true _
  rw [e1]
  refine wpAny_bind (wpAny_pure ?_)
  dsimp only
  refine wp_if_neg (by rw [hs]; decide) ?_
  -- the entries, one by one
  have loop : ∀ (R : PUnit → Shared → Prop) (body : Nat → PUnit → Sem (ForInStep PUnit)), (∀ h2, h2.DictOf (mixKind P w) d (merged kvs more) → Heap.SameBut d s.heap h2 → R () { s with heap := h2 }) → (∀ i u, body i u = (do
        let l ← dictEntries a
        match l[i]? with
        | some e => do
          holding [e.key, e.val] (dictPut d e.hash e.key e.val)
          let c ← dictEpoch a
          if (c != epo) = true then do
              unsupported "dict.changed-during-merge"
              pure (ForInStep.yield PUnit.unit)
            else pure (ForInStep.yield PUnit.unit)
        | none => do
          unsupported "dict.changed-during-merge"
          pure (ForInStep.yield PUnit.unit))) → wpAny (model P w) A (forIn (List.range eso.size) PUnit.unit body) R E s := fun R body hR hb => by
    refine wpAny_forIn_list _ (fun rest _ s2 => ∃ h2 i, s2 = { s with heap := h2 } ∧ rest = (List.range eso.size).drop i ∧ i ≤ eso.size ∧ h2.DictOf (mixKind P w) d (merged kvs (more.take i)) ∧ h2.get? a = some oo ∧ Heap.SameBut d s.heap h2) _
      (fun x rest b s2 I => ?_) (fun b s2 I => ?_) _ _ ⟨s.heap, 0, rfl, rfl, Nat.zero_le _, by simpa [merged] using hd, hoo, Heap.SameBut.refl _ _⟩
    · obtain ⟨h2, i, rfl, hr, hi, d2, a2, sb⟩ := I
      have lt : i < eso.size := by
        rcases Nat.lt_or_ge i eso.size with z | z
        · exact z
        · rw [List.drop_of_length_le (by rw [List.length_range]; exact z)] at hr
          cases hr
      have hdr : (List.range eso.size).drop i = i :: (List.range eso.size).drop (i + 1) := by simp [List.drop_eq_getElem_cons, lt]
      rw [hdr] at hr
      injection hr with r1 r2
      subst r1 r2
      rw [hb]
      refine wpAny_bind (wpAny_dictEntries a2 hdo ?_)
      rw [Array.getElem?_eq_getElem lt]
      dsimp only
      obtain ⟨⟨k, v⟩, hkv⟩ : ∃ kv, more[x]? = some kv := ⟨more[x]'(by rw [len]; exact lt), List.getElem?_eq_getElem _⟩
      obtain ⟨hkey, hval⟩ := hpo.get? (e := eso[x]) (by simp [lt]) hkv
      obtain ⟨k2, hkey2, hhash⟩ := hko eso[x] (Array.getElem_mem lt)
      obtain rfl : k2 = k := (mixKind P w).inj _ _ _ hkey2 hkey
      rw [hhash, hval]
      have room : (merged kvs (more.take x)).length ≤ sizeLine := by
        have e1 := merged_length_le kvs (more.take x)
        have e2 : (more.take x).length ≤ more.length := by rw [List.length_take]; omega
        omega
      refine wpAny_bind (wpAny_holding (put_pairs hkey d2 (fun h3 d3 sb3 => ?_) room))
      have a3 : h3.get? a = some oo := (sb3.2 a (Ne.symm da)).trans a2
      refine wpAny_bind (wpAny_dictEpoch a3 hdo ?_)
      rw [if_neg (by simp)]
      exact wpAny_pure ⟨h3, x + 1, rfl, rfl, lt, by rw [merged_take_succ kvs more x (k2, v) hkv]; exact d3, a3, sb.trans sb3⟩
    · obtain ⟨h2, i, rfl, hr, hi, d2, a2, sb⟩ := I
      have hin : i = eso.size := by
        rcases Nat.lt_or_ge i eso.size with z | z
        · have hdr : (List.range eso.size).drop i = i :: (List.range eso.size).drop (i + 1) := by simp [List.drop_eq_getElem_cons, z]
          rw [hdr] at hr
          cases hr
        · exact Nat.le_antisymm hi z
      rw [hin, ← len, List.take_length] at d2
      exact hR h2 d2 sb
  refine wpAny_bind (wpAny_dictEntries hod hdd ?_)
  by_cases emp : esd.isEmpty = true
  · refine wp_if_pos emp (wpAny_bind (wpAny_dictEntries hoo hdo (wpAny_bind ?_)))
    rw [← Array.forIn_toList]
    refine wpAny_forIn_list _ (fun rest _ s2 => s2 = s ∧ ∀ e ∈ rest, e ∈ eso.toList) _ (fun x rest b s2 I => ?_) (fun b s2 I => ?_) _ _ ⟨rfl, fun e m => m⟩
    · obtain ⟨rfl, I2⟩ := I
      obtain ⟨k, hkey, _⟩ := hko x (by simpa using I2 x List.mem_cons_self)
      have rk : RelV (kV k) x.key := relV_key (show keyIs k x.key = true from hkey)
      have e : ∃ c : Bool, True := ⟨true, trivial⟩
      cases k with
      | inl i =>
        obtain ⟨t, ek⟩ := rk
        rw [ek]
        exact wpAny_pure ⟨rfl, fun e m => I2 e (List.mem_cons_of_mem _ m)⟩
      | inr z =>
        obtain ⟨t, ek⟩ := rk
        rw [ek]
        exact wpAny_pure ⟨rfl, fun e m => I2 e (List.mem_cons_of_mem _ m)⟩
    · obtain ⟨rfl, _⟩ := I
      refine wpAny_bind (wpAny_dictEntries hoo hdo (wpAny_bind (wpAny_dictEpoch hoo hdo (wpAny_bind (loop _ _ (fun h2 d2 sb => wpAny_pure (hQ h2 d2 sb)) fun i u => ?_)))))
      refine congrArg (fun k => dictEntries a >>= k) (funext fun l => ?_)
      cases l[i]? <;> rfl
  · refine wp_if_neg emp ?_
    refine wpAny_bind (wpAny_dictEntries hoo hdo (wpAny_bind (wpAny_dictEpoch hoo hdo (wpAny_bind (loop _ _ (fun h2 d2 sb => wpAny_pure (hQ h2 d2 sb)) fun i u => ?_)))))
    refine congrArg (fun k => dictEntries a >>= k) (funext fun l => ?_)
    cases l[i]? <;> rfl
end
section
variable {X : Cx}
/-- {**a, **b} -/
def tStar2 (ta tb : TE) : TE := fun σ H Q => ∀ p, H p = none → ta σ (upd H p (.dK [])) fun x H1 => H1 p = some (.dK []) ∧ ∃ a k1, x = .ref a ∧ a ≠ p ∧ Rd H1 a (.dK k1) ∧ k1.length ≤ 1000 ∧
  tb σ (upd H1 p (.dK (mergeK [] k1))) fun y H2 => H2 p = some (.dK (mergeK [] k1)) ∧ ∃ b k2, y = .ref b ∧ b ≠ p ∧ Rd H2 b (.dK k2) ∧ k2.length ≤ 1000 ∧ Q (.ref p) (upd H2 p (.dK (mergeK (mergeK [] k1) k2)))
theorem merge_I {pins : List (Addr × Obj)} {σ : L2.St} {H : Hp} {s : Shared} {E : Value → Shared → Prop} {p a : Addr} {k0 k1 : List (Key × V)} {Q : Unit → Shared → Prop} (I : Inv X pins σ H s) (hp : H p = some (.dK k0)) (ha : Rd H a (.dK k1)) (pa : a ≠ p) (l0 : k0.length ≤ 1000) (l1 : k1.length ≤ 1000)
    (h : ∀ s2, Inv X pins σ (upd H p (.dK (mergeK k0 k1))) s2 → Q () s2) : wpAny (model X.prog X.w) X.A (mergeMapping p (.ref a) false) Q E s := by
  obtain ⟨z0, hd0, v0, rel0, d0⟩ := dk_of I.hok hp
  obtain ⟨z1, hd1, v1, rel1, d1⟩ := dk_rd I.hok ha
  have e0 := rel0.length
  have e1 := rel1.length
  refine merge_map (Ne.symm pa) hd1 d0 d1 (fun h2 d2 sb => h _ ?_) (by rw [sizeLine_eq]; omega)
  have len : (mergeK k0 k1).length ≤ sizeLine := by
    have := length_mergeK k1 k0
    rw [sizeLine_eq]
    omega
  have he : ∃ q, h2.get? p = some q := let ⟨q, _, _, hq, _⟩ := d2; ⟨q, hq⟩
  exact d_write I (by rw [hp]; exact True.intro) sb he (dk_new len hd0 (KV.merge rel1 rel0) d2)
theorem pe_star2 {a b : Expr} {pos : Pos} {ta tb : TE} (ha : PE X a ta) (hb : PE X b tb) : PE X (.Dict [none, none] [a, b] pos) (tStar2 ta tb) := by
  refine ⟨fun pins s σ H Q I h => ?_⟩
  rw [arm_eval_Dict]
  have shape : (evalEachOpt [none, none] X.env).zip ((evalEach [a, b] X.env).map fun v => (do let x ← v; standAt pos; pure x : Sem Value)) = [(none, do let x ← eval a X.env; standAt pos; pure x), (none, do let x ← eval b X.env; standAt pos; pure x)] := rfl
  rw [shape]
  refine wpAny_bind (wpAny_standAt ?_)
  unfold dictDisplay
  dsimp only
  simp only [List.forIn_cons, List.forIn_nil, List.isEmpty_nil, if_true, pure_bind, bind_assoc]
  refine wpAny_bind (wpAny_alloc ?_)
  have hn : H s.heap.objs.size = none := I.hok.fresh (Nat.le_refl _)
  have I0 : Inv X pins σ (upd H s.heap.objs.size (.dK [])) { s with heap := s.heap.push { cls := .type "dict", data := .dict #[] } } := I.laid (t' := s.toks) (fun _ _ q => Heap.get?_push_of_some _ q) (Nat.le_refl _) (dk_empty s.heap I.big)
  refine wpAny_bind (wpAny_holding (wpAny_bind (thn (ha.run pins _ σ _ _ I0 (h _ hn)) fun v s1 ⟨x, H1, I1, r1, hp1, a', k1, ex, na, rd1, l1, q1⟩ => wpAny_bind (wpAny_standAt (wpAny_pure ?_)))))
  subst ex
  cases r1
  refine wpAny_bind (wpAny_onRaise (wpAny_tryCatch (wpAny_onRaise (wpAny_holding (merge_I I1 hp1 rd1 na (by decide) l1 fun s2 I2 => ?_)))))
  refine wpAny_bind (wpAny_holding (wpAny_bind (thn (hb.run pins _ σ _ _ I2 q1) fun v2 s3 ⟨y, H3, I3, r3, hp3, b', k2, ey, nb, rd3, l2, q3⟩ => wpAny_bind (wpAny_standAt (wpAny_pure ?_)))))
  subst ey
  cases r3
  have l0 : (mergeK [] k1).length ≤ 1000 := by
    have := length_mergeK k1 []
    rw [List.length_nil] at this
    omega
  refine wpAny_bind (wpAny_onRaise (wpAny_tryCatch (wpAny_onRaise (wpAny_holding (merge_I I3 hp3 rd3 nb l0 l2 fun s4 I4 => ?_)))))
  exact wpAny_pure ⟨.ref s.heap.objs.size, _, I4, rfl, q3⟩
end
end L2.TxtDict
set_option Elab.async false
set_option linter.all false
set_option maxRecDepth 100000
set_option maxHeartbeats 4000000
/-! a != b of two lists whose items are equal, dicts among them. -/
namespace L2.LstNe
open PySem PySem.Spec PyProof.Rows PySem.SeqAt AutoSeq1 MeetsSeq MeetsSeq2 MeetsSeq3
section
variable {P : Program} {w : World}
/-- equal item by item -/
def Same2 (P : Program) (w : World) (A : Around) (s : Shared) (xs ys : Array Value) : Prop := ∀ j (h1 : j < xs.size) (h2 : j < ys.size), EqP P w A s xs[j] ys[j] true
theorem ne_turns (l b : Addr) (xs ys : Array Value) (n m : Nat) (d1 d2 : Option Addr) (s1 s2 : Array (Option Value)) (hz : xs.size = ys.size) (k : Nat) : ∀ i : Nat, xs.size - i = k → MeetsIn P w (Builtin.«list.__eq__.loop» ⟨[.ref l, .ref b, rawInt i, rawInt 3], []⟩)
    (fun A R s => s.heap.get? l = some { cls := .type "list", dict := d1, data := .seq xs n, slots := s1 } ∧ s.heap.get? b = some { cls := .type "list", dict := d2, data := .seq ys m, slots := s2 } ∧ Same2 P w A.in1 s xs ys ∧ R (.ok (.ret (.bool false))) s) := by
  induction k with
  | zero =>
    rintro i hk A R ⟨hp, g, d, tk, os⟩ ⟨hl, hb, he, h⟩
    wp_walk using wpAny_loadPart' hl, wpAny_loadPart' hb
    have g1 : xs[((i : Nat) : Int).toNat]? = none := by simp; omega
    have g2 : ys[((i : Nat) : Int).toNat]? = none := by simp; omega
    rw [g1, g2]
    wp_walk using wpAny_loadPart' hl, wpAny_loadPart' hb
    show R (.ok (.ret (.bool (xs.size != ys.size)))) _
    rw [hz]
    simpa using h
  | succ k ih =>
    rintro i hk A R ⟨hp, g, d, tk, os⟩ ⟨hl, hb, he, h⟩
    wp_walk using wpAny_loadPart' hl, wpAny_loadPart' hb
    have l1 : i < xs.size := by omega
    have l2 : i < ys.size := by omega
    have g1 : xs[((i : Nat) : Int).toNat]? = some xs[i] := by simp [l1]
    have g2 : ys[((i : Nat) : Int).toNat]? = some ys[i] := by simp [l2]
    have up : ((i : Int) + 1) = ((i + 1 : Nat) : Int) := by push_cast; rfl
    rw [g1, g2]
    refine wpAny_bind (he i l1 l2 _ _ ?_)
    wp_walk
    rw [up]
    refine ⟨plainId_quiet plain_eq_loop _, codeAny_builtin entry_eq_loop ?_⟩ <;> rw [Around.under_plainId plain_eq_loop _]
    exact ih (i + 1) (by omega) A R _ ⟨hl, hb, he, h⟩
theorem ne_lists {A : Around} {s : Shared} {l b : Addr} {xs ys : Array Value} (hl : s.heap.IsList l xs) (hb : s.heap.IsList b ys) (hz : xs.size = ys.size) (hu : A.units < cLine) (he : Same2 P w A.in1 s xs ys) (E Q : Value → Shared → Prop) (h : Q (.bool false) s) :
    wpAny (model P w) A (richCompare .NotEq (.ref l) (.ref b)) Q E s := by
  obtain ⟨⟨c1, d1, p1, s1⟩, ho1, hc1, n1, hd1⟩ := hl
  obtain ⟨⟨c2, d2, p2, s2⟩, ho2, hc2, n2, hd2⟩ := hb
  simp only at hc1 hd1 hc2 hd2
  subst hc1 hd1 hc2 hd2
  have ta : s.TypeIs (.ref l) "list" := ⟨_, ho1, rfl⟩
  have tb : s.TypeIs (.ref b) "list" := ⟨_, ho2, rfl⟩
  have whole : MeetsIn P w (Builtin.«list.__ne__» ⟨[.ref l, .ref b], []⟩) (fun A R s => s.heap.get? l = some { cls := .type "list", dict := d1, data := .seq xs n1, slots := s1 } ∧ s.heap.get? b = some { cls := .type "list", dict := d2, data := .seq ys n2, slots := s2 } ∧ Same2 P w A.in1 s xs ys ∧ R (.ok (.ret (.bool false))) s) := by
    rintro A R ⟨hp, g, d, tk, os⟩ ⟨hl, hb, he, h⟩
    have f3 := AutoSeq1.sub_list_list
    have hne : ¬ (xs.size != ys.size) = true := by simp [hz]
    wp_walk using wpAny_loadPart' hl, wpAny_loadPart' hb
    refine ⟨plainId_quiet plain_eq_loop _, codeAny_builtin entry_eq_loop ?_⟩ <;> rw [Around.under_plainId plain_eq_loop _]
    exact ne_turns l b xs ys n1 n2 d1 d2 s1 s2 hz _ 0 rfl A R _ ⟨hl, hb, he, h⟩
  exact wpAny_richCompare_same_room (op := .NotEq) ta tb F.slot_list_ne (call_meetsIn F.slot_list_ne ta F.entry_list_ne (F.args_list_ne_2 _ _) whole ⟨ho1, ho2, he, show Value.bool false ≠ Value.notImplemented ∧ Q (.bool false) s from ⟨(fun x => nomatch x), h⟩⟩) hu
end
section
variable {X : Cx}
/-- a != b, two lists that are equal -/
def rNeV (K : PySem.W.Frag) : R2 := fun x y H Q => ∃ n, n ≤ 60 ∧ (∃ a b xs ys, x = .ref a ∧ y = .ref b ∧ SqL K H a xs ∧ SqL K H b ys ∧ Paired (EqV K H n) xs ys) ∧ Q (.bl false) H
theorem op_neV (hu : X.A.units + 64 < cLine) : OpR X (compareOp .NotEq) (rNeV X.K) := by
  intro pins s σ H x y v u Q I rx ry h
  obtain ⟨n, hn, ⟨a, b, xs, ys, rfl, rfl, ha, hb, hp⟩, q⟩ := h
  cases (show v = Value.ref a from rx)
  cases (show u = Value.ref b from ry)
  obtain ⟨us, r1, p1, _⟩ := I.list ha
  obtain ⟨ws, r2, p2, _⟩ := I.list hb
  have hz : us.toArray.size = ws.toArray.size := by
    rw [List.size_toArray, List.size_toArray, ← r1.length, ← r2.length]
    exact Paired.length hp
  refine ne_lists (A := X.A) p1.isList p2.isList hz (by omega) (fun j h1 h2 => ?_) X.xe (EP X pins σ Q) ⟨.bl false, H, I, rfl, q⟩
  have k := items_run (P := X.prog) (w := X.w) (A := X.A.in1) (s := s) (fun x y v u e r1 r2 => eqV_run I n X.A.in1 (by show X.A.units + 1 + n < cLine; omega) x y v u e r1 r2) hp r1 r2 j (by simpa using h1) (by simpa using h2)
  simpa using k
theorem op_neVK {K : PySem.W.Frag} (e : X.K = K) (hu : X.A.units + 64 < cLine) : OpR X (compareOp .NotEq) (rNeV K) := by
  subst e
  exact op_neV hu
end
end L2.LstNe
set_option Elab.async false
set_option linter.all false
set_option maxRecDepth 100000
set_option maxHeartbeats 4000000
/-! Maps of texts to texts: what they hold. -/
namespace L2.LawH
open PySem PySem.Spec PyProof.Rows L2.TxtDict
def look : Prs2 → Str → Option Str
  | [], _ => none
  | p :: m, z => if p.1 = z then some p.2 else look m z
theorem val_kd : ∀ (m : Prs2) (z : Str), valV (kd m) (Sum.inr z : Key) = (look m z).map V.str
  | [], _ => rfl
  | p :: m, z => by
    by_cases e : p.1 = z
    · rw [show kd (p :: m) = ((Sum.inr p.1 : Key), V.str p.2) :: kd m from rfl, valV_pos (by rw [e]), look, if_pos e]
      rfl
    · rw [show kd (p :: m) = ((Sum.inr p.1 : Key), V.str p.2) :: kd m from rfl, valV_neg (fun q => e (Sum.inr.inj q)), look, if_neg e]
      exact val_kd m z
theorem look_mem : ∀ {m : Prs2} {z v : Str}, look m z = some v → (z, v) ∈ m
  | [], _, _, h => nomatch h
  | p :: m, z, v, h => by
    rw [look] at h
    by_cases e : p.1 = z
    · rw [if_pos e] at h
      have := Option.some.inj h
      rw [← e, ← this]
      exact List.mem_cons_self
    · rw [if_neg e] at h
      exact List.mem_cons_of_mem _ (look_mem h)
theorem look_of : ∀ {m : Prs2} {p : Str × Str}, (m.map Prod.fst).Nodup → p ∈ m → look m p.1 = some p.2
  | q :: m, p, nd, h => by
    rw [List.map_cons, List.nodup_cons] at nd
    rw [look]
    rcases List.mem_cons.mp h with rfl | h
    · rw [if_pos rfl]
    · have ne : ¬ q.1 = p.1 := fun e => nd.1 (by rw [e]; exact List.mem_map.mpr ⟨p, h, rfl⟩)
      rw [if_neg ne]
      exact look_of nd.2 h
theorem look_none {m : Prs2} {z : Str} : look m z = none ↔ z ∉ m.map Prod.fst := by
  induction m with
  | nil => simp [look]
  | cons p m ih =>
    rw [look, List.map_cons, List.mem_cons]
    by_cases e : p.1 = z
    · rw [if_pos e]
      simp [e]
    · rw [if_neg e, ih]
      have : ¬ z = p.1 := fun h => e h.symm
      simp [this]
structure Good (m : Prs2) : Prop where
  nd : (m.map Prod.fst).Nodup
  few : m.length ≤ 20
  ok : ∀ p ∈ m, PyData.strOk p.1 = true ∧ PyData.strOk p.2 = true
/-- the map m at d -/
def MapAt (H : Hp) (d : Addr) (m : Prs2) : Prop := H d = some (.dK (kd m))
theorem MapAt.same {H H' : Hp} {d : Addr} {m : Prs2} (h : MapAt H d m) (s : Same H H') : MapAt H' d m := s _ _ h
/-- behind a lock -/
theorem unlocked {H H5 : Hp} {a : Addr} {od : Obj} {u : HO} (h : H a = some u) (s : Same (upd H a (.frz od u)) H5) : Same H (upd H5 a u) := fun b o e => by
  by_cases eb : b = a
  · rw [eb] at e ⊢
    rw [upd_same, ← h, e]
  · rw [upd_ne eb]
    exact s b o (by rw [upd_ne eb]; exact e)
theorem rd_frz {H : Hp} {a b : Addr} {od : Obj} {m1 m2 : Prs2} (ha : MapAt H a m1) (hb : MapAt H b m2) : Rd (upd H a (.frz od (.dK (kd m1)))) b (.dK (kd m2)) := by
  by_cases e : b = a
  · subst e
    have : kd m1 = kd m2 := by
      have q := ha.symm.trans hb
      injection q with q
      injection q
    rw [← this]
    exact .inr ⟨od, upd_same⟩
  · exact .inl (by rw [upd_ne e]; exact hb)
theorem rd_same {H H' : Hp} {a : Addr} {u : HO} (r : Rd H a u) (s : Same H H') : Rd H' a u := r.imp (s _ _) fun ⟨o, e⟩ => ⟨o, s _ _ e⟩
end L2.LawH
set_option Elab.async false
set_option linter.all false
set_option maxRecDepth 100000
set_option maxHeartbeats 4000000
/-! Maps of texts to texts: entries put, maps merged, the order by key; dict comprehensions over walks. -/
namespace L2.LawH
open PySem PySem.Spec PyProof.Rows L2.TxtDict
theorem str_anti {a b : Str} (x : a.cps.toList ≤ b.cps.toList) (y : b.cps.toList ≤ a.cps.toList) : a = b := by
  have e : a.cps.toList = b.cps.toList := List.le_antisymm x y
  cases a
  cases b
  exact congrArg Str.mk (Array.toList_inj.mp e)
/-- by key -/
def leP (p q : Str × Str) : Bool := !ltCps q.1.cps.toList p.1.cps.toList
theorem leP_iff {p q : Str × Str} : leP p q = true ↔ p.1.cps.toList ≤ q.1.cps.toList := by
  simp only [leP, Bool.not_eq_true', ltCps_eq, decide_eq_false_iff_not, List.not_lt]
def canon (m : Prs2) : Prs2 := m.mergeSort leP
theorem canon_perm (m : Prs2) : (canon m).Perm m := List.mergeSort_perm ..
theorem canon_pw (m : Prs2) : (canon m).Pairwise fun p q => p.1.cps.toList ≤ q.1.cps.toList := by
  refine List.Pairwise.imp (fun h => leP_iff.mp h) (List.pairwise_mergeSort (le := leP) (fun a b c x y => ?_) (fun a b => ?_) m)
  · exact leP_iff.mpr (List.le_trans (leP_iff.mp x) (leP_iff.mp y))
  · rcases List.le_total a.1.cps.toList b.1.cps.toList with h | h
    · rw [leP_iff.mpr h]; rfl
    · rw [leP_iff.mpr h, Bool.or_true]
theorem canon_asc (m : Prs2) : sortedS ((canon m).map Prod.fst) = true := by
  refine sortedS_of_pairwise _ ?_
  rw [List.pairwise_map]
  refine List.Pairwise.imp (fun {a b} h => ?_) (canon_pw m)
  rw [ltCps_eq]
  exact decide_eq_false (List.not_lt.mpr h)
theorem keys_canon {m : Prs2} {ys : List Str} (p : ys.Perm (m.map Prod.fst)) (h : sortedS ys = true) : ys = (canon m).map Prod.fst := asc_eq h (canon_asc m) p ((canon_perm m).map _)
theorem canon_nd {m : Prs2} (nd : (m.map Prod.fst).Nodup) : ((canon m).map Prod.fst).Nodup := ((canon_perm m).map _).nodup_iff.mpr nd
theorem look_iff {m : Prs2} (nd : (m.map Prod.fst).Nodup) {z v : Str} : look m z = some v ↔ (z, v) ∈ m := ⟨look_mem, fun h => look_of nd h⟩
theorem look_ext {m m' : Prs2} (nd : (m.map Prod.fst).Nodup) (nd' : (m'.map Prod.fst).Nodup) (h : ∀ p, p ∈ m ↔ p ∈ m') (z : Str) : look m z = look m' z := by
  cases e : look m z with
  | some v => exact ((look_iff nd').mpr ((h _).mp (look_mem e))).symm
  | none =>
    cases e' : look m' z with
    | none => rfl
    | some v =>
      have := (look_iff nd).mpr ((h _).mpr (look_mem e'))
      rw [e] at this
      cases this
theorem look_canon {m : Prs2} (nd : (m.map Prod.fst).Nodup) (z : Str) : look (canon m) z = look m z := look_ext (canon_nd nd) nd (fun _ => (canon_perm m).mem_iff) z
theorem nd_of {m : Prs2} (nd : (m.map Prod.fst).Nodup) : m.Nodup := by
  rw [List.Nodup, List.pairwise_map] at nd
  exact List.Pairwise.imp (fun h e => h (by rw [e])) nd
theorem fst_inj {m : Prs2} (nd : (m.map Prod.fst).Nodup) {p q : Str × Str} (hp : p ∈ m) (hq : q ∈ m) (e : p.1 = q.1) : p = q := by
  have h1 := look_of nd hp
  have h2 := look_of nd hq
  rw [e, h2] at h1
  exact Prod.ext e (Option.some.inj h1).symm
theorem canon_eq {m m' : Prs2} (nd : (m.map Prod.fst).Nodup) (p : m.Perm m') : canon m = canon m' := by
  refine List.Perm.eq_of_pairwise (fun a b ha hb x y => ?_) (canon_pw m) (canon_pw m') ((canon_perm m).trans (p.trans (canon_perm m').symm))
  exact fst_inj nd ((canon_perm m).mem_iff.mp ha) (p.mem_iff.mpr ((canon_perm m').mem_iff.mp hb)) (str_anti x y)
theorem perm_look {m m' : Prs2} (nd : (m.map Prod.fst).Nodup) (nd' : (m'.map Prod.fst).Nodup) (h : ∀ z, look m z = look m' z) : m.Perm m' := by
  refine (List.perm_ext_iff_of_nodup (nd_of nd) (nd_of nd')).mpr fun p => ?_
  obtain ⟨z, v⟩ := p
  rw [← look_iff nd, ← look_iff nd', h]
theorem canon_ext {m m' : Prs2} (nd : (m.map Prod.fst).Nodup) (nd' : (m'.map Prod.fst).Nodup) (h : ∀ z, look m z = look m' z) : canon m = canon m' := canon_eq nd (perm_look nd nd' h)
theorem canon_canon {m : Prs2} (nd : (m.map Prod.fst).Nodup) : canon (canon m) = canon m := canon_eq (canon_nd nd) (canon_perm m)
theorem canon_id {m : Prs2} (h : m.Pairwise fun p q => p.1.cps.toList ≤ q.1.cps.toList) (nd : (m.map Prod.fst).Nodup) : canon m = m :=
  List.Perm.eq_of_pairwise (fun a b ha hb x y => fst_inj nd ((canon_perm m).mem_iff.mp ha) hb (str_anti x y)) (canon_pw m) h (canon_perm m)
theorem canon_len (m : Prs2) : (canon m).length = m.length := (canon_perm m).length_eq
theorem canon_good {m : Prs2} (g : Good m) : Good (canon m) := ⟨canon_nd g.nd, by rw [canon_len]; exact g.few, fun p h => g.ok p ((canon_perm m).mem_iff.mp h)⟩
/-- one entry put -/
def putP (m : Prs2) (k v : Str) : Prs2 := if (look m k).isSome = true then m.map fun p => if p.1 = k then (p.1, v) else p else m ++ [(k, v)]
theorem kd_put (m : Prs2) (k v : Str) : putK (kd m) (Sum.inr k : Key) (V.str v) = kd (putP m k v) := by
  unfold putK putP
  rw [valV_any, val_kd]
  cases e : look m k with
  | none =>
    dsimp only [Option.map, Option.isSome]
    rw [if_neg Bool.false_ne_true, if_neg Bool.false_ne_true]
    unfold kd
    rw [List.map_append]
    rfl
  | some x =>
    dsimp only [Option.map, Option.isSome]
    rw [if_pos rfl, if_pos rfl]
    unfold kd
    rw [List.map_map, List.map_map]
    refine List.map_congr_left fun p _ => ?_
    dsimp only [Function.comp]
    by_cases c : p.1 = k
    · rw [if_pos (by rw [c]), if_pos c]
    · rw [if_neg (fun q => c (Sum.inr.inj q)), if_neg c]
theorem look_put (m : Prs2) (k v z : Str) : look (putP m k v) z = if z = k then some v else look m z := by
  have h := valV_put (kd m) (Sum.inr k : Key) (Sum.inr z) (V.str v)
  rw [kd_put, val_kd, val_kd] at h
  by_cases c : z = k
  · rw [if_pos c]
    rw [if_pos (by rw [c])] at h
    cases e : look (putP m k v) z with
    | none => rw [e] at h; cases h
    | some x =>
      rw [e] at h
      exact congrArg some (V.str.inj (Option.some.inj h))
  · rw [if_neg c]
    rw [if_neg (fun q => c (Sum.inr.inj q))] at h
    cases e : look (putP m k v) z with
    | none =>
      rw [e] at h
      cases e2 : look m z with
      | none => rfl
      | some y => rw [e2] at h; cases h
    | some x =>
      rw [e] at h
      cases e2 : look m z with
      | none => rw [e2] at h; cases h
      | some y =>
        rw [e2] at h
        exact congrArg some (V.str.inj (Option.some.inj h))
theorem keys_put (m : Prs2) (k v : Str) : (putP m k v).map Prod.fst = if (look m k).isSome = true then m.map Prod.fst else m.map Prod.fst ++ [k] := by
  unfold putP
  split
  · rw [List.map_map]
    refine List.map_congr_left fun p _ => ?_
    dsimp only [Function.comp]
    split <;> rfl
  · rw [List.map_append]
    rfl
theorem nd_put {m : Prs2} (nd : (m.map Prod.fst).Nodup) (k v : Str) : ((putP m k v).map Prod.fst).Nodup := by
  rw [keys_put]
  split
  · exact nd
  · rename_i h
    have hn : look m k = none := by
      cases e : look m k with
      | none => rfl
      | some x => rw [e] at h; exact absurd rfl h
    exact List.nodup_append.mpr ⟨nd, by simp, fun a ha b hb e => by
      rw [List.mem_singleton] at hb
      rw [e, hb] at ha
      exact look_none.mp hn ha⟩
theorem len_put (m : Prs2) (k v : Str) : (putP m k v).length ≤ m.length + 1 := by
  unfold putP
  split
  · rw [List.length_map]
    exact Nat.le_succ _
  · rw [List.length_append]
    exact Nat.le_refl _
theorem mem_put {m : Prs2} {k v : Str} {p : Str × Str} (h : p ∈ putP m k v) : p ∈ m ∨ p = (k, v) := by
  unfold putP at h
  split at h
  · obtain ⟨q, hq, e⟩ := List.mem_map.mp h
    by_cases c : q.1 = k
    · rw [if_pos c] at e
      exact .inr (by rw [← e, c])
    · rw [if_neg c] at e
      exact .inl (by rw [← e]; exact hq)
  · rcases List.mem_append.mp h with h | h
    · exact .inl h
    · exact .inr (List.mem_singleton.mp h)
theorem put_new {m : Prs2} {k v : Str} (h : look m k = none) : putP m k v = m ++ [(k, v)] := by
  unfold putP
  rw [if_neg (by rw [h]; exact Bool.false_ne_true)]
/-- all entries of another map put -/
def merP (m more : Prs2) : Prs2 := more.foldl (fun acc p => putP acc p.1 p.2) m
theorem kd_mer : ∀ (more m : Prs2), mergeK (kd m) (kd more) = kd (merP m more)
  | [], _ => rfl
  | p :: more, m => by
    show mergeK (putK (kd m) (Sum.inr p.1 : Key) (V.str p.2)) (kd more) = _
    rw [kd_put]
    exact kd_mer more _
theorem nd_mer : ∀ {more m : Prs2}, (m.map Prod.fst).Nodup → ((merP m more).map Prod.fst).Nodup
  | [], _, h => h
  | p :: more, m, h => nd_mer (more := more) (nd_put h p.1 p.2)
theorem len_mer : ∀ (more m : Prs2), (merP m more).length ≤ m.length + more.length
  | [], _ => Nat.le_refl _
  | p :: more, m => by
    have h := len_mer more (putP m p.1 p.2)
    have h2 := len_put m p.1 p.2
    show (merP (putP m p.1 p.2) more).length ≤ _
    rw [List.length_cons]
    omega
theorem look_mer : ∀ {more : Prs2} (m : Prs2) (z : Str), (more.map Prod.fst).Nodup → look (merP m more) z = (look more z).or (look m z)
  | [], m, z, _ => rfl
  | p :: more, m, z, nd => by
    rw [List.map_cons, List.nodup_cons] at nd
    show look (merP (putP m p.1 p.2) more) z = _
    rw [look_mer _ z nd.2, look_put, look]
    by_cases c : p.1 = z
    · have hn : look more z = none := look_none.mpr (by rw [← c]; exact nd.1)
      rw [if_pos c, if_pos c.symm, hn]
      rfl
    · rw [if_neg c, if_neg fun e => c e.symm]
theorem mem_mer : ∀ {more m : Prs2} {p : Str × Str}, p ∈ merP m more → p ∈ m ∨ p ∈ more
  | [], _, _, h => .inl h
  | q :: more, m, p, h => by
    rcases mem_mer (more := more) (m := putP m q.1 q.2) h with h | h
    · rcases mem_put h with h | h
      · exact .inl h
      · exact .inr (by rw [h]; exact List.mem_cons_self)
    · exact .inr (List.mem_cons_of_mem _ h)
theorem mer_nil : ∀ {m acc : Prs2}, ((acc ++ m).map Prod.fst).Nodup → merP acc m = acc ++ m
  | [], acc, _ => (List.append_nil acc).symm
  | p :: m, acc, nd => by
    have hn : look acc p.1 = none := look_none.mpr fun h => by
      rw [List.map_append, List.nodup_append] at nd
      exact nd.2.2 _ h _ (by rw [List.map_cons]; exact List.mem_cons_self) rfl
    show merP (putP acc p.1 p.2) m = _
    rw [put_new hn, mer_nil (by simpa using nd)]
    simp
/-- the map of both -/
def bothP (m1 m2 : Prs2) : Prs2 := merP (merP [] m1) m2
theorem both_nd (m1 m2 : Prs2) : ((bothP m1 m2).map Prod.fst).Nodup := nd_mer (nd_mer (by simp))
theorem both_look {m1 m2 : Prs2} (n1 : (m1.map Prod.fst).Nodup) (n2 : (m2.map Prod.fst).Nodup) (z : Str) : look (bothP m1 m2) z = (look m2 z).or (look m1 z) := by
  unfold bothP
  rw [look_mer _ z n2, look_mer _ z n1, look, Option.or_none]
theorem both_len (m1 m2 : Prs2) : (bothP m1 m2).length ≤ m1.length + m2.length := by
  have h1 := len_mer m2 (merP [] m1)
  have h2 := len_mer m1 []
  unfold bothP
  rw [List.length_nil] at h2
  omega
theorem both_mem {m1 m2 : Prs2} {p : Str × Str} (h : p ∈ bothP m1 m2) : p ∈ m1 ∨ p ∈ m2 := by
  rcases mem_mer h with h | h
  · rcases mem_mer h with h | h
    · cases h
    · exact .inl h
  · exact .inr h
/-- a dict comprehension over a walk -/
theorem dc_it {J : It} {n : Nat} {G : Hp → Prop} {Y : Nat → Hp → V → Hp → Prop} (w : Walk J n G Y) {g : TG} {tt : TT} {tk tv : TE} {vs : List Nat} {σ : St} {H1 : Hp} {D : Addr} {Qd : Hp → Prop} (Pv : Nat → Hp → Prop) (h0 : Pv 0 (upd H1 D (.dK []))) (hG : ∀ i H, i ≤ n → Pv i H → G H)
    (hs : ∀ i x H H', i < n → Pv i H → Y i H x H' → g x (wipe σ vs) H' fun σ2 H2 => wipe σ2 vs = wipe σ vs ∧ tt σ2 H2 fun b H3 =>
      if b = true then tk σ2 H3 fun y H4 => tv σ2 H4 fun z H5 => ∃ kvs k, y = kV k ∧ H5 D = some (.dK kvs) ∧ kvs.length < sizeLine ∧ Pv (i + 1) (upd H5 D (.dK (putK kvs k z))) else Pv (i + 1) H3) (hd : ∀ H, Pv n H → Qd H) :
    ∃ W : Nat → Nat → Hp → Prop, (∃ m, W 0 m (upd H1 D (.dK []))) ∧ ∀ i m H, W i m H →
      (J.stop i H ∧ Qd H) ∨ (J.go i H ∧ ∃ Nx : Hp → Prop, (∀ H', Nx H' → ∃ m', m' < m ∧ W (i + 1) m' H') ∧ ∀ x H', J.yld i H x H' → g x (wipe σ vs) H' fun σ2 H2 => wipe σ2 vs = wipe σ vs ∧ tt σ2 H2 fun b H3 =>
        if b = true then tk σ2 H3 fun y H4 => tv σ2 H4 fun z H5 => ∃ kvs k, y = kV k ∧ H5 D = some (.dK kvs) ∧ kvs.length < sizeLine ∧ Nx (upd H5 D (.dK (putK kvs k z))) else Nx H3) := by
  refine ⟨fun i m H => m = n - i ∧ i ≤ n ∧ Pv i H, ⟨n, by simp, Nat.zero_le _, h0⟩, ?_⟩
  rintro i m H ⟨rfl, hi, p⟩
  have q := hG i H hi p
  by_cases hlt : i < n
  · exact .inr ⟨w.goes i H hlt q, Pv (i + 1), fun H' p' => ⟨n - (i + 1), by omega, rfl, hlt, p'⟩, fun x H' y => hs i x H H' hlt p (w.yields i H x H' hlt q y)⟩
  · have e : i = n := by omega
    subst e
    exact .inl ⟨w.stops H q, hd H p⟩
end L2.LawH
set_option Elab.async false
set_option linter.all false
set_option maxRecDepth 100000
set_option maxHeartbeats 4000000
/-! The map of both; the map with some keys alone. -/
namespace L2.LawH
open PySem PySem.Spec PyProof.Rows L2.TxtDict
abbrev sJoin : Stmt := top 56
abbrev sOnly : Stmt := top 4
def spJoin : Sp := fun vs H Q _ => ∃ (a b : Addr) (m1 m2 : Prs2), vs = [.ref a, .ref b] ∧ MapAt H a m1 ∧ m1.length ≤ 20 ∧ MapAt H b m2 ∧ m2.length ≤ 20 ∧
  ∀ (H' : Hp) (d : Addr), Same H H' → H d = none → MapAt H' d (canon (bothP m1 m2)) → Q (.ref d) H'
theorem same_upds {H : Hp} {p : Addr} (n : H p = none) {H1 : Hp} (s : Same H H1) (x : HO) : Same H (upd H1 p x) := fun b o h => by
  rw [upd_ne (ne_of_none h n)]
  exact s b o h
theorem kd_app (m m' : Prs2) : kd (m ++ m') = kd m ++ kd m' := List.map_append
/-- the next entry of an ascending map put behind those before it -/
theorem put_next {m : Prs2} (nd : (m.map Prod.fst).Nodup) {i : Nat} {q : Str × Str} (h : m[i]? = some q) : putK (kd (m.take i)) (Sum.inr q.1 : Key) (V.str q.2) = kd (m.take (i + 1)) := by
  have tk : m.take (i + 1) = m.take i ++ [q] := by
    rw [List.take_succ, h]
    rfl
  rw [kd_put, put_new, tk]
  refine look_none.mpr fun hm => ?_
  have nd2 : ((m.take (i + 1)).map Prod.fst).Nodup := (List.take_sublist (i + 1) m).map _ |>.nodup nd
  rw [tk, List.map_append, List.nodup_append] at nd2
  exact nd2.2.2 _ hm _ (by simp) rfl
section
variable {P : Program} {w : World} {K : PySem.W.Frag} {mg : Str → Option Value} {base : Heap}
abbrev nJo : List Str := ["one", "other", "both", "name"]
theorem scJo : FnScope nJo ["one", "other"] (defScope sJoin) := ⟨rfl, rfl, rfl, by decide +kernel, rfl, by decide +kernel, by decide +kernel⟩
theorem ok_join {f : Addr} {fd : FuncData} (F : Fun K "joined" "joined" sJoin f fd) (ms : mg "sorted" = none) : FnOk P w K mg base CX0 1 f fd ["one", "other"] spJoin := by
  refine F.ok scJo (fun vs H Q E h => ?_) (fun cdv A outer s H vs Q E hr h => ?_)
  · obtain ⟨a, b, m1, m2, rfl, _⟩ := h
    rfl
  · obtain ⟨a, b, m1, m2, rfl, ha, l1, hb, l2, k⟩ := h
    have hu := hu_of hr
    refine ⟨_, pss_cons (ps_set (i := 2) scJo.nd rfl (Or.inr rfl) (pe_star2 (pv 0) (pv 1))) (pss_one (ps_ret (pe_dc (own := [("name", 3)]) (g := gName 3) (tt := tYes) rfl scJo.nd
        (pi_list (pe_callB (call_sortedD rfl) (by rfl) ms (by decide +kernel) (pa_cons (pv 2) pa_nil)))
        (blkOk_by (own := [("name", 3)]) (N := nJo) (sc := defScope sJoin) (by decide +kernel)) (fun _ _ _ _ _ => pg_name (i := 3) scJo.nd rfl (Or.inl rfl)) (fun _ _ _ _ _ => pts_nil)
        (fun _ _ _ _ _ => pv 3) (fun _ _ _ _ _ => pe_dget hu (pv 2) (pv 3) (fun _ _ => rfl))))), ?_⟩
    intro p np
    have na : a ≠ p := ne_of_none ha np
    have nb : b ≠ p := ne_of_none hb np
    refine ⟨_, rfl, upd_same, a, kd m1, rfl, na, .inl (by rw [upd_ne na]; exact ha), by rw [kd_len]; omega, _, rfl, upd_same, b, kd m2, rfl, nb, .inl (by rw [upd_ne nb, upd_ne nb]; exact hb), by rw [kd_len]; omega, ?_⟩
    have e : mergeK (mergeK [] (kd m1)) (kd m2) = kd (bothP m1 m2) := by
      rw [show ([] : List (Key × V)) = kd [] from rfl, kd_mer, kd_mer]
      rfl
    rw [e]
    have nd := both_nd m1 m2
    have len := both_len m1 m2
    generalize hm : bothP m1 m2 = mb at nd len k ⊢
    have s1 : Same H (upd (upd (upd H p (.dK [])) p (.dK (mergeK [] (kd m1)))) p (.dK (kd mb))) := same_upds np (same_upds np (same_upds np (fun _ _ h => h) _) _) _
    have p1 : (upd (upd (upd H p (.dK [])) p (.dK (mergeK [] (kd m1)))) p (.dK (kd mb))) p = some (.dK (kd mb)) := upd_same
    generalize upd (upd (upd H p (.dK [])) p (.dK (mergeK [] (kd m1)))) p (.dK (kd mb)) = H1 at s1 p1 ⊢
    refine ⟨_, rfl, p, kd mb, mb.map Prod.fst, rfl, .inl p1, ?_, by rw [List.length_map]; omega, fun ys l pm as nl => ?_⟩
    · unfold kd
      rw [List.map_map, List.map_map]
      rfl
    · have ek := keys_canon pm as
      subst ek
      have cl := canon_len mb
      have cn := canon_nd nd
      have lk := fun z => look_canon nd z
      generalize hc : canon mb = c at cl cn lk k ⊢
      have np2 : p ≠ l := fun q => by
        rw [q, nl] at p1
        cases p1
      refine ⟨l, rfl, ⟨_, SqL.of upd_same⟩, fun D nD => ?_⟩
      have lD : l ≠ D := fun q => by
        rw [← q, upd_same] at nD
        cases nD
      have nD0 : H1 D = none := by
        rw [upd_ne (Ne.symm lD)] at nD
        exact nD
      refine dc_it L2.walk_list (fun i H5 => H5 D = some (.dK (kd (c.take i))) ∧ Same H1 H5 ∧ H5 l = some (.lst ((c.map Prod.fst).map V.str))) ⟨upd_same, fun b o h => ?_, ?_⟩ (fun i H5 hi q => SqL.of q.2.2) (fun i x H5 H6 hi q y => ?_) (fun H5 q => ?_)
      · rw [upd_ne (ne_of_none h nD0), upd_ne (ne_of_none h nl)]
        exact h
      · rw [upd_ne lD]
        exact upd_same
      · obtain ⟨rfl, hx⟩ := y
        obtain ⟨q1, q2, q3⟩ := q
        rw [List.getElem?_map, List.getElem?_map] at hx
        obtain ⟨u, hu2, rfl⟩ := Option.map_eq_some_iff.mp hx
        obtain ⟨e, he, rfl⟩ := Option.map_eq_some_iff.mp hu2
        have lke : look mb e.1 = some e.2 := by rw [← lk, look_of cn (List.mem_of_getElem? he)]
        refine ⟨rfl, ?_⟩
        dsimp only [tYes]
        rw [if_pos rfl]
        refine ⟨_, rfl, _, rfl, _, rfl, p, .str e.2, rfl, .inl ⟨kd mb, Sum.inr e.1, .inl (q2 _ _ p1), rfl, by rw [val_kd, lke]; rfl⟩, kd (c.take i), Sum.inr e.1, rfl, q1, ?_, ?_, ?_, ?_⟩
        · rw [kd_len, List.length_take, sizeLine_eq]
          omega
        · rw [upd_same, put_next cn he]
        · intro b o h
          rw [upd_ne (ne_of_none h nD0)]
          exact q2 b o h
        · rw [upd_ne lD]
          exact q3
      · obtain ⟨q1, q2, q3⟩ := q
        rw [List.length_map, List.length_map, List.take_length] at q1
        refine k H5 D (fun b o h => q2 _ _ (s1 _ _ h)) ?_ q1
        cases h : H D with
        | none => rfl
        | some o => rw [s1 _ _ h] at nD0; cases nD0
end
end L2.LawH
set_option Elab.async false
set_option linter.all false
set_option maxRecDepth 100000
set_option maxHeartbeats 4000000
/-! The order of maps. -/
namespace L2.LawH
open PySem PySem.Spec PyProof.Rows L2.TxtDict L2.NSet PySem.W
/-- a pair as data, and as a key -/
def prD (q : Str × Str) : PyData := .tuple [.str q.1, .str q.2]
def prK (q : Str × Str) : NestedKey := .tup [.text q.1, .text q.2]
def tk (m : Prs2) : List (Int ⊕ List Nat) := keyToksAll (m.map prD)
theorem tk_nil : tk [] = [.inl 0] := by simp [tk, keyToksAll]
theorem tk_cons (p : Str × Str) (m : Prs2) : tk (p :: m) = .inl 1 :: .inl 1 :: .inr p.1.cps.toList :: .inl 1 :: .inr p.2.cps.toList :: .inl 0 :: tk m := by simp [tk, prD, keyToksAll, keyToks]
theorem tk_inj : ∀ {m m' : Prs2}, tk m = tk m' → m = m'
  | [], [], _ => rfl
  | [], p :: m', h => by
    rw [tk_nil, tk_cons] at h
    injection h with h1 h2
    exact absurd h1 (by decide)
  | p :: m, [], h => by
    rw [tk_nil, tk_cons] at h
    injection h with h1 h2
    exact absurd h1 (by decide)
  | p :: m, q :: m', h => by
    rw [tk_cons, tk_cons] at h
    injection h with _ h
    injection h with _ h
    injection h with h1 h
    injection h with _ h
    injection h with h2 h
    injection h with _ h
    rw [tk_inj h]
    have e1 : p.1 = q.1 := str_of_cps (Sum.inr.inj h1)
    have e2 : p.2 = q.2 := str_of_cps (Sum.inr.inj h2)
    rw [Prod.ext e1 e2]
def leM (a b : Prs2) : Bool := !PyProof.Rows.lexLt itemOrd (tk b) (tk a)
theorem leM_anti {a b : Prs2} (x : leM a b = true) (y : leM b a = true) : a = b := by
  unfold leM at x y
  rw [Bool.not_eq_true'] at x y
  exact tk_inj (lex_total (O := itemOrd) _ _ y x)
theorem toks_tuple (m : Prs2) : keyToks (.tuple (m.map prD)) = tk m := by simp [tk, keyToks]
theorem toks_list (m : Prs2) : keyToks (.list (m.map prD)) = tk m := by simp [tk, keyToks]
theorem le_of {β : Type} {enc : β → PyData} {a b : β} {m m' : Prs2} (ea : keyToks (enc a) = tk m) (eb : keyToks (enc b) = tk m') (h : dataLe false enc a b = true) : leM m m' = true := by
  have h' : (!PyProof.Rows.lexLt itemOrd (keyToks (enc b)) (keyToks (enc a))) = true := h
  rw [ea, eb] at h'
  exact h'
/-- the maps ms in order, each once -/
structure Ordd (ms cs : List Prs2) : Prop where
  up : cs.Pairwise fun a b => leM a b = true
  once : cs.Nodup
  mem : ∀ c, c ∈ cs ↔ c ∈ ms.map canon
theorem Ordd.one {ms ms' cs cs' : List Prs2} (h : Ordd ms cs) (h' : Ordd ms' cs') (e : ∀ c, c ∈ ms.map canon ↔ c ∈ ms'.map canon) : cs = cs' := by
  refine List.Perm.eq_of_pairwise (fun a b _ _ x y => leM_anti x y) h.up h'.up ((List.perm_ext_iff_of_nodup h.once h'.once).mpr fun c => ?_)
  rw [h.mem, h'.mem, e]
theorem pairs_up {ps : List (Addr × Str × Str)} (r : Rise TxtDict.pairD ps) : (ps.map (·.2)).Pairwise fun p q => p.1.cps.toList ≤ q.1.cps.toList := by
  rw [List.pairwise_map]
  refine List.Pairwise.imp (fun {a b} h => ?_) r
  have h' : (!PyProof.Rows.lexLt itemOrd (keyToks (TxtDict.pairD b)) (keyToks (TxtDict.pairD a))) = true := h
  rw [Bool.not_eq_true'] at h'
  refine Classical.byContradiction fun c => ?_
  have lt : b.2.1.cps.toList < a.2.1.cps.toList := List.not_le.mp c
  have ea : keyToks (TxtDict.pairD a) = [.inl 1, .inr a.2.1.cps.toList, .inl 1, .inr a.2.2.cps.toList, .inl 0] := by simp [TxtDict.pairD, keyToks, keyToksAll]
  have eb : keyToks (TxtDict.pairD b) = [.inl 1, .inr b.2.1.cps.toList, .inl 1, .inr b.2.2.cps.toList, .inl 0] := by simp [TxtDict.pairD, keyToks, keyToksAll]
  rw [ea, eb] at h'
  have t : PyProof.Rows.lexLt itemOrd [.inl 1, .inr b.2.1.cps.toList, .inl 1, .inr b.2.2.cps.toList, .inl 0] [.inl 1, .inr a.2.1.cps.toList, .inl 1, .inr a.2.2.cps.toList, .inl 0] = true := by
    refine lex_true.mpr (.inr ⟨by decide, lex_true.mpr (.inl ?_)⟩)
    exact decide_eq_true lt
  rw [t] at h'
  cases h'
theorem pairs_canon {ps : List (Addr × Str × Str)} {m : Prs2} (nd : (m.map Prod.fst).Nodup) (pm : (ps.map (·.2)).Perm m) (r : Rise TxtDict.pairD ps) : ps.map (·.2) = canon m := by
  have nd2 : ((ps.map (·.2)).map Prod.fst).Nodup := (pm.map Prod.fst).nodup_iff.mpr nd
  rw [← canon_id (pairs_up r) nd2]
  exact canon_eq nd2 pm
/-- a map as a key -/
def kM (m : Prs2) : NestedKey := .tup (m.map prK)
def unK : NestedKey → Prs2
  | .tup l => l.filterMap fun k => match k with
    | .tup [.text a, .text b] => some (a, b)
    | _ => none
  | _ => []
theorem un_kM (m : Prs2) : unK (kM m) = m := by
  unfold unK kM
  induction m with
  | nil => rfl
  | cons p m ih =>
    dsimp only at ih ⊢
    rw [List.map_cons, List.filterMap_cons, ih]
    rfl
theorem kM_inj {m m' : Prs2} (h : kM m = kM m') : m = m' := by rw [← un_kM m, h, un_kM]
theorem datas_prK : ∀ m : Prs2, NestedKey.datas (m.map prK) = m.map prD
  | [] => by simp [NestedKey.datas]
  | p :: m => by
    rw [List.map_cons, List.map_cons, NestedKey.datas, datas_prK m]
    simp [prK, prD, NestedKey.data, NestedKey.datas]
theorem data_kM (m : Prs2) : (kM m).data = .tuple (m.map prD) := by
  unfold kM
  rw [NestedKey.data, datas_prK]
theorem toks_kM (m : Prs2) : keyToks (kM m).data = tk m := by rw [data_kM, toks_tuple]
theorem alike_prs : ∀ m m' : Prs2, alikeAll (m.map prD) (m'.map prD) = true
  | [], _ => by simp [alikeAll]
  | p :: m, [] => by simp [alikeAll]
  | p :: m, q :: m' => by
    rw [List.map_cons, List.map_cons, alikeAll, alike_prs m m']
    simp [prD, alike, alikeAll]
theorem alike_kM (m m' : Prs2) : alike (kM m).data (kM m').data = true := by
  rw [data_kM, data_kM, alike]
  exact alike_prs m m'
theorem depth_prs : ∀ m : Prs2, NestedKey.depthAll (m.map prK) ≤ 1
  | [] => by simp [NestedKey.depthAll]
  | p :: m => by
    have := depth_prs m
    rw [List.map_cons, NestedKey.depthAll]
    have e : (prK p).depth = 1 := by simp [prK, NestedKey.depth, NestedKey.depthAll]
    omega
theorem depth_kM (m : Prs2) : (kM m).depth ≤ 2 := by
  have := depth_prs m
  unfold kM
  rw [NestedKey.depth]
  omega
theorem ddepth_prs : ∀ m : Prs2, PyData.depthAll (m.map prD) ≤ 1
  | [] => by simp [PyData.depthAll]
  | p :: m => by
    have := ddepth_prs m
    rw [List.map_cons, PyData.depthAll]
    have e : (prD p).depth = 1 := by simp [prD, PyData.depth, PyData.depthAll]
    omega
theorem ddepth_kM (m : Prs2) : (kM m).data.depth ≤ 2 := by
  have := ddepth_prs m
  rw [data_kM, PyData.depth]
  omega
end L2.LawH
set_option Elab.async false
set_option linter.all false
set_option maxRecDepth 100000
set_option maxHeartbeats 4000000
/-! Maps in their order. -/
namespace L2.LawH
open PySem PySem.Spec PyProof.Rows L2.TxtDict L2.NSet PySem.W
abbrev sOrder : Stmt := top 5
/-! ### walks of a list or a tuple -/
theorem walkR_list {K : PySem.W.Frag} {a : Addr} {xs : List V} : WalkR (Itl K a) (fun H => SqL K H a xs) xs := by
  intro g tt ta vs σ H0 Done Pv h0 hl hs hd
  refine ⟨fun i m H => m = xs.length - i ∧ i ≤ xs.length ∧ Pv i H, ⟨xs.length, rfl, Nat.zero_le _, h0⟩, ?_⟩
  rintro i m H ⟨rfl, hi, p⟩
  rcases Nat.lt_or_eq_of_le hi with lt | rfl
  · refine .inr ⟨⟨xs, xs[i], hl i H hi p, by simp [lt]⟩, Pv (i + 1), fun H' p' => ⟨xs.length - (i + 1), by omega, rfl, lt, p'⟩, ?_⟩
    rintro x _ ⟨rfl, y⟩
    exact hs i x _ (y xs (hl i _ hi p)) p
  · exact .inl ⟨⟨xs, hl _ H hi p, Nat.le_refl _⟩, hd H p⟩
theorem walkR_tup {K : PySem.W.Frag} {a : Addr} {xs : List V} : WalkR (Itt K a) (fun H => SqT K H a xs) xs := by
  intro g tt ta vs σ H0 Done Pv h0 hl hs hd
  refine ⟨fun i m H => m = xs.length - i ∧ i ≤ xs.length ∧ Pv i H, ⟨xs.length, rfl, Nat.zero_le _, h0⟩, ?_⟩
  rintro i m H ⟨rfl, hi, p⟩
  rcases Nat.lt_or_eq_of_le hi with lt | rfl
  · refine .inr ⟨⟨xs, xs[i], hl i H hi p, by simp [lt]⟩, Pv (i + 1), fun H' p' => ⟨xs.length - (i + 1), by omega, rfl, lt, p'⟩, ?_⟩
    rintro x _ ⟨rfl, y⟩
    exact hs i x _ (y xs (hl i _ hi p)) p
  · exact .inl ⟨⟨xs, hl _ H hi p, Nat.le_refl _⟩, hd H p⟩
theorem Paired.at_ {α β : Type} {F : α → β → Prop} : ∀ {l₁ : List α} {l₂ : List β}, Paired F l₁ l₂ → ∀ {i : Nat} {a : α}, l₁[i]? = some a → ∃ b, l₂[i]? = some b ∧ F a b
  | _, _, .nil, i, a, h => by simp at h
  | _, _, .cons r t, 0, a, h => ⟨_, rfl, by rw [← Option.some.inj h]; exact r⟩
  | _, _, .cons r t, i + 1, a, h => Paired.at_ t (i := i) (by simpa using h)
section
variable {X : Cx} {o : Expr} {to : TE} {apos cpos : Pos}
theorem pe_itemsK {K : PySem.W.Frag} (e : X.K = K) (ho : PE X o to) (hbase : attributeBase o "items" X.env (eval o X.env) = eval o X.env := by rfl) (hline : (apos.endLine == cpos.line) = true := by rfl) : PE X (.Call (.Attribute o "items" apos) [] [] cpos) (tBM0 K "dict" rItemsK to) := by
  subst e
  exact pe_bm0 PySem.F.plainAttrs_dict PySem.F.slot_dict_items PySem.F.type_dict_items mt_itemsK ho hbase hline
theorem call_tuplePTK {K : PySem.W.Frag} (e : X.K = K) : CallR X (.type "tuple") (rTupPT K) := by
  subst e
  exact call_tuplePT
end
theorem pt_same {H H' : Hp} {p : Mem} (h : PtOk H p) (s : Same H H') : PtOk H' p :=
  let ⟨ts, ks, h1, h2, h3⟩ := h
  ⟨ts, ks, s _ _ h1, h2, Paired.mapP h3 fun _ _ e => s _ _ e⟩
theorem pt_of {H : Hp} {ps : List (Addr × Str × Str)} (h : ∀ z ∈ ps, H z.1 = some (.tup [.str z.2.1, .str z.2.2])) : Paired (fun t (q : Str × Str) => H t = some (.tup [.str q.1, .str q.2])) (ps.map (·.1)) (ps.map (·.2)) := by
  induction ps with
  | nil => exact .nil
  | cons z ps ih => exact .cons (h z List.mem_cons_self) (ih fun y m => h y (List.mem_cons_of_mem _ m))
theorem map_prK_inj : ∀ {m m' : Prs2}, m.map prK = m'.map prK → m = m'
  | _, _, h => kM_inj (show kM _ = kM _ by unfold kM; rw [h])
theorem seq_go {K : PySem.W.Frag} {R : It → Hp → Prop} {H : Hp} {q : Addr} {xs : List V} (hq : H q = some (.lst xs) ∨ H q = some (.tup xs)) (h : ∀ (J : It) (Sq : Hp → Prop), WalkR J Sq xs → (∀ H', Same H H' → Sq H') → R J H) :
    ((∃ xs, SqL K H q xs) ∧ R (Itl K q) H) ∨ ((∃ xs, SqT K H q xs) ∧ R (Itt K q) H) :=
  hq.elim (fun e => .inl ⟨⟨_, SqL.of e⟩, h _ _ (walkR_list (K := K)) fun _ s => SqL.of (s _ _ e)⟩) fun e => .inr ⟨⟨_, SqT.of e⟩, h _ _ (walkR_tup (K := K)) fun _ s => SqT.of (s _ _ e)⟩
theorem none_of {H H' : Hp} {a : Addr} (s : Same H H') (n : H' a = none) : H a = none := by
  cases h : H a with
  | none => rfl
  | some o => rw [s _ _ h] at n; cases n
theorem un_tup {ks : Prs2} : unK (.tup (ks.map fun q => .tup [.text q.1, .text q.2])) = ks := un_kM ks
def spOrder : Sp := fun vs H Q _ => ∃ (q : Addr) (ts : List Addr) (ms : List Prs2), vs = [.ref q] ∧ (H q = some (.lst (ts.map V.ref)) ∨ H q = some (.tup (ts.map V.ref))) ∧ Paired (MapAt H) ts ms ∧ (∀ m ∈ ms, Good m) ∧ ms.length ≤ 60 ∧
  ∀ (H' : Hp) (l : Addr) (ds : List Addr) (cs : List Prs2), Same H H' → H l = none → H' l = some (.lst (ds.map V.ref)) → Paired (MapAt H') ds cs → (∀ d ∈ ds, H d = none) → Ordd ms cs → Q (.ref l) H'
section
variable {P : Program} {w : World} {K : PySem.W.Frag} {mg : Str → Option Value} {base : Heap}
abbrev nIo : List Str := ["several", "known", "pairs"]
end
end L2.LawH
set_option Elab.async false
set_option linter.all false
set_option maxRecDepth 100000
set_option maxHeartbeats 4000000
/-! _law_pairs. -/
namespace L2.LawH
open PySem PySem.Spec PyProof.Rows L2.TxtDict L2.NSet PySem.W
abbrev sPairs : Stmt := top 78
/-- the pairs m at l, a list of tuples -/
structure PrsAt (H : Hp) (l : Addr) (ts : List Addr) (m : Prs2) : Prop where
  sq : H l = some (.lst (ts.map V.ref))
  each : Paired (fun t (q : Str × Str) => H t = some (.tup [.str q.1, .str q.2])) ts m
theorem PrsAt.same {H H' : Hp} {l : Addr} {ts : List Addr} {m : Prs2} (h : PrsAt H l ts m) (s : Same H H') : PrsAt H' l ts m := ⟨s _ _ h.sq, Paired.mapP h.each fun _ _ e => s _ _ e⟩
def spPrs : Sp := fun vs H Q _ => ∃ (a : Addr) (m : Prs2), vs = [.ref a] ∧ MapAt H a m ∧ (m.map Prod.fst).Nodup ∧ m.length ≤ 20 ∧
  ∀ (H' : Hp) (l : Addr) (ts : List Addr), Same H H' → H l = none → PrsAt H' l ts (canon m) → (∀ t ∈ ts, H t = none) → Q (.ref l) H'
section
variable {P : Program} {w : World} {K : PySem.W.Frag} {mg : Str → Option Value} {base : Heap}
abbrev nPrs : List Str := ["_law_known_here", "_law_variable"]
theorem scPrs : FnScope nPrs ["_law_known_here"] (defScope sPairs) := ⟨rfl, rfl, rfl, by decide +kernel, rfl, by decide +kernel, by decide +kernel⟩
theorem ok_prs {f : Addr} {fd : FuncData} (F : Fun K "_law_pairs" "_law_pairs" sPairs f fd) (ms : mg "sorted" = none) (ml : mg "list" = none) : FnOk P w K mg base CX0 1 f fd ["_law_known_here"] spPrs := by
  refine F.ok scPrs (fun vs H Q E h => ?_) (fun cdv A outer s H vs Q E hr h => ?_)
  · obtain ⟨a, m, rfl, _⟩ := h
    rfl
  · obtain ⟨a, m, rfl, ha, nd, few, k⟩ := h
    have hu := hu_of hr
    refine ⟨_, pss_one (ps_ret (pe_lc (own := [("_law_variable", 1)]) (g := gName 1) (tt := tYes) rfl scPrs.nd
        (pi_list (pe_callB cr_sortedS (by rfl) ms (by decide +kernel) (pa_cons (pe_callTy (call_listD rfl) (by rfl) ml (by decide +kernel) (pa_cons (pv 0) pa_nil)) pa_nil)))
        (blkOk_by (own := [("_law_variable", 1)]) (N := nPrs) (sc := defScope sPairs) (by decide +kernel)) (fun _ _ _ _ _ => pg_name (i := 1) scPrs.nd rfl (Or.inl rfl)) (fun _ _ _ _ _ => pts_nil)
        (fun _ _ _ _ _ => pe_tup (pa_cons (pv 1) (pa_cons (pe_dget hu (pv 0) (pv 1) (fun _ _ => rfl)) pa_nil))))), ?_⟩
    refine ⟨_, rfl, a, kd m, rfl, .inl ha, fun l0 n0 => ?_⟩
    have eks : (kd m).map (fun kv => kV kv.1) = (m.map Prod.fst).map V.str := by
      unfold kd
      rw [List.map_map, List.map_map]
      rfl
    refine ⟨l0, m.map Prod.fst, rfl, SqL.of (by rw [upd_same, eks]), by rw [List.length_map]; omega, fun ys l pm as nl => ?_⟩
    have ek := keys_canon pm as
    subst ek
    have cl := canon_len m
    have cn := canon_nd nd
    have lk := fun z => look_canon nd z
    generalize hc : canon m = c at cl cn lk k ⊢
    have s0 : Same H (upd H l0 (.lst ((kd m).map fun kv => kV kv.1))) := same_new n0
    have nlH : H l = none := none_of s0 nl
    have s1 : Same H (upd (upd H l0 (.lst ((kd m).map fun kv => kV kv.1))) l (.lst ((c.map Prod.fst).map V.str))) := fun b o h => by
      rw [upd_ne (ne_of_none h nlH)]
      exact s0 b o h
    have l1 : (upd (upd H l0 (.lst ((kd m).map fun kv => kV kv.1))) l (.lst ((c.map Prod.fst).map V.str))) l = some (.lst ((c.map Prod.fst).map V.str)) := upd_same
    generalize upd (upd H l0 (.lst ((kd m).map fun kv => kV kv.1))) l (.lst ((c.map Prod.fst).map V.str)) = H1 at s1 l1 ⊢
    refine ⟨l, rfl, ⟨_, SqL.of l1⟩, fun D nD => ?_⟩
    refine lc_it L2.walk_list (fun i H5 => ∃ ts : List Addr, H5 D = some (.lst (ts.map V.ref)) ∧ Paired (fun t (q : Str × Str) => H5 t = some (.tup [.str q.1, .str q.2])) ts (c.take i) ∧ (∀ t ∈ ts, H t = none) ∧ Same H1 H5)
      ⟨[], upd_same, .nil, fun t m => (nomatch m), same_new nD⟩ (fun i H5 hi p => let ⟨ts, _, _, _, p4⟩ := p; SqL.of (p4 _ _ l1)) (fun i x H5 H6 hi p y => ?_) (fun H5 p => ?_)
    · obtain ⟨rfl, hx⟩ := y
      obtain ⟨ts, p1, p2, p3, p4⟩ := p
      rw [List.getElem?_map, List.getElem?_map] at hx
      obtain ⟨u, hu2, rfl⟩ := Option.map_eq_some_iff.mp hx
      obtain ⟨e, he, rfl⟩ := Option.map_eq_some_iff.mp hu2
      have lke : look m e.1 = some e.2 := by rw [← lk, look_of cn (List.mem_of_getElem? he)]
      have lt : ts.length ≤ 20 := by
        have := Paired.length p2
        rw [List.length_take] at this
        omega
      refine ⟨rfl, ?_⟩
      dsimp only [tYes]
      rw [if_pos rfl]
      refine ⟨_, rfl, _, rfl, _, rfl, a, .str e.2, rfl, .inl ⟨kd m, Sum.inr e.1, .inl (p4 _ _ (s1 _ _ ha)), rfl, by rw [val_kd, lke]; rfl⟩, ?_⟩
      refine ⟨(by show 2 ≤ sizeLine; rw [sizeLine_eq]; decide), fun t nt => ?_⟩
      have tD : t ≠ D := fun e => by
        rw [e, p1] at nt
        cases nt
      refine ⟨ts.map V.ref, by rw [upd_ne (Ne.symm tD)]; exact p1, by rw [List.length_map, sizeLine_eq]; omega, ts ++ [t], by rw [upd_same, List.map_append]; rfl, ?_, fun b hb => ?_, fun b o h => ?_⟩
      · rw [List.take_succ, he]
        refine Paired.snoc (Paired.mapP p2 fun b q h => ?_) ?_
        · have nb : b ≠ D := fun e => by
            rw [e, p1] at h
            cases h
          rw [upd_ne nb, upd_ne (ne_of_none h nt)]
          exact h
        · rw [upd_ne tD, upd_same]
      · rcases List.mem_append.mp hb with hb | hb
        · exact p3 b hb
        · rw [List.mem_singleton.mp hb]
          exact none_of (fun b o h => p4 _ _ (s1 _ _ h)) nt
      · have h6 := p4 _ _ h
        rw [upd_ne (ne_of_none h nD), upd_ne (ne_of_none h6 nt)]
        exact h6
    · obtain ⟨ts, p1, p2, p3, p4⟩ := p
      rw [List.length_map, List.length_map, List.take_length] at p2
      exact k H5 D ts (fun b o h => p4 _ _ (s1 _ _ h)) (none_of s1 nD) ⟨p1, p2⟩ p3
end
end L2.LawH
set_option Elab.async false
set_option linter.all false
set_option maxRecDepth 100000
set_option maxHeartbeats 4000000
/-! Lists of pairs as data. -/
namespace L2.LawH
open PySem PySem.Spec PyProof.Rows L2.TxtDict L2.NSet PySem.W
def encL (m : Prs2) : PyData := .list (m.map prD)
theorem toks_encL (m : Prs2) : keyToks (encL m) = tk m := toks_list m
def OkM (m : Prs2) : Prop := ∀ p ∈ m, PyData.strOk p.1 = true ∧ PyData.strOk p.2 = true
theorem Good.okM {m : Prs2} (g : Good m) : OkM m := g.ok
theorem lay_prs : ∀ {m : Prs2}, OkM m → PyData.canLayAll0 (m.map prD) = true
  | [], _ => by simp [PyData.canLayAll0]
  | p :: m, h => by
    have ih := lay_prs (m := m) fun q hq => h q (List.mem_cons_of_mem _ hq)
    have hp := h p List.mem_cons_self
    rw [List.map_cons, PyData.canLayAll0, ih]
    simp [prD, PyData.canLay0, PyData.canLayAll0, hp.1, hp.2]
theorem lay_encL {m : Prs2} (h : OkM m) : (encL m).canLay0 = true := by
  unfold encL
  rw [PyData.canLay0, lay_prs h]
theorem depth_encL (m : Prs2) : (encL m).depth ≤ 2 := by
  have := ddepth_prs m
  unfold encL
  rw [PyData.depth]
  omega
theorem shaped_encL {m : Prs2} (h : OkM m) : SeqAt.shaped (encL m) = true := by
  unfold SeqAt.shaped
  rw [lay_encL h, Bool.true_and]
  exact decide_eq_true (Nat.le_trans (depth_encL m) (by decide))
theorem lay_encs : ∀ {ms : List Prs2}, (∀ m ∈ ms, OkM m) → PyData.canLayAll0 (ms.map encL) = true
  | [], _ => by simp [PyData.canLayAll0]
  | m :: ms, h => by
    rw [List.map_cons, PyData.canLayAll0, lay_encL (h m List.mem_cons_self), lay_encs (ms := ms) fun q hq => h q (List.mem_cons_of_mem _ hq)]
    rfl
theorem depth_encs : ∀ ms : List Prs2, PyData.depthAll (ms.map encL) ≤ 2
  | [] => by simp [PyData.depthAll]
  | m :: ms => by
    have := depth_encs ms
    have := depth_encL m
    rw [List.map_cons, PyData.depthAll]
    omega
theorem shaped_encs {ms : List Prs2} (h : ∀ m ∈ ms, OkM m) : SeqAt.shaped (.list (ms.map encL)) = true := by
  unfold SeqAt.shaped
  rw [PyData.canLay0, lay_encs h, Bool.true_and]
  refine decide_eq_true (Nat.le_trans (?_ : _ ≤ 3) (by decide))
  have := depth_encs ms
  rw [PyData.depth]
  omega
theorem eqv_prs : ∀ a b : Prs2, PyData.eqvAll (a.map prD) (b.map prD) = decide (a = b)
  | [], [] => by simp [PyData.eqvAll]
  | [], _ :: _ => by simp [PyData.eqvAll]
  | _ :: _, [] => by simp [PyData.eqvAll]
  | p :: a, q :: b => by
    rw [List.map_cons, List.map_cons, eqv_all_cons, eqv_prs a b]
    have e : PyData.eqv (prD p) (prD q) = decide (p = q) := by
      obtain ⟨p1, p2⟩ := p
      obtain ⟨q1, q2⟩ := q
      rw [Bool.eq_iff_iff]
      simp [prD, PyData.eqv, PyData.eqvAll]
    rw [e, Bool.eq_iff_iff]
    simp
theorem eqv_encL (a b : Prs2) : PyData.eqv (encL a) (encL b) = decide (a = b) := by
  unfold encL
  rw [PyData.eqv, eqv_prs]
theorem eqv_encs : ∀ ms : List Prs2, PyData.eqv (.list (ms.map encL)) (.list []) = decide (ms = [])
  | [] => by simp [PyData.eqv, PyData.eqvAll]
  | m :: ms => by simp [PyData.eqv, PyData.eqvAll]
theorem alike_encL (a b : Prs2) : alike (encL a) (encL b) = true := by
  unfold encL
  rw [alike]
  exact alike_prs a b
theorem dp_prs {K : PySem.W.Frag} {H : Hp} {ts : List Addr} {m : Prs2} (h : Paired (fun t (q : Str × Str) => H t = some (.tup [.str q.1, .str q.2])) ts m) : DpAll K H (ts.map V.ref) (m.map prD) := by
  induction h with
  | nil => exact .nil
  | cons r t ih => exact .cons (.tup (SqT.of r) (.cons (.str _) (.cons (.str _) .nil))) ih
theorem PrsAt.dp {K : PySem.W.Frag} {H : Hp} {l : Addr} {ts : List Addr} {m : Prs2} (h : PrsAt H l ts m) : Dp K H (.ref l) (encL m) := .lst (SqL.of h.sq) (dp_prs h.each)
def PrsIn (H : Hp) (l : Addr) (m : Prs2) : Prop := ∃ ts, PrsAt H l ts m
theorem PrsIn.dp {K : PySem.W.Frag} {H : Hp} {l : Addr} {m : Prs2} (h : PrsIn H l m) : Dp K H (.ref l) (encL m) := let ⟨_, p⟩ := h; p.dp
theorem PrsIn.same {H H' : Hp} {l : Addr} {m : Prs2} (h : PrsIn H l m) (s : Same H H') : PrsIn H' l m := let ⟨ts, p⟩ := h; ⟨ts, p.same s⟩
/-- but for D -/
theorem PrsIn.but {H H' : Hp} {D l : Addr} {m : Prs2} {xs : List V} (h : PrsIn H l m) (n : l ≠ D) (hD : H D = some (.lst xs)) (s : ∀ b o, b ≠ D → H b = some o → H' b = some o) : PrsIn H' l m := by
  obtain ⟨ts, p⟩ := h
  refine ⟨ts, s _ _ n p.sq, Paired.mapP p.each fun t q e => s _ _ (fun z => ?_) e⟩
  rw [z, hD] at e
  cases e
theorem dp_zips {K : PySem.W.Frag} {H : Hp} : ∀ {fs : List (Addr × Prs2)}, (∀ z ∈ fs, PrsIn H z.1 z.2) → DpAll K H (fs.map fun z => V.ref z.1) (fs.map fun z => encL z.2)
  | [], _ => .nil
  | z :: fs, h => .cons (h z List.mem_cons_self).dp (dp_zips (fs := fs) fun y hy => h y (List.mem_cons_of_mem _ hy))
theorem atI_last {α : Type} (g : List α) (z : α) : atI (g ++ [z]) (-1) = some z := by
  unfold atI ixN
  have l : (g ++ [z]).length = g.length + 1 := by simp
  rw [l, if_neg (by decide), if_pos (by omega)]
  have e : ((-1 : Int) + ((g.length + 1 : Nat) : Int)).toNat = g.length := by omega
  rw [e]
  simp
end L2.LawH
set_option Elab.async false
set_option linter.all false
set_option maxRecDepth 100000
set_option maxHeartbeats 4000000
/-! _law_ordered. -/
namespace L2.LawH
open PySem PySem.Spec PyProof.Rows L2.TxtDict L2.NSet PySem.W
abbrev sLOrd : Stmt := top 79
theorem op_neDK {X : Cx} {K : PySem.W.Frag} (e : X.K = K) (hu : X.A.units + 64 < cLine) : OpR X (compareOp .NotEq) (rNeD K) := by
  subst e
  exact op_neD hu
theorem op_eqDK {X : Cx} {K : PySem.W.Frag} (e : X.K = K) (hu : X.A.units + 64 < cLine) : OpR X (compareOp .Eq) (rEqD K) := by
  subst e
  exact op_eqD hu
theorem cr_sortDK {X : Cx} {K : PySem.W.Frag} (e : X.K = K) (hu : X.A.units + 64 < cLine) : CallR X (.builtin "sorted") (rSortD K) := by
  subst e
  exact cr_sortD hu
theorem prs_kd {H : Hp} {ts : List Addr} {m : Prs2} (h : Paired (fun t (q : Str × Str) => H t = some (.tup [.str q.1, .str q.2])) ts m) (K : PySem.W.Frag) : Paired (fun p (kv : Key × V) => SqT K H p [kV kv.1, kv.2]) ts (kd m) := by
  induction h with
  | nil => exact .nil
  | cons r t ih => exact .cons (SqT.of r) ih
theorem mer_self {m : Prs2} (nd : (m.map Prod.fst).Nodup) : mergeK [] (kd m) = kd m := by
  rw [show ([] : List (Key × V)) = kd [] from rfl, kd_mer, mer_nil (by simpa using nd)]
  rfl
def rDictP (K : PySem.W.Frag) : List V → Hp → VK → Prop := fun xs H Q => ∃ (a : Addr) (ps : List Addr) (kvs : List (Key × V)), xs = [.ref a] ∧ SqL K H a (ps.map V.ref) ∧ Paired (fun p kv => SqT K H p [kV kv.1, kv.2]) ps kvs ∧ ∀ p, H p = none → Q (.ref p) (upd H p (.dK (mergeK [] kvs)))
theorem call_dictPK {X : Cx} {K : PySem.W.Frag} (e : X.K = K) (hc : X.calm = true) : CallR X (.type "dict") (rDictP K) := by
  subst e
  exact call_dictP hc
def spLOrd : Sp := fun vs H Q _ => ∃ (q : Addr) (ts : List Addr) (ms : List Prs2), vs = [.ref q] ∧ H q = some (.lst (ts.map V.ref)) ∧ Paired (MapAt H) ts ms ∧ (∀ m ∈ ms, Good m) ∧ ms.length ≤ 100 ∧
  ∀ (H' : Hp) (l : Addr) (ds : List Addr) (cs : List Prs2), Same H H' → H l = none → H' l = some (.lst (ds.map V.ref)) → Paired (MapAt H') ds cs → (∀ d ∈ ds, H d = none) → Ordd ms cs → Q (.ref l) H'
section
variable {P : Program} {w : World} {K : PySem.W.Frag} {mg : Str → Option Value} {base : Heap}
abbrev nLO : List Str := ["_law_several", "_law_found", "_law_pairs_here", "_law_known_here"]
theorem scLO : FnScope nLO ["_law_several"] (defScope sLOrd) := ⟨rfl, rfl, rfl, by decide +kernel, rfl, by decide +kernel, by decide +kernel⟩
theorem ok_lord {f fP : Addr} {fd fdP : FuncData} (F : Fun K "_law_ordered" "_law_ordered" sLOrd f fd)
    (GP : FnOk P w K mg base CX0 1 fP fdP ["_law_known_here"] spPrs) (kP : PySem.W.keepIn K (.ref fP) = true) (bP : Binds K fdP ["_law_known_here"] []) (mP : mg "_law_pairs" = some (.ref fP)) (ms : mg "sorted" = none) (md : mg "dict" = none) :
    FnOk P w K mg base CX0 2 f fd ["_law_several"] spLOrd := by
  refine F.ok scLO (fun vs H Q E h => ?_) (fun cdv A outer s H vs Q E hr h => ?_)
  · obtain ⟨q, ts, m, rfl, _⟩ := h
    rfl
  · obtain ⟨q, ts, maps, rfl, hq, pr, good, few, k⟩ := h
    have hu := hr.units
    refine ⟨_, pss_cons (ps_set (i := 1) scLO.nd rfl (Or.inl rfl) (pe_lst pa_nil))
      (pss_cons (ps_for PassesOwn.never rfl (pi_list (pe_callB (cr_sortDK (K := K) rfl hu) (by rfl) ms (by decide +kernel) (pa_cons
            (pe_lc (own := [("_law_known_here", 3)]) (g := gName 3) (tt := tYes) rfl scLO.nd (pi_list (pv 0)) (blkOk_by (own := [("_law_known_here", 3)]) (N := nLO) (sc := defScope sLOrd) (by decide +kernel)) (fun _ _ _ _ _ => pg_name (i := 3) scLO.nd rfl (Or.inl rfl)) (fun _ _ _ _ _ => pts_nil)
              (fun _ _ _ _ _ => pe_call GP hr (by rfl) mP kP bP .nil pass0 (pa_cons (pv 3) pa_nil))) pa_nil))) (pg_name (i := 2) scLO.nd rfl (Or.inl rfl))
        (pss_one (ps_if (PW.pt (pw_or (pt_cmpR (op_eqDK (K := K) rfl hu) (pv 1) (pe_lst pa_nil) (nomark _)) (pw_or1 (pt_cmpR (op_neDK (K := K) rfl hu) (pe_ix (ix_listK (K := K) rfl) (pv 1) (pe_un un_neg pe_int) (fun _ _ => rfl)) (pv 2) (nomark _)))))
          (pss_one (ps_expr (pe_bm PySem.F.plainAttrs_list PySem.F.slot_list_append PySem.F.type_list_append mt_append (pv 1) (pa_cons (pv 2) pa_nil)))) pss_nil)))
      (pss_one (ps_ret (pe_lc (own := [("_law_pairs_here", 2)]) (g := gName 2) (tt := tYes) rfl scLO.nd (pi_list (pv 1)) (blkOk_by (own := [("_law_pairs_here", 2)]) (N := nLO) (sc := defScope sLOrd) (by decide +kernel)) (fun _ _ _ _ _ => pg_name (i := 2) scLO.nd rfl (Or.inl rfl)) (fun _ _ _ _ _ => pts_nil)
        (fun _ _ _ _ _ => pe_callTy (call_dictPK (K := K) rfl rfl) (by rfl) md (by decide +kernel) (pa_cons (pv 2) pa_nil)))))), ?_⟩
    refine ⟨(by show 0 ≤ sizeLine; decide), fun D2 nD2 => ?_⟩
    have s0 : Same H (upd H D2 (.lst [])) := same_new nD2
    have hD2 : (upd H D2 (.lst [])) D2 = some (.lst []) := upd_same
    generalize upd H D2 (.lst []) = H0 at s0 hD2 ⊢
    refine ⟨_, rfl, q, rfl, ⟨_, SqL.of (s0 _ _ hq)⟩, fun D nD => ?_⟩
    have nDH : H D = none := none_of s0 nD
    have lp := Paired.length pr
    refine lc_it L2.walk_list (fun i H5 => ∃ ls : List (Addr × Prs2), H5 D = some (.lst (ls.map fun z => V.ref z.1)) ∧ ls.map (·.2) = (maps.take i).map canon ∧ (∀ z ∈ ls, PrsIn H5 z.1 z.2 ∧ z.1 ≠ D ∧ z.1 ≠ D2) ∧ Same H0 H5)
      ⟨[], upd_same, rfl, fun z m => (nomatch m), same_new nD⟩ (fun i H5 hi p => let ⟨ls, _, _, _, p4⟩ := p; SqL.of (p4 _ _ (s0 _ _ hq))) (fun i x H5 H6 hi p y => ?_) (fun H5 p => ?_)
    · obtain ⟨rfl, hx⟩ := y
      obtain ⟨ls, p1, p2, p3, p4⟩ := p
      rw [List.getElem?_map] at hx
      obtain ⟨t, ht, rfl⟩ := Option.map_eq_some_iff.mp hx
      obtain ⟨m, hm, at1⟩ := Paired.at_ pr ht
      have g := good m (List.mem_of_getElem? hm)
      have ll : ls.length = min i maps.length := by
        have := congrArg List.length p2
        simpa using this
      refine ⟨rfl, ?_⟩
      dsimp only [tYes]
      rw [if_pos rfl]
      refine ⟨_, rfl, t, m, rfl, p4 _ _ (s0 _ _ at1), g.nd, g.few, fun H7 l ts2 s7 nl pa tn => ?_⟩
      have lD : l ≠ D := fun e => by
        rw [e, p1] at nl
        cases nl
      have lD2 : l ≠ D2 := fun e => by
        rw [e, p4 _ _ hD2] at nl
        cases nl
      have p1' := s7 _ _ p1
      have keep : ∀ b o, b ≠ D → H7 b = some o → (upd H7 D (.lst ((ls.map fun z => V.ref z.1) ++ [V.ref l]))) b = some o := fun b o hb h => by
        rw [upd_ne hb]
        exact h
      refine ⟨_, p1', by rw [List.length_map, sizeLine_eq]; omega, ls ++ [(l, canon m)], by rw [upd_same, List.map_append]; rfl, ?_, fun z hz => ?_, fun b o h => ?_⟩
      · rw [List.map_append, p2, List.take_succ, hm]
        simp
      · rcases List.mem_append.mp hz with hz | hz
        · obtain ⟨z1, z2, z3⟩ := p3 z hz
          exact ⟨(z1.same s7).but z2 p1' keep, z2, z3⟩
        · rw [List.mem_singleton.mp hz]
          exact ⟨(show PrsIn H7 l (canon m) from ⟨ts2, pa⟩).but lD p1' keep, lD, lD2⟩
      · exact keep _ _ (ne_of_none h nD) (s7 _ _ (p4 _ _ h))
    · obtain ⟨ls, p1, p2, p3, p4⟩ := p
      rw [List.length_map, lp, List.take_length] at p2
      have ll : ls.length = maps.length := by
        have := congrArg List.length p2
        simpa using this
      have okL : ∀ z ∈ ls, Good z.2 := fun z hz => by
        have : z.2 ∈ maps.map canon := by rw [← p2]; exact List.mem_map.mpr ⟨z, hz, rfl⟩
        obtain ⟨m, hm, e⟩ := List.mem_map.mp this
        rw [← e]
        exact canon_good (good m hm)
      refine ⟨D, ls.map fun z => (V.ref z.1, encL z.2), rfl, SqL.of (by rw [p1, List.map_map]; rfl), fun x hx => ?_, fun d hd d2 hd2 => ?_, .inl (.inr fun d hd => ?_), by rw [List.length_map]; omega, fun x hx => ?_, fun ys l pm rise nl => ?_⟩
      · obtain ⟨z, hz, rfl⟩ := List.mem_map.mp hx
        exact (p3 z hz).1.dp
      · rw [List.map_map] at hd hd2
        obtain ⟨z, _, rfl⟩ := List.mem_map.mp hd
        obtain ⟨z2, _, rfl⟩ := List.mem_map.mp hd2
        exact alike_encL _ _
      · rw [List.map_map] at hd
        obtain ⟨z, _, rfl⟩ := List.mem_map.mp hd
        exact ⟨fun e => (nomatch e), fun xs e => (nomatch e)⟩
      · obtain ⟨z, _, rfl⟩ := List.mem_map.mp hx
        exact Nat.le_trans (depth_encL _) (by decide)
      · obtain ⟨zs, pz, rfl⟩ := L2.NSet.perm_lift _ pm
        have up : zs.Pairwise fun a b => leM a.2 b.2 = true := by
          have r2 := List.pairwise_map.mp rise
          exact List.Pairwise.imp (fun {a b} h => le_of (enc := fun z : Addr × Prs2 => encL z.2) (a := a) (b := b) (toks_encL _) (toks_encL _) h) r2
        have okZ : ∀ z ∈ zs, Good z.2 := fun z hz => okL z (pz.mem_iff.mp hz)
        have inZ : ∀ z ∈ zs, PrsIn H5 z.1 z.2 ∧ z.1 ≠ D2 := fun z hz => let ⟨h1, _, h3⟩ := p3 z (pz.mem_iff.mp hz); ⟨h1, h3⟩
        have memZ : ∀ c, c ∈ zs.map (·.2) ↔ c ∈ maps.map canon := fun c => by
          rw [← p2]
          exact (pz.map (·.2)).mem_iff
        have lz : zs.length ≤ 100 := by rw [pz.length_eq]; omega
        rw [List.map_map]
        have s5 : Same H0 (upd H5 l (.lst (zs.map (Prod.fst ∘ fun z : Addr × Prs2 => (V.ref z.1, encL z.2))))) := fun b o h => by
          rw [upd_ne (ne_of_none (p4 _ _ h) nl)]
          exact p4 _ _ h
        have hl : (upd H5 l (.lst (zs.map (Prod.fst ∘ fun z : Addr × Prs2 => (V.ref z.1, encL z.2))))) l = some (.lst (zs.map fun z => V.ref z.1)) := upd_same
        have inZ2 : ∀ z ∈ zs, PrsIn (upd H5 l (.lst (zs.map (Prod.fst ∘ fun z : Addr × Prs2 => (V.ref z.1, encL z.2))))) z.1 z.2 := fun z hz => (inZ z hz).1.same (same_new nl)
        generalize upd H5 l (.lst (zs.map (Prod.fst ∘ fun z : Addr × Prs2 => (V.ref z.1, encL z.2)))) = Hz at s5 hl inZ2 ⊢
        have lD2 : l ≠ D2 := fun e => by
          rw [e, p4 _ _ hD2] at nl
          cases nl
        refine ⟨l, rfl, ⟨_, SqL.of hl⟩, ?_⟩
        refine for_it (L2.walk_list (K := K) (xs := zs.map fun z => V.ref z.1)) (fun i σ H6 => ∃ (v2 : Option V) (fs : List (Addr × Prs2)), σ = [some (.ref q), some (.ref D2), v2, none] ∧ H6 D2 = some (.lst (fs.map fun z => V.ref z.1)) ∧ (∀ z ∈ fs, z ∈ zs.take i) ∧
            (∀ z ∈ zs.take i, z.2 ∈ fs.map (·.2)) ∧ (fs.Pairwise fun a b => leM a.2 b.2 = true ∧ a.2 ≠ b.2) ∧ (∀ b o, b ≠ D2 → Hz b = some o → H6 b = some o))
          ⟨none, [], rfl, s5 _ _ hD2, fun z m => (nomatch m), fun z m => (nomatch m), .nil, fun _ _ _ h => h⟩ (fun i σ H6 hi p => let ⟨_, _, _, _, _, _, _, p6⟩ := p; SqL.of (p6 _ _ lD2 hl)) (fun i x σ H6 H7 hi p y => ?_) (fun σ H6 p => ?_)
        · obtain ⟨rfl, hx⟩ := y
          obtain ⟨v2, fs, rfl, p1, p2, p3, p4, p5⟩ := p
          rw [List.getElem?_map] at hx
          obtain ⟨z, hz, rfl⟩ := Option.map_eq_some_iff.mp hx
          have mz : z ∈ zs := List.mem_of_getElem? hz
          have inF : ∀ y ∈ fs, y ∈ zs := fun y hy => List.mem_of_mem_take (p2 y hy)
          have prs6 : ∀ y ∈ zs, PrsIn H7 y.1 y.2 := fun y hy => (inZ2 y hy).but (inZ y hy).2 (s5 _ _ hD2) p5
          have tk1 : zs.take (i + 1) = zs.take i ++ [z] := by
            rw [List.take_succ, hz]
            rfl
          have lf : fs.length ≤ 100 := by
            have e : (fs.map (·.2)).Nodup := by
              rw [List.Nodup, List.pairwise_map]
              exact List.Pairwise.imp (fun h => h.2) p4
            have := nodup_len (fs.map (·.2)) (zs.map (·.2)) e fun c hc => by
              obtain ⟨y, hy, rfl⟩ := List.mem_map.mp hc
              exact List.mem_map.mpr ⟨y, inF y hy, rfl⟩
            rw [List.length_map, List.length_map] at this
            omega
          refine ⟨_, rfl, (by show 0 ≤ sizeLine; decide), fun p0 n0 => ?_⟩
          have s8 : Same H7 (upd H7 p0 (.lst [])) := same_new n0
          have h0 : (upd H7 p0 (.lst [])) p0 = some (.lst []) := upd_same
          generalize upd H7 p0 (.lst []) = H8 at s8 h0 ⊢
          have prs8 : ∀ y ∈ zs, PrsIn H8 y.1 y.2 := fun y hy => (prs6 y hy).same s8
          have p1' := s8 _ _ p1
          refine ⟨.list ((fs.map (·.2)).map encL), .list [], .lst (SqL.of p1') ?_, .lst (SqL.of h0) .nil, shaped_encs fun m hm => ?_, by decide, _, rfl, ?_⟩
          · rw [List.map_map]
            exact dp_zips fun y hy => prs8 y (inF y hy)
          · obtain ⟨y, hy, rfl⟩ := List.mem_map.mp hm
            exact (okZ y (inF y hy)).okM
          have keep : ∀ (ys : List V) b o, b ≠ D2 → Hz b = some o → (upd H8 D2 (.lst ys)) b = some o := fun ys b o hb h => by
            rw [upd_ne hb]
            exact s8 _ _ (p5 b o hb h)
          -- laid behind the others
          have put : (∀ a ∈ fs, leM a.2 z.2 = true ∧ a.2 ≠ z.2) → ∀ (σ2 : List (Option V)), σ2 = [some (.ref q), some (.ref D2), some (.ref z.1), none] → ∃ (v2 : Option V) (gs : List (Addr × Prs2)), σ2 = [some (.ref q), some (.ref D2), v2, none] ∧ (upd H8 D2 (.lst ((fs.map fun z => V.ref z.1) ++ [V.ref z.1]))) D2 = some (.lst (gs.map fun z => V.ref z.1)) ∧ (∀ y ∈ gs, y ∈ zs.take (i + 1)) ∧
              (∀ y ∈ zs.take (i + 1), y.2 ∈ gs.map (·.2)) ∧ (gs.Pairwise fun a b => leM a.2 b.2 = true ∧ a.2 ≠ b.2) ∧ (∀ b o, b ≠ D2 → Hz b = some o → (upd H8 D2 (.lst ((fs.map fun z => V.ref z.1) ++ [V.ref z.1]))) b = some o) := fun fit σ2 e2 => by
            refine ⟨_, fs ++ [z], e2, by rw [upd_same, List.map_append]; rfl, fun y hy => ?_, fun y hy => ?_, ?_, keep _⟩
            · rw [tk1]
              rcases List.mem_append.mp hy with hy | hy
              · exact List.mem_append_left _ (p2 y hy)
              · exact List.mem_append_right _ hy
            · rw [tk1] at hy
              rw [List.map_append]
              rcases List.mem_append.mp hy with hy | hy
              · exact List.mem_append_left _ (p3 y hy)
              · exact List.mem_append_right _ (List.mem_map.mpr ⟨y, hy, rfl⟩)
            · refine List.pairwise_append.mpr ⟨p4, List.pairwise_singleton _ _, fun a ha b hb => ?_⟩
              rw [List.mem_singleton.mp hb]
              exact fit a ha
          rw [eqv_encs]
          rcases List.eq_nil_or_concat fs with e | ⟨g, lst, e⟩
          · subst e
            rw [decide_eq_true (by rfl)]
            refine iteT (iteT ?_)
            exact ⟨_, rfl, .inl ⟨rfl, _, SqL.of p1'⟩, _, rfl, D2, _, _, rfl, rfl, p1', by rw [List.length_map, sizeLine_eq]; omega, put (fun a ha => (nomatch ha)) _ rfl⟩
          · rw [List.concat_eq_append] at e
            rw [decide_eq_false (by rw [e]; simp)]
            refine iteF ?_
            have mL : lst ∈ fs := by rw [e]; simp
            have mLz : lst ∈ zs := inF lst mL
            have at9 : atI (fs.map fun z => V.ref z.1) (-1) = some (V.ref lst.1) := by
              rw [e, List.map_append]
              exact atI_last _ _
            refine ⟨_, rfl, 1, rfl, D2, _, -1, _, rfl, rfl, SqL.of p1', at9, _, rfl, encL lst.2, encL z.2, (prs8 lst mLz).dp, (prs8 z mz).dp, shaped_encL (okZ lst mLz).okM, shaped_encL (okZ z mz).okM, _, rfl, ?_⟩
            rw [eqv_encL]
            by_cases c : lst.2 = z.2
            · rw [decide_eq_true c]
              refine iteF ?_
              refine ⟨_, fs, rfl, p1', fun y hy => ?_, fun y hy => ?_, p4, fun b o hb h => s8 _ _ (p5 b o hb h)⟩
              · rw [tk1]
                exact List.mem_append_left _ (p2 y hy)
              · rw [tk1] at hy
                rcases List.mem_append.mp hy with hy | hy
                · exact p3 y hy
                · rw [List.mem_singleton.mp hy, ← c]
                  exact List.mem_map.mpr ⟨lst, mL, rfl⟩
            · rw [decide_eq_false c]
              refine iteT ?_
              have before : ∀ a ∈ fs, leM a.2 z.2 = true := fun a ha => by
                have hs : (zs.take i ++ [z]).Pairwise fun a b => leM a.2 b.2 = true := by
                  rw [← tk1]
                  exact up.sublist (List.take_sublist _ _)
                exact (List.pairwise_append.mp hs).2.2 a (p2 a ha) z (by simp)
              refine ⟨_, rfl, .inl ⟨rfl, _, SqL.of p1'⟩, _, rfl, D2, _, _, rfl, rfl, p1', by rw [List.length_map, sizeLine_eq]; omega, put (fun a ha => ⟨before a ha, fun e3 => c ?_⟩) _ rfl⟩
              have le2 : leM a.2 lst.2 = true := by
                rw [e] at ha p4
                rcases List.mem_append.mp ha with ha | ha
                · exact ((List.pairwise_append.mp p4).2.2 a ha lst (by simp)).1
                · rw [List.mem_singleton.mp ha] at e3 ⊢
                  exact absurd e3 c
              rw [e3] at le2
              exact leM_anti (before lst mL) le2
        · obtain ⟨v2, fs, rfl, p1, p2, p3, p4, p5⟩ := p
          rw [List.length_map, List.take_length] at p2 p3
          have ordd : Ordd maps (fs.map (·.2)) := by
            refine ⟨?_, ?_, fun c => ?_⟩
            · rw [List.pairwise_map]
              exact List.Pairwise.imp (fun h => h.1) p4
            · rw [List.Nodup, List.pairwise_map]
              exact List.Pairwise.imp (fun h => h.2) p4
            · rw [← memZ]
              constructor
              · intro h
                obtain ⟨y, hy, rfl⟩ := List.mem_map.mp h
                exact List.mem_map.mpr ⟨y, p2 y hy, rfl⟩
              · intro h
                obtain ⟨y, hy, rfl⟩ := List.mem_map.mp h
                exact p3 y hy
          have prsF : ∀ y ∈ fs, PrsIn H6 y.1 y.2 := fun y hy => (inZ2 y (p2 y hy)).but (inZ y (p2 y hy)).2 (s5 _ _ hD2) p5
          have lf : fs.length ≤ 100 := by
            have := nodup_len (fs.map (·.2)) (zs.map (·.2)) ordd.once fun c hc => by
              obtain ⟨y, hy, rfl⟩ := List.mem_map.mp hc
              exact List.mem_map.mpr ⟨y, p2 y hy, rfl⟩
            rw [List.length_map, List.length_map] at this
            omega
          have sH6 : Same H H6 := fun b o h => p5 b o (ne_of_none h nD2) (s5 _ _ (s0 _ _ h))
          refine ⟨_, rfl, D2, rfl, ⟨_, SqL.of p1⟩, fun D3 nD3 => ?_⟩
          refine lc_it L2.walk_list (fun i H9 => ∃ ds : List Addr, H9 D3 = some (.lst (ds.map V.ref)) ∧ Paired (MapAt H9) ds ((fs.map (·.2)).take i) ∧ (∀ d ∈ ds, H d = none) ∧ Same H6 H9)
            ⟨[], upd_same, .nil, fun d m => (nomatch m), same_new nD3⟩ (fun i H9 hi p => let ⟨ds, _, _, _, p9⟩ := p; SqL.of (p9 _ _ p1)) (fun i x H9 HA hi p y => ?_) (fun H9 p => ?_)
          · obtain ⟨rfl, hx⟩ := y
            obtain ⟨ds, q1, q2, q3, q4⟩ := p
            rw [List.getElem?_map] at hx
            obtain ⟨u, hu2, rfl⟩ := Option.map_eq_some_iff.mp hx
            have mu : u ∈ fs := List.mem_of_getElem? hu2
            obtain ⟨tsu, pu⟩ := (prsF u mu).same q4
            have gu := okZ u (p2 u mu)
            refine ⟨rfl, ?_⟩
            dsimp only [tYes]
            rw [if_pos rfl]
            refine ⟨_, rfl, u.1, tsu, kd u.2, rfl, SqL.of pu.sq, prs_kd pu.each _, fun d nd9 => ?_⟩
            have dD : d ≠ D3 := fun e => by
              rw [e, q1] at nd9
              cases nd9
            have ldv : ds.length = min i fs.length := by
              have := Paired.length q2
              rwa [List.length_take, List.length_map] at this
            refine ⟨ds.map V.ref, by rw [upd_ne (Ne.symm dD)]; exact q1, by rw [List.length_map, sizeLine_eq]; omega, ds ++ [d], by rw [upd_same, List.map_append]; rfl, ?_, fun b hb => ?_, fun b o h => ?_⟩
            · have tk2 : (fs.map (·.2)).take (i + 1) = (fs.map (·.2)).take i ++ [u.2] := by
                rw [List.take_succ, List.getElem?_map, hu2]
                rfl
              rw [tk2]
              refine Paired.snoc (Paired.mapP q2 fun b c h => ?_) ?_
              · have hb : HA b = some (.dK (kd c)) := h
                have nb : b ≠ D3 := fun e => by
                  rw [e, q1] at hb
                  cases hb
                show (upd (upd HA d _) D3 _) b = _
                rw [upd_ne nb, upd_ne (ne_of_none hb nd9)]
                exact hb
              · show (upd (upd HA d _) D3 _) d = _
                rw [upd_ne dD, upd_same, mer_self gu.nd]
            · rcases List.mem_append.mp hb with hb | hb
              · exact q3 b hb
              · rw [List.mem_singleton.mp hb]
                exact none_of (fun b o h => q4 _ _ (sH6 _ _ h)) nd9
            · have h6 := q4 _ _ h
              rw [upd_ne (ne_of_none h nD3), upd_ne (ne_of_none h6 nd9)]
              exact h6
          · obtain ⟨ds, q1, q2, q3, q4⟩ := p
            rw [List.length_map, show fs.length = (fs.map (·.2)).length from (List.length_map ..).symm, List.take_length] at q2
            exact k H9 D3 ds _ (fun b o h => q4 _ _ (sH6 _ _ h)) (none_of sH6 nD3) q1 q2 q3 ordd
end
end L2.LawH
set_option Elab.async false
set_option linter.all false
set_option maxRecDepth 100000
set_option maxHeartbeats 4000000
/-! x != y of tuples and of instances that are equal by a class's own ==. -/
namespace L2.InsNe
open PySem PySem.Spec PyProof.Rows PySem.SeqAt AutoSeq1 MeetsSeq MeetsSeq2 MeetsSeq3 SeqRoads2 GQ
section
variable {P : Program} {w : World} {A : Around} {R : Result → Shared → Prop}
theorem tup_ne (a c : Addr) (us vs : Array Value) (n m : Nat) (d1 d2 : Option Addr) (s1 s2 : Array (Option Value)) (hz : us.size = vs.size) (J : Nat → Shared → Prop)
    (step : ∀ j (k1 : j < us.size) (k2 : j < vs.size) t, J j t → wpAny (model P w) A.in1 (eqBool us[j] vs[j]) (fun r t' => r = true ∧ J (j + 1) t') (fun e t' => R (.error e) t') t)
    (stop : ∀ t, J us.size t → R (.ok (.ret (.bool false))) t) {t : Shared} (ha : t.heap.get? a = some { cls := .type "tuple", dict := d1, data := .seq us n, slots := s1 }) (hc : t.heap.get? c = some { cls := .type "tuple", dict := d2, data := .seq vs m, slots := s2 }) (j0 : J 0 t) :
    wpAny (model P w) A.in1 (Builtin.«tuple.__ne__» ⟨[.ref a, .ref c], []⟩) (FinOf P w A R) (fun e t' => R (.error e) t') t := by
  have sub := AutoSeq1.sub_tuple_tuple
  have lz : (us.toList.zip vs.toList).length = us.size := by simp [hz]
  have keep := j0
  obtain ⟨hp, g, d, tk, os⟩ := t
  wp_walk using wpAny_loadPart' ha, wpAny_loadPart' hc, wpAny_forIn_list _ (fun left q t' => q.1 = none ∧ ∃ k, left = (us.toList.zip vs.toList).drop k ∧ k ≤ us.size ∧ J k t') _
  case turn =>
    rintro ⟨u, v⟩ left q t' ⟨_, k, e, _, hJ⟩
    have lt : k < (us.toList.zip vs.toList).length := Nat.lt_of_not_le fun ge => by
      rw [List.drop_of_length_le ge] at e
      cases e
    have k1 : k < us.size := lz ▸ lt
    have k2 : k < vs.size := hz ▸ k1
    rw [List.drop_eq_getElem_cons lt] at e
    injection e with e1 e2
    have eu : u = us[k] := by simpa using congrArg Prod.fst e1
    have ev : v = vs[k] := by simpa using congrArg Prod.snd e1
    subst eu ev
    refine wpAny_bind (wpAny_mono (step k k1 k2 t' hJ) (fun r t2 z => ?_) fun _ _ x => x)
    obtain ⟨rfl, z⟩ := z
    wp_walk
    exact ⟨rfl, k + 1, e2, k1, z⟩
  case fin =>
    rintro ⟨q1, q2⟩ t' ⟨e0, k, e, le, hJ⟩
    simp only at e0
    subst e0
    have ge : us.size ≤ k := Nat.le_of_not_lt fun lt => by
      rw [List.drop_eq_getElem_cons (by rw [lz]; exact lt)] at e
      cases e
    obtain rfl : k = us.size := Nat.le_antisymm le ge
    have fin := stop t' hJ
    wp_walk
    simpa [Builtin.Tuple.tupleCompareSizes, hz] using fin
  case h =>
    exact ⟨rfl, 0, rfl, Nat.zero_le _, keep⟩
end
section
variable {P : Program} {w : World} {A : Around} {E : Value → Shared → Prop} {t : Shared}
theorem rc_tup_ne {a c : Addr} {us vs : Array Value} {Q : Value → Shared → Prop} (hz : us.size = vs.size) (hu : A.units < cLine) (J : Nat → Shared → Prop) (ha : t.heap.IsTuple a us) (hc : t.heap.IsTuple c vs)
    (step : ∀ j (k1 : j < us.size) (k2 : j < vs.size) t, J j t → wpAny (model P w) A.in1 (eqBool us[j] vs[j]) (fun r t' => r = true ∧ J (j + 1) t') E t) (stop : ∀ t, J us.size t → Q (.bool false) t) (j0 : J 0 t) :
    wpAny (model P w) A (richCompare .NotEq (.ref a) (.ref c)) Q E t := by
  obtain ⟨⟨c1, d1, x1, s1⟩, o1, k1, n1, e1⟩ := id ha
  obtain ⟨⟨c2, d2, x2, s2⟩, o2, k2, n2, e2⟩ := id hc
  simp only at k1 e1 k2 e2
  subst k1 e1 k2 e2
  refine wpAny_richCompare_same_room (op := .NotEq) ⟨_, o1, rfl⟩ ⟨_, o2, rfl⟩ F.slot_tuple_ne (call_here F.slot_tuple_ne ⟨_, o1, rfl⟩ F.entry_tuple_ne (F.args_tuple_ne_2 _ _) ?_) hu
  exact tup_ne (R := wants (fun v t' => v ≠ .notImplemented ∧ Q v t') E) a c us vs n1 n2 d1 d2 s1 s2 hz J step (fun t' q => ⟨(fun x => nomatch x), stop t' q⟩) o1 o2 j0
end
section
variable {M : Model} {P : Program} {w : World} {A : Around} {E : Value → Shared → Prop} {s : Shared} {K : PySem.W.Frag} {x C f : Addr} {ox : Obj} {od : Option Obj}
theorem bound_ne {args : List Value} {Q : Option Value → Shared → Prop} (X : K.In s.heap) (I : PySem.W.InstAt s.heap x ox C od) (hs : PySem.W.findIn K (.ref C) "__ne__" = some (some (.builtin "object.__ne__")))
    (h : wpAny M A (call (.builtin "object.__ne__") (.ref x :: args)) (fun v => Q (some v)) E s) : wpAny M A (callSpecialIfBound? (.ref x) "__ne__" args) Q E s := by
  simp only [callSpecialIfBound?, bindSpecialIfBound?]
  refine wpAny_holding (wpAny_bind (wpAny_bind (wpAny_bind (I.type.here ((PySem.W.looks_findIn X hs).here ?_)))))
  refine wpAny_bind (wpAny_askSetting (wpAny_ite ?_))
  have last : wpAny M A (call (.builtin "object.__ne__") ([.ref x] ++ args) >>= fun v => pure (some v)) Q E s := wpAny_bind (wpAny_mono h (fun v s' z => wpAny_pure z) fun _ _ z => z)
  split
  · exact wpAny_bind (wpAny_of_eq (F.cmp_object.ne.bind _) (wpAny_pure (by exact last)))
  · exact wpAny_tryCatch (wpAny_bind (wpAny_of_eq (F.cmp_object.ne.bind _) (wpAny_pure (by exact last))))
theorem body_ne {y : Value} {Q : Fin → Shared → Prop} (X : K.In s.heap) (I : PySem.W.InstAt s.heap x ox C od) (hs : PySem.W.findIn K (.ref C) "__eq__" = some (some (.ref f))) (hf : PySem.W.isFn K (.ref f) = true) (hu : A.units < cLine)
    (h : wpAny (model P w) A (call (.ref f) [.ref x, y]) (fun v s' => ∃ b, v = .bool b ∧ Q (.done (.ret (.bool (!b)))) s') E s) : wpAny (model P w) A (Builtin.«object.__ne__» ⟨[.ref x, y], []⟩) Q E s := by
  unfold Builtin.«object.__ne__»
  repeat (first
    | with_reducible refine wpAny_cRoomFor hu ?_
    | (refine wpAny_bind (m := callSpecialIfBound? (.ref x) (Str.ofString "__eq__") [y]) (PySem.W.ifBound_K X I hs hf (wpAny_mono h (fun r s' z => by
        obtain ⟨b, rfl, z⟩ := z
        repeat (first | exact z | exact wpAny_pure z | exact wpAny_truthy_bool z | (refine wpAny_bind (m := truthy (.bool _)) (wpAny_truthy_bool ?_)) | wp_step)) fun _ _ z => z)))
    | wp_step)
theorem rc_ne {y : Addr} {oy : Obj} {oe : Option Obj} {Q : Value → Shared → Prop} (X : K.In s.heap) (I : PySem.W.InstAt s.heap x ox C od) (I2 : PySem.W.InstAt s.heap y oy C oe) (hm : PySem.W.mroIn K C (.type "object") = some true) (hn : PySem.W.findIn K (.ref C) "__ne__" = some (some (.builtin "object.__ne__"))) (hs : PySem.W.findIn K (.ref C) "__eq__" = some (some (.ref f))) (hf : PySem.W.isFn K (.ref f) = true) (hu : A.units + 1 < cLine)
    (h : wpAny (model P w) A.in1 (call (.ref f) [.ref x, .ref y]) (fun v s' => ∃ b, v = .bool b ∧ Q (.bool (!b)) s') E s) : wpAny (model P w) A (richCompare .NotEq (.ref x) (.ref y)) Q E s := by
  have one : wpAny (model P w) A (tryCompare (.ref x) "__ne__" (.ref y)) (fun r s' => ∃ v, r = some v ∧ Q v s') E s := by
    unfold tryCompare
    refine wpAny_bind (bound_ne X I hn (wpAny_call (codeAny_call_builtin F.cmp_object.ne.plain F.cmpEntry_ne (PySem.W.check_slot F.cmpKind_ne F.cmpSplit_ne (I.type.andThen (PySem.W.looks_mroIn X hm)) (F.cmpArgs_ne _ _)
      (body_ne (A := A.in1) X I hs hf hu (wpAny_mono h (fun v s' z => ?_) fun _ _ z => z))))))
    obtain ⟨b, rfl, z⟩ := z
    exact ⟨b, rfl, wpAny_pure ⟨_, rfl, z⟩⟩
  unfold richCompare
  simp only [oneThing_ref]
  refine wpAny_holding (wpAny_bind (wpAny_cRoomFor (Nat.lt_of_succ_lt hu) ?_))
  refine wpAny_bind (I.type.here (wpAny_bind (I2.type.here ?_)))
  split
  · rename_i q
    simp at q
  · refine wpAny_bind (wpAny_pure ?_)
    simp only [Bool.false_eq_true, if_false]
    refine wpAny_bind (wpAny_mono one (fun r s' z => ?_) fun _ _ e => e)
    obtain ⟨v, rfl, hq⟩ := z
    exact wpAny_pure hq
end
end L2.InsNe
namespace L2
open PySem PySem.Spec PyProof.Rows
/-- != gives False for what D says, and only makes objects -/
def NcG (X : Cx) (n : Nat) (D : Eqv) : Prop :=
  ∀ (A : Around) (pins : List (Addr × Obj)) (s : Shared) (σ : St) (H : Hp) (x y : V) (u v : Value), Sub X n A → Inv X pins σ H s → RelV x u → RelV y v → D x y H →
    wpAny (model X.prog X.w) A (richCompare .NotEq u v) (fun r s' => r = .bool false ∧ ∃ H', Inv X pins σ H' s' ∧ Ext H H') X.xe s
section
variable {X : Cx} {n m : Nat} {D D' : Eqv}
theorem ncG_tup (hD : Mon D) (h : EqG X n D) : NcG X (n + 1) (DTup X.K D) := by
  intro A pins s σ H x y u v sb I rx ry d
  obtain ⟨a, b, xs, ys, rfl, rfl, ha, hb, p⟩ := d
  cases rx
  cases ry
  obtain ⟨i1, r1, e1, _⟩ := I.tuple ha
  obtain ⟨i2, r2, e2, _⟩ := I.tuple hb
  have hz : i1.toArray.size = i2.toArray.size := by rw [List.size_toArray, List.size_toArray, ← r1.length, ← r2.length]; exact p.1
  exact InsNe.rc_tup_ne hz sb.room.units0 (fun _ t => LoopI X pins σ H t) e1 e2 (fun j k1 k2 t q => turnG hD h sb p r1 r2 j k1 k2 t q) (fun t q => ⟨rfl, q⟩) ⟨H, I, Ext.rfl'⟩
theorem ncG_ins {CX : CXT} {C f : Addr} {fd : FuncData} {ps : List Str} {R : Addr → Addr → Hp → Prop} {E : XK} (F : FnOk X.prog X.w X.K X.mg X.base CX n f fd ps (spEq R)) (hm : PySem.W.mroIn X.K C (.type "object") = some true) (hn : PySem.W.findIn X.K (.ref C) "__ne__" = some (some (.builtin "object.__ne__")))
    (hs : PySem.W.findIn X.K (.ref C) "__eq__" = some (some (.ref f))) (hf : PySem.W.isFn X.K (.ref f) = true) (hb : Binds X.K fd ps []) (hx : Passes CX X E) : NcG X (n + 1) (DIns C R) := by
  intro A pins s σ H x y u v sb I rx ry d
  obtain ⟨a, b, dx, dy, fs, gs, rfl, rfl, ha, hb', hr⟩ := d
  cases rx
  cases ry
  obtain ⟨mA, J, _⟩ := ins_get I.hok ha
  obtain ⟨mB, J', _⟩ := ins_get I.hok hb'
  obtain ⟨od, J, _⟩ := J.look
  obtain ⟨od', J', _⟩ := J'.look
  refine InsNe.rc_ne I.kIn J J' hm hn hs hf (by have := sb.room.un; omega) ?_
  have want : spEq R [.ref a, .ref b] H (fun v H' => v = .bl true ∧ Ext H H') E := ⟨a, b, rfl, hr, fun H' e => ⟨rfl, e⟩⟩
  have e0 : Env0 X.prog X.w X.K X.mg X.base A.in1 X.stack s H := by
    have e := I.env0
    have sf : A.in1.frames = X.A.frames := sb.in1.fr
    exact ⟨by rw [sf]; exact e.frames, e.mod, e.bs, e.bsz, e.funs, e.frf, e.hok, e.bare⟩
  have hl := F.len _ _ _ _ want
  refine wpAny_call (codeAny_mono (F.run A.in1 X.stack s H ⟨[.ref a, .ref b], []⟩ [.ref a, .ref b] [.ref a, .ref b] _ E sb.in1.room e0 (by
    have := hb s [.ref a, .ref b] I.kIn (by simpa using hl)
    simpa using this) (.cons rfl (.cons rfl .nil)) want) fun r s' hq => ?_)
  cases r with
  | error e => exact hx pins σ H s e s' I hq
  | ok fl =>
    cases fl with
    | ret z =>
      obtain ⟨_, H', I', rz, ez, ex⟩ := I.after hq
      subst ez
      cases rz
      exact ⟨true, rfl, rfl, H', I', ex⟩
    | next => exact False.elim hq
    | brk => exact False.elim hq
    | cont => exact False.elim hq
/-- x != y, which are equal -/
def rNeG (D : Eqv) : R2 := fun x y H Q => D x y H ∧ ∀ H', Ext H H' → Q (.bl false) H'
theorem op_neG (h : NcG X n D) (hr : Room n X.A) : OpR X (compareOp .NotEq) (rNeG D) := by
  intro pins s σ H x y v u Q I rx ry hq
  obtain ⟨d, q⟩ := hq
  show wpAny (model X.prog X.w) X.A (richCompare .NotEq v u) (EP X pins σ Q) X.xe s
  refine wpAny_mono (h X.A pins s σ H x y v u ⟨hr, rfl⟩ I rx ry d) (fun r t z => ?_) fun _ _ x => x
  obtain ⟨rfl, H', I', e⟩ := z
  exact ⟨.bl false, H', I', rfl, q H' e⟩
/-- two dicts of texts with the same pairs -/
def DDic : Eqv := fun x y H => ∃ a b ks, x = .ref a ∧ y = .ref b ∧ H a = some (.dK ks) ∧ H b = some (.dK ks) ∧ ∀ p ∈ ks, valV ks p.1 = some p.2 ∧ flatB p.2 = true
theorem mon_dic : Mon DDic := fun x y H H' e ⟨a, b, ks, hx, hy, h1, h2, k⟩ => ⟨a, b, ks, hx, hy, e _ _ h1, e _ _ h2, k⟩
theorem eqG_dic : EqG X 2 DDic := by
  intro A pins s σ H x y u v sb I rx ry d
  obtain ⟨a, b, ks, rfl, rfl, h1, h2, k⟩ := d
  refine eqV_run I 2 A (by have := sb.room.un; omega) (.ref a) (.ref b) u v (.inr (.inr (.inr ⟨a, b, ks, ks, rfl, rfl, h1, h2, rfl, fun p hp => ?_⟩))) rx ry _ _ ⟨rfl, H, I, Ext.rfl'⟩
  obtain ⟨e, f⟩ := k p hp
  exact ⟨p.2, e, .inl ⟨rfl, f⟩⟩
end
end L2
set_option Elab.async false
set_option linter.all false
set_option maxRecDepth 100000
set_option maxHeartbeats 4000000
/-! Store's own ==. -/
namespace L2.LawH
open PySem PySem.Spec PyProof.Rows L2.NSet PySem.W
abbrev sEqS : Stmt := inClass (top 18) 7
/-- a Store with these facts stands at a -/
def StoreAt (C : Addr) (H : Hp) (a : Addr) (M : List Pt) : Prop := ∃ dx t d, H a = some (.ins C dx (fsS t d)) ∧ H t = some (.tup (M.map fun x => V.ref x.1)) ∧ ∀ x ∈ M, H x.1 = some (.tup (ptV x))
theorem StoreAt.ext {C : Addr} {H H' : Hp} {a : Addr} {M : List Pt} (h : StoreAt C H a M) (e : Ext H H') : StoreAt C H' a M :=
  let ⟨dx, t, d, h1, h2, h3⟩ := h
  ⟨dx, t, d, e _ _ h1, e _ _ h2, fun x hx => e _ _ (h3 x hx)⟩
/-- two Stores with the same facts -/
def RS (C : Addr) (a b : Addr) (H : Hp) : Prop := ∃ M N : List Pt, StoreAt C H a M ∧ StoreAt C H b N ∧ M.map (·.2) = N.map (·.2)
theorem RS.mon {C : Addr} (a b : Addr) (H H' : Hp) (e : Ext H H') (r : RS C a b H) : RS C a b H' := let ⟨M, N, h1, h2, h3⟩ := r; ⟨M, N, h1.ext e, h2.ext e, h3⟩
theorem op_eqTTK {X : Cx} {K : PySem.W.Frag} (e : X.K = K) (hr : Room 2 X.A) : OpR X (compareOp .Eq) (rEqG (DTup K (DTup K DFlat))) := by
  subst e
  exact op_eqG (rcG_tup (mon_tup mon_flat) (eqG_tup mon_flat eqG_flat)) hr
theorem call_isCK {X : Cx} {K : PySem.W.Frag} {C : Addr} (e : X.K = K) (c : C8.InsC K C) : CallR X (.builtin "isinstance") (fun xs H Q => ∃ a dx fs, xs = [.ref a, .ref C] ∧ H a = some (.ins C dx fs) ∧ Q (.bl true) H) := by
  subst e
  exact C8.call_isC c
theorem eqV_str (z : Str) : eqV (.str z) (.str z) = true := by simp [eqV]
theorem prs_strs : ∀ (zs : List Str) {H : Hp}, Prs DFlat (zs.map V.str) (zs.map V.str) H
  | [], _ => .nil
  | z :: zs, _ => .cons ⟨rfl, rfl, eqV_str z⟩ (prs_strs zs)
theorem ptV_map (x : Pt) : ptV x = (x.2.1 :: x.2.2).map V.str := rfl
theorem prs_pts {K : PySem.W.Frag} {H : Hp} : ∀ {M N : List Pt}, M.map (·.2) = N.map (·.2) → (∀ x ∈ M, H x.1 = some (.tup (ptV x))) → (∀ x ∈ N, H x.1 = some (.tup (ptV x))) →
    Prs (DTup K DFlat) (M.map fun x => V.ref x.1) (N.map fun x => V.ref x.1) H
  | [], [], _, _, _ => .nil
  | [], _ :: _, h, _, _ => nomatch h
  | _ :: _, [], h, _, _ => nomatch h
  | x :: M, y :: N, h, h1, h2 => by
    rw [List.map_cons, List.map_cons] at h
    injection h with e1 e2
    refine .cons ⟨x.1, y.1, ptV x, ptV y, rfl, rfl, SqT.of (h1 x List.mem_cons_self), SqT.of (h2 y List.mem_cons_self), ?_⟩ (prs_pts e2 (fun z hz => h1 z (List.mem_cons_of_mem _ hz)) fun z hz => h2 z (List.mem_cons_of_mem _ hz))
    rw [ptV_map, ptV_map, e1]
    exact prs_strs _
section
variable {P : Program} {w : World} {K : PySem.W.Frag} {mg : Str → Option Value} {base : Heap}
theorem scEq : FnScope ["self", "other"] ["self", "other"] (defScope sEqS) := ⟨rfl, rfl, rfl, by decide +kernel, rfl, by decide +kernel, by decide +kernel⟩
theorem ok_eqS {f C : Addr} {fd : FuncData} (F : Fun K "__eq__" "Store.__eq__" sEqS f fd) (T : StT K mg C) (c : C8.InsC K C) (mC : mg "Store" = some (.ref C)) (mi : mg "isinstance" = none) :
    FnOk P w K mg base CX0 3 f fd ["self", "other"] (spEq (RS C)) := by
  refine F.ok scEq (fun vs H Q E h => ?_) (fun cdv A outer s H vs Q E hr h => ?_)
  · obtain ⟨a, b, rfl, _⟩ := h
    rfl
  · obtain ⟨a, b, rfl, ⟨M, N, ⟨dx, t, d, h1, h2, h3⟩, ⟨dy, t', d', g1, g2, g3⟩, e⟩, k⟩ := h
    refine ⟨_, pss_one (ps_ret (pe_and (pe_callB (call_isCK (K := K) rfl c) (by rfl) mi (by decide +kernel) (pa_cons (pv 1) (pa_cons (pe_glob (v := .ref C) (by rfl) mC rfl) pa_nil)))
      (pe_one (pe_cmpR (op_eqTTK (K := K) rfl hr) (pe_fld (pv 0) rfl) (pe_fld (pv 1) rfl) (nomark _))))), ?_⟩
    refine ⟨_, rfl, b, dy, _, rfl, g1, true, rfl, iteT ?_⟩
    refine ⟨_, rfl, a, C, dx, _, .ref t, rfl, h1, T.cl, T.nF, rfl, _, rfl, b, C, dy, _, .ref t', rfl, g1, T.cl, T.nF, rfl, ?_⟩
    exact ⟨⟨t, t', _, _, rfl, rfl, SqT.of h2, SqT.of g2, prs_pts e h3 g3⟩, k⟩
end
end L2.LawH
set_option Elab.async false
set_option linter.all false
set_option maxRecDepth 100000
set_option maxHeartbeats 4000000
/-! _law_facts. -/
namespace L2.LawH
open PySem PySem.Spec PyProof.Rows L2.TxtSet TL L2.NSet
abbrev sLFacts : Stmt := top 72
/-- a fact as data, and the order of facts -/
def facD (c : Str × List Str) : PyData := .tuple ((c.1 :: c.2).map PyData.str)
def fle (a b : Str × List Str) : Bool := !PySem.W.dataLt (facD b) (facD a)
theorem dp_fact {K : PySem.W.Frag} {H : Hp} {p : Addr} {c : Str × List Str} (h : H p = some (.tup ((c.1 :: c.2).map V.str))) : Dp K H (.ref p) (facD c) := .tup (SqT.of h) (dp_texts (c.1 :: c.2))
theorem alike_fact (a b : Str × List Str) : PySem.W.alike (facD a) (facD b) = true := by
  unfold facD
  rw [PySem.W.alike]
  exact alike_texts _ _
theorem depth_fact (a : Str × List Str) : (facD a).depth ≤ 1 := by
  unfold facD
  rw [PyData.depth, ddepth_texts]
  exact Nat.le_refl _
theorem eqvAll_texts : ∀ a b : List Str, PyData.eqvAll (a.map PyData.str) (b.map PyData.str) = decide (a = b)
  | [], [] => by simp [PyData.eqvAll]
  | [], _ :: _ => by simp [PyData.eqvAll]
  | _ :: _, [] => by simp [PyData.eqvAll]
  | x :: a, y :: b => by
    rw [List.map_cons, List.map_cons, PyData.eqvAll, eqvAll_texts a b]
    by_cases h : x = y
    · subst h
      simp [PyData.eqv]
    · simp [PyData.eqv, h]
theorem eqv_fact (a b : Str × List Str) : PyData.eqv (facD a) (facD b) = decide (a = b) := by
  unfold facD
  rw [PyData.eqv, eqvAll_texts]
  refine decide_eq_decide.mpr ⟨fun h => ?_, fun h => by rw [h]⟩
  injection h with h1 h2
  exact Prod.ext h1 h2
theorem lay_texts : ∀ zs : List Str, PyData.canLayAll0 (zs.map PyData.str) = zs.all PyData.strOk
  | [] => by simp [PyData.canLayAll0]
  | z :: zs => by
    rw [List.map_cons, PyData.canLayAll0, lay_texts zs]
    simp [PyData.canLay0]
/-- a fact of names -/
structure Fct (c : Str × List Str) : Prop where
  nT : Nm c.1
  l3 : c.2.length ≤ 3
  nz : ∀ z ∈ c.2, Nm z
theorem lay_fact {c : Str × List Str} (h : Fct c) : (facD c).canLay0 = true := by
  unfold facD
  rw [PyData.canLay0, lay_texts, List.all_cons, h.nT.strOk, List.all_eq_true.mpr fun z hz => (h.nz z hz).strOk]
  rfl
theorem lay_facts : ∀ {cs : List (Str × List Str)}, (∀ c ∈ cs, Fct c) → PyData.canLayAll0 (cs.map facD) = true
  | [], _ => by simp [PyData.canLayAll0]
  | c :: cs, h => by
    rw [List.map_cons, PyData.canLayAll0, lay_fact (h c List.mem_cons_self), lay_facts fun d hd => h d (List.mem_cons_of_mem _ hd)]
    rfl
theorem depth_facts : ∀ cs : List (Str × List Str), PyData.depthAll (cs.map facD) ≤ 1
  | [] => by simp [PyData.depthAll]
  | c :: cs => by
    have a := depth_fact c
    have b := depth_facts cs
    rw [List.map_cons, PyData.depthAll]
    omega
theorem shaped_fact {c : Str × List Str} (h : Fct c) : SeqAt.shaped (facD c) = true := by
  unfold SeqAt.shaped
  rw [lay_fact h, Bool.true_and]
  exact decide_eq_true (Nat.le_trans (depth_fact c) (by decide))
theorem shaped_facts {cs : List (Str × List Str)} (h : ∀ c ∈ cs, Fct c) : SeqAt.shaped (.list (cs.map facD)) = true := by
  unfold SeqAt.shaped
  rw [PyData.canLay0, lay_facts h, Bool.true_and, PyData.depth]
  have := depth_facts cs
  exact decide_eq_true (by omega)
theorem dp_facts {K : PySem.W.Frag} {H : Hp} : ∀ {Fs : List Pt}, (∀ x ∈ Fs, H x.1 = some (.tup (ptV x))) → DpAll K H (Fs.map fun x => V.ref x.1) ((Fs.map (·.2)).map facD)
  | [], _ => .nil
  | x :: Fs, h => .cons (dp_fact (h x List.mem_cons_self)) (dp_facts fun y hy => h y (List.mem_cons_of_mem _ hy))
theorem any_fact (cs : List (Str × List Str)) (c : Str × List Str) : ((cs.map facD).any fun z => PyData.eqv z (facD c)) = decide (c ∈ cs) := by
  induction cs with
  | nil => rfl
  | cons d cs ih =>
    rw [List.map_cons, List.any_cons, ih, eqv_fact]
    by_cases e : d = c
    · simp [e]
    · have e2 : ¬ c = d := fun h => e h.symm
      simp [e, e2]
def spLFacts : Sp := fun vs H Q _ => ∃ (a p : Addr) (c : Int) (m n : Nat) (π : Pool), vs = [.ref a, .ref p, .int n] ∧ n ≤ 20 ∧ SrcAt H a c (m + 1 + 20 * n) ∧ PoolAt a H p π ∧
  ∀ (t : Addr) (Fs : List Pt) (H' : Hp), H' t = some (.lst (Fs.map fun x => V.ref x.1)) → t ≠ a → (∀ x ∈ Fs, H' x.1 = some (.tup (ptV x)) ∧ x.1 ≠ a ∧ Fct x.2 ∧ ∀ z ∈ x.2.2, z ∈ π.C) → (Fs.map (·.2)).Nodup → Rise (fun x : Pt => facD x.2) Fs → Fs.length ≤ n → SrcAt H' a c m → Keep a H H' → Q (.ref t) H'
section
variable {P : Program} {w : World} {K : PySem.W.Frag} {mg : Str → Option Value} {base : Heap}
theorem op_notInDK {X : Cx} {K : PySem.W.Frag} (e : X.K = K) (hu : X.A.units + 65 < cLine) : OpR X (compareOp .NotIn) (rNotInD K) := by
  subst e
  exact op_notInD hu
abbrev nLFa : List Str := ["_law_source_here", "_law_pool_here", "_law_most", "_law_found", "_law_k", "_law_fact"]
theorem scLFa : FnScope nLFa ["_law_source_here", "_law_pool_here", "_law_most"] (defScope sLFacts) := ⟨rfl, rfl, rfl, by decide +kernel, rfl, by decide +kernel, by decide +kernel⟩
theorem ok_lfacts {f fD fP : Addr} {fd fdD fdP : FuncData} (F : Fun K "_law_facts" "_law_facts" sLFacts f fd)
    (GD : FnOk P w K mg base CX0 1 fD fdD ["_law_source_here", "_law_limit"] spDraw) (kD : PySem.W.keepIn K (.ref fD) = true) (bD : Binds K fdD ["_law_source_here", "_law_limit"] []) (mD : mg "_law_draw" = some (.ref fD))
    (GP : FnOk P w K mg base CX0 3 fP fdP ["_law_source_here", "_law_pool_here", "_law_variables_here", "_law_share"] spPat) (kP : PySem.W.keepIn K (.ref fP) = true) (bP : Binds K fdP ["_law_source_here", "_law_pool_here", "_law_variables_here", "_law_share"] []) (mP : mg "_law_pattern" = some (.ref fP))
    (mr : mg "range" = none) (ms : mg "sorted" = none) : FnOk P w K mg base CX0 4 f fd ["_law_source_here", "_law_pool_here", "_law_most"] spLFacts := by
  refine F.ok scLFa (fun vs H Q E h => ?_) (fun cdv A outer s H vs Q E hr h => ?_)
  · obtain ⟨a, p, c, m, n, π, rfl, _⟩ := h
    rfl
  · obtain ⟨a, p, c, m, n, π, rfl, few, src, hp, k⟩ := h
    have hr1 : Room 1 _ := hr.mono (by decide)
    have hu := hr.units
    have hu5 : (A.deeper (envOfC "_law_facts" (defScope sLFacts) s.heap.objs.size f cdv)).units + 65 < cLine := by have := hr.un; omega
    refine ⟨_, pss_cons (ps_set (i := 3) scLFa.nd rfl (Or.inl rfl) (pe_lst pa_nil))
      (pss_cons (ps_for PassesOwn.never rfl (pi_range1 (by rfl) mr (pa_cons (pe_call GD hr1 (by rfl) mD kD bD .nil pass0 (pa_cons (pv 0) (pa_cons (pe_op op_add (pv 2) pe_int) pa_nil))) pa_nil)) (pg_name (i := 4) scLFa.nd rfl (Or.inl rfl))
        (pss_cons (ps_set (i := 5) scLFa.nd rfl (Or.inl rfl) (pe_call GP hr (by rfl) mP kP bP .nil pass0 (pa_cons (pv 0) (pa_cons (pv 1) (pa_cons (pe_lst pa_nil) (pa_cons pe_int pa_nil))))))
        (pss_one (ps_if (pt_cmpR (op_notInDK (K := K) rfl hu5) (pv 5) (pv 3) (by rfl)) (pss_one (ps_expr (pe_bm PySem.F.plainAttrs_list PySem.F.slot_list_append PySem.F.type_list_append mt_append (pv 3) (pa_cons (pv 5) pa_nil)))) pss_nil))))
      (pss_one (ps_ret (pe_callB (cr_sortD hu) (by rfl) ms (by decide +kernel) (pa_cons (pv 3) pa_nil))))), ?_⟩
    refine ⟨(by show 0 ≤ sizeLine; decide), fun D nD => ?_⟩
    have s0 : Same H (upd H D (.lst [])) := same_new nD
    have hD0 : (upd H D (.lst [])) D = some (.lst []) := upd_same
    have nDa : D ≠ a := src.ne nD
    have src0 : SrcAt (upd H D (.lst [])) a c (m + 20 * n + 1) := (src.same s0).mono (by omega)
    have hp0 := hp.keep (Keep.of (a := a) s0)
    generalize upd H D (.lst []) = H0 at s0 hD0 src0 hp0 ⊢
    refine ⟨_, rfl, _, rfl, _, _, rfl, rfl, ?_⟩
    refine ⟨a, c, _, (n : Int) + 1, rfl, src0, by omega, by omega, fun r H1 r0 r1 src1 k1 => ?_⟩
    obtain ⟨jn, rfl⟩ : ∃ j : Nat, r = j := ⟨r.toNat, by omega⟩
    have hD1 := k1 _ _ hD0 nDa
    refine ⟨_, rfl, by omega, by omega, for_range (lo := 0) (n := jn) (fun i σ H5 => ∃ (v4 v5 : Option V) (Fs : List Pt), σ = [some (.ref a), some (.ref p), some (.int (n : Int)), some (.ref D), v4, v5] ∧ H5 D = some (.lst (Fs.map fun x => V.ref x.1)) ∧ (∀ x ∈ Fs, H5 x.1 = some (.tup (ptV x)) ∧ x.1 ≠ a ∧ x.1 ≠ D ∧ Fct x.2 ∧ ∀ z ∈ x.2.2, z ∈ π.C) ∧ (Fs.map (·.2)).Nodup ∧ Fs.length ≤ i ∧
        SrcAt H5 a c (m + 20 * (n - i)) ∧ Keep a H H5)
      ⟨none, none, [], rfl, hD1, fun x h => (nomatch h), List.nodup_nil, Nat.le_refl _, src1, (Keep.of s0).trans k1⟩ (fun i σ H5 hi pp => ?_) (fun σ H5 pp => ?_)⟩
    · obtain ⟨v4, v5, Fs, rfl, p1, p2, p3, p4, p5, p6⟩ := pp
      refine ⟨_, rfl, _, rfl, (by show 0 ≤ sizeLine; decide), fun L nL => ?_⟩
      have nLa : L ≠ a := p5.ne nL
      have sL : Same H5 (upd H5 L (.lst [])) := same_new nL
      have hL : (upd H5 L (.lst [])) L = some (.lst (([] : List Str).map V.str)) := upd_same
      have src5 : SrcAt (upd H5 L (.lst [])) a c (m + 20 * (n - (i + 1)) + 20) := (p5.same sL).mono (by omega)
      generalize upd H5 L (.lst []) = H6 at sL hL src5 ⊢
      have k6 : Keep a H H6 := p6.trans (Keep.of sL)
      refine ⟨a, p, L, c, _, 0, π, [], rfl, src5, hp.keep k6, ⟨hL, fun z h => (nomatch h), Nat.zero_le _, nLa⟩, fun t T zs H7 pat ht nta src7 k7 => ?_⟩
      have fc : Fct (T, zs) := by
        obtain ⟨y, hy, e1, e2⟩ := pat.tab
        obtain ⟨_, g2, g3, _⟩ := hp.hrow y hy
        exact ⟨by rw [← e1]; exact g2, by rw [show (T, zs).2.length = y.2.2 from e2]; exact g3, fun z hz => (pat.trm z hz).elim (hp.nC z) fun q => nomatch q⟩
      have k07 : Keep a H H7 := k6.trans k7
      have p1' : H7 D = some (.lst (Fs.map fun x => V.ref x.1)) := k7 _ _ (sL _ _ p1) nDa
      have p2' : ∀ x ∈ Fs, H7 x.1 = some (.tup (ptV x)) ∧ x.1 ≠ a ∧ x.1 ≠ D ∧ Fct x.2 ∧ ∀ z ∈ x.2.2, z ∈ π.C := fun x hx => let ⟨g1, g2, g3, g4⟩ := p2 x hx; ⟨k7 _ _ (sL _ _ g1) g2, g2, g3, g4⟩
      have tD : t ≠ D := fun e => by
        rw [e, p1'] at ht
        cases ht
      have fcs : ∀ d ∈ Fs.map (·.2), Fct d := fun d hd => by
        obtain ⟨y, hy, rfl⟩ := List.mem_map.mp hd
        exact (p2' y hy).2.2.2.1
      refine ⟨_, rfl, _, rfl, facD (T, zs), _, dp_fact ht, .lst (SqL.of p1') (dp_facts fun x hx => (p2' x hx).1), shaped_fact fc, shaped_facts fcs, _, rfl, ?_⟩
      rw [any_fact]
      by_cases e : (T, zs) ∈ Fs.map (·.2)
      · rw [decide_eq_true e]
        refine iteF ?_
        exact ⟨_, _, Fs, rfl, p1', p2', p3, by omega, src7, k07⟩
      · rw [decide_eq_false e]
        refine iteT ?_
        have keepD : ∀ (u : HO) b o, b ≠ D → H7 b = some o → (upd H7 D u) b = some o := fun u b o nb h => by
          rw [upd_ne nb]
          exact h
        refine ⟨_, rfl, .inl ⟨rfl, _, SqL.of p1'⟩, _, rfl, D, _, _, rfl, rfl, p1', by rw [List.length_map, sizeLine_eq]; omega, ?_⟩
        refine ⟨_, _, Fs ++ [(t, T, zs)], rfl, by rw [upd_same, List.map_append]; rfl, fun x hx => ?_, ?_, by rw [List.length_append]; show Fs.length + 1 ≤ _; omega, ?_, fun b o h nb => ?_⟩
        · rcases List.mem_append.mp hx with hx | hx
          · obtain ⟨g1, g2, g3, g4⟩ := p2' x hx
            exact ⟨keepD _ _ _ g3 g1, g2, g3, g4⟩
          · rw [List.mem_singleton.mp hx]
            exact ⟨keepD _ _ _ tD ht, nta, tD, fc, fun z hz => (pat.trm z hz).elim id fun q => nomatch q⟩
        · rw [List.map_append, List.nodup_append]
          refine ⟨p3, by simp, fun x hx y hy => ?_⟩
          have e2 : y = (T, zs) := by simpa using hy
          rw [e2]
          exact fun q => e (by rw [← q]; exact hx)
        · obtain ⟨x1, x2, x3, x4⟩ := src7
          exact ⟨x1, x2, keepD _ _ _ nDa.symm x3, x4⟩
        · exact keepD _ _ _ (ne_of_none h nD) (k07 b o h nb)
    · obtain ⟨v4, v5, Fs, rfl, p1, p2, p3, p4, p5, p6⟩ := pp
      have em : (Fs.map fun x => (V.ref x.1, facD x.2)).map Prod.fst = Fs.map fun x => V.ref x.1 := by
        rw [List.map_map]
        rfl
      refine ⟨_, rfl, D, Fs.map fun x => (V.ref x.1, facD x.2), rfl, by rw [em]; exact SqL.of p1, fun x hx => ?_, fun d hd d2 hd2 => ?_, .inr fun d hd => ?_, by rw [List.length_map]; omega, fun x hx => ?_, fun ys l pm rise nl => ?_⟩
      · obtain ⟨y, hy, rfl⟩ := List.mem_map.mp hx
        exact dp_fact (p2 y hy).1
      · rw [List.map_map] at hd hd2
        obtain ⟨y, _, rfl⟩ := List.mem_map.mp hd
        obtain ⟨y2, _, rfl⟩ := List.mem_map.mp hd2
        exact alike_fact _ _
      · rw [List.map_map] at hd
        obtain ⟨y, _, rfl⟩ := List.mem_map.mp hd
        exact ⟨_, rfl⟩
      · obtain ⟨y, _, rfl⟩ := List.mem_map.mp hx
        exact Nat.le_trans (depth_fact _) (by decide)
      · obtain ⟨zs, pz, rfl⟩ := L2.NSet.perm_lift _ pm
        have r2 : Rise (fun x : Pt => facD x.2) zs := List.pairwise_map.mp rise
        have s5 : Same H5 (upd H5 l (.lst ((zs.map fun x => (V.ref x.1, facD x.2)).map Prod.fst))) := same_new nl
        refine k l zs _ (by rw [upd_same, List.map_map]; rfl) (p5.ne nl) (fun x hx => ?_) (((pz.map (·.2)).nodup_iff).mpr p3) r2 (by rw [pz.length_eq]; omega) ((p5.same s5).mono (by omega)) (p6.trans (Keep.of s5))
        obtain ⟨g1, g2, _, g4⟩ := p2 x (pz.mem_iff.mp hx)
        exact ⟨s5 _ _ g1, g2, g4⟩
end
end L2.LawH
set_option Elab.async false
set_option linter.all false
set_option maxRecDepth 100000
set_option maxHeartbeats 4000000
/-! Rows: all ways in which patterns fit facts; no Python here. -/
namespace L2.Rws
open PySem PySem.Spec PyProof.Rows L2.LawH
open L2.TxtDict (Prs2)
/-- a pattern, a fact (its table first) or a row of such -/
abbrev Tm := List Str
structure Ext (kn : Prs2) (μ : Str → Str) : Prop where
  con : ∀ z, isV z = false → μ z = z
  old : ∀ z v, look kn z = some v → μ z = v
/-- a variable that is not known -/
def fr (kn : Prs2) (z : Str) : Bool := isV z && (look kn z).isNone
theorem Ext.fixed {kn : Prs2} {μ ν : Str → Str} (h : Ext kn μ) (h' : Ext kn ν) {z : Str} (e : fr kn z = false) : μ z = ν z := by
  unfold fr at e
  cases hv : isV z with
  | false => rw [h.con z hv, h'.con z hv]
  | true =>
    rw [hv, Bool.true_and] at e
    cases hk : look kn z with
    | none => rw [hk] at e; cases e
    | some v => rw [h.old z v hk, h'.old z v hk]
/-- the test of a fact at one place of a pattern -/
def condAt (kn : Prs2) (P f : Tm) (i : Nat) : Bool := match P[i]? with
  | none => true
  | some z => if i = 0 then true else if isV z = true then (match look kn z with
    | some v => decide (f[i]? = some v)
    | none => if P.idxOf z < i then decide (f[i]? = f[P.idxOf z]?) else true) else decide (f[i]? = some z)
def fitB (kn : Prs2) (P f : Tm) : Bool := (List.range P.length).all fun i => condAt kn P f i
theorem idxOf_at {P : Tm} {i : Nat} {z : Str} (h : P[i]? = some z) : P.idxOf z ≤ i ∧ P[P.idxOf z]? = some z := by
  have hm : z ∈ P := List.mem_of_getElem? h
  have hl : P.idxOf z < P.length := List.idxOf_lt_length_of_mem hm
  refine ⟨?_, by rw [List.getElem?_eq_getElem hl, List.getElem_idxOf hl]⟩
  rcases Nat.lt_or_ge i (P.idxOf z) with lt | ge
  · exfalso
    have hi : i < P.length := by omega
    rw [List.getElem?_eq_getElem hi] at h
    have e : P[i] = z := by injection h
    have := List.not_of_lt_findIdx (p := fun x => x == z) (xs := P) (i := i) lt
    simp [e] at this
  · exact ge
theorem fit_iff {kn : Prs2} {P f : Tm} (hl : f.length = P.length) (h0 : P[0]? = f[0]?) (hT : ∀ z, P[0]? = some z → isV z = false) (hK : ∀ z v, look kn z = some v → isV z = true) : fitB kn P f = true ↔ ∃ μ, Ext kn μ ∧ P.map μ = f := by
  unfold fitB
  rw [List.all_eq_true]
  constructor
  · intro h
    refine ⟨fun z => if isV z = true then (match look kn z with
      | some v => v
      | none => (f[P.idxOf z]?).getD z) else z, ⟨fun z e => by simp [e], fun z v e => ?_⟩, ?_⟩
    · by_cases hv : isV z = true
      · simp [hv, e]
      · exact absurd (hK z v e) hv
    · refine List.ext_getElem? fun i => ?_
      rw [List.getElem?_map]
      cases e : P[i]? with
      | none =>
        rw [List.getElem?_eq_none_iff] at e
        rw [Option.map_none, eq_comm, List.getElem?_eq_none_iff]
        omega
      | some z =>
        have hi : i < P.length := by
          rcases Nat.lt_or_ge i P.length with h | h
          · exact h
          · rw [List.getElem?_eq_none_iff.mpr h] at e
            cases e
        have c := h i (List.mem_range.mpr hi)
        unfold condAt at c
        rw [e] at c
        rw [Option.map_some]
        by_cases z0 : i = 0
        · subst z0
          rw [hT z e, ← h0, e]
          simp
        · simp only [if_neg z0] at c
          by_cases hv : isV z = true
          · simp only [hv, if_true] at c ⊢
            cases hk : look kn z with
            | some v =>
              simp only [hk] at c ⊢
              exact (of_decide_eq_true c).symm
            | none =>
              simp only [hk] at c ⊢
              obtain ⟨g1, g2⟩ := idxOf_at e
              have hf : f[i]? = f[P.idxOf z]? := by
                by_cases lt : P.idxOf z < i
                · rw [if_pos lt] at c
                  exact of_decide_eq_true c
                · rw [show P.idxOf z = i by omega]
              rw [← hf, List.getElem?_eq_getElem (by omega)]
              rfl
          · have hv : isV z = false := by simpa using hv
            simp only [hv] at c ⊢
            simp only [Bool.false_eq_true, if_false] at c ⊢
            exact (of_decide_eq_true c).symm
  · rintro ⟨μ, hμ, rfl⟩ i hi
    unfold condAt
    cases e : P[i]? with
    | none => rfl
    | some z =>
      by_cases z0 : i = 0
      · simp [z0]
      · simp only [if_neg z0]
        by_cases hv : isV z = true
        · simp only [hv, if_true]
          cases hk : look kn z with
          | some v =>
            simp only
            rw [List.getElem?_map, e, Option.map_some, hμ.old z v hk]
            exact decide_eq_true rfl
          | none =>
            simp only
            obtain ⟨g1, g2⟩ := idxOf_at e
            split
            · rw [List.getElem?_map, List.getElem?_map, e, g2]
              exact decide_eq_true rfl
            · rfl
        · have hv : isV z = false := by simpa using hv
          simp only [hv, Bool.false_eq_true, if_false]
          rw [List.getElem?_map, e, Option.map_some, hμ.con z hv]
          exact decide_eq_true rfl
/-! ### rows -/
/-- rows: the ways in which the patterns Ps, whose items together are W, are facts -/
structure RowsAt (kn : Prs2) (G : Tm → Prop) (Ps : List Tm) (rows : List Tm) : Prop where
  nd : rows.Nodup
  mem : ∀ r, r ∈ rows ↔ ∃ μ, Ext kn μ ∧ (∀ P ∈ Ps, G (P.map μ)) ∧ r = Ps.flatten.map μ
theorem RowsAt.len {kn : Prs2} {G : Tm → Prop} {Ps : List Tm} {rows : List Tm} (h : RowsAt kn G Ps rows) : ∀ r ∈ rows, r.length = Ps.flatten.length := fun r m => by
  obtain ⟨μ, _, _, rfl⟩ := (h.mem r).mp m
  rw [List.length_map]
/-- where the free variables stand in a row -/
structure PlcAt (kn : Prs2) (W : Tm) (Pl : List (Str × Nat)) : Prop where
  nd : (Pl.map Prod.fst).Nodup
  at_ : ∀ q ∈ Pl, W[q.2]? = some q.1 ∧ fr kn q.1 = true
  all : ∀ z ∈ W, fr kn z = true → ∃ p, (z, p) ∈ Pl
def lkOk (w : Nat) (ls : List (Nat × Nat)) (x : Tm) : Bool := ls.all fun l => decide (x[w + l.1]? = x[l.2]?)
def prod (rows F : List Tm) : List Tm := rows.flatMap fun r => F.map fun f => r ++ f
def stepR (rows F : List Tm) (ls : List (Nat × Nat)) (w : Nat) : List Tm := (prod rows F).filter (lkOk w ls)
theorem mem_prod {rows F : List Tm} {x : Tm} : x ∈ prod rows F ↔ ∃ r ∈ rows, ∃ f ∈ F, x = r ++ f := by
  unfold prod
  simp only [List.mem_flatMap, List.mem_map]
  constructor
  · rintro ⟨r, hr, f, hf, rfl⟩
    exact ⟨r, hr, f, hf, rfl⟩
  · rintro ⟨r, hr, f, hf, rfl⟩
    exact ⟨r, hr, f, hf, rfl⟩
theorem nd_prod {w : Nat} : ∀ {rows F : List Tm}, rows.Nodup → F.Nodup → (∀ r ∈ rows, r.length = w) → (prod rows F).Nodup
  | [], F, _, _, _ => List.nodup_nil
  | r :: rows, F, h, hF, hl => by
    unfold prod
    rw [List.flatMap_cons, List.nodup_append]
    refine ⟨?_, nd_prod (List.nodup_cons.mp h).2 hF fun x m => hl x (List.mem_cons_of_mem _ m), fun a ma b mb e => ?_⟩
    · exact List.Pairwise.map (fun f => r ++ f) (fun a b ne e => ne (List.append_cancel_left e)) hF
    · subst e
      obtain ⟨f, mf, rfl⟩ := List.mem_map.mp ma
      obtain ⟨r', mr', f', mf', e⟩ := mem_prod.mp mb
      have l1 := hl r List.mem_cons_self
      have l2 := hl r' (List.mem_cons_of_mem _ mr')
      have := (List.append_inj e (by omega)).1
      exact (List.nodup_cons.mp h).1 (this ▸ mr')
/-- a pattern that comes to rows -/
theorem RowsAt.step {kn : Prs2} {G : Tm → Prop} {Ps : List Tm} {rows F : List Tm} {P : Tm} {Pl : List (Str × Nat)} {ls : List (Nat × Nat)} (h : RowsAt kn G Ps rows) (pl : PlcAt kn Ps.flatten Pl) (hF : F.Nodup) (mF : ∀ f, f ∈ F ↔ ∃ μ, Ext kn μ ∧ G (P.map μ) ∧ f = P.map μ)
    (hl : ∀ l, l ∈ ls ↔ ∃ z, P[l.1]? = some z ∧ (z, l.2) ∈ Pl) : RowsAt kn G (Ps ++ [P]) (stepR rows F ls Ps.flatten.length) := by
  refine ⟨(nd_prod h.nd hF h.len).filter _, fun x => ?_⟩
  unfold stepR
  rw [List.mem_filter, mem_prod]
  have ef : (Ps ++ [P]).flatten = Ps.flatten ++ P := by simp
  rw [ef]
  constructor
  · rintro ⟨⟨r, hr, f, hf, rfl⟩, ok⟩
    obtain ⟨μ, hμ, gμ, rfl⟩ := (h.mem r).mp hr
    obtain ⟨ν, hν, gν, rfl⟩ := (mF f).mp hf
    unfold lkOk at ok
    rw [List.all_eq_true] at ok
    -- the two agree where both have a say
    have agree : ∀ z ∈ Ps.flatten, z ∈ P → μ z = ν z := fun z m1 m2 => by
      cases e : fr kn z with
      | false => exact hμ.fixed hν e
      | true =>
        obtain ⟨p, hp⟩ := pl.all z m1 e
        obtain ⟨i, hi, e2⟩ := List.getElem_of_mem m2
        have hi2 : P[i]? = some z := by rw [List.getElem?_eq_getElem hi, e2]
        have := of_decide_eq_true (ok (i, p) ((hl (i, p)).mpr ⟨z, hi2, hp⟩))
        have w1 := (pl.at_ _ hp).1
        have lp : p < Ps.flatten.length := by
          rcases Nat.lt_or_ge p Ps.flatten.length with h | h
          · exact h
          · rw [List.getElem?_eq_none_iff.mpr h] at w1
            cases w1
        rw [List.getElem?_append_right (by rw [List.length_map]; exact Nat.le_add_right _ _), List.length_map, Nat.add_sub_cancel_left, List.getElem?_append_left (by rw [List.length_map]; exact lp), List.getElem?_map, List.getElem?_map, hi2, w1] at this
        simpa using this.symm
    obtain ⟨ρ, eρ⟩ : ∃ ρ : Str → Str, ρ = fun z => if z ∈ Ps.flatten then μ z else ν z := ⟨_, rfl⟩
    have r1 : ∀ z ∈ Ps.flatten, ρ z = μ z := fun z m => by rw [eρ]; simp [m]
    have r2 : ∀ z ∈ P, ρ z = ν z := fun z m => by
      rw [eρ]
      by_cases q : z ∈ Ps.flatten
      · simp only [if_pos q]
        exact agree z q m
      · simp only [if_neg q]
    refine ⟨ρ, ⟨fun z e => ?_, fun z v e => ?_⟩, fun Q mQ => ?_, ?_⟩
    · rw [eρ]
      simp only [hμ.con z e, hν.con z e, ite_self]
    · rw [eρ]
      simp only [hμ.old z v e, hν.old z v e, ite_self]
    · rcases List.mem_append.mp mQ with mQ | mQ
      · rw [List.map_congr_left fun z m => r1 z (List.mem_flatten_of_mem mQ m)]
        exact gμ Q mQ
      · rw [List.mem_singleton.mp mQ, List.map_congr_left r2]
        exact gν
    · rw [List.map_append, List.map_congr_left r1, List.map_congr_left r2]
  · rintro ⟨μ, hμ, gμ, rfl⟩
    refine ⟨⟨Ps.flatten.map μ, (h.mem _).mpr ⟨μ, hμ, fun Q m => gμ Q (List.mem_append_left _ m), rfl⟩, P.map μ, (mF _).mpr ⟨μ, hμ, gμ P (List.mem_append_right _ List.mem_cons_self), rfl⟩, by rw [List.map_append]⟩, ?_⟩
    unfold lkOk
    rw [List.all_eq_true]
    intro l ml
    obtain ⟨z, e1, e2⟩ := (hl l).mp ml
    have w1 := (pl.at_ _ e2).1
    have lp : l.2 < Ps.flatten.length := by
      rcases Nat.lt_or_ge l.2 Ps.flatten.length with h | h
      · exact h
      · rw [List.getElem?_eq_none_iff.mpr h] at w1
        cases w1
    rw [List.getElem?_map, List.getElem?_map, List.getElem?_append_right (Nat.le_add_right _ _), Nat.add_sub_cancel_left, List.getElem?_append_left lp, e1, w1]
    exact decide_eq_true rfl
/-- the first pattern -/
theorem RowsAt.first {kn : Prs2} {G : Tm → Prop} {F : List Tm} {P : Tm} (hF : F.Nodup) (mF : ∀ f, f ∈ F ↔ ∃ μ, Ext kn μ ∧ G (P.map μ) ∧ f = P.map μ) : RowsAt kn G [P] F := by
  refine ⟨hF, fun x => ?_⟩
  rw [mF]
  simp
/-! ### how many -/
def sigs (opts : Str → List Str) : List Str → List Tm
  | [] => [[]]
  | v :: vs => (opts v).flatMap fun c => (sigs opts vs).map (c :: ·)
theorem mem_sigs {opts : Str → List Str} {val : Str → Str} : ∀ {vs : List Str}, (∀ v ∈ vs, val v ∈ opts v) → vs.map val ∈ sigs opts vs
  | [], _ => List.mem_cons_self
  | v :: vs, h => List.mem_flatMap.mpr ⟨val v, h v List.mem_cons_self, List.mem_map.mpr ⟨_, mem_sigs fun u m => h u (List.mem_cons_of_mem _ m), rfl⟩⟩
theorem len_flat {α β : Type} {g : α → List β} {n : Nat} : ∀ {l : List α}, (∀ x ∈ l, (g x).length = n) → (l.flatMap g).length = l.length * n
  | [], _ => by simp
  | x :: l, h => by
    rw [List.flatMap_cons, List.length_append, h x List.mem_cons_self, len_flat fun y m => h y (List.mem_cons_of_mem _ m), List.length_cons, Nat.succ_mul]
    omega
theorem len_sigs {opts : Str → List Str} (h : ∀ v, (opts v).length ≤ 4) : ∀ vs : List Str, (sigs opts vs).length ≤ 4 ^ vs.length
  | [] => Nat.le_refl _
  | v :: vs => by
    show ((opts v).flatMap _).length ≤ _
    rw [len_flat (n := (sigs opts vs).length) fun c _ => List.length_map _, List.length_cons, Nat.pow_succ, Nat.mul_comm]
    exact Nat.mul_le_mul (len_sigs h vs) (h v)
theorem len_sigs1 {opts : Str → List Str} (h : ∀ v, (opts v).length ≤ 4) {z : Str} (hz : (opts z).length ≤ 1) : ∀ {vs : List Str}, z ∈ vs → 4 * (sigs opts vs).length ≤ 4 ^ vs.length
  | v :: vs, m => by
    show 4 * ((opts v).flatMap _).length ≤ _
    rw [len_flat (n := (sigs opts vs).length) fun c _ => List.length_map _, List.length_cons, Nat.pow_succ]
    rcases List.mem_cons.mp m with rfl | m
    · have := len_sigs h vs
      have := Nat.mul_le_mul hz (Nat.le_refl (sigs opts vs).length)
      omega
    · have := len_sigs1 h hz m
      have := Nat.mul_le_mul (h v) this
      have e : (opts v).length * (4 * (sigs opts vs).length) = 4 * ((opts v).length * (sigs opts vs).length) := by
        rw [Nat.mul_left_comm]
      omega
theorem nodup_len {α : Type} [DecidableEq α] : ∀ {l m : List α}, l.Nodup → (∀ x ∈ l, x ∈ m) → l.length ≤ m.length
  | [], m, _, _ => Nat.zero_le _
  | x :: l, m, h, s => by
    have hx := s x List.mem_cons_self
    have := nodup_len (l := l) (m := m.erase x) (List.nodup_cons.mp h).2 fun y my => (List.mem_erase_of_ne (fun e : y = x => (List.nodup_cons.mp h).1 (by rw [← e]; exact my))).mpr (s y (List.mem_cons_of_mem _ my))
    rw [List.length_erase_of_mem hx] at this
    have : 0 < m.length := List.length_pos_of_mem hx
    rw [List.length_cons]
    omega
/-- what rows are over: three variables, four constants -/
structure Small (kn : Prs2) (G : Tm → Prop) (vs cs : List Str) : Prop where
  v3 : vs.length ≤ 3
  c4 : cs.length ≤ 4
  con : ∀ f, G f → ∀ z ∈ f.tail, z ∈ cs
theorem rows_sig {kn : Prs2} {vs : List Str} {Ps : List Tm} {opts : Str → List Str} {l : List Tm} (nd : l.Nodup) (hv : ∀ P ∈ Ps, ∀ z ∈ P, fr kn z = true → z ∈ vs)
    (hm : ∀ r ∈ l, ∃ μ, Ext kn μ ∧ r = Ps.flatten.map μ ∧ ∀ v ∈ vs, v ∈ Ps.flatten → μ v ∈ opts v) (he : ∀ v ∈ vs, v ∉ Ps.flatten → Str.empty ∈ opts v) : l.length ≤ (sigs opts vs).length := by
  let sg : Tm → Tm := fun r => vs.map fun v => (r[Ps.flatten.idxOf v]?).getD Str.empty
  have val : ∀ {μ : Str → Str} {v : Str}, v ∈ Ps.flatten → ((Ps.flatten.map μ)[Ps.flatten.idxOf v]?).getD Str.empty = μ v := fun {μ v} m => by
    have hl := List.idxOf_lt_length_of_mem m
    rw [List.getElem?_map, List.getElem?_eq_getElem hl, List.getElem_idxOf hl]
    rfl
  have inj : ∀ r ∈ l, ∀ r' ∈ l, sg r = sg r' → r = r' := fun r m r' m' e => by
    obtain ⟨μ, hμ, rfl, _⟩ := hm r m
    obtain ⟨ν, hν, rfl, _⟩ := hm r' m'
    refine List.map_congr_left fun z mz => ?_
    cases f : fr kn z with
    | false => exact hμ.fixed hν f
    | true =>
      obtain ⟨P, mP, mz2⟩ := List.mem_flatten.mp mz
      have := List.map_inj_left.mp e z (hv P mP z mz2 f)
      rw [val mz, val mz] at this
      exact this
  have nd2 : (l.map sg).Nodup := by
    refine List.Pairwise.map sg (R := fun a b => a ∈ l ∧ b ∈ l ∧ a ≠ b) (fun a b h e => h.2.2 (inj a h.1 b h.2.1 e)) ?_
    exact List.Pairwise.imp_of_mem (fun {a b} ma mb ne => ⟨ma, mb, ne⟩) nd
  have := nodup_len nd2 (m := sigs opts vs) fun x mx => by
    obtain ⟨r, mr, rfl⟩ := List.mem_map.mp mx
    obtain ⟨μ, hμ, rfl, ho⟩ := hm r mr
    refine mem_sigs fun v mv => ?_
    by_cases q : v ∈ Ps.flatten
    · rw [val q]
      exact ho v mv q
    · rw [List.idxOf_eq_length q, List.getElem?_eq_none_iff.mpr (by rw [List.length_map]; exact Nat.le_refl _)]
      exact he v mv q
  rwa [List.length_map] at this
/-- rows over free variables: what stands in them -/
theorem Small.at_ {kn : Prs2} {G : Tm → Prop} {vs cs : List Str} (S : Small kn G vs cs) {Ps : List Tm} {μ : Str → Str} (gμ : ∀ P ∈ Ps, G (P.map μ)) (h0 : ∀ P ∈ Ps, ∀ z, P[0]? = some z → isV z = false) {v : Str} (m : v ∈ Ps.flatten) (e : fr kn v = true) : μ v ∈ cs := by
  obtain ⟨P, mP, mv⟩ := List.mem_flatten.mp m
  cases P with
  | nil => cases mv
  | cons T ts =>
    rcases List.mem_cons.mp mv with rfl | mv
    · unfold fr at e
      rw [h0 _ mP v rfl] at e
      cases e
    · refine S.con _ (gμ _ mP) _ ?_
      rw [List.map_cons, List.tail_cons]
      exact List.mem_map_of_mem mv
theorem rows_few {kn : Prs2} {G : Tm → Prop} {vs cs : List Str} (S : Small kn G vs cs) {Ps rows : List Tm} (h : RowsAt kn G Ps rows) (h0 : ∀ P ∈ Ps, ∀ z, P[0]? = some z → isV z = false)
    (hv : ∀ P ∈ Ps, ∀ z ∈ P, fr kn z = true → z ∈ vs) : rows.length ≤ 64 := by
  refine Nat.le_trans (rows_sig (vs := vs.filter (fr kn)) (opts := fun v => if v ∈ Ps.flatten then cs else [Str.empty]) h.nd (fun P m z mz e => List.mem_filter.mpr ⟨hv P m z mz e, e⟩) (fun r m => ?_) fun v m q => by simp [q])
    (Nat.le_trans (len_sigs (fun v => ?_) _) (Nat.pow_le_pow_right (by decide) (Nat.le_trans (List.length_filter_le _ _) S.v3)))
  · obtain ⟨μ, hμ, gμ, e⟩ := (h.mem r).mp m
    exact ⟨μ, hμ, e, fun v mv q => by rw [if_pos q]; exact S.at_ gμ h0 q (List.mem_filter.mp mv).2⟩
  · split
    · exact S.c4
    · exact (by decide : 1 ≤ 4)
/-- rows with one value fixed -/
theorem rows_fixed {kn : Prs2} {G : Tm → Prop} {vs cs : List Str} (S : Small kn G vs cs) {Ps rows : List Tm} (h : RowsAt kn G Ps rows) (h0 : ∀ P ∈ Ps, ∀ z, P[0]? = some z → isV z = false)
    (hv : ∀ P ∈ Ps, ∀ z ∈ P, fr kn z = true → z ∈ vs) {z : Str} {p : Nat} (hz : Ps.flatten[p]? = some z) (fz : fr kn z = true) (c : Option Str) : (rows.filter fun r => decide (c = r[p]?)).length ≤ 16 := by
  have mz : z ∈ Ps.flatten := List.mem_of_getElem? hz
  have mv : z ∈ vs.filter (fr kn) := by
    obtain ⟨P, mP, m⟩ := List.mem_flatten.mp mz
    exact List.mem_filter.mpr ⟨hv P mP z m fz, fz⟩
  have key := rows_sig (l := rows.filter fun r => decide (c = r[p]?)) (vs := vs.filter (fr kn)) (kn := kn) (Ps := Ps) (opts := fun v => if v = z then [c.getD Str.empty] else if v ∈ Ps.flatten then cs else [Str.empty]) (h.nd.filter _) (fun P m y my e => List.mem_filter.mpr ⟨hv P m y my e, e⟩) (fun r m => ?_) fun v m q => by
    by_cases e : v = z
    · exact absurd (e ▸ mz) q
    · simp [e, q]
  · have := len_sigs1 (opts := fun v => if v = z then [c.getD Str.empty] else if v ∈ Ps.flatten then cs else [Str.empty]) (fun v => by
      split
      · exact (by decide : 1 ≤ 4)
      · split
        · exact S.c4
        · exact (by decide : 1 ≤ 4)) (z := z) (by simp) mv
    have l3 : 4 ^ (vs.filter (fr kn)).length ≤ 4 ^ 3 := Nat.pow_le_pow_right (by decide) (Nat.le_trans (List.length_filter_le _ _) S.v3)
    have e64 : 4 ^ 3 = 64 := by decide
    omega
  · obtain ⟨m, ec⟩ := List.mem_filter.mp m
    obtain ⟨μ, hμ, gμ, rfl⟩ := (h.mem r).mp m
    have ec := of_decide_eq_true ec
    rw [List.getElem?_map, hz] at ec
    refine ⟨μ, hμ, rfl, fun v mv q => ?_⟩
    by_cases e : v = z
    · subst e
      rw [if_pos rfl, ec]
      exact List.mem_singleton.mpr rfl
    · rw [if_neg e, if_pos q]
      exact S.at_ gμ h0 q (List.mem_filter.mp mv).2
/-- the number of pairs that agree at one place -/
def pairs1 (rows F : List Tm) (at_ pl : Nat) : List Tm := rows.flatMap fun r => (F.filter fun f => decide (f[at_]? = r[pl]?)).map fun f => r ++ f
theorem pairs_len (rows : List Tm) (at_ pl : Nat) : ∀ F : List Tm, (∀ c : Option Str, (rows.filter fun r => decide (c = r[pl]?)).length ≤ 16) → (pairs1 rows F at_ pl).length ≤ 16 * F.length := by
  have sum_len : ∀ (F rows : List Tm), (pairs1 rows F at_ pl).length = (rows.map fun r => (F.filter fun f => decide (f[at_]? = r[pl]?)).length).sum := fun F rows => by
    unfold pairs1
    induction rows with
    | nil => rfl
    | cons r rows ih => rw [List.flatMap_cons, List.length_append, ih, List.length_map, List.map_cons, List.sum_cons]
  intro F h
  rw [sum_len]
  induction F with
  | nil =>
    have : ∀ rows : List Tm, (rows.map fun r => (([] : List Tm).filter fun f => decide (f[at_]? = r[pl]?)).length).sum = 0 := fun rows => by
      induction rows with
      | nil => rfl
      | cons r rows ih => rw [List.map_cons, List.sum_cons, ih]; rfl
    rw [this]
    exact Nat.zero_le _
  | cons f F ih =>
    have one : ∀ rows : List Tm, (rows.map fun r => ((f :: F).filter fun f => decide (f[at_]? = r[pl]?)).length).sum = (rows.filter fun r => decide (f[at_]? = r[pl]?)).length + (rows.map fun r => (F.filter fun f => decide (f[at_]? = r[pl]?)).length).sum := fun rows => by
      induction rows with
      | nil => rfl
      | cons r rows ih =>
        rw [List.map_cons, List.sum_cons, ih, List.map_cons, List.sum_cons, List.filter_cons, List.filter_cons]
        by_cases e : f[at_]? = r[pl]?
        · simp only [e, decide_true, if_true, List.length_cons]
          omega
        · simp only [e, decide_false, Bool.false_eq_true, if_false]
          omega
    rw [one]
    have := h f[at_]?
    rw [List.length_cons]
    omega
theorem filter_prod1 {F : List Tm} {at_ pl w : Nat} : ∀ {rows : List Tm}, (∀ r ∈ rows, r.length = w) → pl < w → pairs1 rows F at_ pl = (prod rows F).filter fun x => decide (x[w + at_]? = x[pl]?)
  | [], _, _ => rfl
  | r :: rows, h, hp => by
    have lr := h r List.mem_cons_self
    show _ ++ pairs1 rows F at_ pl = (_ ++ prod rows F).filter _
    rw [List.filter_append, ← filter_prod1 (fun x m => h x (List.mem_cons_of_mem _ m)) hp, List.filter_map]
    refine congrArg (· ++ _) (congrArg (List.map fun f => r ++ f) (List.filter_congr fun f _ => ?_))
    show _ = decide ((r ++ f)[w + at_]? = (r ++ f)[pl]?)
    rw [List.getElem?_append_right (by omega), List.getElem?_append_left (by omega), lr, Nat.add_sub_cancel_left]
theorem stepR_nil (rows F : List Tm) (w : Nat) : stepR rows F [] w = prod rows F := by
  unfold stepR
  exact List.filter_eq_self.mpr fun _ _ => rfl
theorem stepR_cons {rows F : List Tm} {a p w : Nat} (ls : List (Nat × Nat)) (h : ∀ r ∈ rows, r.length = w) (hp : p < w) : stepR rows F ((a, p) :: ls) w = (pairs1 rows F a p).filter (lkOk w ls) := by
  rw [filter_prod1 h hp, List.filter_filter]
  unfold stepR
  refine List.filter_congr fun x _ => ?_
  unfold lkOk
  rw [List.all_cons, Bool.and_comm]
theorem lkOk_snoc {w : Nat} {ls : List (Nat × Nat)} {l : Nat × Nat} {x : Tm} : lkOk w (ls ++ [l]) x = (lkOk w ls x && decide (x[w + l.1]? = x[l.2]?)) := by
  unfold lkOk
  rw [List.all_append]
  simp
end L2.Rws
set_option Elab.async false
set_option linter.all false
set_option maxRecDepth 100000
set_option maxHeartbeats 4000000
/-! d.setdefault(tuple, x); by_shape. -/
namespace L2.SetT
open PySem PySem.Spec PyProof.Rows
section
variable {X : Cx} {pins : List (Addr × Obj)} {σ : St} {H : Hp} {s : Shared} {a b : Addr} {r : Value} {d : V} {k : List Key} {A : Around} {E : Value → Shared → Prop}
theorem d_setdT {kvs : List (List Key × V)} {Q : Value → Shared → Prop} (hu : A.units + 1 < cLine) (I : Inv X pins σ H s) (e : H a = some (.dT kvs)) (eb : H b = some (.tup (k.map kV))) (rd : RelV d r) (hl : kvs.length < sizeLine)
    (h1 : ∀ v, valV kvs k = some v → ∀ (w' : Value) (s' : Shared), Inv X pins σ H s' → RelV v w' → Q w' s') (h2 : valV kvs k = none → ∀ (w' : Value) (s' : Shared), Inv X pins σ (upd H a (.dT (putK kvs k d))) s' → RelV d w' → Q w' s') :
    wpAny (model X.prog X.w) A (call (.builtin "dict.setdefault") [.ref a, .ref b, r]) Q E s := by
  obtain ⟨z, hd, xs, rel, dd⟩ := dt_of I.hok e
  have hz : xs.length ≤ sizeLine := by rw [← Paired.length rel]; exact z
  refine call_meetsIn PySem.F.slot_dict_setdefault dd.typeIs PySem.F.entry_dict_setdefault (PySem.F.args_dict_setdefault_3 _ _ _) (meetsH_dict_setdefault (tupleKind (mixKind X.prog X.w)) a b hd r)
    ⟨tupleKind_room_in1 hu, k, xs, key_of I.hok eb, dd, hz, fun p hp => ?_, fun hn h' dd' hs => ?_⟩
  · have q := rel.val k
    rw [hp] at q
    cases q0 : valV kvs k with
    | none =>
      rw [q0] at q
      exact (show False from q).elim
    | some v0 =>
      rw [q0] at q
      exact h1 v0 q0 _ _ (I.tok _) q
  · have q := rel.val k
    rw [hn] at q
    cases q0 : valV kvs k with
    | some v0 =>
      rw [q0] at q
      exact (show False from q).elim
    | none =>
      have hl2 : (putK kvs k d).length ≤ sizeLine := by
        have := length_putK kvs k d
        omega
      obtain ⟨q, es, ep, hq, h2', h3, h4, _, h5⟩ := dd'
      refine h2 q0 _ _ (d_write I (by rw [e]; exact True.intro) hs ⟨q, hq⟩ ⟨hl2, hd, _, (rel.put k eb rd).keeps fun c ys ec => ?_, q, es, ep, hq, h2', h3, h4, h5⟩) rd
      rw [upd_ne (ne_of ec e (fun z => nomatch z))]
      exact ec
end
/-- d.setdefault(tuple, z) -/
def tDSetdT (td ty tx : TE) : TE := fun σ H Q => td σ H fun x H1 => ∃ a, x = .ref a ∧ IsD H1 a ∧ ty σ H1 fun y H2 => tx σ H2 fun z H3 => ∃ (kvs : List (List Key × V)) (k : List Key) (b : Addr), H3 a = some (.dT kvs) ∧ y = .ref b ∧ H3 b = some (.tup (k.map kV)) ∧ kvs.length < sizeLine ∧
  (∀ v, valV kvs k = some v → Q v H3) ∧ (valV kvs k = none → Q z (upd H3 a (.dT (putK kvs k z))))
section
variable {X : Cx} {o e f : Expr} {td ty tx : TE} {apos cpos : Pos}
theorem pe_dsetdT (hu : X.A.units + 1 < cLine) (ho : PE X o td) (he : PE X e ty) (hf : PE X f tx) (m : M2 X o "setdefault" apos e f cpos) : PE X (.Call (.Attribute o "setdefault" apos) [e, f] [] cpos) (tDSetdT td ty tx) := by
  refine ⟨fun pins s σ H Q I h => ?_⟩
  refine wpAny_Call_method m.base m.few m.line PySem.F.plainAttrs_dict PySem.F.slot_dict_setdefault PySem.F.type_dict_setdefault (thn (ho.run pins s σ H _ I h) fun u s1 ⟨x, H1, I1, rx, a, ex, d, q1⟩ => ?_)
  subst ex
  obtain rfl : u = Value.ref a := rx
  obtain ⟨t1, t2, _⟩ := isD_at I1 d
  refine ⟨t1, t2, ?_⟩
  rw [m.trees]
  refine Calls.callWith_builtin rfl (Calls.evalArgs_plain (Calls.spliced_cons (thn (he.run pins s1 σ H1 _ I1 q1) fun iv s2 ⟨y, H2, I2, ry, q2⟩ =>
    Calls.spliced_cons (thn (hf.run pins s2 σ H2 _ I2 q2) fun fv s3 ⟨z, H3, I3, rz, kvs, k, b, ea, ey, eb, hl, q3, q4⟩ => Calls.spliced_nil ?_))))
  subst ey
  cases ry
  exact d_setdT hu I3 ea eb rz hl (fun v hv w' s4 I4 rw' => ⟨v, _, I4, rw', q3 v hv⟩) fun hn w' s4 I4 rw' => ⟨z, _, I4, rw', q4 hn⟩
end
end L2.SetT
namespace L2.Rws
open PySem PySem.Spec PyProof.Rows L2.LawH L2.SetT
open L2.TxtDict (Prs2)
/-- a pattern, a fact or a row where it stands -/
abbrev Tx := Addr × Tm
def TxsAt (H : Hp) (xs : List Tx) : Prop := ∀ x ∈ xs, H x.1 = some (.tup (x.2.map V.str))
theorem TxsAt.same {H H' : Hp} {xs : List Tx} (h : TxsAt H xs) (s : Same H H') : TxsAt H' xs := fun x m => s _ _ (h x m)
abbrev refs (xs : List Tx) : List V := xs.map fun x => V.ref x.1
abbrev Shp := Str × Nat
def shp (f : Tm) : Shp := (f.headD Str.empty, f.length)
def shK (k : Shp) : List Key := [Sum.inr k.1, Sum.inl (k.2 : Int)]
theorem shK_inj {a b : Shp} (h : shK a = shK b) : a = b := by
  unfold shK at h
  injection h with h1 h2
  injection h2 with h2 _
  injection h1 with h1
  injection h2 with h2
  exact Prod.ext h1 (by omega)
abbrev Grp := Shp × Addr
def kvG (gs : List Grp) : List (List Key × V) := gs.map fun g => (shK g.1, V.ref g.2)
theorem val_kvG : ∀ (gs : List Grp) (k : Shp), valV (kvG gs) (shK k) = (gs.find? fun g => decide (g.1 = k)).map fun g => V.ref g.2
  | [], _ => rfl
  | g :: gs, k => by
    rw [List.find?_cons]
    by_cases e : g.1 = k
    · rw [show kvG (g :: gs) = (shK g.1, V.ref g.2) :: kvG gs from rfl, valV_pos (by rw [e]), decide_eq_true e]
      rfl
    · rw [show kvG (g :: gs) = (shK g.1, V.ref g.2) :: kvG gs from rfl, valV_neg (fun z => e (shK_inj z)), decide_eq_false e]
      exact val_kvG gs k
theorem put_kvG {gs : List Grp} {k : Shp} {l : Addr} (h : gs.find? (fun g => decide (g.1 = k)) = none) : putK (kvG gs) (shK k) (V.ref l) = kvG (gs ++ [(k, l)]) := by
  unfold putK
  rw [if_neg]
  · unfold kvG
    rw [List.map_append]
    rfl
  · rw [valV_any, val_kvG, h]
    simp
def ofShp (k : Shp) (x : Tx) : Bool := decide (shp x.2 = k)
/-- groups, as they stand -/
structure GrpAt (H : Hp) (d : Addr) (xs : List Tx) (gs : List Grp) : Prop where
  at_ : H d = some (.dT (kvG gs))
  each : ∀ g ∈ gs, H g.2 = some (.lst (refs (xs.filter (ofShp g.1))))
  all : ∀ x ∈ xs, shp x.2 ∈ gs.map (·.1)
  nd : (gs.map (·.1)).Nodup
theorem GrpAt.same {H H' : Hp} {d : Addr} {xs : List Tx} {gs : List Grp} (h : GrpAt H d xs gs) (s : Same H H') : GrpAt H' d xs gs := ⟨s _ _ h.at_, fun g m => s _ _ (h.each g m), h.all, h.nd⟩
/-- what the groups tell of a shape -/
theorem GrpAt.get {H : Hp} {d : Addr} {xs : List Tx} {gs : List Grp} (h : GrpAt H d xs gs) (k : Shp) : (valV (kvG gs) (shK k) = none ∧ xs.filter (ofShp k) = []) ∨ ∃ l, valV (kvG gs) (shK k) = some (.ref l) ∧ H l = some (.lst (refs (xs.filter (ofShp k)))) ∧ l ∈ gs.map (·.2) := by
  rw [val_kvG]
  cases e : gs.find? fun g => decide (g.1 = k) with
  | none =>
    refine .inl ⟨rfl, List.filter_eq_nil_iff.mpr fun x m q => ?_⟩
    obtain ⟨g, mg, eg⟩ := List.mem_map.mp (h.all x m)
    have := List.find?_eq_none.mp e g mg
    exact this (decide_eq_true (eg.trans (of_decide_eq_true q)))
  | some g =>
    have e1 := List.find?_some e
    have e2 : g.1 = k := of_decide_eq_true e1
    exact .inr ⟨g.2, rfl, e2 ▸ h.each g (List.mem_of_find?_eq_some e), List.mem_map_of_mem (List.mem_of_find?_eq_some e)⟩
theorem refs_snoc (ys : List Tx) (x : Tx) : refs (ys ++ [x]) = refs ys ++ [V.ref x.1] := by
  unfold refs
  rw [List.map_append]
  rfl
theorem refs_snoc_f (a b : List Tx) : refs (a ++ b) = refs a ++ refs b := by
  unfold refs
  exact List.map_append
theorem key_one {gs : List Grp} (nd : (gs.map (·.1)).Nodup) {g g' : Grp} (m : g ∈ gs) (m' : g' ∈ gs) (e : g.1 = g'.1) : g = g' := by
  induction gs with
  | nil => cases m
  | cons a r ih =>
    rw [List.map_cons, List.nodup_cons] at nd
    rcases List.mem_cons.mp m with rfl | m2
    · rcases List.mem_cons.mp m' with rfl | m3
      · rfl
      · exact absurd (List.mem_map.mpr ⟨g', m3, e.symm⟩) nd.1
    · rcases List.mem_cons.mp m' with rfl | m3
      · exact absurd (List.mem_map_of_mem (f := Prod.fst) m2) (by rw [e]; exact nd.1)
      · exact ih nd.2 m2 m3
theorem adr_one {gs : List Grp} (nd : (gs.map (·.2)).Nodup) {g g' : Grp} (m : g ∈ gs) (m' : g' ∈ gs) (e : g.2 = g'.2) : g = g' := by
  induction gs with
  | nil => cases m
  | cons a r ih =>
    rw [List.map_cons, List.nodup_cons] at nd
    rcases List.mem_cons.mp m with rfl | m2
    · rcases List.mem_cons.mp m' with rfl | m3
      · rfl
      · exact absurd (List.mem_map.mpr ⟨g', m3, e.symm⟩) nd.1
    · rcases List.mem_cons.mp m' with rfl | m3
      · exact absurd (List.mem_map_of_mem (f := Prod.snd) m2) (by rw [e]; exact nd.1)
      · exact ih nd.2 m2 m3
theorem grp_old {H : Hp} {d : Addr} {ys : List Tx} {gs : List Grp} {x : Tx} {g : Grp} (h : GrpAt H d ys gs) (nda : (gs.map (·.2)).Nodup) (m : g ∈ gs) (eg : g.1 = shp x.2) :
    GrpAt (upd H g.2 (.lst (refs (ys.filter (ofShp g.1)) ++ [.ref x.1]))) d (ys ++ [x]) gs := by
  refine ⟨?_, fun g' m' => ?_, fun y my => ?_, h.nd⟩
  · rw [upd_ne]
    · exact h.at_
    · intro e
      have := h.each g m
      rw [← e, h.at_] at this
      cases this
  · rw [List.filter_append, refs_snoc_f]
    by_cases e : g'.2 = g.2
    · have := adr_one nda m' m e
      subst this
      rw [upd_same, List.filter_cons, if_pos (show ofShp g'.1 x = true from decide_eq_true eg.symm)]
      rfl
    · rw [upd_ne e, h.each g' m', List.filter_cons, if_neg]
      · simp [refs]
      · intro q
        have : g'.1 = g.1 := (of_decide_eq_true q).symm.trans eg.symm
        exact e (by rw [key_one h.nd m' m this])
  · rcases List.mem_append.mp my with my | my
    · exact h.all y my
    · rw [List.mem_singleton.mp my, ← eg]
      exact List.mem_map_of_mem m
theorem grp_new {H : Hp} {d l : Addr} {ys : List Tx} {gs : List Grp} {x : Tx} (h : GrpAt H d ys gs) (no : gs.find? (fun g => decide (g.1 = shp x.2)) = none) (hl : ∀ g ∈ gs, g.2 ≠ l) (ld : l ≠ d) :
    GrpAt (upd (upd H d (.dT (kvG (gs ++ [(shp x.2, l)])))) l (.lst ([] ++ [.ref x.1]))) d (ys ++ [x]) (gs ++ [(shp x.2, l)]) := by
  have nok : ∀ g ∈ gs, g.1 ≠ shp x.2 := fun g m e => List.find?_eq_none.mp no g m (decide_eq_true e)
  refine ⟨?_, fun g' m' => ?_, fun y my => ?_, ?_⟩
  · rw [upd_ne ld.symm, upd_same]
  · rw [List.filter_append, refs_snoc_f]
    rcases List.mem_append.mp m' with m' | m'
    · have gd : g'.2 ≠ d := fun e => by
        have := h.each g' m'
        rw [e, h.at_] at this
        cases this
      rw [upd_ne (hl g' m'), upd_ne gd, h.each g' m', List.filter_cons, if_neg]
      · simp [refs]
      · intro q
        exact nok g' m' (of_decide_eq_true q).symm
    · rw [List.mem_singleton.mp m', upd_same]
      have e0 : ys.filter (ofShp (shp x.2)) = [] := List.filter_eq_nil_iff.mpr fun y my q => by
        obtain ⟨g, mg, eg⟩ := List.mem_map.mp (h.all y my)
        exact nok g mg (eg.trans (of_decide_eq_true q))
      rw [show ((shp x.2, l) : Grp).1 = shp x.2 from rfl, e0, List.filter_cons, if_pos (show ofShp (shp x.2) x = true from decide_eq_true rfl)]
      rfl
  · rw [List.map_append]
    rcases List.mem_append.mp my with my | my
    · exact List.mem_append_left _ (h.all y my)
    · rw [List.mem_singleton.mp my]
      exact List.mem_append_right _ List.mem_cons_self
  · rw [List.map_append, List.nodup_append]
    refine ⟨h.nd, by simp, fun a ma b mb e => ?_⟩
    obtain ⟨g, mg, rfl⟩ := List.mem_map.mp ma
    have : b = shp x.2 := by simpa using mb
    exact nok g mg (e.trans this)
/-- a for over a list or a tuple that stood before -/
theorem for_seqB {K : PySem.W.Frag} {q : Addr} {xs : List V} {g : TG} {tb : TS} {D : Ends} {σ : St} {Hb H : Hp} (hq : Hb q = some (.lst xs) ∨ Hb q = some (.tup xs)) (Pv : Nat → St → Hp → Prop) (h0 : Pv 0 σ H) (st : ∀ i σ H', Pv i σ H' → Same Hb H')
    (hs : ∀ i x σ H', xs[i]? = some x → Pv i σ H' → g x σ H' fun σ2 H2 => tb { D with nx := Pv (i + 1), ct := Pv (i + 1), bk := D.nx } σ2 H2) (hd : ∀ σ H, Pv xs.length σ H → D.nx σ H) :
    ((∃ xs, SqL K H q xs) ∧ ∃ W : Nat → Nat → St → Hp → Prop, (∃ m, W 0 m σ H) ∧ ∀ i m σ H, W i m σ H →
      ((Itl K q).stop i H ∧ D.nx σ H) ∨ ((Itl K q).go i H ∧ ∃ N : St → Hp → Prop, (∀ σ' H', N σ' H' → ∃ m', m' < m ∧ W (i + 1) m' σ' H') ∧ ∀ x H', (Itl K q).yld i H x H' → g x σ H' fun σ2 H2 => tb { D with nx := N, ct := N, bk := D.nx } σ2 H2)) ∨
    ((∃ xs, SqT K H q xs) ∧ ∃ W : Nat → Nat → St → Hp → Prop, (∃ m, W 0 m σ H) ∧ ∀ i m σ H, W i m σ H →
      ((Itt K q).stop i H ∧ D.nx σ H) ∨ ((Itt K q).go i H ∧ ∃ N : St → Hp → Prop, (∀ σ' H', N σ' H' → ∃ m', m' < m ∧ W (i + 1) m' σ' H') ∧ ∀ x H', (Itt K q).yld i H x H' → g x σ H' fun σ2 H2 => tb { D with nx := N, ct := N, bk := D.nx } σ2 H2)) :=
  hq.elim
    (fun e => .inl ⟨⟨_, SqL.of (st _ _ _ h0 _ _ e)⟩, for_it (L2.walk_list (K := K)) Pv h0 (fun i σ H' _ p => SqL.of (st i σ H' p _ _ e)) (fun i x σ H' H'' _ p y => by obtain ⟨rfl, hx⟩ := y; exact hs i x σ _ hx p) hd⟩)
    (fun e => .inr ⟨⟨_, SqT.of (st _ _ _ h0 _ _ e)⟩, for_it (L2.walk_tup (K := K)) Pv h0 (fun i σ H' _ p => SqT.of (st i σ H' p _ _ e)) (fun i x σ H' H'' _ p y => by obtain ⟨rfl, hx⟩ := y; exact hs i x σ _ hx p) hd⟩)
theorem take_snoc {α : Type} {xs : List α} {i : Nat} {x : α} (h : xs[i]? = some x) : xs.take (i + 1) = xs.take i ++ [x] := by rw [List.take_succ, h]; rfl
abbrev sByShape : Stmt := top 13
def spByShape : Sp := fun vs H Q _ => ∃ (q : Addr) (xs : List Tx), vs = [.ref q] ∧ (H q = some (.lst (refs xs)) ∨ H q = some (.tup (refs xs))) ∧ TxsAt H xs ∧ (∀ x ∈ xs, x.2 ≠ [] ∧ x.2.length ≤ 100) ∧ xs.length ≤ 60 ∧
  ∀ (d : Addr) (gs : List Grp) (H' : Hp), Same H H' → H d = none → GrpAt H' d xs gs → (∀ g ∈ gs, H g.2 = none) → Q (.ref d) H'
section
variable {P : Program} {w : World} {K : PySem.W.Frag} {mg : Str → Option Value} {base : Heap}
abbrev nBS : List Str := ["facts", "groups", "fact"]
theorem scBS : FnScope nBS ["facts"] (defScope sByShape) := ⟨rfl, rfl, rfl, by decide +kernel, rfl, by decide +kernel, by decide +kernel⟩
theorem ok_byShape {f : Addr} {fd : FuncData} (F : Fun K "by_shape" "by_shape" sByShape f fd) (ml : mg "len" = none) : FnOk P w K mg base CX0 1 f fd ["facts"] spByShape := by
  refine F.ok scBS (fun vs H Q E h => ?_) (fun cdv A outer s H vs Q E hr h => ?_)
  · obtain ⟨q, xs, rfl, _⟩ := h
    rfl
  · obtain ⟨q, xs, rfl, hq, hxs, ne, few, k⟩ := h
    have hu1 := hu_of hr
    refine ⟨_, pss_cons (ps_set (i := 1) scBS.nd rfl (Or.inl rfl) pe_dnewT)
      (pss_cons (ps_for PassesOwn.never rfl (pi_seq (pv 0)) (pg_name (i := 2) scBS.nd rfl (Or.inl rfl))
        (pss_one (ps_expr (pe_bm PySem.F.plainAttrs_list PySem.F.slot_list_append PySem.F.type_list_append mt_append
          (pe_dsetdT hu1 (pv 1) (pe_tup (pa_cons (pe_ix ix_tup (pv 2) pe_int (fun _ _ => rfl)) (pa_cons (pe_callB call_len_seq (by rfl) ml (by decide +kernel) (pa_cons (pv 2) pa_nil)) pa_nil))) (pe_lst pa_nil) ⟨by rfl, by rfl, by rfl, by rfl⟩) (pa_cons (pv 2) pa_nil)))))
      (pss_one (ps_ret (pv 1)))), ?_⟩
    intro d nd
    have s0 : Same H (upd H d (.dT [])) := same_new nd
    have c0 : (upd H d (.dT [])) d = some (.dT []) := upd_same
    generalize upd H d (.dT []) = H0 at s0 c0 ⊢
    refine ⟨_, rfl, q, rfl, for_seqB (Hb := H) hq (fun i σ H5 => ∃ (v2 : Option V) (gs : List Grp), σ = [some (.ref q), some (.ref d), v2] ∧ Same H H5 ∧ GrpAt H5 d (xs.take i) gs ∧ (∀ g ∈ gs, H g.2 = none) ∧ (gs.map (·.2)).Nodup ∧ gs.length ≤ i)
      ⟨none, [], rfl, s0, ⟨c0, fun g m => (nomatch m), fun x m => (by simp at m), List.nodup_nil⟩, fun g m => (nomatch m), List.nodup_nil, Nat.le_refl _⟩ (fun i σ H5 p => let ⟨_, _, _, s, _⟩ := p; s) (fun i z σ H5 hz pp => ?_) (fun σ H5 pp => ?_)⟩
    · obtain ⟨v2, gs, rfl, s5, g5, fr5, nd5, l5⟩ := pp
      rw [List.getElem?_map] at hz
      obtain ⟨x, hx, rfl⟩ := Option.map_eq_some_iff.mp hz
      have mx := List.mem_of_getElem? hx
      obtain ⟨nx, lx⟩ := ne x mx
      have ex := s5 _ _ (hxs x mx)
      obtain ⟨T, ts, exx⟩ : ∃ T ts, x.2 = T :: ts := by
        cases e : x.2 with
        | nil => exact absurd e nx
        | cons T ts => exact ⟨T, ts, rfl⟩
      have hi : i < xs.length := by
        rcases Nat.lt_or_ge i xs.length with h | h
        · exact h
        · rw [List.getElem?_eq_none_iff.mpr h] at hx
          cases hx
      refine ⟨_, rfl, d, rfl, .inr ⟨_, .inl g5.at_⟩, _, rfl, x.1, _, 0, .str T, rfl, rfl, SqT.of ex, atI_nat (j := 0) (by rw [exx]; rfl), _, rfl, x.1, _, rfl, .inr (SqT.of ex), by show 2 ≤ sizeLine; decide, fun tk ntk => ?_⟩
      have s6 : Same H5 (upd H5 tk (.tup [.str T, .int ((x.2.map V.str).length : Nat)])) := same_new ntk
      have c6 : (upd H5 tk (.tup [.str T, .int ((x.2.map V.str).length : Nat)])) tk = some (.tup ((shK (shp x.2)).map kV)) := by (rw [upd_same, List.length_map]; unfold shp; rw [exx]; rfl)
      generalize upd H5 tk (.tup [.str T, .int ((x.2.map V.str).length : Nat)]) = H6 at s6 c6 ⊢
      refine ⟨by show 0 ≤ sizeLine; decide, fun l0 nl0 => ?_⟩
      have s7 : Same H6 (upd H6 l0 (.lst [])) := same_new nl0
      have c7 : (upd H6 l0 (.lst [])) l0 = some (.lst []) := upd_same
      generalize upd H6 l0 (.lst []) = H7 at s7 c7 ⊢
      have s57 := s6.trans s7
      have g7 := g5.same s57
      have nl0H : H l0 = none := s5.free (s6.free nl0)
      have nl0d : l0 ≠ d := (ne_of_none (s6 _ _ g5.at_) nl0).symm
      refine ⟨kvG gs, shK (shp x.2), tk, g7.at_, rfl, s7 _ _ c6, by unfold kvG; rw [List.length_map, sizeLine_eq]; omega, fun v hv => ?_, fun hv => ?_⟩
      · rw [val_kvG] at hv
        obtain ⟨g, eg, rfl⟩ := Option.map_eq_some_iff.mp hv
        have mg := List.mem_of_find?_eq_some eg
        have ek : g.1 = shp x.2 := of_decide_eq_true (List.find?_some (p := fun g : Grp => decide (g.1 = shp x.2)) eg)
        have hg := g7.each g mg
        refine ⟨.inl ⟨rfl, _, SqL.of hg⟩, _, rfl, g.2, _, _, rfl, rfl, hg, ?_, ?_⟩
        · have := List.length_filter_le (ofShp g.1) (xs.take i)
          rw [List.length_map, sizeLine_eq]
          rw [List.length_take] at this
          omega
        · refine ⟨_, gs, rfl, fun b o e => ?_, by rw [take_snoc hx]; exact grp_old g7 nd5 mg ek, fr5, nd5, by omega⟩
          rw [upd_ne (ne_of_none e (fr5 g mg))]
          exact s57 _ _ (s5 _ _ e)
      · rw [val_kvG] at hv
        have no : gs.find? (fun g => decide (g.1 = shp x.2)) = none := by
          cases e : gs.find? (fun g => decide (g.1 = shp x.2)) with
          | none => rfl
          | some g =>
            rw [e] at hv
            cases hv
        have hl : ∀ g ∈ gs, g.2 ≠ l0 := fun g m => ne_of_none (s6 _ _ (g5.each g m)) nl0
        rw [put_kvG no]
        have c8 : (upd H7 d (.dT (kvG (gs ++ [(shp x.2, l0)])))) l0 = some (.lst []) := by
          rw [upd_ne nl0d]
          exact c7
        refine ⟨.inl ⟨rfl, _, SqL.of c8⟩, _, rfl, l0, _, _, rfl, rfl, c8, by show 0 < sizeLine; decide, ?_⟩
        refine ⟨_, gs ++ [(shp x.2, l0)], rfl, fun b o e => ?_, by rw [take_snoc hx]; exact grp_new g7 no hl nl0d, fun g m => ?_, ?_, by rw [List.length_append]; show gs.length + 1 ≤ _; omega⟩
        · rw [upd_ne (ne_of_none e nl0H), upd_ne (ne_of_none e nd)]
          exact s57 _ _ (s5 _ _ e)
        · rcases List.mem_append.mp m with m | m
          · exact fr5 g m
          · rw [List.mem_singleton.mp m]
            exact nl0H
        · rw [List.map_append, List.nodup_append]
          refine ⟨nd5, by simp, fun a ma b mb e => ?_⟩
          obtain ⟨g, mg, rfl⟩ := List.mem_map.mp ma
          have : b = l0 := by simpa using mb
          exact hl g mg (e.trans this)
    · obtain ⟨v2, gs, rfl, s5, g5, fr5, nd5, l5⟩ := pp
      have el : (refs xs).length = xs.length := List.length_map _
      rw [el, List.take_length] at g5
      exact ⟨_, rfl, k d gs H5 s5 nd g5 fr5⟩
end
end L2.Rws
set_option Elab.async false
set_option linter.all false
set_option maxRecDepth 100000
set_option maxHeartbeats 4000000
/-! fitting. -/
namespace L2.Frz
open PySem PySem.Spec PyProof.Rows
section
variable {X : Cx}
/-- tuple(list), the object's own nature kept: no dict -/
theorem call_tuple_frz : CallR X (.type "tuple") (fun xs H Q => ∃ p ys, xs = [.ref p] ∧ SqL X.K H p ys ∧ ∀ l o, H l = none → o.dict = none → o.cls = .type "tuple" → Q (.ref l) (upd H l (.frz o (.tup ys)))) := by
  intro pins s σ H xs us Q I r h
  obtain ⟨p, ys, rfl, hq, q⟩ := h
  obtain ⟨u, rfl, rx⟩ := vals1 r
  cases rx
  obtain ⟨its, r', pl, hz⟩ := I.list hq
  have hlen := r'.length
  refine call_tuple_list pl.isList (fun h' kp => ?_) (by simp only [List.size_toArray] <;> omega)
  have I1 : Inv X pins σ H { s with heap := h' } := I.kept (t' := s.toks) kp
  have I2 : Inv X pins σ (upd H h'.objs.size (.frz { cls := .type "tuple", data := .seq its.toArray } (.tup ys))) { s with heap := h'.push { cls := .type "tuple", data := .seq its.toArray } } :=
    I1.laid (t' := s.toks) (fun b o e => Heap.get?_push_of_some _ e) (Nat.le_refl _) (show ObjOk X.prog X.w _ _ _ (.frz _ (.tup ys)) from ⟨Heap.get?_push_size _ rfl, hz, its, r', IsTup.new _ _⟩)
  exact ⟨.ref h'.objs.size, _, I2, rfl, q _ _ (I1.hok.fresh (Nat.le_refl _)) rfl rfl⟩
theorem call_tuple_frzK {K : PySem.W.Frag} (e : X.K = K) : CallR X (.type "tuple") (fun xs H Q => ∃ p ys, xs = [.ref p] ∧ SqL K H p ys ∧ ∀ l o, H l = none → o.dict = none → o.cls = .type "tuple" → Q (.ref l) (upd H l (.frz o (.tup ys)))) := by
  subst e
  exact call_tuple_frz
def tBMF (r : V → List V → Hp → VK → Prop) (to : TE) (t : TA) : TE := fun σ H Q => to σ H fun x H1 => (∃ p o xs, x = .ref p ∧ o.dict = none ∧ H1 p = some (.frz o (.tup xs))) ∧ t σ H1 fun xs H2 => r x xs H2 Q
variable {o e : Expr} {es : List Expr} {to : TE} {t : TA} {name : Str} {apos cpos : Pos} {id : String} {r : V → List V → Hp → VK → Prop}
/-- a method of a tuple that was kept -/
theorem pe_bmF (pa : PlainAttrs "tuple") (slot : Slot "tuple" name id) (hty : typeOf (.builtin id) = pure (.type "method_descriptor")) (hm : MtR X id r) (ho : PE X o to) (ha : PA X (e :: es) t)
    (hbase : attributeBase o name X.env (eval o X.env) = eval o X.env := by rfl)
    (hfew : ((backTo cpos (starEach (e :: es) X.env)).all (fun x => !x.1) && (backToKw cpos (keywordEach [] X.env)).all (fun x => x.1.isSome)
      && decide ((e :: es).length + ([] : List Keyword).length + (if ([] : List Keyword).isEmpty then 0 else 1) < 30)) = true := by rfl)
    (hline : (apos.endLine == cpos.line) = true := by rfl) (hs : starEach (e :: es) X.env = (false, eval e X.env) :: starEach es X.env := by rfl) (hplain : (backTo cpos (starEach es X.env)).any (·.1) = false := by rfl) :
    PE X (.Call (.Attribute o name apos) (e :: es) [] cpos) (tBMF r to t) := by
  refine ⟨fun pins s σ H Q I h => ?_⟩
  refine wpAny_Call_method_late hbase hfew hline rfl (thn (ho.run pins s σ H _ I h) fun v s1 ⟨x, H1, I1, r1, ⟨p, ob, xs, ex, hd, hp⟩, q1⟩ => ?_)
  subst ex
  obtain rfl : v = Value.ref p := r1
  obtain ⟨g1, _, _, _, g2⟩ := I1.hok p _ hp
  obtain ⟨o2, g3, g4, _⟩ := g2
  rw [g1] at g3
  cases g3
  refine ⟨"tuple", id, pa, slot, hty, ⟨ob, g1, g4⟩, fun a e => ?_, ?_⟩
  · cases e
    exact ⟨ob, g1, hd⟩
  have hA := ha.run cpos pins s1 σ H1 _ I1 q1
  rw [hs] at hA ⊢
  refine Calls.callWith_builtin (by show (false || (backTo cpos (starEach es X.env)).any (·.1)) = false; rw [hplain] <;> rfl) (Calls.evalArgs_plain ?_)
  exact thn hA fun us s2 ⟨vs, H2, I2, r2, q2⟩ => hm pins s2 σ H2 (.ref p) vs _ us Q I2 rfl r2 q2
end
end L2.Frz
namespace L2.Rws
open PySem PySem.Spec PyProof.Rows L2.LawH L2.SetT L2.Frz
open L2.TxtDict (Prs2 kd)
theorem ix_tupK {X : Cx} {K : PySem.W.Frag} (e : X.K = K) : IxR X (rIxT K) := by
  subst e
  exact ix_tup
/-- texts of patterns and facts -/
structure TmOk (P : Tm) : Prop where
  ne : P ≠ []
  few : P.length ≤ 10
  each : ∀ z ∈ P, 1 ≤ z.length ∧ z.length ≤ 100
  hd : ∀ z, P[0]? = some z → isV z = false
theorem lc_sift {α : Type} {J : It} {n : Nat} {G : Hp → Prop} {ms : List α} {val : α → V} (w : L2.Walk J n G (YAt (ms.map val))) (en : n = ms.length) {g : TG} {tt : TT} {te : TE} {vs : List Nat} {σ : St} {H1 : Hp} {D : Addr} {Qd : Hp → Prop} (p : α → Bool) (out : α → V)
    (nD : H1 D = none) (few : ms.length ≤ 1000) (hG : ∀ H, Same H1 H → G H)
    (hs : ∀ x ∈ ms, ∀ (H5 : Hp) (Yes : V → Hp → Prop) (No : Hp → Prop), Same H1 H5 → (∀ H4, Same H5 H4 → p x = true → Yes (out x) H4) → (∀ H4, Same H5 H4 → p x = false → No H4) →
      g (val x) (wipe σ vs) H5 fun σ2 H2 => wipe σ2 vs = wipe σ vs ∧ tt σ2 H2 fun b H3 => if b = true then te σ2 H3 Yes else No H3)
    (hd : ∀ H', Same H1 H' → H' D = some (.lst ((ms.filter p).map out)) → Qd H') :
    ∃ W : Nat → Nat → Hp → Prop, (∃ m, W 0 m (upd H1 D (.lst []))) ∧ ∀ i m H, W i m H →
      (J.stop i H ∧ Qd H) ∨ (J.go i H ∧ ∃ Nx : Hp → Prop, (∀ H', Nx H' → ∃ m', m' < m ∧ W (i + 1) m' H') ∧ ∀ x H', J.yld i H x H' → g x (wipe σ vs) H' fun σ2 H2 => wipe σ2 vs = wipe σ vs ∧ tt σ2 H2 fun b H3 =>
        if b = true then te σ2 H3 fun y H4 => ∃ acc, H4 D = some (.lst acc) ∧ acc.length < sizeLine ∧ Nx (upd H4 D (.lst (acc ++ [y]))) else Nx H3) := by
  subst en
  refine lc_it w (fun i H5 => Same H1 H5 ∧ H5 D = some (.lst (((ms.take i).filter p).map out))) ⟨same_new nD, upd_same⟩ (fun i H5 _ q => hG H5 q.1) (fun i z H5 H6 hi q y => ?_) (fun H5 q => ?_)
  · obtain ⟨rfl, hz⟩ := y
    obtain ⟨q1, q2⟩ := q
    rw [List.getElem?_map] at hz
    obtain ⟨x, hx, rfl⟩ := Option.map_eq_some_iff.mp hz
    have tk : ms.take (i + 1) = ms.take i ++ [x] := by
      rw [List.take_succ, hx]
      rfl
    refine hs x (List.mem_of_getElem? hx) H6 _ _ q1 (fun H4 s4 hp => ⟨_, s4 _ _ q2, ?_, ?_, ?_⟩) fun H4 s4 hp => ⟨?_, ?_⟩
    · rw [List.length_map, sizeLine_eq]
      have := List.length_filter_le p (ms.take i)
      rw [List.length_take] at this
      omega
    · intro b o h
      rw [upd_ne (ne_of_none h nD)]
      exact s4 _ _ (q1 _ _ h)
    · rw [upd_same, tk, List.filter_append, List.filter_cons_of_pos hp, List.filter_nil, List.map_append]
      rfl
    · intro b o h
      exact s4 _ _ (q1 _ _ h)
    · rw [tk, List.filter_append, List.filter_cons_of_neg (by rw [hp]; exact Bool.false_ne_true), List.filter_nil, List.append_nil]
      exact s4 _ _ q2
  · obtain ⟨q1, q2⟩ := q
    rw [List.take_length] at q2
    exact hd H5 q1 q2

theorem cond0 (kn : Prs2) (P f : Tm) : condAt kn P f 0 = true := by
  unfold condAt
  cases P[0]? <;> simp
theorem filt_next {kn : Prs2} {P : Tm} {A : Tx → Bool} {p : Tx → Bool} {xs : List Tx} {i : Nat} (h : ∀ x ∈ xs, A x = true → p x = condAt kn P x.2 (1 + i)) :
    (xs.filter fun x => A x && (List.range (1 + i)).all fun j => condAt kn P x.2 j).filter p = xs.filter fun x => A x && (List.range (1 + (i + 1))).all fun j => condAt kn P x.2 j := by
  rw [List.filter_filter]
  refine List.filter_congr fun x m => ?_
  cases e : A x with
  | false => simp
  | true =>
    rw [h x m e, show 1 + (i + 1) = (1 + i) + 1 by omega, List.range_succ, List.all_append]
    simp [Bool.and_comm]
def fsAt (kn : Prs2) (P : Tm) (xs : List Tx) (i : Nat) : List Tx := xs.filter fun x => ofShp (shp P) x && (List.range (1 + i)).all fun j => condAt kn P x.2 j
theorem ifF {b : Bool} {A B : Prop} (e : b = false) (h : B) : if b = true then A else B := by
  rw [e]
  exact iteF h
theorem ifT {b : Bool} {A B : Prop} (e : b = true) (h : A) : if b = true then A else B := by
  rw [e]
  exact iteT h
theorem shp_len {P f : Tm} (h : shp f = shp P) : f.length = P.length := by
  unfold shp at h
  injection h
theorem str_dec (u z : Str) : decide (V.str u = V.str z) = decide (u = z) := decide_eq_decide.mpr ⟨fun e => by injection e, fun e => by rw [e]⟩
/-- a pattern that can be asked for a place -/
def PtR (H : Hp) (p : Addr) (P : Tm) : Prop := (H p = some (.tup (P.map V.str)) ∧ P.length ≤ 1) ∨ ∃ o, o.dict = none ∧ H p = some (.frz o (.tup (P.map V.str)))
theorem PtR.same {H H' : Hp} {p : Addr} {P : Tm} (h : PtR H p P) (s : Same H H') : PtR H' p P := h.imp (fun e => ⟨s _ _ e.1, e.2⟩) fun ⟨o, d, e⟩ => ⟨o, d, s _ _ e⟩
theorem PtR.sq {K : PySem.W.Frag} {H : Hp} {p : Addr} {P : Tm} (h : PtR H p P) : SqT K H p (P.map V.str) := by
  rcases h with ⟨e, _⟩ | ⟨o, _, e⟩
  · exact .inl (.inl e)
  · exact .inl (.inr ⟨o, e⟩)
abbrev sFit : Stmt := top 23
def spFit : Sp := fun vs H Q _ => ∃ (p g k : Addr) (P : Tm) (xs : List Tx) (gs : List Grp) (kn : Prs2), vs = [.ref p, .ref g, .ref k] ∧ PtR H p P ∧ TmOk P ∧ GrpAt H g xs gs ∧ TxsAt H xs ∧ xs.length ≤ 60 ∧ MapAt H k kn ∧
  ∀ (l : Addr) (H' : Hp), Same H H' → (H l = none ∨ l ∈ gs.map (·.2)) → H' l = some (.lst (refs (xs.filter fun x => ofShp (shp P) x && fitB kn P x.2))) → Q (.ref l) H'
section
variable {P : Program} {w : World} {K : PySem.W.Frag} {mg : Str → Option Value} {base : Heap}
abbrev nFit : List Str := ["pattern", "groups", "known", "facts", "at", "term", "value", "first", "fact"]
theorem scFit : FnScope nFit ["pattern", "groups", "known"] (defScope sFit) := ⟨rfl, rfl, rfl, by decide +kernel, rfl, by decide +kernel, by decide +kernel⟩
theorem ok_fit {f : Addr} {fd : FuncData} (F : Fun K "fitting" "fitting" sFit f fd) (ml : mg "len" = none) (mr : mg "range" = none) : FnOk P w K mg base CX0 1 f fd ["pattern", "groups", "known"] spFit := by
  refine F.ok scFit (fun vs H Q E h => ?_) (fun cdv A outer s H vs Q E hr h => ?_)
  · obtain ⟨p, g, k, P, xs, gs, kn, rfl, _⟩ := h
    rfl
  · obtain ⟨p, g, k, P, xs, gs, kn, rfl, hp, okP, hg, hxs, few, hk, kk⟩ := h
    have hu1 := hu_of hr
    refine ⟨_, pss_cons (ps_set (i := 3) scFit.nd rfl (Or.inl rfl) (pe_dget2 hu1 (pv 1) (pe_tup (pa_cons (pe_ix ix_tup (pv 0) pe_int (fun _ _ => rfl)) (pa_cons (pe_callB call_len_seq (by rfl) ml (by decide +kernel) (pa_cons (pv 0) pa_nil)) pa_nil))) (pe_lst pa_nil) ⟨by rfl, by rfl, by rfl, by rfl⟩))
      (pss_cons (ps_for PassesOwn.never rfl (pi_range2 (by rfl) mr (pa_cons pe_int (pa_cons (pe_callB call_len_seq (by rfl) ml (by decide +kernel) (pa_cons (pv 0) pa_nil)) pa_nil))) (pg_name (i := 4) scFit.nd rfl (Or.inr rfl))
        (pss_cons (ps_set (i := 5) scFit.nd rfl (Or.inr rfl) (pe_ix ix_tup (pv 0) (pv 4) (fun _ _ => rfl)))
        (pss_one (ps_if (pt_cmpR op_ne (pe_ix ix_str (pv 5) pe_int (fun _ _ => rfl)) pe_str (nomark _))
          (pss_one (ps_setLc (i := 3) (own := [("fact", 8)]) (g := gName 8) (tt := tB (tOp rEq (tOp (rIxT K) (tVar 8) (tVar 4)) (tVar 5))) rfl scFit.nd rfl rfl (sw_true rfl rfl rfl (by decide +kernel)) (pi_list (pv 3))
            (blkOk_by (own := [("fact", 8)]) (N := nFit) (sc := defScope sFit) (by decide +kernel)) (fun _ _ _ _ _ => pg_name (i := 8) scFit.nd rfl (Or.inl rfl))
            (fun _ _ _ _ _ => pts_one (pt_cmpR op_eq (pe_ix (ix_tupK (K := K) rfl) (pv 8) (pv 4) (fun _ _ => rfl)) (pv 5) (nomark _))) (fun _ _ _ _ _ => pv 8)))
          (pss_one (ps_if (pt_cmp (pc_din hu1 (pv 5) (pv 2)))
            (pss_cons (ps_set (i := 6) scFit.nd rfl (Or.inr rfl) (pe_dget hu1 (pv 2) (pv 5) (fun _ _ => rfl)))
            (pss_one (ps_setLc (i := 3) (own := [("fact", 8)]) (g := gName 8) (tt := tB (tOp rEq (tOp (rIxT K) (tVar 8) (tVar 4)) (tVar 6))) rfl scFit.nd rfl rfl (sw_true rfl rfl rfl (by decide +kernel)) (pi_list (pv 3))
              (blkOk_by (own := [("fact", 8)]) (N := nFit) (sc := defScope sFit) (by decide +kernel)) (fun _ _ _ _ _ => pg_name (i := 8) scFit.nd rfl (Or.inl rfl))
              (fun _ _ _ _ _ => pts_one (pt_cmpR op_eq (pe_ix (ix_tupK (K := K) rfl) (pv 8) (pv 4) (fun _ _ => rfl)) (pv 6) (nomark _))) (fun _ _ _ _ _ => pv 8))))
            (pss_cons (ps_set (i := 7) scFit.nd rfl (Or.inr rfl) (pe_bmF PySem.F.plainAttrs_tuple PySem.F.slot_tuple_index PySem.F.type_tuple_index mt_tup_index (pv 0) (pa_cons (pv 5) pa_nil)))
            (pss_one (ps_if (pt_cmpR op_lt (pv 7) (pv 4) (nomark _))
              (pss_one (ps_setLc (i := 3) (own := [("fact", 8)]) (g := gName 8) (tt := tB (tOp rEq (tOp (rIxT K) (tVar 8) (tVar 4)) (tOp (rIxT K) (tVar 8) (tVar 7)))) rfl scFit.nd rfl rfl (sw_true rfl rfl rfl (by decide +kernel)) (pi_list (pv 3))
                (blkOk_by (own := [("fact", 8)]) (N := nFit) (sc := defScope sFit) (by decide +kernel)) (fun _ _ _ _ _ => pg_name (i := 8) scFit.nd rfl (Or.inl rfl))
                (fun _ _ _ _ _ => pts_one (pt_cmpR op_eq (pe_ix (ix_tupK (K := K) rfl) (pv 8) (pv 4) (fun _ _ => rfl)) (pe_ix (ix_tupK (K := K) rfl) (pv 8) (pv 7) (fun _ _ => rfl)) (nomark _))) (fun _ _ _ _ _ => pv 8))) pss_nil)))))))))
      (pss_one (ps_ret (pv 3)))), ?_⟩
    obtain ⟨T, ts, eP⟩ : ∃ T ts, P = T :: ts := by
      cases e : P with
      | nil => exact absurd e okP.ne
      | cons T ts => exact ⟨T, ts, rfl⟩
    have lP := okP.few
    refine ⟨_, rfl, g, rfl, .inr ⟨_, .inl hg.at_⟩, _, rfl, p, _, 0, .str T, rfl, rfl, hp.sq, atI_nat (j := 0) (by rw [eP]; rfl), _, rfl, p, _, rfl, .inr hp.sq, by show 2 ≤ sizeLine; decide, fun tk ntk => ?_⟩
    have s1 : Same H (upd H tk (.tup [.str T, .int ((P.map V.str).length : Nat)])) := same_new ntk
    have c1 : (upd H tk (.tup [.str T, .int ((P.map V.str).length : Nat)])) tk = some (.tup ((shK (shp P)).map kV)) := by (rw [upd_same, List.length_map]; unfold shp; rw [eP]; rfl)
    generalize upd H tk (.tup [.str T, .int ((P.map V.str).length : Nat)]) = H1 at s1 c1 ⊢
    refine ⟨by show 0 ≤ sizeLine; decide, fun l0 nl0 => ?_⟩
    have s2 : Same H1 (upd H1 l0 (.lst [])) := same_new nl0
    have c2 : (upd H1 l0 (.lst [])) l0 = some (.lst []) := upd_same
    generalize upd H1 l0 (.lst []) = H2 at s2 c2 ⊢
    have s12 := s1.trans s2
    have hg2 := hg.same s12
    refine ⟨valV (kvG gs) (shK (shp P)), DGet.t hg2.at_ (s2 _ _ c1), ?_⟩
    obtain ⟨l, el, hl, ol⟩ : ∃ l, (valV (kvG gs) (shK (shp P))).getD (.ref l0) = .ref l ∧ H2 l = some (.lst (refs (xs.filter (ofShp (shp P))))) ∧ (H l = none ∨ l ∈ gs.map (·.2)) := by
      rcases hg2.get (shp P) with ⟨e, e2⟩ | ⟨l, e, hl, ml⟩
      · exact ⟨l0, by rw [e]; rfl, by rw [e2]; exact c2, .inl (s1.free nl0)⟩
      · exact ⟨l, by rw [e]; rfl, hl, .inr ml⟩
    rw [el]
    have hp2 := hp.same s12
    have hxs2 := hxs.same s12
    have hk2 := hk.same s12
    have eL : ((P.map V.str).length : Int) = (P.length : Int) := by rw [List.length_map]
    refine ⟨_, rfl, p, _, rfl, .inr hp2.sq, 1, _, rfl, ⟨by decide, by decide, by omega, by omega⟩, for_range (lo := 1) (fun i σ H5 => ∃ (l : Addr) (v4 v5 v6 v7 v8 : Option V), σ = [some (.ref p), some (.ref g), some (.ref k), some (.ref l), v4, v5, v6, v7, v8] ∧ Same H2 H5 ∧ (H l = none ∨ l ∈ gs.map (·.2)) ∧ H5 l = some (.lst (refs (fsAt kn P xs i))))
      ⟨l, none, none, none, none, none, rfl, Same.refl _, ol, ?_⟩ (fun i σ H5 hi pp => ?_) (fun σ H5 pp => ?_)⟩
    · rw [hl]
      refine congrArg (fun z => some (HO.lst z)) (congrArg refs (List.filter_congr fun x m => ?_))
      show ofShp (shp P) x = (ofShp (shp P) x && (condAt kn P x.2 0 && true))
      rw [cond0]
      simp
    · obtain ⟨l, v4, v5, v6, v7, v8, rfl, s5, ol, hl⟩ := pp
      obtain ⟨a, ha⟩ : ∃ a : Nat, a = 1 + i := ⟨_, rfl⟩
      rw [show (1 + (i : Int)) = (a : Int) by omega]
      have la : a < P.length := by omega
      obtain ⟨z, ez⟩ : ∃ z, P[a]? = some z := ⟨_, List.getElem?_eq_getElem la⟩
      have mz : z ∈ P := List.mem_of_getElem? ez
      have na : ¬ a = 0 := by omega
      obtain ⟨c, r, hc⟩ : ∃ c r, z.cps.toList = c :: r := by
        cases e : z.cps.toList with
        | nil =>
          have l := length_toList z
          rw [e] at l
          have l0 : z.length = 0 := l.symm
          have := (okP.each z mz).1
          omega
        | cons c r => exact ⟨c, r, rfl⟩
      have hp5 := hp2.same s5
      have hk5 := hk2.same s5
      refine ⟨_, rfl, _, rfl, p, _, _, .str z, rfl, rfl, hp5.sq, atI_nat (j := a) (by rw [List.getElem?_map, ez]; rfl), ?_⟩
      refine ⟨_, rfl, z, 0, c, rfl, rfl, by have := (okP.each z mz).2; rw [sizeLine_eq]; omega, by rw [hc]; exact atI_nat (j := 0) rfl, rfl, _, rfl, ?_⟩
      rw [first_one hc]
      by_cases hv : isV z = true
      · refine ifF (by rw [hv]; rfl) ?_
        refine ⟨_, rfl, _, rfl, k, _, rfl, DGet.k (k := Sum.inr z) hk5, _, rfl, ?_⟩
        rw [val_kd]
        cases hkz : look kn z with
        | some v =>
          refine iteT ?_
          refine ⟨_, rfl, _, rfl, k, .str v, rfl, ?_, ?_⟩
          · have := DGet.k (k := Sum.inr z) hk5
            rw [val_kd, hkz] at this
            exact this
          refine ⟨_, rfl, l, rfl, ⟨_, SqL.of hl⟩, fun D nD => ?_⟩
          refine lc_sift (ms := fsAt kn P xs i) (val := fun x : Tx => V.ref x.1) (L2.walk_list (K := K)) (List.length_map _) (fun x => decide (x.2[a]? = some v)) (fun x => V.ref x.1) nD (by have : (fsAt kn P xs i).length ≤ xs.length := List.length_filter_le _ _; omega) (fun H' s' => SqL.of (s' _ _ hl)) (fun x hx H6 Yes No s6 yes no => ?_) (fun H7 s7 hL => ?_)
          · obtain ⟨mx, ax⟩ := List.mem_filter.mp hx
            have sx : shp x.2 = shp P := of_decide_eq_true (p := shp x.2 = shp P) (Bool.and_eq_true_iff.mp ax).1
            have lx := shp_len sx
            have ex := (s5.trans s6) _ _ (hxs2 x mx)
            have eu : x.2[a]? = some (x.2[a]'(by omega)) := List.getElem?_eq_getElem (by omega)
            refine ⟨rfl, _, rfl, _, rfl, x.1, _, _, _, rfl, rfl, SqT.of ex, atI_nat (j := a) (by rw [List.getElem?_map, eu]; rfl), _, rfl, rfl, _, rfl, ?_⟩
            rw [str_dec]
            refine ite2 (fun e => ⟨_, rfl, yes _ (Same.refl _) ?_⟩) (fun e => no _ (Same.refl _) ?_)
            · rw [eu]; simpa using e
            · rw [eu]; simpa using e
          · refine ⟨_, _, _, _, _, _, rfl, s5.trans s7, .inl (s12.free (s5.free nD)), ?_⟩
            rw [hL]
            refine congrArg (fun z => some (HO.lst z)) ?_
            show _ = refs (fsAt kn P xs (i + 1))
            refine congrArg refs (filt_next fun x m q => ?_)
            rw [← ha]
            show _ = condAt kn P x.2 a
            unfold condAt
            rw [ez]
            simp only [na, if_false, hv, if_true, hkz]
        | none =>
          refine iteF ?_
          obtain ⟨j1, j2⟩ := idxOf_at ez
          have lj : P.idxOf z < P.length := by omega
          obtain ⟨o, od, oe⟩ : ∃ o, o.dict = none ∧ H5 p = some (.frz o (.tup (P.map V.str))) := by
            rcases hp5 with ⟨_, l1⟩ | q
            · omega
            · exact q
          refine ⟨_, rfl, ⟨p, o, _, rfl, od, oe⟩, _, rfl, p, P, z, P.idxOf z, rfl, rfl, hp5.sq, j2, fun m hm e => ?_, ?_⟩
          · have := (idxOf_at e).1
            omega
          refine ⟨_, rfl, _, rfl, _, _, rfl, rfl, _, rfl, ?_⟩
          refine ite2 (fun lt => ?_) (fun nlt => ?_)
          · have lt : P.idxOf z < a := by simpa using lt
            refine ⟨_, rfl, l, rfl, ⟨_, SqL.of hl⟩, fun D nD => ?_⟩
            refine lc_sift (ms := fsAt kn P xs i) (val := fun x : Tx => V.ref x.1) (L2.walk_list (K := K)) (List.length_map _) (fun x => decide (x.2[a]? = x.2[P.idxOf z]?)) (fun x => V.ref x.1) nD (by have : (fsAt kn P xs i).length ≤ xs.length := List.length_filter_le _ _; omega) (fun H' s' => SqL.of (s' _ _ hl)) (fun x hx H6 Yes No s6 yes no => ?_) (fun H7 s7 hL => ?_)
            · obtain ⟨mx, ax⟩ := List.mem_filter.mp hx
              have sx : shp x.2 = shp P := of_decide_eq_true (p := shp x.2 = shp P) (Bool.and_eq_true_iff.mp ax).1
              have lx := shp_len sx
              have ex := (s5.trans s6) _ _ (hxs2 x mx)
              have eu : x.2[a]? = some (x.2[a]'(by omega)) := List.getElem?_eq_getElem (by omega)
              have eu2 : x.2[P.idxOf z]? = some (x.2[P.idxOf z]'(by omega)) := List.getElem?_eq_getElem (by omega)
              refine ⟨rfl, _, rfl, _, rfl, x.1, _, _, _, rfl, rfl, SqT.of ex, atI_nat (j := a) (by rw [List.getElem?_map, eu]; rfl), _, rfl, _, rfl, x.1, _, _, _, rfl, rfl, SqT.of ex, atI_nat (j := P.idxOf z) (by rw [List.getElem?_map, eu2]; rfl), rfl, _, rfl, ?_⟩
              rw [str_dec]
              refine ite2 (fun e => ⟨_, rfl, yes _ (Same.refl _) ?_⟩) (fun e => no _ (Same.refl _) ?_)
              · rw [eu, eu2]; simpa using e
              · rw [eu, eu2]; simpa using e
            · refine ⟨_, _, _, _, _, _, rfl, s5.trans s7, .inl (s12.free (s5.free nD)), ?_⟩
              rw [hL]
              refine congrArg (fun z => some (HO.lst z)) ?_
              show _ = refs (fsAt kn P xs (i + 1))
              refine congrArg refs (filt_next fun x m q => ?_)
              rw [← ha]
              show _ = condAt kn P x.2 a
              unfold condAt
              rw [ez]
              simp only [na, if_false, hv, if_true, hkz, lt]
          · have nlt : ¬ P.idxOf z < a := by simpa using nlt
            refine ⟨_, _, _, _, _, _, rfl, s5, ol, ?_⟩
            rw [hl]
            refine congrArg (fun z => some (HO.lst z)) (congrArg refs ?_)
            have := filt_next (kn := kn) (P := P) (A := fun x => ofShp (shp P) x) (p := fun _ => true) (xs := xs) (i := i) fun x m q => by
              rw [← ha]
              unfold condAt
              rw [ez]
              simp only [na, if_false, hv, if_true, hkz, nlt]
            rw [List.filter_eq_self.mpr fun _ _ => rfl] at this
            exact this
      · have hv : isV z = false := by simpa using hv
        refine ifT (by rw [hv]; rfl) ?_
        refine ⟨_, rfl, l, rfl, ⟨_, SqL.of hl⟩, fun D nD => ?_⟩
        refine lc_sift (ms := fsAt kn P xs i) (val := fun x : Tx => V.ref x.1) (L2.walk_list (K := K)) (List.length_map _) (fun x => decide (x.2[a]? = some z)) (fun x => V.ref x.1) nD (by have : (fsAt kn P xs i).length ≤ xs.length := List.length_filter_le _ _; omega) (fun H' s' => SqL.of (s' _ _ hl)) (fun x hx H6 Yes No s6 yes no => ?_) (fun H7 s7 hL => ?_)
        · obtain ⟨mx, ax⟩ := List.mem_filter.mp hx
          have sx : shp x.2 = shp P := of_decide_eq_true (p := shp x.2 = shp P) (Bool.and_eq_true_iff.mp ax).1
          have lx := shp_len sx
          have ex := (s5.trans s6) _ _ (hxs2 x mx)
          have eu : x.2[a]? = some (x.2[a]'(by omega)) := List.getElem?_eq_getElem (by omega)
          refine ⟨rfl, _, rfl, _, rfl, x.1, _, _, _, rfl, rfl, SqT.of ex, atI_nat (j := a) (by rw [List.getElem?_map, eu]; rfl), _, rfl, rfl, _, rfl, ?_⟩
          rw [str_dec]
          refine ite2 (fun e => ⟨_, rfl, yes _ (Same.refl _) ?_⟩) (fun e => no _ (Same.refl _) ?_)
          · rw [eu]; simpa using e
          · rw [eu]; simpa using e
        · refine ⟨_, _, _, _, _, _, rfl, s5.trans s7, .inl (s12.free (s5.free nD)), ?_⟩
          rw [hL]
          refine congrArg (fun z => some (HO.lst z)) ?_
          show _ = refs (fsAt kn P xs (i + 1))
          refine congrArg refs (filt_next fun x m q => ?_)
          rw [← ha]
          show _ = condAt kn P x.2 a
          unfold condAt
          rw [ez]
          simp only [na, if_false, hv, Bool.false_eq_true]
    · obtain ⟨l, v4, v5, v6, v7, v8, rfl, s5, ol, hl⟩ := pp
      refine ⟨_, rfl, kk l H5 (s12.trans s5) ol ?_⟩
      rw [hl]
      refine congrArg (fun z => some (HO.lst z)) (congrArg refs (List.filter_congr fun x m => ?_))
      unfold fitB
      rw [show 1 + (((P.map V.str).length : Int) - 1).toNat = P.length by rw [eL, eP, List.length_cons]; omega]
end
end L2.Rws
set_option Elab.async false
set_option linter.all false
set_option maxRecDepth 100000
set_option maxHeartbeats 4000000
/-! Comprehensions with two fors whose items are sums of two tuples. -/
namespace L2.Rws
open PySem PySem.Spec PyProof.Rows L2.LawH L2.SetT L2.Frz
open L2.TxtDict (Prs2 kd)
section
variable {J J1 : It} {n n1 : Nat} {G G1 : Hp → Prop} {Y Y1 : Nat → Hp → V → Hp → Prop}
theorem lc2_in (w : L2.Walk J1 n1 G1 Y1) {g1 : TG} {tt1 : TT} {te : TE} {vs1 : List Nat} {σ2 : St} {H4 : Hp} {D : Addr} {Nx : Hp → Prop} (Pv : Nat → Hp → Prop) (h0 : Pv 0 H4) (hG : ∀ i H, i ≤ n1 → Pv i H → G1 H)
    (hs : ∀ i x H H', i < n1 → Pv i H → Y1 i H x H' → g1 x (wipe σ2 vs1) H' fun σ3 H5 => wipe σ3 vs1 = wipe σ2 vs1 ∧ tt1 σ3 H5 fun b H6 =>
      if b = true then te σ3 H6 fun y H7 => ∃ acc, H7 D = some (.lst acc) ∧ acc.length < sizeLine ∧ Pv (i + 1) (upd H7 D (.lst (acc ++ [y]))) else Pv (i + 1) H6) (hd : ∀ H, Pv n1 H → Nx H) :
    ∃ W1 : Nat → Nat → Hp → Prop, (∃ m, W1 0 m H4) ∧ ∀ j k H, W1 j k H →
      (J1.stop j H ∧ Nx H) ∨ (J1.go j H ∧ ∃ Nx1 : Hp → Prop, (∀ H', Nx1 H' → ∃ k', k' < k ∧ W1 (j + 1) k' H') ∧ ∀ x H', J1.yld j H x H' → g1 x (wipe σ2 vs1) H' fun σ3 H5 => wipe σ3 vs1 = wipe σ2 vs1 ∧ tt1 σ3 H5 fun b H6 =>
        if b = true then te σ3 H6 fun y H7 => ∃ acc, H7 D = some (.lst acc) ∧ acc.length < sizeLine ∧ Nx1 (upd H7 D (.lst (acc ++ [y]))) else Nx1 H6) := by
  refine ⟨fun i m H => m = n1 - i ∧ i ≤ n1 ∧ Pv i H, ⟨n1, by simp, Nat.zero_le _, h0⟩, ?_⟩
  rintro i m H ⟨rfl, hi, p⟩
  have q := hG i H hi p
  by_cases hlt : i < n1
  · refine .inr ⟨w.goes i H hlt q, Pv (i + 1), fun H' p' => ⟨n1 - (i + 1), by omega, rfl, hlt, p'⟩, fun x H' y => hs i x H H' hlt p (w.yields i H x H' hlt q y)⟩
  · have e : i = n1 := by omega
    subst e
    exact .inl ⟨w.stops H q, hd H p⟩
end
/-- rows that were made so far stand in the list at D -/
def Acc (H1 : Hp) (D : Addr) (L : List Tm) (H : Hp) : Prop := ∃ Xs : List Tx, H D = some (.lst (refs Xs)) ∧ TxsAt H Xs ∧ Xs.map (·.2) = L ∧ Same H1 H
theorem Acc.sum {H1 H : Hp} {D p : Addr} {L : List Tm} {t : Tm} (h : Acc H1 D L H) (nD : H1 D = none) (few : L.length < sizeLine) (np : H p = none) : ∃ acc, (upd H p (.tup (t.map V.str))) D = some (.lst acc) ∧ acc.length < sizeLine ∧ Acc H1 D (L ++ [t]) (upd (upd H p (.tup (t.map V.str))) D (.lst (acc ++ [.ref p]))) := by
  obtain ⟨Xs, h1, h2, h3, h4⟩ := h
  have pD : p ≠ D := fun e => by
    rw [e, h1] at np
    cases np
  refine ⟨refs Xs, by rw [upd_ne pD.symm]; exact h1, by rw [List.length_map]; rw [← h3, List.length_map] at few; exact few, Xs ++ [(p, t)], ?_, fun x m => ?_, ?_, fun b o e => ?_⟩
  · rw [upd_same, refs_snoc]
  · rcases List.mem_append.mp m with m | m
    · have := h2 x m
      have xD : x.1 ≠ D := fun e => by
        rw [e, h1] at this
        cases this
      rw [upd_ne xD, upd_ne (ne_of_none this np)]
      exact this
    · rw [List.mem_singleton.mp m, upd_ne pD, upd_same]
  · rw [List.map_append, h3]
    rfl
  · rw [upd_ne (ne_of_none e nD), upd_ne (ne_of_none (h4 _ _ e) np)]
    exact h4 _ _ e
theorem Acc.keep {H1 H H' : Hp} {D : Addr} {L : List Tm} (h : Acc H1 D L H) (s : Same H H') : Acc H1 D L H' := by
  obtain ⟨Xs, h1, h2, h3, h4⟩ := h
  exact ⟨Xs, s _ _ h1, h2.same s, h3, h4.trans s⟩
def sums (ok : Tx → Tx → Bool) (r : Tx) (F : List Tx) : List Tm := (F.filter (ok r)).map fun f => r.2 ++ f.2
theorem sums_snoc {ok : Tx → Tx → Bool} {r f : Tx} {F : List Tx} {j : Nat} (h : F[j]? = some f) : sums ok r (F.take (j + 1)) = sums ok r (F.take j) ++ if ok r f = true then [r.2 ++ f.2] else [] := by
  unfold sums
  rw [take_snoc h, List.filter_append, List.map_append, List.filter_cons]
  by_cases e : ok r f = true
  · rw [if_pos e, if_pos e]
    rfl
  · rw [if_neg e, if_neg e]
    rfl
theorem lc2_rows {J : It} {n : Nat} {G : Hp → Prop} {rows : List Tx} (w : L2.Walk J n G (YAt (refs rows))) (en : n = rows.length) {i j : Nat} {wi1 : TI} {tt1 : TT} {te : TE} {vs vs1 : List Nat} {σ : St} {H1 : Hp} {D : Addr} {Qd : Hp → Prop} {Fr : Tx → List Tx} {ok : Tx → Tx → Bool}
    (nD : H1 D = none) (few : (rows.flatMap fun r => sums ok r (Fr r)).length < 100000) (hG : ∀ H, Same H1 H → G H)
    (hw : ∀ x : V, wipe ((wipe σ vs).set i (some x)) vs = wipe σ vs) (hw1 : ∀ (σ2 : St) (x : V), wipe ((wipe σ2 vs1).set j (some x)) vs1 = wipe σ2 vs1)
    (hs : ∀ r ∈ rows, ∀ (H5 : Hp) (R : It → Hp → Prop), Same H1 H5 → (∃ xs, H5 D = some (.lst xs)) → (∀ (J1 : It) (H4 : Hp) (G1 : Hp → Prop), L2.Walk J1 (refs (Fr r)).length G1 (YAt (refs (Fr r))) → Same H5 H4 → (∀ H', Keep D H4 H' → G1 H') → TxsAt H4 (Fr r) → R J1 H4) → wi1 ((wipe σ vs).set i (some (.ref r.1))) H5 R)
    (he : ∀ r ∈ rows, ∀ f ∈ Fr r, ∀ (H6 : Hp) (Yes : V → Hp → Prop) (No : Hp → Prop), Same H1 H6 → H6 f.1 = some (.tup (f.2.map V.str)) → (∀ p, H6 p = none → ok r f = true → Yes (.ref p) (upd H6 p (.tup ((r.2 ++ f.2).map V.str)))) → (ok r f = false → No H6) →
      tt1 ((wipe ((wipe σ vs).set i (some (.ref r.1))) vs1).set j (some (.ref f.1))) H6 fun b H8 => if b = true then te ((wipe ((wipe σ vs).set i (some (.ref r.1))) vs1).set j (some (.ref f.1))) H8 Yes else No H8)
    (hd : ∀ (H' : Hp) (Xs : List Tx), Same H1 H' → H' D = some (.lst (refs Xs)) → TxsAt H' Xs → Xs.map (·.2) = (rows.flatMap fun r => sums ok r (Fr r)) → Qd H') :
    ∃ W : Nat → Nat → Hp → Prop, (∃ m, W 0 m (upd H1 D (.lst []))) ∧ ∀ a m H, W a m H →
      (J.stop a H ∧ Qd H) ∨ (J.go a H ∧ ∃ Nx : Hp → Prop, (∀ H', Nx H' → ∃ m', m' < m ∧ W (a + 1) m' H') ∧ ∀ x H', J.yld a H x H' → gName i x (wipe σ vs) H' fun σ2 H2 => wipe σ2 vs = wipe σ vs ∧ tYes σ2 H2 fun b H3 =>
        if b = true then wi1 σ2 H3 fun J1 H4 => ∃ W1 : Nat → Nat → Hp → Prop, (∃ m, W1 0 m H4) ∧ ∀ j' k H, W1 j' k H →
          (J1.stop j' H ∧ Nx H) ∨ (J1.go j' H ∧ ∃ Nx1 : Hp → Prop, (∀ H', Nx1 H' → ∃ k', k' < k ∧ W1 (j' + 1) k' H') ∧ ∀ x H', J1.yld j' H x H' → gName j x (wipe σ2 vs1) H' fun σ3 H5 => wipe σ3 vs1 = wipe σ2 vs1 ∧ tt1 σ3 H5 fun b H6 =>
            if b = true then te σ3 H6 fun y H7 => ∃ acc, H7 D = some (.lst acc) ∧ acc.length < sizeLine ∧ Nx1 (upd H7 D (.lst (acc ++ [y]))) else Nx1 H6)
        else Nx H3) := by
  subst en
  obtain ⟨out, eo⟩ : ∃ out : Nat → List Tm, out = fun a => (rows.take a).flatMap fun r => sums ok r (Fr r) := ⟨_, rfl⟩
  have whole : out rows.length = rows.flatMap fun r => sums ok r (Fr r) := by rw [eo]; simp
  have grow : ∀ a, (out a).length ≤ (out rows.length).length := fun a => by
    rw [whole, show out a = (rows.take a).flatMap fun r => sums ok r (Fr r) by rw [eo]]
    have e : rows = rows.take a ++ rows.drop a := (List.take_append_drop a rows).symm
    have : (rows.flatMap fun r => sums ok r (Fr r)) = ((rows.take a).flatMap fun r => sums ok r (Fr r)) ++ ((rows.drop a).flatMap fun r => sums ok r (Fr r)) := by rw [← List.flatMap_append, ← e]
    rw [this, List.length_append]
    omega
  refine ⟨fun a m H => m = rows.length - a ∧ a ≤ rows.length ∧ Acc H1 D (out a) H, ⟨rows.length, by simp, Nat.zero_le _, [], upd_same, fun x m => (nomatch m), by rw [eo]; rfl, same_new nD⟩, ?_⟩
  rintro a m H ⟨rfl, ha, acc⟩
  obtain ⟨Xs0, a1, a2, a3, a4⟩ := id acc
  by_cases hlt : a < rows.length
  · refine .inr ⟨w.goes a H hlt (hG H a4), fun H' => Acc H1 D (out (a + 1)) H', fun H' p' => ⟨rows.length - (a + 1), by omega, rfl, hlt, p'⟩, fun x H' y => ?_⟩
    obtain ⟨rfl, hx⟩ := w.yields a H x H' hlt (hG H a4) y
    rw [List.getElem?_map] at hx
    obtain ⟨r, hr, rfl⟩ := Option.map_eq_some_iff.mp hx
    have mr := List.mem_of_getElem? hr
    have eout : out (a + 1) = out a ++ sums ok r (Fr r) := by
      rw [eo]
      show ((rows.take (a + 1)).flatMap _) = _
      rw [take_snoc hr, List.flatMap_append]
      simp
    refine ⟨hw _, ?_⟩
    dsimp only [tYes]
    rw [if_pos rfl]
    refine hs r mr H' _ a4 ⟨_, a1⟩ fun J1 H4 G1 w1 s4 hG1 tx => ?_
    have acc4 := acc.keep s4
    obtain ⟨Xs4, b1, b2, b3, b4⟩ := id acc4
    refine lc2_in w1 (fun q H5 => Acc H1 D (out a ++ sums ok r ((Fr r).take q)) H5 ∧ Keep D H4 H5) ⟨?_, fun b o e _ => e⟩ (fun q H5 _ p => hG1 H5 p.2) (fun q x H5 H6 hq p y => ?_) (fun H5 p => ?_)
    · rw [show sums ok r ((Fr r).take 0) = [] from rfl, List.append_nil]
      exact acc4
    · obtain ⟨rfl, hz⟩ := y
      obtain ⟨p1, p2⟩ := p
      rw [List.getElem?_map] at hz
      obtain ⟨f, hf, rfl⟩ := Option.map_eq_some_iff.mp hz
      have mf := List.mem_of_getElem? hf
      have tf := tx f mf
      have fD : f.1 ≠ D := fun e => by
        rw [e, b1] at tf
        cases tf
      obtain ⟨Xs5, c1, c2, c3, c4⟩ := id p1
      have esn := sums_snoc (ok := ok) (r := r) hf
      have lens : (out a ++ sums ok r ((Fr r).take q)).length < 100000 := by
        have g1 := grow (a + 1)
        rw [whole] at g1
        have g2 : (out (a + 1)).length = (out a).length + (sums ok r (Fr r)).length := by rw [eout, List.length_append]
        have g3 : (sums ok r ((Fr r).take q)).length ≤ (sums ok r (Fr r)).length := by
          unfold sums
          rw [List.length_map, List.length_map]
          exact ((List.take_sublist _ _).filter _).length_le
        rw [List.length_append]
        omega
      refine ⟨hw1 _ _, ?_⟩
      refine he r mr f mf H6 _ _ c4 (p2 _ _ tf fD) (fun p np e => ?_) (fun e => ?_)
      · obtain ⟨acc', d1, d2, d3⟩ := p1.sum (t := r.2 ++ f.2) nD (by rw [sizeLine_eq]; omega) np
        refine ⟨acc', d1, d2, ?_, fun b o e2 nb => ?_⟩
        · rw [esn, if_pos e, ← List.append_assoc]
          exact d3
        · rw [upd_ne nb, upd_ne (ne_of_none (p2 _ _ e2 nb) np)]
          exact p2 _ _ e2 nb
      · refine ⟨?_, p2⟩
        rw [esn, if_neg (by rw [e]; exact Bool.false_ne_true), List.append_nil]
        exact p1
    · rw [show (refs (Fr r)).length = (Fr r).length from List.length_map _, List.take_length] at p
      show Acc H1 D (out (a + 1)) H5
      rw [eout]
      exact p.1
  · have e : a = rows.length := by omega
    subst e
    rw [whole] at a3
    exact .inl ⟨w.stops H (hG H a4), hd H Xs0 a4 a1 a2 a3⟩
end L2.Rws
set_option Elab.async false
set_option linter.all false
set_option maxRecDepth 100000
set_option maxHeartbeats 4000000
/-! indexed, extended, nearest. -/
namespace L2.Rws
open PySem PySem.Spec PyProof.Rows L2.LawH L2.SetT L2.Frz
open L2.TxtDict (Prs2 kd)
def kyA (a : Nat) (f : Tm) : Str := (f[a]?).getD Str.empty
abbrev GrE := Str × Addr
def kvE (gs : List GrE) : List (Key × V) := gs.map fun g => ((Sum.inr g.1 : Key), V.ref g.2)
theorem val_kvE : ∀ (gs : List GrE) (k : Str), valV (kvE gs) (Sum.inr k : Key) = (gs.find? fun g => decide (g.1 = k)).map fun g => V.ref g.2
  | [], _ => rfl
  | g :: gs, k => by
    rw [List.find?_cons]
    by_cases e : g.1 = k
    · rw [show kvE (g :: gs) = ((Sum.inr g.1 : Key), V.ref g.2) :: kvE gs from rfl, valV_pos (by rw [e]), decide_eq_true e]
      rfl
    · rw [show kvE (g :: gs) = ((Sum.inr g.1 : Key), V.ref g.2) :: kvE gs from rfl, valV_neg (fun z => e (by injection z)), decide_eq_false e]
      exact val_kvE gs k
theorem put_kvE {gs : List GrE} {k : Str} {l : Addr} (h : gs.find? (fun g => decide (g.1 = k)) = none) : putK (kvE gs) (Sum.inr k : Key) (V.ref l) = kvE (gs ++ [(k, l)]) := by
  unfold putK
  rw [if_neg]
  · unfold kvE
    rw [List.map_append]
    rfl
  · rw [valV_any, val_kvE, h]
    simp
def ofKy (a : Nat) (k : Str) (x : Tx) : Bool := decide (kyA a x.2 = k)
/-- groups, as they stand -/
structure EndAt (a : Nat) (H : Hp) (d : Addr) (xs : List Tx) (gs : List GrE) : Prop where
  at_ : H d = some (.dK (kvE gs))
  each : ∀ g ∈ gs, H g.2 = some (.lst (refs (xs.filter (ofKy a g.1))))
  all : ∀ x ∈ xs, kyA a x.2 ∈ gs.map (·.1)
  nd : (gs.map (·.1)).Nodup
theorem EndAt.same {a : Nat} {H H' : Hp} {d : Addr} {xs : List Tx} {gs : List GrE} (h : EndAt a H d xs gs) (s : Same H H') : EndAt a H' d xs gs := ⟨s _ _ h.at_, fun g m => s _ _ (h.each g m), h.all, h.nd⟩
/-- what the groups tell of a shape -/
theorem EndAt.get {a : Nat} {H : Hp} {d : Addr} {xs : List Tx} {gs : List GrE} (h : EndAt a H d xs gs) (k : Str) : (valV (kvE gs) (Sum.inr k : Key) = none ∧ xs.filter (ofKy a k) = []) ∨ ∃ l, valV (kvE gs) (Sum.inr k : Key) = some (.ref l) ∧ H l = some (.lst (refs (xs.filter (ofKy a k)))) := by
  rw [val_kvE]
  cases e : gs.find? fun g => decide (g.1 = k) with
  | none =>
    refine .inl ⟨rfl, List.filter_eq_nil_iff.mpr fun x m q => ?_⟩
    obtain ⟨g, mg, eg⟩ := List.mem_map.mp (h.all x m)
    have := List.find?_eq_none.mp e g mg
    exact this (decide_eq_true (eg.trans (of_decide_eq_true q)))
  | some g =>
    have e1 := List.find?_some e
    have e2 : g.1 = k := of_decide_eq_true e1
    exact .inr ⟨g.2, rfl, e2 ▸ h.each g (List.mem_of_find?_eq_some e)⟩
theorem key_oneE {gs : List GrE} (nd : (gs.map (·.1)).Nodup) {g g' : GrE} (m : g ∈ gs) (m' : g' ∈ gs) (e : g.1 = g'.1) : g = g' := by
  induction gs with
  | nil => cases m
  | cons a r ih =>
    rw [List.map_cons, List.nodup_cons] at nd
    rcases List.mem_cons.mp m with rfl | m2
    · rcases List.mem_cons.mp m' with rfl | m3
      · rfl
      · exact absurd (List.mem_map.mpr ⟨g', m3, e.symm⟩) nd.1
    · rcases List.mem_cons.mp m' with rfl | m3
      · exact absurd (List.mem_map_of_mem (f := Prod.fst) m2) (by rw [e]; exact nd.1)
      · exact ih nd.2 m2 m3
theorem adr_oneE {gs : List GrE} (nd : (gs.map (·.2)).Nodup) {g g' : GrE} (m : g ∈ gs) (m' : g' ∈ gs) (e : g.2 = g'.2) : g = g' := by
  induction gs with
  | nil => cases m
  | cons a r ih =>
    rw [List.map_cons, List.nodup_cons] at nd
    rcases List.mem_cons.mp m with rfl | m2
    · rcases List.mem_cons.mp m' with rfl | m3
      · rfl
      · exact absurd (List.mem_map.mpr ⟨g', m3, e.symm⟩) nd.1
    · rcases List.mem_cons.mp m' with rfl | m3
      · exact absurd (List.mem_map_of_mem (f := Prod.snd) m2) (by rw [e]; exact nd.1)
      · exact ih nd.2 m2 m3
theorem end_old {a : Nat} {H : Hp} {d : Addr} {ys : List Tx} {gs : List GrE} {x : Tx} {g : GrE} (h : EndAt a H d ys gs) (nda : (gs.map (·.2)).Nodup) (m : g ∈ gs) (eg : g.1 = kyA a x.2) :
    EndAt a (upd H g.2 (.lst (refs (ys.filter (ofKy a g.1)) ++ [.ref x.1]))) d (ys ++ [x]) gs := by
  refine ⟨?_, fun g' m' => ?_, fun y my => ?_, h.nd⟩
  · rw [upd_ne]
    · exact h.at_
    · intro e
      have := h.each g m
      rw [← e, h.at_] at this
      cases this
  · rw [List.filter_append, refs_snoc_f]
    by_cases e : g'.2 = g.2
    · have := adr_oneE nda m' m e
      subst this
      rw [upd_same, List.filter_cons, if_pos (show ofKy a g'.1 x = true from decide_eq_true eg.symm)]
      rfl
    · rw [upd_ne e, h.each g' m', List.filter_cons, if_neg]
      · simp [refs]
      · intro q
        have : g'.1 = g.1 := (of_decide_eq_true q).symm.trans eg.symm
        exact e (by rw [key_oneE h.nd m' m this])
  · rcases List.mem_append.mp my with my | my
    · exact h.all y my
    · rw [List.mem_singleton.mp my, ← eg]
      exact List.mem_map_of_mem m
theorem end_new {a : Nat} {H : Hp} {d l : Addr} {ys : List Tx} {gs : List GrE} {x : Tx} (h : EndAt a H d ys gs) (no : gs.find? (fun g => decide (g.1 = kyA a x.2)) = none) (hl : ∀ g ∈ gs, g.2 ≠ l) (ld : l ≠ d) :
    EndAt a (upd (upd H d (.dK (kvE (gs ++ [(kyA a x.2, l)])))) l (.lst ([] ++ [.ref x.1]))) d (ys ++ [x]) (gs ++ [(kyA a x.2, l)]) := by
  have nok : ∀ g ∈ gs, g.1 ≠ kyA a x.2 := fun g m e => List.find?_eq_none.mp no g m (decide_eq_true e)
  refine ⟨?_, fun g' m' => ?_, fun y my => ?_, ?_⟩
  · rw [upd_ne ld.symm, upd_same]
  · rw [List.filter_append, refs_snoc_f]
    rcases List.mem_append.mp m' with m' | m'
    · have gd : g'.2 ≠ d := fun e => by
        have := h.each g' m'
        rw [e, h.at_] at this
        cases this
      rw [upd_ne (hl g' m'), upd_ne gd, h.each g' m', List.filter_cons, if_neg]
      · simp [refs]
      · intro q
        exact nok g' m' (of_decide_eq_true q).symm
    · rw [List.mem_singleton.mp m', upd_same]
      have e0 : ys.filter (ofKy a (kyA a x.2)) = [] := List.filter_eq_nil_iff.mpr fun y my q => by
        obtain ⟨g, mg, eg⟩ := List.mem_map.mp (h.all y my)
        exact nok g mg (eg.trans (of_decide_eq_true q))
      rw [show ((kyA a x.2, l) : GrE).1 = kyA a x.2 from rfl, e0, List.filter_cons, if_pos (show ofKy a (kyA a x.2) x = true from decide_eq_true rfl)]
      rfl
  · rw [List.map_append]
    rcases List.mem_append.mp my with my | my
    · exact List.mem_append_left _ (h.all y my)
    · rw [List.mem_singleton.mp my]
      exact List.mem_append_right _ List.mem_cons_self
  · rw [List.map_append, List.nodup_append]
    refine ⟨h.nd, by simp, fun a ma b mb e => ?_⟩
    obtain ⟨g, mg, rfl⟩ := List.mem_map.mp ma
    have : b = kyA a x.2 := by simpa using mb
    exact nok g mg (e.trans this)
theorem ky_at {a : Nat} {f : Tm} (h : a < f.length) (k : Str) : decide (kyA a f = k) = decide (f[a]? = some k) := by
  unfold kyA
  rw [List.getElem?_eq_getElem h]
  simp
theorem op_catAK {X : Cx} {K : PySem.W.Frag} (e : X.K = K) : OpR X (binaryOp .Add) (rCatA K) := by
  subst e
  exact op_catA
def rLenQ (K : PySem.W.Frag) : List V → Hp → VK → Prop := fun xs H Q => ∃ p ys, xs = [.ref p] ∧ (SqL K H p ys ∨ SqT K H p ys) ∧ Q (.int ys.length) H
theorem pi_listK {X : Cx} {K : PySem.W.Frag} (e : X.K = K) {tg l : Expr} {tl : TE} (hl : PE X l tl) : PI X tg l (iList K tl) := by
  subst e
  exact pi_list hl
theorem call_len_seqK {X : Cx} {K : PySem.W.Frag} (e : X.K = K) : CallR X (.builtin "len") (rLenQ K) := by
  subst e
  exact call_len_seq
theorem sum_lens (g : Tx → List Tm) : ∀ rows : List Tx, (rows.map fun r => ((g r).length : Int)).sum = ((rows.flatMap g).length : Nat)
  | [] => rfl
  | r :: rows => by
    rw [List.map_cons, List.sum_cons, sum_lens g rows, List.flatMap_cons, List.length_append]
    omega
abbrev sIndexed : Stmt := top 25
/-- rows and facts, as the two functions take them -/
structure RF (H : Hp) (l1 l2 : Addr) (rows F : List Tx) (w : Nat) : Prop where
  h1 : H l1 = some (.lst (refs rows))
  h2 : H l2 = some (.lst (refs F))
  t1 : TxsAt H rows
  t2 : TxsAt H F
  w1 : ∀ r ∈ rows, r.2.length = w
  w0 : 0 < w
  w9 : w ≤ 1000
  n1 : rows.length ≤ 64
  n2 : F.length ≤ 60
  f9 : ∀ f ∈ F, f.2 ≠ [] ∧ f.2.length ≤ 10
theorem RF.same {H H' : Hp} {l1 l2 : Addr} {rows F : List Tx} {w : Nat} (h : RF H l1 l2 rows F w) (s : Same H H') : RF H' l1 l2 rows F w := ⟨s _ _ h.h1, s _ _ h.h2, h.t1.same s, h.t2.same s, h.w1, h.w0, h.w9, h.n1, h.n2, h.f9⟩
def okAt (a p : Nat) (r f : Tx) : Bool := decide (f.2[a]? = r.2[p]?)
theorem flat_congr {α β : Type} {g h : α → List β} : ∀ {l : List α}, (∀ x ∈ l, g x = h x) → l.flatMap g = l.flatMap h
  | [], _ => rfl
  | x :: l, e => by rw [List.flatMap_cons, List.flatMap_cons, e x List.mem_cons_self, flat_congr fun y m => e y (List.mem_cons_of_mem _ m)]
theorem sums_ky {a p : Nat} {r : Tx} {F : List Tx} (la : ∀ f ∈ F, a < f.2.length) (lp : p < r.2.length) : sums (fun _ _ => true) r (F.filter (ofKy a (kyA p r.2))) = sums (okAt a p) r F := by
  unfold sums
  rw [List.filter_eq_self.mpr fun _ _ => rfl]
  refine congrArg (List.map fun f : Tx => r.2 ++ f.2) (List.filter_congr fun f m => ?_)
  unfold ofKy okAt
  rw [ky_at (la f m)]
  unfold kyA
  rw [List.getElem?_eq_getElem lp]
  rfl
def spIndexed : Sp := fun vs H Q _ => ∃ (l1 l2 : Addr) (rows F : List Tx) (w a p most : Nat), vs = [.ref l1, .ref l2, .int (a : Int), .int (p : Int), .int (most : Int)] ∧ RF H l1 l2 rows F w ∧ (∀ f ∈ F, a < f.2.length) ∧ p < w ∧ (rows.flatMap fun r => sums (okAt a p) r F).length ≤ most ∧
  ∀ (l : Addr) (Xs : List Tx) (H' : Hp), Same H H' → H l = none → H' l = some (.lst (refs Xs)) → TxsAt H' Xs → Xs.map (·.2) = (rows.flatMap fun r => sums (okAt a p) r F) → Q (.ref l) H'
section
variable {P : Program} {w : World} {K : PySem.W.Frag} {mg : Str → Option Value} {base : Heap}
abbrev nIx : List Str := ["rows", "facts", "at", "place", "most", "ends", "fact", "row"]
theorem scIx : FnScope nIx ["rows", "facts", "at", "place", "most"] (defScope sIndexed) := ⟨rfl, rfl, rfl, by decide +kernel, rfl, by decide +kernel, by decide +kernel⟩
theorem ok_indexed {f : Addr} {fd : FuncData} (F : Fun K "indexed" "indexed" sIndexed f fd) (ml : mg "len" = none) (ms : mg "sum" = none) : FnOk P w K mg base CX0 1 f fd ["rows", "facts", "at", "place", "most"] spIndexed := by
  refine F.ok scIx (fun vs H Q E h => ?_) (fun cdv A outer s H vs Q E hr h => ?_)
  · obtain ⟨l1, l2, rows, F, w, a, p, most, rfl, _⟩ := h
    rfl
  · obtain ⟨l1, l2, rows, F, w, a, p, most, rfl, rf, la, lp, few, kk⟩ := h
    have hu1 := hu_of hr
    refine ⟨_, pss_cons (ps_set (i := 5) scIx.nd rfl (Or.inr rfl) pe_dnewK)
      (pss_cons (ps_for PassesOwn.never rfl (pi_list (pv 1)) (pg_name (i := 6) scIx.nd rfl (Or.inl rfl))
        (pss_one (ps_expr (pe_bm PySem.F.plainAttrs_list PySem.F.slot_list_append PySem.F.type_list_append mt_append
          (pe_dsetd (pv 5) (pe_ix ix_tup (pv 6) (pv 2) (fun _ _ => rfl)) (pe_lst pa_nil) ⟨by rfl, by rfl, by rfl, by rfl⟩) (pa_cons (pv 6) pa_nil)))))
      (pss_cons (ps_if (pt_cmpR op_gt (pe_callB (cr_sum rfl) (by rfl) ms (by decide +kernel) (pa_cons
          (pe_lc (own := [("row", 7)]) (g := gName 7) (tt := tYes) rfl scIx.nd (pi_list (pv 0)) (blkOk_by (own := [("row", 7)]) (N := nIx) (sc := defScope sIndexed) (by decide +kernel)) (fun _ _ _ _ _ => pg_name (i := 7) scIx.nd rfl (Or.inl rfl)) (fun _ _ _ _ _ => pts_nil)
            (fun _ _ _ _ _ => pe_callB (call_len_seqK (K := K) rfl) (by rfl) ml (by decide +kernel) (pa_cons (pe_dget2 hu1 (pv 5) (pe_ix (ix_tupK (K := K) rfl) (pv 7) (pv 3) (fun _ _ => rfl)) (pe_lst pa_nil) ⟨by rfl, by rfl, by rfl, by rfl⟩) pa_nil))) pa_nil)) (pv 4) (nomark _)) (pss_one (ps_ret pe_non)) pss_nil)
      (pss_one (ps_ret (pe_lc2 (own := [("row", 7), ("fact", 6)]) (vs1 := [6]) (g := gName 7) (g1 := gName 6) (tt := tYes) (tt1 := tYes) rfl scIx.nd (pi_list (pv 0)) (blkOk_by (own := [("row", 7), ("fact", 6)]) (N := nIx) (sc := defScope sIndexed) (by decide +kernel)) (by decide)
        (fun _ _ _ _ _ => pg_name (i := 7) scIx.nd rfl (Or.inl rfl)) (fun _ _ _ _ _ => pts_nil)
        (fun _ _ _ _ _ => pi_listK (K := K) rfl (pe_dget2 hu1 (pv 5) (pe_ix (ix_tupK (K := K) rfl) (pv 7) (pv 3) (fun _ _ => rfl)) (pe_lst pa_nil) ⟨by rfl, by rfl, by rfl, by rfl⟩))
        (fun _ _ _ _ _ => pg_name (i := 6) scIx.nd rfl (Or.inl rfl)) (fun _ _ _ _ _ => pts_nil)
        (fun _ _ _ _ _ => pe_op (op_catAK (K := K) rfl) (pv 7) (pv 6))))))), ?_⟩
    intro d nd
    have s0 : Same H (upd H d (.dK [])) := same_new nd
    have c0 : (upd H d (.dK [])) d = some (.dK []) := upd_same
    generalize upd H d (.dK []) = H0 at s0 c0 ⊢
    refine ⟨_, rfl, l2, rfl, ⟨_, SqL.of (s0 _ _ rf.h2)⟩, for_it (L2.walk_list (K := K)) (fun i σ H5 => ∃ (v6 : Option V) (gs : List GrE), σ = [some (.ref l1), some (.ref l2), some (.int (a : Int)), some (.int (p : Int)), some (.int (most : Int)), some (.ref d), v6, none] ∧ Same H H5 ∧ EndAt a H5 d (F.take i) gs ∧ (∀ g ∈ gs, H g.2 = none) ∧ (gs.map (·.2)).Nodup ∧ gs.length ≤ i)
      ⟨none, [], rfl, s0, ⟨c0, fun g m => (nomatch m), fun x m => (by simp at m), List.nodup_nil⟩, fun g m => (nomatch m), List.nodup_nil, Nat.le_refl _⟩ (fun i σ H5 _ pp => let ⟨_, _, _, s, _⟩ := pp; SqL.of (s _ _ rf.h2)) (fun i z σ H5' H5 hi pp yy => ?_) (fun σ H5 pp => ?_)⟩
    · obtain ⟨v6, gs, rfl, s5, g5, fr5, nd5, l5⟩ := pp
      obtain ⟨rfl, hz⟩ := yy
      rw [List.getElem?_map] at hz
      obtain ⟨x, hx, rfl⟩ := Option.map_eq_some_iff.mp hz
      have mx := List.mem_of_getElem? hx
      have ex := s5 _ _ (rf.t2 x mx)
      have eu : x.2[a]? = some (kyA a x.2) := by
        unfold kyA
        rw [List.getElem?_eq_getElem (la x mx)]
        rfl
      have hi : i < F.length := by rw [List.length_map] at hi; exact hi
      have n2 := rf.n2
      refine ⟨_, rfl, d, rfl, .inl ⟨_, .inl g5.at_⟩, _, rfl, _, rfl, x.1, _, _, .str (kyA a x.2), rfl, rfl, SqT.of ex, atI_nat (j := a) (by rw [List.getElem?_map, eu]; rfl), by show 0 ≤ sizeLine; decide, fun l0 nl0 => ?_⟩
      have s7 : Same H5 (upd H5 l0 (.lst [])) := same_new nl0
      have c7 : (upd H5 l0 (.lst [])) l0 = some (.lst []) := upd_same
      generalize upd H5 l0 (.lst []) = H7 at s7 c7 ⊢
      have g7 := g5.same s7
      have nl0H : H l0 = none := s5.free nl0
      have nl0d : l0 ≠ d := (ne_of_none g5.at_ nl0).symm
      refine ⟨kvE gs, Sum.inr (kyA a x.2), g7.at_, rfl, by unfold kvE; rw [List.length_map, sizeLine_eq]; omega, fun v hv => ?_, fun hv => ?_⟩
      · rw [val_kvE] at hv
        obtain ⟨g, eg, rfl⟩ := Option.map_eq_some_iff.mp hv
        have mg := List.mem_of_find?_eq_some eg
        have ek : g.1 = kyA a x.2 := of_decide_eq_true (List.find?_some (p := fun g : GrE => decide (g.1 = kyA a x.2)) eg)
        have hg := g7.each g mg
        refine ⟨.inl ⟨rfl, _, SqL.of hg⟩, _, rfl, g.2, _, _, rfl, rfl, hg, ?_, ?_⟩
        · have := List.length_filter_le (ofKy a g.1) (F.take i)
          rw [List.length_map, sizeLine_eq]
          rw [List.length_take] at this
          omega
        · refine ⟨_, gs, rfl, fun b o e => ?_, by rw [take_snoc hx]; exact end_old g7 nd5 mg ek, fr5, nd5, by omega⟩
          rw [upd_ne (ne_of_none e (fr5 g mg))]
          exact s7 _ _ (s5 _ _ e)
      · rw [val_kvE] at hv
        have no : gs.find? (fun g => decide (g.1 = kyA a x.2)) = none := by
          cases e : gs.find? (fun g => decide (g.1 = kyA a x.2)) with
          | none => rfl
          | some g =>
            rw [e] at hv
            cases hv
        have hl : ∀ g ∈ gs, g.2 ≠ l0 := fun g m => ne_of_none (g5.each g m) nl0
        rw [put_kvE no]
        have c8 : (upd H7 d (.dK (kvE (gs ++ [(kyA a x.2, l0)])))) l0 = some (.lst []) := by
          rw [upd_ne nl0d]
          exact c7
        refine ⟨.inl ⟨rfl, _, SqL.of c8⟩, _, rfl, l0, _, _, rfl, rfl, c8, by show 0 < sizeLine; decide, ?_⟩
        refine ⟨_, gs ++ [(kyA a x.2, l0)], rfl, fun b o e => ?_, by rw [take_snoc hx]; exact end_new g7 no hl nl0d, fun g m => ?_, ?_, by rw [List.length_append]; show gs.length + 1 ≤ _; omega⟩
        · rw [upd_ne (ne_of_none e nl0H), upd_ne (ne_of_none e nd)]
          exact s7 _ _ (s5 _ _ e)
        · rcases List.mem_append.mp m with m | m
          · exact fr5 g m
          · rw [List.mem_singleton.mp m]
            exact nl0H
        · rw [List.map_append, List.nodup_append]
          refine ⟨nd5, by simp, fun a1 ma b mb e => ?_⟩
          obtain ⟨g, mg, rfl⟩ := List.mem_map.mp ma
          have : b = l0 := by simpa using mb
          exact hl g mg (e.trans this)
    · obtain ⟨v6, gs, rfl, s5, g5, fr5, nd5, l5⟩ := pp
      rw [show (refs F).length = F.length from List.length_map _, List.take_length] at g5
      have rf5 := rf.same s5
      have n1 := rf.n1
      have n2 := rf.n2
      have lr : ∀ r ∈ rows, p < r.2.length := fun r m => by rw [rf.w1 r m]; exact lp
      have eu : ∀ r ∈ rows, r.2[p]? = some (kyA p r.2) := fun r m => by
        unfold kyA
        rw [List.getElem?_eq_getElem (lr r m)]
        rfl
      obtain ⟨cnt, ecnt⟩ : ∃ cnt : Tx → Int, cnt = fun r => ((sums (okAt a p) r F).length : Int) := ⟨_, rfl⟩
      have ecl : ∀ r ∈ rows, ((F.filter (ofKy a (kyA p r.2))).length : Int) = cnt r := fun r m => by
        rw [ecnt]
        show _ = ((sums (okAt a p) r F).length : Int)
        rw [← sums_ky la (lr r m)]
        unfold sums
        rw [List.filter_eq_self.mpr fun _ _ => rfl, List.length_map]
      -- a list that an end has
      have fnd : ∀ (r : Tx) (H6 : Hp) (l0 : Addr), Same H5 H6 → H6 l0 = some (.lst []) → ∃ l, ((valV (kvE gs) (Sum.inr (kyA p r.2) : Key)).getD (.ref l0)) = .ref l ∧ H6 l = some (.lst (refs (F.filter (ofKy a (kyA p r.2))))) ∧ (l = l0 ∨ ∃ o, H5 l = some o) := fun r H6 l0 s6 c0 => by
        rcases g5.get (kyA p r.2) with ⟨e, e2⟩ | ⟨l, e, hl⟩
        · exact ⟨l0, by rw [e]; rfl, by rw [e2]; exact c0, .inl rfl⟩
        · exact ⟨l, by rw [e]; rfl, s6 _ _ hl, .inr ⟨_, hl⟩⟩
      refine ⟨_, rfl, l1, rfl, ⟨_, SqL.of rf5.h1⟩, fun D nD => ?_⟩
      refine lc_it (L2.walk_list (K := K)) (fun i H6 => Same H5 H6 ∧ H6 D = some (.lst (((rows.take i).map cnt).map V.int))) ⟨same_new nD, upd_same⟩ (fun i H6 _ q => SqL.of (q.1 _ _ rf5.h1)) (fun i z H6' H6 hi q y => ?_) (fun H6 q => ?_)
      · obtain ⟨rfl, hz⟩ := y
        obtain ⟨q1, q2⟩ := q
        rw [List.getElem?_map] at hz
        obtain ⟨r, hr, rfl⟩ := Option.map_eq_some_iff.mp hz
        have mr := List.mem_of_getElem? hr
        have hi : i < rows.length := by rw [List.length_map] at hi; exact hi
        refine ⟨rfl, ?_⟩
        dsimp only [tYes]
        rw [if_pos rfl]
        refine ⟨_, rfl, d, rfl, .inl ⟨_, .inl (q1 _ _ g5.at_)⟩, _, rfl, _, rfl, r.1, _, _, .str (kyA p r.2), rfl, rfl, SqT.of (q1 _ _ (rf5.t1 r mr)), atI_nat (j := p) (by rw [List.getElem?_map, eu r mr]; rfl), by show 0 ≤ sizeLine; decide, fun l0 nl0 => ?_⟩
        have s7 : Same H6 (upd H6 l0 (.lst [])) := same_new nl0
        have c7 : (upd H6 l0 (.lst [])) l0 = some (.lst []) := upd_same
        generalize upd H6 l0 (.lst []) = H7 at s7 c7 ⊢
        obtain ⟨l, el, hl, _⟩ := fnd r H7 l0 (q1.trans s7) c7
        refine ⟨valV (kvE gs) (Sum.inr (kyA p r.2) : Key), DGet.k (k := Sum.inr (kyA p r.2)) ((q1.trans s7) _ _ g5.at_), ?_⟩
        rw [el]
        refine ⟨l, _, rfl, .inl (SqL.of hl), _, s7 _ _ q2, by rw [List.length_map, List.length_map, List.length_take, sizeLine_eq]; omega, fun b o e => ?_, ?_⟩
        · rw [upd_ne (ne_of_none e nD)]
          exact s7 _ _ (q1 _ _ e)
        · rw [upd_same, take_snoc hr, List.map_append, List.map_append, show ((refs (F.filter (ofKy a (kyA p r.2)))).length : Int) = cnt r by rw [← ecl r mr, List.length_map]]
          rfl
      · obtain ⟨q1, q2⟩ := q
        rw [show (refs rows).length = rows.length from List.length_map _, List.take_length] at q2
        have esum : (rows.map cnt).sum = ((rows.flatMap fun r => sums (okAt a p) r F).length : Nat) := by
          rw [ecnt]
          exact sum_lens (fun r => sums (okAt a p) r F) rows
        refine ⟨D, rows.map cnt, rfl, SqL.of q2, _, rfl, _, _, rfl, rfl, _, rfl, ?_⟩
        rw [esum]
        refine ifF (decide_eq_false (by omega)) ?_
        have rf6 := rf5.same q1
        refine ⟨_, rfl, l1, rfl, ⟨_, SqL.of rf6.h1⟩, fun D2 nD2 => ?_⟩
        refine lc2_rows (L2.walk_list (K := K)) (List.length_map _) (i := 7) (j := 6) (Fr := fun r => F.filter (ofKy a (kyA p r.2))) (ok := fun _ _ => true) nD2 ?_ (fun H' s' => SqL.of (s' _ _ rf6.h1)) (fun x => rfl) (fun σ2 x => by simp [wipe]) (fun r mr H7 R s7 hD7 go => ?_) (fun r mr f mf H7 Yes No s7 hf yes no => ?_) (fun H7 Xs s7 hl tx ex => ?_)
        · have : (rows.flatMap fun r => sums (fun _ _ => true) r (F.filter (ofKy a (kyA p r.2)))).length ≤ 64 * 60 := by
            have : ∀ rows : List Tx, (rows.flatMap fun r => sums (fun _ _ => true) r (F.filter (ofKy a (kyA p r.2)))).length ≤ rows.length * 60 := fun rows => by
              induction rows with
              | nil => exact Nat.le_refl _
              | cons r rows ih =>
                have h1 : (sums (fun _ _ => true) r (F.filter (ofKy a (kyA p r.2)))).length ≤ 60 := by
                  unfold sums
                  rw [List.length_map]
                  exact Nat.le_trans (List.length_filter_le _ _) (Nat.le_trans (List.length_filter_le _ _) n2)
                rw [List.flatMap_cons, List.length_append, List.length_cons, Nat.succ_mul]
                omega
            exact Nat.le_trans (this rows) (Nat.mul_le_mul_right _ n1)
          omega
        · have s57 := q1.trans s7
          refine ⟨_, rfl, d, rfl, .inl ⟨_, .inl (s57 _ _ g5.at_)⟩, _, rfl, _, rfl, r.1, _, _, .str (kyA p r.2), rfl, rfl, SqT.of (s57 _ _ (rf5.t1 r mr)), atI_nat (j := p) (by rw [List.getElem?_map, eu r mr]; rfl), by show 0 ≤ sizeLine; decide, fun l0 nl0 => ?_⟩
          have s8 : Same H7 (upd H7 l0 (.lst [])) := same_new nl0
          have c8 : (upd H7 l0 (.lst [])) l0 = some (.lst []) := upd_same
          generalize upd H7 l0 (.lst []) = H8 at s8 c8 ⊢
          obtain ⟨l, el, hl, old⟩ := fnd r H8 l0 (s57.trans s8) c8
          refine ⟨valV (kvE gs) (Sum.inr (kyA p r.2) : Key), DGet.k (k := Sum.inr (kyA p r.2)) ((s57.trans s8) _ _ g5.at_), ?_⟩
          rw [el]
          refine ⟨l, rfl, ⟨_, SqL.of hl⟩, go _ _ (fun H' => SqL K H' l (refs (F.filter (ofKy a (kyA p r.2))))) (L2.walk_list (K := K)) s8 (fun H' k => SqL.of (k _ _ hl ?_)) fun x m => (s57.trans s8) _ _ (rf5.t2 x (List.mem_filter.mp m).1)⟩
          intro z
          subst z
          rcases old with rfl | ⟨o, ho⟩
          · obtain ⟨ys, hy⟩ := hD7
            rw [hy] at nl0
            cases nl0
          · rw [q1 _ _ ho] at nD2
            cases nD2
        · dsimp only [tYes]
          rw [if_pos rfl]
          have er := s7 _ _ (rf6.t1 r mr)
          have f9 := rf.f9 f (List.mem_filter.mp mf).1
          have ne : r.2.map V.str ≠ [] := fun e => by
            have h := rf.w1 r mr
            rw [List.map_eq_nil_iff.mp e] at h
            have h3 : ([] : Tm).length = 0 := rfl
            have := rf.w0
            omega
          have nf : f.2.map V.str ≠ [] := fun e => f9.1 (List.map_eq_nil_iff.mp e)
          refine ⟨_, rfl, _, rfl, r.1, f.1, _, _, rfl, rfl, SqT.of er, SqT.of hf, ?_, fun e => absurd e ne, fun _ e => absurd e nf, fun _ _ q nq => ?_⟩
          · rw [List.length_map, List.length_map, rf.w1 r mr, sizeLine_eq]
            have := rf.w9
            omega
          · rw [← List.map_append]
            exact yes q nq rfl
        · refine kk D2 Xs H7 ((s5.trans q1).trans s7) ((s5.trans q1).free nD2) hl tx ?_
          rw [ex]
          refine flat_congr fun r mr => ?_
          exact sums_ky la (lr r mr)
end
end L2.Rws
set_option Elab.async false
set_option linter.all false
set_option maxRecDepth 100000
set_option maxHeartbeats 4000000
/-! extended, nearest. -/
namespace L2.Rws
open PySem PySem.Spec PyProof.Rows L2.LawH L2.SetT L2.Frz
open L2.TxtDict (Prs2 kd)
abbrev Lk := Nat × Nat
/-- links as they stand -/
def LksAt (H : Hp) (lk : Addr) (ls : List Lk) : Prop := ∃ ts : List (Addr × Lk), H lk = some (.lst (ts.map fun t => V.ref t.1)) ∧ (∀ t ∈ ts, H t.1 = some (.tup [.int (t.2.1 : Int), .int (t.2.2 : Int)])) ∧ ts.map (·.2) = ls
theorem LksAt.same {H H' : Hp} {lk : Addr} {ls : List Lk} (h : LksAt H lk ls) (s : Same H H') : LksAt H' lk ls := let ⟨ts, a, b, c⟩ := h; ⟨ts, s _ _ a, fun t m => s _ _ (b t m), c⟩
/-- what the first link makes of rows and facts -/
def ext1 (rows F : List Tx) : List Lk → List Tm
  | [] => rows.flatMap fun r => sums (fun _ _ => true) r F
  | l :: _ => rows.flatMap fun r => sums (okAt l.1 l.2) r F
theorem len_ext0 (F : List Tx) : ∀ rows : List Tx, (rows.flatMap fun r => sums (fun _ _ => true) r F).length = rows.length * F.length
  | [] => by simp
  | r :: rows => by
    rw [List.flatMap_cons, List.length_append, len_ext0 F rows, List.length_cons, Nat.succ_mul]
    unfold sums
    rw [List.filter_eq_self.mpr fun _ _ => rfl, List.length_map]
    omega
theorem len_ext {ok : Tx → Tx → Bool} {F : List Tx} (h : F.length ≤ 60) : ∀ rows : List Tx, (rows.flatMap fun r => sums ok r F).length ≤ rows.length * 60
  | [] => Nat.le_refl _
  | r :: rows => by
    have h1 : (sums ok r F).length ≤ 60 := by
      unfold sums
      rw [List.length_map]
      exact Nat.le_trans (List.length_filter_le _ _) h
    have := len_ext (ok := ok) h rows
    rw [List.flatMap_cons, List.length_append, List.length_cons, Nat.succ_mul]
    omega
theorem cat_read {K : PySem.W.Frag} {H : Hp} {r f : Tx} {Yes : VK} (er : H r.1 = some (.tup (r.2.map V.str))) (ef : H f.1 = some (.tup (f.2.map V.str))) (r0 : r.2 ≠ []) (f0 : f.2 ≠ []) (r9 : r.2.length ≤ 1000) (f9 : f.2.length ≤ 10)
    (k : ∀ p, H p = none → Yes (.ref p) (upd H p (.tup ((r.2 ++ f.2).map V.str)))) : rCatA K (.ref r.1) (.ref f.1) H Yes := by
  refine ⟨r.1, f.1, _, _, rfl, rfl, SqT.of er, SqT.of ef, ?_, fun e => absurd (List.map_eq_nil_iff.mp e) r0, fun _ e => absurd (List.map_eq_nil_iff.mp e) f0, fun _ _ p np => ?_⟩
  · rw [List.length_map, List.length_map, sizeLine_eq]
    omega
  · rw [← List.map_append]
    exact k p np
theorem RF.r0 {H : Hp} {l1 l2 : Addr} {rows F : List Tx} {w : Nat} (rf : RF H l1 l2 rows F w) {r : Tx} (mr : r ∈ rows) : r.2 ≠ [] := fun e => by
  have h := rf.w1 r mr
  rw [e] at h
  have h3 : ([] : Tm).length = 0 := rfl
  have := rf.w0
  omega
abbrev sExt : Stmt := top 26
def spExt : Sp := fun vs H Q _ => ∃ (l1 l2 lk : Addr) (rows F : List Tx) (ls : List Lk) (w most : Nat), vs = [.ref l1, .ref l2, .ref lk, .int (most : Int)] ∧ RF H l1 l2 rows F w ∧ LksAt H lk ls ∧ (∀ l ∈ ls, (∀ f ∈ F, l.1 < f.2.length) ∧ l.2 < w) ∧ (ext1 rows F ls).length ≤ most ∧
  ∀ (l : Addr) (Xs : List Tx) (H' : Hp), Same H H' → H l = none → H' l = some (.lst (refs Xs)) → TxsAt H' Xs → Xs.map (·.2) = ext1 rows F ls → Q (.ref l) H'
section
variable {P : Program} {w : World} {K : PySem.W.Frag} {mg : Str → Option Value} {base : Heap}
abbrev nEx : List Str := ["rows", "facts", "links", "most", "many", "at", "place", "row", "fact"]
theorem scEx : FnScope nEx ["rows", "facts", "links", "most"] (defScope sExt) := ⟨rfl, rfl, rfl, by decide +kernel, rfl, by decide +kernel, by decide +kernel⟩
theorem ok_ext {f fI : Addr} {fd fdI : FuncData} (F : Fun K "extended" "extended" sExt f fd)
    (GI : FnOk P w K mg base CX0 1 fI fdI ["rows", "facts", "at", "place", "most"] spIndexed) (kI : PySem.W.keepIn K (.ref fI) = true) (bI : Binds K fdI ["rows", "facts", "at", "place", "most"] []) (mI : mg "indexed" = some (.ref fI))
    {tM : Tok} (mM : mg "MOST_PAIRS" = some (.int 100 tM)) (ml : mg "len" = none) : FnOk P w K mg base CX0 2 f fd ["rows", "facts", "links", "most"] spExt := by
  refine F.ok scEx (fun vs H Q E h => ?_) (fun cdv A outer s H vs Q E hr h => ?_)
  · obtain ⟨l1, l2, lk, rows, F, ls, w, most, rfl, _⟩ := h
    rfl
  · obtain ⟨l1, l2, lk, rows, F, ls, w, most, rfl, rf, hlk, lok, few, kk⟩ := h
    refine ⟨_, pss_cons (ps_set (i := 4) scEx.nd rfl (Or.inl rfl) (pe_op op_mul (pe_callB call_len_seq (by rfl) ml (by decide +kernel) (pa_cons (pv 0) pa_nil)) (pe_callB call_len_seq (by rfl) ml (by decide +kernel) (pa_cons (pv 1) pa_nil))))
      (pss_cons (ps_if (pt_not (pt_truth (pv 2) (by intro _; rfl))) (pss_one (ps_ret (pe_ifExp (pt_cmpR op_gt (pv 4) (pv 3) (nomark _)) pe_non
          (pe_lc2 (own := [("row", 7), ("fact", 8)]) (vs1 := [8]) (g := gName 7) (g1 := gName 8) (tt := tYes) (tt1 := tYes) rfl scEx.nd (pi_list (pv 0)) (blkOk_by (own := [("row", 7), ("fact", 8)]) (N := nEx) (sc := defScope sExt) (by decide +kernel)) (by decide)
            (fun _ _ _ _ _ => pg_name (i := 7) scEx.nd rfl (Or.inl rfl)) (fun _ _ _ _ _ => pts_nil) (fun _ _ _ _ _ => pi_listK (K := K) rfl (pv 1))
            (fun _ _ _ _ _ => pg_name (i := 8) scEx.nd rfl (Or.inl rfl)) (fun _ _ _ _ _ => pts_nil) (fun _ _ _ _ _ => pe_op (op_catAK (K := K) rfl) (pv 7) (pv 8)))))) pss_nil)
      (pss_cons (ps_asg (pe_ix ix_list (pv 2) pe_int (fun _ _ => rfl)) (pg_tup (by rfl) (pgs_cons (pg_name (i := 5) scEx.nd rfl (Or.inr rfl)) (pgs_cons (pg_name (i := 6) scEx.nd rfl (Or.inr rfl)) pgs_nil))))
      (pss_cons (ps_if (pt_cmpR op_gt (pv 4) (pe_glob (v := .int 100) (by rfl) mM ⟨_, rfl⟩) (nomark _))
          (pss_one (ps_ret (pe_call GI hr (by rfl) mI kI bI .nil pass0 (pa_cons (pv 0) (pa_cons (pv 1) (pa_cons (pv 5) (pa_cons (pv 6) (pa_cons (pv 3) pa_nil)))))))) pss_nil)
      (pss_one (ps_ret (pe_lc2 (own := [("row", 7), ("fact", 8)]) (vs1 := [8]) (g := gName 7) (g1 := gName 8) (tt := tYes) (tt1 := tB (tOp rEq (tOp (rIxT K) (tVar 8) (tVar 5)) (tOp (rIxT K) (tVar 7) (tVar 6)))) rfl scEx.nd (pi_list (pv 0)) (blkOk_by (own := [("row", 7), ("fact", 8)]) (N := nEx) (sc := defScope sExt) (by decide +kernel)) (by decide)
          (fun _ _ _ _ _ => pg_name (i := 7) scEx.nd rfl (Or.inl rfl)) (fun _ _ _ _ _ => pts_nil) (fun _ _ _ _ _ => pi_listK (K := K) rfl (pv 1))
          (fun _ _ _ _ _ => pg_name (i := 8) scEx.nd rfl (Or.inl rfl)) (fun _ _ _ _ _ => pts_one (pt_cmpR op_eq (pe_ix (ix_tupK (K := K) rfl) (pv 8) (pv 5) (fun _ _ => rfl)) (pe_ix (ix_tupK (K := K) rfl) (pv 7) (pv 6) (fun _ _ => rfl)) (nomark _)))
          (fun _ _ _ _ _ => pe_op (op_catAK (K := K) rfl) (pv 7) (pv 8)))))))), ?_⟩
    have n1 := rf.n1
    have n2 := rf.n2
    have e1 : ((refs rows).length : Int) = (rows.length : Int) := by rw [List.length_map]
    have e2 : ((refs F).length : Int) = (F.length : Int) := by rw [List.length_map]
    refine ⟨_, rfl, l1, _, rfl, .inl (SqL.of rf.h1), _, rfl, l2, _, rfl, .inl (SqL.of rf.h2), _, _, rfl, rfl, .inl ⟨by omega, by omega⟩, ?_⟩
    obtain ⟨ts, t1, t2, t3⟩ := hlk
    refine ⟨_, rfl, _, .inl ⟨_, SqL.of t1, rfl⟩, ?_⟩
    cases ts with
    | nil =>
      have els : ls = [] := t3.symm
      subst els
      refine iteT ?_
      have em : ((refs rows).length : Int) * ((refs F).length : Int) = ((rows.length * F.length : Nat) : Int) := by rw [e1, e2]; simp
      have few : rows.length * F.length ≤ most := by
        rw [← len_ext0]
        exact few
      refine ⟨_, rfl, _, rfl, _, _, rfl, rfl, _, rfl, ifF (decide_eq_false (by rw [em]; omega)) ?_⟩
      refine ⟨_, rfl, l1, rfl, ⟨_, SqL.of rf.h1⟩, fun D nD => ?_⟩
      refine lc2_rows (L2.walk_list (K := K)) (List.length_map _) (i := 7) (j := 8) (Fr := fun _ => F) (ok := fun _ _ => true) nD (by have := len_ext (ok := fun _ _ => true) n2 rows; omega) (fun H' s' => SqL.of (s' _ _ rf.h1)) (fun x => rfl) (fun σ2 x => by simp [wipe]) (fun r mr H7 R s7 hD7 go => ?_) (fun r mr f mf H7 Yes No s7 hf yes no => ?_) (fun H7 Xs s7 hl tx ex => ?_)
      · refine ⟨_, rfl, l2, rfl, ⟨_, SqL.of (s7 _ _ rf.h2)⟩, go _ _ (fun H' => SqL K H' l2 (refs F)) (L2.walk_list (K := K)) (Same.refl _) (fun H' k => SqL.of (k _ _ (s7 _ _ rf.h2) (ne_of_none rf.h2 nD))) (rf.t2.same s7)⟩
      · dsimp only [tYes]
        rw [if_pos rfl]
        exact ⟨_, rfl, _, rfl, cat_read (s7 _ _ (rf.t1 r mr)) hf (rf.r0 mr) (rf.f9 f mf).1 (by rw [rf.w1 r mr]; exact rf.w9) (rf.f9 f mf).2 fun p np => yes p np rfl⟩
      · exact kk D Xs H7 s7 nD hl tx ex
    | cons t ts =>
      obtain ⟨l, ls', rfl⟩ : ∃ l ls', ls = l :: ls' := ⟨_, _, t3.symm⟩
      have el : t.2 = l := by
        rw [List.map_cons] at t3
        injection t3
      have ht := t2 t List.mem_cons_self
      rw [el] at ht
      obtain ⟨la, lp⟩ := lok l List.mem_cons_self
      refine iteF ?_
      refine ⟨_, rfl, lk, _, 0, _, rfl, rfl, SqL.of t1, atI_nat (j := 0) rfl, t.1, _, rfl, SqT.of ht, rfl, _, _, rfl, _, _, rfl, rfl, ?_⟩
      refine ⟨_, rfl, _, _, rfl, rfl, _, rfl, ?_⟩
      refine ite2 (fun _ => ?_) (fun _ => ?_)
      · exact ⟨_, rfl, _, rfl, _, rfl, _, rfl, _, rfl, l1, l2, rows, F, w, l.1, l.2, most, rfl, rf, la, lp, few, fun l' Xs H' s nl hl tx ex => kk l' Xs H' s nl hl tx ex⟩
      · refine ⟨_, rfl, l1, rfl, ⟨_, SqL.of rf.h1⟩, fun D nD => ?_⟩
        refine lc2_rows (L2.walk_list (K := K)) (List.length_map _) (i := 7) (j := 8) (Fr := fun _ => F) (ok := okAt l.1 l.2) nD (by have := len_ext (ok := okAt l.1 l.2) n2 rows; omega) (fun H' s' => SqL.of (s' _ _ rf.h1)) (fun x => rfl) (fun σ2 x => by simp [wipe]) (fun r mr H7 R s7 hD7 go => ?_) (fun r mr f mf H7 Yes No s7 hf yes no => ?_) (fun H7 Xs s7 hl tx ex => ?_)
        · refine ⟨_, rfl, l2, rfl, ⟨_, SqL.of (s7 _ _ rf.h2)⟩, go _ _ (fun H' => SqL K H' l2 (refs F)) (L2.walk_list (K := K)) (Same.refl _) (fun H' k => SqL.of (k _ _ (s7 _ _ rf.h2) (ne_of_none rf.h2 nD))) (rf.t2.same s7)⟩
        · have er := s7 _ _ (rf.t1 r mr)
          have eu : f.2[l.1]? = some (f.2[l.1]'(la f mf)) := List.getElem?_eq_getElem _
          have lr : l.2 < r.2.length := by rw [rf.w1 r mr]; exact lp
          have ev : r.2[l.2]? = some (r.2[l.2]'lr) := List.getElem?_eq_getElem _
          refine ⟨_, rfl, _, rfl, f.1, _, _, _, rfl, rfl, SqT.of hf, atI_nat (j := l.1) (by rw [List.getElem?_map, eu]; rfl), _, rfl, _, rfl, r.1, _, _, _, rfl, rfl, SqT.of er, atI_nat (j := l.2) (by rw [List.getElem?_map, ev]; rfl), rfl, _, rfl, ?_⟩
          rw [str_dec]
          have eo : okAt l.1 l.2 r f = decide (f.2[l.1]'(la f mf) = r.2[l.2]'lr) := by
            unfold okAt
            rw [eu, ev]
            simp
          refine ite2 (fun e => ?_) (fun e => no (by rw [eo]; simpa using e))
          exact ⟨_, rfl, _, rfl, cat_read er hf (rf.r0 mr) (rf.f9 f mf).1 (by rw [rf.w1 r mr]; exact rf.w9) (rf.f9 f mf).2 fun p np => yes p np (by rw [eo]; exact e)⟩
        · exact kk D Xs H7 s7 nD hl tx ex
end
end L2.Rws
set_option Elab.async false
set_option linter.all false
set_option maxRecDepth 100000
set_option maxHeartbeats 4000000
/-! nearest. -/
namespace L2.Rws
open PySem PySem.Spec PyProof.Rows L2.LawH L2.SetT L2.Frz
open L2.TxtDict (Prs2 kd)
/-- what waits: a tuple of a number, a pattern, its facts -/
structure En where
  e : Addr
  P : Tx
  l : Addr
  F : List Tx
structure EnAt (H : Hp) (n : En) : Prop where
  he : H n.e = some (.tup [.int (n.F.length : Int), .ref n.P.1, .ref n.l])
  hP : PtR H n.P.1 n.P.2
  hl : H n.l = some (.lst (refs n.F))
  tF : TxsAt H n.F
theorem EnAt.same {H H' : Hp} {n : En} (h : EnAt H n) (s : Same H H') : EnAt H' n := ⟨s _ _ h.he, h.hP.same s, s _ _ h.hl, h.tF.same s⟩
def kdI (Pl : List (Str × Nat)) : List (Key × V) := Pl.map fun q => ((Sum.inr q.1 : Key), V.int (q.2 : Int))
theorem pi_tupK {X : Cx} {K : PySem.W.Frag} (e : X.K = K) {tg l : Expr} {tl : TE} (hl : PE X l tl) : PI X tg l (iTup K tl) := by
  subst e
  exact pi_tup hl
abbrev sNear : Stmt := top 24
def spNear : Sp := fun vs H Q _ => ∃ (w d : Addr) (ens : List En) (Pl : List (Str × Nat)), vs = [.ref w, .ref d] ∧ H w = some (.lst (ens.map fun n => V.ref n.e)) ∧ (∀ n ∈ ens, EnAt H n) ∧ (∀ n ∈ ens, n.P.2.length ≤ 10) ∧ H d = some (.dK (kdI Pl)) ∧
  ∀ (j : Nat) (H' : Hp), Same H H' → (j < ens.length ∨ j = 0) → Q (.int (j : Int)) H'
section
variable {P : Program} {w : World} {K : PySem.W.Frag} {mg : Str → Option Value} {base : Heap}
abbrev nNe : List Str := ["waiting", "places", "index", "entry", "term"]
theorem scNe : FnScope nNe ["waiting", "places"] (defScope sNear) := ⟨rfl, rfl, rfl, by decide +kernel, rfl, by decide +kernel, by decide +kernel⟩
theorem ok_near {f : Addr} {fd : FuncData} (F : Fun K "nearest" "nearest" sNear f fd) (me : mg "enumerate" = none) (ma : mg "any" = none) : FnOk P w K mg base CX0 1 f fd ["waiting", "places"] spNear := by
  refine F.ok scNe (fun vs H Q E h => ?_) (fun cdv A outer s H vs Q E hr h => ?_)
  · obtain ⟨w, d, ens, Pl, rfl, _⟩ := h
    rfl
  · obtain ⟨w, d, ens, Pl, rfl, hw, hen, lp, hd, kk⟩ := h
    have hu1 := hu_of hr
    refine ⟨_, pss_cons (ps_for PassesOwn.never rfl (pi_enum (by rfl) me (pa_cons (pv 0) pa_nil)) (pg_tup (by rfl) (pgs_cons (pg_name (i := 2) scNe.nd rfl (Or.inl rfl)) (pgs_cons (pg_name (i := 3) scNe.nd rfl (Or.inl rfl)) pgs_nil)))
        (pss_one (ps_if (pt_val (pe_callB (cr_any rfl) (by rfl) ma (by decide +kernel) (pa_cons (pe_lc (own := [("term", 4)]) (g := gName 4) (tt := tYes) rfl scNe.nd (pi_tup (pe_ix ix_tup (pv 3) pe_int (fun _ _ => rfl)))
          (blkOk_by (own := [("term", 4)]) (N := nNe) (sc := defScope sNear) (by decide +kernel)) (fun _ _ _ _ _ => pg_name (i := 4) scNe.nd rfl (Or.inl rfl)) (fun _ _ _ _ _ => pts_nil) (fun _ _ _ _ _ => pe_cmp (pc_din hu1 (pv 4) (pv 1)))) pa_nil)))
          (pss_one (ps_ret (pv 2))) pss_nil)))
      (pss_one (ps_ret pe_int)), ?_⟩
    refine ⟨_, rfl, w, _, rfl, SqL.of hw, for_it (L2.walk_enum (K := K)) (fun i σ H5 => ∃ v2 v3 : Option V, σ = [some (.ref w), some (.ref d), v2, v3, none] ∧ Same H H5) ⟨none, none, rfl, Same.refl _⟩ (fun i σ H5 _ pp => let ⟨_, _, _, s⟩ := pp; SqL.of (s _ _ hw)) (fun i z σ H5 H6 hi pp yy => ?_) (fun σ H5 pp => ?_)⟩
    · obtain ⟨v2, v3, rfl, s5⟩ := pp
      obtain ⟨T, x, y, rfl, nT, rfl, ex, ey⟩ := yy
      have ex : x = .int (i : Nat) := (Option.some.inj ex).symm
      subst ex
      dsimp only at ey
      rw [List.getElem?_map] at ey
      obtain ⟨n, en, rfl⟩ := Option.map_eq_some_iff.mp ey
      have mn := List.mem_of_getElem? en
      have s6 : Same H5 (upd H5 T (.tup [V.int (i : Nat), V.ref n.e])) := same_new nT
      have c6 : (upd H5 T (.tup [V.int (i : Nat), V.ref n.e])) T = some (.tup [V.int (i : Nat), V.ref n.e]) := upd_same
      generalize upd H5 T (.tup [V.int (i : Nat), V.ref n.e]) = H6 at s6 c6 ⊢
      have s56 := s5.trans s6
      have en6 := (hen n mn).same s56
      have hd6 := s56 _ _ hd
      refine ⟨T, _, rfl, SqT.of c6, rfl, _, _, rfl, _, _, rfl, rfl, ?_⟩
      refine ⟨_, rfl, n.e, _, 1, _, rfl, rfl, SqT.of en6.he, atI_nat (j := 1) rfl, n.P.1, rfl, ⟨_, en6.hP.sq⟩, fun D nD => ?_⟩
      have lP := lp n mn
      refine lc_it (L2.walk_tup (K := K)) (fun i H7 => Same H6 H7 ∧ ∃ bs : List Bool, H7 D = some (.lst (bs.map V.bl)) ∧ bs.length = i) ⟨same_new nD, [], upd_same, rfl⟩ (fun i H7 _ q => (en6.hP.same q.1).sq) (fun j z H7' H7 hj q y => ?_) (fun H7 q => ?_)
      · obtain ⟨rfl, hz⟩ := y
        obtain ⟨q1, bs, q2, q3⟩ := q
        rw [List.getElem?_map] at hz
        obtain ⟨t, ht, rfl⟩ := Option.map_eq_some_iff.mp hz
        have hj : j < n.P.2.length := by rw [List.length_map] at hj; exact hj
        refine ⟨rfl, ?_⟩
        dsimp only [tYes]
        rw [if_pos rfl]
        refine ⟨_, rfl, _, rfl, d, _, rfl, DGet.k (k := Sum.inr t) (q1 _ _ hd6), _, q2, by rw [List.length_map, sizeLine_eq]; omega, fun b o e => ?_, bs ++ [_], by rw [upd_same, List.map_append]; rfl, by rw [List.length_append, q3]; rfl⟩
        rw [upd_ne (ne_of_none e nD)]
        exact q1 _ _ e
      · obtain ⟨q1, bs, q2, _⟩ := q
        refine ⟨D, bs, rfl, SqL.of q2, _, rfl, ?_⟩
        have hi : i < ens.length := by rw [List.length_map] at hi; exact hi
        exact ite2 (fun _ => ⟨_, rfl, kk i H7 (s56.trans q1) (.inl hi)⟩) (fun _ => ⟨_, _, rfl, s56.trans q1⟩)
    · obtain ⟨v2, v3, rfl, s5⟩ := pp
      exact kk 0 H5 s5 (.inr rfl)
end
end L2.Rws
set_option Elab.async false
set_option linter.all false
set_option maxRecDepth 100000
set_option maxHeartbeats 4000000
/-! all_fitting; what fits alone. -/
namespace L2.Rws
open PySem PySem.Spec PyProof.Rows L2.LawH L2.SetT L2.Frz
open L2.TxtDict (Prs2 kd)
/-- the facts that fit a pattern alone -/
def fitsOf (xs : List Tx) (kn : Prs2) (P : Tm) : List Tx := xs.filter fun x => ofShp (shp P) x && fitB kn P x.2
/-- facts that stand in a store -/
structure FctsOk (xs : List Tx) (cs : List Str) : Prop where
  nd : (xs.map (·.2)).Nodup
  few : xs.length ≤ 60
  each : ∀ x ∈ xs, x.2 ≠ [] ∧ x.2.length ≤ 10
  con : ∀ x ∈ xs, ∀ z ∈ x.2.tail, z ∈ cs
def KnOk (kn : Prs2) : Prop := ∀ z v, look kn z = some v → isV z = true
theorem map_shp {P : Tm} {μ : Str → Str} {kn : Prs2} (okP : TmOk P) (h : Ext kn μ) : shp (P.map μ) = shp P := by
  obtain ⟨T, ts, rfl⟩ : ∃ T ts, P = T :: ts := by
    cases e : P with
    | nil => exact absurd e okP.ne
    | cons T ts => exact ⟨T, ts, rfl⟩
  unfold shp
  rw [List.length_map, List.map_cons]
  show (μ T, _) = (T, _)
  rw [h.con T (okP.hd T rfl)]
theorem shp_hd {P f : Tm} (h : shp f = shp P) (nf : f ≠ []) (nP : P ≠ []) : P[0]? = f[0]? := by
  cases P with
  | nil => exact absurd rfl nP
  | cons T ts =>
    cases f with
    | nil => exact absurd rfl nf
    | cons U us =>
      unfold shp at h
      injection h with h1 _
      have : U = T := h1
      rw [this]
      rfl
theorem fits_mem {xs : List Tx} {cs : List Str} {kn : Prs2} {P : Tm} (ok : FctsOk xs cs) (okP : TmOk P) (hk : KnOk kn) (f : Tm) : f ∈ (fitsOf xs kn P).map (·.2) ↔ ∃ μ, Ext kn μ ∧ P.map μ ∈ xs.map (·.2) ∧ f = P.map μ := by
  unfold fitsOf
  constructor
  · intro h
    obtain ⟨x, mx, rfl⟩ := List.mem_map.mp h
    obtain ⟨m, e⟩ := List.mem_filter.mp mx
    obtain ⟨e1, e2⟩ := Bool.and_eq_true_iff.mp e
    have sx : shp x.2 = shp P := of_decide_eq_true e1
    obtain ⟨μ, hμ, e⟩ := (fit_iff (shp_len sx) (shp_hd sx (ok.each x m).1 okP.ne) okP.hd hk).mp e2
    exact ⟨μ, hμ, by rw [e]; exact List.mem_map_of_mem m, e.symm⟩
  · rintro ⟨μ, hμ, m, rfl⟩
    obtain ⟨x, mx, ex⟩ := List.mem_map.mp m
    refine List.mem_map.mpr ⟨x, List.mem_filter.mpr ⟨mx, ?_⟩, ex⟩
    have sx : shp x.2 = shp P := by rw [ex]; exact map_shp okP hμ
    rw [show ofShp (shp P) x = true from decide_eq_true sx, Bool.true_and]
    exact (fit_iff (shp_len sx) (shp_hd sx (ok.each x mx).1 okP.ne) okP.hd hk).mpr ⟨μ, hμ, ex.symm⟩
theorem fits_nd {xs : List Tx} {cs : List Str} {kn : Prs2} {P : Tm} (ok : FctsOk xs cs) : ((fitsOf xs kn P).map (·.2)).Nodup := by
  unfold fitsOf
  exact (List.filter_sublist.map _).nodup ok.nd
/-- a pattern with its facts, as all_fitting tells it -/
structure FE where
  e : Addr
  P : Tx
  l : Addr
structure FEAt (xs : List Tx) (kn : Prs2) (H : Hp) (n : FE) : Prop where
  he : H n.e = some (.tup [.ref n.P.1, .ref n.l])
  hl : H n.l = some (.lst (refs (fitsOf xs kn n.P.2)))
theorem FEAt.same {xs : List Tx} {kn : Prs2} {H H' : Hp} {n : FE} (h : FEAt xs kn H n) (s : Same H H') : FEAt xs kn H' n := ⟨s _ _ h.he, s _ _ h.hl⟩
abbrev sAllF : Stmt := top 27
def spAllF : Sp := fun vs H Q _ => ∃ (q g k : Addr) (ps xs : List Tx) (gs : List Grp) (kn : Prs2), vs = [.ref q, .ref g, .ref k] ∧ (H q = some (.lst (refs ps)) ∨ H q = some (.tup (refs ps))) ∧ (∀ p ∈ ps, PtR H p.1 p.2 ∧ TmOk p.2) ∧ ps.length ≤ 60 ∧ GrpAt H g xs gs ∧ TxsAt H xs ∧ xs.length ≤ 60 ∧ MapAt H k kn ∧
  ((∃ p ∈ ps, fitsOf xs kn p.2 = []) → ∀ H', Same H H' → Q .non H') ∧
  ∀ (l : Addr) (fs : List FE) (H' : Hp), Same H H' → H' l = some (.lst (fs.map fun n => V.ref n.e)) → (∀ n ∈ fs, FEAt xs kn H' n) → fs.map (·.P) = ps → (∀ p ∈ ps, fitsOf xs kn p.2 ≠ []) → Q (.ref l) H'
section
variable {P : Program} {w : World} {K : PySem.W.Frag} {mg : Str → Option Value} {base : Heap}
abbrev nAF : List Str := ["lot", "groups", "known", "found", "pattern", "facts"]
theorem scAF : FnScope nAF ["lot", "groups", "known"] (defScope sAllF) := ⟨rfl, rfl, rfl, by decide +kernel, rfl, by decide +kernel, by decide +kernel⟩
theorem ok_allF {f fF : Addr} {fd fdF : FuncData} (F : Fun K "all_fitting" "all_fitting" sAllF f fd)
    (GF : FnOk P w K mg base CX0 1 fF fdF ["pattern", "groups", "known"] spFit) (kF : PySem.W.keepIn K (.ref fF) = true) (bF : Binds K fdF ["pattern", "groups", "known"] []) (mF : mg "fitting" = some (.ref fF)) :
    FnOk P w K mg base CX0 2 f fd ["lot", "groups", "known"] spAllF := by
  refine F.ok scAF (fun vs H Q E h => ?_) (fun cdv A outer s H vs Q E hr h => ?_)
  · obtain ⟨q, g, k, ps, xs, gs, kn, rfl, _⟩ := h
    rfl
  · obtain ⟨q, g, k, ps, xs, gs, kn, rfl, hq, hps, fewp, hg, hxs, few, hk, bad, good⟩ := h
    refine ⟨_, pss_cons (ps_set (i := 3) scAF.nd rfl (Or.inl rfl) (pe_lst pa_nil))
      (pss_cons (ps_for PassesOwn.never rfl (pi_seq (pv 0)) (pg_name (i := 4) scAF.nd rfl (Or.inl rfl))
        (pss_cons (ps_set (i := 5) scAF.nd rfl (Or.inl rfl) (pe_call GF hr (by rfl) mF kF bF .nil pass0 (pa_cons (pv 4) (pa_cons (pv 1) (pa_cons (pv 2) pa_nil)))))
        (pss_cons (ps_if (pt_not (pt_truth (pv 5) (by intro _; rfl))) (pss_one (ps_ret pe_non)) pss_nil)
        (pss_one (ps_expr (pe_bm PySem.F.plainAttrs_list PySem.F.slot_list_append PySem.F.type_list_append mt_append (pv 3) (pa_cons (pe_tup (pa_cons (pv 4) (pa_cons (pv 5) pa_nil))) pa_nil)))))))
      (pss_one (ps_ret (pv 3)))), ?_⟩
    refine ⟨by show 0 ≤ sizeLine; decide, fun D nD => ?_⟩
    have s0 : Same H (upd H D (.lst [])) := same_new nD
    have c0 : (upd H D (.lst [])) D = some (.lst []) := upd_same
    generalize upd H D (.lst []) = H0 at s0 c0 ⊢
    refine ⟨_, rfl, q, rfl, for_seqB (Hb := H) hq (fun i σ H5 => ∃ (v4 v5 : Option V) (fs : List FE), σ = [some (.ref q), some (.ref g), some (.ref k), some (.ref D), v4, v5] ∧ Same H H5 ∧ H5 D = some (.lst (fs.map fun n => V.ref n.e)) ∧ (∀ n ∈ fs, FEAt xs kn H5 n ∧ n.l ≠ D) ∧ fs.map (·.P) = ps.take i ∧ ∀ p ∈ ps.take i, fitsOf xs kn p.2 ≠ [])
      ⟨none, none, [], rfl, s0, c0, fun n m => (nomatch m), rfl, fun p m => (by simp at m)⟩ (fun i σ H5 p => let ⟨_, _, _, _, s, _⟩ := p; s) (fun i z σ H5 hz pp => ?_) (fun σ H5 pp => ?_)⟩
    · obtain ⟨v4, v5, fs, rfl, s5, hD, hfs, efs, nfs⟩ := pp
      rw [List.getElem?_map] at hz
      obtain ⟨p, hp, rfl⟩ := Option.map_eq_some_iff.mp hz
      have mp := List.mem_of_getElem? hp
      obtain ⟨pr, okp⟩ := hps p mp
      refine ⟨_, rfl, _, rfl, _, rfl, p.1, g, k, p.2, xs, gs, kn, rfl, pr.same s5, okp, hg.same s5, hxs.same s5, few, hk.same s5, fun l H6 s6 ol hl => ?_⟩
      refine ⟨_, rfl, _, .inl ⟨_, SqL.of hl, rfl⟩, ?_⟩
      have s56 := s5.trans s6
      refine ite2 (fun e => ?_) (fun e => ?_)
      · refine bad ⟨p, mp, ?_⟩ H6 s56
        have : (refs (fitsOf xs kn p.2)).isEmpty = true := by simpa [fitsOf] using e
        exact List.map_eq_nil_iff.mp (List.isEmpty_iff.mp this)
      · have ne : fitsOf xs kn p.2 ≠ [] := fun z => by
          apply e
          show (! (! (refs (fitsOf xs kn p.2)).isEmpty)) = true
          rw [z]
          rfl
        have hD6 := s6 _ _ hD
        refine ⟨_, rfl, .inl ⟨rfl, _, SqL.of hD6⟩, _, rfl, _, rfl, by show 2 ≤ sizeLine; decide, fun t nt => ?_⟩
        have s7 : Same H6 (upd H6 t (.tup [.ref p.1, .ref l])) := same_new nt
        have c7 : (upd H6 t (.tup [.ref p.1, .ref l])) t = some (.tup [.ref p.1, .ref l]) := upd_same
        generalize upd H6 t (.tup [.ref p.1, .ref l]) = H7 at s7 c7 ⊢
        have hD7 := s7 _ _ hD6
        have li : fs.length ≤ 60 := by
          have := congrArg List.length efs
          rw [List.length_map, List.length_take] at this
          omega
        have tD : t ≠ D := fun z => by rw [z, hD7] at c7; cases c7
        refine ⟨D, _, _, rfl, rfl, hD7, by rw [List.length_map, sizeLine_eq]; omega, ?_⟩
        have kD : ∀ b o, b ≠ D → H7 b = some o → (upd H7 D (.lst (fs.map (fun n => V.ref n.e) ++ [.ref t]))) b = some o := fun b o nb e => by
          rw [upd_ne nb]
          exact e
        have lD : l ≠ D := by
          rcases ol with e | m
          · exact (ne_of_none hD e).symm
          · obtain ⟨g', mg, rfl⟩ := List.mem_map.mp m
            exact ne_of_none (hg.each g' mg) nD
        have stay : ∀ n : FE, FEAt xs kn H7 n → n.l ≠ D → FEAt xs kn (upd H7 D (.lst (fs.map (fun n => V.ref n.e) ++ [.ref t]))) n := fun n h1 h2 => by
          refine ⟨kD _ _ (fun z => ?_) h1.he, kD _ _ h2 h1.hl⟩
          have := h1.he
          rw [z, hD7] at this
          cases this
        refine ⟨_, _, fs ++ [⟨t, p, l⟩], rfl, fun b o e => ?_, by rw [upd_same, List.map_append]; rfl, fun n m => ?_, by rw [List.map_append, efs, take_snoc hp]; rfl, fun p' m => ?_⟩
        · exact kD _ _ (ne_of_none e nD) (s7 _ _ (s56 _ _ e))
        · rcases List.mem_append.mp m with m | m
          · obtain ⟨g1, g2⟩ := hfs n m
            exact ⟨stay n ((g1.same s6).same s7) g2, g2⟩
          · rw [List.mem_singleton.mp m]
            exact ⟨stay _ ⟨c7, s7 _ _ hl⟩ lD, lD⟩
        · rw [take_snoc hp] at m
          rcases List.mem_append.mp m with m | m
          · exact nfs p' m
          · rw [List.mem_singleton.mp m]
            exact ne
    · obtain ⟨v4, v5, fs, rfl, s5, hD, hfs, efs, nfs⟩ := pp
      rw [show (refs ps).length = ps.length from List.length_map _, List.take_length] at efs nfs
      exact ⟨_, rfl, good D fs H5 s5 hD (fun n m => (hfs n m).1) efs nfs⟩
end
end L2.Rws
set_option Elab.async false
set_option linter.all false
set_option maxRecDepth 100000
set_option maxHeartbeats 4000000
/-! One pattern more: places, links, rows; no Python here. -/
namespace L2.Rws
open PySem PySem.Spec PyProof.Rows L2.LawH
open L2.TxtDict (Prs2 kd)
abbrev Pls := List (Str × Nat)
theorem val_kdI : ∀ (Pl : Pls) (z : Str), valV (kdI Pl) (Sum.inr z : Key) = (Pl.find? fun q => decide (q.1 = z)).map fun q => V.int (q.2 : Int)
  | [], _ => rfl
  | q :: Pl, z => by
    rw [List.find?_cons]
    by_cases e : q.1 = z
    · rw [show kdI (q :: Pl) = ((Sum.inr q.1 : Key), V.int (q.2 : Int)) :: kdI Pl from rfl, valV_pos (by rw [e]), decide_eq_true e]
      rfl
    · rw [show kdI (q :: Pl) = ((Sum.inr q.1 : Key), V.int (q.2 : Int)) :: kdI Pl from rfl, valV_neg (fun y => e (by injection y)), decide_eq_false e]
      exact val_kdI Pl z
theorem put_kdI {Pl : Pls} {z : Str} {p : Nat} (h : Pl.find? (fun q => decide (q.1 = z)) = none) : putK (kdI Pl) (Sum.inr z : Key) (V.int (p : Int)) = kdI (Pl ++ [(z, p)]) := by
  unfold putK
  rw [if_neg]
  · unfold kdI
    rw [List.map_append]
    rfl
  · rw [valV_any, val_kdI, h]
    simp
theorem pl_one {Pl : Pls} (nd : (Pl.map Prod.fst).Nodup) {z : Str} {p p' : Nat} (m : (z, p) ∈ Pl) (m' : (z, p') ∈ Pl) : p = p' := by
  induction Pl with
  | nil => cases m
  | cons a r ih =>
    rw [List.map_cons, List.nodup_cons] at nd
    rcases List.mem_cons.mp m with e | m2
    · rcases List.mem_cons.mp m' with e' | m3
      · rw [← e] at e'
        injection e' with _ e'
        exact e'.symm
      · exact absurd (List.mem_map_of_mem (f := Prod.fst) m3) (by rw [← e] at nd; exact nd.1)
    · rcases List.mem_cons.mp m' with e' | m3
      · exact absurd (List.mem_map_of_mem (f := Prod.fst) m2) (by rw [← e'] at nd; exact nd.1)
      · exact ih nd.2 m2 m3
/-- behind the first i items of a pattern -/
structure LInv (kn : Prs2) (Pl0 : Pls) (w : Nat) (P : Tm) (i : Nat) (Pl : Pls) (ls : List Lk) : Prop where
  sub : ∀ q ∈ Pl0, q ∈ Pl
  new : ∀ q ∈ Pl, q ∈ Pl0 ∨ ∃ a, q.2 = w + a ∧ P[a]? = some q.1 ∧ fr kn q.1 = true
  nd : (Pl.map Prod.fst).Nodup
  all : ∀ z ∈ P.take i, fr kn z = true → ∃ p, (z, p) ∈ Pl
  lks : ∀ l, l ∈ ls ↔ l.1 < i ∧ ∃ z, P[l.1]? = some z ∧ (z, l.2) ∈ Pl0
  len : Pl.length ≤ Pl0.length + i
  ln : ls.length ≤ i
theorem PlcAt.lt {kn : Prs2} {W : Tm} {Pl : Pls} (h : PlcAt kn W Pl) {q : Str × Nat} (m : q ∈ Pl) : q.2 < W.length := by
  have := (h.at_ q m).1
  rcases Nat.lt_or_ge q.2 W.length with h | h
  · exact h
  · rw [List.getElem?_eq_none_iff.mpr h] at this
    cases this
theorem LInv.start {kn : Prs2} {W : Tm} {Pl0 : Pls} {P : Tm} (h : PlcAt kn W Pl0) (h0 : ∀ z, P[0]? = some z → isV z = false) : LInv kn Pl0 W.length P 1 Pl0 [] := by
  refine ⟨fun q m => m, fun q m => .inl m, h.nd, fun z m e => ?_, fun l => ⟨fun m => (nomatch m), fun ⟨lt, z, e1, e2⟩ => ?_⟩, by omega, by show 0 ≤ 1; omega⟩
  · cases P with
    | nil => cases m
    | cons T ts =>
      have : z = T := by simpa using m
      unfold fr at e
      rw [this, h0 T rfl] at e
      cases e
  · have l0 : l.1 = 0 := by omega
    rw [l0] at e1
    have := (h.at_ _ e2).2
    unfold fr at this
    rw [h0 z e1] at this
    cases this
/-- an item that is no free variable -/
theorem LInv.skip {kn : Prs2} {W : Tm} {Pl0 Pl : Pls} {P : Tm} {i : Nat} {ls : List Lk} {z : Str} (h0 : PlcAt kn W Pl0) (h : LInv kn Pl0 W.length P i Pl ls) (ez : P[i]? = some z) (e : fr kn z = false) : LInv kn Pl0 W.length P (i + 1) Pl ls := by
  refine ⟨h.sub, h.new, h.nd, fun y m f => ?_, fun l => ?_, by have := h.len; omega, by have := h.ln; omega⟩
  · rw [take_snoc ez] at m
    rcases List.mem_append.mp m with m | m
    · exact h.all y m f
    · rw [List.mem_singleton.mp m, e] at f
      cases f
  · rw [h.lks]
    refine ⟨fun ⟨a, b⟩ => ⟨by omega, b⟩, fun ⟨a, y, b, c⟩ => ⟨?_, y, b, c⟩⟩
    rcases Nat.lt_or_ge l.1 i with lt | ge
    · exact lt
    · have : l.1 = i := by omega
      rw [this, ez] at b
      have b := Option.some.inj b
      rw [← b, ] at c
      rw [(h0.at_ _ c).2] at e
      cases e
/-- a free variable that has a place -/
theorem LInv.old {kn : Prs2} {W : Tm} {Pl0 Pl : Pls} {P : Tm} {i : Nat} {ls : List Lk} {z : Str} {p : Nat} (h0 : PlcAt kn W Pl0) (h : LInv kn Pl0 W.length P i Pl ls) (ez : P[i]? = some z) (m : (z, p) ∈ Pl) :
    LInv kn Pl0 W.length P (i + 1) Pl (if p < W.length then ls ++ [(i, p)] else ls) := by
  have in0 : p < W.length → (z, p) ∈ Pl0 := fun lt => by
    rcases h.new _ m with q | ⟨a, e, _⟩
    · exact q
    · have e : p = W.length + a := e
      omega
  refine ⟨h.sub, h.new, h.nd, fun y my f => ?_, fun l => ?_, by have := h.len; omega, by have := h.ln; split <;> simp <;> omega⟩
  · rw [take_snoc ez] at my
    rcases List.mem_append.mp my with my | my
    · exact h.all y my f
    · rw [List.mem_singleton.mp my]
      exact ⟨p, m⟩
  · have key : l ∈ ls ∨ (p < W.length ∧ l = (i, p)) ↔ l.1 < i + 1 ∧ ∃ z, P[l.1]? = some z ∧ (z, l.2) ∈ Pl0 := by
      rw [h.lks]
      constructor
      · rintro (⟨a, b⟩ | ⟨lt, rfl⟩)
        · exact ⟨by omega, b⟩
        · exact ⟨Nat.lt_succ_self _, z, ez, in0 lt⟩
      · rintro ⟨a, y, b, c⟩
        rcases Nat.lt_or_ge l.1 i with lt | ge
        · exact .inl ⟨lt, y, b, c⟩
        · have e1 : l.1 = i := by omega
          rw [e1, ez] at b
          have b := Option.some.inj b
          rw [← b] at c
          have e2 := pl_one h.nd m (h.sub _ c)
          have lt : l.2 < W.length := h0.lt c
          exact .inr ⟨by omega, Prod.ext e1 e2.symm⟩
    rw [← key]
    split
    · rename_i lt
      rw [List.mem_append, List.mem_singleton]
      exact ⟨fun q => q.imp id fun e => ⟨lt, e⟩, fun q => q.imp id fun e => e.2⟩
    · rename_i nlt
      exact ⟨.inl, fun q => q.elim id fun e => absurd e.1 nlt⟩
/-- a free variable that gets one -/
theorem LInv.fresh {kn : Prs2} {W : Tm} {Pl0 Pl : Pls} {P : Tm} {i : Nat} {ls : List Lk} {z : Str} (h0 : PlcAt kn W Pl0) (h : LInv kn Pl0 W.length P i Pl ls) (ez : P[i]? = some z) (f : fr kn z = true) (no : Pl.find? (fun q => decide (q.1 = z)) = none) :
    LInv kn Pl0 W.length P (i + 1) (Pl ++ [(z, W.length + i)]) ls := by
  have nk : ∀ q ∈ Pl, q.1 ≠ z := fun q m e => List.find?_eq_none.mp no q m (decide_eq_true e)
  refine ⟨fun q m => List.mem_append_left _ (h.sub q m), fun q m => ?_, ?_, fun y my fy => ?_, fun l => ?_, by have := h.len; rw [List.length_append]; show Pl.length + 1 ≤ _; omega, by have := h.ln; omega⟩
  · rcases List.mem_append.mp m with m | m
    · exact h.new q m
    · rw [List.mem_singleton.mp m]
      exact .inr ⟨i, rfl, ez, f⟩
  · rw [List.map_append, List.nodup_append]
    refine ⟨h.nd, by simp, fun a ma b mb e => ?_⟩
    obtain ⟨q, mq, rfl⟩ := List.mem_map.mp ma
    have : b = z := by simpa using mb
    exact nk q mq (e.trans this)
  · rw [take_snoc ez] at my
    rcases List.mem_append.mp my with my | my
    · obtain ⟨p, mp⟩ := h.all y my fy
      exact ⟨p, List.mem_append_left _ mp⟩
    · rw [List.mem_singleton.mp my]
      exact ⟨_, List.mem_append_right _ List.mem_cons_self⟩
  · rw [h.lks]
    refine ⟨fun ⟨a, b⟩ => ⟨by omega, b⟩, fun ⟨a, y, b, c⟩ => ⟨?_, y, b, c⟩⟩
    rcases Nat.lt_or_ge l.1 i with lt | ge
    · exact lt
    · have e1 : l.1 = i := by omega
      rw [e1, ez] at b
      have b := Option.some.inj b
      exact absurd b.symm (nk _ (h.sub _ c))
theorem LInv.done {kn : Prs2} {W : Tm} {Pl0 Pl : Pls} {P : Tm} {ls : List Lk} (h0 : PlcAt kn W Pl0) (h : LInv kn Pl0 W.length P P.length Pl ls) : PlcAt kn (W ++ P) Pl ∧ ∀ l, l ∈ ls ↔ ∃ z, P[l.1]? = some z ∧ (z, l.2) ∈ Pl0 := by
  refine ⟨⟨h.nd, fun q m => ?_, fun z m e => ?_⟩, fun l => ?_⟩
  · rcases h.new q m with m0 | ⟨a, e, e2, e3⟩
    · refine ⟨?_, (h0.at_ q m0).2⟩
      rw [List.getElem?_append_left (h0.lt m0)]
      exact (h0.at_ q m0).1
    · refine ⟨?_, e3⟩
      rw [e, List.getElem?_append_right (Nat.le_add_right _ _), Nat.add_sub_cancel_left]
      exact e2
  · rcases List.mem_append.mp m with m | m
    · obtain ⟨p, mp⟩ := h0.all z m e
      exact ⟨p, h.sub _ mp⟩
    · exact h.all z (by rw [List.take_length]; exact m) e
  · rw [h.lks]
    refine ⟨fun ⟨_, b⟩ => b, fun ⟨z, b, c⟩ => ⟨?_, z, b, c⟩⟩
    rcases Nat.lt_or_ge l.1 P.length with lt | ge
    · exact lt
    · rw [List.getElem?_eq_none_iff.mpr ge] at b
      cases b
/-! ### rows where they stand -/
abbrev tms (xs : List Tx) : List Tm := xs.map (·.2)
theorem sums_tms {a p : Nat} {r : Tx} {F : List Tx} : sums (okAt a p) r F = ((tms F).filter fun f => decide (f[a]? = r.2[p]?)).map fun f => r.2 ++ f := by
  unfold sums tms okAt
  rw [List.filter_map, List.map_map]
  rfl
theorem pairs_tms {a p : Nat} {F : List Tx} : ∀ rows : List Tx, (rows.flatMap fun r => sums (okAt a p) r F) = pairs1 (tms rows) (tms F) a p
  | [] => rfl
  | r :: rows => by
    rw [List.flatMap_cons, pairs_tms rows, sums_tms]
    rfl
theorem prod_tms {F : List Tx} : ∀ rows : List Tx, (rows.flatMap fun r => sums (fun _ _ => true) r F) = prod (tms rows) (tms F)
  | [] => rfl
  | r :: rows => by
    rw [List.flatMap_cons, prod_tms rows]
    unfold sums
    rw [List.filter_eq_self.mpr fun _ _ => rfl]
    show _ = (tms F).map (fun f => r.2 ++ f) ++ prod (tms rows) (tms F)
    rw [show (tms F).map (fun f => r.2 ++ f) = F.map fun f => r.2 ++ f.2 from List.map_map ..]
/-- the rows behind all links -/
theorem ext_step {rows F : List Tx} {w : Nat} (h : ∀ r ∈ tms rows, r.length = w) : ∀ ls : List Lk, (∀ l ∈ ls, l.2 < w) → (ext1 rows F ls).filter (lkOk w (ls.drop 1)) = stepR (tms rows) (tms F) ls w
  | [], _ => by
    show (rows.flatMap fun r => sums (fun _ _ => true) r F).filter (lkOk w []) = _
    rw [prod_tms]
    rfl
  | (a, p) :: ls, hl => by
    show (rows.flatMap fun r => sums (okAt a p) r F).filter (lkOk w ls) = _
    rw [pairs_tms, stepR_cons ls h (hl (a, p) List.mem_cons_self)]
end L2.Rws
set_option Elab.async false
set_option linter.all false
set_option maxRecDepth 100000
set_option maxHeartbeats 4000000
/-! joined_rows. -/
namespace L2.Rws
open PySem PySem.Spec PyProof.Rows L2.LawH L2.SetT L2.Frz L2.NSet
open L2.TxtDict (Prs2 kd)
theorem pg_tupK {X : Cx} {K : PySem.W.Frag} (e : X.K = K) {es : List Expr} {k : Nat} {t : TGs} {n : Nat} {pos : Pos} (hc : X.calm = true) (h : PGs X es t)
    (hn : (assignEach es X.env).length = n := by rfl) (hst : (assignEach es X.env).findIdx? (·.1) = none := by rfl) : PG X (.Tuple es k pos) (gTup K n t) := by
  subst e
  exact pg_tup hc h hn hst
abbrev sJR : Stmt := top 28
theorem cutV_from (xs : List V) (k : Nat) : cutV xs (some (k : Int)) none = xs.drop k := by
  unfold cutV
  rw [HT.sIx_nat, HT.sIx_none]
  rcases Nat.le_total k xs.length with h | h
  · rw [Nat.min_eq_left h]
    refine List.take_of_length_le ?_
    rw [List.length_drop]
    omega
  · rw [Nat.min_eq_right h, List.drop_of_length_le h, List.drop_of_length_le (Nat.le_refl _), List.take_nil]
theorem seqIx {j n : Nat} (h : j < n) : seqIndex? (j : Int) n = some j := by
  unfold seqIndex?
  simp [show ¬ ((j : Int) < 0) by omega, h]
/-! ### two ways that meet again -/
theorem near_or0 {c : Bool} {σ : St} {H : Hp} {Q : VK} {wa d : Addr} {ens : List En} {Pl : Pls} (h6 : σ[6]? = some (some (.ref wa))) (h3 : σ[3]? = some (some (.ref d))) (hw : H wa = some (.lst (ens.map fun n => V.ref n.e))) (hen : ∀ n ∈ ens, EnAt H n) (lp : ∀ n ∈ ens, n.P.2.length ≤ 10) (hd : H d = some (.dK (kdI Pl))) (pos : 0 < ens.length)
    (k : ∀ (j : Nat) (H' : Hp), Same H H' → j < ens.length → Q (.int (j : Int)) H') : if c = true then tCall spNear [] E0 (tCons (tVar 6) (tCons (tVar 3) tNil)) σ H Q else tC (.int 0) σ H Q := by
  refine ite2 (fun _ => ?_) (fun _ => k 0 H (Same.refl _) pos)
  exact ⟨_, h6, _, h3, wa, d, ens, Pl, rfl, hw, hen, lp, hd, fun j H' s hj => k j H' s (by omega)⟩
theorem ext_or {w : Nat} {σ : St} {H : Hp} {Q : VK} {l nl lk : Addr} {rows F : List Tx} {ls : List Lk} {most : Nat} (h4 : σ[4]? = some (some (.ref l))) (h9 : σ[9]? = some (some (.ref nl))) (h10 : σ[10]? = some (some (.ref lk))) (h2 : σ[2]? = some (some (.int (most : Int))))
    (big : w ≠ 0 → RF H l nl rows F w ∧ LksAt H lk ls ∧ (∀ l ∈ ls, (∀ f ∈ F, l.1 < f.2.length) ∧ l.2 < w) ∧ (ext1 rows F ls).length ≤ most) (hF : H nl = some (.lst (refs F))) (tF : TxsAt H F)
    (k : ∀ (l' : Addr) (Xs : List Tx) (H' : Hp), Same H H' → (H l' = none ∨ l' = nl) → H' l' = some (.lst (refs Xs)) → TxsAt H' Xs → tms Xs = (if w = 0 then tms F else ext1 rows F ls) → Q (.ref l') H') :
    if ((w : Int) != 0) = true then tCall spExt [] E0 (tCons (tVar 4) (tCons (tVar 9) (tCons (tVar 10) (tCons (tVar 2) tNil)))) σ H Q else tVar 9 σ H Q := by
  by_cases e : w = 0
  · rw [if_neg (by simp [e])]
    exact ⟨_, h9, k nl F H (Same.refl _) (.inr rfl) hF tF (by rw [if_pos e])⟩
  · rw [if_pos (by simp [e])]
    obtain ⟨b1, b2, b3, b4⟩ := big e
    exact ⟨_, h4, _, h9, _, h10, _, h2, l, nl, lk, rows, F, ls, w, most, rfl, b1, b2, b3, b4, fun l' Xs H' s nl' hl tx ex => k l' Xs H' s (.inl nl') hl tx (by rw [if_neg e]; exact ex)⟩
/-! ### what waits, as data -/
def facT (f : Tm) : PyData := .tuple (f.map PyData.str)
def enD (n : En) : PyData := .tuple [.int (n.F.length : Int), facT n.P.2, .list (n.F.map fun x => facT x.2)]
theorem dp_facT {K : PySem.W.Frag} {H : Hp} {p : Addr} {f : Tm} (h : SqT K H p (f.map V.str)) : Dp K H (.ref p) (facT f) := .tup h (dp_texts f)
theorem dp_facs {K : PySem.W.Frag} {H : Hp} : ∀ {F : List Tx}, TxsAt H F → DpAll K H (refs F) (F.map fun x => facT x.2)
  | [], _ => .nil
  | x :: F, h => .cons (dp_facT (SqT.of (h x List.mem_cons_self))) (dp_facs fun y m => h y (List.mem_cons_of_mem _ m))
theorem EnAt.dp {K : PySem.W.Frag} {H : Hp} {n : En} (h : EnAt H n) : Dp K H (.ref n.e) (enD n) :=
  .tup (SqT.of h.he) (.cons (.int _) (.cons (dp_facT h.hP.sq) (.cons (.lst (SqL.of h.hl) (dp_facs h.tF)) .nil)))
theorem alike_facs : ∀ a b : List Tx, PySem.W.alikeAll (a.map fun x => facT x.2) (b.map fun x => facT x.2) = true
  | [], _ => by simp [PySem.W.alikeAll]
  | _ :: _, [] => by simp [PySem.W.alikeAll]
  | x :: a, y :: b => by
    rw [List.map_cons, List.map_cons, PySem.W.alikeAll, alike_facs a b, Bool.and_true]
    unfold facT
    rw [PySem.W.alike]
    exact alike_texts _ _
theorem alike_en (a b : En) : PySem.W.alike (enD a) (enD b) = true := by
  unfold enD
  simp only [PySem.W.alike, PySem.W.alikeAll, alike_facs, Bool.and_true]
  unfold facT
  rw [PySem.W.alike]
  simp [alike_texts]
theorem depth_facs : ∀ a : List Tx, PyData.depthAll (a.map fun x => facT x.2) ≤ 1
  | [] => by simp [PyData.depthAll]
  | x :: a => by
    have := depth_facs a
    rw [List.map_cons, PyData.depthAll]
    unfold facT at this ⊢
    rw [PyData.depth, ddepth_texts]
    omega
theorem depth_en (a : En) : (enD a).depth ≤ 40 := by
  have := depth_facs a.F
  unfold enD facT at *
  simp only [PyData.depth, PyData.depthAll, ddepth_texts]
  omega
theorem flat_len : ∀ {Ps : List Tm}, (∀ P ∈ Ps, TmOk P) → Ps.flatten.length ≤ 10 * Ps.length ∧ Ps.length ≤ Ps.flatten.length
  | [], _ => ⟨Nat.le_refl _, Nat.le_refl _⟩
  | P :: Ps, h => by
    have h1 := (h P List.mem_cons_self).few
    have h2 := (h P List.mem_cons_self).ne
    have h3 : 0 < P.length := List.length_pos_iff.mpr h2
    have ih := flat_len fun Q m => h Q (List.mem_cons_of_mem _ m)
    rw [List.flatten_cons, List.length_append, List.length_cons]
    omega
theorem erase_map {α β : Type} (f : α → β) : ∀ (l : List α) (j : Nat), (l.map f).eraseIdx j = (l.eraseIdx j).map f
  | [], _ => by simp
  | x :: l, 0 => by simp
  | x :: l, j + 1 => by
    rw [List.map_cons, List.eraseIdx_cons_succ, List.eraseIdx_cons_succ, List.map_cons, erase_map f l j]
theorem erase_perm {α : Type} : ∀ {l : List α} {j : Nat} {n : α}, l[j]? = some n → l.Perm (n :: l.eraseIdx j)
  | [], j, n, h => by simp at h
  | x :: l, 0, n, h => by
    have : x = n := by simpa using h
    subst this
    exact List.Perm.refl _
  | x :: l, j + 1, n, h => by
    have ih := erase_perm (l := l) (j := j) (n := n) (by simpa using h)
    rw [List.eraseIdx_cons_succ]
    exact (ih.cons x).trans (List.Perm.swap n x _)
theorem isNone_ref (a : Addr) : decide (V.ref a = V.non) = false := decide_eq_false (fun e => by cases e)
/-- all but two stay -/
def Kdl (d lk : Addr) (H H' : Hp) : Prop := ∀ b o, b ≠ d → b ≠ lk → H b = some o → H' b = some o
theorem PtR.keep2 {H H' : Hp} {p : Addr} {P : Tm} {d lk : Addr} {kvs : List (Key × V)} {xs : List V} (h : PtR H p P) (hd : H d = some (.dK kvs)) (hl : H lk = some (.lst xs)) (k : Kdl d lk H H') : PtR H' p P := by
  rcases h with ⟨e, l⟩ | ⟨o, od, e⟩
  · exact .inl ⟨k _ _ (fun z => by rw [z, hd] at e; cases e) (fun z => by rw [z, hl] at e; cases e) e, l⟩
  · exact .inr ⟨o, od, k _ _ (fun z => by rw [z, hd] at e; cases e) (fun z => by rw [z, hl] at e; cases e) e⟩
theorem tup_keep2 {H H' : Hp} {p : Addr} {ys : List V} {d lk : Addr} {kvs : List (Key × V)} {xs : List V} (e : H p = some (.tup ys)) (hd : H d = some (.dK kvs)) (hl : H lk = some (.lst xs)) (k : Kdl d lk H H') : H' p = some (.tup ys) :=
  k _ _ (fun z => by rw [z, hd] at e; cases e) (fun z => by rw [z, hl] at e; cases e) e
theorem EnAt.keepL {H H' : Hp} {n : En} {wa : Addr} {ys : List V} (h : EnAt H n) (e : H wa = some (.lst ys)) (nl : n.l ≠ wa) (k : Keep wa H H') : EnAt H' n := by
  have no : ∀ b xs, H b = some (.tup xs) → b ≠ wa := fun b xs e2 z => by
    rw [z, e] at e2
    cases e2
  refine ⟨k _ _ h.he (no _ _ h.he), h.hP.imp (fun e => ⟨k _ _ e.1 (no _ _ e.1), e.2⟩) (fun ⟨o, od, e2⟩ => ⟨o, od, k _ _ e2 fun z => ?_⟩), k _ _ h.hl nl, fun x mx => k _ _ (h.tF x mx) (no _ _ (h.tF x mx))⟩
  rw [z, e] at e2
  cases e2
/-- what waits is left in peace by places and links -/
theorem EnAt.keep2 {H H' : Hp} {n : En} {d lk : Addr} {kvs : List (Key × V)} {ys : List V} (h : EnAt H n) (hd : H d = some (.dK kvs)) (hl : H lk = some (.lst ys)) (nl : n.l ≠ lk) (k : Kdl d lk H H') : EnAt H' n :=
  ⟨tup_keep2 h.he hd hl k, h.hP.keep2 hd hl k, k _ _ (fun z => by have := h.hl; rw [z, hd] at this; cases this) nl h.hl, fun x mx => tup_keep2 (h.tF x mx) hd hl k⟩
/-- what is known of the facts, the patterns -/
structure Sit (xs : List Tx) (kn : Prs2) (cs vs : List Str) : Prop where
  ok : FctsOk xs cs
  x8 : xs.length ≤ 8
  kk : KnOk kn
  v3 : vs.length ≤ 3
  c4 : cs.length ≤ 4
def PatOk (kn : Prs2) (vs : List Str) (P : Tm) : Prop := TmOk P ∧ ∀ z ∈ P, fr kn z = true → z ∈ vs
abbrev GOf (xs : List Tx) : Tm → Prop := fun f => f ∈ tms xs
theorem Sit.small {xs : List Tx} {kn : Prs2} {cs vs : List Str} (S : Sit xs kn cs vs) : Small kn (GOf xs) vs cs := ⟨S.v3, S.c4, fun f hf z hz => by
  obtain ⟨x, mx, rfl⟩ := List.mem_map.mp hf
  exact S.ok.con x mx z hz⟩
/-- the length of what the first link makes -/
theorem ext1_few {xs : List Tx} {kn : Prs2} {cs vs : List Str} (S : Sit xs kn cs vs) {Ps : List Tm} {P : Tm} {rows F : List Tx} {Pl : Pls} {ls : List Lk} (ro : RowsAt kn (GOf xs) Ps (tms rows)) (pl : PlcAt kn Ps.flatten Pl) (ok : ∀ Q ∈ Ps ++ [P], PatOk kn vs Q) (ndF : (tms F).Nodup)
    (mF : ∀ f, f ∈ tms F ↔ ∃ μ, Ext kn μ ∧ GOf xs (P.map μ) ∧ f = P.map μ) (hl : ∀ l, l ∈ ls ↔ ∃ z, P[l.1]? = some z ∧ (z, l.2) ∈ Pl) (F8 : F.length ≤ 8) : (ext1 rows F ls).length ≤ 200 := by
  have hd : ∀ Q ∈ Ps ++ [P], ∀ z, Q[0]? = some z → isV z = false := fun Q m => (ok Q m).1.hd
  have hv : ∀ Q ∈ Ps ++ [P], ∀ z ∈ Q, fr kn z = true → z ∈ vs := fun Q m => (ok Q m).2
  cases ls with
  | nil =>
    have st := ro.step pl ndF mF hl
    rw [stepR_nil] at st
    show (rows.flatMap fun r => sums (fun _ _ => true) r F).length ≤ 200
    rw [prod_tms]
    exact Nat.le_trans (rows_few S.small st hd hv) (by decide)
  | cons l ls =>
    obtain ⟨z, e1, e2⟩ := (hl l).mp List.mem_cons_self
    obtain ⟨w1, w2⟩ := pl.at_ _ e2
    show (rows.flatMap fun r => sums (okAt l.1 l.2) r F).length ≤ 200
    rw [pairs_tms]
    have := pairs_len (tms rows) l.1 l.2 (tms F) fun c => rows_fixed S.small ro (fun Q m => hd Q (List.mem_append_left _ m)) (fun Q m => hv Q (List.mem_append_left _ m)) w1 w2 c
    rw [show (tms F).length = F.length from List.length_map _] at this
    omega
/-- the standing before a turn -/
structure JW (xs : List Tx) (kn : Prs2) (vs : List Str) (pats : List Tm) (H : Hp) (wa d l : Addr) (rows : List Tx) (Ps : List Tm) (ens : List En) (Pl : Pls) (H5 : Hp) : Prop where
  s : Same H H5
  hd : H5 d = some (.dK (kdI Pl))
  hw : H5 wa = some (.lst (ens.map fun n => V.ref n.e))
  hl : H5 l = some (.lst (refs rows))
  lw : l ≠ wa
  tr : TxsAt H5 rows
  en : ∀ n ∈ ens, EnAt H5 n ∧ n.l ≠ wa ∧ n.F = fitsOf xs kn n.P.2 ∧ PatOk kn vs n.P.2
  pm : (Ps ++ ens.map fun n => n.P.2).Perm pats
  ok : ∀ P ∈ Ps, PatOk kn vs P
  ro : RowsAt kn (GOf xs) Ps (tms rows)
  pl : PlcAt kn Ps.flatten Pl
  pn : Pl.length ≤ Ps.flatten.length
  few : Ps.length + ens.length ≤ 20
def spJR : Sp := fun us H Q _ => ∃ (q k : Addr) (fs : List FE) (xs : List Tx) (kn : Prs2) (cs vs : List Str) (most : Nat), us = [.ref q, .ref k, .int (most : Int)] ∧ H q = some (.lst (fs.map fun n => V.ref n.e)) ∧
  (∀ n ∈ fs, FEAt xs kn H n ∧ PtR H n.P.1 n.P.2 ∧ PatOk kn vs n.P.2) ∧ fs.length ≤ 20 ∧ TxsAt H xs ∧ Sit xs kn cs vs ∧ MapAt H k kn ∧ 200 ≤ most ∧
  ∀ (t d l : Addr) (Pl : Pls) (rows : List Tx) (Ps rest : List Tm) (H' : Hp), Same H H' → H' t = some (.tup [.ref d, .ref l]) → H' d = some (.dK (kdI Pl)) → H' l = some (.lst (refs rows)) → TxsAt H' rows → (Ps ++ rest).Perm (fs.map fun n => n.P.2) →
    RowsAt kn (GOf xs) Ps (tms rows) → PlcAt kn Ps.flatten Pl → (∀ P ∈ Ps, PatOk kn vs P) → (rest = [] ∨ rows = []) → Q (.ref t) H'
section
variable {P : Program} {w : World} {K : PySem.W.Frag} {mg : Str → Option Value} {base : Heap}
abbrev nJR : List Str := ["fits", "known", "most", "places", "rows", "width", "waiting", "_", "pattern", "facts", "links", "at", "term", "place", "row"]
theorem scJR : FnScope nJR ["fits", "known", "most"] (defScope sJR) := ⟨rfl, rfl, rfl, by decide +kernel, rfl, by decide +kernel, by decide +kernel⟩
theorem ok_jr {f fN fE : Addr} {fd fdN fdE : FuncData} (F : Fun K "joined_rows" "joined_rows" sJR f fd)
    (GN : FnOk P w K mg base CX0 1 fN fdN ["waiting", "places"] spNear) (kN : PySem.W.keepIn K (.ref fN) = true) (bN : Binds K fdN ["waiting", "places"] []) (mN : mg "nearest" = some (.ref fN))
    (GE : FnOk P w K mg base CX0 2 fE fdE ["rows", "facts", "links", "most"] spExt) (kE : PySem.W.keepIn K (.ref fE) = true) (bE : Binds K fdE ["rows", "facts", "links", "most"] []) (mE : mg "extended" = some (.ref fE))
    (ml : mg "len" = none) (ms : mg "sorted" = none) (mr : mg "range" = none) : FnOk P w K mg base CX0 3 f fd ["fits", "known", "most"] spJR := by
  refine F.ok scJR (fun vs H Q E h => ?_) (fun cdv A outer s H vs Q E hr h => ?_)
  · obtain ⟨q, k, fs, xs, kn, cs, vs, most, rfl, _⟩ := h
    rfl
  · obtain ⟨q, k, fs, xs, kn, cs, vs, most, rfl, hq, hfs, few, hxs, S, hk, m200, kk⟩ := h
    have hu1 := hu_of hr
    have hu := hr.units
    have hr1 : Room 1 _ := hr.mono (by decide)
    refine ⟨_, pss_cons (ps_set (i := 3) scJR.nd rfl (Or.inl rfl) pe_dnewK)
      (pss_cons (ps_set (i := 4) scJR.nd rfl (Or.inl rfl) (pe_lst (pa_cons (pe_tup pa_nil) pa_nil)))
      (pss_cons (ps_set (i := 5) scJR.nd rfl (Or.inr rfl) pe_int)
      (pss_cons (ps_set (i := 6) scJR.nd rfl (Or.inl rfl) (pe_callB (cr_sortD hu) (by rfl) ms (by decide +kernel) (pa_cons
        (pe_lc (own := [("pattern", 8), ("facts", 9)]) (g := gTup K 2 (gCons (gName 8) (gCons (gName 9) gNil))) (tt := tYes) rfl scJR.nd (pi_list (pv 0)) (blkOk_by (own := [("pattern", 8), ("facts", 9)]) (N := nJR) (sc := defScope sJR) (by decide +kernel))
          (fun _ _ _ _ _ => pg_tupK (K := K) rfl rfl (pgs_cons (pg_name (i := 8) scJR.nd rfl (Or.inl rfl)) (pgs_cons (pg_name (i := 9) scJR.nd rfl (Or.inl rfl)) pgs_nil))) (fun _ _ _ _ _ => pts_nil)
          (fun _ _ _ _ _ => pe_tup (pa_cons (pe_callB (call_len_seqK (K := K) rfl) (by rfl) ml (by decide +kernel) (pa_cons (pv 9) pa_nil)) (pa_cons (pv 8) (pa_cons (pv 9) pa_nil))))) pa_nil)))
      (pss_cons (ps_while PassesOwn.never (PW.pt (pw_and (pt_truth (pv 6) (by intro _; rfl)) (pw_and1 (pt_truth (pv 4) (by intro _; rfl)))))
        (pss_cons (ps_asg (pe_bm PySem.F.plainAttrs_list PySem.F.slot_list_pop PySem.F.type_list_pop mt_popAt (pv 6) (pa_cons (pe_ifExp (pt_truth (pv 5) (by intro _; rfl)) (pe_call GN hr1 (by rfl) mN kN bN .nil pass0 (pa_cons (pv 6) (pa_cons (pv 3) pa_nil))) pe_int) pa_nil))
            (pg_tup (by rfl) (pgs_cons (pg_name (i := 7) scJR.nd rfl (Or.inl rfl)) (pgs_cons (pg_name (i := 8) scJR.nd rfl (Or.inl rfl)) (pgs_cons (pg_name (i := 9) scJR.nd rfl (Or.inl rfl)) pgs_nil)))))
        (pss_cons (ps_set (i := 10) scJR.nd rfl (Or.inl rfl) (pe_lst pa_nil))
        (pss_cons (ps_for PassesOwn.never rfl (pi_range2 (by rfl) mr (pa_cons pe_int (pa_cons (pe_callB call_len_seq (by rfl) ml (by decide +kernel) (pa_cons (pv 8) pa_nil)) pa_nil))) (pg_name (i := 11) scJR.nd rfl (Or.inr rfl))
          (pss_cons (ps_set (i := 12) scJR.nd rfl (Or.inl rfl) (pe_ix ix_tup (pv 8) (pv 11) (fun _ _ => rfl)))
          (pss_one (ps_if (PW.pt (pw_and (pt_cmpR op_eq (pe_ix ix_str (pv 12) pe_int (fun _ _ => rfl)) pe_str (nomark _)) (pw_and1 (pt_cmp (pc_dnotin hu1 (pv 12) (pv 1))))))
            (pss_cons (ps_set (i := 13) scJR.nd rfl (Or.inr rfl) (pe_dsetd (pv 3) (pv 12) (pe_op op_add (pv 5) (pv 11)) ⟨by rfl, by rfl, by rfl, by rfl⟩))
            (pss_one (ps_if (pt_cmpR op_lt (pv 13) (pv 5) (nomark _)) (pss_one (ps_expr (pe_bm PySem.F.plainAttrs_list PySem.F.slot_list_append PySem.F.type_list_append mt_append (pv 10) (pa_cons (pe_tup (pa_cons (pv 11) (pa_cons (pv 13) pa_nil))) pa_nil)))) pss_nil))) pss_nil))))
        (pss_cons (ps_set (i := 4) scJR.nd rfl (Or.inl rfl) (pe_ifExp (pt_truth (pv 5) (by intro _; rfl)) (pe_call GE hr (by rfl) mE kE bE .nil pass0 (pa_cons (pv 4) (pa_cons (pv 9) (pa_cons (pv 10) (pa_cons (pv 2) pa_nil))))) (pv 9)))
        (pss_cons (ps_if (pt_cmpR op_isN (pv 4) pe_non (nomark _)) (pss_one (ps_ret pe_non)) pss_nil)
        (pss_cons (ps_for PassesOwn.never rfl (pi_list (pe_slice sl_list (pv 10) (po_some pe_int) po_none)) (pg_tup (by rfl) (pgs_cons (pg_name (i := 11) scJR.nd rfl (Or.inr rfl)) (pgs_cons (pg_name (i := 13) scJR.nd rfl (Or.inr rfl)) pgs_nil)))
          (pss_one (ps_setLc (i := 4) (own := [("row", 14)]) (g := gName 14) (tt := tB (tOp rEq (tOp (rIxT K) (tVar 14) (tOp (rI0 fun i j => .int (i + j)) (tVar 5) (tVar 11))) (tOp (rIxT K) (tVar 14) (tVar 13)))) rfl scJR.nd rfl rfl (sw_true rfl rfl rfl (by decide +kernel)) (pi_list (pv 4))
            (blkOk_by (own := [("row", 14)]) (N := nJR) (sc := defScope sJR) (by decide +kernel)) (fun _ _ _ _ _ => pg_name (i := 14) scJR.nd rfl (Or.inl rfl))
            (fun _ _ _ _ _ => pts_one (pt_cmpR op_eq (pe_ix (ix_tupK (K := K) rfl) (pv 14) (pe_op op_add (pv 5) (pv 11)) (fun _ _ => rfl)) (pe_ix (ix_tupK (K := K) rfl) (pv 14) (pv 13) (fun _ _ => rfl)) (nomark _))) (fun _ _ _ _ _ => pv 14))))
        (pss_one (ps_aug (i := 5) scJR.nd rfl (Or.inr rfl) (pe_callB call_len_seq (by rfl) ml (by decide +kernel) (pa_cons (pv 8) pa_nil)) ip_add)))))))))
      (pss_one (ps_ret (pe_tup (pa_cons (pv 3) (pa_cons (pv 4) pa_nil))))))))), ?_⟩
    intro d nd
    have s0 : Same H (upd H d (.dK [])) := same_new nd
    have c0 : (upd H d (.dK [])) d = some (.dK []) := upd_same
    generalize upd H d (.dK []) = H0 at s0 c0 ⊢
    refine ⟨by show 0 ≤ sizeLine; decide, fun t0 nt0 => ?_⟩
    have s1 : Same H0 (upd H0 t0 (.tup [])) := same_new nt0
    have c1 : (upd H0 t0 (.tup [])) t0 = some (.tup []) := upd_same
    generalize upd H0 t0 (.tup []) = H1 at s1 c1 ⊢
    refine ⟨by show 1 ≤ sizeLine; decide, fun l0 nl0 => ?_⟩
    have s2 : Same H1 (upd H1 l0 (.lst [.ref t0])) := same_new nl0
    have c2 : (upd H1 l0 (.lst [.ref t0])) l0 = some (.lst [.ref t0]) := upd_same
    generalize upd H1 l0 (.lst [.ref t0]) = H2 at s2 c2 ⊢
    have s02 := s0.trans (s1.trans s2)
    obtain ⟨good, egood⟩ : ∃ good : Hp → List En → Nat → Prop, good = fun H5 ens i => (∀ n ∈ ens, EnAt H5 n ∧ (∃ o, H n.l = some o) ∧ n.F = fitsOf xs kn n.P.2 ∧ PatOk kn vs n.P.2) ∧ ens.map (·.P) = (fs.take i).map (·.P) := ⟨_, rfl⟩
    refine ⟨_, rfl, q, rfl, ⟨_, SqL.of (s02 _ _ hq)⟩, fun D nD => ?_⟩
    refine lc_it (L2.walk_list (K := K)) (fun i H5 => Same H2 H5 ∧ ∃ ens, H5 D = some (.lst (ens.map fun n => V.ref n.e)) ∧ good H5 ens i) ⟨same_new nD, [], upd_same, by rw [egood]; exact ⟨fun n m => (nomatch m), rfl⟩⟩ (fun i H5 _ p => SqL.of (p.1 _ _ (s02 _ _ hq))) (fun i z H5' H5 hi p y => ?_) (fun H5 p => ?_)
    · obtain ⟨rfl, hz⟩ := y
      obtain ⟨s5, ens, hD, g5⟩ := p
      rw [egood] at g5
      obtain ⟨g1, g2⟩ := g5
      rw [List.getElem?_map] at hz
      obtain ⟨n, hn, rfl⟩ := Option.map_eq_some_iff.mp hz
      have mn := List.mem_of_getElem? hn
      obtain ⟨fe, pr, po⟩ := hfs n mn
      have s25 := s02.trans s5
      have fe5 := fe.same s25
      have li : i < fs.length := by rw [List.length_map] at hi; exact hi
      have le : ens.length ≤ 20 := by
        have := congrArg List.length g2
        rw [List.length_map, List.length_map, List.length_take] at this
        omega
      refine ⟨n.e, _, rfl, SqT.of fe5.he, rfl, _, _, rfl, _, _, rfl, rfl, rfl, ?_⟩
      dsimp only [tYes]
      rw [if_pos rfl]
      refine ⟨_, rfl, n.l, _, rfl, .inl (SqL.of fe5.hl), _, rfl, _, rfl, by show 3 ≤ sizeLine; decide, fun t nt => ?_⟩
      have hDt := same_new (o := .tup [V.int ((refs (fitsOf xs kn n.P.2)).length : Nat), V.ref n.P.1, V.ref n.l]) nt _ _ hD
      have st : Same H5 (upd H5 t (.tup [V.int ((refs (fitsOf xs kn n.P.2)).length : Nat), V.ref n.P.1, V.ref n.l])) := same_new nt
      have ct : (upd H5 t (.tup [V.int ((refs (fitsOf xs kn n.P.2)).length : Nat), V.ref n.P.1, V.ref n.l])) t = some (.tup [V.int ((fitsOf xs kn n.P.2).length : Int), V.ref n.P.1, V.ref n.l]) := by rw [upd_same, List.length_map]
      generalize upd H5 t (.tup [V.int ((refs (fitsOf xs kn n.P.2)).length : Nat), V.ref n.P.1, V.ref n.l]) = H6 at hDt st ct ⊢
      refine ⟨_, hDt, by rw [List.length_map, sizeLine_eq]; omega, fun b o e => ?_, ens ++ [⟨t, n.P, n.l, fitsOf xs kn n.P.2⟩], by rw [upd_same, List.map_append]; rfl, ?_⟩
      · rw [upd_ne (ne_of_none e nD)]
        exact st _ _ (s5 _ _ e)
      · rw [egood]
        have kD : Keep D H6 (upd H6 D (.lst (ens.map (fun n => V.ref n.e) ++ [V.ref t]))) := fun b o e nb => by
          rw [upd_ne nb]
          exact e
        have stay : ∀ m : En, EnAt H6 m → (∃ o, H m.l = some o) → EnAt (upd H6 D (.lst (ens.map (fun n => V.ref n.e) ++ [V.ref t]))) m := fun m h1 h2 => by
          obtain ⟨o, ho⟩ := h2
          have lD : m.l ≠ D := ne_of_none (s02 _ _ ho) nD
          have no : ∀ b xs, H6 b = some (.tup xs) → b ≠ D := fun b xs e z => by
            rw [z, hDt] at e
            cases e
          refine ⟨kD _ _ h1.he (no _ _ h1.he), h1.hP.imp (fun e => ⟨kD _ _ e.1 (no _ _ e.1), e.2⟩) (fun ⟨o, od, e⟩ => ⟨o, od, kD _ _ e fun z => ?_⟩), kD _ _ h1.hl lD, fun x mx => kD _ _ (h1.tF x mx) (no _ _ (h1.tF x mx))⟩
          rw [z, hDt] at e
          cases e
        refine ⟨fun m mm => ?_, ?_⟩
        · rcases List.mem_append.mp mm with mm | mm
          · obtain ⟨a1, a2, a3⟩ := g1 m mm
            exact ⟨stay m (a1.same st) a2, a2, a3⟩
          · rw [List.mem_singleton.mp mm]
            exact ⟨stay _ ⟨ct, pr.same (s25.trans st), st _ _ fe5.hl, fun x mx => (s25.trans st) _ _ (hxs x (List.mem_filter.mp mx).1)⟩ ⟨_, fe.hl⟩, ⟨_, fe.hl⟩, rfl, po⟩
        · rw [take_snoc hn, List.map_append, List.map_append, g2]
          rfl
    · obtain ⟨s5, ens, hD, g5⟩ := p
      rw [egood] at g5
      obtain ⟨g1, g2⟩ := g5
      rw [show (fs.map fun n => V.ref n.e).length = fs.length from List.length_map _, List.take_length] at g2
      have le : ens.length = fs.length := by
        have := congrArg List.length g2
        rw [List.length_map, List.length_map] at this
        exact this
      have em : (ens.map fun n => (V.ref n.e, enD n)).map Prod.fst = ens.map fun n => V.ref n.e := by
        rw [List.map_map]
        rfl
      have ed : (ens.map fun n => (V.ref n.e, enD n)).map Prod.snd = ens.map enD := by
        rw [List.map_map]
        rfl
      refine ⟨D, ens.map fun n => (V.ref n.e, enD n), rfl, by rw [em]; exact SqL.of hD, fun x hx => ?_, fun a ha b hb => ?_, .inr fun a ha => ?_, by rw [List.length_map]; omega, fun x hx => ?_, fun ys wa pm rise nw => ?_⟩
      · obtain ⟨n, mn, rfl⟩ := List.mem_map.mp hx
        exact (g1 n mn).1.dp
      · rw [ed] at ha hb
        obtain ⟨n, mn, rfl⟩ := List.mem_map.mp ha
        obtain ⟨n2, mn2, rfl⟩ := List.mem_map.mp hb
        exact alike_en _ _
      · rw [ed] at ha
        obtain ⟨n, mn, rfl⟩ := List.mem_map.mp ha
        exact ⟨_, rfl⟩
      · obtain ⟨n, mn, rfl⟩ := List.mem_map.mp hx
        exact depth_en n
      obtain ⟨zs, pz, rfl⟩ := L2.NSet.perm_lift _ pm
      have em2 : (zs.map fun n => (V.ref n.e, enD n)).map Prod.fst = zs.map fun n => V.ref n.e := by
        rw [List.map_map]
        rfl
      rw [em2]
      have s25 := s02.trans s5
      have nwH : H wa = none := s25.free nw
      have s6 : Same H5 (upd H5 wa (.lst (zs.map fun n => V.ref n.e))) := same_new nw
      have c6 : (upd H5 wa (.lst (zs.map fun n => V.ref n.e))) wa = some (.lst (zs.map fun n => V.ref n.e)) := upd_same
      generalize upd H5 wa (.lst (zs.map fun n => V.ref n.e)) = H6 at s6 c6 ⊢
      have c2' := (s5.trans s6) _ _ c2
      have c1' := (s2.trans (s5.trans s6)) _ _ c1
      have jw0 : JW xs kn vs (fs.map fun n => n.P.2) H wa d l0 [(t0, [])] [] zs [] H6 := {
        s := s25.trans s6
        hd := (s1.trans (s2.trans (s5.trans s6))) _ _ c0
        hw := c6
        hl := c2'
        lw := fun z => by
          have := s5 _ _ c2
          rw [z, nw] at this
          cases this
        tr := fun x m => by
          rw [List.mem_singleton.mp m]
          exact c1'
        en := fun n m => by
          obtain ⟨a1, ⟨o, a2⟩, a3⟩ := g1 n (pz.mem_iff.mp m)
          exact ⟨a1.same s6, ne_of_none a2 nwH, a3⟩
        pm := by
          rw [List.nil_append]
          have h1 := pz.map fun n => n.P.2
          have h2 : (ens.map fun n => n.P.2) = fs.map fun n => n.P.2 := by
            have := congrArg (List.map (·.2)) g2
            rw [List.map_map, List.map_map] at this
            exact this
          rw [← h2]
          exact h1
        ok := fun P m => (nomatch m)
        ro := ⟨by simp, fun r => by
          constructor
          · intro m
            have e : r = [] := by simpa using m
            subst e
            refine ⟨fun z => if isV z = true then (look kn z).getD z else z, ⟨fun z e => by simp [e], fun z v e => by simp [e, S.kk z v e]⟩, fun P m => (nomatch m), rfl⟩
          · rintro ⟨μ, _, _, rfl⟩
            simp⟩
        pl := ⟨List.nodup_nil, fun q m => (nomatch m), fun z m => (nomatch m)⟩
        pn := Nat.le_refl _
        few := by have := pz.length_eq; show 0 + _ ≤ 20; omega }
      obtain ⟨Wd, eWd⟩ : ∃ Wd : Nat → St → Hp → Prop, Wd = fun m σ H5 => ∃ (l : Addr) (rows : List Tx) (Ps : List Tm) (ens : List En) (Pl : Pls) (v7 v8 v9 v10 v11 v12 v13 : Option V), σ = [some (.ref q), some (.ref k), some (.int (most : Int)), some (.ref d), some (.ref l), some (.int (Ps.flatten.length : Int)), some (.ref wa), v7, v8, v9, v10, v11, v12, v13, none] ∧ m = ens.length ∧ JW xs kn vs (fs.map fun n => n.P.2) H wa d l rows Ps ens Pl H5 := ⟨_, rfl⟩
      refine ⟨Wd, ⟨zs.length, by rw [eWd]; exact ⟨l0, _, _, zs, _, none, none, none, none, none, none, none, rfl, rfl, jw0⟩⟩, fun m σ H7 hW => ?_⟩
      rw [eWd] at hW
      obtain ⟨l, rows, Ps, ens, Pl, v7, v8, v9, v10, v11, v12, v13, rfl, rfl, jw⟩ := hW
      refine ⟨_, rfl, _, .inl ⟨_, SqL.of jw.hw, rfl⟩, ?_⟩
      by_cases e0 : ens = []
      · subst e0
        refine ifF rfl (iteF ?_)
        refine ⟨_, rfl, _, rfl, by show 2 ≤ sizeLine; decide, fun t nt => ?_⟩
        have s8 : Same H7 (upd H7 t (.tup [.ref d, .ref l])) := same_new nt
        have c8 : (upd H7 t (.tup [.ref d, .ref l])) t = some (.tup [.ref d, .ref l]) := upd_same
        generalize upd H7 t (.tup [.ref d, .ref l]) = H8 at s8 c8 ⊢
        exact kk t d l Pl rows Ps [] H8 (jw.s.trans s8) c8 (s8 _ _ jw.hd) (s8 _ _ jw.hl) (jw.tr.same s8) jw.pm jw.ro jw.pl jw.ok (.inl rfl)
      have pos : 0 < ens.length := List.length_pos_iff.mpr e0
      refine ifT (by cases ens with | nil => exact absurd rfl e0 | cons a r => rfl) ?_
      refine ⟨_, rfl, _, .inl ⟨_, SqL.of jw.hl, rfl⟩, ?_⟩
      by_cases e1 : rows = []
      · subst e1
        refine ifF rfl ?_
        refine ⟨_, rfl, _, rfl, by show 2 ≤ sizeLine; decide, fun t nt => ?_⟩
        have s8 : Same H7 (upd H7 t (.tup [.ref d, .ref l])) := same_new nt
        have c8 : (upd H7 t (.tup [.ref d, .ref l])) t = some (.tup [.ref d, .ref l]) := upd_same
        generalize upd H7 t (.tup [.ref d, .ref l]) = H8 at s8 c8 ⊢
        exact kk t d l Pl [] Ps (ens.map fun n => n.P.2) H8 (jw.s.trans s8) c8 (s8 _ _ jw.hd) (s8 _ _ jw.hl) (jw.tr.same s8) jw.pm jw.ro jw.pl jw.ok (.inr rfl)
      refine ifT (by cases rows with | nil => exact absurd rfl e1 | cons a r => rfl) ?_
      refine ⟨Wd (ens.length - 1), fun σ' H' h => ⟨_, by omega, h⟩, ?_⟩
      -- one comes out
      refine ⟨_, rfl, .inl ⟨rfl, _, SqL.of jw.hw⟩, _, rfl, _, rfl, near_or0 rfl rfl jw.hw (fun n m => (jw.en n m).1) (fun n m => (jw.en n m).2.2.2.1.few) jw.hd pos fun j H8 s8 hj => ?_⟩
      obtain ⟨n, hn⟩ : ∃ n, ens[j]? = some n := ⟨_, List.getElem?_eq_getElem hj⟩
      have mn := List.mem_of_getElem? hn
      have few20 := jw.few
      refine ⟨wa, _, (j : Int), j, .ref n.e, rfl, rfl, s8 _ _ jw.hw, by omega, by omega, seqIx (by rw [List.length_map]; exact hj), by rw [List.getElem?_map, hn]; rfl, ?_⟩
      have hw8 := s8 _ _ jw.hw
      have k9 : Keep wa H8 (upd H8 wa (.lst ((ens.map fun n => V.ref n.e).eraseIdx j))) := fun b o e nb => by rw [upd_ne nb]; exact e
      have c9 : (upd H8 wa (.lst ((ens.map fun n => V.ref n.e).eraseIdx j))) wa = some (.lst ((ens.eraseIdx j).map fun n => V.ref n.e)) := by rw [upd_same, erase_map]
      have s9 : Same H (upd H8 wa (.lst ((ens.map fun n => V.ref n.e).eraseIdx j))) := fun b o e => by
        rw [upd_ne (ne_of_none e nwH)]
        exact s8 _ _ (jw.s _ _ e)
      generalize upd H8 wa (.lst ((ens.map fun n => V.ref n.e).eraseIdx j)) = H9 at k9 c9 s9 ⊢
      have en9 : ∀ m ∈ ens, EnAt H9 m := fun m mm => ((jw.en m mm).1.same s8).keepL hw8 (jw.en m mm).2.1 k9
      obtain ⟨_, nlw, eF, okP⟩ := jw.en n mn
      have en := en9 n mn
      have dw : d ≠ wa := fun z => by
        have := jw.hd
        rw [z, jw.hw] at this
        cases this
      have hd9 := k9 _ _ (s8 _ _ jw.hd) dw
      have hl9 := k9 _ _ (s8 _ _ jw.hl) jw.lw
      have tr9 : TxsAt H9 rows := fun x mx => k9 _ _ (s8 _ _ (jw.tr x mx)) fun z => by
        have := jw.tr x mx
        rw [z, jw.hw] at this
        cases this
      refine ⟨n.e, _, rfl, SqT.of en.he, rfl, _, _, rfl, _, _, rfl, _, _, rfl, rfl, ?_⟩
      refine ⟨by show 0 ≤ sizeLine; decide, fun lk nlk => ?_⟩
      have s10 : Same H9 (upd H9 lk (.lst [])) := same_new nlk
      have c10 : (upd H9 lk (.lst [])) lk = some (.lst []) := upd_same
      generalize upd H9 lk (.lst []) = H10 at s10 c10 ⊢
      have hd10 := s10 _ _ hd9
      have hk10 : MapAt H10 k kn := s10 _ _ (s9 _ _ hk)
      have kd' : k ≠ d := ne_of_none hk nd
      have klk : k ≠ lk := ne_of_none (s9 _ _ hk) nlk
      have dlk : d ≠ lk := ne_of_none hd9 nlk
      have hP10 := en.hP.same s10
      obtain ⟨P, eP⟩ : ∃ P : Tm, P = n.P.2 := ⟨_, rfl⟩
      rw [← eP] at hP10 okP
      have lP := okP.1.few
      have nP : 0 < P.length := List.length_pos_iff.mpr okP.1.ne
      have fl := flat_len fun Q m => (jw.ok Q m).1
      have pn := jw.pn
      have eL : ((P.map V.str).length : Int) = (P.length : Int) := by rw [List.length_map]
      refine ⟨_, rfl, n.P.1, _, rfl, .inr hP10.sq, 1, _, rfl, ⟨by decide, by decide, by omega, by omega⟩, for_range (lo := 1) (fun i σ H11 => ∃ (Pl' : Pls) (ls : List Lk) (v11 v12 v13 : Option V), σ = [some (.ref q), some (.ref k), some (.int (most : Int)), some (.ref d), some (.ref l), some (.int (Ps.flatten.length : Int)), some (.ref wa), some (.int (n.F.length : Int)), some (.ref n.P.1), some (.ref n.l), some (.ref lk), v11, v12, v13, none] ∧
          LInv kn Pl Ps.flatten.length P (1 + i) Pl' ls ∧ H11 d = some (.dK (kdI Pl')) ∧ LksAt H11 lk ls ∧ Kdl d lk H10 H11)
        ⟨Pl, [], _, _, _, rfl, LInv.start jw.pl okP.1.hd, hd10, ⟨[], c10, fun t m => (nomatch m), rfl⟩, fun b o _ _ e => e⟩ (fun i σ H11 hi pp => ?_) (fun σ H11 pp => ?_)⟩
      · obtain ⟨Pl', ls, v11, v12, v13, rfl, inv, hd11, hlk, kdl⟩ := pp
        obtain ⟨a, ha⟩ : ∃ a : Nat, a = 1 + i := ⟨_, rfl⟩
        rw [show (1 + (i : Int)) = (a : Int) by omega]
        rw [← ha] at inv
        have ea : 1 + (i + 1) = a + 1 := by omega
        have la : a < P.length := by omega
        obtain ⟨z, ez⟩ : ∃ z, P[a]? = some z := ⟨_, List.getElem?_eq_getElem la⟩
        have mz : z ∈ P := List.mem_of_getElem? ez
        obtain ⟨c, r, hc⟩ : ∃ c r, z.cps.toList = c :: r := by
          cases e : z.cps.toList with
          | nil =>
            have l := length_toList z
            rw [e] at l
            have l0 : z.length = 0 := l.symm
            have := (okP.1.each z mz).1
            omega
          | cons c r => exact ⟨c, r, rfl⟩
        have hP11 := hP10.keep2 hd10 c10 kdl
        have hk11 : MapAt H11 k kn := kdl _ _ kd' klk hk10
        obtain ⟨ts, t1, t2, t3⟩ := id hlk
        refine ⟨_, rfl, _, rfl, n.P.1, _, _, .str z, rfl, rfl, hP11.sq, atI_nat (j := a) (by rw [List.getElem?_map, ez]; rfl), ?_⟩
        refine ⟨_, rfl, z, 0, c, rfl, rfl, by have := (okP.1.each z mz).2; rw [sizeLine_eq]; omega, by rw [hc]; exact atI_nat (j := 0) rfl, rfl, _, rfl, ?_⟩
        rw [first_one hc]
        by_cases hv : isV z = true
        · refine ifT hv ?_
          refine ⟨_, rfl, _, rfl, k, _, rfl, DGet.k (k := Sum.inr z) hk11, _, rfl, ?_⟩
          rw [val_kd]
          cases hkz : look kn z with
          | some v =>
            have fz : fr kn z = false := by unfold fr; rw [hkz]; simp
            exact iteF ⟨Pl', ls, _, _, _, rfl, by rw [ea]; exact LInv.skip jw.pl inv ez fz, hd11, hlk, kdl⟩
          | none =>
            have fz : fr kn z = true := by unfold fr; rw [hkz, hv]; rfl
            refine iteT ?_
            have lenP := inv.len
            refine ⟨_, rfl, d, rfl, .inl ⟨_, .inl hd11⟩, _, rfl, _, rfl, _, rfl, _, _, rfl, rfl, kdI Pl', Sum.inr z, hd11, rfl, by unfold kdI; rw [List.length_map, sizeLine_eq]; omega, fun v hv' => ?_, fun hv' => ?_⟩
            · rw [val_kdI] at hv'
              obtain ⟨q', eq', rfl⟩ := Option.map_eq_some_iff.mp hv'
              have ek : q'.1 = z := of_decide_eq_true (List.find?_some (p := fun q : Str × Nat => decide (q.1 = z)) eq')
              have mq : (z, q'.2) ∈ Pl' := by
                rw [← ek]
                exact List.mem_of_find?_eq_some eq'
              have inv' := LInv.old jw.pl inv ez mq
              refine ⟨_, rfl, _, rfl, _, _, rfl, rfl, _, rfl, ?_⟩
              refine ite2 (fun lt => ?_) (fun nlt => ?_)
              · have lt : q'.2 < Ps.flatten.length := by simpa using lt
                rw [if_pos lt] at inv'
                refine ⟨_, rfl, .inl ⟨rfl, _, SqL.of t1⟩, _, rfl, _, rfl, by show 2 ≤ sizeLine; decide, fun t nt => ?_⟩
                have s12 : Same H11 (upd H11 t (.tup [.int (a : Int), .int (q'.2 : Int)])) := same_new nt
                have c12 : (upd H11 t (.tup [.int (a : Int), .int (q'.2 : Int)])) t = some (.tup [.int (a : Int), .int (q'.2 : Int)]) := upd_same
                generalize upd H11 t (.tup [.int (a : Int), .int (q'.2 : Int)]) = H12 at s12 c12 ⊢
                have t1' := s12 _ _ t1
                have tlk : t ≠ lk := (ne_of_none t1 nt).symm
                have td : t ≠ d := (ne_of_none hd11 nt).symm
                have lts : ts.length < sizeLine := by
                  have h1 : ts.length = ls.length := by rw [← t3, List.length_map]
                  have h2 := inv.ln
                  rw [sizeLine_eq]
                  omega
                refine ⟨lk, _, _, rfl, rfl, t1', by rw [List.length_map]; exact lts, ?_⟩
                refine ⟨Pl', ls ++ [(a, q'.2)], _, _, _, rfl, by rw [ea]; exact inv', ?_, ⟨ts ++ [(t, (a, q'.2))], by rw [upd_same, List.map_append]; rfl, fun t' m => ?_, by rw [List.map_append, t3]; rfl⟩, fun b o nb nl e => ?_⟩
                · rw [upd_ne dlk]
                  exact s12 _ _ hd11
                · rcases List.mem_append.mp m with m | m
                  · rw [upd_ne fun y => by have := t2 t' m; rw [y, t1] at this; cases this]
                    exact s12 _ _ (t2 t' m)
                  · rw [List.mem_singleton.mp m, upd_ne tlk]
                    exact c12
                · rw [upd_ne nl]
                  exact s12 _ _ (kdl b o nb nl e)
              · have nlt : ¬ q'.2 < Ps.flatten.length := by simpa using nlt
                rw [if_neg nlt] at inv'
                exact ⟨Pl', ls, _, _, _, rfl, by rw [ea]; exact inv', hd11, hlk, kdl⟩
            · rw [val_kdI] at hv'
              have no : Pl'.find? (fun q => decide (q.1 = z)) = none := by
                cases e : Pl'.find? (fun q => decide (q.1 = z)) with
                | none => rfl
                | some g =>
                  rw [e] at hv'
                  cases hv'
              dsimp only
              rw [show (Ps.flatten.length : Int) + (a : Int) = ((Ps.flatten.length + a : Nat) : Int) by omega, put_kdI no]
              refine ⟨_, rfl, _, rfl, _, _, rfl, rfl, _, rfl, ifF (decide_eq_false (by omega)) ?_⟩
              refine ⟨_, ls, _, _, _, rfl, by rw [ea]; exact LInv.fresh jw.pl inv ez fz no, upd_same, ⟨ts, ?_, fun t' m => ?_, t3⟩, fun b o nb nl e => ?_⟩
              · rw [upd_ne dlk.symm]
                exact t1
              · rw [upd_ne fun y => by have := t2 t' m; rw [y, hd11] at this; cases this]
                exact t2 t' m
              · rw [upd_ne nb]
                exact kdl b o nb nl e
        · have hv : isV z = false := by simpa using hv
          have fz : fr kn z = false := by unfold fr; rw [hv]; rfl
          exact ifF hv (iteF ⟨Pl', ls, _, _, _, rfl, by rw [ea]; exact LInv.skip jw.pl inv ez fz, hd11, hlk, kdl⟩)
      · obtain ⟨Pl', ls, v11, v12, v13, rfl, inv, hd11, hlk, kdl⟩ := pp
        rw [show 1 + (((P.map V.str).length : Int) - 1).toNat = P.length by rw [eL]; omega] at inv
        obtain ⟨pl', hl'⟩ := inv.done jw.pl
        have hP11 := hP10.keep2 hd10 c10 kdl
        have hk11 : MapAt H11 k kn := kdl _ _ kd' klk hk10
        have llk : l ≠ lk := ne_of_none hl9 nlk
        have ld : l ≠ d := fun z => by
          rw [z, hd9] at hl9
          cases hl9
        have walk : wa ≠ lk := ne_of_none c9 nlk
        have hl11 := kdl _ _ ld llk (s10 _ _ hl9)
        have hw11 := kdl _ _ dw.symm walk (s10 _ _ c9)
        have tr11 : TxsAt H11 rows := fun x mx => tup_keep2 (s10 _ _ (tr9 x mx)) hd10 c10 kdl
        have en11 : ∀ m ∈ ens, EnAt H11 m := fun m mm => ((en9 m mm).same s10).keep2 hd10 c10 (ne_of_none (en9 m mm).hl nlk) kdl
        have en := en11 n mn
        have s11 : Same H H11 := fun b o e => kdl b o (ne_of_none e nd) (ne_of_none (s9 _ _ e) nlk) (s10 _ _ (s9 _ _ e))
        have okPs : ∀ Q ∈ Ps ++ [P], PatOk kn vs Q := fun Q m => by
          rcases List.mem_append.mp m with m | m
          · exact jw.ok Q m
          · rw [List.mem_singleton.mp m]
            exact okP
        have ndF : (tms n.F).Nodup := by rw [eF]; exact fits_nd S.ok
        have mF : ∀ f, f ∈ tms n.F ↔ ∃ μ, Ext kn μ ∧ GOf xs (P.map μ) ∧ f = P.map μ := by
          rw [eF, ← eP]
          exact fits_mem S.ok okP.1 S.kk
        have inF : ∀ f ∈ n.F, f ∈ xs ∧ f.2.length = P.length := fun f mf => by
          rw [eF, ← eP] at mf
          obtain ⟨m1, m2⟩ := List.mem_filter.mp mf
          exact ⟨m1, shp_len (of_decide_eq_true (p := shp f.2 = shp P) (Bool.and_eq_true_iff.mp m2).1)⟩
        have F8 : n.F.length ≤ 8 := by
          rw [eF]
          exact Nat.le_trans (List.length_filter_le _ _) S.x8
        have lenR : ∀ r ∈ tms rows, r.length = Ps.flatten.length := jw.ro.len
        have few1 := ext1_few S jw.ro jw.pl okPs ndF mF hl' F8
        have lw' : ∀ l ∈ ls, l.2 < Ps.flatten.length := fun l m => by
          obtain ⟨z, _, e2⟩ := (hl' l).mp m
          exact jw.pl.lt e2
        have n64 : rows.length ≤ 64 := by
          have := rows_few S.small jw.ro (fun Q m => (jw.ok Q m).1.hd) fun Q m => (jw.ok Q m).2
          rwa [show (tms rows).length = rows.length from List.length_map _] at this
        refine ⟨_, rfl, _, rfl, ext_or (w := Ps.flatten.length) (rows := rows) (F := n.F) (ls := ls) rfl rfl rfl rfl (fun w0 => ⟨⟨hl11, en.hl, tr11, en.tF, fun r mr => lenR r.2 (List.mem_map_of_mem mr), by omega, by omega, n64, by omega, fun f mf => S.ok.each f (inF f mf).1⟩, hlk, fun l m => ⟨fun f mf => ?_, lw' l m⟩, by omega⟩) en.hl en.tF fun l' Xs H12 s12 ol hl12 tx12 exs => ?_⟩
        · obtain ⟨z, e1, _⟩ := (hl' l).mp m
          rw [(inF f mf).2]
          rcases Nat.lt_or_ge l.1 P.length with h | h
          · exact h
          · rw [List.getElem?_eq_none_iff.mpr h] at e1
            cases e1
        refine ⟨_, rfl, rfl, _, rfl, ifF (isNone_ref _) ?_⟩
        -- the other links
        obtain ⟨ts, t1, t2, t3⟩ := hlk.same s12
        refine ⟨_, rfl, 1, rfl, lk, _, rfl, SqL.of t1, fun lt nlt => ?_⟩
        have s13 : Same H12 (upd H12 lt (.lst (cutV (ts.map fun t => V.ref t.1) (some 1) none))) := same_new nlt
        have c13 : (upd H12 lt (.lst (cutV (ts.map fun t => V.ref t.1) (some 1) none))) lt = some (.lst ((ts.drop 1).map fun t => V.ref t.1)) := by (rw [upd_same, show (some (1 : Int)) = some ((1 : Nat) : Int) from rfl, cutV_from, List.map_drop])
        generalize upd H12 lt (.lst (cutV (ts.map fun t => V.ref t.1) (some 1) none)) = H13 at s13 c13 ⊢
        have lwa : l' ≠ wa := by
          rcases ol with e | e
          · exact (ne_of_none hw11 e).symm
          · rw [e]
            exact nlw
        have lXs : Xs.length ≤ 1000 := by
          have h1 := congrArg List.length exs
          rw [show (tms Xs).length = Xs.length from List.length_map _] at h1
          split at h1
          · rw [show (tms n.F).length = n.F.length from List.length_map _] at h1
            omega
          · omega
        have wXs : ∀ x ∈ Xs, ls.drop 1 ≠ [] → x.2.length = Ps.flatten.length + P.length := fun x mx hne => by
          have w0 : Ps.flatten.length ≠ 0 := fun w0 => by
            cases ls with
            | nil => exact hne rfl
            | cons a r => have := lw' a List.mem_cons_self; omega
          rw [if_neg w0] at exs
          have m := List.mem_map_of_mem (f := Prod.snd) mx
          rw [show Xs.map Prod.snd = ext1 rows n.F ls from exs] at m
          cases ls with
          | nil => exact absurd rfl hne
          | cons a r =>
            have m : x.2 ∈ rows.flatMap fun r => sums (okAt a.1 a.2) r n.F := m
            obtain ⟨r', mr, m2⟩ := List.mem_flatMap.mp m
            unfold sums at m2
            obtain ⟨f, mf, e⟩ := List.mem_map.mp m2
            rw [← e, List.length_append, lenR r'.2 (List.mem_map_of_mem mr), (inF f (List.mem_filter.mp mf).1).2]
        refine ⟨lt, rfl, ⟨_, SqL.of c13⟩, for_it (L2.walk_list (K := K)) (fun j σ H14 => ∃ (l2 : Addr) (rs : List Tx) (v11 v13 : Option V), σ = [some (.ref q), some (.ref k), some (.int (most : Int)), some (.ref d), some (.ref l2), some (.int (Ps.flatten.length : Int)), some (.ref wa), some (.int (n.F.length : Int)), some (.ref n.P.1), some (.ref n.l), some (.ref lk), v11, v12, v13, none] ∧
            Same H13 H14 ∧ l2 ≠ wa ∧ H14 l2 = some (.lst (refs rs)) ∧ rs = Xs.filter fun x => lkOk Ps.flatten.length ((ls.drop 1).take j) x.2)
          ⟨l', Xs, v11, v13, rfl, Same.refl _, lwa, s13 _ _ hl12, by rw [List.take_zero]; exact (List.filter_eq_self.mpr fun _ _ => rfl).symm⟩ (fun j σ H14 _ pp => let ⟨_, _, _, _, _, s, _⟩ := pp; SqL.of (s _ _ c13)) (fun j z σ H14' H14 hj' pp yy => ?_) (fun σ H14 pp => ?_)⟩
        · obtain ⟨l2, rs, v11, v13, rfl, s14, l2w, hl2, ers⟩ := pp
          obtain ⟨rfl, hz⟩ := yy
          rw [List.getElem?_map] at hz
          obtain ⟨t, ht, rfl⟩ := Option.map_eq_some_iff.mp hz
          have mt0 := List.mem_of_getElem? ht
          have mt := List.mem_of_mem_drop mt0
          have et := (s13.trans s14) _ _ (t2 t mt)
          have hne : ls.drop 1 ≠ [] := fun e => by
            rw [← t3, ← List.map_drop] at e
            rw [List.map_eq_nil_iff.mp e] at mt0
            cases mt0
          have elk : (ls.drop 1)[j]? = some t.2 := by
            rw [← t3, ← List.map_drop, List.getElem?_map, ht]
            rfl
          have mlk : t.2 ∈ ls := List.mem_of_mem_drop (List.mem_of_getElem? elk)
          have la : t.2.1 < P.length := by
            obtain ⟨z, e1, _⟩ := (hl' t.2).mp mlk
            rcases Nat.lt_or_ge t.2.1 P.length with h | h
            · exact h
            · rw [List.getElem?_eq_none_iff.mpr h] at e1
              cases e1
          have lp := lw' t.2 mlk
          refine ⟨t.1, _, rfl, SqT.of et, rfl, _, _, rfl, _, _, rfl, rfl, ?_⟩
          refine ⟨_, rfl, l2, rfl, ⟨_, SqL.of hl2⟩, fun D2 nD2 => ?_⟩
          have lrs : rs.length ≤ 1000 := by
            rw [ers]
            exact Nat.le_trans (List.length_filter_le _ _) lXs
          refine lc_sift (ms := rs) (val := fun x : Tx => V.ref x.1) (L2.walk_list (K := K)) (List.length_map _) (fun x => decide (x.2[Ps.flatten.length + t.2.1]? = x.2[t.2.2]?)) (fun x => V.ref x.1) nD2 lrs (fun H' s' => SqL.of (s' _ _ hl2)) (fun x hx H15 Yes No s15 yes no => ?_) (fun H15 s15 hL => ?_)
          · have mx : x ∈ Xs := by
              rw [ers] at hx
              exact (List.mem_filter.mp hx).1
            have lx := wXs x mx hne
            have ex := (s13.trans (s14.trans s15)) _ _ (tx12 x mx)
            have eu : x.2[Ps.flatten.length + t.2.1]? = some (x.2[Ps.flatten.length + t.2.1]'(by omega)) := List.getElem?_eq_getElem _
            have ev : x.2[t.2.2]? = some (x.2[t.2.2]'(by omega)) := List.getElem?_eq_getElem _
            refine ⟨rfl, _, rfl, _, rfl, _, rfl, _, _, rfl, rfl, x.1, _, _, .str (x.2[Ps.flatten.length + t.2.1]'(by omega)), rfl, rfl, SqT.of ex, ?_, _, rfl, _, rfl, x.1, _, _, .str (x.2[t.2.2]'(by omega)), rfl, rfl, SqT.of ex, atI_nat (j := t.2.2) (by rw [List.getElem?_map, ev]; rfl), rfl, _, rfl, ?_⟩
            · rw [show (Ps.flatten.length : Int) + (t.2.1 : Int) = ((Ps.flatten.length + t.2.1 : Nat) : Int) by omega]
              exact atI_nat (j := Ps.flatten.length + t.2.1) (by rw [List.getElem?_map, eu]; rfl)
            rw [str_dec]
            refine ite2 (fun e => ⟨_, rfl, yes _ (Same.refl _) ?_⟩) (fun e => no _ (Same.refl _) ?_)
            · rw [eu, ev]; simpa using e
            · rw [eu, ev]; simpa using e
          · refine ⟨D2, rs.filter fun x => decide (x.2[Ps.flatten.length + t.2.1]? = x.2[t.2.2]?), _, _, rfl, s14.trans s15, fun z => ?_, hL, ?_⟩
            · have := (s12.trans (s13.trans s14)) _ _ hw11
              rw [← z, nD2] at this
              cases this
            · rw [ers, List.filter_filter, take_snoc elk]
              refine List.filter_congr fun x _ => ?_
              rw [lkOk_snoc, Bool.and_comm]
        · obtain ⟨l2, rs, v11, v13, rfl, s14, l2w, hl2, ers⟩ := pp
          have s1214 := s12.trans (s13.trans s14)
          rw [show ((ts.drop 1).map fun t => V.ref t.1).length = (ls.drop 1).length by rw [List.length_map, List.length_drop, List.length_drop, ← t3, List.length_map], List.take_length] at ers
          have hP14 := hP11.same s1214
          refine ⟨_, rfl, _, rfl, n.P.1, _, rfl, .inr hP14.sq, _, _, rfl, rfl, ?_⟩
          have ers2 : tms rs = (tms Xs).filter (lkOk Ps.flatten.length (ls.drop 1)) := by
            rw [ers]
            unfold tms
            rw [List.filter_map]
            rfl
          have ro' : RowsAt kn (GOf xs) (Ps ++ [P]) (tms rs) := by
            rw [ers2, exs]
            by_cases w0 : Ps.flatten.length = 0
            · rw [if_pos w0]
              have e0 : Ps = [] := by
                have := fl.2
                exact List.length_eq_zero_iff.mp (by omega)
              have el : ls = [] := by
                cases ls with
                | nil => rfl
                | cons a r => have := lw' a List.mem_cons_self; omega
              rw [e0, el]
              rw [show (tms n.F).filter (lkOk ([] : List Tm).flatten.length (([] : List Lk).drop 1)) = tms n.F from List.filter_eq_self.mpr fun _ _ => rfl]
              exact RowsAt.first ndF mF
            · rw [if_neg w0, ext_step lenR ls lw']
              exact jw.ro.step jw.pl ndF mF hl'
          have efl : (Ps ++ [P]).flatten = Ps.flatten ++ P := by simp
          have lenP := inv.len
          rw [eWd]
          refine ⟨l2, rs, Ps ++ [P], ens.eraseIdx j, Pl', some (.int (n.F.length : Int)), some (.ref n.P.1), some (.ref n.l), some (.ref lk), v11, v12, v13, ?_, ?_, ?_⟩
          · rw [efl, List.length_append, show ((Ps.flatten.length + P.length : Nat) : Int) = (Ps.flatten.length : Int) + ((P.map V.str).length : Int) by rw [eL]; omega]
            rfl
          · rw [List.length_eraseIdx_of_lt hj]
          · exact {
              s := s11.trans s1214
              hd := s1214 _ _ hd11
              hw := s1214 _ _ hw11
              hl := hl2
              lw := l2w
              tr := fun x mx => by
                rw [ers] at mx
                exact (s13.trans s14) _ _ (tx12 x (List.mem_filter.mp mx).1)
              en := fun m mm => by
                have mm := List.mem_of_mem_eraseIdx mm
                exact ⟨(en11 m mm).same s1214, (jw.en m mm).2⟩
              pm := by
                have h1 := (erase_perm hn).map fun n => n.P.2
                rw [List.map_cons, ← eP] at h1
                have h2 : (Ps ++ [P] ++ (ens.eraseIdx j).map fun n => n.P.2).Perm (Ps ++ ens.map fun n => n.P.2) := by
                  rw [List.append_assoc]
                  exact h1.symm.append_left Ps
                exact h2.trans jw.pm
              ok := okPs
              ro := ro'
              pl := by rw [efl]; exact pl'
              pn := by rw [efl, List.length_append]; omega
              few := by
                rw [List.length_append, List.length_eraseIdx_of_lt hj]
                show Ps.length + 1 + _ ≤ 20
                omega }
end
end L2.Rws
set_option Elab.async false
set_option linter.all false
set_option maxRecDepth 100000
set_option maxHeartbeats 4000000
/-! small_rows. -/
namespace L2.Rws
open PySem PySem.Spec PyProof.Rows L2.LawH L2.SetT L2.Frz L2.NSet
open L2.TxtDict (Prs2 kd)
abbrev sSR : Stmt := top 29
/-- no map leads all patterns to facts -/
def NoFit (kn : Prs2) (G : Tm → Prop) (Ps : List Tm) : Prop := ∀ μ, Ext kn μ → ¬ ∀ P ∈ Ps, G (P.map μ)
def spSR : Sp := fun us H Q _ => ∃ (q g k : Addr) (ps xs : List Tx) (gs : List Grp) (kn : Prs2) (cs vs : List Str) (most : Nat), us = [.ref q, .ref g, .ref k, .int (most : Int)] ∧ (H q = some (.lst (refs ps)) ∨ H q = some (.tup (refs ps))) ∧
  (∀ p ∈ ps, PtR H p.1 p.2 ∧ PatOk kn vs p.2) ∧ ps.length ≤ 20 ∧ GrpAt H g xs gs ∧ TxsAt H xs ∧ Sit xs kn cs vs ∧ MapAt H k kn ∧ 200 ≤ most ∧
  ∀ (t d l : Addr) (Pl : Pls) (rows : List Tx) (Ps : List Tm) (H' : Hp), Same H H' → H' t = some (.tup [.ref d, .ref l]) → H' d = some (.dK (kdI Pl)) → H' l = some (.lst (refs rows)) → TxsAt H' rows →
    PlcAt kn Ps.flatten Pl → (∀ P ∈ Ps, PatOk kn vs P) → ((rows = [] ∧ NoFit kn (GOf xs) (ps.map (·.2))) ∨ (Ps.Perm (ps.map (·.2)) ∧ RowsAt kn (GOf xs) Ps (tms rows))) → Q (.ref t) H'
section
variable {P : Program} {w : World} {K : PySem.W.Frag} {mg : Str → Option Value} {base : Heap}
abbrev nSR : List Str := ["lot", "groups", "known", "most", "fits"]
theorem scSR : FnScope nSR ["lot", "groups", "known", "most"] (defScope sSR) := ⟨rfl, rfl, rfl, by decide +kernel, rfl, by decide +kernel, by decide +kernel⟩
theorem ok_sr {f fA fJ : Addr} {fd fdA fdJ : FuncData} (F : Fun K "small_rows" "small_rows" sSR f fd)
    (GA : FnOk P w K mg base CX0 2 fA fdA ["lot", "groups", "known"] spAllF) (kA : PySem.W.keepIn K (.ref fA) = true) (bA : Binds K fdA ["lot", "groups", "known"] []) (mA : mg "all_fitting" = some (.ref fA))
    (GJ : FnOk P w K mg base CX0 3 fJ fdJ ["fits", "known", "most"] spJR) (kJ : PySem.W.keepIn K (.ref fJ) = true) (bJ : Binds K fdJ ["fits", "known", "most"] []) (mJ : mg "joined_rows" = some (.ref fJ)) :
    FnOk P w K mg base CX0 4 f fd ["lot", "groups", "known", "most"] spSR := by
  refine F.ok scSR (fun vs H Q E h => ?_) (fun cdv A outer s H vs Q E hr h => ?_)
  · obtain ⟨q, g, k, ps, xs, gs, kn, cs, vs, most, rfl, _⟩ := h
    rfl
  · obtain ⟨q, g, k, ps, xs, gs, kn, cs, vs, most, rfl, hq, hps, few, hg, hxs, S, hk, m200, kk⟩ := h
    have hr2 : Room 2 _ := hr.mono (by decide)
    refine ⟨_, pss_cons (ps_set (i := 4) scSR.nd rfl (Or.inl rfl) (pe_call GA hr2 (by rfl) mA kA bA .nil pass0 (pa_cons (pv 0) (pa_cons (pv 1) (pa_cons (pv 2) pa_nil)))))
      (pss_one (ps_ret (pe_ifExp (pt_cmpR op_isN (pv 4) pe_non (nomark _)) (pe_tup (pa_cons pe_dnewK (pa_cons (pe_lst pa_nil) pa_nil))) (pe_call GJ hr (by rfl) mJ kJ bJ .nil pass0 (pa_cons (pv 4) (pa_cons (pv 2) (pa_cons (pv 3) pa_nil))))))), ?_⟩
    refine ⟨_, rfl, _, rfl, _, rfl, q, g, k, ps, xs, gs, kn, rfl, hq, fun p m => ⟨(hps p m).1, (hps p m).2.1⟩, by omega, hg, hxs, by have := S.x8; omega, hk, fun ⟨p, mp, e⟩ H1 s1 => ?_, fun l fs H1 s1 hl hfs efs ne => ?_⟩
    · refine ⟨_, rfl, rfl, _, rfl, ifT rfl ?_⟩
      intro d nd
      have s2 : Same H1 (upd H1 d (.dK [])) := same_new nd
      have c2 : (upd H1 d (.dK [])) d = some (.dK []) := upd_same
      generalize upd H1 d (.dK []) = H2 at s2 c2 ⊢
      refine ⟨by show 0 ≤ sizeLine; decide, fun l nl => ?_⟩
      have s3 : Same H2 (upd H2 l (.lst [])) := same_new nl
      have c3 : (upd H2 l (.lst [])) l = some (.lst []) := upd_same
      generalize upd H2 l (.lst []) = H3 at s3 c3 ⊢
      refine ⟨by show 2 ≤ sizeLine; decide, fun t nt => ?_⟩
      have s4 : Same H3 (upd H3 t (.tup [.ref d, .ref l])) := same_new nt
      have c4 : (upd H3 t (.tup [.ref d, .ref l])) t = some (.tup [.ref d, .ref l]) := upd_same
      generalize upd H3 t (.tup [.ref d, .ref l]) = H4 at s4 c4 ⊢
      refine kk t d l [] [] [] H4 (s1.trans (s2.trans (s3.trans s4))) c4 (s4 _ _ (s3 _ _ c2)) (s4 _ _ c3) (fun x m => (nomatch m)) ⟨by simp, fun q m => (nomatch m), fun z m => (nomatch m)⟩ (fun x m => (nomatch m)) (.inl ⟨rfl, fun μ hμ all => ?_⟩)
      have m := (fits_mem S.ok (hps p mp).2.1 S.kk (p.2.map μ)).mpr ⟨μ, hμ, all p.2 (List.mem_map_of_mem mp), rfl⟩
      rw [e] at m
      cases m
    · refine ⟨_, rfl, rfl, _, rfl, ifF (isNone_ref _) ?_⟩
      refine ⟨_, rfl, _, rfl, _, rfl, l, k, fs, xs, kn, cs, vs, most, rfl, hl, fun n mn => ?_, ?_, hxs.same s1, S, hk.same s1, m200, fun t d l' Pl rows Ps rest H2 s2 ht hd hl' tr pm ro pl ok or => ?_⟩
      · have mp : n.P ∈ ps := by rw [← efs]; exact List.mem_map_of_mem mn
        exact ⟨hfs n mn, (hps _ mp).1.same s1, (hps _ mp).2⟩
      · have := congrArg List.length efs
        rw [List.length_map] at this
        omega
      · have ep : (fs.map fun n => n.P.2) = ps.map (·.2) := by rw [← efs, List.map_map]; rfl
        rw [ep] at pm
        refine kk t d l' Pl rows Ps H2 (s1.trans s2) ht hd hl' tr pl ok ?_
        rcases or with e | e
        · rw [e, List.append_nil] at pm
          exact .inr ⟨pm, ro⟩
        · refine .inl ⟨e, fun μ hμ all => ?_⟩
          have : Ps.flatten.map μ ∈ tms rows := (ro.mem _).mpr ⟨μ, hμ, fun P m => all P (pm.mem_iff.mp (List.mem_append_left _ m)), rfl⟩
          rw [e] at this
          cases this
end
end L2.Rws
set_option Elab.async false
set_option linter.all false
set_option maxRecDepth 100000
set_option maxHeartbeats 4000000
/-! The maps that fit, in order; no Python here. -/
namespace L2.Rws
open PySem PySem.Spec PyProof.Rows L2.LawH L2.SetT L2.Frz L2.NSet PySem.W
open L2.TxtDict (Prs2 kd)
theorem nd_map {α β : Type} {f : α → β} {l : List α} (h : l.Nodup) (inj : ∀ x ∈ l, ∀ y ∈ l, f x = f y → x = y) : (l.map f).Nodup :=
  List.pairwise_map.mpr (List.Pairwise.imp_of_mem (fun {a b} ma mb ne e => ne (inj a ma b mb e)) h)
/-- the map of m over some names -/
def mapOn (ks : List Str) (μ : Str → Str) : Prs2 := ks.map fun z => (z, μ z)
theorem on_keys (ks : List Str) (μ : Str → Str) : (mapOn ks μ).map Prod.fst = ks := by
  unfold mapOn
  rw [List.map_map]
  exact List.map_id _
def tv (v : Tm) : List (Int ⊕ List Nat) := keyToksAll (v.map PyData.str)
theorem toks_facT (v : Tm) : keyToks (facT v) = tv v := by simp [facT, tv, keyToks]
theorem tv_nil : tv [] = [.inl 0] := by simp [tv, keyToksAll]
theorem tv_cons (z : Str) (v : Tm) : tv (z :: v) = .inl 1 :: .inr z.cps.toList :: tv v := by simp [tv, keyToksAll, keyToks]
theorem tv_inj : ∀ {v v' : Tm}, tv v = tv v' → v = v'
  | [], [], _ => rfl
  | [], p :: m', h => by
    rw [tv_nil, tv_cons] at h
    injection h with h1 h2
    exact absurd h1 (by simp)
  | p :: m, [], h => by
    rw [tv_nil, tv_cons] at h
    injection h with h1 h2
    exact absurd h1 (by simp)
  | p :: m, q :: m', h => by
    rw [tv_cons, tv_cons] at h
    injection h with _ h
    injection h with h1 h
    rw [tv_inj h, str_of_cps (Sum.inr.inj h1)]
/-- maps over the same names stand as their values do that may differ -/
theorem lex_on {p : Str → Bool} {f g : Str → Str} (e : ∀ z, p z = false → f z = g z) : ∀ ks : List Str, PyProof.Rows.lexLt itemOrd (tk (mapOn ks f)) (tk (mapOn ks g)) = PyProof.Rows.lexLt itemOrd (tv ((ks.filter p).map f)) (tv ((ks.filter p).map g))
  | [] => by
    show PyProof.Rows.lexLt itemOrd (tk []) (tk []) = PyProof.Rows.lexLt itemOrd (tv []) (tv [])
    rw [tk_nil, tv_nil]
  | z :: ks => by
    show PyProof.Rows.lexLt itemOrd (tk ((z, f z) :: mapOn ks f)) (tk ((z, g z) :: mapOn ks g)) = _
    rw [tk_cons, tk_cons]
    show PyProof.Rows.lexLt itemOrd (.inl 1 :: .inl 1 :: .inr z.cps.toList :: .inl 1 :: .inr (f z).cps.toList :: .inl 0 :: tk (mapOn ks f)) (.inl 1 :: .inl 1 :: .inr z.cps.toList :: .inl 1 :: .inr (g z).cps.toList :: .inl 0 :: tk (mapOn ks g)) = _
    have ss := fun (x : Int ⊕ List Nat) r t => lex_self (O := itemOrd) x r t
    rw [ss, ss, ss, ss]
    cases hp : p z with
    | false =>
      rw [List.filter_cons_of_neg (by rw [hp]; decide), e z hp, ss, ss]
      exact lex_on e ks
    | true =>
      rw [List.filter_cons_of_pos hp, List.map_cons, List.map_cons, tv_cons, tv_cons]
      show _ = PyProof.Rows.lexLt itemOrd (.inl 1 :: .inr (f z).cps.toList :: tv ((ks.filter p).map f)) (.inl 1 :: .inr (g z).cps.toList :: tv ((ks.filter p).map g))
      rw [ss (.inl 1) (.inr (f z).cps.toList :: tv ((ks.filter p).map f))]
      by_cases q : f z = g z
      · rw [q, ss, ss, ss]
        exact lex_on e ks
      · have ne : (Sum.inr (f z).cps.toList : Int ⊕ List Nat) ≠ Sum.inr (g z).cps.toList := fun h => q (str_of_cps (Sum.inr.inj h))
        rw [lex_diff (O := itemOrd) ne, lex_diff (O := itemOrd) ne]
/-- names in order -/
abbrev Asc (l : List Str) : Prop := l.Pairwise fun a b => a.cps.toList ≤ b.cps.toList
theorem asc_one {l l' : List Str} (h : Asc l) (h' : Asc l') (p : l.Perm l') : l = l' := List.Perm.eq_of_pairwise (fun a b _ _ x y => str_anti x y) h h' p
def srt (ws : List Str) : List Str := (canon (mapOn ws fun z => z)).map Prod.fst
theorem srt_perm (ws : List Str) : (srt ws).Perm ws := by
  have := (canon_perm (mapOn ws fun z => z)).map Prod.fst
  rwa [on_keys] at this
theorem srt_asc (ws : List Str) : Asc (srt ws) := by
  unfold srt Asc
  rw [List.pairwise_map]
  exact canon_pw _
theorem asc_srt {ws : List Str} (h : Asc ws) : srt ws = ws := asc_one (srt_asc ws) h (srt_perm ws)
theorem canon_on {ws : List Str} (nd : ws.Nodup) (μ : Str → Str) : canon (mapOn ws μ) = mapOn (srt ws) μ := by
  have pm : (mapOn ws μ).Perm (mapOn (srt ws) μ) := ((srt_perm ws).map _).symm
  rw [canon_eq (by rw [on_keys]; exact nd) pm]
  refine canon_id ?_ (by rw [on_keys]; exact (srt_perm ws).nodup_iff.mpr nd)
  unfold mapOn
  rw [List.pairwise_map]
  exact srt_asc ws
theorem look_on {ws : List Str} (nd : ws.Nodup) (μ : Str → Str) (z : Str) : look (mapOn ws μ) z = if z ∈ ws then some (μ z) else none := by
  by_cases m : z ∈ ws
  · rw [if_pos m]
    exact look_of (p := (z, μ z)) (by rw [on_keys]; exact nd) (List.mem_map.mpr ⟨z, m, rfl⟩)
  · rw [if_neg m]
    exact look_none.mpr (by rw [on_keys]; exact m)
theorem on_inj {μ ν : Str → Str} : ∀ {ks : List Str}, mapOn ks μ = mapOn ks ν → ∀ z ∈ ks, μ z = ν z
  | k :: ks, h, z, m => by
    have h' : (k, μ k) :: mapOn ks μ = (k, ν k) :: mapOn ks ν := h
    injection h' with h1 h2
    rcases List.mem_cons.mp m with e | m
    · rw [e]; exact (Prod.mk.inj h1).2
    · exact on_inj h2 z m
/-- what a fitting map tells of a name -/
def lookF (kn : Prs2) (W : Tm) (μ : Str → Str) (z : Str) : Option Str := if fr kn z = true ∧ z ∈ W then some (μ z) else look kn z
/-- m is a fitting map -/
def FM (kn : Prs2) (G : Tm → Prop) (Ps : List Tm) (m : Prs2) : Prop := (m.map Prod.fst).Nodup ∧ ∃ μ, Ext kn μ ∧ (∀ P ∈ Ps, G (P.map μ)) ∧ ∀ z, look m z = lookF kn Ps.flatten μ z
/-- the fitting maps in order -/
structure OrdF (kn : Prs2) (G : Tm → Prop) (Ps : List Tm) (cs : List Prs2) : Prop where
  up : cs.Pairwise fun a b => leM a b = true
  once : cs.Nodup
  mem : ∀ c, c ∈ cs ↔ ∃ m, FM kn G Ps m ∧ c = canon m
theorem OrdF.one {kn : Prs2} {G : Tm → Prop} {Ps : List Tm} {cs cs' : List Prs2} (h : OrdF kn G Ps cs) (h' : OrdF kn G Ps cs') : cs = cs' :=
  List.Perm.eq_of_pairwise (fun a b _ _ x y => leM_anti x y) h.up h'.up ((List.perm_ext_iff_of_nodup h.once h'.once).mpr fun c => by rw [h.mem, h'.mem])
theorem FM.perm {kn : Prs2} {G : Tm → Prop} {Ps Ps' : List Tm} {m : Prs2} (p : Ps.Perm Ps') (h : FM kn G Ps m) : FM kn G Ps' m := by
  obtain ⟨nd, μ, e, g, l⟩ := h
  refine ⟨nd, μ, e, fun P m => g P (p.mem_iff.mpr m), fun z => ?_⟩
  rw [l z]
  unfold lookF
  simp only [p.flatten.mem_iff]
theorem OrdF.perm {kn : Prs2} {G : Tm → Prop} {Ps Ps' : List Tm} {cs : List Prs2} (p : Ps.Perm Ps') (h : OrdF kn G Ps cs) : OrdF kn G Ps' cs :=
  ⟨h.up, h.once, fun c => by rw [h.mem]; exact ⟨fun ⟨m, a, b⟩ => ⟨m, a.perm p, b⟩, fun ⟨m, a, b⟩ => ⟨m, a.perm p.symm, b⟩⟩⟩
theorem OrdF.none {kn : Prs2} {G : Tm → Prop} {Ps : List Tm} (h : NoFit kn G Ps) : OrdF kn G Ps [] :=
  ⟨List.Pairwise.nil, List.nodup_nil, fun c => ⟨fun m => (nomatch m), fun ⟨m, ⟨_, μ, e, g, _⟩, _⟩ => absurd g (h μ e)⟩⟩
/-- the list of Ordd as that of OrdF -/
theorem Ordd.fits {kn : Prs2} {G : Tm → Prop} {Ps : List Tm} {ms cs : List Prs2} (h : Ordd ms cs) (h1 : ∀ m ∈ ms, FM kn G Ps m) (h2 : ∀ m, FM kn G Ps m → ∃ m' ∈ ms, canon m' = canon m) : OrdF kn G Ps cs :=
  ⟨h.up, h.once, fun c => by
    rw [h.mem]
    refine ⟨fun m => ?_, fun ⟨m, a, b⟩ => ?_⟩
    · obtain ⟨x, mx, e⟩ := List.mem_map.mp m
      exact ⟨x, h1 x mx, e.symm⟩
    · obtain ⟨x, mx, e⟩ := h2 m a
      exact List.mem_map.mpr ⟨x, mx, by rw [e, b]⟩⟩
/-- the spot of a name -/
def spotOf (Pl : List (Str × Nat)) (z : Str) : Nat := ((Pl.find? fun q => decide (q.1 = z)).map (·.2)).getD 0
theorem spot_find {Pl : List (Str × Nat)} {z : Str} (m : z ∈ Pl.map Prod.fst) : ∃ q, Pl.find? (fun q => decide (q.1 = z)) = some q ∧ q ∈ Pl ∧ q.1 = z ∧ spotOf Pl z = q.2 := by
  obtain ⟨q, mq, rfl⟩ := List.mem_map.mp m
  cases h : Pl.find? (fun p => decide (p.1 = q.1)) with
  | none => have := List.find?_eq_none.mp h q mq; simp at this
  | some p => exact ⟨p, rfl, List.mem_of_find?_eq_some h, by have := List.find?_some h; simpa using this, by unfold spotOf; rw [h]; rfl⟩
def pickR (spots : List Nat) (r : Tm) : Tm := spots.map fun p => (r[p]?).getD default
theorem pick_on {kn : Prs2} {W : Tm} {Pl : List (Str × Nat)} (pl : PlcAt kn W Pl) {names : List Str} (sub : ∀ z ∈ names, z ∈ Pl.map Prod.fst) (μ : Str → Str) : pickR (names.map (spotOf Pl)) (W.map μ) = names.map μ := by
  unfold pickR
  rw [List.map_map]
  refine List.map_congr_left fun z m => ?_
  obtain ⟨q, _, mq, e, es⟩ := spot_find (sub z m)
  have := (pl.at_ q mq).1
  show ((W.map μ)[spotOf Pl z]?).getD default = _
  rw [es, List.getElem?_map, this, e]
  rfl
theorem spot_lt {kn : Prs2} {W : Tm} {Pl : List (Str × Nat)} (pl : PlcAt kn W Pl) {z : Str} (m : z ∈ Pl.map Prod.fst) : spotOf Pl z < W.length := by
  obtain ⟨q, _, mq, e, es⟩ := spot_find m
  rw [es]
  exact (List.getElem?_eq_some_iff.mp (pl.at_ q mq).1).1
/-- the map that few_maps makes of values -/
def cOf (kn : Prs2) (names : List Str) (v : Tm) : Prs2 := canon (bothP kn (names.zip v))
theorem zip_on (names : List Str) (μ : Str → Str) : names.zip (names.map μ) = mapOn names μ := by
  unfold mapOn
  induction names with
  | nil => rfl
  | cons z r ih => rw [List.map_cons, List.zip_cons_cons, ih, List.map_cons]
theorem cOf_nil {names : List Str} {v : Tm} (a : Asc names) (nd : names.Nodup) (l : v.length = names.length) : cOf [] names v = names.zip v := by
  have ek : (names.zip v).map Prod.fst = names := by rw [List.map_fst_zip (by omega)]
  have e : bothP [] (names.zip v) = names.zip v := by
    unfold bothP
    rw [show merP [] [] = [] from rfl, mer_nil (acc := []) (by rw [List.nil_append, ek]; exact nd)]
    rfl
  unfold cOf
  rw [e]
  refine canon_id ?_ (by rw [ek]; exact nd)
  have : ((names.zip v).map Prod.fst).Pairwise fun a b => a.cps.toList ≤ b.cps.toList := by rw [ek]; exact a
  rw [List.pairwise_map] at this
  exact this
/-- names that are those of the places -/
structure NmAt (kn : Prs2) (W : Tm) (names : List Str) : Prop where
  asc : Asc names
  nd : names.Nodup
  iff : ∀ z, z ∈ names ↔ fr kn z = true ∧ z ∈ W
theorem PlcAt.names {kn : Prs2} {W : Tm} {Pl : List (Str × Nat)} (pl : PlcAt kn W Pl) {names : List Str} (a : Asc names) (pm : names.Perm (Pl.map Prod.fst)) : NmAt kn W names :=
  ⟨a, pm.nodup_iff.mpr pl.nd, fun z => by
    rw [pm.mem_iff]
    constructor
    · intro m
      obtain ⟨q, mq, rfl⟩ := List.mem_map.mp m
      exact ⟨(pl.at_ q mq).2, List.mem_of_getElem? (pl.at_ q mq).1⟩
    · rintro ⟨e, m⟩
      obtain ⟨p, mp⟩ := pl.all z m e
      exact List.mem_map.mpr ⟨_, mp, rfl⟩⟩
theorem NmAt.ws {kn : Prs2} {W : Tm} {names : List Str} (h : NmAt kn W names) (nk : (kn.map Prod.fst).Nodup) : (kn.map Prod.fst ++ names).Nodup := by
  refine List.nodup_append.mpr ⟨nk, h.nd, fun a ma b mb e => ?_⟩
  subst e
  have := ((h.iff a).mp mb).1
  unfold fr at this
  have n := (Bool.and_eq_true_iff.mp this).2
  rw [Option.isNone_iff_eq_none] at n
  exact look_none.mp n ma
theorem look_ws {kn : Prs2} {W : Tm} {names : List Str} (h : NmAt kn W names) (nk : (kn.map Prod.fst).Nodup) {μ : Str → Str} (hμ : Ext kn μ) (z : Str) : look (mapOn (kn.map Prod.fst ++ names) μ) z = lookF kn W μ z := by
  rw [look_on (h.ws nk)]
  unfold lookF
  by_cases m : fr kn z = true ∧ z ∈ W
  · rw [if_pos m, if_pos (List.mem_append_right _ ((h.iff z).mpr m))]
  · rw [if_neg m]
    by_cases mk : z ∈ kn.map Prod.fst
    · rw [if_pos (List.mem_append_left _ mk)]
      obtain ⟨q, mq, rfl⟩ := List.mem_map.mp mk
      have := look_of nk mq
      rw [this, hμ.old _ _ this]
    · rw [if_neg (fun a => (List.mem_append.mp a).elim mk fun b => m ((h.iff z).mp b)), look_none.mpr mk]
theorem FM.on {kn : Prs2} {W : Tm} {names : List Str} (h : NmAt kn W names) (nk : (kn.map Prod.fst).Nodup) {μ : Str → Str} (hμ : Ext kn μ) {m : Prs2} (nd : (m.map Prod.fst).Nodup) (hl : ∀ z, look m z = lookF kn W μ z) : canon m = mapOn (srt (kn.map Prod.fst ++ names)) μ := by
  rw [← canon_on (h.ws nk)]
  exact canon_ext nd (by rw [on_keys]; exact h.ws nk) fun z => by rw [hl, look_ws h nk hμ]
theorem cOf_on {kn : Prs2} {W : Tm} {names : List Str} (h : NmAt kn W names) (nk : (kn.map Prod.fst).Nodup) {μ : Str → Str} (hμ : Ext kn μ) : cOf kn names (names.map μ) = mapOn (srt (kn.map Prod.fst ++ names)) μ := by
  unfold cOf
  rw [zip_on]
  refine FM.on h nk hμ (both_nd _ _) fun z => ?_
  rw [both_look nk (by rw [on_keys]; exact h.nd), look_on h.nd]
  unfold lookF
  by_cases m : fr kn z = true ∧ z ∈ W
  · rw [if_pos m, if_pos ((h.iff z).mpr m)]
    rfl
  · rw [if_neg m, if_neg fun a => m ((h.iff z).mp a)]
    rfl
/-- the names within all names are those that are not known -/
theorem NmAt.part {kn : Prs2} {W : Tm} {names : List Str} (h : NmAt kn W names) (nk : (kn.map Prod.fst).Nodup) : (srt (kn.map Prod.fst ++ names)).filter (fr kn) = names := by
  refine asc_one ((srt_asc _).filter _) h.asc ?_
  refine ((srt_perm _).filter _).trans ?_
  rw [List.filter_append, List.filter_eq_nil_iff.mpr, List.nil_append, List.filter_eq_self.mpr]
  · exact fun z m => ((h.iff z).mp m).1
  · intro z m e
    obtain ⟨q, mq, rfl⟩ := List.mem_map.mp m
    unfold fr at e
    have n := (Bool.and_eq_true_iff.mp e).2
    rw [look_of nk mq] at n
    cases n
/-- what few_maps tells -/
theorem few_ord {kn : Prs2} {G : Tm → Prop} {Ps : List Tm} {rows : List Tm} {Pl : List (Str × Nat)} {names : List Str} {vals : List Tm} (nk : (kn.map Prod.fst).Nodup) (ro : RowsAt kn G Ps rows) (pl : PlcAt kn Ps.flatten Pl) (nm : NmAt kn Ps.flatten names)
    (sub : ∀ z ∈ names, z ∈ Pl.map Prod.fst) (pm : vals.Perm (rows.map (pickR (names.map (spotOf Pl))))) (r : vals.Pairwise fun a b => dataLe false facT a b = true) : OrdF kn G Ps (vals.map (cOf kn names)) := by
  have each : ∀ v ∈ vals, ∃ μ, Ext kn μ ∧ (∀ P ∈ Ps, G (P.map μ)) ∧ v = names.map μ := fun v m => by
    obtain ⟨x, mx, rfl⟩ := List.mem_map.mp (pm.mem_iff.mp m)
    obtain ⟨μ, hμ, g, rfl⟩ := (ro.mem x).mp mx
    exact ⟨μ, hμ, g, pick_on pl sub μ⟩
  have ndv : vals.Nodup := by
    refine pm.nodup_iff.mpr ?_
    refine nd_map ro.nd fun x mx y my e => ?_
    obtain ⟨μ, hμ, g, rfl⟩ := (ro.mem x).mp mx
    obtain ⟨ν, hν, g', rfl⟩ := (ro.mem y).mp my
    rw [pick_on pl sub, pick_on pl sub] at e
    refine List.map_congr_left fun z m => ?_
    cases hf : fr kn z with
    | false => exact hμ.fixed hν hf
    | true => exact List.map_inj_left.mp e z ((nm.iff z).mpr ⟨hf, m⟩)
  refine ⟨?_, ?_, fun c => ⟨fun m => ?_, fun ⟨m, ⟨nd, μ, hμ, g, hl⟩, e⟩ => ?_⟩⟩
  · rw [List.pairwise_map]
    refine List.Pairwise.imp_of_mem (fun {a b} ma mb h => ?_) r
    obtain ⟨μ, hμ, _, rfl⟩ := each a ma
    obtain ⟨ν, hν, _, rfl⟩ := each b mb
    rw [cOf_on nm nk hμ, cOf_on nm nk hν]
    have h' : (!PyProof.Rows.lexLt itemOrd (keyToks (facT (names.map ν))) (keyToks (facT (names.map μ)))) = true := h
    rw [toks_facT, toks_facT] at h'
    unfold leM
    rw [lex_on (p := fr kn) (fun z e => hν.fixed hμ e), nm.part nk]
    exact h'
  · refine nd_map ndv fun a ma b mb e => ?_
    obtain ⟨μ, hμ, _, rfl⟩ := each a ma
    obtain ⟨ν, hν, _, rfl⟩ := each b mb
    rw [cOf_on nm nk hμ, cOf_on nm nk hν] at e
    exact List.map_congr_left fun z m => on_inj e z ((srt_perm _).mem_iff.mpr (List.mem_append_right _ m))
  · obtain ⟨v, mv, rfl⟩ := List.mem_map.mp m
    obtain ⟨μ, hμ, g, rfl⟩ := each v mv
    refine ⟨mapOn (kn.map Prod.fst ++ names) μ, ⟨by rw [on_keys]; exact nm.ws nk, μ, hμ, g, look_ws nm nk hμ⟩, ?_⟩
    rw [cOf_on nm nk hμ, canon_on (nm.ws nk)]
  · refine List.mem_map.mpr ⟨names.map μ, pm.mem_iff.mpr (List.mem_map.mpr ⟨Ps.flatten.map μ, (ro.mem _).mpr ⟨μ, hμ, g, rfl⟩, pick_on pl sub μ⟩), ?_⟩
    rw [cOf_on nm nk hμ, e, FM.on nm nk hμ nd hl]
end L2.Rws
set_option Elab.async false
set_option linter.all false
set_option maxRecDepth 100000
set_option maxHeartbeats 4000000
/-! dict(zip(a list, a tuple)). -/
namespace L2.ZipD
open PySem PySem.Spec PyProof.Rows L2.LawH L2.NSet L2.DX PySem.W
open L2.TxtDict (Prs2 kd)
section
variable {prog : Program} {w : World} {A : Around} {E : Value → Shared → Prop} {s : Shared} {z TI TO i1 i2 : Addr} {fp1 fp2 : List Addr} {n i : Nat} {P1 P2 : Nat → Value → Prop} {St1 St2 : Nat → Heap → Prop}
/-- an item while the tuple told before is held: a tuple of its own -/
theorem held_item {T : Addr} {f : Bool} {oT : Obj} {Q : Value → Shared → Prop} (S : ZipSep2 z TI TO i1 i2 fp1 fp2) (D1 : Draws prog w A i1 fp1 n P1 St1) (D2 : Draws prog w A i2 fp2 n P2 St2)
    (hz : IsZipHeld s.heap z TI TO T f) (hT : s.heap.get? T = some oT) (hTI : IsTupOf2 s.heap TI (.ref i1) (.ref i2)) (st1 : St1 i s.heap) (st2 : St2 i s.heap) (lt : i < n)
    (hQ : ∀ x y h' tk, P1 i x → P2 i y → IsZipHeld h' z TI TO T true → St1 (i + 1) h' → St2 (i + 1) h' → IsTupOf2 h' s.heap.objs.size x y →
      (∀ c o, c ≠ z → c ≠ i1 → c ≠ i2 → s.heap.get? c = some o → h'.get? c = some o) → Q (.ref s.heap.objs.size) { s with heap := h', toks := tk }) :
    wpAny (model prog w) A (Builtin.«zip.__next__» ⟨[.ref z], []⟩) (fun fin s' => ∃ v, fin = .done (.ret v) ∧ Q v s') E s := by
  obtain ⟨hp, g, d, tk0, os⟩ := s
  show wpAny _ _ (field (.ref z) 2 >>= _) _ _ _
  refine wpAny_bind (wpAny_field hz rfl (x := .bool false) rfl ?_)
  show wpAny _ _ (field (.ref z) 3 >>= _) _ _ _
  refine wpAny_bind (wpAny_field hz rfl (x := .ref TI) rfl (wpAny_bind (wpAny_seqItems hTI rfl ?_)))
  show wpAny _ _ (Builtin.SmallTypes.ownedTupleIsFree (.ref z) >>= _) _ _ _
  refine wpAny_bind (wpAny_tupleHeld_zip hz hT fun ha za sa => ?_)
  simp only [Bool.false_eq_true, if_false]
  refine wpAny_bind ?_
  rw [← Array.forIn_toList]
  simp only [List.forIn_cons, List.forIn_nil]
  have p1 := D1.over st1 sa S.zf1
  have p2 := D2.over st2 sa S.zf2
  refine wpAny_bind (wpAny_bind (wpAny_holding ?_))
  show wpAny _ _ (Builtin.SmallTypes.nextOf (.ref i1) >>= _) _ _ _
  refine wpAny_bind (D1.item i _ _ _ lt p1 fun x hb tkb hx q1 sb => wpAny_pure (wpAny_pure ?_))
  have p2' := D2.over p2 sb S.sep1_2
  refine wpAny_bind (wpAny_bind (wpAny_holding ?_))
  show wpAny _ _ (Builtin.SmallTypes.nextOf (.ref i2) >>= _) _ _ _
  refine wpAny_bind (D2.item i _ _ _ lt p2' fun y hc tkc hy q2 sc => wpAny_pure (wpAny_pure (wpAny_pure ?_)))
  have q1' := D1.over q1 sc S.sep2_1
  show wpAny _ _ (newTuple [x, y] >>= _) _ _ _
  refine wpAny_bind (wpAny_newTuple (wpAny_pure ⟨_, rfl, ?_⟩))
  have hsz : hc.objs.size = hp.objs.size := by rw [sc.1, sb.1, sa.1]
  show Q (.ref hc.objs.size) _
  have zc : IsZipHeld hc z TI TO T true := sc.extBut _ _ S.zi2 (sb.extBut _ _ S.zi1 za)
  have pair : IsTupOf2 (hc.push { cls := .type "tuple", data := .seq #[x, y] }) hc.objs.size x y := Heap.get?_push_size _ rfl
  rw [hsz] at pair ⊢
  exact hQ x y _ _ hx hy (Heap.get?_push_of_some _ zc) (D1.frame _ _ _ q1' fun b _ o e => Heap.get?_push_of_some _ e) (D2.frame _ _ _ q2 fun b _ o e => Heap.get?_push_of_some _ e) pair
    fun c o c1 c2 c3 e => Heap.get?_push_of_some _ (sc.extBut _ _ c3 (sb.extBut _ _ c2 (sa.extBut _ _ c1 e)))
/-- the end while a tuple is held -/
theorem held_end {T : Addr} {f : Bool} {oT : Obj} {Q : Fin → Shared → Prop} (S : ZipSep2 z TI TO i1 i2 fp1 fp2) (D1 : Draws prog w A i1 fp1 n P1 St1)
    (hz : IsZipHeld s.heap z TI TO T f) (hT : s.heap.get? T = some oT) (hTI : IsTupOf2 s.heap TI (.ref i1) (.ref i2)) (st1 : St1 n s.heap)
    (hE : ∀ h' e, (∀ c o, c ≠ z → c ≠ i1 → s.heap.get? c = some o → h'.get? c = some o) → (∃ o, h'.get? e = some o ∧ o.cls = .type "StopIteration") → E (.ref e) { s with heap := h' }) :
    wpAny (model prog w) A (Builtin.«zip.__next__» ⟨[.ref z], []⟩) Q E s := by
  show wpAny _ _ (field (.ref z) 2 >>= _) _ _ _
  refine wpAny_bind (wpAny_field hz rfl (x := .bool false) rfl ?_)
  show wpAny _ _ (field (.ref z) 3 >>= _) _ _ _
  refine wpAny_bind (wpAny_field hz rfl (x := .ref TI) rfl (wpAny_bind (wpAny_seqItems hTI rfl ?_)))
  show wpAny _ _ (Builtin.SmallTypes.ownedTupleIsFree (.ref z) >>= _) _ _ _
  refine wpAny_bind (wpAny_tupleHeld_zip hz hT fun ha za sa => ?_)
  simp only [Bool.false_eq_true, if_false]
  refine wpAny_bind ?_
  rw [← Array.forIn_toList]
  simp only [List.forIn_cons, List.forIn_nil]
  refine wpAny_bind (wpAny_bind (wpAny_holding ?_))
  show wpAny _ _ (Builtin.SmallTypes.nextOf (.ref i1) >>= _) _ _ _
  exact wpAny_bind (D1.done _ _ _ (D1.over st1 sa S.zf1) fun hb e sb he => hE hb e (fun c o c1 c2 x => sb _ _ c2 (sa.extBut _ _ c1 x)) he)
theorem next_item {T : Addr} {f : Bool} {oT : Obj} {Q : Option Value → Shared → Prop} (S : ZipSep2 z TI TO i1 i2 fp1 fp2) (D1 : Draws prog w A.in1 i1 fp1 n P1 St1) (D2 : Draws prog w A.in1 i2 fp2 n P2 St2)
    (hz : IsZipHeld s.heap z TI TO T f) (hT : s.heap.get? T = some oT) (hTI : IsTupOf2 s.heap TI (.ref i1) (.ref i2)) (st1 : St1 i s.heap) (st2 : St2 i s.heap) (lt : i < n)
    (hQ : ∀ x y h' tk, P1 i x → P2 i y → IsZipHeld h' z TI TO T true → St1 (i + 1) h' → St2 (i + 1) h' → IsTupOf2 h' s.heap.objs.size x y →
      (∀ c o, c ≠ z → c ≠ i1 → c ≠ i2 → s.heap.get? c = some o → h'.get? c = some o) → Q (some (.ref s.heap.objs.size)) { s with heap := h', toks := tk }) :
    wpAny (model prog w) A (pyNext (.ref z)) Q E s := by
  have ty : s.TypeIs (.ref z) "zip" := ⟨_, hz, rfl⟩
  unfold pyNext
  exact wpAny_bind (wpAny_attempt (wpAny_callSpecial?_slot (name := Str.ofString "__next__") ty F.slot_zip_next (wpAny_call_entry F.slot_zip_next ty F.entry_zip_next
    (held_item S D1 D2 hz hT hTI st1 st2 lt fun x y h' tk a b c d e f g => wpAny_pure (hQ x y h' tk a b c d e f g)) (F.args_zip_next_1 _))))
theorem next_end {T : Addr} {f : Bool} {oT : Obj} {Q : Option Value → Shared → Prop} (S : ZipSep2 z TI TO i1 i2 fp1 fp2) (D1 : Draws prog w A.in1 i1 fp1 n P1 St1)
    (hz : IsZipHeld s.heap z TI TO T f) (hT : s.heap.get? T = some oT) (hTI : IsTupOf2 s.heap TI (.ref i1) (.ref i2)) (st1 : St1 n s.heap)
    (hQ : ∀ h', (∀ c o, c ≠ z → c ≠ i1 → s.heap.get? c = some o → h'.get? c = some o) → Q none { s with heap := h' }) : wpAny (model prog w) A (pyNext (.ref z)) Q E s := by
  have ty : s.TypeIs (.ref z) "zip" := ⟨_, hz, rfl⟩
  unfold pyNext
  refine wpAny_bind (wpAny_attempt (wpAny_callSpecial?_slot (name := Str.ofString "__next__") ty F.slot_zip_next (wpAny_call_entry F.slot_zip_next ty F.entry_zip_next
    (held_end S D1 hz hT hTI st1 fun h' e hk he => ?_) (F.args_zip_next_1 _))))
  obtain ⟨o, ho, hc⟩ := he
  exact wpAny_bind (wpAny_isInstance (T := "StopIteration") (b := true) ⟨o, ho, hc⟩ isSubtype_stop (wpAny_pure (hQ _ hk)))
end
/-- zip of a list and a tuple as long, as what dict() is made of -/
theorem argZ {prog : Program} {w : World} (z TI TO i1 i2 l1 l2 : Addr) (S : ZipSep2 z TI TO i1 i2 [i1, l1] [i2, l2]) (l1z : l1 ≠ i1) (l2z : l2 ≠ i2) (xs ys : Array Value) (le : ys.size = xs.size) :
    PairArg prog w "zip" z [z, TI, TO, i1, i2, l1, l2] [z, TO, i1, i2] xs.size (fun i k v => xs[i]? = some k ∧ ys[i]? = some v)
      (fun h => IsZip h z TI TO .none ∧ IsTupOf2 h TI (.ref i1) (.ref i2) ∧ (∃ a b, IsTupOf2 h TO a b) ∧ (h.IsListIter i1 l1 0 ∧ h.IsList l1 xs) ∧ h.IsTupleIter i2 l2 0 ∧ h.IsTuple l2 ys) where
  type := fun s ok => ⟨_, ok.1, rfl⟩
  notDict := by decide
  keep := fun h h' ⟨hz, hi, ⟨a, b, ho⟩, ⟨h1, g1⟩, h2, g2⟩ hk => ⟨hk _ _ hz, hk _ _ hi, ⟨a, b, hk _ _ ho⟩, ⟨h1.at fun o e => hk _ o e, g1.at fun o e => hk _ o e⟩, h2.at fun o e => hk _ o e, g2.at fun o e => hk _ o e⟩
  there := fun h ⟨hz, hi, ⟨a, b, ho⟩, ⟨⟨o1, h1, _⟩, o3, g1, _⟩, ⟨o2, h2, _⟩, o4, g2, _⟩ c hc => by
    simp only [List.mem_cons, List.not_mem_nil, or_false] at hc
    rcases hc with rfl | rfl | rfl | rfl | rfl | rfl | rfl
    · exact ⟨_, hz⟩
    · exact ⟨_, hi⟩
    · exact ⟨_, ho⟩
    · exact ⟨_, h1⟩
    · exact ⟨_, h2⟩
    · exact ⟨_, g1⟩
    · exact ⟨_, g2⟩
  sub := fun b hb => by
    simp only [List.mem_cons, List.not_mem_nil, or_false] at hb ⊢
    rcases hb with rfl | rfl | rfl | rfl <;> simp
  noKeys := fun A s Q E hA ok h => getAttrOr_miss_zip ok.1 rfl rfl rfl zip_no_keys (by decide +kernel) hA h
  iter := fun A s d Q E hA ok hd hdf h => by
    obtain ⟨hz, hi, ⟨a, b, ho⟩, g1, g2⟩ := ok
    simp only [List.mem_cons, List.not_mem_nil, or_false, not_or] at hdf
    obtain ⟨dz, dTI, dTO, di1, di2, dl1, dl2⟩ := hdf
    have D1 : Draws prog w A.in1 i1 [i1, l1] xs.size (fun i v => xs[i]? = some v) (fun i h => h.IsListIter i1 l1 i ∧ h.IsList l1 xs) := Draws.list (A := A.in1) hA i1 l1 l1z xs
    have D2 : Draws prog w A.in1 i2 [i2, l2] xs.size (fun i v => ys[i]? = some v) (fun i h => h.IsTupleIter i2 l2 i ∧ h.IsTuple l2 ys) := le ▸ Draws.tuple (A := A.in1) hA i2 l2 l2z ys
    refine wpAny_pyIter_zip hz (h z [z, TO, i1, i2] (fun i h => IsTupOf2 h TI (.ref i1) (.ref i2) ∧ (h.IsListIter i1 l1 i ∧ h.IsList l1 xs) ∧ (h.IsTupleIter i2 l2 i ∧ h.IsTuple l2 ys) ∧
      ((IsZip h z TI TO .none ∧ ∃ a b, IsTupOf2 h TO a b) ∨ ∃ T f oT, IsZipHeld h z TI TO T f ∧ h.get? T = some oT ∧ T ≠ z ∧ T ≠ i1 ∧ T ≠ i2 ∧ T ≠ d)) s.heap s.toks ?_ ⟨hi, g1, g2, .inl ⟨hz, a, b, ho⟩⟩ (fun _ _ e => e) fun b hb => .inl hb)
    have nin : ∀ {c : Addr}, c ∉ [z, TO, i1, i2] → c ≠ z ∧ c ≠ TO ∧ c ≠ i1 ∧ c ≠ i2 := fun hc => by simpa [not_or] using hc
    exact {
      off := fun hm => by
        simp only [List.mem_cons, List.not_mem_nil, or_false] at hm
        rcases hm with e | e | e | e
        · exact dz e
        · exact dTO e
        · exact di1 e
        · exact di2 e
      frame := fun i h₁ h₂ st hk => by
        obtain ⟨hi, g1, g2, hz⟩ := st
        refine ⟨hk _ _ (Ne.symm dTI) hi, ⟨g1.1.at fun o e => hk _ o (Ne.symm di1) e, g1.2.at fun o e => hk _ o (Ne.symm dl1) e⟩, ⟨g2.1.at fun o e => hk _ o (Ne.symm di2) e, g2.2.at fun o e => hk _ o (Ne.symm dl2) e⟩, ?_⟩
        rcases hz with ⟨hz, a, b, ho⟩ | ⟨T, f, oT, hz, hT, r1, r2, r3, r4⟩
        · exact .inl ⟨hk _ _ (Ne.symm dz) hz, a, b, hk _ _ (Ne.symm dTO) ho⟩
        · exact .inr ⟨T, f, oT, hk _ _ (Ne.symm dz) hz, hk _ _ r4 hT, r1, r2, r3, r4⟩
      item := fun i s₁ Q₁ E₁ hlt st hds hQ => by
        obtain ⟨hi, g1, g2, hz⟩ := st
        have lt : ∀ {c o}, s₁.heap.get? c = some o → s₁.heap.objs.size ≠ c := fun e => Nat.ne_of_gt (Heap.lt_size e)
        obtain ⟨o1, e1⟩ := D1.live _ _ g1
        obtain ⟨o2, e2⟩ := D2.live _ _ g2
        rcases hz with ⟨hz, a, b, ho⟩ | ⟨T, f, oT, hz, hT, r1, r2, r3, r4⟩
        · refine wpAny_pyNext_zipD2_item S D1 D2 hz hi ho g1 g2 hlt hlt fun x y h' tk hx hy a1 a2 s1 s2 pr _ hk => ?_
          refine hQ _ _ _ h' tk ⟨hx, hy⟩ (.inl ⟨_, pr, rfl, _, rfl⟩) ⟨hk _ _ S.TIz S.TITO S.TIi1 S.TIi2 hi, s1, s2, .inr ⟨s₁.heap.objs.size, false, _, a1, pr, lt hz, lt e1, lt e2, Nat.ne_of_gt hds⟩⟩ fun c o hc e => ?_
          obtain ⟨c1, c2, c3, c4⟩ := nin hc
          exact hk c o c1 c2 c3 c4 e
        · refine next_item S D1 D2 hz hT hi g1 g2 hlt fun x y h' tk hx hy a1 s1 s2 pr hk => ?_
          refine hQ _ _ _ h' tk ⟨hx, hy⟩ (.inl ⟨_, pr, rfl, _, rfl⟩) ⟨hk _ _ S.TIz S.TIi1 S.TIi2 hi, s1, s2, .inr ⟨T, true, oT, a1, hk _ _ r1 r2 r3 hT, r1, r2, r3, r4⟩⟩ fun c o hc e => ?_
          obtain ⟨c1, _, c3, c4⟩ := nin hc
          exact hk c o c1 c3 c4 e
      done := fun s₁ Q₁ E₁ st hQ => by
        obtain ⟨hi, g1, g2, hz⟩ := st
        rcases hz with ⟨hz, a, b, ho⟩ | ⟨T, f, oT, hz, hT, r1, r2, r3, r4⟩
        · refine wpAny_pyNext_zipD2_end S D1 D2 hz hi ho g1 g2 (Nat.le_refl _) (Nat.le_refl _) (.inl rfl) fun h' tk hk => hQ h' tk fun c o hc e => ?_
          obtain ⟨c1, c2, c3, c4⟩ := nin hc
          exact hk c o c1 c2 c3 c4 e
        · refine next_end S D1 hz hT hi g1 fun h' hk => hQ h' s₁.toks fun c o hc e => ?_
          obtain ⟨c1, _, c3, c4⟩ := nin hc
          exact hk c o c1 c3 e }
/-- texts and values, raw -/
theorem zip_raw {P : Program} {w : World} : ∀ {ks vs : List Str} {us ws : List Value}, Vals (ks.map V.str) us → Vals (vs.map V.str) ws → ks.length = vs.length →
    ∃ prs : List (Key × Value), prs.length = ks.length ∧ KV (kd (ks.zip vs)) prs ∧ ∀ (j : Nat) (k v : Value), us[j]? = some k → ws[j]? = some v → ∃ key, prs[j]? = some (key, v) ∧ (mixKind P w).is key k = true
  | [], [], _, _, .nil, .nil, _ => ⟨[], rfl, .nil, fun j k v e => by simp at e⟩
  | k :: ks, v :: vs, _, _, .cons (b := u) r1 t1, .cons (b := y) r2 t2, h => by
    obtain ⟨prs, l, kv, g⟩ := zip_raw (P := P) (w := w) t1 t2 (by simpa using h)
    refine ⟨(Sum.inr k, y) :: prs, by rw [List.length_cons, List.length_cons, l], .cons ⟨rfl, r2⟩ kv, fun j k' v' e e' => ?_⟩
    cases j with
    | zero =>
      have a1 : u = k' := Option.some.inj e
      have a2 : y = v' := Option.some.inj e'
      subst a1
      subst a2
      exact ⟨Sum.inr k, rfl, kV_is (P := P) (w := w) (k := Sum.inr k) r1⟩
    | succ j =>
      obtain ⟨key, e1, e2⟩ := g j k' v' (by simpa using e) (by simpa using e')
      exact ⟨key, by simpa using e1, e2⟩
def tDictZip (K : PySem.W.Frag) (ta : TA) : TE := fun σ H Q => ta σ H fun us H1 => ∃ (a b : Addr) (ks vs : List Str), us = [.ref a, .ref b] ∧ SqL K H1 a (ks.map V.str) ∧ SqT K H1 b (vs.map V.str) ∧ ks.length = vs.length ∧ ks.length ≤ 1000 ∧
  ∀ p, H1 p = none → Q (.ref p) (upd H1 p (.dK (mergeK [] (kd (ks.zip vs)))))
theorem pe_dictZip {X : Cx} {K : PySem.W.Frag} (eK : X.K = K) {e1 e2 : Expr} {ta : TA} {p p2 pos pos2 : Pos} (hcalm : X.calm = true) (hg : Gl X "dict") (hm : X.mg "dict" = none) (hv : bootBuiltins "dict" = some (.type "dict")) (hgz : Gl X "zip") (hmz : X.mg "zip" = none) (ha : PA X [e1, e2] ta)
    (he : starEach [.Call (.Name "zip" p2) [e1, e2] [] pos2] X.env = (false, eval (.Call (.Name "zip" p2) [e1, e2] [] pos2) X.env) :: starEach [] X.env := by rfl) (hpl : (backTo pos (starEach [] X.env)).any (·.1) = false := by rfl)
    (hs : starEach [e1, e2] X.env = (false, eval e1 X.env) :: starEach [e2] X.env := by rfl) (hpl2 : (backTo pos2 (starEach [e2] X.env)).any (·.1) = false := by rfl) :
    PE X (.Call (.Name "dict" p) [.Call (.Name "zip" p2) [e1, e2] [] pos2] [] pos) (tDictZip K ta) := by
  subst eK
  refine ⟨fun pins s σ H Q I h => ?_⟩
  refine wpAny_Call_Name_kw (ld_blt I hg hm hv ?_ (by decide) (by decide))
  refine PyProof.Rows.callWith_type1 ?_ he hpl
  rw [he]
  show wpAny _ _ (spliced ((false, eval (.Call (.Name "zip" p2) [e1, e2] [] pos2) X.env) :: backTo pos (starEach [] X.env))) _ _ s
  refine Calls.spliced_cons ?_
  refine Call_ (ld_blt I hgz hmz PyProof.Rows.boot_zip (PyProof.Rows.callWith_type1 (thn (ha.run pos2 pins s σ H _ I h) fun us s1 ⟨vs, H1, I1, r1, q1⟩ => ?_) hs hpl2))
  obtain ⟨a, b, ks, vs', ex, hqx, hqy, lv, few, q⟩ := q1
  subst ex
  cases r1 with
  | cons r rr =>
    cases rr with
    | cons r' rr =>
      cases rr
      cases r
      cases r'
      obtain ⟨its, rv, g1, _⟩ := I1.list hqx
      obtain ⟨its2, rv2, g2, _⟩ := I1.tuple hqy
      have la : a < s1.heap.objs.size := g1.lt
      have lb : b < s1.heap.objs.size := g2.lt
      refine zip_begins2 (begins_list a its.toArray) (begins_tuple b its2.toArray) g1.isList g2 fun h' hz hTI hTO h1 h2 hsz hk => ?_
      refine Calls.spliced_nil ?_
      have l1 := rv.length
      have l2 := rv2.length
      rw [List.length_map] at l1 l2
      obtain ⟨prs, lp, rel, g⟩ := zip_raw (P := X.prog) (w := X.w) rv rv2 lv
      have S : ZipSep2 (s1.heap.objs.size + 4) (s1.heap.objs.size + 2) (s1.heap.objs.size + 3) s1.heap.objs.size (s1.heap.objs.size + 1) [s1.heap.objs.size, a] [s1.heap.objs.size + 1, b] :=
        zip_sep2 (fun c hc => by rw [List.mem_singleton.mp hc]; exact la) (fun c hc => by rw [List.mem_singleton.mp hc]; exact lb)
      refine PySem.call_dict_pairs (knd := mixKind X.prog X.w) (kvs := prs) (argZ _ _ _ _ _ a b S (Nat.ne_of_lt la) (Nat.ne_of_lt (Nat.lt_succ_of_lt lb)) its.toArray its2.toArray (by simp; omega)) (I1.ok.hd hcalm)
        ⟨hz, hTI, ⟨_, _, hTO⟩, ⟨⟨_, h1, rfl, rfl⟩, g1.isList.at fun o e => hk _ o e⟩, ⟨_, h2, rfl, rfl⟩, (show s1.heap.IsTuple b its2.toArray from g2).at fun o e => hk _ o e⟩ ⟨by rw [lp, l1]; simp, fun i key v e => ?_⟩ (by simp only [List.size_toArray]; rw [← l1, sizeLine_eq]; omega) fun h2' tk hd' k => ?_
      · exact g i key v (by simpa using e.1) (by simpa using e.2)
      · have hm : (h'.objs.size == sysModules) = false := beq_eq_false_iff_ne.mpr (Nat.ne_of_gt (Nat.lt_of_lt_of_le I1.big (by rw [hsz]; exact Nat.le_add_right _ _)))
        have len : (mergeK [] (kd (ks.zip vs'))).length ≤ sizeLine := by
          refine Nat.le_trans (length_mergeK _ []) ?_
          rw [List.length_nil, Nat.zero_add, L2.TxtDict.kd_len, List.length_zip, sizeLine_eq]
          omega
        have up : ∀ c o, s1.heap.get? c = some o → h2'.get? c = some o := fun c o e => by
          have := Heap.lt_size e
          refine k c o (fun hc => ?_) (hk c o e)
          simp only [List.mem_cons, List.not_mem_nil, or_false] at hc
          have off : ∀ (N k : Nat), ¬ (N + k < N) := fun N k h => by omega
          rcases hc with z | z | z | z
          · exact off _ 4 (by rw [z] at this; exact this)
          · exact off _ 3 (by rw [z] at this; exact this)
          · exact off _ 0 (by rw [z] at this; exact this)
          · exact off _ 1 (by rw [z] at this; exact this)
        have le : s1.heap.objs.size ≤ h'.objs.size := by rw [hsz]; exact Nat.le_add_right _ _
        exact ⟨.ref h'.objs.size, upd H1 h'.objs.size (.dK (mergeK [] (kd (ks.zip vs')))), I1.laid (t' := tk) up le (show ObjOk X.prog X.w _ _ _ (.dK (mergeK [] (kd (ks.zip vs')))) from ⟨len, hm, merged [] prs, KV.merge rel .nil, hd'⟩), rfl, q _ (I1.hok.fresh le)⟩
end L2.ZipD
set_option Elab.async false
set_option linter.all false
set_option maxRecDepth 100000
set_option maxHeartbeats 4000000
/-! A comprehension that makes an object each turn; picked. -/
namespace L2.Rws
open PySem PySem.Spec PyProof.Rows L2.LawH L2.SetT L2.Frz L2.NSet
open L2.TxtDict (Prs2 kd)
theorem lc_new {α : Type} {J : It} {n : Nat} {G : Hp → Prop} {ms : List α} {val : α → V} (w : L2.Walk J n G (YAt (ms.map val))) (en : n = ms.length) {g : TG} {te : TE} {vs : List Nat} {σ : St} {H1 : Hp} {D : Addr} {Qd : Hp → Prop} (obj : α → HO)
    (nD : H1 D = none) (few : ms.length ≤ 1000) (hG : ∀ H, Same H1 H → G H)
    (hs : ∀ x ∈ ms, ∀ (H5 : Hp) (Yes : V → Hp → Prop), Same H1 H5 → (∀ a H4, Same H5 H4 → H5 a = none → H4 a = some (obj x) → Yes (.ref a) H4) → g (val x) (wipe σ vs) H5 fun σ2 H2 => wipe σ2 vs = wipe σ vs ∧ te σ2 H2 Yes)
    (hd : ∀ (as : List (Addr × α)) H', Same H1 H' → H' D = some (.lst (as.map fun z => V.ref z.1)) → as.map (·.2) = ms → (∀ z ∈ as, H' z.1 = some (obj z.2) ∧ H1 z.1 = none ∧ z.1 ≠ D) → Qd H') :
    ∃ W : Nat → Nat → Hp → Prop, (∃ m, W 0 m (upd H1 D (.lst []))) ∧ ∀ i m H, W i m H →
      (J.stop i H ∧ Qd H) ∨ (J.go i H ∧ ∃ Nx : Hp → Prop, (∀ H', Nx H' → ∃ m', m' < m ∧ W (i + 1) m' H') ∧ ∀ x H', J.yld i H x H' → g x (wipe σ vs) H' fun σ2 H2 => wipe σ2 vs = wipe σ vs ∧ tYes σ2 H2 fun b H3 =>
        if b = true then te σ2 H3 fun y H4 => ∃ acc, H4 D = some (.lst acc) ∧ acc.length < sizeLine ∧ Nx (upd H4 D (.lst (acc ++ [y]))) else Nx H3) := by
  subst en
  refine lc_it w (fun i H5 => Same H1 H5 ∧ ∃ as : List (Addr × α), H5 D = some (.lst (as.map fun z => V.ref z.1)) ∧ as.map (·.2) = ms.take i ∧ ∀ z ∈ as, H5 z.1 = some (obj z.2) ∧ H1 z.1 = none ∧ z.1 ≠ D)
    ⟨same_new nD, [], upd_same, rfl, fun z m => (nomatch m)⟩ (fun i H5 _ q => hG H5 q.1) (fun i z H5 H6 hi q y => ?_) (fun H5 q => ?_)
  · obtain ⟨rfl, hz⟩ := y
    obtain ⟨q1, as, q2, q3, q4⟩ := q
    rw [List.getElem?_map] at hz
    obtain ⟨x, hx, rfl⟩ := Option.map_eq_some_iff.mp hz
    have ll : as.length ≤ 1000 := by
      have := congrArg List.length q3
      rw [List.length_map, List.length_take] at this
      omega
    have main := hs x (List.mem_of_getElem? hx) H6 (fun y H4 => ∃ acc, H4 D = some (.lst acc) ∧ acc.length < sizeLine ∧ (fun H5 => Same H1 H5 ∧ ∃ as : List (Addr × α), H5 D = some (.lst (as.map fun z => V.ref z.1)) ∧ as.map (·.2) = ms.take (i + 1) ∧ ∀ z ∈ as, H5 z.1 = some (obj z.2) ∧ H1 z.1 = none ∧ z.1 ≠ D) (upd H4 D (.lst (acc ++ [y])))) q1 (fun a H4 s4 na ha => ?_)
    · exact main
    · have aD : a ≠ D := fun e => by rw [e, q2] at na; cases na
      refine ⟨_, s4 _ _ q2, by rw [List.length_map, sizeLine_eq]; omega, fun b o h => ?_, as ++ [(a, x)], by rw [upd_same, List.map_append]; rfl, by rw [List.map_append, q3, take_snoc hx]; rfl, fun z hz => ?_⟩
      · rw [upd_ne (ne_of_none h nD)]
        exact s4 _ _ (q1 _ _ h)
      · rcases List.mem_append.mp hz with m | m
        · obtain ⟨z1, z2, z3⟩ := q4 z m
          exact ⟨by rw [upd_ne z3]; exact s4 _ _ z1, z2, z3⟩
        · rw [List.mem_singleton.mp m]
          exact ⟨by rw [upd_ne aD]; exact ha, none_of q1 na, aD⟩
  · obtain ⟨q1, as, q2, q3, q4⟩ := q
    rw [List.take_length] at q3
    exact hd as H5 q1 q2 q3 q4
abbrev sPick : Stmt := top 33
def spPick : Sp := fun us H Q _ => ∃ (r p : Addr) (f : Tm) (spots : List Nat), us = [.ref r, .ref p] ∧ H r = some (.tup (f.map V.str)) ∧ H p = some (.lst (spots.map fun n : Nat => V.int (n : Int))) ∧ (∀ n ∈ spots, n < f.length) ∧ spots.length ≤ 1000 ∧
  ∀ (t : Addr) (H' : Hp), Same H H' → H t = none → H' t = some (.tup ((pickR spots f).map V.str)) → Q (.ref t) H'
section
variable {P : Program} {w : World} {K : PySem.W.Frag} {mg : Str → Option Value} {base : Heap}
abbrev nPk : List Str := ["row", "places", "at"]
theorem scPk : FnScope nPk ["row", "places"] (defScope sPick) := ⟨rfl, rfl, rfl, by decide +kernel, rfl, by decide +kernel, by decide +kernel⟩
theorem ok_pick {f : Addr} {fd : FuncData} (F : Fun K "picked" "picked" sPick f fd) (mt : mg "tuple" = none) : FnOk P w K mg base CX0 1 f fd ["row", "places"] spPick := by
  refine F.ok scPk (fun vs H Q E h => ?_) (fun cdv A outer s H vs Q E hr h => ?_)
  · obtain ⟨r, p, f, spots, rfl, _⟩ := h
    rfl
  · obtain ⟨r, p, f, spots, rfl, hr', hp, lt, few, k⟩ := h
    refine ⟨_, pss_one (ps_ret (pe_callTy call_tuple_of (by rfl) mt (by decide +kernel) (pa_cons (pe_lc (own := [("at", 2)]) (g := gName 2) (tt := tYes) rfl scPk.nd (pi_list (pv 1)) (blkOk_by (own := [("at", 2)]) (N := nPk) (sc := defScope sPick) (by decide +kernel)) (fun _ _ _ _ _ => pg_name (i := 2) scPk.nd rfl (Or.inl rfl)) (fun _ _ _ _ _ => pts_nil)
      (fun _ _ _ _ _ => pe_ix (ix_tupK (K := K) rfl) (pv 0) (pv 2) (fun _ _ => rfl))) pa_nil))), ?_⟩
    refine ⟨_, rfl, p, rfl, ⟨_, SqL.of hp⟩, fun D nD => ?_⟩
    refine lc_sift (ms := spots) (val := fun n : Nat => V.int (n : Int)) (L2.walk_list (K := K)) (List.length_map _) (fun _ => true) (fun n => V.str ((f[n]?).getD default)) nD few (fun H' s' => SqL.of (s' _ _ hp)) (fun n mn H5 Yes No s5 yes no => ?_) (fun H5 s5 hL => ?_)
    · have ln := lt n mn
      have e : f[n]? = some (f[n]'ln) := List.getElem?_eq_getElem ln
      refine ⟨rfl, ?_⟩
      dsimp only [tYes]
      rw [if_pos rfl]
      refine ⟨_, rfl, _, rfl, r, _, _, .str (f[n]'ln), rfl, rfl, SqT.of (s5 _ _ hr'), atI_nat (j := n) (by rw [List.getElem?_map, e]; rfl), ?_⟩
      have := yes H5 (Same.refl _) rfl
      rw [e] at this
      exact this
    · rw [List.filter_eq_self.mpr (fun _ _ => rfl)] at hL
      refine ⟨D, _, rfl, .inl ⟨SqL.of hL, fun t nt => ?_⟩⟩
      refine k t _ (s5.trans (same_new nt)) (none_of s5 nt) ?_
      rw [upd_same]
      unfold pickR
      rw [List.map_map]
      rfl
end
end L2.Rws
set_option Elab.async false
set_option linter.all false
set_option maxRecDepth 100000
set_option maxHeartbeats 4000000
/-! few_maps. -/
namespace L2.Rws
open PySem PySem.Spec PyProof.Rows L2.LawH L2.SetT L2.Frz L2.NSet
open L2.TxtDict (Prs2 kd)
theorem paired_of {α β γ : Type} {R : α → β → Prop} {f : γ → α} {g : γ → β} : ∀ {l : List γ}, (∀ x ∈ l, R (f x) (g x)) → Paired R (l.map f) (l.map g)
  | [], _ => .nil
  | x :: l, h => .cons (h x List.mem_cons_self) (paired_of fun y m => h y (List.mem_cons_of_mem _ m))
abbrev sFM : Stmt := top 57
/-- what is handed to few_maps and its like -/
structure Told (H : Hp) (q g k : Addr) (ps xs : List Tx) (gs : List Grp) (kn : Prs2) (cs vs : List Str) : Prop where
  hq : H q = some (.lst (refs ps)) ∨ H q = some (.tup (refs ps))
  hps : ∀ p ∈ ps, PtR H p.1 p.2 ∧ PatOk kn vs p.2
  few : ps.length ≤ 20
  hg : GrpAt H g xs gs
  hxs : TxsAt H xs
  S : Sit xs kn cs vs
  hk : MapAt H k kn
  nk : (kn.map Prod.fst).Nodup
  k10 : kn.length ≤ 10
def spFM : Sp := fun us H Q _ => ∃ (q g k : Addr) (ps xs : List Tx) (gs : List Grp) (kn : Prs2) (cs vs : List Str), us = [.ref q, .ref g, .ref k] ∧ Told H q g k ps xs gs kn cs vs ∧
  ∀ (l : Addr) (ds : List Addr) (ms : List Prs2) (H' : Hp), Same H H' → H l = none → H' l = some (.lst (ds.map V.ref)) → Paired (MapAt H') ds ms → (∀ d ∈ ds, H d = none ∧ d ≠ l) → OrdF kn (GOf xs) (ps.map (·.2)) ms → ms.length ≤ 64 → (∀ m ∈ ms, m.length ≤ 20) → Q (.ref l) H'
section
variable {P : Program} {w : World} {K : PySem.W.Frag} {mg : Str → Option Value} {base : Heap}
abbrev nFM : List Str := ["lot", "groups", "start", "small", "places", "rows", "names", "spots", "values", "name", "row", "value"]
theorem scFM : FnScope nFM ["lot", "groups", "start"] (defScope sFM) := ⟨rfl, rfl, rfl, by decide +kernel, rfl, by decide +kernel, by decide +kernel⟩
theorem ok_fm {f fS fP fJ : Addr} {fd fdS fdP fdJ : FuncData} (F : Fun K "few_maps" "few_maps" sFM f fd)
    (GS : FnOk P w K mg base CX0 4 fS fdS ["lot", "groups", "known", "most"] spSR) (kS : PySem.W.keepIn K (.ref fS) = true) (bS : Binds K fdS ["lot", "groups", "known", "most"] []) (mS : mg "small_rows" = some (.ref fS))
    (GP : FnOk P w K mg base CX0 1 fP fdP ["row", "places"] spPick) (kP : PySem.W.keepIn K (.ref fP) = true) (bP : Binds K fdP ["row", "places"] []) (mP : mg "picked" = some (.ref fP))
    (GJ : FnOk P w K mg base CX0 1 fJ fdJ ["one", "other"] spJoin) (kJ : PySem.W.keepIn K (.ref fJ) = true) (bJ : Binds K fdJ ["one", "other"] []) (mJ : mg "joined" = some (.ref fJ))
    {tR : Tok} (mM : mg "MOST_ROWS" = some (.int 1000 tR)) (ms : mg "sorted" = none) (md : mg "dict" = none) (mz : mg "zip" = none) : FnOk P w K mg base CX0 5 f fd ["lot", "groups", "start"] spFM := by
  refine F.ok scFM (fun vs H Q E h => ?_) (fun cdv A outer s H vs Q E hr h => ?_)
  · obtain ⟨q, g, k, ps, xs, gs, kn, cs, vs, rfl, _⟩ := h
    rfl
  · obtain ⟨q, g, k, ps, xs, gs, kn, cs, vs, rfl, T, kk⟩ := h
    have hu1 := hu_of hr
    have hu := hr.units
    have hr1 : Room 1 _ := hr.mono (by decide)
    refine ⟨_, pss_cons (ps_set (i := 3) scFM.nd rfl (Or.inl rfl) (pe_call GS hr (by rfl) mS kS bS .nil pass0 (pa_cons (pv 0) (pa_cons (pv 1) (pa_cons (pv 2) (pa_cons (pe_glob (v := .int 1000) (by rfl) mM ⟨_, rfl⟩) pa_nil))))))
      (pss_cons (ps_if (pt_cmpR op_isN (pv 3) pe_non (nomark _)) (pss_one (ps_ret pe_non)) pss_nil)
      (pss_cons (ps_asg (pv 3) (pg_tup (by rfl) (pgs_cons (pg_name (i := 4) scFM.nd rfl (Or.inr rfl)) (pgs_cons (pg_name (i := 5) scFM.nd rfl (Or.inl rfl)) pgs_nil))))
      (pss_cons (ps_set (i := 6) scFM.nd rfl (Or.inr rfl) (pe_callB (call_sortedD rfl) (by rfl) ms (by decide +kernel) (pa_cons (pv 4) pa_nil)))
      (pss_cons (ps_set (i := 7) scFM.nd rfl (Or.inr rfl) (pe_lc (own := [("name", 9)]) (g := gName 9) (tt := tYes) rfl scFM.nd (pi_list (pv 6)) (blkOk_by (own := [("name", 9)]) (N := nFM) (sc := defScope sFM) (by decide +kernel)) (fun _ _ _ _ _ => pg_name (i := 9) scFM.nd rfl (Or.inl rfl)) (fun _ _ _ _ _ => pts_nil)
        (fun _ _ _ _ _ => pe_dget hu1 (pv 4) (pv 9) (fun _ _ => rfl))))
      (pss_cons (ps_set (i := 8) scFM.nd rfl (Or.inl rfl) (pe_callB (cr_sortD hu) (by rfl) ms (by decide +kernel) (pa_cons
        (pe_lc (own := [("row", 10)]) (g := gName 10) (tt := tYes) rfl scFM.nd (pi_list (pv 5)) (blkOk_by (own := [("row", 10)]) (N := nFM) (sc := defScope sFM) (by decide +kernel)) (fun _ _ _ _ _ => pg_name (i := 10) scFM.nd rfl (Or.inl rfl)) (fun _ _ _ _ _ => pts_nil)
          (fun _ _ _ _ _ => pe_call GP hr1 (by rfl) mP kP bP .nil pass0 (pa_cons (pv 10) (pa_cons (pv 7) pa_nil)))) pa_nil)))
      (pss_cons (ps_if (pt_not (pt_truth (pv 2) (by intro _; rfl)))
        (pss_one (ps_ret (pe_lc (own := [("value", 11)]) (g := gName 11) (tt := tYes) rfl scFM.nd (pi_list (pv 8)) (blkOk_by (own := [("value", 11)]) (N := nFM) (sc := defScope sFM) (by decide +kernel)) (fun _ _ _ _ _ => pg_name (i := 11) scFM.nd rfl (Or.inl rfl)) (fun _ _ _ _ _ => pts_nil)
          (fun _ _ _ _ _ => L2.ZipD.pe_dictZip (K := K) rfl rfl (by rfl) md (by decide +kernel) (by rfl) mz (pa_cons (pv 6) (pa_cons (pv 11) pa_nil)))))) pss_nil)
      (pss_one (ps_ret (pe_lc (own := [("value", 11)]) (g := gName 11) (tt := tYes) rfl scFM.nd (pi_list (pv 8)) (blkOk_by (own := [("value", 11)]) (N := nFM) (sc := defScope sFM) (by decide +kernel)) (fun _ _ _ _ _ => pg_name (i := 11) scFM.nd rfl (Or.inl rfl)) (fun _ _ _ _ _ => pts_nil)
          (fun _ _ _ _ _ => pe_call GJ hr1 (by rfl) mJ kJ bJ .nil pass0 (pa_cons (pv 2) (pa_cons (L2.ZipD.pe_dictZip (K := K) rfl rfl (by rfl) md (by decide +kernel) (by rfl) mz (pa_cons (pv 6) (pa_cons (pv 11) pa_nil))) pa_nil)))))))))))), ?_⟩
    refine ⟨_, rfl, _, rfl, _, rfl, q, g, k, ps, xs, gs, kn, cs, vs, 1000, rfl, T.hq, T.hps, T.few, T.hg, T.hxs, T.S, T.hk, by decide, fun t d l Pl rows Ps H1 s1 ht hd hl tr pl ok or => ?_⟩
    refine ⟨_, rfl, rfl, _, rfl, ifF (isNone_ref _) ?_⟩
    refine ⟨_, rfl, t, _, rfl, SqT.of ht, rfl, _, _, rfl, _, _, rfl, rfl, ?_⟩
    have v3 : ∀ z ∈ Pl.map Prod.fst, z ∈ vs := fun z m => by
      obtain ⟨q', mq, rfl⟩ := List.mem_map.mp m
      obtain ⟨a1, a2⟩ := pl.at_ q' mq
      obtain ⟨W, mW, mz'⟩ := List.mem_flatten.mp (List.mem_of_getElem? a1)
      exact (ok W mW).2 _ mz' a2
    have l3 : Pl.length ≤ 3 := by
      have := nodup_len pl.nd v3
      have := T.S.v3
      rw [List.length_map] at *
      omega
    refine ⟨_, rfl, d, kdI Pl, Pl.map Prod.fst, rfl, .inl hd, ?_, by rw [List.length_map]; omega, fun names ln pmN as nln => ?_⟩
    · unfold kdI
      rw [List.map_map, List.map_map]
      rfl
    have nm : NmAt kn Ps.flatten names := pl.names (asc_all as) pmN
    have sub : ∀ z ∈ names, z ∈ Pl.map Prod.fst := fun z m => pmN.mem_iff.mp m
    have ln3 : names.length ≤ 3 := by rw [pmN.length_eq, List.length_map]; omega
    have s2 : Same H1 (upd H1 ln (.lst (names.map V.str))) := same_new nln
    have c2 : (upd H1 ln (.lst (names.map V.str))) ln = some (.lst (names.map V.str)) := upd_same
    generalize upd H1 ln (.lst (names.map V.str)) = H2 at s2 c2 ⊢
    refine ⟨_, rfl, ln, rfl, ⟨_, SqL.of c2⟩, fun D nD => ?_⟩
    refine lc_sift (ms := names) (val := V.str) (L2.walk_list (K := K)) (List.length_map _) (fun _ => true) (fun z => V.int (spotOf Pl z : Int)) nD (by omega) (fun H' s' => SqL.of (s' _ _ c2)) (fun z mz H3 Yes No s3 yes no => ?_) (fun H3 s3 hL => ?_)
    · obtain ⟨q', ef, _, _, es⟩ := spot_find (sub z mz)
      refine ⟨rfl, ?_⟩
      dsimp only [tYes]
      rw [if_pos rfl]
      refine ⟨_, rfl, _, rfl, d, .int (spotOf Pl z : Int), rfl, .inl ⟨kdI Pl, Sum.inr z, .inl (s3 _ _ (s2 _ _ hd)), rfl, ?_⟩, yes _ (Same.refl _) rfl⟩
      rw [val_kdI, ef, es]
      rfl
    rw [List.filter_eq_self.mpr (fun _ _ => rfl)] at hL
    have eL : (names.map fun z => V.int (spotOf Pl z : Int)) = (names.map (spotOf Pl)).map fun n : Nat => V.int (n : Int) := by rw [List.map_map]; rfl
    rw [eL] at hL
    generalize hsp : names.map (spotOf Pl) = spots at hL
    have lsp : spots.length ≤ 3 := by rw [← hsp, List.length_map]; exact ln3
    have s13 := s2.trans s3
    have R64 : rows.length ≤ 64 ∧ ∀ x ∈ rows, ∀ n ∈ spots, n < x.2.length := by
      rcases or with ⟨e, _⟩ | ⟨_, ro⟩
      · rw [e]
        exact ⟨by decide, fun x m => (nomatch m)⟩
      · refine ⟨?_, fun x mx n mn => ?_⟩
        · have := rows_few T.S.small ro (fun Q m => (ok Q m).1.hd) (fun Q m => (ok Q m).2)
          rwa [show (tms rows).length = rows.length from List.length_map _] at this
        · rw [← hsp] at mn
          obtain ⟨z, mz, rfl⟩ := List.mem_map.mp mn
          rw [ro.len _ (List.mem_map_of_mem mx)]
          exact spot_lt pl (sub z mz)
    refine ⟨_, rfl, l, rfl, ⟨_, SqL.of (s13 _ _ hl)⟩, fun D2 nD2 => ?_⟩
    refine lc_new (ms := rows) (val := fun x : Tx => V.ref x.1) (L2.walk_list (K := K)) (List.length_map _) (fun x => .tup ((pickR spots x.2).map V.str)) nD2 (by omega) (fun H' s' => SqL.of (s' _ _ (s13 _ _ hl))) (fun x mx H4 Yes s4 yes => ?_) (fun zs0 H4 s4 hL2 e0 has0 => ?_)
    · refine ⟨rfl, ?_⟩
      refine ⟨_, rfl, _, rfl, x.1, D, x.2, spots, rfl, s4 _ _ (s13 _ _ (tr x mx)), s4 _ _ hL, R64.2 x mx, by omega, fun t' H5 s5 nt ht' => yes t' H5 s5 nt ht'⟩
    have l0 : zs0.length = rows.length := by rw [← e0, List.length_map]
    refine ⟨D2, zs0.map fun z => (V.ref z.1, facT (pickR spots z.2.2)), rfl, SqL.of (by rw [hL2, List.map_map]; rfl), fun y my => ?_, fun y my y' my' => ?_, .inr fun y my => ?_, by rw [List.length_map]; omega, fun y my => ?_, fun ys p pm rise np => ?_⟩
    · obtain ⟨z, mz, rfl⟩ := List.mem_map.mp my
      exact dp_facT (SqT.of (has0 z mz).1)
    · rw [List.map_map] at my my'
      obtain ⟨z, mz, rfl⟩ := List.mem_map.mp my
      obtain ⟨z', mz', rfl⟩ := List.mem_map.mp my'
      show PySem.W.alike (facT _) (facT _) = true
      unfold facT
      rw [PySem.W.alike]
      exact alike_texts _ _
    · rw [List.map_map] at my
      obtain ⟨z, mz, rfl⟩ := List.mem_map.mp my
      exact ⟨_, rfl⟩
    · obtain ⟨z, mz, rfl⟩ := List.mem_map.mp my
      show (facT _).depth ≤ 40
      unfold facT
      rw [PyData.depth, ddepth_texts]
      decide
    obtain ⟨zs, pz, rfl⟩ := L2.NSet.perm_lift _ pm
    have s14 := s13.trans s4
    have has : ∀ z ∈ zs, H4 z.1 = some (.tup ((pickR spots z.2.2).map V.str)) ∧ H z.1 = none := fun z m => ⟨(has0 z (pz.mem_iff.mp m)).1, none_of (s1.trans s13) (has0 z (pz.mem_iff.mp m)).2.1⟩
    have lz : zs.length = rows.length := by rw [pz.length_eq, l0]
    rw [List.map_map]
    rw [show (Prod.fst ∘ fun z : Addr × Tx => (V.ref z.1, facT (pickR spots z.2.2))) = fun z => V.ref z.1 from rfl]
    have s5 : Same H4 (upd H4 p (.lst (zs.map fun z => V.ref z.1))) := same_new np
    have c5 : (upd H4 p (.lst (zs.map fun z => V.ref z.1))) p = some (.lst (zs.map fun z => V.ref z.1)) := upd_same
    generalize upd H4 p (.lst (zs.map fun z => V.ref z.1)) = H5 at s5 c5 ⊢
    have s05 : Same H H5 := s1.trans (s14.trans s5)
    have c25 : H5 ln = some (.lst (names.map V.str)) := s5 _ _ (s4 _ _ (s3 _ _ c2))
    have hord : OrdF kn (GOf xs) (ps.map (·.2)) (zs.map fun z => cOf kn names (pickR spots z.2.2)) := by
      rcases or with ⟨e, nf⟩ | ⟨pmP, ro⟩
      · have : zs = [] := List.length_eq_zero_iff.mp (by rw [lz, e]; rfl)
        rw [this]
        exact OrdF.none nf
      · have := few_ord (vals := zs.map fun z => pickR spots z.2.2) T.nk ro pl nm sub ?_ ?_
        · rw [List.map_map] at this
          exact this.perm pmP
        · rw [hsp]
          have h1 := (pz.map fun z => pickR spots z.2.2)
          refine h1.trans ?_
          rw [show (zs0.map fun z => pickR spots z.2.2) = (zs0.map (·.2)).map fun x => pickR spots x.2 by rw [List.map_map]; rfl, e0]
          unfold tms
          rw [List.map_map]
          exact List.Perm.refl _
        · rw [List.pairwise_map]
          have r' : (zs.map fun z => (V.ref z.1, facT (pickR spots z.2.2))).Pairwise fun a b => PySem.W.dataLe false Prod.snd a b = true := rise
          rw [List.pairwise_map] at r'
          exact r'
    have lpick : ∀ x : Tx, (pickR spots x.2).length = names.length := fun x => by unfold pickR; rw [List.length_map, ← hsp, List.length_map]
    have ezip : ∀ x : Tx, ((names.zip (pickR spots x.2)).map Prod.fst) = names := fun x => by rw [List.map_fst_zip (by rw [lpick]; exact Nat.le_refl _)]
    have fin : ∀ (D3 : Addr) (rs : List (Addr × Addr × Tx)) (H6 : Hp), Same H5 H6 → H5 D3 = none → H6 D3 = some (.lst (rs.map fun z => V.ref z.1)) → rs.map (·.2) = zs →
        (∀ z ∈ rs, H6 z.1 = some (.dK (kd (cOf kn names (pickR spots z.2.2.2)))) ∧ H5 z.1 = none ∧ z.1 ≠ D3) → Q (.ref D3) H6 := fun D3 rs H6 s6 nD3 hL3 e3 has3 => by
      refine kk D3 (rs.map (·.1)) (rs.map fun z => cOf kn names (pickR spots z.2.2.2)) H6 (s05.trans s6) (none_of s05 nD3) (by rw [hL3, List.map_map]; rfl) (paired_of (R := MapAt H6) (f := fun z : Addr × Addr × Tx => z.1) (g := fun z : Addr × Addr × Tx => cOf kn names (pickR spots z.2.2.2)) fun z m => (has3 z m).1) (fun b m => ?_) ?_ ?_ (fun m mm => ?_)
      · obtain ⟨z, mz, rfl⟩ := List.mem_map.mp m
        exact ⟨none_of s05 (has3 z mz).2.1, (has3 z mz).2.2⟩
      · rw [← e3, List.map_map] at hord
        exact hord
      · have := congrArg List.length e3
        rw [List.length_map] at this ⊢
        omega
      · obtain ⟨z, _, rfl⟩ := List.mem_map.mp mm
        unfold cOf
        rw [canon_len]
        have h1 := both_len kn (names.zip (pickR spots z.2.2.2))
        have h2 : (names.zip (pickR spots z.2.2.2)).length ≤ names.length := by rw [List.length_zip]; exact Nat.min_le_left _ _
        have := T.k10
        omega
    refine ⟨_, rfl, _, .inr (.inr ⟨kd kn, s05 _ _ T.hk, rfl⟩), ite2 (fun e => ?_) (fun e => ?_)⟩
    · have ek : kn = [] := by
        cases kn with
        | nil => rfl
        | cons a r => simp [kd] at e
      refine ⟨_, rfl, p, rfl, ⟨_, SqL.of c5⟩, fun D3 nD3 => ?_⟩
      refine lc_new (ms := zs) (val := fun z : Addr × Tx => V.ref z.1) (L2.walk_list (K := K)) (List.length_map _) (fun z => .dK (kd (cOf kn names (pickR spots z.2.2)))) nD3 (by omega) (fun H' s' => SqL.of (s' _ _ c5)) (fun z mz H6 Yes s6 yes => ?_) (fun rs H6 s6 hL3 e3 has3 => fin D3 rs H6 s6 nD3 hL3 e3 has3)
      refine ⟨rfl, ?_⟩
      refine ⟨_, rfl, _, rfl, ln, z.1, names, pickR spots z.2.2, rfl, SqL.of (s6 _ _ c25), SqT.of (s6 _ _ (s5 _ _ (has z mz).1)), (lpick _).symm, by omega, fun q' nq => ?_⟩
      have er : mergeK [] (kd (names.zip (pickR spots z.2.2))) = kd (cOf kn names (pickR spots z.2.2)) := by rw [mer_self (by rw [ezip]; exact nm.nd), ek, cOf_nil nm.asc nm.nd (lpick _)]
      rw [er]
      exact yes q' _ (same_new nq) nq upd_same
    · refine ⟨_, rfl, p, rfl, ⟨_, SqL.of c5⟩, fun D3 nD3 => ?_⟩
      refine lc_new (ms := zs) (val := fun z : Addr × Tx => V.ref z.1) (L2.walk_list (K := K)) (List.length_map _) (fun z => .dK (kd (cOf kn names (pickR spots z.2.2)))) nD3 (by omega) (fun H' s' => SqL.of (s' _ _ c5)) (fun z mz H6 Yes s6 yes => ?_) (fun rs H6 s6 hL3 e3 has3 => fin D3 rs H6 s6 nD3 hL3 e3 has3)
      refine ⟨rfl, ?_⟩
      refine ⟨_, rfl, _, rfl, _, rfl, ln, z.1, names, pickR spots z.2.2, rfl, SqL.of (s6 _ _ c25), SqT.of (s6 _ _ (s5 _ _ (has z mz).1)), (lpick _).symm, by omega, fun q' nq => ?_⟩
      rw [mer_self (by rw [ezip]; exact nm.nd)]
      have s7 : Same H6 (upd H6 q' (.dK (kd (names.zip (pickR spots z.2.2))))) := same_new nq
      have c7 : (upd H6 q' (.dK (kd (names.zip (pickR spots z.2.2))))) q' = some (.dK (kd (names.zip (pickR spots z.2.2)))) := upd_same
      generalize upd H6 q' (.dK (kd (names.zip (pickR spots z.2.2)))) = H7 at s7 c7 ⊢
      refine ⟨k, q', kn, names.zip (pickR spots z.2.2), rfl, T.hk.same (s05.trans (s6.trans s7)), by have := T.k10; omega, c7, ?_, fun H8 dd s8 nd hd8 => yes dd H8 (s7.trans s8) (none_of s7 nd) hd8⟩
      rw [List.length_zip]
      exact Nat.le_trans (Nat.min_le_left _ _) (by omega)
end
end L2.Rws
set_option Elab.async false
set_option linter.all false
set_option maxRecDepth 100000
set_option maxHeartbeats 4000000
/-! Store.groups. -/
namespace L2.Rws
open PySem PySem.Spec PyProof.Rows L2.LawH L2.SetT L2.Frz L2.NSet
open L2.TxtDict (Prs2 kd)
abbrev sGrps : Stmt := inClass (top 18) 5
def fsG (t d : Addr) (gv : V) : List (Str × V) := putF "_groups" gv (putF "_held" (.ref d) (putF "_facts" (.ref t) []))
theorem put_fsG (t d : Addr) (gv gv' : V) : putF "_groups" gv' (fsG t d gv) = fsG t d gv' := by
  unfold fsG
  rfl
/-- a Store with these facts at a, whether it has told its groups or not -/
structure StG (C : Addr) (H : Hp) (a : Addr) (xs : List Tx) : Prop where
  ex : ∃ dx t d gv, H a = some (.ins C dx (fsG t d gv)) ∧ H t = some (.tup (refs xs)) ∧ (gv = .non ∨ ∃ g gs, gv = .ref g ∧ GrpAt H g xs gs)
  tx : TxsAt H xs
theorem StG.same {C : Addr} {H H' : Hp} {a : Addr} {xs : List Tx} (h : StG C H a xs) (s : Same H H') : StG C H' a xs :=
  let ⟨⟨dx, t, d, gv, h1, h2, h3⟩, tx⟩ := h
  ⟨⟨dx, t, d, gv, s _ _ h1, s _ _ h2, h3.imp id fun ⟨g, gs, e, x⟩ => ⟨g, gs, e, x.same s⟩⟩, tx.same s⟩
theorem GrpAt.keep {H H' : Hp} {a C d : Addr} {dx : Addr} {fs : List (Str × V)} {xs : List Tx} {gs : List Grp} (h : GrpAt H d xs gs) (ha : H a = some (.ins C dx fs)) (k : Keep a H H') : GrpAt H' d xs gs :=
  ⟨k _ _ h.at_ (fun e => by have := h.at_; rw [e, ha] at this; cases this), fun g m => k _ _ (h.each g m) (fun e => by have := h.each g m; rw [e, ha] at this; cases this), h.all, h.nd⟩
theorem TxsAt.keep {H H' : Hp} {a C dx : Addr} {fs : List (Str × V)} {xs : List Tx} (h : TxsAt H xs) (ha : H a = some (.ins C dx fs)) (k : Keep a H H') : TxsAt H' xs :=
  fun x m => k _ _ (h x m) (fun e => by have := h x m; rw [e, ha] at this; cases this)
def spGrps (C : Addr) : Sp := fun us H Q _ => ∃ (a : Addr) (xs : List Tx), us = [.ref a] ∧ StG C H a xs ∧ (∀ x ∈ xs, x.2 ≠ [] ∧ x.2.length ≤ 100) ∧ xs.length ≤ 60 ∧
  ∀ (g : Addr) (gs : List Grp) (H' : Hp), Keep a H H' → StG C H' a xs → GrpAt H' g xs gs → Q (.ref g) H'
section
variable {P : Program} {w : World} {K : PySem.W.Frag} {mg : Str → Option Value} {base : Heap}
theorem scGr : FnScope ["self"] ["self"] (defScope sGrps) := ⟨rfl, rfl, rfl, by decide +kernel, rfl, by decide +kernel, by decide +kernel⟩
theorem ok_grps {f fB C : Addr} {fd fdB : FuncData} (F : Fun K "groups" "Store.groups" sGrps f fd) (T : StT K mg C)
    (GB : FnOk P w K mg base CX0 1 fB fdB ["facts"] spByShape) (kB : PySem.W.keepIn K (.ref fB) = true) (bB : Binds K fdB ["facts"] []) (mB : mg "by_shape" = some (.ref fB)) :
    FnOk P w K mg base CX0 2 f fd ["self"] (spGrps C) := by
  refine F.ok scGr (fun vs H Q E h => ?_) (fun cdv A outer s H vs Q E hr h => ?_)
  · obtain ⟨a, xs, rfl, _⟩ := h
    rfl
  · obtain ⟨a, xs, rfl, ⟨⟨dx, t, d, gv, ha, ht, hg⟩, tx⟩, ne, few, k⟩ := h
    refine ⟨_, pss_cons (ps_if (pt_cmpR op_isN (pe_fld (pv 0) rfl) pe_non (nomark _)) (pss_one (ps_fld (pv 0) (pe_call GB hr (by rfl) mB kB bB .nil pass0 (pa_cons (pe_fld (pv 0) rfl) pa_nil)) rfl)) pss_nil) (pss_one (ps_ret (pe_fld (pv 0) rfl))), ?_⟩
    refine ⟨_, rfl, a, C, dx, _, gv, rfl, ha, T.cl, T.nG, rfl, rfl, _, rfl, ?_⟩
    rcases hg with rfl | ⟨g, gs, rfl, hg⟩
    · refine ifT rfl ?_
      refine ⟨_, rfl, a, C, dx, _, .ref t, rfl, ha, T.cl, T.nF, rfl, t, xs, rfl, .inr ht, tx, ne, few, fun g gs H1 s1 ng hg ogs => ?_⟩
      have ha1 := s1 _ _ ha
      refine ⟨_, rfl, a, C, dx, _, rfl, ha1, T.cl, T.nG, (by show 3 < 1000; decide), ?_⟩
      rw [put_fsG]
      have ka : Keep a H1 (upd H1 a (.ins C dx (fsG t d (.ref g)))) := fun b o e nb => by
        rw [upd_ne nb]
        exact e
      have ca : (upd H1 a (.ins C dx (fsG t d (.ref g)))) a = some (.ins C dx (fsG t d (.ref g))) := upd_same
      generalize upd H1 a (.ins C dx (fsG t d (.ref g))) = H2 at ka ca ⊢
      have hg2 := hg.keep ha1 ka
      have ht2 := ka _ _ (s1 _ _ ht) (fun e => by have := s1 _ _ ht; rw [e, ha1] at this; cases this)
      exact ⟨_, rfl, a, C, dx, _, .ref g, rfl, ca, T.cl, T.nG, rfl, k g gs H2 (fun b o e nb => ka _ _ (s1 _ _ e) nb) ⟨⟨dx, t, d, .ref g, ca, ht2, .inr ⟨g, gs, rfl, hg2⟩⟩, (tx.same s1).keep ha1 ka⟩ hg2⟩
    · refine ifF (isNone_ref _) ?_
      exact ⟨_, rfl, a, C, dx, _, .ref g, rfl, ha, T.cl, T.nG, rfl, k g gs H (fun b o e _ => e) ⟨⟨dx, t, d, .ref g, ha, ht, .inr ⟨g, gs, rfl, hg⟩⟩, tx⟩ hg⟩
end
end L2.Rws
set_option Elab.async false
set_option linter.all false
set_option maxRecDepth 100000
set_option maxHeartbeats 4000000
/-! Generators: if; yield from a list. -/
namespace L2.GenL
open PySem PySem.Spec PyProof.Rows GenW
section
variable {X : Cx}
def tGIf (tc : TT) (t u : TGn) : TGn := fun D ys σ H => tc σ H fun b H1 => if b = true then t D ys σ H1 else u D ys σ H1
theorem gs_if {test : Expr} {body orelse : List Stmt} {pos : Pos} {tc : TT} {t u : TGn} (hc : PT X test tc) (ha : GSs X body t) (hb : GSs X orelse u) : GS X (.If test body orelse pos) (tGIf tc t u) := by
  refine ⟨fun A S ip R n ys s₀ c fs K J gd lv s σ H D g hn k hI ht => ?_⟩
  obtain ⟨acc, cc, r, I⟩ := hI
  show Seg _ _ _ _ n s₀ c (.at pos fun _ => ((isTrue test X.env (eval test X.env)) >>= fun b => if b = true then execs body X.env else execs orelse X.env).wrap K J gd lv) fs s
  refine seg_at (seg_bind_wrap ?_)
  rw [g.over]
  refine wpAny_mono (hc.run _ s σ H _ I ht) (fun b s' hd => ?_) fun x s' hx => k.exc n s₀ x s' hx
  obtain ⟨H2, I2, q⟩ := hd
  cases b with
  | true => exact ha.run A S ip R n ys s₀ c fs K J gd lv s' σ H2 D g hn k ⟨acc, cc, r, I2⟩ q
  | false => exact hb.run A S ip R n ys s₀ c fs K J gd lv s' σ H2 D g hn k ⟨acc, cc, r, I2⟩ q
end
section
variable {prog : Program} {w : World} {A : Around} {E : Value → Shared → Prop} {s : Shared}
/-- an iterator of a list is asked for its next item -/
theorem wake_list {it l : Addr} {i : Nat} {items : Array Value} {Q : Option Value → Shared → Prop} (hh : A.handled = none) (hit : s.heap.IsListIter it l i) (hl : s.heap.IsList l items)
    (some_ : ∀ x h', items[i]? = some x → h'.IsListIter it l (i + 1) → Heap.SameBut it s.heap h' → Q (some x) { s with heap := h' })
    (none_ : ∀ e h', items[i]? = none → StopX e h' → Heap.ExtBut it s.heap h' → E e { s with heap := h' }) : wpAny (model prog w) A (callSpecial? (.ref it) "__next__") Q E s := by
  obtain ⟨o, ho, hc, hd⟩ := id hit
  obtain ⟨ol, hol, _, nl, hdl⟩ := hl
  refine wpAny_callSpecial?_slot (name := Str.ofString "__next__") hit.typeIs slot_listiter_next (wpAny_call_entry slot_listiter_next hit.typeIs entry_listiter_next ?_ (args_listiter_next _))
  show wpAny _ _ (field (.ref it) 0 >>= _) _ _ s
  refine wpAny_bind (wpAny_field ho hd (x := .ref l) rfl ?_)
  show wpAny _ _ (if (Value.ref l == Value.none) = true then _ else _) _ _ s
  rw [if_neg (show ¬ ((Value.ref l == Value.none) = true) from Bool.false_ne_true)]
  show wpAny _ _ (field (.ref it) 1 >>= _) _ _ s
  refine wpAny_bind (wpAny_field ho hd (x := .int i 0) rfl ?_)
  show wpAny _ _ (seqItems? (.ref l) >>= _) _ _ s
  refine wpAny_bind (wpAny_seqItems hol hdl ?_)
  cases hx : items[i]? with
  | some x =>
    simp only [Int.toNat_natCast, hx]
    refine wpAny_bind (wpAny_setField ho hd (by simp) (wpAny_pure ⟨x, rfl, some_ x _ hx ⟨_, Heap.get?_update_self _ ho (Obj.isFreed_of_fields (Obj.data_mapFields hd _)), (Obj.cls_mapFields ..).trans hc, ?_⟩ (Heap.SameBut.update ..)⟩))
    rw [Obj.data_mapFields hd]
    simp [rawInt]
  | none =>
    simp only [Int.toNat_natCast, hx]
    refine wpAny_bind (wpAny_rule (wpAny_bind (wpAny_setField ho hd (by simp) ?_)))
    show wpAny _ _ (newExc (.type "StopIteration") [] >>= _) _ _ _
    refine wpAny_bind ?_
    simp only [newExc, newTuple]
    refine wpAny_bind (wpAny_newObj_type ?_ (by size_fits))
    refine wpAny_bind (m := firstArgMember _ _) (wpAny_of_eq (a := Value.none) (by first | rfl | (simp only [firstArgMember]; rfl)) ?_)
    refine wpAny_newObj_type ?_ (by size_fits)
    simp only [raiseNew]
    refine wpAny_bind (wpAny_handled ?_)
    rw [show A.in1.handled = none from hh]
    refine wpAny_bind (wpAny_pure (wpAny_throw ?_))
    refine none_ _ _ hx ⟨_, _, _, rfl, Heap.get?_push_size _ rfl, rfl, rfl, ?_⟩ (((Heap.SameBut.update ..).extBut.push _).push _)
    first
      | rfl
      | (rw [Array.getElem?_append_left (by decide)]; rfl)
      | kernel_rfl
end
section
variable {X : Cx}
theorem close_lst : typeLookup (.type "list_iterator") "close" = pure none := by rw [typeLookup_type, builtinLookup_eq_fast]; kernel_rfl
def tYfLst (te : TE) : TYf := fun σ H Q => te σ H fun x H1 => ∃ a xs, x = .ref a ∧ H1 a = some (.lst xs) ∧ Q xs H1
theorem yf_lst {e : Expr} {te : TE} (he : PE X e te) : YfE X e (tYfLst te) := by
  refine ⟨fun pins s σ H Q I h => ?_⟩
  refine thn (he.run pins s σ H _ I h) fun v s1 ⟨x, H1, I1, r1, a, xs, ex, ha, hq⟩ => ?_
  subst ex
  obtain rfl : v = Value.ref a := r1
  obtain ⟨its, rits, pl, _⟩ := I1.list (SqL.of (K := X.K) ha)
  have hl := pl.isList
  refine ⟨"list", hl.typeIs, by decide, wpAny_pyIter_list hl ?_⟩
  have ksz : ∀ b o, s1.heap.get? b = some o → b ≠ s1.heap.objs.size := fun b o e => Nat.ne_of_lt (Heap.lt_size e)
  have kp : ∀ b o, s1.heap.get? b = some o → (s1.heap.push { cls := .type "list_iterator", data := .fields #[.ref a, .int 0 0] }).get? b = some o := fun b o e => Heap.get?_push_of_some _ e
  refine ⟨s1.heap.objs.size, H1, xs, fun j h => h.IsListIter s1.heap.objs.size a j ∧ h.IsList a its.toArray, rfl, I1.kept (t' := s1.toks) kp, .inr I1.sz, Nat.ne_of_gt I1.lt, fun y c hy => ?_, I1.hok.fresh (Nat.le_refl _), fun p hp => ?_,
    ⟨⟨_, Heap.get?_push_size _ rfl, rfl, rfl⟩, hl.at fun o e => kp _ o e⟩, ⟨⟨"list_iterator", fun j h q => ?_, close_lst, by decide⟩, fun j h h' q hk => ?_, fun A' j x s2 Q' E' hA hx q hQ => ?_, fun A' s2 Q' E' hA q hE => ?_⟩, hq⟩
  · obtain ⟨v, o, ho, _⟩ := I1.cell y c hy
    exact ksz c o ho
  · exact ksz p.1 _ (I1.pin p hp).1
  · obtain ⟨⟨o, ho, hc, _⟩, _⟩ := q
    exact ⟨o, ho, hc⟩
  · obtain ⟨⟨o, ho, r⟩, o2, ho2, r2⟩ := q
    exact ⟨⟨o, hk _ o (.inl rfl) ho, r⟩, o2, hk _ o2 (.inr (by rw [ha]; exact fun z => by cases z)) ho2, r2⟩
  · obtain ⟨q1, q2⟩ := q
    obtain ⟨u, hu, ru⟩ := rits.get hx
    have hne : a ≠ s1.heap.objs.size := Nat.ne_of_lt pl.lt
    refine wake_list hA q1 q2 (fun y h' hy q1' hs => ?_) fun e h' hn _ _ => ?_
    · have : y = u := by
        have h1 : its.toArray[j]? = some u := by simpa using hu
        rw [h1] at hy
        exact (Option.some.inj hy).symm
      subst this
      exact hQ y h' s2.toks ru ⟨q1', q2.extBut hs.extBut hne⟩ fun b o hb eb => hs.extBut b o hb eb
    · have h1 : its.toArray[j]? = some u := by simpa using hu
      rw [h1] at hn
      cases hn
  · obtain ⟨q1, q2⟩ := q
    have hnone : its.toArray[xs.length]? = none := by
      have e := rits.length
      have e2 : its[xs.length]? = none := List.getElem?_eq_none_iff.mpr (by omega)
      simpa using e2
    refine wake_list hA q1 q2 (fun y h' hy _ _ => ?_) fun e h' _ hS hk => hE e h' s2.toks hS fun b o hb eb => hk b o hb eb
    rw [hnone] at hy
    cases hy
end
end L2.GenL
set_option Elab.async false
set_option linter.all false
set_option maxRecDepth 100000
set_option maxHeartbeats 4000000
/-! each_map, maps. -/
namespace L2.Rws
open PySem PySem.Spec PyProof.Rows L2.LawH L2.SetT L2.Frz L2.NSet L2.GenL
open L2.TxtDict (Prs2 kd)
abbrev sEM : Stmt := top 59
abbrev sMaps : Stmt := top 60
theorem gss_nv {X : Cx} {sts : List Stmt} : GSs X sts (fun _ _ _ _ => False) := ⟨fun _ _ _ _ _ _ _ _ _ _ _ _ _ _ _ _ _ _ _ _ _ h => h.elim⟩
/-- what is handed to each_map and its like -/
structure TellS (C : Addr) (H : Hp) (q st : Addr) (kv : V) (ps xs : List Tx) (kn : Prs2) (cs vs : List Str) : Prop where
  hq : H q = some (.lst (refs ps)) ∨ H q = some (.tup (refs ps))
  hps : ∀ p ∈ ps, PtR H p.1 p.2 ∧ PatOk kn vs p.2
  few : ps.length ≤ 20
  hs : StG C H st xs
  S : Sit xs kn cs vs
  hk : (kv = .non ∧ kn = []) ∨ ∃ k, kv = .ref k ∧ MapAt H k kn
  nk : (kn.map Prod.fst).Nodup
  k10 : kn.length ≤ 10
theorem StG.ins {C : Addr} {H : Hp} {a : Addr} {xs : List Tx} (h : StG C H a xs) : ∃ dx fs, H a = some (.ins C dx fs) := let ⟨⟨dx, t, d, gv, e, _⟩, _⟩ := h; ⟨dx, _, e⟩
theorem PtR.keepI {H H' : Hp} {p : Addr} {P : Tm} {a C dx : Addr} {fs : List (Str × V)} (h : PtR H p P) (ha : H a = some (.ins C dx fs)) (k : Keep a H H') : PtR H' p P := by
  rcases h with ⟨e, l⟩ | ⟨o, od, e⟩
  · exact .inl ⟨k _ _ e (fun z => by rw [z, ha] at e; cases e), l⟩
  · exact .inr ⟨o, od, k _ _ e (fun z => by rw [z, ha] at e; cases e)⟩
theorem TellS.keep {C : Addr} {H H' : Hp} {q st : Addr} {kv : V} {ps xs : List Tx} {kn : Prs2} {cs vs : List Str} (h : TellS C H q st kv ps xs kn cs vs) (k : Keep st H H') (s : StG C H' st xs) : TellS C H' q st kv ps xs kn cs vs := by
  obtain ⟨dx, fs, ha⟩ := h.hs.ins
  refine ⟨h.hq.imp (fun e => k _ _ e fun z => ?_) (fun e => k _ _ e fun z => ?_), fun p m => ⟨(h.hps p m).1.keepI ha k, (h.hps p m).2⟩, h.few, s, h.S, h.hk.imp id fun ⟨a, e, m⟩ => ⟨a, e, k _ _ m fun z => ?_⟩, h.nk, h.k10⟩
  · rw [z, ha] at e; cases e
  · rw [z, ha] at e; cases e
  · have m' : H a = some (.dK (kd kn)) := m
    rw [z, ha] at m'; cases m'
theorem TellS.same {C : Addr} {H H' : Hp} {q st : Addr} {kv : V} {ps xs : List Tx} {kn : Prs2} {cs vs : List Str} (h : TellS C H q st kv ps xs kn cs vs) (s : Same H H') : TellS C H' q st kv ps xs kn cs vs :=
  h.keep (fun b o e _ => s _ _ e) (h.hs.same s)
/-- what is told of the maps -/
structure OutM (C : Addr) (H H' : Hp) (st : Addr) (ps xs : List Tx) (kn : Prs2) (ds : List Addr) (ms : List Prs2) : Prop where
  k : Keep st H H'
  hs : StG C H' st xs
  pr : Paired (MapAt H') ds ms
  new : ∀ d ∈ ds, H d = none
  ord : OrdF kn (GOf xs) (ps.map (·.2)) ms
  few : ms.length ≤ 64
  short : ∀ m ∈ ms, m.length ≤ 20
def spEM (C : Addr) : SpG := fun us H Q _ => ∃ (q st : Addr) (kv : V) (ps xs : List Tx) (kn : Prs2) (cs vs : List Str), us = [.ref q, .ref st, kv] ∧ TellS C H q st kv ps xs kn cs vs ∧
  ∀ (ds : List Addr) (ms : List Prs2) (H' : Hp), OutM C H H' st ps xs kn ds ms → Q (ds.map V.ref) H'
def spMaps (C : Addr) : Sp := fun us H Q _ => ∃ (q st : Addr) (kv : V) (ps xs : List Tx) (kn : Prs2) (cs vs : List Str), us = [.ref q, .ref st, kv] ∧ TellS C H q st kv ps xs kn cs vs ∧
  ∀ (l : Addr) (ds : List Addr) (ms : List Prs2) (H' : Hp), OutM C H H' st ps xs kn ds ms → H l = none → H' l = some (.lst (ds.map V.ref)) → l ∉ ds → Q (.ref l) H'
theorem FunD.gfn {P : Program} {w : World} {K : PySem.W.Frag} {mg : Str → Option Value} {base : Heap} {x qual : Str} {params : Arguments} {body : List Stmt} {scope : Scope} {dvs : List V} {kws : List (Str × V)} {f : Addr} {fd : FuncData} {N ps : List Str} {k : Nat} {sp : SpG} (F : FunD K x qual params body scope dvs kws f fd) (S : GScope N ps scope)
    (len : ∀ vs H Q E, sp vs H Q E → vs.length = ps.length)
    (hbody : ∀ (cdv : Value) (A : Around) (outer : List Env) (s : Shared) (H : Hp) (vs : List V) (Q : List V → Hp → Prop) (E : XK) (pn : List (Addr × Obj)), Room k (A.deeper (envOfC qual scope s.heap.objs.size f cdv)) → sp vs H Q E →
      ∃ t, GSs (gcxOf P w K mg base N qual scope f cdv A outer s H E pn) body t ∧ t { nx := fun ys _ H' => Q ys H', rt := fun ys v H' => v = .non ∧ Q ys H' } [] (start N vs) H) :
    GFn P w K mg base (k + 1) f fd ps sp := by
  obtain ⟨oc, od, dV, kV, doc, pm, an, cdv, ct, osl, rfl, lk, hcd, _, _⟩ := F.ex
  exact gfn_of lk hcd S len fun A outer s H vs Q E pn hr h => hbody cdv A outer s H vs Q E pn hr h
theorem none_ofK {C : Addr} {H H1 H2 : Hp} {st b : Addr} {xs : List Tx} (h : StG C H st xs) (s : Same H H1) (k : Keep st H1 H2) (h2 : StG C H2 st xs) (n : H2 b = none) : H b = none := by
  cases e : H b with
  | none => rfl
  | some o =>
    by_cases z : b = st
    · obtain ⟨dx, fs, e2⟩ := h2.ins
      rw [z, e2] at n
      cases n
    · rw [k _ _ (s _ _ e) z] at n
      cases n
abbrev rCopyD : List V → Hp → VK → Prop := fun xs H Q => ∃ (a : Addr) (kvs : List (Key × V)), xs = [V.ref a] ∧ Rd H a (HO.dK kvs) ∧ ∀ (p : Addr), H p = none → Q (V.ref p) (upd H p (HO.dK kvs))
/-- {} if known is None else dict(known) -/
theorem known_or {σ : St} {H : Hp} {Q : VK} {kv : V} {kn : Prs2} (h2 : σ[2]? = some (some kv)) (hk : (kv = .non ∧ kn = []) ∨ ∃ k, kv = .ref k ∧ MapAt H k kn) (k : ∀ d H', Same H H' → H d = none → MapAt H' d kn → Q (.ref d) H') :
    if (decide (kv = V.non)) = true then tDNewK σ H Q else tCB rCopyD (tCons (tVar 2) tNil) σ H Q := by
  rcases hk with ⟨rfl, rfl⟩ | ⟨a, rfl, m⟩
  · exact ifT rfl fun d nd => k d _ (same_new nd) nd upd_same
  · exact ifF (isNone_ref _) ⟨_, h2, a, kd kn, rfl, .inl m, fun d nd => k d _ (same_new nd) nd upd_same⟩
section
variable {P : Program} {w : World} {K : PySem.W.Frag} {mg : Str → Option Value} {base : Heap}
abbrev nEM : List Str := ["lot", "store", "known", "start", "groups", "found"]
theorem scEM : GScope nEM ["lot", "store", "known"] (defScope sEM) := ⟨rfl, rfl, rfl, by decide +kernel, rfl, by decide +kernel, by decide +kernel⟩
theorem ok_em {f fF fG C : Addr} {fd fdF fdG : FuncData} {T1 : V} (F : FunD K "each_map" "each_map" (defArgs sEM) (defBody sEM) (defScope sEM) [T1] [] f fd) (T : StT K mg C)
    (GF : FnOk P w K mg base CX0 5 fF fdF ["lot", "groups", "start"] spFM) (kF : PySem.W.keepIn K (.ref fF) = true) (bF : Binds K fdF ["lot", "groups", "start"] []) (mF : mg "few_maps" = some (.ref fF))
    (GG : FnOk P w K mg base CX0 2 fG fdG ["self"] (spGrps C)) (hG : Meth K C "groups" fG) (bG : Binds K fdG ["self"] []) (md : mg "dict" = none) :
    GFn P w K mg base 6 f fd ["lot", "store", "known"] (spEM C) := by
  refine FunD.gfn F scEM (fun vs H Q E h => ?_) (fun cdv A outer s H vs Q E pn hr h => ?_)
  · obtain ⟨q, st, kv, ps, xs, kn, cs, vs, rfl, _⟩ := h
    rfl
  · obtain ⟨q, st, kv, ps, xs, kn, cs, vs, rfl, T', kk⟩ := h
    have hr2 : Room 2 _ := hr.mono (by decide)
    refine ⟨_, gss_cons (gs_ps (ps_set (i := 3) scEM.nd rfl (Or.inl rfl) (pe_ifExp (pt_cmpR op_isN (pv 2) pe_non (nomark _)) pe_dnewK (pe_callTy call_dictD (by rfl) md (by decide +kernel) (pa_cons (pv 2) pa_nil)))))
      (gss_cons (gs_ps (ps_set (i := 4) scEM.nd rfl (Or.inl rfl) (pe_meth0 (pv 1) T.cl hG GG hr2 bG .nil pass0)))
      (gss_cons (gs_ps (ps_set (i := 5) scEM.nd rfl (Or.inl rfl) (pe_call GF hr (by rfl) mF kF bF .nil pass0 (pa_cons (pv 0) (pa_cons (pv 4) (pa_cons (pv 3) pa_nil))))))
      (gss_cons (gs_if (pt_cmpR op_isN (pv 5) pe_non (nomark _)) gss_nv (gss_cons (gs_yieldFrom (yf_lst (pv 5)) hr.hd) gss_nil)) gss_nil))), ?_⟩
    refine ⟨_, rfl, rfl, _, rfl, ?_⟩
    refine known_or (kn := kn) rfl T'.hk fun d H1 s1 nd hd => ?_
    have T1 := T'.same s1
    obtain ⟨⟨dx, t, dh, gv, ha, _⟩, _⟩ := id T1.hs
    refine ⟨_, rfl, st, dx, _, rfl, ha, rfl, st, xs, rfl, T1.hs, fun x m => ⟨(T1.S.ok.each x m).1, by have := (T1.S.ok.each x m).2; omega⟩, T1.S.ok.few, fun g gs H2 k2 hs2 hg2 => ?_⟩
    have T2 := T1.keep k2 hs2
    have hd2 : MapAt H2 d kn := k2 _ _ hd (fun z => by rw [z] at hd; rw [show H1 st = some (.dK (kd kn)) from hd] at ha; cases ha)
    refine ⟨_, rfl, _, rfl, _, rfl, q, g, d, ps, xs, gs, kn, cs, vs, rfl, ⟨T2.hq, T2.hps, T2.few, hg2, hs2.tx, T2.S, hd2, T2.nk, T2.k10⟩, fun l ds ms H3 s3 nl hl pr new ord few short => ?_⟩
    refine ⟨_, rfl, rfl, _, rfl, ifF (isNone_ref _) ?_⟩
    refine ⟨_, rfl, l, _, rfl, hl, ?_, ?_⟩
    · have := Paired.length pr
      show 0 + _ ≤ sizeLine
      rw [List.length_map, sizeLine_eq]
      omega
    · exact kk ds ms H3 ⟨fun b o e nb => s3 _ _ (k2 _ _ (s1 _ _ e) nb), hs2.same s3, pr, fun b m => none_ofK T'.hs s1 k2 hs2 (new b m).1, ord, few, short⟩
end
end L2.Rws
set_option Elab.async false
set_option linter.all false
set_option maxRecDepth 100000
set_option maxHeartbeats 4000000
/-! maps; how many. -/
namespace L2.Rws
open PySem PySem.Spec PyProof.Rows L2.LawH L2.SetT L2.Frz L2.NSet L2.GenL
open L2.TxtDict (Prs2 kd)
abbrev sCount : Stmt := top 63
theorem passX0 {X : Cx} {P : Program} {w : World} : Passes (L2.CX P w) X E0 := fun pins σ H s er s' I h => by
  obtain ⟨a, B, H', cls, d, e1, h1, h2, h3, h4, h5, h6, q⟩ := h
  exact (show False from q).elim
theorem noStop0 {K : PySem.W.Frag} : NoStop K E0 := fun cls d H h => (show False from h).elim
/-- the rows that fit, as maps in order -/
theorem ord_rows {kn : Prs2} {G : Tm → Prop} {Ps : List Tm} {rows : List Tm} {Pl : List (Str × Nat)} (nk : (kn.map Prod.fst).Nodup) (ro : RowsAt kn G Ps rows) (pl : PlcAt kn Ps.flatten Pl) {names : List Str} (nm : NmAt kn Ps.flatten names) (sub : ∀ z ∈ names, z ∈ Pl.map Prod.fst) :
    OrdF kn G Ps (((rows.map (pickR (names.map (spotOf Pl)))).mergeSort (PySem.W.dataLe false facT)).map (cOf kn names)) :=
  few_ord nk ro pl nm sub (List.mergeSort_perm _ _) (rise_sort _)
/-- as many maps as rows -/
theorem ord_len {kn : Prs2} {G : Tm → Prop} {Ps : List Tm} {rows : List Tm} {Pl : List (Str × Nat)} {ms : List Prs2} (nk : (kn.map Prod.fst).Nodup) (ro : RowsAt kn G Ps rows) (pl : PlcAt kn Ps.flatten Pl) (h : OrdF kn G Ps ms) : rows.length = ms.length := by
  have pm := srt_perm (Pl.map Prod.fst)
  have nm := pl.names (srt_asc (Pl.map Prod.fst)) pm
  have := (ord_rows nk ro pl nm fun z m => pm.mem_iff.mp m).one h
  rw [← this, List.length_map, List.length_mergeSort, List.length_map]
/-- {} if known is None else known -/
theorem known_or2 {σ : St} {H : Hp} {Q : VK} {kv : V} {kn : Prs2} (h2 : σ[2]? = some (some kv)) (hk : (kv = .non ∧ kn = []) ∨ ∃ k, kv = .ref k ∧ MapAt H k kn) (k : ∀ d H', Same H H' → MapAt H' d kn → Q (.ref d) H') :
    if (decide (kv = V.non)) = true then tDNewK σ H Q else tVar 2 σ H Q := by
  rcases hk with ⟨rfl, rfl⟩ | ⟨a, rfl, m⟩
  · exact ifT rfl fun d nd => k d _ (same_new nd) upd_same
  · exact ifF (isNone_ref _) ⟨_, h2, k a H (Same.refl _) m⟩
section
variable {P : Program} {w : World} {K : PySem.W.Frag} {mg : Str → Option Value} {base : Heap}
abbrev nMp : List Str := ["lot", "store", "known"]
theorem scMp : FnScope nMp ["lot", "store", "known"] (defScope sMaps) := ⟨rfl, rfl, rfl, by decide +kernel, rfl, by decide +kernel, by decide +kernel⟩
theorem ok_maps {f fE C : Addr} {fd fdE : FuncData} {T1 : V} (F : FunD K "maps" "maps" (defArgs sMaps) (defBody sMaps) (defScope sMaps) [T1] [] f fd)
    (GE : GFn P w K mg base 6 fE fdE ["lot", "store", "known"] (spEM C)) (kE : PySem.W.keepIn K (.ref fE) = true) (bE : Binds K fdE ["lot", "store", "known"] []) (mE : mg "each_map" = some (.ref fE)) (ml : mg "list" = none) :
    FnOk P w K mg base CX0 10 f fd ["lot", "store", "known"] (spMaps C) := by
  refine F.ok scMp (fun vs H Q E h => ?_) (fun cdv A outer s H vs Q E hr h => ?_)
  · obtain ⟨q, st, kv, ps, xs, kn, cs, vs, rfl, _⟩ := h
    rfl
  · obtain ⟨q, st, kv, ps, xs, kn, cs, vs, rfl, T, kk⟩ := h
    have hr6 : Room 6 _ := hr.mono (by decide)
    refine ⟨_, PSs.nox (pss_one (ps_ret (pe_listG (pgen_call (E := E0) GE hr6 (by rfl) mE kE bE .nil (pa_cons (pv 0) (pa_cons (pv 1) (pa_cons (pv 2) pa_nil)))) passX0 noStop0 hr (by rfl) ml (by decide +kernel)))), ?_⟩
    refine ⟨_, rfl, _, rfl, _, rfl, q, st, kv, ps, xs, kn, cs, vs, rfl, T, fun ds ms H1 o1 l nl => ?_⟩
    have s2 : Same H1 (upd H1 l (.lst (ds.map V.ref))) := same_new nl
    have c2 : (upd H1 l (.lst (ds.map V.ref))) l = some (.lst (ds.map V.ref)) := upd_same
    generalize upd H1 l (.lst (ds.map V.ref)) = H2 at s2 c2 ⊢
    refine kk l ds ms H2 ⟨fun b o e nb => s2 _ _ (o1.k _ _ e nb), o1.hs.same s2, Paired.mapP o1.pr fun _ _ m => m.same s2, o1.new, o1.ord, o1.few, o1.short⟩ (none_ofK T.hs (Same.refl _) o1.k o1.hs nl) c2 fun m => ?_
    obtain ⟨i, hi⟩ := List.getElem?_of_mem m
    obtain ⟨m', _, hm⟩ := Paired.at_ o1.pr hi
    rw [show H1 l = some (.dK (kd m')) from hm] at nl
    cases nl
abbrev nCt : List Str := ["lot", "store", "known", "start", "small", "tables"]
theorem scCt : FnScope nCt ["lot", "store", "known"] (defScope sCount) := ⟨rfl, rfl, rfl, by decide +kernel, rfl, by decide +kernel, by decide +kernel⟩
def spCount (C : Addr) : Sp := fun us H Q _ => ∃ (q st : Addr) (kv : V) (ps xs : List Tx) (kn : Prs2) (cs vs : List Str), us = [.ref q, .ref st, kv] ∧ TellS C H q st kv ps xs kn cs vs ∧
  ∀ (n : Nat) (H' : Hp), Keep st H H' → StG C H' st xs → (∀ ms, OrdF kn (GOf xs) (ps.map (·.2)) ms → n = ms.length) → Q (.int (n : Int)) H'
theorem ok_count {f fS fG C : Addr} {fd fdS fdG : FuncData} {T1 : V} (F : FunD K "count_maps" "count_maps" (defArgs sCount) (defBody sCount) (defScope sCount) [T1] [] f fd) (T : StT K mg C)
    (GS : FnOk P w K mg base CX0 4 fS fdS ["lot", "groups", "known", "most"] spSR) (kS : PySem.W.keepIn K (.ref fS) = true) (bS : Binds K fdS ["lot", "groups", "known", "most"] []) (mS : mg "small_rows" = some (.ref fS))
    (GG : FnOk P w K mg base CX0 2 fG fdG ["self"] (spGrps C)) (hG : Meth K C "groups" fG) (bG : Binds K fdG ["self"] []) {tR : Tok} (mM : mg "MOST_ROWS" = some (.int 1000 tR)) (ml : mg "len" = none) :
    FnOk P w K mg base CX0 5 f fd ["lot", "store", "known"] (spCount C) := by
  refine F.ok scCt (fun vs H Q E h => ?_) (fun cdv A outer s H vs Q E hr h => ?_)
  · obtain ⟨q, st, kv, ps, xs, kn, cs, vs, rfl, _⟩ := h
    rfl
  · obtain ⟨q, st, kv, ps, xs, kn, cs, vs, rfl, T', kk⟩ := h
    have hr2 : Room 2 _ := hr.mono (by decide)
    refine ⟨_, PSs.nox (pss_cons (ps_set (i := 3) scCt.nd rfl (Or.inl rfl) (pe_ifExp (pt_cmpR op_isN (pv 2) pe_non (nomark _)) pe_dnewK (pv 2)))
      (pss_cons (ps_set (i := 4) scCt.nd rfl (Or.inl rfl) (pe_call GS hr (by rfl) mS kS bS .nil pass0 (pa_cons (pv 0) (pa_cons (pe_meth0 (pv 1) T.cl hG GG hr2 bG .nil pass0) (pa_cons (pv 3) (pa_cons (pe_glob (v := .int 1000) (by rfl) mM ⟨_, rfl⟩) pa_nil))))))
      (pss_cons (ps_if (pt_cmpR op_notN (pv 4) pe_non (nomark _)) (pss_one (ps_ret (pe_callB call_len_seq (by rfl) ml (by decide +kernel) (pa_cons (pe_ix (ix_tupK (K := K) rfl) (pv 4) pe_int (fun _ _ => rfl)) pa_nil)))) pss_nil) pss_never))), ?_⟩
    refine ⟨_, rfl, rfl, _, rfl, ?_⟩
    refine known_or2 (kn := kn) rfl T'.hk fun d H1 s1 hd => ?_
    have T1 := T'.same s1
    obtain ⟨⟨dx, t, dh, gv, ha, _⟩, _⟩ := id T1.hs
    refine ⟨_, rfl, _, rfl, st, dx, _, rfl, ha, rfl, st, xs, rfl, T1.hs, fun x m => ⟨(T1.S.ok.each x m).1, by have := (T1.S.ok.each x m).2; omega⟩, T1.S.ok.few, fun g gs H2 k2 hs2 hg2 => ?_⟩
    have T2 := T1.keep k2 hs2
    have hd2 : MapAt H2 d kn := k2 _ _ hd (fun z => by rw [z] at hd; rw [show H1 st = some (.dK (kd kn)) from hd] at ha; cases ha)
    refine ⟨_, rfl, q, g, d, ps, xs, gs, kn, cs, vs, 1000, rfl, T2.hq, T2.hps, T2.few, hg2, hs2.tx, T2.S, hd2, by decide, fun t2 d2 l Pl rows Ps H3 s3 ht hd3 hl tr pl ok or => ?_⟩
    refine ⟨_, rfl, rfl, _, rfl, ifT (by rw [isNone_ref]; rfl) ?_⟩
    refine ⟨_, rfl, t2, _, _, .ref l, rfl, rfl, SqT.of ht, rfl, l, _, rfl, .inl (SqL.of hl), ?_⟩
    rw [show (refs rows).length = rows.length from List.length_map _]
    refine kk rows.length H3 (fun b o e nb => s3 _ _ (k2 _ _ (s1 _ _ e) nb)) (hs2.same s3) fun ms hms => ?_
    rcases or with ⟨e, nf⟩ | ⟨pmP, ro⟩
    · rw [(OrdF.none nf).one hms |>.symm, e]
      rfl
    · have := ord_len T'.nk ro pl (hms.perm pmP.symm)
      rw [← this]
      exact (List.length_map _).symm
end
end L2.Rws
set_option Elab.async false
set_option linter.all false
set_option maxRecDepth 100000
set_option maxHeartbeats 4000000
/-! min of a list of data. -/
namespace L2.MinD
open PySem PySem.Spec PyProof.Rows L2.NSet PySem.W
section
variable {prog : Program} {w : World} {A : Around} {R : Result → Shared → Prop}
/-- < of the items, while what stood at the call stands -/
def Less (prog : Program) (w : World) (A : Around) (G : Heap) (its : Array Value) (bt : Nat → Nat → Bool) : Prop :=
  ∀ i j x y (s : Shared) (Q : Value → Shared → Prop) (E : Value → Shared → Prop), (∀ b o, G.get? b = some o → s.heap.get? b = some o) → its[i]? = some x → its[j]? = some y → Q (.bool (bt i j)) s → wpAny (model prog w) A (richCompare .Lt x y) Q E s
abbrev bestAt (h : Heap) (S : Addr) (v : Value) : Prop := ∃ c, h.get? S = some { cls := .type "list", dict := none, data := .seq #[v, v] c, slots := #[] }
theorem turns {G : Heap} {its : Array Value} {l I S : Addr} {bt : Nat → Nat → Bool} (hh : A.in1.handled = none) (lI : l ≠ I) (SI : S ≠ I) (Sl : S ≠ l) (gS : G.get? S = none) (gI : G.get? I = none) (less : Less prog w A.in1 G its bt) :
    ∀ (k j : Nat) (s : Shared) (v : Value), its.size = j + 1 + k → s.heap.IsListIter I l (j + 1) ∧ s.heap.IsList l its → its[argBest bt j]? = some v → bestAt s.heap S v → (∀ b o, G.get? b = some o → s.heap.get? b = some o) →
      (∀ v h' tk, its[argBest bt (its.size - 1)]? = some v → (∀ b o, G.get? b = some o → h'.get? b = some o) → R (.ok (.ret v)) { s with heap := h', toks := tk }) →
      codeAny (model prog w) A (.builtin "min.loop" ⟨[.ref I, .none, .ref S], []⟩) R s := by
  have W := Walks.list (prog := prog) (w := w) (A := A.in1) hh I l lI its
  have ne : ∀ {b : Addr} {o : Obj} {h : Heap}, G.get? b = some o → b ≠ S ∧ b ∉ [I] := fun e => ⟨fun z => (by rw [z, gS] at e; cases e), fun m => (by rw [List.mem_singleton.mp m, gI] at e; cases e)⟩
  have SI' : S ∉ [I] := fun m => SI (List.mem_singleton.mp m)
  intro k
  induction k with
  | zero =>
    intro j s v hn st hv ⟨c, hS⟩ kp fin
    refine codeAny_builtin F.entry_min_loop ?_
    rw [Around.under_plainId F.plain_min_loop _]
    show wpAny _ A.in1 (seqItems? (.ref S) >>= _) _ _ s
    refine wpAny_bind (wpAny_seqItems hS rfl ?_)
    show wpAny _ A.in1 (tryCatch (pyNext (.ref I)) _ >>= _) _ _ s
    have st' : s.heap.IsListIter I l its.size ∧ s.heap.IsList l its := by rw [hn]; exact st
    refine wpAny_bind (wpAny_tryCatch (W.done s _ _ st' fun h' tk hk => ?_))
    have hS' := hk S _ SI' hS
    show wpAny _ A.in1 (updateSeq S (fun _ => #[]) >>= _) _ _ _
    refine wpAny_bind (wpAny_updateSeq hS' rfl (wpAny_bind (wpAny_letGo (wpAny_pure ?_))))
    refine fin v _ tk (by rw [hn]; exact hv) fun b o e => ?_
    obtain ⟨n1, n2⟩ := ne (h := s.heap) e
    exact (Heap.get?_update_other _ _ (Ne.symm n1)).trans (hk b o n2 (kp b o e))
  | succ k ih =>
    intro j s v hn st hv ⟨c, hS⟩ kp fin
    refine codeAny_builtin F.entry_min_loop ?_
    rw [Around.under_plainId F.plain_min_loop _]
    show wpAny _ A.in1 (seqItems? (.ref S) >>= _) _ _ s
    refine wpAny_bind (wpAny_seqItems hS rfl ?_)
    show wpAny _ A.in1 (tryCatch (pyNext (.ref I)) _ >>= _) _ _ s
    refine wpAny_bind (wpAny_tryCatch (W.item (j + 1) s _ _ (by omega) st fun x h' tk hx st' hk => ?_))
    have hS' := hk S _ SI' hS
    have kp' : ∀ b o, G.get? b = some o → h'.get? b = some o := fun b o e => hk b o (ne (h := s.heap) e).2 (kp b o e)
    show wpAny _ A.in1 (tryCatch (holding [x, x] (richCompare .Lt x v >>= _)) _ >>= _) _ _ _
    refine wpAny_bind (wpAny_tryCatch (wpAny_holding (wpAny_bind (less (j + 1) (argBest bt j) x v _ _ _ kp' hx hv ?_))))
    refine wpAny_bind (wpAny_holding (wpAny_truthy_bool ?_))
    refine wpAny_bind (wpAny_letGo (wpAny_pure ?_))
    have name : (toString "min" ++ toString ".loop" : String) = "min.loop" := by decide
    have go : ∀ (h2 : Heap) (t2 : Nat) (y : Value), its[argBest bt (j + 1)]? = some y → h2.IsListIter I l (j + 1 + 1) ∧ h2.IsList l its → bestAt h2 S y → (∀ b o, G.get? b = some o → h2.get? b = some o) →
        codeAny (model prog w) A (.builtin "min.loop" ⟨[.ref I, .none, .ref S], []⟩) R { s with heap := h2, toks := t2 } := fun h2 t2 y hy st2 b2 kp2 => ih (j + 1) { s with heap := h2, toks := t2 } y (by omega) st2 hy b2 kp2 fun v h3 t3 => fin v h3 t3
    cases hb : bt (j + 1) (argBest bt j) with
    | true =>
      simp only [if_true]
      refine wpAny_bind (wpAny_updateSeq hS' rfl (wpAny_bind (wpAny_letGo ?_)))
      rw [name]
      refine wpAny_pure ⟨plainId_quiet F.plain_min_loop _, go _ _ x (by simp only [argBest, hb, if_true]; exact hx) (W.frame _ _ _ st' fun b hm o e => ?_) ⟨_, Heap.get?_update_self _ hS' rfl⟩ fun b o e => ?_⟩
      · refine (Heap.get?_update_other _ _ fun z : S = b => ?_).trans e
        subst z
        simp only [List.mem_cons, List.not_mem_nil, or_false] at hm
        exact hm.elim SI Sl
      · exact (Heap.get?_update_other _ _ (Ne.symm (ne (h := s.heap) e).1)).trans (kp' b o e)
    | false =>
      simp only [Bool.false_eq_true, if_false]
      refine wpAny_bind (wpAny_letGo ?_)
      rw [name]
      exact wpAny_pure ⟨plainId_quiet F.plain_min_loop _, go _ _ v (by simp only [argBest, hb, Bool.false_eq_true, if_false]; exact hv) st' ⟨c, hS'⟩ kp'⟩
end
section
variable {prog : Program} {w : World} {A : Around} {E : Value → Shared → Prop} {s : Shared}
theorem min_any {l : Addr} {its : Array Value} {bt : Nat → Nat → Bool} {Q : Value → Shared → Prop} (hh : A.handled = none) (hl : s.heap.IsList l its) (pos : 0 < its.size) (less : Less prog w A.in1 s.heap its bt)
    (h : ∀ v h' tk, its[argBest bt (its.size - 1)]? = some v → (∀ b o, s.heap.get? b = some o → h'.get? b = some o) → Q v { s with heap := h', toks := tk }) : wpAny (model prog w) A (call (.builtin "min") [.ref l]) Q E s := by
  have name : (toString "min" ++ toString ".loop" : String) = "min.loop" := by decide
  have ll : l < s.heap.objs.size := let ⟨_, e, _⟩ := hl; Heap.lt_size e
  refine call_function_tree F.kind_min F.plain_min F.entry_min (F.args_min1 _) ?_
  show wpAny _ A.in1 (Builtin.Builtins.bindParams "min" ["key", "default"] 0 ⟨[], []⟩ >>= _) _ _ s
  refine wpAny_bind (wpAny_of_eq (show Builtin.Builtins.bindParams "min" ["key", "default"] 0 ⟨[], []⟩ = pure [none, none] from rfl) (wpAny_bind (wpAny_pure ?_)))
  refine wpAny_bind (wpAny_pyIter_list hl (wpAny_bind (wpAny_newObj_type ?_)))
  rw [name]
  have sz : (s.heap.push { cls := .type "list_iterator", data := .fields #[.ref l, .int 0 0] }).objs.size = s.heap.objs.size + 1 := Heap.size_push ..
  have i0 : (s.heap.push { cls := .type "list_iterator", data := .fields #[.ref l, .int 0 0] }).IsListIter s.heap.objs.size l 0 := ⟨_, Heap.get?_push_size _ rfl, rfl, rfl⟩
  generalize hG : s.heap.push { cls := .type "list_iterator", data := .fields #[.ref l, .int 0 0] } = h1 at sz i0 ⊢
  have k1 : ∀ b o, s.heap.get? b = some o → h1.get? b = some o := fun b o e => by rw [← hG]; exact Heap.get?_push_of_some _ e
  have hS : (h1.push { cls := .type "list", data := .seq #[] }).get? h1.objs.size = some _ := Heap.get?_push_size _ rfl
  have k2 : ∀ b o, h1.get? b = some o → (h1.push { cls := .type "list", data := .seq #[] }).get? b = some o := fun b o e => Heap.get?_push_of_some _ e
  refine wpAny_pure ⟨plainId_quiet F.plain_min_loop _, ?_⟩
  rw [sz] at hS ⊢
  have lI : l ≠ s.heap.objs.size := Nat.ne_of_lt ll
  have SI : s.heap.objs.size + 1 ≠ s.heap.objs.size := Nat.succ_ne_self _
  have Sl : s.heap.objs.size + 1 ≠ l := Nat.ne_of_gt (Nat.lt_succ_of_lt ll)
  have gS : s.heap.get? (s.heap.objs.size + 1) = none := Heap.get?_none_of_le (Nat.le_succ _)
  have gI : s.heap.get? s.heap.objs.size = none := Heap.get?_none_of_le (Nat.le_refl _)
  have W := Walks.list (prog := prog) (w := w) (A := A.in1) hh s.heap.objs.size l lI its
  have SI' : s.heap.objs.size + 1 ∉ [s.heap.objs.size] := fun m => SI (List.mem_singleton.mp m)
  refine codeAny_builtin F.entry_min_loop ?_
  rw [Around.under_plainId F.plain_min_loop _]
  show wpAny _ A.in1 (seqItems? (.ref (s.heap.objs.size + 1)) >>= _) _ _ _
  refine wpAny_bind (wpAny_seqItems hS rfl ?_)
  show wpAny _ A.in1 (tryCatch (pyNext (.ref s.heap.objs.size)) _ >>= _) _ _ _
  refine wpAny_bind (wpAny_tryCatch (W.item 0 _ _ _ pos ⟨i0.at fun o e => k2 _ o e, hl.at fun o e => k2 _ _ (k1 _ o e)⟩ fun x h' tk hx st' hk => ?_))
  have hS' := hk _ _ SI' hS
  have kp' : ∀ b o, s.heap.get? b = some o → h'.get? b = some o := fun b o e => hk b o (fun m => by rw [List.mem_singleton.mp m, gI] at e; cases e) (k2 _ _ (k1 _ _ e))
  show wpAny _ A.in1 (updateSeq (s.heap.objs.size + 1) (fun _ => #[x, x]) >>= _) _ _ _
  refine wpAny_bind (wpAny_updateSeq hS' rfl ?_)
  rw [name]
  refine wpAny_pure ⟨plainId_quiet F.plain_min_loop _, turns (A := A) (G := s.heap) (its := its) (l := l) (bt := bt) hh lI SI Sl gS gI less (its.size - 1) 0 _ x (by omega) (W.frame _ _ _ st' fun b hm o e => ?_) hx ⟨_, Heap.get?_update_self _ hS' rfl⟩ (fun b o e => ?_) fun v h2 tk2 hv kp2 => h v h2 tk2 hv kp2⟩
  · refine (Heap.get?_update_other _ _ fun z : s.heap.objs.size + 1 = b => ?_).trans e
    subst z
    simp only [List.mem_cons, List.not_mem_nil, or_false] at hm
    exact hm.elim SI Sl
  · exact (Heap.get?_update_other _ _ fun z : s.heap.objs.size + 1 = b => by rw [← z, gS] at e; cases e).trans (kp' b o e)
end
end L2.MinD
set_option Elab.async false
set_option linter.all false
set_option maxRecDepth 100000
set_option maxHeartbeats 4000000
/-! min of a list of data, as a rule. -/
namespace L2.MinD
open PySem PySem.Spec PyProof.Rows L2.NSet PySem.W
theorem dataLt_irr (x : PyData) : dataLt x x = false := lex_irrefl (O := itemOrd) _
theorem dataLt_tr {x y z : PyData} (h : dataLt x y = true) (g : dataLt y z = true) : dataLt x z = true := lex_trans (O := itemOrd) _ _ _ h g
theorem best_le (d : Nat → PyData) : ∀ k, argBest (fun i j => dataLt (d i) (d j)) k ≤ k ∧ ∀ j, j ≤ k → dataLt (d j) (d (argBest (fun i j => dataLt (d i) (d j)) k)) = false
  | 0 => ⟨Nat.le_refl _, fun j h => by
    have : j = 0 := by omega
    subst this
    exact dataLt_irr _⟩
  | k + 1 => by
    obtain ⟨h1, h2⟩ := best_le d k
    by_cases e : dataLt (d (k + 1)) (d (argBest (fun i j => dataLt (d i) (d j)) k)) = true
    · have ee : argBest (fun i j => dataLt (d i) (d j)) (k + 1) = k + 1 := by simp only [argBest, e, if_true]
      rw [ee]
      refine ⟨Nat.le_refl _, fun j hj => ?_⟩
      by_cases q : j = k + 1
      · rw [q]; exact dataLt_irr _
      · cases h : dataLt (d j) (d (k + 1)) with
        | false => rfl
        | true =>
          have := dataLt_tr h e
          rw [h2 j (by omega)] at this
          cases this
    · have ee : argBest (fun i j => dataLt (d i) (d j)) (k + 1) = argBest (fun i j => dataLt (d i) (d j)) k := by simp only [argBest, e]; simp
      rw [ee]
      refine ⟨Nat.le_succ_of_le h1, fun j hj => ?_⟩
      by_cases q : j = k + 1
      · rw [q]; exact Bool.eq_false_iff.mpr e
      · exact h2 j (by omega)
theorem each_at {α : Type} {R : Value → α → Prop} : ∀ {vs : List Value} {xs : List α}, EachIs R vs xs → ∀ {i : Nat} {v : Value}, vs[i]? = some v → ∃ x, xs[i]? = some x ∧ R v x
  | _, _, .nil, i, v, e => by simp at e
  | _, _, .cons r t, 0, v, e => by
    have : _ = v := Option.some.inj e
    subst this
    exact ⟨_, rfl, r⟩
  | _, _, .cons r t, i + 1, v, e => by
    obtain ⟨x, h1, h2⟩ := each_at t (i := i) (v := v) (by simpa using e)
    exact ⟨x, by simpa using h1, h2⟩
section
variable {X : Cx}
def rMinD (K : PySem.W.Frag) : List V → Hp → VK → Prop := fun vs H Q => ∃ (a : Addr) (xs : List (V × PyData)), vs = [V.ref a] ∧ SqL K H a (xs.map Prod.fst) ∧ (∀ x ∈ xs, Dp K H x.1 x.2) ∧ (∀ x ∈ xs, ∀ y ∈ xs, alike x.2 y.2 = true) ∧ (∀ x ∈ xs, x.2 ≠ .none ∧ x.2.depth ≤ 20) ∧ xs ≠ [] ∧
  ∀ x ∈ xs, (∀ y ∈ xs, dataLt y.2 x.2 = false) → Q x.1 H
theorem cr_minD (hc : X.calm = true) (hu : X.A.units + 64 < cLine) : CallR X (.builtin "min") (rMinD X.K) := by
  intro pins s σ H vs us Q I r h
  obtain ⟨a, xs, rfl, ha, hd, hal, dp, ne, q⟩ := h
  rw [Vals.ref1 r]
  obtain ⟨its, rv, pl, _⟩ := I.list ha
  have er := each_reads I hd rv
  have len : its.length = xs.length := by rw [← rv.length, List.length_map]
  have pos : 0 < xs.length := List.length_pos_iff.mpr ne
  have dAt : ∀ (i : Nat) (x : V × PyData), xs[i]? = some x → (xs.map Prod.snd).getD i .none = x.2 := fun i x e => by
    rw [List.getD_eq_getElem?_getD, List.getElem?_map, e]
    rfl
  refine min_any (bt := fun i j => dataLt ((xs.map Prod.snd).getD i .none) ((xs.map Prod.snd).getD j .none)) (I.ok.hd hc) pl.isList (by simpa [len] using pos) (fun i j x y s2 Q2 E2 kp hx hy hq => ?_) fun v h' tk hv kp => ?_
  · obtain ⟨b, hb, as, r1⟩ := each_at er (i := i) (v := x) (by simpa using hx)
    obtain ⟨b', hb', as', r2⟩ := each_at er (i := j) (v := y) (by simpa using hy)
    replace hq : Q2 (.bool (dataLt ((xs.map Prod.snd).getD i .none) ((xs.map Prod.snd).getD j .none))) s2 := hq
    rw [dAt i b hb, dAt j b' hb'] at hq
    have m1 := List.mem_of_getElem? hb
    have m2 := List.mem_of_getElem? hb'
    refine rcLt_alike b.2 b'.2 X.A.in1 s2 x y as as' (PyProof.Rows.Reads.keeps kp r1) (PyProof.Rows.Reads.keeps kp r2) (hal b m1 b' m2) (dp b m1).1 ?_ X.prog X.w E2 Q2 hq
    have h1 := (dp b m1).2
    have h2 : X.A.in1.units ≤ X.A.units + 2 := by
      show X.A.in1.units ≤ _
      first
        | exact Nat.le_add_right _ _
        | (simp [Around.in1]; try omega)
    omega
  · obtain ⟨b1, b2⟩ := best_le (fun i => (xs.map Prod.snd).getD i .none) (its.toArray.size - 1)
    obtain ⟨x, hx⟩ : ∃ x, xs[argBest (fun i j => dataLt ((xs.map Prod.snd).getD i .none) ((xs.map Prod.snd).getD j .none)) (its.toArray.size - 1)]? = some x := by
      refine ⟨_, List.getElem?_eq_getElem ?_⟩
      simp only [List.size_toArray, len] at b1 ⊢
      omega
    have hv' : its[argBest (fun i j => dataLt ((xs.map Prod.snd).getD i .none) ((xs.map Prod.snd).getD j .none)) (its.toArray.size - 1)]? = some v := by simpa using hv
    obtain ⟨u, hu1, ru⟩ := rv.get (i := argBest (fun i j => dataLt ((xs.map Prod.snd).getD i .none) ((xs.map Prod.snd).getD j .none)) (its.toArray.size - 1)) (x := x.1) (by rw [List.getElem?_map, hx]; rfl)
    rw [hv'] at hu1
    have : v = u := Option.some.inj hu1
    subst this
    refine ⟨x.1, H, I.kept (t' := tk) kp, ru, q x (List.mem_of_getElem? hx) fun y my => ?_⟩
    obtain ⟨j, hj⟩ := List.getElem?_of_mem my
    have lj : j < xs.length := (List.getElem?_eq_some_iff.mp hj).1
    have := b2 j (by simp only [List.size_toArray, len]; omega)
    rw [dAt j y hj, dAt _ x hx] at this
    exact this
end
end L2.MinD
set_option Elab.async false
set_option linter.all false
set_option maxRecDepth 100000
set_option maxHeartbeats 4000000
/-! first_match, first_map. -/
namespace L2.Rws
open PySem PySem.Spec PyProof.Rows L2.LawH L2.SetT L2.Frz L2.NSet L2.GenL PySem.W
open L2.TxtDict (Prs2 kd)
abbrev sFst : Stmt := top 61
abbrev sFMap : Stmt := top 62
theorem head_min {kn : Prs2} {names : List Str} {vals : List Tm} {v : Tm} (m : v ∈ vals) (least : ∀ y ∈ vals, dataLt (facT y) (facT v) = false) : ((vals.mergeSort (dataLe false facT)).map (cOf kn names)).head? = some (cOf kn names v) := by
  have r : Rise facT (vals.mergeSort (dataLe false facT)) := rise_sort _
  have pm := List.mergeSort_perm vals (dataLe false facT)
  have m' : v ∈ vals.mergeSort (dataLe false facT) := pm.mem_iff.mpr m
  generalize vals.mergeSort (dataLe false facT) = l at r pm m' ⊢
  cases l with
  | nil => cases m'
  | cons h t =>
    have e : h = v := by
      rcases List.mem_cons.mp m' with e | m'
      · exact e.symm
      · have h1 : (!PyProof.Rows.lexLt itemOrd (keyToks (facT v)) (keyToks (facT h))) = true := (List.pairwise_cons.mp r).1 v m'
        have h2 : PyProof.Rows.lexLt itemOrd (keyToks (facT h)) (keyToks (facT v)) = false := least h (pm.mem_iff.mp List.mem_cons_self)
        rw [Bool.not_eq_true'] at h1
        have := lex_total (O := itemOrd) _ _ h2 h1
        rw [toks_facT, toks_facT] at this
        exact tv_inj this
    rw [e]
    rfl
/-- no row: nothing fits -/
theorem rows_none {kn : Prs2} {G : Tm → Prop} {Ps : List Tm} (h : RowsAt kn G Ps []) : NoFit kn G Ps := fun μ hμ all => by
  have := (h.mem (Ps.flatten.map μ)).mpr ⟨μ, hμ, all, rfl⟩
  cases this
structure TellG (H : Hp) (q g : Addr) (kv : V) (ps xs : List Tx) (gs : List Grp) (kn : Prs2) (cs vs : List Str) : Prop where
  hq : H q = some (.lst (refs ps)) ∨ H q = some (.tup (refs ps))
  hps : ∀ p ∈ ps, PtR H p.1 p.2 ∧ PatOk kn vs p.2
  few : ps.length ≤ 20
  hg : GrpAt H g xs gs
  hxs : TxsAt H xs
  S : Sit xs kn cs vs
  hk : (kv = .non ∧ kn = []) ∨ ∃ k, kv = .ref k ∧ MapAt H k kn
  nk : (kn.map Prod.fst).Nodup
  k10 : kn.length ≤ 10
/-- the first of the maps -/
def FstM (kn : Prs2) (G : Tm → Prop) (Ps : List Tm) (m : Prs2) : Prop := (∀ ms, OrdF kn G Ps ms → ms.head? = some m) ∧ m.length ≤ 20
def spFst : Sp := fun us H Q _ => ∃ (q g : Addr) (kv : V) (ps xs : List Tx) (gs : List Grp) (kn : Prs2) (cs vs : List Str), us = [.ref q, .ref g, kv] ∧ TellG H q g kv ps xs gs kn cs vs ∧
  (NoFit kn (GOf xs) (ps.map (·.2)) → ∀ H', Same H H' → Q .non H') ∧
  ∀ (d : Addr) (m : Prs2) (H' : Hp), Same H H' → H d = none → MapAt H' d m → FstM kn (GOf xs) (ps.map (·.2)) m → Q (.ref d) H'
section
variable {P : Program} {w : World} {K : PySem.W.Frag} {mg : Str → Option Value} {base : Heap}
abbrev nFst : List Str := ["lot", "groups", "known", "start", "small", "tables", "found", "places", "rows", "names", "spots", "name", "row"]
theorem scFst : FnScope nFst ["lot", "groups", "known"] (defScope sFst) := ⟨rfl, rfl, rfl, by decide +kernel, rfl, by decide +kernel, by decide +kernel⟩
theorem ok_fst {f fS fP fJ : Addr} {fd fdS fdP fdJ : FuncData} (F : Fun K "first_match" "first_match" sFst f fd)
    (GS : FnOk P w K mg base CX0 4 fS fdS ["lot", "groups", "known", "most"] spSR) (kS : PySem.W.keepIn K (.ref fS) = true) (bS : Binds K fdS ["lot", "groups", "known", "most"] []) (mS : mg "small_rows" = some (.ref fS))
    (GP : FnOk P w K mg base CX0 1 fP fdP ["row", "places"] spPick) (kP : PySem.W.keepIn K (.ref fP) = true) (bP : Binds K fdP ["row", "places"] []) (mP : mg "picked" = some (.ref fP))
    (GJ : FnOk P w K mg base CX0 1 fJ fdJ ["one", "other"] spJoin) (kJ : PySem.W.keepIn K (.ref fJ) = true) (bJ : Binds K fdJ ["one", "other"] []) (mJ : mg "joined" = some (.ref fJ))
    {tW : Tok} (mF : mg "FEW_ROWS" = some (.int 200 tW)) (ms : mg "sorted" = none) (md : mg "dict" = none) (mz : mg "zip" = none) (mm : mg "min" = none) : FnOk P w K mg base CX0 5 f fd ["lot", "groups", "known"] spFst := by
  refine F.ok scFst (fun vs H Q E h => ?_) (fun cdv A outer s H vs Q E hr h => ?_)
  · obtain ⟨q, g, kv, ps, xs, gs, kn, cs, vs, rfl, _⟩ := h
    rfl
  · obtain ⟨q, g, kv, ps, xs, gs, kn, cs, vs, rfl, T, bad, good⟩ := h
    have hu1 := hu_of hr
    have hu := hr.units
    have hr1 : Room 1 _ := hr.mono (by decide)
    refine ⟨_, pss_cons (ps_set (i := 3) scFst.nd rfl (Or.inl rfl) (pe_ifExp (pt_cmpR op_isN (pv 2) pe_non (nomark _)) pe_dnewK (pv 2)))
      (pss_cons (ps_set (i := 4) scFst.nd rfl (Or.inl rfl) (pe_call GS hr (by rfl) mS kS bS .nil pass0 (pa_cons (pv 0) (pa_cons (pv 1) (pa_cons (pv 3) (pa_cons (pe_glob (v := .int 200) (by rfl) mF ⟨_, rfl⟩) pa_nil))))))
      (pss_cons (ps_if (pt_cmpR op_isN (pv 4) pe_non (nomark _)) pss_never pss_nil)
      (pss_cons (ps_asg (pv 4) (pg_tup (by rfl) (pgs_cons (pg_name (i := 7) scFst.nd rfl (Or.inr rfl)) (pgs_cons (pg_name (i := 8) scFst.nd rfl (Or.inl rfl)) pgs_nil))))
      (pss_cons (ps_if (pt_not (pt_truth (pv 8) (by intro _; rfl))) (pss_one (ps_ret pe_non)) pss_nil)
      (pss_cons (ps_set (i := 9) scFst.nd rfl (Or.inl rfl) (pe_callB (call_sortedD rfl) (by rfl) ms (by decide +kernel) (pa_cons (pv 7) pa_nil)))
      (pss_cons (ps_set (i := 10) scFst.nd rfl (Or.inr rfl) (pe_lc (own := [("name", 11)]) (g := gName 11) (tt := tYes) rfl scFst.nd (pi_list (pv 9)) (blkOk_by (own := [("name", 11)]) (N := nFst) (sc := defScope sFst) (by decide +kernel)) (fun _ _ _ _ _ => pg_name (i := 11) scFst.nd rfl (Or.inl rfl)) (fun _ _ _ _ _ => pts_nil)
        (fun _ _ _ _ _ => pe_dget hu1 (pv 7) (pv 11) (fun _ _ => rfl))))
      (pss_one (ps_ret (pe_call GJ hr1 (by rfl) mJ kJ bJ .nil pass0 (pa_cons (pv 3) (pa_cons (L2.ZipD.pe_dictZip (K := K) rfl rfl (by rfl) md (by decide +kernel) (by rfl) mz (pa_cons (pv 9) (pa_cons (pe_callB (L2.MinD.cr_minD rfl hu) (by rfl) mm (by decide +kernel) (pa_cons
        (pe_lc (own := [("row", 12)]) (g := gName 12) (tt := tYes) rfl scFst.nd (pi_list (pv 8)) (blkOk_by (own := [("row", 12)]) (N := nFst) (sc := defScope sFst) (by decide +kernel)) (fun _ _ _ _ _ => pg_name (i := 12) scFst.nd rfl (Or.inl rfl)) (fun _ _ _ _ _ => pts_nil)
          (fun _ _ _ _ _ => pe_call GP hr1 (by rfl) mP kP bP .nil pass0 (pa_cons (pv 12) (pa_cons (pv 10) pa_nil)))) pa_nil)) pa_nil))) pa_nil))))))))))), ?_⟩
    refine ⟨_, rfl, rfl, _, rfl, ?_⟩
    refine known_or2 (kn := kn) rfl T.hk fun k H0 s0 hk => ?_
    refine ⟨_, rfl, _, rfl, _, rfl, q, g, k, ps, xs, gs, kn, cs, vs, 200, rfl, T.hq.imp (s0 _ _) (s0 _ _), fun p m => ⟨(T.hps p m).1.same s0, (T.hps p m).2⟩, T.few, T.hg.same s0, T.hxs.same s0, T.S, hk, Nat.le_refl _, fun t d l Pl rows Ps H1 s1 ht hd hl tr pl ok or => ?_⟩
    refine ⟨_, rfl, rfl, _, rfl, ifF (isNone_ref _) ?_⟩
    refine ⟨_, rfl, t, _, rfl, SqT.of ht, rfl, _, _, rfl, _, _, rfl, rfl, ?_⟩
    refine ⟨_, rfl, _, .inl ⟨_, SqL.of hl, rfl⟩, ite2 (fun e => ?_) (fun e => ?_)⟩
    · have e0 : rows = [] := by
        cases rows with
        | nil => rfl
        | cons a r => simp [refs] at e
      subst e0
      refine bad ?_ H1 (s0.trans s1)
      rcases or with ⟨_, nf⟩ | ⟨pmP, ro⟩
      · exact nf
      · exact fun μ hμ all => rows_none ro μ hμ fun P m => all P (pmP.mem_iff.mp m)
    have ne : rows ≠ [] := fun z => by
      apply e
      rw [z]
      rfl
    obtain ⟨pmP, ro⟩ : Ps.Perm (ps.map (·.2)) ∧ RowsAt kn (GOf xs) Ps (tms rows) := by
      rcases or with ⟨e0, _⟩ | r
      · exact absurd e0 ne
      · exact r
    have v3 : ∀ z ∈ Pl.map Prod.fst, z ∈ vs := fun z m => by
      obtain ⟨q', mq, rfl⟩ := List.mem_map.mp m
      obtain ⟨a1, a2⟩ := pl.at_ q' mq
      obtain ⟨W, mW, mz'⟩ := List.mem_flatten.mp (List.mem_of_getElem? a1)
      exact (ok W mW).2 _ mz' a2
    have l3 : Pl.length ≤ 3 := by
      have := nodup_len pl.nd v3
      have := T.S.v3
      rw [List.length_map] at *
      omega
    refine ⟨_, rfl, d, kdI Pl, Pl.map Prod.fst, rfl, .inl hd, ?_, by rw [List.length_map]; omega, fun names ln pmN as nln => ?_⟩
    · unfold kdI
      rw [List.map_map, List.map_map]
      rfl
    have nm : NmAt kn Ps.flatten names := pl.names (asc_all as) pmN
    have sub : ∀ z ∈ names, z ∈ Pl.map Prod.fst := fun z m => pmN.mem_iff.mp m
    have ln3 : names.length ≤ 3 := by rw [pmN.length_eq, List.length_map]; omega
    have s2 : Same H1 (upd H1 ln (.lst (names.map V.str))) := same_new nln
    have c2 : (upd H1 ln (.lst (names.map V.str))) ln = some (.lst (names.map V.str)) := upd_same
    generalize upd H1 ln (.lst (names.map V.str)) = H2 at s2 c2 ⊢
    refine ⟨_, rfl, ln, rfl, ⟨_, SqL.of c2⟩, fun D nD => ?_⟩
    refine lc_sift (ms := names) (val := V.str) (L2.walk_list (K := K)) (List.length_map _) (fun _ => true) (fun z => V.int (spotOf Pl z : Int)) nD (by omega) (fun H' s' => SqL.of (s' _ _ c2)) (fun z mz H3 Yes No s3 yes no => ?_) (fun H3 s3 hL => ?_)
    · obtain ⟨q', ef, _, _, es⟩ := spot_find (sub z mz)
      refine ⟨rfl, ?_⟩
      dsimp only [tYes]
      rw [if_pos rfl]
      refine ⟨_, rfl, _, rfl, d, .int (spotOf Pl z : Int), rfl, .inl ⟨kdI Pl, Sum.inr z, .inl (s3 _ _ (s2 _ _ hd)), rfl, ?_⟩, yes _ (Same.refl _) rfl⟩
      rw [val_kdI, ef, es]
      rfl
    rw [List.filter_eq_self.mpr (fun _ _ => rfl)] at hL
    have eL : (names.map fun z => V.int (spotOf Pl z : Int)) = (names.map (spotOf Pl)).map fun n : Nat => V.int (n : Int) := by rw [List.map_map]; rfl
    rw [eL] at hL
    generalize hsp : names.map (spotOf Pl) = spots at hL
    have lsp : spots.length ≤ 3 := by rw [← hsp, List.length_map]; exact ln3
    have s13 := s2.trans s3
    have R64 : rows.length ≤ 64 := by
      have := rows_few T.S.small ro (fun Q m => (ok Q m).1.hd) (fun Q m => (ok Q m).2)
      rwa [show (tms rows).length = rows.length from List.length_map _] at this
    have Rlt : ∀ x ∈ rows, ∀ n ∈ spots, n < x.2.length := fun x mx n mn => by
      rw [← hsp] at mn
      obtain ⟨z, mz, rfl⟩ := List.mem_map.mp mn
      rw [ro.len _ (List.mem_map_of_mem mx)]
      exact spot_lt pl (sub z mz)
    refine ⟨_, rfl, _, rfl, _, rfl, l, rfl, ⟨_, SqL.of (s13 _ _ hl)⟩, fun D2 nD2 => ?_⟩
    refine lc_new (ms := rows) (val := fun x : Tx => V.ref x.1) (L2.walk_list (K := K)) (List.length_map _) (fun x => .tup ((pickR spots x.2).map V.str)) nD2 (by omega) (fun H' s' => SqL.of (s' _ _ (s13 _ _ hl))) (fun x mx H4 Yes s4 yes => ?_) (fun zs H4 s4 hL2 e0 has => ?_)
    · refine ⟨rfl, ?_⟩
      refine ⟨_, rfl, _, rfl, x.1, D, x.2, spots, rfl, s4 _ _ (s13 _ _ (tr x mx)), s4 _ _ hL, Rlt x mx, by omega, fun t' H5 s5 nt ht' => yes t' H5 s5 nt ht'⟩
    refine ⟨D2, zs.map fun z => (V.ref z.1, facT (pickR spots z.2.2)), rfl, SqL.of (by rw [hL2, List.map_map]; rfl), fun y my => ?_, fun y my y' my' => ?_, fun y my => ?_, fun z => ?_, fun y my least => ?_⟩
    · obtain ⟨z, mz, rfl⟩ := List.mem_map.mp my
      exact dp_facT (SqT.of (has z mz).1)
    · obtain ⟨z, mz, rfl⟩ := List.mem_map.mp my
      obtain ⟨z', mz', rfl⟩ := List.mem_map.mp my'
      show PySem.W.alike (facT _) (facT _) = true
      unfold facT
      rw [PySem.W.alike]
      exact alike_texts _ _
    · obtain ⟨z, mz, rfl⟩ := List.mem_map.mp my
      refine ⟨fun e => (nomatch e), ?_⟩
      show (facT _).depth ≤ 20
      unfold facT
      rw [PyData.depth, ddepth_texts]
      decide
    · apply ne
      rw [← e0, List.map_eq_nil_iff.mp z]
      rfl
    obtain ⟨z, mz, rfl⟩ := List.mem_map.mp my
    have hz := (has z mz).1
    have lpick : (pickR spots z.2.2).length = names.length := by unfold pickR; rw [List.length_map, ← hsp, List.length_map]
    refine ⟨ln, z.1, names, pickR spots z.2.2, rfl, SqL.of (s4 _ _ (s3 _ _ c2)), SqT.of hz, lpick.symm, by omega, fun q' nq => ?_⟩
    have ezip : ((names.zip (pickR spots z.2.2)).map Prod.fst) = names := by rw [List.map_fst_zip (by rw [lpick]; exact Nat.le_refl _)]
    rw [mer_self (by rw [ezip]; exact nm.nd)]
    have s5 : Same H4 (upd H4 q' (.dK (kd (names.zip (pickR spots z.2.2))))) := same_new nq
    have c5 : (upd H4 q' (.dK (kd (names.zip (pickR spots z.2.2))))) q' = some (.dK (kd (names.zip (pickR spots z.2.2)))) := upd_same
    generalize upd H4 q' (.dK (kd (names.zip (pickR spots z.2.2)))) = H5 at s5 c5 ⊢
    have s15 := s1.trans (s13.trans (s4.trans s5))
    have lzip : (names.zip (pickR spots z.2.2)).length ≤ 3 := by
      rw [List.length_zip]
      exact Nat.le_trans (Nat.min_le_left _ _) ln3
    refine ⟨k, q', kn, names.zip (pickR spots z.2.2), rfl, hk.same s15, by have := T.k10; omega, c5, by omega, fun H6 dd s6 nd hd6 => ?_⟩
    refine good dd (cOf kn names (pickR spots z.2.2)) H6 (s0.trans (s15.trans s6)) (none_of (s0.trans s15) nd) hd6 ⟨fun ms hms => ?_, ?_⟩
    · rw [← (ord_rows T.nk ro pl nm sub).one (hms.perm pmP.symm), hsp]
      refine head_min ?_ fun y my => ?_
      · refine List.mem_map.mpr ⟨z.2.2, List.mem_map_of_mem ?_, rfl⟩
        rw [← e0]
        exact List.mem_map_of_mem mz
      · obtain ⟨r', mr, rfl⟩ := List.mem_map.mp my
        obtain ⟨x, mx, rfl⟩ := List.mem_map.mp mr
        rw [← e0] at mx
        obtain ⟨z', mz', rfl⟩ := List.mem_map.mp mx
        exact least (V.ref z'.1, facT (pickR spots z'.2.2)) (List.mem_map.mpr ⟨z', mz', rfl⟩)
    · unfold cOf
      rw [canon_len]
      have h1 := both_len kn (names.zip (pickR spots z.2.2))
      have := T.k10
      omega
end
end L2.Rws
set_option Elab.async false
set_option linter.all false
set_option maxRecDepth 100000
set_option maxHeartbeats 4000000
/-! first_map. -/
namespace L2.Rws
open PySem PySem.Spec PyProof.Rows L2.LawH L2.SetT L2.Frz L2.NSet L2.GenL PySem.W
open L2.TxtDict (Prs2 kd)
def spFMap (C : Addr) : Sp := fun us H Q _ => ∃ (q st : Addr) (kv : V) (ps xs : List Tx) (kn : Prs2) (cs vs : List Str), us = [.ref q, .ref st, kv] ∧ TellS C H q st kv ps xs kn cs vs ∧
  (NoFit kn (GOf xs) (ps.map (·.2)) → ∀ H', Keep st H H' → StG C H' st xs → Q .non H') ∧
  ∀ (d : Addr) (m : Prs2) (H' : Hp), Keep st H H' → StG C H' st xs → H d = none → MapAt H' d m → FstM kn (GOf xs) (ps.map (·.2)) m → Q (.ref d) H'
section
variable {P : Program} {w : World} {K : PySem.W.Frag} {mg : Str → Option Value} {base : Heap}
theorem scFp : FnScope ["lot", "store", "known"] ["lot", "store", "known"] (defScope sFMap) := ⟨rfl, rfl, rfl, by decide +kernel, rfl, by decide +kernel, by decide +kernel⟩
theorem ok_fmap {f fF fG C : Addr} {fd fdF fdG : FuncData} {T1 : V} (F : FunD K "first_map" "first_map" (defArgs sFMap) (defBody sFMap) (defScope sFMap) [T1] [] f fd) (T : StT K mg C)
    (GF : FnOk P w K mg base CX0 5 fF fdF ["lot", "groups", "known"] spFst) (kF : PySem.W.keepIn K (.ref fF) = true) (bF : Binds K fdF ["lot", "groups", "known"] []) (mF : mg "first_match" = some (.ref fF))
    (GG : FnOk P w K mg base CX0 2 fG fdG ["self"] (spGrps C)) (hG : Meth K C "groups" fG) (bG : Binds K fdG ["self"] []) : FnOk P w K mg base CX0 6 f fd ["lot", "store", "known"] (spFMap C) := by
  refine F.ok scFp (fun vs H Q E h => ?_) (fun cdv A outer s H vs Q E hr h => ?_)
  · obtain ⟨q, st, kv, ps, xs, kn, cs, vs, rfl, _⟩ := h
    rfl
  · obtain ⟨q, st, kv, ps, xs, kn, cs, vs, rfl, T', bad, good⟩ := h
    have hr2 : Room 2 _ := hr.mono (by decide)
    refine ⟨_, PSs.nox (pss_one (ps_ret (pe_call GF hr (by rfl) mF kF bF .nil pass0 (pa_cons (pv 0) (pa_cons (pe_meth0 (pv 1) T.cl hG GG hr2 bG .nil pass0) (pa_cons (pv 2) pa_nil)))))), ?_⟩
    obtain ⟨⟨dx, t, dh, gv, ha, _⟩, _⟩ := id T'.hs
    refine ⟨_, rfl, _, rfl, st, dx, _, rfl, ha, rfl, st, xs, rfl, T'.hs, fun x m => ⟨(T'.S.ok.each x m).1, by have := (T'.S.ok.each x m).2; omega⟩, T'.S.ok.few, fun g gs H2 k2 hs2 hg2 => ?_⟩
    have T2 := T'.keep k2 hs2
    refine ⟨_, rfl, q, g, kv, ps, xs, gs, kn, cs, vs, rfl, ⟨T2.hq, T2.hps, T2.few, hg2, hs2.tx, T2.S, T2.hk, T2.nk, T2.k10⟩, fun nf H3 s3 => bad nf H3 (fun b o e nb => s3 _ _ (k2 _ _ e nb)) (hs2.same s3), fun d m H3 s3 nd hd f => good d m H3 (fun b o e nb => s3 _ _ (k2 _ _ e nb)) (hs2.same s3) (none_ofK T'.hs (Same.refl _) k2 hs2 nd) hd f⟩
end
end L2.Rws
set_option Elab.async false
set_option linter.all false
set_option maxRecDepth 100000
set_option maxHeartbeats 4000000
/-! _law_pattern, _law_lot once more: the tuples keep their own nature. -/
namespace L2.LawH
open PySem PySem.Spec PyProof.Rows L2.Cmp L2.TxtSet
/-- a pattern that keeps its nature -/
def FzAt (H : Hp) (x : Pt) : Prop := ∃ o : Obj, o.dict = none ∧ H x.1 = some (.frz o (.tup (.str x.2.1 :: x.2.2.map V.str)))
def spPatF : Sp := fun vs H Q _ => ∃ (a p q : Addr) (c : Int) (m : Nat) (sh : Int) (π : Pool) (W : List Str), vs = [.ref a, .ref p, .ref q, .int sh] ∧ SrcAt H a c (m + 20) ∧ PoolAt a H p π ∧ VarsAt a H q W ∧
  ∀ (t : Addr) (T : Str) (zs : List Str) (o : Obj) (H' : Hp), PatOf π W T zs → o.dict = none → H' t = some (.frz o (.tup (.str T :: zs.map V.str))) → t ≠ a → SrcAt H' a c m → Keep a H H' → Q (.ref t) H'
structure LotF (a : Addr) (π : Pool) (W : List Str) (H : Hp) (q : Addr) (xs : List Pt) : Prop where
  sq : H q = some (.lst (xs.map fun x => V.ref x.1))
  each : ∀ x ∈ xs, FzAt H x
  pat : ∀ x ∈ xs, PatOf π W x.2.1 x.2.2
  nq : q ≠ a
  nx : ∀ x ∈ xs, x.1 ≠ a
theorem LotF.keep {a : Addr} {π : Pool} {W : List Str} {H H' : Hp} {q : Addr} {xs : List Pt} (h : LotF a π W H q xs) (k : Keep a H H') : LotF a π W H' q xs :=
  ⟨k _ _ h.sq h.nq, fun x m => (h.each x m).elim fun o e => ⟨o, e.1, k _ _ e.2 (h.nx x m)⟩, h.pat, h.nq, h.nx⟩
def spLotF : Sp := fun vs H Q _ => ∃ (a p q : Addr) (c : Int) (m n : Nat) (π : Pool) (W : List Str), vs = [.ref a, .ref p, .ref q, .int n] ∧ n ≤ 100 ∧ SrcAt H a c (m + 20 * n + 1) ∧ PoolAt a H p π ∧ VarsAt a H q W ∧
  ∀ (t : Addr) (xs : List Pt) (H' : Hp), LotF a π W H' t xs → xs.length ≤ n → SrcAt H' a c m → Keep a H H' → Q (.ref t) H'
section
variable {P : Program} {w : World} {K : PySem.W.Frag} {mg : Str → Option Value} {base : Heap}
theorem ok_patF {f fD fT : Addr} {fd fdD fdT : FuncData} (F : Fun K "_law_pattern" "_law_pattern" sPat f fd)
    (GD : FnOk P w K mg base CX0 1 fD fdD ["_law_source_here", "_law_limit"] spDraw) (kD : PySem.W.keepIn K (.ref fD) = true) (bD : Binds K fdD ["_law_source_here", "_law_limit"] []) (mD : mg "_law_draw" = some (.ref fD))
    (GT : FnOk P w K mg base CX0 2 fT fdT nTerm spTerm) (kT : PySem.W.keepIn K (.ref fT) = true) (bT : Binds K fdT nTerm []) (mT : mg "_law_term" = some (.ref fT))
    (ml : mg "len" = none) (mr : mg "range" = none) (mt : mg "tuple" = none) : FnOk P w K mg base CX0 3 f fd nTerm spPatF := by
  refine F.ok scPt (fun vs H Q E h => ?_) (fun cdv A outer s H vs Q E hr h => ?_)
  · obtain ⟨a, p, q, c, m, sh, π, W, rfl, _⟩ := h
    rfl
  · obtain ⟨a, p, q, c, m, sh, π, W, rfl, hs, hp, hv, k⟩ := h
    have hr1 : Room 1 _ := hr.mono (by decide)
    refine ⟨_, pss_cons (ps_asg (pe_ix ix_list (pe_ix ix_list (pv 1) pe_int (fun _ _ => rfl)) (pe_call GD hr1 (by rfl) mD kD bD .nil pass0 (pa_cons (pv 0) (pa_cons (pe_callB call_len_seq (by rfl) ml (by decide +kernel) (pa_cons (pe_ix ix_list (pv 1) pe_int (fun _ _ => rfl)) pa_nil)) pa_nil))) (fun _ _ => rfl))
        (pg_tup (by rfl) (pgs_cons (pg_name (i := 4) scPt.nd rfl (Or.inl rfl)) (pgs_cons (pg_name (i := 5) scPt.nd rfl (Or.inl rfl)) pgs_nil))))
      (pss_one (ps_ret (pe_callTy (L2.Frz.call_tuple_frzK (K := K) rfl) (by rfl) mt (by decide +kernel) (pa_cons (pe_op op_cat (pe_lst (pa_cons (pv 4) pa_nil))
        (pe_lc (own := [("_law_k", 6)]) (g := gName 6) (tt := tYes) rfl scPt.nd (pi_range1 (by rfl) mr (pa_cons (pv 5) pa_nil))
          (blkOk_by (own := [("_law_k", 6)]) (N := nPat) (sc := defScope sPat) (by decide +kernel)) (fun _ _ _ _ _ => pg_name (i := 6) scPt.nd rfl (Or.inl rfl)) (fun _ _ _ _ _ => pts_nil)
          (fun _ _ _ _ _ => pe_call GT hr (by rfl) mT kT bT .nil pass0 (pa_cons (pv 0) (pa_cons (pv 1) (pa_cons (pv 2) (pa_cons (pv 3) pa_nil))))))) pa_nil)))), ?_⟩
    have lR : (π.rows.map fun x => V.ref x.1).length = π.rows.length := List.length_map _
    refine ⟨_, rfl, p, _, 0, _, rfl, rfl, SqL.of hp.hp, rfl, _, rfl, _, rfl, p, _, 0, _, rfl, rfl, SqL.of hp.hp, rfl, π.r, _, rfl, .inl (SqL.of hp.hr), ?_⟩
    refine ⟨a, c, m + 19, _, rfl, hs, by rw [lR]; have := hp.rows1; omega, by rw [lR]; have := hp.rows9; omega, fun r H1 r0 r1 s1 k1 => ?_⟩
    obtain ⟨j, rfl⟩ : ∃ j : Nat, r = j := ⟨r.toNat, by omega⟩
    rw [lR] at r1
    have hj : j < π.rows.length := by omega
    have hp1 := hp.keep k1
    have hv1 := hv.keep k1
    have hx : (π.rows.map fun x => V.ref x.1)[j]? = some (.ref π.rows[j].1) := by
      rw [List.getElem?_map, List.getElem?_eq_getElem hj]
      rfl
    have mx : π.rows[j] ∈ π.rows := List.getElem_mem hj
    obtain ⟨t1, nT, n3, nx⟩ := hp1.hrow _ mx
    refine ⟨π.r, _, _, _, rfl, rfl, SqL.of hp1.hr, atI_nat hx, _, _, rfl, SqT.of t1, rfl, _, _, rfl, _, _, rfl, rfl, ?_⟩
    -- tuple([table] + [..])
    refine ⟨_, rfl, (by show 1 ≤ sizeLine; decide), fun pA nA => ?_⟩
    have uA := same_new (o := .lst [V.str π.rows[j].2.1]) nA
    have zA := s1.ne nA
    refine ⟨_, rfl, _, rfl, by omega, by omega, fun D nD => ?_⟩
    have sA := s1.same uA
    have zD := sA.ne nD
    rw [Int.toNat_natCast]
    refine lc_range (lo := 0) (n := π.rows[j].2.2) (fun i H5 => ∃ zs : List Str, zs.length = i ∧ (∀ z ∈ zs, z ∈ π.C ∨ z ∈ W) ∧ H5 D = some (.lst (zs.map V.str)) ∧ SrcAt H5 a c (m + 19 - 3 * i) ∧ Keep a H H5 ∧ H5 pA = some (.lst [V.str π.rows[j].2.1]))
      ⟨[], rfl, fun _ z => (by cases z), upd_same, sA.same (same_new nD), (k1.trans (Keep.of uA)).trans (Keep.of (same_new nD)), (same_new nD) _ _ upd_same⟩ ?_ ?_
    · rintro i H5 hi ⟨zs, lz, hz, hD, s5, k5, a5⟩
      refine ⟨rfl, ?_⟩
      dsimp only [tYes]
      rw [if_pos rfl]
      have s5' : SrcAt H5 a c (m + 19 - 3 * (i + 1) + 3) := s5.mono (by omega)
      refine ⟨_, rfl, _, rfl, _, rfl, _, rfl, a, p, q, c, m + 19 - 3 * (i + 1), sh, π, W, rfl, s5', hp.keep k5, hv.keep k5, fun z H6 hz6 s6 k6 => ?_⟩
      refine ⟨_, k6 _ _ hD zD, ?_, zs ++ [z], by simp [lz], fun y hy => ?_, by rw [upd_same]; simp, ?_, ?_, ?_⟩
      · rw [List.length_map, lz, sizeLine_eq]
        omega
      · rcases List.mem_append.mp hy with hy | hy
        · exact hz y hy
        · have e : y = z := by simpa using hy
          rw [e]
          exact hz6
      · obtain ⟨d, nn, e, g⟩ := s6
        exact ⟨d, nn, by rw [upd_ne zD.symm]; exact e, g⟩
      · intro b o e nb
        have hb : b ≠ D := ne_of_none ((k1.trans (Keep.of uA)) b o e nb) nD
        rw [upd_ne hb]
        exact (k5.trans k6) b o e nb
      · have aD : pA ≠ D := ne_of_none (upd_same (H := H1) (o := .lst [V.str π.rows[j].2.1])) nD
        rw [upd_ne aD]
        exact k6 _ _ a5 zA
    · rintro H5 ⟨zs, lz, hz, hD, s5, k5, a5⟩
      refine ⟨pA, D, _, _, rfl, rfl, a5, hD, ?_, fun pL nL => ?_⟩
      · rw [List.length_map, lz, sizeLine_eq]
        show 1 + _ ≤ _
        omega
      have uL := same_new (o := .lst ([V.str π.rows[j].2.1] ++ zs.map V.str)) nL
      refine ⟨pL, _, rfl, SqL.of upd_same, fun pt o npt od oc => ?_⟩
      have ut := same_new (o := .frz o (.tup ([V.str π.rows[j].2.1] ++ zs.map V.str))) npt
      have s6 := (s5.same uL).same ut
      exact k pt _ zs o _ ⟨⟨_, mx, rfl, lz⟩, hz⟩ od upd_same ((s5.same uL).ne npt) (s6.mono (by omega)) ((k5.trans (Keep.of uL)).trans (Keep.of ut))
theorem ok_lotF {f fD fP : Addr} {fd fdD fdP : FuncData} (F : Fun K "_law_lot" "_law_lot" sLot7 f fd)
    (GD : FnOk P w K mg base CX0 1 fD fdD ["_law_source_here", "_law_limit"] spDraw) (kD : PySem.W.keepIn K (.ref fD) = true) (bD : Binds K fdD ["_law_source_here", "_law_limit"] []) (mD : mg "_law_draw" = some (.ref fD))
    (GP : FnOk P w K mg base CX0 3 fP fdP nTerm spPatF) (kP : PySem.W.keepIn K (.ref fP) = true) (bP : Binds K fdP nTerm []) (mP : mg "_law_pattern" = some (.ref fP)) (mr : mg "range" = none) :
    FnOk P w K mg base CX0 4 f fd pLot spLotF := by
  refine F.ok scLt (fun vs H Q E h => ?_) (fun cdv A outer s H vs Q E hr h => ?_)
  · obtain ⟨a, p, q, c, m, n, π, W, rfl, _⟩ := h
    rfl
  · obtain ⟨a, p, q, c, m, n, π, W, rfl, hn, hs, hp, hv, k⟩ := h
    have hr1 : Room 1 _ := hr.mono (by decide)
    have hr3 : Room 3 _ := hr.mono (by decide)
    refine ⟨_, pss_one (ps_ret (pe_lc (own := [("_law_k", 4)]) (g := gName 4) (tt := tYes) rfl scLt.nd (pi_range1 (by rfl) mr (pa_cons (pe_call GD hr1 (by rfl) mD kD bD .nil pass0 (pa_cons (pv 0) (pa_cons (pe_op op_add (pv 3) pe_int) pa_nil))) pa_nil))
      (blkOk_by (own := [("_law_k", 4)]) (N := nLot) (sc := defScope sLot7) (by decide +kernel)) (fun _ _ _ _ _ => pg_name (i := 4) scLt.nd rfl (Or.inl rfl)) (fun _ _ _ _ _ => pts_nil)
      (fun _ _ _ _ _ => pe_call GP hr3 (by rfl) mP kP bP .nil pass0 (pa_cons (pv 0) (pa_cons (pv 1) (pa_cons (pv 2) (pa_cons pe_int pa_nil))))))), ?_⟩
    refine ⟨_, rfl, _, rfl, _, _, rfl, rfl, a, c, m + 20 * n, _, rfl, hs, by omega, by omega, fun r H1 r0 r1 s1 k1 => ?_⟩
    obtain ⟨j, rfl⟩ : ∃ j : Nat, r = j := ⟨r.toNat, by omega⟩
    refine ⟨_, rfl, by omega, by omega, fun D nD => ?_⟩
    rw [Int.toNat_natCast]
    have hj : j ≤ n := by omega
    have zD := s1.ne nD
    refine lc_range (lo := 0) (n := j) (fun i H5 => ∃ xs : List Pt, xs.length = i ∧ H5 D = some (.lst (xs.map fun x => V.ref x.1)) ∧ (∀ x ∈ xs, FzAt H5 x ∧ PatOf π W x.2.1 x.2.2 ∧ x.1 ≠ a ∧ x.1 ≠ D) ∧ SrcAt H5 a c (m + 20 * (n - i)) ∧ Keep a H H5)
      ⟨[], rfl, upd_same, fun _ z => (by cases z), (s1.same (same_new nD)).mono (by omega), k1.trans (Keep.of (same_new nD))⟩ ?_ ?_
    · rintro i H5 hi ⟨xs, lx, hD, hx, s5, k5⟩
      refine ⟨rfl, ?_⟩
      dsimp only [tYes]
      rw [if_pos rfl]
      have s5' : SrcAt H5 a c (m + 20 * (n - (i + 1)) + 20) := s5.mono (by omega)
      refine ⟨_, rfl, _, rfl, _, rfl, a, p, q, c, m + 20 * (n - (i + 1)), 4, π, W, rfl, s5', hp.keep k5, hv.keep k5, fun t T zs o H6 pt od ht ta s6 k6 => ?_⟩
      have hD6 := k6 _ _ hD zD
      have tD : t ≠ D := fun e => by
        rw [e, hD6] at ht
        cases ht
      refine ⟨_, hD6, ?_, xs ++ [(t, T, zs)], by simp [lx], by rw [upd_same]; simp, fun y hy => ?_, ?_, ?_⟩
      · rw [List.length_map, lx, sizeLine_eq]
        omega
      · rcases List.mem_append.mp hy with hy | hy
        · obtain ⟨h1, h2, h3, h4⟩ := hx y hy
          exact ⟨h1.elim fun o e => ⟨o, e.1, by rw [upd_ne h4]; exact k6 _ _ e.2 h3⟩, h2, h3, h4⟩
        · have e : y = (t, T, zs) := by simpa using hy
          rw [e]
          exact ⟨⟨o, od, by rw [upd_ne tD]; exact ht⟩, pt, ta, tD⟩
      · obtain ⟨d, nn, e, g⟩ := s6
        exact ⟨d, nn, by rw [upd_ne zD.symm]; exact e, g⟩
      · intro b o e nb
        have hb : b ≠ D := ne_of_none (k1 b o e nb) nD
        rw [upd_ne hb]
        exact (k5.trans k6) b o e nb
    · rintro H5 ⟨xs, lx, hD, hx, s5, k5⟩
      exact k D xs H5 ⟨hD, fun x m => (hx x m).1, fun x m => (hx x m).2.1, zD, fun x m => (hx x m).2.2.1⟩ (by omega) (s5.mono (by omega)) k5
end
end L2.LawH
set_option Elab.async false
set_option linter.all false
set_option maxRecDepth 100000
set_option maxHeartbeats 4000000
/-! _law_known. -/
namespace L2.LawH
open PySem PySem.Spec PyProof.Rows L2.Cmp L2.TxtSet
open L2.TxtDict (Prs2 kd)
abbrev sKn : Stmt := top 80
/-- a drawn map of variables -/
structure KnOf (π : Pool) (kn : Prs2) : Prop where
  asc : (kn.map Prod.fst).Pairwise fun a b => a.cps.toList ≤ b.cps.toList
  nd : (kn.map Prod.fst).Nodup
  few : kn.length ≤ 4
  key : ∀ p ∈ kn, p.1 ∈ π.W
  val : ∀ p ∈ kn, p.2 ∈ π.C
def spKn : Sp := fun us H Q _ => ∃ (a p : Addr) (c : Int) (m : Nat) (π : Pool), us = [.ref a, .ref p] ∧ SrcAt H a c (m + 9) ∧ PoolAt a H p π ∧
  (∀ H', SrcAt H' a c m → Keep a H H' → Q .non H') ∧ ∀ (d : Addr) (kn : Prs2) (H' : Hp), SrcAt H' a c m → Keep a H H' → H d = none → d ≠ a → MapAt H' d kn → KnOf π kn → Q (.ref d) H'
theorem cutV_to (xs : List V) (k : Nat) : cutV xs none (some (k : Int)) = xs.take k := by
  unfold cutV
  rw [HT.sIx_nat, HT.sIx_none]
  simp
  try omega
section
variable {P : Program} {w : World} {K : PySem.W.Frag} {mg : Str → Option Value} {base : Heap}
abbrev nKn : List Str := ["_law_source_here", "_law_pool_here", "_law_found", "_law_variable"]
theorem scKn : FnScope nKn ["_law_source_here", "_law_pool_here"] (defScope sKn) := ⟨rfl, rfl, rfl, by decide +kernel, rfl, by decide +kernel, by decide +kernel⟩
theorem ok_kn {f fD : Addr} {fd fdD : FuncData} (F : Fun K "_law_known" "_law_known" sKn f fd)
    (GD : FnOk P w K mg base CX0 1 fD fdD ["_law_source_here", "_law_limit"] spDraw) (kD : PySem.W.keepIn K (.ref fD) = true) (bD : Binds K fdD ["_law_source_here", "_law_limit"] []) (mD : mg "_law_draw" = some (.ref fD))
    (ml : mg "len" = none) (ms : mg "sorted" = none) : FnOk P w K mg base CX0 2 f fd ["_law_source_here", "_law_pool_here"] spKn := by
  refine F.ok scKn (fun vs H Q E h => ?_) (fun cdv A outer s H vs Q E hr h => ?_)
  · obtain ⟨a, p, c, m, π, rfl, _⟩ := h
    rfl
  · obtain ⟨a, p, c, m, π, rfl, hs, hp, bad, good⟩ := h
    have hu1 := hu_of hr
    refine ⟨_, pss_cons (ps_if (pt_cmpR op_eq (pe_call GD hr (by rfl) mD kD bD .nil pass0 (pa_cons (pv 0) (pa_cons pe_int pa_nil))) pe_int (nomark _)) (pss_one (ps_ret pe_non)) pss_nil)
      (pss_cons (ps_set (i := 2) scKn.nd rfl (Or.inl rfl) pe_dnewK)
      (pss_cons (ps_for PassesOwn.never rfl (pi_list (pe_callB cr_sortedS (by rfl) ms (by decide +kernel) (pa_cons (pe_slice sl_list (pe_ix ix_list (pv 1) pe_int (fun _ _ => rfl)) po_none (po_some pe_int)) pa_nil))) (pg_name (i := 3) scKn.nd rfl (Or.inl rfl))
        (pss_one (ps_if (pt_cmpR op_eq (pe_call GD hr (by rfl) mD kD bD .nil pass0 (pa_cons (pv 0) (pa_cons pe_int pa_nil))) pe_int (nomark _))
          (pss_one (ps_dput hu1 (pv 2) (pv 3) (pe_ix ix_list (pe_ix ix_list (pv 1) pe_int (fun _ _ => rfl)) (pe_call GD hr (by rfl) mD kD bD .nil pass0 (pa_cons (pv 0) (pa_cons (pe_callB call_len_seq (by rfl) ml (by decide +kernel) (pa_cons (pe_ix ix_list (pv 1) pe_int (fun _ _ => rfl)) pa_nil)) pa_nil))) (fun _ _ => rfl)) (by rfl))) pss_nil)))
      (pss_one (ps_ret (pv 2))))), ?_⟩
    refine ⟨_, rfl, a, c, m + 8, 2, rfl, hs, by decide, by decide, fun r H1 r0 r1 s1 k1 => ?_⟩
    refine ⟨rfl, _, rfl, ite2 (fun e => bad H1 (s1.mono (by omega)) k1) (fun e => ?_)⟩
    intro d nd
    have sd : SrcAt (upd H1 d (.dK [])) a c (m + 8) := s1.same (same_new nd)
    have kd1 : Keep a H1 (upd H1 d (.dK [])) := Keep.of (same_new nd)
    have cd : (upd H1 d (.dK [])) d = some (.dK []) := upd_same
    have da : a ≠ d := (s1.ne nd).symm
    generalize upd H1 d (.dK []) = H2 at sd kd1 cd ⊢
    have hp2 := (hp.keep k1).keep kd1
    refine ⟨_, rfl, p, _, 2, _, rfl, rfl, SqL.of hp2.hp, rfl, 4, rfl, π.vs, _, rfl, SqL.of hp2.hv, fun l nl => ?_⟩
    have eW : cutV (π.W.map V.str) none (some 4) = (π.W.take 4).map V.str := by
      rw [show (some (4 : Int)) = some ((4 : Nat) : Int) from rfl, cutV_to, List.map_take]
    rw [eW]
    have s3 : Same H2 (upd H2 l (.lst ((π.W.take 4).map V.str))) := same_new nl
    have c3 : (upd H2 l (.lst ((π.W.take 4).map V.str))) l = some (.lst ((π.W.take 4).map V.str)) := upd_same
    generalize upd H2 l (.lst ((π.W.take 4).map V.str)) = H3 at s3 c3 ⊢
    refine ⟨l, π.W.take 4, rfl, SqL.of c3, by rw [List.length_take]; omega, fun ys o pm as no => ?_⟩
    have s4 : Same H3 (upd H3 o (.lst (ys.map V.str))) := same_new no
    have c4 : (upd H3 o (.lst (ys.map V.str))) o = some (.lst (ys.map V.str)) := upd_same
    generalize upd H3 o (.lst (ys.map V.str)) = H4 at s4 c4 ⊢
    have yW : ∀ z ∈ ys, z ∈ π.W := fun z m => List.mem_of_mem_take (pm.mem_iff.mp m)
    have yl : ys.length ≤ 4 := by rw [pm.length_eq, List.length_take]; omega
    have pw := asc_all as
    have k14 : Keep a H H4 := ((k1.trans kd1).trans (Keep.of s3)).trans (Keep.of s4)
    have s24 := s3.trans s4
    have no2 : H2 o = none := none_of s3 no
    have oa : o ≠ a := sd.ne no2
    have od : o ≠ d := fun z => by rw [z, cd] at no2; cases no2
    refine ⟨o, rfl, ⟨_, SqL.of c4⟩, for_it (L2.walk_list (K := K)) (fun i σ H5 => ∃ (v3 : Option V) (kn : Prs2), σ = [some (.ref a), some (.ref p), some (.ref d), v3] ∧ H5 d = some (.dK (kd kn)) ∧ H5 o = some (.lst (ys.map V.str)) ∧
        (kn.map Prod.fst).Pairwise (fun a b => a.cps.toList ≤ b.cps.toList) ∧ (kn.map Prod.fst).Nodup ∧ kn.length ≤ i ∧ (∀ q ∈ kn, q.1 ∈ ys.take i ∧ q.2 ∈ π.C) ∧ SrcAt H5 a c (m + 2 * (4 - i)) ∧ Keep a H H5)
      ⟨none, [], rfl, s24 _ _ cd, c4, List.Pairwise.nil, List.nodup_nil, Nat.le_refl _, fun q mq => (nomatch mq), (sd.same s24).mono (by omega), k14⟩ (fun i σ H5 _ pp => let ⟨_, _, _, _, e, _⟩ := pp; SqL.of e) (fun i z σ H5 H6 hi pp yy => ?_) (fun σ H5 pp => ?_)⟩
    · obtain ⟨v3, kn, rfl, hd, ho, ac, ndk, lk, mk, s5, k5⟩ := pp
      obtain ⟨rfl, hz⟩ := yy
      rw [List.getElem?_map] at hz
      obtain ⟨y, hy, rfl⟩ := Option.map_eq_some_iff.mp hz
      have my := List.mem_of_getElem? hy
      have li : i < 4 := by
        have := (List.getElem?_eq_some_iff.mp hy).1
        omega
      have s5' : SrcAt H6 a c (m + 2 * (4 - (i + 1)) + 1 + 1) := s5.mono (by omega)
      refine ⟨_, rfl, a, c, _, 3, rfl, s5', by decide, by decide, fun r2 H7 r20 r21 s6 k6 => ?_⟩
      have hd7 := k6 _ _ hd (Ne.symm da)
      have ho7 := k6 _ _ ho oa
      have hp7 := hp.keep (k5.trans k6)
      have tk : ys.take (i + 1) = ys.take i ++ [y] := by rw [List.take_succ, hy]; rfl
      refine ⟨rfl, _, rfl, ite2 (fun _ => ?_) (fun _ => ?_)⟩
      · refine ⟨_, rfl, p, _, 1, _, rfl, rfl, SqL.of hp7.hp, rfl, _, rfl, _, rfl, p, _, 1, _, rfl, rfl, SqL.of hp7.hp, rfl, π.cs, _, rfl, .inl (SqL.of hp7.hc), ?_⟩
        have lC : (π.C.map V.str).length = π.C.length := List.length_map _
        refine ⟨a, c, _, _, rfl, s6, by rw [lC]; have := hp.C2; omega, by rw [lC]; have := hp.C9; omega, fun r3 H8 r30 r31 s7 k7 => ?_⟩
        rw [lC] at r31
        obtain ⟨j, rfl⟩ : ∃ j : Nat, r3 = j := ⟨r3.toNat, by omega⟩
        have hj : j < π.C.length := by omega
        have hd8 := k7 _ _ hd7 (Ne.symm da)
        refine ⟨π.cs, _, _, _, rfl, rfl, SqL.of (k7 _ _ hp7.hc hp7.nc), atI_nat (strs_get hj), ?_⟩
        have l1 : (kd kn).length < sizeLine := by
          rw [TxtDict.kd_len, sizeLine_eq]
          omega
        refine ⟨_, rfl, _, rfl, d, _, rfl, DPut.k (k := Sum.inr y) hd8 l1, ?_⟩
        refine ⟨_, putP kn y π.C[j], rfl, by rw [upd_same, kd_put], by rw [upd_ne od]; exact k7 _ _ ho7 oa, ?_, nd_put ndk _ _, ?_, fun q mq => ?_, ?_, ?_⟩
        · rw [keys_put]
          split
          · exact ac
          · refine List.pairwise_append.mpr ⟨ac, List.pairwise_singleton _ _, fun u mu v mv => ?_⟩
            rw [List.mem_singleton.mp mv]
            obtain ⟨q, mq, rfl⟩ := List.mem_map.mp mu
            have := (mk q mq).1
            have pw2 : (ys.take i ++ [y]).Pairwise fun a b => a.cps.toList ≤ b.cps.toList := by rw [← tk]; exact pw.sublist (List.take_sublist _ _)
            exact (List.pairwise_append.mp pw2).2.2 _ this _ (List.mem_singleton_self _)
        · have := len_put kn y π.C[j]
          omega
        · rw [tk]
          rcases mem_put mq with mq | e
          · exact ⟨List.mem_append_left _ (mk q mq).1, (mk q mq).2⟩
          · rw [e]
            exact ⟨List.mem_append_right _ (List.mem_singleton_self _), List.getElem_mem hj⟩
        · obtain ⟨dd, n, e, f, b⟩ := s7.mono (show m + 2 * (4 - (i + 1)) ≤ _ by omega)
          exact ⟨dd, n, by rw [upd_ne da]; exact e, f, b⟩
        · intro b o' hb nb
          have hb1 := k1 _ _ hb nb
          rw [upd_ne (ne_of_none hb1 nd)]
          exact k7 _ _ (k6 _ _ (k5 _ _ hb nb) nb) nb
      · refine ⟨_, kn, rfl, hd7, ho7, ac, ndk, by omega, fun q mq => ?_, s6.mono (by omega), k5.trans k6⟩
        rw [tk]
        exact ⟨List.mem_append_left _ (mk q mq).1, (mk q mq).2⟩
    · obtain ⟨v3, kn, rfl, hd, ho, ac, ndk, lk, mk, s5, k5⟩ := pp
      rw [List.length_map] at lk
      exact ⟨_, rfl, good d kn H5 (s5.mono (by omega)) k5 (k1.free nd s1.some) (Ne.symm da) hd ⟨ac, ndk, by omega, fun q mq => yW _ (List.mem_of_mem_take (mk q mq).1), fun q mq => (mk q mq).2⟩⟩
end
end L2.LawH
set_option Elab.async false
set_option linter.all false
set_option maxRecDepth 100000
set_option maxHeartbeats 4000000
/-! What _law_met and _law_fits tell; no Python here. -/
namespace L2.Rws
open PySem PySem.Spec PyProof.Rows L2.LawH L2.NSet
open L2.TxtDict (Prs2 kd)
/-- a pattern's terms led to a fact's, over a map -/
def metL : Prs2 → Tm → Tm → Option Prs2
  | m, [], [] => some m
  | m, z :: P, v :: f => if isV z = true ∧ look m z = none then metL (putP m z v) P f else if (look m z).getD z = v then metL m P f else none
  | _, _, _ => none
def metM (m : Prs2) (P f : Tm) : Option Prs2 := match P, f with
  | T :: P, U :: f => if T = U ∧ P.length = f.length then metL m P f else none
  | _, _ => none
/-- the keys are variables -/
def KV' (m : Prs2) : Prop := ∀ z v, look m z = some v → isV z = true
theorem metL_sound : ∀ {P f : Tm} {m m' : Prs2}, (m.map Prod.fst).Nodup → KV' m → metL m P f = some m' →
    (m'.map Prod.fst).Nodup ∧ KV' m' ∧ (∀ z v, look m z = some v → look m' z = some v) ∧ P.map (fun z => (look m' z).getD z) = f ∧ (∀ z v, look m' z = some v → look m z = some v ∨ (isV z = true ∧ z ∈ P)) ∧ (∀ z ∈ P, isV z = true → look m' z ≠ none) ∧ m'.length ≤ m.length + P.length
  | [], [], m, m', nd, kv, h => by
    have : m = m' := Option.some.inj h
    subst this
    exact ⟨nd, kv, fun _ _ e => e, rfl, fun _ _ e => .inl e, fun z m => (nomatch m), by simp⟩
  | z :: P, v :: f, m, m', nd, kv, h => by
    unfold metL at h
    by_cases c : isV z = true ∧ look m z = none
    · rw [if_pos c] at h
      have kv1 : KV' (putP m z v) := fun y u e => by
        rw [look_put] at e
        by_cases q : y = z
        · rw [q]; exact c.1
        · rw [if_neg q] at e; exact kv y u e
      obtain ⟨a1, a2, a3, a4, a5, a6, a7⟩ := metL_sound (nd_put nd z v) kv1 h
      have hz : look m' z = some v := a3 z v (by rw [look_put, if_pos rfl])
      refine ⟨a1, a2, fun y u e => a3 y u ?_, ?_, fun y u e => ?_, fun y my hy => ?_, ?_⟩
      · rw [look_put]
        by_cases q : y = z
        · rw [q, c.2] at e; cases e
        · rw [if_neg q]; exact e
      · rw [List.map_cons, a4, hz]
        rfl
      · rcases a5 y u e with e1 | ⟨e1, e2⟩
        · rw [look_put] at e1
          by_cases q : y = z
          · rw [q]; exact .inr ⟨c.1, List.mem_cons_self⟩
          · rw [if_neg q] at e1; exact .inl e1
        · exact .inr ⟨e1, List.mem_cons_of_mem _ e2⟩
      · rcases List.mem_cons.mp my with q | my
        · rw [q, hz]; exact fun e => by cases e
        · exact a6 y my hy
      · have := len_put m z v
        rw [List.length_cons]
        omega
    · rw [if_neg c] at h
      by_cases c2 : (look m z).getD z = v
      · rw [if_pos c2] at h
        obtain ⟨a1, a2, a3, a4, a5, a6, a7⟩ := metL_sound nd kv h
        have hz : (look m' z).getD z = v := by
          cases e : look m z with
          | some u =>
            rw [e] at c2
            rw [a3 z u e]
            exact c2
          | none =>
            rw [e] at c2
            have nv : isV z = false := by
              cases q : isV z with
              | false => rfl
              | true => exact absurd ⟨q, e⟩ c
            cases e' : look m' z with
            | none => exact c2
            | some u => rw [a2 z u e'] at nv; cases nv
        refine ⟨a1, a2, a3, by rw [List.map_cons, a4, hz], fun y u e => (a5 y u e).imp id fun q => ⟨q.1, List.mem_cons_of_mem _ q.2⟩, fun y my hy => ?_, by rw [List.length_cons]; omega⟩
        rcases List.mem_cons.mp my with q | my
        · subst q
          intro e
          cases e2 : look m y with
          | none => exact c ⟨hy, e2⟩
          | some u => rw [a3 y u e2] at e; cases e
        · exact a6 y my hy
      · rw [if_neg c2] at h
        cases h
  | [], _ :: _, m, m', nd, kv, h => by simp [metL] at h
  | _ :: _, [], m, m', nd, kv, h => by simp [metL] at h
theorem metL_full {ν : Str → Str} (con : ∀ z, isV z = false → ν z = z) : ∀ {P : Tm} {m : Prs2}, (∀ z v, look m z = some v → ν z = v) → ∃ m', metL m P (P.map ν) = some m' ∧ ∀ z v, look m' z = some v → ν z = v
  | [], m, h => ⟨m, rfl, h⟩
  | z :: P, m, h => by
    rw [List.map_cons]
    unfold metL
    by_cases c : isV z = true ∧ look m z = none
    · rw [if_pos c]
      refine metL_full con fun y u e => ?_
      rw [look_put] at e
      by_cases q : y = z
      · rw [if_pos q] at e
        rw [q]
        exact Option.some.inj e
      · rw [if_neg q] at e; exact h y u e
    · rw [if_neg c, if_pos]
      · exact metL_full con h
      · cases e : look m z with
        | some u => exact (h z u e).symm
        | none =>
          refine (con z ?_).symm
          cases q : isV z with
          | false => rfl
          | true => exact absurd ⟨q, e⟩ c
/-- what the law's steps hold: the maps that fit, each by its look once -/
structure Fnd (kn : Prs2) (G : Tm → Prop) (Ps : List Tm) (ms : List Prs2) : Prop where
  fit : ∀ m ∈ ms, FM kn G Ps m
  all : ∀ m, FM kn G Ps m → ∃ m' ∈ ms, canon m' = canon m
  once : (ms.map canon).Nodup
theorem FM.kv {kn : Prs2} {G : Tm → Prop} {Ps : List Tm} {m : Prs2} (hk : KnOk kn) (h : FM kn G Ps m) : KV' m := fun z v e => by
  obtain ⟨_, μ, _, _, l⟩ := h
  rw [l z] at e
  unfold lookF at e
  split at e
  · rename_i c
    exact (Bool.and_eq_true_iff.mp c.1).1
  · exact hk z v e
/-- names each once -/
def dd : List Str → List Str
  | [] => []
  | z :: r => if z ∈ dd r then dd r else z :: dd r
theorem dd_nd : ∀ l : List Str, (dd l).Nodup
  | [] => List.nodup_nil
  | z :: r => by
    unfold dd
    split
    · exact dd_nd r
    · rename_i c
      exact List.nodup_cons.mpr ⟨c, dd_nd r⟩
theorem dd_mem : ∀ (l : List Str) (z : Str), z ∈ dd l ↔ z ∈ l
  | [], z => by simp [dd]
  | y :: r, z => by
    unfold dd
    split
    · rename_i c
      rw [dd_mem r z, List.mem_cons]
      refine ⟨.inr, fun h => h.elim (fun e => ?_) id⟩
      rw [e]
      exact (dd_mem r y).mp c
    · rw [List.mem_cons, List.mem_cons, dd_mem r z]
theorem nm_of (kn : Prs2) (W : Tm) : NmAt kn W (srt (dd (W.filter (fr kn)))) :=
  ⟨srt_asc _, (srt_perm _).nodup_iff.mpr (dd_nd _), fun z => by rw [(srt_perm _).mem_iff, dd_mem, List.mem_filter, and_comm]⟩
/-- every way has its map -/
theorem fm_of {kn : Prs2} {G : Tm → Prop} {Ps : List Tm} {μ : Str → Str} (nk : (kn.map Prod.fst).Nodup) (hμ : Ext kn μ) (g : ∀ P ∈ Ps, G (P.map μ)) : ∃ m, FM kn G Ps m ∧ ∀ z, look m z = lookF kn Ps.flatten μ z :=
  have nm := nm_of kn Ps.flatten
  ⟨mapOn (kn.map Prod.fst ++ srt (dd (Ps.flatten.filter (fr kn)))) μ, ⟨by rw [on_keys]; exact nm.ws nk, μ, hμ, g, look_ws nm nk hμ⟩, look_ws nm nk hμ⟩
theorem look_of_canon {m m' : Prs2} (nd : (m.map Prod.fst).Nodup) (nd' : (m'.map Prod.fst).Nodup) (e : canon m = canon m') (z : Str) : look m z = look m' z := by
  rw [← look_canon nd, ← look_canon nd', e]
/-- a step keeps what fits -/
theorem FM.met {kn : Prs2} {G : Tm → Prop} {Ps : List Tm} {T : Str} {P f : Tm} {m m' : Prs2} (hk : KnOk kn) (hT : isV T = false) (h : FM kn G Ps m) (gf : G (T :: f)) (e : metL m P f = some m') : FM kn G (Ps ++ [T :: P]) m' ∧ ∀ z, look m' z = lookF kn (Ps ++ [T :: P]).flatten (fun z => (look m' z).getD z) z := by
  obtain ⟨nd, μ, hμ, g, l⟩ := id h
  obtain ⟨a1, a2, a3, a4, a5, a6, _⟩ := metL_sound nd (h.kv hk) e
  have ext : Ext kn fun z => (look m' z).getD z := by
    refine ⟨fun z c => ?_, fun z v c => ?_⟩
    · show (look m' z).getD z = z
      cases q : look m' z with
      | none => rfl
      | some u => rw [a2 z u q] at c; cases c
    · have lm : look m z = some v := by
        rw [l z]
        unfold lookF
        rw [if_neg, c]
        rintro ⟨q, _⟩
        unfold fr at q
        rw [c] at q
        simp at q
      show (look m' z).getD z = v
      rw [a3 z v lm]
      rfl
  have fl : (Ps ++ [T :: P]).flatten = Ps.flatten ++ T :: P := by simp
  have lk : ∀ z, look m' z = lookF kn (Ps ++ [T :: P]).flatten (fun z => (look m' z).getD z) z := fun z => by
    rw [fl]
    unfold lookF
    by_cases c : fr kn z = true ∧ z ∈ Ps.flatten ++ T :: P
    · rw [if_pos c]
      have iv := (Bool.and_eq_true_iff.mp c.1).1
      have ne : look m' z ≠ none := by
        rcases List.mem_append.mp c.2 with w | w
        · have lm : look m z = some (μ z) := by
            rw [l z]
            unfold lookF
            rw [if_pos ⟨c.1, w⟩]
          rw [a3 z _ lm]
          exact fun e => by cases e
        · rcases List.mem_cons.mp w with q | w
          · rw [q, hT] at iv; cases iv
          · exact a6 z w iv
      cases q : look m' z with
      | none => exact absurd q ne
      | some u =>
        show some u = some ((look m' z).getD z)
        rw [q]
        rfl
    · rw [if_neg c]
      have lm : look m z = look kn z := by
        rw [l z]
        unfold lookF
        rw [if_neg fun w => c ⟨w.1, List.mem_append_left _ w.2⟩]
      cases q : look m' z with
      | none =>
        cases q2 : look kn z with
        | none => rfl
        | some u => rw [a3 z u (by rw [lm, q2])] at q; cases q
      | some u =>
        rcases a5 z u q with w | ⟨w1, w2⟩
        · rw [← lm, w]
        · cases q2 : look kn z with
          | some u2 =>
            have := a3 z u2 (by rw [lm, q2])
            rw [q] at this
            exact this
          | none => exact absurd ⟨by unfold fr; rw [w1, q2]; rfl, List.mem_append_right _ (List.mem_cons_of_mem _ w2)⟩ c
  refine ⟨⟨a1, _, ext, fun R mR => ?_, lk⟩, lk⟩
  rcases List.mem_append.mp mR with mR | mR
  · rw [show R.map (fun z => (look m' z).getD z) = R.map μ from List.map_congr_left fun z mz => ?_]
    · exact g R mR
    · cases q : fr kn z with
      | false => exact ext.fixed hμ q
      | true =>
        have lm : look m z = some (μ z) := by
          rw [l z]
          unfold lookF
          rw [if_pos ⟨q, List.mem_flatten.mpr ⟨R, mR, mz⟩⟩]
        show (look m' z).getD z = μ z
        rw [a3 z _ lm]
        rfl
  · rw [List.mem_singleton.mp mR, List.map_cons, a4, show (look m' T).getD T = T from ext.con T hT]
    exact gf
/-- a step misses none -/
theorem Fnd.met {kn : Prs2} {G : Tm → Prop} {Ps : List Tm} {ms : List Prs2} {T : Str} {P : Tm} (hk : KnOk kn) (nk : (kn.map Prod.fst).Nodup) (hT : isV T = false) (h : Fnd kn G Ps ms) {m' : Prs2} (h' : FM kn G (Ps ++ [T :: P]) m') : ∃ m ∈ ms, ∃ f m'', G (T :: f) ∧ f.length = P.length ∧ metL m P f = some m'' ∧ canon m'' = canon m' := by
  obtain ⟨nd', μ, hμ, g, l'⟩ := h'
  obtain ⟨m0, fm0, l0⟩ := fm_of nk hμ fun R mR => g R (List.mem_append_left _ mR)
  obtain ⟨m, mm, ec⟩ := h.all m0 fm0
  have fm := h.fit m mm
  have lm : ∀ z, look m z = lookF kn Ps.flatten μ z := fun z => by rw [look_of_canon fm.1 fm0.1 ec, l0]
  have val : ∀ z v, look m z = some v → μ z = v := fun z v e => by
    rw [lm z] at e
    unfold lookF at e
    split at e
    · exact Option.some.inj e
    · exact hμ.old z v e
  obtain ⟨m'', e, val''⟩ := metL_full hμ.con (P := P) val
  have gf : G (T :: P.map μ) := by
    have := g (T :: P) (List.mem_append_right _ (List.mem_singleton_self _))
    rw [List.map_cons, hμ.con T hT] at this
    exact this
  refine ⟨m, mm, P.map μ, m'', gf, List.length_map _, e, ?_⟩
  obtain ⟨fm'', lk''⟩ := fm.met hk hT gf e
  refine canon_ext fm''.1 nd' fun z => ?_
  rw [l' z, lk'' z]
  unfold lookF
  by_cases c : fr kn z = true ∧ z ∈ (Ps ++ [T :: P]).flatten
  · rw [if_pos c, if_pos c]
    have := lk'' z
    unfold lookF at this
    rw [if_pos c] at this
    show some ((look m'' z).getD z) = some (μ z)
    rw [val'' z _ this]
  · rw [if_neg c, if_neg c]
theorem nd_inj {α β : Type} {f : α → β} : ∀ {l : List α}, (l.map f).Nodup → ∀ {x y : α}, x ∈ l → y ∈ l → f x = f y → x = y
  | a :: l, h, x, y, mx, my, e => by
    rw [List.map_cons, List.nodup_cons] at h
    rcases List.mem_cons.mp mx with rfl | mx' <;> rcases List.mem_cons.mp my with rfl | my'
    · rfl
    · exact absurd (by rw [e]; exact List.mem_map_of_mem my') h.1
    · exact absurd (by rw [← e]; exact List.mem_map_of_mem mx') h.1
    · exact nd_inj h.2 mx' my' e
/-- at most 64 -/
theorem Fnd.few {kn : Prs2} {G : Tm → Prop} {Ps : List Tm} {ms : List Prs2} {vs cs : List Str} (nk : (kn.map Prod.fst).Nodup) (S : Small kn G vs cs) (h0 : ∀ P ∈ Ps, ∀ z, P[0]? = some z → isV z = false) (hv : ∀ P ∈ Ps, ∀ z ∈ P, fr kn z = true → z ∈ vs) (h : Fnd kn G Ps ms) : ms.length ≤ 64 := by
  have row : ∀ m ∈ ms, ∀ μ, Ext kn μ → (∀ z, look m z = lookF kn Ps.flatten μ z) → Ps.flatten.map (fun z => (look m z).getD z) = Ps.flatten.map μ := fun m mm μ hμ l => by
    refine List.map_congr_left fun z mz => ?_
    rw [l z]
    unfold lookF
    by_cases c : fr kn z = true
    · rw [if_pos ⟨c, mz⟩]; rfl
    · rw [if_neg fun w => c w.1]
      cases q : look kn z with
      | some v => exact (hμ.old z v q).symm
      | none =>
        refine (hμ.con z ?_).symm
        cases iv : isV z with
        | false => rfl
        | true => exact absurd (by unfold fr; rw [iv, q]; rfl) c
  have ro : RowsAt kn G Ps (ms.map fun m => Ps.flatten.map fun z => (look m z).getD z) := by
    refine ⟨?_, fun r => ⟨fun m => ?_, fun ⟨μ, hμ, g, e⟩ => ?_⟩⟩
    · have ndm : ms.Nodup := by
        have h2 : ms.Pairwise fun a b => canon a ≠ canon b := List.pairwise_map.mp h.once
        exact h2.imp fun {a b} q (e : a = b) => q (by rw [e])
      refine nd_map ndm fun m mm m2 mm2 e => ?_
      obtain ⟨nd1, μ, hμ, g, l⟩ := h.fit m mm
      obtain ⟨nd2, ν, hν, g2, l2⟩ := h.fit m2 mm2
      rw [row m mm μ hμ l, row m2 mm2 ν hν l2] at e
      have ec : canon m = canon m2 := canon_ext nd1 nd2 fun z => by
        rw [l z, l2 z]
        unfold lookF
        by_cases c : fr kn z = true ∧ z ∈ Ps.flatten
        · rw [if_pos c, if_pos c, List.map_inj_left.mp e z c.2]
        · rw [if_neg c, if_neg c]
      exact nd_inj h.once mm mm2 ec
    · obtain ⟨x, mx, rfl⟩ := List.mem_map.mp m
      obtain ⟨_, μ, hμ, g, l⟩ := h.fit x mx
      exact ⟨μ, hμ, g, row x mx μ hμ l⟩
    · obtain ⟨m0, fm0, l0⟩ := fm_of nk hμ g
      obtain ⟨m, mm, ec⟩ := h.all m0 fm0
      refine List.mem_map.mpr ⟨m, mm, ?_⟩
      rw [e]
      exact row m mm μ hμ fun z => by rw [look_of_canon (h.fit m mm).1 fm0.1 ec, l0]
  have := rows_few S ro h0 hv
  rwa [List.length_map] at this
end L2.Rws
set_option Elab.async false
set_option linter.all false
set_option maxRecDepth 100000
set_option maxHeartbeats 4000000
/-! _law_met. -/
namespace L2.Rws
open PySem PySem.Spec PyProof.Rows L2.LawH L2.SetT L2.Frz L2.NSet
open L2.TxtDict (Prs2 kd)
abbrev sMet : Stmt := top 76
def spMet : Sp := fun us H Q _ => ∃ (p f k : Addr) (P F : Tm) (m : Prs2), us = [.ref p, .ref f, .ref k] ∧ PtR H p P ∧ TmOk P ∧ H f = some (.tup (F.map V.str)) ∧ F ≠ [] ∧ F.length ≤ 10 ∧ MapAt H k m ∧ m.length ≤ 100 ∧
  (metM m P F = none → ∀ l H', Same H H' → H l = none → H' l = some (.lst []) → Q (.ref l) H') ∧
  ∀ (m' : Prs2) (d l : Addr) (H' : Hp), metM m P F = some m' → Same H H' → H d = none → H l = none → MapAt H' d m' → H' l = some (.lst [.ref d]) → Q (.ref l) H'
section
variable {P : Program} {w : World} {K : PySem.W.Frag} {mg : Str → Option Value} {base : Heap}
abbrev nMet : List Str := ["_law_pattern_here", "_law_fact", "_law_known_here", "_law_found", "_law_k"]
theorem scMet : FnScope nMet ["_law_pattern_here", "_law_fact", "_law_known_here"] (defScope sMet) := ⟨rfl, rfl, rfl, by decide +kernel, rfl, by decide +kernel, by decide +kernel⟩
theorem ok_met {f : Addr} {fd : FuncData} (F : Fun K "_law_met" "_law_met" sMet f fd) (ml : mg "len" = none) (mr : mg "range" = none) (md : mg "dict" = none) :
    FnOk P w K mg base CX0 1 f fd ["_law_pattern_here", "_law_fact", "_law_known_here"] spMet := by
  refine F.ok scMet (fun vs H Q E h => ?_) (fun cdv A outer s H vs Q E hr h => ?_)
  · obtain ⟨p, f, k, P, F, m, rfl, _⟩ := h
    rfl
  · obtain ⟨p, f, k, P, F, m, rfl, hp, okP, hf, Fne, F10, hk, m100, bad, good⟩ := h
    have hu1 := hu_of hr
    refine ⟨_, pss_cons (ps_if (PW.pt (pw_or (pt_cmpR op_ne (pe_ix (ix_tupK (K := K) rfl) (pv 0) pe_int (fun _ _ => rfl)) (pe_ix (ix_tupK (K := K) rfl) (pv 1) pe_int (fun _ _ => rfl)) (nomark _))
          (pw_or1 (pt_cmpR op_ne (pe_callB (call_len_seqK (K := K) rfl) (by rfl) ml (by decide +kernel) (pa_cons (pv 0) pa_nil)) (pe_callB (call_len_seqK (K := K) rfl) (by rfl) ml (by decide +kernel) (pa_cons (pv 1) pa_nil)) (nomark _))))) (pss_one (ps_ret (pe_lst pa_nil))) pss_nil)
      (pss_cons (ps_set (i := 3) scMet.nd rfl (Or.inl rfl) (pe_callTy call_dictD (by rfl) md (by decide +kernel) (pa_cons (pv 2) pa_nil)))
      (pss_cons (ps_for PassesOwn.never rfl (pi_range2 (by rfl) mr (pa_cons pe_int (pa_cons (pe_callB (call_len_seqK (K := K) rfl) (by rfl) ml (by decide +kernel) (pa_cons (pv 0) pa_nil)) pa_nil))) (pg_name (i := 4) scMet.nd rfl (Or.inl rfl))
        (pss_one (ps_if (PW.pt (pw_and (pt_cmpR op_eq (pe_slice sl_str (pe_ix (ix_tupK (K := K) rfl) (pv 0) (pv 4) (fun _ _ => rfl)) po_none (po_some pe_int)) pe_str (nomark _)) (pw_and1 (pt_cmp (pc_dnotin hu1 (pe_ix (ix_tupK (K := K) rfl) (pv 0) (pv 4) (fun _ _ => rfl)) (pv 3))))))
          (pss_one (ps_dput hu1 (pv 3) (pe_ix (ix_tupK (K := K) rfl) (pv 0) (pv 4) (fun _ _ => rfl)) (pe_ix (ix_tupK (K := K) rfl) (pv 1) (pv 4) (fun _ _ => rfl)) (by rfl)))
          (pss_one (ps_if (pt_cmpR op_ne (pe_dget2 hu1 (pv 3) (pe_ix (ix_tupK (K := K) rfl) (pv 0) (pv 4) (fun _ _ => rfl)) (pe_ix (ix_tupK (K := K) rfl) (pv 0) (pv 4) (fun _ _ => rfl)) ⟨by rfl, by rfl, by rfl, by rfl⟩) (pe_ix (ix_tupK (K := K) rfl) (pv 1) (pv 4) (fun _ _ => rfl)) (nomark _))
            (pss_one (ps_ret (pe_lst pa_nil))) pss_nil)))))
      (pss_one (ps_ret (pe_lst (pa_cons (pv 3) pa_nil)))))), ?_⟩
    cases P with
    | nil => exact absurd rfl okP.ne
    | cons T ps =>
    cases F with
    | nil => exact absurd rfl Fne
    | cons U fs =>
    have hTf : isV T = false := okP.hd T rfl
    refine ⟨_, rfl, p, _, _, .str T, rfl, rfl, hp.sq, atI_nat (j := 0) rfl, _, rfl, f, _, _, .str U, rfl, rfl, SqT.of hf, atI_nat (j := 0) rfl, rfl, _, rfl, ?_⟩
    rw [str_dec]
    by_cases eT : T = U
    rotate_left
    · rw [decide_eq_false eT]
      refine iteT (iteT ⟨by show 0 ≤ sizeLine; decide, fun l nl => bad ?_ l _ (same_new nl) nl upd_same⟩)
      exact if_neg (c := T = U ∧ ps.length = fs.length) fun q => eT q.1
    rw [decide_eq_true eT]
    refine iteF ⟨_, rfl, p, _, rfl, .inr hp.sq, _, rfl, f, _, rfl, .inr (SqT.of hf), rfl, _, rfl, ?_⟩
    have lP : ((T :: ps).map V.str).length = ps.length + 1 := by rw [List.length_map, List.length_cons]
    have lF : ((U :: fs).map V.str).length = fs.length + 1 := by rw [List.length_map, List.length_cons]
    rw [lP, lF]
    by_cases eL : ps.length = fs.length
    rotate_left
    · have nb : (!decide (V.int ((ps.length + 1 : Nat) : Int) = V.int ((fs.length + 1 : Nat) : Int))) = true := by
        rw [decide_eq_false]
        · rfl
        · intro q
          injection q with q
          omega
      refine ifT nb ⟨by show 0 ≤ sizeLine; decide, fun l nl => bad ?_ l _ (same_new nl) nl upd_same⟩
      exact if_neg (c := T = U ∧ ps.length = fs.length) fun q => eL q.2
    have nb : (!decide (V.int ((ps.length + 1 : Nat) : Int) = V.int ((fs.length + 1 : Nat) : Int))) = false := by rw [eL, decide_eq_true rfl]; rfl
    refine ifF nb ?_
    have met0 : metM m (T :: ps) (U :: fs) = metL m ps fs := if_pos (c := T = U ∧ ps.length = fs.length) ⟨eT, eL⟩
    refine ⟨_, rfl, k, kd m, rfl, .inl hk, fun d nd => ?_⟩
    have s1 : Same H (upd H d (.dK (kd m))) := same_new nd
    have c1 : (upd H d (.dK (kd m))) d = some (.dK (kd m)) := upd_same
    generalize upd H d (.dK (kd m)) = H1 at s1 c1 ⊢
    have len10 := okP.few
    rw [List.length_cons] at len10
    refine ⟨_, rfl, p, _, rfl, .inr (hp.same s1).sq, 1, _, rfl, ⟨by decide, by decide, by omega, by omega⟩, for_range (lo := 1) (fun i σ H5 => ∃ (v4 : Option V) (mi : Prs2), σ = [some (.ref p), some (.ref f), some (.ref k), some (.ref d), v4] ∧ metL m ps fs = metL mi (ps.drop i) (fs.drop i) ∧ H5 d = some (.dK (kd mi)) ∧ Same H H5 ∧ mi.length ≤ m.length + i)
      ⟨none, m, rfl, rfl, c1, s1, Nat.le_refl _⟩ (fun i σ H5 hi pp => ?_) (fun σ H5 pp => ?_)⟩
    · obtain ⟨v4, mi, rfl, einv, hd5, s5, lmi⟩ := pp
      have hi' : i < ps.length := by rw [lP] at hi; omega
      obtain ⟨z, hz⟩ : ∃ z, ps[i]? = some z := ⟨_, List.getElem?_eq_getElem hi'⟩
      obtain ⟨v, hv0⟩ : ∃ v, fs[i]? = some v := ⟨_, List.getElem?_eq_getElem (by omega)⟩
      have eP : ps.drop i = z :: ps.drop (i + 1) := by rw [List.drop_eq_getElem_cons hi']; rw [List.getElem?_eq_getElem hi'] at hz; rw [Option.some.inj hz]
      have hi2 : i < fs.length := by omega
      have eF : fs.drop i = v :: fs.drop (i + 1) := by rw [List.drop_eq_getElem_cons hi2]; rw [List.getElem?_eq_getElem hi2] at hv0; rw [Option.some.inj hv0]
      rw [show (1 + (i : Int)) = ((1 + i : Nat) : Int) by omega]
      have aP : atI ((T :: ps).map V.str) ((1 + i : Nat) : Int) = some (.str z) := atI_nat (j := 1 + i) (by rw [List.getElem?_map, Nat.add_comm, List.getElem?_cons_succ, hz]; rfl)
      have aF : atI ((U :: fs).map V.str) ((1 + i : Nat) : Int) = some (.str v) := atI_nat (j := 1 + i) (by rw [List.getElem?_map, Nat.add_comm, List.getElem?_cons_succ, hv0]; rfl)
      have zl := (okP.each z (List.mem_cons_of_mem _ (List.mem_of_getElem? hz))).2
      refine ⟨_, rfl, _, rfl, p, _, _, .str z, rfl, rfl, (hp.same s5).sq, aP, _, rfl, z, rfl, by rw [sizeLine_eq]; omega, rfl, _, rfl, ?_⟩
      have ed : decide (V.str (cutS z none (some 1)) = V.str (Str.ofString "?")) = isV z := by
        rw [← first_sign]
        exact decide_eq_decide.mpr ⟨fun e => V.str.inj e, fun e => by rw [e]⟩
      rw [ed]
      by_cases hv : isV z = true
      · rw [hv]
        refine iteT ?_
        refine ⟨_, rfl, _, rfl, p, _, _, .str z, rfl, rfl, (hp.same s5).sq, aP, _, rfl, d, (look mi z).map V.str, rfl, by rw [← val_kd]; exact DGet.k (k := Sum.inr z) hd5, _, rfl, ?_⟩
        cases hkz : look mi z with
        | none =>
          refine iteT ?_
          have l1 : (kd mi).length < sizeLine := by
            rw [TxtDict.kd_len, sizeLine_eq]
            omega
          refine ⟨_, rfl, _, rfl, f, _, _, .str v, rfl, rfl, SqT.of (s5 _ _ hf), aF, _, rfl, _, rfl, _, rfl, p, _, _, .str z, rfl, rfl, (hp.same s5).sq, aP, d, _, rfl, DPut.k (k := Sum.inr z) hd5 l1, ?_⟩
          refine ⟨_, putP mi z v, rfl, ?_, by rw [upd_same, kd_put], fun b o e => ?_, by have := len_put mi z v; omega⟩
          · rw [einv, eP, eF]
            conv => lhs; unfold metL
            rw [if_pos ⟨hv, hkz⟩]
          · rw [upd_ne (ne_of_none e nd)]
            exact s5 _ _ e
        | some u0 =>
          refine iteF ?_
          have nc : ¬ (isV z = true ∧ look mi z = none) := fun q => by rw [hkz] at q; cases q.2
          refine ⟨_, rfl, d, rfl, .inl ⟨_, .inl hd5⟩, _, rfl, _, rfl, p, _, _, .str z, rfl, rfl, (hp.same s5).sq, aP, _, rfl, _, rfl, p, _, _, .str z, rfl, rfl, (hp.same s5).sq, aP, (look mi z).map V.str, by rw [← val_kd]; exact DGet.k (k := Sum.inr z) hd5, _, rfl, _, rfl, f, _, _, .str v, rfl, rfl, SqT.of (s5 _ _ hf), aF, ?_⟩
          rw [show ((look mi z).map V.str).getD (V.str z) = V.str ((look mi z).getD z) by cases look mi z <;> rfl]
          refine ⟨rfl, _, rfl, ?_⟩
          rw [str_dec]
          refine ite2 (fun ne => ?_) (fun ne => ?_)
          · have ne' : (look mi z).getD z ≠ v := fun q => by rw [q] at ne; simp at ne
            refine ⟨by show 0 ≤ sizeLine; decide, fun l nl => bad ?_ l _ (s5.trans (same_new nl)) (none_of s5 nl) upd_same⟩
            rw [met0, einv, eP, eF]
            unfold metL
            rw [if_neg nc, if_neg ne']
          · have eq' : (look mi z).getD z = v := by simpa using ne
            refine ⟨_, mi, rfl, ?_, hd5, s5, by omega⟩
            rw [einv, eP, eF]
            conv => lhs; unfold metL
            rw [if_neg nc, if_pos eq']
      · rw [Bool.eq_false_iff.mpr hv]
        refine iteF (iteF ?_)
        have nc : ¬ (isV z = true ∧ look mi z = none) := fun q => hv q.1
        refine ⟨_, rfl, d, rfl, .inl ⟨_, .inl hd5⟩, _, rfl, _, rfl, p, _, _, .str z, rfl, rfl, (hp.same s5).sq, aP, _, rfl, _, rfl, p, _, _, .str z, rfl, rfl, (hp.same s5).sq, aP, (look mi z).map V.str, by rw [← val_kd]; exact DGet.k (k := Sum.inr z) hd5, _, rfl, _, rfl, f, _, _, .str v, rfl, rfl, SqT.of (s5 _ _ hf), aF, ?_⟩
        rw [show ((look mi z).map V.str).getD (V.str z) = V.str ((look mi z).getD z) by cases look mi z <;> rfl]
        refine ⟨rfl, _, rfl, ?_⟩
        rw [str_dec]
        refine ite2 (fun ne => ?_) (fun ne => ?_)
        · have ne' : (look mi z).getD z ≠ v := fun q => by rw [q] at ne; simp at ne
          refine ⟨by show 0 ≤ sizeLine; decide, fun l nl => bad ?_ l _ (s5.trans (same_new nl)) (none_of s5 nl) upd_same⟩
          rw [met0, einv, eP, eF]
          unfold metL
          rw [if_neg nc, if_neg ne']
        · have eq' : (look mi z).getD z = v := by simpa using ne
          refine ⟨_, mi, rfl, ?_, hd5, s5, by omega⟩
          rw [einv, eP, eF]
          conv => lhs; unfold metL
          rw [if_neg nc, if_pos eq']
    · obtain ⟨v4, mi, rfl, einv, hd5, s5, lmi⟩ := pp
      refine ⟨_, rfl, by show 1 ≤ sizeLine; decide, fun l nl => good mi d l _ ?_ (s5.trans (same_new nl)) nd (none_of s5 nl) (same_new nl _ _ hd5) upd_same⟩
      rw [met0, einv, List.drop_of_length_le, List.drop_of_length_le]
      · rfl
      · rw [lP]; omega
      · rw [lP]; omega
end
end L2.Rws
set_option Elab.async false
set_option linter.all false
set_option maxRecDepth 100000
set_option maxHeartbeats 4000000
/-! Dicts whose keys are nested tuples, as tracked things. -/
namespace L2.NDict
open PySem PySem.Spec PyProof.Rows L2.NSet PySem.W
/-- a key with its tuple, and the object that stands there -/
abbrev NRow : Type := Mem × Addr
def raw (r : NRow) : NestedKey × Addr × Value := (r.1.2, r.1.1, .ref r.2)
structure Dct0 (P : Program) (w : World) (h : Heap) (d : Addr) (rows : List NRow) : Prop where
  ex : ∃ o es ep, h.get? d = some o ∧ o.ExactDict ∧ o.data = .dict es ep ∧ es.toList = (rows.map raw).map (entryOfKey (nestedKind P w)) ∧ ((rows.map raw).map (·.1)).Nodup
  low : (d == sysModules) = false
def DctN (P : Program) (w : World) (d : Addr) (rows : List NRow) : HO := .ext fun h => Dct0 P w h d rows
section
variable {P : Program} {w : World} {h : Heap} {H : Hp} {d : Addr} {rows : List NRow}
theorem Dct0.full (R : Dct0 P w h d rows) (each : ∀ r ∈ rows, Kb P w h r.1.2 r.1.1) : h.DictOfH (nestedKind P w) d (rows.map raw) := by
  obtain ⟨o, es, ep, h1, h2, h3, h4, h5⟩ := R.ex
  refine ⟨o, es, ep, h1, h2, h3, h4, fun x m => ?_, h5⟩
  obtain ⟨r, mr, rfl⟩ := List.mem_map.mp m
  exact each r mr
theorem Dct0.of (x : h.DictOfH (nestedKind P w) d (rows.map raw)) (low : (d == sysModules) = false) : Dct0 P w h d rows :=
  let ⟨o, es, ep, h1, h2, h3, h4, _, h5⟩ := x
  ⟨⟨o, es, ep, h1, h2, h3, h4, h5⟩, low⟩
theorem dct_new (R : Dct0 P w h d rows) : ObjOk P w H h d (DctN P w d rows) := by
  have ⟨o, es, ep, ho, r⟩ := R.ex
  refine ⟨R, ⟨o, ho⟩, fun h1 h2 p k => ?_⟩
  have ⟨o2, es2, ep2, ho2, r2⟩ := Dct0.ex p
  exact ⟨⟨o2, es2, ep2, k o2 ho2, r2⟩, Dct0.low p⟩
/-- a row put -/
def putRow (rows : List NRow) (p : Mem) (v : Addr) : List NRow := if (rows.find? fun r => decide (r.1.2 = p.2)).isSome then rows.map (fun r => if r.1.2 = p.2 then (r.1, v) else r) else rows ++ [(p, v)]
theorem at_raw (rows : List NRow) (k : NestedKey) : atKey (rows.map raw) k = (rows.find? fun r => decide (r.1.2 = k)).map fun r => (r.1.1, Value.ref r.2) := by
  unfold atKey
  rw [List.find?_map, Option.map_map]
  rfl
theorem stored_raw (rows : List NRow) (p : Mem) (v : Addr) : storedH (rows.map raw) p.2 p.1 (.ref v) = (putRow rows p v).map raw := by
  unfold storedH putRow
  rw [at_raw, Option.isSome_map]
  split
  · rw [List.map_map, List.map_map]
    refine List.map_congr_left fun r _ => ?_
    show putAt p.2 (.ref v) (raw r) = raw (if r.1.2 = p.2 then (r.1, v) else r)
    unfold putAt
    by_cases e : r.1.2 = p.2
    · rw [if_pos e, if_pos (show (raw r).1 = p.2 from e)]
      rfl
    · rw [if_neg e, if_neg (show ¬ (raw r).1 = p.2 from e)]
  · rw [List.map_append]
    rfl
end
section
variable {X : Cx} {o i e value : Expr} {pos pos' : Pos} {td ty tv : TE}
def tDNewN (P : Program) (w : World) : TE := fun _ H Q => ∀ p, H p = none → Q (.ref p) (upd H p (DctN P w p []))
theorem pe_dnewN : PE X (.Dict [] [] pos) (tDNewN X.prog X.w) := ⟨fun pins s σ H Q I h =>
  wpAny_Dict_empty ⟨.ref s.heap.objs.size, _, I.laid (a := s.heap.objs.size) (o := DctN X.prog X.w s.heap.objs.size []) (t' := s.toks) (fun _ _ q => Heap.get?_push_of_some _ q) (Nat.le_refl _)
    (dct_new (Dct0.of (rows := []) (Heap.DictOfH.new s.heap) (beq_eq_false_iff_ne.mpr (Nat.ne_of_gt I.big)))), rfl, h _ (I.hok.fresh (Nat.le_refl _))⟩⟩
def RowsOk (K : PySem.W.Frag) (P : Program) (w : World) (H : Hp) (d : Addr) (rows : List NRow) : Prop := H d = some (DctN P w d rows) ∧ ∀ r ∈ rows, MemOk K H r.1
theorem dct_at {pins : List (Addr × Obj)} {σ : L2.St} {H : Hp} {s : Shared} {d : Addr} {rows : List NRow} (I : Inv X pins σ H s) (g : RowsOk X.K X.prog X.w H d rows) : s.heap.DictOfH (nestedKind X.prog X.w) d (rows.map raw) ∧ (d == sysModules) = false :=
  have R : Dct0 X.prog X.w s.heap d rows := (I.hok d _ g.1).1
  ⟨R.full fun r m => kb_of I (g.2 r m), R.low⟩
def sDPutN (K : PySem.W.Frag) (P : Program) (w : World) (td ty tv : TE) : TS := fun D σ H => tv σ H fun v H1 => td σ H1 fun x H2 => ty σ H2 fun y H3 => ∃ (d : Addr) (rows : List NRow) (p : Mem) (one : Addr), x = .ref d ∧ y = .ref p.1 ∧ v = .ref one ∧ RowsOk K P w H3 d rows ∧ MemOk K H3 p ∧ rows.length ≤ 100000 ∧
  D.nx σ (upd H3 d (DctN P w d (putRow rows p one)))
theorem ps_dputN (hu : X.A.units + 64 < cLine) (ho : PE X o td) (hi : PE X i ty) (hv : PE X value tv) (hs : swapsWith value (some (.Subscript o i pos')) pos.line X.env = pure false) :
    PS X (.Assign [.Subscript o i pos'] value pos) (sDPutN X.K X.prog X.w td ty tv) := by
  refine ⟨fun pins s σ H D I h => ?_⟩
  refine wpAny_Assign_Subscript (thn (hv.run pins s σ H _ I h) fun r s1 ⟨v, H1, I1, rv, q1⟩ => thn (ho.run pins s1 σ H1 _ I1 q1) fun u s2 ⟨x, H2, I2, rx, q2⟩ => thn (hi.run pins s2 σ H2 _ I2 q2) fun iv s3 ⟨y, H3, I3, ry, d, rows, p, one, ex, ey, ev, g, mp, few, q3⟩ => ?_) hs
  subst ex ey ev
  obtain rfl : u = Value.ref d := rx
  obtain rfl : iv = Value.ref p.1 := ry
  obtain rfl : r = Value.ref one := rv
  obtain ⟨dd, low⟩ := dct_at I3 g
  refine wpAny_setItem_heap (hsz := by rw [List.length_map, sizeLine_eq]; omega) (by show X.A.units + 1 + 8 < cLine; omega) (kb_of I3 mp) dd fun h' dd' hs' => ?_
  rw [stored_raw] at dd'
  exact ⟨σ, _, d_write I3 (by rw [g.1]; exact True.intro) hs' (let ⟨o, _, _, ho, _⟩ := dd'; ⟨o, ho⟩) (dct_new (Dct0.of dd' low)), q3⟩
def tDGetN (K : PySem.W.Frag) (P : Program) (w : World) (td ty : TE) : TE := fun σ H Q => td σ H fun x H1 => ty σ H1 fun y H2 => ∃ (d : Addr) (rows : List NRow) (p : Mem) (one : Addr), x = .ref d ∧ y = .ref p.1 ∧ RowsOk K P w H2 d rows ∧ MemOk K H2 p ∧ (rows.find? fun r => decide (r.1.2 = p.2)).map (·.2) = some one ∧ Q (.ref one) H2
theorem pe_dgetN (hu : X.A.units + 64 < cLine) (ho : PE X o td) (hi : PE X i ty) (hs : NoSl i) : PE X (.Subscript o i pos) (tDGetN X.K X.prog X.w td ty) := by
  refine ⟨fun pins s σ H Q I h => ?_⟩
  refine subD_of PySem.F.slot_dict_getitem.lookup hs (thn (ho.run pins s σ H _ I h) fun u s1 ⟨x, H1, I1, rx, q1⟩ => thn (hi.run pins s1 σ H1 _ I1 q1) fun iv s2 ⟨y, H2, I2, ry, d, rows, p, one, ex, ey, g, mp, hf, q2⟩ => ?_)
  subst ex ey
  obtain rfl : u = Value.ref d := rx
  obtain rfl : iv = Value.ref p.1 := ry
  obtain ⟨dd, low⟩ := dct_at I2 g
  obtain ⟨r, hr, rfl⟩ := Option.map_eq_some_iff.mp hf
  refine ⟨dd.typeIs, wpAny_getItem_heap (p := (r.1.1, Value.ref r.2)) (by show X.A.units + 1 + 8 < cLine; omega) (kb_of I2 mp) dd (by rw [at_raw, hr]; rfl) ?_⟩
  exact ⟨.ref r.2, H2, I2.tok _, rfl, q2⟩
theorem call_listN (hc : X.calm = true) : CallR X (.type "list") (fun xs H Q => ∃ (d : Addr) (rows : List NRow), xs = [V.ref d] ∧ RowsOk X.K X.prog X.w H d rows ∧ rows.length ≤ 100000 ∧ ∀ l, H l = none → Q (.ref l) (upd H l (.lst (rows.map fun r => V.ref r.1.1)))) := by
  intro pins s σ H xs us Q I r h
  obtain ⟨d, rows, rfl, g, few, q⟩ := h
  rw [Vals.ref1 r]
  have R : Dct0 X.prog X.w s.heap d rows := (I.hok d _ g.1).1
  obtain ⟨o, es, ep, ho, hx, hdt, he, hn⟩ := R.ex
  have l1 : es.size = rows.length := by rw [← Array.length_toList, he, List.length_map, List.length_map]
  refine PySem.W.kdl_call (kdl_raw R.low hx hdt) (I.ok.hd hc) ho (by rw [l1, sizeLine_eq]; omega) fun h' tk acc' c' kp e it => ?_
  have ea : acc'.toList = rows.map fun x => Value.ref x.1.1 := by
    have hl : acc'.toList.length = rows.length := by rw [Array.length_toList, it.1]; exact l1
    apply List.ext_getElem?
    intro j
    rw [List.getElem?_map]
    cases hj : acc'.toList[j]? with
    | none =>
      have h1 := List.getElem?_eq_none_iff.mp hj
      rw [List.getElem?_eq_none (by omega)]
      all_goals rfl
    | some v =>
      obtain ⟨en, hen, hv⟩ := it.2 j v (by rw [← Array.getElem?_toList]; exact hj)
      have qe : es.toList[j]? = some en := by rw [Array.getElem?_toList]; exact hen
      rw [he, List.map_map, List.getElem?_map] at qe
      obtain ⟨x, hx2, hx3⟩ := Option.map_eq_some_iff.mp qe
      rw [hx2, hv, ← hx3]
      rfl
  have fit : (rows.map fun r => V.ref r.1.1).length ≤ sizeLine := by rw [List.length_map, sizeLine_eq]; omega
  have all : ∀ l : List NRow, Vals (l.map fun r => V.ref r.1.1) (l.map fun x => Value.ref x.1.1) := fun l => by
    induction l with
    | nil => exact .nil
    | cons x r ih => exact .cons rfl ih
  have vr : Vals (rows.map fun r => V.ref r.1.1) acc'.toList := by
    rw [ea]
    exact all rows
  exact ⟨.ref s.heap.objs.size, upd H s.heap.objs.size (.lst (rows.map fun r => V.ref r.1.1)), I.laid (t' := tk) kp (Nat.le_refl _) ⟨fit, acc'.toList, c', vr, by simpa using e⟩, rfl, q _ (I.hok.fresh (Nat.le_refl _))⟩
end
end L2.NDict
set_option Elab.async false
set_option linter.all false
set_option maxRecDepth 100000
set_option maxHeartbeats 4000000
/-! _law_fits: helpers. -/
namespace L2.NDict
open PySem PySem.Spec PyProof.Rows L2.NSet PySem.W
section
variable {X : Cx} {o i e value : Expr} {pos pos' : Pos} {td ty tv : TE} {K : PySem.W.Frag} {P : Program} {w : World}
theorem pe_dnewNK (eP : X.prog = P) (eW : X.w = w) : PE X (.Dict [] [] pos) (tDNewN P w) := by
  subst eP eW
  exact pe_dnewN
theorem ps_dputNK (eK : X.K = K) (eP : X.prog = P) (eW : X.w = w) (hu : X.A.units + 64 < cLine) (ho : PE X o td) (hi : PE X i ty) (hv : PE X value tv) (hs : swapsWith value (some (.Subscript o i pos')) pos.line X.env = pure false) :
    PS X (.Assign [.Subscript o i pos'] value pos) (sDPutN K P w td ty tv) := by
  subst eK eP eW
  exact ps_dputN hu ho hi hv hs
theorem pe_dgetNK (eK : X.K = K) (eP : X.prog = P) (eW : X.w = w) (hu : X.A.units + 64 < cLine) (ho : PE X o td) (hi : PE X i ty) (hs : NoSl i) : PE X (.Subscript o i pos) (tDGetN K P w td ty) := by
  subst eK eP eW
  exact pe_dgetN hu ho hi hs
def rListN (K : PySem.W.Frag) (P : Program) (w : World) : List V → Hp → VK → Prop := fun xs H Q => ∃ (d : Addr) (rows : List NRow), xs = [V.ref d] ∧ RowsOk K P w H d rows ∧ rows.length ≤ 100000 ∧ ∀ l, H l = none → Q (.ref l) (upd H l (.lst (rows.map fun r => V.ref r.1.1)))
theorem call_listNK (eK : X.K = K) (eP : X.prog = P) (eW : X.w = w) (hc : X.calm = true) : CallR X (.type "list") (rListN K P w) := by
  subst eK eP eW
  exact call_listN hc
end
end L2.NDict
namespace L2.Rws
open PySem PySem.Spec PyProof.Rows L2.LawH L2.SetT L2.Frz L2.NSet L2.NDict
open L2.TxtDict (Prs2 kd)
abbrev sFits : Stmt := top 77
/-- rows with the maps that stand there -/
def putR (rs : List (NRow × Prs2)) (p : Mem) (v : Addr) (m : Prs2) : List (NRow × Prs2) :=
  if ((rs.map Prod.fst).find? fun r => decide (r.1.2 = p.2)).isSome then rs.map (fun x => if x.1.1.2 = p.2 then ((x.1.1, v), m) else x) else rs ++ [((p, v), m)]
theorem putR_fst (rs : List (NRow × Prs2)) (p : Mem) (v : Addr) (m : Prs2) : (putR rs p v m).map Prod.fst = putRow (rs.map Prod.fst) p v := by
  unfold putR putRow
  split
  · rw [List.map_map, List.map_map]
    refine List.map_congr_left fun x _ => ?_
    show (if x.1.1.2 = p.2 then ((x.1.1, v), m) else x).1 = if x.1.1.2 = p.2 then (x.1.1, v) else x.1
    split <;> rfl
  · rw [List.map_append]
    rfl
theorem putR_mem {rs : List (NRow × Prs2)} {p : Mem} {v : Addr} {m : Prs2} {x : NRow × Prs2} (h : x ∈ putR rs p v m) : x ∈ rs ∨ (x.1.1.2 = p.2 ∧ x.1.2 = v ∧ x.2 = m ∧ (x.1.1 = p ∨ ∃ y ∈ rs, y.1.1 = x.1.1)) := by
  unfold putR at h
  split at h
  · obtain ⟨y, my, e⟩ := List.mem_map.mp h
    by_cases c : y.1.1.2 = p.2
    · rw [if_pos c] at e
      subst e
      exact .inr ⟨c, rfl, rfl, .inr ⟨y, my, rfl⟩⟩
    · rw [if_neg c] at e
      subst e
      exact .inl my
  · rcases List.mem_append.mp h with h | h
    · exact .inl h
    · rw [List.mem_singleton.mp h]
      exact .inr ⟨rfl, rfl, rfl, .inl rfl⟩
theorem putR_has (rs : List (NRow × Prs2)) (p : Mem) (v : Addr) (m : Prs2) (k : NestedKey) (h : k = p.2 ∨ ∃ x ∈ rs, x.1.1.2 = k) : ∃ x ∈ putR rs p v m, x.1.1.2 = k := by
  unfold putR
  split
  · rename_i c
    have has : ∃ x ∈ rs, x.1.1.2 = k := by
      rcases h with e | h
      · obtain ⟨r, hr⟩ := Option.isSome_iff_exists.mp c
        obtain ⟨y, my, rfl⟩ := List.mem_map.mp (List.mem_of_find?_eq_some hr)
        have := List.find?_some hr
        exact ⟨y, my, by rw [e]; exact of_decide_eq_true this⟩
      · exact h
    obtain ⟨x, mx, e⟩ := has
    refine ⟨_, List.mem_map_of_mem mx, ?_⟩
    show (if x.1.1.2 = p.2 then ((x.1.1, v), m) else x).1.1.2 = k
    split <;> exact e
  · rcases h with e | ⟨x, mx, e⟩
    · exact ⟨_, List.mem_append_right _ (List.mem_singleton_self _), e.symm⟩
    · exact ⟨x, List.mem_append_left _ mx, e⟩
theorem putR_nd {rs : List (NRow × Prs2)} (p : Mem) (v : Addr) (m : Prs2) (nd : (rs.map fun x => x.1.1.2).Nodup) : ((putR rs p v m).map fun x => x.1.1.2).Nodup := by
  unfold putR
  split
  · rw [List.map_map, show ((fun x : NRow × Prs2 => x.1.1.2) ∘ fun x => if x.1.1.2 = p.2 then ((x.1.1, v), m) else x) = fun x => x.1.1.2 from ?_]
    · exact nd
    · funext x
      show (if x.1.1.2 = p.2 then ((x.1.1, v), m) else x).1.1.2 = x.1.1.2
      split <;> rfl
  · rename_i c
    rw [List.map_append]
    refine List.nodup_append.mpr ⟨nd, List.nodup_cons.mpr ⟨by simp, List.nodup_nil⟩, fun a ma b mb e => c ?_⟩
    obtain ⟨x, mx, rfl⟩ := List.mem_map.mp ma
    have : b = p.2 := by simpa using mb
    rw [Option.isSome_iff_exists]
    cases q : (rs.map Prod.fst).find? fun r => decide (r.1.2 = p.2) with
    | some r => exact ⟨r, rfl⟩
    | none =>
      have := List.find?_eq_none.mp q x.1 (List.mem_map_of_mem mx)
      simp_all
theorem putR_len (rs : List (NRow × Prs2)) (p : Mem) (v : Addr) (m : Prs2) : (putR rs p v m).length ≤ rs.length + 1 := by
  unfold putR
  split
  · rw [List.length_map]; omega
  · rw [List.length_append]; simp
/-- what a met map holds -/
theorem metL_mem : ∀ {P f : Tm} {m m' : Prs2}, metL m P f = some m' → ∀ q ∈ m', q ∈ m ∨ (q.1 ∈ P ∧ q.2 ∈ f)
  | [], [], m, m', h, q, mq => by
    have : m = m' := Option.some.inj h
    subst this
    exact .inl mq
  | z :: P, v :: f, m, m', h, q, mq => by
    unfold metL at h
    split at h
    · rcases metL_mem h q mq with e | ⟨e1, e2⟩
      · rcases mem_put e with e | e
        · exact .inl e
        · rw [e]; exact .inr ⟨List.mem_cons_self, List.mem_cons_self⟩
      · exact .inr ⟨List.mem_cons_of_mem _ e1, List.mem_cons_of_mem _ e2⟩
    · split at h
      · rcases metL_mem h q mq with e | ⟨e1, e2⟩
        · exact .inl e
        · exact .inr ⟨List.mem_cons_of_mem _ e1, List.mem_cons_of_mem _ e2⟩
      · cases h
  | [], _ :: _, m, m', h, q, mq => by simp [metL] at h
  | _ :: _, [], m, m', h, q, mq => by simp [metL] at h
/-- a fitting map is short -/
theorem FM.short {kn : Prs2} {G : Tm → Prop} {Ps : List Tm} {m : Prs2} {vs : List Str} (h : FM kn G Ps m) (hv : ∀ P ∈ Ps, ∀ z ∈ P, fr kn z = true → z ∈ vs) : m.length ≤ kn.length + vs.length := by
  obtain ⟨nd, μ, _, _, l⟩ := h
  have := nodup_len (m := kn.map Prod.fst ++ vs) nd fun z mz => by
    obtain ⟨q, mq, rfl⟩ := List.mem_map.mp mz
    have lq := look_of nd mq
    rw [l q.1] at lq
    unfold lookF at lq
    split at lq
    · rename_i c
      obtain ⟨R, mR, mz'⟩ := List.mem_flatten.mp c.2
      exact List.mem_append_right _ (hv R mR _ mz' c.1)
    · exact List.mem_append_left _ (List.mem_map.mpr ⟨_, look_mem lq, rfl⟩)
  rw [List.length_map, List.length_append, List.length_map] at this
  exact this
/-- the rows of more: what stands there, and which maps have come -/
structure RInv (K : PySem.W.Frag) (P : Program) (w : World) (H : Hp) (d : Addr) (rs : List (NRow × Prs2)) (S : Prs2 → Prop) : Prop where
  ok : RowsOk K P w H d (rs.map Prod.fst)
  each : ∀ x ∈ rs, MapAt H x.1.2 x.2 ∧ x.1.1.2 = kM (canon x.2) ∧ x.1.1.1 ≠ d ∧ S x.2 ∧ PtOk H x.1.1
  all : ∀ m, S m → ∃ x ∈ rs, x.1.1.2 = kM (canon m)
  nd : (rs.map fun x => x.1.1.2).Nodup
theorem ptOk_keep {H H' : Hp} {d : Addr} {φ : Heap → Prop} {p : Mem} (h : PtOk H p) (hd : H d = some (.ext φ)) (ne : p.1 ≠ d) (k : ∀ b o, b ≠ d → H b = some o → H' b = some o) : PtOk H' p := by
  obtain ⟨ts, ks, h1, h2, h3⟩ := h
  exact ⟨ts, ks, k _ _ ne h1, h2, Paired.mapP h3 fun t q e => k _ _ (fun z => by rw [z, hd] at e; cases e) e⟩
theorem mapAt_keep {H H' : Hp} {d b : Addr} {φ : Heap → Prop} {m : Prs2} (h : MapAt H b m) (hd : H d = some (.ext φ)) (k : ∀ b o, b ≠ d → H b = some o → H' b = some o) : MapAt H' b m :=
  k _ _ (fun z => by have h' : H b = some (.dK (kd m)) := h; rw [z, hd] at h'; cases h') h
theorem RInv.same {K : PySem.W.Frag} {P : Program} {w : World} {H H' : Hp} {d : Addr} {rs : List (NRow × Prs2)} {S : Prs2 → Prop} (h : RInv K P w H d rs S) (s : Same H H') : RInv K P w H' d rs S := by
  have h2 : ∀ x ∈ rs, PtOk H' x.1.1 := fun x m => pt_same (h.each x m).2.2.2.2 s
  refine ⟨⟨s _ _ h.ok.1, fun r mr => ?_⟩, fun x m => ?_, h.all, h.nd⟩
  · obtain ⟨x, mx, rfl⟩ := List.mem_map.mp mr
    exact ⟨.inr (h2 x mx), (h.ok.2 _ mr).2⟩
  · obtain ⟨a1, a2, a3, a4, _⟩ := h.each x m
    exact ⟨a1.same s, a2, a3, a4, h2 x m⟩
theorem RInv.weak {K : PySem.W.Frag} {P : Program} {w : World} {H : Hp} {d : Addr} {rs : List (NRow × Prs2)} {S S' : Prs2 → Prop} (h : RInv K P w H d rs S) (e : ∀ m, S m ↔ S' m) : RInv K P w H d rs S' :=
  ⟨h.ok, fun x m => let ⟨a1, a2, a3, a4, a5⟩ := h.each x m; ⟨a1, a2, a3, (e _).mp a4, a5⟩, fun m g => h.all m ((e m).mpr g), h.nd⟩
/-- a map put -/
theorem RInv.put {K : PySem.W.Frag} {P : Program} {w : World} {H : Hp} {d t v : Addr} {rs : List (NRow × Prs2)} {S : Prs2 → Prop} {m : Prs2} (h : RInv K P w H d rs S) (hv : MapAt H v m) (ht : PtOk H (t, kM (canon m))) (td : t ≠ d) :
    RInv K P w (upd H d (DctN P w d (putRow (rs.map Prod.fst) (t, kM (canon m)) v))) d (putR rs (t, kM (canon m)) v m) (fun m' => S m' ∨ m' = m) := by
  have k : ∀ b o, b ≠ d → H b = some o → (upd H d (DctN P w d (putRow (rs.map Prod.fst) (t, kM (canon m)) v))) b = some o := fun b o nb e => by
    rw [upd_ne nb]
    exact e
  have hd := h.ok.1
  have cd : (upd H d (DctN P w d (putRow (rs.map Prod.fst) (t, kM (canon m)) v))) d = some (DctN P w d (putRow (rs.map Prod.fst) (t, kM (canon m)) v)) := upd_same
  generalize upd H d (DctN P w d (putRow (rs.map Prod.fst) (t, kM (canon m)) v)) = H' at k cd ⊢
  have e5 : ∀ x ∈ putR rs (t, kM (canon m)) v m, MapAt H' x.1.2 x.2 ∧ x.1.1.2 = kM (canon x.2) ∧ x.1.1.1 ≠ d ∧ (S x.2 ∨ x.2 = m) ∧ PtOk H' x.1.1 := fun x mx => by
    rcases putR_mem mx with mx | ⟨c1, c2, c3, c4⟩
    · obtain ⟨a1, a2, a3, a4, a5⟩ := h.each x mx
      exact ⟨mapAt_keep a1 hd k, a2, a3, .inl a4, ptOk_keep a5 hd a3 k⟩
    · rw [c2, c3]
      have main : x.1.1.1 ≠ d ∧ PtOk H' x.1.1 := by
        rcases c4 with e | ⟨y, my, e⟩
        · rw [e]
          exact ⟨td, ptOk_keep ht hd td k⟩
        · obtain ⟨_, _, a3, _, a5⟩ := h.each y my
          rw [← e]
          exact ⟨a3, ptOk_keep a5 hd a3 k⟩
      exact ⟨mapAt_keep hv hd k, c1, main.1, .inr rfl, main.2⟩
  refine ⟨⟨by rw [putR_fst]; exact cd, fun r mr => ?_⟩, e5, fun m' g => ?_, putR_nd _ _ _ h.nd⟩
  · obtain ⟨x, mx, rfl⟩ := List.mem_map.mp mr
    obtain ⟨_, a2, _, _, a5⟩ := e5 x mx
    refine ⟨.inr a5, ?_⟩
    rw [a2]
    exact Nat.le_trans (depth_kM _) (by decide)
  · rcases g with g | g
    · obtain ⟨x, mx, e⟩ := h.all m' g
      exact putR_has _ _ _ _ _ (.inr ⟨x, mx, e⟩)
    · rw [g]
      exact putR_has _ _ _ _ _ (.inl rfl)
/-- no pattern: the known map alone -/
theorem Fnd.start {kn : Prs2} {G : Tm → Prop} (hk : KnOk kn) (nk : (kn.map Prod.fst).Nodup) : Fnd kn G [] [kn] := by
  have fm : FM kn G [] kn := by
    refine ⟨nk, fun z => (look kn z).getD z, ⟨fun z c => ?_, fun z v c => ?_⟩, fun P m => (nomatch m), fun z => ?_⟩
    · show (look kn z).getD z = z
      cases q : look kn z with
      | none => rfl
      | some u => rw [hk z u q] at c; cases c
    · show (look kn z).getD z = v
      rw [c]
      rfl
    · unfold lookF
      rw [if_neg fun w => (nomatch w.2)]
  refine ⟨fun m mm => by rw [List.mem_singleton.mp mm]; exact fm, fun m h => ⟨kn, List.mem_singleton_self _, canon_ext nk h.1 fun z => ?_⟩, by simp⟩
  obtain ⟨_, μ, _, _, l⟩ := h
  rw [l z]
  unfold lookF
  rw [if_neg fun w => (nomatch w.2)]
/-- a whole step -/
theorem Fnd.next {kn : Prs2} {G : Tm → Prop} {Ps : List Tm} {ms : List Prs2} {T : Str} {P : Tm} {rs : List (NRow × Prs2)} (hk : KnOk kn) (nk : (kn.map Prod.fst).Nodup) (hT : isV T = false) (h : Fnd kn G Ps ms) (S : Prs2 → Prop)
    (hS : ∀ m', S m' ↔ ∃ m ∈ ms, ∃ f, G f ∧ metM m (T :: P) f = some m') (key : ∀ x ∈ rs, x.1.1.2 = kM (canon x.2) ∧ S x.2) (all : ∀ m, S m → ∃ x ∈ rs, x.1.1.2 = kM (canon m)) (nd : (rs.map fun x => x.1.1.2).Nodup) : Fnd kn G (Ps ++ [T :: P]) (rs.map Prod.snd) := by
  have metc : ∀ {m : Prs2} {f : Tm} {m' : Prs2}, metM m (T :: P) f = some m' → ∃ f', f = T :: f' ∧ metL m P f' = some m' := fun {m f m'} e => by
    cases f with
    | nil => cases e
    | cons U f =>
      have e' : (if T = U ∧ P.length = f.length then metL m P f else none) = some m' := e
      split at e'
      · rename_i c
        exact ⟨f, by rw [c.1], e'⟩
      · cases e'
  refine ⟨fun m' mm => ?_, fun m' h' => ?_, ?_⟩
  · obtain ⟨x, mx, rfl⟩ := List.mem_map.mp mm
    obtain ⟨m, mm, f, gf, e⟩ := (hS _).mp (key x mx).2
    obtain ⟨f', rfl, e'⟩ := metc e
    exact ((h.fit m mm).met hk hT gf e').1
  · obtain ⟨m, mm, f, m'', gf, lf, e, ec⟩ := h.met hk nk hT h'
    have e2 : metM m (T :: P) (T :: f) = some m'' := by
      show (if T = T ∧ P.length = f.length then metL m P f else none) = some m''
      rw [if_pos ⟨rfl, lf.symm⟩]
      exact e
    obtain ⟨x, mx, ex⟩ := all m'' ((hS _).mpr ⟨m, mm, _, gf, e2⟩)
    refine ⟨x.2, List.mem_map_of_mem mx, ?_⟩
    rw [(key x mx).1] at ex
    rw [kM_inj ex, ec]
  · rw [List.map_map]
    have e : (rs.map fun x => x.1.1.2) = (rs.map (canon ∘ Prod.snd)).map kM := by
      rw [List.map_map]
      exact List.map_congr_left fun x mx => (key x mx).1
    rw [e] at nd
    have h2 : (rs.map (canon ∘ Prod.snd)).Pairwise fun a b => kM a ≠ kM b := List.pairwise_map.mp nd
    exact h2.imp fun {a b} q (e : a = b) => q (by rw [e])
/-- texts that may be shown -/
def Sok (l : List Str) : Prop := ∀ z ∈ l, PyData.strOk z = true
end L2.Rws
set_option Elab.async false
set_option linter.all false
set_option maxRecDepth 100000
set_option maxHeartbeats 4000000
/-! _law_fits. -/
namespace L2.Rws
open PySem PySem.Spec PyProof.Rows L2.LawH L2.SetT L2.Frz L2.NSet L2.NDict
open L2.TxtDict (Prs2 kd)
theorem find_row : ∀ {rows : List NRow} {r : NRow}, (rows.map fun x => x.1.2).Nodup → r ∈ rows → (rows.find? fun x => decide (x.1.2 = r.1.2)) = some r
  | x :: rows, r, nd, m => by
    rw [List.map_cons, List.nodup_cons] at nd
    rw [List.find?_cons]
    rcases List.mem_cons.mp m with e | m'
    · rw [e, decide_eq_true rfl]
    · have ne : x.1.2 ≠ r.1.2 := fun e => nd.1 (by rw [e]; exact List.mem_map_of_mem (f := fun x : NRow => x.1.2) m')
      rw [decide_eq_false ne]
      exact find_row nd.2 m'
def spFits : Sp := fun us H Q _ => ∃ (q fl k : Addr) (ps xs : List Tx) (kn : Prs2) (cs vs : List Str), us = [.ref q, .ref fl, .ref k] ∧ H q = some (.lst (refs ps)) ∧ (∀ p ∈ ps, PtR H p.1 p.2 ∧ PatOk kn vs p.2 ∧ Sok p.2) ∧ ps.length ≤ 20 ∧ H fl = some (.lst (refs xs)) ∧ TxsAt H xs ∧ (∀ x ∈ xs, Sok x.2) ∧
  Sit xs kn cs vs ∧ MapAt H k kn ∧ (kn.map Prod.fst).Nodup ∧ kn.length ≤ 10 ∧ (∀ p ∈ kn, PyData.strOk p.1 = true ∧ PyData.strOk p.2 = true) ∧
  ∀ (l : Addr) (ds : List Addr) (ms : List Prs2) (H' : Hp), Same H H' → H' l = some (.lst (ds.map V.ref)) → Paired (MapAt H') ds ms → Fnd kn (GOf xs) (ps.map (·.2)) ms → (∀ m ∈ ms, Good m) → ms.length ≤ 64 → Q (.ref l) H'
section
variable {P : Program} {w : World} {K : PySem.W.Frag} {mg : Str → Option Value} {base : Heap}
abbrev nFits : List Str := ["_law_lot_here", "_law_facts_here", "_law_known_here", "_law_found", "_law_pattern_here", "_law_more", "_law_here", "_law_fact", "_law_one", "_law_key"]
theorem scFits : FnScope nFits ["_law_lot_here", "_law_facts_here", "_law_known_here"] (defScope sFits) := ⟨rfl, rfl, rfl, by decide +kernel, rfl, by decide +kernel, by decide +kernel⟩
theorem ok_fits {f fM fP : Addr} {fd fdM fdP : FuncData} (F : Fun K "_law_fits" "_law_fits" sFits f fd)
    (GM : FnOk P w K mg base CX0 1 fM fdM ["_law_pattern_here", "_law_fact", "_law_known_here"] spMet) (keepM : PySem.W.keepIn K (.ref fM) = true) (bM : Binds K fdM ["_law_pattern_here", "_law_fact", "_law_known_here"] []) (mM : mg "_law_met" = some (.ref fM))
    (GP : FnOk P w K mg base CX0 1 fP fdP ["_law_known_here"] spPrs) (kP : PySem.W.keepIn K (.ref fP) = true) (bP : Binds K fdP ["_law_known_here"] []) (mP : mg "_law_pairs" = some (.ref fP)) (mt : mg "tuple" = none) (ml : mg "list" = none) :
    FnOk P w K mg base CX0 2 f fd ["_law_lot_here", "_law_facts_here", "_law_known_here"] spFits := by
  refine F.ok scFits (fun vs H Q E h => ?_) (fun cdv A outer s H vs Q E hr h => ?_)
  · obtain ⟨q, fl, k, ps, xs, kn, cs, vs, rfl, _⟩ := h
    rfl
  · obtain ⟨q, fl, k, ps, xs, kn, cs, vs, rfl, hq, hps, few, hfl, hxs, okx, S, hk, nk, k10, okk, kk⟩ := h
    have hu := hr.units
    refine ⟨_, pss_cons (ps_set (i := 3) scFits.nd rfl (Or.inl rfl) (pe_lst (pa_cons (pv 2) pa_nil)))
      (pss_cons (ps_for PassesOwn.never rfl (pi_list (pv 0)) (pg_name (i := 4) scFits.nd rfl (Or.inl rfl))
        (pss_cons (ps_set (i := 5) scFits.nd rfl (Or.inr rfl) (pe_dnewNK (P := P) (w := w) rfl rfl))
        (pss_cons (ps_for PassesOwn.never rfl (pi_list (pv 3)) (pg_name (i := 6) scFits.nd rfl (Or.inl rfl))
          (pss_one (ps_for PassesOwn.never rfl (pi_list (pv 1)) (pg_name (i := 7) scFits.nd rfl (Or.inl rfl))
            (pss_one (ps_for PassesOwn.never rfl (pi_list (pe_call GM hr (by rfl) mM keepM bM .nil pass0 (pa_cons (pv 4) (pa_cons (pv 7) (pa_cons (pv 6) pa_nil))))) (pg_name (i := 8) scFits.nd rfl (Or.inl rfl))
              (pss_one (ps_dputNK (K := K) (P := P) (w := w) rfl rfl rfl hu (pv 5) (pe_callTy (call_tuplePTK (K := K) rfl) (by rfl) mt (by decide +kernel) (pa_cons (pe_call GP hr (by rfl) mP kP bP .nil pass0 (pa_cons (pv 8) pa_nil)) pa_nil)) (pv 8) (by rfl))))))))
        (pss_one (ps_setLc (i := 3) (own := [("_law_key", 9)]) (g := gName 9) (tt := tYes) rfl scFits.nd rfl rfl (sw_true rfl rfl rfl (by decide +kernel)) (pi_list (pe_callTy (call_listNK (K := K) (P := P) (w := w) rfl rfl rfl rfl) (by rfl) ml (by decide +kernel) (pa_cons (pv 5) pa_nil)))
          (blkOk_by (own := [("_law_key", 9)]) (N := nFits) (sc := defScope sFits) (by decide +kernel)) (fun _ _ _ _ _ => pg_name (i := 9) scFits.nd rfl (Or.inl rfl)) (fun _ _ _ _ _ => pts_nil) (fun _ _ _ _ _ => pe_dgetNK (K := K) (P := P) (w := w) rfl rfl rfl hu (pv 5) (pv 9) (fun _ _ => rfl)))))))
      (pss_one (ps_ret (pv 3)))), ?_⟩
    have hd0 : ∀ p ∈ ps, ∀ z, p.2[0]? = some z → isV z = false := fun p m => (hps p m).2.1.1.hd
    have s64 : ∀ {i : Nat} {ms : List Prs2}, Fnd kn (GOf xs) ((ps.take i).map (·.2)) ms → ms.length ≤ 64 := fun {i ms} h =>
      h.few nk S.small (fun P m => by obtain ⟨p, mp, rfl⟩ := List.mem_map.mp m; exact hd0 p (List.mem_of_mem_take mp)) fun P m => by obtain ⟨p, mp, rfl⟩ := List.mem_map.mp m; exact (hps p (List.mem_of_mem_take mp)).2.1.2
    have short : ∀ {i : Nat} {ms : List Prs2}, Fnd kn (GOf xs) ((ps.take i).map (·.2)) ms → ∀ m ∈ ms, m.length ≤ 13 := fun {i ms} h m mm => by
      have := (h.fit m mm).short (vs := vs) fun P m => by obtain ⟨p, mp, rfl⟩ := List.mem_map.mp m; exact (hps p (List.mem_of_mem_take mp)).2.1.2
      have := S.v3
      omega
    refine ⟨_, rfl, by show 1 ≤ sizeLine; decide, fun lf nlf => ?_⟩
    have s1 : Same H (upd H lf (.lst [.ref k])) := same_new nlf
    have c1 : (upd H lf (.lst [.ref k])) lf = some (.lst [.ref k]) := upd_same
    generalize upd H lf (.lst [.ref k]) = H1 at s1 c1 ⊢
    refine ⟨_, rfl, q, rfl, ⟨_, SqL.of (s1 _ _ hq)⟩, for_it (L2.walk_list (K := K)) (fun i σ H5 => ∃ (lf : Addr) (ds : List Addr) (ms : List Prs2) (v4 v5 v6 v7 v8 : Option V), σ = [some (.ref q), some (.ref fl), some (.ref k), some (.ref lf), v4, v5, v6, v7, v8, none] ∧ Same H H5 ∧ H5 lf = some (.lst (ds.map V.ref)) ∧
        Paired (MapAt H5) ds ms ∧ Fnd kn (GOf xs) ((ps.take i).map (·.2)) ms ∧ ∀ m ∈ ms, ∀ r ∈ m, PyData.strOk r.1 = true ∧ PyData.strOk r.2 = true)
      ⟨lf, [k], [kn], none, none, none, none, none, rfl, s1, c1, .cons (hk.same s1) .nil, Fnd.start S.kk nk, fun m mm r mr => okk r (by rw [List.mem_singleton.mp mm] at mr; exact mr)⟩
      (fun i σ H5 _ pp => let ⟨_, _, _, _, _, _, _, _, _, s, _⟩ := pp; SqL.of (s _ _ hq)) (fun i z σ H5' H5 hi pp yy => ?_) (fun σ H5 pp => ?_)⟩
    rotate_left
    · obtain ⟨lf, ds, ms, v4, v5, v6, v7, v8, rfl, s5, hl, pr, fnd, okm⟩ := pp
      have e : ps.take (refs ps).length = ps := by rw [show (refs ps).length = ps.length from List.length_map _, List.take_length]
      refine ⟨_, rfl, kk lf ds ms H5 s5 hl pr (by rw [← e]; exact fnd) (fun m mm => ⟨(fnd.fit m mm).1, by have := short fnd m mm; omega, okm m mm⟩) (s64 fnd)⟩
    obtain ⟨lf, ds, ms, v4, v5, v6, v7, v8, rfl, s5, hl, pr, fnd, okm⟩ := pp
    obtain ⟨rfl, hz⟩ := yy
    rw [List.getElem?_map] at hz
    obtain ⟨p, hp, rfl⟩ := Option.map_eq_some_iff.mp hz
    have mp := List.mem_of_getElem? hp
    obtain ⟨pp0, pok, psok⟩ := hps p mp
    obtain ⟨T, ps', eP⟩ : ∃ T ps', p.2 = T :: ps' := by
      cases e : p.2 with
      | nil => exact absurd e pok.1.ne
      | cons T r => exact ⟨T, r, rfl⟩
    have hT : isV T = false := pok.1.hd T (by rw [eP]; rfl)
    have m64 := s64 fnd
    have m13 := short fnd
    have lds := Paired.length pr
    intro d nd
    have s6 : Same H5 (upd H5 d (DctN P w d [])) := same_new nd
    have c6 : (upd H5 d (DctN P w d [])) d = some (DctN P w d []) := upd_same
    generalize upd H5 d (DctN P w d []) = H6 at s6 c6 ⊢
    have lfd : lf ≠ d := ne_of_none hl nd
    have fld : fl ≠ d := ne_of_none (s5 _ _ hfl) nd
    have hl6 := s6 _ _ hl
    have hfl6 := s6 _ _ (s5 _ _ hfl)
    obtain ⟨St, eSt⟩ : ∃ St : Nat → Nat → Prs2 → Prop, St = fun a b m' => ∃ a' b' m x, ms[a']? = some m ∧ xs[b']? = some x ∧ (a' < a ∨ (a' = a ∧ b' < b)) ∧ metM m p.2 x.2 = some m' := ⟨_, rfl⟩
    obtain ⟨I, eI⟩ : ∃ I : Nat → Nat → L2.St → Hp → Prop, I = fun a b σ H7 => ∃ (rs : List (NRow × Prs2)) (v6 v7 v8 : Option V), σ = [some (.ref q), some (.ref fl), some (.ref k), some (.ref lf), some (.ref p.1), some (.ref d), v6, v7, v8, none] ∧ (∀ c o, c ≠ d → H6 c = some o → H7 c = some o) ∧
        RInv K P w H7 d rs (St a b) ∧ rs.length ≤ 8 * a + b ∧ ∀ y ∈ rs, ∀ r ∈ y.2, PyData.strOk r.1 = true ∧ PyData.strOk r.2 = true := ⟨_, rfl⟩
    have i00 : I 0 0 [some (.ref q), some (.ref fl), some (.ref k), some (.ref lf), some (.ref p.1), some (.ref d), v6, v7, v8, none] H6 := by
      rw [eI]
      refine ⟨[], v6, v7, v8, rfl, fun c o _ e => e, ⟨⟨c6, fun r m => (nomatch m)⟩, fun x m => (nomatch m), fun m g => ?_, List.nodup_nil⟩, Nat.zero_le _, fun y m => (nomatch m)⟩
      rw [eSt] at g
      obtain ⟨a', b', _, _, _, _, c, _⟩ := g
      omega
    refine ⟨_, rfl, lf, rfl, ⟨_, SqL.of hl6⟩, for_it (L2.walk_list (K := K)) (fun a σ H7 => I a 0 σ H7) i00 (fun a σ H7 _ pp => by rw [eI] at pp; obtain ⟨_, _, _, _, _, k7, _⟩ := pp; exact SqL.of (k7 _ _ lfd hl6)) (fun a z σ H7' H7 ha pp yy => ?_) (fun σ H7 pp => ?_)⟩
    · obtain ⟨rfl, hz2⟩ := yy
      rw [List.getElem?_map] at hz2
      obtain ⟨dm, hdm, rfl⟩ := Option.map_eq_some_iff.mp hz2
      obtain ⟨m, hm, hmd⟩ := Paired.at_ pr hdm
      have mm := List.mem_of_getElem? hm
      rw [eI] at pp
      obtain ⟨rs, v6, v7, v8, rfl, k7, ri, lrs, okr⟩ := pp
      have dmd : dm ≠ d := ne_of_none (show H5 dm = some (.dK (kd m)) from hmd) nd
      have ia0 : I a 0 [some (.ref q), some (.ref fl), some (.ref k), some (.ref lf), some (.ref p.1), some (.ref d), some (.ref dm), v7, v8, none] H7 := by
        rw [eI]
        exact ⟨rs, _, _, _, rfl, k7, ri, lrs, okr⟩
      obtain ⟨J, eJ⟩ : ∃ J : Nat → L2.St → Hp → Prop, J = fun b σ H8 => ∃ (rs : List (NRow × Prs2)) (v7 v8 : Option V), σ = [some (.ref q), some (.ref fl), some (.ref k), some (.ref lf), some (.ref p.1), some (.ref d), some (.ref dm), v7, v8, none] ∧ (∀ c o, c ≠ d → H6 c = some o → H8 c = some o) ∧
          RInv K P w H8 d rs (St a b) ∧ rs.length ≤ 8 * a + b ∧ ∀ y ∈ rs, ∀ r ∈ y.2, PyData.strOk r.1 = true ∧ PyData.strOk r.2 = true := ⟨_, rfl⟩
      refine ⟨_, rfl, fl, rfl, ⟨_, SqL.of (k7 _ _ fld hfl6)⟩, for_it (L2.walk_list (K := K)) (fun b σ H8 => J b σ H8) (by rw [eJ]; exact ⟨rs, _, _, rfl, k7, ri, lrs, okr⟩) (fun b σ H8 _ pp => by rw [eJ] at pp; obtain ⟨_, _, _, _, k8, _⟩ := pp; exact SqL.of (k8 _ _ fld hfl6)) (fun b z σ H8' H8 hb pp yy => ?_) (fun σ H8 pp => ?_)⟩
      rotate_left
      · rw [eJ] at pp
        obtain ⟨rs, v7, v8, rfl, k8, ri8, lrs8, okr8⟩ := pp
        rw [show (refs xs).length = xs.length from List.length_map _] at ri8 lrs8
        rw [eI]
        refine ⟨rs, _, _, _, rfl, k8, ri8.weak fun m' => ?_, by have := S.x8; omega, okr8⟩
        rw [eSt]
        constructor
        · rintro ⟨a', b', m2, x2, g1, g2, g3, g4⟩
          exact ⟨a', b', m2, x2, g1, g2, by omega, g4⟩
        · rintro ⟨a', b', m2, x2, g1, g2, g3, g4⟩
          have := (List.getElem?_eq_some_iff.mp g2).1
          exact ⟨a', b', m2, x2, g1, g2, by omega, g4⟩
      obtain ⟨rfl, hz3⟩ := yy
      rw [List.getElem?_map] at hz3
      obtain ⟨x, hx, rfl⟩ := Option.map_eq_some_iff.mp hz3
      have mx := List.mem_of_getElem? hx
      rw [eJ] at pp
      obtain ⟨rs, v7, v8, rfl, k8, ri8, lrs8, okr8⟩ := pp
      have dk8 : ∀ c xs', H5 c = some (.tup xs') → c ≠ d := fun c xs' e z => by rw [z] at e; rw [e] at nd; cases nd
      have s58 : ∀ c o, H5 c = some o → H8 c = some o := fun c o e => k8 _ _ (ne_of_none e nd) (s6 _ _ e)
      have new : ∀ m', metM m p.2 x.2 = some m' → ∀ m2, (St a b m2 ∨ m2 = m') ↔ St a (b + 1) m2 := fun m' e m2 => by
        rw [eSt]
        constructor
        · rintro (⟨a', b', m3, x3, g1, g2, g3, g4⟩ | rfl)
          · exact ⟨a', b', m3, x3, g1, g2, by omega, g4⟩
          · exact ⟨a, b, m, x, hm, hx, by omega, e⟩
        · rintro ⟨a', b', m3, x3, g1, g2, g3, g4⟩
          by_cases c : a' = a ∧ b' = b
          · rw [c.1, hm] at g1
            rw [c.2, hx] at g2
            cases g1
            cases g2
            rw [e] at g4
            exact .inr (Option.some.inj g4).symm
          · exact .inl ⟨a', b', m3, x3, g1, g2, by omega, g4⟩
      have none_ : metM m p.2 x.2 = none → ∀ m2, St a b m2 ↔ St a (b + 1) m2 := fun e m2 => by
        rw [eSt]
        constructor
        · rintro ⟨a', b', m3, x3, g1, g2, g3, g4⟩
          exact ⟨a', b', m3, x3, g1, g2, by omega, g4⟩
        · rintro ⟨a', b', m3, x3, g1, g2, g3, g4⟩
          refine ⟨a', b', m3, x3, g1, g2, ?_, g4⟩
          by_cases c : a' = a ∧ b' = b
          · rw [c.1, hm] at g1
            rw [c.2, hx] at g2
            cases g1
            cases g2
            rw [e] at g4
            cases g4
          · omega
      have xo := S.ok.each x mx
      have pp8 : PtR H8 p.1 p.2 := pp0.same fun c o e => s58 c o (s5 _ _ e)
      refine ⟨_, rfl, _, rfl, _, rfl, p.1, x.1, dm, p.2, x.2, m, rfl, pp8, pok.1, s58 _ _ (s5 _ _ (hxs x mx)), xo.1, xo.2, s58 _ _ hmd, by have := m13 m mm; omega, fun e l H9 s9 nl hl9 => ?_, fun m' d1 l H9 e s9 nd1 nl hd1 hl9 => ?_⟩
      · refine ⟨l, rfl, ⟨_, SqL.of hl9⟩, for_it (L2.walk_list (K := K)) (fun j σ H10 => J (b + 1) σ H10 ∧ H10 l = some (.lst [])) ⟨?_, hl9⟩ (fun j σ H10 _ pp => SqL.of pp.2) (fun j z σ H10' H10 hj pp yy => ?_) (fun σ H10 pp => pp.1)⟩
        · rw [eJ]
          exact ⟨rs, _, _, rfl, fun c o nc e2 => s9 _ _ (k8 _ _ nc e2), (ri8.same s9).weak (none_ e), by omega, okr8⟩
        · obtain ⟨_, hz4⟩ := yy
          simp at hz4
      · have ld : l ≠ d := fun z => by rw [z, ri8.ok.1] at nl; cases nl
        refine ⟨l, rfl, ⟨_, SqL.of hl9⟩, for_it (L2.walk_list (K := K)) (fun j σ H10 => (j = 0 ∧ σ = [some (.ref q), some (.ref fl), some (.ref k), some (.ref lf), some (.ref p.1), some (.ref d), some (.ref dm), some (.ref x.1), v8, none] ∧ H10 = H9) ∨ (0 < j ∧ J (b + 1) σ H10 ∧ H10 l = some (.lst [.ref d1]))) (.inl ⟨rfl, rfl, rfl⟩)
          (fun j σ H10 _ pp => by rcases pp with ⟨_, _, rfl⟩ | ⟨_, _, h⟩ <;> first | exact SqL.of hl9 | exact SqL.of h) (fun j z σ H10' H10 hj pp yy => ?_) (fun σ H10 pp => by rcases pp with ⟨c, _, _⟩ | ⟨_, h, _⟩ <;> first | exact h | (simp at c))⟩
        obtain ⟨rfl, hz4⟩ := yy
        rcases pp with ⟨rfl, rfl, rfl⟩ | ⟨c, _, _⟩
        rotate_left
        · have := (List.getElem?_eq_some_iff.mp hz4).1
          simp at this
          omega
        have ez : V.ref d1 = z := Option.some.inj hz4
        subst ez
        have fm' : FM kn (GOf xs) ((ps.take i).map (·.2) ++ [T :: ps']) m' := by
          rw [eP] at e
          cases ex : x.2 with
          | nil => exact absurd ex xo.1
          | cons U f =>
            rw [ex] at e
            have e' : (if T = U ∧ ps'.length = f.length then metL m ps' f else none) = some m' := e
            split at e'
            · rename_i c
              refine ((fnd.fit m mm).met S.kk hT ?_ e').1
              show T :: f ∈ tms xs
              rw [c.1, ← ex]
              exact List.mem_map_of_mem mx
            · cases e'
        have m'13 : m'.length ≤ 13 := by
          have := fm'.short (vs := vs) fun R mR => by
            rcases List.mem_append.mp mR with mR | mR
            · obtain ⟨p2, mp2, rfl⟩ := List.mem_map.mp mR
              exact (hps p2 (List.mem_of_mem_take mp2)).2.1.2
            · rw [List.mem_singleton.mp mR, ← eP]
              exact pok.2
          have := S.v3
          omega
        have ok' : ∀ r ∈ m', PyData.strOk r.1 = true ∧ PyData.strOk r.2 = true := fun r mr => by
          rw [eP] at e
          cases ex : x.2 with
          | nil => exact absurd ex xo.1
          | cons U f =>
            rw [ex] at e
            have e' : (if T = U ∧ ps'.length = f.length then metL m ps' f else none) = some m' := e
            split at e'
            · rcases metL_mem e' r mr with g | ⟨g1, g2⟩
              · exact okm m mm r g
              · exact ⟨psok _ (by rw [eP]; exact List.mem_cons_of_mem _ g1), okx x mx _ (by rw [ex]; exact List.mem_cons_of_mem _ g2)⟩
            · cases e'
        refine ⟨_, rfl, _, rfl, _, rfl, d1, m', rfl, hd1, fm'.1, by omega, fun H11 l2 ts s11 nl2 pa tn => ⟨l2, ts, rfl, SqL.of pa.sq, fun t nt => ?_⟩⟩
        have s12 : Same H11 (upd H11 t (PTu t ts)) := same_new nt
        have c12 : (upd H11 t (PTu t ts)) t = some (PTu t ts) := upd_same
        generalize upd H11 t (PTu t ts) = H12 at s12 c12 ⊢
        have s812 := s9.trans (s11.trans s12)
        have ri12 := ri8.same s812
        have hd12 := ri12.ok.1
        have td : t ≠ d := fun z => by
          rw [z, (ri8.same (s9.trans s11)).ok.1] at nt
          cases nt
        have pt : PtOk H12 (t, kM (canon m')) := ⟨ts, canon m', c12, rfl, Paired.mapP pa.each fun u r e2 => s12 _ _ e2⟩
        refine ⟨d, rs.map Prod.fst, (t, kM (canon m')), d1, rfl, rfl, rfl, ri12.ok, ⟨.inr pt, Nat.le_trans (depth_kM _) (by decide)⟩, by rw [List.length_map] at ha ⊢; have := (List.getElem?_eq_some_iff.mp hx).1; have := S.x8; omega, ?_⟩
        refine .inr ⟨Nat.succ_pos _, ?_, by rw [upd_ne ld]; exact s12 _ _ (s11 _ _ hl9)⟩
        rw [eJ]
        refine ⟨putR rs (t, kM (canon m')) d1 m', _, _, rfl, fun c o nc e2 => ?_, (ri12.put (s12 _ _ (s11 _ _ hd1)) pt td).weak (new m' e), ?_, fun y my r mr => ?_⟩
        · rw [upd_ne nc]
          exact s812 _ _ (k8 _ _ nc e2)
        · have := putR_len rs (t, kM (canon m')) d1 m'
          omega
        · rcases putR_mem my with my | ⟨_, _, e3, _⟩
          · exact okr8 y my r mr
          · rw [e3] at mr
            exact ok' r mr
    · rw [eI] at pp
      obtain ⟨rs, v6, v7, v8, rfl, k7, ri, lrs, okr⟩ := pp
      rw [List.length_map, lds] at ri lrs
      have rs1000 : rs.length ≤ 1000 := by omega
      refine ⟨_, rfl, d, rs.map Prod.fst, rfl, ri.ok, by rw [List.length_map]; omega, fun l nl => ?_⟩
      rw [List.map_map]
      have s8 : Same H7 (upd H7 l (.lst (rs.map ((fun r : NRow => V.ref r.1.1) ∘ Prod.fst)))) := same_new nl
      have c8 : (upd H7 l (.lst (rs.map ((fun r : NRow => V.ref r.1.1) ∘ Prod.fst)))) l = some (.lst (rs.map fun x => V.ref x.1.1.1)) := upd_same
      generalize upd H7 l (.lst (rs.map ((fun r : NRow => V.ref r.1.1) ∘ Prod.fst))) = H8 at s8 c8 ⊢
      refine ⟨l, rfl, ⟨_, SqL.of c8⟩, fun D nD => ?_⟩
      have ri8 := ri.same s8
      refine lc_sift (ms := rs) (val := fun x : NRow × Prs2 => V.ref x.1.1.1) (L2.walk_list (K := K)) (List.length_map _) (fun _ => true) (fun x => V.ref x.1.2) nD rs1000 (fun H' s' => SqL.of (s' _ _ c8)) (fun x mx H9 Yes No s9 yes no => ?_) (fun H9 s9 hL => ?_)
      · refine ⟨rfl, ?_⟩
        dsimp only [tYes]
        rw [if_pos rfl]
        have ri9 := ri8.same s9
        refine ⟨_, rfl, _, rfl, d, rs.map Prod.fst, x.1.1, x.1.2, rfl, rfl, ri9.ok, ri9.ok.2 _ (List.mem_map_of_mem mx), ?_, yes _ (Same.refl _) rfl⟩
        rw [find_row (rows := rs.map Prod.fst) (by rw [List.map_map]; exact ri.nd) (List.mem_map_of_mem mx)]
        rfl
      · rw [List.filter_eq_self.mpr (fun _ _ => rfl)] at hL
        have ri9 := ri8.same s9
        have tk : (ps.take (i + 1)).map (·.2) = (ps.take i).map (·.2) ++ [T :: ps'] := by rw [take_snoc hp, List.map_append, ← eP]; rfl
        have pr9 : Paired (MapAt H9) (rs.map fun x => x.1.2) (rs.map Prod.snd) := paired_of (R := MapAt H9) (f := fun x : NRow × Prs2 => x.1.2) (g := Prod.snd) fun x mx => (ri9.each x mx).1
        refine ⟨D, rs.map fun x => x.1.2, rs.map Prod.snd, _, _, _, _, _, rfl, fun c o e => ?_, by rw [hL, List.map_map]; rfl, pr9, ?_, fun m mm r mr => ?_⟩
        · have e5 := s5 _ _ e
          exact s9 _ _ (s8 _ _ (k7 _ _ (ne_of_none e5 nd) (s6 _ _ e5)))
        · rw [tk]
          refine Fnd.next S.kk nk hT fnd (St ms.length 0) (fun m' => ?_) (fun x mx => ⟨(ri.each x mx).2.1, (ri.each x mx).2.2.2.1⟩) ri.all ri.nd
          rw [eSt, ← eP]
          constructor
          · rintro ⟨a', b', m2, x2, g1, g2, g3, g4⟩
            exact ⟨m2, List.mem_of_getElem? g1, x2.2, List.mem_map_of_mem (List.mem_of_getElem? g2), g4⟩
          · rintro ⟨m2, mm2, f2, g2, g4⟩
            obtain ⟨a', ha'⟩ := List.getElem?_of_mem mm2
            obtain ⟨x2, mx2, rfl⟩ := List.mem_map.mp g2
            obtain ⟨b', hb'⟩ := List.getElem?_of_mem mx2
            exact ⟨a', b', m2, x2, ha', hb', .inl (List.getElem?_eq_some_iff.mp ha').1, g4⟩
        · obtain ⟨x, mx, rfl⟩ := List.mem_map.mp mm
          exact okr x mx r mr
end
end L2.Rws
set_option Elab.async false
set_option linter.all false
set_option maxRecDepth 100000
set_option maxHeartbeats 4000000
/-! _law_right. -/
namespace L2.Rws
open PySem PySem.Spec PyProof.Rows L2.LawH L2.SetT L2.Frz L2.NSet L2.NDict
open L2.TxtDict (Prs2 kd)
open L2.LstNe
abbrev sRgt : Stmt := top 81
theorem strs_eqv (K : PySem.W.Frag) (H : Hp) : ∀ zs : List Str, Paired (EqV K H 1) (zs.map V.str) (zs.map V.str)
  | [] => .nil
  | z :: r => .cons (.inl ⟨rfl, rfl⟩) (strs_eqv K H r)
theorem map_eqv {K : PySem.W.Frag} {H : Hp} {d e : Addr} {m : Prs2} (n : (m.map Prod.fst).Nodup) (hd : MapAt H d m) (he : MapAt H e m) : EqV K H 2 (.ref d) (.ref e) := by
  refine .inr (.inr (.inr ⟨d, e, kd m, kd m, rfl, rfl, hd, he, rfl, fun p hp => ?_⟩))
  obtain ⟨r, hr, rfl⟩ := List.mem_map.mp hp
  exact ⟨.str r.2, by rw [val_kd, look_of n hr]; rfl, .inl ⟨rfl, rfl⟩⟩
theorem maps_eqv {K : PySem.W.Frag} {H : Hp} : ∀ {ds es : List Addr} {cs : List Prs2}, Paired (MapAt H) ds cs → Paired (MapAt H) es cs → (∀ c ∈ cs, (c.map Prod.fst).Nodup) → Paired (EqV K H 2) (ds.map V.ref) (es.map V.ref)
  | _, _, _, .nil, .nil, _ => .nil
  | _, _, _, .cons r t, .cons r' t', n => .cons (map_eqv (n _ List.mem_cons_self) r r') (maps_eqv t t' fun c h => n c (List.mem_cons_of_mem _ h))
theorem keys_kd (m : Prs2) : ((kd m).map fun kv => kV kv.1) = (m.map Prod.fst).map V.str := by
  unfold kd
  rw [List.map_map, List.map_map]
  rfl
theorem paired_zip {α β : Type} {R : α → β → Prop} : ∀ {l : List α} {l' : List β}, Paired R l l' → ∃ zs : List (α × β), l = zs.map Prod.fst ∧ ∀ z ∈ zs, R z.1 z.2 ∧ z.2 ∈ l'
  | _, _, .nil => ⟨[], rfl, fun z m => (nomatch m)⟩
  | _, _, .cons (a := a) (b := b) r t => by
    obtain ⟨zs, e, h⟩ := paired_zip t
    refine ⟨(a, b) :: zs, by rw [List.map_cons, ← e], fun z m => ?_⟩
    rcases List.mem_cons.mp m with q | m
    · rw [q]; exact ⟨r, List.mem_cons_self⟩
    · exact ⟨(h z m).1, List.mem_cons_of_mem _ (h z m).2⟩
def spRgt : Sp := fun us H Q _ => ∃ (a b : Addr) (ds es : List Addr) (cs : List Prs2), us = [.ref a, .ref b] ∧ H a = some (.lst (ds.map V.ref)) ∧ H b = some (.lst (es.map V.ref)) ∧ Paired (MapAt H) ds cs ∧ Paired (MapAt H) es cs ∧ cs.length ≤ 100 ∧
  (∀ c ∈ cs, (c.map Prod.fst).Nodup ∧ Asc (c.map Prod.fst) ∧ c.length ≤ 20) ∧ ∀ H', Same H H' → Q (.bl true) H'
section
variable {P : Program} {w : World} {K : PySem.W.Frag} {mg : Str → Option Value} {base : Heap}
abbrev nRg : List Str := ["_law_told", "_law_due", "_law_known_here"]
theorem scRg : FnScope nRg ["_law_told", "_law_due"] (defScope sRgt) := ⟨rfl, rfl, rfl, by decide +kernel, rfl, by decide +kernel, by decide +kernel⟩
theorem ok_rgt {f : Addr} {fd : FuncData} (F : Fun K "_law_right" "_law_right" sRgt f fd) (ml : mg "list" = none) (ms : mg "sorted" = none) : FnOk P w K mg base CX0 1 f fd ["_law_told", "_law_due"] spRgt := by
  refine F.ok scRg (fun vs H Q E h => ?_) (fun cdv A outer s H vs Q E hr h => ?_)
  · obtain ⟨a, b, ds, es, cs, rfl, _⟩ := h
    rfl
  · obtain ⟨a, b, ds, es, cs, rfl, ha, hb, pa, pb, few, okc, k⟩ := h
    have hu := hr.units
    refine ⟨_, pss_cons (ps_if (pt_cmpR (op_neVK (K := K) rfl hu) (pv 0) (pv 1) (nomark _)) (pss_one (ps_ret pe_bl)) pss_nil)
      (pss_one (ps_ret (pe_cmpR (op_eqDK (K := K) rfl hu) (pe_lc (own := [("_law_known_here", 2)]) (g := gName 2) (tt := tB (tOp (rNeV K) (tCB (fun xs H Q => ∃ (a : Addr) (kvs : List (Key × V)), xs = [V.ref a] ∧ Rd H a (.dK kvs) ∧ ∀ p, H p = none → Q (.ref p) (upd H p (.lst (kvs.map fun kv => kV kv.1)))) (tCons (tVar 2) tNil))
          (tCB (rSortedS K) (tCons (tCB (fun xs H Q => ∃ (a : Addr) (kvs : List (Key × V)), xs = [V.ref a] ∧ Rd H a (.dK kvs) ∧ ∀ p, H p = none → Q (.ref p) (upd H p (.lst (kvs.map fun kv => kV kv.1)))) (tCons (tVar 2) tNil)) tNil)))) rfl scRg.nd (pi_list (pv 0)) (blkOk_by (own := [("_law_known_here", 2)]) (N := nRg) (sc := defScope sRgt) (by decide +kernel)) (fun _ _ _ _ _ => pg_name (i := 2) scRg.nd rfl (Or.inl rfl))
        (fun _ _ _ _ _ => pts_one (pt_cmpR (op_neVK (K := K) rfl hu) (pe_callTy (call_listD rfl) (by rfl) ml (by decide +kernel) (pa_cons (pv 2) pa_nil)) (pe_callB cr_sortedS (by rfl) ms (by decide +kernel) (pa_cons (pe_callTy (call_listD rfl) (by rfl) ml (by decide +kernel) (pa_cons (pv 2) pa_nil)) pa_nil)) (nomark _)))
        (fun _ _ _ _ _ => pv 2)) (pe_lst pa_nil) (nomark _)))), ?_⟩
    refine ⟨_, rfl, _, rfl, 2, by decide, ⟨a, b, _, _, rfl, rfl, SqL.of ha, SqL.of hb, maps_eqv pa pb fun c m => (okc c m).1⟩, _, rfl, iteF ?_⟩
    obtain ⟨zs, e1, e2⟩ := paired_zip pa
    subst e1
    have okz : ∀ z ∈ zs, MapAt H z.1 z.2 ∧ (z.2.map Prod.fst).Nodup ∧ Asc (z.2.map Prod.fst) ∧ z.2.length ≤ 20 := fun z m => ⟨(e2 z m).1, okc _ (e2 z m).2⟩
    have lz : zs.length ≤ 100 := by
      have := Paired.length pa
      rw [List.length_map] at this
      omega
    rw [show (zs.map Prod.fst).map V.ref = zs.map fun z => V.ref z.1 by rw [List.map_map]; rfl] at ha
    refine ⟨_, rfl, a, rfl, ⟨_, SqL.of ha⟩, fun D nD => ?_⟩
    refine lc_sift (ms := zs) (val := fun z : Addr × Prs2 => V.ref z.1) (L2.walk_list (K := K)) (List.length_map _) (fun _ => false) (fun z => V.ref z.1) nD (by omega) (fun H' s' => ?_) (fun z mz H5 Yes No s5 yes no => ?_) (fun H5 s5 hL => ?_)
    · exact SqL.of (s' _ _ ha)
    · obtain ⟨hm, ndk, ac, l20⟩ := okz z mz
      refine ⟨rfl, ?_⟩
      refine ⟨_, rfl, z.1, kd z.2, rfl, .inl (s5 _ _ hm), fun l1 nl1 => ?_⟩
      rw [keys_kd]
      have s6 : Same H5 (upd H5 l1 (.lst ((z.2.map Prod.fst).map V.str))) := same_new nl1
      have c6 : (upd H5 l1 (.lst ((z.2.map Prod.fst).map V.str))) l1 = some (.lst ((z.2.map Prod.fst).map V.str)) := upd_same
      generalize upd H5 l1 (.lst ((z.2.map Prod.fst).map V.str)) = H6 at s6 c6 ⊢
      refine ⟨_, rfl, z.1, kd z.2, rfl, .inl (s6 _ _ (s5 _ _ hm)), fun l2 nl2 => ?_⟩
      rw [keys_kd]
      have s7 : Same H6 (upd H6 l2 (.lst ((z.2.map Prod.fst).map V.str))) := same_new nl2
      have c7 : (upd H6 l2 (.lst ((z.2.map Prod.fst).map V.str))) l2 = some (.lst ((z.2.map Prod.fst).map V.str)) := upd_same
      generalize upd H6 l2 (.lst ((z.2.map Prod.fst).map V.str)) = H7 at s7 c7 ⊢
      refine ⟨l2, z.2.map Prod.fst, rfl, SqL.of c7, by rw [List.length_map]; omega, fun ys l3 pm as nl3 => ?_⟩
      have ey : ys = z.2.map Prod.fst := asc_one (asc_all as) ac pm
      rw [ey]
      have s8 : Same H7 (upd H7 l3 (.lst ((z.2.map Prod.fst).map V.str))) := same_new nl3
      refine ⟨1, by decide, ⟨l1, l3, _, _, rfl, rfl, SqL.of (s8 _ _ (s7 _ _ c6)), SqL.of upd_same, strs_eqv K _ _⟩, _, rfl, iteF ?_⟩
      exact no _ (s6.trans (s7.trans s8)) rfl
    · rw [List.filter_eq_nil_iff.mpr (fun _ _ => by decide)] at hL
      refine ⟨by show 0 ≤ sizeLine; decide, fun l nl => ?_⟩
      have s6 : Same H5 (upd H5 l (.lst [])) := same_new nl
      refine ⟨.list [], .list [], .lst (SqL.of (s6 _ _ hL)) .nil, .lst (SqL.of upd_same) .nil, by rfl, by decide, ?_⟩
      rw [show PyData.eqv (.list []) (.list []) = true by simp [PyData.eqv, PyData.eqvAll]]
      exact k _ (s5.trans s6)
end
end L2.Rws
set_option Elab.async false
set_option linter.all false
set_option maxRecDepth 100000
set_option maxHeartbeats 4000000
/-! The law's things as the program's: facts, patterns, the Store. -/
namespace L2.Rws
open PySem PySem.Spec PyProof.Rows L2.LawH L2.SetT L2.Frz L2.NSet L2.NDict
open L2.TxtDict (Prs2 kd)
theorem nm_notV {z : Str} (h : Nm z) : isV z = false := by
  have h' : nmB z.cps.toList = true := h
  cases e : z.cps.toList with
  | nil => rw [e] at h'; cases h'
  | cons c r =>
    rw [← first_one e]
    rw [e] at h'
    simp only [nmB, Bool.and_eq_true, isLet, decide_eq_true_eq] at h'
    refine decide_eq_false fun q => ?_
    have q2 : (⟨#[c]⟩ : Str) = Str.ofString "?" := V.str.inj q
    have q3 : (⟨#[c]⟩ : Str).cps.toList = (Str.ofString "?").cps.toList := by rw [q2]
    have q4 : (Str.ofString "?").cps.toList = [63] := by decide +kernel
    rw [q4] at q3
    have : c = 63 := by simpa using q3
    omega
theorem vr_isV {z : Str} (h : Vr z) : isV z = true := by
  obtain ⟨y, ny, rfl⟩ := h
  have q4 : (Str.ofString "?").cps.toList = [63] := by decide +kernel
  have e : (Str.ofString "?" ++ y).cps.toList = 63 :: y.cps.toList := by rw [toList_append, q4]; rfl
  rw [← first_one e]
  exact decide_eq_true (by decide +kernel)
theorem nm_len {z : Str} (h : Nm z) : 1 ≤ z.length ∧ z.length ≤ 12 := by
  obtain ⟨_, h2, h3⟩ := nm_sgns h
  rw [length_toList] at h2 h3
  exact ⟨h3, h2⟩
theorem vr_len {z : Str} (h : Vr z) : 1 ≤ z.length ∧ z.length ≤ 13 := by
  obtain ⟨y, ny, rfl⟩ := h
  have := nm_len ny
  have c1 : (Str.ofString "?").length = 1 := by decide +kernel
  rw [← length_toList, toList_append, List.length_append, length_toList, length_toList, c1]
  omega
/-- facts and patterns as rows -/
def tx (x : Pt) : Tx := (x.1, x.2.1 :: x.2.2)
def txs (M : List Pt) : List Tx := M.map tx
theorem refs_txs (M : List Pt) : refs (txs M) = M.map fun x => V.ref x.1 := by
  unfold refs txs
  rw [List.map_map]
  rfl
theorem tms_txs (M : List Pt) : (txs M).map (·.2) = (M.map (·.2)).map fun c => c.1 :: c.2 := by
  unfold txs
  rw [List.map_map, List.map_map]
  rfl
theorem facts_ok {M : List Pt} {cs : List Str} (nd : (M.map (·.2)).Nodup) (few : M.length ≤ 8) (f : ∀ x ∈ M, Fct x.2 ∧ ∀ z ∈ x.2.2, z ∈ cs) : FctsOk (txs M) cs := by
  refine ⟨?_, by unfold txs; rw [List.length_map]; omega, fun x m => ?_, fun x m z hz => ?_⟩
  · rw [tms_txs]
    refine nd_map nd fun x _ y _ e => ?_
    injection e with e1 e2
    exact Prod.ext e1 e2
  · obtain ⟨y, my, rfl⟩ := List.mem_map.mp m
    refine ⟨fun e => (nomatch e), ?_⟩
    show (y.2.1 :: y.2.2).length ≤ 10
    rw [List.length_cons]
    have := (f y my).1.l3
    omega
  · obtain ⟨y, my, rfl⟩ := List.mem_map.mp m
    exact (f y my).2 z hz
theorem known_ok {a p : Addr} {H : Hp} {π : Pool} {kn : Prs2} (hp : PoolAt a H p π) (h : KnOf π kn) : KnOk kn := fun z v e => vr_isV (hp.nW z (h.key _ (look_mem e)))
theorem sit_of {a p : Addr} {H : Hp} {π : Pool} {kn : Prs2} {M : List Pt} (hp : PoolAt a H p π) (hk : KnOk kn) (nd : (M.map (·.2)).Nodup) (few : M.length ≤ 8) (f : ∀ x ∈ M, Fct x.2 ∧ ∀ z ∈ x.2.2, z ∈ π.C) : Sit (txs M) kn π.C (π.W.take 3) :=
  ⟨facts_ok nd few f, by unfold txs; rw [List.length_map]; exact few, hk, by rw [List.length_take]; omega, hp.C9⟩
theorem pat_ok {a p : Addr} {H : Hp} {π : Pool} {T : Str} {zs : List Str} (kn : Prs2) (hp : PoolAt a H p π) (h : PatOf π (π.W.take 3) T zs) : PatOk kn (π.W.take 3) (T :: zs) ∧ Sok (T :: zs) := by
  obtain ⟨x, mx, eT, el⟩ := h.tab
  obtain ⟨_, nT, n3, _⟩ := hp.hrow x mx
  rw [eT] at nT
  have each : ∀ z ∈ zs, Nm z ∨ (Vr z ∧ z ∈ π.W.take 3) := fun z m => (h.trm z m).imp (fun q => hp.nC z q) fun q => ⟨hp.nW z (List.mem_of_mem_take q), q⟩
  refine ⟨⟨⟨by simp, by rw [List.length_cons]; omega, fun z m => ?_, fun z e => ?_⟩, fun z m e => ?_⟩, fun z m => ?_⟩
  · rcases List.mem_cons.mp m with rfl | m
    · have := nm_len nT; omega
    · rcases each z m with q | ⟨q, _⟩
      · have := nm_len q; omega
      · have := vr_len q; omega
  · have : T = z := Option.some.inj e
    rw [← this]
    exact nm_notV nT
  · have iv : isV z = true := (Bool.and_eq_true_iff.mp e).1
    rcases List.mem_cons.mp m with rfl | m
    · rw [nm_notV nT] at iv; cases iv
    · rcases each z m with q | ⟨_, q⟩
      · rw [nm_notV q] at iv; cases iv
      · exact q
  · rcases List.mem_cons.mp m with rfl | m
    · exact nT.strOk
    · rcases each z m with q | ⟨q, _⟩
      · exact q.strOk
      · exact q.strOk
/-- a drawn lot as patterns -/
theorem lot_pats {a p q : Addr} {H H0 : Hp} {π : Pool} {xs : List Pt} (kn : Prs2) (hp : PoolAt a H0 p π) (h : LotF a π (π.W.take 3) H q xs) : H q = some (.lst (refs (txs xs))) ∧ ∀ y ∈ txs xs, PtR H y.1 y.2 ∧ PatOk kn (π.W.take 3) y.2 ∧ Sok y.2 := by
  refine ⟨by rw [refs_txs]; exact h.sq, fun y m => ?_⟩
  obtain ⟨x, mx, rfl⟩ := List.mem_map.mp m
  obtain ⟨o, od, e⟩ := h.each x mx
  exact ⟨.inr ⟨o, od, e⟩, pat_ok kn hp (h.pat x mx)⟩
/-- a Store just made -/
theorem store_new {C : Addr} {H : Hp} {a dx t d : Addr} {M : List Pt} (ha : H a = some (.ins C dx (fsS t d))) (ht : H t = some (.tup (M.map fun x => V.ref x.1))) (hM : ∀ x ∈ M, H x.1 = some (.tup (ptV x))) : StG C H a (txs M) :=
  ⟨⟨dx, t, d, .non, ha, by rw [refs_txs]; exact ht, .inl rfl⟩, fun y m => by obtain ⟨x, mx, rfl⟩ := List.mem_map.mp m; exact hM x mx⟩
end L2.Rws
set_option Elab.async false
set_option linter.all false
set_option maxRecDepth 100000
set_option maxHeartbeats 4000000
/-! The order of the known map does not matter; what the law's list is. No Python here. -/
namespace L2.Rws
open PySem PySem.Spec PyProof.Rows L2.LawH L2.SetT L2.Frz L2.NSet
open L2.TxtDict (Prs2 kd)
theorem fr_look {kn kn' : Prs2} (e : ∀ z, look kn z = look kn' z) (z : Str) : fr kn z = fr kn' z := by
  unfold fr
  rw [e z]
theorem Ext.look {kn kn' : Prs2} {μ : Str → Str} (e : ∀ z, look kn z = look kn' z) (h : Ext kn μ) : Ext kn' μ := ⟨h.con, fun z v q => h.old z v (by rw [e z]; exact q)⟩
theorem lookF_look {kn kn' : Prs2} (e : ∀ z, look kn z = look kn' z) (W : Tm) (μ : Str → Str) (z : Str) : lookF kn W μ z = lookF kn' W μ z := by
  unfold lookF
  rw [fr_look e z, e z]
theorem FM.look {kn kn' : Prs2} {G : Tm → Prop} {Ps : List Tm} {m : Prs2} (e : ∀ z, L2.LawH.look kn z = L2.LawH.look kn' z) (h : FM kn G Ps m) : FM kn' G Ps m := by
  obtain ⟨nd, μ, hμ, g, l⟩ := h
  exact ⟨nd, μ, hμ.look e, g, fun z => by rw [l z, lookF_look e]⟩
theorem OrdF.look {kn kn' : Prs2} {G : Tm → Prop} {Ps : List Tm} {cs : List Prs2} (e : ∀ z, L2.LawH.look kn z = L2.LawH.look kn' z) (h : OrdF kn G Ps cs) : OrdF kn' G Ps cs :=
  ⟨h.up, h.once, fun c => by
    rw [h.mem]
    exact ⟨fun ⟨m, a, b⟩ => ⟨m, a.look e, b⟩, fun ⟨m, a, b⟩ => ⟨m, a.look fun z => (e z).symm, b⟩⟩⟩
theorem look_rev {m : Prs2} (nd : (m.map Prod.fst).Nodup) (z : Str) : look m.reverse z = look m z :=
  look_ext (by rw [List.map_reverse]; exact (List.reverse_perm _).nodup_iff.mpr nd) nd (fun p => List.mem_reverse) z
theorem KnOk.look {kn kn' : Prs2} (e : ∀ z, L2.LawH.look kn z = L2.LawH.look kn' z) (h : KnOk kn) : KnOk kn' := fun z v q => h z v (by rw [e z]; exact q)
/-- the maps of the list: in order of their keys, short -/
theorem OrdF.each {kn : Prs2} {G : Tm → Prop} {Ps : List Tm} {cs : List Prs2} {vs : List Str} (h : OrdF kn G Ps cs) (hv : ∀ P ∈ Ps, ∀ z ∈ P, fr kn z = true → z ∈ vs) : ∀ c ∈ cs, (c.map Prod.fst).Nodup ∧ Asc (c.map Prod.fst) ∧ c.length ≤ kn.length + vs.length := fun c mc => by
  obtain ⟨m, fm, rfl⟩ := (h.mem c).mp mc
  refine ⟨canon_nd fm.1, ?_, by rw [canon_len]; exact fm.short hv⟩
  unfold Asc
  rw [List.pairwise_map]
  exact canon_pw m
/-- the first of the list, or none -/
theorem OrdF.head {kn : Prs2} {G : Tm → Prop} {Ps : List Tm} {cs : List Prs2} (h : OrdF kn G Ps cs) (nk : (kn.map Prod.fst).Nodup) : (NoFit kn G Ps ↔ cs = []) := by
  constructor
  · intro nf
    exact h.one (OrdF.none nf)
  · intro e μ hμ all
    obtain ⟨m, fm, _⟩ := fm_of nk hμ all
    have := (h.mem (canon m)).mpr ⟨m, fm, rfl⟩
    rw [e] at this
    cases this
/-- what the law's own walk and order tell is what the program tells -/
theorem due_is {kn kn' : Prs2} {G : Tm → Prop} {Ps : List Tm} {ms cs cs' : List Prs2} (e : ∀ z, L2.LawH.look kn z = L2.LawH.look kn' z) (f : Fnd kn G Ps ms) (o : Ordd ms cs) (h : OrdF kn' G Ps cs') : cs' = cs :=
  (h.look fun z => (e z).symm).one (Ordd.fits o f.fit f.all)
end L2.Rws
set_option Elab.async false
set_option linter.all false
set_option maxRecDepth 100000
set_option maxHeartbeats 4000000
/-! Generators whose consumer writes more than one list while they sleep. -/
namespace L2.GenF
open PySem PySem.Spec PyProof.Rows GenW
/-- while the generator sleeps only the consumer's own objects F change -/
structure SleptF (F : List Addr) (s s' : Shared) : Prop where
  os : s'.os = s.os
  bare : AllBare s'.gens
  keep : ∀ b o, b ∉ F → s.heap.get? b = some o → s'.heap.get? b = some o
  there : ∀ b ∈ F, ∃ o, s'.heap.get? b = some o ∧ ∀ v, o.data ≠ .cell v
def ApartF (X : Cx) (F : List Addr) : Prop := ∀ b ∈ F, X.s_0.heap.objs.size ≤ b ∧ b ≠ X.env.locals ∧ ∀ x c, X.env.cells.lookup x = some c → c ≠ b
/-- running; the consumer's objects lie apart -/
def GIF (X : Cx) (F : List Addr) (ip : List (Addr × Obj)) (σ : St) (H : Hp) (s₀ s : Shared) : Prop := ∃ pl : List (Addr × Obj), pl.map Prod.fst = F ∧ (∀ p ∈ pl, s₀.heap.get? p.1 = some p.2) ∧ Inv X (pl ++ ip) σ H s
theorem GIF.at {X : Cx} {F : List Addr} {ip : List (Addr × Obj)} {σ : St} {H : Hp} {s₀ s : Shared} (h : GIF X F ip σ H s₀ s) : ∀ b ∈ F, H b = none ∧ b ≠ X.env.locals ∧ b ∉ X.fs := fun b hb => by
  obtain ⟨pl, e, _, I⟩ := h
  rw [← e] at hb
  obtain ⟨p, mp, rfl⟩ := List.mem_map.mp hb
  obtain ⟨_, h2, h3, h4, _⟩ := I.pin p (List.mem_append_right _ (List.mem_append_left _ mp))
  exact ⟨h2, h3, h4⟩
theorem GIF.still {X : Cx} {F : List Addr} {ip : List (Addr × Obj)} {σ : St} {H : Hp} {s₀ s : Shared} (h : GIF X F ip σ H s₀ s) : ∀ b ∈ F, s.heap.get? b = s₀.heap.get? b := fun b hb => by
  obtain ⟨pl, e, h0, I⟩ := h
  rw [← e] at hb
  obtain ⟨p, mp, rfl⟩ := List.mem_map.mp hb
  rw [(I.pin p (List.mem_append_right _ (List.mem_append_left _ mp))).1, h0 p mp]
theorem pins_new {h : Heap} : ∀ {F : List Addr}, (∀ b ∈ F, ∃ o, h.get? b = some o ∧ ∀ v, o.data ≠ .cell v) → ∃ pl : List (Addr × Obj), pl.map Prod.fst = F ∧ ∀ p ∈ pl, h.get? p.1 = some p.2 ∧ ∀ v, p.2.data ≠ .cell v
  | [], _ => ⟨[], rfl, fun p m => (nomatch m)⟩
  | b :: F, g => by
    obtain ⟨o, e, c⟩ := g b List.mem_cons_self
    obtain ⟨pl, e2, h2⟩ := pins_new fun b' m => g b' (List.mem_cons_of_mem _ m)
    refine ⟨(b, o) :: pl, by rw [List.map_cons, e2], fun p m => ?_⟩
    rcases List.mem_cons.mp m with q | m
    · rw [q]; exact ⟨e, c⟩
    · exact h2 p m
/-- woken again -/
theorem GIF.woken {X : Cx} {F : List Addr} {ip : List (Addr × Obj)} {σ : St} {H : Hp} {s₀ s s' : Shared} (hpn : ∀ p ∈ X.pn, p.1 ∉ F) (hip : ∀ p ∈ ip, p.1 ∉ F) (hA : ApartF X F) (h : GIF X F ip σ H s₀ s) (z : SleptF F s s') : GIF X F ip σ H s' s' := by
  have at_ := h.at
  obtain ⟨pl, e, _, I⟩ := h
  have I0 : Inv X ip σ H s := I.pins_of fun p hp => I.pin p (List.mem_append_right _ (List.mem_append_right _ hp))
  have nt : ∀ b u, H b = some u → b ∉ F := fun b u q hb => by
    rw [(at_ b hb).1] at q
    cases q
  obtain ⟨z1, z2, z3, z4⟩ := z
  obtain ⟨hh, g, d, t, o⟩ := s'
  have ho : o = s.os := z1
  subst ho
  have J : Inv X ip σ H { s with heap := hh, gens := g, drawn := d, toks := t } := by
    refine I0.step (g' := g) (t' := t) (d' := d) (ch := F) (fun b hb => ⟨.inr (hA b hb).1, (hA b hb).2.1, (hA b hb).2.2, fun p hp => ?_⟩)
      (fun b ob _ _ hc q _ => z3 b ob hc q) (fun b ob _ _ hc q _ => ⟨ob.slots, z3 b ob hc q⟩) (fun _ _ _ _ n => n) (fun b ob hc q => ⟨ob, z3 b ob hc q⟩)
      (fun _ _ q => q) (fun _ _ _ q => q) (fun b ps q => ⟨#[], by rw [q]; simp⟩) (fun m hm => ?_) (fun b u q => ?_) z2
    · rcases List.mem_append.mp hp with hp | hp
      · exact fun q => hpn p hp (by rw [q]; exact hb)
      · exact fun q => hip p hp (by rw [q]; exact hb)
    · obtain ⟨ob, es, ep, ho, r⟩ := hm
      exact ⟨ob, es, ep, z3 _ ob (fun q => (at_ _ q).2.1 rfl) ho, r⟩
    · refine (I0.hok b u q).stay (fun c v hc y => z3 c v ?_ y) (fun _ y => y) fun _ _ y => y
      rcases hc with y | y
      · rw [y]; exact nt b u q
      · exact nt c _ y
  obtain ⟨pl', e', h'⟩ := pins_new (h := hh) z4
  refine ⟨pl', e', fun p hp => (h' p hp).1, J.pins_of fun p hp => ?_⟩
  rcases List.mem_append.mp hp with hp | hp
  · have mF : p.1 ∈ F := by rw [← e']; exact List.mem_map_of_mem hp
    obtain ⟨a1, a2, a3⟩ := at_ p.1 mF
    exact ⟨(h' p hp).1, a1, a2, a3, (h' p hp).2⟩
  · exact J.pin p (List.mem_append_right _ hp)
end L2.GenF
set_option Elab.async false
set_option linter.all false
set_option maxRecDepth 100000
set_option maxHeartbeats 4000000
/-! Such generators' statements. -/
namespace L2.GenF
open PySem PySem.Spec PyProof.Rows GenW L2.GenL
/-- asleep: the consumer puts v behind its list S and changes F; all else is kept -/
structure Slp (S : Addr) (F : List Addr) (v : Value) (s s' : Shared) : Prop where
  slept : SleptF (S :: F) s s'
  own : ∀ acc c, s.heap.get? S = some (lstObj acc c) → ∃ c', s'.heap.get? S = some (lstObj (acc.push v) c')
def Run (X : Cx) (S : Addr) (F : List Addr) (ip : List (Addr × Obj)) (ys : List V) (σ : St) (H : Hp) (s₀ s : Shared) : Prop :=
  GIF X (S :: F) ip σ H s₀ s ∧ ∃ (acc : Array Value) (c : Nat), Vals ys acc.toList ∧ s.heap.get? S = some (lstObj acc c)
theorem Run.woken {X : Cx} {S : Addr} {F : List Addr} {ip : List (Addr × Obj)} {ys : List V} {x : V} {v : Value} {σ : St} {H : Hp} {s₀ s s' : Shared} (hpn : ∀ p ∈ X.pn, p.1 ∉ S :: F) (hip : ∀ p ∈ ip, p.1 ∉ S :: F) (hA : ApartF X (S :: F)) (h : Run X S F ip ys σ H s₀ s) (rv : RelV x v) (z : Slp S F v s s') :
    Run X S F ip (ys ++ [x]) σ H s' s' := by
  obtain ⟨g, acc, c, r, e⟩ := h
  obtain ⟨c', e'⟩ := z.own acc c e
  exact ⟨g.woken hpn hip hA z.slept, acc.push v, c', by rw [Array.toList_push]; exact r.append (.cons rv .nil), e'⟩
/-- the protocol -/
def Yld (X : Cx) (S : Addr) (F : List Addr) : Protocol := fun n s₀ v s kap =>
  ∃ ys x ip σ H, n + 1 + ys.length = sizeLine ∧ RelV x v ∧ Run X S F ip ys σ H s₀ s ∧ ∀ s', Slp S F v s s' → kap (.send .none) s'
def EndP (X : Cx) (S : Addr) (F : List Addr) (ip : List (Addr × Obj)) (D : GEnds) (ys : List V) (s₀ : Shared) (f : Flow) (s : Shared) : Prop :=
  match f with
  | .next => ∃ σ H, Run X S F ip ys σ H s₀ s ∧ D.nx ys σ H
  | .brk => ∃ σ H, Run X S F ip ys σ H s₀ s ∧ D.bk ys σ H
  | .cont => ∃ σ H, Run X S F ip ys σ H s₀ s ∧ D.ct ys σ H
  | .ret u => ∃ v σ H, Run X S F ip ys σ H s₀ s ∧ RelV v u ∧ D.rt ys v H
structure Here (X : Cx) (S : Addr) (F : List Addr) (ip : List (Addr × Obj)) (A : Around) (c : Code) (fs : List Frame) (gd : Bool → Bool) : Prop where
  pn : ∀ p ∈ X.pn, p.1 ∉ S :: F
  ip : ∀ p ∈ ip, p.1 ∉ S :: F
  apart : ApartF X (S :: F)
  over : A.over c fs = X.A
  split : splitAtGen fs = none
  guard : fs.any Frame.guarded = false
  gd : gd false = false
structure Then (X : Cx) (S : Addr) (F : List Addr) (ip : List (Addr × Obj)) (A : Around) (R : GenEnd) (c : Code) (fs : List Frame) (K : Flow → Sem PySem.Fin) (J : Value → Sem PySem.Fin) (D : GEnds) : Prop where
  ok : ∀ (n : Nat) (ys : List V) (s₀ s : Shared) (f : Flow), n + ys.length = sizeLine → EndP X S F ip D ys s₀ f s → Seg (model X.prog X.w) A R (Yld X S F) n s₀ c (K f) fs s
  exc : ∀ (n : Nat) (s₀ : Shared) (e : Value) (s : Shared), X.xe e s → Seg (model X.prog X.w) A R (Yld X S F) n s₀ c (J e) fs s
structure FS (X : Cx) (st : Stmt) (t : TGn) : Prop where
  run : ∀ (A : Around) (S : Addr) (F : List Addr) (ip : List (Addr × Obj)) (R : GenEnd) (n : Nat) (ys : List V) (s₀ : Shared) (c : Code) (fs : List Frame) (K : Flow → Sem PySem.Fin) (J : Value → Sem PySem.Fin) (gd : Bool → Bool) (lv : List Value → List Value) (s : Shared) (σ : St) (H : Hp) (D : GEnds),
    Here X S F ip A c fs gd → n + ys.length = sizeLine → Then X S F ip A R c fs K J D → Run X S F ip ys σ H s₀ s → t D ys σ H → Seg (model X.prog X.w) A R (Yld X S F) n s₀ c ((exec st X.env).wrap K J gd lv) fs s
structure FSs (X : Cx) (st : List Stmt) (t : TGn) : Prop where
  run : ∀ (A : Around) (S : Addr) (F : List Addr) (ip : List (Addr × Obj)) (R : GenEnd) (n : Nat) (ys : List V) (s₀ : Shared) (c : Code) (fs : List Frame) (K : Flow → Sem PySem.Fin) (J : Value → Sem PySem.Fin) (gd : Bool → Bool) (lv : List Value → List Value) (s : Shared) (σ : St) (H : Hp) (D : GEnds),
    Here X S F ip A c fs gd → n + ys.length = sizeLine → Then X S F ip A R c fs K J D → Run X S F ip ys σ H s₀ s → t D ys σ H → Seg (model X.prog X.w) A R (Yld X S F) n s₀ c ((execs st X.env).wrap K J gd lv) fs s
section
variable {X : Cx} {st : Stmt} {rest : List Stmt}
/-- what is pinned at S stays while the generator runs -/
theorem run_at {X : Cx} {S : Addr} {F : List Addr} {ip pl : List (Addr × Obj)} {σ σ' : St} {H H' : Hp} {s s' : Shared} {o : Obj} (e : pl.map Prod.fst = S :: F) (I : Inv X (pl ++ ip) σ H s) (I' : Inv X (pl ++ ip) σ' H' s') (h : s.heap.get? S = some o) : s'.heap.get? S = some o := by
  have m : S ∈ pl.map Prod.fst := by rw [e]; exact List.mem_cons_self
  obtain ⟨p, mp, ep⟩ := List.mem_map.mp m
  have h1 := (I.pin p (List.mem_append_right _ (List.mem_append_left _ mp))).1
  have h2 := (I'.pin p (List.mem_append_right _ (List.mem_append_left _ mp))).1
  rw [ep] at h1 h2
  rw [h2, ← h1, h]
theorem end_of {S : Addr} {F : List Addr} {ip pl : List (Addr × Obj)} {σ : St} {H : Hp} {s₀ s s' : Shared} {acc : Array Value} {c : Nat} {D : GEnds} {ys : List V} {f : Flow} (e : pl.map Prod.fst = S :: F) (h0 : ∀ p ∈ pl, s₀.heap.get? p.1 = some p.2) (I : Inv X (pl ++ ip) σ H s) (r : Vals ys acc.toList) (h : s.heap.get? S = some (lstObj acc c)) (q : SP X (pl ++ ip) (D.at ys) f s') : EndP X S F ip D ys s₀ f s' := by
  cases f with
  | next => obtain ⟨σ', H', I', q⟩ := q; exact ⟨σ', H', ⟨⟨pl, e, h0, I'⟩, acc, c, r, run_at e I I' h⟩, q⟩
  | brk => obtain ⟨σ', H', I', q⟩ := q; exact ⟨σ', H', ⟨⟨pl, e, h0, I'⟩, acc, c, r, run_at e I I' h⟩, q⟩
  | cont => obtain ⟨σ', H', I', q⟩ := q; exact ⟨σ', H', ⟨⟨pl, e, h0, I'⟩, acc, c, r, run_at e I I' h⟩, q⟩
  | ret u => obtain ⟨v, σ', H', I', r1, q⟩ := q; exact ⟨v, σ', H', ⟨⟨pl, e, h0, I'⟩, acc, c, r, run_at e I I' h⟩, r1, q⟩
theorem fs_ps {t : TS} (h : PS X st t) : FS X st (tPlain t) := by
  refine ⟨fun A S F ip R n ys s₀ c fs K J gd lv s σ H D g hn k hI ht => ?_⟩
  obtain ⟨⟨pl, e, h0, I⟩, acc, cc, r, hs⟩ := hI
  refine seg_wrap ?_
  rw [g.over]
  exact wpAny_mono (h.run _ s σ H (D.at ys) I ht) (fun f s' q => k.ok n ys s₀ s' f hn (end_of e h0 I r hs q)) fun x s' hx => k.exc n s₀ x s' hx
theorem fss_nil : FSs X [] tG0 := by
  refine ⟨fun A S F ip R n ys s₀ c fs K J gd lv s σ H D g hn k hI ht => ?_⟩
  exact seg_execs_nil (k.ok n ys s₀ s .next hn ⟨σ, H, hI, ht⟩)
theorem fss_nv {sts : List Stmt} : FSs X sts (fun _ _ _ _ => False) := ⟨fun _ _ _ _ _ _ _ _ _ _ _ _ _ _ _ _ _ _ _ _ _ _ h => h.elim⟩
theorem fss_cons {t u : TGn} (a : FS X st t) (b : FSs X rest u) : FSs X (st :: rest) (tGThen t u) := by
  refine ⟨fun A S F ip R n ys s₀ c fs K J gd lv s σ H D g hn k hI ht => ?_⟩
  refine seg_execs_cons ?_
  refine a.run A S F ip R n ys s₀ c fs _ J gd lv s σ H { D with nx := fun ys' σ' H' => u D ys' σ' H' } g hn ⟨fun n' ys' s₀' s' f hn' hs => ?_, k.exc⟩ hI ht
  cases f with
  | next =>
    obtain ⟨σ', H', I', q⟩ := hs
    exact b.run A S F ip R n' ys' s₀' c fs K J gd lv s' σ' H' D g hn' k I' q
  | brk => exact k.ok n' ys' s₀' s' .brk hn' hs
  | cont => exact k.ok n' ys' s₀' s' .cont hn' hs
  | ret u => exact k.ok n' ys' s₀' s' (.ret u) hn' hs
theorem fs_if {test : Expr} {body orelse : List Stmt} {pos : Pos} {tc : TT} {t u : TGn} (hc : PT X test tc) (ha : FSs X body t) (hb : FSs X orelse u) : FS X (.If test body orelse pos) (tGIf tc t u) := by
  refine ⟨fun A S F ip R n ys s₀ c fs K J gd lv s σ H D g hn k hI ht => ?_⟩
  obtain ⟨⟨pl, e, h0, I⟩, acc, cc, r, hs⟩ := hI
  show Seg _ _ _ _ n s₀ c (.at pos fun _ => ((isTrue test X.env (eval test X.env)) >>= fun b => if b = true then execs body X.env else execs orelse X.env).wrap K J gd lv) fs s
  refine seg_at (seg_bind_wrap ?_)
  rw [g.over]
  refine wpAny_mono (hc.run _ s σ H _ I ht) (fun b s' hd => ?_) fun x s' hx => k.exc n s₀ x s' hx
  obtain ⟨H2, I2, q⟩ := hd
  have hs' := run_at e I I2 hs
  cases b with
  | true => exact ha.run A S F ip R n ys s₀ c fs K J gd lv s' σ H2 D g hn k ⟨⟨pl, e, h0, I2⟩, acc, cc, r, hs'⟩ q
  | false => exact hb.run A S F ip R n ys s₀ c fs K J gd lv s' σ H2 D g hn k ⟨⟨pl, e, h0, I2⟩, acc, cc, r, hs'⟩ q
end
end L2.GenF
set_option Elab.async false
set_option linter.all false
set_option maxRecDepth 100000
set_option maxHeartbeats 4000000
/-! yield from, in such a generator. -/
namespace L2.GenF
open PySem PySem.Spec PyProof.Rows GenW L2.GenL
abbrev yfC (it : Addr) : Code := .builtin "proto.yield_from" ⟨[.ref it, .bool false, .none], []⟩
section
variable {X : Cx}
/-- the iterator turns, the rest of the generator stays -/
theorem Run.turned {S : Addr} {F : List Addr} {ip : List (Addr × Obj)} {ys : List V} {σ : L2.St} {H : Hp} {s₀ s : Shared} {it : Addr} {h' : Heap} {tk : Nat} (hI : Run X S F ip ys σ H s₀ s) (nF : it ∉ S :: F) (hpi : ∀ p ∈ X.pn ++ ip, p.1 ≠ it)
    (hex : it ∈ X.ex ∨ X.s_0.heap.objs.size ≤ it) (hL : it ≠ X.env.locals) (hcell : ∀ x c, X.env.cells.lookup x = some c → c ≠ it) (hH : H it = none) (hk : ∀ b o, b ≠ it → s.heap.get? b = some o → h'.get? b = some o) : Run X S F ip ys σ H s₀ { s with heap := h', toks := tk } := by
  obtain ⟨⟨pl, e, h0, I⟩, acc, c, r, hs⟩ := hI
  refine ⟨⟨pl, e, h0, I.turned (it := it) hk hH hL hex hcell fun p hp => ?_⟩, acc, c, r, hk S _ (fun z => nF (by rw [← z]; exact List.mem_cons_self)) hs⟩
  rcases List.mem_append.mp hp with hp | hp
  · exact hpi p (List.mem_append_left _ hp)
  · rcases List.mem_append.mp hp with hp | hp
    · exact fun z => nF (by rw [← z, ← e]; exact List.mem_map_of_mem hp)
    · exact hpi p (List.mem_append_right _ hp)
theorem seg_from {S : Addr} {F : List Addr} {ip : List (Addr × Obj)} {A : Around} {R : GenEnd} {fs : List Frame} {it : Addr} {xs ys : List V} {St : Nat → Heap → Prop} {σ : L2.St} {H : Hp} (hpn : ∀ p ∈ X.pn, p.1 ∉ S :: F) (hip : ∀ p ∈ ip, p.1 ∉ S :: F) (hA : ApartF X (S :: F)) (nF : it ∉ S :: F) (hpi : ∀ p ∈ X.pn ++ ip, p.1 ≠ it)
    (hex : it ∈ X.ex ∨ X.s_0.heap.objs.size ≤ it) (hL : it ≠ X.env.locals) (hcell : ∀ x c, X.env.cells.lookup x = some c → c ≠ it) (hH : H it = none) (q : QIt X H it xs St)
    (ho : (A.over (yfC it) fs).handled = none) (hsp : splitAtGen fs = none) (hgd : fs.any Frame.guarded = false)
    (hend : ∀ (n : Nat) (s₀ s : Shared), n + (ys ++ xs).length = sizeLine → Run X S F ip (ys ++ xs) σ H s₀ s → Seg (model X.prog X.w) A R (Yld X S F) n s₀ (yfC it) (.pure (.done (.ret .none))) fs s) :
    ∀ (r j n : Nat) (s₀ s : Shared), j + r = xs.length → n + (ys.length + j) = sizeLine → ys.length + xs.length ≤ sizeLine → Run X S F ip (ys ++ xs.take j) σ H s₀ s → St j s.heap →
      Seg (model X.prog X.w) A R (Yld X S F) n s₀ (yfC it) ((model X.prog X.w).den (yfC it)) fs s := by
  obtain ⟨T, hT, hcl, hng⟩ := q.ty
  intro r
  induction r with
  | zero =>
    intro j n s₀ s hj hn hle hI hst
    have hj' : j = xs.length := by omega
    subst hj'
    rw [List.take_length] at hI
    rw [den_yf]
    unfold Builtin.«proto.yield_from»
    try dsimp only
    refine seg_bind (wpAny_pure ?_)
    try dsimp only
    refine seg_bind (wpAny_attempt (wpAny_holding ?_))
    rw [if_neg Bool.false_ne_true, if_pos (show (Value.none == Value.none) = true from rfl)]
    refine wpAny_bind (wpAny_rule (wpAny_bind (q.done _ s _ _ ho hst fun e h' tk hS hk => ?_)))
    obtain ⟨a, o, vs, rfl, hoa, hcls, hdat, h5⟩ := hS
    try dsimp only
    refine seg_bind (wpAny_endsTurn hoa hcls ?_)
    try dsimp only
    rw [if_pos rfl]
    first
      | refine seg_bind (wpAny_rule ?_)
      | (rw [if_neg Bool.false_ne_true]; refine seg_bind (wpAny_rule ?_))
      | (rw [if_neg Bool.false_ne_true]; refine seg_bind (wpAny_pure ?_); refine seg_bind (wpAny_rule ?_))
    refine seg_bind (wpAny_field hoa hdat h5 ?_)
    exact hend n s₀ _ (by rw [List.length_append]; exact hn) (hI.turned nF hpi hex hL hcell hH hk)
  | succ r ih =>
    intro j n s₀ s hj hn hle hI hst
    have hjl : j < xs.length := by omega
    obtain ⟨x, hx⟩ : ∃ x, xs[j]? = some x := ⟨xs[j], List.getElem?_eq_getElem hjl⟩
    obtain ⟨n, rfl⟩ : ∃ m, n = m + 1 := ⟨n - 1, by omega⟩
    have htl : (xs.take j).length = j := by rw [List.length_take]; omega
    rw [den_yf]
    unfold Builtin.«proto.yield_from»
    try dsimp only
    refine seg_bind (wpAny_pure ?_)
    try dsimp only
    refine seg_bind (wpAny_attempt (wpAny_holding ?_))
    rw [if_neg Bool.false_ne_true, if_pos (show (Value.none == Value.none) = true from rfl)]
    refine wpAny_bind (wpAny_rule (wpAny_bind (q.item _ j x s _ _ ho hx hst fun v h' tk rv hst' hk => ?_)))
    have hI' := hI.turned (tk := tk) nF hpi hex hL hcell hH hk
    obtain ⟨oi, hoi, hoc⟩ := hT (j + 1) h' hst'
    refine wpAny_pure ?_
    try dsimp only
    refine seg_bind (wpAny_typeOf (T := T) ⟨oi, hoi, hoc⟩ ?_)
    try dsimp only
    first
      | (refine seg_bind (wpAny_of_eq hcl ?_); refine seg_bind (wpAny_pure ?_))
      | refine seg_bind (wpAny_bind (wpAny_of_eq hcl (wpAny_pure ?_)))
      | refine seg_bind (wpAny_of_eq hcl ?_)
    try dsimp only
    refine seg_bind (wpAny_sleptOver hoi hoc hng ?_)
    refine seg_yield hsp rfl hgd ?_
    refine ⟨ys ++ xs.take j, x, ip, σ, H, by rw [List.length_append, htl]; exact hn, rv, hI', fun s'' z => ?_⟩
    have at_ := hI'.1.at
    have hI2 := hI'.woken hpn hip hA rv z
    have hst2 : St (j + 1) s''.heap := q.frame (j + 1) h' s''.heap hst' fun b o hb e => z.slept.keep b o (fun hm => by
      rcases hb with y | y
      · exact nF (by rw [← y]; exact hm)
      · exact y (at_ b hm).1) e
    obtain ⟨oj, hoj, hojc⟩ := hT (j + 1) s''.heap hst2
    have etk : ys ++ xs.take j ++ [x] = ys ++ xs.take (j + 1) := by
      rw [List.append_assoc, List.take_add_one, hx]
      rfl
    rw [etk] at hI2
    show Seg _ _ _ _ n s'' _ (Builtin.Generator.sleptOver (.ref it) false >>= fun _ => _) fs s''
    refine seg_bind (wpAny_sleptOver hoj hojc hng ?_)
    try dsimp only
    refine seg_bind (wpAny_pure ?_)
    exact seg_again (plainId_quiet plain_yf _) (ih (j + 1) n s'' s'' (by omega) (by omega) hle hI2 hst2)
theorem fs_yieldFrom {e : Expr} {yp pos : Pos} {t : TYf} (he : YfE X e t) (hc : X.A.handled = none) (hi : interactive X.env = false := by rfl) : FS X (.Expr (.YieldFrom e yp) pos) (tGFrom t) := by
  refine ⟨fun A S F ip R n ys s₀ c fs K J gd lv s σ H D g hn k hI ht => ?_⟩
  rw [exec_Expr X.env _ pos hi rfl]
  show Seg _ _ _ _ n s₀ c (.at pos fun _ => ((eval e X.env >>= fun v => (standAt yp >>= fun _ => yieldFrom X.env v)) >>= fun x => dropValue (.YieldFrom e yp) pos x).wrap K J gd lv) fs s
  refine seg_at ?_
  obtain ⟨⟨pl, ep, h0, I⟩, acc, cc, r, hs⟩ := hI
  refine segw_bind2 ?_
  rw [g.over]
  have h1 := he.run (pl ++ ip) s σ H _ I ht
  refine wpAny_mono h1 (fun v s1 hv => ?_) fun x s' hx => k.exc n s₀ x s' hx
  obtain ⟨T, hT, hne, hit⟩ := hv
  have hne' : ¬ ((Value.type T == Value.type "coroutine") = true) := by rw [hne]; exact Bool.false_ne_true
  refine seg_at ?_
  show Seg _ _ _ _ n s₀ c ((yieldFrom X.env v).wrap (fun b => (dropValue (.YieldFrom e yp) pos b).wrap K J gd lv) J gd lv) fs s1
  unfold yieldFrom
  refine seg_bind_wrap (wpAny_typeOf hT ?_)
  rw [if_neg hne']
  refine seg_bind_wrap (wpAny_holding ?_)
  rw [g.over]
  refine wpAny_mono hit (fun u s2 hu => ?_) fun x s' hx => k.exc n s₀ x s' hx
  obtain ⟨it, H', xs, St, rfl, I2, q1, q2, q3, q4, q5, q6, q7, hle, hq⟩ := hu
  refine seg_call fun p => ?_
  have nF : it ∉ S :: F := fun m => by
    rw [← ep] at m
    obtain ⟨pp, mp, e1⟩ := List.mem_map.mp m
    exact q5 pp (List.mem_append_right _ (List.mem_append_left _ mp)) e1
  refine seg_from (xs := xs) (ys := ys) g.pn g.ip g.apart nF (fun pp hp => (List.mem_append.mp hp).elim (fun z => q5 pp (List.mem_append_left _ z)) fun z => q5 pp (List.mem_append_right _ (List.mem_append_right _ z))) q1 q2 q3 q4 q7 ?_ ?_ ?_
    (fun n' s₀' s' hn' hG => ?_) xs.length 0 n s₀ s2 (Nat.zero_add _) hn hle ⟨⟨pl, ep, h0, I2⟩, acc, cc, by rw [List.take_zero, List.append_nil]; exact r, run_at ep I I2 hs⟩ q6
  · show (A.over c fs).handled = none
    rw [g.over]
    exact hc
  · show (splitAtGen fs).map _ = none
    rw [g.split]
    rfl
  · show (gd false || fs.any Frame.guarded) = false
    rw [g.gd, g.guard]
    rfl
  · exact seg_leaf (.ok (.ret .none)) (k.ok n' (ys ++ xs) s₀' s' .next hn' ⟨σ, H', hG, hq⟩)
end
end L2.GenF
set_option Elab.async false
set_option linter.all false
set_option maxRecDepth 100000
set_option maxHeartbeats 4000000
/-! A call of such a generator def. -/
namespace L2.GenF
open PySem PySem.Spec PyProof.Rows GenW L2.GenL
def FEnd (P : Program) (w : World) (outer : List Env) (H : Hp) (s : Shared) (S : Addr) (F : List Addr) (a : Addr) (g : Nat) (Q : List V → Hp → Prop) (E : XK) : GenEnd := fun n s₀ r s1 =>
  ((r = .ok (.ret .none) ∨ r = .ok .next) ∧ ∃ H' ys acc c, s1.os = s.os ∧ AllBare s1.gens ∧ Un (frs outer) [] H H' s.heap s1.heap ∧ HOk P w H' s1.heap ∧ (∀ b ∈ S :: F, H' b = none) ∧ s1.heap.get? S = some (lstObj acc c) ∧ Vals ys acc.toList ∧ ys.length ≤ sizeLine ∧ (∀ b ∈ S :: F, s1.heap.get? b = s₀.heap.get? b) ∧ Q ys H') ∨
  ∃ e, r = .error e ∧ CX P w outer H s E e s1 ∧ s1.heap.IsGen a g
def FItem (s : Shared) (S : Addr) (F : List Addr) (a : Addr) (g : Nat) : Protocol := fun n s₀ v s1 kap =>
  s1.os = s.os ∧ AllBare s1.gens ∧ s1.heap.NoLimit ∧ s1.heap.IsGen a g ∧ (∃ (acc : Array Value) (c : Nat), s1.heap.get? S = some (lstObj acc c) ∧ n + 1 + acc.size = sizeLine) ∧ (∀ b ∈ S :: F, s1.heap.get? b = s₀.heap.get? b) ∧ ∀ s', Slp S F v s1 s' → kap (.send .none) s'
/-- a generator that has not begun -/
def FMade (P : Program) (w : World) (k : Nat) (outer : List Env) (H : Hp) (s : Shared) (Q : List V → Hp → Prop) (E : XK) (u : Value) (s' : Shared) : Prop :=
  ∃ (a : Addr) (g : Nat) (c : Code), u = .ref a ∧ s.heap.objs.size ≤ a ∧ a < s'.heap.objs.size ∧ s'.heap.IsGen a g ∧ s'.gens[g]? = some (.fresh c) ∧ s'.os = s.os ∧ AllBare s'.gens ∧ s'.heap.NoLimit ∧ (∀ b o, s.heap.get? b = some o → s'.heap.get? b = some o) ∧
    ∀ (A : Around) (S : Addr) (F : List Addr) (s2 : Shared), Room k A → A.frames = some outer → (∀ b ∈ S :: F, s'.heap.objs.size ≤ b) → (∀ b o, s'.heap.get? b = some o → s2.heap.get? b = some o) → (∃ c, s2.heap.get? S = some (lstObj #[] c)) → (∀ b ∈ F, ∃ o, s2.heap.get? b = some o ∧ ∀ v, o.data ≠ .cell v) → s2.os = s.os → AllBare s2.gens →
      Seg (model P w) A (FEnd P w outer H s S F a g Q E) (FItem s S F a g) sizeLine s2 c ((model P w).den c) [] s2
structure FFn (P : Program) (w : World) (K : PySem.W.Frag) (mg : Str → Option Value) (base : Heap) (k : Nat) (f : Addr) (fd : FuncData) (ps : List Str) (sp : SpG) : Prop where
  len : ∀ vs H Q E, sp vs H Q E → vs.length = ps.length
  run : ∀ (A : Around) (outer : List Env) (s : Shared) (H : Hp) (args : Args) (us : List Value) (vs : List V) (Q : List V → Hp → Prop) (E : XK), Room k A → Env0 P w K mg base A outer s H → BindsTo s fd args (ps.zip us) → Vals vs us → sp vs H Q E →
    codeAny (model P w) A (.call (.ref f) args) (fun r s' => match r with | .ok (.ret u) => FMade P w k outer H s Q E u s' | _ => False) s
def FR (X : Cx) (S : Addr) (F : List Addr) (Q : List V → VK) (Er : Value → Shared → Prop) : GenEnd := fun n s₀ r s => match r with
  | .ok (.ret u) => ∃ ys v ip σ H, n + ys.length = sizeLine ∧ Run X S F ip ys σ H s₀ s ∧ RelV v u ∧ Q ys v H
  | .ok _ => False
  | .error e => Er e s
theorem ffn_of {P : Program} {w : World} {K : PySem.W.Frag} {mg : Str → Option Value} {base : Heap} {k : Nat} {f : Addr} {name qual : Str} {params : Arguments} {body : List Stmt} {scope : Scope} {dV kV doc pm cdv ct oc : Value} {an od : Option Addr}
    {osl : Array (Option Value)} {N ps : List Str} {sp : SpG} (lk : K.lookup f = some ⟨oc, od, .func (PySem.W.fnOf name qual params body scope dV kV doc pm an cdv ct), osl⟩) (hcd : PySem.W.codeIn K cdv qual = true) (S : GScope N ps scope)
    (len : ∀ vs H Q E, sp vs H Q E → vs.length = ps.length)
    (hbody : ∀ (A : Around) (outer : List Env) (s : Shared) (H : Hp) (vs : List V) (Q : List V → Hp → Prop) (E : XK) (pn : List (Addr × Obj)), Room k (A.deeper (envOfC qual scope s.heap.objs.size f cdv)) → sp vs H Q E →
      ∃ t, FSs (gcxOf P w K mg base N qual scope f cdv A outer s H E pn) body t ∧ t { nx := fun ys _ H' => Q ys H', rt := fun ys v H' => v = .non ∧ Q ys H' } [] (start N vs) H) :
    FFn P w K mg base (k + 1) f (PySem.W.fnOf name qual params body scope dV kV doc pm an cdv ct) ps sp := by
  refine ⟨len, fun A outer s H args us vs Q E hr e0 hb r hsp => ?_⟩
  have hl := len _ _ _ _ hsp
  have KX : K.In s.heap := e0.mod.kin.keeps fun b o e => (e0.bs b o e).1
  have lim : s.heap.NoLimit := e0.mod.nolimit.keeps fun b o e => (e0.bs b o e).1
  have hkind : ∀ y ∈ ps.zip us, scope.names.lookup y.1 = some .local ∨ (scope.names.lookup y.1 = some .cell ∧ ((cellsFrom (s.heap.objs.size + 1) scope.names []).lookup y.1).isSome = true) := fun ⟨n, v⟩ hy =>
    (S.par n (List.of_mem_zip hy).1).imp id fun q => ⟨q, PySem.W.cellsFrom_some _ _ _ (.inl q)⟩
  refine codeAny_call_generator hr.depth (KX _ _ lk) rfl S.co S.gen rfl (PySem.W.codeRec_of KX hcd) (hb _ _ _ _ ?_)
  refine wpAny_newFunctionEnv_cells S.kind hkind fun env he s1 x => ?_
  subst he
  refine ⟨lim.keeps x.toInCall.keep, ?_⟩
  have lim1 : s1.heap.NoLimit := lim.keeps x.toInCall.keep
  obtain ⟨h1, tk, es1, hk1⟩ := x.done
  have os1 : s1.os = s.os := by rw [es1]
  have gen1 : s1.gens = s.gens := by rw [es1]
  have lt1 : s.heap.objs.size < s1.heap.objs.size := x.toInCall.ns.lt
  have kp1 : ∀ b o, s.heap.get? b = some o → s1.heap.get? b = some o := x.toInCall.keep
  have main : ∀ (go : Obj) (nm qn : Value) (tk2 : Nat), go.cls = .type "generator" → go.data = .fields #[.int s1.gens.size 0, nm, qn] → go.slots = #[] → (∀ h : Heap, (h.push go).get? h.objs.size = some go) →
      FMade P w (k + 1) outer H s Q E (.ref s1.heap.objs.size) { s1 with gens := s1.gens.push (.fresh (.func body (envOfC qual scope s.heap.objs.size f cdv))), toks := tk2, heap := s1.heap.push go } := by
    intro go nm qn tk2 hgc hgd0 hgs hgp
    have hgen : ∀ h : Heap, h.get? s1.heap.objs.size = some go → h.IsGen s1.heap.objs.size s1.gens.size := fun h e => ⟨go, nm, qn, e, hgc, hgd0, hgs⟩
    have hpushed : (s1.heap.push go).get? s1.heap.objs.size = some go := hgp _
    refine ⟨s1.heap.objs.size, s1.gens.size, _, rfl, Nat.le_of_lt lt1, by show _ < (s1.heap.push _).objs.size; rw [Heap.size_push]; exact Nat.lt_succ_self _, hgen _ hpushed, Array.getElem?_push_size .., os1, AllBare.push (by rw [gen1]; exact e0.bare) rfl,
      lim1.keeps fun b o e => Heap.get?_push_of_some _ e, fun b o e => Heap.get?_push_of_some _ (kp1 b o e), ?_⟩
    intro Aw Sx F s2 hrw hfr hSF hk2 hSo hFo hos hba
    have e0w : Env0 P w K mg base Aw outer s H := ⟨hfr, e0.mod, e0.bs, e0.bsz, e0.funs, e0.frf, e0.hok, e0.bare⟩
    obtain ⟨t, ht, hq⟩ := hbody Aw outer s H vs Q E [(s1.heap.objs.size, go)] (hrw.deeper _) hsp
    have I1 : Inv (gcxOf P w K mg base N qual scope f cdv Aw outer s H E []) [] (start N vs) H s1 := inv_startG S hrw.hd e0w hl r x
    have kp2 : ∀ b o, s1.heap.get? b = some o → s2.heap.get? b = some o := fun b o e => hk2 b o (Heap.get?_push_of_some _ e)
    have I2 : Inv (gcxOf P w K mg base N qual scope f cdv Aw outer s H E []) [] (start N vs) H s2 :=
      I1.call' (ch := []) (hos.trans os1.symm) (Un.kept kp2) (I1.hok.kept kp2) hba fun b z => by simp at z
    have hlt : ∀ b ∈ Sx :: F, s1.heap.objs.size < b := fun b hb => by
      have : (s1.heap.push go).objs.size ≤ b := hSF b hb
      rw [Heap.size_push] at this
      exact this
    obtain ⟨cS, heS⟩ := hSo
    have hea : s2.heap.get? s1.heap.objs.size = some go := hk2 s1.heap.objs.size go hpushed
    have hgd : ∀ v, go.data ≠ .cell v := fun v q => by rw [hgd0] at q; cases q
    have young : ∀ b, s1.heap.objs.size ≤ b → H b = none ∧ b ≠ s.heap.objs.size ∧ b ∉ frs outer ∧ s.heap.objs.size ≤ b ∧ ∀ y c, (cellsFrom (s.heap.objs.size + 1) scope.names []).lookup y = some c → c ≠ b := fun b hb => by
      refine ⟨I1.hok.fresh hb, Nat.ne_of_gt (Nat.lt_of_lt_of_le lt1 hb), I1.nofs hb, Nat.le_trans (Nat.le_of_lt lt1) hb, fun y c e z => ?_⟩
      obtain ⟨v, ob, ho, _⟩ := I1.cell y c e
      have := Heap.lt_size ho
      rw [z] at this
      exact absurd (Nat.lt_of_lt_of_le this hb) (Nat.lt_irrefl _)
    obtain ⟨pf, ef, hpf⟩ := pins_new hFo
    have hG : Run (gcxOf P w K mg base N qual scope f cdv Aw outer s H E [(s1.heap.objs.size, go)]) Sx F [] [] (start N vs) H s2 s2 := by
      refine ⟨⟨(Sx, lstObj #[] cS) :: pf, by rw [List.map_cons, ef], fun p hp => ?_, Inv.pinnedG I2 fun p hp => ?_⟩, #[], cS, .nil, heS⟩
      · rcases List.mem_cons.mp hp with z | z
        · rw [z]; exact heS
        · exact (hpf p z).1
      rw [List.append_nil] at hp
      rcases List.mem_append.mp hp with z | z
      · rw [List.mem_singleton.mp z]
        obtain ⟨y1, y2, y3, _, _⟩ := young s1.heap.objs.size (Nat.le_refl _)
        exact ⟨hea, y1, y2, y3, hgd⟩
      · rcases List.mem_cons.mp z with z | z
        · rw [z]
          obtain ⟨y1, y2, y3, _, _⟩ := young Sx (Nat.le_of_lt (hlt Sx List.mem_cons_self))
          exact ⟨heS, y1, y2, y3, fun v q => by cases q⟩
        · have mF : p.1 ∈ F := by rw [← ef]; exact List.mem_map_of_mem z
          obtain ⟨y1, y2, y3, _, _⟩ := young p.1 (Nat.le_of_lt (hlt p.1 (List.mem_cons_of_mem _ mF)))
          exact ⟨(hpf p z).1, y1, y2, y3, (hpf p z).2⟩
    have hAp : ApartF (gcxOf P w K mg base N qual scope f cdv Aw outer s H E [(s1.heap.objs.size, go)]) (Sx :: F) := fun b hb => by
      obtain ⟨_, y2, _, y4, y5⟩ := young b (Nat.le_of_lt (hlt b hb))
      exact ⟨y4, y2, y5⟩
    have hpn : ∀ p ∈ [(s1.heap.objs.size, go)], p.1 ∉ Sx :: F := fun p hp m => by
      rw [List.mem_singleton.mp hp] at m
      exact absurd (hlt _ m) (Nat.lt_irrefl _)
    have pinned : ∀ {ip : List (Addr × Obj)} {ys : List V} {s₀' s' : Shared} {σ' : L2.St} {H' : Hp}, Run (gcxOf P w K mg base N qual scope f cdv Aw outer s H E [(s1.heap.objs.size, go)]) Sx F ip ys σ' H' s₀' s' → s'.heap.IsGen s1.heap.objs.size s1.gens.size := fun {ip ys s₀' s' σ' H'} hI => by
      obtain ⟨⟨pl, _, _, J⟩, _⟩ := hI
      exact hgen _ (J.pin (s1.heap.objs.size, go) (List.mem_append_left _ (List.mem_singleton.mpr rfl))).1
    refine seg_func ?_
    refine seg_imp (R := FR (gcxOf P w K mg base N qual scope f cdv Aw outer s H E [(s1.heap.objs.size, go)]) Sx F (fun ys v H' => v = .non ∧ Q ys H') fun e s' => CX P w outer H s E e s' ∧ ∀ p ∈ [(s1.heap.objs.size, go)], s'.heap.get? p.1 = some p.2)
      (Y := Yld (gcxOf P w K mg base N qual scope f cdv Aw outer s H E [(s1.heap.objs.size, go)]) Sx F) (fun n s₀ r s1' hR => ?_) (fun n s₀ v s1' kap kap' hkk hY => ?_) sizeLine ?_
    · cases r with
      | error e =>
        obtain ⟨q1, q2⟩ := hR
        exact .inr ⟨e, rfl, q1, hgen _ (q2 (s1.heap.objs.size, go) (List.mem_singleton.mpr rfl))⟩
      | ok fl =>
        cases fl with
        | next => exact False.elim hR
        | brk => exact False.elim hR
        | cont => exact False.elim hR
        | ret u =>
          obtain ⟨ys, v, ip, σ', H', hn, hI, rv, ev, hQ⟩ := hR
          subst ev
          have eu : u = Value.none := rv
          subst eu
          have at_ := hI.1.at
          have still := hI.1.still
          obtain ⟨⟨_, _, _, J⟩, acc, cc, ra, ea⟩ := hI
          exact .inl ⟨.inl rfl, H', ys, acc, cc, J.os, J.bare, J.base, J.hok, fun b hb => (at_ b hb).1, ea, ra, by omega, still, hQ⟩
    · obtain ⟨ys, xx, ip, σ', H', hn, h2, hI, h3⟩ := hY
      have hg := pinned hI
      have still := hI.1.still
      obtain ⟨⟨_, _, _, J⟩, acc, cc, ra, ea⟩ := hI
      have hsz : acc.size = ys.length := by
        have e1 := ra.length
        have e2 : acc.toList.length = acc.size := by simp
        omega
      exact ⟨J.os, J.bare, J.nolimit, hg, ⟨acc, cc, ea, by rw [hsz]; exact hn⟩, still, fun s' z => hkk _ _ (h3 s' z)⟩
    · refine ht.run Aw Sx F [] _ sizeLine [] s2 _ [] _ _ id id s2 (start N vs) H _ ⟨hpn, fun p hp => (by simp at hp), hAp, over_func, rfl, rfl, rfl⟩ (Nat.add_zero _) ⟨fun n ys s₀ s' fl hn hs => ?_, fun n s₀ e s' hx => ?_⟩ hG hq
      · cases fl with
        | next =>
          obtain ⟨σ', H', hI, hQ⟩ := hs
          exact seg_end (.ok (.ret .none)) ⟨ys, .non, [], σ', H', hn, hI, rfl, rfl, hQ⟩
        | brk => obtain ⟨_, _, _, q⟩ := hs; exact False.elim q
        | cont => obtain ⟨_, _, _, q⟩ := hs; exact False.elim q
        | ret u =>
          obtain ⟨v, σ', H', hI, rv, ev, hQ⟩ := hs
          exact seg_end (.ok (.ret u)) ⟨ys, v, [], σ', H', hn, hI, rv, ev, hQ⟩
      · refine seg_wrap ?_
        rw [over_func]
        refine wpAny_mono (show wpAny (model P w) (Aw.deeper (envOfC qual scope s.heap.objs.size f cdv)) (leaving (envOfC qual scope s.heap.objs.size f cdv) e) (fun _ s'' => CX P w outer H s E e s'' ∧ ∀ p ∈ [(s1.heap.objs.size, go)], s''.heap.get? p.1 = some p.2) (fun _ _ => False) s' from hx) (fun _ s'' q => ?_) fun _ s'' q => q.elim
        exact seg_end (.error e) q
  exact main _ _ _ _ rfl rfl rfl fun h => Heap.get?_push_size _ rfl
end L2.GenF
set_option Elab.async false
set_option linter.all false
set_option maxRecDepth 100000
set_option maxHeartbeats 4000000
/-! each_map as such a generator. -/
namespace L2.Rws
open PySem PySem.Spec PyProof.Rows L2.LawH L2.SetT L2.Frz L2.NSet L2.GenL L2.GenF
open L2.TxtDict (Prs2 kd)
theorem FunD.ffn {P : Program} {w : World} {K : PySem.W.Frag} {mg : Str → Option Value} {base : Heap} {x qual : Str} {params : Arguments} {body : List Stmt} {scope : Scope} {dvs : List V} {kws : List (Str × V)} {f : Addr} {fd : FuncData} {N ps : List Str} {k : Nat} {sp : SpG} (F : FunD K x qual params body scope dvs kws f fd) (S : GScope N ps scope)
    (len : ∀ vs H Q E, sp vs H Q E → vs.length = ps.length)
    (hbody : ∀ (cdv : Value) (A : Around) (outer : List Env) (s : Shared) (H : Hp) (vs : List V) (Q : List V → Hp → Prop) (E : XK) (pn : List (Addr × Obj)), Room k (A.deeper (envOfC qual scope s.heap.objs.size f cdv)) → sp vs H Q E →
      ∃ t, FSs (gcxOf P w K mg base N qual scope f cdv A outer s H E pn) body t ∧ t { nx := fun ys _ H' => Q ys H', rt := fun ys v H' => v = .non ∧ Q ys H' } [] (start N vs) H) :
    FFn P w K mg base (k + 1) f fd ps sp := by
  obtain ⟨oc, od, dV, kV, doc, pm, an, cdv, ct, osl, rfl, lk, hcd, _, _⟩ := F.ex
  exact ffn_of lk hcd S len fun A outer s H vs Q E pn hr h => hbody cdv A outer s H vs Q E pn hr h
section
variable {P : Program} {w : World} {K : PySem.W.Frag} {mg : Str → Option Value} {base : Heap}
theorem ok_emF {f fF fG C : Addr} {fd fdF fdG : FuncData} {T1 : V} (F : FunD K "each_map" "each_map" (defArgs sEM) (defBody sEM) (defScope sEM) [T1] [] f fd) (T : StT K mg C)
    (GF : FnOk P w K mg base CX0 5 fF fdF ["lot", "groups", "start"] spFM) (kF : PySem.W.keepIn K (.ref fF) = true) (bF : Binds K fdF ["lot", "groups", "start"] []) (mF : mg "few_maps" = some (.ref fF))
    (GG : FnOk P w K mg base CX0 2 fG fdG ["self"] (spGrps C)) (hG : Meth K C "groups" fG) (bG : Binds K fdG ["self"] []) (md : mg "dict" = none) :
    FFn P w K mg base 6 f fd ["lot", "store", "known"] (spEM C) := by
  refine FunD.ffn F scEM (fun vs H Q E h => ?_) (fun cdv A outer s H vs Q E pn hr h => ?_)
  · obtain ⟨q, st, kv, ps, xs, kn, cs, vs, rfl, _⟩ := h
    rfl
  · obtain ⟨q, st, kv, ps, xs, kn, cs, vs, rfl, T', kk⟩ := h
    have hr2 : Room 2 _ := hr.mono (by decide)
    refine ⟨_, fss_cons (fs_ps (ps_set (i := 3) scEM.nd rfl (Or.inl rfl) (pe_ifExp (pt_cmpR op_isN (pv 2) pe_non (nomark _)) pe_dnewK (pe_callTy call_dictD (by rfl) md (by decide +kernel) (pa_cons (pv 2) pa_nil)))))
      (fss_cons (fs_ps (ps_set (i := 4) scEM.nd rfl (Or.inl rfl) (pe_meth0 (pv 1) T.cl hG GG hr2 bG .nil pass0)))
      (fss_cons (fs_ps (ps_set (i := 5) scEM.nd rfl (Or.inl rfl) (pe_call GF hr (by rfl) mF kF bF .nil pass0 (pa_cons (pv 0) (pa_cons (pv 4) (pa_cons (pv 3) pa_nil))))))
      (fss_cons (fs_if (pt_cmpR op_isN (pv 5) pe_non (nomark _)) fss_nv (fss_cons (fs_yieldFrom (yf_lst (pv 5)) hr.hd) fss_nil)) fss_nil))), ?_⟩
    refine ⟨_, rfl, rfl, _, rfl, ?_⟩
    refine known_or (kn := kn) rfl T'.hk fun d H1 s1 nd hd => ?_
    have T1 := T'.same s1
    obtain ⟨⟨dx, t, dh, gv, ha, _⟩, _⟩ := id T1.hs
    refine ⟨_, rfl, st, dx, _, rfl, ha, rfl, st, xs, rfl, T1.hs, fun x m => ⟨(T1.S.ok.each x m).1, by have := (T1.S.ok.each x m).2; omega⟩, T1.S.ok.few, fun g gs H2 k2 hs2 hg2 => ?_⟩
    have T2 := T1.keep k2 hs2
    have hd2 : MapAt H2 d kn := k2 _ _ hd (fun z => by rw [z] at hd; rw [show H1 st = some (.dK (kd kn)) from hd] at ha; cases ha)
    refine ⟨_, rfl, _, rfl, _, rfl, q, g, d, ps, xs, gs, kn, cs, vs, rfl, ⟨T2.hq, T2.hps, T2.few, hg2, hs2.tx, T2.S, hd2, T2.nk, T2.k10⟩, fun l ds ms H3 s3 nl hl pr new ord few short => ?_⟩
    refine ⟨_, rfl, rfl, _, rfl, ifF (isNone_ref _) ?_⟩
    refine ⟨_, rfl, l, _, rfl, hl, ?_, ?_⟩
    · have := Paired.length pr
      show 0 + _ ≤ sizeLine
      rw [List.length_map, sizeLine_eq]
      omega
    · exact kk ds ms H3 ⟨fun b o e nb => s3 _ _ (k2 _ _ (s1 _ _ e) nb), hs2.same s3, pr, fun b m => none_ofK T'.hs s1 k2 hs2 (new b m).1, ord, few, short⟩
end
end L2.Rws
set_option Elab.async false
set_option linter.all false
set_option maxRecDepth 100000
set_option maxHeartbeats 4000000
/-! A comprehension over such a generator: [y for y in f(..)]. -/
namespace L2.GenF
open PySem PySem.Spec PyProof.Rows GenW L2.GenL
theorem Slp.push {S C : Addr} {v : Value} {s s' : Shared} {acc : Array Value} {c c' : Nat} {m : Str → Option Value} (hS : s.heap.get? S = some (lstObj acc c)) (hS' : s'.heap.get? S = some (lstObj (acc.push v) c')) (hC : s'.heap.Ns C m) (os : s'.os = s.os) (hb : AllBare s'.gens)
    (keep : ∀ b o, b ≠ S → b ≠ C → s.heap.get? b = some o → s'.heap.get? b = some o) : Slp S [C] v s s' := by
  refine ⟨⟨os, hb, fun b o nb e => keep b o (fun z => nb (by rw [z]; exact List.mem_cons_self)) (fun z => nb (by rw [z]; exact List.mem_cons_of_mem _ List.mem_cons_self)) e, fun b mb => ?_⟩, fun acc2 c2 e => ?_⟩
  · rcases List.mem_cons.mp mb with z | z
    · rw [z]; exact ⟨_, hS', fun v q => by cases q⟩
    · rw [List.mem_singleton.mp z]
      obtain ⟨o, es, ep, ho, hd, _⟩ := hC
      exact ⟨o, ho, fun v q => by rw [hd] at q; cases q⟩
  · rw [hS] at e
    cases e
    exact ⟨_, hS'⟩
/-- the comprehension's loop -/
theorem walkF {P : Program} {w : World} {outer : List Env} {H : Hp} {sc : Shared} {Q : List V → Hp → Prop} {E : XK} {A : Around} {R : Result → Shared → Prop} {S a : Addr} {g : Nat} {ce : Env} {y : Str} {p1 p2 pos : Pos} {iter : Expr} {scope : Scope}
    (hh : A.handled = none) (hd : A.depth < recursionLimit) (hk : ce.scope.kind = .function) (hn : ce.kindOf y = some .local) (hdb : (y == ("__debug__" : Str)) = false) (hSa : S ≠ a) (hSc : S ≠ cStatics) (hCa : ce.locals ≠ a) (hCc : ce.locals ≠ cStatics) (hSC : S ≠ ce.locals) (hE : ∀ c d H', E c d H' → False)
    (hend : ∀ s' acc c H' ys m, s'.heap.get? S = some (lstObj acc c) → s'.heap.Ns ce.locals m → Vals ys acc.toList → ys.length ≤ sizeLine → s'.os = sc.os → AllBare s'.gens → Un (frs outer) [] H H' sc.heap s'.heap → HOk P w H' s'.heap → H' S = none → H' ce.locals = none → Q ys H' → R (.ok .next) s')
    (n : Nat) (s : Shared) (hg : s.heap.IsGen a g) (hl : s.heap.NoLimit) (hN : ∃ m, s.heap.Ns ce.locals m)
    (hgo : ∃ gs, s.gens[g]? = some gs ∧ gs.Goes (model P w) A.in1 (FEnd P w outer H sc S [ce.locals] a g Q E) (FItem sc S [ce.locals] a g) n (.send .none) (s.setGen g .running)) :
    codeAny (model P w) A (.compLoop (.ListComp (.Name y p1) [⟨.Name y p2, iter, [], 0⟩] scope pos) 0 (.ref a) (.ref S) ce) R s := by
  have goes : ∀ {gs : GenState} {B : Around} {n : Nat} {r : Resume} {s : Shared}, gs.Goes (model P w) B (FEnd P w outer H sc S [ce.locals] a g Q E) (FItem sc S [ce.locals] a g) n r s →
      gs.Goes (model P w) B (fun n s₀ r s1 => ((r = .ok (.ret .none) ∨ r = .ok .next) ∧ (∃ H' ys acc c, s1.os = sc.os ∧ AllBare s1.gens ∧ Un (frs outer) [] H H' sc.heap s1.heap ∧ HOk P w H' s1.heap ∧ (∀ b ∈ S :: [ce.locals], H' b = none) ∧ s1.heap.get? S = some (lstObj acc c) ∧ Vals ys acc.toList ∧ ys.length ≤ sizeLine ∧ (∀ b ∈ S :: [ce.locals], s1.heap.get? b = s₀.heap.get? b) ∧ Q ys H')) ∨
        ∃ e, r = .error e ∧ (CX P w outer H sc E e s1 ∧ s1.heap.IsGen a g)) (FItem sc S [ce.locals] a g) n r s := fun h => h
  have mS : S ∈ S :: [ce.locals] := List.mem_cons_self
  have mC : ce.locals ∈ S :: [ce.locals] := List.mem_cons_of_mem _ List.mem_cons_self
  refine codeAny_compLoop_list (fun n s => s.heap.IsGen a g ∧ s.heap.NoLimit ∧ (∃ m, s.heap.Ns ce.locals m) ∧ ∃ gs, s.gens[g]? = some gs ∧ gs.Goes (model P w) A.in1 (FEnd P w outer H sc S [ce.locals] a g Q E) (FItem sc S [ce.locals] a g) n (.send .none) (s.setGen g .running)) ?_ n ⟨hg, hl, hN, hgo⟩
  rintro n s ⟨hg, hl, ⟨m, hns⟩, gs, hgs, hgo⟩
  have hgl : g < s.gens.size := (Array.getElem?_eq_some_iff.mp hgs).1
  refine wpAny_gsz (n := g + 1) hgl (next_genG (A := A) hh hl hd hg hgs (goes hgo) (fun v s₁ gs' hbare hv => ?_) (fun s₁ hp h' hk' => ?_) fun e s₁ he => ?_)
  · cases n with
    | zero =>
      obtain ⟨os1, hb1, hl1, hg1, ⟨acc, c, hS1, hasz⟩, still, hk2⟩ := hv
      intro _
      refine False.elim (hk2 { s₁ with heap := s₁.heap.update S (Obj.mapSeq (·.push v)) } (Slp.push (m := m) hS1 (by rw [Heap.get?_update_self _ hS1 (by rw [mapSeq_push]; rfl), mapSeq_push]) ?_ rfl hb1 fun b o nS _ e => (Heap.get?_update_other _ _ (Ne.symm nS)).trans e))
      exact (hns.at' fun o e => by rw [still _ mC]; exact e).at' fun o e => (Heap.get?_update_other _ _ hSC).trans e
    | succ n =>
      intro hsz
      obtain ⟨os1, hb1, hl1, hg1, ⟨acc, c, hS1, hasz⟩, still, hk2⟩ := hv
      have hsz1 : g < s₁.gens.size := by
        have q : (s₁.setGen g gs').gens.size = s₁.gens.size := setGen_size _ _ _
        have hsz' : g + 1 ≤ (s₁.setGen g gs').gens.size := hsz
        omega
      have hns1 : s₁.heap.Ns ce.locals m := hns.at' fun o e => by rw [still _ mC]; exact e
      have hasz' : acc.size < sizeLine := by omega
      refine wpAny_assign_Name (wpAny_storeName_local (m := m) hn hns1 (fun h' hn' sb => ?_) (by rw [hk]; rfl))
      refine wpAny_Name (wpAny_loadName_local hk hn hn' (v := v) (by rw [if_pos rfl]) ?_) hdb
      have hS2 : h'.get? S = some (lstObj acc c) := (sb.2 S hSC).trans hS1
      refine append_at (hsz := Nat.le_of_lt hasz') hS2 fun h'' sb2 hS3 => ?_
      have keep3 : ∀ b o, b ≠ S → b ≠ ce.locals → s₁.heap.get? b = some o → h''.get? b = some o := fun b o nS nC e => (sb2.2 b nS).trans ((sb.2 b nC).trans e)
      have hnC : h''.Ns ce.locals _ := hn'.sameBut sb2 (Ne.symm hSC)
      refine ⟨n, Nat.lt_succ_self n, ?_, ?_, ⟨_, hnC⟩, gs', setGen_at hsz1, ?_⟩
      · obtain ⟨o, nm, qn, ho, r⟩ := hg1
        exact ⟨o, nm, qn, keep3 a o (Ne.symm hSa) (Ne.symm hCa) ho, r⟩
      · obtain ⟨mc, hns', hnn⟩ := hl1
        exact ⟨mc, hns'.at' fun o e => keep3 _ o (Ne.symm hSc) (Ne.symm hCc) e, hnn⟩
      · exact hk2 _ (Slp.push hS1 hS3 hnC rfl (allBare_setGen (s := s₁.setGen g gs') (allBare_setGen hb1 hbare) rfl) keep3)
  · intro hsz
    obtain ⟨H', ys, acc, c, os1, hb1, un, hok, hSn, hS1, hv, hle, still, hQ⟩ := hp
    exact hend _ acc c H' ys m (hk' _ _ hS1) ((hns.at' fun o e => by rw [still _ mC]; exact e).at' fun o e => hk' _ _ e) hv hle os1 (allBare_setGen hb1 rfl) (un.trans (Un.kept hk')) (hok.kept hk') (hSn _ mS) (hSn _ mC) hQ
  · obtain ⟨hc, _⟩ := he
    obtain ⟨_, _, _, _, _, _, _, _, _, _, _, _, hW⟩ := hc
    exact (hE _ _ _ hW).elim
/-- an expression whose value is such a generator, not yet begun -/
structure PGenF (X : Cx) (k : Nat) (e : Expr) (tg : TGen) (E : XK) : Prop where
  run : ∀ (pins : List (Addr × Obj)) (s : Shared) (σ : L2.St) (H : Hp) (cont : List V → Hp → Prop), Inv X pins σ H s → tg σ H cont → wpAny (model X.prog X.w) X.A (eval e X.env)
    (fun u s' => ∃ H1 sc, Inv X pins σ H1 sc ∧ FMade X.prog X.w k X.stack H1 sc cont E u s') X.xe s
section
variable {X : Cx} {k : Nat} {f : Addr} {fd : FuncData} {ps : List Str} {sp : SpG} {dvs : List V} {ds : List Value} {x : Str} {p pos' : Pos}
/-- f(e, ..) of such a generator def -/
theorem pgenF_call {E : XK} {e : Expr} {es : List Expr} {t : TA} (F : FFn X.prog X.w X.K X.mg X.base k f fd ps sp) (hr : Room k X.A) (hg : Gl X x) (hm : X.mg x = some (.ref f)) (hk : PySem.W.keepIn X.K (.ref f) = true) (hb : Binds X.K fd ps ds) (hd : Vals dvs ds)
    (ha : PA X (e :: es) t) (hdb : (x == ("__debug__" : Str)) = false := by decide) (he : starEach (e :: es) X.env = (false, eval e X.env) :: starEach es X.env := by rfl) (hpl : (backTo pos' (starEach es X.env)).any (·.1) = false := by rfl) :
    PGenF X k (.Call (.Name x p) (e :: es) [] pos') (tCallG sp dvs E t) E := by
  refine ⟨fun pins s σ H cont I h => ?_⟩
  refine wpAny_Call_Name_kw (ld_glob I hg hm ?_ hdb)
  refine PySem.W.callWith_K (h₀ := X.base) I.ok.mod.kin hk (thn (ha.run pos' pins s σ H _ I h) fun us s1 ⟨vs, H1, I1, r, q⟩ => ⟨I1.kIn, ?_⟩) he hpl
  have r2 : Vals (vs ++ dvs) (us ++ ds) := r.append hd
  have hl2 : (us ++ ds).length = ps.length := by rw [← r2.length]; exact F.len _ _ _ _ q
  refine wpAny_call (codeAny_mono (F.run X.A X.stack s1 H1 ⟨us, []⟩ (us ++ ds) (vs ++ dvs) cont E hr I1.env0 (hb s1 us I1.kIn hl2) r2 q) fun r s' hq => ?_)
  cases r with
  | error e => exact False.elim hq
  | ok fl =>
    cases fl with
    | ret u => exact ⟨H1, s1, I1, hq⟩
    | next => exact False.elim hq
    | brk => exact False.elim hq
    | cont => exact False.elim hq
/-- [y for y in f(..)] -/
theorem pe_lcG {y : Str} {p1 p2 pos : Pos} {call : Expr} {scope : Scope} {tg : TGen} {E : XK} (h : PGenF X k call tg E) (hE : ∀ c d H', E c d H' → False) (hr : Room (k + 3) X.A) (hk : scope.kind = .function) (hnm : scope.names = [(Str.ofString ".0", .local), (y, .local)])
    (hy : (y == Str.ofString ".0") = false) (hdb : (y == ("__debug__" : Str)) = false := by decide) (hs : ∀ x, foldedSetIterable call X.env x = pure x := by intro _; rfl) : PE X (.ListComp (.Name y p1) [⟨.Name y p2, call, [], 0⟩] scope pos) (tListG tg) := by
  refine ⟨fun pins s σ H Q I hq => ?_⟩
  have lk : scope.names.lookup y = some .local := by
    rw [hnm, List.lookup_cons, hy, List.lookup_cons, beq_self_eq_true]
  refine wpAny_ListComp (fun z hz => ?_) hk (fun z hz _ => ?_) (thn (h.run pins s σ H _ I hq) fun u s1 ⟨H1, sc, I1, hG⟩ => ?_) hs
  · rw [hnm] at hz
    rcases List.mem_cons.mp hz with e | hz
    · rw [e]; intro q; cases q
    · rw [List.mem_singleton.mp hz]; intro q; cases q
  · rw [hnm] at hz
    rcases List.mem_cons.mp hz with e | hz
    · rw [e, hnm, List.lookup_cons, beq_self_eq_true]
    · rw [List.mem_singleton.mp hz]; exact lk
  obtain ⟨a, g, c, rfl, ha1, ha2, hg, hgs, hos, hb, hl, hkp, wake⟩ := hG
  refine wpAny_pyIter_gen hg ?_
  refine wpAny_newObj_type (newEnv_comp ?_) (by show 0 ≤ sizeLine; decide)
  have ha2' : a < s1.heap.objs.size := ha2
  have hcl : cStatics < s1.heap.objs.size := let ⟨_, hn, _⟩ := hl; hn.lt
  have hsz : sc.heap.objs.size ≤ s1.heap.objs.size := Nat.le_trans ha1 (Nat.le_of_lt ha2)
  have kp1 : ∀ b o, s1.heap.get? b = some o → ((s1.heap.push { cls := .type "list", data := .seq ([] : List Value).toArray }).push { cls := .type "dict", data := .dict #[] }).get? b = some o := fun b o e => Heap.get?_push_of_some _ (Heap.get?_push_of_some _ e)
  have szP : (s1.heap.push { cls := .type "list", data := .seq ([] : List Value).toArray }).objs.size = s1.heap.objs.size + 1 := Heap.size_push ..
  have pcl : ∀ h : Heap, pushCells h scope.names = h := fun h => by rw [hnm]; rfl
  have hCn := Heap.Ns.new (s1.heap.push { cls := .type "list", data := .seq ([] : List Value).toArray }) (.type "dict")
  have hDn : ((s1.heap.push { cls := .type "list", data := .seq ([] : List Value).toArray }).push { cls := .type "dict", data := .dict #[] }).get? s1.heap.objs.size = some (lstObj #[] 0) := Heap.get?_push_of_some _ (Heap.get?_push_size _ rfl)
  rw [pcl]
  refine codeAny_compStart_list ?_ (wpAny_pyIter_gen (hg.keeps kp1) ?_)
  all_goals
    refine walkF (H := H1) (sc := sc) (Q := fun out H2 => ∀ p, H2 p = none → Q (.ref p) (upd H2 p (.lst out))) (E := E) (outer := X.stack) hr.hd hr.depth hk ?_ hdb (Nat.ne_of_gt ha2) (Nat.ne_of_gt hcl) ?_ ?_ ?_ hE (fun s' acc cc H' ys m q1 qn q2 ql q3 q4 q5 q6 q7 q7c q8 => ?_) sizeLine _ (hg.keeps kp1) (hl.keeps kp1) ⟨_, hCn⟩ ⟨_, hgs, rfl, ?_⟩
    · exact lk
    · show (s1.heap.push _).objs.size ≠ a
      rw [szP]; exact Nat.ne_of_gt (Nat.lt_succ_of_lt ha2)
    · show (s1.heap.push _).objs.size ≠ cStatics
      rw [szP]; exact Nat.ne_of_gt (Nat.lt_succ_of_lt hcl)
    · show s1.heap.objs.size ≠ (s1.heap.push _).objs.size
      rw [szP]; omega
    · have I2 := I1.drained (S := s1.heap.objs.size) hsz ql q1 q2 ExOk.nil q3 q4 q5 q6 q7
      have nC : (s1.heap.push { cls := .type "list", data := .seq ([] : List Value).toArray }).objs.size ≠ s1.heap.objs.size := by rw [szP]; omega
      have f := I1.fpOk (b := (s1.heap.push { cls := .type "list", data := .seq ([] : List Value).toArray }).objs.size) (H' := upd H' s1.heap.objs.size (.lst ys)) (by rw [szP]; omega) (by rw [upd_ne nC]; exact q7c)
      refine ⟨m, qn, fun h'' sb => ?_⟩
      exact ⟨.ref s1.heap.objs.size, upd H' s1.heap.objs.size (.lst ys), I2.turned (t' := s'.toks) (fun b o hb e => (sb.2 b hb).trans e) f.1 f.2.1 f.2.2.2.1 f.2.2.2.2.1 f.2.2.2.2.2, rfl, q8 _ q7⟩
    · refine wake _ _ _ _ ⟨hr.hd, ?_, ?_⟩ I1.ok.frames (fun b hb => ?_) kp1 ⟨_, hDn⟩ (fun b hb => ?_) hos (allBare_setGen (s := { s1 with heap := _ }) hb rfl)
      · have := hr.dp
        show X.A.depth + 3 * k + 5 < _
        omega
      · have := hr.un
        show X.A.units + 1 + 16 * k + 200 < _
        omega
      · rcases List.mem_cons.mp hb with z | z
        · rw [z]; exact Nat.le_refl _
        · rw [List.mem_singleton.mp z]
          show _ ≤ (s1.heap.push _).objs.size
          rw [szP]; omega
      · rw [List.mem_singleton.mp hb]
        obtain ⟨o, es, ep, ho, hd, _⟩ := hCn
        exact ⟨o, ho, fun v q => by rw [hd] at q; cases q⟩
end
end L2.GenF
set_option Elab.async false
set_option linter.all false
set_option maxRecDepth 100000
set_option maxHeartbeats 4000000
/-! xs != [] of any list. -/
namespace L2.LstNo
open PySem PySem.Spec PyProof.Rows PySem.SeqAt AutoSeq1 MeetsSeq MeetsSeq2 MeetsSeq3
section
variable {P : Program} {w : World} {A : Around} {s : Shared}
theorem ne_sizes {l b : Addr} {xs ys : Array Value} (h1 : s.heap.IsList l xs) (h2 : s.heap.IsList b ys) (hz : xs.size ≠ ys.size) (hu : A.units + 8 < cLine)
    (E : Value → Shared → Prop) (Q : Value → Shared → Prop) (h : Q (.bool true) s) : wpAny (model P w) A (compareOp .NotEq (.ref l) (.ref b)) Q E s := by
  obtain ⟨⟨c1, d1, e1, s1⟩, ho1, hc1, n1, hd1⟩ := h1
  obtain ⟨⟨c2, d2, e2, s2⟩, ho2, hc2, n2, hd2⟩ := h2
  simp only at hc1 hd1 hc2 hd2
  subst hc1 hd1 hc2 hd2
  have ta : s.TypeIs (.ref l) "list" := ⟨_, ho1, rfl⟩
  have tb : s.TypeIs (.ref b) "list" := ⟨_, ho2, rfl⟩
  have whole : MeetsIn P w (Builtin.«list.__ne__» ⟨[.ref l, .ref b], []⟩) (fun A R s => s.heap.get? l = some { cls := .type "list", dict := d1, data := .seq xs n1, slots := s1 } ∧ s.heap.get? b = some { cls := .type "list", dict := d2, data := .seq ys n2, slots := s2 } ∧ R (.ok (.ret (.bool true))) s) := by
    rintro A R ⟨hp, g, d, tk, os⟩ ⟨hl, hb, h⟩
    have f3 := AutoSeq1.sub_list_list
    have hne : (xs.size != ys.size) = true := by simp [hz]
    wp_walk using wpAny_loadPart' hl, wpAny_loadPart' hb
    exact h
  exact wpAny_richCompare_same_room (op := .NotEq) ta tb F.slot_list_ne (call_meetsIn F.slot_list_ne ta F.entry_list_ne (F.args_list_ne_2 _ _) whole ⟨ho1, ho2, show Value.bool true ≠ Value.notImplemented ∧ Q (.bool true) s from ⟨(fun x => nomatch x), h⟩⟩) (by omega)
end
section
variable {X : Cx}
def rNeNil (K : PySem.W.Frag) : R2 := fun x y H Q => ∃ a b xs, x = .ref a ∧ y = .ref b ∧ SqL K H a xs ∧ SqL K H b [] ∧ Q (.bl (!xs.isEmpty)) H
theorem op_neNil (hu : X.A.units + 64 < cLine) : OpR X (compareOp .NotEq) (rNeNil X.K) := by
  intro pins s σ H x y v u Q I rx ry h
  obtain ⟨a, b, xs, rfl, rfl, ha, hb, q⟩ := h
  cases xs with
  | nil => exact op_neD hu pins s σ H _ _ v u Q I rx ry ⟨.list [], .list [], .lst ha .nil, .lst hb .nil, by decide, by decide, q⟩
  | cons x0 xs =>
    cases (show v = Value.ref a from rx)
    cases (show u = Value.ref b from ry)
    obtain ⟨us, r1, p1, _⟩ := I.list ha
    obtain ⟨ws, r2, p2, _⟩ := I.list hb
    refine ne_sizes (A := X.A) p1.isList p2.isList ?_ (by omega) X.xe (EP X pins σ Q) ⟨.bl true, H, I, rfl, q⟩
    rw [List.size_toArray, List.size_toArray, ← r1.length, ← r2.length]
    simp
end
theorem op_neNilK {X : Cx} {K : PySem.W.Frag} (e : X.K = K) (hu : X.A.units + 64 < cLine) : OpR X (compareOp .NotEq) (rNeNil K) := by
  subst e
  exact op_neNil hu
end L2.LstNo

/-! Facts in order. -/
namespace L2.FaO
open PySem PySem.Spec PyProof.Rows L2.LawH L2.NSet PySem.W
def tkT (zs : List Str) : List (Int ⊕ List Nat) := keyToksAll (zs.map PyData.str)
theorem tkT_nil : tkT [] = [.inl 0] := by simp [tkT, keyToksAll]
theorem tkT_cons (z : Str) (zs : List Str) : tkT (z :: zs) = .inl 1 :: .inr z.cps.toList :: tkT zs := by simp [tkT, keyToksAll, keyToks]
theorem str_cps {a b : Str} (h : a.cps.toList = b.cps.toList) : a = b := by
  cases a
  cases b
  exact congrArg Str.mk (Array.toList_inj.mp h)
theorem tkT_inj : ∀ {m m' : List Str}, tkT m = tkT m' → m = m'
  | [], [], _ => rfl
  | [], p :: m', h => by
    rw [tkT_nil, tkT_cons] at h
    injection h with h1 h2
    exact absurd h1 (by decide)
  | p :: m, [], h => by
    rw [tkT_nil, tkT_cons] at h
    injection h with h1 h2
    exact absurd h1 (by decide)
  | p :: m, q :: m', h => by
    rw [tkT_cons, tkT_cons] at h
    injection h with _ h
    injection h with h1 h
    rw [tkT_inj h, str_cps (Sum.inr.inj h1)]
theorem toks_ptM (x : Pt) : keyToks (ptM x).2.data = tkT (x.2.1 :: x.2.2) := by
  rw [data_ptM]
  simp [tkT, keyToks]
def leF (a b : Str × List Str) : Bool := !PyProof.Rows.lexLt itemOrd (tkT (b.1 :: b.2)) (tkT (a.1 :: a.2))
theorem leF_anti {a b : Str × List Str} (x : leF a b = true) (y : leF b a = true) : a = b := by
  unfold leF at x y
  rw [Bool.not_eq_true'] at x y
  have e := tkT_inj (lex_total (O := itemOrd) _ _ y x)
  injection e with e1 e2
  exact Prod.ext e1 e2
theorem rise_up {M : List Pt} (r : Rise (fun x : Pt => (ptM x).2.data) M) : (M.map (·.2)).Pairwise fun a b => leF a b = true := by
  rw [List.pairwise_map]
  refine List.Pairwise.imp (fun {a b} h => ?_) r
  have h' : (!PyProof.Rows.lexLt itemOrd (keyToks (ptM b).2.data) (keyToks (ptM a).2.data)) = true := h
  rw [toks_ptM, toks_ptM] at h'
  exact h'
/-- two lists of the same facts in order are one -/
theorem rise_one {M N : List Pt} (nM : (M.map (·.2)).Nodup) (nN : (N.map (·.2)).Nodup) (rM : Rise (fun x : Pt => (ptM x).2.data) M) (rN : Rise (fun x : Pt => (ptM x).2.data) N) (h : ∀ c, c ∈ M.map (·.2) ↔ c ∈ N.map (·.2)) : M.map (·.2) = N.map (·.2) :=
  List.Perm.eq_of_pairwise (fun a b _ _ x y => leF_anti x y) (rise_up rM) (rise_up rN) ((List.perm_ext_iff_of_nodup nM nN).mpr h)

theorem inj_of : ∀ {N : List Pt}, (N.map (·.2)).Nodup → ∀ x ∈ N, ∀ y ∈ N, x.2 = y.2 → x = y
  | z :: N, nd, x, mx, y, my, q => by
    rw [List.map_cons, List.nodup_cons] at nd
    rcases List.mem_cons.mp mx with e1 | m1
    · rcases List.mem_cons.mp my with e2 | m2
      · rw [e1, e2]
      · exact (nd.1 (List.mem_map.mpr ⟨y, m2, by rw [← q, e1]⟩)).elim
    · rcases List.mem_cons.mp my with e2 | m2
      · exact (nd.1 (List.mem_map.mpr ⟨x, m1, by rw [q, e2]⟩)).elim
      · exact inj_of nd.2 x m1 y m2 q
/-- a Store's facts, made of facts in order, are these -/
theorem facts_one {M N : List Pt} (sub : ∀ x ∈ M, x ∈ N) (all : ∀ x ∈ N, x.2 ∈ M.map (·.2)) (nM : (M.map (·.2)).Nodup) (nN : (N.map (·.2)).Nodup) (rM : Rise (fun x : Pt => (ptM x).2.data) M) (rN : Rise (fun x : Pt => facD x.2) N) : M = N := by
  have rN' : Rise (fun x : Pt => (ptM x).2.data) N := by
    have e : (fun x : Pt => (ptM x).2.data) = fun x : Pt => facD x.2 := funext fun x => data_ptM x
    rw [e]
    exact rN
  have e := rise_one nM nN rM rN' fun c => ⟨fun h => by
    obtain ⟨x, mx, rfl⟩ := List.mem_map.mp h
    exact List.mem_map.mpr ⟨x, sub x mx, rfl⟩, fun h => by
    obtain ⟨x, mx, rfl⟩ := List.mem_map.mp h
    exact all x mx⟩
  have inj := inj_of nN
  refine List.ext_getElem (by have := congrArg List.length e; simpa using this) fun i h1 h2 => ?_
  refine inj _ (sub _ (List.getElem_mem h1)) _ (List.getElem_mem h2) ?_
  have := congrArg (fun l => l[i]?) e
  simpa [h1, h2] using this
/-- the tuple of facts as data -/
def facsD (M : List Pt) : PyData := .tuple ((M.map (·.2)).map facD)
theorem facs_self : ∀ (cs : List (Str × List Str)), PyData.eqvAll (cs.map facD) (cs.map facD) = true
  | [] => by simp [PyData.eqvAll]
  | c :: cs => by
    rw [List.map_cons, PyData.eqvAll, eqv_fact, facs_self cs]
    simp
theorem shaped_facs {M : List Pt} (h : ∀ x ∈ M, Fct x.2) : SeqAt.shaped (facsD M) = true := by
  unfold SeqAt.shaped facsD
  rw [PyData.canLay0, lay_facts (fun c mc => by obtain ⟨x, mx, rfl⟩ := List.mem_map.mp mc; exact h x mx), Bool.true_and, PyData.depth]
  have := depth_facts (M.map (·.2))
  exact decide_eq_true (by omega)
theorem eqv_facs (M : List Pt) : PyData.eqv (facsD M) (facsD M) = true := by
  unfold facsD
  rw [PyData.eqv, facs_self]
end L2.FaO
set_option Elab.async false
set_option linter.all false
set_option maxRecDepth 100000
set_option maxHeartbeats 4000000
/-! What the law holds in its hands while the program is called. -/
namespace L2.Rws
open PySem PySem.Spec PyProof.Rows L2.LawH L2.SetT L2.Frz L2.NSet L2.LstNe
open L2.TxtDict (Prs2 kd)
/-- all but instances stays -/
def Ki (H H' : Hp) : Prop := ∀ b o, H b = some o → (∀ C dx fs, o ≠ .ins C dx fs) → H' b = some o
theorem Ki.of {H H' : Hp} (s : Same H H') : Ki H H' := fun b o e _ => s b o e
theorem Ki.trans {H H1 H2 : Hp} (k : Ki H H1) (l : Ki H1 H2) : Ki H H2 := fun b o e n => l b o (k b o e n) n
theorem Ki.st {C : Addr} {H H' : Hp} {st : Addr} {xs : List Tx} (h : StG C H st xs) (k : Keep st H H') : Ki H H' := fun b o e n => k b o e (fun z => by
  obtain ⟨dx, fs, q⟩ := h.ins
  rw [z, q] at e
  cases e
  exact n _ _ _ rfl)
theorem Ki.src {H H' : Hp} {a : Addr} {c : Int} {m : Nat} (h : SrcAt H a c m) (k : Ki H H') : SrcAt H' a c m := let ⟨d, n, e, f, b⟩ := h; ⟨d, n, k _ _ e (fun _ _ _ z => by cases z), f, b⟩
theorem Ki.pool {a p : Addr} {H H' : Hp} {π : Pool} (h : PoolAt a H p π) (k : Ki H H') : PoolAt a H' p π :=
  ⟨k _ _ h.hp (fun _ _ _ z => by cases z), k _ _ h.hr (fun _ _ _ z => by cases z), fun x hx => let ⟨h1, h2, h3, h4⟩ := h.hrow x hx; ⟨k _ _ h1 (fun _ _ _ z => by cases z), h2, h3, h4⟩, h.rows1, h.rows9, k _ _ h.hc (fun _ _ _ z => by cases z), h.nC, h.C2, h.C9,
    k _ _ h.hv (fun _ _ _ z => by cases z), h.nW, h.W9, h.np, h.nr, h.nc, h.nv⟩
theorem Ki.lot {a q : Addr} {H H' : Hp} {π : Pool} {W : List Str} {L : List Pt} (h : LotF a π W H q L) (k : Ki H H') : LotF a π W H' q L :=
  ⟨k _ _ h.sq (fun _ _ _ z => by cases z), fun x m => (h.each x m).elim fun o e => ⟨o, e.1, k _ _ e.2 (fun _ _ _ z => by cases z)⟩, h.pat, h.nq, h.nx⟩
theorem Ki.map {H H' : Hp} {d : Addr} {m : Prs2} (h : MapAt H d m) (k : Ki H H') : MapAt H' d m := k _ _ h (fun _ _ _ z => by cases z)
/-- the source is none of these lists -/
theorem SrcAt.off {H : Hp} {a b : Addr} {c : Int} {m : Nat} {o : HO} (s : SrcAt H a c m) (e : H b = some o) (n : ∀ ys, o = .lst ys → ∀ i l, ys ≠ V.int i :: l) : b ≠ a := fun z => by
  obtain ⟨d, k, q, _⟩ := s
  rw [z, q] at e
  cases e
  exact n _ rfl _ _ rfl
theorem StG.keepA {C : Addr} {H H' : Hp} {st a : Addr} {xs : List Tx} {c : Int} {m : Nat} (h : StG C H st xs) (s : SrcAt H a c m) (k : Keep a H H') : StG C H' st xs := by
  obtain ⟨⟨dx, t, d, gv, h1, h2, h3⟩, tx⟩ := h
  have nl : ∀ {b o}, H b = some o → (∀ ys, o ≠ .lst ys) → H' b = some o := fun {b o} e n => k _ _ e (SrcAt.off s e fun ys z => absurd z (n ys))
  refine ⟨⟨dx, t, d, gv, nl h1 (fun _ z => by cases z), nl h2 (fun _ z => by cases z), h3.imp id fun ⟨g, gs, e, x⟩ => ⟨g, gs, e, ⟨nl x.at_ (fun _ z => by cases z), fun y my => ?_, x.all, x.nd⟩⟩⟩, fun x mx => nl (tx x mx) (fun _ z => by cases z)⟩
  refine k _ _ (x.each y my) (SrcAt.off s (x.each y my) fun ys z i l e => ?_)
  injection z with z
  rw [← z] at e
  cases hf : xs.filter (ofShp y.1) with
  | nil => rw [hf] at e; cases e
  | cons u r => rw [hf] at e; cases e
/-- all but these dicts stays -/
def Kl (ds : List Addr) (H H' : Hp) : Prop := ∀ b o, b ∉ ds → H b = some o → H' b = some o
theorem StG.kl {C : Addr} {H H' : Hp} {st : Addr} {xs : List Tx} {ds : List Addr} (h : StG C H st xs) (hd : ∀ d ∈ ds, ∃ kvs, H d = some (.dK kvs)) (k : Kl ds H H') : StG C H' st xs := by
  obtain ⟨⟨dx, t, d, gv, h1, h2, h3⟩, tx⟩ := h
  have nl : ∀ {b o}, H b = some o → (∀ ys, o ≠ .dK ys) → H' b = some o := fun {b o} e n => k _ _ (fun z => by
    obtain ⟨kvs, q⟩ := hd _ z
    rw [q] at e
    cases e
    exact n _ rfl) e
  exact ⟨⟨dx, t, d, gv, nl h1 (fun _ z => by cases z), nl h2 (fun _ z => by cases z), h3.imp id fun ⟨g, gs, e, x⟩ => ⟨g, gs, e, ⟨nl x.at_ (fun _ z => by cases z), fun y my => nl (x.each y my) (fun _ z => by cases z), x.all, x.nd⟩⟩⟩, fun x mx => nl (tx x mx) (fun _ z => by cases z)⟩
/-- source, pool, facts and Store -/
structure LO (C a p fl st : Addr) (c : Int) (m : Nat) (π : Pool) (M : List Pt) (H : Hp) : Prop where
  src : SrcAt H a c m
  pool : PoolAt a H p π
  hfl : H fl = some (.lst (M.map fun x => V.ref x.1))
  hM : ∀ x ∈ M, H x.1 = some (.tup (ptV x))
  hst : StG C H st (txs M)
  nfl : fl ≠ a
  nM : ∀ x ∈ M, x.1 ≠ a
section
variable {C a p fl st q l : Addr} {c : Int} {m m' : Nat} {π : Pool} {M L : List Pt} {kv : V} {kn : Prs2} {ds : List Addr} {cs : List Prs2} {H H' : Hp}
theorem LO.draw (h : LO C a p fl st c m π M H) (k : Keep a H H') (s : SrcAt H' a c m') : LO C a p fl st c m' π M H' :=
  ⟨s, h.pool.keep k, k _ _ h.hfl h.nfl, fun x mx => k _ _ (h.hM x mx) (h.nM x mx), h.hst.keepA h.src k, h.nfl, h.nM⟩
theorem LO.ki (h : LO C a p fl st c m π M H) (k : Ki H H') (s : StG C H' st (txs M)) : LO C a p fl st c m π M H' :=
  ⟨Ki.src h.src k, Ki.pool h.pool k, k _ _ h.hfl (fun _ _ _ z => by cases z), fun x mx => k _ _ (h.hM x mx) (fun _ _ _ z => by cases z), s, h.nfl, h.nM⟩
theorem LO.same (h : LO C a p fl st c m π M H) (s : Same H H') : LO C a p fl st c m π M H' := h.ki (Ki.of s) (h.hst.same s)
theorem LO.mono (h : LO C a p fl st c m π M H) (e : m' ≤ m) : LO C a p fl st c m' π M H := ⟨h.src.mono e, h.pool, h.hfl, h.hM, h.hst, h.nfl, h.nM⟩
/-- and lot, known map, what is due -/
structure LB (C a p fl st q l : Addr) (c : Int) (m : Nat) (π : Pool) (M L : List Pt) (kv : V) (kn : Prs2) (ds : List Addr) (cs : List Prs2) (H : Hp) : Prop where
  o : LO C a p fl st c m π M H
  lot : LotF a π (π.W.take 3) H q L
  hk : (kv = .non ∧ kn = []) ∨ ∃ k, kv = .ref k ∧ MapAt H k kn
  hl : H l = some (.lst (ds.map V.ref))
  pr : Paired (MapAt H) ds cs
theorem LB.ki (h : LB C a p fl st q l c m π M L kv kn ds cs H) (k : Ki H H') (s : StG C H' st (txs M)) : LB C a p fl st q l c m π M L kv kn ds cs H' :=
  ⟨h.o.ki k s, Ki.lot h.lot k, h.hk.imp id fun ⟨b, e, x⟩ => ⟨b, e, Ki.map x k⟩, k _ _ h.hl (fun _ _ _ z => by cases z), Paired.mapP h.pr fun _ _ x => Ki.map x k⟩
theorem LB.same (h : LB C a p fl st q l c m π M L kv kn ds cs H) (s : Same H H') : LB C a p fl st q l c m π M L kv kn ds cs H' := h.ki (Ki.of s) (h.o.hst.same s)
/-- a known map -/
structure KnS (kn : Prs2) : Prop where
  nk : (kn.map Prod.fst).Nodup
  k4 : kn.length ≤ 4
  kok : KnOk kn
  str : ∀ p ∈ kn, PyData.strOk p.1 = true ∧ PyData.strOk p.2 = true
  asc : kn.Pairwise fun p q => p.1.cps.toList ≤ q.1.cps.toList
theorem KnS.nil : KnS [] := ⟨List.nodup_nil, Nat.zero_le _, fun z v e => (nomatch e), fun p m => (nomatch m), List.Pairwise.nil⟩
theorem KnS.of (hp : PoolAt a H p π) (h : KnOf π kn) : KnS kn :=
  ⟨h.nd, h.few, known_ok hp h, fun x mx => ⟨(hp.nW _ (h.key x mx)).strOk, (hp.nC _ (h.val x mx)).strOk⟩, by have q := h.asc; rw [List.pairwise_map] at q; exact q⟩
theorem KnS.rev (h : KnS kn) : (∀ z, look kn z = look kn.reverse z) ∧ (kn.reverse.map Prod.fst).Nodup :=
  ⟨fun z => (look_rev h.nk z).symm, by rw [List.map_reverse]; exact (List.reverse_perm _).nodup_iff.mpr h.nk⟩
/-- what does not change -/
structure LS (π : Pool) (M L : List Pt) (kn : Prs2) (cs : List Prs2) : Prop where
  nd : (M.map (·.2)).Nodup
  few : M.length ≤ 8
  fct : ∀ x ∈ M, Fct x.2 ∧ ∀ z ∈ x.2.2, z ∈ π.C
  kn_ : KnS kn
  l6 : L.length ≤ 6
  ord : OrdF kn (GOf (txs M)) ((txs L).map (·.2)) cs
theorem LS.one (S : LS π M L kn cs) {kn' : Prs2} (e : ∀ z, look kn z = look kn' z) {cs' : List Prs2} (h : OrdF kn' (GOf (txs M)) ((txs L).map (·.2)) cs') : cs' = cs := h.one (S.ord.look e)
theorem LB.tell (B : LB C a p fl st q l c m π M L kv kn ds cs H) (S : LS π M L kn cs) {q' : Addr} (hq : H q' = some (.lst (refs (txs L))) ∨ H q' = some (.tup (refs (txs L)))) {kv' : V} {kn' : Prs2} (hk : (kv' = .non ∧ kn' = []) ∨ ∃ k, kv' = .ref k ∧ MapAt H k kn')
    (e : ∀ z, look kn z = look kn' z) (nk : (kn'.map Prod.fst).Nodup) (l4 : kn'.length ≤ 4) : TellS C H q' st kv' (txs L) (txs M) kn' π.C (π.W.take 3) := by
  have lp := (lot_pats kn' B.o.pool B.lot).2
  exact ⟨hq, fun x mx => ⟨(lp x mx).1, (lp x mx).2.1⟩, by unfold txs; rw [List.length_map]; have := S.l6; omega, B.o.hst, sit_of B.o.pool (S.kn_.kok.look e) S.nd S.few S.fct, hk, nk, by omega⟩
theorem LB.hq (B : LB C a p fl st q l c m π M L kv kn ds cs H) : H q = some (.lst (refs (txs L))) := (lot_pats kn B.o.pool B.lot).1
theorem LB.cok (B : LB C a p fl st q l c m π M L kv kn ds cs H) (S : LS π M L kn cs) : ∀ c ∈ cs, (c.map Prod.fst).Nodup ∧ Asc (c.map Prod.fst) ∧ c.length ≤ 20 := fun d md => by
  have lp := (lot_pats kn B.o.pool B.lot).2
  obtain ⟨h1, h2, h3⟩ := S.ord.each (vs := π.W.take 3) (fun P mP z mz f => by
    obtain ⟨x, mx, rfl⟩ := List.mem_map.mp mP
    exact (lp x mx).2.1.2 z mz f) d md
  refine ⟨h1, h2, ?_⟩
  have := S.kn_.k4
  rw [List.length_take] at h3
  omega
end
/-- the pairs of a map, reversed -/
theorem Paired.rev {α β : Type} {F : α → β → Prop} : ∀ {l : List α} {l' : List β}, Paired F l l' → Paired F l.reverse l'.reverse
  | _, _, .nil => .nil
  | _, _, .cons r t => by
    rw [List.reverse_cons, List.reverse_cons]
    exact _root_.PySem.Paired.snoc (Paired.rev t) r
theorem fct_fact {c : Str × List Str} (h : Fct c) : factB (.str c.1 :: c.2.map V.str) = true := by
  have vn : ∀ z : Str, Nm z → vN (.str z) = true := fun z q => q
  have pb : patB (.str c.1 :: c.2.map V.str) = true := by
    show (decide ((c.2.map V.str).length ≤ 3) && vN (.str c.1) && (c.2.map V.str).all fun y => vN y || vV y) = true
    rw [List.length_map, decide_eq_true h.l3, vn _ h.nT, Bool.true_and, Bool.true_and, List.all_map, List.all_eq_true]
    intro z m
    show (vN (.str z) || vV (.str z)) = true
    rw [vn _ (h.nz z m)]
    rfl
  unfold factB
  rw [pb, Bool.true_and, List.all_eq_true]
  intro v hv
  rcases List.mem_cons.mp hv with rfl | hv
  · exact h.nT
  · obtain ⟨z, hz, rfl⟩ := List.mem_map.mp hv
    exact h.nz z hz
theorem fct_okv {K : PySem.W.Frag} {H : Hp} {x : Pt} (h : Fct x.2) : ∀ y ∈ ptV x, Okv K H y := by
  intro v hv
  unfold ptV at hv
  rcases List.mem_cons.mp hv with rfl | hv
  · exact .inl ⟨_, rfl, Nat.le_trans (nm_len h.nT).2 (by decide)⟩
  · obtain ⟨z, hz, rfl⟩ := List.mem_map.mp hv
    exact .inl ⟨_, rfl, Nat.le_trans (nm_len (h.nz z hz)).2 (by decide)⟩
/-- Store(..) of facts in order, made -/
theorem make_law {C : Addr} {K : PySem.W.Frag} {HL : Hp} {L : Addr} {xs : List Pt} {Q : Addr → Hp → Prop} (f : ∀ x ∈ xs, HL x.1 = some (.tup (ptV x)) ∧ Fct x.2) (few : xs.length ≤ 40) (hq : SqL K HL L (xs.map fun x => V.ref x.1) ∨ SqT K HL L (xs.map fun x => V.ref x.1))
    (nd : (xs.map (·.2)).Nodup) (rise : Rise (fun x : Pt => facD x.2) xs) (k : ∀ (H' : Hp) (r : Addr), Same HL H' → HL r = none → StG C H' r (txs xs) → Q r H') (x dx : Addr) (nx : HL x = none) (ndx : HL dx = none) (ne : dx ≠ x) :
    spInitS C K [.ref x, .ref L] (upd (upd HL dx (.own x)) x (.ins C dx [])) (fun v H' => v = .non ∧ Q x H') E0 := by
  have sU : Same HL (upd (upd HL dx (.own x)) x (.ins C dx [])) := fun b o h => by
    rw [upd_ne (ne_of_none h nx), upd_ne (ne_of_none h ndx)]
    exact h
  refine ⟨x, L, dx, xs, rfl, upd_same, hq.imp (fun h => h.ext sU) (fun h => h.ext sU), fun y my => ⟨sU _ _ (f y my).1, fct_fact (f y my).2, (f y my).2.l3, fct_okv (f y my).2⟩, by omega, fun H' t d M keep h1 h2 _ _ h3 sub all ndM riseM => ⟨rfl, ?_⟩⟩
  have s2 : Same HL H' := fun b o h => keep _ _ (ne_of_none h nx) (sU _ _ h)
  have e : M = xs := L2.FaO.facts_one sub all ndM nd riseM rise
  subst e
  exact k H' x s2 nx (store_new h1 h2 fun y my => s2 _ _ (f y my).1)
/-- the keys of a map and its reverse -/
theorem cut_ints {ns : List Int} (hb : ∀ z ∈ ns, Builtin.Int.intBits z ≤ 1048576) {i : Nat} {v : V} (lo hi : Option Int)
    (h : (cutV (ns.map V.int) lo hi ++ [V.int 0])[i]? = some v) : ∃ z, v = .int z ∧ Builtin.Int.intBits z ≤ 1048576 := by
  have hm := List.mem_of_getElem? h
  rcases List.mem_append.mp hm with q | q
  · have q2 : v ∈ ns.map V.int := List.mem_of_mem_drop (List.mem_of_mem_take q)
    obtain ⟨z, hz, rfl⟩ := List.mem_map.mp q2
    exact ⟨z, rfl, hb z hz⟩
  · have q2 : v = .int 0 := by simpa using q
    exact ⟨0, q2, by decide⟩
end L2.Rws
set_option Elab.async false
set_option linter.all false
set_option maxRecDepth 100000
set_option maxHeartbeats 4000000
/-! Readings that meet again. -/
namespace L2.Rws
open PySem PySem.Spec PyProof.Rows L2.LawH L2.SetT L2.Frz L2.NSet L2.LstNe L2.GenL
open L2.TxtDict (Prs2 kd)
abbrev IsKn (kv : V) (kn : Prs2) (H : Hp) : Prop := (kv = .non ∧ kn = []) ∨ ∃ k, kv = .ref k ∧ MapAt H k kn
theorem IsKn.ki {kv : V} {kn : Prs2} {H H' : Hp} (h : IsKn kv kn H) (k : Ki H H') : IsKn kv kn H' := h.imp id fun ⟨b, e, x⟩ => ⟨b, e, Ki.map x k⟩
theorem kn_join {Q : VK} {a p : Addr} {c : Int} {m : Nat} {H : Hp} {π : Pool} (hp : PoolAt a H p π) (k : ∀ (kv : V) (kn : Prs2) (H' : Hp), SrcAt H' a c m → Keep a H H' → KnS kn → IsKn kv kn H' → Q kv H') :
    (∀ H', SrcAt H' a c m → Keep a H H' → Q .non H') ∧ ∀ (d : Addr) (kn : Prs2) (H' : Hp), SrcAt H' a c m → Keep a H H' → H d = none → d ≠ a → MapAt H' d kn → KnOf π kn → Q (.ref d) H' :=
  ⟨fun H' s kp => k .non [] H' s kp KnS.nil (.inl ⟨rfl, rfl⟩), fun d kn H' s kp nd ne m o => k (.ref d) kn H' s kp (KnS.of hp o) (.inr ⟨d, rfl, m⟩)⟩
theorem known_or8 {σ : St} {H : Hp} {Q : VK} {kv : V} {kn : Prs2} (h8 : σ[8]? = some (some kv)) (hk : IsKn kv kn H) (k : ∀ d H', Same H H' → MapAt H' d kn → Q (.ref d) H') :
    if (decide (kv = V.non)) = true then tDNewK σ H Q else tVar 8 σ H Q := by
  rcases hk with ⟨rfl, rfl⟩ | ⟨a, rfl, m⟩
  · exact ifT rfl fun d nd => k d _ (same_new nd) upd_same
  · exact ifF (isNone_ref _) ⟨_, h8, k a H (Same.refl _) m⟩
theorem turned_or {K : PySem.W.Frag} {σ : St} {H : Hp} {Q : VK} {kv : V} {kn : Prs2} (h8 : σ[8]? = some (some kv)) (S : KnS kn) (hk : IsKn kv kn H) (kk : ∀ (kv' : V) (H' : Hp), Same H H' → IsKn kv' kn.reverse H' → (kv' = .non ↔ kv = .non) → Q kv' H') :
    if (decide (kv = V.non)) = true then tVar 8 σ H Q else tCB (rDictP K) (tCons (tRevL K (tCall spPrs [] E0 (tCons (tVar 8) tNil))) tNil) σ H Q := by
  rcases hk with ⟨rfl, rfl⟩ | ⟨a, rfl, m⟩
  · exact ifT rfl ⟨_, h8, kk _ _ (Same.refl _) (.inl ⟨rfl, rfl⟩) Iff.rfl⟩
  · refine ifF (isNone_ref _) ⟨_, h8, a, kn, rfl, m, S.nk, by have := S.k4; omega, fun H1 l ts s1 nl pa tn => ⟨l, _, rfl, SqL.of pa.sq, fun p np => ?_⟩⟩
    have s2 : Same H1 (upd H1 p (.lst (ts.map V.ref).reverse)) := same_new np
    have c2 : (upd H1 p (.lst (ts.map V.ref).reverse)) p = some (.lst (ts.reverse.map V.ref)) := by rw [upd_same, List.map_reverse]
    generalize upd H1 p (.lst (ts.map V.ref).reverse) = H2 at s2 c2 ⊢
    have pe := pa.each
    rw [canon_id S.asc S.nk] at pe
    have pe2 := Paired.rev (Paired.mapP pe fun t q (e : H1 t = some (.tup [.str q.1, .str q.2])) => s2 _ _ e)
    refine ⟨p, ts.reverse, kd kn.reverse, rfl, SqL.of c2, prs_kd pe2 K, fun d nd => ?_⟩
    rw [mer_self S.rev.2]
    exact kk (.ref d) _ ((s1.trans s2).trans (same_new nd)) (.inr ⟨d, rfl, upd_same⟩) ⟨fun z => (nomatch z), fun z => (nomatch z)⟩
end L2.Rws
set_option Elab.async false
set_option linter.all false
set_option maxRecDepth 100000
set_option maxHeartbeats 4000000
/-! The law's questions, each by itself. -/
namespace L2.Rws
open PySem PySem.Spec PyProof.Rows L2.LawH L2.SetT L2.Frz L2.NSet L2.LstNe L2.GenL
open L2.TxtDict (Prs2 kd)
/-- None != None, and two dicts that are equal -/
def rNeM : R2 := fun x y H Q => (x = .non ∧ y = .non ∧ Q (.bl false) H) ∨ rNeDA x y H Q
theorem op_neM {X : Cx} (hu : X.A.units < cLine) : OpR X (compareOp .NotEq) rNeM := by
  intro pins s σ H x y v u Q I rx ry h
  rcases h with ⟨rfl, rfl, q⟩ | h
  · exact op_ne pins s σ H _ _ v u Q I rx ry ⟨rfl, q⟩
  · exact op_ne_dictA hu pins s σ H _ _ v u Q I rx ry h
theorem Ki.refl (H : Hp) : Ki H H := fun _ _ e _ => e
abbrev rTo (K : PySem.W.Frag) : List V → Hp → VK → Prop := fun xs H Q => ∃ p ys, xs = [V.ref p] ∧ ((SqL K H p ys ∧ ∀ l, H l = none → Q (.ref l) (upd H l (.tup ys))) ∨ (SqT K H p ys ∧ Q (.ref p) H))
abbrev rLD : List V → Hp → VK → Prop := fun xs H Q => ∃ (a : Addr) (kvs : List (Key × V)), xs = [.ref a] ∧ Rd H a (.dK kvs) ∧ ∀ p, H p = none → Q (.ref p) (upd H p (.lst (kvs.map fun kv => kV kv.1)))
abbrev rLn (K : PySem.W.Frag) : List V → Hp → VK → Prop := fun xs H Q => ∃ p ys, xs = [V.ref p] ∧ (SqL K H p ys ∨ SqT K H p ys) ∧ Q (.int ys.length) H
abbrev tFls : TS := tRet (tC (.bl false))
abbrev isNo : R2 := fun x y H Q => y = .non ∧ Q (.bl (decide (x = .non))) H
abbrev notNo : R2 := fun x y H Q => y = .non ∧ Q (.bl (!decide (x = .non))) H
section
variable {K : PySem.W.Frag} {C a p fl st q l : Addr} {c : Int} {m : Nat} {π : Pool} {M L : List Pt} {kv kv' : V} {kn : Prs2} {ds : List Addr} {cs : List Prs2} {H : Hp} {σ : St} {D : Ends}
/-- the maps, as the program tells them -/
theorem maps_told (B : LB C a p fl st q l c m π M L kv kn ds cs H) (S : LS π M L kn cs) {q' : Addr} (hq : H q' = some (.lst (refs (txs L))) ∨ H q' = some (.tup (refs (txs L)))) {kv' : V} {kn' : Prs2} (hk : IsKn kv' kn' H)
    (e : ∀ z, look kn z = look kn' z) (nk : (kn'.map Prod.fst).Nodup) (l4 : kn'.length ≤ 4) {Q : VK}
    (k : ∀ (x : Addr) (es : List Addr) (H' : Hp), Ki H H' → LB C a p fl st q l c m π M L kv kn ds cs H' → (∀ d ∈ es, H d = none) → H' x = some (.lst (es.map V.ref)) → Paired (MapAt H') es cs → x ∉ es → cs.length ≤ 64 → Q (.ref x) H') :
    spMaps C [.ref q', .ref st, kv'] H Q E0 := by
  refine ⟨q', st, kv', txs L, txs M, kn', π.C, π.W.take 3, rfl, B.tell S hq hk e nk l4, fun x es ms H' om nl hl nx => ?_⟩
  have z : ms = cs := S.one e (cs' := ms) om.ord
  have ki := Ki.st B.o.hst om.k
  have pr := om.pr
  have few := om.few
  rw [z] at pr few
  exact k x es H' ki (B.ki ki om.hs) om.new hl pr nx few
theorem LB.rev (B : LB C a p fl st q l c m π M L kv kn ds cs H) (S : LS π M L kn cs) : (∀ z, look kn z = look kn.reverse z) ∧ (kn.reverse.map Prod.fst).Nodup ∧ kn.reverse.length ≤ 4 := ⟨S.kn_.rev.1, S.kn_.rev.2, by rw [List.length_reverse]; exact S.kn_.k4⟩
theorem row_A (B : LB C a p fl st q l c m π M L kv kn ds cs H) (S : LS π M L kn cs) (hk' : IsKn kv' kn.reverse H) (s5 : σ[5]? = some (some (.ref st))) (s7 : σ[7]? = some (some (.ref q))) (s8 : σ[8]? = some (some kv)) (s9 : σ[9]? = some (some (.ref l))) (s10 : σ[10]? = some (some kv'))
    (fin : ∀ H', LB C a p fl st q l c m π M L kv kn ds cs H' → Ki H H' → D.nx σ H') :
    tIfS (tOr (tNot (tB (tCall spRgt [] E0 (tCons (tCall (spMaps C) [] E0 (tCons (tVar 7) (tCons (tVar 5) (tCons (tVar 10) tNil)))) (tCons (tVar 9) tNil)))))
      (tTest (tOp (rNeV K) (tCallN 2 1 (spMaps C) (fun vs zs => vs ++ zs) E0 (tCons (tCB (rTo K) (tCons (tVar 7) tNil)) (tCons (tVar 5) tNil)) (tCons (tVar 8) tNil)) (tVar 9)))) tFls tNext D σ H := by
  obtain ⟨r1, r2, r3⟩ := B.rev S
  refine ⟨_, s7, _, s5, _, s10, ?_⟩
  dsimp only [tNil, List.cons_append, List.nil_append]
  refine maps_told B S (.inl B.hq) hk' r1 r2 r3 fun x es H1 k1 B1 new1 hx pr1 nx few => ?_
  refine ⟨_, s9, x, l, es, ds, cs, rfl, hx, B1.hl, pr1, B1.pr, by omega, B1.cok S, fun H2 sm2 => ⟨true, rfl, iteF ?_⟩⟩
  have B2 := B1.same sm2
  refine ⟨_, s7, q, _, rfl, .inl ⟨SqL.of B2.hq, fun tq ntq => ?_⟩⟩
  have sm3 : Same H2 (upd H2 tq (.tup (refs (txs L)))) := same_new ntq
  have c3 : (upd H2 tq (.tup (refs (txs L)))) tq = some (.tup (refs (txs L))) := upd_same
  generalize upd H2 tq (.tup (refs (txs L))) = H3 at sm3 c3 ⊢
  have B3 := B2.same sm3
  refine ⟨_, s5, _, s8, rfl, rfl, ?_⟩
  dsimp only [tNil, List.cons_append, List.nil_append]
  refine maps_told B3 S (.inr c3) B3.hk (fun z => rfl) S.kn_.nk S.kn_.k4 fun x2 es2 H4 k4 B4 new4 hx4 pr4 nx4 few4 => ?_
  refine ⟨_, s9, 2, by decide, ⟨x2, l, _, _, rfl, rfl, SqL.of hx4, SqL.of B4.hl, maps_eqv pr4 B4.pr fun d md => (B4.cok S d md).1⟩, _, rfl, iteF (fin H4 B4 ?_)⟩
  exact ((k1.trans (Ki.of sm2)).trans (Ki.of sm3)).trans k4
theorem row_B (B : LB C a p fl st q l c m π M L kv kn ds cs H) (hk' : IsKn kv' kn.reverse H) (en : kv' = .non ↔ kv = .non) (s8 : σ[8]? = some (some kv)) (s10 : σ[10]? = some (some kv')) (fin : ∀ H', Same H H' → D.nx σ H') :
    tIfS (tAnd (tTest (tOp notNo (tVar 8) (tC .non))) (tTest (tOp (rNeV K) (tCB rLD (tCons (tVar 10) tNil)) (tRevL K (tCB rLD (tCons (tVar 8) tNil)))))) tFls tNext D σ H := by
  refine ⟨_, s8, rfl, _, rfl, ?_⟩
  rcases B.hk with ⟨e, _⟩ | ⟨b, e, mb⟩
  · refine ifF (by rw [e]; rfl) (iteF (fin H (Same.refl _)))
  · refine ifT (by rw [e, isNone_ref]; rfl) ?_
    rcases hk' with ⟨e', _⟩ | ⟨b', e', mb'⟩
    · rw [en.mp e'] at e
      cases e
    · subst e e'
      refine ⟨_, s10, b', kd kn.reverse, rfl, .inl mb', fun p1 n1 => ?_⟩
      rw [keys_kd]
      have sm1 : Same H (upd H p1 (.lst ((kn.reverse.map Prod.fst).map V.str))) := same_new n1
      have c1 : (upd H p1 (.lst ((kn.reverse.map Prod.fst).map V.str))) p1 = some (.lst ((kn.reverse.map Prod.fst).map V.str)) := upd_same
      generalize upd H p1 (.lst ((kn.reverse.map Prod.fst).map V.str)) = H1 at sm1 c1 ⊢
      refine ⟨_, s8, b, kd kn, rfl, .inl (sm1 _ _ mb), fun p2 n2 => ⟨p2, _, rfl, SqL.of upd_same, fun p3 n3 => ?_⟩⟩
      rw [keys_kd] at n3 ⊢
      have sm2 : Same H1 (upd H1 p2 (.lst ((kn.map Prod.fst).map V.str))) := same_new n2
      generalize upd H1 p2 (.lst ((kn.map Prod.fst).map V.str)) = H2 at sm2 n3 ⊢
      have er : ((kn.map Prod.fst).map V.str).reverse = (kn.reverse.map Prod.fst).map V.str := by rw [List.map_reverse, List.map_reverse]
      rw [er]
      have sm3 : Same H2 (upd H2 p3 (.lst ((kn.reverse.map Prod.fst).map V.str))) := same_new n3
      refine ⟨1, by decide, ⟨p1, p3, _, _, rfl, rfl, SqL.of (sm3 _ _ (sm2 _ _ c1)), SqL.of upd_same, strs_eqv K _ _⟩, _, rfl, iteF (fin _ ((sm1.trans sm2).trans sm3))⟩
theorem row_C (B : LB C a p fl st q l c m π M L kv kn ds cs H) (S : LS π M L kn cs) (hk' : IsKn kv' kn.reverse H) (s5 : σ[5]? = some (some (.ref st))) (s7 : σ[7]? = some (some (.ref q))) (s9 : σ[9]? = some (some (.ref l))) (s10 : σ[10]? = some (some kv'))
    (fin : ∀ H', LB C a p fl st q l c m π M L kv kn ds cs H' → Ki H H' → D.nx σ H') :
    tIfS (tNot (tB (tCall spRgt [] E0 (tCons (tListG (tCallG (spEM C) [] E0 (tCons (tVar 7) (tCons (tVar 5) (tCons (tVar 10) tNil))))) (tCons (tVar 9) tNil))))) tFls tNext D σ H := by
  obtain ⟨r1, r2, r3⟩ := B.rev S
  refine ⟨_, s7, _, s5, _, s10, q, st, kv', txs L, txs M, kn.reverse, π.C, π.W.take 3, rfl, B.tell S (.inl B.hq) hk' r1 r2 r3, fun es ms H1 om x nx => ?_⟩
  have z : ms = cs := S.one r1 (cs' := ms) om.ord
  subst z
  have ki := Ki.st B.o.hst om.k
  have B1 := B.ki ki om.hs
  have sm2 : Same H1 (upd H1 x (.lst (es.map V.ref))) := same_new nx
  have c2 : (upd H1 x (.lst (es.map V.ref))) x = some (.lst (es.map V.ref)) := upd_same
  generalize upd H1 x (.lst (es.map V.ref)) = H2 at sm2 c2 ⊢
  have B2 := B1.same sm2
  refine ⟨_, s9, x, l, es, ds, ms, rfl, c2, B2.hl, Paired.mapP om.pr fun _ _ y => y.same sm2, B2.pr, by have := om.few; omega, B2.cok S, fun H3 sm3 => ⟨true, rfl, iteF (fin H3 (B2.same sm3) ((ki.trans (Ki.of sm2)).trans (Ki.of sm3)))⟩⟩
theorem row_D (B : LB C a p fl st q l c m π M L kv kn ds cs H) (S : LS π M L kn cs) (hk' : IsKn kv' kn.reverse H) (s5 : σ[5]? = some (some (.ref st))) (s7 : σ[7]? = some (some (.ref q))) (s9 : σ[9]? = some (some (.ref l))) (s10 : σ[10]? = some (some kv'))
    (fin : ∀ H', LB C a p fl st q l c m π M L kv kn ds cs H' → Ki H H' → D.nx σ H') :
    tIfS (tTest (tOp rNe (tCall (spCount C) [] E0 (tCons (tVar 7) (tCons (tVar 5) (tCons (tVar 10) tNil)))) (tCB (rLn K) (tCons (tVar 9) tNil)))) tFls tNext D σ H := by
  obtain ⟨r1, r2, r3⟩ := B.rev S
  refine ⟨_, s7, _, s5, _, s10, q, st, kv', txs L, txs M, kn.reverse, π.C, π.W.take 3, rfl, B.tell S (.inl B.hq) hk' r1 r2 r3, fun n H1 k1 hs1 e => ?_⟩
  have ki := Ki.st B.o.hst k1
  have B1 := B.ki ki hs1
  refine ⟨_, s9, l, _, rfl, .inl (SqL.of B1.hl), ?_⟩
  have en : n = (ds.map V.ref).length := by
    rw [e cs (S.ord.look r1), List.length_map, Paired.length B1.pr]
  refine ⟨rfl, _, rfl, ?_⟩
  rw [← en]
  exact ifF (by simp) (fin H1 B1 ki)
/-- the first of these, or none -/
def ToldIs (H : Hp) (v : V) (cs : List Prs2) : Prop := (v = .non ∧ cs = []) ∨ ∃ d m, v = .ref d ∧ MapAt H d m ∧ cs.head? = some m
theorem row_E (B : LB C a p fl st q l c m π M L kv kn ds cs H) (S : LS π M L kn cs) (hk' : IsKn kv' kn.reverse H) (s5 : σ[5]? = some (some (.ref st))) (s7 : σ[7]? = some (some (.ref q))) (s10 : σ[10]? = some (some kv'))
    (fin : ∀ v H', LB C a p fl st q l c m π M L kv kn ds cs H' → Ki H H' → ToldIs H' v cs → D.nx (σ.set 11 (some v)) H') :
    tAsg (tCall (spFMap C) [] E0 (tCons (tVar 7) (tCons (tVar 5) (tCons (tVar 10) tNil)))) (gName 11) D σ H := by
  obtain ⟨r1, r2, r3⟩ := B.rev S
  refine ⟨_, s7, _, s5, _, s10, q, st, kv', txs L, txs M, kn.reverse, π.C, π.W.take 3, rfl, B.tell S (.inl B.hq) hk' r1 r2 r3, fun nf H1 k1 hs1 => ?_, fun d m H1 k1 hs1 nd md fst => ?_⟩
  · have ki := Ki.st B.o.hst k1
    exact fin .non H1 (B.ki ki hs1) ki (.inl ⟨rfl, ((S.ord.look r1).head r2).mp nf⟩)
  · have ki := Ki.st B.o.hst k1
    exact fin (.ref d) H1 (B.ki ki hs1) ki (.inr ⟨d, m, rfl, md, fst.1 cs (S.ord.look r1)⟩)
end
end L2.Rws
set_option Elab.async false
set_option linter.all false
set_option maxRecDepth 100000
set_option maxHeartbeats 4000000
/-! The law's questions, the rest. -/
namespace L2.Rws
open PySem PySem.Spec PyProof.Rows L2.LawH L2.SetT L2.Frz L2.NSet L2.LstNe L2.GenL
open L2.TxtDict (Prs2 kd)
section
variable {K : PySem.W.Frag} {C a p fl st q l : Addr} {c : Int} {m : Nat} {π : Pool} {M L : List Pt} {kv kv' : V} {kn : Prs2} {ds : List Addr} {cs : List Prs2} {H : Hp} {σ : St} {D : Ends}
theorem kd_hits {d : Prs2} (n : (d.map Prod.fst).Nodup) : ∀ x ∈ kd d, valV (kd d) x.1 = some x.2 ∧ flatB x.2 = true := fun x hx => by
  obtain ⟨r, hr, rfl⟩ := List.mem_map.mp hx
  exact ⟨by rw [val_kd, look_of n hr]; rfl, rfl⟩
theorem row_F (B : LB C a p fl st q l c m π M L kv kn ds cs H) (S : LS π M L kn cs) {v : V} (told : ToldIs H v cs) (s9 : σ[9]? = some (some (.ref l))) (s11 : σ[11]? = some (some v)) (fin : ∀ H', Same H H' → D.nx σ H') :
    tIfS (tOr (tTest (tOp rNeM (tVar 11) (tIf (tTest (tOp (LstNo.rNeNil K) (tVar 9) (tLst tNil))) (tOp (rIxL K) (tVar 9) (tC (.int 0))) (tC .non))))
      (tAnd (tTest (tOp notNo (tVar 11) (tC .non))) (tTest (tOp (rNeV K) (tCB rLD (tCons (tVar 11) tNil)) (tCB (rSortedS K) (tCons (tCB rLD (tCons (tVar 11) tNil)) tNil)))))) tFls tNext D σ H := by
  refine ⟨_, s11, _, s9, (by show 0 ≤ sizeLine; decide), fun p0 np0 => ?_⟩
  have sm1 : Same H (upd H p0 (.lst [])) := same_new np0
  have c1 : (upd H p0 (.lst [])) p0 = some (.lst []) := upd_same
  generalize upd H p0 (.lst []) = H1 at sm1 c1 ⊢
  have hl1 := sm1 _ _ B.hl
  refine ⟨l, p0, ds.map V.ref, rfl, rfl, SqL.of hl1, SqL.of c1, _, rfl, ?_⟩
  rcases told with ⟨e, e0⟩ | ⟨d, m0, e, md, hd⟩
  · subst e e0
    have ed : ds = [] := by
      have := Paired.length B.pr
      exact List.eq_nil_of_length_eq_zero this
    rw [ed]
    refine iteF (.inl ⟨rfl, rfl, _, rfl, iteF ⟨_, s11, rfl, _, rfl, ?_⟩⟩)
    exact iteF (iteF (fin H1 sm1))
  · subst e
    obtain ⟨cs', ec⟩ : ∃ cs', cs = m0 :: cs' := by
      cases cs with
      | nil => cases hd
      | cons x r =>
        have : x = m0 := Option.some.inj hd
        exact ⟨r, by rw [this]⟩
    obtain ⟨e0, ds', ed⟩ : ∃ e0 ds', ds = e0 :: ds' := by
      cases hds : ds with
      | nil =>
        have := Paired.length B.pr
        rw [hds, ec] at this
        cases this
      | cons x r => exact ⟨x, r, rfl⟩
    have me0 : MapAt H e0 m0 := by
      have pr := B.pr
      rw [ed, ec] at pr
      cases pr with
      | cons r t => exact r
    obtain ⟨ndm, ascm, shm⟩ := B.cok S m0 (by rw [ec]; exact List.mem_cons_self)
    refine ifT (by rw [ed]; rfl) ⟨_, s9, l, ds.map V.ref, 0, .ref e0, rfl, rfl, SqL.of hl1, by rw [ed]; simp [atI, ixN], ?_⟩
    refine .inr ⟨d, e0, kd m0, kd m0, rfl, rfl, sm1 _ _ md, sm1 _ _ me0, rfl, kd_hits ndm, _, rfl, iteF ⟨_, s11, rfl, _, rfl, ifT (by rw [isNone_ref]; rfl) ?_⟩⟩
    have md1 : MapAt H1 d m0 := sm1 _ _ md
    refine ⟨_, s11, d, kd m0, rfl, .inl md1, fun p1 n1 => ?_⟩
    rw [keys_kd]
    have sm2 : Same H1 (upd H1 p1 (.lst ((m0.map Prod.fst).map V.str))) := same_new n1
    have c2 : (upd H1 p1 (.lst ((m0.map Prod.fst).map V.str))) p1 = some (.lst ((m0.map Prod.fst).map V.str)) := upd_same
    generalize upd H1 p1 (.lst ((m0.map Prod.fst).map V.str)) = H2 at sm2 c2 ⊢
    refine ⟨_, s11, d, kd m0, rfl, .inl (sm2 _ _ md1), fun p2 n2 => ?_⟩
    rw [keys_kd]
    have sm3 : Same H2 (upd H2 p2 (.lst ((m0.map Prod.fst).map V.str))) := same_new n2
    have c3 : (upd H2 p2 (.lst ((m0.map Prod.fst).map V.str))) p2 = some (.lst ((m0.map Prod.fst).map V.str)) := upd_same
    generalize upd H2 p2 (.lst ((m0.map Prod.fst).map V.str)) = H3 at sm3 c3 ⊢
    refine ⟨p2, m0.map Prod.fst, rfl, SqL.of c3, by rw [List.length_map]; omega, fun ys p3 pm as n3 => ?_⟩
    have ey : ys = m0.map Prod.fst := asc_one (asc_all as) ascm pm
    rw [ey]
    have sm4 : Same H3 (upd H3 p3 (.lst ((m0.map Prod.fst).map V.str))) := same_new n3
    refine ⟨1, by decide, ⟨p1, p3, _, _, rfl, rfl, SqL.of (sm4 _ _ (sm3 _ _ c2)), SqL.of upd_same, strs_eqv K _ _⟩, _, rfl, iteF ?_⟩
    exact fin _ (((sm1.trans sm2).trans sm3).trans sm4)
theorem row_G (B : LB C a p fl st q l c m π M L kv kn ds cs H) (S : LS π M L kn cs) (s5 : σ[5]? = some (some (.ref st))) (s7 : σ[7]? = some (some (.ref q))) (s8 : σ[8]? = some (some kv)) (s9 : σ[9]? = some (some (.ref l)))
    (fin : ∀ H', LB C a p fl st q l c m π M L kv kn ds cs H' → Ki H H' → D.nx σ H') :
    tIfS (tAnd (tTest (tOp isNo (tVar 8) (tC .non))) (tTest (tOp (rNeV K) (tCall (spMaps C) [V.non] E0 (tCons (tVar 7) (tCons (tVar 5) tNil))) (tVar 9)))) tFls tNext D σ H := by
  refine ⟨_, s8, rfl, _, rfl, ?_⟩
  rcases id B.hk with ⟨e, en⟩ | ⟨b, e, mb⟩
  · refine ifT (by rw [e]; rfl) ⟨_, s7, _, s5, ?_⟩
    dsimp only [tNil, List.cons_append, List.nil_append]
    refine maps_told B S (kn' := kn) (.inl B.hq) (.inl ⟨rfl, en⟩) (fun z => rfl) S.kn_.nk S.kn_.k4 fun x es H1 k1 B1 new1 hx pr1 nx few => ?_
    exact ⟨_, s9, 2, by decide, ⟨x, l, _, _, rfl, rfl, SqL.of hx, SqL.of B1.hl, maps_eqv pr1 B1.pr fun d md => (B1.cok S d md).1⟩, _, rfl, iteF (fin H1 B1 k1)⟩
  · exact ifF (by rw [e, isNone_ref]) (iteF (fin H B (Ki.refl _)))
theorem row_H (B : LB C a p fl st q l c m π M L kv kn ds cs H) (S : LS π M L kn cs) (len : σ.length = 12) (s5 : σ[5]? = some (some (.ref st))) (s7 : σ[7]? = some (some (.ref q))) (s8 : σ[8]? = some (some kv))
    (fin : ∀ σ' H', (σ' = σ ∨ ∃ d, σ' = σ.set 11 (some (.ref d))) → LB C a p fl st q l c m π M L kv kn ds cs H' → Ki H H' → D.nx σ' H') :
    tFor (iList K (tCall (spMaps C) [] E0 (tCons (tVar 7) (tCons (tVar 5) (tCons (tVar 8) tNil))))) (gName 11) (tDrop (tBM0 K "dict" rDClear (tVar 11))) D σ H := by
  refine ⟨_, s7, _, s5, _, s8, ?_⟩
  dsimp only [tNil, List.cons_append, List.nil_append]
  refine maps_told B S (.inl B.hq) B.hk (fun z => rfl) S.kn_.nk S.kn_.k4 fun x es H1 k1 B1 new1 hx pr1 nx few => ?_
  have dic : ∀ d ∈ es, ∃ kvs, H1 d = some (.dK kvs) := fun d hd => by
    obtain ⟨i, hi⟩ := List.getElem?_of_mem hd
    obtain ⟨m', _, hm⟩ := Paired.at_ pr1 hi
    exact ⟨_, hm⟩
  refine ⟨x, rfl, ⟨_, SqL.of hx⟩, for_list (K := K) (a := x) (xs := es.map V.ref) (fun i σ' H' => (σ' = σ ∨ ∃ d, σ' = σ.set 11 (some (.ref d))) ∧ Kl es H1 H' ∧ ∀ d ∈ es, ∃ kvs, H' d = some (.dK kvs))
    ⟨.inl rfl, fun _ _ _ e => e, dic⟩ (fun i σ' H' _ pp => SqL.of (pp.2.1 _ _ nx hx)) ?_ ?_⟩
  · rintro i v σ' H2 hi ⟨hσ, kl, dd⟩
    rw [List.getElem?_map] at hi
    obtain ⟨d, hd, rfl⟩ := Option.map_eq_some_iff.mp hi
    have md : d ∈ es := List.mem_of_getElem? hd
    obtain ⟨kvs, ed⟩ := dd d md
    have es' : σ'.set 11 (some (.ref d)) = σ.set 11 (some (.ref d)) := by
      rcases hσ with e | ⟨d', e⟩
      · rw [e]
      · rw [e, List.set_set]
    have sg : (σ'.set 11 (some (V.ref d)))[11]? = some (some (V.ref d)) := by
      rw [es']
      exact List.getElem?_set_self (by rw [len]; decide)
    refine ⟨_, sg, .inr (.inr (.inl ⟨rfl, .inl ⟨kvs, ed⟩⟩)), d, kvs, rfl, rfl, ed, ?_⟩
    refine ⟨.inr ⟨d, es'⟩, fun b o nb e => ?_, fun b hb => ?_⟩
    · rw [upd_ne (fun z => nb (by rw [z]; exact md))]
      exact kl b o nb e
    · by_cases z : b = d
      · rw [z]; exact ⟨[], upd_same⟩
      · rw [upd_ne z]; exact dd b hb
  · rintro σ' H2 ⟨hσ, kl, dd⟩
    have ki : Ki H H2 := fun b o e n => kl b o (fun hb => by rw [new1 b hb] at e; cases e) (k1 b o e n)
    exact fin σ' H2 hσ (B.ki ki (B1.o.hst.kl dic kl)) ki
theorem row_I (B : LB C a p fl st q l c m π M L kv kn ds cs H) (S : LS π M L kn cs) (s4 : σ[4]? = some (some (.ref fl))) (s5 : σ[5]? = some (some (.ref st))) (s7 : σ[7]? = some (some (.ref q))) (s8 : σ[8]? = some (some kv)) (s9 : σ[9]? = some (some (.ref l)))
    (fin : ∀ H', LB C a p fl st q l c m π M L kv kn ds cs H' → Ki H H' → D.nx σ H') :
    tIfS (tOr (tTest (tOp (rNeV K) (tCall (spMaps C) [] E0 (tCons (tVar 7) (tCons (tVar 5) (tCons (tVar 8) tNil)))) (tVar 9)))
      (tTest (tOp (rNeD K) (tProp C (getSp C (Str.ofString "_facts")) [] E0 (tVar 5)) (tCB (rTo K) (tCons (tVar 4) tNil))))) tFls tNext D σ H := by
  refine ⟨_, s7, _, s5, _, s8, ?_⟩
  dsimp only [tNil, List.cons_append, List.nil_append]
  refine maps_told B S (.inl B.hq) B.hk (fun z => rfl) S.kn_.nk S.kn_.k4 fun x es H1 k1 B1 new1 hx pr1 nx few => ?_
  refine ⟨_, s9, 2, by decide, ⟨x, l, _, _, rfl, rfl, SqL.of hx, SqL.of B1.hl, maps_eqv pr1 B1.pr fun d md => (B1.cok S d md).1⟩, _, rfl, iteF ?_⟩
  obtain ⟨⟨dx, t, d, gv, h1, h2, _⟩, _⟩ := id B1.o.hst
  rw [refs_txs] at h2
  refine ⟨_, s5, st, dx, _, rfl, h1, st, dx, _, .ref t, rfl, h1, rfl, ?_⟩
  refine ⟨_, s4, fl, _, rfl, .inl ⟨SqL.of B1.o.hfl, fun t2 nt2 => ?_⟩⟩
  have sm2 : Same H1 (upd H1 t2 (.tup (M.map fun x => V.ref x.1))) := same_new nt2
  have c2 : (upd H1 t2 (.tup (M.map fun x => V.ref x.1))) t2 = some (.tup (M.map fun x => V.ref x.1)) := upd_same
  generalize upd H1 t2 (.tup (M.map fun x => V.ref x.1)) = H2 at sm2 c2 ⊢
  have B2 := B1.same sm2
  have dp := dp_facts (K := K) B2.o.hM
  have sh : SeqAt.shaped (L2.FaO.facsD M) = true := L2.FaO.shaped_facs fun x mx => (S.fct x mx).1
  refine ⟨L2.FaO.facsD M, L2.FaO.facsD M, .tup (SqT.of (sm2 _ _ h2)) dp, .tup (SqT.of c2) dp, sh, sh, _, rfl, ?_⟩
  rw [L2.FaO.eqv_facs]
  exact iteF (fin H2 B2 (k1.trans (Ki.of sm2)))
end
end L2.Rws
set_option Elab.async false
set_option linter.all false
set_option maxRecDepth 100000
set_option maxHeartbeats 4000000
/-! The law's last questions: what is written out. -/
namespace L2.Rws
open PySem PySem.Spec PyProof.Rows L2.LawH L2.SetT L2.Frz L2.NSet L2.LstNe L2.GenL
open L2.TxtDict (Prs2 kd)
abbrev aS : Str := Str.ofString "a"
theorem nmA : Nm aS := by
  show nmB aS.cps.toList = true
  decide +kernel
theorem canon_nil : canon [] = [] := canon_id List.Pairwise.nil List.nodup_nil
theorem look_none {m : Prs2} (h : ∀ z, look m z = none) : m = [] := by
  cases m with
  | nil => rfl
  | cons p r =>
    have := h p.1
    rw [look, if_pos rfl] at this
    cases this
/-- written patterns without variables, all of them facts: the empty map alone -/
theorem ord_ground {G : Tm → Prop} {Ps : List Tm} (hv : ∀ P ∈ Ps, ∀ z ∈ P, isV z = false) (all : ∀ P ∈ Ps, G P) : OrdF [] G Ps [[]] := by
  have lf : ∀ μ z, lookF [] Ps.flatten μ z = none := fun μ z => by
    unfold lookF
    split
    · rename_i c
      obtain ⟨P, mP, mz⟩ := List.mem_flatten.mp c.2
      have := hv P mP z mz
      have c1 := c.1
      unfold fr at c1
      rw [this] at c1
      cases c1
    · rfl
  refine ⟨List.pairwise_singleton _ _, by simp, fun d => ⟨fun md => ?_, fun ⟨m, fm, e⟩ => ?_⟩⟩
  · rw [List.mem_singleton.mp md]
    refine ⟨[], ⟨List.nodup_nil, id, ⟨fun _ _ => rfl, fun z v e => (nomatch e)⟩, fun P mP => by rw [List.map_id]; exact all P mP, fun z => (lf _ z).symm⟩, canon_nil.symm⟩
  · obtain ⟨_, μ, _, _, l⟩ := fm
    have : m = [] := look_none fun z => by rw [l z, lf]
    rw [e, this, canon_nil]
    exact List.mem_singleton.mpr rfl
theorem no_ground {P : Tm} {Ps : List Tm} : NoFit [] (GOf []) (P :: Ps) := fun μ _ h => nomatch h P List.mem_cons_self
section
variable {K : PySem.W.Frag} {C : Addr} {H : Hp} {σ : St} {D : Ends}
/-- a Store of no or one written fact, asked by written patterns -/
theorem tell_w {st q : Addr} {M : List Pt} {ps : List Tx} (hq : H q = some (.lst (refs ps))) (hs : StG C H st (txs M)) (hM : M = [] ∨ ∃ x, M = [(x, aS, [])]) (hp : ps = [] ∨ ∃ y, ps = [(y, [aS])] ∧ H y = some (.tup [.str aS])) : TellS C H q st .non ps (txs M) [] [] [] := by
  have nv : isV aS = false := nm_notV nmA
  refine ⟨.inl hq, fun x mx => ?_, ?_, hs, ⟨facts_ok ?_ ?_ fun x mx => ?_, ?_, fun z v e => (nomatch e), by decide, by decide⟩, .inl ⟨rfl, rfl⟩, List.nodup_nil, by decide⟩
  · rcases hp with e | ⟨y, e, hy⟩
    · rw [e] at mx; cases mx
    · rw [e] at mx
      rw [List.mem_singleton.mp mx]
      refine ⟨.inl ⟨hy, by simp⟩, ⟨by simp, by simp, fun z mz => ?_, fun z e => ?_⟩, fun z mz f => ?_⟩
      · rw [List.mem_singleton.mp mz]; decide +kernel
      · have : aS = z := Option.some.inj e
        rw [← this]; exact nv
      · rw [List.mem_singleton.mp mz] at f
        unfold fr at f
        rw [nv] at f
        cases f
  · rcases hp with e | ⟨y, e, _⟩ <;> rw [e] <;> simp
  · rcases hM with e | ⟨x, e⟩ <;> rw [e] <;> simp
  · rcases hM with e | ⟨x, e⟩ <;> rw [e] <;> simp
  · rcases hM with e | ⟨y, e⟩
    · rw [e] at mx; cases mx
    · rw [e] at mx
      rw [List.mem_singleton.mp mx]
      exact ⟨⟨nmA, by simp, fun z mz => (nomatch mz)⟩, fun z mz => (nomatch mz)⟩
  · rcases hM with e | ⟨x, e⟩ <;> rw [e] <;> simp [txs]
theorem row_Y (fin : ∀ H', D.nx σ H') :
    tIfS (tTest (tOp rNeM (tCall (spFMap C) [V.non] E0 (tCons (tLst (tCons (tTup (tCons (tC (V.str (Str.ofString "a"))) tNil)) tNil)) (tCons (tMake C (spInitS C K) [] E0 (tCons (tLst (tCons (tTup (tCons (tC (V.str (Str.ofString "a"))) tNil)) tNil)) tNil)) tNil))) tDNewK)) tFls tNext D σ H := by
  refine ⟨(by show 1 ≤ sizeLine; decide), fun p1 n1 => ⟨(by show 1 ≤ sizeLine; decide), fun p2 n2 => ⟨(by show 1 ≤ sizeLine; decide), fun p3 n3 => ⟨(by show 1 ≤ sizeLine; decide), fun p4 n4 => ?_⟩⟩⟩⟩
  dsimp only [tNil, List.cons_append, List.nil_append] at n4 ⊢
  have h1 : (upd H p1 (.tup [V.str aS])) p1 = some (.tup [V.str aS]) := upd_same
  generalize upd H p1 (.tup [V.str aS]) = H1 at h1 n2 n3 n4 ⊢
  have s2 : Same H1 (upd H1 p2 (.lst [V.ref p1])) := same_new n2
  have h2 : (upd H1 p2 (.lst [V.ref p1])) p2 = some (.lst [V.ref p1]) := upd_same
  generalize upd H1 p2 (.lst [V.ref p1]) = H2 at s2 h2 n3 n4 ⊢
  have s3 : Same H2 (upd H2 p3 (.tup [V.str aS])) := same_new n3
  have h3 : (upd H2 p3 (.tup [V.str aS])) p3 = some (.tup [V.str aS]) := upd_same
  generalize upd H2 p3 (.tup [V.str aS]) = H3 at s3 h3 n4 ⊢
  have s4 : Same H3 (upd H3 p4 (.lst [V.ref p3])) := same_new n4
  have h4 : (upd H3 p4 (.lst [V.ref p3])) p4 = some (.lst [V.ref p3]) := upd_same
  generalize upd H3 p4 (.lst [V.ref p3]) = H4 at s4 h4 ⊢
  refine make_law (xs := [(p3, aS, [])]) (fun x mx => ?_) (by simp) (.inl (SqL.of h4)) (by simp) (List.pairwise_singleton _ _) fun H5 st s5 nst hst => ?_
  · rw [List.mem_singleton.mp mx]
    exact ⟨s4 _ _ h3, ⟨nmA, by simp, fun z mz => (nomatch mz)⟩⟩
  · have s25 := ((s3.trans s4).trans s5)
    have T := tell_w (ps := [(p1, [aS])]) (s25 _ _ h2) hst (.inr ⟨p3, rfl⟩) (.inr ⟨p1, rfl, s25 _ _ (s2 _ _ h1)⟩)
    have og : OrdF [] (GOf (txs [(p3, aS, [])])) [[aS]] [[]] := ord_ground (fun P mP z mz => by
      rw [List.mem_singleton.mp mP] at mz
      rw [List.mem_singleton.mp mz]
      exact nm_notV nmA) fun P mP => by
      rw [List.mem_singleton.mp mP]
      exact List.mem_singleton.mpr rfl
    refine ⟨p2, st, .non, [(p1, [aS])], txs [(p3, aS, [])], [], [], [], rfl, T, fun nf => ?_, fun d m H6 k6 hs6 nd md fst => ?_⟩
    · have := (og.head List.nodup_nil).mp nf
      cases this
    · have e : m = [] := (Option.some.inj (fst.1 _ og)).symm
      subst e
      refine fun d2 n2 => ?_
      refine .inr ⟨d, d2, [], [], rfl, rfl, same_new n2 _ _ md, upd_same, rfl, fun x mx => (nomatch mx), _, rfl, iteF (fin _)⟩
theorem row_Z {T0 : Addr} (hT0 : ∀ H, SqT K H T0 []) (fin : ∀ H', D.rt (.bl true) H') :
    tRet (tAndV (tOp (rEqV K) (tCall (spMaps C) [V.non] E0 (tCons (tLst tNil) (tCons (tMake C (spInitS C K) [V.ref T0] E0 tNil) tNil))) (tLst (tCons tDNewK tNil)))
      (tOp (rEqV K) (tCall (spMaps C) [V.non] E0 (tCons (tLst (tCons (tTup (tCons (tC (V.str (Str.ofString "a"))) tNil)) tNil)) (tCons (tMake C (spInitS C K) [V.ref T0] E0 tNil) tNil))) (tLst tNil))) D σ H := by
  refine ⟨(by show 0 ≤ sizeLine; decide), fun p2 n2 => ?_⟩
  dsimp only [tNil, List.cons_append, List.nil_append]
  have h2 : (upd H p2 (.lst [])) p2 = some (.lst []) := upd_same
  generalize upd H p2 (.lst []) = H2 at h2 ⊢
  refine make_law (xs := []) (fun x mx => (nomatch mx)) (by decide) (.inr (hT0 _)) (by simp) List.Pairwise.nil fun H5 st s5 nst hst => ?_
  dsimp only [tNil, List.cons_append, List.nil_append]
  have T := tell_w (ps := []) (s5 _ _ h2) hst (.inl rfl) (.inl rfl)
  have og : OrdF [] (GOf (txs [])) [] [[]] := ord_ground (fun P mP => (nomatch mP)) fun P mP => (nomatch mP)
  refine ⟨p2, st, .non, [], txs [], [], [], [], rfl, T, fun x es ms H6 om nl hl nx => ?_⟩
  have e : ms = [[]] := OrdF.one om.ord og
  have pr := om.pr
  rw [e] at pr
  refine fun d nd => ⟨(by show 1 ≤ sizeLine; decide), fun y ny => ?_⟩
  have s7 : Same H6 (upd H6 d (.dK [])) := same_new nd
  have h7 : (upd H6 d (.dK [])) d = some (.dK []) := upd_same
  generalize upd H6 d (.dK []) = H7 at s7 h7 ny ⊢
  have s8 : Same H7 (upd H7 y (.lst [V.ref d])) := same_new ny
  have h8 : (upd H7 y (.lst [V.ref d])) y = some (.lst ([d].map V.ref)) := upd_same
  generalize upd H7 y (.lst [V.ref d]) = H8 at s8 h8 ⊢
  have pr8 : Paired (MapAt H8) es [[]] := Paired.mapP pr fun _ _ z => s8 _ _ (s7 _ _ z)
  have pd8 : Paired (MapAt H8) [d] [[]] := .cons (s8 _ _ h7) .nil
  refine ⟨2, by decide, .inl ⟨x, y, _, _, rfl, rfl, SqL.of (s8 _ _ (s7 _ _ hl)), SqL.of h8, maps_eqv pr8 pd8 fun c mc => by rw [List.mem_singleton.mp mc]; exact List.nodup_nil⟩, true, rfl, iteT ?_⟩
  refine ⟨(by show 1 ≤ sizeLine; decide), fun p3 n3 => ⟨(by show 1 ≤ sizeLine; decide), fun p4 n4 => ?_⟩⟩
  dsimp only [tNil, List.cons_append, List.nil_append] at n4 ⊢
  have h3 : (upd H8 p3 (.tup [V.str aS])) p3 = some (.tup [V.str aS]) := upd_same
  generalize upd H8 p3 (.tup [V.str aS]) = H9 at h3 n4 ⊢
  have s4 : Same H9 (upd H9 p4 (.lst [V.ref p3])) := same_new n4
  have h4 : (upd H9 p4 (.lst [V.ref p3])) p4 = some (.lst [V.ref p3]) := upd_same
  generalize upd H9 p4 (.lst [V.ref p3]) = HA at s4 h4 ⊢
  refine make_law (xs := []) (fun x mx => (nomatch mx)) (by decide) (.inr (hT0 _)) (by simp) List.Pairwise.nil fun HB st' sB nst' hst' => ?_
  dsimp only [tNil, List.cons_append, List.nil_append]
  have T' := tell_w (ps := [(p3, [aS])]) (sB _ _ h4) hst' (.inl rfl) (.inr ⟨p3, rfl, sB _ _ (s4 _ _ h3)⟩)
  refine ⟨p4, st', .non, [(p3, [aS])], txs [], [], [], [], rfl, T', fun x' es' ms' HC om' nl' hl' nx' => ?_⟩
  have e' : ms' = [] := om'.ord.one (OrdF.none no_ground)
  have pr' := om'.pr
  rw [e'] at pr'
  have ee : es' = [] := List.eq_nil_of_length_eq_zero (Paired.length pr')
  refine ⟨(by show 0 ≤ sizeLine; decide), fun y' ny' => ?_⟩
  have sC : Same HC (upd HC y' (.lst [])) := same_new ny'
  have hC : (upd HC y' (.lst [])) y' = some (.lst []) := upd_same
  generalize upd HC y' (.lst []) = HD at sC hC ⊢
  rw [ee] at hl'
  refine ⟨2, by decide, .inl ⟨x', y', _, _, rfl, rfl, SqL.of (sC _ _ hl'), SqL.of hC, .nil⟩, ?_⟩
  exact fin _
end
end L2.Rws
set_option Elab.async false
set_option linter.all false
set_option maxRecDepth 100000
set_option maxHeartbeats 16000000
/-! The law on maps that fit: its rows. -/
namespace L2.Rws
open PySem PySem.Spec PyProof.Rows L2.LawH L2.SetT L2.Frz L2.NSet L2.GenL L2.GenF L2.LstNe
open L2.TxtDict (Prs2 kd)
open Builtin.Int (intBits)
abbrev sLaw : Stmt := top 82
def spLaw (K : PySem.W.Frag) : Sp := fun vs H Q _ => ∃ (a : Addr) (ns : List Int), vs = [.ref a] ∧ SqL K H a (ns.map V.int) ∧ ns.length ≤ 63 ∧
  (∀ n ∈ ns, intBits n ≤ 1048576) ∧ ∀ H', Q (.bl true) H'
theorem op_eqVK {X : Cx} {K : PySem.W.Frag} (e : X.K = K) (hu : X.A.units + 64 < cLine) : OpR X (compareOp .Eq) (rEqV K) := by
  subst e
  exact op_eqV hu
abbrev nLaw : List Str := ["_law_script", "_law_cell", "_law_source_here", "_law_pool_here", "_law_facts_here", "_law_store", "_law_k", "_law_lot_here", "_law_known_here", "_law_due", "_law_turned", "_law_told"]
theorem scLaw : FnScope nLaw ["_law_script"] (defScope sLaw) := ⟨rfl, rfl, rfl, by decide +kernel, rfl, by decide +kernel, by decide +kernel⟩
/-- the program's defs, as the law calls them -/
structure Prg (P : Program) (w : World) (K : PySem.W.Frag) (mg : Str → Option Value) (base : Heap) (C : Addr) : Prop where
  Ma : ∃ f fd ds g, FnOk P w K mg base CX0 10 f fd ["lot", "store", "known"] (spMaps C) ∧ PySem.W.keepIn K (.ref f) = true ∧ mg "maps" = some (.ref f) ∧ Binds K fd ["lot", "store", "known"] [] ∧ Vals [.non] ds ∧ Binds K fd ["lot", "store", "known"] ds ∧
    KBn K fd ["lot", "store", "known"] 2 ["known"] g (fun vs zs => vs ++ zs)
  Em : ∃ f fd, FFn P w K mg base 6 f fd ["lot", "store", "known"] (spEM C) ∧ PySem.W.keepIn K (.ref f) = true ∧ mg "each_map" = some (.ref f) ∧ Binds K fd ["lot", "store", "known"] []
  Ct : ∃ f fd, FnOk P w K mg base CX0 5 f fd ["lot", "store", "known"] (spCount C) ∧ PySem.W.keepIn K (.ref f) = true ∧ mg "count_maps" = some (.ref f) ∧ Binds K fd ["lot", "store", "known"] []
  Fm : ∃ f fd ds, FnOk P w K mg base CX0 6 f fd ["lot", "store", "known"] (spFMap C) ∧ PySem.W.keepIn K (.ref f) = true ∧ mg "first_map" = some (.ref f) ∧ Binds K fd ["lot", "store", "known"] [] ∧ Vals [.non] ds ∧ Binds K fd ["lot", "store", "known"] ds
  St : ∃ fI fdI T0, Mk K C fI ∧ FnOk P w K mg base CX0 5 fI fdI ["self", "facts"] (spInitS C K) ∧ Binds K fdI ["self", "facts"] [] ∧ Binds K fdI ["self", "facts"] [.ref T0] ∧ (∀ H, SqT K H T0 []) ∧ mg "Store" = some (.ref C) ∧ Cls K C
  Fa : ∃ pF gF fdF, PropOf K C "facts" pF gF ∧ FnOk P w K mg base CX0 1 gF fdF ["self"] (getSp C "_facts") ∧ Binds K fdF ["self"] []
section
variable {P : Program} {w : World} {K : PySem.W.Frag} {mg : Str → Option Value} {base : Heap}
theorem ok_law {f fS fPo fLF fLo fD fKn fO fFi fPr fRg C : Addr} {fd fdS fdPo fdLF fdLo fdD fdKn fdO fdFi fdPr fdRg : FuncData} (F : Fun K "law" "law" sLaw f fd) (Z : Prg P w K mg base C)
    (GS : FnOk P w K mg base CX0 1 fS fdS ["_law_cell"] spSource) (kS : PySem.W.keepIn K (.ref fS) = true) (bS : Binds K fdS ["_law_cell"] []) (mS : mg "_law_source" = some (.ref fS))
    (GPo : FnOk P w K mg base CX0 4 fPo fdPo ["_law_source_here"] spPool) (kPo : PySem.W.keepIn K (.ref fPo) = true) (bPo : Binds K fdPo ["_law_source_here"] []) (mPo : mg "_law_pool" = some (.ref fPo))
    (GLF : FnOk P w K mg base CX0 4 fLF fdLF ["_law_source_here", "_law_pool_here", "_law_most"] spLFacts) (kLF : PySem.W.keepIn K (.ref fLF) = true) (bLF : Binds K fdLF ["_law_source_here", "_law_pool_here", "_law_most"] []) (mLF : mg "_law_facts" = some (.ref fLF))
    (GLo : FnOk P w K mg base CX0 4 fLo fdLo pLot spLotF) (kLo : PySem.W.keepIn K (.ref fLo) = true) (bLo : Binds K fdLo pLot []) (mLo : mg "_law_lot" = some (.ref fLo))
    (GD : FnOk P w K mg base CX0 1 fD fdD ["_law_source_here", "_law_limit"] spDraw) (kD : PySem.W.keepIn K (.ref fD) = true) (bD : Binds K fdD ["_law_source_here", "_law_limit"] []) (mD : mg "_law_draw" = some (.ref fD))
    (GKn : FnOk P w K mg base CX0 2 fKn fdKn ["_law_source_here", "_law_pool_here"] spKn) (kKn : PySem.W.keepIn K (.ref fKn) = true) (bKn : Binds K fdKn ["_law_source_here", "_law_pool_here"] []) (mKn : mg "_law_known" = some (.ref fKn))
    (GO : FnOk P w K mg base CX0 2 fO fdO ["_law_several"] spLOrd) (kO : PySem.W.keepIn K (.ref fO) = true) (bO : Binds K fdO ["_law_several"] []) (mO : mg "_law_ordered" = some (.ref fO))
    (GFi : FnOk P w K mg base CX0 2 fFi fdFi ["_law_lot_here", "_law_facts_here", "_law_known_here"] spFits) (kFi : PySem.W.keepIn K (.ref fFi) = true) (bFi : Binds K fdFi ["_law_lot_here", "_law_facts_here", "_law_known_here"] []) (mFi : mg "_law_fits" = some (.ref fFi))
    (GPr : FnOk P w K mg base CX0 1 fPr fdPr ["_law_known_here"] spPrs) (kPr : PySem.W.keepIn K (.ref fPr) = true) (bPr : Binds K fdPr ["_law_known_here"] []) (mPr : mg "_law_pairs" = some (.ref fPr))
    (GRg : FnOk P w K mg base CX0 1 fRg fdRg ["_law_told", "_law_due"] spRgt) (kRg : PySem.W.keepIn K (.ref fRg) = true) (bRg : Binds K fdRg ["_law_told", "_law_due"] []) (mRg : mg "_law_right" = some (.ref fRg))
    (mr : mg "range" = none) (md : mg "dict" = none) (mt : mg "tuple" = none) (ml : mg "list" = none) (ms : mg "sorted" = none) (mn : mg "len" = none) :
    FnOk P w K mg base CX0 11 f fd ["_law_script"] (spLaw K) := by
  obtain ⟨⟨fMa, fdMa, dMa, gMa, GMa, kMa, mMa, bMa, vMa, bMa2, nMa⟩, ⟨fEm, fdEm, GEm, kEm, mEm, bEm⟩, ⟨fCt, fdCt, GCt, kCt, mCt, bCt⟩, ⟨fFm, fdFm, dFm, GFm, kFm, mFm, bFm, vFm, bFm2⟩, ⟨fI, fdI, T0, MI, GI, bI, bI0, hT0, mC, cl⟩, pF, gF, fdF, PF, GF, bF⟩ := Z
  refine F.ok scLaw (fun vs H Q E h => ?_) (fun cdv A' outer s H vs Q E' hr h => ?_)
  · obtain ⟨a, ns, rfl, _⟩ := h
    rfl
  · obtain ⟨a, ns, rfl, hS, hlen, hbits, k⟩ := h
    have hr1 : Room 1 _ := hr.mono (by decide)
    have hr2 : Room 2 _ := hr.mono (by decide)
    have hr4 : Room 4 _ := hr.mono (by decide)
    have hr5 : Room 5 _ := hr.mono (by decide)
    have hr6 : Room 6 _ := hr.mono (by decide)
    have hr9 : Room 9 _ := hr.mono (by decide)
    have hu := hr.units
    have hu0 : (A'.deeper (envOfC "law" (defScope sLaw) s.heap.objs.size f cdv)).units < cLine := by omega
    refine ⟨_, pss_cons (ps_for PassesOwn.never rfl (pi_list (pe_op op_cat (pe_slice sl_list (pv 0) po_none (po_some pe_int)) (pe_lst (pa_cons pe_int pa_nil)))) (pg_name (i := 1) scLaw.nd rfl (Or.inl rfl))
      (pss_cons (ps_set (i := 2) scLaw.nd rfl (Or.inl rfl) (pe_call GS hr1 (by rfl) mS kS bS .nil pass0 (pa_cons (pv 1) pa_nil)))
      (pss_cons (ps_set (i := 3) scLaw.nd rfl (Or.inl rfl) (pe_call GPo hr4 (by rfl) mPo kPo bPo .nil pass0 (pa_cons (pv 2) pa_nil)))
      (pss_cons (ps_set (i := 4) scLaw.nd rfl (Or.inl rfl) (pe_call GLF hr4 (by rfl) mLF kLF bLF .nil pass0 (pa_cons (pv 2) (pa_cons (pv 3) (pa_cons pe_int pa_nil)))))
      (pss_cons (ps_set (i := 5) scLaw.nd rfl (Or.inl rfl) (pe_make MI GI hr6 (by rfl) mC bI .nil pass0 (pa_cons (pv 4) pa_nil)))
      (pss_one (ps_for PassesOwn.never rfl (pi_range1 (by rfl) mr (pa_cons pe_int pa_nil)) (pg_name (i := 6) scLaw.nd rfl (Or.inl rfl))
        (pss_cons (ps_set (i := 7) scLaw.nd rfl (Or.inl rfl) (pe_call GLo hr4 (by rfl) mLo kLo bLo .nil pass0 (pa_cons (pv 2) (pa_cons (pv 3) (pa_cons (pe_slice sl_list (pe_ix ix_list (pv 3) pe_int (fun _ _ => rfl)) po_none (po_some pe_int)) (pa_cons pe_int pa_nil))))))
        (pss_cons (ps_set (i := 7) scLaw.nd rfl (Or.inl rfl) (pe_op op_cat (pv 7) (pe_slice sl_list (pv 7) po_none (po_some (pe_call GD hr1 (by rfl) mD kD bD .nil pass0 (pa_cons (pv 2) (pa_cons pe_int pa_nil)))))))
        (pss_cons (ps_set (i := 8) scLaw.nd rfl (Or.inl rfl) (pe_call GKn hr2 (by rfl) mKn kKn bKn .nil pass0 (pa_cons (pv 2) (pa_cons (pv 3) pa_nil))))
        (pss_cons (ps_set (i := 9) scLaw.nd rfl (Or.inl rfl) (pe_call GO hr2 (by rfl) mO kO bO .nil pass0 (pa_cons (pe_call GFi hr2 (by rfl) mFi kFi bFi .nil pass0 (pa_cons (pv 7) (pa_cons (pv 4) (pa_cons (pe_ifExp (pt_cmpR op_isN (pv 8) pe_non (nomark _)) pe_dnewK (pv 8)) pa_nil)))) pa_nil)))
        (pss_cons (ps_set (i := 10) scLaw.nd rfl (Or.inl rfl) (pe_ifExp (pt_cmpR op_isN (pv 8) pe_non (nomark _)) (pv 8) (pe_callTy (call_dictPK (K := K) rfl rfl) (by rfl) md (by decide +kernel) (pa_cons (pe_revL (pe_call GPr hr1 (by rfl) mPr kPr bPr .nil pass0 (pa_cons (pv 8) pa_nil))) pa_nil))))
        (pss_cons (ps_if (PW.pt (pw_or (pt_not (pt_val (pe_call GRg hr1 (by rfl) mRg kRg bRg .nil pass0 (pa_cons (pe_call GMa hr (by rfl) mMa kMa bMa .nil pass0 (pa_cons (pv 7) (pa_cons (pv 5) (pa_cons (pv 10) pa_nil)))) (pa_cons (pv 9) pa_nil)))))
            (pw_or1 (pt_cmpR (op_neVK (K := K) rfl hu) (pe_callN GMa hr (by rfl) mMa kMa nMa pass0 (pa_cons (pe_callTy call_tuple_of (by rfl) mt (by decide +kernel) (pa_cons (pv 7) pa_nil)) (pa_cons (pv 5) pa_nil)) (pk_cons (pv 8) pk_nil)) (pv 9) (nomark _))))) (pss_one (ps_ret pe_bl)) pss_nil)
        (pss_cons (ps_if (PW.pt (pw_and (pt_cmpR op_notN (pv 8) pe_non (nomark _)) (pw_and1 (pt_cmpR (op_neVK (K := K) rfl hu) (pe_callTy (call_listD rfl) (by rfl) ml (by decide +kernel) (pa_cons (pv 10) pa_nil)) (pe_revL (pe_callTy (call_listD rfl) (by rfl) ml (by decide +kernel) (pa_cons (pv 8) pa_nil))) (nomark _))))) (pss_one (ps_ret pe_bl)) pss_nil)
        (pss_cons (ps_if (pt_not (pt_val (pe_call GRg hr1 (by rfl) mRg kRg bRg .nil pass0 (pa_cons (pe_lcG (pgenF_call (E := E0) GEm hr6 (by rfl) mEm kEm bEm .nil (pa_cons (pv 7) (pa_cons (pv 5) (pa_cons (pv 10) pa_nil)))) (fun _ _ _ z => z) hr9 rfl rfl (by decide +kernel)) (pa_cons (pv 9) pa_nil))))) (pss_one (ps_ret pe_bl)) pss_nil)
        (pss_cons (ps_if (pt_cmpR op_ne (pe_call GCt hr5 (by rfl) mCt kCt bCt .nil pass0 (pa_cons (pv 7) (pa_cons (pv 5) (pa_cons (pv 10) pa_nil)))) (pe_callB call_len_seq (by rfl) mn (by decide +kernel) (pa_cons (pv 9) pa_nil)) (nomark _)) (pss_one (ps_ret pe_bl)) pss_nil)
        (pss_cons (ps_set (i := 11) scLaw.nd rfl (Or.inl rfl) (pe_call GFm hr6 (by rfl) mFm kFm bFm .nil pass0 (pa_cons (pv 7) (pa_cons (pv 5) (pa_cons (pv 10) pa_nil)))))
        (pss_cons (ps_if (PW.pt (pw_or (pt_cmpR (op_neM hu0) (pv 11) (pe_ifExp (pt_cmpR (L2.LstNo.op_neNilK (K := K) rfl hu) (pv 9) (pe_lst pa_nil) (nomark _)) (pe_ix ix_list (pv 9) pe_int (fun _ _ => rfl)) pe_non) (nomark _))
            (pw_or1 (PW.pt (pw_and (pt_cmpR op_notN (pv 11) pe_non (nomark _)) (pw_and1 (pt_cmpR (op_neVK (K := K) rfl hu) (pe_callTy (call_listD rfl) (by rfl) ml (by decide +kernel) (pa_cons (pv 11) pa_nil)) (pe_callB cr_sortedS (by rfl) ms (by decide +kernel) (pa_cons (pe_callTy (call_listD rfl) (by rfl) ml (by decide +kernel) (pa_cons (pv 11) pa_nil)) pa_nil)) (nomark _)))))))) (pss_one (ps_ret pe_bl)) pss_nil)
        (pss_cons (ps_if (PW.pt (pw_and (pt_cmpR op_isN (pv 8) pe_non (nomark _)) (pw_and1 (pt_cmpR (op_neVK (K := K) rfl hu) (pe_call GMa hr (by rfl) mMa kMa bMa2 vMa pass0 (pa_cons (pv 7) (pa_cons (pv 5) pa_nil))) (pv 9) (nomark _))))) (pss_one (ps_ret pe_bl)) pss_nil)
        (pss_cons (ps_for PassesOwn.never rfl (pi_list (pe_call GMa hr (by rfl) mMa kMa bMa .nil pass0 (pa_cons (pv 7) (pa_cons (pv 5) (pa_cons (pv 8) pa_nil))))) (pg_name (i := 11) scLaw.nd rfl (Or.inl rfl)) (pss_one (ps_expr (pe_dclear (pv 11)))))
        (pss_one (ps_if (PW.pt (pw_or (pt_cmpR (op_neVK (K := K) rfl hu) (pe_call GMa hr (by rfl) mMa kMa bMa .nil pass0 (pa_cons (pv 7) (pa_cons (pv 5) (pa_cons (pv 8) pa_nil)))) (pv 9) (nomark _))
            (pw_or1 (pt_cmpR (op_neDK (K := K) rfl hu) (pe_prop (pv 5) cl PF GF hr2 bF .nil pass0 rfl) (pe_callTy call_tuple_of (by rfl) mt (by decide +kernel) (pa_cons (pv 4) pa_nil)) (nomark _))))) (pss_one (ps_ret pe_bl)) pss_nil))))))))))))))))))))))
      (pss_cons (ps_if (pt_cmpR (op_neM hu0) (pe_call GFm hr6 (by rfl) mFm kFm bFm2 vFm pass0 (pa_cons (pe_lst (pa_cons (pe_tup (pa_cons pe_str pa_nil)) pa_nil)) (pa_cons (pe_make MI GI hr6 (by rfl) mC bI .nil pass0 (pa_cons (pe_lst (pa_cons (pe_tup (pa_cons pe_str pa_nil)) pa_nil)) pa_nil)) pa_nil))) pe_dnewK (nomark _)) (pss_one (ps_ret pe_bl)) pss_nil)
      (pss_one (ps_ret (pe_and (pe_cmpR (op_eqVK (K := K) rfl hu) (pe_call GMa hr (by rfl) mMa kMa bMa2 vMa pass0 (pa_cons (pe_lst pa_nil) (pa_cons (pe_make0 MI GI hr6 (by rfl) mC bI0 (dvs := [.ref T0]) (.cons rfl .nil) pass0) pa_nil))) (pe_lst (pa_cons pe_dnewK pa_nil)) (nomark _))
        (pe_one (pe_cmpR (op_eqVK (K := K) rfl hu) (pe_call GMa hr (by rfl) mMa kMa bMa2 vMa pass0 (pa_cons (pe_lst (pa_cons (pe_tup (pa_cons pe_str pa_nil)) pa_nil)) (pa_cons (pe_make0 MI GI hr6 (by rfl) mC bI0 (dvs := [.ref T0]) (.cons rfl .nil) pass0) pa_nil))) (pe_lst pa_nil) (nomark _))))))), ?_⟩
    refine ⟨_, rfl, 4, rfl, a, _, rfl, hS, fun p1 n1 => ⟨(by show 1 ≤ sizeLine; decide), fun p2 n2 => ?_⟩⟩
    have u1 := same_new (o := .lst (cutV (ns.map V.int) none (some 4))) n1
    have u2 := same_new (o := .lst [V.int 0]) n2
    have few : (cutV (ns.map V.int) none (some 4)).length ≤ 63 := by
      refine Nat.le_trans (cutV_length _ _ _) ?_
      rw [List.length_map]
      exact hlen
    refine ⟨p1, p2, _, _, rfl, rfl, u2 _ _ upd_same, upd_same, (by rw [sizeLine_eq]; show _ + 1 ≤ _; omega), fun p3 n3 => ?_⟩
    refine ⟨p3, rfl, ⟨_, SqL.of upd_same⟩, for_list (K := K) (a := p3) (xs := cutV (ns.map V.int) none (some 4) ++ [V.int 0])
      (fun i σ H5 => (∃ v1 v2 v3 v4 v5 v6 v7 v8 v9 w1 w2 : Option V, σ = [some (.ref a), v1, v2, v3, v4, v5, v6, v7, v8, v9, w1, w2]) ∧ H5 p3 = some (.lst (cutV (ns.map V.int) none (some 4) ++ [V.int 0])))
      ⟨⟨none, none, none, none, none, none, none, none, none, none, none, rfl⟩, upd_same⟩ (fun i σ H5 _ h5 => SqL.of h5.2) ?_ ?_⟩
    · rintro i v σ H0 hi ⟨⟨v1, v2, v3, v4, v5, v6, v7, v8, v9, w1, w2, rfl⟩, h3⟩
      obtain ⟨ci, rfl, hc⟩ := cut_ints hbits none (some 4) hi
      refine ⟨_, rfl, ci, rfl, hc, fun pS H1 s1 nS src1 => ?_⟩
      have zS : p3 ≠ pS := ne_of_none h3 nS
      have k1 : Keep pS H0 H1 := Keep.of s1
      refine ⟨_, rfl, pS, ci, 999700, rfl, src1, fun p π H2 hp src2 k2 => ?_⟩
      have k2 := k1.trans k2
      refine ⟨_, rfl, _, rfl, pS, p, ci, 999500, 8, π, rfl, by decide, src2.mono (by decide), hp, fun t Fs H3 ht nta each nodup rise few3 src3 k3 => ?_⟩
      have hp3 := hp.keep k3
      have k3 := k2.trans k3
      have h33 := k3 _ _ h3 zS
      refine ⟨_, rfl, ?_⟩
      dsimp only [tNil, List.cons_append, List.nil_append]
      refine make_law (fun x mx => ⟨(each x mx).1, (each x mx).2.2.1⟩) (by omega) (.inl (SqL.of ht)) nodup rise fun H4 st s34 nst hst => ?_
      have lo : LO C pS p t st ci 999500 π Fs H4 := ⟨src3.same s34, hp3.keep (Keep.of s34), s34 _ _ ht, fun x mx => s34 _ _ (each x mx).1, hst, nta, fun x mx => (each x mx).2.1⟩
      have h34 := s34 _ _ h33
      have fct : ∀ x ∈ Fs, Fct x.2 ∧ ∀ z ∈ x.2.2, z ∈ π.C := fun x mx => (each x mx).2.2
      clear s34 hst h33 k3 hp3 k2 hp k1 s1 src1 src2 src3 each
      refine ⟨_, rfl, by omega, by omega, for_range (lo := 0) (n := 3) (fun j σ H5 => (∃ w6 w7 w8 w9 w10 w11 : Option V, σ = [some (.ref a), some (.int ci), some (.ref pS), some (.ref p), some (.ref t), some (.ref st), w6, w7, w8, w9, w10, w11]) ∧ LO C pS p t st ci (1000 * (3 - j)) π Fs H5 ∧
        H5 p3 = some (.lst (cutV (ns.map V.int) none (some 4) ++ [V.int 0]))) ⟨⟨_, _, _, _, _, _, rfl⟩, lo.mono (by decide), h34⟩ ?_ ?_⟩
      · rintro j σ H5 hj ⟨⟨w6, w7, w8, w9, w10, w11, rfl⟩, lo5, h35⟩
        obtain ⟨d, hd⟩ : ∃ d, 1000 * (3 - j) = d + 1000 ∧ 1000 * (3 - (j + 1)) = d := ⟨1000 * (3 - (j + 1)), by omega, rfl⟩
        rw [hd.1] at lo5
        rw [hd.2]
        -- the lot
        refine ⟨_, rfl, _, rfl, _, rfl, p, _, 2, _, rfl, rfl, SqL.of lo5.pool.hp, rfl, 3, rfl, π.vs, _, rfl, SqL.of lo5.pool.hv, fun l nl => ?_⟩
        have eW : cutV (π.W.map V.str) none (some 3) = (π.W.take 3).map V.str := by
          rw [show (some (3 : Int)) = some ((3 : Nat) : Int) from rfl, cutV_to, List.map_take]
        rw [eW]
        have s56 : Same H5 (upd H5 l (.lst ((π.W.take 3).map V.str))) := same_new nl
        have c6 : (upd H5 l (.lst ((π.W.take 3).map V.str))) l = some (.lst ((π.W.take 3).map V.str)) := upd_same
        generalize upd H5 l (.lst ((π.W.take 3).map V.str)) = H6 at s56 c6 ⊢
        have lo6 := lo5.same s56
        have h36 := s56 _ _ h35
        have lS : l ≠ pS := lo5.src.ne nl
        refine ⟨pS, p, l, ci, d + 900, 3, π, π.W.take 3, rfl, by decide, lo6.src.mono (by omega), lo6.pool, ⟨c6, fun z mz => lo6.pool.nW z (List.mem_of_mem_take mz), by rw [List.length_take]; omega, lS⟩, fun q0 L0 H7 lot7 lf7 src7 k7 => ?_⟩
        have lo7 := lo6.draw k7 src7
        have h37 := k7 _ _ h36 zS
        refine ⟨_, rfl, _, rfl, _, rfl, pS, ci, d + 800, 2, rfl, lo7.src.mono (by omega), by decide, by decide, fun r H8 r0 r1 src8 k8 => ?_⟩
        obtain ⟨k0, rfl, hk0⟩ : ∃ k0 : Nat, r = (k0 : Int) ∧ k0 < 2 := ⟨r.toNat, by omega, by omega⟩
        have lo8 := lo7.draw k8 src8
        have lot8 := lot7.keep k8
        have h38 := k8 _ _ h37 zS
        clear k8 src8 lot7 lo7 h37 k7 src7 lo6 h36 c6 s56 lo5 h35
        refine ⟨_, rfl, q0, _, rfl, SqL.of lot8.sq, fun p5 n5 => ?_⟩
        have e5 : cutV (L0.map fun x => V.ref x.1) none (some (k0 : Int)) = (L0.take k0).map fun x => V.ref x.1 := by rw [cutV_to, List.map_take]
        rw [e5]
        have s89 : Same H8 (upd H8 p5 (.lst ((L0.take k0).map fun x => V.ref x.1))) := same_new n5
        have c9 : (upd H8 p5 (.lst ((L0.take k0).map fun x => V.ref x.1))) p5 = some (.lst ((L0.take k0).map fun x => V.ref x.1)) := upd_same
        generalize upd H8 p5 (.lst ((L0.take k0).map fun x => V.ref x.1)) = H9 at s89 c9 ⊢
        have lt0 : (L0.take k0).length ≤ 3 := by rw [List.length_take]; omega
        refine ⟨q0, p5, _, _, rfl, rfl, s89 _ _ lot8.sq, c9, by rw [List.length_map, List.length_map, sizeLine_eq]; omega, fun q nq => ?_⟩
        obtain ⟨L, hL⟩ : ∃ L, L = L0 ++ L0.take k0 := ⟨_, rfl⟩
        have eL : (L0.map fun x => V.ref x.1) ++ (L0.take k0).map (fun x => V.ref x.1) = L.map fun x => V.ref x.1 := by rw [hL, List.map_append]
        have inL : ∀ x ∈ L, x ∈ L0 := fun x mx => by
          rw [hL] at mx
          exact (List.mem_append.mp mx).elim id List.mem_of_mem_take
        have l6 : L.length ≤ 6 := by rw [hL, List.length_append]; omega
        rw [eL]
        have s9A : Same H8 (upd H9 q (.lst (L.map fun x => V.ref x.1))) := s89.trans (same_new nq)
        have cA : (upd H9 q (.lst (L.map fun x => V.ref x.1))) q = some (.lst (L.map fun x => V.ref x.1)) := upd_same
        have nqS : q ≠ pS := (lo8.src.same s89).ne nq
        generalize upd H9 q (.lst (L.map fun x => V.ref x.1)) = HA at s9A cA ⊢
        have loA := lo8.same s9A
        have h3A := s9A _ _ h38
        have lotA : LotF pS π (π.W.take 3) HA q L := ⟨cA, fun x mx => (lot8.each x (inL x mx)).elim fun o e => ⟨o, e.1, s9A _ _ e.2⟩, fun x mx => lot8.pat x (inL x mx), nqS, fun x mx => lot8.nx x (inL x mx)⟩
        clear s9A cA nqS eL s89 c9 e5 lot8 lo8 h38 nq n5 lt0 inL hL
        -- the known map
        refine ⟨_, rfl, _, rfl, pS, p, ci, d, π, rfl, loA.src.mono (by omega), loA.pool, kn_join (Q := fun v H' => gName 8 v _ H' _) loA.pool fun kv kn HB srcB kB kS hk => ?_⟩
        have loB := loA.draw kB srcB
        have lotB := lotA.keep kB
        have h3B := kB _ _ h3A zS
        clear loA lotA h3A kB srcB
        -- what is due
        refine ⟨_, rfl, _, rfl, _, rfl, rfl, _, rfl, ?_⟩
        refine known_or8 (kn := kn) rfl hk fun kd0 HC sC mC => ?_
        have loC := loB.same sC
        have lotC := lotB.keep (Keep.of sC)
        have hkC := IsKn.ki hk (Ki.of sC)
        have h3C := sC _ _ h3B
        have lpC := lot_pats kn loC.pool lotC
        clear hk loB lotB h3B sC
        refine ⟨q, t, kd0, txs L, txs Fs, kn, π.C, π.W.take 3, rfl, lpC.1, lpC.2, by unfold txs; rw [List.length_map]; omega, by rw [refs_txs]; exact loC.hfl, loC.hst.tx, fun x mx => ?_, sit_of loC.pool kS.kok nodup few3 fct, mC, kS.nk, by have := kS.k4; omega, kS.str, fun l0 ds0 ms0 HD sD hl0 pr0 fnd good f64 => ?_⟩
        · obtain ⟨y, my, rfl⟩ := List.mem_map.mp mx
          intro z mz
          rcases List.mem_cons.mp mz with rfl | mz
          · exact (fct y my).1.nT.strOk
          · exact ((fct y my).1.nz z mz).strOk
        refine ⟨l0, ds0, ms0, rfl, hl0, pr0, good, by omega, fun HE l1 ds cs sE nl1 hl1 pr1 new1 ordd => ?_⟩
        have sCE := sD.trans sE
        have B : LB C pS p t st q l1 ci d π Fs L kv kn ds cs HE := ⟨loC.same sCE, lotC.keep (Keep.of sCE), IsKn.ki hkC (Ki.of sCE), hl1, pr1⟩
        have S : LS π Fs L kn cs := ⟨nodup, few3, fct, kS, l6, Ordd.fits ordd fnd.fit fnd.all⟩
        have h3E := sCE _ _ h3C
        have l64 : cs.length ≤ 64 := by
          have := L2.LawH.nodup_len cs (ms0.map canon) ordd.once fun c mc => (ordd.mem c).mp mc
          rw [List.length_map] at this
          omega
        clear sCE sE sD ordd fnd good f64 pr0 hl0 lpC h3C hkC lotC loC pr1 hl1 new1 nl1
        -- turned
        refine ⟨_, rfl, rfl, _, rfl, ?_⟩
        refine turned_or (K := K) (kn := kn) (Q := fun v H' => gName 10 v _ H' _) rfl kS B.hk fun kv' HF sF hk' en => ?_
        have B := B.same sF
        have h3F := sF _ _ h3E
        clear h3E sF
        refine row_A B S hk' rfl rfl rfl rfl rfl fun HG B kG => ?_
        have hk' := IsKn.ki hk' kG
        refine row_B B hk' en rfl rfl fun HH sH => ?_
        have B := B.same sH
        have hk' := IsKn.ki hk' (Ki.of sH)
        have kH := kG.trans (Ki.of sH)
        refine row_C B S hk' rfl rfl rfl rfl fun HI B kI => ?_
        have hk' := IsKn.ki hk' kI
        have kI := kH.trans kI
        refine row_D B S hk' rfl rfl rfl rfl fun HJ B kJ => ?_
        have hk' := IsKn.ki hk' kJ
        have kJ := kI.trans kJ
        refine row_E B S hk' rfl rfl rfl fun v HK B kK told => ?_
        have kK := kJ.trans kK
        refine row_F B S told rfl rfl fun HL sL => ?_
        have B := B.same sL
        have kL := kK.trans (Ki.of sL)
        refine row_G B S rfl rfl rfl rfl fun HM B kM => ?_
        have kM := kL.trans kM
        refine row_H B S rfl rfl rfl rfl fun σ' HN hσ B kN => ?_
        have kN := kM.trans kN
        obtain ⟨w, rfl⟩ : ∃ w, σ' = [some (.ref a), some (.int ci), some (.ref pS), some (.ref p), some (.ref t), some (.ref st), some (.int ((0 : Int) + (j : Nat))), some (.ref q), some kv, some (.ref l1), some kv', w] := by
          rcases hσ with e | ⟨d, e⟩
          · exact ⟨_, e⟩
          · exact ⟨_, e⟩
        refine row_I B S rfl rfl rfl rfl rfl fun HP B kP => ?_
        have kP := kN.trans kP
        exact ⟨⟨_, _, _, _, _, _, rfl⟩, B.o, kP _ _ h3F (fun _ _ _ z => by cases z)⟩
      · rintro σ H5 ⟨⟨w6, w7, w8, w9, w10, w11, rfl⟩, _, h35⟩
        exact ⟨⟨_, _, _, _, _, _, _, _, _, _, _, rfl⟩, h35⟩
    · rintro σ H0 _
      refine row_Y fun H1 => ?_
      exact row_Z hT0 fun H2 => k H2
end
end L2.Rws
set_option Elab.async false
set_option linter.all false
set_option maxRecDepth 100000
set_option maxHeartbeats 0
/-! The law on maps that fit: its end. -/
namespace L2.Rws
open PySem PySem.Spec PyProof.Rows L2.LawH L2.SetT L2.Frz L2.NSet L2.GenL L2.GenF L2.LstNe PySem.W
open L2.TxtDict (Prs2 kd)
open Builtin.Int (intBits)
abbrev sFactsS : Stmt := inClass (top 18) 1
theorem scFsS : FnScope ["self"] ["self"] (defScope sFactsS) := ⟨rfl, rfl, rfl, by decide +kernel, rfl, by decide +kernel, by decide +kernel⟩
theorem ok_factsS {P : Program} {w : World} {K : PySem.W.Frag} {mg : Str → Option Value} {base : Heap} {f S : Addr} {fd : FuncData} (F : Fun K "facts" "Store.facts" sFactsS f fd) (T : StT K mg S) : FnOk P w K mg base CX0 1 f fd ["self"] (getSp S "_facts") := by
  refine F.ok scFsS (fun vs H Q E h => ?_) (fun cdv A outer s H vs Q E hr h => ?_)
  · obtain ⟨a, dx, fs, v, rfl, _⟩ := h
    rfl
  · obtain ⟨a, dx, fs, v, rfl, ha, l, q⟩ := h
    exact ⟨_, pss_one (ps_ret (pe_fld (pv 0) rfl)), _, rfl, a, S, dx, fs, v, rfl, ha, T.cl, T.nF, l, q⟩
/-- a def with the default () -/
theorem fund_mk {K : PySem.W.Frag} {x qual : Str} {st : Stmt} {f TD T0 : Addr} {oc kV doc pm cdv ct : Value} {od an d2 d3 : Option Addr} {osl s2 s3 : Array (Option Value)} {c2 : Value} {n2 n3 : Nat}
    (l : K.lookup f = some ⟨oc, od, .func (PySem.W.fnOf x qual (defArgs st) (defBody st) (defScope st) (.ref TD) kV doc pm an cdv ct), osl⟩) (c : PySem.W.codeIn K cdv qual = true) (k : PySem.W.keepIn K (.ref f) = true)
    (lD : K.lookup TD = some ⟨c2, d2, .seq #[.ref T0] n2, s2⟩) (l0 : K.lookup T0 = some ⟨.type "tuple", d3, .seq #[] n3, s3⟩) :
    ∃ fd T0, FunD K x qual (defArgs st) (defBody st) (defScope st) [.ref T0] [] f fd ∧ ∀ H, SqT K H T0 [] :=
  ⟨_, T0, ⟨⟨oc, od, _, kV, doc, pm, an, cdv, ct, osl, rfl, l, c, .inr ⟨by simp, TD, _, [.ref T0], n2, rfl, lD, rfl, .cons rfl .nil⟩, .inl rfl⟩, k⟩,
    fun H => .inr ⟨_, #[], n3, l0, rfl, rfl, (by show 0 ≤ sizeLine; decide), .nil⟩⟩
theorem all_given {K : PySem.W.Frag} {x qual : Str} {st : Stmt} {T0 : V} {f : Addr} {fd : FuncData} {p1 p2 : Str} (F : FunD K x qual (defArgs st) (defBody st) (defScope st) [T0] [] f fd)
    (h : ∀ (T : Addr) (kV doc pm : Value) (an : Option Addr) (cdv ct : Value) (us its : List Value), us.length = 2 → its.length = 1 →
      ∃ k, bindArgs (PySem.W.fnOf x qual (defArgs st) (defBody st) (defScope st) (.ref T) kV doc pm an cdv ct) ⟨us, []⟩ = seqItems? (.ref T) >>= k ∧ k (some its.toArray) = pure ([p1, p2].zip (us ++ its.drop 1))) : Binds K fd [p1, p2] [] := by
  obtain ⟨ds, v, b⟩ := FunD.binds1 (ps := [p1, p2]) F 2 1 (by simp) rfl h
  cases v
  exact b
theorem one_given {K : PySem.W.Frag} {x qual : Str} {st : Stmt} {T0 : Addr} {f : Addr} {fd : FuncData} {p1 p2 : Str} (F : FunD K x qual (defArgs st) (defBody st) (defScope st) [.ref T0] [] f fd)
    (h : ∀ (T : Addr) (kV doc pm : Value) (an : Option Addr) (cdv ct : Value) (us its : List Value), us.length = 1 → its.length = 1 →
      ∃ k, bindArgs (PySem.W.fnOf x qual (defArgs st) (defBody st) (defScope st) (.ref T) kV doc pm an cdv ct) ⟨us, []⟩ = seqItems? (.ref T) >>= k ∧ k (some its.toArray) = pure ([p1, p2].zip (us ++ its.drop 0))) : Binds K fd [p1, p2] [.ref T0] := by
  obtain ⟨ds, v, b⟩ := FunD.binds1 (ps := [p1, p2]) F 1 0 (by simp) rfl h
  cases v with
  | cons r t =>
    cases t
    cases r
    exact b
/-- a def with the default None -/
theorem fundN_mk {K : PySem.W.Frag} {x qual : Str} {st : Stmt} {f TD : Addr} {oc kV doc pm cdv ct : Value} {od an d2 : Option Addr} {osl s2 : Array (Option Value)} {c2 : Value} {n2 : Nat}
    (l : K.lookup f = some ⟨oc, od, .func (PySem.W.fnOf x qual (defArgs st) (defBody st) (defScope st) (.ref TD) kV doc pm an cdv ct), osl⟩) (c : PySem.W.codeIn K cdv qual = true) (k : PySem.W.keepIn K (.ref f) = true)
    (lD : K.lookup TD = some ⟨c2, d2, .seq #[.none] n2, s2⟩) : ∃ fd, FunD K x qual (defArgs st) (defBody st) (defScope st) [.non] [] f fd :=
  ⟨_, ⟨⟨oc, od, _, kV, doc, pm, an, cdv, ct, osl, rfl, l, c, .inr ⟨by simp, TD, _, [.none], n2, rfl, lD, rfl, .cons rfl .nil⟩, .inl rfl⟩, k⟩⟩
theorem all_three {K : PySem.W.Frag} {x qual : Str} {st : Stmt} {T0 : V} {f : Addr} {fd : FuncData} {p1 p2 p3 : Str} (F : FunD K x qual (defArgs st) (defBody st) (defScope st) [T0] [] f fd)
    (h : ∀ (T : Addr) (kV doc pm : Value) (an : Option Addr) (cdv ct : Value) (us its : List Value), us.length = 3 → its.length = 1 →
      ∃ k, bindArgs (PySem.W.fnOf x qual (defArgs st) (defBody st) (defScope st) (.ref T) kV doc pm an cdv ct) ⟨us, []⟩ = seqItems? (.ref T) >>= k ∧ k (some its.toArray) = pure ([p1, p2, p3].zip (us ++ its.drop 1))) : Binds K fd [p1, p2, p3] [] := by
  obtain ⟨ds, v, b⟩ := FunD.binds1 (ps := [p1, p2, p3]) F 3 1 (by simp) rfl h
  cases v
  exact b
theorem two_given {K : PySem.W.Frag} {x qual : Str} {st : Stmt} {T0 : V} {f : Addr} {fd : FuncData} {p1 p2 p3 : Str} (F : FunD K x qual (defArgs st) (defBody st) (defScope st) [T0] [] f fd)
    (h : ∀ (T : Addr) (kV doc pm : Value) (an : Option Addr) (cdv ct : Value) (us its : List Value), us.length = 2 → its.length = 1 →
      ∃ k, bindArgs (PySem.W.fnOf x qual (defArgs st) (defBody st) (defScope st) (.ref T) kV doc pm an cdv ct) ⟨us, []⟩ = seqItems? (.ref T) >>= k ∧ k (some its.toArray) = pure ([p1, p2, p3].zip (us ++ its.drop 0))) : ∃ ds, Vals [T0] ds ∧ Binds K fd [p1, p2, p3] ds :=
  FunD.binds1 (ps := [p1, p2, p3]) F 2 0 (by simp) rfl h
theorem all_mk {P : Program} {w : World} {K : PySem.W.Frag} {h : Heap} {mg : Str → Option Value} {fa fS fD fNm fNs fPo fTm fPt fLo fLf fMt fFi fPr fOr fKn fRg fN fF fBs fFt fIx fEx fNe fAf fJr fSr fPk fJo fFw fFs fL fEm fMa fCt fFm fC fI fGr pF fPf : Addr} {t3 t4 t5 t6 t7 : Tok}
    (X : K.In h) (G : h.Ns mainGlobals mg) (hfa : mg "law" = some (.ref fa))
    (bS : PySem.W.nsIn K mainGlobals "_law_source" = some (some (.ref fS)))
    (ES : ∃ fd, Fun K "_law_source" "_law_source" sSource fS fd)
    (bD : PySem.W.nsIn K mainGlobals "_law_draw" = some (some (.ref fD)))
    (ED : ∃ fd, Fun K "_law_draw" "_law_draw" sDraw fD fd)
    (bNm : PySem.W.nsIn K mainGlobals "_law_name" = some (some (.ref fNm)))
    (ENm : ∃ fd, Fun K "_law_name" "_law_name" sName fNm fd)
    (bNs : PySem.W.nsIn K mainGlobals "_law_names" = some (some (.ref fNs)))
    (ENs : ∃ fd, Fun K "_law_names" "_law_names" sNames fNs fd)
    (bPo : PySem.W.nsIn K mainGlobals "_law_pool" = some (some (.ref fPo)))
    (EPo : ∃ fd, Fun K "_law_pool" "_law_pool" sPool fPo fd)
    (bTm : PySem.W.nsIn K mainGlobals "_law_term" = some (some (.ref fTm)))
    (ETm : ∃ fd, Fun K "_law_term" "_law_term" sTerm fTm fd)
    (bPt : PySem.W.nsIn K mainGlobals "_law_pattern" = some (some (.ref fPt)))
    (EPt : ∃ fd, Fun K "_law_pattern" "_law_pattern" sPat fPt fd)
    (bLo : PySem.W.nsIn K mainGlobals "_law_lot" = some (some (.ref fLo)))
    (ELo : ∃ fd, Fun K "_law_lot" "_law_lot" sLot7 fLo fd)
    (bLf : PySem.W.nsIn K mainGlobals "_law_facts" = some (some (.ref fLf)))
    (ELf : ∃ fd, Fun K "_law_facts" "_law_facts" sLFacts fLf fd)
    (bMt : PySem.W.nsIn K mainGlobals "_law_met" = some (some (.ref fMt)))
    (EMt : ∃ fd, Fun K "_law_met" "_law_met" sMet fMt fd)
    (bFi : PySem.W.nsIn K mainGlobals "_law_fits" = some (some (.ref fFi)))
    (EFi : ∃ fd, Fun K "_law_fits" "_law_fits" sFits fFi fd)
    (bPr : PySem.W.nsIn K mainGlobals "_law_pairs" = some (some (.ref fPr)))
    (EPr : ∃ fd, Fun K "_law_pairs" "_law_pairs" sPairs fPr fd)
    (bOr : PySem.W.nsIn K mainGlobals "_law_ordered" = some (some (.ref fOr)))
    (EOr : ∃ fd, Fun K "_law_ordered" "_law_ordered" sLOrd fOr fd)
    (bKn : PySem.W.nsIn K mainGlobals "_law_known" = some (some (.ref fKn)))
    (EKn : ∃ fd, Fun K "_law_known" "_law_known" sKn fKn fd)
    (bRg : PySem.W.nsIn K mainGlobals "_law_right" = some (some (.ref fRg)))
    (ERg : ∃ fd, Fun K "_law_right" "_law_right" sRgt fRg fd)
    (bN : PySem.W.nsIn K mainGlobals "is_name" = some (some (.ref fN)))
    (EN : ∃ fd, Fun K "is_name" "is_name" sIsN fN fd)
    (bF : PySem.W.nsIn K mainGlobals "is_fact" = some (some (.ref fF)))
    (EF : ∃ fd, Fun K "is_fact" "is_fact" sIsF10 fF fd)
    (bBs : PySem.W.nsIn K mainGlobals "by_shape" = some (some (.ref fBs)))
    (EBs : ∃ fd, Fun K "by_shape" "by_shape" sByShape fBs fd)
    (bFt : PySem.W.nsIn K mainGlobals "fitting" = some (some (.ref fFt)))
    (EFt : ∃ fd, Fun K "fitting" "fitting" sFit fFt fd)
    (bIx : PySem.W.nsIn K mainGlobals "indexed" = some (some (.ref fIx)))
    (EIx : ∃ fd, Fun K "indexed" "indexed" sIndexed fIx fd)
    (bEx : PySem.W.nsIn K mainGlobals "extended" = some (some (.ref fEx)))
    (EEx : ∃ fd, Fun K "extended" "extended" sExt fEx fd)
    (bNe : PySem.W.nsIn K mainGlobals "nearest" = some (some (.ref fNe)))
    (ENe : ∃ fd, Fun K "nearest" "nearest" sNear fNe fd)
    (bAf : PySem.W.nsIn K mainGlobals "all_fitting" = some (some (.ref fAf)))
    (EAf : ∃ fd, Fun K "all_fitting" "all_fitting" sAllF fAf fd)
    (bJr : PySem.W.nsIn K mainGlobals "joined_rows" = some (some (.ref fJr)))
    (EJr : ∃ fd, Fun K "joined_rows" "joined_rows" sJR fJr fd)
    (bSr : PySem.W.nsIn K mainGlobals "small_rows" = some (some (.ref fSr)))
    (ESr : ∃ fd, Fun K "small_rows" "small_rows" sSR fSr fd)
    (bPk : PySem.W.nsIn K mainGlobals "picked" = some (some (.ref fPk)))
    (EPk : ∃ fd, Fun K "picked" "picked" sPick fPk fd)
    (bJo : PySem.W.nsIn K mainGlobals "joined" = some (some (.ref fJo)))
    (EJo : ∃ fd, Fun K "joined" "joined" sJoin fJo fd)
    (bFw : PySem.W.nsIn K mainGlobals "few_maps" = some (some (.ref fFw)))
    (EFw : ∃ fd, Fun K "few_maps" "few_maps" sFM fFw fd)
    (bFs : PySem.W.nsIn K mainGlobals "first_match" = some (some (.ref fFs)))
    (EFs : ∃ fd, Fun K "first_match" "first_match" sFst fFs fd)
    (bL : PySem.W.nsIn K mainGlobals "law" = some (some (.ref fL)))
    (EL : ∃ fd, Fun K "law" "law" sLaw fL fd)
    (bEm : PySem.W.nsIn K mainGlobals "each_map" = some (some (.ref fEm)))
    (NEm : ∃ fd, FunD K "each_map" "each_map" (defArgs sEM) (defBody sEM) (defScope sEM) [.non] [] fEm fd)
    (bMa : PySem.W.nsIn K mainGlobals "maps" = some (some (.ref fMa)))
    (NMa : ∃ fd, FunD K "maps" "maps" (defArgs sMaps) (defBody sMaps) (defScope sMaps) [.non] [] fMa fd)
    (bCt : PySem.W.nsIn K mainGlobals "count_maps" = some (some (.ref fCt)))
    (NCt : ∃ fd, FunD K "count_maps" "count_maps" (defArgs sCount) (defBody sCount) (defScope sCount) [.non] [] fCt fd)
    (bFm : PySem.W.nsIn K mainGlobals "first_map" = some (some (.ref fFm)))
    (NFm : ∃ fd, FunD K "first_map" "first_map" (defArgs sFMap) (defBody sFMap) (defScope sFMap) [.non] [] fFm fd)
    (bC : PySem.W.nsIn K mainGlobals "Store" = some (some (.ref fC)))
    (bI : PySem.W.findIn K (.ref fC) "__init__" = some (some (.ref fI)))
    (DI : ∃ fd T0, FunD K "__init__" "Store.__init__" (defArgs sInitS) (defBody sInitS) (defScope sInitS) [.ref T0] [] fI fd ∧ ∀ H, SqT K H T0 [])
    (iI : PySem.W.isFn K (.ref fI) = true)
    (bGr : PySem.W.findIn K (.ref fC) "groups" = some (some (.ref fGr)))
    (EGr : ∃ fd, Fun K "groups" "Store.groups" sGrps fGr fd)
    (iGr : PySem.W.isFn K (.ref fGr) = true)
    (bPf : PySem.W.findIn K (.ref fC) "facts" = some (some (.ref pF)))
    (gPf : PySem.W.specialIn K (.ref pF) "__get__" = some (some (.builtin "property.__get__")))
    (tPf : PySem.W.takesIn K (.ref pF) = some true)
    (XrPf : ∃ rest, PySem.W.recIn K pF "property" = some (.ref fPf :: rest))
    (EPf : ∃ fd, Fun K "facts" "Store.facts" sFactsS fPf fd)
    (pg : PySem.W.plainGet K fC Str.empty = true)
    (hd : PySem.W.hasDictIn K fC = true)
    (po : PySem.W.plainOver K fC = true)
    (sa : PySem.W.findIn K (.ref fC) "__setattr__" = some (some (.builtin "object.__setattr__")))
    (mk : PySem.W.makesIn K fC = true)
    (kc : PySem.W.keepIn K (.ref fC) = true)
    (nF : PySem.W.findIn K (.ref fC) "_facts" = some none)
    (nH : PySem.W.findIn K (.ref fC) "_held" = some none)
    (nG : PySem.W.findIn K (.ref fC) "_groups" = some none)
    (z_int : PySem.W.nsIn K mainGlobals "int" = some none)
    (z_str : PySem.W.nsIn K mainGlobals "str" = some none)
    (z_len : PySem.W.nsIn K mainGlobals "len" = some none)
    (z_range : PySem.W.nsIn K mainGlobals "range" = some none)
    (z_tuple : PySem.W.nsIn K mainGlobals "tuple" = some none)
    (z_list : PySem.W.nsIn K mainGlobals "list" = some none)
    (z_sorted : PySem.W.nsIn K mainGlobals "sorted" = some none)
    (z_isinstance : PySem.W.nsIn K mainGlobals "isinstance" = some none)
    (z_set : PySem.W.nsIn K mainGlobals "set" = some none)
    (z_dict : PySem.W.nsIn K mainGlobals "dict" = some none)
    (z_zip : PySem.W.nsIn K mainGlobals "zip" = some none)
    (z_min : PySem.W.nsIn K mainGlobals "min" = some none)
    (z_enumerate : PySem.W.nsIn K mainGlobals "enumerate" = some none)
    (z_any : PySem.W.nsIn K mainGlobals "any" = some none)
    (z_sum : PySem.W.nsIn K mainGlobals "sum" = some none)
    (c0 : PySem.W.nsIn K mainGlobals "LONGEST_NAME" = some (some (.int 12 t3)))
    (c1 : PySem.W.nsIn K mainGlobals "MOST_TERMS" = some (some (.int 3 t4)))
    (c2 : PySem.W.nsIn K mainGlobals "MOST_PAIRS" = some (some (.int 100 t5)))
    (c3 : PySem.W.nsIn K mainGlobals "MOST_ROWS" = some (some (.int 1000 t6)))
    (c4 : PySem.W.nsIn K mainGlobals "FEW_ROWS" = some (some (.int 200 t7)))
    : ∃ fd : FuncData, (∀ (s : Shared) (v : Value), BindsTo s fd ⟨[v], []⟩ [("_law_script", v)]) ∧
      ∀ base : Heap, K.In base → base.Ns mainGlobals mg → FnOk P w K mg base CX0 11 fa fd ["_law_script"] (spLaw K) := by
  have e := hfa.symm.trans (PySem.W.mg_of X G bL)
  cases e
  obtain ⟨dS, FS⟩ := ES
  obtain ⟨dD, FD⟩ := ED
  obtain ⟨dNm, FNm⟩ := ENm
  obtain ⟨dNs, FNs⟩ := ENs
  obtain ⟨dPo, FPo⟩ := EPo
  obtain ⟨dTm, FTm⟩ := ETm
  obtain ⟨dPt, FPt⟩ := EPt
  obtain ⟨dLo, FLo⟩ := ELo
  obtain ⟨dLf, FLf⟩ := ELf
  obtain ⟨dMt, FMt⟩ := EMt
  obtain ⟨dFi, FFi⟩ := EFi
  obtain ⟨dPr, FPr⟩ := EPr
  obtain ⟨dOr, FOr⟩ := EOr
  obtain ⟨dKn, FKn⟩ := EKn
  obtain ⟨dRg, FRg⟩ := ERg
  obtain ⟨dN, FN⟩ := EN
  obtain ⟨dF, FF⟩ := EF
  obtain ⟨dBs, FBs⟩ := EBs
  obtain ⟨dFt, FFt⟩ := EFt
  obtain ⟨dIx, FIx⟩ := EIx
  obtain ⟨dEx, FEx⟩ := EEx
  obtain ⟨dNe, FNe⟩ := ENe
  obtain ⟨dAf, FAf⟩ := EAf
  obtain ⟨dJr, FJr⟩ := EJr
  obtain ⟨dSr, FSr⟩ := ESr
  obtain ⟨dPk, FPk⟩ := EPk
  obtain ⟨dJo, FJo⟩ := EJo
  obtain ⟨dFw, FFw⟩ := EFw
  obtain ⟨dFs, FFs⟩ := EFs
  obtain ⟨dL, FL⟩ := EL
  obtain ⟨dEm, FEm⟩ := NEm
  obtain ⟨dMa, FMa⟩ := NMa
  obtain ⟨dCt, FCt⟩ := NCt
  obtain ⟨dFm, FFm⟩ := NFm
  obtain ⟨dGr, FGr⟩ := EGr
  obtain ⟨dPf, FPf⟩ := EPf
  obtain ⟨dI, T1, FI, hT1⟩ := DI
  have mS := PySem.W.mg_of X G bS
  have qS := FS.binds (ps := ["_law_cell"]) fun _ _ _ _ _ _ us hl => match us, hl with | [_], _ => rfl
  have mD := PySem.W.mg_of X G bD
  have qD := FD.binds (ps := ["_law_source_here", "_law_limit"]) fun _ _ _ _ _ _ us hl => match us, hl with | [_, _], _ => rfl
  have mNm := PySem.W.mg_of X G bNm
  have qNm := FNm.binds (ps := ["_law_source_here"]) fun _ _ _ _ _ _ us hl => match us, hl with | [_], _ => rfl
  have mNs := PySem.W.mg_of X G bNs
  have qNs := FNs.binds (ps := ["_law_source_here", "_law_many"]) fun _ _ _ _ _ _ us hl => match us, hl with | [_, _], _ => rfl
  have mPo := PySem.W.mg_of X G bPo
  have qPo := FPo.binds (ps := ["_law_source_here"]) fun _ _ _ _ _ _ us hl => match us, hl with | [_], _ => rfl
  have mTm := PySem.W.mg_of X G bTm
  have qTm := FTm.binds (ps := ["_law_source_here", "_law_pool_here", "_law_variables_here", "_law_share"]) fun _ _ _ _ _ _ us hl => match us, hl with | [_, _, _, _], _ => rfl
  have mPt := PySem.W.mg_of X G bPt
  have qPt := FPt.binds (ps := ["_law_source_here", "_law_pool_here", "_law_variables_here", "_law_share"]) fun _ _ _ _ _ _ us hl => match us, hl with | [_, _, _, _], _ => rfl
  have mLo := PySem.W.mg_of X G bLo
  have qLo := FLo.binds (ps := ["_law_source_here", "_law_pool_here", "_law_variables_here", "_law_most"]) fun _ _ _ _ _ _ us hl => match us, hl with | [_, _, _, _], _ => rfl
  have mLf := PySem.W.mg_of X G bLf
  have qLf := FLf.binds (ps := ["_law_source_here", "_law_pool_here", "_law_most"]) fun _ _ _ _ _ _ us hl => match us, hl with | [_, _, _], _ => rfl
  have mMt := PySem.W.mg_of X G bMt
  have qMt := FMt.binds (ps := ["_law_pattern_here", "_law_fact", "_law_known_here"]) fun _ _ _ _ _ _ us hl => match us, hl with | [_, _, _], _ => rfl
  have mFi := PySem.W.mg_of X G bFi
  have qFi := FFi.binds (ps := ["_law_lot_here", "_law_facts_here", "_law_known_here"]) fun _ _ _ _ _ _ us hl => match us, hl with | [_, _, _], _ => rfl
  have mPr := PySem.W.mg_of X G bPr
  have qPr := FPr.binds (ps := ["_law_known_here"]) fun _ _ _ _ _ _ us hl => match us, hl with | [_], _ => rfl
  have mOr := PySem.W.mg_of X G bOr
  have qOr := FOr.binds (ps := ["_law_several"]) fun _ _ _ _ _ _ us hl => match us, hl with | [_], _ => rfl
  have mKn := PySem.W.mg_of X G bKn
  have qKn := FKn.binds (ps := ["_law_source_here", "_law_pool_here"]) fun _ _ _ _ _ _ us hl => match us, hl with | [_, _], _ => rfl
  have mRg := PySem.W.mg_of X G bRg
  have qRg := FRg.binds (ps := ["_law_told", "_law_due"]) fun _ _ _ _ _ _ us hl => match us, hl with | [_, _], _ => rfl
  have mN := PySem.W.mg_of X G bN
  have qN := FN.binds (ps := ["value"]) fun _ _ _ _ _ _ us hl => match us, hl with | [_], _ => rfl
  have mF := PySem.W.mg_of X G bF
  have qF := FF.binds (ps := ["value"]) fun _ _ _ _ _ _ us hl => match us, hl with | [_], _ => rfl
  have mBs := PySem.W.mg_of X G bBs
  have qBs := FBs.binds (ps := ["facts"]) fun _ _ _ _ _ _ us hl => match us, hl with | [_], _ => rfl
  have mFt := PySem.W.mg_of X G bFt
  have qFt := FFt.binds (ps := ["pattern", "groups", "known"]) fun _ _ _ _ _ _ us hl => match us, hl with | [_, _, _], _ => rfl
  have mIx := PySem.W.mg_of X G bIx
  have qIx := FIx.binds (ps := ["rows", "facts", "at", "place", "most"]) fun _ _ _ _ _ _ us hl => match us, hl with | [_, _, _, _, _], _ => rfl
  have mEx := PySem.W.mg_of X G bEx
  have qEx := FEx.binds (ps := ["rows", "facts", "links", "most"]) fun _ _ _ _ _ _ us hl => match us, hl with | [_, _, _, _], _ => rfl
  have mNe := PySem.W.mg_of X G bNe
  have qNe := FNe.binds (ps := ["waiting", "places"]) fun _ _ _ _ _ _ us hl => match us, hl with | [_, _], _ => rfl
  have mAf := PySem.W.mg_of X G bAf
  have qAf := FAf.binds (ps := ["lot", "groups", "known"]) fun _ _ _ _ _ _ us hl => match us, hl with | [_, _, _], _ => rfl
  have mJr := PySem.W.mg_of X G bJr
  have qJr := FJr.binds (ps := ["fits", "known", "most"]) fun _ _ _ _ _ _ us hl => match us, hl with | [_, _, _], _ => rfl
  have mSr := PySem.W.mg_of X G bSr
  have qSr := FSr.binds (ps := ["lot", "groups", "known", "most"]) fun _ _ _ _ _ _ us hl => match us, hl with | [_, _, _, _], _ => rfl
  have mPk := PySem.W.mg_of X G bPk
  have qPk := FPk.binds (ps := ["row", "places"]) fun _ _ _ _ _ _ us hl => match us, hl with | [_, _], _ => rfl
  have mJo := PySem.W.mg_of X G bJo
  have qJo := FJo.binds (ps := ["one", "other"]) fun _ _ _ _ _ _ us hl => match us, hl with | [_, _], _ => rfl
  have mFw := PySem.W.mg_of X G bFw
  have qFw := FFw.binds (ps := ["lot", "groups", "start"]) fun _ _ _ _ _ _ us hl => match us, hl with | [_, _, _], _ => rfl
  have mFs := PySem.W.mg_of X G bFs
  have qFs := FFs.binds (ps := ["lot", "groups", "known"]) fun _ _ _ _ _ _ us hl => match us, hl with | [_, _, _], _ => rfl
  have mL := PySem.W.mg_of X G bL
  have mEm := PySem.W.mg_of X G bEm
  have qEm := all_three (p1 := "lot") (p2 := "store") (p3 := "known") FEm fun _ _ _ _ _ _ _ us its hl h1 => match us, hl, its, h1 with | [_, _, _], _, [_], _ => ⟨_, rfl, rfl⟩
  have mMa := PySem.W.mg_of X G bMa
  have qMa := all_three (p1 := "lot") (p2 := "store") (p3 := "known") FMa fun _ _ _ _ _ _ _ us its hl h1 => match us, hl, its, h1 with | [_, _, _], _, [_], _ => ⟨_, rfl, rfl⟩
  obtain ⟨wMa, vMa, oMa⟩ := two_given (p1 := "lot") (p2 := "store") (p3 := "known") FMa fun _ _ _ _ _ _ _ us its hl h1 => match us, hl, its, h1 with | [_, _], _, [_], _ => ⟨_, rfl, rfl⟩
  have mCt := PySem.W.mg_of X G bCt
  have qCt := all_three (p1 := "lot") (p2 := "store") (p3 := "known") FCt fun _ _ _ _ _ _ _ us its hl h1 => match us, hl, its, h1 with | [_, _, _], _, [_], _ => ⟨_, rfl, rfl⟩
  have mFm := PySem.W.mg_of X G bFm
  have qFm := all_three (p1 := "lot") (p2 := "store") (p3 := "known") FFm fun _ _ _ _ _ _ _ us its hl h1 => match us, hl, its, h1 with | [_, _, _], _, [_], _ => ⟨_, rfl, rfl⟩
  obtain ⟨wFm, vFm, oFm⟩ := two_given (p1 := "lot") (p2 := "store") (p3 := "known") FFm fun _ _ _ _ _ _ _ us its hl h1 => match us, hl, its, h1 with | [_, _], _, [_], _ => ⟨_, rfl, rfl⟩
  obtain ⟨_, nMa⟩ := FunD.kbindsD (ps := ["lot", "store", "known"]) FMa 2 ["known"] (fun us _ ws => us ++ ws) (by simp) (fun r1 _ r3 => r1.append r3) fun _ _ _ _ _ _ _ us its ws hl h1 h2 => match us, hl, its, h1, ws, h2 with | [_, _], _, [_], _, [_], _ => ⟨_, rfl, rfl⟩
  have mC := PySem.W.mg_of X G bC
  have qI := all_given (p1 := "self") (p2 := "facts") FI fun _ _ _ _ _ _ _ us its hl h1 => match us, hl, its, h1 with | [_, _], _, [_], _ => ⟨_, rfl, rfl⟩
  have qI0 := one_given (p1 := "self") (p2 := "facts") FI fun _ _ _ _ _ _ _ us its hl h1 => match us, hl, its, h1 with | [_], _, [_], _ => ⟨_, rfl, rfl⟩
  have qGr := FGr.binds (ps := ["self"]) fun _ _ _ _ _ _ us hl => match us, hl with | [_], _ => rfl
  have qPf := FPf.binds (ps := ["self"]) fun _ _ _ _ _ _ us hl => match us, hl with | [_], _ => rfl
  have y_int := PySem.W.mg_none_of X G z_int
  have y_str := PySem.W.mg_none_of X G z_str
  have y_len := PySem.W.mg_none_of X G z_len
  have y_range := PySem.W.mg_none_of X G z_range
  have y_tuple := PySem.W.mg_none_of X G z_tuple
  have y_list := PySem.W.mg_none_of X G z_list
  have y_sorted := PySem.W.mg_none_of X G z_sorted
  have y_isinstance := PySem.W.mg_none_of X G z_isinstance
  have y_set := PySem.W.mg_none_of X G z_set
  have y_dict := PySem.W.mg_none_of X G z_dict
  have y_zip := PySem.W.mg_none_of X G z_zip
  have y_min := PySem.W.mg_none_of X G z_min
  have y_enumerate := PySem.W.mg_none_of X G z_enumerate
  have y_any := PySem.W.mg_none_of X G z_any
  have y_sum := PySem.W.mg_none_of X G z_sum
  have g0 := PySem.W.mg_of X G c0
  have g1 := PySem.W.mg_of X G c1
  have g2 := PySem.W.mg_of X G c2
  have g3 := PySem.W.mg_of X G c3
  have g4 := PySem.W.mg_of X G c4
  have cl : Cls K fC := ⟨pg, hd, po, sa⟩
  have T : StT K mg fC := ⟨cl, nF, nH, nG⟩
  have M : Mk K fC fI := ⟨mk, bI, iI, kc⟩
  have hGr : Meth K fC "groups" fGr := ⟨bGr, iGr, FGr.kp⟩
  have PF : PropOf K fC "facts" pF fPf := ⟨bPf, gPf, tPf, XrPf⟩
  have FL' := FL
  obtain ⟨oc, od, kV, doc, pm, an, cdv, ct, osl, ez, _, _⟩ := FL.ex
  subst ez
  refine ⟨PySem.W.fnOf "law" "law" (defArgs sLaw) (defBody sLaw) (defScope sLaw) .none kV doc pm an cdv ct, fun s v => .of_eq rfl, fun base _ _ => ?_⟩
  have GS := ok_source (P := P) (w := w) (mg := mg) (base := base) FS
  have GD := ok_draw (P := P) (w := w) (mg := mg) (base := base) FD y_int
  have GNm := ok_name (P := P) (w := w) (mg := mg) (base := base) FNm FD qD y_int mD y_range
  have GNs := ok_names (P := P) (w := w) (mg := mg) (base := base) FNs GNm FNm.kp qNm mNm y_range y_str
  have GPo := ok_pool (P := P) (w := w) (mg := mg) (base := base) FPo GD FD.kp qD mD GNs FNs.kp qNs mNs y_range y_len
  have GTm := ok_term (P := P) (w := w) (mg := mg) (base := base) FTm GD FD.kp qD mD y_len
  have GPt := ok_pat (P := P) (w := w) (mg := mg) (base := base) FPt GD FD.kp qD mD GTm FTm.kp qTm mTm y_len y_range y_tuple
  have GPF := ok_patF (P := P) (w := w) (mg := mg) (base := base) FPt GD FD.kp qD mD GTm FTm.kp qTm mTm y_len y_range y_tuple
  have GLo := ok_lotF (P := P) (w := w) (mg := mg) (base := base) FLo GD FD.kp qD mD GPF FPt.kp qPt mPt y_range
  have GLf := ok_lfacts (P := P) (w := w) (mg := mg) (base := base) FLf GD FD.kp qD mD GPt FPt.kp qPt mPt y_range y_sorted
  have GMt := ok_met (P := P) (w := w) (mg := mg) (base := base) FMt y_len y_range y_dict
  have GPr := ok_prs (P := P) (w := w) (mg := mg) (base := base) FPr y_sorted y_list
  have GFi := ok_fits (P := P) (w := w) (mg := mg) (base := base) FFi GMt FMt.kp qMt mMt GPr FPr.kp qPr mPr y_tuple y_list
  have GOr := ok_lord (P := P) (w := w) (mg := mg) (base := base) FOr GPr FPr.kp qPr mPr y_sorted y_dict
  have GKn := ok_kn (P := P) (w := w) (mg := mg) (base := base) FKn GD FD.kp qD mD y_len y_sorted
  have GRg := ok_rgt (P := P) (w := w) (mg := mg) (base := base) FRg y_list y_sorted
  have GN := ok_isN (P := P) (w := w) (mg := mg) (base := base) FN g0 y_isinstance y_str y_len
  have GF := ok_isF (P := P) (w := w) (mg := mg) (base := base) FF GN FN.kp qN mN g1 y_isinstance y_tuple y_len
  have GI := ok_initS (P := P) (w := w) (mg := mg) (base := base) FI T GF FF.kp qF mF y_sorted y_tuple y_set
  have GBs := ok_byShape (P := P) (w := w) (mg := mg) (base := base) FBs y_len
  have GGr := ok_grps (P := P) (w := w) (mg := mg) (base := base) FGr T GBs FBs.kp qBs mBs
  have GFt := ok_fit (P := P) (w := w) (mg := mg) (base := base) FFt y_len y_range
  have GIx := ok_indexed (P := P) (w := w) (mg := mg) (base := base) FIx y_len y_sum
  have GEx := ok_ext (P := P) (w := w) (mg := mg) (base := base) FEx GIx FIx.kp qIx mIx g2 y_len
  have GNe := ok_near (P := P) (w := w) (mg := mg) (base := base) FNe y_enumerate y_any
  have GAf := ok_allF (P := P) (w := w) (mg := mg) (base := base) FAf GFt FFt.kp qFt mFt
  have GJr := ok_jr (P := P) (w := w) (mg := mg) (base := base) FJr GNe FNe.kp qNe mNe GEx FEx.kp qEx mEx y_len y_sorted y_range
  have GSr := ok_sr (P := P) (w := w) (mg := mg) (base := base) FSr GAf FAf.kp qAf mAf GJr FJr.kp qJr mJr
  have GPk := ok_pick (P := P) (w := w) (mg := mg) (base := base) FPk y_tuple
  have GJo := ok_join (P := P) (w := w) (mg := mg) (base := base) FJo y_sorted
  have GFw := ok_fm (P := P) (w := w) (mg := mg) (base := base) FFw GSr FSr.kp qSr mSr GPk FPk.kp qPk mPk GJo FJo.kp qJo mJo g3 y_sorted y_dict y_zip
  have GFs := ok_fst (P := P) (w := w) (mg := mg) (base := base) FFs GSr FSr.kp qSr mSr GPk FPk.kp qPk mPk GJo FJo.kp qJo mJo g4 y_sorted y_dict y_zip y_min
  have GEm := ok_em (P := P) (w := w) (mg := mg) (base := base) FEm T GFw FFw.kp qFw mFw GGr hGr qGr y_dict
  have GEF := ok_emF (P := P) (w := w) (mg := mg) (base := base) FEm T GFw FFw.kp qFw mFw GGr hGr qGr y_dict
  have GMa := ok_maps (P := P) (w := w) (mg := mg) (base := base) FMa GEm FEm.kp qEm mEm y_list
  have GCt := ok_count (P := P) (w := w) (mg := mg) (base := base) FCt T GSr FSr.kp qSr mSr GGr hGr qGr g3 y_len
  have GFm := ok_fmap (P := P) (w := w) (mg := mg) (base := base) FFm T GFs FFs.kp qFs mFs GGr hGr qGr
  have GPf := ok_factsS (P := P) (w := w) (mg := mg) (base := base) FPf T
  have GZ := (⟨⟨_, _, _, _, GMa, FMa.kp, mMa, qMa, vMa, oMa, nMa⟩, ⟨_, _, GEF, FEm.kp, mEm, qEm⟩, ⟨_, _, GCt, FCt.kp, mCt, qCt⟩, ⟨_, _, _, GFm, FFm.kp, mFm, qFm, vFm, oFm⟩, ⟨_, _, T1, M, GI, qI, qI0, hT1, mC, cl⟩, ⟨_, _, _, PF, GPf, qPf⟩⟩ : Prg P w K mg base fC)
  exact ok_law FL' GZ GS FS.kp qS mS GPo FPo.kp qPo mPo GLf FLf.kp qLf mLf GLo FLo.kp qLo mLo GD FD.kp qD mD GKn FKn.kp qKn mKn GOr FOr.kp qOr mOr GFi FFi.kp qFi mFi GPr FPr.kp qPr mPr GRg FRg.kp qRg mRg y_range y_dict y_tuple y_list y_sorted y_len
theorem walk {l : PySem.W.OpenLaw} {q : Program} {loose : List Str} {XP : (Str → Option Value) → Heap → Prop} {YP : World → Heap → Prop} {d : DefRec} {K : Params → PySem.W.Frag}
    (hn : l.most = some 63) (hdf : d.params.defaults = []) (hY : ∀ (w : World) (h : Heap), YP w h → (K w.params).In h)
    (F : ∀ (w : World) (mg : Str → Option Value) (fa : Addr) (h : Heap), (K w.params).In h → h.Ns mainGlobals mg → mg d.name = some (.ref fa) →
      ∃ fd : FuncData, (∀ (s : Shared) (u : Value), BindsTo s fd ⟨[u], []⟩ [("_law_script", u)]) ∧
        ∀ base : Heap, (K w.params).In base → base.Ns mainGlobals mg → FnOk l.prog w (K w.params) mg base CX0 11 fa fd ["_law_script"] (spLaw (K w.params))) :
    PySem.W.WalkO q loose XP YP l.row.toRowW d [] (fun f vs => PySem.call f vs) :=
  L2.walk_ofB (n := 63) (k := 11) (x := "_law_script") (CX := fun _ => CX0) (sp := fun w => spLaw (K w.params)) hn (by decide) hdf ⟨rfl, by decide, by decide⟩ hY F
    (fun _ _ a ns hl hb _ hS => ⟨a, ns, rfl, hS, hl, hb, fun _ => rfl⟩) fun _ _ _ _ _ z => z
end L2.Rws
set_option Elab.async false
open PySem PySem.W PyProof.Rows
set_option maxRecDepth 100000 in
set_option maxHeartbeats 0 in
theorem PySem.Challenge.cw_fullestrows_k05_maps_that_fit_holds : PySem.Challenge.rw_fullestrows_k05_maps_that_fit.Holds := by
  w_on; o_law; k_head; (case hw => w_witness2)
  k_fill
  refine L2.Rws.walk (l := PySem.Challenge.rw_fullestrows_k05_maps_that_fit) rfl rfl (fun w h Y => PySem.W.kIn_of Y) ?F
  case F =>
    intro w mg fa h KX G hmg
    refine' L2.Rws.all_mk KX G hmg ?bS ?ES ?bD ?ED ?bNm ?ENm ?bNs ?ENs ?bPo ?EPo ?bTm ?ETm ?bPt ?EPt ?bLo ?ELo ?bLf ?ELf ?bMt ?EMt ?bFi ?EFi ?bPr ?EPr ?bOr ?EOr ?bKn ?EKn ?bRg ?ERg ?bN ?EN ?bF ?EF ?bBs ?EBs ?bFt ?EFt ?bIx ?EIx ?bEx ?EEx ?bNe ?ENe ?bAf ?EAf ?bJr ?EJr ?bSr ?ESr ?bPk ?EPk ?bJo ?EJo ?bFw ?EFw ?bFs ?EFs ?bL ?EL ?bEm ?NEm ?bMa ?NMa ?bCt ?NCt ?bFm ?NFm ?bC ?bI ?DI ?iI ?bGr ?EGr ?iGr ?bPf ?gPf ?tPf ?XrPf ?EPf ?pg ?hd ?po ?sa ?mk ?kc ?nF ?nH ?nG ?z_int ?z_str ?z_len ?z_range ?z_tuple ?z_list ?z_sorted ?z_isinstance ?z_set ?z_dict ?z_zip ?z_min ?z_enumerate ?z_any ?z_sum ?c0 ?c1 ?c2 ?c3 ?c4
    (case bS => k_is)
    (case ES => exact ⟨_, L2.fun_mk (by k_is) (by k_is) (by k_is)⟩)
    (case bD => k_is)
    (case ED => exact ⟨_, L2.fun_mk (by k_is) (by k_is) (by k_is)⟩)
    (case bNm => k_is)
    (case ENm => exact ⟨_, L2.fun_mk (by k_is) (by k_is) (by k_is)⟩)
    (case bNs => k_is)
    (case ENs => exact ⟨_, L2.fun_mk (by k_is) (by k_is) (by k_is)⟩)
    (case bPo => k_is)
    (case EPo => exact ⟨_, L2.fun_mk (by k_is) (by k_is) (by k_is)⟩)
    (case bTm => k_is)
    (case ETm => exact ⟨_, L2.fun_mk (by k_is) (by k_is) (by k_is)⟩)
    (case bPt => k_is)
    (case EPt => exact ⟨_, L2.fun_mk (by k_is) (by k_is) (by k_is)⟩)
    (case bLo => k_is)
    (case ELo => exact ⟨_, L2.fun_mk (by k_is) (by k_is) (by k_is)⟩)
    (case bLf => k_is)
    (case ELf => exact ⟨_, L2.fun_mk (by k_is) (by k_is) (by k_is)⟩)
    (case bMt => k_is)
    (case EMt => exact ⟨_, L2.fun_mk (by k_is) (by k_is) (by k_is)⟩)
    (case bFi => k_is)
    (case EFi => exact ⟨_, L2.fun_mk (by k_is) (by k_is) (by k_is)⟩)
    (case bPr => k_is)
    (case EPr => exact ⟨_, L2.fun_mk (by k_is) (by k_is) (by k_is)⟩)
    (case bOr => k_is)
    (case EOr => exact ⟨_, L2.fun_mk (by k_is) (by k_is) (by k_is)⟩)
    (case bKn => k_is)
    (case EKn => exact ⟨_, L2.fun_mk (by k_is) (by k_is) (by k_is)⟩)
    (case bRg => k_is)
    (case ERg => exact ⟨_, L2.fun_mk (by k_is) (by k_is) (by k_is)⟩)
    (case bN => k_is)
    (case EN => exact ⟨_, L2.fun_mk (by k_is) (by k_is) (by k_is)⟩)
    (case bF => k_is)
    (case EF => exact ⟨_, L2.fun_mk (by k_is) (by k_is) (by k_is)⟩)
    (case bBs => k_is)
    (case EBs => exact ⟨_, L2.fun_mk (by k_is) (by k_is) (by k_is)⟩)
    (case bFt => k_is)
    (case EFt => exact ⟨_, L2.fun_mk (by k_is) (by k_is) (by k_is)⟩)
    (case bIx => k_is)
    (case EIx => exact ⟨_, L2.fun_mk (by k_is) (by k_is) (by k_is)⟩)
    (case bEx => k_is)
    (case EEx => exact ⟨_, L2.fun_mk (by k_is) (by k_is) (by k_is)⟩)
    (case bNe => k_is)
    (case ENe => exact ⟨_, L2.fun_mk (by k_is) (by k_is) (by k_is)⟩)
    (case bAf => k_is)
    (case EAf => exact ⟨_, L2.fun_mk (by k_is) (by k_is) (by k_is)⟩)
    (case bJr => k_is)
    (case EJr => exact ⟨_, L2.fun_mk (by k_is) (by k_is) (by k_is)⟩)
    (case bSr => k_is)
    (case ESr => exact ⟨_, L2.fun_mk (by k_is) (by k_is) (by k_is)⟩)
    (case bPk => k_is)
    (case EPk => exact ⟨_, L2.fun_mk (by k_is) (by k_is) (by k_is)⟩)
    (case bJo => k_is)
    (case EJo => exact ⟨_, L2.fun_mk (by k_is) (by k_is) (by k_is)⟩)
    (case bFw => k_is)
    (case EFw => exact ⟨_, L2.fun_mk (by k_is) (by k_is) (by k_is)⟩)
    (case bFs => k_is)
    (case EFs => exact ⟨_, L2.fun_mk (by k_is) (by k_is) (by k_is)⟩)
    (case bL => k_is)
    (case EL => exact ⟨_, L2.fun_mk (by k_is) (by k_is) (by k_is)⟩)
    (case bEm => k_is)
    (case NEm => exact L2.Rws.fundN_mk (by k_is) (by k_is) (by k_is) (by k_is))
    (case bMa => k_is)
    (case NMa => exact L2.Rws.fundN_mk (by k_is) (by k_is) (by k_is) (by k_is))
    (case bCt => k_is)
    (case NCt => exact L2.Rws.fundN_mk (by k_is) (by k_is) (by k_is) (by k_is))
    (case bFm => k_is)
    (case NFm => exact L2.Rws.fundN_mk (by k_is) (by k_is) (by k_is) (by k_is))
    (case bC => k_is)
    (case bI => k_is)
    (case DI => exact L2.Rws.fund_mk (by k_is) (by k_is) (by k_is) (by k_is) (by k_is))
    (case iI => k_is)
    (case bGr => k_is)
    (case EGr => exact ⟨_, L2.fun_mk (by k_is) (by k_is) (by k_is)⟩)
    (case iGr => k_is)
    (case bPf => k_is)
    (case gPf => k_is)
    (case tPf => k_is)
    (case XrPf => exact ⟨_, by k_is⟩)
    (case EPf => exact ⟨_, L2.fun_mk (by k_is) (by k_is) (by k_is)⟩)
    (case pg => k_is)
    (case hd => k_is)
    (case po => k_is)
    (case sa => k_is)
    (case mk => k_is)
    (case kc => k_is)
    (case nF => k_is)
    (case nH => k_is)
    (case nG => k_is)
    (case z_int => k_is)
    (case z_str => k_is)
    (case z_len => k_is)
    (case z_range => k_is)
    (case z_tuple => k_is)
    (case z_list => k_is)
    (case z_sorted => k_is)
    (case z_isinstance => k_is)
    (case z_set => k_is)
    (case z_dict => k_is)
    (case z_zip => k_is)
    (case z_min => k_is)
    (case z_enumerate => k_is)
    (case z_any => k_is)
    (case z_sum => k_is)
    (case c0 => k_is)
    (case c1 => k_is)
    (case c2 => k_is)
    (case c3 => k_is)
    (case c4 => k_is)
