import PyProof.Rows.All
import Wide.All
import OpenK.AllK
import Wide.FinOn
import HandS.ForMost
import HandS.EndBits
import HandS.Set
import HandS.SetKeys
import HandS.SetBool
import HandS.Comp
import HandS.DictComp
import HandS.Strs
import HandS.SetTxt0
import HandS.More
import HandS.IsInst
import HandS.StrMore
import HandS.FStr
import HandS.Star
import HandS.TupSets
import KE.KeyNested
import KE.KDictKeyed
import KE.SortData
import KE.SortCalls
import PyProof.FactsAll.tuple_2
import HandS.Deep
import PyProof.DictFindH
import HandS.ForExc
import HandS.Walk
import HandS.OwnEq
import HandS.Defaults
import HandS.DeepEq
import HandS.Codes
import PyProof.NeKinds
import PyProof.InstNe
import HandS.ExcInit
import HandS.WordsExc
import HandS.TupLe
import KE.DataCmp
import HandS.Iter
import KE.GoesEnumKw
import HandS.ExcOwn
import HandS.ClsMeth
import HandS.Property
import HandS.Exc
import HandS.ExcField
import HandS.Style
import HandS.MakeKw
import PySem.Challenge.RW_fullestrows_k04_texts_of_stores
set_option Elab.async false
set_option linter.all false
set_option maxRecDepth 100000
set_option maxHeartbeats 4000000
/-! The helpers of the laws: draws and names. -/
namespace L2.LawH
open PySem PySem.Spec PyProof.Rows
open Builtin.Int (intBits)
def top (i : Nat) : Stmt := PySem.Challenge.pw_fullestrows_k04_texts_of_stores.main.body.getD i (.Pass ⟨0, 0, 0, 0⟩)
abbrev sSource : Stmt := top 18
abbrev sDraw : Stmt := top 19
abbrev sName : Stmt := top 20

/-! ### numbers -/
theorem mod_pos {x y : Int} (h : 0 < y) : 0 ≤ x.fmod y ∧ x.fmod y < y := by
  rw [Int.fmod_eq_emod_of_nonneg x (Int.le_of_lt h)]
  exact ⟨Int.emod_nonneg x (by omega), Int.emod_lt_of_pos x h⟩
theorem small_bits {x : Int} (h0 : 0 ≤ x) (h : x < 1152921504606846976) : intBits x ≤ 60 := by
  refine PySem.intBits_le_iff.mpr ?_
  have e : (2 : Nat) ^ 60 = 1152921504606846976 := by decide
  rw [e]
  omega
theorem big_ok {c n m : Int} (hc : intBits c ≤ 1048576) (h0 : 0 ≤ n) (hn : n ≤ 1000000) (m0 : 0 ≤ m) (m1 : m ≤ 1000000) :
    (intBits (c * m + n * 40699 + 12011) : Int) * 3 ≤ 2 ^ 27 := by
  have h1 : intBits (c * m) ≤ 1048576 + 60 := PySem.intBits_mul_le hc (small_bits m0 (by omega))
  have h2 : intBits (n * 40699) ≤ 60 := small_bits (by omega) (by omega)
  have h3 : intBits (12011 : Int) ≤ 60 := small_bits (by omega) (by omega)
  have h5 := PySem.intBits_add_le (PySem.intBits_add_le h1 h2) h3
  have e : (2 : Int) ^ 27 = 134217728 := by decide
  rw [e]
  have h6 : max (max (1048576 + 60) 60 + 1) 60 + 1 = 1048638 := by decide
  rw [h6] at h5
  omega
theorem small_ok {x : Int} (h0 : 0 ≤ x) (h : x < 1152921504606846976) : (intBits x : Int) * 3 ≤ 2 ^ 27 := by
  have := small_bits h0 h
  have e : (2 : Int) ^ 27 = 134217728 := by decide
  rw [e]
  omega
theorem op_powB {X : Cx} : OpR X (binaryOp .Pow) (rI (fun i j => 0 ≤ j ∧ (Builtin.Int.intBits i : Int) * j ≤ 2 ^ 27) fun i j => .int (i ^ j.toNat)) :=
  opI fun _ _ _ _ _ _ _ hc q => pow_int hc.1 hc.2 q

/-! ### heaps -/
/-- all but a stands as it stood -/
def Keep (a : Addr) (H H' : Hp) : Prop := ∀ b o, H b = some o → b ≠ a → H' b = some o
theorem Keep.refl (a : Addr) (H : Hp) : Keep a H H := fun _ _ e _ => e
theorem Keep.trans {a : Addr} {H H1 H2 : Hp} (k : Keep a H H1) (l : Keep a H1 H2) : Keep a H H2 := fun b o e n => l b o (k b o e n) n
theorem Keep.of {a : Addr} {H H' : Hp} (s : Same H H') : Keep a H H' := fun b o e _ => s b o e
theorem same_new {H : Hp} {p : Addr} {o : HO} (n : H p = none) : Same H (upd H p o) := fun b u e => by
  rw [upd_ne (ne_of_none e n)]
  exact e
theorem Keep.free {a b : Addr} {H H' : Hp} (k : Keep a H H') (n : H' b = none) (ha : H' a ≠ none) : H b = none := by
  cases e : H b with
  | none => rfl
  | some o =>
    have nb : b ≠ a := fun z => ha (by rw [← z]; exact n)
    rw [k b o e nb] at n
    cases n

/-! ### the source of draws -/
/-- the source at a, of the cell c, with m draws still to be had -/
def SrcAt (H : Hp) (a : Addr) (c : Int) (m : Nat) : Prop := ∃ (d : Int) (n : Nat), H a = some (.lst [.int c, .int d, .int n]) ∧ n + m ≤ 1000000 ∧ intBits c ≤ 1048576
theorem SrcAt.mono {H : Hp} {a : Addr} {c : Int} {m m' : Nat} (h : SrcAt H a c m) (l : m' ≤ m) : SrcAt H a c m' := by
  obtain ⟨d, n, e, f, b⟩ := h
  exact ⟨d, n, e, by omega, b⟩
theorem SrcAt.some {H : Hp} {a : Addr} {c : Int} {m : Nat} (h : SrcAt H a c m) : H a ≠ none := by
  obtain ⟨d, n, e, _⟩ := h
  rw [e]
  exact fun z => by cases z
theorem SrcAt.same {H H' : Hp} {a : Addr} {c : Int} {m : Nat} (h : SrcAt H a c m) (s : Same H H') : SrcAt H' a c m := by
  obtain ⟨d, n, e, f, b⟩ := h
  exact ⟨d, n, s _ _ e, f, b⟩
theorem SrcAt.ne {H : Hp} {a p : Addr} {c : Int} {m : Nat} (h : SrcAt H a c m) (n : H p = none) : p ≠ a := by
  obtain ⟨d, k, e, _⟩ := h
  exact (ne_of_none e n).symm
def spSource : Sp := fun vs H Q _ => ∃ c : Int, vs = [.int c] ∧ intBits c ≤ 1048576 ∧ ∀ a H', Same H H' → H a = none → SrcAt H' a c 1000000 → Q (.ref a) H'
def spDraw : Sp := fun vs H Q _ => ∃ (a : Addr) (c : Int) (m : Nat) (k : Int), vs = [.ref a, .int k] ∧ SrcAt H a c (m + 1) ∧
  0 < k ∧ k ≤ 1000000 ∧ ∀ (r : Int) (H' : Hp), 0 ≤ r → r < k → SrcAt H' a c m → Keep a H H' → Q (.int r) H'

section
variable {P : Program} {w : World} {K : PySem.W.Frag} {mg : Str → Option Value} {base : Heap}
theorem scS : FnScope ["_law_cell"] ["_law_cell"] (defScope sSource) := ⟨rfl, rfl, rfl, by decide +kernel, rfl, by decide +kernel, by decide +kernel⟩
theorem ok_source {f : Addr} {fd : FuncData} (F : Fun K "_law_source" "_law_source" sSource f fd) : FnOk P w K mg base CX0 1 f fd ["_law_cell"] spSource := by
  refine F.ok scS (fun vs H Q E h => ?_) (fun cdv A outer s H vs Q E hr h => ?_)
  · obtain ⟨c, rfl, _⟩ := h
    rfl
  · obtain ⟨c, rfl, hb, k⟩ := h
    refine ⟨_, pss_one (ps_ret (pe_lst (pa_cons (pv 0) (pa_cons (pv 0) (pa_cons pe_int pa_nil))))), ?_⟩
    exact ⟨_, rfl, _, rfl, (by show 3 ≤ sizeLine; decide), fun a ha => k a _ (same_new ha) ha ⟨c, 0, upd_same, by decide, hb⟩⟩
theorem scD : FnScope ["_law_source_here", "_law_limit", "_law_digit", "_law_mixed"] ["_law_source_here", "_law_limit"] (defScope sDraw) :=
  ⟨rfl, rfl, rfl, by decide +kernel, rfl, by decide +kernel, by decide +kernel⟩
theorem ok_draw {f : Addr} {fd : FuncData} (F : Fun K "_law_draw" "_law_draw" sDraw f fd) (mi : mg "int" = none) :
    FnOk P w K mg base CX0 1 f fd ["_law_source_here", "_law_limit"] spDraw := by
  refine F.ok scD (fun vs H Q E h => ?_) (fun cdv A outer s H vs Q E hr h => ?_)
  · obtain ⟨a, c, n, m, rfl, _⟩ := h
    rfl
  · obtain ⟨a, c, fu, m, rfl, ⟨d, n, hs, hn, hc⟩, m0, m1, k⟩ := h
    refine ⟨_, pss_cons (ps_asg (pe_op op_add (pe_ix ix_list (pv 0) pe_int (fun _ _ => rfl)) pe_int) (pg_sub (pv 0) pe_int set_list))
      (pss_cons (ps_if (pt_cmpR op_ge (pe_ix ix_list (pv 0) pe_int (fun _ _ => rfl)) (pe_op op_pow pe_int pe_int) (nomark _))
        (pss_cons (ps_set (i := 2) scD.nd rfl (Or.inl rfl) (pe_op op_modN (pe_callTy call_int1 (by rfl) mi (by decide +kernel) (pa_cons (pe_ix ix_list (pv 0) pe_int (fun _ _ => rfl)) pa_nil)) (pv 1)))
        (pss_cons (ps_asg (pe_op op_fdivN (pe_ix ix_list (pv 0) pe_int (fun _ _ => rfl)) (pv 1)) (pg_sub (pv 0) pe_int set_list))
        (pss_one (ps_ret (pv 2))))) pss_nil)
      (pss_cons (ps_set (i := 3) scD.nd rfl (Or.inl rfl) (pe_op op_modN (pe_callTy call_int1 (by rfl) mi (by decide +kernel) (pa_cons (pe_op op_powB (pe_callTy call_int1 (by rfl) mi (by decide +kernel) (pa_cons (pe_op op_add (pe_op op_add (pe_op op_mul (pe_callTy call_int1 (by rfl) mi (by decide +kernel) (pa_cons (pe_ix ix_list (pv 0) pe_int (fun _ _ => rfl)) pa_nil)) pe_int) (pe_op op_mul (pe_ix ix_list (pv 0) pe_int (fun _ _ => rfl)) pe_int)) pe_int) pa_nil)) pe_int) pa_nil)) pe_int))
      (pss_cons (ps_set (i := 3) scD.nd rfl (Or.inl rfl) (pe_op op_modN (pe_callTy call_int1 (by rfl) mi (by decide +kernel) (pa_cons (pe_op op_powB (pe_callTy call_int1 (by rfl) mi (by decide +kernel) (pa_cons (pe_op op_add (pv 3) (pe_op op_mul (pe_op op_mul (pe_ix ix_list (pv 0) pe_int (fun _ _ => rfl)) (pe_ix ix_list (pv 0) pe_int (fun _ _ => rfl))) pe_int)) pa_nil)) pe_int) pa_nil)) pe_int))
      (pss_one (ps_ret (pe_op op_modN (pe_op op_fdivN (pv 3) pe_int) (pv 1))))))), ?_⟩
    -- src[2] = src[2] + 1
    refine ⟨_, rfl, a, _, _, _, rfl, rfl, SqL.of hs, rfl, _, _, rfl, rfl, _, rfl, a, _, _, _, rfl, rfl, hs, rfl, ?_⟩
    -- if src[0] >= 10 ** 18
    refine ⟨_, rfl, a, _, _, _, rfl, rfl, SqL.of upd_same, rfl, _, _, rfl, rfl, ⟨by decide, by decide, by decide⟩, _, _, rfl, rfl, _, rfl, ?_⟩
    refine ite2 (fun _ => ?_) (fun _ => ?_)
    · refine ⟨_, rfl, a, _, _, _, rfl, rfl, SqL.of upd_same, rfl, .inl ⟨_, rfl, ?_⟩⟩
      refine ⟨_, rfl, _, _, rfl, rfl, by omega, ?_⟩
      refine ⟨_, rfl, a, _, _, _, rfl, rfl, SqL.of upd_same, rfl, _, rfl, _, _, rfl, rfl, ⟨by omega, by omega⟩, _, rfl, a, _, _, _, rfl, rfl, upd_same, rfl, ?_⟩
      refine ⟨_, rfl, k _ _ (mod_pos m0).1 (mod_pos m0).2 ⟨_, n + 1, upd_same, by omega, hc⟩ fun b o e nb => ?_⟩
      rw [upd_ne nb, upd_ne nb]
      exact e
    · -- mixed
      refine ⟨_, rfl, a, _, _, _, rfl, rfl, SqL.of upd_same, rfl, .inl ⟨_, rfl, ?_⟩⟩
      refine ⟨_, _, rfl, rfl, .inr ⟨by decide, by decide⟩, _, rfl, a, _, _, _, rfl, rfl, SqL.of upd_same, rfl, _, _, rfl, rfl, .inr ⟨by decide, by decide⟩, _, _, rfl, rfl, _, _, rfl, rfl, .inl ⟨_, rfl, ?_⟩⟩
      refine ⟨_, _, rfl, rfl, ⟨by decide, big_ok hc (by omega) (by omega) (by decide) (by decide)⟩, .inl ⟨_, rfl, _, _, rfl, rfl, (by show (2147483647 : Int) ≠ 0; decide), ?_⟩⟩
      refine ⟨_, rfl, _, rfl, a, _, _, _, rfl, rfl, SqL.of upd_same, rfl, _, rfl, a, _, _, _, rfl, rfl, SqL.of upd_same, rfl, _, _, rfl, rfl, .inr ⟨by omega, by omega⟩, _, _, rfl, rfl, .inr ⟨by decide, by decide⟩, _, _, rfl, rfl, .inl ⟨_, rfl, ?_⟩⟩
      have sq0 : 0 ≤ ((n : Int) + 1) * ((n : Int) + 1) := Int.mul_nonneg (by omega) (by omega)
      have sq1 : ((n : Int) + 1) * ((n : Int) + 1) ≤ 1000001 * 1000001 := Int.mul_le_mul (by omega) (by omega) (by omega) (by omega)
      have b1 := fun x : Int => mod_pos (x := x) (y := 2147483647) (by decide)
      refine ⟨_, _, rfl, rfl, ⟨by decide, small_ok ?_ ?_⟩, .inl ⟨_, rfl, _, _, rfl, rfl, (by show (2147483629 : Int) ≠ 0; decide), ?_⟩⟩
      · exact Int.add_nonneg (b1 _).1 (by omega)
      · refine Int.lt_of_lt_of_le (Int.add_lt_add_right (b1 _).2 _) (by omega)
      -- return mixed // 64 % limit
      refine ⟨_, rfl, _, _, rfl, rfl, ⟨by decide, by decide⟩, _, rfl, _, _, rfl, rfl, (by show m ≠ 0; omega), ?_⟩
      refine k _ _ (mod_pos m0).1 (mod_pos m0).2 ⟨_, n + 1, upd_same, by omega, hc⟩ fun b o e nb => ?_
      rw [upd_ne nb]
      exact e

/-! ### names -/
def isLet (c : Nat) : Bool := decide (97 ≤ c) && decide (c ≤ 122)
def isSgn (c : Nat) : Bool := isLet c || (decide (48 ≤ c) && decide (c ≤ 57))
def nmB : List Nat → Bool
  | [] => false
  | c :: r => isLet c && r.all isSgn && decide (r.length ≤ 11)
/-- a name -/
def Nm (z : Str) : Prop := nmB z.cps.toList = true
theorem toList_append (a b : Str) : (a ++ b).cps.toList = a.cps.toList ++ b.cps.toList := by
  rw [Str.cps_append, Array.toList_append]
theorem length_toList (a : Str) : a.cps.toList.length = a.length := by
  show a.cps.toList.length = a.cps.size
  exact Array.length_toList
abbrev letS : Str := Str.ofString "abcdefghijklmnopqrstuvwxyz"
abbrev digS : Str := Str.ofString "0123456789"
theorem let_all : letS.cps.toList.all isLet = true := by decide +kernel
theorem sgn_all : (letS ++ digS).cps.toList.all isSgn = true := by decide +kernel
theorem let_len : letS.cps.toList.length = 26 := by decide +kernel
theorem sgn_len : (letS ++ digS).cps.toList.length = 36 := by decide +kernel
theorem pick {l : List Nat} {p : Nat → Bool} {n : Nat} (all : l.all p = true) (len : l.length = n) {r : Int} (h0 : 0 ≤ r) (h1 : r < n) :
    ∃ c, atI l r = some c ∧ p c = true := by
  obtain ⟨j, rfl⟩ : ∃ j : Nat, r = j := ⟨r.toNat, by omega⟩
  have hj : j < l.length := by omega
  refine ⟨l[j], atI_nat (List.getElem?_eq_getElem hj), ?_⟩
  exact List.all_eq_true.mp all _ (List.getElem_mem hj)
def spName : Sp := fun vs H Q _ => ∃ (a : Addr) (c : Int) (m : Nat), vs = [.ref a] ∧ SrcAt H a c (m + 14) ∧
  ∀ (z : Str) (H' : Hp), Nm z → SrcAt H' a c m → Keep a H H' → Q (.str z) H'
theorem scN : FnScope ["_law_source_here", "_law_letters", "_law_size", "_law_found", "_law_k"] ["_law_source_here"] (defScope sName) :=
  ⟨rfl, rfl, rfl, by decide +kernel, rfl, by decide +kernel, by decide +kernel⟩
theorem nm_one {c : Nat} (h : isLet c = true) : Nm ⟨#[c]⟩ := by
  show nmB [c] = true
  simp [nmB, h]
theorem sgn_of_let {c : Nat} (h : isLet c = true) : isSgn c = true := by simp [isSgn, h]
theorem nm_sgns {l : List Nat} (h : nmB l = true) : l.all isSgn = true ∧ l.length ≤ 12 ∧ 1 ≤ l.length := by
  cases l with
  | nil => cases h
  | cons c r =>
    simp only [nmB, Bool.and_eq_true, decide_eq_true_eq] at h
    refine ⟨?_, by simp; omega, by simp⟩
    simp only [List.all_cons, Bool.and_eq_true]
    exact ⟨sgn_of_let h.1.1, h.1.2⟩
theorem nm_tail {z : Str} (h : Nm z) : Nm (Str.ofString "m" ++ cutS z (some 1) none) := by
  obtain ⟨h1, h2, h3⟩ := nm_sgns h
  have e1 : (Str.ofString "m").cps.toList = [109] := by decide +kernel
  show nmB (Str.ofString "m" ++ cutS z (some 1) none).cps.toList = true
  rw [toList_append, e1]
  have e2 : (cutS z (some 1) none).cps.toList = (z.cps.toList.drop (min 1 z.length)).take (z.length - min 1 z.length) := by
    have e3 : HT.sIx z.length 0 (some 1) = min 1 z.length := HT.sIx_nat z.length 0 1
    unfold cutS
    rw [e3, HT.sIx_none]
  rw [e2]
  have l1 := length_toList z
  simp only [List.cons_append, List.nil_append, nmB, Bool.and_eq_true, decide_eq_true_eq]
  refine ⟨⟨by decide, ?_⟩, ?_⟩
  · rw [List.all_eq_true] at h1 ⊢
    exact fun x hx => h1 x (List.mem_of_mem_drop (List.mem_of_mem_take hx))
  · rw [List.length_take, List.length_drop]
    omega
theorem ok_name {f fD : Addr} {fd fdD : FuncData} (F : Fun K "_law_name" "_law_name" sName f fd) (FD : Fun K "_law_draw" "_law_draw" sDraw fD fdD)
    (bD : Binds K fdD ["_law_source_here", "_law_limit"] []) (mi : mg "int" = none) (mD : mg "_law_draw" = some (.ref fD)) (mr : mg "range" = none) :
    FnOk P w K mg base CX0 2 f fd ["_law_source_here"] spName := by
  have GD : FnOk P w K mg base CX0 1 fD fdD ["_law_source_here", "_law_limit"] spDraw := ok_draw FD mi
  refine F.ok scN (fun vs H Q E h => ?_) (fun cdv A outer s H vs Q E hr h => ?_)
  · obtain ⟨a, c, m, rfl, _⟩ := h
    rfl
  · obtain ⟨a, c, m, rfl, hs, k⟩ := h
    have hr1 : Room 1 _ := hr.mono (by decide)
    refine ⟨_, pss_cons (ps_set (i := 1) scN.nd rfl (Or.inl rfl) pe_str)
      (pss_cons (ps_set (i := 2) scN.nd rfl (Or.inl rfl) (pe_ix ix_list (pe_lst (pa_cons pe_int (pa_cons pe_int (pa_cons pe_int (pa_cons pe_int (pa_cons pe_int (pa_cons pe_int (pa_cons pe_int pa_nil)))))))) (pe_call GD hr1 (by rfl) mD FD.kp bD .nil pass0 (pa_cons (pv 0) (pa_cons pe_int pa_nil))) (fun _ _ => rfl)))
      (pss_cons (ps_set (i := 3) scN.nd rfl (Or.inl rfl) (pe_ix ix_str (pv 1) (pe_call GD hr1 (by rfl) mD FD.kp bD .nil pass0 (pa_cons (pv 0) (pa_cons pe_int pa_nil))) (fun _ _ => rfl)))
      (pss_cons (ps_for PassesOwn.never rfl (pi_range1 rfl mr (pa_cons (pv 2) pa_nil)) (pg_name (i := 4) scN.nd rfl (Or.inl rfl))
        (pss_one (ps_set (i := 3) scN.nd rfl (Or.inl rfl) (pe_op op_add_str (pv 3) (pe_ix ix_str (pe_op op_add_str (pv 1) pe_str) (pe_call GD hr1 (by rfl) mD FD.kp bD .nil pass0 (pa_cons (pv 0) (pa_cons pe_int pa_nil))) (fun _ _ => rfl))))))
      (pss_one (ps_ret (pe_ifExp (pt_cmpR op_ne (pe_slice sl_str (pv 3) po_none (po_some pe_int)) pe_str (nomark _)) (pv 3)
        (pe_op op_add_str pe_str (pe_slice sl_str (pv 3) (po_some pe_int) po_none)))))))), ?_⟩
    -- size
    refine ⟨(by show 7 ≤ sizeLine; decide), fun p1 n1 => ?_⟩
    have u1 := same_new (o := .lst [V.int 0, V.int 0, V.int 1, V.int 2, V.int 3, V.int 5, V.int 11]) n1
    have z1 := hs.ne n1
    refine ⟨_, rfl, a, c, m + 13, 7, rfl, hs.same u1, by decide, by decide, fun r1 H1 r10 r11 s1 k1 => ?_⟩
    have hl := k1 _ _ upd_same z1
    have size : ∃ sz : Nat, atI [V.int 0, V.int 0, V.int 1, V.int 2, V.int 3, V.int 5, V.int 11] r1 = some (.int sz) ∧ sz ≤ 11 := by
      obtain ⟨j, rfl⟩ : ∃ j : Nat, r1 = j := ⟨r1.toNat, by omega⟩
      have hj : j = 0 ∨ j = 1 ∨ j = 2 ∨ j = 3 ∨ j = 4 ∨ j = 5 ∨ j = 6 := by omega
      rcases hj with rfl | rfl | rfl | rfl | rfl | rfl | rfl
      · exact ⟨0, atI_nat (j := 0) rfl, by decide⟩
      · exact ⟨0, atI_nat (j := 1) rfl, by decide⟩
      · exact ⟨1, atI_nat (j := 2) rfl, by decide⟩
      · exact ⟨2, atI_nat (j := 3) rfl, by decide⟩
      · exact ⟨3, atI_nat (j := 4) rfl, by decide⟩
      · exact ⟨5, atI_nat (j := 5) rfl, by decide⟩
      · exact ⟨11, atI_nat (j := 6) rfl, by decide⟩
    obtain ⟨sz, esz, hsz⟩ := size
    refine ⟨p1, _, _, _, rfl, rfl, SqL.of hl, esz, ?_⟩
    -- found
    refine ⟨_, rfl, _, rfl, a, c, m + 12, 26, rfl, s1, by decide, by decide, fun r2 H2 r20 r21 s2 k2 => ?_⟩
    obtain ⟨c0, ec0, lc0⟩ := pick let_all let_len r20 r21
    refine ⟨_, _, _, rfl, rfl, (by decide +kernel), ec0, ?_⟩
    -- the loop
    refine ⟨_, rfl, _, rfl, by omega, by omega, for_range (lo := 0) (n := (sz : Int).toNat) (fun i σ H3 => ∃ (z : Str) (v : Option V), σ = [some (.ref a), some (.str letS), some (.int sz), some (.str z), v] ∧
      nmB z.cps.toList = true ∧ z.cps.toList.length = i + 1 ∧ SrcAt H3 a c (m + 12 - i) ∧ Keep a H H3) ⟨_, none, rfl, nm_one lc0, rfl, s2, ((Keep.of u1).trans k1).trans k2⟩ ?_ ?_⟩
    · rintro i σ H3 hi ⟨z, v, rfl, hz, lz, s3, k3⟩
      rw [Int.toNat_natCast] at hi
      have lz2 := length_toList z
      refine ⟨_, rfl, _, rfl, _, _, rfl, rfl, (by decide +kernel), ?_⟩
      have s3' : SrcAt H3 a c (m + 12 - (i + 1) + 1) := s3.mono (by omega)
      refine ⟨_, rfl, a, c, m + 12 - (i + 1), 36, rfl, s3', by decide, by decide, fun r4 H4 r40 r41 s4 k4 => ?_⟩
      obtain ⟨c4, ec4, lc4⟩ := pick sgn_all sgn_len r40 r41
      refine ⟨_, _, _, rfl, rfl, (by decide +kernel), ec4, ?_⟩
      refine ⟨_, _, rfl, rfl, ?_, ?_⟩
      · have e1 : (⟨#[c4]⟩ : Str).length = 1 := rfl
        rw [e1, sizeLine_eq]
        omega
      · refine ⟨_, _, rfl, ?_, ?_, s4, k3.trans k4⟩
        · rw [toList_append]
          cases hz2 : z.cps.toList with
          | nil =>
            rw [hz2] at hz
            cases hz
          | cons x xs =>
            rw [hz2] at hz lz
            simp only [nmB, Bool.and_eq_true, decide_eq_true_eq] at hz
            show nmB (x :: (xs ++ [c4])) = true
            simp only [List.length_cons] at lz
            simp only [nmB, List.all_append, List.length_append, Bool.and_eq_true, decide_eq_true_eq]
            refine ⟨⟨hz.1.1, hz.1.2, by simp [lc4]⟩, ?_⟩
            show xs.length + 1 ≤ 11
            omega
        · rw [toList_append, List.length_append, lz]
          rfl
    · rintro σ H3 ⟨z, v, rfl, hz, lz, s3, k3⟩
      rw [Int.toNat_natCast] at s3 lz
      have s3' : SrcAt H3 a c m := s3.mono (by omega)
      obtain ⟨_, l12, _⟩ := nm_sgns hz
      have lz2 := length_toList z
      have lzs : z.length ≤ sizeLine := by rw [sizeLine_eq]; omega
      refine ⟨_, rfl, 3, rfl, z, rfl, lzs, rfl, _, rfl, ?_⟩
      refine ite2 (fun _ => ?_) (fun _ => ?_)
      · exact ⟨_, rfl, k z H3 hz s3' k3⟩
      · refine ⟨_, rfl, 1, rfl, z, rfl, lzs, _, _, rfl, rfl, ?_, k _ H3 (nm_tail hz) s3' k3⟩
        have e1 : (Str.ofString "m").length = 1 := by decide +kernel
        have e2 : (cutS z (some 1) none).length ≤ z.length := by
          rw [← length_toList, ← length_toList]
          unfold cutS
          show ((z.cps.toList.drop _).take _).length ≤ _
          rw [List.length_take, List.length_drop]
          omega
        rw [e1, sizeLine_eq]
        omega
end
end L2.LawH
set_option Elab.async false
set_option linter.all false
set_option maxRecDepth 100000
set_option maxHeartbeats 4000000
/-! The helpers of the laws: lists of names. -/
namespace L2.LawH
open PySem PySem.Spec PyProof.Rows
open Builtin.Int (intBits)
abbrev sNames : Stmt := top 21
theorem nodup_len {α : Type} [DecidableEq α] : ∀ (l D : List α), l.Nodup → (∀ x ∈ l, x ∈ D) → l.length ≤ D.length
  | [], _, _, _ => Nat.zero_le _
  | x :: l, D, nd, h => by
    obtain ⟨n1, n2⟩ := List.nodup_cons.mp nd
    have hx := h x List.mem_cons_self
    have ih := nodup_len l (D.erase x) n2 fun y hy => by
      have ne : y ≠ x := fun z => n1 (by rw [← z]; exact hy)
      exact (List.mem_erase_of_ne ne).mpr (h y (List.mem_cons_of_mem _ hy))
    have e := List.length_erase_of_mem hx
    have pos : 0 < D.length := List.length_pos_of_mem hx
    rw [List.length_cons]
    omega
theorem op_notInK {X : Cx} {K : PySem.W.Frag} (e : X.K = K) : OpR X (compareOp .NotIn) (rIn K true) := by
  subst e
  exact op_notIn_seq
theorem inV_strs (q : Str) : ∀ L : List Str, inV (.str q) (L.map V.str) = decide (q ∈ L)
  | [] => by simp [inV]
  | x :: L => by
    have ih := inV_strs q L
    unfold inV at ih ⊢
    rw [List.map_cons, List.any_cons, ih]
    by_cases h : x = q
    · subst h
      simp [eqV]
    · have h' : ¬ q = x := fun z => h z.symm
      simp [eqV, h, h']
theorem flat_strs : ∀ L : List Str, (L.map V.str).all flatV = true
  | [] => rfl
  | _ :: L => by
    rw [List.map_cons, List.all_cons, flat_strs L]
    rfl
def qn (j : Nat) : Str := Str.ofString "q" ++ (toString (j : Int) : String)
theorem qn_ok : ((List.range 10).all fun j => nmB (qn j).cps.toList && decide ((qn j).length ≤ 3)) = true := by decide +kernel
theorem qn_nd : ((List.range 10).map qn).Nodup := by decide +kernel
def qs (n : Nat) : List Str := (List.range n).map qn
theorem qs_nd {n : Nat} (h : n ≤ 10) : (qs n).Nodup := by
  have e : qs n = ((List.range 10).map qn).take n := by
    unfold qs
    rw [← List.map_take, List.take_range, Nat.min_eq_left h]
  rw [e]
  exact qn_nd.sublist (List.take_sublist _ _)
theorem qs_len (n : Nat) : (qs n).length = n := by simp [qs]
theorem qs_get {n i : Nat} (h : i < n) : (qs n)[i]? = some (qn i) := by simp [qs, h]
theorem qs_nm {n : Nat} (h : n ≤ 10) {q : Str} (hq : q ∈ qs n) : Nm q := by
  obtain ⟨j, hj, rfl⟩ := List.mem_map.mp hq
  have h2 := List.all_eq_true.mp qn_ok j (List.mem_range.mpr (Nat.lt_of_lt_of_le (List.mem_range.mp hj) h))
  exact (Bool.and_eq_true_iff.mp h2).1
theorem qn_len {j : Nat} (h : j < 10) : (qn j).length ≤ 3 := by
  have h2 := List.all_eq_true.mp qn_ok j (List.mem_range.mpr h)
  exact of_decide_eq_true (Bool.and_eq_true_iff.mp h2).2
def free (L : List Str) (q : Str) : Bool := !decide (q ∈ L)
theorem some_free {L : List Str} {n : Nat} (h : n ≤ 10) (hl : L.length < n) : ∃ q r, (qs n).filter (free L) = q :: r ∧ Nm q ∧ q ∉ L := by
  cases e : (qs n).filter (free L) with
  | nil =>
    exfalso
    have all : ∀ q ∈ qs n, q ∈ L := by
      intro q hq
      have z := List.filter_eq_nil_iff.mp e q hq
      simpa [free] using z
    have := nodup_len _ _ (qs_nd h) all
    rw [qs_len] at this
    omega
  | cons q r =>
    have hm : q ∈ (qs n).filter (free L) := by
      rw [e]
      exact List.mem_cons_self
    obtain ⟨h1, h2⟩ := List.mem_filter.mp hm
    exact ⟨q, r, rfl, qs_nm h h1, by simpa [free] using h2⟩
theorem Keep.upd_new {a p : Addr} {H H' : Hp} {o : HO} (k : Keep a H H') (n : H p = none) : Keep a H (upd H' p o) := fun b u e nb => by
  rw [upd_ne (ne_of_none e n)]
  exact k b u e nb

def spNames : Sp := fun vs H Q _ => ∃ (a : Addr) (c : Int) (m cn : Nat), vs = [.ref a, .int cn] ∧ cn ≤ 9 ∧ SrcAt H a c (m + 14 * cn) ∧
  ∀ (p : Addr) (L : List Str) (H' : Hp), L.length = cn → (∀ z ∈ L, Nm z) → L.Nodup → H p = none → H' p = some (.lst (L.map V.str)) → SrcAt H' a c m → Keep a H H' → Q (.ref p) H'
section
variable {P : Program} {w : World} {K : PySem.W.Frag} {mg : Str → Option Value} {base : Heap}
abbrev nNames : List Str := ["_law_source_here", "_law_many", "_law_found", "_law_k", "_law_name_here", "_law_spare", "_law_one", "_law_j"]
theorem scNs : FnScope nNames ["_law_source_here", "_law_many"] (defScope sNames) := ⟨rfl, rfl, rfl, by decide +kernel, rfl, by decide +kernel, by decide +kernel⟩
theorem ok_names {f fN : Addr} {fd fdN : FuncData} (F : Fun K "_law_names" "_law_names" sNames f fd) (GN : FnOk P w K mg base CX0 2 fN fdN ["_law_source_here"] spName)
    (kN : PySem.W.keepIn K (.ref fN) = true) (bN : Binds K fdN ["_law_source_here"] []) (mN : mg "_law_name" = some (.ref fN)) (mr : mg "range" = none) (ms : mg "str" = none) :
    FnOk P w K mg base CX0 3 f fd ["_law_source_here", "_law_many"] spNames := by
  refine F.ok scNs (fun vs H Q E h => ?_) (fun cdv A outer s H vs Q E hr h => ?_)
  · obtain ⟨a, c, m, cn, rfl, _⟩ := h
    rfl
  · obtain ⟨a, c, m, cn, rfl, hcn, hs, k⟩ := h
    have hr2 : Room 2 _ := hr.mono (by decide)
    refine ⟨_, pss_cons (ps_set (i := 2) scNs.nd rfl (Or.inr rfl) (pe_lst pa_nil))
      (pss_cons (ps_for PassesOwn.never rfl (pi_range1 rfl mr (pa_cons (pv 1) pa_nil)) (pg_name (i := 3) scNs.nd rfl (Or.inl rfl))
        (pss_cons (ps_set (i := 4) scNs.nd rfl (Or.inl rfl) (pe_call GN hr2 (by rfl) mN kN bN .nil pass0 (pa_cons (pv 0) pa_nil)))
        (pss_cons (ps_setLc (i := 5) (own := [("_law_one", 6)]) (g := gName 6) (tt := tTest (tOp (rIn K true) (tVar 6) (tVar 2))) rfl scNs.nd rfl rfl (sw_true rfl rfl rfl (by decide +kernel))
            (pi_list (pe_lc (own := [("_law_j", 7)]) (g := gName 7) (tt := tYes) rfl scNs.nd (pi_range1 rfl mr (pa_cons (pe_op op_add (pv 1) pe_int) pa_nil))
              (blkOk_by (own := [("_law_j", 7)]) (N := nNames) (sc := defScope sNames) (by decide +kernel))
              (fun _ _ _ _ _ => pg_name (i := 7) scNs.nd rfl (Or.inl rfl)) (fun _ _ _ _ _ => pts_nil)
              (fun _ _ _ _ _ => pe_op op_add_str pe_str (pe_callTy call_str_int (by rfl) ms (by decide +kernel) (pa_cons (pv 7) pa_nil)))))
            (blkOk_by (own := [("_law_one", 6)]) (N := nNames) (sc := defScope sNames) (by decide +kernel))
            (fun _ _ _ _ _ => pg_name (i := 6) scNs.nd rfl (Or.inl rfl)) (fun _ _ _ _ _ => pts_one (pt_cmpR (op_notInK rfl) (pv 6) (pv 2) (by rfl))) (fun _ _ _ _ _ => pv 6))
        (pss_one (ps_expr (pe_bm PySem.F.plainAttrs_list PySem.F.slot_list_append PySem.F.type_list_append mt_append (pv 2)
          (pa_cons (pe_ifExp (pt_cmpR op_notIn_seq (pv 4) (pv 2) (by rfl)) (pv 4) (pe_ix ix_list (pv 5) pe_int (fun _ _ => rfl))) pa_nil)))))))
      (pss_one (ps_ret (pv 2)))), ?_⟩
    refine ⟨(by show 0 ≤ sizeLine; decide), fun p np => ?_⟩
    have pa := hs.ne np
    refine ⟨_, rfl, _, rfl, by omega, by omega, for_range (lo := 0) (n := (cn : Int).toNat) (fun i σ H3 => ∃ (L : List Str) (v3 v4 v5 v6 v7 : Option V), σ = [some (.ref a), some (.int cn), some (.ref p), v3, v4, v5, v6, v7] ∧
      L.length = i ∧ (∀ z ∈ L, Nm z) ∧ L.Nodup ∧ H3 p = some (.lst (L.map V.str)) ∧ SrcAt H3 a c (m + 14 * (cn - i)) ∧ Keep a H H3)
      ⟨[], none, none, none, none, none, rfl, rfl, fun _ z => (by cases z), List.nodup_nil, upd_same, (hs.same (same_new np)).mono (by omega), Keep.of (same_new np)⟩ ?_ ?_⟩
    · rintro i σ H3 hi ⟨L, v3, v4, v5, v6, v7, rfl, hl, hnm, hnd, h3, s3, k3⟩
      rw [Int.toNat_natCast] at hi
      -- name_here
      have s3' : SrcAt H3 a c (m + 14 * (cn - (i + 1)) + 14) := s3.mono (by omega)
      refine ⟨_, rfl, a, c, m + 14 * (cn - (i + 1)), rfl, s3', fun z H4 nz s4 k4 => ?_⟩
      have h4 := k4 _ _ h3 pa
      -- spare: the inner list
      refine ⟨_, rfl, _, _, rfl, rfl, _, rfl, by omega, by omega, fun D nD => ?_⟩
      have tn : ((cn : Int) + 1).toNat = cn + 1 := by omega
      rw [tn]
      refine lc_range (lo := 0) (n := cn + 1) (fun j H5 => Same H4 H5 ∧ H5 D = some (.lst (((qs (cn + 1)).take j).map V.str))) ⟨same_new nD, upd_same⟩ ?_ ?_
      · rintro j H5 hj ⟨s5, hD⟩
        refine ⟨rfl, ?_⟩
        dsimp only [tYes]
        rw [if_pos rfl]
        have e0 : (0 : Int) + (j : Int) = (j : Int) := by omega
        rw [e0]
        have sz : (toString (j : Int) : String) = toString (j : Int) := rfl
        have l3 : (Str.ofString "q" ++ ((toString (j : Int) : String) : Str)).length ≤ 3 := qn_len (j := j) (by omega)
        have lsum : (Str.ofString "q").length + ((toString (j : Int) : String) : Str).length ≤ sizeLine := by
          have e1 : (Str.ofString "q" ++ ((toString (j : Int) : String) : Str)).length = (Str.ofString "q").length + ((toString (j : Int) : String) : Str).length := by
            rw [← length_toList, toList_append, List.length_append, length_toList, length_toList]
          rw [e1] at l3
          rw [sizeLine_eq]
          omega
        have lg : ((j : Int)).natAbs.log2 < 1920 := by
          have : ((j : Int)).natAbs < 2 ^ 11 := by
            have e2 : (2 : Nat) ^ 11 = 2048 := by decide
            rw [e2]
            omega
          have h9 : ((j : Int)).natAbs.log2 ≤ 11 := by
            by_cases z : ((j : Int)).natAbs = 0
            · rw [z]
              decide
            · exact Nat.le_of_lt ((Nat.log2_lt z).mpr this)
          omega
        refine ⟨_, rfl, _, rfl, lg, _, _, rfl, rfl, lsum, _, hD, ?_, fun b o e => ?_, ?_⟩
        · rw [List.length_map, List.length_take, qs_len]
          refine Nat.lt_of_le_of_lt (Nat.min_le_right _ _) ?_
          rw [sizeLine_eq]
          omega
        · rw [upd_ne (ne_of_none e nD)]
          exact s5 b o e
        · rw [upd_same, List.take_add_one, qs_get hj]
          simp [qn]
      · rintro H5 ⟨s5, hD⟩
        have hD' : H5 D = some (.lst ((qs (cn + 1)).map V.str)) := by
          rw [hD, List.take_of_length_le (by rw [qs_len]; exact Nat.le_refl _)]
        have h5 := s5 _ _ h4
        -- spare: the outer list
        refine ⟨D, rfl, ⟨_, SqL.of hD'⟩, fun D2 nD2 => ?_⟩
        refine lc_list (K := K) (a := D) (xs := (qs (cn + 1)).map V.str) (fun j H6 => Same H5 H6 ∧ H6 D2 = some (.lst ((((qs (cn + 1)).take j).filter (free L)).map V.str)))
          ⟨same_new nD2, upd_same⟩ (fun j H6 _ h6 => h6.1.seq (SqL.of hD')) ?_ ?_
        · rintro j v H6 hj ⟨s6, hD2⟩
          rw [List.getElem?_map] at hj
          cases eb : (qs (cn + 1))[j]? with
          | none =>
            rw [eb] at hj
            cases hj
          | some q =>
            rw [eb] at hj
            cases hj
            have h6 := s6 _ _ h5
            refine ⟨rfl, _, rfl, _, rfl, p, _, rfl, .inl (SqL.of h6), rfl, flat_strs L, _, rfl, ?_⟩
            rw [List.take_add_one, eb, List.filter_append]
            have e2 : (if true = true then !inV (V.str q) (L.map V.str) else inV (V.str q) (L.map V.str)) = free L q := by
              rw [if_pos rfl, inV_strs]
              rfl
            rw [e2]
            cases ef : free L q with
            | true =>
              refine iteT ?_
              refine ⟨_, rfl, _, hD2, ?_, fun b o e => ?_, ?_⟩
              · rw [List.length_map]
                refine Nat.lt_of_le_of_lt (List.length_filter_le _ _) ?_
                rw [List.length_take, qs_len, sizeLine_eq]
                omega
              · rw [upd_ne (ne_of_none e nD2)]
                exact s6 b o e
              · rw [upd_same]
                simp [ef]
            | false =>
              refine iteF ?_
              refine ⟨s6, ?_⟩
              rw [hD2]
              simp [ef]
        · rintro H6 ⟨s6, hD2⟩
          have hD2' : H6 D2 = some (.lst (((qs (cn + 1)).filter (free L)).map V.str)) := by
            rw [hD2, List.length_map, List.take_of_length_le (Nat.le_refl _)]
          have h6 := s6 _ _ h5
          have s46 : Same H4 H6 := s5.trans s6
          -- found.append(..)
          obtain ⟨q, r, eq, nq, fq⟩ := some_free (L := L) (n := cn + 1) (by omega) (by omega)
          refine ⟨_, rfl, .inl ⟨rfl, _, .inl (.inl h6)⟩, ?_⟩
          refine ⟨_, rfl, _, rfl, p, _, rfl, .inl (SqL.of h6), rfl, flat_strs L, _, rfl, ?_⟩
          have e2 : (if true = true then !inV (V.str z) (L.map V.str) else inV (V.str z) (L.map V.str)) = free L z := by
            rw [if_pos rfl, inV_strs]
            rfl
          rw [e2]
          have few : (L.map V.str).length < sizeLine := by
            rw [List.length_map, sizeLine_eq]
            omega
          have fin : ∀ t : Str, Nm t → t ∉ L → ∃ (L' : List Str) (w3 w4 w5 w6 w7 : Option V), [some (.ref a), some (.int cn), some (.ref p), some (V.int (0 + (i : Int))), some (.str z), some (.ref D2), v6, v7] = [some (.ref a), some (.int cn), some (.ref p), w3, w4, w5, w6, w7] ∧
              L'.length = i + 1 ∧ (∀ z ∈ L', Nm z) ∧ L'.Nodup ∧ (upd H6 p (.lst (L.map V.str ++ [V.str t]))) p = some (.lst (L'.map V.str)) ∧ SrcAt (upd H6 p (.lst (L.map V.str ++ [V.str t]))) a c (m + 14 * (cn - (i + 1))) ∧ Keep a H (upd H6 p (.lst (L.map V.str ++ [V.str t]))) := by
            intro t nt ft
            refine ⟨L ++ [t], _, _, _, _, _, rfl, by simp [hl], fun y hy => ?_, ?_, by rw [upd_same]; simp, ?_, ?_⟩
            · rcases List.mem_append.mp hy with hy | hy
              · exact hnm y hy
              · have : y = t := by simpa using hy
                rw [this]
                exact nt
            · rw [List.nodup_append]
              refine ⟨hnd, by simp, fun x hx y hy e => ?_⟩
              have : y = t := by simpa using hy
              rw [e, this] at hx
              exact ft hx
            · obtain ⟨d, n, e, g⟩ := s4.same s46
              exact ⟨d, n, by rw [upd_ne pa.symm]; exact e, g⟩
            · exact ((k3.trans k4).trans (Keep.of s46)).upd_new np
          cases ef : free L z with
          | true =>
            refine iteT ?_
            refine ⟨_, rfl, p, _, _, rfl, rfl, h6, few, ?_⟩
            exact fin z nz (by simpa [free] using ef)
          | false =>
            refine iteF ?_
            refine ⟨_, rfl, D2, _, 0, .str q, rfl, rfl, SqL.of hD2', ?_, p, _, _, rfl, rfl, h6, few, ?_⟩
            · rw [eq]
              exact atI_nat (j := 0) rfl
            · exact fin q nq fq
    · rintro σ H3 ⟨L, v3, v4, v5, v6, v7, rfl, hl, hnm, hnd, h3, s3, k3⟩
      rw [Int.toNat_natCast] at hl
      exact ⟨_, rfl, k p L H3 hl hnm hnd np h3 (s3.mono (by omega)) k3⟩
end
end L2.LawH
set_option Elab.async false
set_option linter.all false
set_option maxRecDepth 100000
set_option maxHeartbeats 4000000
/-! The helpers of the laws: the pool of tables, constants and variables. -/
namespace L2.LawH
open PySem PySem.Spec PyProof.Rows
open Builtin.Int (intBits)
abbrev sPool : Stmt := top 22
theorem ix_listK {X : Cx} {K : PySem.W.Frag} (e : X.K = K) : IxR X (rIxL K) := by
  subst e
  exact ix_list
/-- a variable -/
def Vr (z : Str) : Prop := ∃ y : Str, Nm y ∧ z = Str.ofString "?" ++ y
structure Pool where
  (r cs vs : Addr)
  rows : List (Addr × Str × Nat)
  (C W : List Str)
structure PoolAt (a : Addr) (H : Hp) (p : Addr) (π : Pool) : Prop where
  hp : H p = some (.lst [.ref π.r, .ref π.cs, .ref π.vs])
  hr : H π.r = some (.lst (π.rows.map fun x => V.ref x.1))
  hrow : ∀ x ∈ π.rows, H x.1 = some (.tup [.str x.2.1, .int (x.2.2 : Nat)]) ∧ Nm x.2.1 ∧ x.2.2 ≤ 3 ∧ x.1 ≠ a
  rows1 : 1 ≤ π.rows.length
  rows9 : π.rows.length ≤ 9
  hc : H π.cs = some (.lst (π.C.map V.str))
  nC : ∀ z ∈ π.C, Nm z
  C2 : 2 ≤ π.C.length
  C9 : π.C.length ≤ 9
  hv : H π.vs = some (.lst (π.W.map V.str))
  nW : ∀ z ∈ π.W, Vr z
  W9 : π.W.length = 9
  np : p ≠ a
  nr : π.r ≠ a
  nc : π.cs ≠ a
  nv : π.vs ≠ a
theorem PoolAt.keep {a : Addr} {H H' : Hp} {p : Addr} {π : Pool} (h : PoolAt a H p π) (k : Keep a H H') : PoolAt a H' p π :=
  ⟨k _ _ h.hp h.np, k _ _ h.hr h.nr, fun x hx => let ⟨h1, h2, h3, h4⟩ := h.hrow x hx; ⟨k _ _ h1 h4, h2, h3, h4⟩, h.rows1, h.rows9, k _ _ h.hc h.nc, h.nC, h.C2, h.C9, k _ _ h.hv h.nv, h.nW, h.W9, h.np, h.nr, h.nc, h.nv⟩
def spPool : Sp := fun vs H Q _ => ∃ (a : Addr) (c : Int) (m : Nat), vs = [.ref a] ∧ SrcAt H a c (m + 300) ∧
  ∀ (p : Addr) (π : Pool) (H' : Hp), PoolAt a H' p π → SrcAt H' a c m → Keep a H H' → Q (.ref p) H'
section
variable {P : Program} {w : World} {K : PySem.W.Frag} {mg : Str → Option Value} {base : Heap}
abbrev nPool : List Str := ["_law_source_here", "_law_tables", "_law_sizes", "_law_constants", "_law_variables", "_law_rows", "_law_k", "_law_name_here"]
theorem scP : FnScope nPool ["_law_source_here"] (defScope sPool) := ⟨rfl, rfl, rfl, by decide +kernel, rfl, by decide +kernel, by decide +kernel⟩
theorem menu8 {r : Int} (h0 : 0 ≤ r) (h1 : r < 8) : ∃ n : Nat, atI [V.int 2, V.int 1, V.int 2, V.int 3, V.int 2, V.int 0, V.int 1, V.int 2] r = some (.int n) ∧ n ≤ 3 := by
  obtain ⟨j, rfl⟩ : ∃ j : Nat, r = j := ⟨r.toNat, by omega⟩
  have hj : j = 0 ∨ j = 1 ∨ j = 2 ∨ j = 3 ∨ j = 4 ∨ j = 5 ∨ j = 6 ∨ j = 7 := by omega
  rcases hj with rfl | rfl | rfl | rfl | rfl | rfl | rfl | rfl
  · exact ⟨2, atI_nat (j := 0) rfl, by decide⟩
  · exact ⟨1, atI_nat (j := 1) rfl, by decide⟩
  · exact ⟨2, atI_nat (j := 2) rfl, by decide⟩
  · exact ⟨3, atI_nat (j := 3) rfl, by decide⟩
  · exact ⟨2, atI_nat (j := 4) rfl, by decide⟩
  · exact ⟨0, atI_nat (j := 5) rfl, by decide⟩
  · exact ⟨1, atI_nat (j := 6) rfl, by decide⟩
  · exact ⟨2, atI_nat (j := 7) rfl, by decide⟩
theorem menu4 {r : Int} (h0 : 0 ≤ r) (h1 : r < 4) : ∃ n : Nat, atI [V.int 1, V.int 3, V.int 0, V.int 1] r = some (.int n) ∧ n ≤ 3 := by
  obtain ⟨j, rfl⟩ : ∃ j : Nat, r = j := ⟨r.toNat, by omega⟩
  have hj : j = 0 ∨ j = 1 ∨ j = 2 ∨ j = 3 := by omega
  rcases hj with rfl | rfl | rfl | rfl
  · exact ⟨1, atI_nat (j := 0) rfl, by decide⟩
  · exact ⟨3, atI_nat (j := 1) rfl, by decide⟩
  · exact ⟨0, atI_nat (j := 2) rfl, by decide⟩
  · exact ⟨1, atI_nat (j := 3) rfl, by decide⟩
theorem ints_get {Z : List Nat} {i : Nat} (h : i < Z.length) : (Z.map fun n : Nat => V.int (n : Int))[i]? = some (.int (Z[i] : Nat)) := by
  rw [List.getElem?_map, List.getElem?_eq_getElem h]
  rfl
theorem strs_get {L : List Str} {i : Nat} (h : i < L.length) : (L.map V.str)[i]? = some (.str L[i]) := by
  rw [List.getElem?_map, List.getElem?_eq_getElem h]
  rfl
theorem ok_pool {f fD fS : Addr} {fd fdD fdS : FuncData} (F : Fun K "_law_pool" "_law_pool" sPool f fd)
    (GD : FnOk P w K mg base CX0 1 fD fdD ["_law_source_here", "_law_limit"] spDraw) (kD : PySem.W.keepIn K (.ref fD) = true) (bD : Binds K fdD ["_law_source_here", "_law_limit"] []) (mD : mg "_law_draw" = some (.ref fD))
    (GS : FnOk P w K mg base CX0 3 fS fdS ["_law_source_here", "_law_many"] spNames) (kS : PySem.W.keepIn K (.ref fS) = true) (bS : Binds K fdS ["_law_source_here", "_law_many"] []) (mS : mg "_law_names" = some (.ref fS))
    (mr : mg "range" = none) (ml : mg "len" = none) :
    FnOk P w K mg base CX0 4 f fd ["_law_source_here"] spPool := by
  refine F.ok scP (fun vs H Q E h => ?_) (fun cdv A outer s H vs Q E hr h => ?_)
  · obtain ⟨a, c, m, rfl, _⟩ := h
    rfl
  · obtain ⟨a, c, m, rfl, hs, k⟩ := h
    have hr1 : Room 1 _ := hr.mono (by decide)
    refine ⟨_, pss_cons (ps_set (i := 1) scP.nd rfl (Or.inr rfl) (pe_call GS hr (by rfl) mS kS bS .nil pass0 (pa_cons (pv 0) (pa_cons (pe_op op_add pe_int (pe_call GD hr1 (by rfl) mD kD bD .nil pass0 (pa_cons (pv 0) (pa_cons pe_int pa_nil)))) pa_nil))))
      (pss_cons (ps_set (i := 2) scP.nd rfl (Or.inr rfl) (pe_op op_cat (pe_lst (pa_cons pe_int pa_nil))
        (pe_lc (own := [("_law_k", 6)]) (g := gName 6) (tt := tYes) rfl scP.nd (pi_range1 (by rfl) mr (pa_cons (pe_op op_sub (pe_callB call_len_seq (by rfl) ml (by decide +kernel) (pa_cons (pv 1) pa_nil)) pe_int) pa_nil))
          (blkOk_by (own := [("_law_k", 6)]) (N := nPool) (sc := defScope sPool) (by decide +kernel)) (fun _ _ _ _ _ => pg_name (i := 6) scP.nd rfl (Or.inl rfl)) (fun _ _ _ _ _ => pts_nil)
          (fun _ _ _ _ _ => pe_ix (ix_listK rfl) (pe_lst (pa_cons pe_int (pa_cons pe_int (pa_cons pe_int (pa_cons pe_int (pa_cons pe_int (pa_cons pe_int (pa_cons pe_int (pa_cons pe_int pa_nil))))))))) (pe_call GD hr1 (by rfl) mD kD bD .nil pass0 (pa_cons (pv 0) (pa_cons pe_int pa_nil))) (fun _ _ => rfl)))))
      (pss_cons (ps_set (i := 3) scP.nd rfl (Or.inl rfl) (pe_call GS hr (by rfl) mS kS bS .nil pass0 (pa_cons (pv 0) (pa_cons (pe_op op_add pe_int (pe_call GD hr1 (by rfl) mD kD bD .nil pass0 (pa_cons (pv 0) (pa_cons pe_int pa_nil)))) pa_nil))))
      (pss_cons (ps_setLc (i := 4) (own := [("_law_name_here", 7)]) (g := gName 7) (tt := tYes) rfl scP.nd rfl rfl (sw_true rfl rfl rfl (by decide +kernel))
          (pi_list (pe_call GS hr (by rfl) mS kS bS .nil pass0 (pa_cons (pv 0) (pa_cons pe_int pa_nil))))
          (blkOk_by (own := [("_law_name_here", 7)]) (N := nPool) (sc := defScope sPool) (by decide +kernel)) (fun _ _ _ _ _ => pg_name (i := 7) scP.nd rfl (Or.inl rfl)) (fun _ _ _ _ _ => pts_nil)
          (fun _ _ _ _ _ => pe_op op_add_str pe_str (pv 7)))
      (pss_cons (ps_setLc (i := 5) (own := [("_law_k", 6)]) (g := gName 6) (tt := tYes) rfl scP.nd rfl rfl (sw_true rfl rfl rfl (by decide +kernel))
          (pi_range1 (by rfl) mr (pa_cons (pe_callB call_len_seq (by rfl) ml (by decide +kernel) (pa_cons (pv 1) pa_nil)) pa_nil))
          (blkOk_by (own := [("_law_k", 6)]) (N := nPool) (sc := defScope sPool) (by decide +kernel)) (fun _ _ _ _ _ => pg_name (i := 6) scP.nd rfl (Or.inl rfl)) (fun _ _ _ _ _ => pts_nil)
          (fun _ _ _ _ _ => pe_tup (pa_cons (pe_ix (ix_listK rfl) (pv 1) (pv 6) (fun _ _ => rfl)) (pa_cons (pe_ix (ix_listK rfl) (pv 2) (pv 6) (fun _ _ => rfl)) pa_nil))))
      (pss_cons (ps_if (pt_cmpR op_eq (pe_call GD hr1 (by rfl) mD kD bD .nil pass0 (pa_cons (pv 0) (pa_cons pe_int pa_nil))) pe_int (nomark _))
        (pss_one (ps_expr (pe_bm PySem.F.plainAttrs_list PySem.F.slot_list_append PySem.F.type_list_append mt_append (pv 5)
          (pa_cons (pe_tup (pa_cons (pe_ix ix_list (pv 1) pe_int (fun _ _ => rfl)) (pa_cons (pe_ix ix_list (pe_lst (pa_cons pe_int (pa_cons pe_int (pa_cons pe_int (pa_cons pe_int pa_nil))))) (pe_call GD hr1 (by rfl) mD kD bD .nil pass0 (pa_cons (pv 0) (pa_cons pe_int pa_nil))) (fun _ _ => rfl)) pa_nil))) pa_nil)))) pss_nil)
      (pss_one (ps_ret (pe_lst (pa_cons (pv 5) (pa_cons (pv 3) (pa_cons (pv 4) pa_nil))))))))))), ?_⟩
    -- tables
    refine ⟨_, rfl, _, rfl, a, c, m + 299, 3, rfl, hs, by decide, by decide, fun r1 H1 r10 r11 s1 k1 => ⟨_, _, rfl, rfl, ?_⟩⟩
    obtain ⟨j1, rfl⟩ : ∃ j : Nat, r1 = j := ⟨r1.toNat, by omega⟩
    refine ⟨a, c, m + 240, 2 + j1, rfl, by omega, s1.mono (by omega), fun t L H2 lL nL ndL nt ht s2 k2 => ?_⟩
    have ta : t ≠ a := s1.ne nt
    have K2 := k1.trans k2
    -- sizes
    refine ⟨(by show 1 ≤ sizeLine; decide), fun pA nA => ?_⟩
    have uA := same_new (o := .lst [V.int 2]) nA
    have zA := s2.ne nA
    refine ⟨_, rfl, t, _, rfl, .inl (SqL.of (uA _ _ ht)), _, _, rfl, rfl, ?_⟩
    have lS : (L.map V.str).length = 2 + j1 := by rw [List.length_map, lL]
    refine ⟨_, rfl, by rw [lS]; omega, by rw [lS]; omega, fun D nD => ?_⟩
    have tn : (((L.map V.str).length : Int) - 1).toNat = 1 + j1 := by rw [lS]; omega
    rw [tn]
    have sA := s2.same uA
    have zD := sA.ne nD
    refine lc_range (lo := 0) (n := 1 + j1) (fun j H5 => ∃ Z : List Nat, Z.length = j ∧ (∀ n ∈ Z, n ≤ 3) ∧ H5 D = some (.lst (Z.map fun n : Nat => V.int (n : Int))) ∧ SrcAt H5 a c (m + 239 - j) ∧ Keep a H H5 ∧ H5 t = some (.lst (L.map V.str)) ∧ H5 pA = some (.lst [V.int 2]))
      ⟨[], rfl, fun _ z => (by cases z), upd_same, (sA.same (same_new nD)).mono (by omega), K2.trans (Keep.of (uA.trans (same_new nD))), (same_new nD) _ _ (uA _ _ ht), (same_new nD) _ _ upd_same⟩ ?_ ?_
    · rintro j H5 hj ⟨Z, lZ, Z3, hD, s5, k5, t5, a5⟩
      refine ⟨rfl, ?_⟩
      dsimp only [tYes]
      rw [if_pos rfl]
      refine ⟨(by show 8 ≤ sizeLine; decide), fun p8 n8 => ?_⟩
      have u8 := same_new (o := .lst [V.int 2, V.int 1, V.int 2, V.int 3, V.int 2, V.int 0, V.int 1, V.int 2]) n8
      have z8 := s5.ne n8
      refine ⟨_, rfl, a, c, m + 239 - (j + 1), 8, rfl, (s5.same u8).mono (by omega), by decide, by decide, fun r H6 r0 r1 s6 k6 => ?_⟩
      obtain ⟨n, en, n3⟩ := menu8 r0 r1
      refine ⟨p8, _, _, _, rfl, rfl, SqL.of (k6 _ _ upd_same z8), en, _, k6 _ _ (u8 _ _ hD) zD, ?_, Z ++ [n], ?_, ?_, ?_, ?_, ?_, ?_, ?_⟩
      · rw [List.length_map, lZ, sizeLine_eq]
        omega
      · simp [lZ]
      · intro x hx
        rcases List.mem_append.mp hx with hx | hx
        · exact Z3 x hx
        · have e : x = n := by simpa using hx
          rw [e]
          exact n3
      · rw [upd_same]
        simp
      · obtain ⟨d, nn, e, g⟩ := s6
        exact ⟨d, nn, by rw [upd_ne zD.symm]; exact e, g⟩
      · have kk : Keep a H H6 := (k5.trans (Keep.of u8)).trans k6
        intro b o e nb
        by_cases hb : b = D
        · exfalso
          subst hb
          have q := (K2.trans (Keep.of uA)) _ _ e nb
          rw [nD] at q
          cases q
        · rw [upd_ne hb]
          exact kk b o e nb
      · have tD : t ≠ D := ne_of_none (uA _ _ ht) nD
        rw [upd_ne tD]
        exact k6 _ _ (u8 _ _ t5) ta
      · have aD : pA ≠ D := ne_of_none (upd_same (H := H2) (o := .lst [V.int 2])) nD
        rw [upd_ne aD]
        exact k6 _ _ (u8 _ _ a5) zA
    · rintro H5 ⟨Z, lZ, Z3, hD, s5, k5, t5, a5⟩
      refine ⟨pA, D, _, _, rfl, rfl, a5, hD, ?_, fun pZ nZ => ?_⟩
      · rw [List.length_map, lZ, sizeLine_eq]
        show 1 + (1 + j1) ≤ _
        omega
      have uZ := same_new (o := .lst ([V.int 2] ++ Z.map fun n : Nat => V.int (n : Int))) nZ
      have zZ := s5.ne nZ
      have sZ : SrcAt _ a c (m + 235) := (s5.same uZ).mono (by omega)
      have hZ : (upd H5 pZ (.lst ([V.int 2] ++ Z.map fun n : Nat => V.int (n : Int)))) pZ = some (.lst ((2 :: Z).map fun n : Nat => V.int (n : Int))) := upd_same
      -- constants
      refine ⟨_, rfl, _, rfl, a, c, m + 234, 3, rfl, sZ, by decide, by decide, fun r2 H6 r20 r21 s6 k6 => ⟨_, _, rfl, rfl, ?_⟩⟩
      obtain ⟨j2, rfl⟩ : ∃ j : Nat, r2 = j := ⟨r2.toNat, by omega⟩
      refine ⟨a, c, m + 150, 2 + j2, rfl, by omega, s6.mono (by omega), fun pC C H7 lC nC ndC ntC hC s7 k7 => ?_⟩
      have zC := s6.ne ntC
      have t7 := k7 _ _ (k6 _ _ (uZ _ _ t5) ta) ta
      have z7 := k7 _ _ (k6 _ _ hZ zZ) zZ
      have kH7 := ((k5.trans (Keep.of uZ)).trans k6).trans k7
      -- variables
      refine ⟨_, rfl, a, c, m + 20, 9, rfl, by decide, s7.mono (by omega), fun pN N9 H8 lN nN ndN ntN hN s8 k8 => ?_⟩
      have t8 := k8 _ _ t7 ta
      have z8 := k8 _ _ z7 zZ
      have c8 := k8 _ _ hC zC
      have kH8 := kH7.trans k8
      refine ⟨pN, rfl, ⟨_, SqL.of hN⟩, fun DV nDV => ?_⟩
      have zV := s8.ne nDV
      refine lc_list (K := K) (a := pN) (xs := N9.map V.str) (fun j H9 => Same H8 H9 ∧ H9 DV = some (.lst (((N9.take j).map fun y => Str.ofString "?" ++ y).map V.str)))
        ⟨same_new nDV, upd_same⟩ (fun j H9 _ h9 => h9.1.seq (SqL.of hN)) ?_ ?_
      · rintro j v H9 hj ⟨s9, hDV⟩
        rw [List.getElem?_map] at hj
        cases eb : N9[j]? with
        | none =>
          rw [eb] at hj
          cases hj
        | some y =>
          rw [eb] at hj
          cases hj
          refine ⟨rfl, ?_⟩
          dsimp only [tYes]
          rw [if_pos rfl]
          have ny := nN y (List.mem_of_getElem? eb)
          obtain ⟨_, l12, _⟩ := nm_sgns ny
          have ly := length_toList y
          refine ⟨_, rfl, _, _, rfl, rfl, ?_, _, hDV, ?_, fun b o e => ?_, ?_⟩
          · have e1 : (Str.ofString "?").length = 1 := by decide +kernel
            rw [e1, sizeLine_eq]
            omega
          · rw [List.length_map, List.length_map, List.length_take, lN, sizeLine_eq]
            omega
          · rw [upd_ne (ne_of_none e nDV)]
            exact s9 b o e
          · rw [upd_same, List.take_add_one, eb]
            simp
      · rintro H9 ⟨s9, hDV⟩
        rw [List.length_map, List.take_of_length_le (Nat.le_refl _)] at hDV
        have t9 := s9 _ _ t8
        have z9 := s9 _ _ z8
        have c9 := s9 _ _ c8
        have sr9 := s8.same s9
        have kH9 := kH8.trans (Keep.of s9)
        -- rows
        refine ⟨_, rfl, t, _, rfl, .inl (SqL.of t9), _, rfl, by rw [lS]; omega, by rw [lS]; omega, fun DR nDR => ?_⟩
        have tn2 : (((L.map V.str).length : Int)).toNat = 2 + j1 := by rw [lS]; omega
        rw [tn2]
        have zR := sr9.ne nDR
        refine lc_range (lo := 0) (n := 2 + j1) (fun j H10 => ∃ rows : List (Addr × Str × Nat), rows.length = j ∧ Same H9 H10 ∧ H10 DR = some (.lst (rows.map fun x => V.ref x.1)) ∧
          ∀ x ∈ rows, H10 x.1 = some (.tup [.str x.2.1, .int (x.2.2 : Nat)]) ∧ Nm x.2.1 ∧ x.2.2 ≤ 3 ∧ x.1 ≠ a ∧ x.1 ≠ DR)
          ⟨[], rfl, same_new nDR, upd_same, fun _ z => by cases z⟩ ?_ ?_
        · rintro j H10 hj ⟨rows, lR, s10, hDR, all⟩
          refine ⟨rfl, ?_⟩
          dsimp only [tYes]
          rw [if_pos rfl]
          have e0 : (0 : Int) + (j : Int) = (j : Int) := by omega
          rw [e0]
          have jL : j < L.length := by omega
          have jZ : j < (2 :: Z).length := by simp; omega
          refine ⟨_, rfl, _, rfl, t, _, _, _, rfl, rfl, SqL.of (s10 _ _ t9), atI_nat (strs_get jL), _, rfl, _, rfl, pZ, _, _, _, rfl, rfl, SqL.of (s10 _ _ z9), atI_nat (ints_get jZ), (by show 2 ≤ sizeLine; decide), fun pt npt => ?_⟩
          have upt := same_new (o := .tup [V.str L[j], V.int (((2 :: Z)[j] : Nat) : Int)]) npt
          have zpt : pt ≠ a := (sr9.same s10).ne npt
          have zDR : pt ≠ DR := (ne_of_none hDR npt).symm
          have z3 : (2 :: Z)[j] ≤ 3 := by
            have hm : (2 :: Z)[j] ∈ (2 :: Z) := List.getElem_mem jZ
            rcases List.mem_cons.mp hm with e | e
            · rw [e]
              decide
            · exact Z3 _ e
          refine ⟨_, upt _ _ hDR, ?_, rows ++ [(pt, L[j], (2 :: Z)[j])], by simp [lR], fun b o e => ?_, by rw [upd_same]; simp, fun x hx => ?_⟩
          · rw [List.length_map, lR, sizeLine_eq]
            omega
          · rw [upd_ne (ne_of_none e nDR)]
            exact upt _ _ (s10 b o e)
          · rcases List.mem_append.mp hx with hx | hx
            · obtain ⟨h1, h2, h3, h4, h5⟩ := all x hx
              exact ⟨by rw [upd_ne h5]; exact upt _ _ h1, h2, h3, h4, h5⟩
            · have e : x = (pt, L[j], (2 :: Z)[j]) := by simpa using hx
              rw [e]
              exact ⟨by rw [upd_ne zDR]; exact upd_same, nL _ (List.getElem_mem jL), z3, zpt, zDR⟩
        · rintro H10 ⟨rows, lR, s10, hDR, all⟩
          have sr10 := sr9.same s10
          -- the return
          have fin : ∀ (H11 : Hp) (rows' : List (Addr × Str × Nat)), 1 ≤ rows'.length → rows'.length ≤ 9 → H11 DR = some (.lst (rows'.map fun x => V.ref x.1)) →
              (∀ x ∈ rows', H11 x.1 = some (.tup [.str x.2.1, .int (x.2.2 : Nat)]) ∧ Nm x.2.1 ∧ x.2.2 ≤ 3 ∧ x.1 ≠ a) → H11 pC = some (.lst (C.map V.str)) →
              H11 DV = some (.lst ((N9.map fun y => Str.ofString "?" ++ y).map V.str)) → SrcAt H11 a c m → Keep a H H11 →
              ∀ p, H11 p = none → Q (.ref p) (upd H11 p (.lst [.ref DR, .ref pC, .ref DV])) := by
            intro H11 rows' l1 l9 hR allR hC11 hV11 s11 k11 p np
            have up := same_new (o := .lst [V.ref DR, V.ref pC, V.ref DV]) np
            refine k p ⟨DR, pC, DV, rows', C, N9.map fun y => Str.ofString "?" ++ y⟩ _ ⟨upd_same, up _ _ hR, fun x hx => let ⟨h1, h2, h3, h4⟩ := allR x hx; ⟨up _ _ h1, h2, h3, h4⟩, l1, l9, up _ _ hC11, nC, by rw [lC]; omega, by rw [lC]; omega, up _ _ hV11, fun z hz => ?_, by simp [lN], s11.ne np, zR, zC, zV⟩ (s11.same up) (k11.trans (Keep.of up))
            obtain ⟨y, hy, rfl⟩ := List.mem_map.mp hz
            exact ⟨y, nN y hy, rfl⟩
          -- if draw(3) == 0
          refine ⟨_, rfl, a, c, m + 10, 3, rfl, sr10.mono (by omega), by decide, by decide, fun r5 H11 r50 r51 s11 k11 => ⟨rfl, _, rfl, ?_⟩⟩
          have hR11 := k11 _ _ hDR zR
          have c11 := k11 _ _ (s10 _ _ c9) zC
          have v11 := k11 _ _ (s10 _ _ hDV) zV
          have t11 := k11 _ _ (s10 _ _ t9) ta
          have kH11 := (kH9.trans (Keep.of s10)).trans k11
          refine ite2 (fun _ => ?_) (fun _ => ?_)
          · have L0 : 0 < L.length := by omega
            refine ⟨_, rfl, .inl ⟨rfl, _, .inl (.inl hR11)⟩, ?_⟩
            refine ⟨_, rfl, t, _, 0, _, rfl, rfl, SqL.of t11, atI_nat (j := 0) (strs_get L0), (by show 4 ≤ sizeLine; decide), fun p4 n4 => ?_⟩
            have u4 := same_new (o := .lst [V.int 1, V.int 3, V.int 0, V.int 1]) n4
            have z4 := s11.ne n4
            refine ⟨_, rfl, a, c, m + 5, 4, rfl, (s11.same u4).mono (by omega), by decide, by decide, fun r6 H12 r60 r61 s12 k12 => ?_⟩
            obtain ⟨n, en, n3⟩ := menu4 r60 r61
            refine ⟨p4, _, _, _, rfl, rfl, SqL.of (k12 _ _ upd_same z4), en, (by show 2 ≤ sizeLine; decide), fun pt npt => ?_⟩
            have upt := same_new (o := .tup [V.str L[0], V.int (n : Int)]) npt
            have zpt := s12.ne npt
            have hR12 := k12 _ _ (u4 _ _ hR11) zR
            have zDR : pt ≠ DR := (ne_of_none hR12 npt).symm
            refine ⟨DR, _, _, rfl, rfl, upt _ _ hR12, ?_, ?_⟩
            · rw [List.length_map, lR, sizeLine_eq]
              omega
            · have ks : Keep DR (upd H12 pt (.tup [V.str L[0], V.int (n : Int)])) (upd (upd H12 pt (.tup [V.str L[0], V.int (n : Int)])) DR (.lst (rows.map (fun x => V.ref x.1) ++ [V.ref pt]))) := fun b o e nb => by
                rw [upd_ne nb]
                exact e
              have aDR : a ≠ DR := zR.symm
              refine ⟨_, rfl, _, rfl, _, rfl, (by show 3 ≤ sizeLine; decide), fin _ (rows ++ [(pt, L[0], n)]) (by simp) (by simp [lR]; omega) (by rw [upd_same]; simp) (fun x hx => ?_) ?_ ?_ ?_ ?_⟩
              · rcases List.mem_append.mp hx with hx | hx
                · obtain ⟨h1, h2, h3, h4, h5⟩ := all x hx
                  exact ⟨ks _ _ (upt _ _ (k12 _ _ (u4 _ _ (k11 _ _ h1 h4)) h4)) h5, h2, h3, h4⟩
                · have e : x = (pt, L[0], n) := by simpa using hx
                  rw [e]
                  exact ⟨ks _ _ upd_same zDR, nL _ (List.getElem_mem L0), n3, zpt⟩
              · exact ks _ _ (upt _ _ (k12 _ _ (u4 _ _ c11) zC)) (ne_of_none (s10.trans (Same.refl _) |> fun _ => c9) nDR)
              · exact ks _ _ (upt _ _ (k12 _ _ (u4 _ _ v11) zV)) (ne_of_none hDV nDR)
              · obtain ⟨d, nn, e, g, bb⟩ := s12.same upt
                exact ⟨d, nn, ks _ _ e aDR, by omega, bb⟩
              · have k13 := (kH11.trans (Keep.of u4)).trans (k12.trans (Keep.of upt))
                intro b o e nb
                have nD' : b ≠ DR := ne_of_none (kH9 b o e nb) nDR
                exact ks _ _ (k13 b o e nb) nD'
          · refine ⟨_, rfl, _, rfl, _, rfl, (by show 3 ≤ sizeLine; decide), fin _ rows (by omega) (by omega) hR11 (fun x hx => ?_) c11 v11 (s11.mono (by omega)) kH11⟩
            obtain ⟨h1, h2, h3, h4, h5⟩ := all x hx
            exact ⟨k11 _ _ h1 h4, h2, h3, h4⟩
end
end L2.LawH
set_option Elab.async false
set_option linter.all false
set_option maxRecDepth 100000
set_option maxHeartbeats 4000000
/-! The helpers of the laws: terms, patterns, lots. -/
namespace L2.LawH
open PySem PySem.Spec PyProof.Rows
open Builtin.Int (intBits)
abbrev sTerm : Stmt := top 23
abbrev sPat : Stmt := top 24
abbrev sLot : Stmt := top 25
/-! ### texts that can be compared -/
theorem ok_list {z : Str} (h : ∀ c ∈ z.cps.toList, c < 0x110000) : PyData.strOk z = true := by
  unfold PyData.strOk
  rw [← Array.all_toList, List.all_eq_true]
  exact fun c hc => decide_eq_true (h c hc)
theorem sgn_small {c : Nat} (h : isSgn c = true) : c < 0x110000 := by
  simp only [isSgn, isLet, Bool.or_eq_true, Bool.and_eq_true, decide_eq_true_eq] at h
  omega
theorem Nm.strOk {z : Str} (h : Nm z) : PyData.strOk z = true := by
  obtain ⟨h1, _, _⟩ := nm_sgns h
  exact ok_list fun c hc => sgn_small (List.all_eq_true.mp h1 c hc)
theorem Vr.strOk {z : Str} (h : Vr z) : PyData.strOk z = true := by
  obtain ⟨y, ny, rfl⟩ := h
  obtain ⟨h1, _, _⟩ := nm_sgns ny
  refine ok_list fun c hc => ?_
  rw [toList_append] at hc
  rcases List.mem_append.mp hc with hc | hc
  · have e1 : (Str.ofString "?").cps.toList = [63] := by decide +kernel
    rw [e1] at hc
    have e : c = 63 := by simpa using hc
    omega
  · exact sgn_small (List.all_eq_true.mp h1 c hc)
theorem dp_strs {K : PySem.W.Frag} {H : Hp} : ∀ zs : List Str, DpAll K H (zs.map V.str) (zs.map PyData.str)
  | [] => .nil
  | z :: zs => .cons (.str z) (dp_strs zs)
theorem lay_strs : ∀ zs : List Str, (PyData.list (zs.map PyData.str)).canLay0 = (zs.all PyData.strOk)
  | [] => rfl
  | z :: zs => by
    have ih := lay_strs zs
    simp only [PyData.canLay0, PyData.canLayAll0, List.map_cons, List.all_cons] at ih ⊢
    rw [ih]
theorem depth_strs : ∀ zs : List Str, (PyData.list (zs.map PyData.str)).depth ≤ 2
  | [] => by decide
  | z :: zs => by
    have ih := depth_strs zs
    simp only [PyData.depth, PyData.depthAll, List.map_cons] at ih ⊢
    omega
theorem shaped_strs {zs : List Str} (h : ∀ z ∈ zs, PyData.strOk z = true) : SeqAt.shaped (.list (zs.map PyData.str)) = true := by
  unfold SeqAt.shaped
  rw [lay_strs, List.all_eq_true.mpr h, Bool.true_and]
  exact decide_eq_true (Nat.le_trans (depth_strs zs) (by decide))
theorem eqv_nil : ∀ zs : List Str, PyData.eqv (.list (zs.map PyData.str)) (.list []) = decide (zs = [])
  | [] => by decide
  | z :: zs => by simp [PyData.eqv, PyData.eqvAll]

/-- a list of variables at q -/
structure VarsAt (a : Addr) (H : Hp) (q : Addr) (W : List Str) : Prop where
  hq : H q = some (.lst (W.map V.str))
  all : ∀ z ∈ W, Vr z
  few : W.length ≤ 100
  nq : q ≠ a
theorem VarsAt.keep {a : Addr} {H H' : Hp} {q : Addr} {W : List Str} (h : VarsAt a H q W) (k : Keep a H H') : VarsAt a H' q W := ⟨k _ _ h.hq h.nq, h.all, h.few, h.nq⟩
def spTerm : Sp := fun vs H Q _ => ∃ (a p q : Addr) (c : Int) (m : Nat) (sh : Int) (π : Pool) (W : List Str), vs = [.ref a, .ref p, .ref q, .int sh] ∧ SrcAt H a c (m + 3) ∧ PoolAt a H p π ∧ VarsAt a H q W ∧
  ∀ (z : Str) (H' : Hp), (z ∈ π.C ∨ z ∈ W) → SrcAt H' a c m → Keep a H H' → Q (.str z) H'
/-- a pattern over a pool and variables -/
structure PatOf (π : Pool) (W : List Str) (T : Str) (zs : List Str) : Prop where
  tab : ∃ x ∈ π.rows, x.2.1 = T ∧ zs.length = x.2.2
  trm : ∀ z ∈ zs, z ∈ π.C ∨ z ∈ W
def spPat : Sp := fun vs H Q _ => ∃ (a p q : Addr) (c : Int) (m : Nat) (sh : Int) (π : Pool) (W : List Str), vs = [.ref a, .ref p, .ref q, .int sh] ∧ SrcAt H a c (m + 20) ∧ PoolAt a H p π ∧ VarsAt a H q W ∧
  ∀ (t : Addr) (T : Str) (zs : List Str) (H' : Hp), PatOf π W T zs → H' t = some (.tup (.str T :: zs.map V.str)) → t ≠ a → SrcAt H' a c m → Keep a H H' → Q (.ref t) H'
section
variable {P : Program} {w : World} {K : PySem.W.Frag} {mg : Str → Option Value} {base : Heap}
abbrev nTerm : List Str := ["_law_source_here", "_law_pool_here", "_law_variables", "_law_share"]
theorem scT : FnScope nTerm nTerm (defScope sTerm) := ⟨rfl, rfl, rfl, by decide +kernel, rfl, by decide +kernel, by decide +kernel⟩
theorem ok_term {f fD : Addr} {fd fdD : FuncData} (F : Fun K "_law_term" "_law_term" sTerm f fd)
    (GD : FnOk P w K mg base CX0 1 fD fdD ["_law_source_here", "_law_limit"] spDraw) (kD : PySem.W.keepIn K (.ref fD) = true) (bD : Binds K fdD ["_law_source_here", "_law_limit"] []) (mD : mg "_law_draw" = some (.ref fD))
    (ml : mg "len" = none) : FnOk P w K mg base CX0 2 f fd nTerm spTerm := by
  refine F.ok scT (fun vs H Q E h => ?_) (fun cdv A outer s H vs Q E hr h => ?_)
  · obtain ⟨a, p, q, c, m, sh, π, W, rfl, _⟩ := h
    rfl
  · obtain ⟨a, p, q, c, m, sh, π, W, rfl, hs, hp, hv, k⟩ := h
    have hr1 : Room 1 _ := hr.mono (by decide)
    have hu := hr.units
    refine ⟨_, pss_cons (ps_if (PW.pt (pw_and (pt_cmpR (op_neD hu) (pv 2) (pe_lst pa_nil) (nomark _)) (pw_and1 (pt_cmpR op_lt (pe_call GD hr1 (by rfl) mD kD bD .nil pass0 (pa_cons (pv 0) (pa_cons pe_int pa_nil))) (pv 3) (nomark _)))))
        (pss_one (ps_ret (pe_ix ix_list (pv 2) (pe_call GD hr1 (by rfl) mD kD bD .nil pass0 (pa_cons (pv 0) (pa_cons (pe_callB call_len_seq (by rfl) ml (by decide +kernel) (pa_cons (pv 2) pa_nil)) pa_nil))) (fun _ _ => rfl)))) pss_nil)
      (pss_one (ps_ret (pe_ix ix_list (pe_ix ix_list (pv 1) pe_int (fun _ _ => rfl)) (pe_call GD hr1 (by rfl) mD kD bD .nil pass0 (pa_cons (pv 0) (pa_cons (pe_callB call_len_seq (by rfl) ml (by decide +kernel) (pa_cons (pe_ix ix_list (pv 1) pe_int (fun _ _ => rfl)) pa_nil)) pa_nil))) (fun _ _ => rfl)))), ?_⟩
    -- the second way
    have snd : ∀ H1, SrcAt H1 a c (m + 1) → Keep a H H1 → ∀ σ : List (Option V), σ = [some (.ref a), some (.ref p), some (.ref q), some (.int sh)] →
        tRet (tOp (rIxL K) (tOp (rIxL K) (tVar 1) (tC (.int 1))) (tCall spDraw [] E0 (tCons (tVar 0) (tCons (tCB (fun xs H Q => ∃ p ys, xs = [.ref p] ∧ (SqL K H p ys ∨ SqT K H p ys) ∧ Q (.int ys.length) H) (tCons (tOp (rIxL K) (tVar 1) (tC (.int 1))) tNil)) tNil))))
          { nx := fun _ H' => Q .non H', rt := Q } σ H1 := by
      rintro H1 s1 k1 σ rfl
      have p1 := hp.keep k1
      have lC : (π.C.map V.str).length = π.C.length := List.length_map _
      have c2 := π.C.length
      refine ⟨_, rfl, p, _, 1, _, rfl, rfl, SqL.of p1.hp, rfl, _, rfl, _, rfl, p, _, 1, _, rfl, rfl, SqL.of p1.hp, rfl, π.cs, _, rfl, .inl (SqL.of p1.hc), ?_⟩
      refine ⟨a, c, m, _, rfl, s1, by rw [lC]; have := hp.C2; omega, by rw [lC]; have := hp.C9; omega, fun r H2 r0 r1 s2 k2 => ?_⟩
      obtain ⟨j, rfl⟩ : ∃ j : Nat, r = j := ⟨r.toNat, by omega⟩
      rw [lC] at r1
      have hj : j < π.C.length := by omega
      exact ⟨π.cs, _, _, _, rfl, rfl, SqL.of (k2 _ _ p1.hc p1.nc), atI_nat (strs_get hj), k _ H2 (.inl (List.getElem_mem hj)) s2 (k1.trans k2)⟩
    refine ⟨_, rfl, (by show 0 ≤ sizeLine; decide), fun p0 n0 => ?_⟩
    have u0 := same_new (o := .lst []) n0
    have s0 := hs.same u0
    have hv0 := hv.keep (Keep.of u0)
    refine ⟨_, _, .lst (SqL.of hv0.hq) (dp_strs W), .lst (SqL.of upd_same) .nil, shaped_strs fun z hz => (hv.all z hz).strOk, by decide, _, rfl, ?_⟩
    rw [eqv_nil]
    by_cases e : W = []
    · rw [decide_eq_true e]
      refine iteF ?_
      refine iteF ?_
      exact snd _ (s0.mono (by omega)) (Keep.of u0) _ rfl
    · rw [decide_eq_false e]
      refine iteT ?_
      refine ⟨_, rfl, a, c, m + 2, 6, rfl, s0, by decide, by decide, fun r H1 r0 r1 s1 k1 => ?_⟩
      have hv1 := hv0.keep k1
      refine ⟨_, rfl, _, _, rfl, rfl, _, rfl, ?_⟩
      refine ite2 (fun _ => ?_) (fun _ => ?_)
      · have lW : (W.map V.str).length = W.length := List.length_map _
        have W0 : 0 < W.length := List.length_pos_iff.mpr e
        refine ⟨_, rfl, _, rfl, _, rfl, q, _, rfl, .inl (SqL.of hv1.hq), ?_⟩
        refine ⟨a, c, m + 1, _, rfl, s1, by rw [lW]; omega, by rw [lW]; have := hv.few; omega, fun r2 H2 r20 r21 s2 k2 => ?_⟩
        obtain ⟨j, rfl⟩ : ∃ j : Nat, r2 = j := ⟨r2.toNat, by omega⟩
        rw [lW] at r21
        have hj : j < W.length := by omega
        exact ⟨q, _, _, _, rfl, rfl, SqL.of (k2 _ _ hv1.hq hv.nq), atI_nat (strs_get hj), k _ H2 (.inr (List.getElem_mem hj)) (s2.mono (by omega)) (((Keep.of u0).trans k1).trans k2)⟩
      · exact snd _ (s1.mono (by omega)) ((Keep.of u0).trans k1) _ rfl
abbrev nPat : List Str := ["_law_source_here", "_law_pool_here", "_law_variables", "_law_share", "_law_table", "_law_size", "_law_k"]
theorem scPt : FnScope nPat nTerm (defScope sPat) := ⟨rfl, rfl, rfl, by decide +kernel, rfl, by decide +kernel, by decide +kernel⟩
theorem ok_pat {f fD fT : Addr} {fd fdD fdT : FuncData} (F : Fun K "_law_pattern" "_law_pattern" sPat f fd)
    (GD : FnOk P w K mg base CX0 1 fD fdD ["_law_source_here", "_law_limit"] spDraw) (kD : PySem.W.keepIn K (.ref fD) = true) (bD : Binds K fdD ["_law_source_here", "_law_limit"] []) (mD : mg "_law_draw" = some (.ref fD))
    (GT : FnOk P w K mg base CX0 2 fT fdT nTerm spTerm) (kT : PySem.W.keepIn K (.ref fT) = true) (bT : Binds K fdT nTerm []) (mT : mg "_law_term" = some (.ref fT))
    (ml : mg "len" = none) (mr : mg "range" = none) (mt : mg "tuple" = none) : FnOk P w K mg base CX0 3 f fd nTerm spPat := by
  refine F.ok scPt (fun vs H Q E h => ?_) (fun cdv A outer s H vs Q E hr h => ?_)
  · obtain ⟨a, p, q, c, m, sh, π, W, rfl, _⟩ := h
    rfl
  · obtain ⟨a, p, q, c, m, sh, π, W, rfl, hs, hp, hv, k⟩ := h
    have hr1 : Room 1 _ := hr.mono (by decide)
    refine ⟨_, pss_cons (ps_asg (pe_ix ix_list (pe_ix ix_list (pv 1) pe_int (fun _ _ => rfl)) (pe_call GD hr1 (by rfl) mD kD bD .nil pass0 (pa_cons (pv 0) (pa_cons (pe_callB call_len_seq (by rfl) ml (by decide +kernel) (pa_cons (pe_ix ix_list (pv 1) pe_int (fun _ _ => rfl)) pa_nil)) pa_nil))) (fun _ _ => rfl))
        (pg_tup (by rfl) (pgs_cons (pg_name (i := 4) scPt.nd rfl (Or.inl rfl)) (pgs_cons (pg_name (i := 5) scPt.nd rfl (Or.inl rfl)) pgs_nil))))
      (pss_one (ps_ret (pe_callTy call_tuple_of (by rfl) mt (by decide +kernel) (pa_cons (pe_op op_cat (pe_lst (pa_cons (pv 4) pa_nil))
        (pe_lc (own := [("_law_k", 6)]) (g := gName 6) (tt := tYes) rfl scPt.nd (pi_range1 (by rfl) mr (pa_cons (pv 5) pa_nil))
          (blkOk_by (own := [("_law_k", 6)]) (N := nPat) (sc := defScope sPat) (by decide +kernel)) (fun _ _ _ _ _ => pg_name (i := 6) scPt.nd rfl (Or.inl rfl)) (fun _ _ _ _ _ => pts_nil)
          (fun _ _ _ _ _ => pe_call GT hr (by rfl) mT kT bT .nil pass0 (pa_cons (pv 0) (pa_cons (pv 1) (pa_cons (pv 2) (pa_cons (pv 3) pa_nil))))))) pa_nil)))), ?_⟩
    have lR : (π.rows.map fun x => V.ref x.1).length = π.rows.length := List.length_map _
    refine ⟨_, rfl, p, _, 0, _, rfl, rfl, SqL.of hp.hp, rfl, _, rfl, _, rfl, p, _, 0, _, rfl, rfl, SqL.of hp.hp, rfl, π.r, _, rfl, .inl (SqL.of hp.hr), ?_⟩
    refine ⟨a, c, m + 19, _, rfl, hs, by rw [lR]; have := hp.rows1; omega, by rw [lR]; have := hp.rows9; omega, fun r H1 r0 r1 s1 k1 => ?_⟩
    obtain ⟨j, rfl⟩ : ∃ j : Nat, r = j := ⟨r.toNat, by omega⟩
    rw [lR] at r1
    have hj : j < π.rows.length := by omega
    have hp1 := hp.keep k1
    have hv1 := hv.keep k1
    have hx : (π.rows.map fun x => V.ref x.1)[j]? = some (.ref π.rows[j].1) := by
      rw [List.getElem?_map, List.getElem?_eq_getElem hj]
      rfl
    have mx : π.rows[j] ∈ π.rows := List.getElem_mem hj
    obtain ⟨t1, nT, n3, nx⟩ := hp1.hrow _ mx
    refine ⟨π.r, _, _, _, rfl, rfl, SqL.of hp1.hr, atI_nat hx, _, _, rfl, SqT.of t1, rfl, _, _, rfl, _, _, rfl, rfl, ?_⟩
    -- tuple([table] + [..])
    refine ⟨_, rfl, (by show 1 ≤ sizeLine; decide), fun pA nA => ?_⟩
    have uA := same_new (o := .lst [V.str π.rows[j].2.1]) nA
    have zA := s1.ne nA
    refine ⟨_, rfl, _, rfl, by omega, by omega, fun D nD => ?_⟩
    have sA := s1.same uA
    have zD := sA.ne nD
    rw [Int.toNat_natCast]
    refine lc_range (lo := 0) (n := π.rows[j].2.2) (fun i H5 => ∃ zs : List Str, zs.length = i ∧ (∀ z ∈ zs, z ∈ π.C ∨ z ∈ W) ∧ H5 D = some (.lst (zs.map V.str)) ∧ SrcAt H5 a c (m + 19 - 3 * i) ∧ Keep a H H5 ∧ H5 pA = some (.lst [V.str π.rows[j].2.1]))
      ⟨[], rfl, fun _ z => (by cases z), upd_same, sA.same (same_new nD), (k1.trans (Keep.of uA)).trans (Keep.of (same_new nD)), (same_new nD) _ _ upd_same⟩ ?_ ?_
    · rintro i H5 hi ⟨zs, lz, hz, hD, s5, k5, a5⟩
      refine ⟨rfl, ?_⟩
      dsimp only [tYes]
      rw [if_pos rfl]
      have s5' : SrcAt H5 a c (m + 19 - 3 * (i + 1) + 3) := s5.mono (by omega)
      refine ⟨_, rfl, _, rfl, _, rfl, _, rfl, a, p, q, c, m + 19 - 3 * (i + 1), sh, π, W, rfl, s5', hp.keep k5, hv.keep k5, fun z H6 hz6 s6 k6 => ?_⟩
      refine ⟨_, k6 _ _ hD zD, ?_, zs ++ [z], by simp [lz], fun y hy => ?_, by rw [upd_same]; simp, ?_, ?_, ?_⟩
      · rw [List.length_map, lz, sizeLine_eq]
        omega
      · rcases List.mem_append.mp hy with hy | hy
        · exact hz y hy
        · have e : y = z := by simpa using hy
          rw [e]
          exact hz6
      · obtain ⟨d, nn, e, g⟩ := s6
        exact ⟨d, nn, by rw [upd_ne zD.symm]; exact e, g⟩
      · intro b o e nb
        have hb : b ≠ D := ne_of_none ((k1.trans (Keep.of uA)) b o e nb) nD
        rw [upd_ne hb]
        exact (k5.trans k6) b o e nb
      · have aD : pA ≠ D := ne_of_none (upd_same (H := H1) (o := .lst [V.str π.rows[j].2.1])) nD
        rw [upd_ne aD]
        exact k6 _ _ a5 zA
    · rintro H5 ⟨zs, lz, hz, hD, s5, k5, a5⟩
      refine ⟨pA, D, _, _, rfl, rfl, a5, hD, ?_, fun pL nL => ?_⟩
      · rw [List.length_map, lz, sizeLine_eq]
        show 1 + _ ≤ _
        omega
      have uL := same_new (o := .lst ([V.str π.rows[j].2.1] ++ zs.map V.str)) nL
      refine ⟨pL, _, rfl, .inl ⟨SqL.of upd_same, fun pt npt => ?_⟩⟩
      have ut := same_new (o := .tup ([V.str π.rows[j].2.1] ++ zs.map V.str)) npt
      have s6 := (s5.same uL).same ut
      exact k pt _ zs _ ⟨⟨_, mx, rfl, lz⟩, hz⟩ upd_same ((s5.same uL).ne npt) (s6.mono (by omega)) ((k5.trans (Keep.of uL)).trans (Keep.of ut))
end
end L2.LawH
set_option Elab.async false
set_option linter.all false
set_option maxRecDepth 100000
set_option maxHeartbeats 4000000
/-! Sets whose members have a key (texts, numbers): what they hold, in any order; adding; walking them; sorting sets of texts. -/
namespace L2.GSet
open PySem PySem.Spec PyProof.Rows
section
variable {P : Program} {w : World} {κ : Type} [DecidableEq κ]
/-- a set's payload holds the keys ks, and its table can be walked -/
structure Pay (kd : PySem.KeyKind P w κ) (key : Value → κ) (es : Array (Int × Value)) (t : SetTable) (ks : List κ) : Prop where
  el : ElemsOf kd es.toList
  pm : (es.toList.map fun e => key e.2).Perm ks
  few : es.size < scanBound
  fit : t.fits es.size = true
  ris : Ris t.place.toList
  led : w.params.followText "set-order" = true ∨ t.led = true
def GAt (kd : PySem.KeyKind P w κ) (key : Value → κ) (h : Heap) (a : Addr) (ks : List κ) : Prop :=
  ∃ o es ep t, h.get? a = some o ∧ o.ExactSet ∧ o.data = .set es ep t ∧ Pay kd key es t ks
variable {kd : PySem.KeyKind P w κ} {key : Value → κ} {es : Array (Int × Value)} {t : SetTable} {ks : List κ} {h h' : Heap} {a : Addr}
theorem GAt.keep (R : GAt kd key h a ks) (k : ∀ o, h.get? a = some o → h'.get? a = some o) : GAt kd key h' a ks :=
  let ⟨o, es, ep, t, ho, r⟩ := R
  ⟨o, es, ep, t, k o ho, r⟩
theorem GAt.some (R : GAt kd key h a ks) : ∃ o, h.get? a = some o := let ⟨o, _, _, _, ho, _⟩ := R; ⟨o, ho⟩
theorem Pay.size (p : Pay kd key es t ks) : es.size = ks.length := by
  have q := p.pm.length_eq
  rwa [List.length_map, Array.length_toList] at q
theorem Pay.is (hk : ∀ k v, kd.is k v = true → key v = k) (p : Pay kd key es t ks) {e : Int × Value} (he : e ∈ es.toList) (k : κ) : kd.is k e.2 = true ↔ key e.2 = k := by
  obtain ⟨⟨k', i, _⟩, _⟩ := p.el e he
  refine ⟨hk k _, fun z => ?_⟩
  rw [← z, hk k' _ i]
  exact i
theorem Pay.mem (hk : ∀ k v, kd.is k v = true → key v = k) (p : Pay kd key es t ks) (k : κ) : k ∈ ks ↔ ∃ e ∈ es.toList, kd.is k e.2 = true := by
  rw [← p.pm.mem_iff, List.mem_map]
  exact ⟨fun ⟨e, m, q⟩ => ⟨e, m, (p.is hk m k).2 q⟩, fun ⟨e, m, q⟩ => ⟨e, m, (p.is hk m k).1 q⟩⟩
end
section
variable {P : Program} {w : World} {κ : Type} [DecidableEq κ] {kd : PySem.KeyKind P w κ} {key : Value → κ} {A : Around} {E : Value → Shared → Prop} {s : Shared} {a : Addr} {ks : List κ}
/-- laying the payload down, with the growing behind it -/
theorem lay_down {grow : Bool → Sem Unit} (hgrow : ∀ (b : Bool) (s1 : Shared) (C : Unit → Shared → Prop), C () s1 → wpAny (model P w) A (grow b) C E s1)
    {o : Obj} {es0 es : Array (Int × Value)} {ep : Nat} {t0 t : SetTable} (ho : s.heap.get? a = some o) (ox : o.ExactSet) (od : o.data = .set es0 ep t0) (p : Pay kd key es t ks) {wd : Bool} {R : Option Bool → Shared → Prop}
    (hR : ∀ h', Heap.SameBut a s.heap h' → GAt kd key h' a ks → R (some true) { s with heap := h' }) :
    wpAny (model P w) A (do
        storeSet a es t
        if (!wd && t.tooFull) = true then do
            grow (relayAll t es (SetTable.grown es.size)).2.2
            storeSet a (relayAll t es (SetTable.grown es.size)).1 (relayAll t es (SetTable.grown es.size)).2.1
            pure (some true)
          else pure (some true)) R E s := by
  have b1 := Heap.SameBut.update s.heap a (Obj.putSet es t)
  have o1 := PpSet.storeB_at (es' := es) (t' := t) ho od
  refine wpAny_bind (wpAny_storeSet_of ho od ?_ (fits_of_scanBound p.few))
  split
  · have q1 := relayAll_perm t es (SetTable.grown es.size)
    have q2 := relayAll_fits t es (SetTable.grown es.size)
    have q3 := relayAll_ris t es (SetTable.grown es.size)
    have q4 := relayAll_led t es (SetTable.grown es.size)
    cases e : relayAll t es (SetTable.grown es.size) with
    | mk es2 rest =>
      obtain ⟨t2, gw⟩ := rest
      rw [e] at q1 q2 q3 q4
      have zz : es2.size = es.size := by
        have := q1.length_eq
        rwa [Array.length_toList, Array.length_toList] at this
      have p2 : Pay kd key es2 t2 ks := ⟨p.el.perm q1, (q1.map _).trans p.pm, by rw [zz]; exact p.few, q2, q3, p.led.imp id fun z => q4.trans z⟩
      have o2 := PpSet.storeB_at (es' := es2) (t' := t2) o1 rfl
      refine wpAny_bind (hgrow _ _ _ (wpAny_bind (wpAny_storeSet_of o1 rfl (wpAny_pure (hR _ (b1.trans (Heap.SameBut.update _ a _)) ⟨_, es2, _, t2, o2, ox, rfl, p2⟩)) (fits_of_scanBound p2.few))))
  · exact wpAny_pure (hR _ b1 ⟨_, es, _, t, o1, ox, rfl, p⟩)
theorem add_hashed (hk : ∀ k v, kd.is k v = true → key v = k) {k : κ} {x : Value} {Q : Bool → Shared → Prop} (hx : kd.is k x = true) (hsc : x.scannable = true) (R : GAt kd key s.heap a ks) (room : ks.length + 1 < scanBound)
    (hQ : ∀ b h', Heap.SameBut a s.heap h' → GAt kd key h' a (if k ∈ ks then ks else ks ++ [k]) → Q b { s with heap := h' }) :
    wpAny (model P w) A (setAddHashed a x (kd.hash k)) Q E s := by
  obtain ⟨o, es, ep, t, ho, ox, od, p⟩ := R
  unfold setAddHashed setAddHashedIn
  refine wpAny_holding (wpAny_bind (wpAny_setState_of ho od p.fit ?_))
  dsimp only
  rw [byScan_of hsc p.few p.el, if_pos rfl]
  unfold setAddByScan
  refine wpAny_bind (wpAny_bind (wpAny_rule (wpAny_bind (wpAny_setScan_of hx ho od p.fit p.el ?_))))
  cases fi : List.findIdx? (fun e => kd.is k e.2) es.toList with
  | some j =>
    obtain ⟨lj, ij, _⟩ := List.findIdx?_eq_some_iff_getElem.mp fi
    have mk : k ∈ ks := (p.mem hk k).2 ⟨_, List.getElem_mem lj, ij⟩
    have q := hQ false s.heap (Heap.SameBut.refl a s.heap) ⟨o, es, ep, t, ho, ox, od, by rw [if_pos mk]; exact p⟩
    exact wpAny_pure (wpAny_pure q)
  | none =>
    have mk : k ∉ ks := fun z => by
      obtain ⟨e, he, i⟩ := (p.mem hk k).1 z
      have c := List.findIdx?_eq_none_iff.mp fi e he
      rw [i] at c
      exact Bool.noConfusion c
    dsimp only
    have q1 := layNew_perm t es (kd.hash k) x
    have q2 := layNew_fits t es (kd.hash k) x
    have q3 := layNew_ris t es (kd.hash k) x p.ris
    have q4 := layNew_led t es (kd.hash k) x
    generalize layNew t es (kd.hash k) x = Z at q1 q2 q3 q4 ⊢
    obtain ⟨es1, t1, wd, gw⟩ := Z
    dsimp only at q1 q2 q3 q4 ⊢
    rw [Array.toList_push] at q1
    have zz : es1.size = ks.length + 1 := by
      have z := q1.length_eq
      rw [List.length_append, Array.length_toList, Array.length_toList, p.size] at z
      exact z
    have pay : ∀ t' : SetTable, t'.fits es1.size = true → Ris t'.place.toList → t'.led = t.led → Pay kd key es1 t' (ks ++ [k]) := fun t' f r l =>
      ⟨(p.el.push hx hsc).perm q1, by
        have z := q1.map fun e => key e.2
        rw [List.map_append, List.map_cons, List.map_nil, hk k x hx] at z
        exact z.trans (p.pm.append_right _), by rw [zz]; exact room, f, r, p.led.imp id fun z => l.trans z⟩
    have fin : ∀ h', Heap.SameBut a s.heap h' → GAt kd key h' a (ks ++ [k]) → Q true { s with heap := h' } := fun h' sb g => hQ true h' sb (by rw [if_neg mk]; exact g)
    have gives : ∀ (b : Bool) (s1 : Shared) (C : Unit → Shared → Prop), C () s1 → wpAny (model P w) A (match b with | true => rule "set.scan.the-table-gave-way" | false => pure ()) C E s1 := fun b s1 C q => by
      cases b
      · exact wpAny_pure q
      · exact wpAny_rule q
    refine wpAny_bind (gives _ _ _ ?_)
    split
    · refine wpAny_bind ?_
      rw [hashByValue_scannable 8 hsc]
      refine wpAny_pure (lay_down gives ho ox od (pay _ ?_ ?_ ?_) fun h' sb g => wpAny_pure (fin h' sb g))
      · split
        · exact q2
        · exact SetTable.fits_plain_off q2
      · split <;> exact q3
      · split <;> exact q4
    · refine wpAny_bind (wpAny_pure ?_)
      simp only [↓reduceIte]
      exact lay_down gives ho ox od (pay _ q2 q3 q4) fun h' sb g => wpAny_pure (fin h' sb g)
/-- a.add(x) -/
theorem add_call (hk : ∀ k v, kd.is k v = true → key v = k) {k : κ} {x : Value} {Q : Value → Shared → Prop} (hx : kd.is k x = true) (hsc : x.scannable = true) (R : GAt kd key s.heap a ks) (room : ks.length + 1 < scanBound)
    (hQ : ∀ h', Heap.SameBut a s.heap h' → GAt kd key h' a (if k ∈ ks then ks else ks ++ [k]) → Q .none { s with heap := h', toks := s.toks + 1 }) :
    wpAny (model P w) A (call (.builtin "set.add") [.ref a, x]) Q E s := by
  have ty : s.TypeIs (.ref a) "set" := by
    obtain ⟨o, es, ep, t, ho, ox, _⟩ := R
    exact ⟨o, ho, ox.1⟩
  refine wpAny_call_entry F.slot_set_add ty F.entry_set_add ?_ (F.args_set_add_2 _ _)
  unfold Builtin.«set.add» Builtin.Frozenset.oneOther Builtin.Frozenset.addrOf setAdd
  simp only [List.isEmpty_nil, bind_assoc]
  refine wpAny_bind (wpAny_pure (wpAny_bind (wpAny_pure (wpAny_bind (wpAny_holding (wpAny_bind (kd.pyHash hx ?_)))))))
  exact add_hashed (s := { s with toks := s.toks + 1 }) hk hx hsc R room fun b h' sb g => wpAny_pure ⟨_, rfl, hQ h' sb g⟩
theorem fresh (h : Heap) : GAt kd key (h.push { cls := .type "set", dict := none, data := .set #[] 0 (.fresh 0 0 (!w.params.followText "set-order")) }) h.objs.size [] := by
  refine ⟨_, #[], 0, _, Heap.get?_push_size _ rfl, ⟨rfl, rfl, rfl⟩, rfl, ⟨fun e z => by simp at z, .nil, by decide, rfl, List.Pairwise.nil, ?_⟩⟩
  show _ ∨ (!w.params.followText "set-order") = true
  cases w.params.followText "set-order"
  · exact .inr rfl
  · exact .inl rfl
end
end L2.GSet
set_option Elab.async false
set_option linter.all false
set_option maxRecDepth 100000
set_option maxHeartbeats 4000000
/-! Comprehensions of any kind with one or two `for`s, by what is laid ahead of them and what a turn's end does. -/
namespace L2.Cmp
open PySem PySem.Spec PyProof.Rows
/-- a turn's shape -/
def turnOf (tg : Expr) (ifs : List Expr) (p : Pos) (it : Value) (env : Env) (tail : Bool → Sem PySem.Fin) : Sem PySem.Fin := do
  standAt p
  match ← pyNext it with
  | none => pure (.done .next)
  | some v =>
    letOwnedTupleGo tg it v
    assign tg env v
    let ok ← forIn ifs true fun c r => if r = true then do let ok ← isTrue c env (eval c env); pure (ForInStep.yield ok) else pure (ForInStep.yield r)
    tail ok
/-- the innermost turn's end -/
def tailIn (em : Sem Unit) (cd : Code) : Bool → Sem PySem.Fin := fun ok => if ok = true then em >>= fun _ => again cd else again cd
/-- the outer one's: the second source is walked -/
def tailOut (node i1 : Expr) (acc : Value) (env : Env) (cd : Code) : Bool → Sem PySem.Fin := fun ok => if ok = true then do
    let x ← eval i1 env
    standAt i1.pos
    let x ← foldedSetIterable i1 env x
    let _ ← runOwn (.compStart node 1 (← holding [x] (pyIter x)) acc env) env
    again cd
  else again cd
/-- a set's, a list's or a dict's comprehension -/
def IsC (node : Expr) : Prop := (∃ e gs sc p, node = .SetComp e gs sc p) ∨ (∃ e gs sc p, node = .ListComp e gs sc p) ∨ ∃ k v gs sc p, node = .DictComp k v gs sc p
theorem IsC.den {prog : Program} {w : World} {node : Expr} (c : IsC node) (lvl : Nat) (it acc : Value) (env : Env) (A : Around) :
    (A.under (.compLoop node lvl it acc env) = A ∧ (model prog w).den (.compLoop node lvl it acc env) = (compTurn node lvl it acc env).onRaise (fun x => do noteFrame x env; theTreesLotGoes x) ∧ (Code.compLoop node lvl it acc env).quiet = true) ∧
    (A.under (.compStart node lvl it acc env) = A ∧ (model prog w).den (.compStart node lvl it acc env) = (compStart node lvl it acc env).onRaise (fun x => do noteFrame x env; standAt theWindowsPlace)) := by
  rcases c with ⟨e, gs, sc, p, rfl⟩ | ⟨e, gs, sc, p, rfl⟩ | ⟨k, v, gs, sc, p, rfl⟩ <;> exact ⟨⟨rfl, rfl, rfl⟩, rfl, rfl⟩
abbrev nil2 : Value → Shared → Prop := fun _ _ => False
theorem loop_any {prog : Program} {w : World} {A : Around} {R : Result → Shared → Prop} {s : Shared} {node : Expr} {lvl : Nat} {it acc : Value} {env : Env} (ic : IsC node) (Iv : Nat → Shared → Prop)
    (turn : ∀ n s, Iv n s → wpAny (model prog w) A (compTurn node lvl it acc env) (fun fin s' => match fin with | .done f => R (.ok f) s' | .again c' => c' = Code.compLoop node lvl it acc env ∧ ∃ m, m < n ∧ Iv m s') nil2 s)
    (n : Nat) (h : Iv n s) : codeAny (model prog w) A (.compLoop node lvl it acc env) R s := by
  obtain ⟨d1, d2, d3⟩ := (ic.den (prog := prog) (w := w) lvl it acc env A).1
  refine codeAny_loop d3 Iv (fun n s hI => ?_) n h
  rw [d1, d2]
  exact wpAny_noted (wpAny_mono (turn n s hI) (fun _ _ z => z) fun _ _ z => z.elim)
theorem start_any {prog : Program} {w : World} {A : Around} {R : Result → Shared → Prop} {s : Shared} {node tg iter : Expr} {ifs : List Expr} {lvl : Nat} {it acc : Value} {env : Env} (ic : IsC node) (hcl : (clausesOf node)[lvl]? = some ⟨tg, iter, ifs, 0⟩)
    (h0 : codeAny (model prog w) A (.compLoop node lvl it acc env) R s)
    (h : wpAny (model prog w) A (pyIter it) (fun it' s' => codeAny (model prog w) A (.compLoop node lvl it' acc env) R s') nil2 s) :
    codeAny (model prog w) A (.compStart node lvl it acc env) R s := by
  obtain ⟨d1, d2⟩ := (ic.den (prog := prog) (w := w) lvl it acc env A).2
  have qu : ∀ it', (Code.compLoop node lvl it' acc env).quiet = true := fun it' => (ic.den (prog := prog) (w := w) lvl it' acc env A).1.2.2
  refine codeAny_of_tree ?_
  rw [d1, d2]
  refine wpAny_notedAt ?_
  unfold compStart
  rw [hcl]
  show wpAny _ _ (ask >>= _) _ _ s
  refine wpAny_bind (wpAny_askSetting (wpAny_ite ?_))
  split
  · first
      | exact wpAny_bind (wpAny_pure (wpAny_pure (And.intro (qu _) h0)))
      | exact wpAny_pure (And.intro (qu _) h0)
  · refine wpAny_bind (wpAny_rule ?_)
    show wpAny _ _ (standAt iter.pos >>= _) _ _ s
    exact wpAny_bind (wpAny_standAt (wpAny_bind (wpAny_mono h (fun it' s' h' => wpAny_pure (And.intro (qu _) h')) fun _ _ z => z.elim)))
/-- what the end of a turn reaches from the slots σ: it forgets at most vs -/
def Past (B : Cx) (pins : List (Addr × Obj)) (vs : List Nat) (σ : List (Option V)) (C : Hp → Prop) (s' : Shared) : Prop :=
  ∃ σ' H', Inv B pins σ' H' s' ∧ σ'.length = σ.length ∧ (∀ (j : Nat) v, j ∉ vs → σ[j]? = some (some v) → σ'[j]? = some (some v)) ∧ C H'
abbrev TAc := List (Option V) → Hp → (Hp → Prop) → Prop
/-- the walk of one clause, as it is read -/
def Walk (J : It) (g : TG) (tt : TT) (ta : TAc) (vs : List Nat) (σ : List (Option V)) (Done : Hp → Prop) (H0 : Hp) : Prop :=
  ∃ W : Nat → Nat → Hp → Prop, (∃ m, W 0 m H0) ∧ ∀ i m H, W i m H → (J.stop i H ∧ Done H) ∨ (J.go i H ∧ ∃ Nx : Hp → Prop, (∀ H', Nx H' → ∃ m', m' < m ∧ W (i + 1) m' H') ∧
    ∀ x H', J.yld i H x H' → g x (wipe σ vs) H' fun σ2 H2 => wipe σ2 vs = wipe σ vs ∧ tt σ2 H2 fun b H3 => if b = true then ta σ2 H3 Nx else Nx H3)
section
variable {B : Cx} {pins : List (Addr × Obj)} {it : Addr} {fp : List Addr} {tn : Nat → Heap → Prop} {J : It} {vs : List Nat} {σ : List (Option V)} {tg : Expr} {ifs : List Expr} {g : TG} {tt : TT} {ta : TAc} {p : Pos} {tail : Bool → Sem PySem.Fin} {cd : Code}
theorem turn_ok (hx : B.xe = nil2) (hc : B.calm = true) (T : Turn B.prog B.w B.K tg J fp it tn) (pg : PG B tg g) (pt : PTs B ifs tt) (stat : ∀ H', (∀ b ∈ fp, H' b = none) → ∀ b ∈ fp, FpOk B pins H' b)
    (act : ∀ (pl : List (Addr × Obj)) s σ H C, Inv B pl σ H s → ta σ H C → wpAny (model B.prog B.w) B.A (tail true) (fun fin s' => fin = .again cd ∧ Past B pl vs σ C s') nil2 s) (no : tail false = again cd)
    {R : Result → Shared → Prop} {W : Nat → Nat → Hp → Prop} {Done : Hp → Prop} (hd : ∀ s' H', Inv B pins (wipe σ vs) H' s' → Done H' → R (.ok .next) s')
    (turn : ∀ i m H, W i m H → (J.stop i H ∧ Done H) ∨ (J.go i H ∧ ∃ Nx : Hp → Prop, (∀ H', Nx H' → ∃ m', m' < m ∧ W (i + 1) m' H') ∧
      ∀ x H', J.yld i H x H' → g x (wipe σ vs) H' fun σ2 H2 => wipe σ2 vs = wipe σ vs ∧ tt σ2 H2 fun b H3 => if b = true then ta σ2 H3 Nx else Nx H3)) (n : Nat) (s : Shared)
    (start : ∃ i H', Inv B pins (wipe σ vs) H' s ∧ tn i s.heap ∧ (∀ b ∈ fp, H' b = none) ∧ W i n H') :
    wpAny (model B.prog B.w) B.A (turnOf tg ifs p (.ref it) B.env tail) (fun fin s' => match fin with | .done f => R (.ok f) s' | .again c' => c' = cd ∧ ∃ m, m < n ∧ ∃ i H', Inv B pins (wipe σ vs) H' s' ∧ tn i s'.heap ∧ (∀ b ∈ fp, H' b = none) ∧ W i m H') nil2 s := by
  obtain ⟨i, H5, I5, st5, n5, w5⟩ := start
  unfold turnOf
  refine wpAny_bind (wpAny_standAt (wpAny_bind ?_))
  rcases turn i n H5 w5 with ⟨stop, dn⟩ | ⟨go, Nx, hNx, step⟩
  · refine thnF (T.done B rfl rfl rfl hc i pins s _ H5 nil2 I5 (stat _ n5) st5 stop) fun r s6 ⟨hr, I6⟩ => ?_
    subst hr
    exact wpAny_pure (hd _ _ I6 dn)
  · refine thnF (T.item B rfl rfl rfl hc i pins s _ H5 nil2 I5 (stat _ n5) st5 go) fun r s6 ⟨u, hr, h6⟩ => ?_
    subst hr
    refine wpAny_bind (thnF h6 fun _ s7 ⟨x, H7, I7, r7, y7, st7, n7⟩ => ?_)
    have a1 := pg.run _ s7 _ H7 x u _ (I7.pinned (stat _ n7) (T.obj _ _ st7)) r7 (step x H7 y7)
    rw [hx] at a1
    refine wpAny_bind (thnF a1 fun _ s8 ⟨σ8, H8, I8, hw8, q8⟩ => ?_)
    have a2 := pt.run _ s8 σ8 H8 _ I8 q8
    rw [hx] at a2
    refine wpAny_bind (thnF a2 fun b s9 ⟨H9, I9, q9⟩ => ?_)
    have fin : ∀ s', Past B (pins ++ pinsAt fp s7.heap) vs σ8 Nx s' → ∃ m, m < n ∧ ∃ i H', Inv B pins (wipe σ vs) H' s' ∧ tn i s'.heap ∧ (∀ b ∈ fp, H' b = none) ∧ W i m H' := by
      rintro s' ⟨σ', H', I', hl, hk, nx⟩
      obtain ⟨m, lt, wm⟩ := hNx H' nx
      have there : ∀ b ∈ fp, ∀ o, s7.heap.get? b = some o → s'.heap.get? b = some o ∧ H' b = none := fun b hb o e =>
        let z := I'.pin (b, o) (List.mem_append_right _ (List.mem_append_right _ (mem_pinsAt hb e)))
        ⟨z.1, z.2.1⟩
      refine ⟨m, lt, i + 1, H', I'.unpinned.weak ?_ ?_, T.keep _ _ _ st7 fun b hb o e => (there b hb o e).1, fun b hb => ?_, wm⟩
      · rw [hl, ← hw8, wipe_length]
      · intro j v e
        rw [← hw8] at e
        exact hk j v (wipe_some e).2 (wipe_some e).1
      · obtain ⟨o, e, _⟩ := T.obj _ _ st7 b hb
        exact (there b hb o e).2
    cases b with
    | false =>
      rw [no]
      exact wpAny_pure ⟨rfl, fin _ ⟨σ8, H9, I9, rfl, fun _ _ _ e => e, q9⟩⟩
    | true =>
      refine wpAny_mono (act _ s9 σ8 H9 _ I9 q9) (fun f s' z => ?_) fun _ _ z => z.elim
      obtain ⟨rfl, pa⟩ := z
      exact ⟨rfl, fin _ pa⟩
/-- the whole loop of a clause -/
theorem clause_ok {node : Expr} {lvl : Nat} {acc : Value} (ic : IsC node) (ht : compTurn node lvl (.ref it) acc B.env = turnOf tg ifs p (.ref it) B.env tail) (hcd : cd = .compLoop node lvl (.ref it) acc B.env)
    (hx : B.xe = nil2) (hc : B.calm = true) (T : Turn B.prog B.w B.K tg J fp it tn) (pg : PG B tg g) (pt : PTs B ifs tt) (stat : ∀ H', (∀ b ∈ fp, H' b = none) → ∀ b ∈ fp, FpOk B pins H' b)
    (act : ∀ (pl : List (Addr × Obj)) s σ H C, Inv B pl σ H s → ta σ H C → wpAny (model B.prog B.w) B.A (tail true) (fun fin s' => fin = .again cd ∧ Past B pl vs σ C s') nil2 s) (no : tail false = again cd)
    {R : Result → Shared → Prop} {Done : Hp → Prop} (hd : ∀ s' H', Inv B pins (wipe σ vs) H' s' → Done H' → R (.ok .next) s')
    {H0 : Hp} (wk : Walk J g tt ta vs σ Done H0) {s : Shared} (I : Inv B pins (wipe σ vs) H0 s) (st : tn 0 s.heap) (n0 : ∀ b ∈ fp, H0 b = none) :
    codeAny (model B.prog B.w) B.A (.compLoop node lvl (.ref it) acc B.env) R s := by
  obtain ⟨W, ⟨m0, w0⟩, turn⟩ := wk
  subst hcd
  refine loop_any ic (fun n s' => ∃ i H', Inv B pins (wipe σ vs) H' s' ∧ tn i s'.heap ∧ (∀ b ∈ fp, H' b = none) ∧ W i n H') (fun n s' z => ?_) m0 ⟨0, H0, I, st, n0, w0⟩
  rw [ht]
  exact turn_ok hx hc T pg pt stat act no hd turn n s' z
/-- the end of an innermost turn, by what the code em does -/
theorem act_in {em : Sem Unit} (h : ∀ (pl : List (Addr × Obj)) s σ H C, Inv B pl σ H s → ta σ H C → wpAny (model B.prog B.w) B.A em (fun _ s' => ∃ H', Inv B pl σ H' s' ∧ C H') nil2 s) :
    ∀ (pl : List (Addr × Obj)) s σ H C, Inv B pl σ H s → ta σ H C → wpAny (model B.prog B.w) B.A (tailIn em cd true) (fun fin s' => fin = .again cd ∧ Past B pl vs σ C s') nil2 s := by
  intro pl s σ H C I q
  show wpAny _ _ (em >>= fun _ => again cd) _ _ s
  exact wpAny_bind (wpAny_mono (h pl s σ H C I q) (fun _ s' ⟨H', I', c⟩ => wpAny_pure ⟨rfl, σ, H', I', rfl, fun _ _ _ e => e, c⟩) fun _ _ z => z)
/-- the end of an outer turn -/
theorem act_out {node i1 t1 : Expr} {ifs1 : List Expr} {acc : Value} {wi1 : TI} {g1 : TG} {tt1 : TT} {vs1 : List Nat} {em : Sem Unit} {p1 : Pos} (ic : IsC node) (hcl : (clausesOf node)[1]? = some ⟨t1, i1, ifs1, 0⟩)
    (ht : ∀ it1, compTurn node 1 (.ref it1) acc B.env = turnOf t1 ifs1 p1 (.ref it1) B.env (tailIn em (.compLoop node 1 (.ref it1) acc B.env)))
    (hx : B.xe = nil2) (hc : B.calm = true) (hv : ∀ i ∈ vs1, i ∈ vs) (hs : ∀ x, foldedSetIterable i1 B.env x = pure x) (hi1 : PI B t1 i1 wi1) (pg1 : PG B t1 g1) (pt1 : PTs B ifs1 tt1)
    (h : ∀ (pl : List (Addr × Obj)) s σ H C, Inv B pl σ H s → ta σ H C → wpAny (model B.prog B.w) B.A em (fun _ s' => ∃ H', Inv B pl σ H' s' ∧ C H') nil2 s) :
    ∀ (pl : List (Addr × Obj)) s σ H C, Inv B pl σ H s → (wi1 σ H fun J1 H1 => Walk J1 g1 tt1 ta vs1 σ C H1) →
      wpAny (model B.prog B.w) B.A (tailOut node i1 acc B.env cd true) (fun fin s' => fin = .again cd ∧ Past B pl vs σ C s') nil2 s := by
  intro pl s σ H C I q
  unfold tailOut
  rw [if_pos rfl]
  have a1 := hi1.run pl s σ H _ I q
  rw [hx] at a1
  refine wpAny_bind (thnF a1 fun xv s1 a2 => ?_)
  refine wpAny_bind (wpAny_standAt (wpAny_bind (wpAny_of_eq (hs xv) (wpAny_bind (wpAny_holding (thnF a2 fun itv s2 z => ?_))))))
  obtain ⟨it1, fp1, tn1, J1, H2, rfl, I2, T1, st2, f2, wk⟩ := z
  refine wpAny_bind (wpAny_runOwn ?_)
  have stat1 : ∀ H', (∀ b ∈ fp1, H' b = none) → ∀ b ∈ fp1, FpOk B pl H' b := fun H' hn b hb => ⟨hn b hb, (f2 b hb).2⟩
  have lp : codeAny (model B.prog B.w) B.A (.compLoop node 1 (.ref it1) acc B.env) (fun r s' => match r with | .ok _ => Past B pl vs σ C s' | .error _ => False) s2 :=
    clause_ok (cd := .compLoop node 1 (.ref it1) acc B.env) ic (ht it1) rfl hx hc T1 pg1 pt1 stat1 (act_in h) rfl
      (fun s' H' I' c => ⟨wipe σ vs1, H', I', wipe_length _ _, fun j v nj e => by rw [wipe_out fun m => nj (hv j m)]; exact e, c⟩) wk (I2.weak (wipe_length _ _) fun j v e => (wipe_some e).1) st2 fun b hb => (f2 b hb).1
  rw [Around.mark_none]
  refine codeAny_mono (start_any ic hcl lp (T1.self B.A 0 _ _ _ st2 lp)) fun r s' hr => ?_
  cases r with
  | error e => exact hr.elim
  | ok f => first
    | exact wpAny_pure ⟨rfl, hr⟩
    | exact wpAny_bind (wpAny_pure (wpAny_pure ⟨rfl, hr⟩))
end
end L2.Cmp
set_option Elab.async false
set_option linter.all false
set_option maxRecDepth 100000
set_option maxHeartbeats 4000000
/-! Set comprehensions with one or two `for`s. -/
namespace L2.Cmp
open PySem PySem.Spec PyProof.Rows
section
variable {X : Cx}
/-- from the comprehension to its first clause's loop -/
theorem block_any {pins : List (Addr × Obj)} {s : Shared} {σ : L2.St} {H : Hp} {Q : VK} {node tg iter : Expr} {ifs : List Expr} {rest : List Comprehension} {scope : Scope} {own : List (PySem.Str × Nat)} {pos' : Pos} {wi : TI} {use : Option (Value → Sem Unit)} {Qf : Value → Shared → Prop}
    {newAcc : Sem Value} {O : Obj} {emp : Addr → HO} {Rd : It → Addr → Hp → Prop} (ic : IsC node) (hcl : clausesOf node = ⟨tg, iter, ifs, 0⟩ :: rest)
    (hnew : ∀ {s : Shared} {Q E : Value → Shared → Prop}, Q (.ref s.heap.objs.size) { s with heap := s.heap.push O } → wpAny (model X.prog X.w) X.A newAcc Q E s)
    (hemp : ∀ {pins : List (Addr × Obj)} {σ : L2.St} {H : Hp} {s : Shared}, Inv X pins σ H s → ∀ H' : Hp, ObjOk X.prog X.w H' (s.heap.push O) s.heap.objs.size (emp s.heap.objs.size))
    (hc : X.calm = true) (hN : X.N.Nodup) (I : Inv X pins σ H s) (hi : PI X tg iter wi) (ok : BlkOk X.N X.env.scope scope own) (hs : ∀ x, foldedSetIterable iter X.env x = pure x)
    (h : wi σ H fun J H1 => ∀ D, H1 D = none → Rd J D (upd H1 D (emp D)))
    (loop : ∀ (s3 : Shared) (H3 : Hp) (C : Addr) (cl : List (PySem.Str × Addr)) (fp : List Addr) (it : Addr) (tn : Nat → Heap → Prop) (J : It) (D : Addr) (s4 : Shared), Turn X.prog X.w X.K tg J fp it tn →
      (∀ H', (∀ b ∈ fp, H' b = none) → ∀ b ∈ fp, FpOk (X.blk s3 H3 scope (compEnvC scope cl C X.env) fp) [] H' b) → Inv (X.blk s3 H3 scope (compEnvC scope cl C X.env) fp) [] (wipe σ (own.map (·.2))) H3 s4 → tn 0 s4.heap → (∀ b ∈ fp, H3 b = none) → Rd J D H3 →
      codeAny (model X.prog X.w) X.A (.compLoop node 0 (.ref it) (.ref D) (compEnvC scope cl C X.env)) (fun r s' => match r with
        | .ok _ => ∃ H', Inv (X.blk s3 H3 scope (compEnvC scope cl C X.env) fp) [] (wipe σ (own.map (·.2))) H' s' ∧ Q (.ref D) H'
        | .error _ => False) s4)
    (hRR : ∀ D C s' m H', Inv X pins σ H' s' → Q (.ref D) H' → s'.heap.Ns C m → FpOk X pins H' C → compPost (model X.prog X.w) X.A X.xe use Qf (.ref D) C (.ok .next) s') :
    wpAny (model X.prog X.w) X.A (comprehension node scope X.env pos' newAcc false (eval iter X.env) use) Qf X.xe s := by
  have frees : ∀ y ∈ scope.names, y.2 = .free → ∃ c, X.env.cells.lookup y.1 = some c := fun y hy e => (ok.free y hy e).elim (fun k => I.ok.has _ (.inl k)) fun k => I.ok.has _ (.inr k)
  refine wpAny_comprehension_free (use := use) hcl hs (closure_ok frees) ok.kind (fun y hy e => by rw [ok.uniq y hy, e]) (thn (hi.run pins s σ H _ I h) fun xv s1 hx => thn hx fun itv s2 z => ?_)
  obtain ⟨it, fp, tn, J, H2, rfl, I2, T, st2, f2, q⟩ := z
  refine hnew (newEnv_comp ?_)
  obtain ⟨D, hD⟩ : ∃ D, s2.heap.objs.size = D := ⟨_, rfl⟩
  have rd := q D (I2.hok.fresh (Nat.le_of_eq hD))
  obtain ⟨s3, hs3⟩ : ∃ s3 : Shared, ({ s2 with heap := s2.heap.push O } : Shared) = s3 := ⟨_, rfl⟩
  have push3 : s3.heap = s2.heap.push O := by rw [← hs3]
  have I3 : Inv X pins σ (upd H2 D (emp D)) s3 := by
    rw [← hs3, ← hD]
    exact I2.laid (t' := s2.toks) (fun b o e => Heap.get?_push_of_some _ e) (Nat.le_refl _) (hemp I2 _)
  have f3 : ∀ b ∈ fp, FpOk X pins (upd H2 D (emp D)) b ∧ b < s3.heap.objs.size := fun b hb => by
    obtain ⟨o, e, _⟩ := T.obj _ _ st2 b hb
    have lt := Heap.lt_size e
    refine ⟨⟨?_, (f2 b hb).2⟩, by rw [push3, Heap.size_push]; exact Nat.lt_succ_of_lt lt⟩
    rw [upd_ne (Nat.ne_of_lt (hD ▸ lt))]
    exact (f2 b hb).1
  have st3 : tn 0 s3.heap := T.keep _ _ _ st2 fun b _ o e => by rw [push3]; exact Heap.get?_push_of_some _ e
  rw [hD, hs3]
  generalize hH3 : upd H2 D (emp D) = H3 at I3 f3 rd
  have I4 := block_start I3 ok hN f3
  generalize hcl' : cellsFrom (s3.heap.objs.size + 1) scope.names (cloFrom X.env.cells scope.names []) = cl at I4 ⊢
  obtain ⟨s4, hs4⟩ : ∃ s4 : Shared, ({ s3 with heap := pushCells (s3.heap.push { cls := .type "dict", data := .dict #[] }) scope.names } : Shared) = s4 := ⟨_, rfl⟩
  rw [hs4] at I4
  have st4 : tn 0 s4.heap := T.keep _ _ _ st3 fun b _ o e => by rw [← hs4]; exact pushCells_keeps _ _ _ _ (Heap.get?_push_of_some _ e)
  have nfp : ∀ b ∈ fp, H3 b = none := fun b hb => (f3 b hb).1.1
  have stat : ∀ H', (∀ b ∈ fp, H' b = none) → ∀ b ∈ fp, FpOk (X.blk s3 H3 scope (compEnvC scope cl s3.heap.objs.size X.env) fp) [] H' b := fun H' hn b hb =>
    ⟨hn b hb, (I4.ok.exf b hb).1, I4.ok.exfs b hb, .inl hb, fun x c e => (I4.ok.exf b hb).2 x c e, fun p hp => absurd (show p ∈ ([] : List (Addr × Obj)) ++ [] from hp) (by simp)⟩
  show codeAny _ _ (.compStart node 0 (.ref it) (.ref D) (compEnvC scope cl s3.heap.objs.size X.env)) (compPost (model X.prog X.w) X.A X.xe use Qf (.ref D) s3.heap.objs.size) _
  rw [hs4]
  have lp := codeAny_mono (loop s3 H3 s3.heap.objs.size cl fp it tn J D s4 T stat I4 st4 nfp rd) (R' := compPost (model X.prog X.w) X.A X.xe use Qf (.ref D) s3.heap.objs.size) fun r s' z => by
    cases r with
    | error e => exact z.elim
    | ok f =>
      obtain ⟨H', I', qq⟩ := z
      have I7 : Inv X pins σ H' s' := I3.call' (ch := fp) I'.os I'.base I'.hok I'.bare fun b hb => ⟨(f3 b hb).1.2.2.2.1, (f3 b hb).1.2.1, (f3 b hb).1.2.2.2.2.1, (f3 b hb).1.2.2.2.2.2⟩
      have nC : H' s3.heap.objs.size = none := I'.free
      obtain ⟨m, hn, _⟩ := I'.loc
      have cp := hRR D s3.heap.objs.size s' m H' I7 qq hn (I3.fpOk (Nat.le_refl _) nC)
      cases use <;> exact cp
  exact start_any ic (by rw [hcl]; rfl) lp (T.self X.A 0 _ _ _ st4 lp)
end
/-- how values go into a new set -/
structure Adder (P : Program) (w : World) where
  emp : Addr → HO
  ad : Addr → V → Hp → (Hp → Prop) → Prop
  fresh : ∀ (H : Hp) (h : Heap), ObjOk P w H (h.push { cls := .type "set", dict := none, data := .set #[] 0 (.fresh 0 0 (!w.params.followText "set-order")) }) h.objs.size (emp h.objs.size)
  add : ∀ {X : Cx}, X.prog = P → X.w = w → ∀ {pins : List (Addr × Obj)} {σ : L2.St} {H : Hp} {s : Shared} {E : Value → Shared → Prop} {D : Addr} {y : V} {v : Value} {C : Hp → Prop}, Inv X pins σ H s → RelV y v → ad D y H C →
    wpAny (model P w) X.A (call (.builtin "set.add") [.ref D, v]) (fun _ s' => ∃ H', Inv X pins σ H' s' ∧ C H') E s
/-- an item into the set at D -/
def tAd {P : Program} {w : World} (M : Adder P w) (te : TE) (D : Addr) : TAc := fun σ H C => te σ H fun y H' => M.ad D y H' C
def tSet1 {P : Program} {w : World} (M : Adder P w) (wi : TI) (g : TG) (tt : TT) (te : TE) (vs : List Nat) : TE := fun σ H Q => wi σ H fun J H1 => ∀ D, H1 D = none → Walk J g tt (tAd M te D) vs σ (fun H => Q (.ref D) H) (upd H1 D (M.emp D))
def tSet2 {P : Program} {w : World} (M : Adder P w) (wi : TI) (g : TG) (tt : TT) (wi1 : TI) (g1 : TG) (tt1 : TT) (te : TE) (vs vs1 : List Nat) : TE := fun σ H Q => wi σ H fun J H1 => ∀ D, H1 D = none →
  Walk J g tt (fun σ2 H2 C => wi1 σ2 H2 fun J1 H3 => Walk J1 g1 tt1 (tAd M te D) vs1 σ2 C H3) vs σ (fun H => Q (.ref D) H) (upd H1 D (M.emp D))
section
variable {X : Cx} {elt tg iter : Expr} {ifs : List Expr} {scope : Scope} {own : List (PySem.Str × Nat)} {pos : Pos} {wi : TI} {g : TG} {tt : TT} {te : TE}
theorem emit_ok {B : Cx} (M : Adder B.prog B.w) (hx : B.xe = nil2) (he : PE B elt te) {D : Addr} : ∀ (pl : List (Addr × Obj)) s σ H C, Inv B pl σ H s → tAd M te D σ H C →
    wpAny (model B.prog B.w) B.A (do let v ← eval elt B.env; standAt elt.pos; let _ ← call (.builtin "set.add") [.ref D, v]) (fun _ s' => ∃ H', Inv B pl σ H' s' ∧ C H') nil2 s := by
  intro pl s σ H C I q
  have a1 := he.run pl s σ H _ I q
  rw [hx] at a1
  exact wpAny_bind (thnF a1 fun v s1 ⟨y, H1, I1, r1, q1⟩ => wpAny_bind (wpAny_standAt (wpAny_bind (thnF (M.add rfl rfl I1 r1 q1) fun _ s2 z => wpAny_pure z))))
theorem pe_set1 (M : Adder X.prog X.w) (hc : X.calm = true) (hN : X.N.Nodup) (hi : PI X tg iter wi) (ok : BlkOk X.N X.env.scope scope own)
    (hg : ∀ (s : Shared) (H : Hp) (C : Addr) (cl : List (PySem.Str × Addr)) (fp : List Addr), PG (X.blk s H scope (compEnvC scope cl C X.env) fp) tg g) (ht : ∀ (s : Shared) (H : Hp) (C : Addr) (cl : List (PySem.Str × Addr)) (fp : List Addr), PTs (X.blk s H scope (compEnvC scope cl C X.env) fp) ifs tt)
    (he : ∀ (s : Shared) (H : Hp) (C : Addr) (cl : List (PySem.Str × Addr)) (fp : List Addr), PE (X.blk s H scope (compEnvC scope cl C X.env) fp) elt te) (hs : ∀ x, foldedSetIterable iter X.env x = pure x := by intro _; rfl) :
    PE X (.SetComp elt [⟨tg, iter, ifs, 0⟩] scope pos) (tSet1 M wi g tt te (own.map (·.2))) := by
  refine ⟨fun pins s σ H Q I h => ?_⟩
  rw [PpSet.eval_SetComp]
  refine block_any (Q := Q) (Rd := fun J D H1 => Walk J g tt (tAd M te D) (own.map fun z : PySem.Str × Nat => z.2) σ (fun H => Q (.ref D) H) H1) (.inl ⟨_, _, _, _, rfl⟩) rfl (fun q => PpSet.newSet_ok q) (fun _ _ => M.fresh _ _) hc hN I hi ok hs h
    (fun s3 H3 C cl fp it tn J D s4 T stat I4 st4 nfp rd => ?_) fun D C s' m H' I' q hn f => ⟨m, hn, fun h'' sb => ?_⟩
  · exact clause_ok (B := X.blk s3 H3 scope (compEnvC scope cl C X.env) fp) (tail := tailIn _ _) (p := iter.pos) (.inl ⟨_, _, _, _, rfl⟩) rfl rfl rfl hc T (hg s3 H3 C cl fp) (ht s3 H3 C cl fp) stat (act_in (emit_ok (B := X.blk s3 H3 scope (compEnvC scope cl C X.env) fp) M rfl (he s3 H3 C cl fp))) rfl
      (fun s' H' I' d => ⟨H', I', d⟩) rd I4 st4 nfp
  · obtain ⟨f0, f1, f2, f3, f4, f5⟩ := f
    exact ⟨.ref D, H', I'.turned (t' := s'.toks) (fun b o hb e => (sb.2 b hb).trans e) f0 f1 f3 f4 f5, rfl, q⟩
theorem pe_set2 (M : Adder X.prog X.w) {tg1 iter1 : Expr} {ifs1 : List Expr} {wi1 : TI} {g1 : TG} {tt1 : TT} {vs1 : List Nat} (hc : X.calm = true) (hN : X.N.Nodup) (hi : PI X tg iter wi) (ok : BlkOk X.N X.env.scope scope own) (hv : ∀ i ∈ vs1, i ∈ own.map (·.2))
    (hg : ∀ (s : Shared) (H : Hp) (C : Addr) (cl : List (PySem.Str × Addr)) (fp : List Addr), PG (X.blk s H scope (compEnvC scope cl C X.env) fp) tg g) (ht : ∀ (s : Shared) (H : Hp) (C : Addr) (cl : List (PySem.Str × Addr)) (fp : List Addr), PTs (X.blk s H scope (compEnvC scope cl C X.env) fp) ifs tt)
    (hi1 : ∀ (s : Shared) (H : Hp) (C : Addr) (cl : List (PySem.Str × Addr)) (fp : List Addr), PI (X.blk s H scope (compEnvC scope cl C X.env) fp) tg1 iter1 wi1)
    (hg1 : ∀ (s : Shared) (H : Hp) (C : Addr) (cl : List (PySem.Str × Addr)) (fp : List Addr), PG (X.blk s H scope (compEnvC scope cl C X.env) fp) tg1 g1) (ht1 : ∀ (s : Shared) (H : Hp) (C : Addr) (cl : List (PySem.Str × Addr)) (fp : List Addr), PTs (X.blk s H scope (compEnvC scope cl C X.env) fp) ifs1 tt1)
    (he : ∀ (s : Shared) (H : Hp) (C : Addr) (cl : List (PySem.Str × Addr)) (fp : List Addr), PE (X.blk s H scope (compEnvC scope cl C X.env) fp) elt te)
    (hs : ∀ x, foldedSetIterable iter X.env x = pure x := by intro _; rfl) (hs1 : ∀ env x, foldedSetIterable iter1 env x = pure x := by intro _ _; rfl) :
    PE X (.SetComp elt [⟨tg, iter, ifs, 0⟩, ⟨tg1, iter1, ifs1, 0⟩] scope pos) (tSet2 M wi g tt wi1 g1 tt1 te (own.map (·.2)) vs1) := by
  refine ⟨fun pins s σ H Q I h => ?_⟩
  rw [PpSet.eval_SetComp]
  refine block_any (Q := Q) (Rd := fun J D H1 => Walk J g tt (fun σ2 H2 C => wi1 σ2 H2 fun J1 H3 => Walk J1 g1 tt1 (tAd M te D) vs1 σ2 C H3) (own.map fun z : PySem.Str × Nat => z.2) σ (fun H => Q (.ref D) H) H1) (.inl ⟨_, _, _, _, rfl⟩) rfl (fun q => PpSet.newSet_ok q) (fun _ _ => M.fresh _ _) hc hN I hi ok hs h
    (fun s3 H3 C cl fp it tn J D s4 T stat I4 st4 nfp rd => ?_) fun D C s' m H' I' q hn f => ⟨m, hn, fun h'' sb => ?_⟩
  · exact clause_ok (B := X.blk s3 H3 scope (compEnvC scope cl C X.env) fp) (tail := tailOut _ iter1 (.ref D) _ _) (p := iter.pos) (.inl ⟨_, _, _, _, rfl⟩) rfl rfl rfl hc T (hg s3 H3 C cl fp) (ht s3 H3 C cl fp) stat
      (act_out (p1 := iter1.pos) (.inl ⟨_, _, _, _, rfl⟩) rfl (fun it1 => rfl) rfl hc hv (hs1 _) (hi1 s3 H3 C cl fp) (hg1 s3 H3 C cl fp) (ht1 s3 H3 C cl fp) (emit_ok (B := X.blk s3 H3 scope (compEnvC scope cl C X.env) fp) M rfl (he s3 H3 C cl fp))) rfl
      (fun s' H' I' d => ⟨H', I', d⟩) rd I4 st4 nfp
  · obtain ⟨f0, f1, f2, f3, f4, f5⟩ := f
    exact ⟨.ref D, H', I'.turned (t' := s'.toks) (fun b o hb e => (sb.2 b hb).trans e) f0 f1 f3 f4 f5, rfl, q⟩
end
/-- a key and a value into the dict at D -/
def tPut (tk tv : TE) (D : Addr) : TAc := fun σ H C => tk σ H fun y H1 => tv σ H1 fun x H2 => ∃ (kvs : List (Key × V)) (k : Key), y = kV k ∧ H2 D = some (.dK kvs) ∧ kvs.length < sizeLine ∧ C (upd H2 D (.dK (putK kvs k x)))
def tDict2 (wi : TI) (g : TG) (tt : TT) (wi1 : TI) (g1 : TG) (tt1 : TT) (tk tv : TE) (vs vs1 : List Nat) : TE := fun σ H Q => wi σ H fun J H1 => ∀ D, H1 D = none →
  Walk J g tt (fun σ2 H2 C => wi1 σ2 H2 fun J1 H3 => Walk J1 g1 tt1 (tPut tk tv D) vs1 σ2 C H3) vs σ (fun H => Q (.ref D) H) (upd H1 D (.dK []))
section
variable {X : Cx} {kx vx tg iter : Expr} {ifs : List Expr} {scope : Scope} {own : List (PySem.Str × Nat)} {pos : Pos} {wi : TI} {g : TG} {tt : TT} {tk tv : TE}
theorem emit_put {B : Cx} (hx : B.xe = nil2) (hk : PE B kx tk) (hv : PE B vx tv) {D : Addr} {p : Pos} : ∀ (pl : List (Addr × Obj)) s σ H C, Inv B pl σ H s → tPut tk tv D σ H C →
    wpAny (model B.prog B.w) B.A (do let kv ← eval kx B.env; let vv ← holding [kv] (eval vx B.env); standAt p; holding [kv, vv] (dictSet D kv vv)) (fun _ s' => ∃ H', Inv B pl σ H' s' ∧ C H') nil2 s := by
  intro pl s σ H C I q
  have a1 := hk.run pl s σ H _ I q
  rw [hx] at a1
  refine wpAny_bind (thnF a1 fun kv s1 ⟨y, H1, I1, r1, q1⟩ => ?_)
  have a2 := hv.run pl s1 σ H1 _ I1 q1
  rw [hx] at a2
  refine wpAny_bind (wpAny_holding (thnF a2 fun vv s2 ⟨x, H2, I2, r2, kvs, k, ey, hD, few, c⟩ => ?_))
  subst ey
  exact wpAny_bind (wpAny_standAt (wpAny_holding (d_dictSet I2 hD few r1 r2 fun s3 I3 => ⟨_, I3, c⟩)))
theorem pe_dict2 {tg1 iter1 : Expr} {ifs1 : List Expr} {wi1 : TI} {g1 : TG} {tt1 : TT} {vs1 : List Nat} (hc : X.calm = true) (hN : X.N.Nodup) (hi : PI X tg iter wi) (ok : BlkOk X.N X.env.scope scope own) (hv : ∀ i ∈ vs1, i ∈ own.map (·.2))
    (hg : ∀ (s : Shared) (H : Hp) (C : Addr) (cl : List (PySem.Str × Addr)) (fp : List Addr), PG (X.blk s H scope (compEnvC scope cl C X.env) fp) tg g) (ht : ∀ (s : Shared) (H : Hp) (C : Addr) (cl : List (PySem.Str × Addr)) (fp : List Addr), PTs (X.blk s H scope (compEnvC scope cl C X.env) fp) ifs tt)
    (hi1 : ∀ (s : Shared) (H : Hp) (C : Addr) (cl : List (PySem.Str × Addr)) (fp : List Addr), PI (X.blk s H scope (compEnvC scope cl C X.env) fp) tg1 iter1 wi1)
    (hg1 : ∀ (s : Shared) (H : Hp) (C : Addr) (cl : List (PySem.Str × Addr)) (fp : List Addr), PG (X.blk s H scope (compEnvC scope cl C X.env) fp) tg1 g1) (ht1 : ∀ (s : Shared) (H : Hp) (C : Addr) (cl : List (PySem.Str × Addr)) (fp : List Addr), PTs (X.blk s H scope (compEnvC scope cl C X.env) fp) ifs1 tt1)
    (hk : ∀ (s : Shared) (H : Hp) (C : Addr) (cl : List (PySem.Str × Addr)) (fp : List Addr), PE (X.blk s H scope (compEnvC scope cl C X.env) fp) kx tk) (he : ∀ (s : Shared) (H : Hp) (C : Addr) (cl : List (PySem.Str × Addr)) (fp : List Addr), PE (X.blk s H scope (compEnvC scope cl C X.env) fp) vx tv)
    (hs : ∀ x, foldedSetIterable iter X.env x = pure x := by intro _; rfl) (hs1 : ∀ env x, foldedSetIterable iter1 env x = pure x := by intro _ _; rfl) :
    PE X (.DictComp kx vx [⟨tg, iter, ifs, 0⟩, ⟨tg1, iter1, ifs1, 0⟩] scope pos) (tDict2 wi g tt wi1 g1 tt1 tk tv (own.map (·.2)) vs1) := by
  refine ⟨fun pins s σ H Q I h => ?_⟩
  rw [arm_eval_DictComp]
  refine block_any (Q := Q) (Rd := fun J D H1 => Walk J g tt (fun σ2 H2 C => wi1 σ2 H2 fun J1 H3 => Walk J1 g1 tt1 (tPut tk tv D) vs1 σ2 C H3) (own.map fun z : PySem.Str × Nat => z.2) σ (fun H => Q (.ref D) H) H1) (emp := fun _ => .dK []) (.inr (.inr ⟨_, _, _, _, _, rfl⟩)) rfl
    (fun q => wpAny_newObj_type q) (fun I' H' => dk_empty _ I'.big) hc hN I hi ok hs h
    (fun s3 H3 C cl fp it tn J D s4 T stat I4 st4 nfp rd => ?_) fun D C s' m H' I' q hn f => ⟨m, hn, fun h'' sb => ?_⟩
  · exact clause_ok (B := X.blk s3 H3 scope (compEnvC scope cl C X.env) fp) (tail := tailOut _ iter1 (.ref D) _ _) (p := iter.pos) (.inr (.inr ⟨_, _, _, _, _, rfl⟩)) rfl rfl rfl hc T (hg s3 H3 C cl fp) (ht s3 H3 C cl fp) stat
      (act_out (p1 := iter1.pos) (.inr (.inr ⟨_, _, _, _, _, rfl⟩)) rfl (fun it1 => rfl) rfl hc hv (hs1 _) (hi1 s3 H3 C cl fp) (hg1 s3 H3 C cl fp) (ht1 s3 H3 C cl fp) (emit_put (B := X.blk s3 H3 scope (compEnvC scope cl C X.env) fp) rfl (hk s3 H3 C cl fp) (he s3 H3 C cl fp))) rfl
      (fun s' H' I' d => ⟨H', I', d⟩) rd I4 st4 nfp
  · obtain ⟨f0, f1, f2, f3, f4, f5⟩ := f
    exact ⟨.ref D, H', I'.turned (t' := s'.toks) (fun b o hb e => (sb.2 b hb).trans e) f0 f1 f3 f4 f5, rfl, q⟩
end
end L2.Cmp
set_option Elab.async false
set_option linter.all false
set_option maxRecDepth 100000
set_option maxHeartbeats 4000000
/-! Sets of texts: as tracked things, by comprehension, sorted. -/
namespace L2.TxtSet
open PySem PySem.Spec PyProof.Rows L2.GSet L2.Cmp
def keyT : Value → Str
  | .str x _ => x
  | _ => ⟨#[]⟩
theorem keyT_is (P : Program) (w : World) : ∀ k v, (PySem.strKind P w).is k v = true → keyT v = k := fun k v h => by
  obtain ⟨t, rfl⟩ := Value.isStrOf_shape h
  rfl
/-- the set of texts at a: ks, in some order -/
def SetT (P : Program) (w : World) (a : Addr) (ks : List Str) : HO := .ext fun h => GAt (PySem.strKind P w) keyT h a ks
theorem setT_new {P : Program} {w : World} {H : Hp} {h : Heap} {a : Addr} {ks : List Str} (R : GAt (PySem.strKind P w) keyT h a ks) : ObjOk P w H h a (SetT P w a ks) := ⟨R, R.some, fun h1 h2 p k => GAt.keep p k⟩
section
variable {X : Cx} {pins : List (Addr × Obj)} {σ : L2.St} {H : Hp} {s : Shared}
theorem setT_get {a : Addr} {ks : List Str} (I : Inv X pins σ H s) (ha : H a = some (SetT X.prog X.w a ks)) : GAt (PySem.strKind X.prog X.w) keyT s.heap a ks := (I.hok a _ ha).1
end
/-- texts into a set of texts -/
def addT (P : Program) (w : World) : Adder P w where
  emp := fun D => SetT P w D []
  ad := fun D y H C => ∃ (z : Str) (ks : List Str), y = .str z ∧ H D = some (SetT P w D ks) ∧ ks.length + 1 < scanBound ∧ C (upd H D (SetT P w D (if z ∈ ks then ks else ks ++ [z])))
  fresh := fun H h => setT_new (GSet.fresh h)
  add := fun {X} hP hw {pins σ H s E D y v C} I r q => by
    subst hP
    subst hw
    obtain ⟨z, ks, rfl, hD, room, c⟩ := q
    obtain ⟨u, rfl⟩ := r
    refine add_call (keyT_is X.prog X.w) (k := z) (Froz.is_str z u) rfl (setT_get I hD) room fun h' sb new => ⟨_, ?_, c⟩
    exact I.write (e := D) (t' := s.toks + 1) (by rw [hD]; trivial) (.inl rfl) (fun b o hb ho => (sb.2 b hb).trans ho) new.some (setT_new new)
/-- sorted(a set of texts) -/
def rSortT (P : Program) (w : World) : List V → Hp → VK → Prop := fun vs H Q => ∃ (a : Addr) (ks : List Str), vs = [V.ref a] ∧ H a = some (SetT P w a ks) ∧ ks.length < 64 ∧
  ∀ (ys : List Str) (p : Addr), ys.Perm ks → sortedS ys = true → H p = none → Q (.ref p) (upd H p (.lst (ys.map V.str)))
theorem strs_out : ∀ {vs : List Value}, (∀ v ∈ vs, ∃ x u, v = Value.str x u) → StrsAre vs (vs.map keyT)
  | [], _ => .nil
  | v :: vs, h => by
    obtain ⟨x, u, rfl⟩ := h v List.mem_cons_self
    exact .cons x u (strs_out fun y m => h y (List.mem_cons_of_mem _ m))
theorem sort_tree {P : Program} {w : World} {A : Around} {E : Value → Shared → Prop} {s : Shared} {a : Addr} {ks : List Str} {Q : Value → Shared → Prop} (R : GAt (PySem.strKind P w) keyT s.heap a ks) (hh : A.handled = none) (h64 : ks.length < 64)
    (hQ : ∀ s' p (out : Array Value) (c : Nat) (ys : List Str), (∀ b o, s.heap.get? b = some o → s'.heap.get? b = some o) → s'.gens = s.gens → s'.os = s.os → s.heap.objs.size ≤ p → s'.heap.get? p = some (seqObj "list" out c) →
      StrsAre out.toList ys → ys.Perm ks → sortedS ys = true → Q (.ref p) s') : wpAny (model P w) A (call (.builtin "sorted") [.ref a]) Q E s := by
  obtain ⟨o, es, ep, t, ho, ox, od, p⟩ := R
  refine Calls.call_function_entry kind_sorted plain_sorted entry_sorted (args_sorted1 _) ?_
  unfold Builtin.«sorted»
  refine wpAny_bind (m := checkCount "sorted" 1 1 _) (wpAny_pure (wpAny_bind (collect_set (A := A.in1) hh ⟨o, ho, ox.1, od⟩ p.fit p.few p.ris p.led fun s1 vs k1 z1 g1 o1 pm => ?_)))
  have lv : vs.length = ks.length := by rw [pm.length_eq, List.length_map, Array.length_toList, p.size]
  have tx : StrsAre vs (vs.map keyT) := strs_out fun v m => by
    obtain ⟨e, he, rfl⟩ := List.mem_map.mp (pm.mem_iff.mp m)
    obtain ⟨⟨k, i, _⟩, _⟩ := p.el e he
    obtain ⟨u, q⟩ := Value.isStrOf_shape i
    exact ⟨k, u, q⟩
  have pk : (vs.map keyT).Perm ks := by
    have z := pm.map keyT
    rw [List.map_map] at z
    exact z.trans p.pm
  refine wpAny_bind (wpAny_newList ?_ (by rw [lv, sizeLine_eq]; omega))
  have at1 : (s1.heap.push (seqObj "list" vs.toArray 0)).get? s1.heap.objs.size = some (seqObj "list" vs.toArray 0) := Heap.get?_push_size _ rfl
  refine wpAny_bind (wpAny_holding (wpAny_call_entry slot_list_sort ⟨_, at1, rfl⟩ entry_list_sort (list_sort_treeK strKind_oneLt at1 tx.keysOf (fun v₁ v₂ rest e => keyKind_strs (by rw [← e]; exact tx)) (by rw [lv]; exact h64) fun st' hp' hs' => ?_) (args_list_sort _)))
  obtain ⟨ys, a1, a2, a3⟩ := sorted_out_str tx hp' hs'
  refine ⟨_, rfl, ?_⟩
  generalize ho' : (arrOf st').map (·.2) = out at a1
  obtain ⟨c, hc⟩ := sortedHeap_at (vs := vs) (out := out) at1
  refine wpAny_pure ⟨_, rfl, hQ _ s1.heap.objs.size out c ys (fun b u e => ?_) g1 o1 z1 hc a1 (a2.trans pk) a3⟩
  have q := k1 b u e
  have lt := Heap.lt_size q
  exact (sortedHeap_old (Nat.ne_of_lt lt) (by rw [size_push']; exact Nat.lt_succ_of_lt lt)).trans (Heap.get?_push_of_some _ q)
section
variable {X : Cx}
theorem cr_sortT (hc : X.calm = true) : CallR X (.builtin "sorted") (rSortT X.prog X.w) := by
  intro pins s σ H vs us Q I r h
  obtain ⟨a, ks, rfl, ha, h64, q⟩ := h
  rw [Vals.ref1 r]
  refine sort_tree (setT_get I ha) (I.ok.hd hc) h64 fun s' p out c ys k g o hp at2 tx pm so => ?_
  have hn : H p = none := I.hok.fresh hp
  have fits : (ys.map V.str).length ≤ sizeLine := by rw [List.length_map, pm.length_eq, sizeLine_eq]; omega
  have J : Inv X pins σ (upd H p (.lst (ys.map V.str))) { s with heap := s'.heap, gens := s'.gens, drawn := s'.drawn, toks := s'.toks } :=
    I.call (ch := []) (Un.laid k hp hn) (I.hok.laid k hp ⟨fits, out.toList, c, vals_of_strs tx, at2⟩) (by rw [g]; exact I.bare) fun _ z => nomatch z
  have e : s' = { s with heap := s'.heap, gens := s'.gens, drawn := s'.drawn, toks := s'.toks } := by
    cases s'
    cases s
    cases o
    rfl
  rw [e]
  exact ⟨.ref p, _, J, rfl, q ys p pm so hn⟩
end
end L2.TxtSet
set_option Elab.async false
set_option linter.all false
set_option maxRecDepth 100000
set_option maxHeartbeats 4000000
/-! is_free, variables_of. -/
namespace L2.LawH
open PySem PySem.Spec PyProof.Rows L2.Cmp L2.TxtSet
abbrev sVars : Stmt := top 7
/-! ### walks of a list or a tuple -/
def iSeq (K : PySem.W.Frag) (tl : TE) : TI := fun σ H R => tl σ H fun x H1 => ∃ a, x = .ref a ∧ (((∃ xs, SqL K H1 a xs) ∧ R (Itl K a) H1) ∨ ((∃ xs, SqT K H1 a xs) ∧ R (Itt K a) H1))
theorem pi_seq {X : Cx} {tg l : Expr} {tl : TE} (hl : PE X l tl) : PI X tg l (iSeq X.K tl) := by
  refine ⟨fun pins s σ H R I h => thn (hl.run pins s σ H _ I h) fun v s1 ⟨x, H1, I1, r1, q1⟩ => ?_⟩
  obtain ⟨a, rfl, q⟩ := q1
  cases r1
  have frs : ∀ b ∈ [s1.heap.objs.size], FpOk X pins H1 b := fun b hb => by
    obtain rfl : b = s1.heap.objs.size := by simpa using hb
    exact I1.fpOk (Nat.le_refl _) (I1.hok.fresh (Nat.le_refl _))
  rcases q with ⟨⟨xs, hq⟩, q⟩ | ⟨⟨xs, hq⟩, q⟩
  · obtain ⟨its, _, p, _⟩ := I1.list hq
    exact wpAny_pyIter_list p.isList ⟨_, _, _, _, H1, rfl, I1.kept (t' := s1.toks) fun b o e => Heap.get?_push_of_some _ e, turn_list a _, ⟨_, Heap.get?_push_size _ rfl, rfl, rfl⟩, frs, q⟩
  · obtain ⟨its, _, p, _⟩ := I1.tuple hq
    exact wpAny_pyIter_tuple (show s1.heap.IsTuple a its.toArray from p) ⟨_, _, _, _, H1, rfl, I1.kept (t' := s1.toks) fun b o e => Heap.get?_push_of_some _ e, turn_tuple a _, ⟨_, Heap.get?_push_size _ rfl, rfl, rfl⟩, frs, q⟩
theorem pi_tupK {X : Cx} {K : PySem.W.Frag} (e : X.K = K) {tg l : Expr} {tl : TE} (hl : PE X l tl) : PI X tg l (iTup K tl) := by
  subst e
  exact pi_tup hl
theorem sl_tupK {X : Cx} {K : PySem.W.Frag} (e : X.K = K) : SlR X (rSlT K) := by
  subst e
  exact sl_tup
/-- how a clause over xs is walked, where Sq says that they stand there -/
def WalkR (J : It) (Sq : Hp → Prop) (xs : List V) : Prop := ∀ (g : TG) (tt : TT) (ta : TAc) (vs : List Nat) (σ : List (Option V)) (H0 : Hp) (Done : Hp → Prop) (Pv : Nat → Hp → Prop), Pv 0 H0 → (∀ i H, i ≤ xs.length → Pv i H → Sq H) →
  (∀ i x H, xs[i]? = some x → Pv i H → g x (wipe σ vs) H fun σ2 H2 => wipe σ2 vs = wipe σ vs ∧ tt σ2 H2 fun b H3 => if b = true then ta σ2 H3 (Pv (i + 1)) else Pv (i + 1) H3) → (∀ H, Pv xs.length H → Done H) → L2.Cmp.Walk J g tt ta vs σ Done H0
theorem walk_list {K : PySem.W.Frag} {a : Addr} {xs : List V} : WalkR (Itl K a) (fun H => SqL K H a xs) xs := by
  intro g tt ta vs σ H0 Done Pv h0 hl hs hd
  refine ⟨fun i m H => m = xs.length - i ∧ i ≤ xs.length ∧ Pv i H, ⟨xs.length, rfl, Nat.zero_le _, h0⟩, ?_⟩
  rintro i m H ⟨rfl, hi, p⟩
  rcases Nat.lt_or_eq_of_le hi with lt | rfl
  · refine .inr ⟨⟨xs, xs[i], hl i H hi p, by simp [lt]⟩, Pv (i + 1), fun H' p' => ⟨xs.length - (i + 1), by omega, rfl, lt, p'⟩, ?_⟩
    rintro x _ ⟨rfl, y⟩
    exact hs i x _ (y xs (hl i _ hi p)) p
  · exact .inl ⟨⟨xs, hl _ H hi p, Nat.le_refl _⟩, hd H p⟩
theorem walk_tup {K : PySem.W.Frag} {a : Addr} {xs : List V} : WalkR (Itt K a) (fun H => SqT K H a xs) xs := by
  intro g tt ta vs σ H0 Done Pv h0 hl hs hd
  refine ⟨fun i m H => m = xs.length - i ∧ i ≤ xs.length ∧ Pv i H, ⟨xs.length, rfl, Nat.zero_le _, h0⟩, ?_⟩
  rintro i m H ⟨rfl, hi, p⟩
  rcases Nat.lt_or_eq_of_le hi with lt | rfl
  · refine .inr ⟨⟨xs, xs[i], hl i H hi p, by simp [lt]⟩, Pv (i + 1), fun H' p' => ⟨xs.length - (i + 1), by omega, rfl, lt, p'⟩, ?_⟩
    rintro x _ ⟨rfl, y⟩
    exact hs i x _ (y xs (hl i _ hi p)) p
  · exact .inl ⟨⟨xs, hl _ H hi p, Nat.le_refl _⟩, hd H p⟩
/-! ### each once -/
def put1 (ks : List Str) (z : Str) : List Str := if z ∈ ks then ks else ks ++ [z]
def uniq (l : List Str) : List Str := l.foldl put1 []
theorem uniq_snoc (l : List Str) (z : Str) : uniq (l ++ [z]) = put1 (uniq l) z := by
  unfold uniq
  rw [List.foldl_append]
  rfl
theorem fold_len : ∀ (l acc : List Str), (l.foldl put1 acc).length ≤ acc.length + l.length
  | [], acc => Nat.le_refl _
  | z :: l, acc => by
    have ih := fold_len l (put1 acc z)
    have : (put1 acc z).length ≤ acc.length + 1 := by
      unfold put1
      split
      · omega
      · simp
    rw [List.foldl_cons, List.length_cons]
    omega
theorem uniq_len (l : List Str) : (uniq l).length ≤ l.length := by
  have h := fold_len l []
  rw [List.length_nil, Nat.zero_add] at h
  exact h
theorem fold_mem {y : Str} : ∀ (l acc : List Str), y ∈ l.foldl put1 acc ↔ y ∈ acc ∨ y ∈ l
  | [], acc => by simp
  | z :: l, acc => by
    rw [List.foldl_cons, fold_mem l (put1 acc z), List.mem_cons]
    unfold put1
    split
    · rename_i m
      constructor
      · rintro (h | h)
        · exact .inl h
        · exact .inr (.inr h)
      · rintro (h | rfl | h)
        · exact .inl h
        · exact .inl m
        · exact .inr h
    · rw [List.mem_append, List.mem_singleton, or_assoc]
theorem uniq_mem {y : Str} {l : List Str} : y ∈ uniq l ↔ y ∈ l := by
  unfold uniq
  rw [fold_mem]
  simp
theorem fold_nodup : ∀ (l acc : List Str), acc.Nodup → (l.foldl put1 acc).Nodup
  | [], acc, h => h
  | z :: l, acc, h => by
    rw [List.foldl_cons]
    refine fold_nodup l _ ?_
    unfold put1
    split
    · exact h
    · rename_i m
      rw [List.nodup_append]
      exact ⟨h, by simp, fun a ha b hb e => by
        rw [List.mem_singleton.mp hb] at e
        exact m (e ▸ ha)⟩
theorem uniq_nodup (l : List Str) : (uniq l).Nodup := fold_nodup l [] List.nodup_nil
/-! ### lots of patterns, as they stand -/
abbrev Pt : Type := Addr × Str × List Str
def isV (z : Str) : Bool := Txt.startswith z (Str.ofString "?")
def frees (xs : List Pt) : List Str := (xs.flatMap fun x => x.2.2).filter isV
theorem frees_snoc (xs : List Pt) (x : Pt) : frees (xs ++ [x]) = frees xs ++ x.2.2.filter isV := by
  unfold frees
  rw [List.flatMap_append, List.filter_append]
  simp
theorem frees_take {xs : List Pt} {i : Nat} {x : Pt} (h : xs[i]? = some x) : frees (xs.take (i + 1)) = frees (xs.take i) ++ x.2.2.filter isV := by
  rw [List.take_succ, h]
  exact frees_snoc _ _
theorem frees_le (xs : List Pt) (i : Nat) : (frees (xs.take i)).length ≤ (frees xs).length := by
  have e : frees xs = frees (xs.take i) ++ frees (xs.drop i) := by
    unfold frees
    rw [← List.filter_append, ← List.flatMap_append, List.take_append_drop]
  rw [e, List.length_append]
  omega
/-- the lot xs at q, a list or a tuple -/
structure LotAt (H : Hp) (q : Addr) (xs : List Pt) : Prop where
  sq : H q = some (.lst (xs.map fun x => V.ref x.1)) ∨ H q = some (.tup (xs.map fun x => V.ref x.1))
  each : ∀ x ∈ xs, H x.1 = some (.tup (.str x.2.1 :: x.2.2.map V.str))
theorem cut_one (v : V) (l : List V) : cutV (v :: l) (some 1) none = l := by
  have e : HT.sIx (v :: l).length 0 (some 1) = 1 := by
    have z := HT.sIx_nat (v :: l).length 0 1
    rw [List.length_cons] at z ⊢
    exact z.trans (by omega)
  unfold cutV
  rw [e, HT.sIx_none]
  simp
theorem cut_part (v : V) (l : List V) : ¬ (HT.sIx (v :: l).length 0 (some 1) = 0 ∧ HT.sIx (v :: l).length (v :: l).length none = (v :: l).length) := by
  rintro ⟨e, _⟩
  have z := HT.sIx_nat (v :: l).length 0 1
  rw [List.length_cons] at z e
  have z' := z.symm.trans e
  omega
theorem LotAt.same {H H' : Hp} {q : Addr} {xs : List Pt} (h : LotAt H q xs) (s : Same H H') : LotAt H' q xs := ⟨h.sq.imp (s _ _) (s _ _), fun x m => s _ _ (h.each x m)⟩
theorem first_one {z : Str} {c : Nat} {r : List Nat} (h : z.cps.toList = c :: r) : decide (V.str ⟨#[c]⟩ = V.str (Str.ofString "?")) = isV z := by
  have q1 : (Str.ofString "?").cps = #[63] := by decide +kernel
  have q2 : (Str.ofString "?").length = 1 := by decide +kernel
  have es : Str.ofString "?" = ⟨#[63]⟩ := by
    cases h : Str.ofString "?" with
    | mk c => rw [h] at q1; exact congrArg Str.mk q1
  have l := length_toList z
  rw [h, List.length_cons] at l
  have hz : z.cps = (c :: r).toArray := by rw [← h]
  have z0 : z.cps[0]? = some c := by
    rw [← Array.getElem?_toList, h]
    rfl
  unfold isV Txt.startswith Builtin.Str.subAt
  rw [q1, q2, es, Bool.eq_iff_iff, decide_eq_true_iff, hz]
  have l0 : z.length = r.length + 1 := l.symm
  rw [l0]
  simp
def spVars : Sp := fun vs H Q _ => ∃ (q : Addr) (xs : List Pt), vs = [.ref q] ∧ LotAt H q xs ∧ (∀ x ∈ xs, ∀ z ∈ x.2.2, 1 ≤ z.length ∧ z.length ≤ 100) ∧ (frees xs).length ≤ 60 ∧
  ∀ (p : Addr) (ys : List Str) (H' : Hp), Same H H' → H p = none → ys.Perm (uniq (frees xs)) → sortedS ys = true → H' p = some (.lst (ys.map V.str)) → Q (.ref p) H'
section
variable {P : Program} {w : World} {K : PySem.W.Frag} {mg : Str → Option Value} {base : Heap}
abbrev nVars : List Str := ["lot", "pattern", "term"]
end
end L2.LawH
set_option Elab.async false
set_option linter.all false
set_option maxRecDepth 100000
set_option maxHeartbeats 4000000
/-! _law_variables. -/
namespace L2.LawH
open PySem PySem.Spec PyProof.Rows L2.Cmp L2.TxtSet
abbrev sLVars : Stmt := top 21
theorem first_sign (z : Str) : decide (cutS z none (some 1) = Str.ofString "?") = isV z := by
  have q1 : (Str.ofString "?").cps = #[63] := by decide +kernel
  have q2 : (Str.ofString "?").length = 1 := by decide +kernel
  have e2 : HT.sIx z.length z.length (some 1) = min 1 z.length := HT.sIx_nat z.length z.length 1
  have l : z.cps.toList.length = z.length := length_toList z
  have es : Str.ofString "?" = ⟨#[63]⟩ := by
    cases h : Str.ofString "?" with
    | mk c => rw [h] at q1; exact congrArg Str.mk q1
  unfold isV Txt.startswith cutS Builtin.Str.subAt
  rw [HT.sIx_none, e2, q1, q2, es, Bool.eq_iff_iff, decide_eq_true_iff]
  cases hz : z.cps.toList with
  | nil =>
    rw [hz] at l
    have l0 : z.length = 0 := l.symm
    rw [l0]
    simp
  | cons x r =>
    rw [hz] at l
    have l0 : z.length = r.length + 1 := l.symm
    have ez : z.cps = (x :: r).toArray := by rw [← hz]
    rw [l0, ez]
    have m : min 1 (r.length + 1) = 1 := by omega
    rw [m]
    simp
def spLVars : Sp := fun vs H Q _ => ∃ (q : Addr) (xs : List Pt), vs = [.ref q] ∧ H q = some (.lst (xs.map fun x => V.ref x.1)) ∧ LotAt H q xs ∧ (∀ x ∈ xs, ∀ z ∈ x.2.2, z.length ≤ 100) ∧ (frees xs).length ≤ 60 ∧
  ∀ (p : Addr) (ys : List Str) (H' : Hp), Same H H' → H p = none → ys.Perm (uniq (frees xs)) → sortedS ys = true → H' p = some (.lst (ys.map V.str)) → Q (.ref p) H'
section
variable {P : Program} {w : World} {K : PySem.W.Frag} {mg : Str → Option Value} {base : Heap}
abbrev nLVars : List Str := ["_law_lot_here", "_law_found", "_law_pattern_here", "_law_term_here"]
end
end L2.LawH
set_option Elab.async false
set_option linter.all false
set_option maxRecDepth 100000
set_option maxHeartbeats 4000000
/-! _law_lot; two ascending lists of the same texts. -/
namespace L2.LawH
open PySem PySem.Spec PyProof.Rows L2.Cmp L2.TxtSet
theorem asc_pw : ∀ (l : List Str) (p : Str), risingS p l = true → (p :: l).Pairwise fun a b => a.cps.toList ≤ b.cps.toList
  | [], p, _ => List.pairwise_singleton _ _
  | x :: r, p, h => by
    simp only [risingS, Bool.and_eq_true, Bool.not_eq_true', ltCps_eq, decide_eq_false_iff_not, List.not_lt] at h
    have ih := asc_pw r x h.2
    refine List.pairwise_cons.mpr ⟨fun y hy => ?_, ih⟩
    rcases List.mem_cons.mp hy with rfl | hy
    · exact h.1
    · exact List.le_trans h.1 ((List.pairwise_cons.mp ih).1 y hy)
theorem asc_all {l : List Str} (h : sortedS l = true) : l.Pairwise fun a b => a.cps.toList ≤ b.cps.toList := by
  cases l with
  | nil => exact List.Pairwise.nil
  | cons x r => exact asc_pw r x h
theorem asc_eq {l l' u : List Str} (h : sortedS l = true) (h' : sortedS l' = true) (p : l.Perm u) (p' : l'.Perm u) : l = l' := by
  refine List.Perm.eq_of_pairwise (fun a b _ _ x y => ?_) (asc_all h) (asc_all h') (p.trans p'.symm)
  have e : a.cps.toList = b.cps.toList := List.le_antisymm x y
  cases a
  cases b
  exact congrArg Str.mk (Array.toList_inj.mp e)
abbrev sLot7 : Stmt := top 20
/-- a lot xs at q, drawn over a pool and variables, outside the source -/
structure LotOf (a : Addr) (π : Pool) (W : List Str) (H : Hp) (q : Addr) (xs : List Pt) : Prop where
  sq : H q = some (.lst (xs.map fun x => V.ref x.1))
  each : ∀ x ∈ xs, H x.1 = some (.tup (.str x.2.1 :: x.2.2.map V.str))
  pat : ∀ x ∈ xs, PatOf π W x.2.1 x.2.2
  nq : q ≠ a
  nx : ∀ x ∈ xs, x.1 ≠ a
theorem LotOf.at {a : Addr} {π : Pool} {W : List Str} {H : Hp} {q : Addr} {xs : List Pt} (h : LotOf a π W H q xs) : LotAt H q xs := ⟨.inl h.sq, h.each⟩
theorem LotOf.keep {a : Addr} {π : Pool} {W : List Str} {H H' : Hp} {q : Addr} {xs : List Pt} (h : LotOf a π W H q xs) (k : Keep a H H') : LotOf a π W H' q xs :=
  ⟨k _ _ h.sq h.nq, fun x m => k _ _ (h.each x m) (h.nx x m), h.pat, h.nq, h.nx⟩
def spLot : Sp := fun vs H Q _ => ∃ (a p q : Addr) (c : Int) (m n : Nat) (π : Pool) (W : List Str), vs = [.ref a, .ref p, .ref q, .int n] ∧ n ≤ 100 ∧ SrcAt H a c (m + 20 * n + 1) ∧ PoolAt a H p π ∧ VarsAt a H q W ∧
  ∀ (t : Addr) (xs : List Pt) (H' : Hp), LotOf a π W H' t xs → xs.length ≤ n → SrcAt H' a c m → Keep a H H' → Q (.ref t) H'
section
variable {P : Program} {w : World} {K : PySem.W.Frag} {mg : Str → Option Value} {base : Heap}
abbrev nLot : List Str := ["_law_source_here", "_law_pool_here", "_law_variables_here", "_law_most", "_law_k"]
abbrev pLot : List Str := ["_law_source_here", "_law_pool_here", "_law_variables_here", "_law_most"]
end
end L2.LawH
set_option Elab.async false
set_option linter.all false
set_option maxRecDepth 100000
set_option maxHeartbeats 4000000
/-! is_name, is_variable. -/
namespace L2.LawH
open PySem PySem.Spec PyProof.Rows L2.Cmp L2.TxtSet
abbrev sIsN : Stmt := top 8
abbrev sIsV : Stmt := top 9
/-- a value of a kind that is no text -/
def NotS (K : PySem.W.Frag) (H : Hp) (x : V) : Prop := ∃ n : String, TyX K H x (.type n) ∧ kitB n "str" = some false
abbrev letS8 : Str := "abcdefghijklmnopqrstuvwxyz"
abbrev sgnS8 : Str := "abcdefghijklmnopqrstuvwxyz0123456789"
def spIsN (K : PySem.W.Frag) : Sp := fun vs H Q _ => ∃ x : V, vs = [x] ∧ ((∃ z : Str, x = .str z ∧ z.length ≤ 100000 ∧ ∀ H', Same H H' → Q (.bl (nmB z.cps.toList)) H') ∨ (NotS K H x ∧ Q (.bl false) H))
theorem in_let (c : Nat) : (!(Builtin.Str.occurrences letS8 ⟨#[c]⟩ 0 letS8.length 1).isEmpty) = isLet c := by
  rw [empty_one, Bool.not_not]
  have e : letS8.cps.toList = [97,98,99,100,101,102,103,104,105,106,107,108,109,110,111,112,113,114,115,116,117,118,119,120,121,122] := by decide +kernel
  rw [e]
  unfold isLet
  rw [Bool.eq_iff_iff]
  simp only [decide_eq_true_eq, Bool.and_eq_true, List.mem_cons, List.not_mem_nil, or_false]
  omega
theorem in_sgn (c : Nat) : (!(Builtin.Str.occurrences sgnS8 ⟨#[c]⟩ 0 sgnS8.length 1).isEmpty) = isSgn c := by
  rw [empty_one, Bool.not_not]
  have e : sgnS8.cps.toList = [97,98,99,100,101,102,103,104,105,106,107,108,109,110,111,112,113,114,115,116,117,118,119,120,121,122,48,49,50,51,52,53,54,55,56,57] := by decide +kernel
  rw [e]
  unfold isSgn isLet
  rw [Bool.eq_iff_iff]
  simp only [decide_eq_true_eq, Bool.and_eq_true, Bool.or_eq_true, List.mem_cons, List.not_mem_nil, or_false]
  omega
theorem nmB_eq (c : Nat) (r : List Nat) (h : r.length ≤ 11) : nmB (c :: r) = (isLet c && ((c :: r).all isSgn)) := by
  show (isLet c && r.all isSgn && decide (r.length ≤ 11)) = _
  rw [decide_eq_true h, Bool.and_true, List.all_cons]
  cases hl : isLet c with
  | false => rfl
  | true =>
    have : isSgn c = true := by
      unfold isSgn
      rw [hl]
      rfl
    rw [this]
    rfl
theorem asc_tab : ((List.range 128).all fun c => (Unicode.isAlnum c == (isSgn c || (decide (65 ≤ c) && decide (c ≤ 90)))) && (Unicode.isLower c == isLet c) &&
    ((Unicode.isUpper c || Unicode.isTitle c) == (decide (65 ≤ c) && decide (c ≤ 90))) && (Unicode.isAlpha c == (isLet c || (decide (65 ≤ c) && decide (c ≤ 90))))) = true := by decide +kernel
theorem asc_at {c : Nat} (h : c < 128) : Unicode.isAlnum c = (isSgn c || (decide (65 ≤ c) && decide (c ≤ 90))) ∧ Unicode.isLower c = isLet c ∧
    (Unicode.isUpper c || Unicode.isTitle c) = (decide (65 ≤ c) && decide (c ≤ 90)) ∧ Unicode.isAlpha c = (isLet c || (decide (65 ≤ c) && decide (c ≤ 90))) := by
  have q := List.all_eq_true.mp asc_tab c (List.mem_range.mpr h)
  simp only [Bool.and_eq_true, beq_iff_eq] at q
  exact ⟨q.1.1.1, q.1.1.2, q.1.2, q.2⟩
theorem all_cps (z : Str) (p : Nat → Bool) : z.cps.all p = z.cps.toList.all p := by rw [Array.all_toList]
theorem any_cps (z : Str) (p : Nat → Bool) : z.cps.any p = z.cps.toList.any p := by rw [Array.any_toList]
theorem sgn_asc {c : Nat} (h : isSgn c = true) : c < 128 := by
  unfold isSgn isLet at h
  simp only [Bool.or_eq_true, Bool.and_eq_true, decide_eq_true_eq] at h
  omega
/-- what the name test asks before the first sign -/
def pre8 (l : List Nat) : Bool := l.all (fun c => decide (c < 128)) && (decide (l.length > 0) && l.all Unicode.isAlnum) && (l.any Unicode.isLower && !l.any fun c => Unicode.isUpper c || Unicode.isTitle c)
theorem pre8_sgn {l : List Nat} (h : pre8 l = true) : l.all isSgn = true := by
  unfold pre8 at h
  simp only [Bool.and_eq_true, decide_eq_true_eq, Bool.not_eq_true'] at h
  obtain ⟨⟨h1, h2, h3⟩, h4, h5⟩ := h
  refine List.all_eq_true.mpr fun c m => ?_
  have a := of_decide_eq_true (List.all_eq_true.mp h1 c m)
  have b := List.all_eq_true.mp h3 c m
  have d := List.any_eq_false.mp h5 c m
  obtain ⟨q1, q2, q3, q4⟩ := asc_at a
  rw [q1] at b
  rw [q3] at d
  simpa [d] using b
theorem pre8_of {c : Nat} {r : List Nat} (hc : isLet c = true) (h : (c :: r).all isSgn = true) : pre8 (c :: r) = true := by
  have asc : ∀ d ∈ c :: r, d < 128 := fun d m => sgn_asc (List.all_eq_true.mp h d m)
  unfold pre8
  simp only [Bool.and_eq_true, decide_eq_true_eq, Bool.not_eq_true']
  refine ⟨⟨List.all_eq_true.mpr fun d m => decide_eq_true (asc d m), Nat.succ_pos _, List.all_eq_true.mpr fun d m => ?_⟩, List.any_eq_true.mpr ⟨c, List.mem_cons_self, ?_⟩, List.any_eq_false.mpr fun d m => ?_⟩
  · rw [(asc_at (asc d m)).1, List.all_eq_true.mp h d m, Bool.true_or]
  · rw [(asc_at (asc c List.mem_cons_self)).2.1, hc]
  · rw [(asc_at (asc d m)).2.2.1]
    have q := List.all_eq_true.mp h d m
    unfold isSgn isLet at q
    simp only [Bool.or_eq_true, Bool.and_eq_true, decide_eq_true_eq] at q
    simp only [Bool.and_eq_true, decide_eq_true_eq]
    omega
theorem nmB_pre {c : Nat} {r : List Nat} (h : pre8 (c :: r) = true) : nmB (c :: r) = (Unicode.isAlpha c && decide ((c :: r).length ≤ 12)) := by
  have sg := pre8_sgn h
  rw [List.all_cons, Bool.and_eq_true] at sg
  have asc := sgn_asc sg.1
  obtain ⟨q1, q2, q3, q4⟩ := asc_at asc
  have al : Unicode.isAlpha c = isLet c := by
    have s := sg.1
    unfold isSgn at s
    rw [q4]
    unfold isLet at s ⊢
    rw [Bool.eq_iff_iff]
    simp only [Bool.or_eq_true, Bool.and_eq_true, decide_eq_true_eq] at s ⊢
    omega
  show (isLet c && r.all isSgn && decide (r.length ≤ 11)) = _
  rw [sg.2, al, Bool.and_true, List.length_cons]
  congr 1
  exact decide_eq_decide.mpr ⟨fun h => by omega, fun h => by omega⟩
theorem pre8_eq (z : Str) : (Txt.isascii z && Txt.isalnum z && Txt.islower z) = pre8 z.cps.toList := by
  unfold Txt.isascii Txt.isalnum Txt.islower pre8
  rw [all_cps, all_cps, any_cps, any_cps, length_toList]
theorem nmB_no {l : List Nat} (h : pre8 l = false) : nmB l = false := by
  cases l with
  | nil => rfl
  | cons c r =>
    cases e : nmB (c :: r) with
    | false => rfl
    | true =>
      have e : (isLet c && r.all isSgn && decide (r.length ≤ 11)) = true := e
      simp only [Bool.and_eq_true] at e
      have sg : isSgn c = true := by
        unfold isSgn
        rw [e.1.1, Bool.true_or]
      rw [pre8_of e.1.1 (by rw [List.all_cons, sg, e.1.2, Bool.and_self])] at h
      cases h
section
variable {P : Program} {w : World} {K : PySem.W.Frag} {mg : Str → Option Value} {base : Heap}
theorem scIN : FnScope ["value"] ["value"] (defScope sIsN) := ⟨rfl, rfl, rfl, by decide +kernel, rfl, by decide +kernel, by decide +kernel⟩
theorem ok_isN {f : Addr} {fd : FuncData} (F : Fun K "is_name" "is_name" sIsN f fd) {t3 : Tok} (mM : mg "LONGEST_NAME" = some (.int 12 t3))
    (mi : mg "isinstance" = none) (mst : mg "str" = none) (ml : mg "len" = none) :
    FnOk P w K mg base CX0 1 f fd ["value"] (spIsN K) := by
  refine F.ok scIN (fun vs H Q E h => ?_) (fun cdv A outer s H vs Q E hr h => ?_)
  · obtain ⟨x, rfl, _⟩ := h
    rfl
  · obtain ⟨x, rfl, h⟩ := h
    refine ⟨_, pss_one (ps_ret (pe_and (pe_callB call_isi (by rfl) mi (by decide +kernel) (pa_cons (pv 0) (pa_cons (pe_bltn (v := .ty "str") (by rfl) mst (by decide +kernel) rfl) pa_nil)))
      (pe_and (pe_m0 PySem.F.slot_str_isascii PySem.F.type_str_isascii mt_isascii (pv 0))
      (pe_and (pe_m0 PySem.F.slot_str_isalnum PySem.F.type_str_isalnum mt_isalnum (pv 0))
      (pe_and (pe_m0 PySem.F.slot_str_islower PySem.F.type_str_islower mt_islower (pv 0))
      (pe_and (pe_m0 PySem.F.slot_str_isalpha PySem.F.type_str_isalpha mt_isalpha (pe_ix ix_str (pv 0) pe_int (fun _ _ => rfl)))
        (pe_one (pe_cmpR op_le (pe_callB call_len_str (by rfl) ml (by decide +kernel) (pa_cons (pv 0) pa_nil)) (pe_glob (v := .int 12) (by rfl) mM ⟨_, rfl⟩) (by rfl))))))))), ?_⟩
    rcases h with ⟨z, rfl, hz, k⟩ | ⟨⟨n, ty, kb⟩, k⟩
    · have szl : z.length ≤ sizeLine := by rw [sizeLine_eq]; omega
      have no : pre8 z.cps.toList = false → Q (.bl false) H := fun e => by
        have q := k H fun _ _ e => e
        rw [nmB_no e] at q
        exact q
      have pe := pre8_eq z
      refine ⟨_, rfl, _, .ty "str", _, _, true, rfl, .ty "str", .base (.str z), kit_ty (by decide +kernel), _, rfl, ?_⟩
      refine iteT ?_
      refine ⟨_, rfl, ⟨_, rfl⟩, _, rfl, rfl, trivial, _, rfl, ?_⟩
      cases eA : Txt.isascii z with
      | false => exact iteF (no (by rw [← pe, eA, Bool.false_and, Bool.false_and]))
      | true =>
        refine iteT ⟨_, rfl, ⟨_, rfl⟩, _, rfl, rfl, trivial, _, rfl, ?_⟩
        cases eB : Txt.isalnum z with
        | false => exact iteF (no (by rw [← pe, eB, Bool.and_false, Bool.false_and]))
        | true =>
          refine iteT ⟨_, rfl, ⟨_, rfl⟩, _, rfl, rfl, trivial, _, rfl, ?_⟩
          cases eC : Txt.islower z with
          | false => exact iteF (no (by rw [← pe, eC, Bool.and_false]))
          | true =>
            have p8 : pre8 z.cps.toList = true := by rw [← pe, eA, eB, eC]; rfl
            have lz : z.cps.toList.length = z.length := length_toList z
            have k' := k H fun _ _ e => e
            cases hc : z.cps.toList with
            | nil =>
              rw [hc] at p8
              cases p8
            | cons c r =>
              rw [hc] at p8 k' lz
              rw [nmB_pre p8] at k'
              refine iteT ⟨_, rfl, z, 0, c, rfl, rfl, szl, by rw [hc]; exact atI_nat (j := 0) rfl, ⟨_, rfl⟩, _, rfl, rfl, trivial, _, rfl, ?_⟩
              have ea : Txt.isalpha ⟨#[c]⟩ = Unicode.isAlpha c := by
                unfold Txt.isalpha
                simp [Str.length]
              rw [ea]
              cases eD : Unicode.isAlpha c with
              | false =>
                rw [eD, Bool.false_and] at k'
                exact iteF k'
              | true =>
                rw [eD, Bool.true_and] at k'
                refine iteT ⟨_, rfl, z, rfl, szl, _, _, rfl, rfl, ?_⟩
                have e : decide ((z.length : Int) ≤ 12) = decide ((c :: r).length ≤ 12) := decide_eq_decide.mpr ⟨fun h => by omega, fun h => by omega⟩
                rw [← e] at k'
                exact k'
    · refine ⟨_, rfl, _, .ty "str", _, _, false, rfl, .ty "str", ty, kit_ty kb, _, rfl, ?_⟩
      exact iteF k
end
end L2.LawH
set_option Elab.async false
set_option linter.all false
set_option maxRecDepth 100000
set_option maxHeartbeats 4000000
/-! is_variable, is_pattern, is_fact. -/
namespace L2.LawH
open PySem PySem.Spec PyProof.Rows L2.Cmp L2.TxtSet
abbrev sIsV9 : Stmt := top 9
abbrev sIsP9 : Stmt := top 10
abbrev sIsF9 : Stmt := top 11
def varB (z : Str) : Bool := isV z && nmB (z.cps.toList.drop 1)
theorem cut_tail (z : Str) : (cutS z (some 1) none).cps.toList = z.cps.toList.drop 1 := by
  have l : z.cps.toList.length = z.length := length_toList z
  have e1 : HT.sIx z.length 0 (some 1) = min 1 z.length := HT.sIx_nat z.length 0 1
  unfold cutS
  rw [e1, HT.sIx_none]
  show (z.cps.toList.drop (min 1 z.length)).take (z.length - min 1 z.length) = _
  cases hc : z.cps.toList with
  | nil => simp
  | cons c r =>
    rw [hc, List.length_cons] at l
    have m : min 1 z.length = 1 := by omega
    rw [m]
    have e : z.length - 1 = r.length := by omega
    rw [e]
    simp
/-- names and variables among values -/
def vN : V → Bool
  | .str z => nmB z.cps.toList
  | _ => false
def vV : V → Bool
  | .str z => varB z
  | _ => false
/-- a value that may be asked -/
def Okv (K : PySem.W.Frag) (H : Hp) (x : V) : Prop := (∃ z : Str, x = .str z ∧ z.length ≤ 100000) ∨ (NotS K H x ∧ ∀ z, x ≠ .str z)
theorem tyx_same {K : PySem.W.Frag} {H H' : Hp} (s : Same H H') {x : V} {t : Value} (h : TyX K H x t) : TyX K H' x t := by
  cases h with
  | base b =>
    refine .base ?_
    cases b with
    | non => exact .non
    | bl x => exact .bl x
    | int i => exact .int i
    | str x => exact .str x
    | flt x => exact .flt x
    | lst e => exact .lst (s _ _ e)
    | frz e => exact .frz (s _ _ e)
    | tup e => exact .tup (s _ _ e)
    | dK e => exact .dK (s _ _ e)
    | dT e => exact .dT (s _ _ e)
    | ins e cl ha hn htk hm => exact .ins (s _ _ e) cl ha hn htk hm
  | byt b => exact .byt b
  | set e => exact .set (s _ _ e)
  | kList e c => exact .kList e c
  | kTuple e c => exact .kTuple e c
  | kDict e c => exact .kDict e c
  | fTuple e => exact .fTuple (s _ _ e)
  | fDict e => exact .fDict (s _ _ e)
theorem Okv.same {K : PySem.W.Frag} {H H' : Hp} (s : Same H H') {x : V} (h : Okv K H x) : Okv K H' x := by
  rcases h with h | ⟨⟨n, ty, kb⟩, no⟩
  · exact .inl h
  · exact .inr ⟨⟨n, tyx_same s ty, kb⟩, no⟩
def NotT (K : PySem.W.Frag) (H : Hp) (x : V) : Prop := ∃ n : String, TyX K H x (.type n) ∧ kitB n "tuple" = some false
def patB (xs : List V) : Bool := match xs with
  | [] => false
  | x :: r => decide (r.length ≤ 3) && vN x && r.all fun y => vN y || vV y
def factB (xs : List V) : Bool := patB xs && xs.all vN
def spIsVr (K : PySem.W.Frag) : Sp := fun vs H Q _ => ∃ x : V, vs = [x] ∧ Okv K H x ∧ ∀ H', Same H H' → Q (.bl (vV x)) H'
def spIsP (K : PySem.W.Frag) (f : List V → Bool) : Sp := fun vs H Q _ => ∃ x : V, vs = [x] ∧
  ((∃ (t : Addr) (xs : List V), x = .ref t ∧ H t = some (.tup xs) ∧ xs.length ≤ 100000 ∧ (∀ y ∈ xs, Okv K H y) ∧ ∀ H', Same H H' → Q (.bl (f xs)) H') ∨ (NotT K H x ∧ ∀ H', Same H H' → Q (.bl false) H'))
theorem isN_of {K : PySem.W.Frag} {H : Hp} {x : V} {Q : VK} {E : XK} (o : Okv K H x) (k : ∀ H', Same H H' → Q (.bl (vN x)) H') : spIsN K [x] H Q E := by
  refine ⟨x, rfl, ?_⟩
  rcases o with ⟨z, rfl, l⟩ | ⟨n, no⟩
  · exact .inl ⟨z, rfl, l, k⟩
  · refine .inr ⟨n, ?_⟩
    have e : vN x = false := by
      cases x with
      | str z => exact absurd rfl (no z)
      | _ => rfl
    have q := k H fun _ _ e => e
    rw [e] at q
    exact q
section
variable {P : Program} {w : World} {K : PySem.W.Frag} {mg : Str → Option Value} {base : Heap}
theorem scIV : FnScope ["value"] ["value"] (defScope sIsV9) := ⟨rfl, rfl, rfl, by decide +kernel, rfl, by decide +kernel, by decide +kernel⟩
theorem ok_isV {f fN : Addr} {fd fdN : FuncData} (F : Fun K "is_variable" "is_variable" sIsV9 f fd)
    (GN : FnOk P w K mg base CX0 1 fN fdN ["value"] (spIsN K)) (kN : PySem.W.keepIn K (.ref fN) = true) (bN : Binds K fdN ["value"] []) (mN : mg "is_name" = some (.ref fN))
    (mi : mg "isinstance" = none) (mst : mg "str" = none) :
    FnOk P w K mg base CX0 2 f fd ["value"] (spIsVr K) := by
  refine F.ok scIV (fun vs H Q E h => ?_) (fun cdv A outer s H vs Q E hr h => ?_)
  · obtain ⟨x, rfl, _⟩ := h
    rfl
  · obtain ⟨x, rfl, o, k⟩ := h
    have hr1 : Room 1 _ := hr.mono (by decide)
    refine ⟨_, pss_one (ps_ret (pe_and (pe_callB call_isi (by rfl) mi (by decide +kernel) (pa_cons (pv 0) (pa_cons (pe_bltn (v := .ty "str") (by rfl) mst (by decide +kernel) rfl) pa_nil)))
      (pe_and (pe_m1 PySem.F.slot_str_startswith PySem.F.type_str_startswith mt_startswith (pv 0) pe_str)
        (pe_one (pe_call GN hr1 (by rfl) mN kN bN .nil pass0 (pa_cons (pe_slice sl_str (pv 0) (po_some pe_int) po_none) pa_nil)))))), ?_⟩
    rcases o with ⟨z, rfl, l⟩ | ⟨⟨n, ty, kb⟩, no⟩
    · have kv : ∀ H', Same H H' → Q (.bl (varB z)) H' := k
      refine ⟨_, rfl, _, .ty "str", _, _, true, rfl, .ty "str", .base (.str z), kit_ty (by decide +kernel), _, rfl, ?_⟩
      refine iteT ?_
      refine ⟨_, rfl, ⟨_, rfl⟩, _, _, rfl, rfl, _, rfl, ?_⟩
      refine ite2 (fun h1 => ?_) (fun h1 => ?_)
      · have h1 : isV z = true := h1
        refine ⟨_, rfl, _, rfl, z, rfl, by rw [sizeLine_eq]; omega, ?_⟩
        refine isN_of (E := E0) (.inl ⟨_, rfl, Nat.le_trans (cutS_length z (some 1) none) l⟩) fun H' s => ?_
        have q := kv H' s
        unfold varB at q
        rw [h1, Bool.true_and, ← cut_tail] at q
        exact q
      · have h1 : isV z = false := by
          cases e : isV z with
          | false => rfl
          | true => exact absurd e h1
        have q := kv H fun _ _ e => e
        unfold varB at q
        rw [h1, Bool.false_and] at q
        exact q
    · refine ⟨_, rfl, _, .ty "str", _, _, false, rfl, .ty "str", ty, kit_ty kb, _, rfl, ?_⟩
      refine iteF ?_
      have q := k H fun _ _ e => e
      have e : vV x = false := by
        cases x with
        | str z => exact absurd rfl (no z)
        | _ => rfl
      rw [e] at q
      exact q
theorem scIP : FnScope ["value", "term"] ["value"] (defScope sIsP9) := ⟨rfl, rfl, rfl, by decide +kernel, rfl, by decide +kernel, by decide +kernel⟩
theorem ok_isP {f fN fV : Addr} {fd fdN fdV : FuncData} (F : Fun K "is_pattern" "is_pattern" sIsP9 f fd)
    (GN : FnOk P w K mg base CX0 1 fN fdN ["value"] (spIsN K)) (kN : PySem.W.keepIn K (.ref fN) = true) (bN : Binds K fdN ["value"] []) (mN : mg "is_name" = some (.ref fN))
    (GV : FnOk P w K mg base CX0 2 fV fdV ["value"] (spIsVr K)) (kV : PySem.W.keepIn K (.ref fV) = true) (bV : Binds K fdV ["value"] []) (mV : mg "is_variable" = some (.ref fV))
    {t3 : Tok} (mM : mg "MOST_TERMS" = some (.int 3 t3)) (mi : mg "isinstance" = none) (mtp : mg "tuple" = none) (ml : mg "len" = none) :
    FnOk P w K mg base CX0 3 f fd ["value"] (spIsP K patB) := by
  refine F.ok scIP (fun vs H Q E h => ?_) (fun cdv A outer s H vs Q E hr h => ?_)
  · obtain ⟨x, rfl, _⟩ := h
    rfl
  · obtain ⟨x, rfl, h⟩ := h
    have hr1 : Room 1 _ := hr.mono (by decide)
    have hr2 : Room 2 _ := hr.mono (by decide)
    refine ⟨_, pss_cons (ps_if (PW.pt (pw_or (pt_not (pt_val (pe_callB call_isi (by rfl) mi (by decide +kernel) (pa_cons (pv 0) (pa_cons (pe_bltn (v := .ty "tuple") (by rfl) mtp (by decide +kernel) rfl) pa_nil)))))
          (pw_or1 (pt_not (pt_chain op_le op_le pe_int (pe_callB call_len_seq (by rfl) ml (by decide +kernel) (pa_cons (pv 0) pa_nil)) (pe_op op_add pe_int (pe_glob (v := .int 3) (by rfl) mM ⟨_, rfl⟩))))))) (pss_one (ps_ret pe_bl)) pss_nil)
      (pss_cons (ps_for PassesOwn.never rfl (pi_tup (pe_slice sl_tup (pv 0) (po_some pe_int) po_none)) (pg_name (i := 1) scIP.nd rfl (Or.inl rfl))
        (pss_one (ps_if (PW.pt (pw_and (pt_not (pt_val (pe_call GN hr1 (by rfl) mN kN bN .nil pass0 (pa_cons (pv 1) pa_nil)))) (pw_and1 (pt_not (pt_val (pe_call GV hr2 (by rfl) mV kV bV .nil pass0 (pa_cons (pv 1) pa_nil)))))))
          (pss_one (ps_ret pe_bl)) pss_nil)))
      (pss_one (ps_ret (pe_call GN hr1 (by rfl) mN kN bN .nil pass0 (pa_cons (pe_ix ix_tup (pv 0) pe_int (fun _ _ => rfl)) pa_nil))))), ?_⟩
    rcases h with ⟨t, xs, rfl, ht, lx, okx, k⟩ | ⟨⟨n, ty, kb⟩, k⟩
    · have big : ¬ (1 ≤ xs.length ∧ xs.length ≤ 4) → Q (.bl false) H := fun no => by
        have q := k H fun _ _ e => e
        have e : patB xs = false := by
          cases xs with
          | nil => rfl
          | cons x r =>
            rw [List.length_cons] at no
            show (decide (r.length ≤ 3) && vN x && r.all fun y => vN y || vV y) = false
            rw [decide_eq_false (by omega), Bool.false_and, Bool.false_and]
        rw [e] at q
        exact q
      refine ⟨_, rfl, _, .ty "tuple", _, _, true, rfl, .ty "tuple", .base (.tup ht), kit_ty (by decide +kernel), _, rfl, ?_⟩
      refine iteF ?_
      refine ⟨_, rfl, t, _, rfl, .inr (SqT.of ht), _, _, rfl, rfl, _, rfl, ?_⟩
      refine ite2 (fun l1 => ⟨_, _, rfl, rfl, _, _, rfl, rfl, _, rfl, ?_⟩) (fun l1 => ⟨_, rfl, iteT (big fun y => l1 (decide_eq_true (by omega)))⟩)
      have l1 : (1 : Int) ≤ xs.length := of_decide_eq_true l1
      refine ite2 (fun l2 => ?_) (fun l2 => ?_)
      · have l2' : ¬ ((xs.length : Int) ≤ 1 + 3) := fun y => by
          rw [decide_eq_true y] at l2
          cases l2
        exact big fun y => l2' (by omega)
      · have l2' : (xs.length : Int) ≤ 1 + 3 := by
          by_cases y : (xs.length : Int) ≤ 1 + 3
          · exact y
          · rw [decide_eq_false y] at l2
            exact absurd rfl l2
        cases xs with
        | nil =>
          rw [List.length_nil] at l1
          omega
        | cons y r =>
          have lr : r.length ≤ 3 := by
            rw [List.length_cons] at l2'
            omega
          have k : ∀ H', Same H H' → Q (.bl (vN y && r.all fun y => vN y || vV y)) H' := fun H' s => by
            have q := k H' s
            have e : patB (y :: r) = (vN y && r.all fun y => vN y || vV y) := by
              show (decide (r.length ≤ 3) && vN y && r.all fun y => vN y || vV y) = _
              rw [decide_eq_true lr, Bool.true_and]
            rw [e] at q
            exact q
          refine ⟨_, rfl, _, rfl, t, _, rfl, SqT.of ht, cut_part _ _, fun u nu => ⟨u, rfl, ⟨_, SqT.of upd_same⟩, ?_⟩⟩
          rw [cut_one]
          refine for_tup (xs := r) (fun i σ H5 => ∃ v1, σ = [some (.ref t), v1] ∧ Same H H5 ∧ H5 u = some (.tup r) ∧ ((r.take i).all fun y => vN y || vV y) = true)
            ⟨none, rfl, same_new nu, upd_same, rfl⟩ (fun i σ H5 _ p => ?_) (fun i x σ H5 hx p => ?_) (fun σ H5 p => ?_)
          · obtain ⟨_, _, _, p2, _⟩ := p
            exact SqT.of p2
          · obtain ⟨v1, rfl, p1, p2, p3⟩ := p
            have ox : Okv K H x := okx x (List.mem_cons_of_mem _ (List.mem_of_getElem? hx))
            have more : (vN x || vV x) = true → ((r.take (i + 1)).all fun y => vN y || vV y) = true := fun e => by
              rw [List.take_add_one, hx, List.all_append, p3]
              simpa using e
            have less : (vN x || vV x) = false → ∀ H', Same H H' → Q (.bl false) H' := fun e H' s => by
              have q := k H' s
              have n : (r.all fun y => vN y || vV y) = false := by
                rw [List.all_eq_false]
                exact ⟨x, List.mem_of_getElem? hx, by rw [e]; decide⟩
              rw [n, Bool.and_false] at q
              exact q
            refine ⟨_, rfl, ?_⟩
            dsimp only [tNil, List.cons_append, List.nil_append]
            refine isN_of (K := K) (E := E0) (ox.same p1) fun H6 s6 => ⟨_, rfl, ?_⟩
            cases en : vN x with
            | true =>
              refine iteF ⟨_, rfl, p1.trans s6, s6 _ _ p2, more (by rw [en]; rfl)⟩
            | false =>
              refine iteT ⟨_, rfl, x, rfl, ox.same (p1.trans s6), fun H7 s7 => ⟨_, rfl, ?_⟩⟩
              cases ev : vV x with
              | true => exact iteF ⟨_, rfl, (p1.trans s6).trans s7, s7 _ _ (s6 _ _ p2), more (by rw [ev, Bool.or_true])⟩
              | false => exact iteT (less (by rw [en, ev]; rfl) _ ((p1.trans s6).trans s7))
          · obtain ⟨v1, rfl, p1, p2, p3⟩ := p
            rw [List.take_length] at p3
            refine ⟨_, rfl, t, _, 0, y, rfl, rfl, SqT.of (p1 _ _ ht), atI_nat (j := 0) rfl, ?_⟩
            dsimp only [tNil, List.cons_append, List.nil_append]
            refine isN_of (K := K) (E := E0) ((okx y List.mem_cons_self).same p1) fun H1 s1 => ?_
            have q := k H1 (p1.trans s1)
            rw [p3, Bool.and_true] at q
            exact q
    · refine ⟨_, rfl, _, .ty "tuple", _, _, false, rfl, .ty "tuple", ty, kit_ty kb, _, rfl, ?_⟩
      exact iteT (k H fun _ _ e => e)
end
end L2.LawH
set_option Elab.async false
set_option linter.all false
set_option maxRecDepth 100000
set_option maxHeartbeats 4000000
/-! is_fact. -/
namespace L2.LawH
open PySem PySem.Spec PyProof.Rows L2.Cmp L2.TxtSet
abbrev sIsF10 : Stmt := top 11
section
variable {P : Program} {w : World} {K : PySem.W.Frag} {mg : Str → Option Value} {base : Heap}
theorem scIF : FnScope ["value", "term"] ["value"] (defScope sIsF10) := ⟨rfl, rfl, rfl, by decide +kernel, rfl, by decide +kernel, by decide +kernel⟩
theorem factB_eq {xs : List V} (h0 : 1 ≤ xs.length) (h : xs.length ≤ 4) : factB xs = xs.all vN := by
  cases xs with
  | nil => cases h0
  | cons y r =>
    rw [List.length_cons] at h
    show ((decide (r.length ≤ 3) && vN y && (r.all fun y => vN y || vV y)) && (vN y && r.all vN)) = (vN y && r.all vN)
    rw [decide_eq_true (by omega), Bool.true_and]
    cases e : r.all vN with
    | false => simp
    | true =>
      have e2 : (r.all fun y => vN y || vV y) = true := List.all_eq_true.mpr fun x m => by rw [List.all_eq_true.mp e x m, Bool.true_or]
      rw [e2]
      simp
theorem factB_no {xs : List V} (h : ¬ (1 ≤ xs.length ∧ xs.length ≤ 4)) : factB xs = false := by
  cases xs with
  | nil => rfl
  | cons y r =>
    rw [List.length_cons] at h
    show ((decide (r.length ≤ 3) && vN y && (r.all fun y => vN y || vV y)) && (vN y && r.all vN)) = false
    rw [decide_eq_false (by omega), Bool.false_and, Bool.false_and, Bool.false_and]
theorem ok_isF {f fN : Addr} {fd fdN : FuncData} (F : Fun K "is_fact" "is_fact" sIsF10 f fd)
    (GN : FnOk P w K mg base CX0 1 fN fdN ["value"] (spIsN K)) (kN : PySem.W.keepIn K (.ref fN) = true) (bN : Binds K fdN ["value"] []) (mN : mg "is_name" = some (.ref fN))
    {t3 : Tok} (mM : mg "MOST_TERMS" = some (.int 3 t3)) (mi : mg "isinstance" = none) (mtp : mg "tuple" = none) (ml : mg "len" = none) :
    FnOk P w K mg base CX0 4 f fd ["value"] (spIsP K factB) := by
  refine F.ok scIF (fun vs H Q E h => ?_) (fun cdv A outer s H vs Q E hr h => ?_)
  · obtain ⟨x, rfl, _⟩ := h
    rfl
  · obtain ⟨x, rfl, h⟩ := h
    have hr1 : Room 1 _ := hr.mono (by decide)
    refine ⟨_, pss_cons (ps_if (PW.pt (pw_or (pt_not (pt_val (pe_callB call_isi (by rfl) mi (by decide +kernel) (pa_cons (pv 0) (pa_cons (pe_bltn (v := .ty "tuple") (by rfl) mtp (by decide +kernel) rfl) pa_nil)))))
          (pw_or1 (pt_not (pt_chain op_le op_le pe_int (pe_callB call_len_seq (by rfl) ml (by decide +kernel) (pa_cons (pv 0) pa_nil)) (pe_op op_add pe_int (pe_glob (v := .int 3) (by rfl) mM ⟨_, rfl⟩))))))) (pss_one (ps_ret pe_bl)) pss_nil)
      (pss_cons (ps_for PassesOwn.never rfl (pi_tup (pv 0)) (pg_name (i := 1) scIF.nd rfl (Or.inl rfl))
        (pss_one (ps_if (pt_not (pt_val (pe_call GN hr1 (by rfl) mN kN bN .nil pass0 (pa_cons (pv 1) pa_nil)))) (pss_one (ps_ret pe_bl)) pss_nil)))
      (pss_one (ps_ret pe_bl))), ?_⟩
    rcases h with ⟨t, xs, rfl, ht, lx, okx, k⟩ | ⟨⟨n, ty, kb⟩, k⟩
    · have big : ¬ (1 ≤ xs.length ∧ xs.length ≤ 4) → Q (.bl false) H := fun no => by
        have q := k H fun _ _ e => e
        rw [factB_no no] at q
        exact q
      refine ⟨_, rfl, _, .ty "tuple", _, _, true, rfl, .ty "tuple", .base (.tup ht), kit_ty (by decide +kernel), _, rfl, ?_⟩
      refine iteF ?_
      refine ⟨_, rfl, t, _, rfl, .inr (SqT.of ht), _, _, rfl, rfl, _, rfl, ?_⟩
      refine ite2 (fun l1 => ⟨_, _, rfl, rfl, _, _, rfl, rfl, _, rfl, ?_⟩) (fun l1 => ⟨_, rfl, iteT (big fun y => l1 (decide_eq_true (by omega)))⟩)
      have l1 : (1 : Int) ≤ xs.length := of_decide_eq_true l1
      refine ite2 (fun l2 => ?_) (fun l2 => ?_)
      · have l2' : ¬ ((xs.length : Int) ≤ 1 + 3) := fun y => by
          rw [decide_eq_true y] at l2
          cases l2
        exact big fun y => l2' (by omega)
      · have l2' : (xs.length : Int) ≤ 1 + 3 := by
          by_cases y : (xs.length : Int) ≤ 1 + 3
          · exact y
          · rw [decide_eq_false y] at l2
            exact absurd rfl l2
        rw [factB_eq (by omega) (by omega)] at k
        refine ⟨_, rfl, t, rfl, ⟨_, SqT.of ht⟩, ?_⟩
        refine for_tup (xs := xs) (fun i σ H5 => ∃ v1, σ = [some (.ref t), v1] ∧ Same H H5 ∧ ((xs.take i).all vN) = true)
          ⟨none, rfl, fun _ _ e => e, rfl⟩ (fun i σ H5 _ p => ?_) (fun i x σ H5 hx p => ?_) (fun σ H5 p => ?_)
        · obtain ⟨_, _, p1, _⟩ := p
          exact SqT.of (p1 _ _ ht)
        · obtain ⟨v1, rfl, p1, p3⟩ := p
          have ox : Okv K H x := okx x (List.mem_of_getElem? hx)
          refine ⟨_, rfl, ?_⟩
          dsimp only [tNil, List.cons_append, List.nil_append]
          refine isN_of (K := K) (E := E0) (ox.same p1) fun H6 s6 => ⟨_, rfl, ?_⟩
          cases en : vN x with
          | true =>
            refine iteF ⟨_, rfl, p1.trans s6, ?_⟩
            rw [List.take_add_one, hx, List.all_append, p3]
            simpa using en
          | false =>
            have q := k H6 (p1.trans s6)
            have n : xs.all vN = false := by
              rw [List.all_eq_false]
              exact ⟨x, List.mem_of_getElem? hx, by rw [en]; decide⟩
            rw [n] at q
            exact iteT q
        · obtain ⟨v1, rfl, p1, p3⟩ := p
          rw [List.take_length] at p3
          have q := k H5 p1
          rw [p3] at q
          exact q
    · refine ⟨_, rfl, _, .ty "tuple", _, _, false, rfl, .ty "tuple", ty, kit_ty kb, _, rfl, ?_⟩
      exact iteT (k H fun _ _ e => e)
end
end L2.LawH
set_option Elab.async false
set_option linter.all false
set_option maxRecDepth 100000
set_option maxHeartbeats 4000000
/-! filled. -/
namespace L2.LawH
open PySem PySem.Spec PyProof.Rows L2.Cmp L2.TxtSet
abbrev sFil : Stmt := top 8
/-- what a term is replaced by -/
def fillV (kvs : List (Key × V)) (z : Str) : V := (valV kvs (Sum.inr z)).getD (.str z)
def spFil : Sp := fun vs H Q _ => ∃ (t d : Addr) (zs : List Str) (kvs : List (Key × V)), vs = [.ref t, .ref d] ∧ H t = some (.tup (zs.map V.str)) ∧ H d = some (.dK kvs) ∧ zs.length ≤ 1000 ∧
  ∀ (u : Addr) (H' : Hp), Same H H' → H u = none → H' u = some (.tup (zs.map (fillV kvs))) → Q (.ref u) H'
section
variable {P : Program} {w : World} {K : PySem.W.Frag} {mg : Str → Option Value} {base : Heap}
end
end L2.LawH
set_option Elab.async false
set_option linter.all false
set_option maxRecDepth 100000
set_option maxHeartbeats 4000000
/-! pattern_text. -/
namespace L2.LawH
open PySem PySem.Spec PyProof.Rows L2.Cmp L2.TxtSet
abbrev sPt12 : Stmt := top 12
theorem len_app (a b : Str) : (a ++ b).length = a.length + b.length := by
  rw [← length_toList, toList_append, List.length_append, length_toList, length_toList]
theorem join_len (sep : Str) : ∀ ys : List Str, (Str.join sep ys).length ≤ (ys.map (·.length)).sum + ys.length * sep.length
  | [] => Nat.zero_le _
  | [x] => by
    show x.length ≤ _
    simp
  | x :: y :: r => by
    have ih := join_len sep (y :: r)
    show (x ++ sep ++ Str.join sep (y :: r)).length ≤ _
    rw [len_app, len_app, List.map_cons, List.sum_cons, List.length_cons, Nat.succ_mul]
    omega
theorem sum_le (B : Nat) : ∀ ys : List Str, (∀ y ∈ ys, y.length ≤ B) → (ys.map (·.length)).sum ≤ ys.length * B
  | [], _ => Nat.zero_le _
  | x :: r, h => by
    have ih := sum_le B r fun y m => h y (List.mem_cons_of_mem _ m)
    have hx := h x List.mem_cons_self
    rw [List.map_cons, List.sum_cons, List.length_cons, Nat.succ_mul]
    omega
/-- the text of a pattern, as it is put together -/
def ptext (T : Str) (zs : List Str) : Str := Str.empty ++ T ++ "(" ++ Txt.join "," zs ++ ")"
def spPtx : Sp := fun vs H Q _ => ∃ (t : Addr) (T : Str) (zs : List Str), vs = [.ref t] ∧ H t = some (.tup (.str T :: zs.map V.str)) ∧ zs.length ≤ 100 ∧ T.length ≤ 1000 ∧ (∀ z ∈ zs, z.length ≤ 1000) ∧
  ∀ H', Same H H' → Q (.str (ptext T zs)) H'
section
variable {P : Program} {w : World} {K : PySem.W.Frag} {mg : Str → Option Value} {base : Heap}
theorem scPx : FnScope ["pattern", "terms"] ["pattern"] (defScope sPt12) := ⟨rfl, rfl, rfl, by decide +kernel, rfl, by decide +kernel, by decide +kernel⟩
theorem ok_ptx {f : Addr} {fd : FuncData} (F : Fun K "pattern_text" "pattern_text" sPt12 f fd) : FnOk P w K mg base CX0 1 f fd ["pattern"] spPtx := by
  refine F.ok scPx (fun vs H Q E h => ?_) (fun cdv A outer s H vs Q E hr h => ?_)
  · obtain ⟨t, T, zs, rfl, _⟩ := h
    rfl
  · obtain ⟨t, T, zs, rfl, ht, few, lT, lz, k⟩ := h
    refine ⟨_, pss_cons (ps_set (i := 1) scPx.nd rfl (Or.inl rfl) (pe_join pe_str (pe_slice sl_tup (pv 0) (po_some pe_int) po_none)))
      (pss_one (ps_ret (pe_joined (.cons (pe_fmt (pe_ix ix_tup (pv 0) pe_int (fun _ _ => rfl))) (.cons pe_str (.cons (pe_fmt (pv 1)) (.cons pe_str .nil))))))), ?_⟩
    have e0 : Str.empty.length = 0 := rfl
    have s1 := sum_le 1000 zs lz
    have c1 : (("," : String) : Str).length = 1 := by decide +kernel
    have c2 : (("(" : String) : Str).length = 1 := by decide +kernel
    have c3 : (((")" : String)) : Str).length = 1 := by decide +kernel
    have jl : (Txt.join "," zs).length ≤ 110000 := by
      have q := join_len "," zs
      rw [c1] at q
      have e : Txt.join "," zs = Str.join "," zs := StrLaws.glued_eq_join _ _
      rw [e]
      refine Nat.le_trans q ?_
      have : zs.length * 1000 ≤ 100 * 1000 := Nat.mul_le_mul_right _ few
      omega
    refine ⟨⟨_, rfl⟩, _, rfl, _, rfl, t, _, rfl, SqT.of ht, cut_part _ _, fun u nu => ?_⟩
    rw [cut_one]
    refine ⟨_, u, zs, rfl, rfl, .inr (SqT.of upd_same), ?_, ?_⟩
    · rw [c1]
      have : zs.length * 1000 ≤ 100 * 1000 := Nat.mul_le_mul_right _ few
      omega
    · have ht2 := (same_new nu (o := .tup (zs.map V.str))) _ _ ht
      refine ⟨_, rfl, t, _, 0, _, rfl, rfl, SqT.of ht2, atI_nat (j := 0) rfl, .inl ⟨T, rfl, ?_, T, rfl, ?_, _, rfl, ?_, _, rfl, .inl ⟨_, rfl, ?_, _, rfl, ?_, _, rfl, ?_, ?_⟩⟩⟩
      · rw [sizeLine_eq]; omega
      · rw [len_app, e0, sizeLine_eq]; omega
      · rw [len_app, len_app, e0, c2, sizeLine_eq]; omega
      · rw [sizeLine_eq]; omega
      · rw [len_app, len_app, len_app, e0, c2, sizeLine_eq]; omega
      · rw [len_app, len_app, len_app, len_app, e0, c2, c3, sizeLine_eq]; omega
      · exact k _ (same_new nu)
end
end L2.LawH
set_option Elab.async false
set_option linter.all false
set_option maxRecDepth 100000
set_option maxHeartbeats 4000000
/-! _law_is_name. -/
namespace L2.LawH
open PySem PySem.Spec PyProof.Rows L2.Cmp L2.TxtSet
abbrev sLIN : Stmt := top 26
def spLIN (K : PySem.W.Frag) : Sp := fun vs H Q _ => ∃ x : V, vs = [x] ∧ ((∃ z : Str, x = .str z ∧ z.length ≤ 100000 ∧ (∀ c ∈ z.cps.toList, c < 0x110000) ∧ ∀ H', Same H H' → Q (.bl (nmB z.cps.toList)) H') ∨ (NotS K H x ∧ Q (.bl false) H))
def one (c : Nat) : Str := ⟨#[c]⟩
section
variable {P : Program} {w : World} {K : PySem.W.Frag} {mg : Str → Option Value} {base : Heap}
theorem scLIN : FnScope ["_law_value", "_law_sign"] ["_law_value"] (defScope sLIN) := ⟨rfl, rfl, rfl, by decide +kernel, rfl, by decide +kernel, by decide +kernel⟩
theorem ok_LIN {f : Addr} {fd : FuncData} (F : Fun K "_law_is_name" "_law_is_name" sLIN f fd) (mi : mg "isinstance" = none) (mst : mg "str" = none) (ml : mg "len" = none) :
    FnOk P w K mg base CX0 1 f fd ["_law_value"] (spLIN K) := by
  refine F.ok scLIN (fun vs H Q E h => ?_) (fun cdv A outer s H vs Q E hr h => ?_)
  · obtain ⟨x, rfl, _⟩ := h
    rfl
  · obtain ⟨x, rfl, h⟩ := h
    have hu := hr.units
    refine ⟨_, pss_cons (ps_if (PW.pt (pw_or (pt_not (pt_val (pe_callB call_isi (by rfl) mi (by decide +kernel) (pa_cons (pv 0) (pa_cons (pe_bltn (v := .ty "str") (by rfl) mst (by decide +kernel) rfl) pa_nil)))))
          (pw_or (pt_not (pt_chain op_le op_le pe_int (pe_callB call_len_str (by rfl) ml (by decide +kernel) (pa_cons (pv 0) pa_nil)) pe_int))
            (pw_or1 (pt_cmpR op_notin_str (pe_ix ix_str (pv 0) pe_int (fun _ _ => rfl)) pe_str (by rfl)))))) (pss_one (ps_ret pe_bl)) pss_nil)
      (pss_one (ps_ret (pe_cmpR (op_eqD hu) (pe_lc (own := [("_law_sign", 1)]) (g := gName 1) (tt := tTest (tOp (fun x y H Q => ∃ i j, x = .str i ∧ y = .str j ∧ Q (.bl (!(!(Builtin.Str.occurrences j i 0 j.length 1).isEmpty))) H) (tVar 1) (tC (.str sgnS8)))) rfl scLIN.nd (pi_str (pv 0))
          (blkOk_by (own := [("_law_sign", 1)]) (N := ["_law_value", "_law_sign"]) (sc := defScope sLIN) (by decide +kernel)) (fun _ _ _ _ _ => pg_name (i := 1) scLIN.nd rfl (Or.inl rfl)) (fun _ _ _ _ _ => pts_one (pt_cmpR op_notin_str (pv 1) pe_str (by rfl)))
          (fun _ _ _ _ _ => pv 1)) (pe_lst pa_nil) (by rfl)))), ?_⟩
    rcases h with ⟨z, rfl, hz, hcs, k⟩ | ⟨⟨n, ty, kb⟩, k⟩
    · have szl : z.length ≤ sizeLine := by rw [sizeLine_eq]; omega
      have lz : z.cps.toList.length = z.length := length_toList z
      have big : ¬ (1 ≤ z.length ∧ z.length ≤ 12) → Q (.bl false) H := fun no => by
        have q := k H fun _ _ e => e
        have e : nmB z.cps.toList = false := by
          cases hc : z.cps.toList with
          | nil => rfl
          | cons c r =>
            rw [hc, List.length_cons] at lz
            show (isLet c && r.all isSgn && decide (r.length ≤ 11)) = false
            rw [decide_eq_false (by omega), Bool.and_false]
        rw [e] at q
        exact q
      refine ⟨_, rfl, _, .ty "str", _, _, true, rfl, .ty "str", .base (.str z), kit_ty (by decide +kernel), _, rfl, ?_⟩
      refine iteF ?_
      refine ⟨_, rfl, z, rfl, szl, _, _, rfl, rfl, _, rfl, ?_⟩
      refine ite2 (fun l1 => ⟨_, _, rfl, rfl, _, rfl, ?_⟩) (fun l1 => ⟨_, rfl, iteT (big fun y => l1 (decide_eq_true (by omega)))⟩)
      have l1 : (1 : Int) ≤ z.length := of_decide_eq_true l1
      refine ite2 (fun l2 => ?_) (fun l2 => ?_)
      · have l2' : ¬ ((z.length : Int) ≤ 12) := fun y => by
          rw [decide_eq_true y] at l2
          cases l2
        exact big fun y => l2' (by omega)
      · have l2' : (z.length : Int) ≤ 12 := by
          by_cases y : (z.length : Int) ≤ 12
          · exact y
          · rw [decide_eq_false y] at l2
            exact absurd rfl l2
        cases hc : z.cps.toList with
        | nil =>
          rw [hc] at lz
          have : z.length = 0 := lz.symm
          omega
        | cons c r =>
          have lr : r.length ≤ 11 := by
            rw [hc, List.length_cons] at lz
            omega
          rw [hc, nmB_eq c r lr] at k
          refine ⟨_, rfl, z, 0, c, rfl, rfl, szl, by rw [hc]; exact atI_nat (j := 0) rfl, _, _, rfl, rfl, _, rfl, ?_⟩
          rw [in_let]
          cases el : isLet c with
          | false =>
            rw [el, Bool.false_and] at k
            exact iteT (k H fun _ _ e => e)
          | true =>
            rw [el, Bool.true_and] at k
            refine iteF ⟨_, rfl, z, rfl, fun D nD => ?_⟩
            refine ⟨fun i m H5 => m = z.cps.size - i ∧ i ≤ z.cps.size ∧ Same H H5 ∧ H5 D = some (.lst ((((z.cps.toList.take i).filter fun c => !isSgn c).map one).map V.str)), ⟨_, rfl, Nat.zero_le _, same_new nD, upd_same⟩, ?_⟩
            rintro i m H5 ⟨rfl, hi, s5, h5⟩
            have sz : z.cps.size = z.cps.toList.length := by rw [Array.length_toList]
            rcases Nat.lt_or_eq_of_le hi with lt | rfl
            · refine .inr ⟨lt, fun H6 => Same H H6 ∧ H6 D = some (.lst ((((z.cps.toList.take (i + 1)).filter fun c => !isSgn c).map one).map V.str)), fun H6 p => ⟨_, by omega, rfl, lt, p.1, p.2⟩, ?_⟩
              rintro _ _ ⟨rfl, c2, hc2, rfl⟩
              have hc3 : z.cps.toList[i]? = some c2 := by rw [Array.getElem?_toList]; exact hc2
              refine ⟨rfl, _, rfl, _, _, rfl, rfl, _, rfl, ?_⟩
              rw [in_sgn]
              cases es : isSgn c2 with
              | false =>
                refine iteT ⟨_, rfl, _, h5, ?_, fun b o e => ?_, ?_⟩
                · rw [List.length_map, List.length_map]
                  refine Nat.lt_of_le_of_lt (List.length_filter_le _ _) ?_
                  rw [List.length_take, sizeLine_eq]
                  omega
                · rw [upd_ne (ne_of_none e nD)]
                  exact s5 b o e
                · rw [upd_same, List.take_add_one, hc3]
                  simp [es, one]
              | true =>
                refine iteF ⟨s5, ?_⟩
                rw [List.take_add_one, hc3, List.filter_append]
                simp only [Option.toList_some, List.filter_cons, es, Bool.not_true, Bool.false_eq_true, if_false, List.filter_nil, List.append_nil]
                exact h5
            · rw [sz, List.take_length] at h5
              refine .inl ⟨Nat.le_refl _, ?_⟩
              refine ⟨by show 0 ≤ sizeLine; decide, fun p np => ?_⟩
              have np' : p ≠ D := fun e => by
                rw [e, h5] at np
                cases np
              refine ⟨_, _, .lst (SqL.of ((same_new np) _ _ h5)) (dp_strs _), .lst (SqL.of upd_same) .nil, shaped_strs fun y hy => ?_, by decide, ?_⟩
              · obtain ⟨c3, m3, rfl⟩ := List.mem_map.mp hy
                refine ok_list fun c4 m4 => ?_
                have e4 : c4 = c3 := by simpa [one] using m4
                rw [e4]
                exact hcs c3 (List.mem_filter.mp m3).1
              · rw [eqv_nil]
                have q := k (upd H5 p (.lst [])) (s5.trans (same_new np))
                have e : decide (List.map one (List.filter (fun c => !isSgn c) z.cps.toList) = []) = (c :: r).all isSgn := by
                  rw [hc, Bool.eq_iff_iff, decide_eq_true_iff, List.map_eq_nil_iff, List.filter_eq_nil_iff, List.all_eq_true]
                  exact ⟨fun h x m => by simpa using h x m, fun h x m => by simp [h x m]⟩
                rw [e]
                exact q
    · refine ⟨_, rfl, _, .ty "str", _, _, false, rfl, .ty "str", ty, kit_ty kb, _, rfl, ?_⟩
      exact iteT k
end
end L2.LawH
set_option Elab.async false
set_option linter.all false
set_option maxRecDepth 100000
set_option maxHeartbeats 4000000
/-! _law_is_term. -/
namespace L2.LawH
open PySem PySem.Spec PyProof.Rows L2.Cmp L2.TxtSet
abbrev sLIT : Stmt := top 27
/-- a value that the law may ask: its signs are signs -/
def Okl (K : PySem.W.Frag) (H : Hp) (x : V) : Prop := (∃ z : Str, x = .str z ∧ z.length ≤ 100000 ∧ ∀ c ∈ z.cps.toList, c < 0x110000) ∨ (NotS K H x ∧ ∀ z, x ≠ .str z)
theorem Okl.okv {K : PySem.W.Frag} {H : Hp} {x : V} (h : Okl K H x) : Okv K H x := h.imp (fun ⟨z, e, l, _⟩ => ⟨z, e, l⟩) id
theorem Okl.same {K : PySem.W.Frag} {H H' : Hp} (s : Same H H') {x : V} (h : Okl K H x) : Okl K H' x := h.imp id fun ⟨⟨n, ty, kb⟩, no⟩ => ⟨⟨n, tyx_same s ty, kb⟩, no⟩
theorem lin_of {K : PySem.W.Frag} {H : Hp} {x : V} {Q : VK} {E : XK} (o : Okl K H x) (k : ∀ H', Same H H' → Q (.bl (vN x)) H') : spLIN K [x] H Q E := by
  refine ⟨x, rfl, ?_⟩
  rcases o with ⟨z, rfl, l, cs⟩ | ⟨n, no⟩
  · exact .inl ⟨z, rfl, l, cs, k⟩
  · refine .inr ⟨n, ?_⟩
    have e : vN x = false := by
      cases x with
      | str z => exact absurd rfl (no z)
      | _ => rfl
    have q := k H fun _ _ e => e
    rw [e] at q
    exact q
theorem isV_head {z : Str} (h : isV z = true) : ∃ r, z.cps.toList = 63 :: r := by
  rw [← first_sign] at h
  have e : cutS z none (some 1) = Str.ofString "?" := of_decide_eq_true h
  have q1 : (Str.ofString "?").cps.toList = [63] := by decide +kernel
  have e2 : HT.sIx z.length z.length (some 1) = min 1 z.length := HT.sIx_nat z.length z.length 1
  have e3 := congrArg (fun y : Str => y.cps.toList) e
  unfold cutS at e3
  rw [HT.sIx_none, e2] at e3
  simp only [q1] at e3
  have l : z.cps.toList.length = z.length := length_toList z
  cases hc : z.cps.toList with
  | nil =>
    rw [hc] at e3
    simp at e3
  | cons c r =>
    rw [hc] at e3 l
    rw [List.length_cons] at l
    have m : min 1 z.length = 1 := by omega
    rw [m] at e3
    simp at e3
    exact ⟨r, by rw [e3]⟩
theorem nmB_var {z : Str} (h : isV z = true) : nmB z.cps.toList = false := by
  obtain ⟨r, e⟩ := isV_head h
  rw [e]
  show (isLet 63 && r.all isSgn && decide (r.length ≤ 11)) = false
  have : isLet 63 = false := by decide
  rw [this, Bool.false_and, Bool.false_and]
def spLIT (K : PySem.W.Frag) : Sp := fun vs H Q _ => ∃ (x : V) (o : Bool), vs = [x, .bl o] ∧ Okl K H x ∧ ∀ H', Same H H' → Q (.bl (vN x || (o && vV x))) H'
section
variable {P : Program} {w : World} {K : PySem.W.Frag} {mg : Str → Option Value} {base : Heap}
abbrev nLIT : List Str := ["_law_value", "_law_open_too"]
theorem scLIT : FnScope nLIT nLIT (defScope sLIT) := ⟨rfl, rfl, rfl, by decide +kernel, rfl, by decide +kernel, by decide +kernel⟩
theorem ok_LIT {f fN : Addr} {fd fdN : FuncData} (F : Fun K "_law_is_term" "_law_is_term" sLIT f fd)
    (GN : FnOk P w K mg base CX0 1 fN fdN ["_law_value"] (spLIN K)) (kN : PySem.W.keepIn K (.ref fN) = true) (bN : Binds K fdN ["_law_value"] []) (mN : mg "_law_is_name" = some (.ref fN))
    (mi : mg "isinstance" = none) (mst : mg "str" = none) : FnOk P w K mg base CX0 2 f fd nLIT (spLIT K) := by
  refine F.ok scLIT (fun vs H Q E h => ?_) (fun cdv A outer s H vs Q E hr h => ?_)
  · obtain ⟨x, o, rfl, _⟩ := h
    rfl
  · obtain ⟨x, o, rfl, ox, k⟩ := h
    have hr1 : Room 1 _ := hr.mono (by decide)
    refine ⟨_, pss_cons (ps_if (PW.pt (pw_and (pt_val (pv 1)) (pw_and (pt_val (pe_callB call_isi (by rfl) mi (by decide +kernel) (pa_cons (pv 0) (pa_cons (pe_bltn (v := .ty "str") (by rfl) mst (by decide +kernel) rfl) pa_nil))))
          (pw_and1 (pt_cmpR op_eq (pe_slice sl_str (pv 0) po_none (po_some pe_int)) pe_str (nomark _))))))
        (pss_one (ps_ret (pe_call GN hr1 (by rfl) mN kN bN .nil pass0 (pa_cons (pe_slice sl_str (pv 0) (po_some pe_int) po_none) pa_nil)))) pss_nil)
      (pss_one (ps_ret (pe_call GN hr1 (by rfl) mN kN bN .nil pass0 (pa_cons (pv 0) pa_nil)))), ?_⟩
    -- the last row
    have last : (o && vV x) = false → spLIN K [x] H Q E0 := fun e => lin_of (E := E0) ox fun H' s => by
      have q := k H' s
      rw [e, Bool.or_false] at q
      exact q
    refine ⟨_, rfl, _, rfl, ?_⟩
    cases o with
    | false => exact iteF (iteF ⟨_, rfl, last rfl⟩)
    | true =>
      refine iteT ?_
      rcases ox with ⟨z, rfl, lz, cs⟩ | ⟨⟨n, ty, kb⟩, no⟩
      · refine ⟨_, rfl, _, .ty "str", _, _, true, rfl, .ty "str", .base (.str z), kit_ty (by decide +kernel), _, rfl, ?_⟩
        refine iteT ⟨_, rfl, _, rfl, z, rfl, by rw [sizeLine_eq]; omega, rfl, _, rfl, ?_⟩
        have ed : decide (V.str (cutS z none (some 1)) = V.str (Str.ofString "?")) = isV z := by
          rw [← first_sign]
          exact decide_eq_decide.mpr ⟨fun e => V.str.inj e, fun e => by rw [e]⟩
        rw [ed]
        cases hv : isV z with
        | true =>
          refine iteT ⟨_, rfl, _, rfl, z, rfl, by rw [sizeLine_eq]; omega, ?_⟩
          dsimp only [tNil, List.cons_append, List.nil_append]
          refine lin_of (K := K) (E := E0) (.inl ⟨_, rfl, Nat.le_trans (cutS_length z (some 1) none) lz, fun c m => ?_⟩) fun H' s => ?_
          · rw [cut_tail] at m
            exact cs c (List.mem_of_mem_drop m)
          · have q := k H' s
            have e : (vN (.str z) || (true && vV (.str z))) = vN (.str (cutS z (some 1) none)) := by
              show (nmB z.cps.toList || (true && (isV z && nmB (z.cps.toList.drop 1)))) = nmB (cutS z (some 1) none).cps.toList
              rw [nmB_var hv, hv, cut_tail, Bool.false_or, Bool.true_and, Bool.true_and]
            rw [e] at q
            exact q
        | false =>
          refine iteF ⟨_, rfl, last ?_⟩
          show (true && (isV z && nmB (z.cps.toList.drop 1))) = false
          rw [hv]
          rfl
      · refine ⟨_, rfl, _, .ty "str", _, _, false, rfl, .ty "str", ty, kit_ty kb, _, rfl, ?_⟩
        refine iteF (iteF ⟨_, rfl, last ?_⟩)
        have e : vV x = false := by
          cases x with
          | str z => exact absurd rfl (no z)
          | _ => rfl
        rw [e]
        rfl
end
end L2.LawH
set_option Elab.async false
set_option linter.all false
set_option maxRecDepth 100000
set_option maxHeartbeats 4000000
/-! _law_text. -/
namespace L2.LawH
open PySem PySem.Spec PyProof.Rows L2.Cmp L2.TxtSet
abbrev sLTx : Stmt := top 29
theorem empty_app (T : Str) : Str.empty ++ T = T := by
  have h : (Str.empty ++ T).cps.toList = T.cps.toList := by
    rw [toList_append]
    rfl
  have h2 := Array.toList_inj.mp h
  cases hx : Str.empty ++ T with
  | mk a =>
    rw [hx] at h2
    cases T
    exact congrArg Str.mk h2
section
variable {P : Program} {w : World} {K : PySem.W.Frag} {mg : Str → Option Value} {base : Heap}
theorem scLTx : FnScope ["_law_pattern_here"] ["_law_pattern_here"] (defScope sLTx) := ⟨rfl, rfl, rfl, by decide +kernel, rfl, by decide +kernel, by decide +kernel⟩
theorem ok_LTx {f : Addr} {fd : FuncData} (F : Fun K "_law_text" "_law_text" sLTx f fd) (mL : mg "list" = none) : FnOk P w K mg base CX0 1 f fd ["_law_pattern_here"] spPtx := by
  refine F.ok scLTx (fun vs H Q E h => ?_) (fun cdv A outer s H vs Q E hr h => ?_)
  · obtain ⟨t, T, zs, rfl, _⟩ := h
    rfl
  · obtain ⟨t, T, zs, rfl, ht, few, lT, lz, k⟩ := h
    refine ⟨_, pss_one (ps_ret (pe_op op_add_str (pe_op op_add_str (pe_op op_add_str (pe_ix ix_tup (pv 0) pe_int (fun _ _ => rfl)) pe_str)
      (pe_join pe_str (pe_callTy call_list_of (by rfl) mL (by decide +kernel) (pa_cons (pe_slice sl_tup (pv 0) (po_some pe_int) po_none) pa_nil)))) pe_str)), ?_⟩
    have s1 := sum_le 1000 zs lz
    have c1 : (("," : String) : Str).length = 1 := by decide +kernel
    have c2 : (("(" : String) : Str).length = 1 := by decide +kernel
    have c3 : (((")" : String)) : Str).length = 1 := by decide +kernel
    have z3 : zs.length * 1000 ≤ 100 * 1000 := Nat.mul_le_mul_right _ few
    have jl : (Txt.join "," zs).length ≤ 110000 := by
      have q := join_len "," zs
      rw [c1] at q
      have e : Txt.join "," zs = Str.join "," zs := StrLaws.glued_eq_join _ _
      rw [e]
      omega
    refine ⟨_, rfl, t, _, 0, _, rfl, rfl, SqT.of ht, atI_nat (j := 0) rfl, _, _, rfl, rfl, by rw [c2, sizeLine_eq]; omega, ⟨_, rfl⟩, _, rfl, _, rfl, t, _, rfl, SqT.of ht, cut_part _ _, fun u nu => ?_⟩
    rw [cut_one]
    refine ⟨u, _, rfl, .inr (SqT.of upd_same), fun l nl => ?_⟩
    refine ⟨_, l, zs, rfl, rfl, .inl (SqL.of upd_same), by rw [c1]; omega, ?_⟩
    refine ⟨_, _, rfl, rfl, by rw [len_app, c2, sizeLine_eq]; omega, _, _, rfl, rfl, by rw [len_app, len_app, c2, c3, sizeLine_eq]; omega, ?_⟩
    have q := k _ ((same_new nu).trans (same_new nl (o := .lst (zs.map V.str))))
    unfold ptext at q
    rw [empty_app] at q
    exact q
end
end L2.LawH
set_option Elab.async false
set_option linter.all false
set_option maxRecDepth 100000
set_option maxHeartbeats 4000000
/-! _law_is_pattern; values that are asked. -/
namespace L2.LawH
open PySem PySem.Spec PyProof.Rows L2.Cmp L2.TxtSet
abbrev sLIP : Stmt := top 28
theorem Same.seqT {K : PySem.W.Frag} {H H' : Hp} {a : Addr} {xs : List V} (e : Same H H') (h : SqT K H a xs) : SqT K H' a xs := by
  rcases h with h | h
  · rcases h with h | ⟨o, h⟩
    · exact .inl (.inl (e _ _ h))
    · exact .inl (.inr ⟨o, e _ _ h⟩)
  · exact .inr h
mutual
theorem dp_same {K : PySem.W.Frag} {H H' : Hp} (s : Same H H') : ∀ (d : PyData) (v : V), Dp K H v d → Dp K H' v d
  | .none, _, h => by
    cases h
    exact .non
  | .bool b, _, h => by
    cases h
    exact .bl b
  | .int i, _, h => by
    cases h
    exact .int i
  | .str x, _, h => by
    cases h
    exact .str x
  | .list ds, _, h => by
    cases h with
    | lst hs ha => exact .lst (Same.seq s hs) (dpAll_same s ds _ ha)
  | .tuple ds, _, h => by
    cases h with
    | tup hs ha => exact .tup (Same.seqT s hs) (dpAll_same s ds _ ha)
  | .dict _, _, h => by cases h
theorem dpAll_same {K : PySem.W.Frag} {H H' : Hp} (s : Same H H') : ∀ (ds : List PyData) (vs : List V), DpAll K H vs ds → DpAll K H' vs ds
  | [], _, h => by
    cases h
    exact .nil
  | d :: ds, _, h => by
    cases h with
    | cons h1 h2 => exact .cons (dp_same s d _ h1) (dpAll_same s ds _ h2)
end
/-- an item of a tuple that is asked -/
def Itm (K : PySem.W.Frag) (H : Hp) (y : V) : Prop := Okl K H y ∧ ∃ d, Dp K H y d ∧ d.canLay0 = true ∧ d.depth ≤ 2
theorem Itm.same {K : PySem.W.Frag} {H H' : Hp} (s : Same H H') {y : V} (h : Itm K H y) : Itm K H' y :=
  let ⟨o, d, p, l⟩ := h
  ⟨o.same s, d, dp_same s d _ p, l⟩
/-- data of a list of items -/
theorem itms_data {K : PySem.W.Frag} {H : Hp} : ∀ (ys : List V), (∀ y ∈ ys, Itm K H y) → ∃ ds, DpAll K H ys ds ∧ ds.length = ys.length ∧ PyData.canLayAll0 ds = true ∧ PyData.depthAll ds ≤ 2
  | [], _ => ⟨[], .nil, rfl, by simp [PyData.canLayAll0], by simp [PyData.depthAll]⟩
  | y :: ys, h => by
    obtain ⟨ds, p, l, c, e⟩ := itms_data ys fun z m => h z (List.mem_cons_of_mem _ m)
    obtain ⟨_, d, q, c1, e1⟩ := h y List.mem_cons_self
    refine ⟨d :: ds, .cons q p, by simp [l], by simp [PyData.canLayAll0, c, c1], ?_⟩
    simp only [PyData.depthAll]
    omega
theorem shaped_list {ds : List PyData} (h : PyData.canLayAll0 ds = true) (e : PyData.depthAll ds ≤ 20) : SeqAt.shaped (.list ds) = true := by
  have h2 : PyData.depth (.list ds) ≤ 64 := by
    simp only [PyData.depth]
    omega
  show (PyData.canLay0 (.list ds) && decide (PyData.depth (.list ds) ≤ 64)) = true
  rw [Bool.and_eq_true]
  exact ⟨by simp only [PyData.canLay0]; exact h, decide_eq_true h2⟩
theorem eqv_nilD : ∀ ds : List PyData, PyData.eqv (.list ds) (.list []) = decide (ds.length = 0)
  | [] => by simp [PyData.eqv, PyData.eqvAll]
  | d :: ds => by simp [PyData.eqv, PyData.eqvAll]
/-- a value that is asked: a tuple of items, or no tuple -/
def Ask (K : PySem.W.Frag) (H : Hp) (x : V) : Option (List V) → Prop
  | none => Okl K H x ∧ NotT K H x
  | some xs => ∃ t, x = .ref t ∧ H t = some (.tup xs) ∧ xs.length ≤ 1100 ∧ ∀ y ∈ xs, Itm K H y
theorem NotT.same {K : PySem.W.Frag} {H H' : Hp} (s : Same H H') {x : V} (h : NotT K H x) : NotT K H' x := let ⟨n, ty, kb⟩ := h; ⟨n, tyx_same s ty, kb⟩
theorem Ask.same {K : PySem.W.Frag} {H H' : Hp} (s : Same H H') {x : V} {o : Option (List V)} (h : Ask K H x o) : Ask K H' x o := by
  cases o with
  | none => exact ⟨h.1.same s, h.2.same s⟩
  | some xs =>
    obtain ⟨t, e, ht, l, i⟩ := h
    exact ⟨t, e, s _ _ ht, l, fun y m => (i y m).same s⟩
theorem Ask.okl {K : PySem.W.Frag} {H : Hp} {x : V} {o : Option (List V)} (h : Ask K H x o) : Okl K H x := by
  cases o with
  | none => exact h.1
  | some xs =>
    obtain ⟨t, rfl, ht, l, i⟩ := h
    exact .inr ⟨⟨"tuple", .base (.tup ht), by decide +kernel⟩, fun z e => by cases e⟩
def pAns : Option (List V) → Bool
  | none => false
  | some xs => patB xs
def fAns : Option (List V) → Bool
  | none => false
  | some xs => factB xs
def spLIP (K : PySem.W.Frag) : Sp := fun vs H Q _ => ∃ (x : V) (o : Bool) (a : Option (List V)), vs = [x, .bl o] ∧ Ask K H x a ∧ ∀ H', Same H H' → Q (.bl (if o = true then pAns a else fAns a)) H'
theorem fact_eq (y : V) (r : List V) (lr : r.length ≤ 3) : factB (y :: r) = (vN y && r.all vN) := by
  show ((decide (r.length ≤ 3) && vN y && r.all fun y => vN y || vV y) && (vN y && r.all vN)) = _
  rw [decide_eq_true lr, Bool.true_and]
  cases h1 : vN y with
  | false => rfl
  | true =>
    cases h2 : r.all vN with
    | false => simp
    | true =>
      have : (r.all fun y => vN y || vV y) = true := List.all_eq_true.mpr fun x m => by rw [List.all_eq_true.mp h2 x m]; rfl
      rw [this]
      rfl
section
variable {P : Program} {w : World} {K : PySem.W.Frag} {mg : Str → Option Value} {base : Heap}
abbrev nLIP : List Str := ["_law_value", "_law_open_too", "_law_term_here"]
theorem scLIP : FnScope nLIP ["_law_value", "_law_open_too"] (defScope sLIP) := ⟨rfl, rfl, rfl, by decide +kernel, rfl, by decide +kernel, by decide +kernel⟩
theorem ok_LIP {f fN fT : Addr} {fd fdN fdT : FuncData} (F : Fun K "_law_is_pattern" "_law_is_pattern" sLIP f fd)
    (GN : FnOk P w K mg base CX0 1 fN fdN ["_law_value"] (spLIN K)) (kN : PySem.W.keepIn K (.ref fN) = true) (bN : Binds K fdN ["_law_value"] []) (mN : mg "_law_is_name" = some (.ref fN))
    (GT : FnOk P w K mg base CX0 2 fT fdT nLIT (spLIT K)) (kT : PySem.W.keepIn K (.ref fT) = true) (bT : Binds K fdT nLIT []) (mT : mg "_law_is_term" = some (.ref fT))
    (mi : mg "isinstance" = none) (mtp : mg "tuple" = none) (ml : mg "len" = none) :
    FnOk P w K mg base CX0 3 f fd ["_law_value", "_law_open_too"] (spLIP K) := by
  refine F.ok scLIP (fun vs H Q E h => ?_) (fun cdv A outer s H vs Q E hr h => ?_)
  · obtain ⟨x, o, a, rfl, _⟩ := h
    rfl
  · obtain ⟨x, o, a, rfl, h, k⟩ := h
    have hu := hr.units
    have hr1 : Room 1 _ := hr.mono (by decide)
    have hr2 : Room 2 _ := hr.mono (by decide)
    refine ⟨_, pss_cons (ps_if (PW.pt (pw_or (pt_not (pt_val (pe_callB call_isi (by rfl) mi (by decide +kernel) (pa_cons (pv 0) (pa_cons (pe_bltn (v := .ty "tuple") (by rfl) mtp (by decide +kernel) rfl) pa_nil)))))
          (pw_or (pt_not (pt_chain op_le op_le pe_int (pe_callB call_len_seq (by rfl) ml (by decide +kernel) (pa_cons (pv 0) pa_nil)) pe_int))
            (pw_or1 (pt_not (pt_val (pe_call GN hr1 (by rfl) mN kN bN .nil pass0 (pa_cons (pe_ix ix_tup (pv 0) pe_int (fun _ _ => rfl)) pa_nil)))))))) (pss_one (ps_ret pe_bl)) pss_nil)
      (pss_one (ps_ret (pe_cmpR (op_eqD hu) (pe_lc (own := [("_law_term_here", 2)]) (g := gName 2) (tt := tNot (tB (tCall (spLIT K) [] E0 (tCons (tVar 2) (tCons (tVar 1) tNil))))) rfl scLIP.nd (pi_tup (pe_slice sl_tup (pv 0) (po_some pe_int) po_none))
          (blkOk_by (own := [("_law_term_here", 2)]) (N := nLIP) (sc := defScope sLIP) (by decide +kernel)) (fun _ _ _ _ _ => pg_name (i := 2) scLIP.nd rfl (Or.inl rfl))
          (fun _ _ _ _ _ => pts_one (pt_not (pt_val (pe_call GT hr2 (by rfl) mT kT bT .nil pass0 (pa_cons (pv 2) (pa_cons (pv 1) pa_nil))))))
          (fun _ _ _ _ _ => pv 2)) (pe_lst pa_nil) (by rfl)))), ?_⟩
    cases a with
    | none =>
      obtain ⟨_, n, ty, kb⟩ := h
      refine ⟨_, rfl, _, .ty "tuple", _, _, false, rfl, .ty "tuple", ty, kit_ty kb, _, rfl, ?_⟩
      have q := k H fun _ _ e => e
      have e : (if o = true then pAns none else fAns none) = false := by
        cases o <;> rfl
      rw [e] at q
      exact iteT q
    | some xs =>
      obtain ⟨t, rfl, ht, lx, ix⟩ := h
      have big : ¬ (1 ≤ xs.length ∧ xs.length ≤ 4) → Q (.bl false) H := fun no => by
        have q := k H fun _ _ e => e
        have e : patB xs = false := by
          cases xs with
          | nil => rfl
          | cons x r =>
            rw [List.length_cons] at no
            show (decide (r.length ≤ 3) && vN x && r.all fun y => vN y || vV y) = false
            rw [decide_eq_false (by omega), Bool.false_and, Bool.false_and]
        have e2 : (if o = true then pAns (some xs) else fAns (some xs)) = false := by
          show (if o = true then patB xs else (patB xs && xs.all vN)) = false
          rw [e]
          cases o <;> rfl
        rw [e2] at q
        exact q
      refine ⟨_, rfl, _, .ty "tuple", _, _, true, rfl, .ty "tuple", .base (.tup ht), kit_ty (by decide +kernel), _, rfl, ?_⟩
      refine iteF ?_
      refine ⟨_, rfl, t, _, rfl, .inr (SqT.of ht), _, _, rfl, rfl, _, rfl, ?_⟩
      refine ite2 (fun l1 => ⟨_, _, rfl, rfl, _, rfl, ?_⟩) (fun l1 => ⟨_, rfl, iteT (big fun y => l1 (decide_eq_true (by omega)))⟩)
      have l1 : (1 : Int) ≤ xs.length := of_decide_eq_true l1
      refine ite2 (fun l2 => ?_) (fun l2 => ?_)
      · have l2' : ¬ ((xs.length : Int) ≤ 4) := fun y => by
          rw [decide_eq_true y] at l2
          cases l2
        exact big fun y => l2' (by omega)
      · have l2' : (xs.length : Int) ≤ 4 := by
          by_cases y : (xs.length : Int) ≤ 4
          · exact y
          · rw [decide_eq_false y] at l2
            exact absurd rfl l2
        cases xs with
        | nil =>
          rw [List.length_nil] at l1
          omega
        | cons y r =>
          have lr : r.length ≤ 3 := by
            rw [List.length_cons] at l2'
            omega
          have k : ∀ H', Same H H' → Q (.bl (vN y && r.all fun y => vN y || (o && vV y))) H' := fun H' s => by
            have q := k H' s
            have e : (if o = true then pAns (some (y :: r)) else fAns (some (y :: r))) = (vN y && r.all fun y => vN y || (o && vV y)) := by
              cases o with
              | true =>
                show (decide (r.length ≤ 3) && vN y && r.all fun y => vN y || vV y) = _
                rw [decide_eq_true lr, Bool.true_and]
                simp
              | false =>
                show factB (y :: r) = _
                rw [fact_eq y r lr]
                simp
            rw [e] at q
            exact q
          refine ⟨_, rfl, t, _, 0, y, rfl, rfl, SqT.of ht, atI_nat (j := 0) rfl, ?_⟩
          dsimp only [tNil, List.cons_append, List.nil_append]
          refine lin_of (K := K) (E := E0) (ix y List.mem_cons_self).1 fun H1 s1 => ⟨_, rfl, ?_⟩
          cases hy : vN y with
          | false =>
            rw [hy] at k
            exact iteT (k H1 s1)
          | true =>
            rw [hy] at k
            refine iteF ?_
            refine ⟨_, rfl, _, rfl, t, _, rfl, SqT.of (s1 _ _ ht), cut_part _ _, fun u nu => ⟨u, rfl, ⟨_, SqT.of upd_same⟩, fun D nD => ?_⟩⟩
            rw [cut_one] at nD ⊢
            have su : Same H (upd H1 u (.tup r)) := s1.trans (same_new nu)
            have uD : u ≠ D := fun e => by
              rw [e] at nD
              rw [upd_same] at nD
              cases nD
            have nDH : H D = none := by
              cases e : H D with
              | none => rfl
              | some o =>
                rw [su D o e] at nD
                cases nD
            refine lc_tup (K := K) (a := u) (xs := r) (fun i H5 => Same H H5 ∧ H5 u = some (.tup r) ∧ H5 D = some (.lst ((r.take i).filter fun y => !(vN y || (o && vV y)))))
              ⟨su.trans (same_new nD), (same_new nD) _ _ upd_same, upd_same⟩ (fun i H5 _ p => SqT.of p.2.1) (fun i x H5 hx p => ?_) (fun H5 p => ?_)
            · obtain ⟨p1, p2, p3⟩ := p
              have ox : Okl K H x := (ix x (List.mem_cons_of_mem _ (List.mem_of_getElem? hx))).1
              refine ⟨rfl, ?_⟩
              refine ⟨_, rfl, _, rfl, x, o, rfl, ox.same p1, fun H6 s6 => ⟨_, rfl, ?_⟩⟩
              cases hb : (vN x || (o && vV x)) with
              | true =>
                refine iteF ⟨p1.trans s6, s6 _ _ p2, ?_⟩
                rw [List.take_add_one, hx, List.filter_append]
                have e : (Option.toList (some x)).filter (fun y => !(vN y || (o && vV y))) = [] := List.filter_cons_of_neg (by rw [hb]; exact Bool.false_ne_true)
                rw [e, List.append_nil]
                exact s6 _ _ p3
              | false =>
                refine iteT ⟨_, rfl, _, s6 _ _ p3, ?_, fun b o e => ?_, ?_, ?_⟩
                · refine Nat.lt_of_le_of_lt (List.length_filter_le _ _) ?_
                  rw [List.length_take, sizeLine_eq]
                  omega
                · rw [upd_ne (ne_of_none e nDH)]
                  exact s6 _ _ (p1 b o e)
                · rw [upd_ne uD]
                  exact s6 _ _ p2
                · rw [upd_same, List.take_add_one, hx, List.filter_append]
                  have e : (Option.toList (some x)).filter (fun y => !(vN y || (o && vV y))) = [x] := List.filter_cons_of_pos (by rw [hb]; rfl)
                  rw [e]
            · obtain ⟨p1, p2, p3⟩ := p
              rw [List.take_length] at p3
              refine ⟨by show 0 ≤ sizeLine; decide, fun p np => ?_⟩
              obtain ⟨ds, hd, ld, cd, dd⟩ := itms_data (K := K) (H := upd H5 p (.lst [])) (r.filter fun y => !(vN y || (o && vV y))) fun z m =>
                (ix z (List.mem_cons_of_mem _ (List.mem_filter.mp m).1)).same (p1.trans (same_new np))
              refine ⟨_, _, .lst (SqL.of ((same_new np) _ _ p3)) hd, .lst (SqL.of upd_same) .nil, shaped_list cd (by omega), by decide, ?_⟩
              have q := k (upd H5 p (.lst [])) (p1.trans (same_new np))
              rw [eqv_nilD, ld]
              have e : decide ((r.filter fun y => !(vN y || (o && vV y))).length = 0) = (true && r.all fun y => vN y || (o && vV y)) := by
                rw [Bool.true_and, Bool.eq_iff_iff, decide_eq_true_iff, List.length_eq_zero_iff, List.filter_eq_nil_iff, List.all_eq_true]
                refine ⟨fun h x m => ?_, fun h x m => ?_⟩
                · have z := h x m
                  cases hz : (vN x || (o && vV x)) with
                  | true => rfl
                  | false =>
                    rw [hz] at z
                    exact absurd rfl z
                · rw [h x m]
                  exact Bool.false_ne_true
              rw [e]
              exact q
end
end L2.LawH
set_option Elab.async false
set_option linter.all false
set_option maxRecDepth 100000
set_option maxHeartbeats 4000000
/-! Texts of patterns read: the mathematics. -/
namespace L2.LawH
open PySem PySem.Spec PyProof.Rows L2.Cmp L2.TxtSet TL
abbrev opnS : Str := "("
abbrev clsS : Str := ")"
abbrev comS : Str := ","
theorem tl_opn : tl opnS = [40] := by decide +kernel
theorem tl_cls : tl clsS = [41] := by decide +kernel
theorem tl_com : tl comS = [44] := by decide +kernel
/-- table and inside of a text that is cut rightly -/
def cutP (z : Str) : Option (Str × Str) := match par [40] [] (tl z) with
  | none => none
  | some (a, b) => if b.getLast? = some 41 then some (⟨a.toArray⟩, ⟨b.dropLast.toArray⟩) else none
def terms (i : Str) : List Str := if i.length = 0 then [] else Txt.split i comS
def rdOk (z : Str) : Option (Str × List Str) := match cutP z with
  | none => none
  | some (a, i) => if patB (.str a :: (terms i).map V.str) = true then some (a, terms i) else none
/-! ### par and spl for one sign -/
theorem pre_one (s c : Nat) (r : List Nat) : pre [s] (c :: r) = decide (c = s) := by
  show ((c :: r).take 1 == [s]) = _
  rw [Bool.eq_iff_iff, beq_iff_eq, decide_eq_true_iff]
  simp
theorem par_eq (s : Nat) : ∀ (l acc : List Nat) (a b : List Nat), par [s] acc l = some (a, b) → ∃ m, a = acc ++ m ∧ l = m ++ s :: b ∧ s ∉ m
  | [], acc, a, b, h => by cases h
  | c :: r, acc, a, b, h => by
    by_cases hc : c = s
    · rw [par_hit (by rw [pre_one, decide_eq_true hc])] at h
      have h2 := Option.some.inj h
      have e1 : acc = a := congrArg Prod.fst h2
      have e2 : (c :: r).drop [s].length = b := congrArg Prod.snd h2
      refine ⟨[], by rw [List.append_nil]; exact e1.symm, ?_, by simp⟩
      rw [← e2, hc]
      rfl
    · rw [par_miss (by rw [pre_one, decide_eq_false hc])] at h
      obtain ⟨m, e1, e2, e3⟩ := par_eq s r (acc ++ [c]) a b h
      refine ⟨c :: m, by rw [e1, List.append_assoc]; rfl, by rw [e2]; rfl, ?_⟩
      intro hm
      rcases List.mem_cons.mp hm with h | h
      · exact hc h.symm
      · exact e3 h
theorem par_no (s : Nat) : ∀ (l acc : List Nat), par [s] acc l = none → s ∉ l
  | [], _, _ => by simp
  | c :: r, acc, h => by
    by_cases hc : c = s
    · rw [par_hit (by rw [pre_one, decide_eq_true hc])] at h
      cases h
    · rw [par_miss (by rw [pre_one, decide_eq_false hc])] at h
      intro hm
      rcases List.mem_cons.mp hm with h' | h'
      · exact hc h'.symm
      · exact par_no s r _ h h'
theorem spl_ne (S : List Nat) : ∀ (l : List Nat) (acc : List Nat), spl S 0 acc l ≠ [] := by
  intro l
  induction l with
  | nil => intro acc; rw [spl_nil]; simp
  | cons c r ih =>
    intro acc
    cases h : pre S (c :: r) with
    | true => rw [spl_hit h]; simp
    | false => rw [spl_miss h]; exact ih _
theorem joinL_cons (S p : List Nat) {X : List (List Nat)} (h : X ≠ []) : joinL S (p :: X) = p ++ (S ++ joinL S X) := by
  cases X with
  | nil => exact absurd rfl h
  | cons q r => rfl
theorem join_spl (s : Nat) : ∀ (l acc : List Nat), joinL [s] (spl [s] 0 acc l) = acc ++ l
  | [], acc => by
    rw [spl_nil]
    show acc = _
    rw [List.append_nil]
  | c :: r, acc => by
    by_cases hc : c = s
    · rw [spl_hit (by rw [pre_one, decide_eq_true hc])]
      show joinL [s] (acc :: spl [s] 0 [] r) = _
      rw [joinL_cons _ _ (spl_ne _ _ _), join_spl s r [], hc]
      rfl
    · rw [spl_miss (by rw [pre_one, decide_eq_false hc]), join_spl s r (acc ++ [c]), List.append_assoc]
      rfl
theorem part_le (s : Nat) : ∀ (X : List (List Nat)) (p : List Nat), p ∈ X → p.length ≤ (joinL [s] X).length
  | [], p, h => by cases h
  | [q], p, h => by
    rw [List.mem_singleton.mp h]
    exact Nat.le_refl _
  | q :: y :: r, p, h => by
    show p.length ≤ (q ++ ([s] ++ joinL [s] (y :: r))).length
    rw [List.length_append, List.length_append]
    rcases List.mem_cons.mp h with rfl | h
    · omega
    · have := part_le s (y :: r) p h
      omega
theorem parts_le (s : Nat) : ∀ (X : List (List Nat)), X.length ≤ (joinL [s] X).length + 1
  | [] => Nat.zero_le _
  | [q] => by simp
  | q :: y :: r => by
    have := parts_le s (y :: r)
    show (q :: y :: r).length ≤ (q ++ ([s] ++ joinL [s] (y :: r))).length + 1
    rw [List.length_append, List.length_append, List.length_cons]
    simp only [List.length_singleton]
    omega
theorem part_mem (s : Nat) : ∀ (X : List (List Nat)) (p : List Nat) (c : Nat), p ∈ X → c ∈ p → c ∈ joinL [s] X
  | [], p, c, h, _ => by cases h
  | [q], p, c, h, hc => by
    rw [List.mem_singleton.mp h] at hc
    exact hc
  | q :: y :: r, p, c, h, hc => by
    show c ∈ q ++ ([s] ++ joinL [s] (y :: r))
    rw [List.mem_append, List.mem_append]
    rcases List.mem_cons.mp h with rfl | h
    · exact .inl hc
    · exact .inr (.inr (part_mem s (y :: r) p c h hc))
/-! ### the terms -/
theorem com_kind (i : Str) : ¬ Builtin.Str.strKind i < Builtin.Str.strKind comS := kind_ok (by decide +kernel)
theorem split_tl (i : Str) : (Txt.split i comS).map tl = spl [44] 0 [] (tl i) := by
  have h := split_spl i comS (by rw [tl_com]; simp) (com_kind i)
  rw [tl_com] at h
  exact h
theorem join_terms (i : Str) : Txt.join comS (terms i) = i := by
  unfold terms
  by_cases h : i.length = 0
  · rw [if_pos h]
    refine ext_tl ?_
    rw [join_eq]
    have e : tl i = [] := by
      rw [len_tl] at h
      exact List.length_eq_zero_iff.mp h
    rw [e]
    rfl
  · rw [if_neg h]
    refine ext_tl ?_
    rw [join_eq, tl_join, tl_com, split_tl, join_spl]
    rfl
theorem terms_join (i : Str) (h : i.length ≠ 0) : joinL [44] ((terms i).map tl) = tl i := by
  unfold terms
  rw [if_neg h, split_tl, join_spl]
  rfl
theorem term_le {i y : Str} (h : y ∈ terms i) : y.length ≤ i.length := by
  by_cases h0 : i.length = 0
  · unfold terms at h
    rw [if_pos h0] at h
    cases h
  · have := part_le 44 ((terms i).map tl) (tl y) (List.mem_map_of_mem h)
    rw [terms_join i h0] at this
    rw [len_tl, len_tl]
    exact this
theorem terms_le (i : Str) : (terms i).length ≤ i.length + 1 := by
  by_cases h0 : i.length = 0
  · unfold terms
    rw [if_pos h0]
    exact Nat.zero_le _
  · have := parts_le 44 ((terms i).map tl)
    rw [terms_join i h0, List.length_map] at this
    rw [len_tl]
    exact this
theorem term_mem {i y : Str} (h : y ∈ terms i) {c : Nat} (hc : c ∈ tl y) : c ∈ tl i := by
  by_cases h0 : i.length = 0
  · unfold terms at h
    rw [if_pos h0] at h
    cases h
  · have := part_mem 44 ((terms i).map tl) (tl y) c (List.mem_map_of_mem h) hc
    rw [terms_join i h0] at this
    exact this
/-! ### the cuts -/
theorem last_cases (l : List Nat) : l = [] ∨ ∃ m c, l = m ++ [c] := by
  rcases List.eq_nil_or_concat l with h | ⟨m, c, h⟩
  · exact .inl h
  · exact .inr ⟨m, c, by rw [h, List.concat_eq_append]⟩
theorem suffix_eq (b : Str) : Txt.removesuffix b clsS = if (tl b).getLast? = some 41 then ⟨(tl b).dropLast.toArray⟩ else b := by
  have l1 : clsS.length = 1 := by decide +kernel
  have lb := len_tl b
  rw [StrLaws.removesuffix_eq, StrLaws.subAt_eq, l1, show clsS.cps.toList = [41] from tl_cls]
  rcases last_cases (tl b) with h | ⟨m, c, h⟩
  · rw [h] at lb
    have e : b.cps.toList = [] := h
    rw [h]
    simp [lb]
  · have e : b.cps.toList = m ++ [c] := h
    have l2 : b.length = m.length + 1 := by
      rw [lb, h, List.length_append]
      rfl
    rw [h, e, l2]
    have d1 : decide (0 + 1 ≤ m.length + 1) = true := decide_eq_true (by omega)
    have d2 : (m ++ [c]).drop (m.length + 1 - 1) = [c] := by
      rw [Nat.add_sub_cancel]
      exact List.drop_left
    have d3 : ((m ++ [c]).drop 0).take (m.length + 1 - 1 - 0) = m := by
      rw [List.drop_zero, Nat.sub_zero, Nat.add_sub_cancel]
      exact List.take_left
    rw [d1, d2, d3, Bool.true_and]
    by_cases hc : c = 41
    · rw [hc]
      simp
    · simp [hc]
theorem find_eq (z : Str) : Txt.find z opnS = match par [40] [] (tl z) with | none => -1 | some (a, _) => (a.length : Int) := by
  have hy : tl opnS ≠ [] := by rw [tl_opn]; simp
  have l1 : opnS.length = 1 := by decide +kernel
  have hx := len_tl z
  unfold Txt.find
  rcases StrLaws.occ_head z opnS 1 (Nat.le_refl 1) with ⟨h0, hn⟩ | ⟨i, r, h0, hi, hn⟩
  · have run := par_run (tl opnS) (tl z) (tl z).length 0 [] (by omega) (fun k _ _ => no_at hy (hn k))
    rw [List.drop_zero, Nat.zero_add, List.drop_length] at run
    rw [tl_opn] at run
    rw [h0, run]
    rfl
  · have hb : i + opnS.length ≤ z.length := hi.1
    have run := par_run (tl opnS) (tl z) i 0 [] (by omega) (fun k _ k2 => no_at hy (hn k (by omega)))
    rw [List.drop_zero, Nat.zero_add, List.nil_append, par_at hy ((at_iff hy i).mp hi)] at run
    rw [tl_opn] at run
    rw [h0, run]
    show (i : Int) = (((tl z).take i).length : Int)
    rw [List.length_take]
    omega
theorem part_eq (z : Str) : Txt.partition z opnS = (match par [40] [] (tl z) with | some (a, b) => (⟨a.toArray⟩, opnS, ⟨b.toArray⟩) | none => (z, Str.empty, Str.empty)) := by
  have h := partition_par z opnS (by rw [tl_opn]; simp)
  rw [tl_opn] at h
  exact h
/-! ### a text and its pattern's -/
theorem ptext_tl (T : Str) (i : Str) : tl (ptext T (terms i)) = tl T ++ 40 :: (tl i ++ [41]) := by
  unfold ptext
  rw [empty_app, tl_append, tl_append, tl_append, show tl (("(" : String) : Str) = [40] from tl_opn, show tl ((")" : String) : Str) = [41] from tl_cls, show Txt.join ((("," : String)) : Str) (terms i) = i from join_terms i]
  simp
theorem nm_len {l : List Nat} (h : nmB l = true) : l.length ≤ 12 := (nm_sgns h).2.1
theorem var_len {z : Str} (h : varB z = true) : z.length ≤ 13 := by
  unfold varB at h
  rw [Bool.and_eq_true] at h
  have := nm_len h.2
  rw [List.length_drop] at this
  rw [len_tl]
  show z.cps.toList.length ≤ 13
  omega
theorem pat_bd {a : Str} {ts : List Str} (h : patB (.str a :: ts.map V.str) = true) : a.length ≤ 12 ∧ ts.length ≤ 3 ∧ ∀ y ∈ ts, y.length ≤ 13 := by
  have h : (decide ((ts.map V.str).length ≤ 3) && vN (.str a) && (ts.map V.str).all fun y => vN y || vV y) = true := h
  rw [Bool.and_eq_true, Bool.and_eq_true, decide_eq_true_iff, List.length_map, List.all_eq_true] at h
  obtain ⟨⟨h1, h2⟩, h3⟩ := h
  refine ⟨?_, h1, fun y hy => ?_⟩
  · have := nm_len (show nmB a.cps.toList = true from h2)
    rw [len_tl]
    exact this
  · have := h3 (.str y) (List.mem_map_of_mem hy)
    rw [Bool.or_eq_true] at this
    rcases this with h | h
    · have := nm_len (show nmB y.cps.toList = true from h)
      rw [len_tl]
      exact Nat.le_trans this (by decide)
    · exact var_len (show varB y = true from h)
/-- the reading of the program: where its own test of the text holds -/
theorem read_same {z a b : Str} (h : par [40] [] (tl z) = some (tl a, tl b)) :
    (decide (V.str (ptext a (terms (Txt.removesuffix b clsS))) = V.str z)) = decide ((tl b).getLast? = some 41) := by
  obtain ⟨m, e1, e2, _⟩ := par_eq 40 _ _ _ _ h
  rw [List.nil_append] at e1
  rw [← e1] at e2
  have key : (ptext a (terms (Txt.removesuffix b clsS)) = z) ↔ tl (Txt.removesuffix b clsS) ++ [41] = tl b := by
    constructor
    · intro e
      have e3 := congrArg tl e
      rw [ptext_tl, e2] at e3
      have e4 := List.append_cancel_left e3
      injection e4
    · intro e
      refine ext_tl ?_
      rw [ptext_tl, e2, e]
  refine decide_eq_decide.mpr ⟨fun e => ?_, fun e => ?_⟩
  · have e5 := key.mp (V.str.inj e)
    rw [← e5]
    simp
  · refine congrArg V.str (key.mpr ?_)
    rw [suffix_eq, if_pos e]
    show (tl b).dropLast ++ [41] = tl b
    rcases last_cases (tl b) with h | ⟨m, c, h⟩
    · rw [h] at e
      cases e
    · rw [h] at e ⊢
      have : c = 41 := by simpa using e
      rw [this]
      simp
theorem read_none {z : Str} (h : par [40] [] (tl z) = none) : (decide (V.str (ptext z (terms (Txt.removesuffix Str.empty clsS))) = V.str z)) = false := by
  refine decide_eq_false fun e => ?_
  have e3 := congrArg (fun y => (tl y).length) (V.str.inj e)
  simp only [ptext_tl, List.length_append, List.length_cons] at e3
  omega
end L2.LawH
set_option Elab.async false
set_option linter.all false
set_option maxRecDepth 100000
set_option maxHeartbeats 4000000
/-! read_pattern. -/
namespace L2.LawH
open PySem PySem.Spec PyProof.Rows L2.Cmp L2.TxtSet TL
abbrev sRd18 : Stmt := top 13
def spRd : Sp := fun vs H Q _ => ∃ z : Str, vs = [.str z] ∧ z.length ≤ 1000 ∧ (∀ c ∈ tl z, c < 0x110000) ∧ (rdOk z = none → ∀ H', Same H H' → Q .non H') ∧
  (∀ a ts, rdOk z = some (a, ts) → ∀ (p : Addr) (H' : Hp), Same H H' → H p = none → H' p = some (.tup (.str a :: ts.map V.str)) → Q (.ref p) H')
theorem cut_le {z a i : Str} (h : cutP z = some (a, i)) : a.length ≤ z.length ∧ i.length ≤ z.length ∧ (∀ c ∈ tl a, c ∈ tl z) ∧ ∀ c ∈ tl i, c ∈ tl z := by
  unfold cutP at h
  cases hp : par [40] [] (tl z) with
  | none => rw [hp] at h; cases h
  | some ab =>
    obtain ⟨a', b'⟩ := ab
    obtain ⟨m, e1, e2, _⟩ := par_eq 40 _ _ _ _ hp
    rw [List.nil_append] at e1
    rw [hp] at h
    dsimp only at h
    by_cases hl : b'.getLast? = some 41
    · rw [if_pos hl] at h
      have h2 := Option.some.inj h
      have e3 : a = ⟨a'.toArray⟩ := (congrArg Prod.fst h2).symm
      have e4 : i = ⟨b'.dropLast.toArray⟩ := (congrArg Prod.snd h2).symm
      have t1 : tl a = m := by rw [e3, ← e1]
      have t2 : tl i = b'.dropLast := by rw [e4]
      have lz := congrArg List.length e2
      rw [List.length_append, List.length_cons] at lz
      have lb : b'.dropLast.length ≤ b'.length := by rw [List.length_dropLast]; omega
      refine ⟨?_, ?_, fun c hc => ?_, fun c hc => ?_⟩
      · rw [len_tl, len_tl, t1]
        omega
      · rw [len_tl, len_tl z, t2]
        omega
      · rw [e2]
        rw [t1] at hc
        exact List.mem_append_left _ hc
      · rw [e2]
        rw [t2] at hc
        exact List.mem_append_right _ (List.mem_cons_of_mem _ ((List.dropLast_sublist _).subset hc))
    · rw [if_neg hl] at h
      cases h
section
variable {P : Program} {w : World} {K : PySem.W.Frag} {mg : Str → Option Value} {base : Heap}
abbrev nRd : List Str := ["text", "table", "_", "rest", "inner", "terms", "pattern"]
theorem scRd : FnScope nRd ["text"] (defScope sRd18) := ⟨rfl, rfl, rfl, by decide +kernel, rfl, by decide +kernel, by decide +kernel⟩
theorem ok_rd {f fP fX : Addr} {fd fdP fdX : FuncData} (F : Fun K "read_pattern" "read_pattern" sRd18 f fd)
    (GP : FnOk P w K mg base CX0 3 fP fdP ["value"] (spIsP K patB)) (kP : PySem.W.keepIn K (.ref fP) = true) (bP : Binds K fdP ["value"] []) (mP : mg "is_pattern" = some (.ref fP))
    (GX : FnOk P w K mg base CX0 1 fX fdX ["pattern"] spPtx) (kX : PySem.W.keepIn K (.ref fX) = true) (bX : Binds K fdX ["pattern"] []) (mX : mg "pattern_text" = some (.ref fX)) :
    FnOk P w K mg base CX0 4 f fd ["text"] spRd := by
  refine F.ok scRd (fun vs H Q E h => ?_) (fun cdv A outer s H vs Q E hr h => ?_)
  · obtain ⟨z, rfl, _⟩ := h
    rfl
  · obtain ⟨z, rfl, lz, cz, kN, kS⟩ := h
    have hr1 : Room 1 _ := hr.mono (by decide)
    have hr3 : Room 3 _ := hr.mono (by decide)
    refine ⟨_, pss_cons (ps_asg (pe_partition (pv 0) pe_str) (pg_tup rfl (pgs_cons (pg_name (i := 1) scRd.nd rfl (.inl rfl)) (pgs_cons (pg_name (i := 2) scRd.nd rfl (.inl rfl)) (pgs_cons (pg_name (i := 3) scRd.nd rfl (.inl rfl)) pgs_nil)))))
      (pss_cons (ps_set (i := 4) scRd.nd rfl (Or.inl rfl) (pe_m1 PySem.F.slot_str_removesuffix PySem.F.type_str_removesuffix mt_removesuffix (pv 3) pe_str))
      (pss_cons (ps_set (i := 5) scRd.nd rfl (Or.inl rfl) (pe_ifExp (pt_truth (pv 4) (by intro _; rfl)) (pe_split (pv 4) pe_str) (pe_lst pa_nil)))
      (pss_cons (ps_set (i := 6) scRd.nd rfl (Or.inl rfl) (pe_tup (pa_cons (pv 1) (StX.pa_star (pv 5) pa_nil))))
      (pss_cons (ps_if (PW.pt (pw_and (pt_val (pe_call GP hr3 (by rfl) mP kP bP .nil pass0 (pa_cons (pv 6) pa_nil)))
          (pw_and1 (pt_cmpR op_eq (pe_call GX hr1 (by rfl) mX kX bX .nil pass0 (pa_cons (pv 6) pa_nil)) (pv 0) (nomark _))))) (pss_one (ps_ret (pv 6))) pss_nil)
      (pss_one (ps_ret pe_non)))))), ?_⟩
    refine ⟨_, rfl, ⟨_, rfl⟩, z, _, rfl, rfl, by decide +kernel, by rw [sizeLine_eq]; omega, fun p np => ?_⟩
    have facts : ∃ a b m, Txt.partition z opnS = (a, m, b) ∧ a.length ≤ z.length ∧ b.length ≤ z.length ∧
        (patB (.str a :: (terms (Txt.removesuffix b clsS)).map V.str) = true → decide (V.str (ptext a (terms (Txt.removesuffix b clsS))) = V.str z) = true → rdOk z = some (a, terms (Txt.removesuffix b clsS))) ∧
        (patB (.str a :: (terms (Txt.removesuffix b clsS)).map V.str) = false ∨ decide (V.str (ptext a (terms (Txt.removesuffix b clsS))) = V.str z) = false → rdOk z = none) := by
      cases hp : par [40] [] (tl z) with
      | none =>
        refine ⟨z, Str.empty, Str.empty, by rw [part_eq, hp], Nat.le_refl _, Nat.zero_le _, fun _ h => ?_, fun _ => ?_⟩
        · rw [read_none hp] at h
          cases h
        · unfold rdOk cutP
          rw [hp]
      | some ab =>
        obtain ⟨a, b⟩ := ab
        obtain ⟨m, e1, e2, _⟩ := par_eq 40 _ _ _ _ hp
        rw [List.nil_append] at e1
        have lz := congrArg List.length e2
        rw [List.length_append, List.length_cons, ← e1] at lz
        have hp2 : par [40] [] (tl z) = some (tl ⟨a.toArray⟩, tl ⟨b.toArray⟩) := hp
        refine ⟨⟨a.toArray⟩, ⟨b.toArray⟩, opnS, by rw [part_eq, hp], ?_, ?_, fun h1 h2 => ?_, fun h => ?_⟩
        · rw [len_tl, len_tl z]
          show a.length ≤ _
          omega
        · rw [len_tl, len_tl z]
          show b.length ≤ _
          omega
        · rw [read_same hp2] at h2
          have h2 : b.getLast? = some 41 := of_decide_eq_true h2
          have e : Txt.removesuffix ⟨b.toArray⟩ clsS = ⟨b.dropLast.toArray⟩ := by
            rw [suffix_eq]
            exact if_pos h2
          rw [e] at h1 ⊢
          unfold rdOk cutP
          rw [hp]
          dsimp only
          rw [if_pos h2]
          dsimp only
          rw [if_pos h1]
        · unfold rdOk cutP
          rw [hp]
          dsimp only
          by_cases h2 : b.getLast? = some 41
          · rw [if_pos h2]
            dsimp only
            rw [read_same hp2, decide_eq_true (show (tl ⟨b.toArray⟩).getLast? = some 41 from h2)] at h
            have e : Txt.removesuffix ⟨b.toArray⟩ clsS = ⟨b.dropLast.toArray⟩ := by
              rw [suffix_eq]
              exact if_pos h2
            rw [e] at h
            rcases h with h | h
            · rw [if_neg (by rw [h]; exact Bool.false_ne_true)]
            · cases h
          · rw [if_neg h2]
    obtain ⟨a, b, m, ep, la, lb, hyes, hno⟩ := facts
    have ep : Txt.partition z (Str.ofString "(") = (a, m, b) := ep
    rw [ep]
    dsimp only
    have li : (Txt.removesuffix b clsS).length ≤ b.length := by
      rw [suffix_eq]
      split
      · rw [len_tl, len_tl]
        show (tl b).dropLast.length ≤ _
        rw [List.length_dropLast]
        omega
      · exact Nat.le_refl _
    have u1 : Same H (upd H p (.tup [.str a, .str m, .str b])) := same_new np
    refine ⟨p, _, rfl, SqT.of upd_same, rfl, _, _, rfl, _, _, rfl, _, _, rfl, rfl, ?_⟩
    refine ⟨_, rfl, ⟨_, rfl⟩, b, _, rfl, rfl, by rw [sizeLine_eq]; omega, ?_⟩
    generalize hi : Txt.removesuffix b clsS = i at hyes hno li
    refine ⟨_, rfl, _, ⟨by rw [sizeLine_eq]; omega, rfl⟩, ?_⟩
    refine ite2 (fun h0 => ⟨_, rfl, ⟨_, rfl⟩, i, _, rfl, rfl, by decide +kernel, by rw [sizeLine_eq]; omega, fun l nl => ?_⟩) (fun h0 => ⟨by show 0 ≤ sizeLine; decide, fun l nl => ?_⟩)
    all_goals
      generalize hH2 : upd _ l _ = H2
      have s2 : Same H H2 := by
        rw [← hH2]
        exact u1.trans (same_new nl)
      have hl : H2 l = some (.lst ((terms i).map V.str)) := by
        rw [← hH2, upd_same]
        unfold terms
        first
          | exact congrArg (fun y : List Str => some (HO.lst (y.map V.str))) (if_neg (fun z : i.length = 0 => by simp [z] at h0)).symm
          | exact congrArg (fun y : List Str => some (HO.lst (y.map V.str))) (show ([] : List Str) = if i.length = 0 then [] else Txt.split i comS from (if_pos (show i.length = 0 by simpa using h0)).symm)
      have tle := terms_le i
      refine ⟨_, rfl, _, rfl, l, _, rfl, .inr (SqL.of hl), ?_, fun t nt => ?_⟩
      · simp only [List.append_nil, List.length_cons, List.length_map]
        rw [sizeLine_eq]
        omega
      rw [List.append_nil]
      generalize hH3 : upd H2 t _ = H3
      have s3 : Same H2 H3 := by
        rw [← hH3]
        exact same_new nt
      have ht : H3 t = some (.tup (.str a :: (terms i).map V.str)) := by
        rw [← hH3]
        exact upd_same
      have ntH : H t = none := by
        cases e : H t with
        | none => rfl
        | some o =>
          rw [s2 t o e] at nt
          cases nt
      refine ⟨_, rfl, _, rfl, .inl ⟨t, _, rfl, ht, ?_, fun y hy => ?_, fun H4 s4 => ⟨_, rfl, ?_⟩⟩⟩
      · rw [List.length_cons, List.length_map]
        omega
      · rcases List.mem_cons.mp hy with rfl | hy
        · exact .inl ⟨_, rfl, by omega⟩
        · obtain ⟨y', hy', rfl⟩ := List.mem_map.mp hy
          have := term_le hy'
          exact .inl ⟨_, rfl, by omega⟩
      cases hA : patB (.str a :: (terms i).map V.str) with
      | false =>
        refine iteF (iteF ?_)
        exact kN (hno (.inl hA)) _ ((s2.trans s3).trans s4)
      | true =>
        obtain ⟨ba, bt, by_⟩ := pat_bd hA
        refine iteT ⟨_, rfl, t, a, terms i, rfl, s4 _ _ ht, by omega, by omega, fun y hy => Nat.le_trans (by_ y hy) (by decide), fun H5 s5 => ⟨_, rfl, rfl, _, rfl, ?_⟩⟩
        cases hB : decide (V.str (ptext a (terms i)) = V.str z) with
        | false =>
          refine iteF ?_
          exact kN (hno (.inr hB)) _ (((s2.trans s3).trans s4).trans s5)
        | true =>
          refine iteT ⟨_, rfl, ?_⟩
          exact kS a (terms i) (hyes hA hB) t _ (((s2.trans s3).trans s4).trans s5) ntH (s5 _ _ (s4 _ _ ht))
end
end L2.LawH
set_option Elab.async false
set_option linter.all false
set_option maxRecDepth 100000
set_option maxHeartbeats 4000000
/-! _law_of_text. -/
namespace L2.LawH
open PySem PySem.Spec PyProof.Rows L2.Cmp L2.TxtSet TL
abbrev sLOT : Stmt := top 30
/-- the fact with a text -/
def rdF (z : Str) : Option (Str × List Str) := match cutP z with
  | none => none
  | some (a, i) => if factB (.str a :: (terms i).map V.str) = true then some (a, terms i) else none
def spLOT : Sp := fun vs H Q _ => ∃ z : Str, vs = [.str z] ∧ z.length ≤ 1000 ∧ (∀ c ∈ tl z, c < 0x110000) ∧ (rdF z = none → ∀ H', Same H H' → Q .non H') ∧
  (∀ a ts, rdF z = some (a, ts) → ∀ (p : Addr) (H' : Hp), Same H H' → H p = none → H' p = some (.tup (.str a :: ts.map V.str)) → Q (.ref p) H')
theorem sIx_m1 (n d : Nat) : HT.sIx n d (some (-1)) = n - 1 := by
  show (if (-1 : Int) < 0 then ((-1 : Int) + (n : Int)).toNat else min (-1 : Int).toNat n) = n - 1
  rw [if_pos (by decide)]
  omega
theorem cut_last (z : Str) : tl (cutS z (some (-1)) none) = (tl z).drop (z.length - 1) := by
  show ((tl z).drop (HT.sIx z.length 0 (some (-1)))).take (HT.sIx z.length z.length none - HT.sIx z.length 0 (some (-1))) = _
  rw [sIx_m1, HT.sIx_none]
  refine List.take_of_length_le ?_
  rw [List.length_drop, ← len_tl]
  omega
theorem cut_to (z : Str) (k : Nat) : tl (cutS z none (some (k : Int))) = (tl z).take k := by
  show ((tl z).drop (HT.sIx z.length 0 none)).take (HT.sIx z.length z.length (some (k : Int)) - HT.sIx z.length 0 none) = _
  rw [HT.sIx_nat, HT.sIx_none, List.drop_zero, Nat.sub_zero, len_tl z]
  rcases Nat.le_total k (tl z).length with h | h
  · rw [Nat.min_eq_left h]
  · rw [Nat.min_eq_right h, List.take_of_length_le (Nat.le_refl _), List.take_of_length_le h]
theorem cut_in {z : Str} {m b : List Nat} (h : tl z = m ++ 40 :: b) : tl (cutS z (some ((m.length : Int) + 1)) (some (-1))) = b.dropLast := by
  have hz : z.length = m.length + 1 + b.length := by
    rw [len_tl, h, List.length_append, List.length_cons]
    omega
  have e1 : HT.sIx z.length 0 (some ((m.length : Int) + 1)) = m.length + 1 := by
    have e := HT.sIx_nat z.length 0 (m.length + 1)
    rw [show ((m.length + 1 : Nat) : Int) = (m.length : Int) + 1 by omega] at e
    rw [e]
    omega
  show ((tl z).drop (HT.sIx z.length 0 (some ((m.length : Int) + 1)))).take (HT.sIx z.length z.length (some (-1)) - HT.sIx z.length 0 (some ((m.length : Int) + 1))) = _
  rw [sIx_m1, e1, h, hz]
  have e2 : (m ++ 40 :: b).drop (m.length + 1) = b := by
    rw [show m ++ 40 :: b = (m ++ [40]) ++ b by simp]
    have e3 : (m ++ [40]).length = m.length + 1 := by simp
    rw [← e3]
    exact List.drop_left
  rw [e2, List.dropLast_eq_take]
  congr 1
  omega
/-- the last sign of a text that is cut -/
theorem last_sign {z : Str} {m b : List Nat} (h : tl z = m ++ 40 :: b) : decide (V.str (cutS z (some (-1)) none) = V.str clsS) = decide (b.getLast? = some 41) := by
  refine decide_eq_decide.mpr ⟨fun e => ?_, fun e => ?_⟩
  · have e1 := congrArg tl (V.str.inj e)
    rw [cut_last, tl_cls, h, len_tl, h] at e1
    rcases last_cases b with hb | ⟨k, c, hb⟩
    · subst hb
      rw [List.length_append] at e1
      have e2 : (m ++ [40]).drop (m.length + 1 - 1) = [40] := by
        rw [Nat.add_sub_cancel]
        exact List.drop_left
      have e3 : (m ++ [40]).drop (m.length + [40].length - 1) = [40] := e2
      rw [e3] at e1
      cases e1
    · subst hb
      have e4 : m ++ 40 :: (k ++ [c]) = (m ++ 40 :: k) ++ [c] := by simp
      rw [e4, List.length_append] at e1
      have e5 : ((m ++ 40 :: k) ++ [c]).drop ((m ++ 40 :: k).length + 1 - 1) = [c] := by
        rw [Nat.add_sub_cancel]
        exact List.drop_left
      have e6 : ((m ++ 40 :: k) ++ [c]).drop ((m ++ 40 :: k).length + [c].length - 1) = [c] := e5
      rw [e6] at e1
      have : c = 41 := by simpa using e1
      rw [this]
      simp
  · refine congrArg V.str (ext_tl ?_)
    rw [cut_last, tl_cls, h, len_tl, h]
    rcases last_cases b with hb | ⟨k, c, hb⟩
    · subst hb
      cases e
    · subst hb
      have hc : c = 41 := by simpa using e
      subst hc
      have e4 : m ++ 40 :: (k ++ [41]) = (m ++ 40 :: k) ++ [41] := by simp
      rw [e4, List.length_append]
      have e5 : ((m ++ 40 :: k) ++ [41]).drop ((m ++ 40 :: k).length + 1 - 1) = [41] := by
        rw [Nat.add_sub_cancel]
        exact List.drop_left
      exact e5
theorem itm_str {K : PySem.W.Frag} {H : Hp} {y : Str} (l : y.length ≤ 100000) (h : ∀ c ∈ tl y, c < 0x110000) : Itm K H (.str y) :=
  ⟨.inl ⟨y, rfl, l, h⟩, .str y, .str y, by
    show (PyData.str y).canLay0 = true
    simp only [PyData.canLay0]
    exact ok_list h, by simp [PyData.depth]⟩
section
variable {P : Program} {w : World} {K : PySem.W.Frag} {mg : Str → Option Value} {base : Heap}
abbrev nLOT : List Str := ["_law_text_here", "_law_place", "_law_inside", "_law_pattern_here"]
theorem scLOT : FnScope nLOT ["_law_text_here"] (defScope sLOT) := ⟨rfl, rfl, rfl, by decide +kernel, rfl, by decide +kernel, by decide +kernel⟩
theorem ok_LOT {f fP : Addr} {fd fdP : FuncData} (F : Fun K "_law_of_text" "_law_of_text" sLOT f fd)
    (GP : FnOk P w K mg base CX0 3 fP fdP ["_law_value", "_law_open_too"] (spLIP K)) (kP : PySem.W.keepIn K (.ref fP) = true) (bP : Binds K fdP ["_law_value", "_law_open_too"] []) (mP : mg "_law_is_pattern" = some (.ref fP))
    (mt : mg "tuple" = none) :
    FnOk P w K mg base CX0 4 f fd ["_law_text_here"] spLOT := by
  refine F.ok scLOT (fun vs H Q E h => ?_) (fun cdv A outer s H vs Q E hr h => ?_)
  · obtain ⟨z, rfl, _⟩ := h
    rfl
  · obtain ⟨z, rfl, lz, cz, kN, kS⟩ := h
    have hr3 : Room 3 _ := hr.mono (by decide)
    refine ⟨_, pss_cons (ps_set (i := 1) scLOT.nd rfl (Or.inl rfl) (pe_m1 PySem.F.slot_str_find PySem.F.type_str_find mt_find (pv 0) pe_str))
      (pss_cons (ps_if (PW.pt (pw_or (pt_cmpR op_lt (pv 1) pe_int (nomark _)) (pw_or1 (pt_cmpR op_ne (pe_slice sl_str (pv 0) (po_some (pe_un un_neg pe_int)) po_none) pe_str (nomark _))))) (pss_one (ps_ret pe_non)) pss_nil)
      (pss_cons (ps_set (i := 2) scLOT.nd rfl (Or.inl rfl) (pe_slice sl_str (pv 0) (po_some (pe_op op_add (pv 1) pe_int)) (po_some (pe_un un_neg pe_int))))
      (pss_cons (ps_set (i := 3) scLOT.nd rfl (Or.inl rfl) (pe_callTy call_tuple_of (by rfl) mt (by decide +kernel) (pa_cons (pe_op op_cat (pe_lst (pa_cons (pe_slice sl_str (pv 0) po_none (po_some (pv 1))) pa_nil))
          (pe_ifExp (pt_cmpR op_ne (pv 2) pe_str (nomark _)) (pe_split (pv 2) pe_str) (pe_lst pa_nil))) pa_nil)))
      (pss_one (ps_ret (pe_ifExp (pt_val (pe_call GP hr3 (by rfl) mP kP bP .nil pass0 (pa_cons (pv 3) (pa_cons pe_bl pa_nil)))) (pv 3) pe_non)))))), ?_⟩
    refine ⟨_, rfl, ⟨_, rfl⟩, z, _, rfl, rfl, ?_⟩
    have ef := find_eq z
    have ef : Txt.find z (Str.ofString "(") = match par [40] [] (tl z) with | none => -1 | some (a, _) => (a.length : Int) := ef
    rw [ef]
    have szl : z.length ≤ sizeLine := by rw [sizeLine_eq]; omega
    cases hp : par [40] [] (tl z) with
    | none =>
      refine ⟨_, rfl, _, _, rfl, rfl, _, rfl, iteT ?_⟩
      refine kN ?_ H fun _ _ e => e
      unfold rdF cutP
      rw [hp]
    | some ab =>
      obtain ⟨a, b⟩ := ab
      obtain ⟨m, e1, e2, _⟩ := par_eq 40 _ _ _ _ hp
      rw [List.nil_append] at e1
      subst e1
      refine ⟨_, rfl, _, _, rfl, rfl, _, rfl, ?_⟩
      have e0 : decide ((a.length : Int) < 0) = false := decide_eq_false (by omega)
      dsimp only
      rw [e0]
      refine iteF ⟨_, rfl, _, rfl, _, rfl, z, rfl, szl, rfl, _, rfl, ?_⟩
      have el : decide (V.str (cutS z (some (-1)) none) = V.str (Str.ofString ")")) = decide (b.getLast? = some 41) := last_sign e2
      rw [el]
      have eN : ∀ h : ¬ b.getLast? = some 41, rdF z = none := fun h => by
        unfold rdF cutP
        rw [hp]
        dsimp only
        rw [if_neg h]
      by_cases hl : b.getLast? = some 41
      case neg =>
        rw [decide_eq_false hl]
        exact iteT (kN (eN hl) H fun _ _ e => e)
      rw [decide_eq_true hl]
      refine iteF ⟨_, rfl, _, rfl, _, _, rfl, rfl, _, rfl, _, rfl, _, rfl, z, rfl, szl, ?_⟩
      have ei : cutS z (some ((a.length : Int) + 1)) (some (-1)) = ⟨b.dropLast.toArray⟩ := ext_tl (cut_in e2)
      have ea : cutS z none (some (a.length : Int)) = ⟨a.toArray⟩ := by
        refine ext_tl ?_
        rw [cut_to, e2]
        exact List.take_left
      have ei2 : cutS z (some ((a.length : Int) + 1)) (some (-(1 : Int))) = ⟨b.dropLast.toArray⟩ := ei
      rw [ei2]
      have bounds := cut_le (z := z) (a := ⟨a.toArray⟩) (i := ⟨b.dropLast.toArray⟩) (by
        unfold cutP
        rw [hp]
        exact if_pos hl)
      have rdT : rdF z = if factB (.str ⟨a.toArray⟩ :: (terms ⟨b.dropLast.toArray⟩).map V.str) = true then some (⟨a.toArray⟩, terms ⟨b.dropLast.toArray⟩) else none := by
        unfold rdF cutP
        rw [hp]
        dsimp only
        rw [if_pos hl]
      generalize hA : (⟨a.toArray⟩ : Str) = A' at bounds rdT ea
      generalize hI : (⟨b.dropLast.toArray⟩ : Str) = i at bounds rdT
      obtain ⟨bA, bI, cA, cI⟩ := bounds
      refine ⟨_, rfl, _, rfl, _, rfl, z, rfl, szl, ?_⟩
      rw [ea]
      refine ⟨by show 1 ≤ sizeLine; decide, fun l1 n1 => ?_⟩
      have h1 : (upd H l1 (.lst [.str A'])) l1 = some (.lst [.str A']) := upd_same
      have s1 : Same H (upd H l1 (.lst [.str A'])) := same_new n1
      generalize upd H l1 (.lst [.str A']) = H1 at h1 s1 ⊢
      have e00 : (Str.ofString "").length = 0 := by decide +kernel
      refine ⟨_, rfl, rfl, _, rfl, ?_⟩
      refine ite2 (fun h0 => ⟨_, rfl, ⟨_, rfl⟩, i, _, rfl, rfl, by decide +kernel, by rw [sizeLine_eq]; omega, fun l2 n2 => ?_⟩) (fun h0 => ⟨by show 0 ≤ sizeLine; decide, fun l2 n2 => ?_⟩)
      all_goals
        generalize hH2 : upd _ l2 _ = H2
        have s2 : Same H1 H2 := by
          rw [← hH2]
          exact same_new n2
        have h2 : H2 l2 = some (.lst ((terms i).map V.str)) := by
          rw [← hH2, upd_same]
          unfold terms
          first
            | exact congrArg (fun y : List Str => some (HO.lst (y.map V.str))) (if_neg (fun z : i.length = 0 => by
                have e : i = Str.ofString "" := ext_tl (by
                  have e1 : tl i = [] := List.length_eq_zero_iff.mp (by rw [← len_tl]; exact z)
                  rw [e1]
                  decide +kernel)
                rw [e] at h0
                simp at h0)).symm
            | exact congrArg (fun y : List Str => some (HO.lst (y.map V.str))) (show ([] : List Str) = if i.length = 0 then [] else Txt.split i comS from (if_pos (by
                have e : i = Str.ofString "" := by
                  have q : ¬ (!decide (V.str i = V.str (Str.ofString ""))) = true := h0
                  cases d : decide (V.str i = V.str (Str.ofString "")) with
                  | true => exact V.str.inj (of_decide_eq_true d)
                  | false =>
                    rw [d] at q
                    exact absurd rfl q
                rw [e, e00])).symm)
        have tle := terms_le i
        refine ⟨l1, l2, _, _, rfl, rfl, s2 _ _ h1, h2, by rw [List.length_singleton, List.length_map, sizeLine_eq]; omega, fun l3 n3 => ?_⟩
        refine ⟨l3, _, rfl, .inl ⟨SqL.of upd_same, fun t nt => ?_⟩⟩
        have s3 : Same H2 (upd H2 l3 (.lst ([.str A'] ++ (terms i).map V.str))) := same_new n3
        generalize upd H2 l3 (.lst ([.str A'] ++ (terms i).map V.str)) = H3 at nt s3 ⊢
        have s4 : Same H3 (upd H3 t (.tup ([.str A'] ++ (terms i).map V.str))) := same_new nt
        have h4 : (upd H3 t (.tup ([.str A'] ++ (terms i).map V.str))) t = some (.tup (.str A' :: (terms i).map V.str)) := upd_same
        generalize upd H3 t (.tup ([.str A'] ++ (terms i).map V.str)) = H4 at s4 h4 ⊢
        have sH : Same H H4 := ((s1.trans s2).trans s3).trans s4
        have ntH : H t = none := by
          cases e : H t with
          | none => rfl
          | some o =>
            rw [((s1.trans s2).trans s3) t o e] at nt
            cases nt
        refine ⟨_, rfl, _, false, some (.str A' :: (terms i).map V.str), rfl, ⟨t, rfl, h4, ?_, fun y hy => ?_⟩, fun H5 s5 => ⟨_, rfl, ?_⟩⟩
        · rw [List.length_cons, List.length_map]
          omega
        · rcases List.mem_cons.mp hy with rfl | hy
          · exact itm_str (by omega) fun c hc => cz c (cA c hc)
          · obtain ⟨y', hy', rfl⟩ := List.mem_map.mp hy
            have := term_le hy'
            exact itm_str (by omega) fun c hc => cz c (cI c (term_mem hy' hc))
        · rw [if_neg Bool.false_ne_true]
          show (if fAns (some (.str A' :: (terms i).map V.str)) = true then _ else _)
          have eP : fAns (some (.str A' :: (terms i).map V.str)) = factB (.str A' :: (terms i).map V.str) := rfl
          rw [eP]
          by_cases hP : factB (.str A' :: (terms i).map V.str) = true
          · rw [if_pos hP] at rdT
            rw [if_pos hP]
            exact ⟨_, rfl, kS _ _ rdT t _ (sH.trans s5) ntH (s5 _ _ h4)⟩
          · rw [if_neg hP] at rdT
            rw [if_neg hP]
            exact kN rdT _ (sH.trans s5)
end
end L2.LawH
set_option Elab.async false
set_option linter.all false
set_option maxRecDepth 100000
set_option maxHeartbeats 4000000
/-! Sets whose members are tuples, nested as they may be: what is asked of a member while it is sought and laid. -/
namespace L2.NSet
open PySem PySem.Spec PyProof.Rows
section
variable {P : Program} {w : World}
def ClsAt (P : Program) (w : World) (n : Nat) (s : Shared) (v : Value) : Prop := ∀ (A : Around) (E : Value → Shared → Prop) (Q : Bool → Shared → Prop), Q false s → wpAny (model P w) A (ofAClassStatement n v) Q E s
theorem ClsAt.flat {n : Nat} {s : Shared} {v : Value} (h : ∀ a, v ≠ .ref a) : ClsAt P w n s v := fun A E Q q => by
  have e : ofAClassStatement n v = pure false := by
    cases v with
    | ref a => exact absurd rfl (h a)
    | _ => cases n <;> rfl
  rw [e]
  exact wpAny_pure q
theorem ClsAt.tup {n : Nat} {s : Shared} {a : Addr} {o : Obj} {vs : Array Value} {m : Nat} (ho : s.heap.get? a = some o) (hc : o.cls = .type "tuple") (hd : o.data = .seq vs m) (hq : ∀ v ∈ vs.toList, ClsAt P w n s v) :
    ClsAt P w (n + 1) s (.ref a) := fun A E Q h => by
  unfold ofAClassStatement
  refine wpAny_bind (wpAny_typeOf ⟨o, ho, hc⟩ ?_)
  dsimp only
  have e : (("tuple" : String) == "tuple") = true := by decide
  simp only [e, if_true, Bool.not_true, Bool.false_eq_true, if_false]
  refine wpAny_bind (wpAny_pure ?_)
  simp only [Bool.not_true, Bool.false_eq_true, if_false]
  refine wpAny_bind (wpAny_seqItems ho hd ?_)
  dsimp only
  refine wpAny_bind ?_
  show wpAny _ _ (forIn vs _ _) _ _ s
  rw [← Array.forIn_toList]
  refine wpAny_forIn_list _ (fun rest r s1 => r.1 = none ∧ s1 = s ∧ ∀ v ∈ rest, ClsAt P w n s v) _ (fun v rest r s1 I => ?_) (fun r s1 I => ?_) _ _ ⟨rfl, rfl, hq⟩
  · obtain ⟨i1, rfl, i2⟩ := I
    refine wpAny_bind (i2 v List.mem_cons_self _ _ _ ?_)
    simp only [Bool.false_eq_true, if_false]
    exact wpAny_pure ⟨rfl, rfl, fun u m => i2 u (List.mem_cons_of_mem _ m)⟩
  · obtain ⟨r1, r2⟩ := r
    obtain ⟨i1, rfl, _⟩ := I
    simp only at i1
    subst i1
    exact wpAny_pure h
mutual
theorem cls_key : ∀ (k : NestedKey) (v : Value) (n : Nat) (s : Shared), NestedIs s.heap k v → k.depth ≤ n → ClsAt P w n s v
  | .none, _, _, _, x, _ => by cases x; exact .flat fun a e => nomatch e
  | .num i, _, _, _, x, _ => by cases x <;> exact .flat fun a e => nomatch e
  | .text y, _, _, _, x, _ => by cases x; exact .flat fun a e => nomatch e
  | .tup ks, _, n, s, x, hn => by
    cases x with
    | tup hg hc hd hk =>
      simp only [NestedKey.depth] at hn
      match n, hn with
      | n + 1, hn => exact .tup hg hc hd (cls_keys ks _ n s hk (Nat.le_of_succ_le_succ hn))
theorem cls_keys : ∀ (ks : List NestedKey) (vs : List Value) (n : Nat) (s : Shared), NestedAll s.heap ks vs → NestedKey.depthAll ks ≤ n → ∀ v ∈ vs, ClsAt P w n s v
  | [], _, _, _, x, _, v, hv => by cases x; cases hv
  | k :: ks, _, n, s, x, hn, v, hv => by
    cases x with
    | cons x1 x2 =>
      simp only [NestedKey.depthAll] at hn
      rcases List.mem_cons.mp hv with rfl | hv
      · exact cls_key k _ n s x1 (Nat.le_trans (Nat.le_max_left _ _) hn)
      · exact cls_keys ks _ n s x2 (Nat.le_trans (Nat.le_max_right _ _) hn) v hv
end
/-- hash by value: some answer -/
def HbvAt (P : Program) (w : World) (n : Nat) (s : Shared) (v : Value) : Prop := ∀ (A : Around) (E : Value → Shared → Prop) (Q : Bool → Shared → Prop), (∀ b, Q b s) → wpAny (model P w) A (hashByValue n v) Q E s
theorem HbvAt.tup {n : Nat} {s : Shared} {a : Addr} {o : Obj} {vs : Array Value} {m : Nat} (ho : s.heap.get? a = some o) (hc : o.cls = .type "tuple") (hd : o.data = .seq vs m) (hq : ∀ v ∈ vs.toList, HbvAt P w n s v) :
    HbvAt P w (n + 1) s (.ref a) := fun A E Q h => by
  unfold hashByValue
  refine wpAny_bind (wpAny_specialOf ⟨o, ho, hc⟩ F.slot_tuple_hash.lookup ?_)
  show wpAny _ _ (seqItems? (.ref a) >>= _) _ _ s
  refine wpAny_bind (wpAny_seqItems ho hd ?_)
  refine wpAny_bind ?_
  show wpAny _ _ (forIn vs _ _) _ _ s
  rw [← Array.forIn_toList]
  refine wpAny_forIn_list _ (fun rest r s1 => r.1 = none ∧ s1 = s ∧ ∀ v ∈ rest, HbvAt P w n s v) _ (fun v rest r s1 I => ?_) (fun r s1 I => ?_) _ _ ⟨rfl, rfl, hq⟩
  · obtain ⟨i1, rfl, i2⟩ := I
    refine wpAny_bind (i2 v List.mem_cons_self _ _ _ fun b => ?_)
    cases b with
    | true =>
      simp only [Bool.not_true, Bool.false_eq_true, if_false]
      exact wpAny_pure ⟨rfl, rfl, fun u m => i2 u (List.mem_cons_of_mem _ m)⟩
    | false =>
      simp only [Bool.not_false, if_true]
      exact wpAny_pure (wpAny_pure (h _))
  · obtain ⟨r1, r2⟩ := r
    obtain ⟨i1, rfl, _⟩ := I
    simp only at i1
    subst i1
    exact wpAny_pure (h _)
theorem HbvAt.flat {n : Nat} {s : Shared} {v : Value} (b : Bool) (e : hashByValue n v = pure b) : HbvAt P w n s v := fun A E Q q => by
  rw [e]
  exact wpAny_pure (q b)
mutual
theorem hbv_key : ∀ (k : NestedKey) (v : Value) (n : Nat) (s : Shared), NestedIs s.heap k v → k.depth ≤ n → HbvAt P w n s v
  | .none, _, n, _, x, _ => by cases x; exact .flat true (by cases n <;> rfl)
  | .num i, _, n, _, x, _ => by cases x <;> exact .flat true (by cases n <;> rfl)
  | .text y, _, n, _, x, _ => by cases x; exact .flat false (by cases n <;> rfl)
  | .tup ks, _, n, s, x, hn => by
    cases x with
    | tup hg hc hd hk =>
      simp only [NestedKey.depth] at hn
      match n, hn with
      | n + 1, hn => exact .tup hg hc hd (hbv_keys ks _ n s hk (Nat.le_of_succ_le_succ hn))
theorem hbv_keys : ∀ (ks : List NestedKey) (vs : List Value) (n : Nat) (s : Shared), NestedAll s.heap ks vs → NestedKey.depthAll ks ≤ n → ∀ v ∈ vs, HbvAt P w n s v
  | [], _, _, _, x, _, v, hv => by cases x; cases hv
  | k :: ks, _, n, s, x, hn, v, hv => by
    cases x with
    | cons x1 x2 =>
      simp only [NestedKey.depthAll] at hn
      rcases List.mem_cons.mp hv with rfl | hv
      · exact hbv_key k _ n s x1 (Nat.le_trans (Nat.le_max_left _ _) hn)
      · exact hbv_keys ks _ n s x2 (Nat.le_trans (Nat.le_max_right _ _) hn) v hv
end
end
section
variable {P : Program} {w : World} {A : Around} {E : Value → Shared → Prop} {s : Shared}
/-- the tuple at b is the key k -/
abbrev Kb (P : Program) (w : World) (h : Heap) (k : NestedKey) (b : Addr) : Prop := (nestedKind P w).is h k b
theorem kb_at {h h' : Heap} {k : NestedKey} {b : Addr} (x : Kb P w h k b) (hk : ∀ c o vs n, h.get? c = some o → o.data = .seq vs n → h'.get? c = some o) : Kb P w h' k b := ⟨NestedIs.at hk _ _ x.1, x.2⟩
theorem kb_but {h h' : Heap} {k : NestedKey} {a b : Addr} {o : Obj} {es : Array (Int × Value)} {ep : Nat} {t : SetTable} (x : Kb P w h k b) (ho : h.get? a = some o) (hd : o.data = .set es ep t) (hs : Heap.SameBut a h h') : Kb P w h' k b :=
  kb_at x fun c u vs n e1 e2 => (hs.2 c fun z => by
    rw [z, ho] at e1
    cases e1
    rw [hd] at e2
    cases e2).trans e1
theorem seen_key {k : NestedKey} {b : Addr} {Q : Bool → Shared → Prop} (hk : Kb P w s.heap k b) {ys : List Value} (hy : ∀ y ∈ ys, ∃ k2 c, y = Value.ref c ∧ Kb P w s.heap k2 c) (h : Q false s) :
    wpAny (model P w) A (searchCouldBeSeen (.ref b) ys) Q E s := by
  unfold searchCouldBeSeen
  refine wpAny_bind ?_
  refine wpAny_forIn_list _ (fun rest r s1 => r.1 = none ∧ s1 = s ∧ ∀ y ∈ rest, ∃ k2 c, y = Value.ref c ∧ Kb P w s.heap k2 c) _ (fun v rest r s1 I => ?_) (fun r s1 I => ?_) _ _ ⟨rfl, rfl, hy⟩
  · obtain ⟨i1, rfl, i2⟩ := I
    obtain ⟨k2, c, rfl, hc⟩ := i2 v List.mem_cons_self
    have more : ∀ y ∈ rest, ∃ k2 c, y = Value.ref c ∧ Kb P w s1.heap k2 c := fun u m => i2 u (List.mem_cons_of_mem _ m)
    dsimp only
    by_cases very : (b == c || (carriedByValue (.ref b) && carriedByValue (.ref c))) = true
    · exact wp_if_pos very (wpAny_pure ⟨rfl, rfl, more⟩)
    · refine wp_if_neg very (wpAny_bind ((nestedKind P w).quiet hk ?_))
      simp only [Bool.not_true, Bool.false_eq_true, if_false]
      refine wpAny_bind ((nestedKind P w).quiet hc ?_)
      simp only [Bool.not_true, Bool.false_eq_true, if_false]
      refine wpAny_bind (cls_key k _ 8 _ hk.1 hk.2 _ _ _ ?_)
      simp only [Bool.false_eq_true, if_false]
      refine wpAny_bind (cls_key k2 _ 8 _ hc.1 hc.2 _ _ _ ?_)
      simp only [Bool.false_eq_true, if_false]
      exact wpAny_pure ⟨rfl, rfl, more⟩
  · obtain ⟨r1, r2⟩ := r
    obtain ⟨i1, rfl, _⟩ := I
    simp only at i1
    subst i1
    exact wpAny_pure h
end
end L2.NSet
set_option Elab.async false
set_option linter.all false
set_option maxRecDepth 100000
set_option maxHeartbeats 4000000
/-! Sets whose members are tuples, nested as they may be: seeking a member in the table. -/
namespace L2.NSet
open PySem PySem.Spec PyProof.Rows
/-- the rows of the table: hash and address of each member -/
abbrev Mem : Type := Addr × NestedKey
def rowN (w : World) (p : Mem) : Int × Value := (p.2.hash w, Value.ref p.1)
structure Tab (P : Program) (w : World) (h : Heap) (a : Addr) (L : List Mem) (es : Array (Int × Value)) (ep : Nat) (t : SetTable) : Prop where
  here : ∃ o, h.get? a = some o ∧ o.ExactSet ∧ o.data = .set es ep t
  rows : es.toList = L.map (rowN w)
  lay : TabOk t (L.map fun p => p.2.hash w)
  once : (L.map (·.2)).Nodup
  each : ∀ p ∈ L, Kb P w h p.2 p.1
  told : w.params.followText "set-order" = true ∨ t.led = true
  free : L.length * 5 < t.mask * 3
  few : L.length < 64
section
variable {P : Program} {w : World} {A : Around} {E : Value → Shared → Prop} {s : Shared} {a : Addr} {L : List Mem} {es : Array (Int × Value)} {ep : Nat} {t : SetTable}
theorem rows_size (h : es.toList = L.map (rowN w)) : es.size = L.length := by
  rw [← Array.length_toList, h, List.length_map]
theorem rows_at (h : es.toList = L.map (rowN w)) {i : Nat} {p : Mem} (e : L[i]? = some p) : es[i]? = some (p.2.hash w, Value.ref p.1) := by
  rw [← Array.getElem?_toList, h, List.getElem?_map, e]
  rfl
theorem Tab.size (R : Tab P w s.heap a L es ep t) : es.size = L.length := rows_size R.rows
theorem Tab.fits (R : Tab P w s.heap a L es ep t) : t.fits es.size = true := by
  have h1 := R.lay.sz
  have h2 := R.size
  have h3 := R.free
  rw [List.length_map] at h1
  unfold SetTable.fits SetTable.fill
  rw [R.lay.dm, Bool.and_eq_true, beq_iff_eq, decide_eq_true_eq]
  show t.place.size = es.size ∧ t.place.size + 0 ≤ t.mask
  omega
/-- where the way of a hash begins -/
abbrev top0 (m : Nat) (hx : Int) : SetTable.Probe := runAt m (SetTable.bits hx % (m + 1)) (SetTable.bits hx)
theorem top_dummy (m : Nat) (hx : Int) (c : Nat) : (nth m (top0 m hx) c).dummy = none := by
  have key : ∀ (n : Nat) (p : SetTable.Probe), p.dummy = none → (nth m p n).dummy = none := fun n => by
    induction n with
    | zero => exact fun p h => h
    | succ n ih =>
      refine fun p h => ih (adv m p) ?_
      unfold adv
      split <;> exact h
  exact key c _ rfl
/-- the rest behind a candidate whose answer is known -/
theorem rest_of (R : Tab P w s.heap a L es ep t) {x : Addr} {k : NestedKey} (hx : Kb P w s.heap k x) (hu : A.units + 8 < cLine) {i j : Nat} {p : Mem} (hp : L[i]? = some p) (hi : t.place.toList[i]? = some j) {f : Nat} {nx : SetTable.Probe} {Q : SetFound → Shared → Prop}
    (yes : p.2 = k → Q (.there none) s) (no : p.2 ≠ k → wpAny (model P w) A (setSearchFrom a (.ref x) (k.hash w) true f (some nx)) Q E s) :
    wpAny (model P w) A (searchRest a (.ref x) (k.hash w) true f es t j i nx) Q E s := by
  obtain ⟨o, ho, ox, od⟩ := R.here
  have mp : p ∈ L := List.mem_of_getElem? hp
  unfold searchRest
  rw [rows_at R.rows hp]
  dsimp only
  refine wpAny_bind (wpAny_holding ((nestedKind P w).eqBool hu (R.each p mp) hx ?_))
  refine wpAny_bind (wpAny_setState_of ho od R.fits ?_)
  dsimp only
  by_cases e : p.2 = k
  · exact wp_if_pos (by simp [e]) (wpAny_pure (yes e))
  · refine wp_if_neg (by simp [e]) ?_
    rw [sameMem]
    dsimp only
    simp only [if_true, slot_live R.lay.ris hi, rows_at R.rows hp]
    refine wpAny_bind (wpAny_isSame_ref_self (wpAny_bind (wpAny_pure ?_)))
    simp only [if_true]
    exact wp_if_neg (by simp [e]) (no e)
theorem seek (R : Tab P w s.heap a L es ep t) {x : Addr} {k : NestedKey} (hx : Kb P w s.heap k x) (hu : A.units + 8 < cLine) {N : Nat} (nf : N < 10 * SetTable.turns t.mask)
    (n0 : way t.mask (k.hash w) N ∉ t.place.toList) (nb : ∀ c, c < N → way t.mask (k.hash w) c ∈ t.place.toList) {Q : SetFound → Shared → Prop}
    (yes : k ∈ L.map (·.2) → Q (.there none) s) (no : k ∉ L.map (·.2) → Q (.free (way t.mask (k.hash w) N) false) s) :
    ∀ (f c : Nat) (st : Option SetTable.Probe), st.getD (t.probeStart (k.hash w)) = nth t.mask (top0 t.mask (k.hash w)) c → c ≤ N → N - c < f →
      (∀ (i : Nat) p, L[i]? = some p → p.2 = k → ∃ d, c ≤ d ∧ d < N ∧ t.place.toList[i]? = some (way t.mask (k.hash w) d)) →
      wpAny (model P w) A (setSearchFrom a (.ref x) (k.hash w) true f st) Q E s
  | 0, _, _, _, _, z, _ => absurd z (Nat.not_lt_zero _)
  | f + 1, c, st, hst, hc, hf, ahead => by
    obtain ⟨o, ho, ox, od⟩ := R.here
    rw [setSearchFrom_succ]
    refine wpAny_bind (wpAny_setState_of ho od R.fits ?_)
    dsimp only
    have gw : ¬ t.gaveWay = true := by
      unfold SetTable.gaveWay
      rw [mask_odd R.lay.mok]
      decide
    refine wp_if_neg gw ?_
    have sh : ∀ q, nth t.mask (nth t.mask (top0 t.mask (k.hash w)) c) q = nth t.mask (top0 t.mask (k.hash w)) (c + q) := fun q => (nth_add t.mask c _ q).symm
    have ej : ∀ q, (nth t.mask (nth t.mask (top0 t.mask (k.hash w)) c) q).j = way t.mask (k.hash w) (c + q) := fun q => congrArg SetTable.Probe.j (sh q)
    have cN : c + (N - c) = N := by omega
    have G := go_spec t R.lay.ris R.lay.dm (fun i => (es[i]?.map (·.1)).getD 0) (k.hash w) (10 * SetTable.turns t.mask) (N - c) _ (top_dummy t.mask (k.hash w) c) (by omega)
      (fun q hq => by rw [ej]; exact nb (c + q) (by omega)) (by rw [ej, cN]; exact n0)
    have hat : ∀ (i : Nat) p, L[i]? = some p → (fun i => (es[i]?.map (·.1)).getD 0) i = p.2.hash w := fun i p hp => by
      show (es[i]?.map (·.1)).getD 0 = _
      rw [rows_at R.rows hp]
      rfl
    rcases G with ⟨q, i, hq, hi, hh, skip, pr⟩ | ⟨skip, pr⟩
    · rw [ej] at hi
      have pr2 : t.probe (fun i => (es[i]?.map (·.1)).getD 0) (k.hash w) (st.getD (t.probeStart (k.hash w))) = some (.candidate (way t.mask (k.hash w) (c + q)) i (nth t.mask (top0 t.mask (k.hash w)) (c + (q + 1)))) := by
        rw [hst, ← ej, ← sh]
        exact pr
      rw [pr2]
      dsimp only
      have il : i < L.length := by
        have h1 : i < t.place.toList.length := (List.getElem?_eq_some_iff.mp hi).1
        have h2 := R.lay.sz
        rw [List.length_map] at h2
        rw [Array.length_toList] at h1
        omega
      obtain ⟨p, hp⟩ : ∃ p, L[i]? = some p := ⟨_, List.getElem?_eq_getElem il⟩
      have go : wpAny (model P w) A (searchRest a (.ref x) (k.hash w) true f es t (way t.mask (k.hash w) (c + q)) i (nth t.mask (top0 t.mask (k.hash w)) (c + (q + 1)))) Q E s := by
        refine rest_of R hx hu hp hi (fun e => yes (List.mem_map.mpr ⟨p, List.mem_of_getElem? hp, e⟩)) fun ne => ?_
        refine seek R hx hu nf n0 nb yes no f (c + (q + 1)) _ rfl (by omega) (by omega) fun i2 p2 h2 k2 => ?_
        obtain ⟨d, d1, d2, d3⟩ := ahead i2 p2 h2 k2
        have hk2 : (fun i => (es[i]?.map (·.1)).getD 0) i2 = k.hash w := (hat i2 p2 h2).trans (by rw [k2])
        refine ⟨d, ?_, d2, d3⟩
        rcases Nat.lt_trichotomy d (c + q) with z | z | z
        · exact absurd hk2 (skip (d - c) i2 (by omega) (by rw [ej, show c + (d - c) = d by omega]; exact d3))
        · rw [z] at d3
          have s1 := slot_live R.lay.ris hi
          have s2 := slot_live R.lay.ris d3
          rw [s1] at s2
          injection s2 with s2
          rw [← s2, hp] at h2
          cases h2
          exact absurd k2 ne
        · omega
      by_cases led : t.led = true
      · exact wp_if_neg (by simp [led]) go
      · refine wp_if_pos (by simp [led]) (wpAny_bind (seen_key hx (fun y hy => ?_) ?_))
        · obtain ⟨e, he, rfl⟩ := List.mem_map.mp hy
          have he2 : e ∈ es.toList := by
            have : e ∈ es ∧ e.1 = k.hash w := by simpa using he
            simpa using this.1
          rw [R.rows] at he2
          obtain ⟨p2, m2, rfl⟩ := List.mem_map.mp he2
          exact ⟨p2.2, p2.1, rfl, R.each p2 m2⟩
        · exact wp_if_neg (by decide) go
    · have pr2 : t.probe (fun i => (es[i]?.map (·.1)).getD 0) (k.hash w) (st.getD (t.probeStart (k.hash w))) = some (.empty (way t.mask (k.hash w) N) none) := by
        have e2 : way t.mask (k.hash w) N = (nth t.mask (nth t.mask (top0 t.mask (k.hash w)) c) (N - c)).j := by rw [ej, cN]
        rw [hst, e2]
        exact pr
      rw [pr2]
      dsimp only
      refine wpAny_pure (no fun m => ?_)
      obtain ⟨p, mp, ek⟩ := List.mem_map.mp m
      obtain ⟨i, hi, e⟩ := List.getElem_of_mem mp
      have hp : L[i]? = some p := by rw [List.getElem?_eq_getElem hi, e]
      obtain ⟨d, d1, d2, d3⟩ := ahead i p hp ek
      exact skip (d - c) i (by omega) (by rw [ej, show c + (d - c) = d by omega]; exact d3) ((hat i p hp).trans (by rw [ek]))
theorem seek_all (R : Tab P w s.heap a L es ep t) {x : Addr} {k : NestedKey} (hx : Kb P w s.heap k x) (hu : A.units + 8 < cLine) {Q : SetFound → Shared → Prop}
    (yes : k ∈ L.map (·.2) → Q (.there none) s)
    (no : ∀ N, k ∉ L.map (·.2) → way t.mask (k.hash w) N ∉ t.place.toList → (∀ c, c < N → way t.mask (k.hash w) c ∈ t.place.toList) → Q (.free (way t.mask (k.hash w) N) false) s) :
    wpAny (model P w) A (setSearch a (.ref x) (k.hash w) true) Q E s := by
  have fr := R.free
  obtain ⟨N, nf, n0, nb⟩ := R.lay.first (by rw [List.length_map]; omega) (k.hash w)
  have small : N < 100000 := by
    have : 10 * SetTable.turns t.mask ≤ 1420 := by
      unfold SetTable.turns
      rcases R.lay.mok with e | e | e <;> omega
    omega
  unfold setSearch
  refine seek R hx hu nf n0 nb yes (fun m => no N m n0 nb) 100000 0 none rfl (Nat.zero_le _) (by omega) fun i p hp hk => ?_
  have hi : (L.map fun p => p.2.hash w)[i]? = some (k.hash w) := by
    rw [List.getElem?_map, hp, ← hk]
    rfl
  have il : i < t.place.toList.length := by
    have h1 : i < L.length := (List.getElem?_eq_some_iff.mp hp).1
    have h2 := R.lay.sz
    rw [List.length_map] at h2
    rw [Array.length_toList]
    omega
  have hj := List.getElem?_eq_getElem il
  obtain ⟨c, hc, e⟩ := R.lay.before n0 hi hj
  exact ⟨c, Nat.zero_le _, hc, by rw [hj, e]⟩
end
end L2.NSet
set_option Elab.async false
set_option linter.all false
set_option maxRecDepth 100000
set_option maxHeartbeats 4000000
/-! Sets whose members are tuples, nested as they may be: laying a member down. -/
namespace L2.NSet
open PySem PySem.Spec PyProof.Rows
section
variable {P : Program} {w : World} {A : Around} {E : Value → Shared → Prop} {s : Shared} {a : Addr} {L : List Mem} {es : Array (Int × Value)} {ep : Nat} {t : SetTable}
/-- rows picked by places -/
theorem picked (h : es.toList = L.map (rowN w)) {l : List Nat} (hl : ∀ i ∈ l, i < L.length) : ∃ M : List Mem, l.filterMap (fun i => es[i]?) = M.map (rowN w) ∧ M = l.filterMap (fun i => L[i]?) ∧
    (M.map fun p => p.2.hash w) = l.map fun i => (es.map (·.1)).getD i 0 := by
  induction l with
  | nil => exact ⟨[], rfl, rfl, rfl⟩
  | cons i l ih =>
    obtain ⟨M, m1, m2, m3⟩ := ih fun j m => hl j (List.mem_cons_of_mem _ m)
    have li := hl i List.mem_cons_self
    have hp : L[i]? = some L[i] := List.getElem?_eq_getElem li
    have he := rows_at h hp
    refine ⟨L[i] :: M, ?_, ?_, ?_⟩
    · rw [List.filterMap_cons_some he, m1]
      rfl
    · rw [List.filterMap_cons_some hp, m2]
    · rw [List.map_cons, List.map_cons, m3]
      have e5 : (es.map (·.1))[i]? = some ((L[i]).2.hash w) := by
        rw [Array.getElem?_map, he]
        rfl
      simp [Array.getD_eq_getD_getElem?, e5]
theorem all_places (L : List Mem) : (List.range L.length).filterMap (fun i => L[i]?) = L := by
  have key : ∀ n, n ≤ L.length → (List.range n).filterMap (fun i => L[i]?) = L.take n := fun n => by
    induction n with
    | zero => exact fun _ => rfl
    | succ n ih =>
      intro hn
      have lt : n < L.length := hn
      have hp : L[n]? = some L[n] := List.getElem?_eq_getElem lt
      rw [List.range_succ, List.filterMap_append, ih (Nat.le_of_lt lt), List.take_succ, hp, List.filterMap_cons_some hp]
      rfl
  rw [key L.length (Nat.le_refl _), List.take_length]
theorem reordered (h : es.toList = L.map (rowN w)) {order : Array Nat} (pm : order.toList.Perm (List.range L.length)) :
    ∃ M : List Mem, (order.filterMap (es[·]?)).toList = M.map (rowN w) ∧ M.Perm L ∧ (M.map fun p => p.2.hash w) = order.toList.map fun i => (es.map (·.1)).getD i 0 := by
  obtain ⟨M, m1, m2, m3⟩ := picked h (l := order.toList) fun i m => List.mem_range.mp (pm.mem_iff.mp m)
  refine ⟨M, ?_, ?_, m3⟩
  · rw [Array.toList_filterMap]
    exact m1
  · have q := pm.filterMap fun i => L[i]?
    rw [all_places, ← m2] at q
    exact q
/-- the table laid anew -/
theorem widen {o : Obj} (ho : s.heap.get? a = some o) (ox : o.ExactSet) (od : o.data = .set es ep t) (hr : es.toList = L.map (rowN w)) (hz : t.place.size = es.size) (hd : t.dummies = #[]) (hf : es.size ≤ t.mask)
    (nd : (L.map (·.2)).Nodup) (each : ∀ p ∈ L, Kb P w s.heap p.2 p.1) (told : w.params.followText "set-order" = true ∨ t.led = true) (few : L.length < 64) {want M : Nat}
    (hw : SetTable.sizeAbove want - 1 = M) (hM : MaskOk M) (h128 : SetTable.sizeAbove want ≤ 128) (hroom : L.length * 5 < M * 3) {Q : Unit → Shared → Prop}
    (hQ : ∀ h2 L2 es2 ep2 t2, Heap.SameBut a s.heap h2 → Tab P w h2 a L2 es2 ep2 t2 → L2.Perm L → Q () { s with heap := h2 }) : wpAny (model P w) A (setRelay a want) Q E s := by
  have sz := rows_size hr
  have fits : t.fits es.size = true := by
    unfold SetTable.fits SetTable.fill
    rw [hd, Bool.and_eq_true, beq_iff_eq, decide_eq_true_eq]
    show t.place.size = es.size ∧ t.place.size + 0 ≤ t.mask
    omega
  obtain ⟨t2, order, e, pm, T, em, el, e3, e4⟩ := relaid_ok t (hs := es.map (·.1)) (wanted := want) hw hM (by rw [Array.size_map, sz]; omega)
  rw [Array.size_map, sz] at pm
  obtain ⟨M2, r1, r2, r3⟩ := reordered hr pm
  rw [← r3] at T
  have z2 : (order.filterMap (es[·]?)).size = es.size := by rw [rows_size r1, r2.length_eq, sz]
  rw [setRelay_eq]
  refine wpAny_bind (wpAny_setState_of ho od fits ?_)
  dsimp only
  refine wp_if_neg (by rw [sizeLine_eq]; omega) ?_
  rw [e]
  dsimp only
  refine wpAny_bind (wp_if_neg (by rw [z2]; simp) (wpAny_pure ?_))
  dsimp only
  refine wpAny_storeSet_of ho od ?_ (by rw [z2, sz, sizeLine_eq]; omega)
  have sb := Heap.SameBut.update s.heap a (Obj.putSet (order.filterMap (es[·]?)) t2)
  refine hQ _ M2 (order.filterMap (es[·]?)) (ep + 1) t2 sb ⟨⟨_, store_at ho od, ⟨ox.1, ox.2.1, ox.2.2⟩, rfl⟩, r1, T, (r2.map (·.2)).nodup_iff.mpr nd, fun p m => kb_but (each p (r2.mem_iff.mp m)) ho od sb, by rw [el]; exact told, ?_, by rw [r2.length_eq]; exact few⟩ r2
  rw [r2.length_eq, em]
  exact hroom
theorem put_mid (L : List Mem) (p : Nat) (x : Mem) : (L.take p ++ x :: L.drop p).Perm (x :: L) := by
  have h : (L.take p ++ x :: L.drop p).Perm (x :: (L.take p ++ L.drop p)) := List.perm_middle
  rwa [List.take_append_drop] at h
/-- adding a tuple -/
theorem lay (R : Tab P w s.heap a L es ep t) {x : Addr} {k : NestedKey} (hx : Kb P w s.heap k x) (hu : A.units + 8 < cLine) (few : L.length + 1 < 64) {Q : Bool → Shared → Prop}
    (hQ : ∀ b h2 L2 es2 ep2 t2, Heap.SameBut a s.heap h2 → Tab P w h2 a L2 es2 ep2 t2 → (k ∈ L.map (·.2) → L2 = L) → (k ∉ L.map (·.2) → L2.Perm ((x, k) :: L)) → Q b { s with heap := h2 }) :
    wpAny (model P w) A (setAddHashed a (.ref x) (k.hash w)) Q E s := by
  obtain ⟨o, ho, ox, od⟩ := R.here
  have sz := R.size
  have fr := R.free
  unfold setAddHashed
  refine wpAny_holding ?_
  rw [show (100000 : Nat) = 99999 + 1 from rfl, setAddHashedIn_succ]
  refine wpAny_bind (wpAny_setState_of ho od R.fits ?_)
  dsimp only
  refine wp_if_neg (by simp [byScan, Value.scannable]) ?_
  refine wpAny_bind (seek_all R hx hu (fun m => ?_) fun N m n0 nb => ?_)
  · dsimp only
    exact wpAny_pure (hQ false s.heap L es ep t (Heap.SameBut.refl a s.heap) R (fun _ => rfl) fun z => absurd m z)
  dsimp only
  refine wpAny_bind (wpAny_setState_of ho od R.fits ?_)
  dsimp only
  obtain ⟨q1, q2, q3, q4, q5, _, _, _, q9⟩ := R.lay.put n0 nb
  generalize t.put (way t.mask (k.hash w) N) = pt at q1 q3 q4 q5 q9 ⊢
  obtain ⟨t1, p⟩ := pt
  dsimp only at q1 q3 q4 q5 q9 ⊢
  subst q1
  have mid : ∀ b : Bool, wpAny (model P w) A (do
      storeSet a (SetTable.insertAt es (SetTable.below t.place (way t.mask (k.hash w) N)) (k.hash w, Value.ref x)) (if b = true then t1 else { t1 with plain := false })
      if (!false && (if b = true then t1 else { t1 with plain := false }).tooFull) = true then setRelay a (SetTable.grown (es.size + 1))
      return true) Q E s := fun b => by
    have hin : (SetTable.insertAt es (SetTable.below t.place (way t.mask (k.hash w) N)) (k.hash w, Value.ref x)).toList = (L.take (SetTable.below t.place (way t.mask (k.hash w) N)) ++ (x, k) :: L.drop (SetTable.below t.place (way t.mask (k.hash w) N))).map (rowN w) := by
      rw [SetTable.toList_insertAt, R.rows, List.map_append, List.map_cons, List.map_take, List.map_drop]
      rfl
    generalize SetTable.below t.place (way t.mask (k.hash w) N) = p at q2 q3 hin ⊢
    have pm := put_mid L p (x, k)
    have len : (L.take p ++ (x, k) :: L.drop p).length = L.length + 1 := pm.length_eq
    have hh : (L.take p ++ (x, k) :: L.drop p).map (fun p => p.2.hash w) = (L.map fun p => p.2.hash w).take p ++ k.hash w :: (L.map fun p => p.2.hash w).drop p := by
      rw [List.map_append, List.map_cons, List.map_take, List.map_drop]
    rw [← hh] at q3
    have nd : ((L.take p ++ (x, k) :: L.drop p).map (·.2)).Nodup := (pm.map (·.2)).nodup_iff.mpr (List.nodup_cons.mpr ⟨m, R.once⟩)
    have z1 := rows_size hin
    rw [len] at z1
    generalize SetTable.insertAt es p (k.hash w, Value.ref x) = es1 at hin z1 ⊢
    generalize L.take p ++ (x, k) :: L.drop p = L1 at pm len q3 nd hin
    obtain ⟨u, hu2, u3, u4, u5, u6⟩ : ∃ u : SetTable, (if b = true then t1 else { t1 with plain := false }) = u ∧ TabOk u (L1.map fun p => p.2.hash w) ∧ u.mask = t.mask ∧ u.led = t.led ∧ u.fill = L.length + 1 := by
      cases b
      · exact ⟨{ t1 with plain := false }, rfl, ⟨q3.ris, q3.dm, q3.sz, q3.mok, q3.bd, q3.reach⟩, q4, q5, by rw [List.length_map] at q9; exact q9⟩
      · exact ⟨t1, rfl, q3, q4, q5, by rw [List.length_map] at q9; exact q9⟩
    rw [hu2]
    refine wpAny_bind (wpAny_storeSet_of ho od ?_ (by rw [z1, sizeLine_eq]; omega))
    have sb : Heap.SameBut a s.heap (s.heap.update a (Obj.putSet es1 u)) := Heap.SameBut.update ..
    have ho1 := store_at (es' := es1) (t' := u) ho od
    generalize s.heap.update a (Obj.putSet es1 u) = h1 at sb ho1 ⊢
    have each : ∀ p ∈ L1, Kb P w h1 p.2 p.1 := fun p mp => by
      rcases List.mem_cons.mp (pm.mem_iff.mp mp) with e | mp
      · rw [e]
        exact kb_but hx ho od sb
      · exact kb_but (R.each p mp) ho od sb
    have told : w.params.followText "set-order" = true ∨ u.led = true := by rw [u5]; exact R.told
    by_cases full : u.tooFull = true
    · refine wp_if_pos (by simp [full]) (wpAny_bind ?_)
      have tight : (L.length + 1) * 5 ≥ u.mask * 3 := by
        have h := full
        unfold SetTable.tooFull at h
        rw [decide_eq_true_eq, u6] at h
        exact h
      rw [sz]
      have z2 : u.place.size = es1.size := by
        have h := u3.sz
        rw [List.length_map, len] at h
        rw [h, z1]
      have two : (t.mask = 7 ∧ L.length = 4) ∨ (t.mask = 31 ∧ L.length = 18) := by
        rcases R.lay.mok with e | e | e
        · rw [u4, e] at tight
          rw [e] at fr
          exact .inl ⟨e, by omega⟩
        · rw [u4, e] at tight
          rw [e] at fr
          exact .inr ⟨e, by omega⟩
        · rw [u4, e] at tight
          omega
      have go : ∀ M, SetTable.sizeAbove (SetTable.grown (L.length + 1)) - 1 = M → MaskOk M → SetTable.sizeAbove (SetTable.grown (L.length + 1)) ≤ 128 → (L.length + 1) * 5 < M * 3 →
          wpAny (model P w) A (setRelay a (SetTable.grown (L.length + 1))) (fun _ s2 => wpAny (model P w) A (pure true) Q E s2) E { s with heap := h1 } := fun M g1 g2 g3 g4 =>
        widen (s := { s with heap := h1 }) ho1 ⟨ox.1, ox.2.1, ox.2.2⟩ rfl hin z2 u3.dm (by rw [z1, u4]; rcases two with ⟨e, e2⟩ | ⟨e, e2⟩ <;> omega) nd each told (by rw [len]; exact few) g1 g2 g3 (by rw [len]; exact g4)
          fun h2 L2 es2 ep2 t2 sb2 R2 pm2 => wpAny_pure (hQ true h2 L2 es2 ep2 t2 (sb.trans sb2) R2 (fun z => absurd z m) fun _ => pm2.trans pm)
      rcases two with ⟨_, e2⟩ | ⟨_, e2⟩
      · exact go 31 (by rw [e2, size_20]) (.inr (.inl rfl)) (by rw [e2, size_20]; decide) (by omega)
      · exact go 127 (by rw [e2, size_76]) (.inr (.inr rfl)) (by rw [e2, size_76]; decide) (by omega)
    · refine wp_if_neg (by simp [full]) (wpAny_pure (hQ true h1 L1 es1 (ep + 1) u sb ⟨⟨_, ho1, ⟨ox.1, ox.2.1, ox.2.2⟩, rfl⟩, hin, u3, nd, each, told, ?_, by rw [len]; exact few⟩ (fun z => absurd z m) fun _ => pm))
      have h := full
      unfold SetTable.tooFull at h
      rw [decide_eq_true_eq, u6] at h
      rw [len]
      omega
  by_cases pl : t1.plain = true
  · refine wp_if_pos pl (wpAny_bind (hbv_key k _ 8 _ hx.1 hx.2 _ _ _ fun b => ?_))
    exact mid b
  · refine wp_if_neg pl (wpAny_bind (wpAny_pure ?_))
    exact mid true
end
end L2.NSet
set_option Elab.async false
set_option linter.all false
set_option maxRecDepth 100000
set_option maxHeartbeats 4000000
/-! set(tuples): a list or a tuple of tuples goes into a new set. -/
namespace L2.NSet
open PySem PySem.Spec PyProof.Rows
section
variable {P : Program} {w : World} {A : Around} {E : Value → Shared → Prop} {s : Shared}
/-- what stands in the set when the first i have gone in -/
structure In (ks : List Mem) (i : Nat) (L : List Mem) : Prop where
  from_ : ∀ p ∈ L, p ∈ ks.take i
  to_ : ∀ p ∈ ks.take i, p.2 ∈ L.map (·.2)
  le : L.length ≤ i
theorem In.zero (ks : List Mem) : In ks 0 [] := ⟨fun p h => (nomatch h), fun p h => (by simp at h), Nat.le_refl _⟩
theorem In.next {ks L M : List Mem} {i : Nat} {x : Mem} (g : In ks i L) (h : ks[i]? = some x) (old : x.2 ∈ L.map (·.2) → M = L) (new : x.2 ∉ L.map (·.2) → M.Perm (x :: L)) : In ks (i + 1) M := by
  have tk : ks.take (i + 1) = ks.take i ++ [x] := by
    rw [List.take_succ, h]
    rfl
  by_cases m : x.2 ∈ L.map (·.2)
  · rw [old m]
    refine ⟨fun p mp => ?_, fun p mp => ?_, Nat.le_succ_of_le g.le⟩
    · rw [tk]
      exact List.mem_append_left _ (g.from_ p mp)
    · rw [tk] at mp
      rcases List.mem_append.mp mp with z | z
      · exact g.to_ p z
      · rw [List.mem_singleton.mp z]
        exact m
  · have pm := new m
    refine ⟨fun p mp => ?_, fun p mp => ?_, ?_⟩
    · rw [tk]
      rcases List.mem_cons.mp (pm.mem_iff.mp mp) with e | z
      · rw [e]
        exact List.mem_append_right _ (List.mem_singleton.mpr rfl)
      · exact List.mem_append_left _ (g.from_ p z)
    · rw [(pm.map (·.2)).mem_iff, List.map_cons]
      rw [tk] at mp
      rcases List.mem_append.mp mp with z | z
      · exact List.mem_cons_of_mem _ (g.to_ p z)
      · rw [List.mem_singleton.mp z]
        exact List.mem_cons_self
    · rw [pm.length_eq, List.length_cons]
      exact Nat.succ_le_succ g.le
theorem Tab.keep {h h2 : Heap} {a : Addr} {L : List Mem} {es : Array (Int × Value)} {ep : Nat} {t : SetTable} (R : Tab P w h a L es ep t) (ha : ∀ o, h.get? a = some o → h2.get? a = some o) (each : ∀ p ∈ L, Kb P w h2 p.2 p.1) : Tab P w h2 a L es ep t :=
  let ⟨o, ho, r⟩ := R.here
  ⟨⟨o, ha o ho, r⟩, R.rows, R.lay, R.once, each, R.told, R.free, R.few⟩
abbrev newSet (w : World) : Obj := { cls := .type "set", dict := none, data := .set #[] 0 (.fresh 0 0 (!w.params.followText "set-order")) }
theorem Tab.new {h : Heap} {a : Addr} (ho : h.get? a = some (newSet w)) : Tab P w h a [] #[] 0 (.fresh 0 0 (!w.params.followText "set-order")) where
  here := ⟨_, ho, ⟨rfl, rfl, rfl⟩, rfl⟩
  rows := rfl
  lay := ⟨List.Pairwise.nil, rfl, rfl, .inl rfl, fun x hx => (nomatch hx), fun i h j hi => (by simp at hi)⟩
  once := List.nodup_nil
  each := fun p hp => nomatch hp
  told := by
    show _ ∨ (!w.params.followText "set-order") = true
    cases w.params.followText "set-order"
    · exact .inr rfl
    · exact .inl rfl
  free := by
    show 0 * 5 < 7 * 3
    decide
  few := by
    show 0 < 64
    decide
theorem kb_keep {h h2 : Heap} {k : NestedKey} {b : Addr} (x : Kb P w h k b) (hk : ∀ c o, h.get? c = some o → h2.get? c = some o) : Kb P w h2 k b := kb_at x fun c o _ _ e _ => hk c o e
/-- the loop of set.update -/
theorem loopN {I : Addr} {fp wr : List Addr} {G : Array GenState → Array GenState → Prop} {n : Nat} {Pv : Nat → Value → Prop} {St : Nat → Shared → Prop} {R : Result → Shared → Prop}
    (W : WalksS P w A.in1 I fp wr G n Pv St) (S : Addr) (nf : S ∉ fp) (ks : List Mem) (hn : n = ks.length) (few : ks.length < 64) (val : ∀ i v, Pv i v → ∃ p, ks[i]? = some p ∧ v = .ref p.1)
    (g0 : Heap) (each : ∀ p ∈ ks, Kb P w g0 p.2 p.1) (s0 : g0.get? S = none) (w0 : ∀ b ∈ wr, g0.get? b = none) (hu : A.in1.units + 8 < cLine) :
    ∀ (m i : Nat) (s : Shared), n - i = m → i ≤ n → St i s → (∀ b o, g0.get? b = some o → s.heap.get? b = some o) → (∃ L es ep t, Tab P w s.heap S L es ep t ∧ In ks i L) →
      (∀ s2 L es ep t, Moved (S :: wr) G s s2 → Tab P w s2.heap S L es ep t → In ks n L → (∀ b o, g0.get? b = some o → s2.heap.get? b = some o) → R (.ok (.ret .none)) s2) →
      codeAny (model P w) A (.builtin "set.update.loop" ⟨[.ref S, .ref I], []⟩) R s := by
  have nw : S ∉ wr := fun h => nf (W.sub _ h)
  have wider : ∀ b ∈ wr, b ∈ S :: wr := fun b m => List.mem_cons_of_mem _ m
  have hold : ∀ {s1 s2 : Shared}, Moved wr G s1 s2 → (∀ b o, g0.get? b = some o → s1.heap.get? b = some o) → ∀ b o, g0.get? b = some o → s2.heap.get? b = some o := fun mv k b o e =>
    mv.heap b o (fun m => by rw [w0 b m] at e; cases e) (k b o e)
  intro m
  induction m with
  | zero =>
    rintro i s hm hi hst kp ⟨L, es, ep, t, R0, g⟩ hR
    obtain rfl : i = n := by omega
    refine codeAny_builtin F.entry_set_update_loop ?_
    rw [Around.under_plainId F.plain_set_update_loop _] <;> show wpAny _ A.in1 (pyNext (.ref I) >>= _) _ _ s
    refine wpAny_bind (W.done s _ _ hst fun s2 mv => ?_)
    have kp2 := hold mv kp
    exact wpAny_pure (hR s2 L es ep t (mv.mono wider) (R0.keep (fun o e => mv.heap S o nw e) fun p mp => kb_keep (each p (List.mem_of_mem_take (g.from_ p mp))) kp2) g kp2)
  | succ m ih =>
    rintro i s hm hi hst kp ⟨L, es, ep, t, R0, g⟩ hR
    have lt : i < n := by omega
    refine codeAny_builtin F.entry_set_update_loop ?_
    rw [Around.under_plainId F.plain_set_update_loop _] <;> show wpAny _ A.in1 (pyNext (.ref I) >>= _) _ _ s
    refine wpAny_bind (W.item i s _ _ lt hst fun v s2 hv hst2 mv => ?_)
    obtain ⟨p, hp, rfl⟩ := val i v hv
    have kp2 := hold mv kp
    have R2 : Tab P w s2.heap S L es ep t := R0.keep (fun o e => mv.heap S o nw e) fun q mq => kb_keep (each q (List.mem_of_mem_take (g.from_ q mq))) kp2
    have hx : Kb P w s2.heap p.2 p.1 := kb_keep (each p (List.mem_of_getElem? hp)) kp2
    show wpAny _ A.in1 (holding [Value.ref p.1] (setAdd S (.ref p.1)) >>= _) _ _ s2
    unfold setAdd
    refine wpAny_bind (wpAny_holding (wpAny_holding (wpAny_bind ((nestedKind P w).pyHash hu hx ?_))))
    refine lay (s := { s2 with toks := s2.toks + p.2.draws }) R2 hx hu (by have := g.le; omega) fun b h3 L3 es3 ep3 t3 sb R3 c1 c2 => ?_
    have kp3 : ∀ b o, g0.get? b = some o → h3.get? b = some o := fun b o e => (sb.2 b fun z => by rw [z, s0] at e; cases e).trans (kp2 b o e)
    refine wpAny_pure ⟨plainId_quiet F.plain_set_update_loop _, ih (i + 1) _ (by omega) lt (W.frame _ s2 _ _ hst2 (Nat.le_add_right _ _) fun b mb o e => ?_) kp3 ⟨L3, es3, ep3, t3, R3, g.next hp c1 c2⟩
      fun s4 L4 es4 ep4 t4 mv4 R4 g4 kp4 => hR s4 L4 es4 ep4 t4 (Moved.trans W.gtrans ((mv.mono wider).then_heap (Nat.le_add_right _ _) fun b o nb e => ?_) mv4) R4 g4 kp4⟩
    · rw [sb.2 b fun z => nf (by rw [← z]; exact mb)]
      exact e
    · rw [sb.2 b fun z => nb (by rw [z]; exact List.mem_cons_self)]
      exact e

set_option maxHeartbeats 16000000 in
/-- set(a list of tuples) -/
theorem call_set_list {l : Addr} {items : Array Value} (ks : List Mem) {Q : Value → Shared → Prop} (hh : A.handled = none) (hl : s.heap.IsList l items) (it : items.toList = ks.map fun p => Value.ref p.1)
    (each : ∀ p ∈ ks, Kb P w s.heap p.2 p.1) (few : ks.length < 64) (hu : A.units + 20 < cLine)
    (h : ∀ (h2 : Heap) (tk : Nat) L es ep t, Tab P w h2 s.heap.objs.size L es ep t → In ks ks.length L → (∀ b o, s.heap.get? b = some o → h2.get? b = some o) → Q (.ref s.heap.objs.size) { s with heap := h2, toks := tk }) :
    wpAny (model P w) A (call (.type "set") [.ref l]) Q E s := by
  have isz : items.size = ks.length := by rw [← Array.length_toList, it, List.length_map]
  obtain ⟨mc, mt, mmro⟩ := F.called_set.mro
  have mmade := F.called_set.made
  have msub := F.called_set.sub
  refine wpAny_call (codeAny_of_tree ?_) <;> show wpAny _ _ (callAny (.type "set") _) _ _ _
  refine wpAny_pure ⟨Code.quiet_builtin _ (by decide +kernel), codeAny_builtin F.entry_type_call ?_⟩ <;> rw [Around.under_plain (weight_type_call_type "set" [.ref l] []) rfl]
  have m1 := F.called_set.notType
  have m2 := F.called_set.canCreate
  have m3 := F.typeCall_set_1 (.ref l)
  repeat (any_goals (first | assumption | wp_step))
  refine codeAny_mono (code_set_led1 (.ref l) (E := E) (Q₁ := fun obj s1 => obj = .ref s.heap.objs.size ∧ s1 = { s with heap := s.heap.push (newSet w) }) ⟨rfl, rfl⟩) fun r s1 hr => ?_
  match r, hr with
  | .error e, hr => exact hr
  | .ok (.ret obj), hr =>
    obtain ⟨rfl, rfl⟩ := hr
    have atS : (s.heap.push (newSet w)).get? s.heap.objs.size = some (newSet w) := Heap.get?_push_size _ rfl
    have tyS : Shared.TypeIs { s with heap := s.heap.push (newSet w) } (.ref s.heap.objs.size) "set" := ⟨_, atS, rfl⟩
    have m4 := F.called_set.init.lookup
    have m5 := F.called_set.init.bind (.ref s.heap.objs.size)
    repeat (any_goals (first | assumption | wp_step))
    refine codeAny_mono (codeAny_call_builtin (R := wants (fun r s2 => r = .none ∧ ∃ h2 tk L es ep t, s2 = { s with heap := h2, toks := tk } ∧ Tab P w h2 s.heap.objs.size L es ep t ∧ In ks ks.length L ∧
        (∀ b o, s.heap.get? b = some o → h2.get? b = some o)) E) F.called_set.init.plain F.entry_set_init (check_set_init_1 tyS ?_)) fun r2 s2 hr2 => ?_
    · obtain ⟨⟨_, odict, _, oslots⟩, hol, hcl, nl, hdl⟩ := hl
      simp only at hcl hdl
      subst hcl; subst hdl
      have hol2 : (s.heap.push (newSet w)).get? l = some { cls := .type "list", dict := odict, data := .seq items nl, slots := oslots } := Heap.get?_push_of_some _ hol
      have m6 := F.sub_list_set
      have m7 := F.sub_list_frozenset
      have m8 : (Value.type "list" == Value.type "dict") = false := by decide
      have hl1 : (s.heap.push (newSet w)).IsList l items := ⟨_, hol2, rfl, nl, rfl⟩
      unfold Builtin.«set.__init__» noKeywords Builtin.Frozenset.updateFrom
      generalize hPI : pyIter = PI
      wp_walk
      subst hPI
      refine wpAny_pyIter_list hl1 (wpAny_bind (wpAny_runValue ?_))
      have lS : l < s.heap.objs.size := Heap.lt_size hol
      have zS : (s.heap.push (newSet w)).objs.size = s.heap.objs.size + 1 := Heap.size_push ..
      have hh3 : A.in1.in1.in1.handled = none := by simp [hh]
      have nI : l ≠ (s.heap.push (newSet w)).objs.size := by rw [zS]; exact Nat.ne_of_lt (Nat.lt_succ_of_lt lS)
      have nf : s.heap.objs.size ∉ [(s.heap.push (newSet w)).objs.size, l] := by
        rw [zS]; simp only [List.mem_cons, List.not_mem_nil, or_false, not_or]
        exact ⟨Nat.ne_of_lt (Nat.lt_succ_self _), Nat.ne_of_gt lS⟩
      have val : ∀ (i : Nat) (v : Value), items[i]? = some v → ∃ p, ks[i]? = some p ∧ v = .ref p.1 := fun i v hv => by
        have q : items.toList[i]? = some v := by rw [Array.getElem?_toList]; exact hv
        rw [it, List.getElem?_map] at q
        obtain ⟨p, hp, e⟩ := Option.map_eq_some_iff.mp q
        exact ⟨p, hp, e.symm⟩
      have out : ∀ b, s.heap.objs.size ≤ b → s.heap.get? b = none := fun b hb => by
        cases q : s.heap.get? b with
        | none => rfl
        | some o => exact absurd (Nat.lt_of_lt_of_le (Heap.lt_size q) hb) (Nat.lt_irrefl _)
      refine loopN ((Walks.list hh3 _ l nI items).toS) s.heap.objs.size nf ks isz few val s.heap each (out _ (Nat.le_refl _)) (fun b mb => out b (by rw [List.mem_singleton.mp mb, zS]; exact Nat.le_succ _))
        (show A.units + 3 + 8 < cLine by omega) (items.size - 0) 0 _ (by omega) (Nat.zero_le _) ⟨⟨_, Heap.get?_push_size _ rfl, rfl, rfl⟩, (hl1.push _)⟩ (fun b o e => Heap.get?_push_of_some _ (Heap.get?_push_of_some _ e)) ?first ?last
      case first => exact ⟨[], #[], 0, _, Tab.new (Heap.get?_push_of_some _ atS), In.zero ks⟩
      case last =>
        rintro ⟨h2, g2, d2, tk2, os2⟩ L es ep t mv R2 g3 kp
        obtain rfl : g2 = s.gens := mv.gens
        obtain rfl : d2 = s.drawn := mv.drawn
        obtain rfl : os2 = s.os := mv.os
        rw [isz] at g3
        exact wpAny_pure (wpAny_pure ⟨rfl, h2, tk2, L, es, ep, t, rfl, R2, g3, kp⟩)
    · match r2, hr2 with
      | .error e, hr2 => exact hr2
      | .ok (.ret r), hr2 =>
        obtain ⟨rfl, h2, tk, L, es, ep, t, rfl, R2, g3, kp⟩ := hr2
        repeat (any_goals (first | assumption | wp_step))
        exact h _ _ _ _ _ _ R2 g3 kp

set_option maxHeartbeats 16000000 in
/-- set(a tuple of tuples) -/
theorem call_set_tuple {l : Addr} {items : Array Value} (ks : List Mem) {Q : Value → Shared → Prop} (hh : A.handled = none) (hl : s.heap.IsTuple l items) (it : items.toList = ks.map fun p => Value.ref p.1)
    (each : ∀ p ∈ ks, Kb P w s.heap p.2 p.1) (few : ks.length < 64) (hu : A.units + 20 < cLine)
    (h : ∀ (h2 : Heap) (tk : Nat) L es ep t, Tab P w h2 s.heap.objs.size L es ep t → In ks ks.length L → (∀ b o, s.heap.get? b = some o → h2.get? b = some o) → Q (.ref s.heap.objs.size) { s with heap := h2, toks := tk }) :
    wpAny (model P w) A (call (.type "set") [.ref l]) Q E s := by
  have isz : items.size = ks.length := by rw [← Array.length_toList, it, List.length_map]
  obtain ⟨mc, mt, mmro⟩ := F.called_set.mro
  have mmade := F.called_set.made
  have msub := F.called_set.sub
  refine wpAny_call (codeAny_of_tree ?_) <;> show wpAny _ _ (callAny (.type "set") _) _ _ _
  refine wpAny_pure ⟨Code.quiet_builtin _ (by decide +kernel), codeAny_builtin F.entry_type_call ?_⟩ <;> rw [Around.under_plain (weight_type_call_type "set" [.ref l] []) rfl]
  have m1 := F.called_set.notType
  have m2 := F.called_set.canCreate
  have m3 := F.typeCall_set_1 (.ref l)
  repeat (any_goals (first | assumption | wp_step))
  refine codeAny_mono (code_set_led1 (.ref l) (E := E) (Q₁ := fun obj s1 => obj = .ref s.heap.objs.size ∧ s1 = { s with heap := s.heap.push (newSet w) }) ⟨rfl, rfl⟩) fun r s1 hr => ?_
  match r, hr with
  | .error e, hr => exact hr
  | .ok (.ret obj), hr =>
    obtain ⟨rfl, rfl⟩ := hr
    have atS : (s.heap.push (newSet w)).get? s.heap.objs.size = some (newSet w) := Heap.get?_push_size _ rfl
    have tyS : Shared.TypeIs { s with heap := s.heap.push (newSet w) } (.ref s.heap.objs.size) "set" := ⟨_, atS, rfl⟩
    have m4 := F.called_set.init.lookup
    have m5 := F.called_set.init.bind (.ref s.heap.objs.size)
    repeat (any_goals (first | assumption | wp_step))
    refine codeAny_mono (codeAny_call_builtin (R := wants (fun r s2 => r = .none ∧ ∃ h2 tk L es ep t, s2 = { s with heap := h2, toks := tk } ∧ Tab P w h2 s.heap.objs.size L es ep t ∧ In ks ks.length L ∧
        (∀ b o, s.heap.get? b = some o → h2.get? b = some o)) E) F.called_set.init.plain F.entry_set_init (check_set_init_1 tyS ?_)) fun r2 s2 hr2 => ?_
    · obtain ⟨⟨_, odict, _, oslots⟩, hol, hcl, nl, hdl⟩ := hl
      simp only at hcl hdl
      subst hcl; subst hdl
      have hol2 : (s.heap.push (newSet w)).get? l = some { cls := .type "tuple", dict := odict, data := .seq items nl, slots := oslots } := Heap.get?_push_of_some _ hol
      have m6 := F.sub_tuple_set
      have m7 := F.sub_tuple_frozenset
      have m8 : (Value.type "tuple" == Value.type "dict") = false := by decide
      have hl1 : (s.heap.push (newSet w)).IsTuple l items := ⟨_, hol2, rfl, nl, rfl⟩
      unfold Builtin.«set.__init__» noKeywords Builtin.Frozenset.updateFrom
      generalize hPI : pyIter = PI
      wp_walk
      subst hPI
      refine wpAny_pyIter_tuple hl1 (wpAny_bind (wpAny_runValue ?_))
      have lS : l < s.heap.objs.size := Heap.lt_size hol
      have zS : (s.heap.push (newSet w)).objs.size = s.heap.objs.size + 1 := Heap.size_push ..
      have hh3 : A.in1.in1.in1.handled = none := by simp [hh]
      have nI : l ≠ (s.heap.push (newSet w)).objs.size := by rw [zS]; exact Nat.ne_of_lt (Nat.lt_succ_of_lt lS)
      have nf : s.heap.objs.size ∉ [(s.heap.push (newSet w)).objs.size, l] := by
        rw [zS]; simp only [List.mem_cons, List.not_mem_nil, or_false, not_or]
        exact ⟨Nat.ne_of_lt (Nat.lt_succ_self _), Nat.ne_of_gt lS⟩
      have val : ∀ (i : Nat) (v : Value), items[i]? = some v → ∃ p, ks[i]? = some p ∧ v = .ref p.1 := fun i v hv => by
        have q : items.toList[i]? = some v := by rw [Array.getElem?_toList]; exact hv
        rw [it, List.getElem?_map] at q
        obtain ⟨p, hp, e⟩ := Option.map_eq_some_iff.mp q
        exact ⟨p, hp, e.symm⟩
      have out : ∀ b, s.heap.objs.size ≤ b → s.heap.get? b = none := fun b hb => by
        cases q : s.heap.get? b with
        | none => rfl
        | some o => exact absurd (Nat.lt_of_lt_of_le (Heap.lt_size q) hb) (Nat.lt_irrefl _)
      refine loopN ((Walks.tuple hh3 _ l nI items).toS) s.heap.objs.size nf ks isz few val s.heap each (out _ (Nat.le_refl _)) (fun b mb => out b (by rw [List.mem_singleton.mp mb, zS]; exact Nat.le_succ _))
        (show A.units + 3 + 8 < cLine by omega) (items.size - 0) 0 _ (by omega) (Nat.zero_le _) ⟨⟨_, Heap.get?_push_size _ rfl, rfl, rfl⟩, (hl1.push _)⟩ (fun b o e => Heap.get?_push_of_some _ (Heap.get?_push_of_some _ e)) ?first ?last
      case first => exact ⟨[], #[], 0, _, Tab.new (Heap.get?_push_of_some _ atS), In.zero ks⟩
      case last =>
        rintro ⟨h2, g2, d2, tk2, os2⟩ L es ep t mv R2 g3 kp
        obtain rfl : g2 = s.gens := mv.gens
        obtain rfl : d2 = s.drawn := mv.drawn
        obtain rfl : os2 = s.os := mv.os
        rw [isz] at g3
        exact wpAny_pure (wpAny_pure ⟨rfl, h2, tk2, L, es, ep, t, rfl, R2, g3, kp⟩)
    · match r2, hr2 with
      | .error e, hr2 => exact hr2
      | .ok (.ret r), hr2 =>
        obtain ⟨rfl, h2, tk, L, es, ep, t, rfl, R2, g3, kp⟩ := hr2
        repeat (any_goals (first | assumption | wp_step))
        exact h _ _ _ _ _ _ R2 g3 kp
end
end L2.NSet
set_option Elab.async false
set_option linter.all false
set_option maxRecDepth 100000
set_option maxHeartbeats 4000000
/-! Sorting tuples of which some may be empty. -/
namespace L2.SortT
open PySem PySem.Spec PySem.Calls PyProof.Rows PySem.W PySem.SeqAt
section
variable {P : Program} {w : World} {A : Around} {E : Value → Shared → Prop} {s : Shared}
theorem call_tuple_lt {Q : Value → Shared → Prop} {l b : Addr} {items items2 : Array Value} {e r : Nat → Bool} (hl : s.heap.IsTuple l items) (hb : s.heap.IsTuple b items2)
    (he : ∀ j (h1 : j < items.size) (h2 : j < items2.size), EqAt A.in1 s items[j] items2[j] (e j)) (hr : ∀ j (h1 : j < items.size) (h2 : j < items2.size), e j = false → RcLt A.in1 s items[j] items2[j] (r j))
    (h : Q (.bool (firstLt e r (decide (items.size < items2.size)) (List.range (min items.size items2.size)))) s) : wpAny (model P w) A (call (.builtin "tuple.__lt__") [.ref l, .ref b]) Q E s := by
  obtain ⟨⟨c1, d1, p1, s1⟩, ho1, hc1, n1, hd1⟩ := hl
  obtain ⟨⟨c2, d2, p2, s2⟩, ho2, hc2, n2, hd2⟩ := hb
  simp only at hc1 hd1 hc2 hd2
  subst hc1 hd1 hc2 hd2
  exact call_meets F.slot_tuple_lt ⟨_, ho1, rfl⟩ F.entry_tuple_lt (F.args_tuple_lt_2 _ _) (tuple_ltAt l b items items2 n1 n2 d1 d2 s1 s2 e r) ⟨ho1, ho2, he, hr, h⟩
/-- one tuple against another, as tuples of one type are asked -/
theorem oneLt_tup {xs ys : List PyData} {a b : Value} {as bs : List Addr} {Q : Bool → Shared → Prop} (ra : Reads s.heap a (.tuple xs) as) (rb : Reads s.heap b (.tuple ys) bs) (hal : alikeAll xs ys = true)
    (hu : A.units + min (PyData.tuple xs).depth (PyData.tuple ys).depth < cLine) (hq : Q (dataLt (.tuple xs) (.tuple ys)) s) : wpAny (model P w) A (oneLt' true a b) Q E s := by
  cases ra with
  | @tuple l o vs n _ as1 h1 h2 h3 h4 =>
    cases rb with
    | @tuple l2 o2 vs2 n2 _ bs1 k1 k2 k3 k4 =>
      have z1 : vs.size = xs.length := by simpa using SeqAt.ReadsAll.length _ _ _ h4
      have z2 : vs2.size = ys.length := by simpa using SeqAt.ReadsAll.length _ _ _ k4
      rw [dataLt_tuple, ← firstLt_toks xs ys hal, ← z1, ← z2] at hq
      rw [oneLt'_eq]
      simp only [if_true]
      refine wpAny_bind (wpAny_cRoomFor (SeqAt.room_here hu) ?_)
      refine wpAny_bind (wpAny_callSpecialIfBound?_slot (T := "tuple") ⟨_, h1, h2⟩ F.slot_tuple_lt (call_tuple_lt (e := pairEq xs ys) (r := fun j => dataLt (xs.getD j .none) (ys.getD j .none)) ⟨_, h1, h2, _, h3⟩ ⟨_, k1, k2, _, k3⟩
        (fun j j1 j2 => ?_) (fun j j1 j2 hj => ?_) (wpAny_truthy_bool hq)))
      · have q := eqAt_alikeAll xs ys A.in1 s vs.toList vs2.toList _ _ h4 k4 hal (SeqAt.room_in hu) j (by simpa using j1) (by simpa using j2)
        simpa using q
      · have q := rcLt_alikeAll xs ys A.in1 s vs.toList vs2.toList _ _ h4 k4 hal (SeqAt.room_in hu) j (by simpa using j1) (by simpa using j2) hj
        simpa using q
/-- the first items of tuples -/
inductive Fsts (h : Heap) : List Value → List (Option Value) → Prop
  | nil : Fsts h [] []
  | cons {a : Addr} {o : Obj} {xs : Array Value} {n : Nat} {vs : List Value} {os : List (Option Value)} : h.get? a = some o → o.cls = .type "tuple" → o.data = .seq xs n → Fsts h vs os → Fsts h (.ref a :: vs) (xs[0]? :: os)
theorem fsts_of {h : Heap} : ∀ {vs : List Value} {ds : List PyData}, EachIs (fun v d => ∃ as, Reads h v d as) vs ds → (∀ d ∈ ds, ∃ xs, d = .tuple xs) →
    ∃ os, Fsts h vs os ∧ ((os.all fun o => o.isSome) = true → ∀ d ∈ ds, ∃ x r, d = .tuple (x :: r))
  | [], _, .nil, _ => ⟨[], .nil, fun _ d m => nomatch m⟩
  | v :: vs, d :: ds, .cons r e, ht => by
    obtain ⟨os, f, g⟩ := fsts_of e fun d m => ht d (List.mem_cons_of_mem _ m)
    obtain ⟨xs, rfl⟩ := ht d List.mem_cons_self
    obtain ⟨as, r⟩ := r
    cases r with
    | @tuple _ _ vs2 _ _ _ h1 h2 h3 h4 =>
      refine ⟨_, .cons h1 h2 h3 f, fun al d m => ?_⟩
      rw [List.all_cons, Bool.and_eq_true] at al
      rcases List.mem_cons.mp m with rfl | m
      · have z : vs2.size = xs.length := by simpa using SeqAt.ReadsAll.length _ _ _ h4
        have q : 0 < vs2.size := by
          cases k : vs2.size with
          | zero =>
            have e0 : vs2[0]? = none := Array.getElem?_eq_none (by omega)
            rw [e0] at al
            cases al.1
          | succ n => exact Nat.succ_pos n
        cases xs with
        | nil =>
          rw [List.length_nil] at z
          omega
        | cons x r => exact ⟨x, r, rfl⟩
      · exact g al.2 d m
theorem fsts_ask {M : Model} {A : Around} {E : Value → Shared → Prop} : ∀ {vs : List Value} {os : List (Option Value)} {s : Shared} {Q : List (Option Value) → Shared → Prop}, Fsts s.heap vs os → Q os s → wpAny M A (vs.mapM firstOfTuple') Q E s
  | [], _, s, Q, .nil, h => by
    rw [List.mapM_nil]
    exact wpAny_pure h
  | _ :: vs, _, s, Q, .cons (a := a) (o := o) (os := os) h1 h2 h3 t, h => by
    rw [List.mapM_cons]
    refine wpAny_bind ?_
    rw [kas_first_eq]
    refine wpAny_bind (Looks.here (show Looks M s.heap (typeOf (.ref a)) o.cls from (Looks.ld h1).andThen .now) ?_)
    rw [h2, if_neg (by first | decide | simp)]
    refine wpAny_bind (listItems_at h1 h3 (wpAny_pure ?_))
    exact wpAny_bind (fsts_ask (Q := fun bs s2 => wpAny M A (pure (_ :: bs)) Q E s2) t (wpAny_pure h))
theorem looks_tup {h : Heap} {M : Model} : ∀ {vs : List Value} {os : List (Option Value)}, Fsts h vs os → ∀ v ∈ vs, Looks M h (typeOf v) (.type "tuple")
  | _ :: vs, _, .cons h1 h2 h3 t, v, m => by
    rcases List.mem_cons.mp m with rfl | m
    · rw [← h2]
      exact (Looks.ld h1).andThen .now
    · exact looks_tup t v m
/-- what kind of keys they are, where some are empty -/
theorem fsts_kind {vs : List Value} {os : List (Option Value)} {M : Model} {Q : SortKind → Shared → Prop} (f : Fsts s.heap vs os) (ne : vs ≠ []) (no : (os.all fun o => o.isSome) = false)
    (h : Q (if (os[0]?.bind id).isSome = true then general' else oneType') s) : wpAny M A (keyKind' vs.toArray) Q E s := by
  rw [kat_kind_eq, List.mapM_toArray, map_eq_pure_bind]
  refine wpAny_bind (wpAny_bind (fsts_ask f (wpAny_pure ?_)))
  have e1 : (os.toArray.all fun x => x.isSome) = false := by simpa using no
  rw [e1, if_neg Bool.false_ne_true]
  have e2 : os.toArray[0]? = os[0]? := by simp
  rw [e2]
  cases e3 : (os[0]?.bind id).isSome with
  | true =>
    rw [e3, if_pos rfl] at h
    rw [if_pos rfl]
    exact wpAny_pure h
  | false =>
    rw [e3, if_neg Bool.false_ne_true] at h
    rw [if_neg Bool.false_ne_true]
    rw [oneTypeOnly'_eq, List.mapM_toArray, map_eq_pure_bind]
    refine wpAny_bind (wpAny_bind (wpAny_bind (kas_mapM (r := Value.type "tuple") _ (fun v hv Q2 hq => (looks_tup f v hv).here hq) (wpAny_pure ?_))))
    have al : ((List.map (fun _ => Value.type "tuple") vs).toArray.all fun x => x == Value.type "tuple") = true := by
      simp only [List.all_toArray, List.all_map, List.all_eq_true]
      intro _ _
      exact beq_self_eq_true _
    have h0 : (List.map (fun _ => Value.type "tuple") vs).toArray[0]? = some (Value.type "tuple") := by
      cases vs with
      | nil => exact absurd rfl ne
      | cons v vs => simp
    rw [h0]
    simp only [al, if_true]
    exact wpAny_pure (wpAny_pure h)
/-- tuples that read as alike data can be sorted -/
theorem sorts_tups {vs : List Value} {ds : List PyData} (e : EachIs (fun v d => ∃ as, Reads s.heap v d as) vs ds) (hal : AllAlike ds) (ht : ∀ d ∈ ds, ∃ xs, d = .tuple xs) (hu : ∀ d, d ∈ ds → A.units + d.depth < cLine) :
    SortsAt P w A s (dataKind s.heap ds) vs := by
  obtain ⟨os, f, g⟩ := fsts_of e ht
  cases al : (os.all fun o => o.isSome) with
  | true => exact SortsAt.data e hal (.inl (g al)) hu
  | false =>
    refine ⟨fun v hv => ?_, if (os[0]?.bind id).isSome = true then general' else oneType', ?_, fun h2 E Q hq => ?_⟩
    · obtain ⟨d, hd, as, r⟩ := e.left v hv
      exact ⟨_, dataKind_some hal hd r⟩
    · intro E x y a b Q ha hb hq
      obtain ⟨d, as, hd, ra, rfl⟩ := dataKind_inv ha
      obtain ⟨d2, as2, hd2, rb, rfl⟩ := dataKind_inv hb
      obtain ⟨xs, rfl⟩ := ht d hd
      obtain ⟨ys, rfl⟩ := ht d2 hd2
      have hdd := hal _ hd _ hd2
      have room : A.units + min (PyData.tuple xs).depth (PyData.tuple ys).depth < cLine := Nat.lt_of_le_of_lt (Nat.add_le_add_left (Nat.min_le_left _ _) _) (hu _ hd)
      split
      · show wpAny (model P w) A (oneLt' false x y) Q E s
        exact oneLt_alike (f := false) (fun z => nomatch z) ra rb hdd (fun z => nomatch z) room hq
      · rw [keyLt'_oneType]
        exact oneLt_tup ra rb (by simpa [alike] using hdd) room hq
    · refine fsts_kind f (fun z => ?_) al hq
      rw [z] at h2
      simp at h2
end
end L2.SortT
set_option Elab.async false
set_option linter.all false
set_option maxRecDepth 100000
set_option maxHeartbeats 4000000
/-! Lists and sets of nested data, sorted; sets of tuples as tracked things. -/
namespace L2.NSet
open PySem PySem.Spec PyProof.Rows L2.SortT
section
variable {P : Program} {w : World} {A : Around} {E : Value → Shared → Prop} {s : Shared} {β : Type} {vs : List Value} {bs : List β} {enc : β → PyData} {R : Value → β → Prop}
open PySem.W PySem.SeqAt
/-- what can be sorted: as the library says, or tuples, empty ones too -/
def Srtb (ds : List PyData) : Prop := PySem.W.Sortable ds ∨ ∀ d ∈ ds, ∃ xs, d = .tuple xs
theorem sorts_any {ds : List PyData} (e : EachIs (fun v d => ∃ as, Reads s.heap v d as) vs ds) (hal : AllAlike ds) (hk : Srtb ds) (hu : ∀ d, d ∈ ds → A.units + d.depth < cLine) : SortsAt P w A s (dataKind s.heap ds) vs :=
  hk.elim (fun k => SortsAt.data e hal k hu) fun k => sorts_tups e hal k hu
theorem sorted_any {l : Addr} {Q : Value → Shared → Prop} (hl : s.heap.IsList l vs.toArray) (e : EachIs R vs bs) (er : EachIs (fun v b => ∃ as, Reads s.heap v (enc b) as) vs bs) (hal : AllAlike (bs.map enc)) (hk : Srtb (bs.map enc)) (hL : bs.length ≤ sizeLine)
    (hu : ∀ b, b ∈ bs → A.units + 2 + (enc b).depth < cLine) (h : ∀ out, out.length = bs.length → EachIs R out (bs.mergeSort (dataLe false enc)) → Q (.ref (s.heap.objs.size + 1)) { s with heap := sortedAll s.heap vs (List.toArray out) }) :
    wpAny (model P w) A (call (.builtin "sorted") [.ref l]) Q E s := by
  have er2 : EachIs (fun v b => ∃ as, Reads (sortingHeap (copyHeap s.heap vs) (s.heap.objs.size + 1) vs) v (enc b) as) vs bs := er.mono fun _ _ ⟨as, r⟩ => ⟨as, PyProof.Rows.Reads.keeps (fun _ _ => sorting_copy_old) r⟩
  refine sorted_vals hl (sorts_any (s := { s with heap := sortingHeap (copyHeap s.heap vs) (s.heap.objs.size + 1) vs }) (each_map (R := fun v d => ∃ as, Reads (sortingHeap (copyHeap s.heap vs) (s.heap.objs.size + 1) vs) v d as) enc er2) hal hk (bound_map hu)) ?_
    (h _ ?_ (sortVals_data false e er2 hal))
  · rw [e.length]
    exact hL
  · rw [sortVals_length false rfl]
    exact e.length
theorem list_sort_any2 {a : Addr} {n : Nat} {Q : Value → Shared → Prop} (ho : s.heap.get? a = some (seqObj "list" vs.toArray n)) (e : EachIs R vs bs) (er : EachIs (fun v b => ∃ as, Reads s.heap v (enc b) as ∧ a ∉ as) vs bs) (hal : AllAlike (bs.map enc)) (hk : Srtb (bs.map enc)) (hL : bs.length ≤ sizeLine)
    (hu : ∀ b, b ∈ bs → A.units + 1 + (enc b).depth < cLine) (h : ∀ out, out.length = bs.length → EachIs R out (bs.mergeSort (dataLe false enc)) → Q .none { s with heap := sortedHeap s.heap a vs (List.toArray out) }) :
    wpAny (model P w) A (call (.builtin "list.sort") [.ref a]) Q E s := by
  have er2 : EachIs (fun v b => ∃ as, Reads (sortingHeap s.heap a vs) v (enc b) as) vs bs := each_keepBut (h' := sortingHeap s.heap a vs) (fun _ _ hb q => sortingHeap_old hb q) (fun o q => by rw [ho] at q; rw [← Option.some.inj q]) hal er
  refine wpAny_call_entry slot_list_sort ⟨_, ho, rfl⟩ entry_list_sort (list_sort_vals (κ := dataKind (sortingHeap s.heap a vs) (bs.map enc)) ho (sorts_any (s := { s with heap := sortingHeap s.heap a vs })
    (each_map (R := fun v d => ∃ as, Reads (sortingHeap s.heap a vs) v d as) enc er2) hal hk (bound_map hu)) ?_ ⟨.none, rfl, ?_⟩) (args_list_sort _)
  · rw [e.length]
    exact hL
  · refine h _ ?_ (sortVals_data false e er2 hal)
    rw [sortVals_length false rfl]
    exact e.length
/-- rising -/
def Rise (enc : β → PyData) (l : List β) : Prop := l.Pairwise fun a b => dataLe false enc a b = true
theorem rise_sort (l : List β) : Rise enc (l.mergeSort (dataLe false enc)) := sort_pairwise (sortLe_total _ false _) l
theorem eachIs_mem {α γ : Type} {R : α → γ → Prop} : ∀ {xs : List α} {ys : List γ}, EachIs R xs ys → ∀ y ∈ ys, ∃ x ∈ xs, R x y
  | _, _, .nil, y, m => nomatch m
  | _, _, .cons r e, y, m => by
    rcases List.mem_cons.mp m with rfl | m
    · exact ⟨_, List.mem_cons_self, r⟩
    · obtain ⟨x, mx, rx⟩ := eachIs_mem e y m
      exact ⟨x, List.mem_cons_of_mem _ mx, rx⟩
theorem vals_each : ∀ {xs : List (V × PyData)} {us : List Value}, Vals (xs.map Prod.fst) us → EachIs (fun v (b : V × PyData) => RelV b.1 v) us xs
  | [], _, .nil => .nil
  | _ :: _, _, .cons r t => .cons r (vals_each t)
theorem each_vals : ∀ {xs : List (V × PyData)} {us : List Value}, EachIs (fun v (b : V × PyData) => RelV b.1 v) us xs → Vals (xs.map Prod.fst) us
  | [], _, .nil => .nil
  | _ :: _, _, .cons r t => .cons r (each_vals t)
end
section
variable {X : Cx} {pins : List (Addr × Obj)} {σ : L2.St} {H : Hp} {s : Shared}
open PySem.W
theorem each_reads (I : Inv X pins σ H s) : ∀ {xs : List (V × PyData)} {us : List Value}, (∀ x ∈ xs, Dp X.K H x.1 x.2) → Vals (xs.map Prod.fst) us → EachIs (fun v (b : V × PyData) => ∃ as, Reads s.heap v b.2 as) us xs
  | [], _, _, .nil => .nil
  | x :: xs, _, h, .cons r t => .cons (Dp.reads I x.2 x.1 _ (h x List.mem_cons_self) r) (each_reads I (fun y m => h y (List.mem_cons_of_mem _ m)) t)
/-- sorted(a list of nested data) -/
def rSortD (K : PySem.W.Frag) : List V → Hp → VK → Prop := fun vs H Q => ∃ (a : Addr) (xs : List (V × PyData)), vs = [V.ref a] ∧ SqL K H a (xs.map Prod.fst) ∧ (∀ x ∈ xs, Dp K H x.1 x.2) ∧ AllAlike (xs.map Prod.snd) ∧ Srtb (xs.map Prod.snd) ∧ xs.length ≤ 1000 ∧
  (∀ x ∈ xs, x.2.depth ≤ 40) ∧ ∀ (ys : List (V × PyData)) (p : Addr), ys.Perm xs → Rise Prod.snd ys → H p = none → Q (.ref p) (upd H p (.lst (ys.map Prod.fst)))
theorem cr_sortD (hu : X.A.units + 64 < cLine) : CallR X (.builtin "sorted") (rSortD X.K) := by
  intro pins s σ H vs us Q I r h
  obtain ⟨a, xs, rfl, ha, hd, hal, hk, few, dp, q⟩ := h
  rw [Vals.ref1 r]
  obtain ⟨its, rv, pl, hz⟩ := I.list ha
  have hl : s.heap.IsList a its.toArray := pl.isList
  refine sorted_any (R := fun v (b : V × PyData) => RelV b.1 v) (bs := xs) (enc := Prod.snd) hl (vals_each rv) (each_reads I hd rv) hal hk (Nat.le_trans few (by rw [sizeLine_eq]; decide)) (fun b m => by have := dp b m; omega) fun out lo eo => ?_
  have pm := List.mergeSort_perm xs (dataLe false Prod.snd)
  have hn : H (s.heap.objs.size + 1) = none := I.hok.fresh (Nat.le_succ _)
  have fit : ((xs.mergeSort (dataLe false Prod.snd)).map Prod.fst).length ≤ sizeLine := by
    rw [List.length_map, pm.length_eq, sizeLine_eq]
    omega
  obtain ⟨c, hc⟩ := sortedAll_at s.heap its out.toArray
  refine ⟨.ref (s.heap.objs.size + 1), upd H (s.heap.objs.size + 1) (.lst ((xs.mergeSort (dataLe false Prod.snd)).map Prod.fst)), I.laid (t' := s.toks) (fun b o e => sortedAll_old e) (Nat.le_succ _) ⟨fit, out, c, each_vals eo, hc⟩, rfl, q _ _ pm (rise_sort xs) hn⟩
end
end L2.NSet
set_option Elab.async false
set_option linter.all false
set_option maxRecDepth 100000
set_option maxHeartbeats 4000000
/-! Sets of tuples as tracked things: made of a list or a tuple, sorted. -/
namespace L2.NSet
open PySem PySem.Spec PyProof.Rows L2.SortT PySem.W
/-- the set at a, its members' tuples apart -/
structure Tab0 (P : Program) (w : World) (h : Heap) (a : Addr) (L : List Mem) : Prop where
  ex : ∃ (es : Array (Int × Value)) (ep : Nat) (t : SetTable), (∃ o, h.get? a = some o ∧ o.ExactSet ∧ o.data = .set es ep t) ∧ es.toList = L.map (rowN w) ∧ TabOk t (L.map fun p => p.2.hash w) ∧ (L.map (·.2)).Nodup ∧
    (w.params.followText "set-order" = true ∨ t.led = true) ∧ L.length * 5 < t.mask * 3 ∧ L.length < 64
def SetN (P : Program) (w : World) (a : Addr) (L : List Mem) : HO := .ext fun h => Tab0 P w h a L
section
variable {P : Program} {w : World} {h : Heap} {H : Hp} {a : Addr} {L : List Mem} {es : Array (Int × Value)} {ep : Nat} {t : SetTable}
theorem Tab.t0 (R : Tab P w h a L es ep t) : Tab0 P w h a L := ⟨es, ep, t, R.here, R.rows, R.lay, R.once, R.told, R.free, R.few⟩
theorem Tab0.full (R : Tab0 P w h a L) (each : ∀ p ∈ L, Kb P w h p.2 p.1) : ∃ es ep t, Tab P w h a L es ep t := by
  obtain ⟨es, ep, t, h1, h2, h3, h4, h5, h6, h7⟩ := R.ex
  exact ⟨es, ep, t, h1, h2, h3, h4, each, h5, h6, h7⟩
theorem setN_new (R : Tab0 P w h a L) : ObjOk P w H h a (SetN P w a L) := by
  have ⟨es, ep, t, ⟨o, ho, r⟩, q⟩ := R.ex
  refine ⟨R, ⟨o, ho⟩, fun h1 h2 p k => ?_⟩
  have ⟨es2, ep2, t2, ⟨o2, ho2, r2⟩, q2⟩ := Tab0.ex p
  exact ⟨es2, ep2, t2, ⟨o2, k o2 ho2, r2⟩, q2⟩
theorem refs_vals : ∀ {ks : List Mem} {us : List Value}, Vals (ks.map fun p => V.ref p.1) us → us = ks.map fun p => Value.ref p.1
  | [], _, .nil => rfl
  | p :: ks, _, .cons r t => by
    cases r
    rw [refs_vals t]
    rfl
theorem vals_refs : ∀ (ks : List Mem), Vals (ks.map fun p => V.ref p.1) (ks.map fun p => Value.ref p.1)
  | [] => .nil
  | p :: ks => .cons rfl (vals_refs ks)
theorem perm_lift {α γ : Type} (f : α → γ) : ∀ {vs : List γ} {L : List α}, vs.Perm (L.map f) → ∃ M : List α, M.Perm L ∧ vs = M.map f
  | [], [], pm => ⟨[], List.Perm.refl _, rfl⟩
  | [], x :: L, pm => by
    have e := pm.length_eq
    cases e
  | v :: vs, L, pm => by
    have m : v ∈ L.map f := pm.mem_iff.mp List.mem_cons_self
    obtain ⟨x, mx, rfl⟩ := List.mem_map.mp m
    obtain ⟨l1, l2, rfl⟩ := List.append_of_mem mx
    have q : (f x :: vs).Perm (f x :: (l1 ++ l2).map f) := by
      refine pm.trans ?_
      rw [List.map_append, List.map_cons, List.map_append]
      exact List.perm_middle
    obtain ⟨M, pM, e⟩ := perm_lift f (List.Perm.cons_inv q)
    exact ⟨x :: M, (List.Perm.cons x pM).trans List.perm_middle.symm, by rw [e]; rfl⟩
end
section
variable {X : Cx} {pins : List (Addr × Obj)} {σ : L2.St} {H : Hp} {s : Shared}
mutual
theorem nest_of (I : Inv X pins σ H s) : ∀ (k : NestedKey) (x : V) (v : Value), Dp X.K H x k.data → RelV x v → NestedIs s.heap k v
  | .none, x, v, d, r => by
    cases d
    cases r
    exact .none
  | .num i, x, v, d, r => by
    cases d
    obtain ⟨t, rfl⟩ := r
    exact .int i t
  | .text z, x, v, d, r => by
    cases d
    obtain ⟨t, rfl⟩ := r
    exact .text z t
  | .tup ks, x, v, d, r => by
    have d : Dp X.K H x (.tuple (NestedKey.datas ks)) := d
    cases d with
    | tup hq ha =>
      cases r
      obtain ⟨its, rv, ⟨o, ho, hc, n, hd⟩, _⟩ := I.tuple hq
      exact .tup ho hc hd (by simpa using nests_of I ks _ its ha rv)
theorem nests_of (I : Inv X pins σ H s) : ∀ (ks : List NestedKey) (xs : List V) (us : List Value), DpAll X.K H xs (NestedKey.datas ks) → Vals xs us → NestedAll s.heap ks us
  | [], xs, us, d, r => by
    cases d
    cases r
    exact .nil
  | k :: ks, xs, us, d, r => by
    have d : DpAll X.K H xs (k.data :: NestedKey.datas ks) := d
    cases d with
    | cons d1 d2 =>
      cases r with
      | cons r1 r2 => exact .cons (nest_of I k _ _ d1 r1) (nests_of I ks _ _ d2 r2)
end
/-- a tuple of references that has no dict of its own, as a thing of the heap alone -/
def PTu (a : Addr) (ts : List Addr) : HO := .ext fun h => ∃ o n, h.get? a = some o ∧ o.cls = .type "tuple" ∧ o.dict = none ∧ o.data = .seq (ts.map Value.ref).toArray n
/-- a tuple of pairs of texts -/
def PtOk (H : Hp) (p : Mem) : Prop := ∃ (ts : List Addr) (ks : List (Str × Str)), H p.1 = some (PTu p.1 ts) ∧ p.2 = .tup (ks.map fun q => .tup [.text q.1, .text q.2]) ∧ Paired (fun t (q : Str × Str) => H t = some (.tup [.str q.1, .str q.2])) ts ks
theorem pt_pairs (I : Inv X pins σ H s) : ∀ {ts : List Addr} {ks : List (Str × Str)}, Paired (fun t (q : Str × Str) => H t = some (.tup [.str q.1, .str q.2])) ts ks →
    NestedAll s.heap (ks.map fun q => .tup [.text q.1, .text q.2]) (ts.map Value.ref) ∧ PySem.ReadsAll s.heap (ts.map Value.ref) (NestedKey.datas (ks.map fun q => .tup [.text q.1, .text q.2])) []
  | _, _, .nil => ⟨.nil, .nil⟩
  | _, _, .cons (a := t) (b := q) h r => by
    obtain ⟨its, rv, ⟨o, ho, hc, n, hd⟩, _⟩ := I.tuple (SqT.of h)
    obtain ⟨i1, i2⟩ := pt_pairs I r
    cases rv with
    | cons r1 r2 =>
      cases r2 with
      | cons r2 r3 =>
        cases r3
        obtain ⟨t1, rfl⟩ := r1
        obtain ⟨t2, rfl⟩ := r2
        refine ⟨.cons (.tup ho hc hd (.cons (.text _ _) (.cons (.text _ _) .nil))) i1, .cons (as := []) (bs := []) ?_ i2⟩
        exact .tuple ho hc hd (.cons (as := []) (bs := []) (.str _ _) (.cons (as := []) (bs := []) (.str _ _) .nil))
/-- the member p stands in its tuple -/
def MemOk (K : PySem.W.Frag) (H : Hp) (p : Mem) : Prop := (Dp K H (.ref p.1) p.2.data ∨ PtOk H p) ∧ p.2.depth ≤ 8
theorem pt_both (I : Inv X pins σ H s) {p : Mem} (m : PtOk H p) : NestedIs s.heap p.2 (.ref p.1) ∧ PySem.Reads s.heap (.ref p.1) p.2.data [] := by
  obtain ⟨ts, ks, h, e, pr⟩ := m
  obtain ⟨o, n, ho, hc, hdn, hd⟩ := (show ∃ o n, s.heap.get? p.1 = some o ∧ o.cls = .type "tuple" ∧ o.dict = none ∧ o.data = .seq (ts.map Value.ref).toArray n from (I.hok p.1 _ h).1)
  obtain ⟨i1, i2⟩ := pt_pairs I pr
  rw [e]
  exact ⟨.tup ho hc hd (by simpa using i1), .tuple ho hc hd (by simpa using i2)⟩
theorem kb_of (I : Inv X pins σ H s) {p : Mem} (m : MemOk X.K H p) : Kb X.prog X.w s.heap p.2 p.1 := by
  rcases m.1 with d | d
  · exact ⟨nest_of I p.2 _ _ d rfl, m.2⟩
  · exact ⟨(pt_both I d).1, m.2⟩
/-- set(xs) -/
def rSetN (K : PySem.W.Frag) (P : Program) (w : World) : List V → Hp → VK → Prop := fun xs H Q => ∃ (l : Addr) (ks : List Mem), xs = [V.ref l] ∧ (SqL K H l (ks.map fun p => V.ref p.1) ∨ SqT K H l (ks.map fun p => V.ref p.1)) ∧ (∀ p ∈ ks, MemOk K H p) ∧ ks.length < 64 ∧
  ∀ a L, H a = none → (∀ p ∈ L, p ∈ ks) → (∀ p ∈ ks, p.2 ∈ L.map (·.2)) → (L.map (·.2)).Nodup → Q (.ref a) (upd H a (SetN P w a L))
theorem cr_setN (hc : X.calm = true) (hu : X.A.units + 64 < cLine) : CallR X (.type "set") (rSetN X.K X.prog X.w) := by
  intro pins s σ H xs us Q I r h
  obtain ⟨l, ks, rfl, hl, hk, few, q⟩ := h
  rw [Vals.ref1 r]
  have hn : H s.heap.objs.size = none := I.hok.fresh (Nat.le_refl _)
  have fin : ∀ (h2 : Heap) (tk : Nat) L es ep t, Tab X.prog X.w h2 s.heap.objs.size L es ep t → In ks ks.length L → (∀ b o, s.heap.get? b = some o → h2.get? b = some o) →
      ∃ y H2, Inv X pins σ H2 { s with heap := h2, toks := tk } ∧ RelV y (.ref s.heap.objs.size) ∧ Q y H2 := fun h2 tk L es ep t R g k =>
    ⟨.ref s.heap.objs.size, upd H s.heap.objs.size (SetN X.prog X.w s.heap.objs.size L), I.laid (t' := tk) k (Nat.le_refl _) (setN_new R.t0), rfl,
      q _ L hn (fun p m => List.mem_of_mem_take (g.from_ p m)) (fun p m => g.to_ p (by rw [List.take_length]; exact m)) R.once⟩
  rcases hl with hl | hl
  · obtain ⟨its, rv, pl, hz⟩ := I.list hl
    exact call_set_list (P := X.prog) (w := X.w) ks (I.ok.hd hc) pl.isList (by simpa using refs_vals rv) (fun p m => kb_of I (hk p m)) few (by omega) fin
  · obtain ⟨its, rv, ⟨o, ho, hcl, n, hd⟩, hz⟩ := I.tuple hl
    exact call_set_tuple (P := X.prog) (w := X.w) ks (I.ok.hd hc) ⟨o, ho, hcl, n, hd⟩ (by simpa using refs_vals rv) (fun p m => kb_of I (hk p m)) few (by omega) fin
/-- sorted(a set of tuples) -/
def rSortN (K : PySem.W.Frag) (P : Program) (w : World) : List V → Hp → VK → Prop := fun vs H Q => ∃ (a : Addr) (L : List Mem), vs = [V.ref a] ∧ H a = some (SetN P w a L) ∧ (∀ p ∈ L, MemOk K H p) ∧ AllAlike (L.map fun p => p.2.data) ∧
  (∀ p ∈ L, ∃ ks, p.2 = .tup ks) ∧ (∀ p ∈ L, p.2.data.depth ≤ 40) ∧ ∀ (M : List Mem) (p : Addr), M.Perm L → Rise (fun p : Mem => p.2.data) M → H p = none → Q (.ref p) (upd H p (.lst (M.map fun p => V.ref p.1)))
mutual
theorem reads_nest {h : Heap} : ∀ (k : NestedKey) (v : Value) (as : List Addr), PySem.Reads h v k.data as → as = []
  | .none, _, _, x => by
    cases x
    rfl
  | .num i, _, _, x => by
    cases x
    rfl
  | .text z, _, _, x => by
    cases x
    rfl
  | .tup ks, _, _, x => by
    have x : PySem.Reads h _ (.tuple (NestedKey.datas ks)) _ := x
    cases x with
    | tuple h1 h2 h3 h4 => exact reads_nests ks _ _ h4
theorem reads_nests {h : Heap} : ∀ (ks : List NestedKey) (vs : List Value) (as : List Addr), PySem.ReadsAll h vs (NestedKey.datas ks) as → as = []
  | [], _, _, x => by
    cases x
    rfl
  | k :: ks, _, _, x => by
    have x : PySem.ReadsAll h _ (k.data :: NestedKey.datas ks) _ := x
    cases x with
    | cons x1 x2 => rw [reads_nest k _ _ x1, reads_nests ks _ _ x2]; rfl
end
theorem each_mem2 (I : Inv X pins σ H s) {h2 : Heap} (k : ∀ b o, s.heap.get? b = some o → h2.get? b = some o) (a : Addr) : ∀ {M : List Mem}, (∀ p ∈ M, MemOk X.K H p) →
    EachIs (fun v (p : Mem) => ∃ as, PySem.Reads h2 v p.2.data as ∧ a ∉ as) (M.map fun p => Value.ref p.1) M
  | [], _ => .nil
  | p :: M, h => by
    obtain ⟨as, r⟩ : ∃ as, PySem.Reads s.heap (.ref p.1) p.2.data as := (h p List.mem_cons_self).1.elim (fun d => Dp.reads I p.2.data (.ref p.1) (.ref p.1) d rfl) fun d => ⟨[], (pt_both I d).2⟩
    have r2 := PyProof.Rows.Reads.keeps k r
    refine .cons ⟨as, r2, ?_⟩ (each_mem2 I k a fun q m => h q (List.mem_cons_of_mem _ m))
    rw [reads_nest p.2 _ _ r2]
    simp
theorem each_ref : ∀ M : List Mem, EachIs (fun v (p : Mem) => v = Value.ref p.1) (M.map fun p => Value.ref p.1) M
  | [] => .nil
  | p :: M => .cons rfl (each_ref M)
theorem ref_each : ∀ {M : List Mem} {out : List Value}, EachIs (fun v (p : Mem) => v = Value.ref p.1) out M → out = M.map fun p => Value.ref p.1
  | [], _, .nil => rfl
  | p :: M, _, .cons r e => by rw [r, ref_each e]; rfl
theorem cr_sortN (hc : X.calm = true) (hu : X.A.units + 64 < cLine) : CallR X (.builtin "sorted") (rSortN X.K X.prog X.w) := by
  intro pins s σ H vs us Q I r h
  obtain ⟨a, L, rfl, ha, hk, hal, htup, dp, q⟩ := h
  have R0 : Tab0 X.prog X.w s.heap a L := (I.hok a _ ha).1
  obtain ⟨es, ep, t, R⟩ := R0.full fun p m => kb_of I (hk p m)
  rw [Vals.ref1 r]
  obtain ⟨o, ho, ox, od⟩ := R.here
  have few := R.few
  refine Calls.call_function_entry kind_sorted plain_sorted entry_sorted (args_sorted1 _) ?_
  unfold Builtin.«sorted»
  refine wpAny_bind (m := checkCount "sorted" 1 1 _) (wpAny_pure (wpAny_bind (collect_set (A := X.A.in1) (I.ok.hd hc) ⟨o, ho, ox.1, od⟩ R.fits (by rw [R.size]; unfold scanBound; omega) R.lay.ris R.told fun s1 vs k1 z1 g1 o1 pm => ?_)))
  have hes : es.toList.map (·.2) = L.map fun p => Value.ref p.1 := by
    rw [R.rows, List.map_map]
    rfl
  rw [hes] at pm
  obtain ⟨M, pM, rfl⟩ := perm_lift _ pm
  have lM : M.length < 64 := by rw [pM.length_eq]; exact few
  refine wpAny_bind (wpAny_newList ?_ (by rw [List.length_map, sizeLine_eq]; omega))
  have at1 : (s1.heap.push (seqObj "list" (M.map fun p => Value.ref p.1).toArray 0)).get? s1.heap.objs.size = some (seqObj "list" (M.map fun p => Value.ref p.1).toArray 0) := Heap.get?_push_size _ rfl
  have mk : ∀ p ∈ M, MemOk X.K H p := fun p m => hk p (pM.mem_iff.mp m)
  have alM : AllAlike (M.map fun p => p.2.data) := fun d hd d2 hd2 => hal d ((pM.map _).mem_iff.mp hd) d2 ((pM.map _).mem_iff.mp hd2)
  refine wpAny_bind (wpAny_holding (list_sort_any2 (R := fun v (p : Mem) => v = Value.ref p.1) (enc := fun p : Mem => p.2.data) (bs := M) at1 (each_ref M) (each_mem2 I (fun b u e => Heap.get?_push_of_some _ (k1 b u e)) _ mk) alM (.inr fun d hd => ?_) (by rw [sizeLine_eq]; omega) (fun p m => ?_) fun out lo eo => ?_))
  · obtain ⟨p, mp, rfl⟩ := List.mem_map.mp hd
    obtain ⟨ks, e⟩ := htup p (pM.mem_iff.mp mp)
    exact ⟨_, by rw [e]; rfl⟩
  · have := dp p (pM.mem_iff.mp m)
    show X.A.units + 1 + 1 + _ < cLine
    omega
  · have eO := ref_each eo
    obtain ⟨c, hc2⟩ := sortedHeap_at (vs := M.map fun p => Value.ref p.1) (out := out.toArray) at1
    generalize hS : M.mergeSort (dataLe false fun p : Mem => p.2.data) = S at eO
    have pS : S.Perm M := by rw [← hS]; exact List.mergeSort_perm _ _
    have rS : Rise (fun p : Mem => p.2.data) S := by rw [← hS]; exact rise_sort M
    have hp : s.heap.objs.size ≤ s1.heap.objs.size := z1
    have hn : H s1.heap.objs.size = none := I.hok.fresh hp
    have old : ∀ b u, s.heap.get? b = some u → (sortedHeap (s1.heap.push (seqObj "list" (M.map fun p => Value.ref p.1).toArray 0)) s1.heap.objs.size (M.map fun p => Value.ref p.1) out.toArray).get? b = some u := fun b u e => by
      have q := k1 b u e
      have lt := Heap.lt_size q
      exact (sortedHeap_old (Nat.ne_of_lt lt) (by rw [size_push']; exact Nat.lt_succ_of_lt lt)).trans (Heap.get?_push_of_some _ q)
    have fit : (S.map fun p => V.ref p.1).length ≤ sizeLine := by rw [List.length_map, pS.length_eq, sizeLine_eq]; omega
    have J : Inv X pins σ (upd H s1.heap.objs.size (.lst (S.map fun p => V.ref p.1))) { s with heap := sortedHeap (s1.heap.push (seqObj "list" (M.map fun p => Value.ref p.1).toArray 0)) s1.heap.objs.size (M.map fun p => Value.ref p.1) out.toArray, gens := s1.gens, drawn := s1.drawn, toks := s1.toks } :=
      I.call (ch := []) (Un.laid old hp hn) (I.hok.laid old hp ⟨fit, out, c, by rw [eO]; exact vals_refs S, hc2⟩) (by rw [g1]; exact I.bare) fun _ z => nomatch z
    refine wpAny_pure ⟨_, rfl, ⟨.ref s1.heap.objs.size, _, ?_, rfl, q S s1.heap.objs.size (pS.trans pM) rS hn⟩⟩
    have e : ({ s1 with heap := sortedHeap (s1.heap.push (seqObj "list" (M.map fun p => Value.ref p.1).toArray 0)) s1.heap.objs.size (M.map fun p => Value.ref p.1) out.toArray } : Shared) = { s with heap := sortedHeap (s1.heap.push (seqObj "list" (M.map fun p => Value.ref p.1).toArray 0)) s1.heap.objs.size (M.map fun p => Value.ref p.1) out.toArray, gens := s1.gens, drawn := s1.drawn, toks := s1.toks } := by
      cases s1
      cases s
      cases o1
      rfl
    rw [e]
    exact J
end
end L2.NSet
set_option Elab.async false
set_option linter.all false
set_option maxRecDepth 100000
set_option maxHeartbeats 4000000
/-! Sets of tuples by comprehension. -/
namespace L2.NSet
open PySem PySem.Spec PyProof.Rows L2.Cmp
section
variable {X : Cx}
/-- a.add(x), x a tuple -/
theorem add_tup {P : Program} {w : World} {A : Around} {E : Value → Shared → Prop} {s : Shared} {a : Addr} {L : List Mem} {es : Array (Int × Value)} {ep : Nat} {t : SetTable} (R : Tab P w s.heap a L es ep t) {x : Addr} {k : NestedKey} (hx : Kb P w s.heap k x)
    (hu : A.units + 20 < cLine) (few : L.length + 1 < 64) {Q : Value → Shared → Prop}
    (hQ : ∀ tk h2 L2 es2 ep2 t2, Heap.SameBut a s.heap h2 → Tab P w h2 a L2 es2 ep2 t2 → (k ∈ L.map (·.2) → L2 = L) → (k ∉ L.map (·.2) → L2.Perm ((x, k) :: L)) → Q .none { s with heap := h2, toks := tk }) :
    wpAny (model P w) A (call (.builtin "set.add") [.ref a, .ref x]) Q E s := by
  have ty : s.TypeIs (.ref a) "set" := by
    obtain ⟨o, ho, ox, _⟩ := R.here
    exact ⟨o, ho, ox.1⟩
  refine wpAny_call_entry F.slot_set_add ty F.entry_set_add ?_ (F.args_set_add_2 _ _)
  unfold Builtin.«set.add» Builtin.Frozenset.oneOther Builtin.Frozenset.addrOf setAdd
  simp only [List.isEmpty_nil, bind_assoc]
  refine wpAny_bind (wpAny_pure (wpAny_bind (wpAny_pure (wpAny_bind (wpAny_holding (wpAny_bind ((nestedKind P w).pyHash (show A.units + 1 + 8 < cLine by omega) hx ?_)))))))
  exact lay (s := { s with toks := s.toks + k.draws }) R hx (show A.units + 1 + 8 < cLine by omega) few fun b h2 L2 es2 ep2 t2 sb R2 c1 c2 => wpAny_pure ⟨_, rfl, hQ _ h2 L2 es2 ep2 t2 sb R2 c1 c2⟩
/-- a tuple into the set at D -/
def tAdN (K : PySem.W.Frag) (P : Program) (w : World) (te : TE) (D : Addr) : TAc := fun σ H C => te σ H fun y H1 => ∃ (p : Mem) (L : List Mem), y = .ref p.1 ∧ H1 D = some (SetN P w D L) ∧ (∀ q ∈ L, MemOk K H1 q) ∧ MemOk K H1 p ∧ L.length + 1 < 64 ∧
  ∀ L2, (p.2 ∈ L.map (·.2) → L2 = L) → (p.2 ∉ L.map (·.2) → L2.Perm (p :: L)) → C (upd H1 D (SetN P w D L2))
def tSetN (K : PySem.W.Frag) (P : Program) (w : World) (wi : TI) (g : TG) (tt : TT) (te : TE) (vs : List Nat) : TE := fun σ H Q => wi σ H fun J H1 => ∀ D, H1 D = none → L2.Cmp.Walk J g tt (tAdN K P w te D) vs σ (fun H => Q (.ref D) H) (upd H1 D (SetN P w D []))
theorem emit_tup {B : Cx} (hx : B.xe = nil2) (hu : B.A.units + 64 < cLine) {elt : Expr} {te : TE} (he : PE B elt te) {D : Addr} : ∀ (pl : List (Addr × Obj)) s σ H C, Inv B pl σ H s → tAdN B.K B.prog B.w te D σ H C →
    wpAny (model B.prog B.w) B.A (do let v ← eval elt B.env; standAt elt.pos; let _ ← call (.builtin "set.add") [.ref D, v]) (fun _ s' => ∃ H', Inv B pl σ H' s' ∧ C H') nil2 s := by
  intro pl s σ H C I q
  have a1 := he.run pl s σ H _ I q
  rw [hx] at a1
  refine wpAny_bind (thnF a1 fun v s1 ⟨y, H1, I1, r1, p, L, ey, hD, hL, hp, few, c⟩ => wpAny_bind (wpAny_standAt (wpAny_bind ?_)))
  subst ey
  cases r1
  have R0 : Tab0 B.prog B.w s1.heap D L := (I1.hok D _ hD).1
  obtain ⟨es, ep, t, R⟩ := R0.full fun p m => kb_of I1 (hL p m)
  refine add_tup R (kb_of I1 hp) (by omega) few fun tk h2 L2 es2 ep2 t2 sb R2 c1 c2 => wpAny_pure ⟨_, ?_, c L2 c1 c2⟩
  have N := setN_new (P := B.prog) (w := B.w) (H := upd H1 D (SetN B.prog B.w D L2)) R2.t0
  exact I1.write (e := D) (t' := tk) (by rw [hD]; trivial) (.inl rfl) (fun b o hb ho => (sb.2 b hb).trans ho) (by obtain ⟨o, ho, _⟩ := R2.here; exact ⟨o, ho⟩) (setN_new R2.t0)
variable {elt tg iter : Expr} {ifs : List Expr} {scope : Scope} {own : List (PySem.Str × Nat)} {pos : Pos} {wi : TI} {g : TG} {tt : TT} {te : TE}
theorem pe_setN {K : PySem.W.Frag} {P : Program} {w : World} (eK : X.K = K) (eP : X.prog = P) (ew : X.w = w) (hc : X.calm = true) (hu : X.A.units + 64 < cLine) (hN : X.N.Nodup) (hi : PI X tg iter wi) (ok : BlkOk X.N X.env.scope scope own)
    (hg : ∀ (s : Shared) (H : Hp) (C : Addr) (cl : List (PySem.Str × Addr)) (fp : List Addr), PG (X.blk s H scope (compEnvC scope cl C X.env) fp) tg g) (ht : ∀ (s : Shared) (H : Hp) (C : Addr) (cl : List (PySem.Str × Addr)) (fp : List Addr), PTs (X.blk s H scope (compEnvC scope cl C X.env) fp) ifs tt)
    (he : ∀ (s : Shared) (H : Hp) (C : Addr) (cl : List (PySem.Str × Addr)) (fp : List Addr), PE (X.blk s H scope (compEnvC scope cl C X.env) fp) elt te) (hs : ∀ x, foldedSetIterable iter X.env x = pure x := by intro _; rfl) :
    PE X (.SetComp elt [⟨tg, iter, ifs, 0⟩] scope pos) (tSetN K P w wi g tt te (own.map (·.2))) := by
  subst eK eP ew
  refine ⟨fun pins s σ H Q I h => ?_⟩
  rw [PpSet.eval_SetComp]
  refine block_any (Q := Q) (Rd := fun J D H1 => L2.Cmp.Walk J g tt (tAdN X.K X.prog X.w te D) (own.map fun z : PySem.Str × Nat => z.2) σ (fun H => Q (.ref D) H) H1) (emp := fun D => SetN X.prog X.w D []) (.inl ⟨_, _, _, _, rfl⟩) rfl (fun q => PpSet.newSet_ok q)
    (fun I1 _ => setN_new (Tab.new (Heap.get?_push_size _ rfl)).t0) hc hN I hi ok hs h
    (fun s3 H3 C cl fp it tn J D s4 T stat I4 st4 nfp rd => ?_) fun D C s' m H' I' q hn f => ⟨m, hn, fun h'' sb => ?_⟩
  · exact clause_ok (B := X.blk s3 H3 scope (compEnvC scope cl C X.env) fp) (tail := tailIn _ _) (p := iter.pos) (.inl ⟨_, _, _, _, rfl⟩) rfl rfl rfl hc T (hg s3 H3 C cl fp) (ht s3 H3 C cl fp) stat (act_in (emit_tup (B := X.blk s3 H3 scope (compEnvC scope cl C X.env) fp) rfl hu (he s3 H3 C cl fp))) rfl
      (fun s' H' I' d => ⟨H', I', d⟩) rd I4 st4 nfp
  · obtain ⟨f0, f1, f2, f3, f4, f5⟩ := f
    exact ⟨.ref D, H', I'.turned (t' := s'.toks) (fun b o hb e => (sb.2 b hb).trans e) f0 f1 f3 f4 f5, rfl, q⟩
end
end L2.NSet
set_option Elab.async false
set_option linter.all false
set_option maxRecDepth 100000
set_option maxHeartbeats 4000000
/-! Dict comprehensions with one `for` whose keys are tuples. -/
namespace L2.Cmp
open PySem PySem.Spec PyProof.Rows
theorem d_dictSetT {X : Cx} {pins : List (Addr × Obj)} {σ : List (Option V)} {H : Hp} {s : Shared} {E : Value → Shared → Prop} {D b : Addr} {kvs : List (List L2.Key × V)} {k : List L2.Key} {v : V} {r : Value} {Q : Unit → Shared → Prop} (hu : X.A.units + 1 < cLine) (I : Inv X pins σ H s)
    (e : H D = some (.dT kvs)) (eb : H b = some (.tup (k.map kV))) (l : kvs.length < sizeLine) (rv : RelV v r) (h : ∀ s', Inv X pins σ (upd H D (.dT (putK kvs k v))) s' → Q () s') : wpAny (model X.prog X.w) X.A (dictSet D (.ref b) r) Q E s := by
  obtain ⟨z, hd, xs, rel, dd⟩ := dt_of I.hok e
  have hz : xs.length ≤ sizeLine := by rw [← Paired.length rel]; exact z
  have hl : (putK kvs k v).length ≤ sizeLine := by have := length_putK kvs k v; omega
  refine wpAny_dictSet_heap (hsz := hz) (show (tupleKind (mixKind X.prog X.w)).room X.A from ?_) (key_of I.hok eb) dd fun h' dd' hs => h _ ?_
  · exact Nat.lt_of_succ_lt hu
  · obtain ⟨q, es, ep, hq, h2, h3, h4, _, h5⟩ := dd'
    refine d_write I (by rw [e]; exact True.intro) hs ⟨q, hq⟩ ⟨hl, hd, _, (rel.put k eb rv).keeps fun c ys ec => ?_, q, es, ep, hq, h2, h3, h4, h5⟩
    rw [upd_ne (ne_of ec e (fun z => nomatch z))]
    exact ec
def tPutT (tk tv : TE) (D : Addr) : TAc := fun σ H C => tk σ H fun y H1 => tv σ H1 fun x H2 => ∃ (kvs : List (List L2.Key × V)) (k : List L2.Key) (b : Addr), y = .ref b ∧ H2 b = some (.tup (k.map kV)) ∧ H2 D = some (.dT kvs) ∧ kvs.length < sizeLine ∧ C (upd H2 D (.dT (putK kvs k x)))
def tDictT (wi : TI) (g : TG) (tt : TT) (tk tv : TE) (vs : List Nat) : TE := fun σ H Q => wi σ H fun J H1 => ∀ D, H1 D = none → Walk J g tt (tPutT tk tv D) vs σ (fun H => Q (.ref D) H) (upd H1 D (.dT []))
section
variable {X : Cx} {kx vx tg iter : Expr} {ifs : List Expr} {scope : Scope} {own : List (PySem.Str × Nat)} {pos : Pos} {wi : TI} {g : TG} {tt : TT} {tk tv : TE}
theorem emit_putT {B : Cx} (hx : B.xe = nil2) (hu : B.A.units + 1 < cLine) (hk : PE B kx tk) (hv : PE B vx tv) {D : Addr} {p : Pos} : ∀ (pl : List (Addr × Obj)) s σ H C, Inv B pl σ H s → tPutT tk tv D σ H C →
    wpAny (model B.prog B.w) B.A (do let kv ← eval kx B.env; let vv ← holding [kv] (eval vx B.env); standAt p; holding [kv, vv] (dictSet D kv vv)) (fun _ s' => ∃ H', Inv B pl σ H' s' ∧ C H') nil2 s := by
  intro pl s σ H C I q
  have a1 := hk.run pl s σ H _ I q
  rw [hx] at a1
  refine wpAny_bind (thnF a1 fun kv s1 ⟨y, H1, I1, r1, q1⟩ => ?_)
  have a2 := hv.run pl s1 σ H1 _ I1 q1
  rw [hx] at a2
  refine wpAny_bind (wpAny_holding (thnF a2 fun vv s2 ⟨x, H2, I2, r2, kvs, k, b, ey, eb, hD, few, c⟩ => ?_))
  subst ey
  cases r1
  exact wpAny_bind (wpAny_standAt (wpAny_holding (d_dictSetT hu I2 hD eb few r2 fun s3 I3 => ⟨_, I3, c⟩)))
theorem pe_dictT (hc : X.calm = true) (hu : X.A.units + 1 < cLine) (hN : X.N.Nodup) (hi : PI X tg iter wi) (ok : BlkOk X.N X.env.scope scope own)
    (hg : ∀ (s : Shared) (H : Hp) (C : Addr) (cl : List (PySem.Str × Addr)) (fp : List Addr), PG (X.blk s H scope (compEnvC scope cl C X.env) fp) tg g) (ht : ∀ (s : Shared) (H : Hp) (C : Addr) (cl : List (PySem.Str × Addr)) (fp : List Addr), PTs (X.blk s H scope (compEnvC scope cl C X.env) fp) ifs tt)
    (hk : ∀ (s : Shared) (H : Hp) (C : Addr) (cl : List (PySem.Str × Addr)) (fp : List Addr), PE (X.blk s H scope (compEnvC scope cl C X.env) fp) kx tk) (he : ∀ (s : Shared) (H : Hp) (C : Addr) (cl : List (PySem.Str × Addr)) (fp : List Addr), PE (X.blk s H scope (compEnvC scope cl C X.env) fp) vx tv)
    (hs : ∀ x, foldedSetIterable iter X.env x = pure x := by intro _; rfl) :
    PE X (.DictComp kx vx [⟨tg, iter, ifs, 0⟩] scope pos) (tDictT wi g tt tk tv (own.map (·.2))) := by
  refine ⟨fun pins s σ H Q I h => ?_⟩
  rw [arm_eval_DictComp]
  refine block_any (Q := Q) (Rd := fun J D H1 => Walk J g tt (tPutT tk tv D) (own.map fun z : PySem.Str × Nat => z.2) σ (fun H => Q (.ref D) H) H1) (emp := fun _ => .dT []) (.inr (.inr ⟨_, _, _, _, _, rfl⟩)) rfl
    (fun q => wpAny_newObj_type q) (fun I' H' => dt_empty _ I'.big) hc hN I hi ok hs h
    (fun s3 H3 C cl fp it tn J D s4 T stat I4 st4 nfp rd => ?_) fun D C s' m H' I' q hn f => ⟨m, hn, fun h'' sb => ?_⟩
  · exact clause_ok (B := X.blk s3 H3 scope (compEnvC scope cl C X.env) fp) (tail := tailIn _ _) (p := iter.pos) (.inr (.inr ⟨_, _, _, _, _, rfl⟩)) rfl rfl rfl hc T (hg s3 H3 C cl fp) (ht s3 H3 C cl fp) stat
      (act_in (emit_putT (B := X.blk s3 H3 scope (compEnvC scope cl C X.env) fp) rfl hu (hk s3 H3 C cl fp) (he s3 H3 C cl fp))) rfl (fun s' H' I' d => ⟨H', I', d⟩) rd I4 st4 nfp
  · obtain ⟨f0, f1, f2, f3, f4, f5⟩ := f
    exact ⟨.ref D, H', I'.turned (t' := s'.toks) (fun b o hb e => (sb.2 b hb).trans e) f0 f1 f3 f4 f5, rfl, q⟩
end
end L2.Cmp
set_option Elab.async false
set_option linter.all false
set_option maxRecDepth 100000
set_option maxHeartbeats 4000000
/-! Store made of facts. -/
namespace L2.LawH
open PySem PySem.Spec PyProof.Rows L2.NSet PySem.W
abbrev sInitS : Stmt := inClass (top 16) 0
/-- a fact as a member of a set, and as a key -/
def ptM (x : Pt) : Mem := (x.1, .tup (.text x.2.1 :: x.2.2.map .text))
def ptK (x : Pt) : List L2.Key := (Sum.inr x.2.1 : L2.Key) :: x.2.2.map Sum.inr
def ptV (x : Pt) : List V := .str x.2.1 :: x.2.2.map V.str
theorem ptK_V (x : Pt) : (ptK x).map kV = ptV x := by
  unfold ptK ptV
  rw [List.map_cons, List.map_map]
  rfl
theorem cr_setNK {X : Cx} {K : PySem.W.Frag} {P : Program} {w : World} (eK : X.K = K) (eP : X.prog = P) (ew : X.w = w) (hc : X.calm = true) (hu : X.A.units + 64 < cLine) : CallR X (.type "set") (rSetN K P w) := by
  subst eK eP ew
  exact cr_setN hc hu
theorem cr_sortNK {X : Cx} {K : PySem.W.Frag} {P : Program} {w : World} (eK : X.K = K) (eP : X.prog = P) (ew : X.w = w) (hc : X.calm = true) (hu : X.A.units + 64 < cLine) : CallR X (.builtin "sorted") (rSortN K P w) := by
  subst eK eP ew
  exact cr_sortN hc hu
theorem ptK_inj {x y : Pt} (h : ptK x = ptK y) : x.2 = y.2 := by
  unfold ptK at h
  injection h with h1 h2
  refine Prod.ext (Sum.inr.inj h1) ?_
  exact List.map_inj_right (fun a b e => Sum.inr.inj e) |>.mp h2
theorem ptM_inj {x y : Pt} (h : (ptM x).2 = (ptM y).2) : x.2 = y.2 := by
  unfold ptM at h
  injection h with h
  injection h with h1 h2
  injection h1 with h1
  exact Prod.ext h1 (List.map_inj_right (fun a b e => by injection e) |>.mp h2)
theorem lift_sub {α β : Type} (f : α → β) {xs : List α} : ∀ {M : List β}, (∀ p ∈ M, p ∈ xs.map f) → ∃ Ms : List α, M = Ms.map f ∧ ∀ x ∈ Ms, x ∈ xs
  | [], _ => ⟨[], rfl, fun x h => nomatch h⟩
  | p :: M, h => by
    obtain ⟨Ms, e, g⟩ := lift_sub f (M := M) fun q hq => h q (List.mem_cons_of_mem _ hq)
    obtain ⟨x, hx, ex⟩ := List.mem_map.mp (h p List.mem_cons_self)
    exact ⟨x :: Ms, by rw [List.map_cons, ex, e], fun y hy => (List.mem_cons.mp hy).elim (fun e => by rw [e]; exact hx) (g y)⟩
theorem valV_out {κ : Type} [DecidableEq κ] {kvs : List (κ × V)} {k : κ} (h : k ∉ kvs.map (·.1)) : valV kvs k = none := by
  cases e : valV kvs k with
  | none => rfl
  | some v =>
    have a := valV_any k kvs
    rw [e] at a
    obtain ⟨kv, m, d⟩ := List.any_eq_true.mp a
    exact absurd (List.mem_map.mpr ⟨kv, m, of_decide_eq_true d⟩) h
theorem datas_text : ∀ zs : List Str, NestedKey.datas (zs.map NestedKey.text) = zs.map PyData.str
  | [] => by simp [NestedKey.datas]
  | z :: zs => by
    rw [List.map_cons, List.map_cons, NestedKey.datas, datas_text zs]
    simp [NestedKey.data]
theorem data_ptM (x : Pt) : (ptM x).2.data = .tuple ((x.2.1 :: x.2.2).map PyData.str) := by
  unfold ptM
  rw [← List.map_cons, NestedKey.data, datas_text]
theorem alike_texts : ∀ a b : List Str, alikeAll (a.map PyData.str) (b.map PyData.str) = true
  | [], _ => by simp [alikeAll]
  | _ :: _, [] => by simp [alikeAll]
  | a :: as, b :: bs => by
    rw [List.map_cons, List.map_cons, alikeAll, alike_texts as bs]
    simp [alike]
theorem alike_ptM (x y : Pt) : alike (ptM x).2.data (ptM y).2.data = true := by
  rw [data_ptM, data_ptM, alike]
  exact alike_texts _ _
theorem ddepth_texts : ∀ a : List Str, PyData.depthAll (a.map PyData.str) = 0
  | [] => by simp [PyData.depthAll]
  | a :: as => by
    rw [List.map_cons, PyData.depthAll, ddepth_texts as]
    simp [PyData.depth]
theorem ddepth_ptM (x : Pt) : (ptM x).2.data.depth ≤ 1 := by
  rw [data_ptM, PyData.depth, ddepth_texts]
  exact Nat.le_refl _
theorem kdepth_texts : ∀ a : List Str, NestedKey.depthAll (a.map NestedKey.text) = 0
  | [] => by simp [NestedKey.depthAll]
  | a :: as => by
    rw [List.map_cons, NestedKey.depthAll, kdepth_texts as]
    simp [NestedKey.depth]
theorem kdepth_ptM (x : Pt) : (ptM x).2.depth ≤ 1 := by
  unfold ptM
  rw [← List.map_cons, NestedKey.depth, kdepth_texts]
  exact Nat.le_refl _
theorem dp_texts {K : PySem.W.Frag} {H : Hp} : ∀ zs : List Str, DpAll K H (zs.map V.str) (zs.map PyData.str)
  | [] => .nil
  | z :: zs => .cons (.str z) (dp_texts zs)
theorem memOk_pt {K : PySem.W.Frag} {H : Hp} {x : Pt} (h : H x.1 = some (.tup (ptV x))) : MemOk K H (ptM x) := by
  refine ⟨.inl ?_, Nat.le_trans (kdepth_ptM x) (by decide)⟩
  rw [data_ptM]
  exact .tup (SqT.of h) (dp_texts (x.2.1 :: x.2.2))
/-- a for over a list or a tuple -/
theorem for_seq {K : PySem.W.Frag} {q : Addr} {xs : List V} {g : TG} {tb : TS} {D : Ends} {σ : St} {H : Hp} (hq : SqL K H q xs ∨ SqT K H q xs) (Pv : Nat → St → Hp → Prop) (h0 : Pv 0 σ H) (st : ∀ i σ H', Pv i σ H' → Ext H H')
    (hs : ∀ i x σ H', xs[i]? = some x → Pv i σ H' → g x σ H' fun σ2 H2 => tb { D with nx := Pv (i + 1), ct := Pv (i + 1), bk := D.nx } σ2 H2) (hd : ∀ σ H, Pv xs.length σ H → D.nx σ H) :
    ((∃ xs, SqL K H q xs) ∧ ∃ W : Nat → Nat → St → Hp → Prop, (∃ m, W 0 m σ H) ∧ ∀ i m σ H, W i m σ H →
      ((Itl K q).stop i H ∧ D.nx σ H) ∨ ((Itl K q).go i H ∧ ∃ N : St → Hp → Prop, (∀ σ' H', N σ' H' → ∃ m', m' < m ∧ W (i + 1) m' σ' H') ∧ ∀ x H', (Itl K q).yld i H x H' → g x σ H' fun σ2 H2 => tb { D with nx := N, ct := N, bk := D.nx } σ2 H2)) ∨
    ((∃ xs, SqT K H q xs) ∧ ∃ W : Nat → Nat → St → Hp → Prop, (∃ m, W 0 m σ H) ∧ ∀ i m σ H, W i m σ H →
      ((Itt K q).stop i H ∧ D.nx σ H) ∨ ((Itt K q).go i H ∧ ∃ N : St → Hp → Prop, (∀ σ' H', N σ' H' → ∃ m', m' < m ∧ W (i + 1) m' σ' H') ∧ ∀ x H', (Itt K q).yld i H x H' → g x σ H' fun σ2 H2 => tb { D with nx := N, ct := N, bk := D.nx } σ2 H2)) :=
  hq.elim
    (fun e => .inl ⟨⟨_, e⟩, for_it (L2.walk_list (K := K)) Pv h0 (fun i σ H' _ p => e.ext (st i σ H' p)) (fun i x σ H' H'' _ p y => by obtain ⟨rfl, hx⟩ := y; exact hs i x σ _ hx p) hd⟩)
    (fun e => .inr ⟨⟨_, e⟩, for_it (L2.walk_tup (K := K)) Pv h0 (fun i σ H' _ p => e.ext (st i σ H' p)) (fun i x σ H' H'' _ p y => by obtain ⟨rfl, hx⟩ := y; exact hs i x σ _ hx p) hd⟩)
/-- the fields of a Store -/
abbrev fsS (t d : Addr) : List (Str × V) := putF "_groups" .non (putF "_held" (.ref d) (putF "_facts" (.ref t) []))
def spInitS (C : Addr) (K : PySem.W.Frag) : Sp := fun vs H Q _ => ∃ (p q dx : Addr) (xs : List Pt), vs = [.ref p, .ref q] ∧ H p = some (.ins C dx []) ∧ (SqL K H q (xs.map fun x => V.ref x.1) ∨ SqT K H q (xs.map fun x => V.ref x.1)) ∧
  (∀ x ∈ xs, H x.1 = some (.tup (ptV x)) ∧ factB (ptV x) = true ∧ x.2.2.length ≤ 3 ∧ ∀ y ∈ ptV x, Okv K H y) ∧ xs.length < 63 ∧
  ∀ (H' : Hp) (t d : Addr) (M : List Pt), (∀ b o, b ≠ p → H b = some o → H' b = some o) → H' p = some (.ins C dx (fsS t d)) → H' t = some (.tup (M.map fun x => V.ref x.1)) → H t = none → H d = none →
    H' d = some (.dT (M.map fun x => (ptK x, V.bl true))) → (∀ x ∈ M, x ∈ xs) → (∀ x ∈ xs, x.2 ∈ M.map (·.2)) → (M.map (·.2)).Nodup → Rise (fun x : Pt => (ptM x).2.data) M → Q .non H'
structure StT (K : PySem.W.Frag) (mg : Str → Option Value) (C : Addr) : Prop where
  cl : Cls K C
  nF : NoAttr K C "_facts"
  nH : NoAttr K C "_held"
  nG : NoAttr K C "_groups"
section
variable {P : Program} {w : World} {K : PySem.W.Frag} {mg : Str → Option Value} {base : Heap}
abbrev nIS : List Str := ["self", "facts", "value", "fact"]
theorem scIS : FnScope nIS ["self", "facts"] (defScope sInitS) := ⟨rfl, rfl, rfl, by decide +kernel, rfl, by decide +kernel, by decide +kernel⟩
theorem ok_initS {f fF C : Addr} {fd fdF : FuncData} {T1 : V} (F : FunD K "__init__" "Store.__init__" (defArgs sInitS) (defBody sInitS) (defScope sInitS) [T1] [] f fd) (T : StT K mg C)
    (GF : FnOk P w K mg base CX0 4 fF fdF ["value"] (spIsP K factB)) (kF : PySem.W.keepIn K (.ref fF) = true) (bF : Binds K fdF ["value"] []) (mF : mg "is_fact" = some (.ref fF))
    (ms : mg "sorted" = none) (mt : mg "tuple" = none) (mS : mg "set" = none) :
    FnOk P w K mg base CX0 5 f fd ["self", "facts"] (spInitS C K) := by
  refine F.ok scIS (fun vs H Q E h => ?_) (fun cdv A outer s H vs Q E hr h => ?_)
  · obtain ⟨p, q, dx, xs, rfl, _⟩ := h
    rfl
  · obtain ⟨p, q, dx, xs, rfl, hp, hq, each, few, k⟩ := h
    have hu := hr.units
    have hu1 := hu_of hr
    refine ⟨_, PSs.nox (pss_cons (ps_for PassesOwn.never rfl (pi_seq (pv 1)) (pg_name (i := 2) scIS.nd rfl (Or.inl rfl))
        (pss_one (ps_if (pt_not (pt_val (pe_call GF hr (by rfl) mF kF bF .nil pass0 (pa_cons (pv 2) pa_nil)))) (pss_one ps_never) pss_nil)))
      (pss_cons (ps_fld (pv 0) (pe_callTy call_tuple_of (by rfl) mt (by decide +kernel) (pa_cons (pe_callB (cr_sortNK (K := K) (P := P) (w := w) rfl rfl rfl rfl hu) (by rfl) ms (by decide +kernel) (pa_cons (pe_callTy (cr_setNK (K := K) (P := P) (w := w) rfl rfl rfl rfl hu) (by rfl) mS (by decide +kernel) (pa_cons (pv 1) pa_nil)) pa_nil)) pa_nil)) rfl)
      (pss_cons (ps_fld (pv 0) (Cmp.pe_dictT (own := [("fact", 3)]) (g := gName 3) (tt := tYes) rfl hu1 scIS.nd (pi_tup (pe_fld (pv 0) rfl))
        (blkOk_by (own := [("fact", 3)]) (N := nIS) (sc := defScope sInitS) (by decide +kernel)) (fun _ _ _ _ _ => pg_name (i := 3) scIS.nd rfl (Or.inl rfl)) (fun _ _ _ _ _ => pts_nil)
        (fun _ _ _ _ _ => pv 3) (fun _ _ _ _ _ => pe_bl)) rfl)
      (pss_one (ps_fld (pv 0) pe_non rfl))))), ?_⟩
    refine ⟨_, rfl, q, rfl, for_seq hq (fun i σ H5 => ∃ v2 : Option V, σ = [some (.ref p), some (.ref q), v2, none] ∧ Same H H5) ⟨none, rfl, fun _ _ h => h⟩ (fun i σ H5 p => let ⟨_, _, s⟩ := p; s) (fun i z σ H5 hz pp => ?_) (fun σ H5 pp => ?_)⟩
    · obtain ⟨v2, rfl, s5⟩ := pp
      rw [List.getElem?_map] at hz
      obtain ⟨x, hx, rfl⟩ := Option.map_eq_some_iff.mp hz
      obtain ⟨e1, e2, e3, e4⟩ := each x (List.mem_of_getElem? hx)
      refine ⟨_, rfl, .ref x.1, rfl, .inl ⟨x.1, ptV x, rfl, s5 _ _ e1, ?_, fun y hy => (e4 y hy).same s5, fun H6 s6 => ?_⟩⟩
      · unfold ptV
        rw [List.length_cons, List.length_map]
        omega
      · rw [e2]
        exact ⟨true, rfl, iteF ⟨_, rfl, fun b o h => s6 _ _ (s5 _ _ h)⟩⟩
    · obtain ⟨v2, rfl, s5⟩ := pp
      have each5 : ∀ x ∈ xs, H5 x.1 = some (.tup (ptV x)) := fun x hx => s5 _ _ (each x hx).1
      have em : (xs.map ptM).map (fun z : Mem => V.ref z.1) = xs.map fun x => V.ref x.1 := by
        rw [List.map_map]
        rfl
      refine ⟨_, rfl, q, xs.map ptM, rfl, ?_, fun z hz => ?_, by rw [List.length_map]; omega, fun sa L ns sub all nd => ?_⟩
      · rw [em]
        exact hq.imp (fun e => e.ext s5) fun e => e.ext s5
      · obtain ⟨x, hx, rfl⟩ := List.mem_map.mp hz
        exact memOk_pt (each5 x hx)
      have s6 : Same H5 (upd H5 sa (SetN P w sa L)) := same_new ns
      have h6 : (upd H5 sa (SetN P w sa L)) sa = some (SetN P w sa L) := upd_same
      generalize upd H5 sa (SetN P w sa L) = H6 at s6 h6 ⊢
      refine ⟨sa, L, rfl, h6, fun z hz => ?_, fun d hd d2 hd2 => ?_, fun z hz => ?_, fun z hz => ?_, fun M l pM rM nl => ?_⟩
      · obtain ⟨x, hx, rfl⟩ := List.mem_map.mp (sub z hz)
        exact memOk_pt (s6 _ _ (each5 x hx))
      · obtain ⟨z, hz, rfl⟩ := List.mem_map.mp hd
        obtain ⟨z2, hz2, rfl⟩ := List.mem_map.mp hd2
        obtain ⟨x, hx, rfl⟩ := List.mem_map.mp (sub z hz)
        obtain ⟨x2, hx2, rfl⟩ := List.mem_map.mp (sub z2 hz2)
        exact alike_ptM x x2
      · obtain ⟨x, hx, rfl⟩ := List.mem_map.mp (sub z hz)
        exact ⟨_, rfl⟩
      · obtain ⟨x, hx, rfl⟩ := List.mem_map.mp (sub z hz)
        exact Nat.le_trans (ddepth_ptM x) (by decide)
      obtain ⟨Ms, rfl, subM⟩ := lift_sub ptM (xs := xs) (M := M) fun z hz => sub z (pM.mem_iff.mp hz)
      have ndM : (Ms.map (·.2)).Nodup := by
        have h := ((pM.map (·.2)).nodup_iff).mpr nd
        rw [List.map_map, List.Nodup, List.pairwise_map] at h
        rw [List.Nodup, List.pairwise_map]
        exact List.Pairwise.imp (fun {a b} h e => h (by show (ptM a).2 = (ptM b).2; unfold ptM; rw [show a.2.1 = b.2.1 by rw [e], show a.2.2 = b.2.2 by rw [e]])) h
      have rise : Rise (fun x : Pt => (ptM x).2.data) Ms := List.pairwise_map.mp rM
      have allM : ∀ x ∈ xs, x.2 ∈ Ms.map (·.2) := fun x hx => by
        obtain ⟨z, hz, e⟩ := List.mem_map.mp (all (ptM x) (List.mem_map.mpr ⟨x, hx, rfl⟩))
        obtain ⟨y, hy, rfl⟩ := List.mem_map.mp (pM.mem_iff.mpr hz)
        exact List.mem_map.mpr ⟨y, hy, ptM_inj e⟩
      have few2 : Ms.length ≤ 63 := by
        have := nodup_len (Ms.map (·.2)) (xs.map (·.2)) ndM fun c hc => by
          obtain ⟨y, hy, rfl⟩ := List.mem_map.mp hc
          exact List.mem_map.mpr ⟨y, subM y hy, rfl⟩
        rw [List.length_map, List.length_map] at this
        omega
      rw [List.map_map]
      refine ⟨l, _, rfl, .inl ⟨SqL.of upd_same, fun t nt => ?_⟩⟩
      have s7 : Same H5 (upd (upd H6 l (.lst (Ms.map ((fun z : Mem => V.ref z.1) ∘ ptM)))) t (.tup (Ms.map ((fun z : Mem => V.ref z.1) ∘ ptM)))) := fun b o h => same_new nt _ _ (same_new nl _ _ (s6 _ _ h))
      have h7 : (upd (upd H6 l (.lst (Ms.map ((fun z : Mem => V.ref z.1) ∘ ptM)))) t (.tup (Ms.map ((fun z : Mem => V.ref z.1) ∘ ptM)))) t = some (.tup (Ms.map fun x => V.ref x.1)) := upd_same
      generalize upd (upd H6 l (.lst (Ms.map ((fun z : Mem => V.ref z.1) ∘ ptM)))) t (.tup (Ms.map ((fun z : Mem => V.ref z.1) ∘ ptM))) = H7 at s7 h7 ⊢
      have pt : p ≠ t := fun e => by
        have h := s5 _ _ hp
        rw [← e] at nt
        rw [same_new nl _ _ (s6 _ _ h)] at nt
        cases nt
      have hp7 := s7 _ _ (s5 _ _ hp)
      refine ⟨_, rfl, p, C, dx, [], rfl, hp7, T.cl, T.nF, (by show 0 < 1000; decide), ?_⟩
      -- the dict
      have a1 : (upd H7 p (.ins C dx (putF "_facts" (.ref t) []))) p = some (.ins C dx (putF "_facts" (.ref t) [])) := upd_same
      have a2 : ∀ b o, b ≠ p → H7 b = some o → (upd H7 p (.ins C dx (putF "_facts" (.ref t) []))) b = some o := fun b o nb h => by
        rw [upd_ne nb]
        exact h
      have a3 := a2 _ _ (Ne.symm pt) h7
      have eachM : ∀ x ∈ Ms, (upd H7 p (.ins C dx (putF "_facts" (.ref t) []))) x.1 = some (.tup (ptV x)) := fun x hx => by
        refine a2 _ _ (fun e => ?_) (s7 _ _ (each5 x (subM x hx)))
        have h := each5 x (subM x hx)
        rw [e, s5 _ _ hp] at h
        cases h
      have ntH : H t = none := by
        cases h : H t with
        | none => rfl
        | some o => rw [same_new nl _ _ (s6 _ _ (s5 _ _ h))] at nt; cases nt
      generalize hH8 : upd H7 p (.ins C dx (putF "_facts" (.ref t) [])) = H8 at a1 a2 a3 eachM ⊢
      refine ⟨_, rfl, p, C, dx, _, .ref t, rfl, a1, T.cl, T.nF, rfl, t, rfl, ⟨_, SqT.of a3⟩, fun D nD => ?_⟩
      refine walk_tup (xs := Ms.map fun x => V.ref x.1) _ _ _ _ _ _ _ (fun i H9 => H9 D = some (.dT ((Ms.take i).map fun x => (ptK x, V.bl true))) ∧ Same H8 H9) ⟨upd_same, same_new nD⟩ (fun i H9 hi p => SqT.of (p.2 _ _ a3)) (fun i z H9 hz pp => ?_) (fun H9 pp => ?_)
      · obtain ⟨b1, b2⟩ := pp
        rw [List.getElem?_map] at hz
        obtain ⟨x, hx, rfl⟩ := Option.map_eq_some_iff.mp hz
        have mx : x ∈ Ms := List.mem_of_getElem? hx
        refine ⟨rfl, ?_⟩
        dsimp only [tYes]
        rw [if_pos rfl]
        have tk1 : Ms.take (i + 1) = Ms.take i ++ [x] := by
          rw [List.take_succ, hx]
          rfl
        have fresh : ptK x ∉ ((Ms.take i).map fun x => (ptK x, V.bl true)).map (·.1) := fun h => by
          rw [List.map_map] at h
          obtain ⟨y, hy, e⟩ := List.mem_map.mp h
          have nd2 : ((Ms.take (i + 1)).map (·.2)).Nodup := ((List.take_sublist (i + 1) Ms).map _).nodup ndM
          rw [tk1, List.map_append, List.nodup_append] at nd2
          exact nd2.2.2 _ (List.mem_map.mpr ⟨y, hy, rfl⟩) _ (by simp) (ptK_inj e)
        refine ⟨_, rfl, _, ptK x, x.1, rfl, by rw [ptK_V]; exact b2 _ _ (eachM x mx), b1, ?_, ?_, fun b o h => ?_⟩
        · rw [List.length_map, List.length_take, sizeLine_eq]
          omega
        · rw [upd_same, putK_new _ (valV_out fresh), tk1, List.map_append]
          rfl
        · rw [upd_ne (ne_of_none h nD)]
          exact b2 _ _ h
      · obtain ⟨b1, b2⟩ := pp
        rw [List.length_map, List.take_length] at b1
        have Dp' : D ≠ p := fun e => by
          rw [e, a1] at nD
          cases nD
        refine ⟨_, rfl, p, C, dx, _, rfl, b2 _ _ a1, T.cl, T.nH, (by show 1 < 1000; decide), ?_⟩
        refine ⟨_, rfl, p, C, dx, _, rfl, upd_same, T.cl, T.nG, (by show 2 < 1000; decide), ?_⟩
        refine k _ t D Ms (fun b o nb h => ?_) upd_same ?_ ntH ?_ ?_ subM allM ndM rise
        · rw [upd_ne nb, upd_ne nb]
          exact b2 _ _ (a2 _ _ nb (s7 _ _ (s5 _ _ h)))
        · rw [upd_ne (Ne.symm pt), upd_ne (Ne.symm pt)]
          exact b2 _ _ a3
        · cases h : H D with
          | none => rfl
          | some o =>
            by_cases e : D = p
            · exact absurd e Dp'
            · rw [a2 _ _ e (s7 _ _ (s5 _ _ h))] at nD
              cases nD
        · rw [upd_ne Dp', upd_ne Dp']
          exact b1
end
end L2.LawH
set_option Elab.async false
set_option linter.all false
set_option maxRecDepth 100000
set_option maxHeartbeats 4000000
/-! x != y of tuples and of instances that are equal by a class's own ==. -/
namespace L2.InsNe
open PySem PySem.Spec PyProof.Rows PySem.SeqAt AutoSeq1 MeetsSeq MeetsSeq2 MeetsSeq3 SeqRoads2 GQ
section
variable {P : Program} {w : World} {A : Around} {R : Result → Shared → Prop}
theorem tup_ne (a c : Addr) (us vs : Array Value) (n m : Nat) (d1 d2 : Option Addr) (s1 s2 : Array (Option Value)) (hz : us.size = vs.size) (J : Nat → Shared → Prop)
    (step : ∀ j (k1 : j < us.size) (k2 : j < vs.size) t, J j t → wpAny (model P w) A.in1 (eqBool us[j] vs[j]) (fun r t' => r = true ∧ J (j + 1) t') (fun e t' => R (.error e) t') t)
    (stop : ∀ t, J us.size t → R (.ok (.ret (.bool false))) t) {t : Shared} (ha : t.heap.get? a = some { cls := .type "tuple", dict := d1, data := .seq us n, slots := s1 }) (hc : t.heap.get? c = some { cls := .type "tuple", dict := d2, data := .seq vs m, slots := s2 }) (j0 : J 0 t) :
    wpAny (model P w) A.in1 (Builtin.«tuple.__ne__» ⟨[.ref a, .ref c], []⟩) (FinOf P w A R) (fun e t' => R (.error e) t') t := by
  have sub := AutoSeq1.sub_tuple_tuple
  have lz : (us.toList.zip vs.toList).length = us.size := by simp [hz]
  have keep := j0
  obtain ⟨hp, g, d, tk, os⟩ := t
  wp_walk using wpAny_loadPart' ha, wpAny_loadPart' hc, wpAny_forIn_list _ (fun left q t' => q.1 = none ∧ ∃ k, left = (us.toList.zip vs.toList).drop k ∧ k ≤ us.size ∧ J k t') _
  case turn =>
    rintro ⟨u, v⟩ left q t' ⟨_, k, e, _, hJ⟩
    have lt : k < (us.toList.zip vs.toList).length := Nat.lt_of_not_le fun ge => by
      rw [List.drop_of_length_le ge] at e
      cases e
    have k1 : k < us.size := lz ▸ lt
    have k2 : k < vs.size := hz ▸ k1
    rw [List.drop_eq_getElem_cons lt] at e
    injection e with e1 e2
    have eu : u = us[k] := by simpa using congrArg Prod.fst e1
    have ev : v = vs[k] := by simpa using congrArg Prod.snd e1
    subst eu ev
    refine wpAny_bind (wpAny_mono (step k k1 k2 t' hJ) (fun r t2 z => ?_) fun _ _ x => x)
    obtain ⟨rfl, z⟩ := z
    wp_walk
    exact ⟨rfl, k + 1, e2, k1, z⟩
  case fin =>
    rintro ⟨q1, q2⟩ t' ⟨e0, k, e, le, hJ⟩
    simp only at e0
    subst e0
    have ge : us.size ≤ k := Nat.le_of_not_lt fun lt => by
      rw [List.drop_eq_getElem_cons (by rw [lz]; exact lt)] at e
      cases e
    obtain rfl : k = us.size := Nat.le_antisymm le ge
    have fin := stop t' hJ
    wp_walk
    simpa [Builtin.Tuple.tupleCompareSizes, hz] using fin
  case h =>
    exact ⟨rfl, 0, rfl, Nat.zero_le _, keep⟩
end
section
variable {P : Program} {w : World} {A : Around} {E : Value → Shared → Prop} {t : Shared}
theorem rc_tup_ne {a c : Addr} {us vs : Array Value} {Q : Value → Shared → Prop} (hz : us.size = vs.size) (hu : A.units < cLine) (J : Nat → Shared → Prop) (ha : t.heap.IsTuple a us) (hc : t.heap.IsTuple c vs)
    (step : ∀ j (k1 : j < us.size) (k2 : j < vs.size) t, J j t → wpAny (model P w) A.in1 (eqBool us[j] vs[j]) (fun r t' => r = true ∧ J (j + 1) t') E t) (stop : ∀ t, J us.size t → Q (.bool false) t) (j0 : J 0 t) :
    wpAny (model P w) A (richCompare .NotEq (.ref a) (.ref c)) Q E t := by
  obtain ⟨⟨c1, d1, x1, s1⟩, o1, k1, n1, e1⟩ := id ha
  obtain ⟨⟨c2, d2, x2, s2⟩, o2, k2, n2, e2⟩ := id hc
  simp only at k1 e1 k2 e2
  subst k1 e1 k2 e2
  refine wpAny_richCompare_same_room (op := .NotEq) ⟨_, o1, rfl⟩ ⟨_, o2, rfl⟩ F.slot_tuple_ne (call_here F.slot_tuple_ne ⟨_, o1, rfl⟩ F.entry_tuple_ne (F.args_tuple_ne_2 _ _) ?_) hu
  exact tup_ne (R := wants (fun v t' => v ≠ .notImplemented ∧ Q v t') E) a c us vs n1 n2 d1 d2 s1 s2 hz J step (fun t' q => ⟨(fun x => nomatch x), stop t' q⟩) o1 o2 j0
end
section
variable {M : Model} {P : Program} {w : World} {A : Around} {E : Value → Shared → Prop} {s : Shared} {K : PySem.W.Frag} {x C f : Addr} {ox : Obj} {od : Option Obj}
theorem bound_ne {args : List Value} {Q : Option Value → Shared → Prop} (X : K.In s.heap) (I : PySem.W.InstAt s.heap x ox C od) (hs : PySem.W.findIn K (.ref C) "__ne__" = some (some (.builtin "object.__ne__")))
    (h : wpAny M A (call (.builtin "object.__ne__") (.ref x :: args)) (fun v => Q (some v)) E s) : wpAny M A (callSpecialIfBound? (.ref x) "__ne__" args) Q E s := by
  simp only [callSpecialIfBound?, bindSpecialIfBound?]
  refine wpAny_holding (wpAny_bind (wpAny_bind (wpAny_bind (I.type.here ((PySem.W.looks_findIn X hs).here ?_)))))
  refine wpAny_bind (wpAny_askSetting (wpAny_ite ?_))
  have last : wpAny M A (call (.builtin "object.__ne__") ([.ref x] ++ args) >>= fun v => pure (some v)) Q E s := wpAny_bind (wpAny_mono h (fun v s' z => wpAny_pure z) fun _ _ z => z)
  split
  · exact wpAny_bind (wpAny_of_eq (F.cmp_object.ne.bind _) (wpAny_pure (by exact last)))
  · exact wpAny_tryCatch (wpAny_bind (wpAny_of_eq (F.cmp_object.ne.bind _) (wpAny_pure (by exact last))))
theorem body_ne {y : Value} {Q : Fin → Shared → Prop} (X : K.In s.heap) (I : PySem.W.InstAt s.heap x ox C od) (hs : PySem.W.findIn K (.ref C) "__eq__" = some (some (.ref f))) (hf : PySem.W.isFn K (.ref f) = true) (hu : A.units < cLine)
    (h : wpAny (model P w) A (call (.ref f) [.ref x, y]) (fun v s' => ∃ b, v = .bool b ∧ Q (.done (.ret (.bool (!b)))) s') E s) : wpAny (model P w) A (Builtin.«object.__ne__» ⟨[.ref x, y], []⟩) Q E s := by
  unfold Builtin.«object.__ne__»
  repeat (first
    | with_reducible refine wpAny_cRoomFor hu ?_
    | (refine wpAny_bind (m := callSpecialIfBound? (.ref x) (Str.ofString "__eq__") [y]) (PySem.W.ifBound_K X I hs hf (wpAny_mono h (fun r s' z => by
        obtain ⟨b, rfl, z⟩ := z
        repeat (first | exact z | exact wpAny_pure z | exact wpAny_truthy_bool z | (refine wpAny_bind (m := truthy (.bool _)) (wpAny_truthy_bool ?_)) | wp_step)) fun _ _ z => z)))
    | wp_step)
theorem rc_ne {y : Addr} {oy : Obj} {oe : Option Obj} {Q : Value → Shared → Prop} (X : K.In s.heap) (I : PySem.W.InstAt s.heap x ox C od) (I2 : PySem.W.InstAt s.heap y oy C oe) (hm : PySem.W.mroIn K C (.type "object") = some true) (hn : PySem.W.findIn K (.ref C) "__ne__" = some (some (.builtin "object.__ne__"))) (hs : PySem.W.findIn K (.ref C) "__eq__" = some (some (.ref f))) (hf : PySem.W.isFn K (.ref f) = true) (hu : A.units + 1 < cLine)
    (h : wpAny (model P w) A.in1 (call (.ref f) [.ref x, .ref y]) (fun v s' => ∃ b, v = .bool b ∧ Q (.bool (!b)) s') E s) : wpAny (model P w) A (richCompare .NotEq (.ref x) (.ref y)) Q E s := by
  have one : wpAny (model P w) A (tryCompare (.ref x) "__ne__" (.ref y)) (fun r s' => ∃ v, r = some v ∧ Q v s') E s := by
    unfold tryCompare
    refine wpAny_bind (bound_ne X I hn (wpAny_call (codeAny_call_builtin F.cmp_object.ne.plain F.cmpEntry_ne (PySem.W.check_slot F.cmpKind_ne F.cmpSplit_ne (I.type.andThen (PySem.W.looks_mroIn X hm)) (F.cmpArgs_ne _ _)
      (body_ne (A := A.in1) X I hs hf hu (wpAny_mono h (fun v s' z => ?_) fun _ _ z => z))))))
    obtain ⟨b, rfl, z⟩ := z
    exact ⟨b, rfl, wpAny_pure ⟨_, rfl, z⟩⟩
  unfold richCompare
  simp only [oneThing_ref]
  refine wpAny_holding (wpAny_bind (wpAny_cRoomFor (Nat.lt_of_succ_lt hu) ?_))
  refine wpAny_bind (I.type.here (wpAny_bind (I2.type.here ?_)))
  split
  · rename_i q
    simp at q
  · refine wpAny_bind (wpAny_pure ?_)
    simp only [Bool.false_eq_true, if_false]
    refine wpAny_bind (wpAny_mono one (fun r s' z => ?_) fun _ _ e => e)
    obtain ⟨v, rfl, hq⟩ := z
    exact wpAny_pure hq
end
end L2.InsNe
namespace L2
open PySem PySem.Spec PyProof.Rows
/-- != gives False for what D says, and only makes objects -/
def NcG (X : Cx) (n : Nat) (D : Eqv) : Prop :=
  ∀ (A : Around) (pins : List (Addr × Obj)) (s : Shared) (σ : St) (H : Hp) (x y : V) (u v : Value), Sub X n A → Inv X pins σ H s → RelV x u → RelV y v → D x y H →
    wpAny (model X.prog X.w) A (richCompare .NotEq u v) (fun r s' => r = .bool false ∧ ∃ H', Inv X pins σ H' s' ∧ Ext H H') X.xe s
section
variable {X : Cx} {n m : Nat} {D D' : Eqv}
theorem ncG_tup (hD : Mon D) (h : EqG X n D) : NcG X (n + 1) (DTup X.K D) := by
  intro A pins s σ H x y u v sb I rx ry d
  obtain ⟨a, b, xs, ys, rfl, rfl, ha, hb, p⟩ := d
  cases rx
  cases ry
  obtain ⟨i1, r1, e1, _⟩ := I.tuple ha
  obtain ⟨i2, r2, e2, _⟩ := I.tuple hb
  have hz : i1.toArray.size = i2.toArray.size := by rw [List.size_toArray, List.size_toArray, ← r1.length, ← r2.length]; exact p.1
  exact InsNe.rc_tup_ne hz sb.room.units0 (fun _ t => LoopI X pins σ H t) e1 e2 (fun j k1 k2 t q => turnG hD h sb p r1 r2 j k1 k2 t q) (fun t q => ⟨rfl, q⟩) ⟨H, I, Ext.rfl'⟩
theorem ncG_ins {CX : CXT} {C f : Addr} {fd : FuncData} {ps : List Str} {R : Addr → Addr → Hp → Prop} {E : XK} (F : FnOk X.prog X.w X.K X.mg X.base CX n f fd ps (spEq R)) (hm : PySem.W.mroIn X.K C (.type "object") = some true) (hn : PySem.W.findIn X.K (.ref C) "__ne__" = some (some (.builtin "object.__ne__")))
    (hs : PySem.W.findIn X.K (.ref C) "__eq__" = some (some (.ref f))) (hf : PySem.W.isFn X.K (.ref f) = true) (hb : Binds X.K fd ps []) (hx : Passes CX X E) : NcG X (n + 1) (DIns C R) := by
  intro A pins s σ H x y u v sb I rx ry d
  obtain ⟨a, b, dx, dy, fs, gs, rfl, rfl, ha, hb', hr⟩ := d
  cases rx
  cases ry
  obtain ⟨mA, J, _⟩ := ins_get I.hok ha
  obtain ⟨mB, J', _⟩ := ins_get I.hok hb'
  obtain ⟨od, J, _⟩ := J.look
  obtain ⟨od', J', _⟩ := J'.look
  refine InsNe.rc_ne I.kIn J J' hm hn hs hf (by have := sb.room.un; omega) ?_
  have want : spEq R [.ref a, .ref b] H (fun v H' => v = .bl true ∧ Ext H H') E := ⟨a, b, rfl, hr, fun H' e => ⟨rfl, e⟩⟩
  have e0 : Env0 X.prog X.w X.K X.mg X.base A.in1 X.stack s H := by
    have e := I.env0
    have sf : A.in1.frames = X.A.frames := sb.in1.fr
    exact ⟨by rw [sf]; exact e.frames, e.mod, e.bs, e.bsz, e.funs, e.frf, e.hok, e.bare⟩
  have hl := F.len _ _ _ _ want
  refine wpAny_call (codeAny_mono (F.run A.in1 X.stack s H ⟨[.ref a, .ref b], []⟩ [.ref a, .ref b] [.ref a, .ref b] _ E sb.in1.room e0 (by
    have := hb s [.ref a, .ref b] I.kIn (by simpa using hl)
    simpa using this) (.cons rfl (.cons rfl .nil)) want) fun r s' hq => ?_)
  cases r with
  | error e => exact hx pins σ H s e s' I hq
  | ok fl =>
    cases fl with
    | ret z =>
      obtain ⟨_, H', I', rz, ez, ex⟩ := I.after hq
      subst ez
      cases rz
      exact ⟨true, rfl, rfl, H', I', ex⟩
    | next => exact False.elim hq
    | brk => exact False.elim hq
    | cont => exact False.elim hq
/-- x != y, which are equal -/
def rNeG (D : Eqv) : R2 := fun x y H Q => D x y H ∧ ∀ H', Ext H H' → Q (.bl false) H'
theorem op_neG (h : NcG X n D) (hr : Room n X.A) : OpR X (compareOp .NotEq) (rNeG D) := by
  intro pins s σ H x y v u Q I rx ry hq
  obtain ⟨d, q⟩ := hq
  show wpAny (model X.prog X.w) X.A (richCompare .NotEq v u) (EP X pins σ Q) X.xe s
  refine wpAny_mono (h X.A pins s σ H x y v u ⟨hr, rfl⟩ I rx ry d) (fun r t z => ?_) fun _ _ x => x
  obtain ⟨rfl, H', I', e⟩ := z
  exact ⟨.bl false, H', I', rfl, q H' e⟩
/-- two dicts of texts with the same pairs -/
def DDic : Eqv := fun x y H => ∃ a b ks, x = .ref a ∧ y = .ref b ∧ H a = some (.dK ks) ∧ H b = some (.dK ks) ∧ ∀ p ∈ ks, valV ks p.1 = some p.2 ∧ flatB p.2 = true
theorem mon_dic : Mon DDic := fun x y H H' e ⟨a, b, ks, hx, hy, h1, h2, k⟩ => ⟨a, b, ks, hx, hy, e _ _ h1, e _ _ h2, k⟩
theorem eqG_dic : EqG X 2 DDic := by
  intro A pins s σ H x y u v sb I rx ry d
  obtain ⟨a, b, ks, rfl, rfl, h1, h2, k⟩ := d
  refine eqV_run I 2 A (by have := sb.room.un; omega) (.ref a) (.ref b) u v (.inr (.inr (.inr ⟨a, b, ks, ks, rfl, rfl, h1, h2, rfl, fun p hp => ?_⟩))) rx ry _ _ ⟨rfl, H, I, Ext.rfl'⟩
  obtain ⟨e, f⟩ := k p hp
  exact ⟨p.2, e, .inl ⟨rfl, f⟩⟩
end
end L2
set_option Elab.async false
set_option linter.all false
set_option maxRecDepth 100000
set_option maxHeartbeats 4000000
/-! Store's own ==. -/
namespace L2.LawH
open PySem PySem.Spec PyProof.Rows L2.NSet PySem.W
abbrev sEqS : Stmt := inClass (top 16) 7
/-- a Store with these facts stands at a -/
def StoreAt (C : Addr) (H : Hp) (a : Addr) (M : List Pt) : Prop := ∃ dx t d, H a = some (.ins C dx (fsS t d)) ∧ H t = some (.tup (M.map fun x => V.ref x.1)) ∧ ∀ x ∈ M, H x.1 = some (.tup (ptV x))
theorem StoreAt.ext {C : Addr} {H H' : Hp} {a : Addr} {M : List Pt} (h : StoreAt C H a M) (e : Ext H H') : StoreAt C H' a M :=
  let ⟨dx, t, d, h1, h2, h3⟩ := h
  ⟨dx, t, d, e _ _ h1, e _ _ h2, fun x hx => e _ _ (h3 x hx)⟩
/-- two Stores with the same facts -/
def RS (C : Addr) (a b : Addr) (H : Hp) : Prop := ∃ M N : List Pt, StoreAt C H a M ∧ StoreAt C H b N ∧ M.map (·.2) = N.map (·.2)
theorem RS.mon {C : Addr} (a b : Addr) (H H' : Hp) (e : Ext H H') (r : RS C a b H) : RS C a b H' := let ⟨M, N, h1, h2, h3⟩ := r; ⟨M, N, h1.ext e, h2.ext e, h3⟩
theorem op_eqTTK {X : Cx} {K : PySem.W.Frag} (e : X.K = K) (hr : Room 2 X.A) : OpR X (compareOp .Eq) (rEqG (DTup K (DTup K DFlat))) := by
  subst e
  exact op_eqG (rcG_tup (mon_tup mon_flat) (eqG_tup mon_flat eqG_flat)) hr
theorem call_isCK {X : Cx} {K : PySem.W.Frag} {C : Addr} (e : X.K = K) (c : C8.InsC K C) : CallR X (.builtin "isinstance") (fun xs H Q => ∃ a dx fs, xs = [.ref a, .ref C] ∧ H a = some (.ins C dx fs) ∧ Q (.bl true) H) := by
  subst e
  exact C8.call_isC c
theorem eqV_str (z : Str) : eqV (.str z) (.str z) = true := by simp [eqV]
theorem prs_strs : ∀ (zs : List Str) {H : Hp}, Prs DFlat (zs.map V.str) (zs.map V.str) H
  | [], _ => .nil
  | z :: zs, _ => .cons ⟨rfl, rfl, eqV_str z⟩ (prs_strs zs)
theorem ptV_map (x : Pt) : ptV x = (x.2.1 :: x.2.2).map V.str := rfl
theorem prs_pts {K : PySem.W.Frag} {H : Hp} : ∀ {M N : List Pt}, M.map (·.2) = N.map (·.2) → (∀ x ∈ M, H x.1 = some (.tup (ptV x))) → (∀ x ∈ N, H x.1 = some (.tup (ptV x))) →
    Prs (DTup K DFlat) (M.map fun x => V.ref x.1) (N.map fun x => V.ref x.1) H
  | [], [], _, _, _ => .nil
  | [], _ :: _, h, _, _ => nomatch h
  | _ :: _, [], h, _, _ => nomatch h
  | x :: M, y :: N, h, h1, h2 => by
    rw [List.map_cons, List.map_cons] at h
    injection h with e1 e2
    refine .cons ⟨x.1, y.1, ptV x, ptV y, rfl, rfl, SqT.of (h1 x List.mem_cons_self), SqT.of (h2 y List.mem_cons_self), ?_⟩ (prs_pts e2 (fun z hz => h1 z (List.mem_cons_of_mem _ hz)) fun z hz => h2 z (List.mem_cons_of_mem _ hz))
    rw [ptV_map, ptV_map, e1]
    exact prs_strs _
section
variable {P : Program} {w : World} {K : PySem.W.Frag} {mg : Str → Option Value} {base : Heap}
theorem scEq : FnScope ["self", "other"] ["self", "other"] (defScope sEqS) := ⟨rfl, rfl, rfl, by decide +kernel, rfl, by decide +kernel, by decide +kernel⟩
theorem ok_eqS {f C : Addr} {fd : FuncData} (F : Fun K "__eq__" "Store.__eq__" sEqS f fd) (T : StT K mg C) (c : C8.InsC K C) (mC : mg "Store" = some (.ref C)) (mi : mg "isinstance" = none) :
    FnOk P w K mg base CX0 3 f fd ["self", "other"] (spEq (RS C)) := by
  refine F.ok scEq (fun vs H Q E h => ?_) (fun cdv A outer s H vs Q E hr h => ?_)
  · obtain ⟨a, b, rfl, _⟩ := h
    rfl
  · obtain ⟨a, b, rfl, ⟨M, N, ⟨dx, t, d, h1, h2, h3⟩, ⟨dy, t', d', g1, g2, g3⟩, e⟩, k⟩ := h
    refine ⟨_, pss_one (ps_ret (pe_and (pe_callB (call_isCK (K := K) rfl c) (by rfl) mi (by decide +kernel) (pa_cons (pv 1) (pa_cons (pe_glob (v := .ref C) (by rfl) mC rfl) pa_nil)))
      (pe_one (pe_cmpR (op_eqTTK (K := K) rfl hr) (pe_fld (pv 0) rfl) (pe_fld (pv 1) rfl) (nomark _))))), ?_⟩
    refine ⟨_, rfl, b, dy, _, rfl, g1, true, rfl, iteT ?_⟩
    refine ⟨_, rfl, a, C, dx, _, .ref t, rfl, h1, T.cl, T.nF, rfl, _, rfl, b, C, dy, _, .ref t', rfl, g1, T.cl, T.nF, rfl, ?_⟩
    exact ⟨⟨t, t', _, _, rfl, rfl, SqT.of h2, SqT.of g2, prs_pts e h3 g3⟩, k⟩
end
end L2.LawH
set_option Elab.async false
set_option linter.all false
set_option maxRecDepth 100000
set_option maxHeartbeats 4000000
/-! Data compared; BadLine made; the lines of a text. -/
namespace L2.LawH
open PySem PySem.Spec PyProof.Rows L2.Cmp L2.TxtSet TL
def rLtD (K : PySem.W.Frag) : R2 := fun x y H Q => ∃ d e, Dp K H x d ∧ Dp K H y e ∧ PySem.W.alike d e = true ∧ d ≠ .none ∧ min d.depth e.depth ≤ 20 ∧ Q (.bl (PySem.W.dataLt d e)) H
theorem op_ltD {X : Cx} {K : PySem.W.Frag} (e : X.K = K) (hu : X.A.units + 64 < cLine) : OpR X (compareOp .Lt) (rLtD K) := by
  subst e
  intro pins s σ H x y v u Q I rx ry h
  obtain ⟨d, e, hd, he, al, nn, dp, q⟩ := h
  obtain ⟨as, r1⟩ := Dp.reads I d x v hd rx
  obtain ⟨bs, r2⟩ := Dp.reads I e y u he ry
  exact PySem.W.lt_data r1 r2 al nn (by omega) ⟨.bl _, H, I, rfl, q⟩
def rLeD (K : PySem.W.Frag) : R2 := fun x y H Q => ∃ d e, Dp K H x d ∧ Dp K H y e ∧ PySem.W.alike d e = true ∧ d ≠ .none ∧ min d.depth e.depth ≤ 20 ∧ Q (.bl (!PySem.W.dataLt e d)) H
theorem op_leD {X : Cx} {K : PySem.W.Frag} (e : X.K = K) (hu : X.A.units + 64 < cLine) : OpR X (compareOp .LtE) (rLeD K) := by
  subst e
  intro pins s σ H x y v u Q I rx ry h
  obtain ⟨d, e, hd, he, al, nn, dp, q⟩ := h
  obtain ⟨as, r1⟩ := Dp.reads I d x v hd rx
  obtain ⟨bs, r2⟩ := Dp.reads I e y u he ry
  exact PySem.W.le_data r1 r2 al nn (by omega) ⟨.bl _, H, I, rfl, q⟩
abbrev sBLi : Stmt := inClass (top 4) 0
def spBL (C : Addr) : Sp := fun vs H Q _ => ∃ (e : Addr) (n : Int), vs = [.ref e, .int n] ∧ H e = some (exo e C none) ∧ ∀ dx, H dx = none → dx ≠ e → Q .non (upd (upd H dx (exd dx [("line", .int n)])) e (exo e C (some dx)))
abbrev sLinesOf : Stmt := top 14
abbrev nlS : Str := Str.ofString "\n"
/-- the lines of a text -/
def lns (z : Str) : List Str := if z.length = 0 then [] else Txt.split z nlS
def spLns : Sp := fun vs H Q _ => ∃ z : Str, vs = [.str z] ∧ z.length ≤ 1000 ∧ ∀ (H' : Hp) (p : Addr), Same H H' → H p = none → H' p = some (.lst ((lns z).map V.str)) → Q (.ref p) H'
section
variable {P : Program} {w : World} {K : PySem.W.Frag} {mg : Str → Option Value} {base : Heap}
theorem scBL : FnScope ["self", "line"] ["self", "line"] (defScope sBLi) := ⟨rfl, rfl, rfl, by decide +kernel, rfl, by decide +kernel, by decide +kernel⟩
theorem ok_BL {f C : Addr} {fd : FuncData} (F : Fun K "__init__" "BadLine.__init__" sBLi f fd) (T : OexC K C) (nl : PySem.W.findIn K (.ref C) "line" = some none) : FnOk P w K mg base CX0 1 f fd ["self", "line"] (spBL C) := by
  refine F.ok scBL (fun vs H Q E h => ?_) (fun cdv A outer s H vs Q E hr h => ?_)
  · obtain ⟨e, n, rfl, _⟩ := h
    rfl
  · obtain ⟨e, n, rfl, he, k⟩ := h
    refine ⟨_, pss_one (ps_ost (pv 0) (pv 1)), ?_⟩
    exact ⟨_, rfl, _, rfl, e, C, rfl, T, nl, .inl ⟨he, fun dx h1 h2 => k dx h1 h2⟩⟩
theorem scLns : FnScope ["text"] ["text"] (defScope sLinesOf) := ⟨rfl, rfl, rfl, by decide +kernel, rfl, by decide +kernel, by decide +kernel⟩
theorem ok_lns {f : Addr} {fd : FuncData} (F : Fun K "lines_of" "lines_of" sLinesOf f fd) : FnOk P w K mg base CX0 1 f fd ["text"] spLns := by
  refine F.ok scLns (fun vs H Q E h => ?_) (fun cdv A outer s H vs Q E hr h => ?_)
  · obtain ⟨z, rfl, _⟩ := h
    rfl
  · obtain ⟨z, rfl, lz, k⟩ := h
    refine ⟨_, pss_one (ps_ret (pe_ifExp (pt_truth (pv 0) (by intro _; rfl)) (pe_split (pv 0) pe_str) (pe_lst pa_nil))), ?_⟩
    refine ⟨_, rfl, _, ⟨by rw [sizeLine_eq]; omega, rfl⟩, ?_⟩
    refine ite2 (fun h0 => ⟨_, rfl, ⟨_, rfl⟩, z, _, rfl, rfl, by decide +kernel, by rw [sizeLine_eq]; omega, fun l nl => ?_⟩) (fun h0 => ⟨by show 0 ≤ sizeLine; decide, fun l nl => ?_⟩)
    · refine k _ l (same_new nl) nl ?_
      rw [upd_same]
      unfold lns
      exact congrArg (fun y : List Str => some (HO.lst (y.map V.str))) (if_neg (fun q : z.length = 0 => by simp [q] at h0)).symm
    · refine k _ l (same_new nl) nl ?_
      rw [upd_same]
      unfold lns
      exact congrArg (fun y : List Str => some (HO.lst (y.map V.str))) (show ([] : List Str) = if z.length = 0 then [] else Txt.split z nlS from (if_pos (show z.length = 0 by simpa using h0)).symm)
end
end L2.LawH
set_option Elab.async false
set_option linter.all false
set_option maxRecDepth 100000
set_option maxHeartbeats 4000000
/-! for n, x in enumerate(xs, start=1). -/
namespace L2.EnumS
open PySem PySem.Spec PyProof.Rows
/-- the list at a, each item in a new pair, counted from k0 -/
def IteS (K : PySem.W.Frag) (k0 : Nat) (a : Addr) : It :=
  ⟨fun i H => ∃ (xs : List V) (x : V), SqL K H a xs ∧ xs[i]? = some x, fun i H v H' => ∃ T x, v = .ref T ∧ H T = none ∧ H' = upd H T (.tup [.int ((k0 + i : Nat) : Int), x]) ∧ ∀ xs, SqL K H a xs → xs[i]? = some x, fun i H => ∃ xs : List V, SqL K H a xs ∧ xs.length ≤ i⟩
theorem apart {h : Heap} {a it : Addr} {i : Nat} {its : Array Value} (hl : h.IsList a its) (hi : h.IsListIter it a i) : a ≠ it := fun z => by
  obtain ⟨o1, g1, c1, _⟩ := hl
  obtain ⟨o2, g2, c2, _⟩ := hi
  rw [z, g2] at g1
  have eo := Option.some.inj g1
  rw [← eo, c2] at c1
  exact absurd c1 (by decide)
theorem apart2 {h : Heap} {a e it : Addr} {c : Int} {old : Value} {its : Array Value} (hl : h.IsList a its) (he : IsEnum h e it c old) : e ≠ a := fun z => by
  obtain ⟨o1, g1, c1, _⟩ := hl
  rw [← z, show h.get? e = some _ from he] at g1
  have eo := Option.some.inj g1
  rw [← eo] at c1
  have c2 : Value.type "enumerate" = Value.type "list" := c1
  injection c2 with c2
  exact absurd c2 (by decide)
theorem turn_enumS {P : Program} {w : World} {K : PySem.W.Frag} {elts : List Expr} {kk : Nat} {tpos : Pos} (k0 : Nat) (a e it : Addr) :
    Turn P w K (.Tuple elts kk tpos) (IteS K k0 a) [e, it] e (fun i h => (∃ old, IsEnum h e it ((k0 + i : Nat) : Int) old) ∧ h.IsListIter it a i ∧ e ≠ it) where
  mem := List.mem_cons_self
  obj := by
    rintro i h ⟨⟨old, g⟩, ⟨o, go, _, gd⟩, _⟩ b hb
    rcases List.mem_cons.mp hb with rfl | hb
    · exact ⟨_, g, fun v q => nomatch q⟩
    · rw [List.mem_singleton.mp hb]
      exact ⟨o, go, fun v q => by rw [gd] at q; cases q⟩
  keep := by
    rintro i h h' ⟨⟨old, g⟩, hi, ne⟩ kp
    exact ⟨⟨old, kp e List.mem_cons_self _ g⟩, hi.at fun o q => kp it (List.mem_cons_of_mem _ List.mem_cons_self) o q, ne⟩
  item := by
    rintro X rfl rfl rfl calm i pins s σ H E I fr ⟨⟨old, g⟩, hi, ne⟩ ⟨xs, x, sq, hx⟩
    obtain ⟨its, vals, pl, _⟩ := I.list sq
    obtain ⟨u, hu, ru⟩ := vals.get hx
    have e_lt : e < s.heap.objs.size := Heap.lt_size g
    have i_lt : it < s.heap.objs.size := by
      obtain ⟨_, q, _⟩ := hi
      exact Heap.lt_size q
    have nea := apart2 pl.isList g
    have ilt : i < its.toArray.size := by
      rw [List.size_toArray, ← vals.length]
      exact (List.getElem?_eq_some_iff.mp hx).1
    refine wpAny_pyNext_enum_itemC (Draws.list (A := X.A.in1) (I.ok.hd calm) it a (apart pl.isList hi) its.toArray) g ⟨hi, pl.isList⟩ ilt ne (fun m => ?_) fun z h' tk hz out st hT _ kp => ?_
    · rcases List.mem_cons.mp m with m | m
      · exact ne m
      · exact nea (List.mem_singleton.mp m)
    have zu : z = u := by
      have q : its.toArray[i]? = some z := hz
      have q2 : its.toArray[i]? = some u := by simpa using hu
      rw [q2] at q
      exact (Option.some.inj q).symm
    subst zu
    refine ⟨_, rfl, wpAny_letOwnedTupleGo_enum (s := { s with heap := h', toks := tk + 1 }) out fun h2 g2 sb => ?_⟩
    have hT2 : h2.get? s.heap.objs.size = some { cls := .type "tuple", data := .seq #[.int ((k0 + i : Nat) : Int) tk, z] } := (sb.2 _ (Nat.ne_of_gt e_lt)).trans hT
    have made : ObjOk X.prog X.w (upd H s.heap.objs.size (.tup [.int ((k0 + i : Nat) : Int), x])) h2 s.heap.objs.size (.tup [.int ((k0 + i : Nat) : Int), x]) :=
      ⟨by show 2 ≤ sizeLine; decide, [.int ((k0 + i : Nat) : Int) tk, z], .cons ⟨_, rfl⟩ (.cons ru .nil), ⟨_, hT2, rfl, _, rfl⟩⟩
    have J : Inv X pins σ (upd H s.heap.objs.size (.tup [.int ((k0 + i : Nat) : Int), x])) { s with heap := h2, toks := tk + 1 } :=
      I.turnedNew (ch := [e, it]) (fun b ob nb q => (sb.2 b (fun y => nb (by simp [y]))).trans (kp b ob (fun y => nb (by simp [y])) (fun y => nb (by simp [y])) q)) fr (Nat.le_refl _) made
    refine ⟨.ref s.heap.objs.size, _, J, rfl, ⟨_, x, rfl, I.hok.fresh (Nat.le_refl _), rfl, fun ys hy => by rw [I.list_inj hy sq]; exact hx⟩, ⟨⟨z, ?_⟩, st.1.at fun o q => (sb.2 it (Ne.symm ne)).trans q, ne⟩, fun b hb => ?_⟩
    · have up : ((k0 + (i + 1) : Nat) : Int) = ((k0 + i : Nat) : Int) + 1 := by omega
      rw [up]
      exact g2
    · have lt : b < s.heap.objs.size := by
        rcases List.mem_cons.mp hb with rfl | hb
        · exact e_lt
        · rw [List.mem_singleton.mp hb]
          exact i_lt
      rw [upd_ne (Nat.ne_of_lt lt)]
      exact (fr b hb).1
  done := by
    rintro X rfl rfl rfl calm i pins s σ H E I fr ⟨⟨old, g⟩, hi, ne⟩ ⟨xs, sq, over⟩
    obtain ⟨its, vals, pl, _⟩ := I.list sq
    obtain ⟨f0, f1, f2, f3, f4, f5⟩ := fr it (List.mem_cons_of_mem _ List.mem_cons_self)
    have none' : its.toArray[i]? = none := by
      have hlen := vals.length
      simp
      omega
    have D : Draws X.prog X.w X.A.in1 it [it, a] i (fun _ _ => True) (fun j h => j = i ∧ h.IsListIter it a i ∧ h.IsList a its.toArray) :=
      ⟨fun j h st => let ⟨o, ho, _⟩ := st.2.1; ⟨o, ho⟩, fun j h h' st kp => ⟨st.1, st.2.1.at fun o q => kp it List.mem_cons_self o q, st.2.2.at fun o q => kp a (List.mem_cons_of_mem _ List.mem_cons_self) o q⟩,
        fun j s Q E lt st _ => absurd st.1 (Nat.ne_of_lt lt), fun s Q E st hE => wpAny_nextOf_list_end (I.ok.hd calm) st.2.1 st.2.2 none' hE⟩
    refine wpAny_pyNext_enum_endD D g ⟨rfl, hi, pl.isList⟩ fun h' but => ⟨rfl, ?_⟩
    exact I.turned (t' := s.toks) (fun b o nb q => but b o nb q) f0 f1 f3 f4 f5
  self := fun A i s Q E st h => by
    obtain ⟨⟨_, g⟩, _⟩ := st
    exact wpAny_pyIter_enum g h
theorem callWith_tyK {M : Model} {A : Around} {E : Value → Shared → Prop} {s : Shared} {pos : Pos} {T : String} {args : List (Bool × Sem Value)} {kws : List (Option Str × Sem Value)} {Q : Value → Shared → Prop} (hpl : (args.any (·.1) || kws.any (·.1.isNone)) = false)
    (h : wpAny M A (evalArgs (.type T) true args kws) (fun a s1 => wpAny M A (call (.type T) a.pos a.kw) Q E s1) E s) : wpAny M A (callWith pos (.type T) [] args kws) Q E s := by
  unfold callWith
  refine wpAny_bind (wpAny_holding (wpAny_mono h (fun a s1 z => wpAny_bind (wpAny_standAt ?_)) fun _ _ x => x))
  simp only [hpl, Bool.false_eq_true, if_false]
  refine wpAny_bind (wpAny_pure ?_)
  exact wpAny_bind (wpAny_mono z (fun r s2 hr => wpAny_bind (wpAny_holding (wpAny_point (wpAny_pure hr)))) fun _ _ x => x)
def iEnumS (K : PySem.W.Frag) (k0 : Nat) (ta : TA) : TI := fun σ H R => ta σ H fun vs H1 => ∃ a xs, vs = [.ref a] ∧ SqL K H1 a xs ∧ R (IteS K k0 a) H1
theorem pi_enumS {X : Cx} {e : Expr} {ta : TA} {p pos tpos : Pos} {elts : List Expr} {kk : Nat} {kws : List Keyword} (hg : Gl X "enumerate") (hm : X.mg "enumerate" = none) (ha : PA X [e] ta) (hkw : PK X kws (tCons (tC (.int 1)) tNil))
    (hks : (backToKw pos (keywordEach kws X.env)).filterMap (·.1) = [Str.ofString "start"] := by rfl) (hall : (backToKw pos (keywordEach kws X.env)).all (·.1.isSome) = true := by rfl) (hs : starEach [e] X.env = (false, eval e X.env) :: starEach [] X.env := by rfl)
    (hpl : ((backTo pos (starEach [e] X.env)).any (·.1) || (backToKw pos (keywordEach kws X.env)).any (·.1.isNone)) = false := by rfl) :
    PI X (.Tuple elts kk tpos) (.Call (.Name "enumerate" p) [e] kws pos) (iEnumS X.K 1 ta) := by
  refine ⟨fun pins s σ H R I h => ?_⟩
  refine wpAny_Call_Name_kw (ld_blt I hg hm boot_enumerate ?_)
  refine callWith_tyK hpl (PyProof.Rows.evalArgs_kw2 hall (thn (ha.run pos pins s σ H _ I h) fun us s1 ⟨vs, H1, I1, r1, a, xs, ev, sq, q⟩ => thn (hkw.run pos pins s1 σ H1 (fun zs H2 => zs = [.int 1] ∧ H2 = H1) I1 ⟨rfl, rfl⟩) fun ws s2 ⟨zs, H2, I2, r2, ez, eH⟩ => ?_) hs)
  subst ev ez eH
  rw [hks]
  cases r1 with
  | cons ra rb =>
    cases rb
    cases ra
    cases r2 with
    | cons rc rd =>
      cases rd
      obtain ⟨t, rfl⟩ := rc
      obtain ⟨its, rv, pl, _⟩ := I2.list sq
      show wpAny _ _ (call (.type "enumerate") [.ref a] [(Str.ofString "start", .int 1 t)]) _ _ _
      refine enum_begins_start (begins_list a its.toArray) pl.isList (by decide) (by decide) fun h' he hit hsz hk => wpAny_pyIter_enum he ?_
      have I3 : Inv X pins σ H2 { s2 with heap := h' } := I2.kept (t' := s2.toks) hk
      refine ⟨s2.heap.objs.size + 1, [s2.heap.objs.size + 1, s2.heap.objs.size], _, _, H2, rfl, I3, turn_enumS 1 a (s2.heap.objs.size + 1) s2.heap.objs.size, ⟨⟨.none, he⟩, ⟨_, hit, rfl, rfl⟩, Nat.succ_ne_self _⟩, fun b hb => ?_, q⟩
      have up : s2.heap.objs.size ≤ b := by
        rcases List.mem_cons.mp hb with z | z
        · rw [z]
          exact Nat.le_succ _
        · exact Nat.le_of_eq (List.mem_singleton.mp z).symm
      exact I2.fpOk up (I2.hok.fresh up)
end L2.EnumS
set_option Elab.async false
set_option linter.all false
set_option maxRecDepth 100000
set_option maxHeartbeats 4000000
/-! facts_told. -/
namespace L2.LawH
open PySem PySem.Spec PyProof.Rows L2.TxtSet TL L2.NSet L2.EnumS
abbrev sFactsTold : Stmt := top 15
/-- a fact as data, and the order of facts -/
def facD (c : Str × List Str) : PyData := .tuple ((c.1 :: c.2).map PyData.str)
def fle (a b : Str × List Str) : Bool := !PySem.W.dataLt (facD b) (facD a)
def over (acc : List (Str × List Str)) (c : Str × List Str) : Bool := match acc.getLast? with
  | none => false
  | some l => fle c l
/-- the facts that lines tell, or the first wrong line -/
def go : List Str → List (Str × List Str) → Nat → Sum Nat (List (Str × List Str))
  | [], acc, _ => .inr acc
  | z :: zs, acc, n => match rdF z with
    | none => .inl n
    | some c => if over acc c = true then .inl n else go zs (acc ++ [c]) (n + 1)
theorem rdF_no {z : Str} (h : rdOk z = none) : rdF z = none := by
  unfold rdOk at h
  unfold rdF
  cases e : cutP z with
  | none => rfl
  | some q =>
    obtain ⟨a, i⟩ := q
    rw [e] at h
    dsimp only at h ⊢
    by_cases c : patB (.str a :: (terms i).map V.str) = true
    · rw [if_pos c] at h
      cases h
    · rw [if_neg]
      intro f
      unfold factB at f
      rw [Bool.and_eq_true] at f
      exact c f.1
theorem rdF_of {z a : Str} {ts : List Str} (h : rdOk z = some (a, ts)) : rdF z = if factB (.str a :: ts.map V.str) = true then some (a, ts) else none := by
  unfold rdOk at h
  unfold rdF
  cases e : cutP z with
  | none =>
    rw [e] at h
    cases h
  | some q =>
    obtain ⟨b, i⟩ := q
    rw [e] at h
    dsimp only at h ⊢
    by_cases c : patB (.str b :: (terms i).map V.str) = true
    · rw [if_pos c] at h
      have h2 := Option.some.inj h
      injection h2 with h3 h4
      subst h3 h4
      rfl
    · rw [if_neg c] at h
      cases h
theorem rdF_fact {z : Str} {c : Str × List Str} (h : rdF z = some c) : factB (.str c.1 :: c.2.map V.str) = true := by
  unfold rdF at h
  cases e : cutP z with
  | none =>
    rw [e] at h
    cases h
  | some q =>
    obtain ⟨b, i⟩ := q
    rw [e] at h
    dsimp only at h
    by_cases f : factB (.str b :: (terms i).map V.str) = true
    · rw [if_pos f] at h
      have h2 := Option.some.inj h
      rw [← h2]
      exact f
    · rw [if_neg f] at h
      cases h
theorem rdOk_pat {z a : Str} {ts : List Str} (h : rdOk z = some (a, ts)) : patB (.str a :: ts.map V.str) = true := by
  unfold rdOk at h
  cases e : cutP z with
  | none =>
    rw [e] at h
    cases h
  | some q =>
    obtain ⟨b, i⟩ := q
    rw [e] at h
    dsimp only at h
    by_cases c : patB (.str b :: (terms i).map V.str) = true
    · rw [if_pos c] at h
      have h2 := Option.some.inj h
      injection h2 with h3 h4
      rw [← h3, ← h4]
      exact c
    · rw [if_neg c] at h
      cases h
/-- a text that may be read -/
def Rdb (z : Str) : Prop := z.length ≤ 1000 ∧ ∀ c ∈ tl z, c < 0x110000
def spFT (C : Addr) : Sp := fun vs H Q E => ∃ (q : Addr) (zs : List Str), vs = [.ref q] ∧ H q = some (.lst (zs.map V.str)) ∧ zs.length ≤ 1000 ∧ (∀ z ∈ zs, Rdb z) ∧
  (∀ n, go zs [] 1 = .inl n → ∀ (H' : Hp) (d : Addr), Same H H' → H d = none → H' d = some (.xd [("line", .int (n : Nat))]) → E (.ref C) (some d) H') ∧
  (∀ cs, go zs [] 1 = .inr cs → ∀ (H' : Hp) (l : Addr) (Fs : List Pt), Same H H' → H l = none → H' l = some (.lst (Fs.map fun x => V.ref x.1)) → (∀ x ∈ Fs, H' x.1 = some (.tup (ptV x))) → Fs.map (·.2) = cs → Q (.ref l) H')
section
variable {P : Program} {w : World} {K : PySem.W.Frag} {mg : Str → Option Value} {base : Heap}
theorem walk_enumS {K : PySem.W.Frag} {a : Addr} {xs : List V} {k0 : Nat} : L2.Walk (IteS K k0 a) xs.length (fun H => SqL K H a xs) (YPair (fun i => some (.int ((k0 + i : Nat) : Int))) (fun i => xs[i]?)) := by
  refine ⟨fun i _ lt q => ⟨xs, xs[i], q, by simp [lt]⟩, fun _ q => ⟨xs, q, Nat.le_refl _⟩, fun i H v H' _ q y => ?_⟩
  obtain ⟨T, x, y1, y2, y3, y4⟩ := y
  exact ⟨T, _, x, y1, y2, y3, rfl, y4 xs q⟩
/-- BadLine(n) is on its way -/
theorem mk_line {C : Addr} {H H1 : Hp} {Q : XK} {n : Int} (s : Same H H1) (k : ∀ (H' : Hp) (d : Addr), Same H H' → H d = none → H' d = some (.xd [("line", .int n)]) → Q (.ref C) (some d) H') : ∀ a, H1 a = none →
    spBL C [.ref a, .int n] (upd H1 a (exo a C none)) (fun v H2 => v = .non ∧ ∃ (d : Addr) (fs : List (Str × V)), H2 a = some (exo a C (some d)) ∧ H2 d = some (exd d fs) ∧ H1 d = none ∧ Q (.ref C) (some d) (upd (del H2 a) d (.xd fs))) (fun _ _ _ => False) := fun a na => by
  refine ⟨a, n, rfl, upd_same, fun dx nd ne => ⟨rfl, dx, [("line", .int n)], upd_same, ?_, ?_, ?_⟩⟩
  · rw [upd_ne ne, upd_same]
  · rw [upd_ne ne] at nd
    exact nd
  · rw [upd_ne ne] at nd
    have old : ∀ b o, H b = some o → b ≠ a ∧ b ≠ dx := fun b o h => by
      have h1 := s _ _ h
      refine ⟨fun e => ?_, fun e => ?_⟩
      · rw [e, na] at h1
        cases h1
      · rw [e, nd] at h1
        cases h1
    refine k _ dx (fun b o h => ?_) ?_ upd_same
    · obtain ⟨n1, n2⟩ := old b o h
      rw [upd_ne n2, del_ne n1, upd_ne n1, upd_ne n2, upd_ne n1]
      exact s _ _ h
    · cases e : H dx with
      | none => rfl
      | some o =>
        rw [s _ _ e] at nd
        cases nd
theorem dp_fact {K : PySem.W.Frag} {H : Hp} {p : Addr} {c : Str × List Str} (h : H p = some (.tup ((c.1 :: c.2).map V.str))) : Dp K H (.ref p) (facD c) := .tup (SqT.of h) (dp_texts (c.1 :: c.2))
theorem alike_fact (a b : Str × List Str) : PySem.W.alike (facD a) (facD b) = true := by
  unfold facD
  rw [PySem.W.alike]
  exact alike_texts _ _
theorem depth_fact (a : Str × List Str) : (facD a).depth ≤ 1 := by
  unfold facD
  rw [PyData.depth, ddepth_texts]
  exact Nat.le_refl _
theorem over_snoc (acc : List (Str × List Str)) (l c : Str × List Str) : over (acc ++ [l]) c = fle c l := by
  unfold over
  rw [List.getLast?_append]
  rfl
abbrev nFT : List Str := ["lines", "facts", "number", "line", "fact"]
theorem scFT : FnScope nFT ["lines"] (defScope sFactsTold) := ⟨rfl, rfl, rfl, by decide +kernel, rfl, by decide +kernel, by decide +kernel⟩
theorem ok_FT {f fR fF fI C : Addr} {fd fdR fdF fdI : FuncData} (F : Fun K "facts_told" "facts_told" sFactsTold f fd)
    (GR : FnOk P w K mg base CX0 4 fR fdR ["text"] spRd) (kR : PySem.W.keepIn K (.ref fR) = true) (bR : Binds K fdR ["text"] []) (mR : mg "read_pattern" = some (.ref fR))
    (GF : FnOk P w K mg base CX0 4 fF fdF ["value"] (spIsP K factB)) (kF : PySem.W.keepIn K (.ref fF) = true) (bF : Binds K fdF ["value"] []) (mF : mg "is_fact" = some (.ref fF))
    (T : OexC K C) (iC : PySem.W.findIn K (.ref C) "__init__" = some (some (.ref fI))) (tI : PySem.W.typeIn K (.ref fI) = some (.type "function")) (GI : FnOk P w K mg base CX0 1 fI fdI ["self", "line"] (spBL C)) (bI : Binds K fdI ["self", "line"] []) (mC : mg "BadLine" = some (.ref C))
    (me : mg "enumerate" = none) : FnOk P w K mg base (L2.CX P w) 5 f fd ["lines"] (spFT C) := by
  refine F.okX scFT (fun vs H Q E h => ?_) (fun cdv A outer s H vs Q E hr h => ?_)
  · obtain ⟨q, zs, rfl, _⟩ := h
    rfl
  · obtain ⟨q, zs, rfl, hq, few, rdb, kE, kS⟩ := h
    have hr2 : Room 2 _ := hr.mono (by decide)
    have hu := hr.units
    refine ⟨_, pss_cons (ps_set (i := 1) scFT.nd rfl (Or.inl rfl) (pe_lst pa_nil))
      (pss_cons (ps_for (passes_of rfl) rfl (pi_enumS (by rfl) me (pa_cons (pv 0) pa_nil) (pk_cons pe_int pk_nil)) (pg_tup rfl (pgs_cons (pg_name (i := 2) scFT.nd rfl (.inl rfl)) (pgs_cons (pg_name (i := 3) scFT.nd rfl (.inl rfl)) pgs_nil)))
        (pss_cons (ps_set (i := 4) scFT.nd rfl (Or.inl rfl) (pe_call GR hr (by rfl) mR kR bR .nil pass0 (pa_cons (pv 3) pa_nil)))
        (pss_cons (ps_if (PW.pt (pw_or (pt_not (pt_val (pe_call GF hr (by rfl) mF kF bF .nil pass0 (pa_cons (pv 4) pa_nil))))
            (pw_or1 (PW.pt (pw_and (pt_truth (pv 1) (by intro _; rfl)) (pw_and1 (pt_cmpR (op_leD (K := K) rfl hu) (pv 4) (pe_ix ix_list (pv 1) (pe_un un_neg pe_int) (fun _ _ => rfl)) (nomark _))))))))
          (pss_one (ps_raise rfl (takes_of rfl rfl rfl rfl) (pmk_oex T iC tI GI hr2 bI .nil pass0 (by rfl) mC (pa_cons (pv 2) pa_nil)))) pss_nil)
        (pss_one (ps_expr (pe_bm PySem.F.plainAttrs_list PySem.F.slot_list_append PySem.F.type_list_append mt_append (pv 1) (pa_cons (pv 4) pa_nil)))))))
      (pss_one (ps_ret (pv 1)))), ?_⟩
    refine ⟨(by show 0 ≤ sizeLine; decide), fun D nD => ?_⟩
    have s0 : Same H (upd H D (.lst [])) := same_new nD
    have hD0 : (upd H D (.lst [])) D = some (.lst []) := upd_same
    generalize upd H D (.lst []) = H0 at s0 hD0 ⊢
    have qD : q ≠ D := ne_of_none hq nD
    refine ⟨_, rfl, q, _, rfl, SqL.of (s0 _ _ hq), ?_⟩
    refine for_it (walk_enumS (K := K) (xs := zs.map V.str)) (fun i σ H5 => ∃ (v2 v3 v4 : Option V) (Fs : List Pt), σ = [some (.ref q), some (.ref D), v2, v3, v4] ∧ H5 D = some (.lst (Fs.map fun x => V.ref x.1)) ∧ (∀ x ∈ Fs, H5 x.1 = some (.tup (ptV x)) ∧ x.1 ≠ D) ∧ Fs.length ≤ i ∧ go zs [] 1 = go (zs.drop i) (Fs.map (·.2)) (i + 1) ∧ (∀ b o, b ≠ D → H0 b = some o → H5 b = some o))
      ⟨none, none, none, [], rfl, hD0, fun x h => (nomatch h), Nat.le_refl _, rfl, fun _ _ _ h => h⟩ (fun i σ H5 hi p => let ⟨_, _, _, _, _, _, _, _, _, p6⟩ := p; SqL.of (p6 _ _ qD (s0 _ _ hq))) (fun i z σ H5 H6 hi p yy => ?_) (fun σ H5 p => ?_)
    · obtain ⟨v2, v3, v4, Fs, rfl, p1, p2, p3, p4, p5⟩ := p
      obtain ⟨T2, xx, yv, rfl, nT, rfl, ex, ey⟩ := yy
      obtain rfl := Option.some.inj ex
      have ey : (zs.map V.str)[i]? = some yv := ey
      rw [List.getElem?_map] at ey
      obtain ⟨y, hy, rfl⟩ := Option.map_eq_some_iff.mp ey
      have my := List.mem_of_getElem? hy
      have dr : zs.drop i = y :: zs.drop (i + 1) := by
        have lt : i < zs.length := (List.getElem?_eq_some_iff.mp hy).1
        rw [List.drop_eq_getElem_cons lt]
        have e : zs[i] = y := (List.getElem?_eq_some_iff.mp hy).2
        rw [e]
      rw [dr] at p4
      rw [List.length_map] at hi
      have s5 : ∀ b o, b ≠ D → H0 b = some o → (upd H5 T2 (.tup [.int ((1 + i : Nat) : Int), .str y])) b = some o := fun b o nb h => same_new nT _ _ (p5 b o nb h)
      have p1' := same_new (o := .tup [.int ((1 + i : Nat) : Int), .str y]) nT _ _ p1
      have p2' : ∀ x ∈ Fs, (upd H5 T2 (.tup [.int ((1 + i : Nat) : Int), .str y])) x.1 = some (.tup (ptV x)) ∧ x.1 ≠ D := fun x hx => ⟨same_new nT _ _ (p2 x hx).1, (p2 x hx).2⟩
      have hT : (upd H5 T2 (.tup [.int ((1 + i : Nat) : Int), .str y])) T2 = some (.tup [.int ((1 + i : Nat) : Int), .str y]) := upd_same
      generalize upd H5 T2 (.tup [.int ((1 + i : Nat) : Int), .str y]) = H6 at s5 p1' p2' hT ⊢
      have s06 : Same H H6 := fun b o h => s5 b o (ne_of_none h nD) (s0 _ _ h)
      refine ⟨T2, _, rfl, SqT.of hT, rfl, _, _, rfl, _, _, rfl, rfl, ?_⟩
      have wrong : go zs [] 1 = .inl (1 + i) → ∀ (H7 : Hp), Same H6 H7 → ∀ a, H7 a = none → spBL C [.ref a, .int ((1 + i : Nat) : Int)] (upd H7 a (exo a C none)) (fun v H2 => v = .non ∧ ∃ (d : Addr) (fs : List (Str × V)), H2 a = some (exo a C (some d)) ∧ H2 d = some (exd d fs) ∧ H7 d = none ∧ E (.ref C) (some d) (upd (del H2 a) d (.xd fs))) (fun _ _ _ => False) := fun g H7 s7 =>
        mk_line (fun b o h => s7 _ _ (s06 _ _ h)) fun H' d s' nd hd => kE _ g H' d s' nd hd
      obtain ⟨ly, cy⟩ := rdb y my
      refine ⟨_, rfl, y, rfl, ly, cy, fun hn H7 s7 => ?_, fun a ts hs p H7 s7 np hp => ?_⟩
      · have g : go zs [] 1 = .inl (1 + i) := by
          rw [p4, go, rdF_no hn, Nat.add_comm]
        refine ⟨_, rfl, .non, rfl, .inr ⟨⟨"NoneType", .base .non, by decide +kernel⟩, fun H8 s8 => ⟨false, rfl, iteT ?_⟩⟩⟩
        exact ⟨_, rfl, (by show 1 ≤ 1000; decide), wrong g H8 (s7.trans s8)⟩
      · have rf := rdF_of hs
        have bd := pat_bd (rdOk_pat hs)
        refine ⟨_, rfl, .ref p, rfl, .inl ⟨p, _, rfl, hp, ?_, fun v hv => ?_, fun H8 s8 => ⟨_, rfl, ?_⟩⟩⟩
        · rw [List.length_cons, List.length_map]
          omega
        · rcases List.mem_cons.mp hv with rfl | hv
          · exact .inl ⟨_, rfl, by omega⟩
          · obtain ⟨w2, hw2, rfl⟩ := List.mem_map.mp hv
            have := bd.2.2 w2 hw2
            exact .inl ⟨_, rfl, by omega⟩
        by_cases hf : factB (.str a :: ts.map V.str) = true
        case neg =>
          have hf' : factB (.str a :: ts.map V.str) = false := by simpa using hf
          rw [hf']
          have g : go zs [] 1 = .inl (1 + i) := by
            rw [p4, go, rf, if_neg hf, Nat.add_comm]
          refine iteT ?_
          exact ⟨_, rfl, (by show 1 ≤ 1000; decide), wrong g H8 (s7.trans s8)⟩
        rw [hf]
        rw [if_pos hf] at rf
        refine iteF ?_
        have s68 : Same H6 H8 := s7.trans s8
        have p1'' := s68 _ _ p1'
        have hp8 := s8 _ _ hp
        have pD : p ≠ D := fun e => by
          rw [e, p1'] at np
          cases np
        -- laid behind the others
        have put : over (Fs.map (·.2)) (a, ts) = false → ∀ (HZ : Hp), HZ = upd H8 D (.lst ((Fs.map fun x => V.ref x.1) ++ [V.ref p])) → ∃ (v2 v3 v4 : Option V) (Gs : List Pt), ([some (.ref q), some (.ref D), some (.int ((1 + i : Nat) : Int)), some (.str y), some (.ref p)] : St) = [some (.ref q), some (.ref D), v2, v3, v4] ∧ HZ D = some (.lst (Gs.map fun x => V.ref x.1)) ∧ (∀ x ∈ Gs, HZ x.1 = some (.tup (ptV x)) ∧ x.1 ≠ D) ∧ Gs.length ≤ i + 1 ∧
            go zs [] 1 = go (zs.drop (i + 1)) (Gs.map (·.2)) (i + 1 + 1) ∧ (∀ b o, b ≠ D → H0 b = some o → HZ b = some o) := fun ov HZ eZ => by
          subst eZ
          refine ⟨_, _, _, Fs ++ [(p, a, ts)], rfl, by rw [upd_same, List.map_append]; rfl, fun x hx => ?_, by rw [List.length_append]; show Fs.length + 1 ≤ _; omega, ?_, fun b o nb h => ?_⟩
          · rcases List.mem_append.mp hx with hx | hx
            · obtain ⟨c1, c2⟩ := p2' x hx
              exact ⟨by rw [upd_ne c2]; exact s68 _ _ c1, c2⟩
            · rw [List.mem_singleton.mp hx]
              exact ⟨by rw [upd_ne pD]; exact hp8, pD⟩
          · rw [p4, go, rf]
            dsimp only
            rw [ov, if_neg Bool.false_ne_true, List.map_append]
            rfl
          · rw [upd_ne nb]
            exact s68 _ _ (s5 b o nb h)
        refine ⟨_, rfl, _, .inl ⟨_, SqL.of p1'', rfl⟩, ?_⟩
        rcases List.eq_nil_or_concat Fs with e | ⟨G, lst, e⟩
        · subst e
          refine iteF ?_
          refine iteF ?_
          exact ⟨_, rfl, .inl ⟨rfl, _, SqL.of p1''⟩, _, rfl, D, _, _, rfl, rfl, p1'', by show 0 < sizeLine; rw [sizeLine_eq]; decide, put rfl _ rfl⟩
        · rw [List.concat_eq_append] at e
          have ne : (!(Fs.map fun x => V.ref x.1).isEmpty) = true := by
            rw [e]
            simp
          rw [ne]
          refine iteT ?_
          have mL : lst ∈ Fs := by
            rw [e]
            simp
          have at9 : atI (Fs.map fun x => V.ref x.1) (-1) = some (V.ref lst.1) := by
            rw [e, List.map_append]
            exact atI_last _ _
          have ov : over (Fs.map (·.2)) (a, ts) = fle (a, ts) lst.2 := by
            rw [e, List.map_append]
            exact over_snoc _ _ _
          refine ⟨_, rfl, _, rfl, 1, rfl, D, _, -1, _, rfl, rfl, SqL.of p1'', at9, facD (a, ts), facD lst.2, dp_fact hp8, dp_fact (s68 _ _ (p2' lst mL).1), alike_fact _ _, (fun z => by unfold facD at z; cases z), ?_, _, rfl, ?_⟩
          · have := depth_fact (a, ts)
            omega
          have eo : (!PySem.W.dataLt (facD lst.2) (facD (a, ts))) = over (Fs.map (·.2)) (a, ts) := ov.symm
          rw [eo]
          cases c : over (Fs.map (·.2)) (a, ts) with
          | true =>
            refine iteT ?_
            have g : go zs [] 1 = .inl (1 + i) := by
              rw [p4, go, rf]
              dsimp only
              rw [c, if_pos rfl, Nat.add_comm]
            exact ⟨_, rfl, (by show 1 ≤ 1000; decide), wrong g H8 s68⟩
          | false =>
            refine iteF ?_
            exact ⟨_, rfl, .inl ⟨rfl, _, SqL.of p1''⟩, _, rfl, D, _, _, rfl, rfl, p1'', by rw [List.length_map, sizeLine_eq]; omega, put c _ rfl⟩
    · obtain ⟨v2, v3, v4, Fs, rfl, p1, p2, p3, p4, p5⟩ := p
      have e : zs.drop (zs.map V.str).length = [] := by
        rw [List.length_map]
        exact List.drop_length
      rw [e] at p4
      exact ⟨_, rfl, kS _ p4 H5 D Fs (fun b o h => p5 b o (ne_of_none h nD) (s0 _ _ h)) nD p1 (fun x hx => (p2 x hx).1) rfl⟩
end
end L2.LawH
set_option Elab.async false
set_option linter.all false
set_option maxRecDepth 100000
set_option maxHeartbeats 4000000
/-! Store.read. -/
namespace L2.ClsCall
open PySem PySem.Spec PyProof.Rows ClX
section
variable {X : Cx} {CX : CXT} {k n : Nat} {C p g f : Addr} {mc : Value} {sp : Sp} {E : St → XK} {o e : Expr} {es : List Expr} {m x : Str} {pos apos np : Pos} {ta : TE} {t tk : TA} {pl : Sem Bool} {fd : FuncData} {ps ks : List Str} {kws : List Keyword}
theorem run_cmA {q : Addr} {pins : List (Addr × Obj)} {σ : St} {H : Hp} {s : Shared} {Q : VK} {E1 : XK} {us : List Value} {kw : List (Str × Value)} {zs : List Value} {ws : List V} (F : FnOk X.prog X.w X.K X.mg X.base CX k g fd ps sp) (hr : Room k X.A)
    (hb : BindsTo s fd ⟨.ref C :: us, kw⟩ (ps.zip zs)) (hx : PassesAt CX X σ E1) (I : Inv X ((q, PySem.W.methodObj (.ref g) (.ref C)) :: pins) σ H s) (r : Vals ws zs) (h : sp ws H Q E1) :
    wpAny (model X.prog X.w) X.A (call (.ref q) us kw) (EP X pins σ Q) X.xe s := by
  have z : wpAny (model X.prog X.w) X.A (call (.ref q) us kw) (EP X ((q, PySem.W.methodObj (.ref g) (.ref C)) :: pins) σ Q) X.xe s := by
    refine wpAny_call (PySem.W.method_call (pin_at I) (codeAny_mono (F.run X.A X.stack s H ⟨.ref C :: us, kw⟩ zs ws Q E1 hr I.env0 hb r h) fun r s' hq => ?_))
    cases r with
    | error e => exact hx _ H s e s' I hq
    | ok fl =>
      cases fl with
      | ret u => exact I.after hq
      | next => exact False.elim hq
      | brk => exact False.elim hq
      | cont => exact False.elim hq
  exact thn z fun _ _ y => unpinE y
/-- C.m(e, ..), m a classmethod; what it raises may tell of the slots -/
def tCMethS (C : Addr) (sp : Sp) (E : St → XK) (ta : TE) (t : TA) : TE := fun σ H Q => ta σ H fun x H1 => x = .ref C ∧ t σ H1 fun vs H2 => sp (.ref C :: vs) H2 Q (E σ)
theorem pe_cmethS (he : PE X o ta) (r : CRead X.K C mc) (c : CMet X.K C mc m p g) (F : FnOk X.prog X.w X.K X.mg X.base CX k g fd ps sp) (hr : Room k X.A) (hb : Binds X.K fd ps []) (hx : ∀ σ, PassesAt CX X σ (E σ)) (ha : PA X (e :: es) t)
    (hst : starEach (e :: es) X.env = (false, eval e X.env) :: starEach es X.env := by rfl) (hpl : (backTo pos (starEach es X.env)).any (·.1) = false := by rfl)
    (ht : eval (.Call (.Attribute o m apos) (e :: es) [] pos) X.env = (do
      let ov ← eval o X.env
      standAt apos.atName
      let (f, first) ← holding [ov] (getMethod ov m pl)
      callWith pos f first (backTo pos (starEach (e :: es) X.env)) (backToKw pos (keywordEach [] X.env))) := by rfl) :
    PE X (.Call (.Attribute o m apos) (e :: es) [] pos) (tCMethS C sp E ta t) := by
  refine ⟨fun pins s σ H Q I h => PySem.W.methodCall_KW (pl := pl) (thn (he.run pins s σ H _ I h) fun u s1 ⟨x, H1, I1, rx, ex, q⟩ => ?_) ht⟩
  subst ex
  cases rx
  refine getmethcm_ok I1 r c fun s2 I2 => ?_
  refine callwith_cm I2 (base_none I1 (Nat.le_refl _)) c.fi (thn (ha.run pos _ s2 σ H1 _ I2 q) fun us s3 ⟨vs, H2, I3, rv, q2⟩ => ⟨⟨pin_at I3, I3.kIn⟩, ?_⟩) hst hpl
  have r2 : Vals (V.ref C :: vs) (Value.ref C :: us) := .cons rfl rv
  have hl : (Value.ref C :: us).length = ps.length := by rw [← r2.length]; exact F.len _ _ _ _ q2
  have b := hb s3 (Value.ref C :: us) I3.kIn (by rw [List.append_nil]; exact hl)
  rw [List.append_nil] at b
  exact run_cmA F hr b (hx σ) I3 r2 q2
/-- C.m(k = v, ..) -/
def tCMethK (C : Addr) (n : Nat) (sp : Sp) (gV : List V → List V → List V) (E : St → XK) (ta : TE) (tk : TA) : TE := fun σ H Q => ta σ H fun x H1 => x = .ref C ∧ tk σ H1 fun zs H2 => zs.length = n ∧ sp (gV [.ref C] zs) H2 Q (E σ)
theorem pe_cmethK {g1 : List Value → List Value → List Value} {gV : List V → List V → List V} (he : PE X o ta) (r : CRead X.K C mc) (c : CMet X.K C mc m p g) (F : FnOk X.prog X.w X.K X.mg X.base CX k g fd ps sp) (hr : Room k X.A) (hb : KBn X.K fd ps 1 ks g1 gV) (hx : ∀ σ, PassesAt CX X σ (E σ)) (hkw : PK X kws tk)
    (hall : (backToKw pos (keywordEach kws X.env)).all (·.1.isSome) = true := by rfl) (hks : (backToKw pos (keywordEach kws X.env)).filterMap (·.1) = ks := by rfl)
    (hpl : ((backTo pos (starEach [] X.env)).any (·.1) || (backToKw pos (keywordEach kws X.env)).any (·.1.isNone)) = false := by rfl)
    (ht : eval (.Call (.Attribute o m apos) [] kws pos) X.env = (do
      let ov ← eval o X.env
      standAt apos.atName
      let (f, first) ← holding [ov] (getMethod ov m pl)
      callWith pos f first (backTo pos (starEach [] X.env)) (backToKw pos (keywordEach kws X.env))) := by rfl) :
    PE X (.Call (.Attribute o m apos) [] kws pos) (tCMethK C ks.length sp gV E ta tk) := by
  refine ⟨fun pins s σ H Q I h => PySem.W.methodCall_KW (pl := pl) (thn (he.run pins s σ H _ I h) fun u s1 ⟨x, H1, I1, rx, ex, q⟩ => ?_) ht⟩
  subst ex
  cases rx
  refine getmethcm_ok I1 r c fun s2 I2 => ?_
  refine PySem.W.callWith_of (P := PySem.W.MethP X.K s1.heap.objs.size g (.ref C)) hpl (PySem.W.keeps_M c.fi) (PyProof.Rows.evalArgs_kw2_nil hall (thn (hkw.run pos _ s2 σ H1 _ I2 q) fun ws s3 ⟨zs, H2, I3, rz, lz, q2⟩ => ⟨⟨pin_at I3, I3.kIn⟩, ?_⟩))
  rw [hks]
  have b := hb.to s3 [Value.ref C] ws I3.kIn rfl (rz.length.symm.trans lz)
  exact run_cmA (us := []) F hr b (hx σ) I3 (hb.rel (show Vals [V.ref C] [Value.ref C] from .cons rfl .nil) rz) q2
/-- a class in a slot is called -/
def tMakeV (i : Nat) (C : Addr) (sp : Sp) (t : TA) : TE := fun σ H Q => σ[i]? = some (some (.ref C)) ∧ tMake C sp [] E0 t σ H Q
theorem pe_makeV {i : Nat} (hN : X.N[i]? = some x) (hv : Vis X.env.scope x) (M : Mk X.K C f) (F : FnOk X.prog X.w X.K X.mg X.base CX0 k f fd ps sp) (hr : Room (k + 1) X.A) (hb : Binds X.K fd ps []) (ha : PA X (e :: es) t)
    (hd : (x == ("__debug__" : Str)) = false := by decide) (hcd : (x == ("__classdict__" : Str)) = false := by decide) (he : starEach (e :: es) X.env = (false, eval e X.env) :: starEach es X.env := by rfl) (hpl : (backTo pos (starEach es X.env)).any (·.1) = false := by rfl) :
    PE X (.Call (.Name x np) (e :: es) [] pos) (tMakeV i C sp t) := by
  refine ⟨fun pins s σ H Q I h => ?_⟩
  obtain ⟨at_i, h⟩ := h
  refine wpAny_Call_Name_kw (thn ((pe_var (pos := np) hN hv hd hcd).run pins s σ H (fun v H1 => v = .ref C ∧ H1 = H) I ⟨.ref C, at_i, rfl, rfl⟩) fun u s1 ⟨v, H1, I1, r1, q1⟩ => ?_)
  obtain ⟨rfl, rfl⟩ := q1
  cases r1
  refine PySem.W.callWith_K (h₀ := X.base) I.ok.mod.kin M.kp (thn (ha.run pos pins s1 σ _ _ I1 h) fun us s2 ⟨vs, H2, I2, r, q⟩ => ⟨I2.kIn, ?_⟩) he hpl
  exact run_make M F hr hb .nil pass0 I2 r q
end
end L2.ClsCall
set_option Elab.async false
set_option linter.all false
set_option maxRecDepth 100000
set_option maxHeartbeats 4000000
/-! Store.read. -/
namespace L2.LawH
open PySem PySem.Spec PyProof.Rows L2.TxtSet TL L2.NSet L2.ClsCall ClX
abbrev sReadS : Stmt := inClass (top 16) 14
theorem tl_nl : tl nlS = [10] := by decide +kernel
theorem nl_kind (i : Str) : ¬ Builtin.Str.strKind i < Builtin.Str.strKind nlS := kind_ok (by decide +kernel)
theorem split_nl (i : Str) : (Txt.split i nlS).map tl = spl [10] 0 [] (tl i) := by
  have h := split_spl i nlS (by rw [tl_nl]; simp) (nl_kind i)
  rw [tl_nl] at h
  exact h
theorem lns_join (i : Str) (h : i.length ≠ 0) : joinL [10] ((lns i).map tl) = tl i := by
  unfold lns
  rw [if_neg h, split_nl, join_spl]
  rfl
theorem lns_rdb {z y : Str} (h : Rdb z) (hy : y ∈ lns z) : Rdb y := by
  by_cases h0 : z.length = 0
  · unfold lns at hy
    rw [if_pos h0] at hy
    cases hy
  · have e := lns_join z h0
    have m : tl y ∈ (lns z).map tl := List.mem_map_of_mem hy
    refine ⟨?_, fun c hc => h.2 c ?_⟩
    · have := part_le 10 _ _ m
      rw [e, ← len_tl, ← len_tl] at this
      exact Nat.le_trans this h.1
    · have := part_mem 10 _ _ c m hc
      rw [e] at this
      exact this
theorem go_facts : ∀ (zs : List Str) (acc : List (Str × List Str)) (n : Nat) (cs : List (Str × List Str)), go zs acc n = .inr cs → (∀ c ∈ acc, factB (.str c.1 :: c.2.map V.str) = true) → (∀ c ∈ cs, factB (.str c.1 :: c.2.map V.str) = true) ∧ cs.length ≤ acc.length + zs.length
  | [], acc, n, cs, h, ha => by
    rw [go] at h
    injection h with h
    rw [← h]
    exact ⟨ha, Nat.le_add_right _ _⟩
  | z :: zs, acc, n, cs, h, ha => by
    rw [go] at h
    cases e : rdF z with
    | none =>
      rw [e] at h
      cases h
    | some c =>
      rw [e] at h
      dsimp only at h
      by_cases o : over acc c = true
      · rw [if_pos o] at h
        cases h
      · rw [if_neg o] at h
        obtain ⟨g1, g2⟩ := go_facts zs _ _ _ h fun d hd => by
          rcases List.mem_append.mp hd with hd | hd
          · exact ha d hd
          · rw [List.mem_singleton.mp hd]
            exact rdF_fact e
        refine ⟨g1, ?_⟩
        rw [List.length_append] at g2
        rw [List.length_cons]
        have : [c].length = 1 := rfl
        omega
theorem none_ext {H H' : Hp} {a : Addr} (s : Same H H') (n : H' a = none) : H a = none := by
  cases h : H a with
  | none => rfl
  | some o => rw [s _ _ h] at n; cases n
def spReadS (S B : Addr) : Sp := fun vs H Q E => ∃ z : Str, vs = [.ref S, .str z] ∧ Rdb z ∧ (lns z).length ≤ 60 ∧
  (∀ n, go (lns z) [] 1 = .inl n → ∀ (H' : Hp) (d : Addr), Same H H' → H d = none → H' d = some (.xd [("line", .int (n : Nat))]) → E (.ref B) (some d) H') ∧
  (∀ cs, go (lns z) [] 1 = .inr cs → ∀ (H' : Hp) (s : Addr) (M : List Pt), Same H H' → H s = none → StoreAt S H' s M → (∀ c, c ∈ M.map (·.2) ↔ c ∈ cs) → (M.map (·.2)).Nodup → Rise (fun x : Pt => (ptM x).2.data) M → Q (.ref s) H')
section
variable {P : Program} {w : World} {K : PySem.W.Frag} {mg : Str → Option Value} {base : Heap}
theorem scRdS : FnScope ["cls", "text"] ["cls", "text"] (defScope sReadS) := ⟨rfl, rfl, rfl, by decide +kernel, rfl, by decide +kernel, by decide +kernel⟩
theorem ok_readS {f fT fL fI S B : Addr} {fd fdT fdL fdI : FuncData} (F : Fun K "read" "Store.read" sReadS f fd) (M : Mk K S fI) (GI : FnOk P w K mg base CX0 5 fI fdI ["self", "facts"] (spInitS S K)) (bI : Binds K fdI ["self", "facts"] [])
    (GT : FnOk P w K mg base (L2.CX P w) 5 fT fdT ["lines"] (spFT B)) (kT : PySem.W.keepIn K (.ref fT) = true) (bT : Binds K fdT ["lines"] []) (mT : mg "facts_told" = some (.ref fT))
    (GL : FnOk P w K mg base CX0 1 fL fdL ["text"] spLns) (kL : PySem.W.keepIn K (.ref fL) = true) (bL : Binds K fdL ["text"] []) (mL : mg "lines_of" = some (.ref fL)) :
    FnOk P w K mg base (L2.CX P w) 7 f fd ["cls", "text"] (spReadS S B) := by
  refine F.okX scRdS (fun vs H Q E h => ?_) (fun cdv A outer s H vs Q E hr h => ?_)
  · obtain ⟨z, rfl, _⟩ := h
    rfl
  · obtain ⟨z, rfl, rz, few, kE, kS⟩ := h
    have hr1 : Room 1 _ := hr.mono (by decide)
    have hr5 : Room 5 _ := hr.mono (by decide)
    refine ⟨_, pss_one (ps_ret (pe_makeV (i := 0) (by rfl) (.inl (by rfl)) M GI hr bI (pa_cons (pe_callS GT hr5 (by rfl) mT kT bT (fun σ => passAt (takes_of (E := E) rfl rfl rfl rfl) σ) (pa_cons (pe_call GL hr1 (by rfl) mL kL bL .nil pass0 (pa_cons (pv 1) pa_nil)) pa_nil)) pa_nil))), ?_⟩
    refine ⟨rfl, _, rfl, z, rfl, rz.1, fun H1 p s1 np hp => ?_⟩
    refine ⟨p, lns z, rfl, hp, by omega, fun y hy => lns_rdb rz hy, fun n g H' d s' nd hd => kE n g H' d (fun b o h => s' _ _ (s1 _ _ h)) (none_ext s1 nd) hd, fun cs g H2 l Fs s2 nl hl each eF => ?_⟩
    obtain ⟨fB, lc⟩ := go_facts _ _ _ _ g (fun c hc => nomatch hc)
    have lF : Fs.length = cs.length := by rw [← eF, List.length_map]
    have few2 : Fs.length < 63 := by
      rw [lF]
      have : ([] : List (Str × List Str)).length = 0 := rfl
      omega
    have memF : ∀ y ∈ Fs, factB (ptV y) = true := fun y hy => fB y.2 (by rw [← eF]; exact List.mem_map.mpr ⟨y, hy, rfl⟩)
    intro x dx nx ndx ne
    have sU : Same H2 (upd (upd H2 dx (.own x)) x (.ins S dx [])) := fun b o h => by
      rw [upd_ne (ne_of_none h nx), upd_ne (ne_of_none h ndx)]
      exact h
    have hxi : (upd (upd H2 dx (.own x)) x (.ins S dx [])) x = some (.ins S dx []) := upd_same
    generalize upd (upd H2 dx (.own x)) x (.ins S dx []) = H3 at sU hxi ⊢
    refine ⟨x, l, dx, Fs, rfl, hxi, .inl (SqL.of (sU _ _ hl)), fun y hy => ?_, few2, fun H4 t d M2 keep hp4 ht nt nd hd sub all nodup rise => ⟨rfl, ?_⟩⟩
    · have f := memF y hy
      have pb : patB (.str y.2.1 :: y.2.2.map V.str) = true := by
        unfold factB at f
        rw [Bool.and_eq_true] at f
        exact f.1
      have bd := pat_bd pb
      refine ⟨sU _ _ (each y hy), f, bd.2.1, fun v hv => ?_⟩
      rcases List.mem_cons.mp hv with rfl | hv
      · exact .inl ⟨_, rfl, by omega⟩
      · obtain ⟨w2, hw2, rfl⟩ := List.mem_map.mp hv
        have := bd.2.2 w2 hw2
        exact .inl ⟨_, rfl, by omega⟩
    · have s24 : Same H2 H4 := fun b o h => keep b o (fun e => by rw [e, nx] at h; cases h) (sU _ _ h)
      have s02 : Same H H2 := fun b o h => s2 _ _ (s1 _ _ h)
      refine kS cs g H4 x M2 (fun b o h => s24 _ _ (s02 _ _ h)) (none_ext s02 nx) ⟨dx, t, d, hp4, ht, fun y hy => s24 _ _ (each y (sub y hy))⟩ (fun c => ?_) nodup rise
      rw [← eF]
      constructor
      · intro h
        obtain ⟨y, hy, rfl⟩ := List.mem_map.mp h
        exact List.mem_map.mpr ⟨y, sub y hy, rfl⟩
      · intro h
        obtain ⟨y, hy, rfl⟩ := List.mem_map.mp h
        exact all y hy
end
end L2.LawH
set_option Elab.async false
set_option linter.all false
set_option maxRecDepth 100000
set_option maxHeartbeats 4000000
/-! Store.text and store.facts. -/
namespace L2.LawH
open PySem PySem.Spec PyProof.Rows L2.TxtSet TL L2.NSet
abbrev sTextS : Stmt := inClass (top 16) 13
abbrev sFactsS : Stmt := inClass (top 16) 1
theorem ptext_le {T : Str} {zs : List Str} (hT : T.length ≤ 12) (l3 : zs.length ≤ 3) (hz : ∀ z ∈ zs, z.length ≤ 13) : (ptext T zs).length ≤ 60 := by
  have c1 : (("," : String) : Str).length = 1 := by decide +kernel
  have c2 : (("(" : String) : Str).length = 1 := by decide +kernel
  have c3 : (((")" : String)) : Str).length = 1 := by decide +kernel
  have e0 : Str.empty.length = 0 := rfl
  have s1 := sum_le 13 zs hz
  have q := join_len "," zs
  rw [c1] at q
  have e : Txt.join "," zs = Str.join "," zs := StrLaws.glued_eq_join _ _
  unfold ptext
  rw [len_app, len_app, len_app, len_app, e0, c2, c3, e]
  have : zs.length * 13 ≤ 3 * 13 := Nat.mul_le_mul_right _ l3
  omega
theorem fact_bd {x : Pt} (h : factB (ptV x) = true) : x.2.1.length ≤ 12 ∧ x.2.2.length ≤ 3 ∧ ∀ y ∈ x.2.2, y.length ≤ 13 := by
  have pb : patB (.str x.2.1 :: x.2.2.map V.str) = true := by
    unfold factB at h
    rw [Bool.and_eq_true] at h
    exact h.1
  exact pat_bd pb
/-- the lines of a store, and its text -/
def linesS (M : List Pt) : List Str := M.map fun x => ptext x.2.1 x.2.2
theorem lines_bd {M : List Pt} (h : ∀ x ∈ M, factB (ptV x) = true) : ∀ z ∈ linesS M, z.length ≤ 60 := fun z hz => by
  obtain ⟨x, hx, rfl⟩ := List.mem_map.mp hz
  obtain ⟨b1, b2, b3⟩ := fact_bd (h x hx)
  exact ptext_le b1 b2 b3
theorem join_bd {zs : List Str} (h : ∀ z ∈ zs, z.length ≤ 60) : (Txt.join nlS zs).length ≤ zs.length * 61 := by
  have c1 : nlS.length = 1 := by decide +kernel
  have q := join_len nlS zs
  rw [c1] at q
  have e : Txt.join nlS zs = Str.join nlS zs := StrLaws.glued_eq_join _ _
  have s1 := sum_le 60 zs h
  rw [e]
  omega
def spTextS (S : Addr) : Sp := fun vs H Q _ => ∃ (s : Addr) (M : List Pt), vs = [.ref s] ∧ StoreAt S H s M ∧ M.length ≤ 60 ∧ (∀ x ∈ M, factB (ptV x) = true) ∧ ∀ H', Same H H' → Q (.str (Txt.join nlS (linesS M))) H'
section
variable {P : Program} {w : World} {K : PySem.W.Frag} {mg : Str → Option Value} {base : Heap}
abbrev nTx : List Str := ["self", "fact"]
theorem scTx : FnScope nTx ["self"] (defScope sTextS) := ⟨rfl, rfl, rfl, by decide +kernel, rfl, by decide +kernel, by decide +kernel⟩
theorem ok_textS {f fX S : Addr} {fd fdX : FuncData} (F : Fun K "text" "Store.text" sTextS f fd) (T : StT K mg S)
    (GX : FnOk P w K mg base CX0 1 fX fdX ["pattern"] spPtx) (kX : PySem.W.keepIn K (.ref fX) = true) (bX : Binds K fdX ["pattern"] []) (mX : mg "pattern_text" = some (.ref fX)) :
    FnOk P w K mg base CX0 2 f fd ["self"] (spTextS S) := by
  refine F.ok scTx (fun vs H Q E h => ?_) (fun cdv A outer s H vs Q E hr h => ?_)
  · obtain ⟨s, M, rfl, _⟩ := h
    rfl
  · obtain ⟨s, M, rfl, ⟨dx, t, d, h1, h2, h3⟩, few, fB, k⟩ := h
    have hr1 : Room 1 _ := hr.mono (by decide)
    refine ⟨_, pss_one (ps_ret (pe_join pe_str (pe_lc (own := [("fact", 1)]) (g := gName 1) (tt := tYes) rfl scTx.nd (pi_tup (pe_fld (pv 0) rfl))
      (blkOk_by (own := [("fact", 1)]) (N := nTx) (sc := defScope sTextS) (by decide +kernel)) (fun _ _ _ _ _ => pg_name (i := 1) scTx.nd rfl (Or.inl rfl)) (fun _ _ _ _ _ => pts_nil)
      (fun _ _ _ _ _ => pe_call GX hr1 (by rfl) mX kX bX .nil pass0 (pa_cons (pv 1) pa_nil))))), ?_⟩
    refine ⟨⟨_, rfl⟩, _, rfl, s, S, dx, _, .ref t, rfl, h1, T.cl, T.nF, rfl, t, rfl, ⟨_, SqT.of h2⟩, fun L nL => ?_⟩
    refine lc_tup (K := K) (a := t) (xs := M.map fun x => V.ref x.1) (fun i H5 => Same H H5 ∧ H5 L = some (.lst ((linesS (M.take i)).map V.str))) ⟨same_new nL, upd_same⟩ (fun i H5 _ p => SqT.of (p.1 _ _ h2)) (fun i z H5 hz p => ?_) (fun H5 p => ?_)
    · obtain ⟨p1, p2⟩ := p
      rw [List.getElem?_map] at hz
      obtain ⟨x, hx, rfl⟩ := Option.map_eq_some_iff.mp hz
      have mx := List.mem_of_getElem? hx
      obtain ⟨b1, b2, b3⟩ := fact_bd (fB x mx)
      refine ⟨rfl, ?_⟩
      dsimp only [tYes]
      rw [if_pos rfl]
      refine ⟨_, rfl, x.1, x.2.1, x.2.2, rfl, p1 _ _ (h3 x mx), by omega, by omega, fun y hy => by have := b3 y hy; omega, fun H6 s6 => ⟨_, s6 _ _ p2, ?_, fun b o h => ?_, ?_⟩⟩
      · unfold linesS
        rw [List.length_map, List.length_map, List.length_take, sizeLine_eq]
        omega
      · rw [upd_ne (ne_of_none h nL)]
        exact s6 _ _ (p1 _ _ h)
      · rw [upd_same]
        unfold linesS
        rw [List.take_succ, hx, List.map_append, List.map_append]
        rfl
    · obtain ⟨p1, p2⟩ := p
      rw [List.length_map, List.take_length] at p2
      have c1 : nlS.length = 1 := by decide +kernel
      have s1 := sum_le 60 (linesS M) (lines_bd fB)
      have ll : (linesS M).length = M.length := List.length_map _
      refine ⟨_, L, linesS M, rfl, rfl, .inl (SqL.of p2), ?_, k H5 p1⟩
      rw [show (Str.ofString "\n").length = 1 from c1]
      omega
theorem scFs : FnScope ["self"] ["self"] (defScope sFactsS) := ⟨rfl, rfl, rfl, by decide +kernel, rfl, by decide +kernel, by decide +kernel⟩
/-- what the property tells: the tuple itself -/
theorem ok_factsS {f S : Addr} {fd : FuncData} (F : Fun K "facts" "Store.facts" sFactsS f fd) (T : StT K mg S) : FnOk P w K mg base CX0 1 f fd ["self"] (getSp S "_facts") := by
  refine F.ok scFs (fun vs H Q E h => ?_) (fun cdv A outer s H vs Q E hr h => ?_)
  · obtain ⟨a, dx, fs, v, rfl, _⟩ := h
    rfl
  · obtain ⟨a, dx, fs, v, rfl, ha, l, q⟩ := h
    exact ⟨_, pss_one (ps_ret (pe_fld (pv 0) rfl)), _, rfl, a, S, dx, fs, v, rfl, ha, T.cl, T.nF, l, q⟩
end
end L2.LawH
set_option Elab.async false
set_option linter.all false
set_option maxRecDepth 100000
set_option maxHeartbeats 4000000
/-! _law_facts. -/
namespace L2.LawH
open PySem PySem.Spec PyProof.Rows L2.TxtSet TL L2.NSet
abbrev sLFacts : Stmt := top 25
theorem eqvAll_texts : ∀ a b : List Str, PyData.eqvAll (a.map PyData.str) (b.map PyData.str) = decide (a = b)
  | [], [] => by simp [PyData.eqvAll]
  | [], _ :: _ => by simp [PyData.eqvAll]
  | _ :: _, [] => by simp [PyData.eqvAll]
  | x :: a, y :: b => by
    rw [List.map_cons, List.map_cons, PyData.eqvAll, eqvAll_texts a b]
    by_cases h : x = y
    · subst h
      simp [PyData.eqv]
    · simp [PyData.eqv, h]
theorem eqv_fact (a b : Str × List Str) : PyData.eqv (facD a) (facD b) = decide (a = b) := by
  unfold facD
  rw [PyData.eqv, eqvAll_texts]
  refine decide_eq_decide.mpr ⟨fun h => ?_, fun h => by rw [h]⟩
  injection h with h1 h2
  exact Prod.ext h1 h2
theorem lay_texts : ∀ zs : List Str, PyData.canLayAll0 (zs.map PyData.str) = zs.all PyData.strOk
  | [] => by simp [PyData.canLayAll0]
  | z :: zs => by
    rw [List.map_cons, PyData.canLayAll0, lay_texts zs]
    simp [PyData.canLay0]
/-- a fact of names -/
structure Fct (c : Str × List Str) : Prop where
  nT : Nm c.1
  l3 : c.2.length ≤ 3
  nz : ∀ z ∈ c.2, Nm z
theorem lay_fact {c : Str × List Str} (h : Fct c) : (facD c).canLay0 = true := by
  unfold facD
  rw [PyData.canLay0, lay_texts, List.all_cons, h.nT.strOk, List.all_eq_true.mpr fun z hz => (h.nz z hz).strOk]
  rfl
theorem lay_facts : ∀ {cs : List (Str × List Str)}, (∀ c ∈ cs, Fct c) → PyData.canLayAll0 (cs.map facD) = true
  | [], _ => by simp [PyData.canLayAll0]
  | c :: cs, h => by
    rw [List.map_cons, PyData.canLayAll0, lay_fact (h c List.mem_cons_self), lay_facts fun d hd => h d (List.mem_cons_of_mem _ hd)]
    rfl
theorem depth_facts : ∀ cs : List (Str × List Str), PyData.depthAll (cs.map facD) ≤ 1
  | [] => by simp [PyData.depthAll]
  | c :: cs => by
    have a := depth_fact c
    have b := depth_facts cs
    rw [List.map_cons, PyData.depthAll]
    omega
theorem shaped_fact {c : Str × List Str} (h : Fct c) : SeqAt.shaped (facD c) = true := by
  unfold SeqAt.shaped
  rw [lay_fact h, Bool.true_and]
  exact decide_eq_true (Nat.le_trans (depth_fact c) (by decide))
theorem shaped_facts {cs : List (Str × List Str)} (h : ∀ c ∈ cs, Fct c) : SeqAt.shaped (.list (cs.map facD)) = true := by
  unfold SeqAt.shaped
  rw [PyData.canLay0, lay_facts h, Bool.true_and, PyData.depth]
  have := depth_facts cs
  exact decide_eq_true (by omega)
theorem dp_facts {K : PySem.W.Frag} {H : Hp} : ∀ {Fs : List Pt}, (∀ x ∈ Fs, H x.1 = some (.tup (ptV x))) → DpAll K H (Fs.map fun x => V.ref x.1) ((Fs.map (·.2)).map facD)
  | [], _ => .nil
  | x :: Fs, h => .cons (dp_fact (h x List.mem_cons_self)) (dp_facts fun y hy => h y (List.mem_cons_of_mem _ hy))
theorem any_fact (cs : List (Str × List Str)) (c : Str × List Str) : ((cs.map facD).any fun z => PyData.eqv z (facD c)) = decide (c ∈ cs) := by
  induction cs with
  | nil => rfl
  | cons d cs ih =>
    rw [List.map_cons, List.any_cons, ih, eqv_fact]
    by_cases e : d = c
    · simp [e]
    · have e2 : ¬ c = d := fun h => e h.symm
      simp [e, e2]
def spLFacts : Sp := fun vs H Q _ => ∃ (a p : Addr) (c : Int) (m n : Nat) (π : Pool), vs = [.ref a, .ref p, .int n] ∧ n ≤ 20 ∧ SrcAt H a c (m + 1 + 20 * n) ∧ PoolAt a H p π ∧
  ∀ (t : Addr) (Fs : List Pt) (H' : Hp), H' t = some (.lst (Fs.map fun x => V.ref x.1)) → t ≠ a → (∀ x ∈ Fs, H' x.1 = some (.tup (ptV x)) ∧ x.1 ≠ a ∧ Fct x.2) → (Fs.map (·.2)).Nodup → Rise (fun x : Pt => facD x.2) Fs → Fs.length ≤ n → SrcAt H' a c m → Keep a H H' → Q (.ref t) H'
section
variable {P : Program} {w : World} {K : PySem.W.Frag} {mg : Str → Option Value} {base : Heap}
theorem op_notInDK {X : Cx} {K : PySem.W.Frag} (e : X.K = K) (hu : X.A.units + 65 < cLine) : OpR X (compareOp .NotIn) (rNotInD K) := by
  subst e
  exact op_notInD hu
abbrev nLFa : List Str := ["_law_source_here", "_law_pool_here", "_law_most", "_law_found", "_law_k", "_law_fact"]
theorem scLFa : FnScope nLFa ["_law_source_here", "_law_pool_here", "_law_most"] (defScope sLFacts) := ⟨rfl, rfl, rfl, by decide +kernel, rfl, by decide +kernel, by decide +kernel⟩
theorem ok_lfacts {f fD fP : Addr} {fd fdD fdP : FuncData} (F : Fun K "_law_facts" "_law_facts" sLFacts f fd)
    (GD : FnOk P w K mg base CX0 1 fD fdD ["_law_source_here", "_law_limit"] spDraw) (kD : PySem.W.keepIn K (.ref fD) = true) (bD : Binds K fdD ["_law_source_here", "_law_limit"] []) (mD : mg "_law_draw" = some (.ref fD))
    (GP : FnOk P w K mg base CX0 3 fP fdP ["_law_source_here", "_law_pool_here", "_law_variables", "_law_share"] spPat) (kP : PySem.W.keepIn K (.ref fP) = true) (bP : Binds K fdP ["_law_source_here", "_law_pool_here", "_law_variables", "_law_share"] []) (mP : mg "_law_pattern" = some (.ref fP))
    (mr : mg "range" = none) (ms : mg "sorted" = none) : FnOk P w K mg base CX0 4 f fd ["_law_source_here", "_law_pool_here", "_law_most"] spLFacts := by
  refine F.ok scLFa (fun vs H Q E h => ?_) (fun cdv A outer s H vs Q E hr h => ?_)
  · obtain ⟨a, p, c, m, n, π, rfl, _⟩ := h
    rfl
  · obtain ⟨a, p, c, m, n, π, rfl, few, src, hp, k⟩ := h
    have hr1 : Room 1 _ := hr.mono (by decide)
    have hu := hr.units
    have hu5 : (A.deeper (envOfC "_law_facts" (defScope sLFacts) s.heap.objs.size f cdv)).units + 65 < cLine := by have := hr.un; omega
    refine ⟨_, pss_cons (ps_set (i := 3) scLFa.nd rfl (Or.inl rfl) (pe_lst pa_nil))
      (pss_cons (ps_for PassesOwn.never rfl (pi_range1 (by rfl) mr (pa_cons (pe_call GD hr1 (by rfl) mD kD bD .nil pass0 (pa_cons (pv 0) (pa_cons (pe_op op_add (pv 2) pe_int) pa_nil))) pa_nil)) (pg_name (i := 4) scLFa.nd rfl (Or.inl rfl))
        (pss_cons (ps_set (i := 5) scLFa.nd rfl (Or.inl rfl) (pe_call GP hr (by rfl) mP kP bP .nil pass0 (pa_cons (pv 0) (pa_cons (pv 1) (pa_cons (pe_lst pa_nil) (pa_cons pe_int pa_nil))))))
        (pss_one (ps_if (pt_cmpR (op_notInDK (K := K) rfl hu5) (pv 5) (pv 3) (by rfl)) (pss_one (ps_expr (pe_bm PySem.F.plainAttrs_list PySem.F.slot_list_append PySem.F.type_list_append mt_append (pv 3) (pa_cons (pv 5) pa_nil)))) pss_nil))))
      (pss_one (ps_ret (pe_callB (cr_sortD hu) (by rfl) ms (by decide +kernel) (pa_cons (pv 3) pa_nil))))), ?_⟩
    refine ⟨(by show 0 ≤ sizeLine; decide), fun D nD => ?_⟩
    have s0 : Same H (upd H D (.lst [])) := same_new nD
    have hD0 : (upd H D (.lst [])) D = some (.lst []) := upd_same
    have nDa : D ≠ a := src.ne nD
    have src0 : SrcAt (upd H D (.lst [])) a c (m + 20 * n + 1) := (src.same s0).mono (by omega)
    have hp0 := hp.keep (Keep.of (a := a) s0)
    generalize upd H D (.lst []) = H0 at s0 hD0 src0 hp0 ⊢
    refine ⟨_, rfl, _, rfl, _, _, rfl, rfl, ?_⟩
    refine ⟨a, c, _, (n : Int) + 1, rfl, src0, by omega, by omega, fun r H1 r0 r1 src1 k1 => ?_⟩
    obtain ⟨jn, rfl⟩ : ∃ j : Nat, r = j := ⟨r.toNat, by omega⟩
    have hD1 := k1 _ _ hD0 nDa
    refine ⟨_, rfl, by omega, by omega, for_range (lo := 0) (n := jn) (fun i σ H5 => ∃ (v4 v5 : Option V) (Fs : List Pt), σ = [some (.ref a), some (.ref p), some (.int (n : Int)), some (.ref D), v4, v5] ∧ H5 D = some (.lst (Fs.map fun x => V.ref x.1)) ∧ (∀ x ∈ Fs, H5 x.1 = some (.tup (ptV x)) ∧ x.1 ≠ a ∧ x.1 ≠ D ∧ Fct x.2) ∧ (Fs.map (·.2)).Nodup ∧ Fs.length ≤ i ∧
        SrcAt H5 a c (m + 20 * (n - i)) ∧ Keep a H H5)
      ⟨none, none, [], rfl, hD1, fun x h => (nomatch h), List.nodup_nil, Nat.le_refl _, src1, (Keep.of s0).trans k1⟩ (fun i σ H5 hi pp => ?_) (fun σ H5 pp => ?_)⟩
    · obtain ⟨v4, v5, Fs, rfl, p1, p2, p3, p4, p5, p6⟩ := pp
      refine ⟨_, rfl, _, rfl, (by show 0 ≤ sizeLine; decide), fun L nL => ?_⟩
      have nLa : L ≠ a := p5.ne nL
      have sL : Same H5 (upd H5 L (.lst [])) := same_new nL
      have hL : (upd H5 L (.lst [])) L = some (.lst (([] : List Str).map V.str)) := upd_same
      have src5 : SrcAt (upd H5 L (.lst [])) a c (m + 20 * (n - (i + 1)) + 20) := (p5.same sL).mono (by omega)
      generalize upd H5 L (.lst []) = H6 at sL hL src5 ⊢
      have k6 : Keep a H H6 := p6.trans (Keep.of sL)
      refine ⟨a, p, L, c, _, 0, π, [], rfl, src5, hp.keep k6, ⟨hL, fun z h => (nomatch h), Nat.zero_le _, nLa⟩, fun t T zs H7 pat ht nta src7 k7 => ?_⟩
      have fc : Fct (T, zs) := by
        obtain ⟨y, hy, e1, e2⟩ := pat.tab
        obtain ⟨_, g2, g3, _⟩ := hp.hrow y hy
        exact ⟨by rw [← e1]; exact g2, by rw [show (T, zs).2.length = y.2.2 from e2]; exact g3, fun z hz => (pat.trm z hz).elim (hp.nC z) fun q => nomatch q⟩
      have k07 : Keep a H H7 := k6.trans k7
      have p1' : H7 D = some (.lst (Fs.map fun x => V.ref x.1)) := k7 _ _ (sL _ _ p1) nDa
      have p2' : ∀ x ∈ Fs, H7 x.1 = some (.tup (ptV x)) ∧ x.1 ≠ a ∧ x.1 ≠ D ∧ Fct x.2 := fun x hx => let ⟨g1, g2, g3, g4⟩ := p2 x hx; ⟨k7 _ _ (sL _ _ g1) g2, g2, g3, g4⟩
      have tD : t ≠ D := fun e => by
        rw [e, p1'] at ht
        cases ht
      have fcs : ∀ d ∈ Fs.map (·.2), Fct d := fun d hd => by
        obtain ⟨y, hy, rfl⟩ := List.mem_map.mp hd
        exact (p2' y hy).2.2.2
      refine ⟨_, rfl, _, rfl, facD (T, zs), _, dp_fact ht, .lst (SqL.of p1') (dp_facts fun x hx => (p2' x hx).1), shaped_fact fc, shaped_facts fcs, _, rfl, ?_⟩
      rw [any_fact]
      by_cases e : (T, zs) ∈ Fs.map (·.2)
      · rw [decide_eq_true e]
        refine iteF ?_
        exact ⟨_, _, Fs, rfl, p1', p2', p3, by omega, src7, k07⟩
      · rw [decide_eq_false e]
        refine iteT ?_
        have keepD : ∀ (u : HO) b o, b ≠ D → H7 b = some o → (upd H7 D u) b = some o := fun u b o nb h => by
          rw [upd_ne nb]
          exact h
        refine ⟨_, rfl, .inl ⟨rfl, _, SqL.of p1'⟩, _, rfl, D, _, _, rfl, rfl, p1', by rw [List.length_map, sizeLine_eq]; omega, ?_⟩
        refine ⟨_, _, Fs ++ [(t, T, zs)], rfl, by rw [upd_same, List.map_append]; rfl, fun x hx => ?_, ?_, by rw [List.length_append]; show Fs.length + 1 ≤ _; omega, ?_, fun b o h nb => ?_⟩
        · rcases List.mem_append.mp hx with hx | hx
          · obtain ⟨g1, g2, g3, g4⟩ := p2' x hx
            exact ⟨keepD _ _ _ g3 g1, g2, g3, g4⟩
          · rw [List.mem_singleton.mp hx]
            exact ⟨keepD _ _ _ tD ht, nta, tD, fc⟩
        · rw [List.map_append, List.nodup_append]
          refine ⟨p3, by simp, fun x hx y hy => ?_⟩
          have e2 : y = (T, zs) := by simpa using hy
          rw [e2]
          exact fun q => e (by rw [← q]; exact hx)
        · obtain ⟨x1, x2, x3, x4⟩ := src7
          exact ⟨x1, x2, keepD _ _ _ nDa.symm x3, x4⟩
        · exact keepD _ _ _ (ne_of_none h nD) (k07 b o h nb)
    · obtain ⟨v4, v5, Fs, rfl, p1, p2, p3, p4, p5, p6⟩ := pp
      have em : (Fs.map fun x => (V.ref x.1, facD x.2)).map Prod.fst = Fs.map fun x => V.ref x.1 := by
        rw [List.map_map]
        rfl
      refine ⟨_, rfl, D, Fs.map fun x => (V.ref x.1, facD x.2), rfl, by rw [em]; exact SqL.of p1, fun x hx => ?_, fun d hd d2 hd2 => ?_, .inr fun d hd => ?_, by rw [List.length_map]; omega, fun x hx => ?_, fun ys l pm rise nl => ?_⟩
      · obtain ⟨y, hy, rfl⟩ := List.mem_map.mp hx
        exact dp_fact (p2 y hy).1
      · rw [List.map_map] at hd hd2
        obtain ⟨y, _, rfl⟩ := List.mem_map.mp hd
        obtain ⟨y2, _, rfl⟩ := List.mem_map.mp hd2
        exact alike_fact _ _
      · rw [List.map_map] at hd
        obtain ⟨y, _, rfl⟩ := List.mem_map.mp hd
        exact ⟨_, rfl⟩
      · obtain ⟨y, _, rfl⟩ := List.mem_map.mp hx
        exact Nat.le_trans (depth_fact _) (by decide)
      · obtain ⟨zs, pz, rfl⟩ := L2.NSet.perm_lift _ pm
        have r2 : Rise (fun x : Pt => facD x.2) zs := List.pairwise_map.mp rise
        have s5 : Same H5 (upd H5 l (.lst ((zs.map fun x => (V.ref x.1, facD x.2)).map Prod.fst))) := same_new nl
        refine k l zs _ (by rw [upd_same, List.map_map]; rfl) (p5.ne nl) (fun x hx => ?_) (((pz.map (·.2)).nodup_iff).mpr p3) r2 (by rw [pz.length_eq]; omega) ((p5.same s5).mono (by omega)) (p6.trans (Keep.of s5))
        obtain ⟨g1, g2, _, g4⟩ := p2 x (pz.mem_iff.mp hx)
        exact ⟨s5 _ _ g1, g2, g4⟩
end
end L2.LawH
set_option Elab.async false
set_option linter.all false
set_option maxRecDepth 100000
set_option maxHeartbeats 4000000
/-! Texts of facts read back; facts in order. -/
namespace L2.LawH
open PySem PySem.Spec PyProof.Rows L2.TxtSet TL L2.NSet PySem.W
theorem sgn_ne {c : Nat} (h : isSgn c = true) : c ≠ 10 ∧ c ≠ 40 ∧ c ≠ 44 ∧ c < 128 := by
  unfold isSgn isLet at h
  simp only [Bool.or_eq_true, Bool.and_eq_true, decide_eq_true_eq] at h
  omega
theorem chr_nm {z : Str} (h : Nm z) : ∀ c ∈ tl z, isSgn c = true := fun c hc => List.all_eq_true.mp (nm_sgns h).1 c hc
theorem nm_bds {z : Str} (h : Nm z) : 1 ≤ z.length ∧ z.length ≤ 12 := by
  have := nm_sgns h
  rw [len_tl]
  exact ⟨this.2.2, this.2.1⟩
theorem joinL_signs {q : Nat → Prop} {s : Nat} (hs : q s) : ∀ X : List (List Nat), (∀ p ∈ X, ∀ c ∈ p, q c) → ∀ c ∈ joinL [s] X, q c
  | [], _, c, hc => nomatch hc
  | [p], hX, c, hc => hX p List.mem_cons_self c hc
  | p :: r :: X, hX, c, hc => by
    rw [joinL_cons _ _ (by simp), List.mem_append, List.mem_append] at hc
    rcases hc with hc | hc | hc
    · exact hX p List.mem_cons_self c hc
    · rw [List.mem_singleton.mp hc]
      exact hs
    · exact joinL_signs hs (r :: X) (fun p' hp => hX p' (List.mem_cons_of_mem _ hp)) c hc
theorem terms_nm {zs : List Str} (h : ∀ z ∈ zs, Nm z) : terms (Txt.join comS zs) = zs := by
  unfold terms
  cases zs with
  | nil => rfl
  | cons z r =>
    have hl : (Txt.join comS (z :: r)).length ≠ 0 := by
      rw [join_eq, len_tl, tl_join, tl_com]
      have h1 := (nm_bds (h z List.mem_cons_self)).1
      have h2 := part_le 44 ((z :: r).map tl) (tl z) (List.mem_map_of_mem List.mem_cons_self)
      rw [len_tl] at h1
      omega
    rw [if_neg hl]
    exact split_join (s := 44) (S := []) tl_com (by decide +kernel) (by simp) fun p m hc => (sgn_ne (chr_nm (h p m) 44 hc)).2.2.1 rfl
theorem ptext_tl2 (T : Str) (zs : List Str) : tl (ptext T zs) = tl T ++ 40 :: (tl (Txt.join comS zs) ++ [41]) := by
  unfold ptext
  rw [empty_app, tl_append, tl_append, tl_append, show tl (("(" : String) : Str) = [40] from tl_opn, show tl ((")" : String) : Str) = [41] from tl_cls]
  simp
theorem par_app {m b : List Nat} (h : 40 ∉ m) : par [40] [] (m ++ 40 :: b) = some (m, b) := by
  have e := par_part1 (s := 40) (S := []) (p := m) (rest := b) (acc := []) h
  rw [List.nil_append] at e
  exact e
theorem Fct.fact {c : Str × List Str} (h : Fct c) : factB (.str c.1 :: c.2.map V.str) = true := by
  have vn : ∀ z : Str, Nm z → vN (.str z) = true := fun z q => q
  have pb : patB (.str c.1 :: c.2.map V.str) = true := by
    show (decide ((c.2.map V.str).length ≤ 3) && vN (.str c.1) && (c.2.map V.str).all fun y => vN y || vV y) = true
    rw [List.length_map, decide_eq_true h.l3, vn _ h.nT, Bool.true_and, Bool.true_and, List.all_map, List.all_eq_true]
    intro z m
    show (vN (.str z) || vV (.str z)) = true
    rw [vn _ (h.nz z m)]
    rfl
  unfold factB
  rw [pb, Bool.true_and, List.all_eq_true]
  intro v hv
  rcases List.mem_cons.mp hv with rfl | hv
  · exact h.nT
  · obtain ⟨z, hz, rfl⟩ := List.mem_map.mp hv
    exact h.nz z hz
theorem Fct.read {c : Str × List Str} (h : Fct c) : rdF (ptext c.1 c.2) = some c := by
  have nT : 40 ∉ tl c.1 := fun hc => (sgn_ne (chr_nm h.nT 40 hc)).2.1 rfl
  unfold rdF cutP
  rw [ptext_tl2, par_app nT]
  dsimp only
  rw [if_pos (by simp)]
  dsimp only
  have e1 : (⟨(tl c.1).toArray⟩ : Str) = c.1 := mk_tl c.1
  have e2 : (⟨(tl (Txt.join comS c.2) ++ [41]).dropLast.toArray⟩ : Str) = Txt.join comS c.2 := by
    rw [List.dropLast_concat]
  rw [e1, e2, terms_nm h.nz, if_pos h.fact]
theorem Fct.signs {c : Str × List Str} (h : Fct c) : ∀ x ∈ tl (ptext c.1 c.2), x ≠ 10 ∧ x < 0x110000 := by
  have one : ∀ z : Str, Nm z → ∀ x ∈ tl z, x ≠ 10 ∧ x < 0x110000 := fun z q x hx => by
    have := sgn_ne (chr_nm q x hx)
    exact ⟨this.1, Nat.lt_trans this.2.2.2 (by decide)⟩
  rw [ptext_tl2]
  intro x hx
  rcases List.mem_append.mp hx with hx | hx
  · exact one _ h.nT x hx
  rcases List.mem_cons.mp hx with rfl | hx
  · decide
  rcases List.mem_append.mp hx with hx | hx
  · rw [join_eq, tl_join, tl_com] at hx
    refine joinL_signs (q := fun x => x ≠ 10 ∧ x < 0x110000) (by decide) _ (fun p hp => ?_) x hx
    obtain ⟨z, hz, rfl⟩ := List.mem_map.mp hp
    exact one z (h.nz z hz)
  · rw [List.mem_singleton.mp hx]
    decide
theorem Fct.len {c : Str × List Str} (h : Fct c) : 1 ≤ (ptext c.1 c.2).length ∧ (ptext c.1 c.2).length ≤ 60 := by
  refine ⟨?_, ptext_le (nm_bds h.nT).2 h.l3 fun z hz => Nat.le_trans (nm_bds (h.nz z hz)).2 (by decide)⟩
  rw [len_tl, ptext_tl2, List.length_append, List.length_cons]
  omega
/-- the lines of facts -/
def txts (cs : List (Str × List Str)) : List Str := cs.map fun c => ptext c.1 c.2
theorem lns_join2 {zs : List Str} (h1 : ∀ z ∈ zs, 1 ≤ z.length) (h2 : ∀ z ∈ zs, 10 ∉ tl z) : lns (Txt.join nlS zs) = zs := by
  unfold lns
  cases zs with
  | nil => rfl
  | cons z r =>
    have hl : (Txt.join nlS (z :: r)).length ≠ 0 := by
      rw [join_eq, len_tl, tl_join, tl_nl]
      have h3 := h1 z List.mem_cons_self
      have h4 := part_le 10 ((z :: r).map tl) (tl z) (List.mem_map_of_mem List.mem_cons_self)
      rw [len_tl] at h3
      omega
    rw [if_neg hl]
    exact split_join (s := 10) (S := []) tl_nl (by decide +kernel) (by simp) h2
theorem lns_txts {cs : List (Str × List Str)} (h : ∀ c ∈ cs, Fct c) : lns (Txt.join nlS (txts cs)) = txts cs := by
  refine lns_join2 (fun z hz => ?_) (fun z hz q => ?_)
  · obtain ⟨c, hc, rfl⟩ := List.mem_map.mp hz
    exact (h c hc).len.1
  · obtain ⟨c, hc, rfl⟩ := List.mem_map.mp hz
    exact ((h c hc).signs 10 q).1 rfl
/-! order -/
def tkT (zs : List Str) : List (Int ⊕ List Nat) := keyToksAll (zs.map PyData.str)
theorem tkT_nil : tkT [] = [.inl 0] := by simp [tkT, keyToksAll]
theorem tkT_cons (z : Str) (zs : List Str) : tkT (z :: zs) = .inl 1 :: .inr z.cps.toList :: tkT zs := by simp [tkT, keyToksAll, keyToks]
theorem str_cps {a b : Str} (h : a.cps.toList = b.cps.toList) : a = b := by
  cases a
  cases b
  exact congrArg Str.mk (Array.toList_inj.mp h)
theorem tkT_inj : ∀ {m m' : List Str}, tkT m = tkT m' → m = m'
  | [], [], _ => rfl
  | [], p :: m', h => by
    rw [tkT_nil, tkT_cons] at h
    injection h with h1 h2
    exact absurd h1 (by decide)
  | p :: m, [], h => by
    rw [tkT_nil, tkT_cons] at h
    injection h with h1 h2
    exact absurd h1 (by decide)
  | p :: m, q :: m', h => by
    rw [tkT_cons, tkT_cons] at h
    injection h with _ h
    injection h with h1 h
    rw [tkT_inj h, str_cps (Sum.inr.inj h1)]
/-- a stands ahead of b -/
def ltF (a b : Str × List Str) : Bool := PyProof.Rows.lexLt itemOrd (tkT (a.1 :: a.2)) (tkT (b.1 :: b.2))
theorem toks_facD (c : Str × List Str) : keyToks (facD c) = tkT (c.1 :: c.2) := by
  unfold facD
  simp [tkT, keyToks]
theorem dataLt_facD (a b : Str × List Str) : dataLt (facD a) (facD b) = ltF a b := by
  show PyProof.Rows.lexLt itemOrd (keyToks (facD a)) (keyToks (facD b)) = _
  rw [toks_facD, toks_facD]
  rfl
theorem fle_eq (a b : Str × List Str) : fle a b = !ltF b a := by
  unfold fle
  rw [dataLt_facD]
theorem ltF_trans {a b c : Str × List Str} (x : ltF a b = true) (y : ltF b c = true) : ltF a c = true := lex_trans (O := itemOrd) _ _ _ x y
theorem ltF_irr (a : Str × List Str) : ltF a a = false := lex_irrefl (O := itemOrd) _
theorem ltF_asym {a b : Str × List Str} (x : ltF a b = true) : ltF b a = false := by
  cases e : ltF b a with
  | false => rfl
  | true =>
    have := ltF_trans x e
    rw [ltF_irr] at this
    cases this
theorem ltF_anti {a b : Str × List Str} (x : ltF a b = false) (y : ltF b a = false) : a = b := by
  have e := tkT_inj (lex_total (O := itemOrd) _ _ x y)
  injection e with e1 e2
  exact Prod.ext e1 e2
def Asc (cs : List (Str × List Str)) : Prop := cs.Pairwise fun a b => ltF a b = true
theorem Asc.nodup {cs : List (Str × List Str)} (h : Asc cs) : cs.Nodup := List.Pairwise.imp (fun {a b} q e => by
  rw [e, ltF_irr] at q
  cases q) h
theorem over_no {acc : List (Str × List Str)} {c : Str × List Str} (h : Asc acc) (o : ¬ over acc c = true) : ∀ x ∈ acc, ltF x c = true := by
  rcases List.eq_nil_or_concat acc with e | ⟨G, l, e⟩
  · subst e
    exact fun x hx => nomatch hx
  · rw [List.concat_eq_append] at e
    subst e
    rw [over_snoc, fle_eq] at o
    have hl : ltF l c = true := by simpa using o
    intro x hx
    rcases List.mem_append.mp hx with hx | hx
    · exact ltF_trans ((List.pairwise_append.mp h).2.2 x hx l List.mem_cons_self) hl
    · rw [List.mem_singleton.mp hx]
      exact hl
theorem go_asc : ∀ (zs : List Str) (acc : List (Str × List Str)) (n : Nat) (cs : List (Str × List Str)), go zs acc n = .inr cs → Asc acc → Asc cs
  | [], acc, n, cs, h, ha => by
    rw [go] at h
    injection h with h
    rw [← h]
    exact ha
  | z :: zs, acc, n, cs, h, ha => by
    rw [go] at h
    cases e : rdF z with
    | none =>
      rw [e] at h
      cases h
    | some c =>
      rw [e] at h
      dsimp only at h
      by_cases o : over acc c = true
      · rw [if_pos o] at h
        cases h
      · rw [if_neg o] at h
        refine go_asc zs _ _ _ h (List.pairwise_append.mpr ⟨ha, List.pairwise_singleton _ _, fun x hx y hy => ?_⟩)
        rw [List.mem_singleton.mp hy]
        exact over_no ha o x hx
theorem go_txts : ∀ (cs acc : List (Str × List Str)) (n : Nat), (∀ c ∈ cs, Fct c) → Asc (acc ++ cs) → go (txts cs) acc n = .inr (acc ++ cs)
  | [], acc, n, _, _ => by
    show go [] acc n = _
    rw [go, List.append_nil]
  | c :: cs, acc, n, hf, ha => by
    show go (ptext c.1 c.2 :: txts cs) acc n = _
    rw [go, (hf c List.mem_cons_self).read]
    dsimp only
    have no : ¬ over acc c = true := by
      rcases List.eq_nil_or_concat acc with e | ⟨G, l, e⟩
      · subst e
        exact Bool.false_ne_true
      · rw [List.concat_eq_append] at e
        subst e
        rw [over_snoc, fle_eq]
        have := (List.pairwise_append.mp ha).2.2 l (List.mem_append_right _ List.mem_cons_self) c List.mem_cons_self
        rw [this]
        exact Bool.false_ne_true
    rw [if_neg no, go_txts cs (acc ++ [c]) (n + 1) (fun d hd => hf d (List.mem_cons_of_mem _ hd)) (by rw [List.append_assoc]; exact ha), List.append_assoc]
    rfl
theorem go_lines {cs : List (Str × List Str)} (hf : ∀ c ∈ cs, Fct c) (ha : Asc cs) : go (lns (Txt.join nlS (txts cs))) [] 1 = .inr cs := by
  rw [lns_txts hf]
  exact go_txts cs [] 1 hf ha
theorem facD_ptM (x : Pt) : (ptM x).2.data = facD x.2 := data_ptM x
theorem asc_rise {Fs : List Pt} (n : (Fs.map (·.2)).Nodup) (r : Rise (fun x : Pt => facD x.2) Fs) : Asc (Fs.map (·.2)) := by
  have r2 : (Fs.map (·.2)).Pairwise fun a b => ltF b a = false := by
    rw [List.pairwise_map]
    refine List.Pairwise.imp (fun {a b} h => ?_) r
    have h' : (!dataLt (facD b.2) (facD a.2)) = true := h
    rw [dataLt_facD] at h'
    simpa using h'
  refine List.Pairwise.imp (fun {a b} h => ?_) (List.Pairwise.and n r2)
  obtain ⟨h1, h2⟩ := h
  cases e : ltF a b with
  | true => rfl
  | false => exact absurd (ltF_anti e h2) h1
theorem asc_riseM {M : List Pt} (n : (M.map (·.2)).Nodup) (r : Rise (fun x : Pt => (ptM x).2.data) M) : Asc (M.map (·.2)) := by
  refine asc_rise n ?_
  have e : (fun x : Pt => (ptM x).2.data) = fun x : Pt => facD x.2 := funext facD_ptM
  rw [← e]
  exact r
theorem asc_one {a b : List (Str × List Str)} (ha : Asc a) (hb : Asc b) (h : ∀ c, c ∈ a ↔ c ∈ b) : a = b :=
  List.Perm.eq_of_pairwise (le := fun x y => ltF x y = true) (fun x y _ _ p q => by
    have := ltF_asym p
    rw [q] at this
    cases this) ha hb ((List.perm_ext_iff_of_nodup ha.nodup hb.nodup).mpr h)
end L2.LawH
set_option Elab.async false
set_option linter.all false
set_option maxRecDepth 100000
set_option maxHeartbeats 4000000
/-! _law_due. -/
namespace L2.LawH
open PySem PySem.Spec PyProof.Rows L2.TxtSet TL L2.NSet
abbrev sLDue : Stmt := top 31
def spDue : Sp := fun vs H Q _ => ∃ z : Str, vs = [.str z] ∧ Rdb z ∧ (lns z).length ≤ 60 ∧
  (∀ n, go (lns z) [] 1 = .inl n → ∀ (H' : Hp), Same H H' → Q (.int (n : Nat)) H') ∧
  (∀ cs, go (lns z) [] 1 = .inr cs → ∀ (H' : Hp) (l : Addr) (Fs : List Pt), Same H H' → H l = none → H' l = some (.lst (Fs.map fun x => V.ref x.1)) → (∀ x ∈ Fs, H' x.1 = some (.tup (ptV x))) → Fs.map (·.2) = cs → Q (.ref l) H')
theorem op_neDK {X : Cx} {K : PySem.W.Frag} (e : X.K = K) (hu : X.A.units + 64 < cLine) : OpR X (compareOp .NotEq) (rNeD K) := by
  subst e
  exact op_neD hu
theorem nm_str {z : Str} (h : vN (.str z) = true) : Nm z := h
theorem fct_of {c : Str × List Str} (h : factB (.str c.1 :: c.2.map V.str) = true) : Fct c := by
  have hp : patB (.str c.1 :: c.2.map V.str) = true := by
    unfold factB at h
    rw [Bool.and_eq_true] at h
    exact h.1
  have bd := pat_bd hp
  unfold factB at h
  rw [Bool.and_eq_true, List.all_eq_true] at h
  exact ⟨nm_str (h.2 _ List.mem_cons_self), bd.2.1, fun z hz => nm_str (h.2 _ (List.mem_cons_of_mem _ (List.mem_map_of_mem hz)))⟩
section
variable {P : Program} {w : World} {K : PySem.W.Frag} {mg : Str → Option Value} {base : Heap}
abbrev nLDu : List Str := ["_law_text_here", "_law_found", "_law_lines", "_law_k", "_law_fact"]
theorem scLDu : FnScope nLDu ["_law_text_here"] (defScope sLDue) := ⟨rfl, rfl, rfl, by decide +kernel, rfl, by decide +kernel, by decide +kernel⟩
theorem ok_due {f fO : Addr} {fd fdO : FuncData} (F : Fun K "_law_due" "_law_due" sLDue f fd)
    (GO : FnOk P w K mg base CX0 4 fO fdO ["_law_text_here"] spLOT) (kO : PySem.W.keepIn K (.ref fO) = true) (bO : Binds K fdO ["_law_text_here"] []) (mO : mg "_law_of_text" = some (.ref fO))
    (mr : mg "range" = none) (ml : mg "len" = none) : FnOk P w K mg base CX0 5 f fd ["_law_text_here"] spDue := by
  refine F.ok scLDu (fun vs H Q E h => ?_) (fun cdv A outer s H vs Q E hr h => ?_)
  · obtain ⟨z, rfl, _⟩ := h
    rfl
  · obtain ⟨z, rfl, rz, few, kE, kS⟩ := h
    have hr4 : Room 4 _ := hr.mono (by decide)
    have hu := hr.units
    refine ⟨_, pss_cons (ps_set (i := 1) scLDu.nd rfl (Or.inl rfl) (pe_lst pa_nil))
      (pss_cons (ps_if (pt_cmpR op_eq (pv 0) pe_str (nomark _)) (pss_one (ps_ret (pv 1))) pss_nil)
      (pss_cons (ps_set (i := 2) scLDu.nd rfl (Or.inl rfl) (pe_split (pv 0) pe_str))
      (pss_cons (ps_for PassesOwn.never rfl (pi_range1 (by rfl) mr (pa_cons (pe_callB call_len_seq (by rfl) ml (by decide +kernel) (pa_cons (pv 2) pa_nil)) pa_nil)) (pg_name (i := 3) scLDu.nd rfl (Or.inl rfl))
        (pss_cons (ps_set (i := 4) scLDu.nd rfl (Or.inl rfl) (pe_call GO hr4 (by rfl) mO kO bO .nil pass0 (pa_cons (pe_ix ix_list (pv 2) (pv 3) (fun _ _ => rfl)) pa_nil)))
        (pss_cons (ps_if (PW.pt (pw_or (pt_cmpR op_isN (pv 4) pe_non (nomark _)) (pw_or1 (PW.pt (pw_and (pt_cmpR (op_neDK (K := K) rfl hu) (pv 1) (pe_lst pa_nil) (nomark _))
            (pw_and1 (pt_not (pt_cmpR (op_ltD (K := K) rfl hu) (pe_ix ix_list (pv 1) (pe_un un_neg pe_int) (fun _ _ => rfl)) (pv 4) (nomark _)))))))))
          (pss_one (ps_ret (pe_op op_add (pv 3) pe_int))) pss_nil)
        (pss_one (ps_expr (pe_bm PySem.F.plainAttrs_list PySem.F.slot_list_append PySem.F.type_list_append mt_append (pv 1) (pa_cons (pv 4) pa_nil)))))))
      (pss_one (ps_ret (pv 1)))))), ?_⟩
    refine ⟨(by show 0 ≤ sizeLine; decide), fun D nD => ?_⟩
    have s0 : Same H (upd H D (.lst [])) := same_new nD
    have hD0 : (upd H D (.lst [])) D = some (.lst []) := upd_same
    generalize upd H D (.lst []) = H0 at s0 hD0 ⊢
    refine ⟨_, rfl, rfl, _, rfl, ?_⟩
    have e00 : (Str.ofString "").length = 0 := by decide +kernel
    refine ite2 (fun h0 => ?_) (fun h0 => ?_)
    · have z0 : z = Str.ofString "" := V.str.inj (of_decide_eq_true h0)
      have l0 : lns z = [] := by
        unfold lns
        rw [if_pos (by rw [z0, e00])]
      refine ⟨_, rfl, kS [] (by rw [l0, go]) H0 D [] s0 nD hD0 (fun x h => nomatch h) rfl⟩
    · have z1 : ¬ z.length = 0 := fun q => by
        have e : z = Str.ofString "" := ext_tl (by
          have e1 : tl z = [] := List.length_eq_zero_iff.mp (by rw [← len_tl]; exact q)
          rw [e1]
          decide +kernel)
        rw [e] at h0
        simp at h0
      refine ⟨_, rfl, ⟨_, rfl⟩, z, _, rfl, rfl, by decide +kernel, by rw [sizeLine_eq]; have := rz.1; omega, fun L nL => ?_⟩
      have eL : Txt.split z nlS = lns z := by
        unfold lns
        rw [if_neg z1]
      have eL2 : Txt.split z (Str.ofString "\n") = lns z := eL
      rw [eL2]
      have rl : ∀ y ∈ lns z, Rdb y := fun y hy => lns_rdb rz hy
      generalize lns z = zs at few kE kS rl ⊢
      have sL : Same H0 (upd H0 L (.lst (zs.map V.str))) := same_new nL
      have hL : (upd H0 L (.lst (zs.map V.str))) L = some (.lst (zs.map V.str)) := upd_same
      have LD : L ≠ D := fun e => by
        rw [e, hD0] at nL
        cases nL
      have nLH : H L = none := none_ext s0 nL
      have hD1 := sL _ _ hD0
      have s1 : Same H (upd H0 L (.lst (zs.map V.str))) := s0.trans sL
      generalize upd H0 L (.lst (zs.map V.str)) = H1 at sL hL hD1 s1 ⊢
      have lz : (zs.map V.str).length = zs.length := List.length_map _
      refine ⟨_, rfl, L, _, rfl, .inl (SqL.of hL), _, rfl, by omega, by omega, for_range (lo := 0) (n := (zs.map V.str).length) (fun i σ H5 => ∃ (v3 v4 : Option V) (Fs : List Pt), σ = [some (.str z), some (.ref D), some (.ref L), v3, v4] ∧ H5 D = some (.lst (Fs.map fun x => V.ref x.1)) ∧ (∀ x ∈ Fs, H5 x.1 = some (.tup (ptV x)) ∧ x.1 ≠ D ∧ Fct x.2) ∧ Fs.length ≤ i ∧
          go zs [] 1 = go (zs.drop i) (Fs.map (·.2)) (i + 1) ∧ (∀ b o, b ≠ D → H1 b = some o → H5 b = some o))
        ⟨none, none, [], rfl, hD1, fun x h => (nomatch h), Nat.le_refl _, rfl, fun _ _ _ h => h⟩ (fun i σ H5 hi p => ?_) (fun σ H5 p => ?_)⟩
      · obtain ⟨v3, v4, Fs, rfl, p1, p2, p3, p4, p5⟩ := p
        rw [lz] at hi
        obtain ⟨y, hy⟩ : ∃ y, zs[i]? = some y := ⟨_, List.getElem?_eq_getElem hi⟩
        have my := List.mem_of_getElem? hy
        have dr : zs.drop i = y :: zs.drop (i + 1) := by
          rw [List.drop_eq_getElem_cons hi]
          have e : zs[i] = y := (List.getElem?_eq_some_iff.mp hy).2
          rw [e]
        rw [dr] at p4
        have hL5 := p5 _ _ LD hL
        have p6 : Same H H5 := fun b o h => p5 b o (ne_of_none h nD) (s1 _ _ h)
        have eN : go zs [] 1 = .inl (i + 1) → ∀ H', Same H H' → Q (.int (((0 + i : Nat) : Int) + 1)) H' := fun g H' s' => by
          have e : (((0 + i : Nat) : Int) + 1) = ((i + 1 : Nat) : Int) := by omega
          rw [e]
          exact kE _ g H' s'
        have rdy := rl y my
        have each' : (zs.map V.str)[0 + i]? = some (V.str y) := by
          rw [Nat.zero_add, List.getElem?_map, hy]
          rfl
        refine ⟨_, rfl, _, rfl, L, _, _, _, rfl, rfl, SqL.of hL5, atI_nat each', ?_⟩
        refine ⟨y, rfl, rdy.1, rdy.2, fun hn H6 s6 => ?_, fun a ts hs q H6 s6 nq hq => ?_⟩
        · have g : go zs [] 1 = .inl (i + 1) := by
            rw [p4, go, hn]
          refine ⟨_, rfl, rfl, _, rfl, iteT ?_⟩
          refine ⟨_, rfl, _, _, rfl, rfl, ?_⟩
          exact eN g H6 (p6.trans s6)
        · have rf := rdF_fact hs
          have fc : Fct (a, ts) := fct_of rf
          have s56 : Same H5 H6 := s6
          have p1' := s6 _ _ p1
          have p2' : ∀ x ∈ Fs, H6 x.1 = some (.tup (ptV x)) ∧ x.1 ≠ D ∧ Fct x.2 := fun x hx => ⟨s6 _ _ (p2 x hx).1, (p2 x hx).2⟩
          have qD : q ≠ D := fun e => by
            rw [e, p1] at nq
            cases nq
          -- laid behind the others
          have put : over (Fs.map (·.2)) (a, ts) = false → ∀ (H8 HZ : Hp), Same H6 H8 → HZ = upd H8 D (.lst ((Fs.map fun x => V.ref x.1) ++ [V.ref q])) → ∃ (v3 v4 : Option V) (Gs : List Pt), ([some (.str z), some (.ref D), some (.ref L), some (.int ((0 + i : Nat) : Int)), some (.ref q)] : St) = [some (.str z), some (.ref D), some (.ref L), v3, v4] ∧ HZ D = some (.lst (Gs.map fun x => V.ref x.1)) ∧ (∀ x ∈ Gs, HZ x.1 = some (.tup (ptV x)) ∧ x.1 ≠ D ∧ Fct x.2) ∧ Gs.length ≤ i + 1 ∧
              go zs [] 1 = go (zs.drop (i + 1)) (Gs.map (·.2)) (i + 1 + 1) ∧ (∀ b o, b ≠ D → H1 b = some o → HZ b = some o) := fun ov H8 HZ s8 eZ => by
            subst eZ
            refine ⟨_, _, Fs ++ [(q, a, ts)], rfl, by rw [upd_same, List.map_append]; rfl, fun x hx => ?_, by rw [List.length_append]; show Fs.length + 1 ≤ _; omega, ?_, fun b o nb h => ?_⟩
            · rcases List.mem_append.mp hx with hx | hx
              · obtain ⟨c1, c2, c3⟩ := p2' x hx
                exact ⟨by rw [upd_ne c2]; exact s8 _ _ c1, c2, c3⟩
              · rw [List.mem_singleton.mp hx]
                exact ⟨by rw [upd_ne qD]; exact s8 _ _ hq, qD, fc⟩
            · rw [p4, go, hs]
              dsimp only
              rw [ov, if_neg Bool.false_ne_true, List.map_append]
              rfl
            · rw [upd_ne nb]
              exact s8 _ _ (s6 _ _ (p5 b o nb h))
          refine ⟨_, rfl, rfl, _, rfl, iteF ?_⟩
          refine ⟨_, rfl, (by show 0 ≤ sizeLine; decide), fun N nN => ?_⟩
          have s67 : Same H6 (upd H6 N (.lst [])) := same_new nN
          have hN : (upd H6 N (.lst [])) N = some (.lst []) := upd_same
          generalize upd H6 N (.lst []) = H7 at s67 hN ⊢
          have fcs : ∀ d ∈ Fs.map (·.2), Fct d := fun d hd => by
            obtain ⟨x, hx, rfl⟩ := List.mem_map.mp hd
            exact (p2' x hx).2.2
          refine ⟨.list ((Fs.map (·.2)).map facD), .list [], .lst (SqL.of (s67 _ _ p1')) (dp_facts fun x hx => s67 _ _ (p2' x hx).1), .lst (SqL.of hN) .nil, shaped_facts fcs, by decide +kernel, _, rfl, ?_⟩
          rcases List.eq_nil_or_concat Fs with e | ⟨G, lst, e⟩
          · subst e
            refine iteF ?_
            have p7 := s67 _ _ p1'
            exact ⟨_, rfl, .inl ⟨rfl, _, SqL.of p7⟩, _, rfl, D, _, _, rfl, rfl, p7, by show 0 < sizeLine; rw [sizeLine_eq]; decide, put rfl _ _ s67 rfl⟩
          · rw [List.concat_eq_append] at e
            have ne : (!PyData.eqv (.list ((Fs.map (·.2)).map facD)) (.list [])) = true := by
              rw [e]
              cases G <;> simp [PyData.eqv, PyData.eqvAll]
            rw [ne]
            refine iteT ?_
            have p7 := s67 _ _ p1'
            have mL : lst ∈ Fs := by
              rw [e]
              simp
            have at9 : atI (Fs.map fun x => V.ref x.1) (-1) = some (V.ref lst.1) := by
              rw [e, List.map_append]
              exact atI_last _ _
            have ov : over (Fs.map (·.2)) (a, ts) = fle (a, ts) lst.2 := by
              rw [e, List.map_append]
              exact over_snoc _ _ _
            refine ⟨_, rfl, 1, rfl, D, _, -1, _, rfl, rfl, SqL.of p7, at9, _, rfl, facD lst.2, facD (a, ts), dp_fact (s67 _ _ (p2' lst mL).1), dp_fact (c := (a, ts)) (s67 _ _ hq), alike_fact _ _, (fun z => by unfold facD at z; cases z), ?_, _, rfl, ?_⟩
            · have := depth_fact (a, ts)
              omega
            have eo : (!PySem.W.dataLt (facD lst.2) (facD (a, ts))) = over (Fs.map (·.2)) (a, ts) := ov.symm
            show (fun b : Bool => if b = true then _ else _) (!PySem.W.dataLt (facD lst.2) (facD (a, ts)))
            rw [eo]
            cases c : over (Fs.map (·.2)) (a, ts) with
            | true =>
              refine iteT ?_
              have g : go zs [] 1 = .inl (i + 1) := by
                rw [p4, go, hs]
                dsimp only
                rw [c, if_pos rfl]
              refine ⟨_, rfl, _, _, rfl, rfl, ?_⟩
              exact eN g H7 ((p6.trans s6).trans s67)
            | false =>
              refine iteF ?_
              exact ⟨_, rfl, .inl ⟨rfl, _, SqL.of p7⟩, _, rfl, D, _, _, rfl, rfl, p7, by rw [List.length_map, sizeLine_eq]; omega, put c _ _ s67 rfl⟩
      · obtain ⟨v3, v4, Fs, rfl, p1, p2, p3, p4, p5⟩ := p
        have e : zs.drop (zs.map V.str).length = [] := by
          rw [List.length_map]
          exact List.drop_length
        rw [e] at p4
        exact ⟨_, rfl, kS _ p4 H5 D Fs (fun b o h => p5 b o (ne_of_none h nD) (s1 _ _ h)) nD p1 (fun x hx => (p2 x hx).1) rfl⟩
end
end L2.LawH
set_option Elab.async false
set_option linter.all false
set_option maxRecDepth 100000
set_option maxHeartbeats 4000000
/-! _law_told. -/
namespace L2.LawH
open PySem PySem.Spec PyProof.Rows L2.TxtSet TL L2.NSet L2.ClsCall
abbrev sLTold : Stmt := top 32
section
variable {P : Program} {w : World} {K : PySem.W.Frag} {mg : Str → Option Value} {base : Heap}
theorem call_list_ofK {X : Cx} {K : PySem.W.Frag} (e : X.K = K) : CallR X (.type "list") (fun xs H Q => ∃ p ys, xs = [.ref p] ∧ (SqL K H p ys ∨ SqT K H p ys) ∧ ∀ l, H l = none → Q (.ref l) (upd H l (.lst ys))) := by
  subst e
  exact call_list_of
theorem scLTo : FnScope ["_law_text_here", "e"] ["_law_text_here"] (defScope sLTold) := ⟨rfl, rfl, rfl, by decide +kernel, rfl, by decide +kernel, by decide +kernel⟩
theorem ok_told {f fR fF gF pR S B : Addr} {fd fdR fdF : FuncData} {mc : Value} (F : Fun K "_law_told" "_law_told" sLTold f fd)
    (GR : FnOk P w K mg base (L2.CX P w) 7 fR fdR ["cls", "text"] (spReadS S B)) (rR : ClX.CRead K S mc) (cR : ClX.CMet K S mc "read" pR fR) (bR : Binds K fdR ["cls", "text"] [])
    (GF : FnOk P w K mg base CX0 1 gF fdF ["self"] (getSp S "_facts")) (bF : Binds K fdF ["self"] []) (cS : Cls K S) (pF : PropOf K S "facts" fF gF)
    (mS : mg "Store" = some (.ref S)) (mB : mg "BadLine" = some (.ref B)) (T : XfC K B) (hno : PySem.W.findIn K (.ref B) "line" = some none) (te : PySem.W.exmOne K (.ref B) (.ref B) = some true)
    (mL : mg "list" = none) : FnOk P w K mg base CX0 8 f fd ["_law_text_here"] spDue := by
  refine F.ok scLTo (fun vs H Q E h => ?_) (fun cdv A outer s H vs Q E hr h => ?_)
  · obtain ⟨z, rfl, _⟩ := h
    rfl
  · obtain ⟨z, rfl, rz, few, kE, kS⟩ := h
    have hr7 : Room 7 _ := hr.mono (by decide)
    have hr2 : Room 2 _ := hr.mono (by decide)
    refine ⟨_, pss_one (ps_try_as (i := 1) rfl rfl scLTo.nd rfl rfl ⟨rfl, by decide, .inl mB⟩ takes0 (fun W pn xe tk _ =>
        pss_one (ps_ret (pe_callTy (call_list_ofK (K := K) rfl) (by rfl) mL (by decide +kernel) (pa_cons (pe_prop (pe_cmethS (pe_glob (v := .ref S) (by rfl) mS rfl) rR cR GR hr7 bR (fun σ => passAt tk σ) (pa_cons (pv 0) pa_nil)) cS pF GF hr2 bF .nil pass0 rfl) pa_nil))))
      (fun a oe cls d pn hz hf => pss_one (ps_ret (pe_xf T hno hz hf (pv 1))))), ?_⟩
    refine ⟨rfl, _, rfl, z, rfl, rz, few, fun n g H' d s' nd hd => ?_, fun cs g H' x M s' nx st mem nodup rise => ?_⟩
    · refine ⟨true, te, fun _ a na => ⟨_, rfl, rfl, rfl, d, _, _, rfl, hd, rfl, kE n g H' s'⟩, fun q => nomatch q⟩
    · obtain ⟨dx, t, gd, h1, h2, h3⟩ := st
      refine ⟨x, dx, _, rfl, h1, x, dx, _, .ref t, rfl, h1, rfl, ?_⟩
      refine ⟨t, _, rfl, .inr (SqT.of h2), fun l nl => ?_⟩
      have sl : Same H' (upd H' l (.lst (M.map fun x => V.ref x.1))) := same_new nl
      have e : M.map (·.2) = cs := asc_one (asc_riseM nodup rise) (go_asc _ _ _ _ g List.Pairwise.nil) mem
      refine kS cs g _ l M (s'.trans sl) (none_ext s' nl) upd_same (fun y hy => sl _ _ (h3 y hy)) e
end
end L2.LawH
set_option Elab.async false
set_option linter.all false
set_option maxRecDepth 100000
set_option maxHeartbeats 4000000
/-! _law_spoiled. -/
namespace L2.LawH
open PySem PySem.Spec PyProof.Rows L2.TxtSet TL L2.NSet
abbrev sLSpo : Stmt := top 33
/-- a line, as it may be spoiled -/
def LnOk (z : Str) : Prop := z.length ≤ 60 ∧ ∀ c ∈ tl z, c ≠ 10 ∧ c < 0x110000
/-- a spoiled text -/
def Spo (z : Str) : Prop := Rdb z ∧ (tl z).count 10 ≤ 50
theorem count_le : ∀ X : List (List Nat), (∀ p ∈ X, 10 ∉ p) → (joinL [10] X).count 10 ≤ X.length
  | [], _ => Nat.zero_le _
  | [p], h => by
    show p.count 10 ≤ 1
    rw [List.count_eq_zero.mpr (h p List.mem_cons_self)]
    exact Nat.zero_le _
  | p :: q :: X, h => by
    have ih := count_le (q :: X) fun r hr => h r (List.mem_cons_of_mem _ hr)
    rw [joinL_cons _ _ (by simp), List.count_append, List.count_append, List.count_eq_zero.mpr (h p List.mem_cons_self), List.length_cons]
    have e : ([10] : List Nat).count 10 = 1 := by decide
    omega
theorem count_ge : ∀ X : List (List Nat), X.length ≤ (joinL [10] X).count 10 + 1
  | [] => Nat.zero_le _
  | [p] => Nat.succ_le_succ (Nat.zero_le _)
  | p :: q :: X => by
    have ih := count_ge (q :: X)
    rw [joinL_cons _ _ (by simp), List.count_append, List.count_append, List.length_cons]
    have e : ([10] : List Nat).count 10 = 1 := by decide
    omega
theorem lns_few {z : Str} (h : (tl z).count 10 ≤ 50) : (lns z).length ≤ 60 := by
  by_cases h0 : z.length = 0
  · unfold lns
    rw [if_pos h0]
    exact Nat.zero_le _
  · have e := lns_join z h0
    have g := count_ge ((lns z).map tl)
    rw [e, List.length_map] at g
    omega
theorem spo_join {ys : List Str} (h : ∀ y ∈ ys, LnOk y) (l : ys.length ≤ 13) : Spo (Txt.join nlS ys) := by
  have b := join_bd fun y hy => (h y hy).1
  refine ⟨⟨by omega, ?_⟩, ?_⟩
  · rw [join_eq, tl_join, tl_nl]
    refine joinL_signs (q := fun x => x < 0x110000) (by decide) _ fun p hp c hc => ?_
    obtain ⟨y, hy, rfl⟩ := List.mem_map.mp hp
    exact ((h y hy).2 c hc).2
  · rw [join_eq, tl_join, tl_nl]
    have g := count_le (ys.map tl) fun p hp q => by
      obtain ⟨y, hy, rfl⟩ := List.mem_map.mp hp
      exact ((h y hy).2 10 q).1 rfl
    rw [List.length_map] at g
    omega
theorem cut_strs (zs : List Str) (lo hi : Option Int) : ∃ ys : List Str, cutV (zs.map V.str) lo hi = ys.map V.str ∧ (∀ y ∈ ys, y ∈ zs) ∧ ys.length ≤ zs.length := by
  unfold cutV
  refine ⟨(zs.drop (HT.sIx (zs.map V.str).length 0 lo)).take (HT.sIx (zs.map V.str).length (zs.map V.str).length hi - HT.sIx (zs.map V.str).length 0 lo), ?_, fun y hy => List.mem_of_mem_drop (List.mem_of_mem_take hy), ?_⟩
  · rw [List.map_take, List.map_drop]
  · rw [List.length_take, List.length_drop]
    omega
def lnM : List Str := ["", " ", "a()", "z9(a)", "a(?x)", "b"]
theorem lnM_ok : (lnM.all fun s => decide (s.length ≤ 60) && (tl s).all fun c => decide (c ≠ 10 ∧ c < 128)) = true := by decide +kernel
def sgM : List Str := ["", "a", ",", "(", ")", " ", "?", "\n", "0", "Z"]
theorem sgM_ok : (sgM.all fun s => decide (s.length ≤ 1) && (tl s).all fun c => decide (c < 128)) = true := by decide +kernel
theorem lnM_at {i : Nat} (hi : i < lnM.length) : LnOk lnM[i] := by
  have ok := List.all_eq_true.mp lnM_ok _ (List.getElem_mem hi)
  rw [Bool.and_eq_true, decide_eq_true_iff, List.all_eq_true] at ok
  refine ⟨ok.1, fun c hc => ?_⟩
  have := of_decide_eq_true (ok.2 c hc)
  exact ⟨this.1, Nat.lt_trans this.2 (by decide)⟩
theorem cut_mem {z : Str} {lo hi : Option Int} {c : Nat} (h : c ∈ tl (cutS z lo hi)) : c ∈ tl z := List.mem_of_mem_drop (List.mem_of_mem_take h)
theorem cut_from (z : Str) (k : Nat) : tl (cutS z (some (k : Int)) none) = (tl z).drop k := by
  show ((tl z).drop (HT.sIx z.length 0 (some (k : Int)))).take (HT.sIx z.length z.length none - HT.sIx z.length 0 (some (k : Int))) = _
  rw [HT.sIx_nat, HT.sIx_none, len_tl z]
  rcases Nat.le_total k (tl z).length with h | h
  · rw [Nat.min_eq_left h]
    refine List.take_of_length_le ?_
    rw [List.length_drop]
    omega
  · rw [Nat.min_eq_right h, List.drop_of_length_le h, List.drop_of_length_le (Nat.le_refl _), List.take_nil]
theorem cut_two {z : Str} {j k : Nat} (h : j ≤ k) : (cutS z none (some (j : Int))).length + (cutS z (some (k : Int)) none).length ≤ z.length := by
  rw [len_tl, len_tl, cut_to, cut_from, List.length_take, List.length_drop, len_tl]
  omega
/-- a sign put into a text -/
theorem spo_put {z g : Str} {j k : Nat} (h : j ≤ k) (hz : Spo z) (few : (tl z).count 10 ≤ 49) (lz : z.length ≤ 999) (lg : g.length ≤ 1) (cg : ∀ c ∈ tl g, c < 128) : Spo (cutS z none (some (j : Int)) ++ g ++ cutS z (some (k : Int)) none) := by
  have l2 := cut_two (z := z) h
  refine ⟨⟨by rw [len_app, len_app]; omega, fun c hc => ?_⟩, ?_⟩
  · rw [tl_append, tl_append, List.mem_append, List.mem_append] at hc
    rcases hc with (hc | hc) | hc
    · exact hz.1.2 c (cut_mem hc)
    · exact Nat.lt_trans (cg c hc) (by decide)
    · exact hz.1.2 c (cut_mem hc)
  · rw [tl_append, tl_append, List.count_append, List.count_append, cut_to, cut_from]
    have g1 : (tl g).count 10 ≤ 1 := Nat.le_trans List.count_le_length (by rw [← len_tl]; exact lg)
    have g2 : ((tl z).take j).count 10 + ((tl z).drop k).count 10 ≤ (tl z).count 10 := by
      have e : ((tl z).drop k).count 10 ≤ ((tl z).drop j).count 10 := by
        have : (tl z).drop k = ((tl z).drop j).drop (k - j) := by rw [List.drop_drop]; congr 1; omega
        rw [this]
        exact (List.drop_sublist _ _).count_le _
      have e2 : ((tl z).take j).count 10 + ((tl z).drop j).count 10 = (tl z).count 10 := by
        rw [← List.count_append, List.take_append_drop]
      omega
    omega
def spSpo : Sp := fun vs H Q _ => ∃ (a L : Addr) (c : Int) (m : Nat) (zs : List Str), vs = [.ref a, .ref L] ∧ SrcAt H a c (m + 6) ∧ H L = some (.lst (zs.map V.str)) ∧ L ≠ a ∧ zs.length ≤ 6 ∧ (∀ z ∈ zs, LnOk z) ∧
  ∀ (y : Str) (H' : Hp), Spo y → SrcAt H' a c m → Keep a H H' → Q (.str y) H'
section
variable {P : Program} {w : World} {K : PySem.W.Frag} {mg : Str → Option Value} {base : Heap}
abbrev nSpo : List Str := ["_law_source_here", "_law_lines", "_law_way", "_law_place", "_law_line", "_law_text_here", "_law_spot", "_law_sign"]
theorem scSpo : FnScope nSpo ["_law_source_here", "_law_lines"] (defScope sLSpo) := ⟨rfl, rfl, rfl, by decide +kernel, rfl, by decide +kernel, by decide +kernel⟩
theorem ok_spo {f fD : Addr} {fd fdD : FuncData} (F : Fun K "_law_spoiled" "_law_spoiled" sLSpo f fd)
    (GD : FnOk P w K mg base CX0 1 fD fdD ["_law_source_here", "_law_limit"] spDraw) (kD : PySem.W.keepIn K (.ref fD) = true) (bD : Binds K fdD ["_law_source_here", "_law_limit"] []) (mD : mg "_law_draw" = some (.ref fD))
    (ml : mg "len" = none) :
    FnOk P w K mg base CX0 2 f fd ["_law_source_here", "_law_lines"] spSpo := by
  refine F.ok scSpo (fun vs H Q E h => ?_) (fun cdv A outer s H vs Q E hr h => ?_)
  · obtain ⟨a, L, c, m, zs, rfl, _⟩ := h
    rfl
  · obtain ⟨a, L, c, m, zs, rfl, hs, hL, La, few, ok, k⟩ := h
    have hr1 : Room 1 _ := hr.mono (by decide)
    refine ⟨_, pss_cons (ps_set (i := 2) scSpo.nd rfl (Or.inl rfl) (pe_call GD hr1 (by rfl) mD kD bD .nil pass0 (pa_cons (pv 0) (pa_cons pe_int pa_nil))))
      (pss_cons (ps_set (i := 3) scSpo.nd rfl (Or.inl rfl) (pe_call GD hr1 (by rfl) mD kD bD .nil pass0 (pa_cons (pv 0) (pa_cons (pe_op op_add (pe_callB call_len_seq (by rfl) ml (by decide +kernel) (pa_cons (pv 1) pa_nil)) pe_int) pa_nil))))
      (pss_cons (ps_if (pt_cmpR op_eq (pv 2) pe_int (nomark _)) (pss_one (ps_ret (pe_join pe_str (pe_op op_cat (pe_slice sl_list (pv 1) po_none (po_some (pv 3))) (pe_slice sl_list (pv 1) (po_some (pe_op op_add (pv 3) pe_int)) po_none))))) pss_nil)
      (pss_cons (ps_if (pt_cmpR op_eq (pv 2) pe_int (nomark _))
        (pss_cons (ps_set (i := 4) scSpo.nd rfl (Or.inl rfl) (pe_ix ix_list (pe_lst (pa_cons pe_str (pa_cons pe_str (pa_cons pe_str (pa_cons pe_str (pa_cons pe_str (pa_cons pe_str pa_nil)))))))
          (pe_call GD hr1 (by rfl) mD kD bD .nil pass0 (pa_cons (pv 0) (pa_cons pe_int pa_nil))) (fun _ _ => rfl)))
        (pss_one (ps_ret (pe_join pe_str (pe_op op_cat (pe_op op_cat (pe_slice sl_list (pv 1) po_none (po_some (pv 3))) (pe_lst (pa_cons (pv 4) pa_nil))) (pe_slice sl_list (pv 1) (po_some (pv 3)) po_none)))))) pss_nil)
      (pss_cons (ps_if (pt_cmpR op_eq (pv 2) pe_int (nomark _)) (pss_one (ps_ret (pe_join pe_str (pe_op op_cat (pv 1) (pe_slice sl_list (pv 1) (po_some (pv 3)) (po_some (pe_op op_add (pv 3) pe_int))))))) pss_nil)
      (pss_cons (ps_if (pt_cmpR op_eq (pv 2) pe_int (nomark _)) (pss_one (ps_ret (pe_join pe_str (pe_revL (pv 1))))) pss_nil)
      (pss_cons (ps_set (i := 5) scSpo.nd rfl (Or.inl rfl) (pe_join pe_str (pv 1)))
      (pss_cons (ps_set (i := 6) scSpo.nd rfl (Or.inl rfl) (pe_call GD hr1 (by rfl) mD kD bD .nil pass0 (pa_cons (pv 0) (pa_cons (pe_op op_add (pe_callB call_len_str (by rfl) ml (by decide +kernel) (pa_cons (pv 5) pa_nil)) pe_int) pa_nil))))
      (pss_cons (ps_set (i := 7) scSpo.nd rfl (Or.inl rfl) (pe_ix ix_list (pe_lst (pa_cons pe_str (pa_cons pe_str (pa_cons pe_str (pa_cons pe_str (pa_cons pe_str (pa_cons pe_str (pa_cons pe_str (pa_cons pe_str (pa_cons pe_str (pa_cons pe_str pa_nil)))))))))))
          (pe_call GD hr1 (by rfl) mD kD bD .nil pass0 (pa_cons (pv 0) (pa_cons pe_int pa_nil))) (fun _ _ => rfl)))
      (pss_one (ps_ret (pe_op op_add_str (pe_op op_add_str (pe_slice sl_str (pv 5) po_none (po_some (pv 6))) (pv 7))
        (pe_slice sl_str (pv 5) (po_some (pe_op op_add (pv 6) (pe_call GD hr1 (by rfl) mD kD bD .nil pass0 (pa_cons (pv 0) (pa_cons pe_int pa_nil))))) po_none)))))))))))), ?_⟩
    have lz : (zs.map V.str).length = zs.length := List.length_map _
    refine ⟨_, rfl, a, c, m + 5, 6, rfl, hs, by decide, by decide, fun r1 H1 r10 r11 s1 k1 => ?_⟩
    have hL1 := k1 _ _ hL La
    refine ⟨_, rfl, _, rfl, L, _, rfl, .inl (SqL.of hL1), _, _, rfl, rfl, a, c, m + 4, _, rfl, s1, by omega, by omega, fun r2 H2 r20 r21 s2 k2 => ?_⟩
    have hL2 := k2 _ _ hL1 La
    have k02 := k1.trans k2
    obtain ⟨j, rfl⟩ : ∃ j : Nat, r2 = j := ⟨r2.toNat, by omega⟩
    have fin : ∀ (ys : List Str) (H' : Hp), (∀ y ∈ ys, LnOk y) → ys.length ≤ 13 → SrcAt H' a c m → Keep a H H' → Q (.str (Txt.join nlS ys)) H' := fun ys H' h l s' k' => k _ H' (spo_join h l) s' k'
    have c1 : nlS.length = 1 := by decide +kernel
    have sz : ∀ ys : List Str, (∀ y ∈ ys, LnOk y) → ys.length ≤ 13 → (ys.map fun y => y.length).sum ≤ ys.length * 60 := fun ys h l => sum_le 60 ys fun y hy => (h y hy).1
    refine ⟨_, rfl, rfl, _, rfl, ite2 (fun w0 => ?_) (fun w0 => ?_)⟩
    · -- a line left out
      refine ⟨⟨_, rfl⟩, _, rfl, _, rfl, _, rfl, L, _, rfl, SqL.of hL2, fun p1 n1 => ?_⟩
      obtain ⟨ys1, e1, m1, l1⟩ := cut_strs zs none (some (j : Int))
      rw [e1]
      have u1 : Same H2 (upd H2 p1 (.lst (ys1.map V.str))) := same_new n1
      have h1 : (upd H2 p1 (.lst (ys1.map V.str))) p1 = some (.lst (ys1.map V.str)) := upd_same
      generalize upd H2 p1 (.lst (ys1.map V.str)) = H3 at u1 h1 ⊢
      refine ⟨_, rfl, _, rfl, _, _, rfl, rfl, _, rfl, L, _, rfl, SqL.of (u1 _ _ hL2), fun p2 n2 => ?_⟩
      obtain ⟨ys2, e2, m2, l2⟩ := cut_strs zs (some ((j : Int) + 1)) none
      rw [e2]
      have u2 : Same H3 (upd H3 p2 (.lst (ys2.map V.str))) := same_new n2
      have h2 : (upd H3 p2 (.lst (ys2.map V.str))) p2 = some (.lst (ys2.map V.str)) := upd_same
      generalize upd H3 p2 (.lst (ys2.map V.str)) = H4 at u2 h2 ⊢
      refine ⟨p1, p2, _, _, rfl, rfl, u2 _ _ h1, h2, by rw [List.length_map, List.length_map, sizeLine_eq]; omega, fun p3 n3 => ?_⟩
      rw [← List.map_append]
      have u3 : Same H4 (upd H4 p3 (.lst ((ys1 ++ ys2).map V.str))) := same_new n3
      have okY : ∀ y ∈ ys1 ++ ys2, LnOk y := fun y hy => ok y ((List.mem_append.mp hy).elim (m1 y) (m2 y))
      have lY : (ys1 ++ ys2).length ≤ 13 := by rw [List.length_append]; omega
      have := sz _ okY lY
      refine ⟨_, p3, ys1 ++ ys2, rfl, rfl, .inl (SqL.of upd_same), by rw [show (Str.ofString "\n").length = 1 from c1]; omega, ?_⟩
      exact fin _ _ okY lY (s2.same ((u1.trans u2).trans u3) |>.mono (by omega)) (k02.trans (Keep.of ((u1.trans u2).trans u3)))
    refine ⟨_, rfl, rfl, _, rfl, ite2 (fun w1 => ?_) (fun w1 => ?_)⟩
    · -- a line put in
      refine ⟨by show 6 ≤ sizeLine; decide, fun p np => ?_⟩
      have z0 := s2.ne np
      have u0 : Same H2 (upd H2 p (.lst (lnM.map V.str))) := same_new np
      refine ⟨_, rfl, a, c, m + 3, 6, rfl, s2.same u0, by decide, by decide, fun r3 H3 r30 r31 s3 k3 => ?_⟩
      obtain ⟨i, rfl⟩ : ∃ i : Nat, r3 = i := ⟨r3.toNat, by omega⟩
      have hi : i < lnM.length := by
        show i < 6
        omega
      have hp : H3 p = some (.lst (lnM.map V.str)) := k3 _ _ upd_same z0
      have hL3 := k3 _ _ (u0 _ _ hL2) La
      have okG := lnM_at hi
      refine ⟨p, _, _, _, rfl, rfl, SqL.of hp, atI_nat (strs_get hi), ?_⟩
      generalize lnM[i] = g at okG
      have k03 := (k02.trans (Keep.of u0)).trans k3
      refine ⟨⟨_, rfl⟩, _, rfl, _, rfl, _, rfl, L, _, rfl, SqL.of hL3, fun p1 n1 => ?_⟩
      obtain ⟨ys1, e1, m1, l1⟩ := cut_strs zs none (some (j : Int))
      rw [e1]
      have u1 : Same H3 (upd H3 p1 (.lst (ys1.map V.str))) := same_new n1
      have h1 : (upd H3 p1 (.lst (ys1.map V.str))) p1 = some (.lst (ys1.map V.str)) := upd_same
      generalize upd H3 p1 (.lst (ys1.map V.str)) = H4 at u1 h1 ⊢
      refine ⟨_, rfl, by show 1 ≤ sizeLine; decide, fun p2 n2 => ?_⟩
      have u2 : Same H4 (upd H4 p2 (.lst [.str g])) := same_new n2
      have h2 : (upd H4 p2 (.lst [.str g])) p2 = some (.lst [.str g]) := upd_same
      generalize upd H4 p2 (.lst [.str g]) = H5 at u2 h2 ⊢
      refine ⟨p1, p2, _, _, rfl, rfl, u2 _ _ h1, h2, by rw [List.length_map, sizeLine_eq]; show ys1.length + 1 ≤ _; omega, fun p3 n3 => ?_⟩
      have e3 : ys1.map V.str ++ [V.str g] = (ys1 ++ [g]).map V.str := by rw [List.map_append]; rfl
      rw [e3]
      have u3 : Same H5 (upd H5 p3 (.lst ((ys1 ++ [g]).map V.str))) := same_new n3
      have h3 : (upd H5 p3 (.lst ((ys1 ++ [g]).map V.str))) p3 = some (.lst ((ys1 ++ [g]).map V.str)) := upd_same
      generalize upd H5 p3 (.lst ((ys1 ++ [g]).map V.str)) = H6 at u3 h3 ⊢
      refine ⟨_, rfl, _, rfl, _, rfl, L, _, rfl, SqL.of (u3 _ _ (u2 _ _ (u1 _ _ hL3))), fun p4 n4 => ?_⟩
      obtain ⟨ys2, e2, m2, l2⟩ := cut_strs zs (some (j : Int)) none
      rw [e2]
      have u4 : Same H6 (upd H6 p4 (.lst (ys2.map V.str))) := same_new n4
      have h4 : (upd H6 p4 (.lst (ys2.map V.str))) p4 = some (.lst (ys2.map V.str)) := upd_same
      generalize upd H6 p4 (.lst (ys2.map V.str)) = H7 at u4 h4 ⊢
      refine ⟨p3, p4, _, _, rfl, rfl, u4 _ _ h3, h4, by rw [List.length_map, List.length_map, List.length_append, sizeLine_eq]; show ys1.length + 1 + _ ≤ _; omega, fun p5 n5 => ?_⟩
      rw [← List.map_append]
      have u5 : Same H7 (upd H7 p5 (.lst ((ys1 ++ [g] ++ ys2).map V.str))) := same_new n5
      have okY : ∀ y ∈ ys1 ++ [g] ++ ys2, LnOk y := fun y hy => by
        rcases List.mem_append.mp hy with hy | hy
        · rcases List.mem_append.mp hy with hy | hy
          · exact ok y (m1 y hy)
          · rw [List.mem_singleton.mp hy]
            exact okG
        · exact ok y (m2 y hy)
      have lY : (ys1 ++ [g] ++ ys2).length ≤ 13 := by
        rw [List.length_append, List.length_append]
        show ys1.length + 1 + _ ≤ _
        omega
      have := sz _ okY lY
      have uu := (((u1.trans u2).trans u3).trans u4).trans u5
      refine ⟨_, p5, ys1 ++ [g] ++ ys2, rfl, rfl, .inl (SqL.of upd_same), by rw [show (Str.ofString "\n").length = 1 from c1]; omega, ?_⟩
      exact fin _ _ okY lY ((s3.same uu).mono (by omega)) (k03.trans (Keep.of uu))
    refine ⟨_, rfl, rfl, _, rfl, ite2 (fun w2 => ?_) (fun w2 => ?_)⟩
    · -- a line twice
      refine ⟨⟨_, rfl⟩, _, rfl, _, rfl, _, rfl, _, rfl, _, rfl, _, _, rfl, rfl, _, rfl, L, _, rfl, SqL.of hL2, fun p1 n1 => ?_⟩
      obtain ⟨ys1, e1, m1, l1⟩ := cut_strs zs (some (j : Int)) (some ((j : Int) + 1))
      rw [e1]
      have u1 : Same H2 (upd H2 p1 (.lst (ys1.map V.str))) := same_new n1
      have h1 : (upd H2 p1 (.lst (ys1.map V.str))) p1 = some (.lst (ys1.map V.str)) := upd_same
      generalize upd H2 p1 (.lst (ys1.map V.str)) = H3 at u1 h1 ⊢
      refine ⟨L, p1, _, _, rfl, rfl, u1 _ _ hL2, h1, by rw [List.length_map, List.length_map, sizeLine_eq]; omega, fun p3 n3 => ?_⟩
      rw [← List.map_append]
      have u3 : Same H3 (upd H3 p3 (.lst ((zs ++ ys1).map V.str))) := same_new n3
      have okY : ∀ y ∈ zs ++ ys1, LnOk y := fun y hy => ok y ((List.mem_append.mp hy).elim id (m1 y))
      have lY : (zs ++ ys1).length ≤ 13 := by rw [List.length_append]; omega
      have := sz _ okY lY
      refine ⟨_, p3, zs ++ ys1, rfl, rfl, .inl (SqL.of upd_same), by rw [show (Str.ofString "\n").length = 1 from c1]; omega, ?_⟩
      exact fin _ _ okY lY ((s2.same (u1.trans u3)).mono (by omega)) (k02.trans (Keep.of (u1.trans u3)))
    refine ⟨_, rfl, rfl, _, rfl, ite2 (fun w3 => ?_) (fun w3 => ?_)⟩
    · -- the other way round
      refine ⟨⟨_, rfl⟩, _, rfl, L, _, rfl, SqL.of hL2, fun p3 n3 => ?_⟩
      rw [← List.map_reverse]
      have u3 : Same H2 (upd H2 p3 (.lst (zs.reverse.map V.str))) := same_new n3
      have okY : ∀ y ∈ zs.reverse, LnOk y := fun y hy => ok y (List.mem_reverse.mp hy)
      have lY : zs.reverse.length ≤ 13 := by rw [List.length_reverse]; omega
      have := sz _ okY lY
      refine ⟨_, p3, zs.reverse, rfl, rfl, .inl (SqL.of upd_same), by rw [show (Str.ofString "\n").length = 1 from c1]; omega, ?_⟩
      exact fin _ _ okY lY ((s2.same u3).mono (by omega)) (k02.trans (Keep.of u3))
    -- a sign put in, taken out or replaced
    have sm := sz zs ok (by omega)
    refine ⟨⟨_, rfl⟩, _, rfl, _, L, zs, rfl, rfl, .inl (SqL.of hL2), by rw [show (Str.ofString "\n").length = 1 from c1]; omega, ?_⟩
    have hj := spo_join ok (by omega)
    have lj := join_bd fun y hy => (ok y hy).1
    have cj : (tl (Txt.join nlS zs)).count 10 ≤ 49 := by
      rw [join_eq, tl_join, tl_nl]
      have g := count_le (zs.map tl) fun p hp q => by
        obtain ⟨y, hy, rfl⟩ := List.mem_map.mp hp
        exact ((ok y hy).2 10 q).1 rfl
      rw [List.length_map] at g
      omega
    have ej : Txt.join (Str.ofString "\n") zs = Txt.join nlS zs := rfl
    rw [ej]
    generalize Txt.join nlS zs = z at hj lj cj ⊢
    have szl : z.length ≤ sizeLine := by rw [sizeLine_eq]; omega
    refine ⟨_, rfl, _, rfl, z, rfl, szl, _, _, rfl, rfl, a, c, m + 3, _, rfl, s2.mono (by omega), by omega, by omega, fun r3 H3 r30 r31 s3 k3 => ?_⟩
    obtain ⟨n, rfl⟩ : ∃ j : Nat, r3 = j := ⟨r3.toNat, by omega⟩
    refine ⟨by show 10 ≤ sizeLine; decide, fun p np => ?_⟩
    have z0 := s3.ne np
    have u0 : Same H3 (upd H3 p (.lst (sgM.map V.str))) := same_new np
    refine ⟨_, rfl, a, c, m + 2, 10, rfl, s3.same u0, by decide, by decide, fun r4 H4 r40 r41 s4 k4 => ?_⟩
    obtain ⟨i, rfl⟩ : ∃ i : Nat, r4 = i := ⟨r4.toNat, by omega⟩
    have hi : i < sgM.length := by
      show i < 10
      omega
    have hp : H4 p = some (.lst (sgM.map V.str)) := k4 _ _ upd_same z0
    have okG := List.all_eq_true.mp sgM_ok _ (List.getElem_mem hi)
    rw [Bool.and_eq_true, decide_eq_true_iff, List.all_eq_true] at okG
    obtain ⟨lg, cg⟩ := okG
    refine ⟨p, _, _, _, rfl, rfl, SqL.of hp, atI_nat (strs_get hi), ?_⟩
    generalize sgM[i] = g at lg cg
    have l1 := cutS_length z none (some (n : Int))
    refine ⟨_, rfl, _, rfl, _, rfl, z, rfl, szl, _, rfl, _, _, rfl, rfl, by rw [sizeLine_eq]; omega, ?_⟩
    refine ⟨_, rfl, _, rfl, _, rfl, a, c, m + 1, 2, rfl, s4, by decide, by decide, fun r5 H5 r50 r51 s5 k5 => ?_⟩
    refine ⟨_, _, rfl, rfl, _, rfl, z, rfl, szl, _, _, rfl, rfl, ?_⟩
    obtain ⟨q, rfl⟩ : ∃ q : Nat, r5 = q := ⟨r5.toNat, by omega⟩
    have e : ((n : Int) + (q : Int)) = ((n + q : Nat) : Int) := by omega
    rw [e]
    have l2 := cut_two (z := z) (j := n) (k := n + q) (by omega)
    refine ⟨by rw [len_app, sizeLine_eq]; omega, ?_⟩
    exact k _ H5 (spo_put (by omega) hj cj (by omega) lg (fun x hx => of_decide_eq_true (cg x hx))) (s5.mono (by omega)) ((((k02.trans k3).trans (Keep.of u0)).trans k4).trans k5)
end
end L2.LawH
set_option Elab.async false
set_option linter.all false
set_option maxRecDepth 100000
set_option maxHeartbeats 8000000
/-! The law on texts of stores: its rows. -/
namespace L2.LawH
open PySem PySem.Spec PyProof.Rows L2.TxtSet TL L2.NSet L2.ClsCall
open Builtin.Int (intBits)
abbrev sLaw : Stmt := top 34
def spLaw (K : PySem.W.Frag) : Sp := fun vs H Q _ => ∃ (a : Addr) (ns : List Int), vs = [.ref a] ∧ SqL K H a (ns.map V.int) ∧ ns.length ≤ 63 ∧
  (∀ n ∈ ns, intBits n ≤ 1048576) ∧ ∀ H', Q (.bl true) H'
theorem Fun.kc1 {K : PySem.W.Frag} {x qual : Str} {st : Stmt} {f : Addr} {fd : FuncData} (F : Fun K x qual st f fd) {p q : Str} (h : ∀ (kV doc pm : Value) (an : Option Addr) (cdv ct : Value) (u v : Value), bindArgs (PySem.W.fnOf x qual (defArgs st) (defBody st) (defScope st) .none kV doc pm an cdv ct) ⟨[u], [(q, v)]⟩ = pure [(p, u), (q, v)]) :
    KBn K fd [p, q] 1 [q] (fun us ws => us ++ ws) (fun vs zs => vs ++ zs) := by
  obtain ⟨oc, od, kV, doc, pm, an, cdv, ct, osl, rfl, lk, hcd⟩ := F.ex
  refine ⟨fun s us ws _ l1 l2 => ?_, fun r1 r2 => r1.append r2⟩
  match us, l1, ws, l2 with
  | [u], _, [v], _ => exact .of_eq (h kV doc pm an cdv ct u v)
abbrev gK : List Value → List Value → List Value := fun us ws => us ++ ws
abbrev vK : List V → List V → List V := fun vs zs => vs ++ zs
theorem cut_ints {ns : List Int} (hb : ∀ z ∈ ns, intBits z ≤ 1048576) {i : Nat} {v : V} (lo hi : Option Int)
    (h : (cutV (ns.map V.int) lo hi ++ [V.int 0])[i]? = some v) : ∃ z, v = .int z ∧ intBits z ≤ 1048576 := by
  have hm := List.mem_of_getElem? h
  rcases List.mem_append.mp hm with q | q
  · have q2 : v ∈ ns.map V.int := List.mem_of_mem_drop (List.mem_of_mem_take q)
    obtain ⟨z, hz, rfl⟩ := List.mem_map.mp q2
    exact ⟨z, rfl, hb z hz⟩
  · have q2 : v = .int 0 := by simpa using q
    exact ⟨0, q2, by decide⟩
theorem eqv_self {d : PyData} (h : SeqAt.shaped d = true) : PyData.eqv d d = true := by
  unfold SeqAt.shaped at h
  rw [Bool.and_eq_true] at h
  exact SeqAt.eqv_refl d h.1
theorem shaped_int (i : Int) : SeqAt.shaped (.int i) = true := by
  unfold SeqAt.shaped
  simp [PyData.canLay0, PyData.depth]
theorem op_eqDK {X : Cx} {K : PySem.W.Frag} (e : X.K = K) (hu : X.A.units + 64 < cLine) : OpR X (compareOp .Eq) (rEqD K) := by
  subst e
  exact op_eqD hu
theorem spo1 : Spo (Str.ofString "\n") := by
  unfold Spo Rdb
  decide +kernel
theorem spo2 : Spo (Str.ofString "a()\n") := by
  unfold Spo Rdb
  decide +kernel
theorem spo3 : Spo (Str.ofString "b()\na()") := by
  unfold Spo Rdb
  decide +kernel
theorem spo4 : Spo (Str.ofString "") := by
  unfold Spo Rdb
  decide +kernel
theorem go1 : go (lns (Str.ofString "\n")) [] 1 = .inl 1 := by decide +kernel
theorem go2 : go (lns (Str.ofString "a()\n")) [] 1 = .inl 2 := by decide +kernel
theorem go3 : go (lns (Str.ofString "b()\na()")) [] 1 = .inl 2 := by decide +kernel
theorem go4 : go (lns (Str.ofString "")) [] 1 = .inr [] := by decide +kernel
/-- the class Store, its == among the rest -/
structure EqC (P : Program) (w : World) (K : PySem.W.Frag) (mg : Str → Option Value) (base : Heap) (C f : Addr) (fd : FuncData) : Prop where
  G : FnOk P w K mg base CX0 3 f fd ["self", "other"] (spEq (RS C))
  o : PySem.W.mroIn K C (.type "object") = some true
  ne : PySem.W.findIn K (.ref C) "__ne__" = some (some (.builtin "object.__ne__"))
  eq : PySem.W.findIn K (.ref C) "__eq__" = some (some (.ref f))
  fn : PySem.W.isFn K (.ref f) = true
  b : Binds K fd ["self", "other"] []
section
variable {P : Program} {w : World} {K : PySem.W.Frag} {mg : Str → Option Value} {base : Heap}
abbrev nLaw : List Str := ["_law_script", "_law_cell", "_law_source_here", "_law_facts_here", "_law_lines", "_law_store", "_law_k", "_law_text_here", "_law_fact"]
theorem scLaw : FnScope nLaw ["_law_script"] (defScope sLaw) := ⟨rfl, rfl, rfl, by decide +kernel, rfl, by decide +kernel, by decide +kernel⟩
theorem ok_law {f fS fPo fLF fX fTo fDu fSp fI fE fT fR pR C : Addr} {mc : Value} {fd fdS fdPo fdLF fdX fdTo fdDu fdSp fdI fdE fdT fdR : FuncData} (F : Fun K "law" "law" sLaw f fd)
    (GS : FnOk P w K mg base CX0 1 fS fdS ["_law_cell"] spSource) (kS : PySem.W.keepIn K (.ref fS) = true) (bS : Binds K fdS ["_law_cell"] []) (mS : mg "_law_source" = some (.ref fS))
    (GPo : FnOk P w K mg base CX0 4 fPo fdPo ["_law_source_here"] spPool) (kPo : PySem.W.keepIn K (.ref fPo) = true) (bPo : Binds K fdPo ["_law_source_here"] []) (mPo : mg "_law_pool" = some (.ref fPo))
    (GLF : FnOk P w K mg base CX0 4 fLF fdLF ["_law_source_here", "_law_pool_here", "_law_most"] spLFacts) (kLF : PySem.W.keepIn K (.ref fLF) = true) (bLF : Binds K fdLF ["_law_source_here", "_law_pool_here", "_law_most"] []) (mLF : mg "_law_facts" = some (.ref fLF))
    (GX : FnOk P w K mg base CX0 1 fX fdX ["_law_pattern_here"] spPtx) (kX : PySem.W.keepIn K (.ref fX) = true) (bX : Binds K fdX ["_law_pattern_here"] []) (mX : mg "_law_text" = some (.ref fX))
    (GTo : FnOk P w K mg base CX0 8 fTo fdTo ["_law_text_here"] spDue) (kTo : PySem.W.keepIn K (.ref fTo) = true) (bTo : Binds K fdTo ["_law_text_here"] []) (mTo : mg "_law_told" = some (.ref fTo))
    (GDu : FnOk P w K mg base CX0 5 fDu fdDu ["_law_text_here"] spDue) (kDu : PySem.W.keepIn K (.ref fDu) = true) (bDu : Binds K fdDu ["_law_text_here"] []) (mDu : mg "_law_due" = some (.ref fDu))
    (GSp : FnOk P w K mg base CX0 2 fSp fdSp ["_law_source_here", "_law_lines"] spSpo) (kSp : PySem.W.keepIn K (.ref fSp) = true) (bSp : Binds K fdSp ["_law_source_here", "_law_lines"] []) (mSp : mg "_law_spoiled" = some (.ref fSp))
    (M : Mk K C fI) (GI : FnOk P w K mg base CX0 5 fI fdI ["self", "facts"] (spInitS C K)) (bI : Binds K fdI ["self", "facts"] []) (mC : mg "Store" = some (.ref C)) (cl : Cls K C)
    (E : EqC P w K mg base C fE fdE)
    (hT : Meth K C "text" fT) (GT : FnOk P w K mg base CX0 2 fT fdT ["self"] (spTextS C)) (bT : Binds K fdT ["self"] [])
    (rR : ClX.CRead K C mc) (cR : ClX.CMet K C mc "read" pR fR) {B : Addr} (GR : FnOk P w K mg base (L2.CX P w) 7 fR fdR ["cls", "text"] (spReadS C B)) (bR : KBn K fdR ["cls", "text"] 1 ["text"] gK vK)
    (mr : mg "range" = none) :
    FnOk P w K mg base CX0 9 f fd ["_law_script"] (spLaw K) := by
  refine F.ok scLaw (fun vs H Q E h => ?_) (fun cdv A' outer s H vs Q E' hr h => ?_)
  · obtain ⟨a, ns, rfl, _⟩ := h
    rfl
  · obtain ⟨a, ns, rfl, hS, hlen, hbits, k⟩ := h
    have hr1 : Room 1 _ := hr.mono (by decide)
    have hr2 : Room 2 _ := hr.mono (by decide)
    have hr4 : Room 4 _ := hr.mono (by decide)
    have hr5 : Room 5 _ := hr.mono (by decide)
    have hr6 : Room 6 _ := hr.mono (by decide)
    have hr7 : Room 7 _ := hr.mono (by decide)
    have hr8 : Room 8 _ := hr.mono (by decide)
    have hu := hr.units
    refine ⟨_, pss_cons (ps_for PassesOwn.never rfl (pi_list (pe_op op_cat (pe_slice sl_list (pv 0) po_none (po_some pe_int)) (pe_lst (pa_cons pe_int pa_nil)))) (pg_name (i := 1) scLaw.nd rfl (Or.inl rfl))
      (pss_cons (ps_set (i := 2) scLaw.nd rfl (Or.inl rfl) (pe_call GS hr1 (by rfl) mS kS bS .nil pass0 (pa_cons (pv 1) pa_nil)))
      (pss_cons (ps_set (i := 3) scLaw.nd rfl (Or.inl rfl) (pe_call GLF hr4 (by rfl) mLF kLF bLF .nil pass0 (pa_cons (pv 2) (pa_cons (pe_call GPo hr4 (by rfl) mPo kPo bPo .nil pass0 (pa_cons (pv 2) pa_nil)) (pa_cons pe_int pa_nil)))))
      (pss_cons (ps_setLc (i := 4) (own := [("_law_fact", 8)]) (g := gName 8) (tt := tYes) rfl scLaw.nd rfl rfl (sw_true rfl rfl rfl (by decide +kernel)) (pi_list (pv 3))
          (blkOk_by (own := [("_law_fact", 8)]) (N := nLaw) (sc := defScope sLaw) (by decide +kernel)) (fun _ _ _ _ _ => pg_name (i := 8) scLaw.nd rfl (Or.inl rfl)) (fun _ _ _ _ _ => pts_nil)
          (fun _ _ _ _ _ => pe_call GX hr1 (by rfl) mX kX bX .nil pass0 (pa_cons (pv 8) pa_nil)))
      (pss_cons (ps_set (i := 5) scLaw.nd rfl (Or.inl rfl) (pe_make M GI hr6 (by rfl) mC bI .nil pass0 (pa_cons (pv 3) pa_nil)))
      (pss_cons (ps_if (PW.pt (pw_or (pt_cmpR op_ne (pe_meth0 (pv 5) cl hT GT hr2 bT .nil pass0) (pe_join pe_str (pv 4)) (nomark _))
          (pw_or1 (pt_cmpR (op_neDK (K := K) rfl hu) (pe_call GTo hr8 (by rfl) mTo kTo bTo .nil pass0 (pa_cons (pe_join pe_str (pv 4)) pa_nil)) (pv 3) (nomark _))))) (pss_one (ps_ret pe_bl)) pss_nil)
      (pss_cons (ps_if (pt_cmpR (op_neG (ncG_ins E.G E.o E.ne E.eq E.fn E.b pass0) hr4) (pe_cmethK (pe_glob (v := .ref C) (by rfl) mC rfl) rR cR GR hr7 bR (fun σ => passAt takes0 σ) (pk_cons (pe_meth0 (pv 5) cl hT GT hr2 bT .nil pass0) pk_nil)) (pv 5) (nomark _)) (pss_one (ps_ret pe_bl)) pss_nil)
      (pss_one (ps_for PassesOwn.never rfl (pi_range1 (by rfl) mr (pa_cons pe_int pa_nil)) (pg_name (i := 6) scLaw.nd rfl (Or.inl rfl))
        (pss_cons (ps_set (i := 7) scLaw.nd rfl (Or.inl rfl) (pe_call GSp hr2 (by rfl) mSp kSp bSp .nil pass0 (pa_cons (pv 2) (pa_cons (pv 4) pa_nil))))
        (pss_one (ps_if (pt_cmpR (op_neDK (K := K) rfl hu) (pe_call GTo hr8 (by rfl) mTo kTo bTo .nil pass0 (pa_cons (pv 7) pa_nil)) (pe_call GDu hr5 (by rfl) mDu kDu bDu .nil pass0 (pa_cons (pv 7) pa_nil)) (nomark _)) (pss_one (ps_ret pe_bl)) pss_nil))))))))))))
      (pss_one (ps_ret (pe_and (pe_cmpR (op_eqDK (K := K) rfl hu) (pe_call GTo hr8 (by rfl) mTo kTo bTo .nil pass0 (pa_cons pe_str pa_nil)) pe_int (nomark _))
        (pe_and (pe_cmpR (op_eqDK (K := K) rfl hu) (pe_call GTo hr8 (by rfl) mTo kTo bTo .nil pass0 (pa_cons pe_str pa_nil)) pe_int (nomark _))
        (pe_and (pe_cmpR (op_eqDK (K := K) rfl hu) (pe_call GTo hr8 (by rfl) mTo kTo bTo .nil pass0 (pa_cons pe_str pa_nil)) pe_int (nomark _))
        (pe_one (pe_cmpR (op_eqDK (K := K) rfl hu) (pe_call GTo hr8 (by rfl) mTo kTo bTo .nil pass0 (pa_cons pe_str pa_nil)) (pe_lst pa_nil) (nomark _)))))))), ?_⟩
    refine ⟨_, rfl, 5, rfl, a, _, rfl, hS, fun p1 n1 => ⟨(by show 1 ≤ sizeLine; decide), fun p2 n2 => ?_⟩⟩
    have u1 := same_new (o := .lst (cutV (ns.map V.int) none (some 5))) n1
    have u2 := same_new (o := .lst [V.int 0]) n2
    have few : (cutV (ns.map V.int) none (some 5)).length ≤ 63 := by
      refine Nat.le_trans (cutV_length _ _ _) ?_
      rw [List.length_map]
      exact hlen
    refine ⟨p1, p2, _, _, rfl, rfl, u2 _ _ upd_same, upd_same, (by rw [sizeLine_eq]; show _ + 1 ≤ _; omega), fun p3 n3 => ?_⟩
    refine ⟨p3, rfl, ⟨_, SqL.of upd_same⟩, for_list (K := K) (a := p3) (xs := cutV (ns.map V.int) none (some 5) ++ [V.int 0])
      (fun i σ H5 => (∃ v1 v2 v3 v4 v5 v6 v7 v8 : Option V, σ = [some (.ref a), v1, v2, v3, v4, v5, v6, v7, v8]) ∧ H5 p3 = some (.lst (cutV (ns.map V.int) none (some 5) ++ [V.int 0])))
      ⟨⟨none, none, none, none, none, none, none, none, rfl⟩, upd_same⟩ (fun i σ H5 _ h5 => SqL.of h5.2) ?_ ?_⟩
    · rintro i v σ H0 hi ⟨⟨v1, v2, v3, v4, v5, v6, v7, v8, rfl⟩, h3⟩
      obtain ⟨c, rfl, hc⟩ := cut_ints hbits none (some 5) hi
      refine ⟨_, rfl, c, rfl, hc, fun pS H1 s1 nS src1 => ?_⟩
      have zS : p3 ≠ pS := ne_of_none h3 nS
      have k1 : Keep pS H0 H1 := Keep.of s1
      refine ⟨_, rfl, _, rfl, pS, c, 999700, rfl, src1, fun p π H2 hp src2 k2 => ?_⟩
      have k2 := k1.trans k2
      refine ⟨pS, p, c, 1000, 6, π, rfl, by decide, src2.mono (by decide), hp, fun t Fs H3 ht nta each nodup rise few3 src3 k3 => ?_⟩
      have k3 := k2.trans k3
      have asc : Asc (Fs.map (·.2)) := asc_rise nodup rise
      have fct : ∀ d ∈ Fs.map (·.2), Fct d := fun d hd => by
        obtain ⟨x, hx, rfl⟩ := List.mem_map.mp hd
        exact (each x hx).2.2
      -- the lines
      refine ⟨_, rfl, t, rfl, ⟨_, SqL.of ht⟩, fun L nL => ?_⟩
      refine lc_list (K := K) (a := t) (xs := Fs.map fun x => V.ref x.1) (fun i H5 => Same H3 H5 ∧ H5 L = some (.lst ((txts ((Fs.map (·.2)).take i)).map V.str))) ⟨same_new nL, upd_same⟩ (fun i H5 _ q => SqL.of (q.1 _ _ ht)) (fun i z H5 hz q => ?_) (fun H5 q => ?_)
      · obtain ⟨q1, q2⟩ := q
        rw [List.getElem?_map] at hz
        obtain ⟨x, hx, rfl⟩ := Option.map_eq_some_iff.mp hz
        have mx := List.mem_of_getElem? hx
        obtain ⟨e1, e2, e3⟩ := each x mx
        refine ⟨rfl, ?_⟩
        dsimp only [tYes]
        rw [if_pos rfl]
        have l12 := (nm_bds e3.nT).2
        refine ⟨_, rfl, x.1, x.2.1, x.2.2, rfl, q1 _ _ e1, by have := e3.l3; omega, by omega, fun y hy => by have := (nm_bds (e3.nz y hy)).2; omega, fun H6 s6 => ⟨_, s6 _ _ q2, ?_, fun b o h => ?_, ?_⟩⟩
        · unfold txts
          rw [List.length_map, List.length_map, List.length_take, List.length_map, sizeLine_eq]
          omega
        · rw [upd_ne (ne_of_none h nL)]
          exact s6 _ _ (q1 _ _ h)
        · rw [upd_same]
          unfold txts
          rw [List.take_succ, List.getElem?_map, hx, List.map_append, List.map_append]
          rfl
      · obtain ⟨q1, q2⟩ := q
        rw [show (Fs.map fun x => V.ref x.1).length = (Fs.map (·.2)).length by rw [List.length_map, List.length_map], List.take_length] at q2
        have nLS : L ≠ pS := src3.ne nL
        have src5 := src3.same q1
        have k5 := k3.trans (Keep.of q1)
        have ht5 := q1 _ _ ht
        have each5 : ∀ x ∈ Fs, H5 x.1 = some (.tup (ptV x)) := fun x hx => q1 _ _ (each x hx).1
        have nL5 := q2
        clear q1
        -- the store
        refine ⟨_, rfl, ?_⟩
        intro x dx nx ndx ne
        have sU : Same H5 (upd (upd H5 dx (.own x)) x (.ins C dx [])) := fun b o h => by
          rw [upd_ne (ne_of_none h nx), upd_ne (ne_of_none h ndx)]
          exact h
        have hxi : (upd (upd H5 dx (.own x)) x (.ins C dx [])) x = some (.ins C dx []) := upd_same
        generalize upd (upd H5 dx (.own x)) x (.ins C dx []) = H6 at sU hxi ⊢
        refine ⟨x, t, dx, Fs, rfl, hxi, .inl (SqL.of (sU _ _ ht5)), fun y hy => ?_, by omega, fun H7 tM dM M1 keep hx7 htM ntM ndM hdM sub all nodM riseM => ⟨rfl, ?_⟩⟩
        · have fy := (each y hy).2.2
          refine ⟨sU _ _ (each5 y hy), fy.fact, fy.l3, fun v hv => ?_⟩
          rcases List.mem_cons.mp hv with rfl | hv
          · exact .inl ⟨_, rfl, by have := (nm_bds fy.nT).2; omega⟩
          · obtain ⟨w2, hw2, rfl⟩ := List.mem_map.mp hv
            exact .inl ⟨_, rfl, by have := (nm_bds (fy.nz w2 hw2)).2; omega⟩
        have s57 : Same H5 H7 := fun b o h => keep b o (fun e => by rw [e, nx] at h; cases h) (sU _ _ h)
        have eM : M1.map (·.2) = Fs.map (·.2) := asc_one (asc_riseM nodM riseM) asc fun c => ⟨fun h => by
            obtain ⟨y, hy, rfl⟩ := List.mem_map.mp h
            exact List.mem_map.mpr ⟨y, sub y hy, rfl⟩, fun h => by
            obtain ⟨y, hy, rfl⟩ := List.mem_map.mp h
            exact all y hy⟩
        have st7 : StoreAt C H7 x M1 := ⟨dx, tM, dM, hx7, htM, fun y hy => s57 _ _ (each5 y (sub y hy))⟩
        have fM : ∀ y ∈ M1, factB (ptV y) = true := fun y hy => (each y (sub y hy)).2.2.fact
        have lM : M1.length = Fs.length := by
          have := congrArg List.length eM
          rwa [List.length_map, List.length_map] at this
        have eL : linesS M1 = txts (Fs.map (·.2)) := by
          unfold linesS txts
          rw [← eM, List.map_map]
          rfl
        have src7 := src5.same s57
        have k7 := k5.trans (Keep.of s57)
        have ht7 := s57 _ _ ht5
        have hL7 := s57 _ _ nL5
        have each7 : ∀ y ∈ Fs, H7 y.1 = some (.tup (ptV y)) := fun y hy => s57 _ _ (each5 y hy)
        -- the text
        have lsF : (txts (Fs.map (·.2))).length = Fs.length := by
          unfold txts
          rw [List.length_map, List.length_map]
        have lnF : ∀ z ∈ txts (Fs.map (·.2)), LnOk z := fun z hz => by
          obtain ⟨d, hd, rfl⟩ := List.mem_map.mp hz
          exact ⟨(fct d hd).len.2, (fct d hd).signs⟩
        have sumF : ((txts (Fs.map (·.2))).map fun y => y.length).sum ≤ (txts (Fs.map (·.2))).length * 60 := sum_le 60 _ fun y hy => (lnF y hy).1
        have c1 : nlS.length = 1 := by decide +kernel
        have spoF := spo_join lnF (by omega)
        have goF := go_lines fct asc
        have dpF : ∀ {HZ : Hp}, Same H7 HZ → Dp K HZ (.ref t) (.list ((Fs.map (·.2)).map facD)) := fun {HZ} sz => .lst (SqL.of (sz _ _ ht7)) (dp_facts fun x hx => sz _ _ (each7 x hx))
        have shF := shaped_facts fct
        refine ⟨_, rfl, x, dx, _, rfl, hx7, rfl, x, M1, rfl, st7, by omega, fM, fun H8 s8 => ?_⟩
        rw [eL]
        refine ⟨⟨_, rfl⟩, _, rfl, _, L, txts (Fs.map (·.2)), rfl, rfl, .inl (SqL.of (s8 _ _ hL7)), by rw [show (Str.ofString "\n").length = 1 from c1]; omega, ?_⟩
        refine ⟨rfl, _, rfl, ?_⟩
        rw [show (!decide (V.str (Txt.join nlS (txts (Fs.map (·.2)))) = V.str (Txt.join (Str.ofString "\n") (txts (Fs.map (·.2)))))) = false by simp]
        refine iteF ?_
        refine ⟨⟨_, rfl⟩, _, rfl, _, L, txts (Fs.map (·.2)), rfl, rfl, .inl (SqL.of (s8 _ _ hL7)), by rw [show (Str.ofString "\n").length = 1 from c1]; omega, ?_⟩
        refine ⟨Txt.join nlS (txts (Fs.map (·.2))), rfl, spoF.1, lns_few spoF.2, fun n g => ?_, fun cs g H9 l Gs s9 nl hl eachG eG => ?_⟩
        · rw [goF] at g
          cases g
        obtain rfl : cs = Fs.map (·.2) := by
          rw [goF] at g
          exact (Sum.inr.inj g).symm
        have s79 := s8.trans s9
        refine ⟨_, rfl, .list ((Gs.map (·.2)).map facD), _, .lst (SqL.of hl) (dp_facts eachG), dpF s79, by rw [eG]; exact shF, shF, _, rfl, ?_⟩
        rw [eG, eqv_self shF]
        refine iteF ?_
        -- read back
        have st9 := st7.ext (fun b o h => s79 _ _ h)
        refine ⟨rfl, _, rfl, x, dx, _, rfl, s79 _ _ hx7, rfl, x, M1, rfl, st9, by omega, fM, fun H10 s10 => ⟨rfl, ?_⟩⟩
        rw [eL]
        refine ⟨Txt.join nlS (txts (Fs.map (·.2))), rfl, spoF.1, lns_few spoF.2, fun n g => ?_, fun cs g H11 sx M2 s11 nsx st11 mem11 nod11 rise11 => ?_⟩
        · rw [goF] at g
          cases g
        obtain rfl : cs = Fs.map (·.2) := by
          rw [goF] at g
          exact (Sum.inr.inj g).symm
        have s711 := (s79.trans s10).trans s11
        have st711 := st7.ext (fun b o h => s711 _ _ h)
        have e2 : M2.map (·.2) = M1.map (·.2) := by
          rw [eM]
          exact asc_one (asc_riseM nod11 rise11) asc mem11
        obtain ⟨dx2, t2, d2, g1, g2, g3⟩ := id st11
        refine ⟨_, rfl, ⟨sx, x, dx2, dx, _, _, rfl, rfl, g1, s711 _ _ hx7, M2, M1, st11, st711, e2⟩, fun H12 e12 => ⟨_, rfl, iteF ?_⟩⟩
        have s712 : Same H7 H12 := fun b o h => e12 _ _ (s711 _ _ h)
        -- spoiled texts
        refine ⟨_, rfl, by omega, by omega, for_range (lo := 0) (n := 6) (fun j σ H5 => ∃ (w6 w7 w8 : Option V), σ = [some (.ref a), some (.int c), some (.ref pS), some (.ref t), some (.ref L), some (.ref x), w6, w7, w8] ∧
          SrcAt H5 pS c (100 + 10 * (6 - j)) ∧ Keep pS H7 H5) ⟨_, _, _, rfl, (src7.same s712).mono (by decide), Keep.of s712⟩ ?_ ?_⟩
        · rintro j σ H13 hj ⟨w6, w7, w8, rfl, src13, k13⟩
          have hL13 := k13 _ _ hL7 nLS
          refine ⟨_, rfl, _, rfl, pS, L, c, 100 + 10 * (6 - (j + 1)), _, rfl, src13.mono (by omega), hL13, nLS, by omega, lnF, fun y H14 spoY src14 k14 => ?_⟩
          have ends : ∀ (HZ : Hp), Same H14 HZ → ∃ (v6 v7 v8 : Option V), ([some (.ref a), some (.int c), some (.ref pS), some (.ref t), some (.ref L), some (.ref x), some (.int ((0 + j : Nat) : Int)), some (.str y), w8] : St) = [some (.ref a), some (.int c), some (.ref pS), some (.ref t), some (.ref L), some (.ref x), v6, v7, v8] ∧
              SrcAt HZ pS c (100 + 10 * (6 - (j + 1))) ∧ Keep pS H7 HZ := fun HZ sz => ⟨_, _, _, rfl, src14.same sz, (k13.trans k14).trans (Keep.of sz)⟩
          refine ⟨_, rfl, y, rfl, spoY.1, lns_few spoY.2, fun n g H15 s15 => ?_, fun cs g H15 l Gs s15 nl hl eachG eG => ?_⟩
          · refine ⟨_, rfl, y, rfl, spoY.1, lns_few spoY.2, fun n2 g2 H16 s16 => ?_, fun cs g2 => ?_⟩
            · rw [g] at g2
              obtain rfl := Sum.inl.inj g2
              refine ⟨.int (n : Int), .int (n : Int), .int _, .int _, shaped_int _, shaped_int _, _, rfl, ?_⟩
              rw [eqv_self (shaped_int _)]
              exact iteF (ends _ (s15.trans s16))
            · rw [g] at g2
              cases g2
          · refine ⟨_, rfl, y, rfl, spoY.1, lns_few spoY.2, fun n2 g2 => ?_, fun cs2 g2 H16 l2 Gs2 s16 nl2 hl2 each2 eG2 => ?_⟩
            · rw [g] at g2
              cases g2
            · rw [g] at g2
              obtain rfl := Sum.inr.inj g2
              have fs : ∀ d ∈ cs, Fct d := fun d hd => fct_of ((go_facts _ _ _ _ g (fun c hc => nomatch hc)).1 d hd)
              have sh := shaped_facts fs
              refine ⟨.list (cs.map facD), .list (cs.map facD), ?_, ?_, sh, sh, _, rfl, ?_⟩
              · rw [← eG]
                exact .lst (SqL.of (s16 _ _ hl)) (dp_facts fun q hq => s16 _ _ (eachG q hq))
              · rw [← eG2]
                exact .lst (SqL.of hl2) (dp_facts each2)
              · rw [eqv_self sh]
                exact iteF (ends _ (s15.trans s16))
        · rintro σ H13 ⟨w6, w7, w8, rfl, src13, k13⟩
          refine ⟨⟨_, _, _, _, _, _, _, _, rfl⟩, ?_⟩
          have k013 := k7.trans k13
          exact k013 _ _ h3 zS
    · rintro σ HZ ⟨⟨v1, v2, v3, v4, v5, v6, v7, v8, rfl⟩, _⟩
      refine ⟨Str.ofString "\n", rfl, spo1.1, lns_few spo1.2, fun n g H1 s1 => ?_, fun cs g => ?_⟩
      case refine_2 =>
        rw [go1] at g
        cases g
      rw [go1] at g
      obtain rfl := Sum.inl.inj g
      refine ⟨.int 1, .int 1, .int _, .int _, shaped_int _, shaped_int _, ?_⟩
      rw [eqv_self (shaped_int _)]
      refine ⟨true, rfl, iteT ?_⟩
      refine ⟨Str.ofString "a()\n", rfl, spo2.1, lns_few spo2.2, fun n g H2 s2 => ?_, fun cs g => ?_⟩
      case refine_2 =>
        rw [go2] at g
        cases g
      rw [go2] at g
      obtain rfl := Sum.inl.inj g
      refine ⟨.int 2, .int 2, .int _, .int _, shaped_int _, shaped_int _, ?_⟩
      rw [eqv_self (shaped_int _)]
      refine ⟨true, rfl, iteT ?_⟩
      refine ⟨Str.ofString "b()\na()", rfl, spo3.1, lns_few spo3.2, fun n g H3 s3 => ?_, fun cs g => ?_⟩
      case refine_2 =>
        rw [go3] at g
        cases g
      rw [go3] at g
      obtain rfl := Sum.inl.inj g
      refine ⟨.int 2, .int 2, .int _, .int _, shaped_int _, shaped_int _, ?_⟩
      rw [eqv_self (shaped_int _)]
      refine ⟨true, rfl, iteT ?_⟩
      refine ⟨Str.ofString "", rfl, spo4.1, lns_few spo4.2, fun n g => ?_, fun cs g H4 l Gs s4 nl hl each eG => ?_⟩
      case refine_1 =>
        rw [go4] at g
        cases g
      rw [go4] at g
      obtain rfl := Sum.inr.inj g
      refine ⟨by show 0 ≤ sizeLine; decide, fun l0 nl0 => ?_⟩
      have s5 : Same H4 (upd H4 l0 (.lst [])) := same_new nl0
      have h0 : (upd H4 l0 (.lst [])) l0 = some (.lst []) := upd_same
      obtain rfl : Gs = [] := List.map_eq_nil_iff.mp eG
      refine ⟨.list [], .list [], .lst (SqL.of (s5 _ _ hl)) .nil, .lst (SqL.of h0) .nil, by decide +kernel, by decide +kernel, ?_⟩
      exact k _
end
end L2.LawH
set_option Elab.async false
set_option linter.all false
set_option maxRecDepth 100000
set_option maxHeartbeats 0
/-! The law on texts of stores: its end. -/
namespace L2.LawH
open PySem PySem.Spec PyProof.Rows L2.TxtSet TL L2.NSet L2.ClsCall PySem.W
open Builtin.Int (intBits)
/-- a def with the default () -/
theorem fund_mk {K : PySem.W.Frag} {x qual : Str} {st : Stmt} {f TD T0 : Addr} {oc kV doc pm cdv ct : Value} {od an d2 d3 : Option Addr} {osl s2 s3 : Array (Option Value)} {c2 : Value} {n2 n3 : Nat}
    (l : K.lookup f = some ⟨oc, od, .func (PySem.W.fnOf x qual (defArgs st) (defBody st) (defScope st) (.ref TD) kV doc pm an cdv ct), osl⟩) (c : PySem.W.codeIn K cdv qual = true) (k : PySem.W.keepIn K (.ref f) = true)
    (lD : K.lookup TD = some ⟨c2, d2, .seq #[.ref T0] n2, s2⟩) (l0 : K.lookup T0 = some ⟨.type "tuple", d3, .seq #[] n3, s3⟩) :
    ∃ fd T0, FunD K x qual (defArgs st) (defBody st) (defScope st) [.ref T0] [] f fd ∧ ∀ H, SqT K H T0 [] :=
  ⟨_, T0, ⟨⟨oc, od, _, kV, doc, pm, an, cdv, ct, osl, rfl, l, c, .inr ⟨by simp, TD, _, [.ref T0], n2, rfl, lD, rfl, .cons rfl .nil⟩, .inl rfl⟩, k⟩,
    fun H => .inr ⟨_, #[], n3, l0, rfl, rfl, (by show 0 ≤ sizeLine; decide), .nil⟩⟩
theorem all_given {K : PySem.W.Frag} {x qual : Str} {st : Stmt} {T0 : V} {f : Addr} {fd : FuncData} {p1 p2 : Str} (F : FunD K x qual (defArgs st) (defBody st) (defScope st) [T0] [] f fd)
    (h : ∀ (T : Addr) (kV doc pm : Value) (an : Option Addr) (cdv ct : Value) (us its : List Value), us.length = 2 → its.length = 1 →
      ∃ k, bindArgs (PySem.W.fnOf x qual (defArgs st) (defBody st) (defScope st) (.ref T) kV doc pm an cdv ct) ⟨us, []⟩ = seqItems? (.ref T) >>= k ∧ k (some its.toArray) = pure ([p1, p2].zip (us ++ its.drop 1))) : Binds K fd [p1, p2] [] := by
  obtain ⟨ds, v, b⟩ := FunD.binds1 (ps := [p1, p2]) F 2 1 (by simp) rfl h
  cases v
  exact b
theorem one_given {K : PySem.W.Frag} {x qual : Str} {st : Stmt} {T0 : Addr} {f : Addr} {fd : FuncData} {p1 p2 : Str} (F : FunD K x qual (defArgs st) (defBody st) (defScope st) [.ref T0] [] f fd)
    (h : ∀ (T : Addr) (kV doc pm : Value) (an : Option Addr) (cdv ct : Value) (us its : List Value), us.length = 1 → its.length = 1 →
      ∃ k, bindArgs (PySem.W.fnOf x qual (defArgs st) (defBody st) (defScope st) (.ref T) kV doc pm an cdv ct) ⟨us, []⟩ = seqItems? (.ref T) >>= k ∧ k (some its.toArray) = pure ([p1, p2].zip (us ++ its.drop 0))) : Binds K fd [p1, p2] [.ref T0] := by
  obtain ⟨ds, v, b⟩ := FunD.binds1 (ps := [p1, p2]) F 1 0 (by simp) rfl h
  cases v with
  | cons r t =>
    cases t
    cases r
    exact b
theorem exm_self {K : PySem.W.Frag} {B : Addr} (su : PySem.W.subIn K (.ref B) (.type "BaseException") = some true) (ic : PySem.W.isClsIn K B = true) (ty : PySem.W.typeIn K (.ref B) = some (.type "type")) (sB : PySem.W.subIn K (.ref B) (.ref B) = some true) :
    PySem.W.exmOne K (.ref B) (.ref B) = some true := by
  unfold PySem.W.exmOne
  rw [su, if_pos (by decide +kernel)]
  show (if ((PySem.W.clsIn K B).isSome && PySem.W.typeIn K (.ref B) == some (.type "type")) = true then PySem.W.subIn K (.ref B) (.ref B) else none) = _
  have ic' : (PySem.W.clsIn K B).isSome = true := ic
  rw [ic', ty, if_pos (by decide +kernel)]
  exact sB
def Oex (K : PySem.W.Frag) (C : Addr) : Prop := ∃ nm q N bs bm sn sub ab col dd k0 k1 k2 k3 k5, K.lookup C = some (excClassObj nm q C N bs bm true sn sub ab col dd k0 k1 k2 k3 k5 "ValueError.__new__") ∧ PySem.HandSPX.refsVE bm = true
theorem all_mk {P : Program} {w : World} {K : PySem.W.Frag} {h : Heap} {mg : Str → Option Value} {fa fS fD fNm fNs fPo fTm fPt fLF fLN fLT fLP fLX fLO fDu fTo fSp fN fV fP fF fX fR fLn fFT fL fC fI fE fT pF fFs pR fRd fB fBI : Addr} {t3 t4 : Tok}
    (X : K.In h) (G : h.Ns mainGlobals mg) (hfa : mg "law" = some (.ref fa))
    (bS : PySem.W.nsIn K mainGlobals "_law_source" = some (some (.ref fS)))
    (ES : ∃ fd, Fun K "_law_source" "_law_source" sSource fS fd)
    (bD : PySem.W.nsIn K mainGlobals "_law_draw" = some (some (.ref fD)))
    (ED : ∃ fd, Fun K "_law_draw" "_law_draw" sDraw fD fd)
    (bNm : PySem.W.nsIn K mainGlobals "_law_name" = some (some (.ref fNm)))
    (ENm : ∃ fd, Fun K "_law_name" "_law_name" sName fNm fd)
    (bNs : PySem.W.nsIn K mainGlobals "_law_names" = some (some (.ref fNs)))
    (ENs : ∃ fd, Fun K "_law_names" "_law_names" sNames fNs fd)
    (bPo : PySem.W.nsIn K mainGlobals "_law_pool" = some (some (.ref fPo)))
    (EPo : ∃ fd, Fun K "_law_pool" "_law_pool" sPool fPo fd)
    (bTm : PySem.W.nsIn K mainGlobals "_law_term" = some (some (.ref fTm)))
    (ETm : ∃ fd, Fun K "_law_term" "_law_term" sTerm fTm fd)
    (bPt : PySem.W.nsIn K mainGlobals "_law_pattern" = some (some (.ref fPt)))
    (EPt : ∃ fd, Fun K "_law_pattern" "_law_pattern" sPat fPt fd)
    (bLF : PySem.W.nsIn K mainGlobals "_law_facts" = some (some (.ref fLF)))
    (ELF : ∃ fd, Fun K "_law_facts" "_law_facts" sLFacts fLF fd)
    (bLN : PySem.W.nsIn K mainGlobals "_law_is_name" = some (some (.ref fLN)))
    (ELN : ∃ fd, Fun K "_law_is_name" "_law_is_name" sLIN fLN fd)
    (bLT : PySem.W.nsIn K mainGlobals "_law_is_term" = some (some (.ref fLT)))
    (ELT : ∃ fd, Fun K "_law_is_term" "_law_is_term" sLIT fLT fd)
    (bLP : PySem.W.nsIn K mainGlobals "_law_is_pattern" = some (some (.ref fLP)))
    (ELP : ∃ fd, Fun K "_law_is_pattern" "_law_is_pattern" sLIP fLP fd)
    (bLX : PySem.W.nsIn K mainGlobals "_law_text" = some (some (.ref fLX)))
    (ELX : ∃ fd, Fun K "_law_text" "_law_text" sLTx fLX fd)
    (bLO : PySem.W.nsIn K mainGlobals "_law_of_text" = some (some (.ref fLO)))
    (ELO : ∃ fd, Fun K "_law_of_text" "_law_of_text" sLOT fLO fd)
    (bDu : PySem.W.nsIn K mainGlobals "_law_due" = some (some (.ref fDu)))
    (EDu : ∃ fd, Fun K "_law_due" "_law_due" sLDue fDu fd)
    (bTo : PySem.W.nsIn K mainGlobals "_law_told" = some (some (.ref fTo)))
    (ETo : ∃ fd, Fun K "_law_told" "_law_told" sLTold fTo fd)
    (bSp : PySem.W.nsIn K mainGlobals "_law_spoiled" = some (some (.ref fSp)))
    (ESp : ∃ fd, Fun K "_law_spoiled" "_law_spoiled" sLSpo fSp fd)
    (bN : PySem.W.nsIn K mainGlobals "is_name" = some (some (.ref fN)))
    (EN : ∃ fd, Fun K "is_name" "is_name" sIsN fN fd)
    (bV : PySem.W.nsIn K mainGlobals "is_variable" = some (some (.ref fV)))
    (EV : ∃ fd, Fun K "is_variable" "is_variable" sIsV9 fV fd)
    (bP : PySem.W.nsIn K mainGlobals "is_pattern" = some (some (.ref fP)))
    (EP : ∃ fd, Fun K "is_pattern" "is_pattern" sIsP9 fP fd)
    (bF : PySem.W.nsIn K mainGlobals "is_fact" = some (some (.ref fF)))
    (EF : ∃ fd, Fun K "is_fact" "is_fact" sIsF10 fF fd)
    (bX : PySem.W.nsIn K mainGlobals "pattern_text" = some (some (.ref fX)))
    (EX : ∃ fd, Fun K "pattern_text" "pattern_text" sPt12 fX fd)
    (bR : PySem.W.nsIn K mainGlobals "read_pattern" = some (some (.ref fR)))
    (ER : ∃ fd, Fun K "read_pattern" "read_pattern" sRd18 fR fd)
    (bLn : PySem.W.nsIn K mainGlobals "lines_of" = some (some (.ref fLn)))
    (ELn : ∃ fd, Fun K "lines_of" "lines_of" sLinesOf fLn fd)
    (bFT : PySem.W.nsIn K mainGlobals "facts_told" = some (some (.ref fFT)))
    (EFT : ∃ fd, Fun K "facts_told" "facts_told" sFactsTold fFT fd)
    (bL : PySem.W.nsIn K mainGlobals "law" = some (some (.ref fL)))
    (EL : ∃ fd, Fun K "law" "law" sLaw fL fd)
    (bC : PySem.W.nsIn K mainGlobals "Store" = some (some (.ref fC)))
    (bI : PySem.W.findIn K (.ref fC) "__init__" = some (some (.ref fI)))
    (DI : ∃ fd T0, FunD K "__init__" "Store.__init__" (defArgs sInitS) (defBody sInitS) (defScope sInitS) [.ref T0] [] fI fd ∧ ∀ H, SqT K H T0 [])
    (iI : PySem.W.isFn K (.ref fI) = true)
    (bE : PySem.W.findIn K (.ref fC) "__eq__" = some (some (.ref fE)))
    (EE : ∃ fd, Fun K "__eq__" "Store.__eq__" sEqS fE fd)
    (iE : PySem.W.isFn K (.ref fE) = true)
    (bT : PySem.W.findIn K (.ref fC) "text" = some (some (.ref fT)))
    (ET : ∃ fd, Fun K "text" "Store.text" sTextS fT fd)
    (iT : PySem.W.isFn K (.ref fT) = true)
    (bFs : PySem.W.findIn K (.ref fC) "facts" = some (some (.ref pF)))
    (gFs : PySem.W.specialIn K (.ref pF) "__get__" = some (some (.builtin "property.__get__")))
    (tFs : PySem.W.takesIn K (.ref pF) = some true)
    (XrFs : ∃ rest, PySem.W.recIn K pF "property" = some (.ref fFs :: rest))
    (EFs : ∃ fd, Fun K "facts" "Store.facts" sFactsS fFs fd)
    (rd : PySem.W.readsIn K fC (.type "type") = true)
    (rga : PySem.W.specialIn K (.ref fC) "__getattribute__" = some (some (.builtin "type.__getattribute__")))
    (bRd : PySem.W.findCls K (.ref fC) (.type "type") "read" = some (.get (.builtin "classmethod.__get__") (.ref pR) .none (.ref fC)))
    (XrRd : ∃ rest, PySem.W.recIn K pR "classmethod" = some (.ref fRd :: rest))
    (iRd : PySem.W.fnIn K fRd = true)
    (ERd : ∃ fd, Fun K "read" "Store.read" sReadS fRd fd)
    (pg : PySem.W.plainGet K fC Str.empty = true)
    (hd : PySem.W.hasDictIn K fC = true)
    (po : PySem.W.plainOver K fC = true)
    (sa : PySem.W.findIn K (.ref fC) "__setattr__" = some (some (.builtin "object.__setattr__")))
    (mk : PySem.W.makesIn K fC = true)
    (kc : PySem.W.keepIn K (.ref fC) = true)
    (nF : PySem.W.findIn K (.ref fC) "_facts" = some none)
    (nH : PySem.W.findIn K (.ref fC) "_held" = some none)
    (nG : PySem.W.findIn K (.ref fC) "_groups" = some none)
    (ha : PySem.W.findIn K (.ref fC) "__class__" = some (some (.builtin "object.__class__")))
    (hn : PySem.W.specialIn K (.builtin "object.__class__") "__get__" = some (some (.builtin "getset_descriptor.__get__")))
    (htk : PySem.W.takesIn K (.builtin "object.__class__") = some true)
    (hm : PySem.W.mroIn K fC (.type "object") = some true)
    (ne : PySem.W.findIn K (.ref fC) "__ne__" = some (some (.builtin "object.__ne__")))
    (bB : PySem.W.nsIn K mainGlobals "BadLine" = some (some (.ref fB)))
    (OB : Oex K fB)
    (saB : PySem.W.findIn K (.ref fB) "__setattr__" = some (some (.builtin "object.__setattr__")))
    (exB : PySem.W.subIn K (.ref fB) (.type "BaseException") = some true)
    (tyB : PySem.W.typeIn K (.ref fB) = some (.type "type"))
    (kB : PySem.W.keepIn K (.ref fB) = true)
    (iB : PySem.W.findIn K (.ref fB) "__init__" = some (some (.ref fBI)))
    (tBI : PySem.W.typeIn K (.ref fBI) = some (.type "function"))
    (EBI : ∃ fd, Fun K "__init__" "BadLine.__init__" sBLi fBI fd)
    (nlB : PySem.W.findIn K (.ref fB) "line" = some none)
    (gaB : PySem.W.findIn K (.ref fB) "__getattribute__" = some (some (.builtin "BaseException.__getattribute__")))
    (ggB : PySem.W.findIn K (.ref fB) "__getattr__" = some none)
    (hdB : PySem.W.hasDictIn K fB = true)
    (icB : PySem.W.isClsIn K fB = true)
    (sBB : PySem.W.subIn K (.ref fB) (.ref fB) = some true)
    (z_int : PySem.W.nsIn K mainGlobals "int" = some none)
    (z_str : PySem.W.nsIn K mainGlobals "str" = some none)
    (z_len : PySem.W.nsIn K mainGlobals "len" = some none)
    (z_range : PySem.W.nsIn K mainGlobals "range" = some none)
    (z_tuple : PySem.W.nsIn K mainGlobals "tuple" = some none)
    (z_list : PySem.W.nsIn K mainGlobals "list" = some none)
    (z_sorted : PySem.W.nsIn K mainGlobals "sorted" = some none)
    (z_isinstance : PySem.W.nsIn K mainGlobals "isinstance" = some none)
    (z_set : PySem.W.nsIn K mainGlobals "set" = some none)
    (z_enumerate : PySem.W.nsIn K mainGlobals "enumerate" = some none)
    (c0 : PySem.W.nsIn K mainGlobals "LONGEST_NAME" = some (some (.int 12 t3)))
    (c1 : PySem.W.nsIn K mainGlobals "MOST_TERMS" = some (some (.int 3 t4)))
    : ∃ fd : FuncData, (∀ (s : Shared) (v : Value), BindsTo s fd ⟨[v], []⟩ [("_law_script", v)]) ∧
      ∀ base : Heap, K.In base → base.Ns mainGlobals mg → FnOk P w K mg base CX0 9 fa fd ["_law_script"] (spLaw K) := by
  have e := hfa.symm.trans (PySem.W.mg_of X G bL)
  cases e
  obtain ⟨dS, FS⟩ := ES
  obtain ⟨dD, FD⟩ := ED
  obtain ⟨dNm, FNm⟩ := ENm
  obtain ⟨dNs, FNs⟩ := ENs
  obtain ⟨dPo, FPo⟩ := EPo
  obtain ⟨dTm, FTm⟩ := ETm
  obtain ⟨dPt, FPt⟩ := EPt
  obtain ⟨dLF, FLF⟩ := ELF
  obtain ⟨dLN, FLN⟩ := ELN
  obtain ⟨dLT, FLT⟩ := ELT
  obtain ⟨dLP, FLP⟩ := ELP
  obtain ⟨dLX, FLX⟩ := ELX
  obtain ⟨dLO, FLO⟩ := ELO
  obtain ⟨dDu, FDu⟩ := EDu
  obtain ⟨dTo, FTo⟩ := ETo
  obtain ⟨dSp, FSp⟩ := ESp
  obtain ⟨dN, FN⟩ := EN
  obtain ⟨dV, FV⟩ := EV
  obtain ⟨dP, FP⟩ := EP
  obtain ⟨dF, FF⟩ := EF
  obtain ⟨dX, FX⟩ := EX
  obtain ⟨dR, FR⟩ := ER
  obtain ⟨dLn, FLn⟩ := ELn
  obtain ⟨dFT, FFT0⟩ := EFT
  obtain ⟨dL, FL⟩ := EL
  obtain ⟨ddE, FFE⟩ := EE
  obtain ⟨ddT, FFT⟩ := ET
  obtain ⟨ddFs, FFFs⟩ := EFs
  obtain ⟨ddRd, FFRd⟩ := ERd
  obtain ⟨ddBI, FFBI⟩ := EBI
  obtain ⟨dI, T1, FI, hT1⟩ := DI
  have mS := PySem.W.mg_of X G bS
  have qS := FS.binds (ps := ["_law_cell"]) fun _ _ _ _ _ _ us hl => match us, hl with | [_], _ => rfl
  have mD := PySem.W.mg_of X G bD
  have qD := FD.binds (ps := ["_law_source_here", "_law_limit"]) fun _ _ _ _ _ _ us hl => match us, hl with | [_, _], _ => rfl
  have mNm := PySem.W.mg_of X G bNm
  have qNm := FNm.binds (ps := ["_law_source_here"]) fun _ _ _ _ _ _ us hl => match us, hl with | [_], _ => rfl
  have mNs := PySem.W.mg_of X G bNs
  have qNs := FNs.binds (ps := ["_law_source_here", "_law_many"]) fun _ _ _ _ _ _ us hl => match us, hl with | [_, _], _ => rfl
  have mPo := PySem.W.mg_of X G bPo
  have qPo := FPo.binds (ps := ["_law_source_here"]) fun _ _ _ _ _ _ us hl => match us, hl with | [_], _ => rfl
  have mTm := PySem.W.mg_of X G bTm
  have qTm := FTm.binds (ps := ["_law_source_here", "_law_pool_here", "_law_variables", "_law_share"]) fun _ _ _ _ _ _ us hl => match us, hl with | [_, _, _, _], _ => rfl
  have mPt := PySem.W.mg_of X G bPt
  have qPt := FPt.binds (ps := ["_law_source_here", "_law_pool_here", "_law_variables", "_law_share"]) fun _ _ _ _ _ _ us hl => match us, hl with | [_, _, _, _], _ => rfl
  have mLF := PySem.W.mg_of X G bLF
  have qLF := FLF.binds (ps := ["_law_source_here", "_law_pool_here", "_law_most"]) fun _ _ _ _ _ _ us hl => match us, hl with | [_, _, _], _ => rfl
  have mLN := PySem.W.mg_of X G bLN
  have qLN := FLN.binds (ps := ["_law_value"]) fun _ _ _ _ _ _ us hl => match us, hl with | [_], _ => rfl
  have mLT := PySem.W.mg_of X G bLT
  have qLT := FLT.binds (ps := ["_law_value", "_law_open_too"]) fun _ _ _ _ _ _ us hl => match us, hl with | [_, _], _ => rfl
  have mLP := PySem.W.mg_of X G bLP
  have qLP := FLP.binds (ps := ["_law_value", "_law_open_too"]) fun _ _ _ _ _ _ us hl => match us, hl with | [_, _], _ => rfl
  have mLX := PySem.W.mg_of X G bLX
  have qLX := FLX.binds (ps := ["_law_pattern_here"]) fun _ _ _ _ _ _ us hl => match us, hl with | [_], _ => rfl
  have mLO := PySem.W.mg_of X G bLO
  have qLO := FLO.binds (ps := ["_law_text_here"]) fun _ _ _ _ _ _ us hl => match us, hl with | [_], _ => rfl
  have mDu := PySem.W.mg_of X G bDu
  have qDu := FDu.binds (ps := ["_law_text_here"]) fun _ _ _ _ _ _ us hl => match us, hl with | [_], _ => rfl
  have mTo := PySem.W.mg_of X G bTo
  have qTo := FTo.binds (ps := ["_law_text_here"]) fun _ _ _ _ _ _ us hl => match us, hl with | [_], _ => rfl
  have mSp := PySem.W.mg_of X G bSp
  have qSp := FSp.binds (ps := ["_law_source_here", "_law_lines"]) fun _ _ _ _ _ _ us hl => match us, hl with | [_, _], _ => rfl
  have mN := PySem.W.mg_of X G bN
  have qN := FN.binds (ps := ["value"]) fun _ _ _ _ _ _ us hl => match us, hl with | [_], _ => rfl
  have mV := PySem.W.mg_of X G bV
  have qV := FV.binds (ps := ["value"]) fun _ _ _ _ _ _ us hl => match us, hl with | [_], _ => rfl
  have mP := PySem.W.mg_of X G bP
  have qP := FP.binds (ps := ["value"]) fun _ _ _ _ _ _ us hl => match us, hl with | [_], _ => rfl
  have mF := PySem.W.mg_of X G bF
  have qF := FF.binds (ps := ["value"]) fun _ _ _ _ _ _ us hl => match us, hl with | [_], _ => rfl
  have mX := PySem.W.mg_of X G bX
  have qX := FX.binds (ps := ["pattern"]) fun _ _ _ _ _ _ us hl => match us, hl with | [_], _ => rfl
  have mR := PySem.W.mg_of X G bR
  have qR := FR.binds (ps := ["text"]) fun _ _ _ _ _ _ us hl => match us, hl with | [_], _ => rfl
  have mLn := PySem.W.mg_of X G bLn
  have qLn := FLn.binds (ps := ["text"]) fun _ _ _ _ _ _ us hl => match us, hl with | [_], _ => rfl
  have mFT := PySem.W.mg_of X G bFT
  have qFT := FFT0.binds (ps := ["lines"]) fun _ _ _ _ _ _ us hl => match us, hl with | [_], _ => rfl
  have mL := PySem.W.mg_of X G bL
  have mC := PySem.W.mg_of X G bC
  have mB := PySem.W.mg_of X G bB
  have qI := all_given (p1 := "self") (p2 := "facts") FI fun _ _ _ _ _ _ _ us its hl h1 => match us, hl, its, h1 with | [_, _], _, [_], _ => ⟨_, rfl, rfl⟩
  have qE := FFE.binds (ps := ["self", "other"]) fun _ _ _ _ _ _ us hl => match us, hl with | [_, _], _ => rfl
  have qT := FFT.binds (ps := ["self"]) fun _ _ _ _ _ _ us hl => match us, hl with | [_], _ => rfl
  have qFs := FFFs.binds (ps := ["self"]) fun _ _ _ _ _ _ us hl => match us, hl with | [_], _ => rfl
  have qRd := FFRd.binds (ps := ["cls", "text"]) fun _ _ _ _ _ _ us hl => match us, hl with | [_, _], _ => rfl
  have qRk := Fun.kc1 FFRd (p := "cls") (q := "text") fun _ _ _ _ _ _ _ _ => rfl
  have qBI := FFBI.binds (ps := ["self", "line"]) fun _ _ _ _ _ _ us hl => match us, hl with | [_, _], _ => rfl
  have y_int := PySem.W.mg_none_of X G z_int
  have y_str := PySem.W.mg_none_of X G z_str
  have y_len := PySem.W.mg_none_of X G z_len
  have y_range := PySem.W.mg_none_of X G z_range
  have y_tuple := PySem.W.mg_none_of X G z_tuple
  have y_list := PySem.W.mg_none_of X G z_list
  have y_sorted := PySem.W.mg_none_of X G z_sorted
  have y_isinstance := PySem.W.mg_none_of X G z_isinstance
  have y_set := PySem.W.mg_none_of X G z_set
  have y_enumerate := PySem.W.mg_none_of X G z_enumerate
  have g0 := PySem.W.mg_of X G c0
  have g1 := PySem.W.mg_of X G c1
  have cl : Cls K fC := ⟨pg, hd, po, sa⟩
  have T : StT K mg fC := ⟨cl, nF, nH, nG⟩
  have M : Mk K fC fI := ⟨mk, bI, iI, kc⟩
  have me : PySem.W.kitOne K (.ref fC) (.ref fC) = some true := by
    show (if (Value.ref fC == Value.ref fC) = true then some true else PySem.W.kitCls K (.ref fC) (.ref fC)) = some true
    rw [if_pos (by simp)]
  have IC : C8.InsC K fC := ⟨cl, ha, hn, htk, hm, me⟩
  have TB : OexC K fB := ⟨OB, saB, exB, tyB, kB⟩
  have XB : XfC K fB := ⟨gaB, ggB, exB, hdB⟩
  have te := exm_self exB icB tyB sBB
  have RR : ClX.CRead K fC (.type "type") := ⟨rd, rga⟩
  have CR : ClX.CMet K fC (.type "type") "read" pR fRd := ⟨bRd, XrRd, iRd⟩
  have PF : PropOf K fC "facts" pF fFs := ⟨bFs, gFs, tFs, XrFs⟩
  have hTx : Meth K fC "text" fT := ⟨bT, iT, FFT.kp⟩
  have FL' := FL
  obtain ⟨oc, od, kV, doc, pm, an, cdv, ct, osl, ez, _, _⟩ := FL.ex
  subst ez
  refine ⟨PySem.W.fnOf "law" "law" (defArgs sLaw) (defBody sLaw) (defScope sLaw) .none kV doc pm an cdv ct, fun s v => .of_eq rfl, fun base _ _ => ?_⟩
  have FFT_ := FFT0
  have GS := ok_source (P := P) (w := w) (mg := mg) (base := base) FS
  have GD := ok_draw (P := P) (w := w) (mg := mg) (base := base) FD y_int
  have GNm := ok_name (P := P) (w := w) (mg := mg) (base := base) FNm FD qD y_int mD y_range
  have GNs := ok_names (P := P) (w := w) (mg := mg) (base := base) FNs GNm FNm.kp qNm mNm y_range y_str
  have GPo := ok_pool (P := P) (w := w) (mg := mg) (base := base) FPo GD FD.kp qD mD GNs FNs.kp qNs mNs y_range y_len
  have GTm := ok_term (P := P) (w := w) (mg := mg) (base := base) FTm GD FD.kp qD mD y_len
  have GPt := ok_pat (P := P) (w := w) (mg := mg) (base := base) FPt GD FD.kp qD mD GTm FTm.kp qTm mTm y_len y_range y_tuple
  have GLF := ok_lfacts (P := P) (w := w) (mg := mg) (base := base) FLF GD FD.kp qD mD GPt FPt.kp qPt mPt y_range y_sorted
  have GN := ok_isN (P := P) (w := w) (mg := mg) (base := base) FN g0 y_isinstance y_str y_len
  have GV := ok_isV (P := P) (w := w) (mg := mg) (base := base) FV GN FN.kp qN mN y_isinstance y_str
  have GP := ok_isP (P := P) (w := w) (mg := mg) (base := base) FP GN FN.kp qN mN GV FV.kp qV mV g1 y_isinstance y_tuple y_len
  have GF := ok_isF (P := P) (w := w) (mg := mg) (base := base) FF GN FN.kp qN mN g1 y_isinstance y_tuple y_len
  have GX := ok_ptx (P := P) (w := w) (mg := mg) (base := base) FX
  have GLN := ok_LIN (P := P) (w := w) (mg := mg) (base := base) FLN y_isinstance y_str y_len
  have GLT := ok_LIT (P := P) (w := w) (mg := mg) (base := base) FLT GLN FLN.kp qLN mLN y_isinstance y_str
  have GLX := ok_LTx (P := P) (w := w) (mg := mg) (base := base) FLX y_list
  have GLP := ok_LIP (P := P) (w := w) (mg := mg) (base := base) FLP GLN FLN.kp qLN mLN GLT FLT.kp qLT mLT y_isinstance y_tuple y_len
  have GR := ok_rd (P := P) (w := w) (mg := mg) (base := base) FR GP FP.kp qP mP GX FX.kp qX mX
  have GLO := ok_LOT (P := P) (w := w) (mg := mg) (base := base) FLO GLP FLP.kp qLP mLP y_tuple
  have GLn := ok_lns (P := P) (w := w) (mg := mg) (base := base) FLn
  have GBI := ok_BL (P := P) (w := w) (mg := mg) (base := base) FFBI TB nlB
  have GFT := ok_FT (P := P) (w := w) (mg := mg) (base := base) FFT_ GR FR.kp qR mR GF FF.kp qF mF TB iB tBI GBI qBI mB y_enumerate
  have GI := ok_initS (P := P) (w := w) (mg := mg) (base := base) FI T GF FF.kp qF mF y_sorted y_tuple y_set
  have GE := ok_eqS (P := P) (w := w) (mg := mg) (base := base) FFE T IC mC y_isinstance
  have GTx := ok_textS (P := P) (w := w) (mg := mg) (base := base) FFT T GX FX.kp qX mX
  have GFs := ok_factsS (P := P) (w := w) (mg := mg) (base := base) FFFs T
  have GRd := ok_readS (P := P) (w := w) (mg := mg) (base := base) FFRd M GI qI GFT FFT_.kp qFT mFT GLn FLn.kp qLn mLn
  have GTo := ok_told (P := P) (w := w) (mg := mg) (base := base) FTo GRd RR CR qRd GFs qFs cl PF mC mB XB nlB te y_list
  have GDu := ok_due (P := P) (w := w) (mg := mg) (base := base) FDu GLO FLO.kp qLO mLO y_range y_len
  have GSp := ok_spo (P := P) (w := w) (mg := mg) (base := base) FSp GD FD.kp qD mD y_len
  exact ok_law FL' GS FS.kp qS mS GPo FPo.kp qPo mPo GLF FLF.kp qLF mLF GLX FLX.kp qLX mLX GTo FTo.kp qTo mTo GDu FDu.kp qDu mDu GSp FSp.kp qSp mSp M GI qI mC cl ⟨GE, hm, ne, bE, iE, qE⟩ hTx GTx qT RR CR GRd qRk y_range
theorem walk {l : PySem.W.OpenLaw} {q : Program} {loose : List Str} {XP : (Str → Option Value) → Heap → Prop} {YP : World → Heap → Prop} {d : DefRec} {K : Params → PySem.W.Frag}
    (hn : l.most = some 63) (hdf : d.params.defaults = []) (hY : ∀ (w : World) (h : Heap), YP w h → (K w.params).In h)
    (F : ∀ (w : World) (mg : Str → Option Value) (fa : Addr) (h : Heap), (K w.params).In h → h.Ns mainGlobals mg → mg d.name = some (.ref fa) →
      ∃ fd : FuncData, (∀ (s : Shared) (u : Value), BindsTo s fd ⟨[u], []⟩ [("_law_script", u)]) ∧
        ∀ base : Heap, (K w.params).In base → base.Ns mainGlobals mg → FnOk l.prog w (K w.params) mg base CX0 9 fa fd ["_law_script"] (spLaw (K w.params))) :
    PySem.W.WalkO q loose XP YP l.row.toRowW d [] (fun f vs => PySem.call f vs) :=
  L2.walk_ofB (n := 63) (k := 9) (x := "_law_script") (CX := fun _ => CX0) (sp := fun w => spLaw (K w.params)) hn (by decide) hdf ⟨rfl, by decide, by decide⟩ hY F
    (fun _ _ a ns hl hb _ hS => ⟨a, ns, rfl, hS, hl, hb, fun _ => rfl⟩) fun _ _ _ _ _ z => z
end L2.LawH
set_option Elab.async false
open PySem PySem.W PyProof.Rows
set_option maxRecDepth 100000 in
set_option maxHeartbeats 0 in
theorem PySem.Challenge.cw_fullestrows_k04_texts_of_stores_holds : PySem.Challenge.rw_fullestrows_k04_texts_of_stores.Holds := by
  w_on; o_law; k_head; (case hw => w_witness2)
  k_fill
  refine L2.LawH.walk (l := PySem.Challenge.rw_fullestrows_k04_texts_of_stores) rfl rfl (fun w h Y => PySem.W.kIn_of Y) ?F
  case F =>
    intro w mg fa h KX G hmg
    refine' L2.LawH.all_mk KX G hmg ?bS ?ES ?bD ?ED ?bNm ?ENm ?bNs ?ENs ?bPo ?EPo ?bTm ?ETm ?bPt ?EPt ?bLF ?ELF ?bLN ?ELN ?bLT ?ELT ?bLP ?ELP ?bLX ?ELX ?bLO ?ELO ?bDu ?EDu ?bTo ?ETo ?bSp ?ESp ?bN ?EN ?bV ?EV ?bP ?EP ?bF ?EF ?bX ?EX ?bR ?ER ?bLn ?ELn ?bFT ?EFT ?bL ?EL ?bC ?bI ?DI ?iI ?bE ?EE ?iE ?bT ?ET ?iT ?bFs ?gFs ?tFs ?XrFs ?EFs ?rd ?rga ?bRd ?XrRd ?iRd ?ERd ?pg ?hd ?po ?sa ?mk ?kc ?nF ?nH ?nG ?ha ?hn ?htk ?hm ?ne ?bB ?OB ?saB ?exB ?tyB ?kB ?iB ?tBI ?EBI ?nlB ?gaB ?ggB ?hdB ?icB ?sBB ?z_int ?z_str ?z_len ?z_range ?z_tuple ?z_list ?z_sorted ?z_isinstance ?z_set ?z_enumerate ?c0 ?c1
    (case bS => k_is)
    (case ES => exact ⟨_, L2.fun_mk (by k_is) (by k_is) (by k_is)⟩)
    (case bD => k_is)
    (case ED => exact ⟨_, L2.fun_mk (by k_is) (by k_is) (by k_is)⟩)
    (case bNm => k_is)
    (case ENm => exact ⟨_, L2.fun_mk (by k_is) (by k_is) (by k_is)⟩)
    (case bNs => k_is)
    (case ENs => exact ⟨_, L2.fun_mk (by k_is) (by k_is) (by k_is)⟩)
    (case bPo => k_is)
    (case EPo => exact ⟨_, L2.fun_mk (by k_is) (by k_is) (by k_is)⟩)
    (case bTm => k_is)
    (case ETm => exact ⟨_, L2.fun_mk (by k_is) (by k_is) (by k_is)⟩)
    (case bPt => k_is)
    (case EPt => exact ⟨_, L2.fun_mk (by k_is) (by k_is) (by k_is)⟩)
    (case bLF => k_is)
    (case ELF => exact ⟨_, L2.fun_mk (by k_is) (by k_is) (by k_is)⟩)
    (case bLN => k_is)
    (case ELN => exact ⟨_, L2.fun_mk (by k_is) (by k_is) (by k_is)⟩)
    (case bLT => k_is)
    (case ELT => exact ⟨_, L2.fun_mk (by k_is) (by k_is) (by k_is)⟩)
    (case bLP => k_is)
    (case ELP => exact ⟨_, L2.fun_mk (by k_is) (by k_is) (by k_is)⟩)
    (case bLX => k_is)
    (case ELX => exact ⟨_, L2.fun_mk (by k_is) (by k_is) (by k_is)⟩)
    (case bLO => k_is)
    (case ELO => exact ⟨_, L2.fun_mk (by k_is) (by k_is) (by k_is)⟩)
    (case bDu => k_is)
    (case EDu => exact ⟨_, L2.fun_mk (by k_is) (by k_is) (by k_is)⟩)
    (case bTo => k_is)
    (case ETo => exact ⟨_, L2.fun_mk (by k_is) (by k_is) (by k_is)⟩)
    (case bSp => k_is)
    (case ESp => exact ⟨_, L2.fun_mk (by k_is) (by k_is) (by k_is)⟩)
    (case bN => k_is)
    (case EN => exact ⟨_, L2.fun_mk (by k_is) (by k_is) (by k_is)⟩)
    (case bV => k_is)
    (case EV => exact ⟨_, L2.fun_mk (by k_is) (by k_is) (by k_is)⟩)
    (case bP => k_is)
    (case EP => exact ⟨_, L2.fun_mk (by k_is) (by k_is) (by k_is)⟩)
    (case bF => k_is)
    (case EF => exact ⟨_, L2.fun_mk (by k_is) (by k_is) (by k_is)⟩)
    (case bX => k_is)
    (case EX => exact ⟨_, L2.fun_mk (by k_is) (by k_is) (by k_is)⟩)
    (case bR => k_is)
    (case ER => exact ⟨_, L2.fun_mk (by k_is) (by k_is) (by k_is)⟩)
    (case bLn => k_is)
    (case ELn => exact ⟨_, L2.fun_mk (by k_is) (by k_is) (by k_is)⟩)
    (case bFT => k_is)
    (case EFT => exact ⟨_, L2.fun_mk (by k_is) (by k_is) (by k_is)⟩)
    (case bL => k_is)
    (case EL => exact ⟨_, L2.fun_mk (by k_is) (by k_is) (by k_is)⟩)
    (case bC => k_is)
    (case bI => k_is)
    (case DI => exact L2.LawH.fund_mk (by k_is) (by k_is) (by k_is) (by k_is) (by k_is))
    (case iI => k_is)
    (case bE => k_is)
    (case EE => exact ⟨_, L2.fun_mk (by k_is) (by k_is) (by k_is)⟩)
    (case iE => k_is)
    (case bT => k_is)
    (case ET => exact ⟨_, L2.fun_mk (by k_is) (by k_is) (by k_is)⟩)
    (case iT => k_is)
    (case bFs => k_is)
    (case gFs => k_is)
    (case tFs => k_is)
    (case XrFs => exact ⟨_, by k_is⟩)
    (case EFs => exact ⟨_, L2.fun_mk (by k_is) (by k_is) (by k_is)⟩)
    (case rd => k_is)
    (case rga => k_is)
    (case bRd => k_is)
    (case XrRd => exact ⟨_, by k_is⟩)
    (case iRd => k_is)
    (case ERd => exact ⟨_, L2.fun_mk (by k_is) (by k_is) (by k_is)⟩)
    (case pg => k_is)
    (case hd => k_is)
    (case po => k_is)
    (case sa => k_is)
    (case mk => k_is)
    (case kc => k_is)
    (case nF => k_is)
    (case nH => k_is)
    (case nG => k_is)
    (case ha => k_is)
    (case hn => k_is)
    (case htk => k_is)
    (case hm => k_is)
    (case ne => k_is)
    (case bB => k_is)
    (case OB => exact ⟨_, _, _, _, _, _, _, _, _, _, _, _, _, _, _, by k_is, by decide +kernel⟩)
    (case saB => k_is)
    (case exB => k_is)
    (case tyB => k_is)
    (case kB => k_is)
    (case iB => k_is)
    (case tBI => k_is)
    (case EBI => exact ⟨_, L2.fun_mk (by k_is) (by k_is) (by k_is)⟩)
    (case nlB => k_is)
    (case gaB => k_is)
    (case ggB => k_is)
    (case hdB => k_is)
    (case icB => k_is)
    (case sBB => k_is)
    (case z_int => k_is)
    (case z_str => k_is)
    (case z_len => k_is)
    (case z_range => k_is)
    (case z_tuple => k_is)
    (case z_list => k_is)
    (case z_sorted => k_is)
    (case z_isinstance => k_is)
    (case z_set => k_is)
    (case z_enumerate => k_is)
    (case c0 => k_is)
    (case c1 => k_is)
