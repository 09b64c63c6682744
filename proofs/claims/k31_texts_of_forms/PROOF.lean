import PyProof.Rows.All
import Wide.All
import OpenK.AllK
import Wide.FinOn
import HandS.ForMost
import PyProof.NeKinds
import HandS.ListEq
import HandS.DeepEq
import HandS.EndBits
import HandS.Set
import HandS.SetKeys
import HandS.SetBool
import HandS.Comp
import HandS.DictComp
import HandS.Strs
import HandS.SetTxt0
import HandS.More
import HandS.IsInst
import HandS.StrMore
import HandS.FStr
import HandS.Star
import PyProof.ListMulRoad
import PyProof.FactsAll.tuple_2
import HandS.TupAny
import HandS.TupMul
import HandS.TupSets
import KE.KeyNested
import KE.KDictKeyed
import KE.SortData
import KE.SortCalls
import HandS.Deep
import HandS.ForExc
import HandS.Walk
import HandS.OwnEq
import HandS.Defaults
import HandS.Property
import HandS.ClsMeth
import HandS.ExcOwn
import HandS.WordsExc
import KE.KOwnIter
import KE.KIsAll
import HandS.Codes
import HandS.TryOnly
import HandS.Replace
import HandS.ReplaceLit
import PyProof.Rows.StrLawsPart
import HandS.Style
import HandS.MakeKw
import PyProof.ExcBaseAll.ValueError
import PySem.Challenge.RW_fullestrows_k31_texts_of_forms
set_option Elab.async false
set_option linter.all false
set_option maxRecDepth 100000
set_option maxHeartbeats 4000000
namespace L2.LstNo
open PySem PySem.Spec PyProof.Rows PySem.SeqAt AutoSeq1 MeetsSeq MeetsSeq2 MeetsSeq3
section
variable {P : Program} {w : World} {A : Around} {s : Shared}
theorem ne_sizes {l b : Addr} {xs ys : Array Value} (h1 : s.heap.IsList l xs) (h2 : s.heap.IsList b ys) (hz : xs.size ≠ ys.size) (hu : A.units + 8 < cLine)
    (E : Value → Shared → Prop) (Q : Value → Shared → Prop) (h : Q (.bool true) s) : wpAny (model P w) A (compareOp .NotEq (.ref l) (.ref b)) Q E s := by
  obtain ⟨⟨c1, d1, e1, s1⟩, ho1, hc1, n1, hd1⟩ := h1
  obtain ⟨⟨c2, d2, e2, s2⟩, ho2, hc2, n2, hd2⟩ := h2
  simp only at hc1 hd1 hc2 hd2
  subst hc1 hd1 hc2 hd2
  have ta : s.TypeIs (.ref l) "list" := ⟨_, ho1, rfl⟩
  have tb : s.TypeIs (.ref b) "list" := ⟨_, ho2, rfl⟩
  have whole : MeetsIn P w (Builtin.«list.__ne__» ⟨[.ref l, .ref b], []⟩) (fun A R s => s.heap.get? l = some { cls := .type "list", dict := d1, data := .seq xs n1, slots := s1 } ∧ s.heap.get? b = some { cls := .type "list", dict := d2, data := .seq ys n2, slots := s2 } ∧ R (.ok (.ret (.bool true))) s) := by
    rintro A R ⟨hp, g, d, tk, os⟩ ⟨hl, hb, h⟩
    have f3 := AutoSeq1.sub_list_list
    have hne : (xs.size != ys.size) = true := by simp [hz]
    wp_walk using wpAny_loadPart' hl, wpAny_loadPart' hb
    exact h
  exact wpAny_richCompare_same_room (op := .NotEq) ta tb F.slot_list_ne (call_meetsIn F.slot_list_ne ta F.entry_list_ne (F.args_list_ne_2 _ _) whole ⟨ho1, ho2, show Value.bool true ≠ Value.notImplemented ∧ Q (.bool true) s from ⟨(fun x => nomatch x), h⟩⟩) (by omega)
end
section
variable {X : Cx}
def rNeNil (K : PySem.W.Frag) : R2 := fun x y H Q => ∃ a b xs, x = .ref a ∧ y = .ref b ∧ SqL K H a xs ∧ SqL K H b [] ∧ Q (.bl (!xs.isEmpty)) H
theorem op_neNil (hu : X.A.units + 64 < cLine) : OpR X (compareOp .NotEq) (rNeNil X.K) := by
  intro pins s σ H x y v u Q I rx ry h
  obtain ⟨a, b, xs, rfl, rfl, ha, hb, q⟩ := h
  cases xs with
  | nil => exact op_neD hu pins s σ H _ _ v u Q I rx ry ⟨.list [], .list [], .lst ha .nil, .lst hb .nil, by decide, by decide, q⟩
  | cons x0 xs =>
    cases (show v = Value.ref a from rx)
    cases (show u = Value.ref b from ry)
    obtain ⟨us, r1, p1, _⟩ := I.list ha
    obtain ⟨ws, r2, p2, _⟩ := I.list hb
    refine ne_sizes (A := X.A) p1.isList p2.isList ?_ (by omega) X.xe (EP X pins σ Q) ⟨.bl true, H, I, rfl, q⟩
    rw [List.size_toArray, List.size_toArray, ← r1.length, ← r2.length]
    simp
end
theorem op_neNilK {X : Cx} {K : PySem.W.Frag} (e : X.K = K) (hu : X.A.units + 64 < cLine) : OpR X (compareOp .NotEq) (rNeNil K) := by
  subst e
  exact op_neNil hu
end L2.LstNo
set_option Elab.async false
set_option linter.all false
set_option maxRecDepth 100000
set_option maxHeartbeats 4000000
namespace L2.LawH
open PySem PySem.Spec PyProof.Rows
open Builtin.Int (intBits)
def top (i : Nat) : Stmt := PySem.Challenge.pw_fullestrows_k31_texts_of_forms.main.body.getD i (.Pass ⟨0, 0, 0, 0⟩)
theorem mod_pos {x y : Int} (h : 0 < y) : 0 ≤ x.fmod y ∧ x.fmod y < y := by
  rw [Int.fmod_eq_emod_of_nonneg x (Int.le_of_lt h)]
  exact ⟨Int.emod_nonneg x (by omega), Int.emod_lt_of_pos x h⟩
theorem small_bits {x : Int} (h0 : 0 ≤ x) (h : x < 1152921504606846976) : intBits x ≤ 60 := by
  refine PySem.intBits_le_iff.mpr ?_
  have e : (2 : Nat) ^ 60 = 1152921504606846976 := by decide
  rw [e]
  omega
theorem small_ok {x : Int} (h0 : 0 ≤ x) (h : x < 1152921504606846976) : (intBits x : Int) * 3 ≤ 2 ^ 27 := by
  have := small_bits h0 h
  have e : (2 : Int) ^ 27 = 134217728 := by decide
  rw [e]
  omega
theorem op_powB {X : Cx} : OpR X (binaryOp .Pow) (rI (fun i j => 0 ≤ j ∧ (Builtin.Int.intBits i : Int) * j ≤ 2 ^ 27) fun i j => .int (i ^ j.toNat)) :=
  opI fun _ _ _ _ _ _ _ hc q => pow_int hc.1 hc.2 q
/-- all but a stands as it stood -/
def Keep (a : Addr) (H H' : Hp) : Prop := ∀ b o, H b = some o → b ≠ a → H' b = some o
theorem Keep.refl (a : Addr) (H : Hp) : Keep a H H := fun _ _ e _ => e
theorem Keep.trans {a : Addr} {H H1 H2 : Hp} (k : Keep a H H1) (l : Keep a H1 H2) : Keep a H H2 := fun b o e n => l b o (k b o e n) n
theorem Keep.of {a : Addr} {H H' : Hp} (s : Same H H') : Keep a H H' := fun b o e _ => s b o e
theorem same_new {H : Hp} {p : Addr} {o : HO} (n : H p = none) : Same H (upd H p o) := fun b u e => by
  rw [upd_ne (ne_of_none e n)]
  exact e
theorem Keep.free {a b : Addr} {H H' : Hp} (k : Keep a H H') (n : H' b = none) (ha : H' a ≠ none) : H b = none := by
  cases e : H b with
  | none => rfl
  | some o =>
    have nb : b ≠ a := fun z => ha (by rw [← z]; exact n)
    rw [k b o e nb] at n
    cases n
def isLet (c : Nat) : Bool := decide (97 ≤ c) && decide (c ≤ 122)
def isSgn (c : Nat) : Bool := isLet c || (decide (48 ≤ c) && decide (c ≤ 57))
def nmB : List Nat → Bool
  | [] => false
  | c :: r => isLet c && r.all isSgn && decide (r.length ≤ 11)
/-- a name -/
def Nm (z : Str) : Prop := nmB z.cps.toList = true
theorem toList_append (a b : Str) : (a ++ b).cps.toList = a.cps.toList ++ b.cps.toList := by
  rw [Str.cps_append, Array.toList_append]
theorem length_toList (a : Str) : a.cps.toList.length = a.length := by
  show a.cps.toList.length = a.cps.size
  exact Array.length_toList
abbrev letS : Str := Str.ofString "abcdefghijklmnopqrstuvwxyz"
abbrev digS : Str := Str.ofString "0123456789"
theorem let_all : letS.cps.toList.all isLet = true := by decide +kernel
theorem sgn_all : (letS ++ digS).cps.toList.all isSgn = true := by decide +kernel
theorem let_len : letS.cps.toList.length = 26 := by decide +kernel
theorem sgn_len : (letS ++ digS).cps.toList.length = 36 := by decide +kernel
theorem pick {l : List Nat} {p : Nat → Bool} {n : Nat} (all : l.all p = true) (len : l.length = n) {r : Int} (h0 : 0 ≤ r) (h1 : r < n) :
    ∃ c, atI l r = some c ∧ p c = true := by
  obtain ⟨j, rfl⟩ : ∃ j : Nat, r = j := ⟨r.toNat, by omega⟩
  have hj : j < l.length := by omega
  refine ⟨l[j], atI_nat (List.getElem?_eq_getElem hj), ?_⟩
  exact List.all_eq_true.mp all _ (List.getElem_mem hj)
theorem nm_one {c : Nat} (h : isLet c = true) : Nm ⟨#[c]⟩ := by
  show nmB [c] = true
  simp [nmB, h]
theorem sgn_of_let {c : Nat} (h : isLet c = true) : isSgn c = true := by simp [isSgn, h]
theorem nm_sgns {l : List Nat} (h : nmB l = true) : l.all isSgn = true ∧ l.length ≤ 12 ∧ 1 ≤ l.length := by
  cases l with
  | nil => cases h
  | cons c r =>
    simp only [nmB, Bool.and_eq_true, decide_eq_true_eq] at h
    refine ⟨?_, by simp; omega, by simp⟩
    simp only [List.all_cons, Bool.and_eq_true]
    exact ⟨sgn_of_let h.1.1, h.1.2⟩
theorem nodup_len {α : Type} [DecidableEq α] : ∀ (l D : List α), l.Nodup → (∀ x ∈ l, x ∈ D) → l.length ≤ D.length
  | [], _, _, _ => Nat.zero_le _
  | x :: l, D, nd, h => by
    obtain ⟨n1, n2⟩ := List.nodup_cons.mp nd
    have hx := h x List.mem_cons_self
    have ih := nodup_len l (D.erase x) n2 fun y hy => by
      have ne : y ≠ x := fun z => n1 (by rw [← z]; exact hy)
      exact (List.mem_erase_of_ne ne).mpr (h y (List.mem_cons_of_mem _ hy))
    have e := List.length_erase_of_mem hx
    have pos : 0 < D.length := List.length_pos_of_mem hx
    rw [List.length_cons]
    omega
theorem op_notInK {X : Cx} {K : PySem.W.Frag} (e : X.K = K) : OpR X (compareOp .NotIn) (rIn K true) := by
  subst e
  exact op_notIn_seq
theorem inV_strs (q : Str) : ∀ L : List Str, inV (.str q) (L.map V.str) = decide (q ∈ L)
  | [] => by simp [inV]
  | x :: L => by
    have ih := inV_strs q L
    unfold inV at ih ⊢
    rw [List.map_cons, List.any_cons, ih]
    by_cases h : x = q
    · subst h
      simp [eqV]
    · have h' : ¬ q = x := fun z => h z.symm
      simp [eqV, h, h']
theorem flat_strs : ∀ L : List Str, (L.map V.str).all flatV = true
  | [] => rfl
  | _ :: L => by
    rw [List.map_cons, List.all_cons, flat_strs L]
    rfl
theorem Keep.upd_new {a p : Addr} {H H' : Hp} {o : HO} (k : Keep a H H') (n : H p = none) : Keep a H (upd H' p o) := fun b u e nb => by
  rw [upd_ne (ne_of_none e n)]
  exact k b u e nb
theorem ix_listK {X : Cx} {K : PySem.W.Frag} (e : X.K = K) : IxR X (rIxL K) := by
  subst e
  exact ix_list
/-- a variable -/
def Vr (z : Str) : Prop := ∃ y : Str, Nm y ∧ z = Str.ofString "?" ++ y
theorem ints_get {Z : List Nat} {i : Nat} (h : i < Z.length) : (Z.map fun n : Nat => V.int (n : Int))[i]? = some (.int (Z[i] : Nat)) := by
  rw [List.getElem?_map, List.getElem?_eq_getElem h]
  rfl
theorem strs_get {L : List Str} {i : Nat} (h : i < L.length) : (L.map V.str)[i]? = some (.str L[i]) := by
  rw [List.getElem?_map, List.getElem?_eq_getElem h]
  rfl
theorem ok_list {z : Str} (h : ∀ c ∈ z.cps.toList, c < 0x110000) : PyData.strOk z = true := by
  unfold PyData.strOk
  rw [← Array.all_toList, List.all_eq_true]
  exact fun c hc => decide_eq_true (h c hc)
theorem sgn_small {c : Nat} (h : isSgn c = true) : c < 0x110000 := by
  simp only [isSgn, isLet, Bool.or_eq_true, Bool.and_eq_true, decide_eq_true_eq] at h
  omega
theorem Nm.strOk {z : Str} (h : Nm z) : PyData.strOk z = true := by
  obtain ⟨h1, _, _⟩ := nm_sgns h
  exact ok_list fun c hc => sgn_small (List.all_eq_true.mp h1 c hc)
theorem Vr.strOk {z : Str} (h : Vr z) : PyData.strOk z = true := by
  obtain ⟨y, ny, rfl⟩ := h
  obtain ⟨h1, _, _⟩ := nm_sgns ny
  refine ok_list fun c hc => ?_
  rw [toList_append] at hc
  rcases List.mem_append.mp hc with hc | hc
  · have e1 : (Str.ofString "?").cps.toList = [63] := by decide +kernel
    rw [e1] at hc
    have e : c = 63 := by simpa using hc
    omega
  · exact sgn_small (List.all_eq_true.mp h1 c hc)
theorem dp_strs {K : PySem.W.Frag} {H : Hp} : ∀ zs : List Str, DpAll K H (zs.map V.str) (zs.map PyData.str)
  | [] => .nil
  | z :: zs => .cons (.str z) (dp_strs zs)
theorem lay_strs : ∀ zs : List Str, (PyData.list (zs.map PyData.str)).canLay0 = (zs.all PyData.strOk)
  | [] => rfl
  | z :: zs => by
    have ih := lay_strs zs
    simp only [PyData.canLay0, PyData.canLayAll0, List.map_cons, List.all_cons] at ih ⊢
    rw [ih]
theorem depth_strs : ∀ zs : List Str, (PyData.list (zs.map PyData.str)).depth ≤ 2
  | [] => by decide
  | z :: zs => by
    have ih := depth_strs zs
    simp only [PyData.depth, PyData.depthAll, List.map_cons] at ih ⊢
    omega
theorem shaped_strs {zs : List Str} (h : ∀ z ∈ zs, PyData.strOk z = true) : SeqAt.shaped (.list (zs.map PyData.str)) = true := by
  unfold SeqAt.shaped
  rw [lay_strs, List.all_eq_true.mpr h, Bool.true_and]
  exact decide_eq_true (Nat.le_trans (depth_strs zs) (by decide))
theorem eqv_nil : ∀ zs : List Str, PyData.eqv (.list (zs.map PyData.str)) (.list []) = decide (zs = [])
  | [] => by decide
  | z :: zs => by simp [PyData.eqv, PyData.eqvAll]
theorem none_of {H H' : Hp} {a : Addr} (s : Same H H') (n : H' a = none) : H a = none := by
  cases h : H a with
  | none => rfl
  | some o => rw [s _ _ h] at n; cases n
end L2.LawH
set_option Elab.async false
set_option linter.all false
set_option maxRecDepth 100000
set_option maxHeartbeats 4000000
/-! Sets whose members have a key (texts, numbers): what they hold, in any order; adding; walking them; sorting sets of texts. -/
namespace L2.GSet
open PySem PySem.Spec PyProof.Rows
section
variable {P : Program} {w : World} {κ : Type} [DecidableEq κ]
/-- a set's payload holds the keys ks, and its table can be walked -/
structure Pay (kd : PySem.KeyKind P w κ) (key : Value → κ) (es : Array (Int × Value)) (t : SetTable) (ks : List κ) : Prop where
  el : ElemsOf kd es.toList
  pm : (es.toList.map fun e => key e.2).Perm ks
  few : es.size < scanBound
  fit : t.fits es.size = true
  ris : Ris t.place.toList
  led : w.params.followText "set-order" = true ∨ t.led = true
def GAt (kd : PySem.KeyKind P w κ) (key : Value → κ) (h : Heap) (a : Addr) (ks : List κ) : Prop :=
  ∃ o es ep t, h.get? a = some o ∧ o.ExactSet ∧ o.data = .set es ep t ∧ Pay kd key es t ks
variable {kd : PySem.KeyKind P w κ} {key : Value → κ} {es : Array (Int × Value)} {t : SetTable} {ks : List κ} {h h' : Heap} {a : Addr}
theorem GAt.keep (R : GAt kd key h a ks) (k : ∀ o, h.get? a = some o → h'.get? a = some o) : GAt kd key h' a ks :=
  let ⟨o, es, ep, t, ho, r⟩ := R
  ⟨o, es, ep, t, k o ho, r⟩
theorem GAt.some (R : GAt kd key h a ks) : ∃ o, h.get? a = some o := let ⟨o, _, _, _, ho, _⟩ := R; ⟨o, ho⟩
theorem Pay.size (p : Pay kd key es t ks) : es.size = ks.length := by
  have q := p.pm.length_eq
  rwa [List.length_map, Array.length_toList] at q
theorem Pay.is (hk : ∀ k v, kd.is k v = true → key v = k) (p : Pay kd key es t ks) {e : Int × Value} (he : e ∈ es.toList) (k : κ) : kd.is k e.2 = true ↔ key e.2 = k := by
  obtain ⟨⟨k', i, _⟩, _⟩ := p.el e he
  refine ⟨hk k _, fun z => ?_⟩
  rw [← z, hk k' _ i]
  exact i
theorem Pay.mem (hk : ∀ k v, kd.is k v = true → key v = k) (p : Pay kd key es t ks) (k : κ) : k ∈ ks ↔ ∃ e ∈ es.toList, kd.is k e.2 = true := by
  rw [← p.pm.mem_iff, List.mem_map]
  exact ⟨fun ⟨e, m, q⟩ => ⟨e, m, (p.is hk m k).2 q⟩, fun ⟨e, m, q⟩ => ⟨e, m, (p.is hk m k).1 q⟩⟩
end
section
variable {P : Program} {w : World} {κ : Type} [DecidableEq κ] {kd : PySem.KeyKind P w κ} {key : Value → κ} {A : Around} {E : Value → Shared → Prop} {s : Shared} {a : Addr} {ks : List κ}
/-- laying the payload down, with the growing behind it -/
theorem lay_down {grow : Bool → Sem Unit} (hgrow : ∀ (b : Bool) (s1 : Shared) (C : Unit → Shared → Prop), C () s1 → wpAny (model P w) A (grow b) C E s1)
    {o : Obj} {es0 es : Array (Int × Value)} {ep : Nat} {t0 t : SetTable} (ho : s.heap.get? a = some o) (ox : o.ExactSet) (od : o.data = .set es0 ep t0) (p : Pay kd key es t ks) {wd : Bool} {R : Option Bool → Shared → Prop}
    (hR : ∀ h', Heap.SameBut a s.heap h' → GAt kd key h' a ks → R (some true) { s with heap := h' }) :
    wpAny (model P w) A (do
        storeSet a es t
        if (!wd && t.tooFull) = true then do
            grow (relayAll t es (SetTable.grown es.size)).2.2
            storeSet a (relayAll t es (SetTable.grown es.size)).1 (relayAll t es (SetTable.grown es.size)).2.1
            pure (some true)
          else pure (some true)) R E s := by
  have b1 := Heap.SameBut.update s.heap a (Obj.putSet es t)
  have o1 := PpSet.storeB_at (es' := es) (t' := t) ho od
  refine wpAny_bind (wpAny_storeSet_of ho od ?_ (fits_of_scanBound p.few))
  split
  · have q1 := relayAll_perm t es (SetTable.grown es.size)
    have q2 := relayAll_fits t es (SetTable.grown es.size)
    have q3 := relayAll_ris t es (SetTable.grown es.size)
    have q4 := relayAll_led t es (SetTable.grown es.size)
    cases e : relayAll t es (SetTable.grown es.size) with
    | mk es2 rest =>
      obtain ⟨t2, gw⟩ := rest
      rw [e] at q1 q2 q3 q4
      have zz : es2.size = es.size := by
        have := q1.length_eq
        rwa [Array.length_toList, Array.length_toList] at this
      have p2 : Pay kd key es2 t2 ks := ⟨p.el.perm q1, (q1.map _).trans p.pm, by rw [zz]; exact p.few, q2, q3, p.led.imp id fun z => q4.trans z⟩
      have o2 := PpSet.storeB_at (es' := es2) (t' := t2) o1 rfl
      refine wpAny_bind (hgrow _ _ _ (wpAny_bind (wpAny_storeSet_of o1 rfl (wpAny_pure (hR _ (b1.trans (Heap.SameBut.update _ a _)) ⟨_, es2, _, t2, o2, ox, rfl, p2⟩)) (fits_of_scanBound p2.few))))
  · exact wpAny_pure (hR _ b1 ⟨_, es, _, t, o1, ox, rfl, p⟩)
theorem add_hashed (hk : ∀ k v, kd.is k v = true → key v = k) {k : κ} {x : Value} {Q : Bool → Shared → Prop} (hx : kd.is k x = true) (hsc : x.scannable = true) (R : GAt kd key s.heap a ks) (room : ks.length + 1 < scanBound)
    (hQ : ∀ b h', Heap.SameBut a s.heap h' → GAt kd key h' a (if k ∈ ks then ks else ks ++ [k]) → Q b { s with heap := h' }) :
    wpAny (model P w) A (setAddHashed a x (kd.hash k)) Q E s := by
  obtain ⟨o, es, ep, t, ho, ox, od, p⟩ := R
  unfold setAddHashed setAddHashedIn
  refine wpAny_holding (wpAny_bind (wpAny_setState_of ho od p.fit ?_))
  dsimp only
  rw [byScan_of hsc p.few p.el, if_pos rfl]
  unfold setAddByScan
  refine wpAny_bind (wpAny_bind (wpAny_rule (wpAny_bind (wpAny_setScan_of hx ho od p.fit p.el ?_))))
  cases fi : List.findIdx? (fun e => kd.is k e.2) es.toList with
  | some j =>
    obtain ⟨lj, ij, _⟩ := List.findIdx?_eq_some_iff_getElem.mp fi
    have mk : k ∈ ks := (p.mem hk k).2 ⟨_, List.getElem_mem lj, ij⟩
    have q := hQ false s.heap (Heap.SameBut.refl a s.heap) ⟨o, es, ep, t, ho, ox, od, by rw [if_pos mk]; exact p⟩
    exact wpAny_pure (wpAny_pure q)
  | none =>
    have mk : k ∉ ks := fun z => by
      obtain ⟨e, he, i⟩ := (p.mem hk k).1 z
      have c := List.findIdx?_eq_none_iff.mp fi e he
      rw [i] at c
      exact Bool.noConfusion c
    dsimp only
    have q1 := layNew_perm t es (kd.hash k) x
    have q2 := layNew_fits t es (kd.hash k) x
    have q3 := layNew_ris t es (kd.hash k) x p.ris
    have q4 := layNew_led t es (kd.hash k) x
    generalize layNew t es (kd.hash k) x = Z at q1 q2 q3 q4 ⊢
    obtain ⟨es1, t1, wd, gw⟩ := Z
    dsimp only at q1 q2 q3 q4 ⊢
    rw [Array.toList_push] at q1
    have zz : es1.size = ks.length + 1 := by
      have z := q1.length_eq
      rw [List.length_append, Array.length_toList, Array.length_toList, p.size] at z
      exact z
    have pay : ∀ t' : SetTable, t'.fits es1.size = true → Ris t'.place.toList → t'.led = t.led → Pay kd key es1 t' (ks ++ [k]) := fun t' f r l =>
      ⟨(p.el.push hx hsc).perm q1, by
        have z := q1.map fun e => key e.2
        rw [List.map_append, List.map_cons, List.map_nil, hk k x hx] at z
        exact z.trans (p.pm.append_right _), by rw [zz]; exact room, f, r, p.led.imp id fun z => l.trans z⟩
    have fin : ∀ h', Heap.SameBut a s.heap h' → GAt kd key h' a (ks ++ [k]) → Q true { s with heap := h' } := fun h' sb g => hQ true h' sb (by rw [if_neg mk]; exact g)
    have gives : ∀ (b : Bool) (s1 : Shared) (C : Unit → Shared → Prop), C () s1 → wpAny (model P w) A (match b with | true => rule "set.scan.the-table-gave-way" | false => pure ()) C E s1 := fun b s1 C q => by
      cases b
      · exact wpAny_pure q
      · exact wpAny_rule q
    refine wpAny_bind (gives _ _ _ ?_)
    split
    · refine wpAny_bind ?_
      rw [hashByValue_scannable 8 hsc]
      refine wpAny_pure (lay_down gives ho ox od (pay _ ?_ ?_ ?_) fun h' sb g => wpAny_pure (fin h' sb g))
      · split
        · exact q2
        · exact SetTable.fits_plain_off q2
      · split <;> exact q3
      · split <;> exact q4
    · refine wpAny_bind (wpAny_pure ?_)
      simp only [↓reduceIte]
      exact lay_down gives ho ox od (pay _ q2 q3 q4) fun h' sb g => wpAny_pure (fin h' sb g)
/-- a.add(x) -/
theorem add_call (hk : ∀ k v, kd.is k v = true → key v = k) {k : κ} {x : Value} {Q : Value → Shared → Prop} (hx : kd.is k x = true) (hsc : x.scannable = true) (R : GAt kd key s.heap a ks) (room : ks.length + 1 < scanBound)
    (hQ : ∀ h', Heap.SameBut a s.heap h' → GAt kd key h' a (if k ∈ ks then ks else ks ++ [k]) → Q .none { s with heap := h', toks := s.toks + 1 }) :
    wpAny (model P w) A (call (.builtin "set.add") [.ref a, x]) Q E s := by
  have ty : s.TypeIs (.ref a) "set" := by
    obtain ⟨o, es, ep, t, ho, ox, _⟩ := R
    exact ⟨o, ho, ox.1⟩
  refine wpAny_call_entry F.slot_set_add ty F.entry_set_add ?_ (F.args_set_add_2 _ _)
  unfold Builtin.«set.add» Builtin.Frozenset.oneOther Builtin.Frozenset.addrOf setAdd
  simp only [List.isEmpty_nil, bind_assoc]
  refine wpAny_bind (wpAny_pure (wpAny_bind (wpAny_pure (wpAny_bind (wpAny_holding (wpAny_bind (kd.pyHash hx ?_)))))))
  exact add_hashed (s := { s with toks := s.toks + 1 }) hk hx hsc R room fun b h' sb g => wpAny_pure ⟨_, rfl, hQ h' sb g⟩
theorem fresh (h : Heap) : GAt kd key (h.push { cls := .type "set", dict := none, data := .set #[] 0 (.fresh 0 0 (!w.params.followText "set-order")) }) h.objs.size [] := by
  refine ⟨_, #[], 0, _, Heap.get?_push_size _ rfl, ⟨rfl, rfl, rfl⟩, rfl, ⟨fun e z => by simp at z, .nil, by decide, rfl, List.Pairwise.nil, ?_⟩⟩
  show _ ∨ (!w.params.followText "set-order") = true
  cases w.params.followText "set-order"
  · exact .inr rfl
  · exact .inl rfl
end
end L2.GSet
set_option Elab.async false
set_option linter.all false
set_option maxRecDepth 100000
set_option maxHeartbeats 4000000
/-! Comprehensions of any kind with one or two `for`s, by what is laid ahead of them and what a turn's end does. -/
namespace L2.Cmp
open PySem PySem.Spec PyProof.Rows
/-- a turn's shape -/
def turnOf (tg : Expr) (ifs : List Expr) (p : Pos) (it : Value) (env : Env) (tail : Bool → Sem PySem.Fin) : Sem PySem.Fin := do
  standAt p
  match ← pyNext it with
  | none => pure (.done .next)
  | some v =>
    letOwnedTupleGo tg it v
    assign tg env v
    let ok ← forIn ifs true fun c r => if r = true then do let ok ← isTrue c env (eval c env); pure (ForInStep.yield ok) else pure (ForInStep.yield r)
    tail ok
/-- the innermost turn's end -/
def tailIn (em : Sem Unit) (cd : Code) : Bool → Sem PySem.Fin := fun ok => if ok = true then em >>= fun _ => again cd else again cd
/-- the outer one's: the second source is walked -/
def tailOut (node i1 : Expr) (acc : Value) (env : Env) (cd : Code) : Bool → Sem PySem.Fin := fun ok => if ok = true then do
    let x ← eval i1 env
    standAt i1.pos
    let x ← foldedSetIterable i1 env x
    let _ ← runOwn (.compStart node 1 (← holding [x] (pyIter x)) acc env) env
    again cd
  else again cd
/-- a set's, a list's or a dict's comprehension -/
def IsC (node : Expr) : Prop := (∃ e gs sc p, node = .SetComp e gs sc p) ∨ (∃ e gs sc p, node = .ListComp e gs sc p) ∨ ∃ k v gs sc p, node = .DictComp k v gs sc p
theorem IsC.den {prog : Program} {w : World} {node : Expr} (c : IsC node) (lvl : Nat) (it acc : Value) (env : Env) (A : Around) :
    (A.under (.compLoop node lvl it acc env) = A ∧ (model prog w).den (.compLoop node lvl it acc env) = (compTurn node lvl it acc env).onRaise (fun x => do noteFrame x env; theTreesLotGoes x) ∧ (Code.compLoop node lvl it acc env).quiet = true) ∧
    (A.under (.compStart node lvl it acc env) = A ∧ (model prog w).den (.compStart node lvl it acc env) = (compStart node lvl it acc env).onRaise (fun x => do noteFrame x env; standAt theWindowsPlace)) := by
  rcases c with ⟨e, gs, sc, p, rfl⟩ | ⟨e, gs, sc, p, rfl⟩ | ⟨k, v, gs, sc, p, rfl⟩ <;> exact ⟨⟨rfl, rfl, rfl⟩, rfl, rfl⟩
abbrev nil2 : Value → Shared → Prop := fun _ _ => False
theorem loop_any {prog : Program} {w : World} {A : Around} {R : Result → Shared → Prop} {s : Shared} {node : Expr} {lvl : Nat} {it acc : Value} {env : Env} (ic : IsC node) (Iv : Nat → Shared → Prop)
    (turn : ∀ n s, Iv n s → wpAny (model prog w) A (compTurn node lvl it acc env) (fun fin s' => match fin with | .done f => R (.ok f) s' | .again c' => c' = Code.compLoop node lvl it acc env ∧ ∃ m, m < n ∧ Iv m s') nil2 s)
    (n : Nat) (h : Iv n s) : codeAny (model prog w) A (.compLoop node lvl it acc env) R s := by
  obtain ⟨d1, d2, d3⟩ := (ic.den (prog := prog) (w := w) lvl it acc env A).1
  refine codeAny_loop d3 Iv (fun n s hI => ?_) n h
  rw [d1, d2]
  exact wpAny_noted (wpAny_mono (turn n s hI) (fun _ _ z => z) fun _ _ z => z.elim)
theorem start_any {prog : Program} {w : World} {A : Around} {R : Result → Shared → Prop} {s : Shared} {node tg iter : Expr} {ifs : List Expr} {lvl : Nat} {it acc : Value} {env : Env} (ic : IsC node) (hcl : (clausesOf node)[lvl]? = some ⟨tg, iter, ifs, 0⟩)
    (h0 : codeAny (model prog w) A (.compLoop node lvl it acc env) R s)
    (h : wpAny (model prog w) A (pyIter it) (fun it' s' => codeAny (model prog w) A (.compLoop node lvl it' acc env) R s') nil2 s) :
    codeAny (model prog w) A (.compStart node lvl it acc env) R s := by
  obtain ⟨d1, d2⟩ := (ic.den (prog := prog) (w := w) lvl it acc env A).2
  have qu : ∀ it', (Code.compLoop node lvl it' acc env).quiet = true := fun it' => (ic.den (prog := prog) (w := w) lvl it' acc env A).1.2.2
  refine codeAny_of_tree ?_
  rw [d1, d2]
  refine wpAny_notedAt ?_
  unfold compStart
  rw [hcl]
  show wpAny _ _ (ask >>= _) _ _ s
  refine wpAny_bind (wpAny_askSetting (wpAny_ite ?_))
  split
  · first
      | exact wpAny_bind (wpAny_pure (wpAny_pure (And.intro (qu _) h0)))
      | exact wpAny_pure (And.intro (qu _) h0)
  · refine wpAny_bind (wpAny_rule ?_)
    show wpAny _ _ (standAt iter.pos >>= _) _ _ s
    exact wpAny_bind (wpAny_standAt (wpAny_bind (wpAny_mono h (fun it' s' h' => wpAny_pure (And.intro (qu _) h')) fun _ _ z => z.elim)))
/-- what the end of a turn reaches from the slots σ: it forgets at most vs -/
def Past (B : Cx) (pins : List (Addr × Obj)) (vs : List Nat) (σ : List (Option V)) (C : Hp → Prop) (s' : Shared) : Prop :=
  ∃ σ' H', Inv B pins σ' H' s' ∧ σ'.length = σ.length ∧ (∀ (j : Nat) v, j ∉ vs → σ[j]? = some (some v) → σ'[j]? = some (some v)) ∧ C H'
abbrev TAc := List (Option V) → Hp → (Hp → Prop) → Prop
/-- the walk of one clause, as it is read -/
def Walk (J : It) (g : TG) (tt : TT) (ta : TAc) (vs : List Nat) (σ : List (Option V)) (Done : Hp → Prop) (H0 : Hp) : Prop :=
  ∃ W : Nat → Nat → Hp → Prop, (∃ m, W 0 m H0) ∧ ∀ i m H, W i m H → (J.stop i H ∧ Done H) ∨ (J.go i H ∧ ∃ Nx : Hp → Prop, (∀ H', Nx H' → ∃ m', m' < m ∧ W (i + 1) m' H') ∧
    ∀ x H', J.yld i H x H' → g x (wipe σ vs) H' fun σ2 H2 => wipe σ2 vs = wipe σ vs ∧ tt σ2 H2 fun b H3 => if b = true then ta σ2 H3 Nx else Nx H3)
section
variable {B : Cx} {pins : List (Addr × Obj)} {it : Addr} {fp : List Addr} {tn : Nat → Heap → Prop} {J : It} {vs : List Nat} {σ : List (Option V)} {tg : Expr} {ifs : List Expr} {g : TG} {tt : TT} {ta : TAc} {p : Pos} {tail : Bool → Sem PySem.Fin} {cd : Code}
theorem turn_ok (hx : B.xe = nil2) (hc : B.calm = true) (T : Turn B.prog B.w B.K tg J fp it tn) (pg : PG B tg g) (pt : PTs B ifs tt) (stat : ∀ H', (∀ b ∈ fp, H' b = none) → ∀ b ∈ fp, FpOk B pins H' b)
    (act : ∀ (pl : List (Addr × Obj)) s σ H C, Inv B pl σ H s → ta σ H C → wpAny (model B.prog B.w) B.A (tail true) (fun fin s' => fin = .again cd ∧ Past B pl vs σ C s') nil2 s) (no : tail false = again cd)
    {R : Result → Shared → Prop} {W : Nat → Nat → Hp → Prop} {Done : Hp → Prop} (hd : ∀ s' H', Inv B pins (wipe σ vs) H' s' → Done H' → R (.ok .next) s')
    (turn : ∀ i m H, W i m H → (J.stop i H ∧ Done H) ∨ (J.go i H ∧ ∃ Nx : Hp → Prop, (∀ H', Nx H' → ∃ m', m' < m ∧ W (i + 1) m' H') ∧
      ∀ x H', J.yld i H x H' → g x (wipe σ vs) H' fun σ2 H2 => wipe σ2 vs = wipe σ vs ∧ tt σ2 H2 fun b H3 => if b = true then ta σ2 H3 Nx else Nx H3)) (n : Nat) (s : Shared)
    (start : ∃ i H', Inv B pins (wipe σ vs) H' s ∧ tn i s.heap ∧ (∀ b ∈ fp, H' b = none) ∧ W i n H') :
    wpAny (model B.prog B.w) B.A (turnOf tg ifs p (.ref it) B.env tail) (fun fin s' => match fin with | .done f => R (.ok f) s' | .again c' => c' = cd ∧ ∃ m, m < n ∧ ∃ i H', Inv B pins (wipe σ vs) H' s' ∧ tn i s'.heap ∧ (∀ b ∈ fp, H' b = none) ∧ W i m H') nil2 s := by
  obtain ⟨i, H5, I5, st5, n5, w5⟩ := start
  unfold turnOf
  refine wpAny_bind (wpAny_standAt (wpAny_bind ?_))
  rcases turn i n H5 w5 with ⟨stop, dn⟩ | ⟨go, Nx, hNx, step⟩
  · refine thnF (T.done B rfl rfl rfl hc i pins s _ H5 nil2 I5 (stat _ n5) st5 stop) fun r s6 ⟨hr, I6⟩ => ?_
    subst hr
    exact wpAny_pure (hd _ _ I6 dn)
  · refine thnF (T.item B rfl rfl rfl hc i pins s _ H5 nil2 I5 (stat _ n5) st5 go) fun r s6 ⟨u, hr, h6⟩ => ?_
    subst hr
    refine wpAny_bind (thnF h6 fun _ s7 ⟨x, H7, I7, r7, y7, st7, n7⟩ => ?_)
    have a1 := pg.run _ s7 _ H7 x u _ (I7.pinned (stat _ n7) (T.obj _ _ st7)) r7 (step x H7 y7)
    rw [hx] at a1
    refine wpAny_bind (thnF a1 fun _ s8 ⟨σ8, H8, I8, hw8, q8⟩ => ?_)
    have a2 := pt.run _ s8 σ8 H8 _ I8 q8
    rw [hx] at a2
    refine wpAny_bind (thnF a2 fun b s9 ⟨H9, I9, q9⟩ => ?_)
    have fin : ∀ s', Past B (pins ++ pinsAt fp s7.heap) vs σ8 Nx s' → ∃ m, m < n ∧ ∃ i H', Inv B pins (wipe σ vs) H' s' ∧ tn i s'.heap ∧ (∀ b ∈ fp, H' b = none) ∧ W i m H' := by
      rintro s' ⟨σ', H', I', hl, hk, nx⟩
      obtain ⟨m, lt, wm⟩ := hNx H' nx
      have there : ∀ b ∈ fp, ∀ o, s7.heap.get? b = some o → s'.heap.get? b = some o ∧ H' b = none := fun b hb o e =>
        let z := I'.pin (b, o) (List.mem_append_right _ (List.mem_append_right _ (mem_pinsAt hb e)))
        ⟨z.1, z.2.1⟩
      refine ⟨m, lt, i + 1, H', I'.unpinned.weak ?_ ?_, T.keep _ _ _ st7 fun b hb o e => (there b hb o e).1, fun b hb => ?_, wm⟩
      · rw [hl, ← hw8, wipe_length]
      · intro j v e
        rw [← hw8] at e
        exact hk j v (wipe_some e).2 (wipe_some e).1
      · obtain ⟨o, e, _⟩ := T.obj _ _ st7 b hb
        exact (there b hb o e).2
    cases b with
    | false =>
      rw [no]
      exact wpAny_pure ⟨rfl, fin _ ⟨σ8, H9, I9, rfl, fun _ _ _ e => e, q9⟩⟩
    | true =>
      refine wpAny_mono (act _ s9 σ8 H9 _ I9 q9) (fun f s' z => ?_) fun _ _ z => z.elim
      obtain ⟨rfl, pa⟩ := z
      exact ⟨rfl, fin _ pa⟩
/-- the whole loop of a clause -/
theorem clause_ok {node : Expr} {lvl : Nat} {acc : Value} (ic : IsC node) (ht : compTurn node lvl (.ref it) acc B.env = turnOf tg ifs p (.ref it) B.env tail) (hcd : cd = .compLoop node lvl (.ref it) acc B.env)
    (hx : B.xe = nil2) (hc : B.calm = true) (T : Turn B.prog B.w B.K tg J fp it tn) (pg : PG B tg g) (pt : PTs B ifs tt) (stat : ∀ H', (∀ b ∈ fp, H' b = none) → ∀ b ∈ fp, FpOk B pins H' b)
    (act : ∀ (pl : List (Addr × Obj)) s σ H C, Inv B pl σ H s → ta σ H C → wpAny (model B.prog B.w) B.A (tail true) (fun fin s' => fin = .again cd ∧ Past B pl vs σ C s') nil2 s) (no : tail false = again cd)
    {R : Result → Shared → Prop} {Done : Hp → Prop} (hd : ∀ s' H', Inv B pins (wipe σ vs) H' s' → Done H' → R (.ok .next) s')
    {H0 : Hp} (wk : Walk J g tt ta vs σ Done H0) {s : Shared} (I : Inv B pins (wipe σ vs) H0 s) (st : tn 0 s.heap) (n0 : ∀ b ∈ fp, H0 b = none) :
    codeAny (model B.prog B.w) B.A (.compLoop node lvl (.ref it) acc B.env) R s := by
  obtain ⟨W, ⟨m0, w0⟩, turn⟩ := wk
  subst hcd
  refine loop_any ic (fun n s' => ∃ i H', Inv B pins (wipe σ vs) H' s' ∧ tn i s'.heap ∧ (∀ b ∈ fp, H' b = none) ∧ W i n H') (fun n s' z => ?_) m0 ⟨0, H0, I, st, n0, w0⟩
  rw [ht]
  exact turn_ok hx hc T pg pt stat act no hd turn n s' z
/-- the end of an innermost turn, by what the code em does -/
theorem act_in {em : Sem Unit} (h : ∀ (pl : List (Addr × Obj)) s σ H C, Inv B pl σ H s → ta σ H C → wpAny (model B.prog B.w) B.A em (fun _ s' => ∃ H', Inv B pl σ H' s' ∧ C H') nil2 s) :
    ∀ (pl : List (Addr × Obj)) s σ H C, Inv B pl σ H s → ta σ H C → wpAny (model B.prog B.w) B.A (tailIn em cd true) (fun fin s' => fin = .again cd ∧ Past B pl vs σ C s') nil2 s := by
  intro pl s σ H C I q
  show wpAny _ _ (em >>= fun _ => again cd) _ _ s
  exact wpAny_bind (wpAny_mono (h pl s σ H C I q) (fun _ s' ⟨H', I', c⟩ => wpAny_pure ⟨rfl, σ, H', I', rfl, fun _ _ _ e => e, c⟩) fun _ _ z => z)
/-- the end of an outer turn -/
theorem act_out {node i1 t1 : Expr} {ifs1 : List Expr} {acc : Value} {wi1 : TI} {g1 : TG} {tt1 : TT} {vs1 : List Nat} {em : Sem Unit} {p1 : Pos} (ic : IsC node) (hcl : (clausesOf node)[1]? = some ⟨t1, i1, ifs1, 0⟩)
    (ht : ∀ it1, compTurn node 1 (.ref it1) acc B.env = turnOf t1 ifs1 p1 (.ref it1) B.env (tailIn em (.compLoop node 1 (.ref it1) acc B.env)))
    (hx : B.xe = nil2) (hc : B.calm = true) (hv : ∀ i ∈ vs1, i ∈ vs) (hs : ∀ x, foldedSetIterable i1 B.env x = pure x) (hi1 : PI B t1 i1 wi1) (pg1 : PG B t1 g1) (pt1 : PTs B ifs1 tt1)
    (h : ∀ (pl : List (Addr × Obj)) s σ H C, Inv B pl σ H s → ta σ H C → wpAny (model B.prog B.w) B.A em (fun _ s' => ∃ H', Inv B pl σ H' s' ∧ C H') nil2 s) :
    ∀ (pl : List (Addr × Obj)) s σ H C, Inv B pl σ H s → (wi1 σ H fun J1 H1 => Walk J1 g1 tt1 ta vs1 σ C H1) →
      wpAny (model B.prog B.w) B.A (tailOut node i1 acc B.env cd true) (fun fin s' => fin = .again cd ∧ Past B pl vs σ C s') nil2 s := by
  intro pl s σ H C I q
  unfold tailOut
  rw [if_pos rfl]
  have a1 := hi1.run pl s σ H _ I q
  rw [hx] at a1
  refine wpAny_bind (thnF a1 fun xv s1 a2 => ?_)
  refine wpAny_bind (wpAny_standAt (wpAny_bind (wpAny_of_eq (hs xv) (wpAny_bind (wpAny_holding (thnF a2 fun itv s2 z => ?_))))))
  obtain ⟨it1, fp1, tn1, J1, H2, rfl, I2, T1, st2, f2, wk⟩ := z
  refine wpAny_bind (wpAny_runOwn ?_)
  have stat1 : ∀ H', (∀ b ∈ fp1, H' b = none) → ∀ b ∈ fp1, FpOk B pl H' b := fun H' hn b hb => ⟨hn b hb, (f2 b hb).2⟩
  have lp : codeAny (model B.prog B.w) B.A (.compLoop node 1 (.ref it1) acc B.env) (fun r s' => match r with | .ok _ => Past B pl vs σ C s' | .error _ => False) s2 :=
    clause_ok (cd := .compLoop node 1 (.ref it1) acc B.env) ic (ht it1) rfl hx hc T1 pg1 pt1 stat1 (act_in h) rfl
      (fun s' H' I' c => ⟨wipe σ vs1, H', I', wipe_length _ _, fun j v nj e => by rw [wipe_out fun m => nj (hv j m)]; exact e, c⟩) wk (I2.weak (wipe_length _ _) fun j v e => (wipe_some e).1) st2 fun b hb => (f2 b hb).1
  rw [Around.mark_none]
  refine codeAny_mono (start_any ic hcl lp (T1.self B.A 0 _ _ _ st2 lp)) fun r s' hr => ?_
  cases r with
  | error e => exact hr.elim
  | ok f => first
    | exact wpAny_pure ⟨rfl, hr⟩
    | exact wpAny_bind (wpAny_pure (wpAny_pure ⟨rfl, hr⟩))
end
end L2.Cmp
set_option Elab.async false
set_option linter.all false
set_option maxRecDepth 100000
set_option maxHeartbeats 4000000
/-! Set comprehensions with one or two `for`s. -/
namespace L2.Cmp
open PySem PySem.Spec PyProof.Rows
section
variable {X : Cx}
/-- from the comprehension to its first clause's loop -/
theorem block_any {pins : List (Addr × Obj)} {s : Shared} {σ : L2.St} {H : Hp} {Q : VK} {node tg iter : Expr} {ifs : List Expr} {rest : List Comprehension} {scope : Scope} {own : List (PySem.Str × Nat)} {pos' : Pos} {wi : TI} {use : Option (Value → Sem Unit)} {Qf : Value → Shared → Prop}
    {newAcc : Sem Value} {O : Obj} {emp : Addr → HO} {Rd : It → Addr → Hp → Prop} (ic : IsC node) (hcl : clausesOf node = ⟨tg, iter, ifs, 0⟩ :: rest)
    (hnew : ∀ {s : Shared} {Q E : Value → Shared → Prop}, Q (.ref s.heap.objs.size) { s with heap := s.heap.push O } → wpAny (model X.prog X.w) X.A newAcc Q E s)
    (hemp : ∀ {pins : List (Addr × Obj)} {σ : L2.St} {H : Hp} {s : Shared}, Inv X pins σ H s → ∀ H' : Hp, ObjOk X.prog X.w H' (s.heap.push O) s.heap.objs.size (emp s.heap.objs.size))
    (hc : X.calm = true) (hN : X.N.Nodup) (I : Inv X pins σ H s) (hi : PI X tg iter wi) (ok : BlkOk X.N X.env.scope scope own) (hs : ∀ x, foldedSetIterable iter X.env x = pure x)
    (h : wi σ H fun J H1 => ∀ D, H1 D = none → Rd J D (upd H1 D (emp D)))
    (loop : ∀ (s3 : Shared) (H3 : Hp) (C : Addr) (cl : List (PySem.Str × Addr)) (fp : List Addr) (it : Addr) (tn : Nat → Heap → Prop) (J : It) (D : Addr) (s4 : Shared), Turn X.prog X.w X.K tg J fp it tn →
      (∀ H', (∀ b ∈ fp, H' b = none) → ∀ b ∈ fp, FpOk (X.blk s3 H3 scope (compEnvC scope cl C X.env) fp) [] H' b) → Inv (X.blk s3 H3 scope (compEnvC scope cl C X.env) fp) [] (wipe σ (own.map (·.2))) H3 s4 → tn 0 s4.heap → (∀ b ∈ fp, H3 b = none) → Rd J D H3 →
      codeAny (model X.prog X.w) X.A (.compLoop node 0 (.ref it) (.ref D) (compEnvC scope cl C X.env)) (fun r s' => match r with
        | .ok _ => ∃ H', Inv (X.blk s3 H3 scope (compEnvC scope cl C X.env) fp) [] (wipe σ (own.map (·.2))) H' s' ∧ Q (.ref D) H'
        | .error _ => False) s4)
    (hRR : ∀ D C s' m H', Inv X pins σ H' s' → Q (.ref D) H' → s'.heap.Ns C m → FpOk X pins H' C → compPost (model X.prog X.w) X.A X.xe use Qf (.ref D) C (.ok .next) s') :
    wpAny (model X.prog X.w) X.A (comprehension node scope X.env pos' newAcc false (eval iter X.env) use) Qf X.xe s := by
  have frees : ∀ y ∈ scope.names, y.2 = .free → ∃ c, X.env.cells.lookup y.1 = some c := fun y hy e => (ok.free y hy e).elim (fun k => I.ok.has _ (.inl k)) fun k => I.ok.has _ (.inr k)
  refine wpAny_comprehension_free (use := use) hcl hs (closure_ok frees) ok.kind (fun y hy e => by rw [ok.uniq y hy, e]) (thn (hi.run pins s σ H _ I h) fun xv s1 hx => thn hx fun itv s2 z => ?_)
  obtain ⟨it, fp, tn, J, H2, rfl, I2, T, st2, f2, q⟩ := z
  refine hnew (newEnv_comp ?_)
  obtain ⟨D, hD⟩ : ∃ D, s2.heap.objs.size = D := ⟨_, rfl⟩
  have rd := q D (I2.hok.fresh (Nat.le_of_eq hD))
  obtain ⟨s3, hs3⟩ : ∃ s3 : Shared, ({ s2 with heap := s2.heap.push O } : Shared) = s3 := ⟨_, rfl⟩
  have push3 : s3.heap = s2.heap.push O := by rw [← hs3]
  have I3 : Inv X pins σ (upd H2 D (emp D)) s3 := by
    rw [← hs3, ← hD]
    exact I2.laid (t' := s2.toks) (fun b o e => Heap.get?_push_of_some _ e) (Nat.le_refl _) (hemp I2 _)
  have f3 : ∀ b ∈ fp, FpOk X pins (upd H2 D (emp D)) b ∧ b < s3.heap.objs.size := fun b hb => by
    obtain ⟨o, e, _⟩ := T.obj _ _ st2 b hb
    have lt := Heap.lt_size e
    refine ⟨⟨?_, (f2 b hb).2⟩, by rw [push3, Heap.size_push]; exact Nat.lt_succ_of_lt lt⟩
    rw [upd_ne (Nat.ne_of_lt (hD ▸ lt))]
    exact (f2 b hb).1
  have st3 : tn 0 s3.heap := T.keep _ _ _ st2 fun b _ o e => by rw [push3]; exact Heap.get?_push_of_some _ e
  rw [hD, hs3]
  generalize hH3 : upd H2 D (emp D) = H3 at I3 f3 rd
  have I4 := block_start I3 ok hN f3
  generalize hcl' : cellsFrom (s3.heap.objs.size + 1) scope.names (cloFrom X.env.cells scope.names []) = cl at I4 ⊢
  obtain ⟨s4, hs4⟩ : ∃ s4 : Shared, ({ s3 with heap := pushCells (s3.heap.push { cls := .type "dict", data := .dict #[] }) scope.names } : Shared) = s4 := ⟨_, rfl⟩
  rw [hs4] at I4
  have st4 : tn 0 s4.heap := T.keep _ _ _ st3 fun b _ o e => by rw [← hs4]; exact pushCells_keeps _ _ _ _ (Heap.get?_push_of_some _ e)
  have nfp : ∀ b ∈ fp, H3 b = none := fun b hb => (f3 b hb).1.1
  have stat : ∀ H', (∀ b ∈ fp, H' b = none) → ∀ b ∈ fp, FpOk (X.blk s3 H3 scope (compEnvC scope cl s3.heap.objs.size X.env) fp) [] H' b := fun H' hn b hb =>
    ⟨hn b hb, (I4.ok.exf b hb).1, I4.ok.exfs b hb, .inl hb, fun x c e => (I4.ok.exf b hb).2 x c e, fun p hp => absurd (show p ∈ ([] : List (Addr × Obj)) ++ [] from hp) (by simp)⟩
  show codeAny _ _ (.compStart node 0 (.ref it) (.ref D) (compEnvC scope cl s3.heap.objs.size X.env)) (compPost (model X.prog X.w) X.A X.xe use Qf (.ref D) s3.heap.objs.size) _
  rw [hs4]
  have lp := codeAny_mono (loop s3 H3 s3.heap.objs.size cl fp it tn J D s4 T stat I4 st4 nfp rd) (R' := compPost (model X.prog X.w) X.A X.xe use Qf (.ref D) s3.heap.objs.size) fun r s' z => by
    cases r with
    | error e => exact z.elim
    | ok f =>
      obtain ⟨H', I', qq⟩ := z
      have I7 : Inv X pins σ H' s' := I3.call' (ch := fp) I'.os I'.base I'.hok I'.bare fun b hb => ⟨(f3 b hb).1.2.2.2.1, (f3 b hb).1.2.1, (f3 b hb).1.2.2.2.2.1, (f3 b hb).1.2.2.2.2.2⟩
      have nC : H' s3.heap.objs.size = none := I'.free
      obtain ⟨m, hn, _⟩ := I'.loc
      have cp := hRR D s3.heap.objs.size s' m H' I7 qq hn (I3.fpOk (Nat.le_refl _) nC)
      cases use <;> exact cp
  exact start_any ic (by rw [hcl]; rfl) lp (T.self X.A 0 _ _ _ st4 lp)
end
/-- how values go into a new set -/
structure Adder (P : Program) (w : World) where
  emp : Addr → HO
  ad : Addr → V → Hp → (Hp → Prop) → Prop
  fresh : ∀ (H : Hp) (h : Heap), ObjOk P w H (h.push { cls := .type "set", dict := none, data := .set #[] 0 (.fresh 0 0 (!w.params.followText "set-order")) }) h.objs.size (emp h.objs.size)
  add : ∀ {X : Cx}, X.prog = P → X.w = w → ∀ {pins : List (Addr × Obj)} {σ : L2.St} {H : Hp} {s : Shared} {E : Value → Shared → Prop} {D : Addr} {y : V} {v : Value} {C : Hp → Prop}, Inv X pins σ H s → RelV y v → ad D y H C →
    wpAny (model P w) X.A (call (.builtin "set.add") [.ref D, v]) (fun _ s' => ∃ H', Inv X pins σ H' s' ∧ C H') E s
/-- an item into the set at D -/
def tAd {P : Program} {w : World} (M : Adder P w) (te : TE) (D : Addr) : TAc := fun σ H C => te σ H fun y H' => M.ad D y H' C
def tSet1 {P : Program} {w : World} (M : Adder P w) (wi : TI) (g : TG) (tt : TT) (te : TE) (vs : List Nat) : TE := fun σ H Q => wi σ H fun J H1 => ∀ D, H1 D = none → Walk J g tt (tAd M te D) vs σ (fun H => Q (.ref D) H) (upd H1 D (M.emp D))
def tSet2 {P : Program} {w : World} (M : Adder P w) (wi : TI) (g : TG) (tt : TT) (wi1 : TI) (g1 : TG) (tt1 : TT) (te : TE) (vs vs1 : List Nat) : TE := fun σ H Q => wi σ H fun J H1 => ∀ D, H1 D = none →
  Walk J g tt (fun σ2 H2 C => wi1 σ2 H2 fun J1 H3 => Walk J1 g1 tt1 (tAd M te D) vs1 σ2 C H3) vs σ (fun H => Q (.ref D) H) (upd H1 D (M.emp D))
section
variable {X : Cx} {elt tg iter : Expr} {ifs : List Expr} {scope : Scope} {own : List (PySem.Str × Nat)} {pos : Pos} {wi : TI} {g : TG} {tt : TT} {te : TE}
theorem emit_ok {B : Cx} (M : Adder B.prog B.w) (hx : B.xe = nil2) (he : PE B elt te) {D : Addr} : ∀ (pl : List (Addr × Obj)) s σ H C, Inv B pl σ H s → tAd M te D σ H C →
    wpAny (model B.prog B.w) B.A (do let v ← eval elt B.env; standAt elt.pos; let _ ← call (.builtin "set.add") [.ref D, v]) (fun _ s' => ∃ H', Inv B pl σ H' s' ∧ C H') nil2 s := by
  intro pl s σ H C I q
  have a1 := he.run pl s σ H _ I q
  rw [hx] at a1
  exact wpAny_bind (thnF a1 fun v s1 ⟨y, H1, I1, r1, q1⟩ => wpAny_bind (wpAny_standAt (wpAny_bind (thnF (M.add rfl rfl I1 r1 q1) fun _ s2 z => wpAny_pure z))))
theorem pe_set1 (M : Adder X.prog X.w) (hc : X.calm = true) (hN : X.N.Nodup) (hi : PI X tg iter wi) (ok : BlkOk X.N X.env.scope scope own)
    (hg : ∀ (s : Shared) (H : Hp) (C : Addr) (cl : List (PySem.Str × Addr)) (fp : List Addr), PG (X.blk s H scope (compEnvC scope cl C X.env) fp) tg g) (ht : ∀ (s : Shared) (H : Hp) (C : Addr) (cl : List (PySem.Str × Addr)) (fp : List Addr), PTs (X.blk s H scope (compEnvC scope cl C X.env) fp) ifs tt)
    (he : ∀ (s : Shared) (H : Hp) (C : Addr) (cl : List (PySem.Str × Addr)) (fp : List Addr), PE (X.blk s H scope (compEnvC scope cl C X.env) fp) elt te) (hs : ∀ x, foldedSetIterable iter X.env x = pure x := by intro _; rfl) :
    PE X (.SetComp elt [⟨tg, iter, ifs, 0⟩] scope pos) (tSet1 M wi g tt te (own.map (·.2))) := by
  refine ⟨fun pins s σ H Q I h => ?_⟩
  rw [PpSet.eval_SetComp]
  refine block_any (Q := Q) (Rd := fun J D H1 => Walk J g tt (tAd M te D) (own.map fun z : PySem.Str × Nat => z.2) σ (fun H => Q (.ref D) H) H1) (.inl ⟨_, _, _, _, rfl⟩) rfl (fun q => PpSet.newSet_ok q) (fun _ _ => M.fresh _ _) hc hN I hi ok hs h
    (fun s3 H3 C cl fp it tn J D s4 T stat I4 st4 nfp rd => ?_) fun D C s' m H' I' q hn f => ⟨m, hn, fun h'' sb => ?_⟩
  · exact clause_ok (B := X.blk s3 H3 scope (compEnvC scope cl C X.env) fp) (tail := tailIn _ _) (p := iter.pos) (.inl ⟨_, _, _, _, rfl⟩) rfl rfl rfl hc T (hg s3 H3 C cl fp) (ht s3 H3 C cl fp) stat (act_in (emit_ok (B := X.blk s3 H3 scope (compEnvC scope cl C X.env) fp) M rfl (he s3 H3 C cl fp))) rfl
      (fun s' H' I' d => ⟨H', I', d⟩) rd I4 st4 nfp
  · obtain ⟨f0, f1, f2, f3, f4, f5⟩ := f
    exact ⟨.ref D, H', I'.turned (t' := s'.toks) (fun b o hb e => (sb.2 b hb).trans e) f0 f1 f3 f4 f5, rfl, q⟩
theorem pe_set2 (M : Adder X.prog X.w) {tg1 iter1 : Expr} {ifs1 : List Expr} {wi1 : TI} {g1 : TG} {tt1 : TT} {vs1 : List Nat} (hc : X.calm = true) (hN : X.N.Nodup) (hi : PI X tg iter wi) (ok : BlkOk X.N X.env.scope scope own) (hv : ∀ i ∈ vs1, i ∈ own.map (·.2))
    (hg : ∀ (s : Shared) (H : Hp) (C : Addr) (cl : List (PySem.Str × Addr)) (fp : List Addr), PG (X.blk s H scope (compEnvC scope cl C X.env) fp) tg g) (ht : ∀ (s : Shared) (H : Hp) (C : Addr) (cl : List (PySem.Str × Addr)) (fp : List Addr), PTs (X.blk s H scope (compEnvC scope cl C X.env) fp) ifs tt)
    (hi1 : ∀ (s : Shared) (H : Hp) (C : Addr) (cl : List (PySem.Str × Addr)) (fp : List Addr), PI (X.blk s H scope (compEnvC scope cl C X.env) fp) tg1 iter1 wi1)
    (hg1 : ∀ (s : Shared) (H : Hp) (C : Addr) (cl : List (PySem.Str × Addr)) (fp : List Addr), PG (X.blk s H scope (compEnvC scope cl C X.env) fp) tg1 g1) (ht1 : ∀ (s : Shared) (H : Hp) (C : Addr) (cl : List (PySem.Str × Addr)) (fp : List Addr), PTs (X.blk s H scope (compEnvC scope cl C X.env) fp) ifs1 tt1)
    (he : ∀ (s : Shared) (H : Hp) (C : Addr) (cl : List (PySem.Str × Addr)) (fp : List Addr), PE (X.blk s H scope (compEnvC scope cl C X.env) fp) elt te)
    (hs : ∀ x, foldedSetIterable iter X.env x = pure x := by intro _; rfl) (hs1 : ∀ env x, foldedSetIterable iter1 env x = pure x := by intro _ _; rfl) :
    PE X (.SetComp elt [⟨tg, iter, ifs, 0⟩, ⟨tg1, iter1, ifs1, 0⟩] scope pos) (tSet2 M wi g tt wi1 g1 tt1 te (own.map (·.2)) vs1) := by
  refine ⟨fun pins s σ H Q I h => ?_⟩
  rw [PpSet.eval_SetComp]
  refine block_any (Q := Q) (Rd := fun J D H1 => Walk J g tt (fun σ2 H2 C => wi1 σ2 H2 fun J1 H3 => Walk J1 g1 tt1 (tAd M te D) vs1 σ2 C H3) (own.map fun z : PySem.Str × Nat => z.2) σ (fun H => Q (.ref D) H) H1) (.inl ⟨_, _, _, _, rfl⟩) rfl (fun q => PpSet.newSet_ok q) (fun _ _ => M.fresh _ _) hc hN I hi ok hs h
    (fun s3 H3 C cl fp it tn J D s4 T stat I4 st4 nfp rd => ?_) fun D C s' m H' I' q hn f => ⟨m, hn, fun h'' sb => ?_⟩
  · exact clause_ok (B := X.blk s3 H3 scope (compEnvC scope cl C X.env) fp) (tail := tailOut _ iter1 (.ref D) _ _) (p := iter.pos) (.inl ⟨_, _, _, _, rfl⟩) rfl rfl rfl hc T (hg s3 H3 C cl fp) (ht s3 H3 C cl fp) stat
      (act_out (p1 := iter1.pos) (.inl ⟨_, _, _, _, rfl⟩) rfl (fun it1 => rfl) rfl hc hv (hs1 _) (hi1 s3 H3 C cl fp) (hg1 s3 H3 C cl fp) (ht1 s3 H3 C cl fp) (emit_ok (B := X.blk s3 H3 scope (compEnvC scope cl C X.env) fp) M rfl (he s3 H3 C cl fp))) rfl
      (fun s' H' I' d => ⟨H', I', d⟩) rd I4 st4 nfp
  · obtain ⟨f0, f1, f2, f3, f4, f5⟩ := f
    exact ⟨.ref D, H', I'.turned (t' := s'.toks) (fun b o hb e => (sb.2 b hb).trans e) f0 f1 f3 f4 f5, rfl, q⟩
end
/-- a key and a value into the dict at D -/
def tPut (tk tv : TE) (D : Addr) : TAc := fun σ H C => tk σ H fun y H1 => tv σ H1 fun x H2 => ∃ (kvs : List (Key × V)) (k : Key), y = kV k ∧ H2 D = some (.dK kvs) ∧ kvs.length < sizeLine ∧ C (upd H2 D (.dK (putK kvs k x)))
def tDict2 (wi : TI) (g : TG) (tt : TT) (wi1 : TI) (g1 : TG) (tt1 : TT) (tk tv : TE) (vs vs1 : List Nat) : TE := fun σ H Q => wi σ H fun J H1 => ∀ D, H1 D = none →
  Walk J g tt (fun σ2 H2 C => wi1 σ2 H2 fun J1 H3 => Walk J1 g1 tt1 (tPut tk tv D) vs1 σ2 C H3) vs σ (fun H => Q (.ref D) H) (upd H1 D (.dK []))
section
variable {X : Cx} {kx vx tg iter : Expr} {ifs : List Expr} {scope : Scope} {own : List (PySem.Str × Nat)} {pos : Pos} {wi : TI} {g : TG} {tt : TT} {tk tv : TE}
theorem emit_put {B : Cx} (hx : B.xe = nil2) (hk : PE B kx tk) (hv : PE B vx tv) {D : Addr} {p : Pos} : ∀ (pl : List (Addr × Obj)) s σ H C, Inv B pl σ H s → tPut tk tv D σ H C →
    wpAny (model B.prog B.w) B.A (do let kv ← eval kx B.env; let vv ← holding [kv] (eval vx B.env); standAt p; holding [kv, vv] (dictSet D kv vv)) (fun _ s' => ∃ H', Inv B pl σ H' s' ∧ C H') nil2 s := by
  intro pl s σ H C I q
  have a1 := hk.run pl s σ H _ I q
  rw [hx] at a1
  refine wpAny_bind (thnF a1 fun kv s1 ⟨y, H1, I1, r1, q1⟩ => ?_)
  have a2 := hv.run pl s1 σ H1 _ I1 q1
  rw [hx] at a2
  refine wpAny_bind (wpAny_holding (thnF a2 fun vv s2 ⟨x, H2, I2, r2, kvs, k, ey, hD, few, c⟩ => ?_))
  subst ey
  exact wpAny_bind (wpAny_standAt (wpAny_holding (d_dictSet I2 hD few r1 r2 fun s3 I3 => ⟨_, I3, c⟩)))
theorem pe_dict2 {tg1 iter1 : Expr} {ifs1 : List Expr} {wi1 : TI} {g1 : TG} {tt1 : TT} {vs1 : List Nat} (hc : X.calm = true) (hN : X.N.Nodup) (hi : PI X tg iter wi) (ok : BlkOk X.N X.env.scope scope own) (hv : ∀ i ∈ vs1, i ∈ own.map (·.2))
    (hg : ∀ (s : Shared) (H : Hp) (C : Addr) (cl : List (PySem.Str × Addr)) (fp : List Addr), PG (X.blk s H scope (compEnvC scope cl C X.env) fp) tg g) (ht : ∀ (s : Shared) (H : Hp) (C : Addr) (cl : List (PySem.Str × Addr)) (fp : List Addr), PTs (X.blk s H scope (compEnvC scope cl C X.env) fp) ifs tt)
    (hi1 : ∀ (s : Shared) (H : Hp) (C : Addr) (cl : List (PySem.Str × Addr)) (fp : List Addr), PI (X.blk s H scope (compEnvC scope cl C X.env) fp) tg1 iter1 wi1)
    (hg1 : ∀ (s : Shared) (H : Hp) (C : Addr) (cl : List (PySem.Str × Addr)) (fp : List Addr), PG (X.blk s H scope (compEnvC scope cl C X.env) fp) tg1 g1) (ht1 : ∀ (s : Shared) (H : Hp) (C : Addr) (cl : List (PySem.Str × Addr)) (fp : List Addr), PTs (X.blk s H scope (compEnvC scope cl C X.env) fp) ifs1 tt1)
    (hk : ∀ (s : Shared) (H : Hp) (C : Addr) (cl : List (PySem.Str × Addr)) (fp : List Addr), PE (X.blk s H scope (compEnvC scope cl C X.env) fp) kx tk) (he : ∀ (s : Shared) (H : Hp) (C : Addr) (cl : List (PySem.Str × Addr)) (fp : List Addr), PE (X.blk s H scope (compEnvC scope cl C X.env) fp) vx tv)
    (hs : ∀ x, foldedSetIterable iter X.env x = pure x := by intro _; rfl) (hs1 : ∀ env x, foldedSetIterable iter1 env x = pure x := by intro _ _; rfl) :
    PE X (.DictComp kx vx [⟨tg, iter, ifs, 0⟩, ⟨tg1, iter1, ifs1, 0⟩] scope pos) (tDict2 wi g tt wi1 g1 tt1 tk tv (own.map (·.2)) vs1) := by
  refine ⟨fun pins s σ H Q I h => ?_⟩
  rw [arm_eval_DictComp]
  refine block_any (Q := Q) (Rd := fun J D H1 => Walk J g tt (fun σ2 H2 C => wi1 σ2 H2 fun J1 H3 => Walk J1 g1 tt1 (tPut tk tv D) vs1 σ2 C H3) (own.map fun z : PySem.Str × Nat => z.2) σ (fun H => Q (.ref D) H) H1) (emp := fun _ => .dK []) (.inr (.inr ⟨_, _, _, _, _, rfl⟩)) rfl
    (fun q => wpAny_newObj_type q) (fun I' H' => dk_empty _ I'.big) hc hN I hi ok hs h
    (fun s3 H3 C cl fp it tn J D s4 T stat I4 st4 nfp rd => ?_) fun D C s' m H' I' q hn f => ⟨m, hn, fun h'' sb => ?_⟩
  · exact clause_ok (B := X.blk s3 H3 scope (compEnvC scope cl C X.env) fp) (tail := tailOut _ iter1 (.ref D) _ _) (p := iter.pos) (.inr (.inr ⟨_, _, _, _, _, rfl⟩)) rfl rfl rfl hc T (hg s3 H3 C cl fp) (ht s3 H3 C cl fp) stat
      (act_out (p1 := iter1.pos) (.inr (.inr ⟨_, _, _, _, _, rfl⟩)) rfl (fun it1 => rfl) rfl hc hv (hs1 _) (hi1 s3 H3 C cl fp) (hg1 s3 H3 C cl fp) (ht1 s3 H3 C cl fp) (emit_put (B := X.blk s3 H3 scope (compEnvC scope cl C X.env) fp) rfl (hk s3 H3 C cl fp) (he s3 H3 C cl fp))) rfl
      (fun s' H' I' d => ⟨H', I', d⟩) rd I4 st4 nfp
  · obtain ⟨f0, f1, f2, f3, f4, f5⟩ := f
    exact ⟨.ref D, H', I'.turned (t' := s'.toks) (fun b o hb e => (sb.2 b hb).trans e) f0 f1 f3 f4 f5, rfl, q⟩
end
end L2.Cmp
set_option Elab.async false
set_option linter.all false
set_option maxRecDepth 100000
set_option maxHeartbeats 4000000
/-! Sets of texts: as tracked things, by comprehension, sorted. -/
namespace L2.TxtSet
open PySem PySem.Spec PyProof.Rows L2.GSet L2.Cmp
def keyT : Value → Str
  | .str x _ => x
  | _ => ⟨#[]⟩
theorem keyT_is (P : Program) (w : World) : ∀ k v, (PySem.strKind P w).is k v = true → keyT v = k := fun k v h => by
  obtain ⟨t, rfl⟩ := Value.isStrOf_shape h
  rfl
/-- the set of texts at a: ks, in some order -/
def SetT (P : Program) (w : World) (a : Addr) (ks : List Str) : HO := .ext fun h => GAt (PySem.strKind P w) keyT h a ks
theorem setT_new {P : Program} {w : World} {H : Hp} {h : Heap} {a : Addr} {ks : List Str} (R : GAt (PySem.strKind P w) keyT h a ks) : ObjOk P w H h a (SetT P w a ks) := ⟨R, R.some, fun h1 h2 p k => GAt.keep p k⟩
section
variable {X : Cx} {pins : List (Addr × Obj)} {σ : L2.St} {H : Hp} {s : Shared}
theorem setT_get {a : Addr} {ks : List Str} (I : Inv X pins σ H s) (ha : H a = some (SetT X.prog X.w a ks)) : GAt (PySem.strKind X.prog X.w) keyT s.heap a ks := (I.hok a _ ha).1
end
/-- texts into a set of texts -/
def addT (P : Program) (w : World) : Adder P w where
  emp := fun D => SetT P w D []
  ad := fun D y H C => ∃ (z : Str) (ks : List Str), y = .str z ∧ H D = some (SetT P w D ks) ∧ ks.length + 1 < scanBound ∧ C (upd H D (SetT P w D (if z ∈ ks then ks else ks ++ [z])))
  fresh := fun H h => setT_new (GSet.fresh h)
  add := fun {X} hP hw {pins σ H s E D y v C} I r q => by
    subst hP
    subst hw
    obtain ⟨z, ks, rfl, hD, room, c⟩ := q
    obtain ⟨u, rfl⟩ := r
    refine add_call (keyT_is X.prog X.w) (k := z) (Froz.is_str z u) rfl (setT_get I hD) room fun h' sb new => ⟨_, ?_, c⟩
    exact I.write (e := D) (t' := s.toks + 1) (by rw [hD]; trivial) (.inl rfl) (fun b o hb ho => (sb.2 b hb).trans ho) new.some (setT_new new)
/-- sorted(a set of texts) -/
def rSortT (P : Program) (w : World) : List V → Hp → VK → Prop := fun vs H Q => ∃ (a : Addr) (ks : List Str), vs = [V.ref a] ∧ H a = some (SetT P w a ks) ∧ ks.length < 64 ∧
  ∀ (ys : List Str) (p : Addr), ys.Perm ks → sortedS ys = true → H p = none → Q (.ref p) (upd H p (.lst (ys.map V.str)))
theorem strs_out : ∀ {vs : List Value}, (∀ v ∈ vs, ∃ x u, v = Value.str x u) → StrsAre vs (vs.map keyT)
  | [], _ => .nil
  | v :: vs, h => by
    obtain ⟨x, u, rfl⟩ := h v List.mem_cons_self
    exact .cons x u (strs_out fun y m => h y (List.mem_cons_of_mem _ m))
theorem sort_tree {P : Program} {w : World} {A : Around} {E : Value → Shared → Prop} {s : Shared} {a : Addr} {ks : List Str} {Q : Value → Shared → Prop} (R : GAt (PySem.strKind P w) keyT s.heap a ks) (hh : A.handled = none) (h64 : ks.length < 64)
    (hQ : ∀ s' p (out : Array Value) (c : Nat) (ys : List Str), (∀ b o, s.heap.get? b = some o → s'.heap.get? b = some o) → s'.gens = s.gens → s'.os = s.os → s.heap.objs.size ≤ p → s'.heap.get? p = some (seqObj "list" out c) →
      StrsAre out.toList ys → ys.Perm ks → sortedS ys = true → Q (.ref p) s') : wpAny (model P w) A (call (.builtin "sorted") [.ref a]) Q E s := by
  obtain ⟨o, es, ep, t, ho, ox, od, p⟩ := R
  refine Calls.call_function_entry kind_sorted plain_sorted entry_sorted (args_sorted1 _) ?_
  unfold Builtin.«sorted»
  refine wpAny_bind (m := checkCount "sorted" 1 1 _) (wpAny_pure (wpAny_bind (collect_set (A := A.in1) hh ⟨o, ho, ox.1, od⟩ p.fit p.few p.ris p.led fun s1 vs k1 z1 g1 o1 pm => ?_)))
  have lv : vs.length = ks.length := by rw [pm.length_eq, List.length_map, Array.length_toList, p.size]
  have tx : StrsAre vs (vs.map keyT) := strs_out fun v m => by
    obtain ⟨e, he, rfl⟩ := List.mem_map.mp (pm.mem_iff.mp m)
    obtain ⟨⟨k, i, _⟩, _⟩ := p.el e he
    obtain ⟨u, q⟩ := Value.isStrOf_shape i
    exact ⟨k, u, q⟩
  have pk : (vs.map keyT).Perm ks := by
    have z := pm.map keyT
    rw [List.map_map] at z
    exact z.trans p.pm
  refine wpAny_bind (wpAny_newList ?_ (by rw [lv, sizeLine_eq]; omega))
  have at1 : (s1.heap.push (seqObj "list" vs.toArray 0)).get? s1.heap.objs.size = some (seqObj "list" vs.toArray 0) := Heap.get?_push_size _ rfl
  refine wpAny_bind (wpAny_holding (wpAny_call_entry slot_list_sort ⟨_, at1, rfl⟩ entry_list_sort (list_sort_treeK strKind_oneLt at1 tx.keysOf (fun v₁ v₂ rest e => keyKind_strs (by rw [← e]; exact tx)) (by rw [lv]; exact h64) fun st' hp' hs' => ?_) (args_list_sort _)))
  obtain ⟨ys, a1, a2, a3⟩ := sorted_out_str tx hp' hs'
  refine ⟨_, rfl, ?_⟩
  generalize ho' : (arrOf st').map (·.2) = out at a1
  obtain ⟨c, hc⟩ := sortedHeap_at (vs := vs) (out := out) at1
  refine wpAny_pure ⟨_, rfl, hQ _ s1.heap.objs.size out c ys (fun b u e => ?_) g1 o1 z1 hc a1 (a2.trans pk) a3⟩
  have q := k1 b u e
  have lt := Heap.lt_size q
  exact (sortedHeap_old (Nat.ne_of_lt lt) (by rw [size_push']; exact Nat.lt_succ_of_lt lt)).trans (Heap.get?_push_of_some _ q)
section
variable {X : Cx}
theorem cr_sortT (hc : X.calm = true) : CallR X (.builtin "sorted") (rSortT X.prog X.w) := by
  intro pins s σ H vs us Q I r h
  obtain ⟨a, ks, rfl, ha, h64, q⟩ := h
  rw [Vals.ref1 r]
  refine sort_tree (setT_get I ha) (I.ok.hd hc) h64 fun s' p out c ys k g o hp at2 tx pm so => ?_
  have hn : H p = none := I.hok.fresh hp
  have fits : (ys.map V.str).length ≤ sizeLine := by rw [List.length_map, pm.length_eq, sizeLine_eq]; omega
  have J : Inv X pins σ (upd H p (.lst (ys.map V.str))) { s with heap := s'.heap, gens := s'.gens, drawn := s'.drawn, toks := s'.toks } :=
    I.call (ch := []) (Un.laid k hp hn) (I.hok.laid k hp ⟨fits, out.toList, c, vals_of_strs tx, at2⟩) (by rw [g]; exact I.bare) fun _ z => nomatch z
  have e : s' = { s with heap := s'.heap, gens := s'.gens, drawn := s'.drawn, toks := s'.toks } := by
    cases s'
    cases s
    cases o
    rfl
  rw [e]
  exact ⟨.ref p, _, J, rfl, q ys p pm so hn⟩
end
end L2.TxtSet
set_option Elab.async false
set_option linter.all false
set_option maxRecDepth 100000
set_option maxHeartbeats 4000000
/-! is_free, variables_of. -/
namespace L2.LawH
open PySem PySem.Spec PyProof.Rows L2.Cmp L2.TxtSet
/-! ### walks of a list or a tuple -/
def iSeq (K : PySem.W.Frag) (tl : TE) : TI := fun σ H R => tl σ H fun x H1 => ∃ a, x = .ref a ∧ (((∃ xs, SqL K H1 a xs) ∧ R (Itl K a) H1) ∨ ((∃ xs, SqT K H1 a xs) ∧ R (Itt K a) H1))
theorem pi_seq {X : Cx} {tg l : Expr} {tl : TE} (hl : PE X l tl) : PI X tg l (iSeq X.K tl) := by
  refine ⟨fun pins s σ H R I h => thn (hl.run pins s σ H _ I h) fun v s1 ⟨x, H1, I1, r1, q1⟩ => ?_⟩
  obtain ⟨a, rfl, q⟩ := q1
  cases r1
  have frs : ∀ b ∈ [s1.heap.objs.size], FpOk X pins H1 b := fun b hb => by
    obtain rfl : b = s1.heap.objs.size := by simpa using hb
    exact I1.fpOk (Nat.le_refl _) (I1.hok.fresh (Nat.le_refl _))
  rcases q with ⟨⟨xs, hq⟩, q⟩ | ⟨⟨xs, hq⟩, q⟩
  · obtain ⟨its, _, p, _⟩ := I1.list hq
    exact wpAny_pyIter_list p.isList ⟨_, _, _, _, H1, rfl, I1.kept (t' := s1.toks) fun b o e => Heap.get?_push_of_some _ e, turn_list a _, ⟨_, Heap.get?_push_size _ rfl, rfl, rfl⟩, frs, q⟩
  · obtain ⟨its, _, p, _⟩ := I1.tuple hq
    exact wpAny_pyIter_tuple (show s1.heap.IsTuple a its.toArray from p) ⟨_, _, _, _, H1, rfl, I1.kept (t' := s1.toks) fun b o e => Heap.get?_push_of_some _ e, turn_tuple a _, ⟨_, Heap.get?_push_size _ rfl, rfl, rfl⟩, frs, q⟩
theorem pi_tupK {X : Cx} {K : PySem.W.Frag} (e : X.K = K) {tg l : Expr} {tl : TE} (hl : PE X l tl) : PI X tg l (iTup K tl) := by
  subst e
  exact pi_tup hl
theorem sl_tupK {X : Cx} {K : PySem.W.Frag} (e : X.K = K) : SlR X (rSlT K) := by
  subst e
  exact sl_tup
/-- how a clause over xs is walked, where Sq says that they stand there -/
def WalkR (J : It) (Sq : Hp → Prop) (xs : List V) : Prop := ∀ (g : TG) (tt : TT) (ta : TAc) (vs : List Nat) (σ : List (Option V)) (H0 : Hp) (Done : Hp → Prop) (Pv : Nat → Hp → Prop), Pv 0 H0 → (∀ i H, i ≤ xs.length → Pv i H → Sq H) →
  (∀ i x H, xs[i]? = some x → Pv i H → g x (wipe σ vs) H fun σ2 H2 => wipe σ2 vs = wipe σ vs ∧ tt σ2 H2 fun b H3 => if b = true then ta σ2 H3 (Pv (i + 1)) else Pv (i + 1) H3) → (∀ H, Pv xs.length H → Done H) → L2.Cmp.Walk J g tt ta vs σ Done H0
theorem walk_list {K : PySem.W.Frag} {a : Addr} {xs : List V} : WalkR (Itl K a) (fun H => SqL K H a xs) xs := by
  intro g tt ta vs σ H0 Done Pv h0 hl hs hd
  refine ⟨fun i m H => m = xs.length - i ∧ i ≤ xs.length ∧ Pv i H, ⟨xs.length, rfl, Nat.zero_le _, h0⟩, ?_⟩
  rintro i m H ⟨rfl, hi, p⟩
  rcases Nat.lt_or_eq_of_le hi with lt | rfl
  · refine .inr ⟨⟨xs, xs[i], hl i H hi p, by simp [lt]⟩, Pv (i + 1), fun H' p' => ⟨xs.length - (i + 1), by omega, rfl, lt, p'⟩, ?_⟩
    rintro x _ ⟨rfl, y⟩
    exact hs i x _ (y xs (hl i _ hi p)) p
  · exact .inl ⟨⟨xs, hl _ H hi p, Nat.le_refl _⟩, hd H p⟩
theorem walk_tup {K : PySem.W.Frag} {a : Addr} {xs : List V} : WalkR (Itt K a) (fun H => SqT K H a xs) xs := by
  intro g tt ta vs σ H0 Done Pv h0 hl hs hd
  refine ⟨fun i m H => m = xs.length - i ∧ i ≤ xs.length ∧ Pv i H, ⟨xs.length, rfl, Nat.zero_le _, h0⟩, ?_⟩
  rintro i m H ⟨rfl, hi, p⟩
  rcases Nat.lt_or_eq_of_le hi with lt | rfl
  · refine .inr ⟨⟨xs, xs[i], hl i H hi p, by simp [lt]⟩, Pv (i + 1), fun H' p' => ⟨xs.length - (i + 1), by omega, rfl, lt, p'⟩, ?_⟩
    rintro x _ ⟨rfl, y⟩
    exact hs i x _ (y xs (hl i _ hi p)) p
  · exact .inl ⟨⟨xs, hl _ H hi p, Nat.le_refl _⟩, hd H p⟩
/-! ### each once -/
def put1 (ks : List Str) (z : Str) : List Str := if z ∈ ks then ks else ks ++ [z]
def uniq (l : List Str) : List Str := l.foldl put1 []
theorem uniq_snoc (l : List Str) (z : Str) : uniq (l ++ [z]) = put1 (uniq l) z := by
  unfold uniq
  rw [List.foldl_append]
  rfl
theorem fold_len : ∀ (l acc : List Str), (l.foldl put1 acc).length ≤ acc.length + l.length
  | [], acc => Nat.le_refl _
  | z :: l, acc => by
    have ih := fold_len l (put1 acc z)
    have : (put1 acc z).length ≤ acc.length + 1 := by
      unfold put1
      split
      · omega
      · simp
    rw [List.foldl_cons, List.length_cons]
    omega
theorem uniq_len (l : List Str) : (uniq l).length ≤ l.length := by
  have h := fold_len l []
  rw [List.length_nil, Nat.zero_add] at h
  exact h
theorem fold_mem {y : Str} : ∀ (l acc : List Str), y ∈ l.foldl put1 acc ↔ y ∈ acc ∨ y ∈ l
  | [], acc => by simp
  | z :: l, acc => by
    rw [List.foldl_cons, fold_mem l (put1 acc z), List.mem_cons]
    unfold put1
    split
    · rename_i m
      constructor
      · rintro (h | h)
        · exact .inl h
        · exact .inr (.inr h)
      · rintro (h | rfl | h)
        · exact .inl h
        · exact .inl m
        · exact .inr h
    · rw [List.mem_append, List.mem_singleton, or_assoc]
theorem uniq_mem {y : Str} {l : List Str} : y ∈ uniq l ↔ y ∈ l := by
  unfold uniq
  rw [fold_mem]
  simp
theorem fold_nodup : ∀ (l acc : List Str), acc.Nodup → (l.foldl put1 acc).Nodup
  | [], acc, h => h
  | z :: l, acc, h => by
    rw [List.foldl_cons]
    refine fold_nodup l _ ?_
    unfold put1
    split
    · exact h
    · rename_i m
      rw [List.nodup_append]
      exact ⟨h, by simp, fun a ha b hb e => by
        rw [List.mem_singleton.mp hb] at e
        exact m (e ▸ ha)⟩
theorem uniq_nodup (l : List Str) : (uniq l).Nodup := fold_nodup l [] List.nodup_nil
/-! ### lots of patterns, as they stand -/
abbrev Pt : Type := Addr × Str × List Str
def isV (z : Str) : Bool := Txt.startswith z (Str.ofString "?")
def frees (xs : List Pt) : List Str := (xs.flatMap fun x => x.2.2).filter isV
theorem frees_snoc (xs : List Pt) (x : Pt) : frees (xs ++ [x]) = frees xs ++ x.2.2.filter isV := by
  unfold frees
  rw [List.flatMap_append, List.filter_append]
  simp
theorem frees_take {xs : List Pt} {i : Nat} {x : Pt} (h : xs[i]? = some x) : frees (xs.take (i + 1)) = frees (xs.take i) ++ x.2.2.filter isV := by
  rw [List.take_succ, h]
  exact frees_snoc _ _
theorem frees_le (xs : List Pt) (i : Nat) : (frees (xs.take i)).length ≤ (frees xs).length := by
  have e : frees xs = frees (xs.take i) ++ frees (xs.drop i) := by
    unfold frees
    rw [← List.filter_append, ← List.flatMap_append, List.take_append_drop]
  rw [e, List.length_append]
  omega
/-- the lot xs at q, a list or a tuple -/
structure LotAt (H : Hp) (q : Addr) (xs : List Pt) : Prop where
  sq : H q = some (.lst (xs.map fun x => V.ref x.1)) ∨ H q = some (.tup (xs.map fun x => V.ref x.1))
  each : ∀ x ∈ xs, H x.1 = some (.tup (.str x.2.1 :: x.2.2.map V.str))
theorem cut_one (v : V) (l : List V) : cutV (v :: l) (some 1) none = l := by
  have e : HT.sIx (v :: l).length 0 (some 1) = 1 := by
    have z := HT.sIx_nat (v :: l).length 0 1
    rw [List.length_cons] at z ⊢
    exact z.trans (by omega)
  unfold cutV
  rw [e, HT.sIx_none]
  simp
theorem cut_part (v : V) (l : List V) : ¬ (HT.sIx (v :: l).length 0 (some 1) = 0 ∧ HT.sIx (v :: l).length (v :: l).length none = (v :: l).length) := by
  rintro ⟨e, _⟩
  have z := HT.sIx_nat (v :: l).length 0 1
  rw [List.length_cons] at z e
  have z' := z.symm.trans e
  omega
theorem LotAt.same {H H' : Hp} {q : Addr} {xs : List Pt} (h : LotAt H q xs) (s : Same H H') : LotAt H' q xs := ⟨h.sq.imp (s _ _) (s _ _), fun x m => s _ _ (h.each x m)⟩
theorem first_one {z : Str} {c : Nat} {r : List Nat} (h : z.cps.toList = c :: r) : decide (V.str ⟨#[c]⟩ = V.str (Str.ofString "?")) = isV z := by
  have q1 : (Str.ofString "?").cps = #[63] := by decide +kernel
  have q2 : (Str.ofString "?").length = 1 := by decide +kernel
  have es : Str.ofString "?" = ⟨#[63]⟩ := by
    cases h : Str.ofString "?" with
    | mk c => rw [h] at q1; exact congrArg Str.mk q1
  have l := length_toList z
  rw [h, List.length_cons] at l
  have hz : z.cps = (c :: r).toArray := by rw [← h]
  have z0 : z.cps[0]? = some c := by
    rw [← Array.getElem?_toList, h]
    rfl
  unfold isV Txt.startswith Builtin.Str.subAt
  rw [q1, q2, es, Bool.eq_iff_iff, decide_eq_true_iff, hz]
  have l0 : z.length = r.length + 1 := l.symm
  rw [l0]
  simp
section
variable {P : Program} {w : World} {K : PySem.W.Frag} {mg : Str → Option Value} {base : Heap}
end
end L2.LawH
set_option Elab.async false
set_option linter.all false
set_option maxRecDepth 100000
set_option maxHeartbeats 4000000
/-! The pool of three cells: draws. -/
namespace L2.LawH
open PySem PySem.Spec PyProof.Rows
open Builtin.Int (intBits)
abbrev sPool3 : Stmt := top 21
abbrev sDraw3 : Stmt := top 22
/-- all but a and r -/
def Off (a r : Addr) (H : Hp) : Hp := fun b => if b = a ∨ b = r then none else H b
theorem off_of {a r b : Addr} {H : Hp} (na : b ≠ a) (nr : b ≠ r) : Off a r H b = H b := if_neg fun z => z.elim na nr
theorem off_some {a r b : Addr} {H : Hp} {o : HO} (h : Off a r H b = some o) : H b = some o ∧ b ≠ a ∧ b ≠ r := by
  unfold Off at h
  by_cases c : b = a ∨ b = r
  · rw [if_pos c] at h
    cases h
  · rw [if_neg c] at h
    exact ⟨h, fun z => c (.inl z), fun z => c (.inr z)⟩
theorem off_le {a r : Addr} {H : Hp} : Same (Off a r H) H := fun _ _ e => (off_some e).1
abbrev Kp (a r : Addr) (H H' : Hp) : Prop := Same (Off a r H) (Off a r H')
theorem Kp.of {a r : Addr} {H H' : Hp} (s : Same H H') : Kp a r H H' := fun b o e => by
  obtain ⟨e, na, nr⟩ := off_some e
  rw [off_of na nr]
  exact s _ _ e
theorem Kp.rfl {a r : Addr} {H : Hp} : Kp a r H H := fun _ _ e => e
theorem kp_a {a r : Addr} {H : Hp} {o : HO} : Kp a r H (upd H a o) := fun b p e => by
  obtain ⟨e, na, nr⟩ := off_some e
  rw [off_of na nr, upd_ne na]
  exact e
theorem kp_r {a r : Addr} {H : Hp} {o : HO} : Kp a r H (upd H r o) := fun b p e => by
  obtain ⟨e, na, nr⟩ := off_some e
  rw [off_of na nr, upd_ne nr]
  exact e
/-- the pool at a, its numbers at r, with m draws still to be had -/
def DrwAt (a r : Addr) (m : Nat) (H : Hp) : Prop := ∃ (L : List Int) (s : Int) (n : Nat), H a = some (.lst [.ref r, .int s, .int n]) ∧ H r = some (.lst (L.map V.int)) ∧ a ≠ r ∧ n + m ≤ 1000000 ∧
  0 ≤ s ∧ s < 2147483629 ∧ L.length ≤ 63 ∧ ∀ z ∈ L, 0 ≤ z ∧ intBits z ≤ 1048576
theorem DrwAt.mono {a r : Addr} {H : Hp} {m m' : Nat} (h : DrwAt a r m H) (l : m' ≤ m) : DrwAt a r m' H := by
  obtain ⟨L, s, n, e1, e2, e3, e4, e5⟩ := h
  exact ⟨L, s, n, e1, e2, e3, by omega, e5⟩
theorem DrwAt.same {a r : Addr} {H H' : Hp} {m : Nat} (h : DrwAt a r m H) (s : Same H H') : DrwAt a r m H' := by
  obtain ⟨L, z, n, e1, e2, e3⟩ := h
  exact ⟨L, z, n, s _ _ e1, s _ _ e2, e3⟩
theorem DrwAt.ne {a r p : Addr} {H : Hp} {m : Nat} (h : DrwAt a r m H) (n : H p = none) : p ≠ a ∧ p ≠ r := by
  obtain ⟨L, z, k, e1, e2, _⟩ := h
  exact ⟨(ne_of_none e1 n).symm, (ne_of_none e2 n).symm⟩
theorem DrwAt.upd {a r p : Addr} {H H0 : Hp} {m : Nat} {o : HO} (h : DrwAt a r m H) (na : p ≠ a) (nr : p ≠ r) : DrwAt a r m (upd H p o) := by
  obtain ⟨L, z, k, e1, e2, e3⟩ := h
  exact ⟨L, z, k, by rw [upd_ne na.symm]; exact e1, by rw [upd_ne nr.symm]; exact e2, e3⟩
theorem fdiv_bits {z k : Int} (h0 : 0 ≤ z) (hk : 0 < k) (hb : intBits z ≤ 1048576) : 0 ≤ z.fdiv k ∧ intBits (z.fdiv k) ≤ 1048576 := by
  rw [Int.fdiv_eq_ediv_of_nonneg z (Int.le_of_lt hk)]
  have h1 : 0 ≤ z / k := Int.ediv_nonneg h0 (Int.le_of_lt hk)
  have h2 : z / k ≤ z := Int.ediv_le_self k h0
  refine ⟨h1, PySem.intBits_le_iff.mpr ?_⟩
  have h3 := PySem.intBits_le_iff.mp hb
  omega
theorem ix0 (n : Nat) (h : 0 < n) : ixN n 0 = some 0 := by
  unfold ixN
  simp [h]
def spPool3 (K : PySem.W.Frag) : Sp := fun vs H Q _ => ∃ (a : Addr) (ns : List Int), vs = [.ref a] ∧ SqL K H a (ns.map V.int) ∧ ns.length ≤ 63 ∧ (∀ z ∈ ns, intBits z ≤ 1048576) ∧
  ∀ p r H', Same H H' → H p = none → H r = none → DrwAt p r 1000000 H' → Q (.ref p) H'
def spDraw3 : Sp := fun vs H Q _ => ∃ (a r : Addr) (m : Nat) (k : Int), vs = [.ref a, .int k] ∧ DrwAt a r (m + 1) H ∧ 0 < k ∧ k ≤ 1000000 ∧
  ∀ (x : Int) (H' : Hp), 0 ≤ x → x < k → DrwAt a r m H' → Kp a r H H' → Q (.int x) H'
section
variable {P : Program} {w : World} {K : PySem.W.Frag} {mg : Str → Option Value} {base : Heap}
abbrev nPool3 : List Str := ["_law_script", "_law_seed", "_law_cell"]
theorem scPool3 : FnScope nPool3 ["_law_script"] (defScope sPool3) := ⟨rfl, rfl, rfl, by decide +kernel, rfl, by decide +kernel, by decide +kernel⟩
theorem ok_pool3 {f : Addr} {fd : FuncData} (F : Fun K "_law_pool" "_law_pool" sPool3 f fd) (mi : mg "int" = none) :
    FnOk P w K mg base CX0 1 f fd ["_law_script"] (spPool3 K) := by
  refine F.ok scPool3 (fun vs H Q E h => ?_) (fun cdv A outer s H vs Q E hr h => ?_)
  · obtain ⟨a, ns, rfl, _⟩ := h
    rfl
  · obtain ⟨a, ns, rfl, ha, ln, hb, k⟩ := h
    refine ⟨_, pss_cons (ps_set (i := 1) scPool3.nd rfl (Or.inl rfl) pe_int)
      (pss_cons (ps_for PassesOwn.never rfl (pi_list (pv 0)) (pg_name (i := 2) scPool3.nd rfl (Or.inl rfl))
        (pss_one (ps_set (i := 1) scPool3.nd rfl (Or.inl rfl) (pe_op op_modN (pe_callTy call_int1 (by rfl) mi (by decide +kernel) (pa_cons (pe_op op_add (pe_op op_mul (pv 1) pe_int) (pv 2)) pa_nil)) pe_int))))
      (pss_one (ps_ret (pe_lst (pa_cons (pe_lc (own := [("_law_cell", 2)]) (g := gName 2) (tt := tTest (tOp (rI0 fun i j => .bl (decide (j ≤ i))) (tVar 2) (tOp (rI CPow fun i j => .int (i ^ j.toNat)) (tC (.int 10)) (tC (.int 18))))) rfl scPool3.nd (pi_list (pv 0))
          (blkOk_by (own := [("_law_cell", 2)]) (N := nPool3) (sc := defScope sPool3) (by decide +kernel)) (fun _ _ _ _ _ => pg_name (i := 2) scPool3.nd rfl (Or.inl rfl)) (fun _ _ _ _ _ => pts_one (pt_cmpR op_ge (pv 2) (pe_op op_pow pe_int pe_int) (nomark _)))
          (fun _ _ _ _ _ => pv 2)) (pa_cons (pv 1) (pa_cons pe_int pa_nil))))))), ?_⟩
    refine ⟨_, rfl, _, rfl, ⟨_, ha⟩, for_list (K := K) (a := a) (xs := ns.map V.int) (fun i σ H1 => ∃ (s : Int) (v : Option V), σ = [some (.ref a), some (.int s), v] ∧ H1 = H ∧ 0 ≤ s ∧ s < 2147483629)
      ⟨1, none, rfl, rfl, by decide, by decide⟩ (fun i σ H1 _ h1 => ?_) (fun i x σ H1 hx h1 => ?_) (fun σ H1 h1 => ?_)⟩
    · obtain ⟨_, _, _, rfl, _⟩ := h1
      exact ha
    · obtain ⟨s, v, rfl, rfl, s0, s1⟩ := h1
      rw [List.getElem?_map] at hx
      cases ex : ns[i]? with
      | none =>
        rw [ex] at hx
        cases hx
      | some z =>
        rw [ex] at hx
        cases hx
        refine ⟨_, rfl, _, _, rfl, rfl, .inr ⟨by decide, by decide⟩, _, rfl, _, _, rfl, rfl, .inl ⟨_, rfl, _, _, rfl, rfl, (by show (2147483629 : Int) ≠ 0; decide), ?_⟩⟩
        exact ⟨_, _, rfl, rfl, (mod_pos (by decide)).1, (mod_pos (by decide)).2⟩
    · obtain ⟨s, v, rfl, rfl, s0, s1⟩ := h1
      refine ⟨_, rfl, a, rfl, ⟨_, ha⟩, fun D nD => ?_⟩
      refine lc_list (K := K) (a := a) (xs := ns.map V.int) (fun j H6 => Same H1 H6 ∧ H6 D = some (.lst (((ns.take j).filter fun z => decide (1000000000000000000 ≤ z)).map V.int)))
          ⟨same_new nD, upd_same⟩ (fun j H6 _ h6 => h6.1.seq ha) ?_ ?_
      · rintro j v H6 hj ⟨s6, hD2⟩
        rw [List.getElem?_map] at hj
        cases ex : ns[j]? with
        | none =>
          rw [ex] at hj
          cases hj
        | some q =>
          rw [ex] at hj
          cases hj
          refine ⟨rfl, _, rfl, _, _, rfl, rfl, ⟨by decide, by decide, by decide⟩, _, _, rfl, rfl, _, rfl, ?_⟩
          rw [List.take_add_one, ex, List.filter_append]
          have e10 : ((10 : Int) ^ (18 : Int).toNat) = 1000000000000000000 := by decide
          rw [e10]
          by_cases c : (1000000000000000000 : Int) ≤ q
          · rw [decide_eq_true c]
            refine iteT ⟨_, rfl, _, hD2, ?_, fun b o e => ?_, ?_⟩
            · rw [List.length_map]
              refine Nat.lt_of_le_of_lt (List.length_filter_le _ _) ?_
              rw [List.length_take, sizeLine_eq]
              omega
            · rw [upd_ne (ne_of_none e nD)]
              exact s6 b o e
            · rw [upd_same]
              simp [c]
          · rw [decide_eq_false c]
            refine iteF ⟨s6, ?_⟩
            rw [hD2]
            simp [c]
      · rintro H6 ⟨s6, hD2⟩
        rw [List.length_map, List.take_length] at hD2
        refine ⟨_, rfl, (by show 3 ≤ sizeLine; decide), fun p np => ?_⟩
        have u1 : Same H6 (upd H6 p (.lst [.ref D, .int s, .int 0])) := same_new np
        have e1 : (upd H6 p (.lst [.ref D, .int s, .int 0])) p = some (.lst [.ref D, .int s, .int 0]) := upd_same
        have npH : H1 p = none := none_of s6 np
        refine k p D _ (s6.trans u1) npH nD ⟨_, s, 0, e1, u1 _ _ hD2, ?_, by decide, s0, s1, ?_, ?_⟩
        · rintro rfl
          rw [np] at hD2
          cases hD2
        · exact Nat.le_trans (List.length_filter_le _ _) ln
        · intro z hz
          obtain ⟨m1, m2⟩ := List.mem_filter.mp hz
          have := of_decide_eq_true m2
          exact ⟨by omega, hb z m1⟩
abbrev nDraw3 : List Str := ["_law_pool_here", "_law_limit", "_law_rest", "_law_value", "_law_first", "_law_second"]
theorem scDraw3 : FnScope nDraw3 ["_law_pool_here", "_law_limit"] (defScope sDraw3) := ⟨rfl, rfl, rfl, by decide +kernel, rfl, by decide +kernel, by decide +kernel⟩
theorem ok_draw3 {f : Addr} {fd : FuncData} (F : Fun K "_law_draw" "_law_draw" sDraw3 f fd) (mi : mg "int" = none) :
    FnOk P w K mg base CX0 1 f fd ["_law_pool_here", "_law_limit"] spDraw3 := by
  refine F.ok scDraw3 (fun vs H Q E h => ?_) (fun cdv A outer s H vs Q E hr h => ?_)
  · obtain ⟨a, c, n, m, rfl, _⟩ := h
    rfl
  · obtain ⟨a, r, fu, m, rfl, ⟨L, sd, n, ha, hr', nar, hn, s0, s1, lL, hL⟩, m0, m1, k⟩ := h
    have hu := hr.units
    refine ⟨_, pss_cons (ps_set (i := 2) scDraw3.nd rfl (Or.inl rfl) (pe_ix ix_list (pv 0) pe_int (fun _ _ => rfl)))
      (pss_cons (ps_if (pt_cmpR (L2.LstNo.op_neNilK (K := K) rfl hu) (pv 2) (pe_lst pa_nil) (nomark _))
        (pss_cons (ps_set (i := 3) scDraw3.nd rfl (Or.inl rfl) (pe_op op_modN (pe_callTy call_int1 (by rfl) mi (by decide +kernel) (pa_cons (pe_ix ix_list (pv 2) pe_int (fun _ _ => rfl)) pa_nil)) (pv 1)))
        (pss_cons (ps_asg (pe_op op_fdivN (pe_ix ix_list (pv 2) pe_int (fun _ _ => rfl)) (pv 1)) (pg_sub (pv 2) pe_int set_list))
        (pss_cons (ps_if (pt_cmpR op_eq (pe_ix ix_list (pv 2) pe_int (fun _ _ => rfl)) pe_int (nomark _))
          (pss_one (ps_expr (pe_bm PySem.F.plainAttrs_list PySem.F.slot_list_pop PySem.F.type_list_pop mt_popAt (pv 2) (pa_cons pe_int pa_nil)))) pss_nil)
        (pss_one (ps_ret (pv 3)))))) pss_nil)
      (pss_cons (ps_asg (pe_op op_add (pe_ix ix_list (pv 0) pe_int (fun _ _ => rfl)) pe_int) (pg_sub (pv 0) pe_int set_list))
      (pss_cons (ps_set (i := 4) scDraw3.nd rfl (Or.inl rfl) (pe_op op_modN (pe_op op_powB (pe_callTy call_int1 (by rfl) mi (by decide +kernel) (pa_cons (pe_op op_add (pe_ix ix_list (pv 0) pe_int (fun _ _ => rfl)) (pe_op op_mul pe_int (pe_ix ix_list (pv 0) pe_int (fun _ _ => rfl)))) pa_nil)) pe_int) pe_int))
      (pss_cons (ps_set (i := 5) scDraw3.nd rfl (Or.inl rfl) (pe_op op_modN (pe_callTy call_int1 (by rfl) mi (by decide +kernel) (pa_cons (pe_op op_add (pe_op op_mul (pv 4) pe_int) (pe_ix ix_list (pv 0) pe_int (fun _ _ => rfl))) pa_nil)) pe_int))
      (pss_one (ps_ret (pe_op op_modN (pe_op op_fdivN (pe_callTy call_int1 (by rfl) mi (by decide +kernel) (pa_cons (pv 5) pa_nil)) pe_int) (pv 1)))))))), ?_⟩
    refine ⟨_, rfl, a, _, _, _, rfl, rfl, SqL.of ha, rfl, ?_⟩
    refine ⟨_, rfl, (by show 0 ≤ sizeLine; decide), fun p np => ?_⟩
    have u1 : Same H (upd H p (.lst [])) := same_new np
    have cp : (upd H p (.lst [])) p = some (.lst []) := upd_same
    generalize upd H p (.lst []) = H1 at u1 cp ⊢
    have kp1 : Kp a r H H1 := Kp.of u1
    have ha1 := u1 _ _ ha
    have hr1 := u1 _ _ hr'
    refine ⟨r, p, _, rfl, rfl, SqL.of hr1, SqL.of cp, _, rfl, ?_⟩
    cases L with
    | cons z L =>
      obtain ⟨z0, zb⟩ := hL z List.mem_cons_self
      refine iteT ?_
      refine ⟨_, rfl, r, _, _, _, rfl, rfl, SqL.of hr1, atI_nat (j := 0) rfl, .inl ⟨_, rfl, ?_⟩⟩
      refine ⟨_, rfl, _, _, rfl, rfl, by omega, ?_⟩
      refine ⟨_, rfl, r, _, _, _, rfl, rfl, SqL.of hr1, atI_nat (j := 0) rfl, _, rfl, _, _, rfl, rfl, ⟨by omega, by omega⟩, _, rfl, r, _, _, 0, rfl, rfl, hr1, ix0 _ (by simp), ?_⟩
      have q := fdiv_bits z0 m0 zb
      have e9 : (upd H1 r (.lst ((List.map V.int (z :: L)).set 0 (.int (z.fdiv m))))) r = some (.lst ((z.fdiv m :: L).map V.int)) := upd_same
      have o9 : ∀ b, b ≠ r → (upd H1 r (.lst ((List.map V.int (z :: L)).set 0 (.int (z.fdiv m))))) b = H1 b := fun b nb => upd_ne nb
      dsimp only
      generalize upd H1 r (.lst ((List.map V.int (z :: L)).set 0 (.int (z.fdiv m)))) = H3 at e9 o9 ⊢
      generalize z.fdiv m = z' at q e9 ⊢
      refine ⟨_, rfl, r, _, _, _, rfl, rfl, SqL.of e9, atI_nat (j := 0) rfl, rfl, _, rfl, ?_⟩
      have hh : ∀ (L' : List Int) (H' : Hp), H' r = some (.lst (L'.map V.int)) → (∀ b, b ≠ r → H' b = H1 b) → L'.length ≤ 63 → (∀ z ∈ L', 0 ≤ z ∧ intBits z ≤ 1048576) → Q (.int (z.fmod m)) H' := fun L' H' e1 e2 e3 e4 => by
        refine k _ _ (mod_pos m0).1 (mod_pos m0).2 ⟨L', sd, n, by rw [e2 a nar]; exact ha1, e1, nar, by omega, s0, s1, e3, e4⟩ (kp1.trans fun b o e => ?_)
        obtain ⟨e, na, nr⟩ := off_some e
        rw [off_of na nr, e2 b nr]
        exact e
      refine ite2 (fun h0 => ?_) (fun h0 => ?_)
      · refine ⟨_, rfl, .inl ⟨rfl, _, .inl (.inl e9)⟩, r, _, 0, 0, _, rfl, rfl, e9, by decide, by decide, by simp [seqIndex?], rfl, _, rfl, ?_⟩
        refine hh L _ upd_same (fun b nb => by rw [upd_ne nb, o9 b nb]) (by rw [List.length_cons] at lL; omega) fun y hy => hL y (List.mem_cons_of_mem _ hy)
      · refine ⟨_, rfl, ?_⟩
        refine hh (z' :: L) _ e9 o9 lL fun y hy => ?_
        rcases List.mem_cons.mp hy with rfl | hy
        · exact q
        · exact hL y (List.mem_cons_of_mem _ hy)
    | nil =>
      refine iteF ?_
      refine ⟨_, rfl, a, _, _, _, rfl, rfl, SqL.of ha1, rfl, _, _, rfl, rfl, _, rfl, a, _, _, _, rfl, rfl, ha1, rfl, ?_⟩
      generalize hH2 : upd H1 a _ = H2
      have ha2 : H2 a = some (.lst [.ref r, .int sd, .int ((n + 1 : Nat) : Int)]) := by
        rw [← hH2, upd_same]
        rfl
      refine ⟨_, rfl, a, _, _, _, rfl, rfl, SqL.of ha2, rfl, _, rfl, a, _, _, _, rfl, rfl, SqL.of ha2, rfl, _, _, rfl, rfl, .inr ⟨by omega, by omega⟩, _, _, rfl, rfl, .inl ⟨_, rfl, ?_⟩⟩
      refine ⟨_, _, rfl, rfl, ⟨by decide, ?_⟩, _, _, rfl, rfl, (by show (2147483647 : Int) ≠ 0; decide), ?_⟩
      · have sb : intBits (sd + 7927 * ((n + 1 : Nat) : Int)) ≤ 60 := small_bits (by omega) (by omega)
        have e : (2 : Int) ^ 27 = 134217728 := by decide
        rw [e]
        omega
      have b1 := fun x : Int => mod_pos (x := x) (y := 2147483647) (by decide)
      refine ⟨_, rfl, _, _, rfl, rfl, .inr ⟨by decide, by decide⟩, _, rfl, a, _, _, _, rfl, rfl, SqL.of ha2, rfl, _, _, rfl, rfl, .inl ⟨_, rfl, _, _, rfl, rfl, (by show (2147483629 : Int) ≠ 0; decide), ?_⟩⟩
      refine ⟨_, rfl, .inl ⟨_, rfl, _, _, rfl, rfl, ⟨by decide, by decide⟩, _, rfl, _, _, rfl, rfl, by omega, ?_⟩⟩
      refine k _ _ (mod_pos m0).1 (mod_pos m0).2 ⟨[], sd, n + 1, ha2, ?_, nar, by omega, s0, s1, by decide, fun _ z => by cases z⟩ (kp1.trans ?_)
      · rw [← hH2, upd_ne nar.symm]
        exact hr1
      · rw [← hH2]
        exact kp_a
end
end L2.LawH
set_option Elab.async false
set_option linter.all false
set_option maxRecDepth 100000
set_option maxHeartbeats 4000000
/-! _law_variables. -/
namespace L2.LawH
open PySem PySem.Spec PyProof.Rows L2.Cmp L2.TxtSet
theorem first_sign (z : Str) : decide (cutS z none (some 1) = Str.ofString "?") = isV z := by
  have q1 : (Str.ofString "?").cps = #[63] := by decide +kernel
  have q2 : (Str.ofString "?").length = 1 := by decide +kernel
  have e2 : HT.sIx z.length z.length (some 1) = min 1 z.length := HT.sIx_nat z.length z.length 1
  have l : z.cps.toList.length = z.length := length_toList z
  have es : Str.ofString "?" = ⟨#[63]⟩ := by
    cases h : Str.ofString "?" with
    | mk c => rw [h] at q1; exact congrArg Str.mk q1
  unfold isV Txt.startswith cutS Builtin.Str.subAt
  rw [HT.sIx_none, e2, q1, q2, es, Bool.eq_iff_iff, decide_eq_true_iff]
  cases hz : z.cps.toList with
  | nil =>
    rw [hz] at l
    have l0 : z.length = 0 := l.symm
    rw [l0]
    simp
  | cons x r =>
    rw [hz] at l
    have l0 : z.length = r.length + 1 := l.symm
    have ez : z.cps = (x :: r).toArray := by rw [← hz]
    rw [l0, ez]
    have m : min 1 (r.length + 1) = 1 := by omega
    rw [m]
    simp
section
variable {P : Program} {w : World} {K : PySem.W.Frag} {mg : Str → Option Value} {base : Heap}
end
end L2.LawH
set_option Elab.async false
set_option linter.all false
set_option maxRecDepth 100000
set_option maxHeartbeats 4000000
/-! _law_lot; two ascending lists of the same texts. -/
namespace L2.LawH
open PySem PySem.Spec PyProof.Rows L2.Cmp L2.TxtSet
theorem asc_pw : ∀ (l : List Str) (p : Str), risingS p l = true → (p :: l).Pairwise fun a b => a.cps.toList ≤ b.cps.toList
  | [], p, _ => List.pairwise_singleton _ _
  | x :: r, p, h => by
    simp only [risingS, Bool.and_eq_true, Bool.not_eq_true', ltCps_eq, decide_eq_false_iff_not, List.not_lt] at h
    have ih := asc_pw r x h.2
    refine List.pairwise_cons.mpr ⟨fun y hy => ?_, ih⟩
    rcases List.mem_cons.mp hy with rfl | hy
    · exact h.1
    · exact List.le_trans h.1 ((List.pairwise_cons.mp ih).1 y hy)
theorem asc_all {l : List Str} (h : sortedS l = true) : l.Pairwise fun a b => a.cps.toList ≤ b.cps.toList := by
  cases l with
  | nil => exact List.Pairwise.nil
  | cons x r => exact asc_pw r x h
theorem asc_eq {l l' u : List Str} (h : sortedS l = true) (h' : sortedS l' = true) (p : l.Perm u) (p' : l'.Perm u) : l = l' := by
  refine List.Perm.eq_of_pairwise (fun a b _ _ x y => ?_) (asc_all h) (asc_all h') (p.trans p'.symm)
  have e : a.cps.toList = b.cps.toList := List.le_antisymm x y
  cases a
  cases b
  exact congrArg Str.mk (Array.toList_inj.mp e)
section
variable {P : Program} {w : World} {K : PySem.W.Frag} {mg : Str → Option Value} {base : Heap}
end
end L2.LawH
set_option Elab.async false
set_option linter.all false
set_option maxRecDepth 100000
set_option maxHeartbeats 4000000
/-! is_name, is_variable. -/
namespace L2.LawH
open PySem PySem.Spec PyProof.Rows L2.Cmp L2.TxtSet
abbrev sIsN : Stmt := top 8
abbrev sIsV : Stmt := top 9
/-- a value of a kind that is no text -/
def NotS (K : PySem.W.Frag) (H : Hp) (x : V) : Prop := ∃ n : String, TyX K H x (.type n) ∧ kitB n "str" = some false
abbrev letS8 : Str := "abcdefghijklmnopqrstuvwxyz"
abbrev sgnS8 : Str := "abcdefghijklmnopqrstuvwxyz0123456789"
def spIsN (K : PySem.W.Frag) : Sp := fun vs H Q _ => ∃ x : V, vs = [x] ∧ ((∃ z : Str, x = .str z ∧ z.length ≤ 100000 ∧ ∀ H', Same H H' → Q (.bl (nmB z.cps.toList)) H') ∨ (NotS K H x ∧ Q (.bl false) H))
theorem in_let (c : Nat) : (!(Builtin.Str.occurrences letS8 ⟨#[c]⟩ 0 letS8.length 1).isEmpty) = isLet c := by
  rw [empty_one, Bool.not_not]
  have e : letS8.cps.toList = [97,98,99,100,101,102,103,104,105,106,107,108,109,110,111,112,113,114,115,116,117,118,119,120,121,122] := by decide +kernel
  rw [e]
  unfold isLet
  rw [Bool.eq_iff_iff]
  simp only [decide_eq_true_eq, Bool.and_eq_true, List.mem_cons, List.not_mem_nil, or_false]
  omega
theorem in_sgn (c : Nat) : (!(Builtin.Str.occurrences sgnS8 ⟨#[c]⟩ 0 sgnS8.length 1).isEmpty) = isSgn c := by
  rw [empty_one, Bool.not_not]
  have e : sgnS8.cps.toList = [97,98,99,100,101,102,103,104,105,106,107,108,109,110,111,112,113,114,115,116,117,118,119,120,121,122,48,49,50,51,52,53,54,55,56,57] := by decide +kernel
  rw [e]
  unfold isSgn isLet
  rw [Bool.eq_iff_iff]
  simp only [decide_eq_true_eq, Bool.and_eq_true, Bool.or_eq_true, List.mem_cons, List.not_mem_nil, or_false]
  omega
theorem nmB_eq (c : Nat) (r : List Nat) (h : r.length ≤ 11) : nmB (c :: r) = (isLet c && ((c :: r).all isSgn)) := by
  show (isLet c && r.all isSgn && decide (r.length ≤ 11)) = _
  rw [decide_eq_true h, Bool.and_true, List.all_cons]
  cases hl : isLet c with
  | false => rfl
  | true =>
    have : isSgn c = true := by
      unfold isSgn
      rw [hl]
      rfl
    rw [this]
    rfl
theorem asc_tab : ((List.range 128).all fun c => (Unicode.isAlnum c == (isSgn c || (decide (65 ≤ c) && decide (c ≤ 90)))) && (Unicode.isLower c == isLet c) &&
    ((Unicode.isUpper c || Unicode.isTitle c) == (decide (65 ≤ c) && decide (c ≤ 90))) && (Unicode.isAlpha c == (isLet c || (decide (65 ≤ c) && decide (c ≤ 90))))) = true := by decide +kernel
theorem asc_at {c : Nat} (h : c < 128) : Unicode.isAlnum c = (isSgn c || (decide (65 ≤ c) && decide (c ≤ 90))) ∧ Unicode.isLower c = isLet c ∧
    (Unicode.isUpper c || Unicode.isTitle c) = (decide (65 ≤ c) && decide (c ≤ 90)) ∧ Unicode.isAlpha c = (isLet c || (decide (65 ≤ c) && decide (c ≤ 90))) := by
  have q := List.all_eq_true.mp asc_tab c (List.mem_range.mpr h)
  simp only [Bool.and_eq_true, beq_iff_eq] at q
  exact ⟨q.1.1.1, q.1.1.2, q.1.2, q.2⟩
theorem all_cps (z : Str) (p : Nat → Bool) : z.cps.all p = z.cps.toList.all p := by rw [Array.all_toList]
theorem any_cps (z : Str) (p : Nat → Bool) : z.cps.any p = z.cps.toList.any p := by rw [Array.any_toList]
theorem sgn_asc {c : Nat} (h : isSgn c = true) : c < 128 := by
  unfold isSgn isLet at h
  simp only [Bool.or_eq_true, Bool.and_eq_true, decide_eq_true_eq] at h
  omega
/-- what the name test asks before the first sign -/
def pre8 (l : List Nat) : Bool := l.all (fun c => decide (c < 128)) && (decide (l.length > 0) && l.all Unicode.isAlnum) && (l.any Unicode.isLower && !l.any fun c => Unicode.isUpper c || Unicode.isTitle c)
theorem pre8_sgn {l : List Nat} (h : pre8 l = true) : l.all isSgn = true := by
  unfold pre8 at h
  simp only [Bool.and_eq_true, decide_eq_true_eq, Bool.not_eq_true'] at h
  obtain ⟨⟨h1, h2, h3⟩, h4, h5⟩ := h
  refine List.all_eq_true.mpr fun c m => ?_
  have a := of_decide_eq_true (List.all_eq_true.mp h1 c m)
  have b := List.all_eq_true.mp h3 c m
  have d := List.any_eq_false.mp h5 c m
  obtain ⟨q1, q2, q3, q4⟩ := asc_at a
  rw [q1] at b
  rw [q3] at d
  simpa [d] using b
theorem pre8_of {c : Nat} {r : List Nat} (hc : isLet c = true) (h : (c :: r).all isSgn = true) : pre8 (c :: r) = true := by
  have asc : ∀ d ∈ c :: r, d < 128 := fun d m => sgn_asc (List.all_eq_true.mp h d m)
  unfold pre8
  simp only [Bool.and_eq_true, decide_eq_true_eq, Bool.not_eq_true']
  refine ⟨⟨List.all_eq_true.mpr fun d m => decide_eq_true (asc d m), Nat.succ_pos _, List.all_eq_true.mpr fun d m => ?_⟩, List.any_eq_true.mpr ⟨c, List.mem_cons_self, ?_⟩, List.any_eq_false.mpr fun d m => ?_⟩
  · rw [(asc_at (asc d m)).1, List.all_eq_true.mp h d m, Bool.true_or]
  · rw [(asc_at (asc c List.mem_cons_self)).2.1, hc]
  · rw [(asc_at (asc d m)).2.2.1]
    have q := List.all_eq_true.mp h d m
    unfold isSgn isLet at q
    simp only [Bool.or_eq_true, Bool.and_eq_true, decide_eq_true_eq] at q
    simp only [Bool.and_eq_true, decide_eq_true_eq]
    omega
theorem nmB_pre {c : Nat} {r : List Nat} (h : pre8 (c :: r) = true) : nmB (c :: r) = (Unicode.isAlpha c && decide ((c :: r).length ≤ 12)) := by
  have sg := pre8_sgn h
  rw [List.all_cons, Bool.and_eq_true] at sg
  have asc := sgn_asc sg.1
  obtain ⟨q1, q2, q3, q4⟩ := asc_at asc
  have al : Unicode.isAlpha c = isLet c := by
    have s := sg.1
    unfold isSgn at s
    rw [q4]
    unfold isLet at s ⊢
    rw [Bool.eq_iff_iff]
    simp only [Bool.or_eq_true, Bool.and_eq_true, decide_eq_true_eq] at s ⊢
    omega
  show (isLet c && r.all isSgn && decide (r.length ≤ 11)) = _
  rw [sg.2, al, Bool.and_true, List.length_cons]
  congr 1
  exact decide_eq_decide.mpr ⟨fun h => by omega, fun h => by omega⟩
theorem pre8_eq (z : Str) : (Txt.isascii z && Txt.isalnum z && Txt.islower z) = pre8 z.cps.toList := by
  unfold Txt.isascii Txt.isalnum Txt.islower pre8
  rw [all_cps, all_cps, any_cps, any_cps, length_toList]
theorem nmB_no {l : List Nat} (h : pre8 l = false) : nmB l = false := by
  cases l with
  | nil => rfl
  | cons c r =>
    cases e : nmB (c :: r) with
    | false => rfl
    | true =>
      have e : (isLet c && r.all isSgn && decide (r.length ≤ 11)) = true := e
      simp only [Bool.and_eq_true] at e
      have sg : isSgn c = true := by
        unfold isSgn
        rw [e.1.1, Bool.true_or]
      rw [pre8_of e.1.1 (by rw [List.all_cons, sg, e.1.2, Bool.and_self])] at h
      cases h
section
variable {P : Program} {w : World} {K : PySem.W.Frag} {mg : Str → Option Value} {base : Heap}
theorem scIN : FnScope ["value"] ["value"] (defScope sIsN) := ⟨rfl, rfl, rfl, by decide +kernel, rfl, by decide +kernel, by decide +kernel⟩
theorem ok_isN {f : Addr} {fd : FuncData} (F : Fun K "is_name" "is_name" sIsN f fd) {t3 : Tok} (mM : mg "LONGEST_NAME" = some (.int 12 t3))
    (mi : mg "isinstance" = none) (mst : mg "str" = none) (ml : mg "len" = none) :
    FnOk P w K mg base CX0 1 f fd ["value"] (spIsN K) := by
  refine F.ok scIN (fun vs H Q E h => ?_) (fun cdv A outer s H vs Q E hr h => ?_)
  · obtain ⟨x, rfl, _⟩ := h
    rfl
  · obtain ⟨x, rfl, h⟩ := h
    refine ⟨_, pss_one (ps_ret (pe_and (pe_callB call_isi (by rfl) mi (by decide +kernel) (pa_cons (pv 0) (pa_cons (pe_bltn (v := .ty "str") (by rfl) mst (by decide +kernel) rfl) pa_nil)))
      (pe_and (pe_m0 PySem.F.slot_str_isascii PySem.F.type_str_isascii mt_isascii (pv 0))
      (pe_and (pe_m0 PySem.F.slot_str_isalnum PySem.F.type_str_isalnum mt_isalnum (pv 0))
      (pe_and (pe_m0 PySem.F.slot_str_islower PySem.F.type_str_islower mt_islower (pv 0))
      (pe_and (pe_m0 PySem.F.slot_str_isalpha PySem.F.type_str_isalpha mt_isalpha (pe_ix ix_str (pv 0) pe_int (fun _ _ => rfl)))
        (pe_one (pe_cmpR op_le (pe_callB call_len_str (by rfl) ml (by decide +kernel) (pa_cons (pv 0) pa_nil)) (pe_glob (v := .int 12) (by rfl) mM ⟨_, rfl⟩) (by rfl))))))))), ?_⟩
    rcases h with ⟨z, rfl, hz, k⟩ | ⟨⟨n, ty, kb⟩, k⟩
    · have szl : z.length ≤ sizeLine := by rw [sizeLine_eq]; omega
      have no : pre8 z.cps.toList = false → Q (.bl false) H := fun e => by
        have q := k H fun _ _ e => e
        rw [nmB_no e] at q
        exact q
      have pe := pre8_eq z
      refine ⟨_, rfl, _, .ty "str", _, _, true, rfl, .ty "str", .base (.str z), kit_ty (by decide +kernel), _, rfl, ?_⟩
      refine iteT ?_
      refine ⟨_, rfl, ⟨_, rfl⟩, _, rfl, rfl, trivial, _, rfl, ?_⟩
      cases eA : Txt.isascii z with
      | false => exact iteF (no (by rw [← pe, eA, Bool.false_and, Bool.false_and]))
      | true =>
        refine iteT ⟨_, rfl, ⟨_, rfl⟩, _, rfl, rfl, trivial, _, rfl, ?_⟩
        cases eB : Txt.isalnum z with
        | false => exact iteF (no (by rw [← pe, eB, Bool.and_false, Bool.false_and]))
        | true =>
          refine iteT ⟨_, rfl, ⟨_, rfl⟩, _, rfl, rfl, trivial, _, rfl, ?_⟩
          cases eC : Txt.islower z with
          | false => exact iteF (no (by rw [← pe, eC, Bool.and_false]))
          | true =>
            have p8 : pre8 z.cps.toList = true := by rw [← pe, eA, eB, eC]; rfl
            have lz : z.cps.toList.length = z.length := length_toList z
            have k' := k H fun _ _ e => e
            cases hc : z.cps.toList with
            | nil =>
              rw [hc] at p8
              cases p8
            | cons c r =>
              rw [hc] at p8 k' lz
              rw [nmB_pre p8] at k'
              refine iteT ⟨_, rfl, z, 0, c, rfl, rfl, szl, by rw [hc]; exact atI_nat (j := 0) rfl, ⟨_, rfl⟩, _, rfl, rfl, trivial, _, rfl, ?_⟩
              have ea : Txt.isalpha ⟨#[c]⟩ = Unicode.isAlpha c := by
                unfold Txt.isalpha
                simp [Str.length]
              rw [ea]
              cases eD : Unicode.isAlpha c with
              | false =>
                rw [eD, Bool.false_and] at k'
                exact iteF k'
              | true =>
                rw [eD, Bool.true_and] at k'
                refine iteT ⟨_, rfl, z, rfl, szl, _, _, rfl, rfl, ?_⟩
                have e : decide ((z.length : Int) ≤ 12) = decide ((c :: r).length ≤ 12) := decide_eq_decide.mpr ⟨fun h => by omega, fun h => by omega⟩
                rw [← e] at k'
                exact k'
    · refine ⟨_, rfl, _, .ty "str", _, _, false, rfl, .ty "str", ty, kit_ty kb, _, rfl, ?_⟩
      exact iteF k
end
end L2.LawH
set_option Elab.async false
set_option linter.all false
set_option maxRecDepth 100000
set_option maxHeartbeats 4000000
/-! is_variable, is_pattern, is_fact. -/
namespace L2.LawH
open PySem PySem.Spec PyProof.Rows L2.Cmp L2.TxtSet
abbrev sIsV9 : Stmt := top 9
abbrev sIsP9 : Stmt := top 10
abbrev sIsF9 : Stmt := top 6
def varB (z : Str) : Bool := isV z && nmB (z.cps.toList.drop 1)
theorem cut_tail (z : Str) : (cutS z (some 1) none).cps.toList = z.cps.toList.drop 1 := by
  have l : z.cps.toList.length = z.length := length_toList z
  have e1 : HT.sIx z.length 0 (some 1) = min 1 z.length := HT.sIx_nat z.length 0 1
  unfold cutS
  rw [e1, HT.sIx_none]
  show (z.cps.toList.drop (min 1 z.length)).take (z.length - min 1 z.length) = _
  cases hc : z.cps.toList with
  | nil => simp
  | cons c r =>
    rw [hc, List.length_cons] at l
    have m : min 1 z.length = 1 := by omega
    rw [m]
    have e : z.length - 1 = r.length := by omega
    rw [e]
    simp
/-- names and variables among values -/
def vN : V → Bool
  | .str z => nmB z.cps.toList
  | _ => false
def vV : V → Bool
  | .str z => varB z
  | _ => false
/-- a value that may be asked -/
def Okv (K : PySem.W.Frag) (H : Hp) (x : V) : Prop := (∃ z : Str, x = .str z ∧ z.length ≤ 100000) ∨ (NotS K H x ∧ ∀ z, x ≠ .str z)
theorem tyx_same {K : PySem.W.Frag} {H H' : Hp} (s : Same H H') {x : V} {t : Value} (h : TyX K H x t) : TyX K H' x t := by
  cases h with
  | base b =>
    refine .base ?_
    cases b with
    | non => exact .non
    | bl x => exact .bl x
    | int i => exact .int i
    | str x => exact .str x
    | flt x => exact .flt x
    | lst e => exact .lst (s _ _ e)
    | frz e => exact .frz (s _ _ e)
    | tup e => exact .tup (s _ _ e)
    | dK e => exact .dK (s _ _ e)
    | dT e => exact .dT (s _ _ e)
    | ins e cl ha hn htk hm => exact .ins (s _ _ e) cl ha hn htk hm
  | byt b => exact .byt b
  | set e => exact .set (s _ _ e)
  | kList e c => exact .kList e c
  | kTuple e c => exact .kTuple e c
  | kDict e c => exact .kDict e c
  | fTuple e => exact .fTuple (s _ _ e)
  | fDict e => exact .fDict (s _ _ e)
theorem Okv.same {K : PySem.W.Frag} {H H' : Hp} (s : Same H H') {x : V} (h : Okv K H x) : Okv K H' x := by
  rcases h with h | ⟨⟨n, ty, kb⟩, no⟩
  · exact .inl h
  · exact .inr ⟨⟨n, tyx_same s ty, kb⟩, no⟩
def NotT (K : PySem.W.Frag) (H : Hp) (x : V) : Prop := ∃ n : String, TyX K H x (.type n) ∧ kitB n "tuple" = some false
def patB (xs : List V) : Bool := match xs with
  | [] => false
  | x :: r => decide (r.length ≤ 3) && vN x && r.all fun y => vN y || vV y
def factB (xs : List V) : Bool := patB xs && xs.all vN
def spIsVr (K : PySem.W.Frag) : Sp := fun vs H Q _ => ∃ x : V, vs = [x] ∧ Okv K H x ∧ ∀ H', Same H H' → Q (.bl (vV x)) H'
def spIsP (K : PySem.W.Frag) (f : List V → Bool) : Sp := fun vs H Q _ => ∃ x : V, vs = [x] ∧
  ((∃ (t : Addr) (xs : List V), x = .ref t ∧ H t = some (.tup xs) ∧ xs.length ≤ 100000 ∧ (∀ y ∈ xs, Okv K H y) ∧ ∀ H', Same H H' → Q (.bl (f xs)) H') ∨ (NotT K H x ∧ ∀ H', Same H H' → Q (.bl false) H'))
theorem isN_of {K : PySem.W.Frag} {H : Hp} {x : V} {Q : VK} {E : XK} (o : Okv K H x) (k : ∀ H', Same H H' → Q (.bl (vN x)) H') : spIsN K [x] H Q E := by
  refine ⟨x, rfl, ?_⟩
  rcases o with ⟨z, rfl, l⟩ | ⟨n, no⟩
  · exact .inl ⟨z, rfl, l, k⟩
  · refine .inr ⟨n, ?_⟩
    have e : vN x = false := by
      cases x with
      | str z => exact absurd rfl (no z)
      | _ => rfl
    have q := k H fun _ _ e => e
    rw [e] at q
    exact q
section
variable {P : Program} {w : World} {K : PySem.W.Frag} {mg : Str → Option Value} {base : Heap}
theorem scIV : FnScope ["value"] ["value"] (defScope sIsV9) := ⟨rfl, rfl, rfl, by decide +kernel, rfl, by decide +kernel, by decide +kernel⟩
theorem ok_isV {f fN : Addr} {fd fdN : FuncData} (F : Fun K "is_variable" "is_variable" sIsV9 f fd)
    (GN : FnOk P w K mg base CX0 1 fN fdN ["value"] (spIsN K)) (kN : PySem.W.keepIn K (.ref fN) = true) (bN : Binds K fdN ["value"] []) (mN : mg "is_name" = some (.ref fN))
    (mi : mg "isinstance" = none) (mst : mg "str" = none) :
    FnOk P w K mg base CX0 2 f fd ["value"] (spIsVr K) := by
  refine F.ok scIV (fun vs H Q E h => ?_) (fun cdv A outer s H vs Q E hr h => ?_)
  · obtain ⟨x, rfl, _⟩ := h
    rfl
  · obtain ⟨x, rfl, o, k⟩ := h
    have hr1 : Room 1 _ := hr.mono (by decide)
    refine ⟨_, pss_one (ps_ret (pe_and (pe_callB call_isi (by rfl) mi (by decide +kernel) (pa_cons (pv 0) (pa_cons (pe_bltn (v := .ty "str") (by rfl) mst (by decide +kernel) rfl) pa_nil)))
      (pe_and (pe_m1 PySem.F.slot_str_startswith PySem.F.type_str_startswith mt_startswith (pv 0) pe_str)
        (pe_one (pe_call GN hr1 (by rfl) mN kN bN .nil pass0 (pa_cons (pe_slice sl_str (pv 0) (po_some pe_int) po_none) pa_nil)))))), ?_⟩
    rcases o with ⟨z, rfl, l⟩ | ⟨⟨n, ty, kb⟩, no⟩
    · have kv : ∀ H', Same H H' → Q (.bl (varB z)) H' := k
      refine ⟨_, rfl, _, .ty "str", _, _, true, rfl, .ty "str", .base (.str z), kit_ty (by decide +kernel), _, rfl, ?_⟩
      refine iteT ?_
      refine ⟨_, rfl, ⟨_, rfl⟩, _, _, rfl, rfl, _, rfl, ?_⟩
      refine ite2 (fun h1 => ?_) (fun h1 => ?_)
      · have h1 : isV z = true := h1
        refine ⟨_, rfl, _, rfl, z, rfl, by rw [sizeLine_eq]; omega, ?_⟩
        refine isN_of (E := E0) (.inl ⟨_, rfl, Nat.le_trans (cutS_length z (some 1) none) l⟩) fun H' s => ?_
        have q := kv H' s
        unfold varB at q
        rw [h1, Bool.true_and, ← cut_tail] at q
        exact q
      · have h1 : isV z = false := by
          cases e : isV z with
          | false => rfl
          | true => exact absurd e h1
        have q := kv H fun _ _ e => e
        unfold varB at q
        rw [h1, Bool.false_and] at q
        exact q
    · refine ⟨_, rfl, _, .ty "str", _, _, false, rfl, .ty "str", ty, kit_ty kb, _, rfl, ?_⟩
      refine iteF ?_
      have q := k H fun _ _ e => e
      have e : vV x = false := by
        cases x with
        | str z => exact absurd rfl (no z)
        | _ => rfl
      rw [e] at q
      exact q
theorem scIP : FnScope ["value", "term"] ["value"] (defScope sIsP9) := ⟨rfl, rfl, rfl, by decide +kernel, rfl, by decide +kernel, by decide +kernel⟩
theorem ok_isP {f fN fV : Addr} {fd fdN fdV : FuncData} (F : Fun K "is_pattern" "is_pattern" sIsP9 f fd)
    (GN : FnOk P w K mg base CX0 1 fN fdN ["value"] (spIsN K)) (kN : PySem.W.keepIn K (.ref fN) = true) (bN : Binds K fdN ["value"] []) (mN : mg "is_name" = some (.ref fN))
    (GV : FnOk P w K mg base CX0 2 fV fdV ["value"] (spIsVr K)) (kV : PySem.W.keepIn K (.ref fV) = true) (bV : Binds K fdV ["value"] []) (mV : mg "is_variable" = some (.ref fV))
    {t3 : Tok} (mM : mg "MOST_TERMS" = some (.int 3 t3)) (mi : mg "isinstance" = none) (mtp : mg "tuple" = none) (ml : mg "len" = none) :
    FnOk P w K mg base CX0 3 f fd ["value"] (spIsP K patB) := by
  refine F.ok scIP (fun vs H Q E h => ?_) (fun cdv A outer s H vs Q E hr h => ?_)
  · obtain ⟨x, rfl, _⟩ := h
    rfl
  · obtain ⟨x, rfl, h⟩ := h
    have hr1 : Room 1 _ := hr.mono (by decide)
    have hr2 : Room 2 _ := hr.mono (by decide)
    refine ⟨_, pss_cons (ps_if (PW.pt (pw_or (pt_not (pt_val (pe_callB call_isi (by rfl) mi (by decide +kernel) (pa_cons (pv 0) (pa_cons (pe_bltn (v := .ty "tuple") (by rfl) mtp (by decide +kernel) rfl) pa_nil)))))
          (pw_or1 (pt_not (pt_chain op_le op_le pe_int (pe_callB call_len_seq (by rfl) ml (by decide +kernel) (pa_cons (pv 0) pa_nil)) (pe_op op_add pe_int (pe_glob (v := .int 3) (by rfl) mM ⟨_, rfl⟩))))))) (pss_one (ps_ret pe_bl)) pss_nil)
      (pss_cons (ps_for PassesOwn.never rfl (pi_tup (pe_slice sl_tup (pv 0) (po_some pe_int) po_none)) (pg_name (i := 1) scIP.nd rfl (Or.inl rfl))
        (pss_one (ps_if (PW.pt (pw_and (pt_not (pt_val (pe_call GN hr1 (by rfl) mN kN bN .nil pass0 (pa_cons (pv 1) pa_nil)))) (pw_and1 (pt_not (pt_val (pe_call GV hr2 (by rfl) mV kV bV .nil pass0 (pa_cons (pv 1) pa_nil)))))))
          (pss_one (ps_ret pe_bl)) pss_nil)))
      (pss_one (ps_ret (pe_call GN hr1 (by rfl) mN kN bN .nil pass0 (pa_cons (pe_ix ix_tup (pv 0) pe_int (fun _ _ => rfl)) pa_nil))))), ?_⟩
    rcases h with ⟨t, xs, rfl, ht, lx, okx, k⟩ | ⟨⟨n, ty, kb⟩, k⟩
    · have big : ¬ (1 ≤ xs.length ∧ xs.length ≤ 4) → Q (.bl false) H := fun no => by
        have q := k H fun _ _ e => e
        have e : patB xs = false := by
          cases xs with
          | nil => rfl
          | cons x r =>
            rw [List.length_cons] at no
            show (decide (r.length ≤ 3) && vN x && r.all fun y => vN y || vV y) = false
            rw [decide_eq_false (by omega), Bool.false_and, Bool.false_and]
        rw [e] at q
        exact q
      refine ⟨_, rfl, _, .ty "tuple", _, _, true, rfl, .ty "tuple", .base (.tup ht), kit_ty (by decide +kernel), _, rfl, ?_⟩
      refine iteF ?_
      refine ⟨_, rfl, t, _, rfl, .inr (SqT.of ht), _, _, rfl, rfl, _, rfl, ?_⟩
      refine ite2 (fun l1 => ⟨_, _, rfl, rfl, _, _, rfl, rfl, _, rfl, ?_⟩) (fun l1 => ⟨_, rfl, iteT (big fun y => l1 (decide_eq_true (by omega)))⟩)
      have l1 : (1 : Int) ≤ xs.length := of_decide_eq_true l1
      refine ite2 (fun l2 => ?_) (fun l2 => ?_)
      · have l2' : ¬ ((xs.length : Int) ≤ 1 + 3) := fun y => by
          rw [decide_eq_true y] at l2
          cases l2
        exact big fun y => l2' (by omega)
      · have l2' : (xs.length : Int) ≤ 1 + 3 := by
          by_cases y : (xs.length : Int) ≤ 1 + 3
          · exact y
          · rw [decide_eq_false y] at l2
            exact absurd rfl l2
        cases xs with
        | nil =>
          rw [List.length_nil] at l1
          omega
        | cons y r =>
          have lr : r.length ≤ 3 := by
            rw [List.length_cons] at l2'
            omega
          have k : ∀ H', Same H H' → Q (.bl (vN y && r.all fun y => vN y || vV y)) H' := fun H' s => by
            have q := k H' s
            have e : patB (y :: r) = (vN y && r.all fun y => vN y || vV y) := by
              show (decide (r.length ≤ 3) && vN y && r.all fun y => vN y || vV y) = _
              rw [decide_eq_true lr, Bool.true_and]
            rw [e] at q
            exact q
          refine ⟨_, rfl, _, rfl, t, _, rfl, SqT.of ht, cut_part _ _, fun u nu => ⟨u, rfl, ⟨_, SqT.of upd_same⟩, ?_⟩⟩
          rw [cut_one]
          refine for_tup (xs := r) (fun i σ H5 => ∃ v1, σ = [some (.ref t), v1] ∧ Same H H5 ∧ H5 u = some (.tup r) ∧ ((r.take i).all fun y => vN y || vV y) = true)
            ⟨none, rfl, same_new nu, upd_same, rfl⟩ (fun i σ H5 _ p => ?_) (fun i x σ H5 hx p => ?_) (fun σ H5 p => ?_)
          · obtain ⟨_, _, _, p2, _⟩ := p
            exact SqT.of p2
          · obtain ⟨v1, rfl, p1, p2, p3⟩ := p
            have ox : Okv K H x := okx x (List.mem_cons_of_mem _ (List.mem_of_getElem? hx))
            have more : (vN x || vV x) = true → ((r.take (i + 1)).all fun y => vN y || vV y) = true := fun e => by
              rw [List.take_add_one, hx, List.all_append, p3]
              simpa using e
            have less : (vN x || vV x) = false → ∀ H', Same H H' → Q (.bl false) H' := fun e H' s => by
              have q := k H' s
              have n : (r.all fun y => vN y || vV y) = false := by
                rw [List.all_eq_false]
                exact ⟨x, List.mem_of_getElem? hx, by rw [e]; decide⟩
              rw [n, Bool.and_false] at q
              exact q
            refine ⟨_, rfl, ?_⟩
            dsimp only [tNil, List.cons_append, List.nil_append]
            refine isN_of (K := K) (E := E0) (ox.same p1) fun H6 s6 => ⟨_, rfl, ?_⟩
            cases en : vN x with
            | true =>
              refine iteF ⟨_, rfl, p1.trans s6, s6 _ _ p2, more (by rw [en]; rfl)⟩
            | false =>
              refine iteT ⟨_, rfl, x, rfl, ox.same (p1.trans s6), fun H7 s7 => ⟨_, rfl, ?_⟩⟩
              cases ev : vV x with
              | true => exact iteF ⟨_, rfl, (p1.trans s6).trans s7, s7 _ _ (s6 _ _ p2), more (by rw [ev, Bool.or_true])⟩
              | false => exact iteT (less (by rw [en, ev]; rfl) _ ((p1.trans s6).trans s7))
          · obtain ⟨v1, rfl, p1, p2, p3⟩ := p
            rw [List.take_length] at p3
            refine ⟨_, rfl, t, _, 0, y, rfl, rfl, SqT.of (p1 _ _ ht), atI_nat (j := 0) rfl, ?_⟩
            dsimp only [tNil, List.cons_append, List.nil_append]
            refine isN_of (K := K) (E := E0) ((okx y List.mem_cons_self).same p1) fun H1 s1 => ?_
            have q := k H1 (p1.trans s1)
            rw [p3, Bool.and_true] at q
            exact q
    · refine ⟨_, rfl, _, .ty "tuple", _, _, false, rfl, .ty "tuple", ty, kit_ty kb, _, rfl, ?_⟩
      exact iteT (k H fun _ _ e => e)
end
end L2.LawH
set_option Elab.async false
set_option linter.all false
set_option maxRecDepth 100000
set_option maxHeartbeats 4000000
/-! is_fact. -/
namespace L2.LawH
open PySem PySem.Spec PyProof.Rows L2.Cmp L2.TxtSet
section
variable {P : Program} {w : World} {K : PySem.W.Frag} {mg : Str → Option Value} {base : Heap}
theorem factB_eq {xs : List V} (h0 : 1 ≤ xs.length) (h : xs.length ≤ 4) : factB xs = xs.all vN := by
  cases xs with
  | nil => cases h0
  | cons y r =>
    rw [List.length_cons] at h
    show ((decide (r.length ≤ 3) && vN y && (r.all fun y => vN y || vV y)) && (vN y && r.all vN)) = (vN y && r.all vN)
    rw [decide_eq_true (by omega), Bool.true_and]
    cases e : r.all vN with
    | false => simp
    | true =>
      have e2 : (r.all fun y => vN y || vV y) = true := List.all_eq_true.mpr fun x m => by rw [List.all_eq_true.mp e x m, Bool.true_or]
      rw [e2]
      simp
theorem factB_no {xs : List V} (h : ¬ (1 ≤ xs.length ∧ xs.length ≤ 4)) : factB xs = false := by
  cases xs with
  | nil => rfl
  | cons y r =>
    rw [List.length_cons] at h
    show ((decide (r.length ≤ 3) && vN y && (r.all fun y => vN y || vV y)) && (vN y && r.all vN)) = false
    rw [decide_eq_false (by omega), Bool.false_and, Bool.false_and, Bool.false_and]
end
end L2.LawH
set_option Elab.async false
set_option linter.all false
set_option maxRecDepth 100000
set_option maxHeartbeats 4000000
/-! pattern_text. -/
namespace L2.LawH
open PySem PySem.Spec PyProof.Rows L2.Cmp L2.TxtSet
abbrev sPt12 : Stmt := top 11
theorem len_app (a b : Str) : (a ++ b).length = a.length + b.length := by
  rw [← length_toList, toList_append, List.length_append, length_toList, length_toList]
theorem join_len (sep : Str) : ∀ ys : List Str, (Str.join sep ys).length ≤ (ys.map (·.length)).sum + ys.length * sep.length
  | [] => Nat.zero_le _
  | [x] => by
    show x.length ≤ _
    simp
  | x :: y :: r => by
    have ih := join_len sep (y :: r)
    show (x ++ sep ++ Str.join sep (y :: r)).length ≤ _
    rw [len_app, len_app, List.map_cons, List.sum_cons, List.length_cons, Nat.succ_mul]
    omega
theorem sum_le (B : Nat) : ∀ ys : List Str, (∀ y ∈ ys, y.length ≤ B) → (ys.map (·.length)).sum ≤ ys.length * B
  | [], _ => Nat.zero_le _
  | x :: r, h => by
    have ih := sum_le B r fun y m => h y (List.mem_cons_of_mem _ m)
    have hx := h x List.mem_cons_self
    rw [List.map_cons, List.sum_cons, List.length_cons, Nat.succ_mul]
    omega
/-- the text of a pattern, as it is put together -/
def ptext (T : Str) (zs : List Str) : Str := Str.empty ++ T ++ "(" ++ Txt.join "," zs ++ ")"
def spPtx : Sp := fun vs H Q _ => ∃ (t : Addr) (T : Str) (zs : List Str), vs = [.ref t] ∧ H t = some (.tup (.str T :: zs.map V.str)) ∧ zs.length ≤ 100 ∧ T.length ≤ 1000 ∧ (∀ z ∈ zs, z.length ≤ 1000) ∧
  ∀ H', Same H H' → Q (.str (ptext T zs)) H'
section
variable {P : Program} {w : World} {K : PySem.W.Frag} {mg : Str → Option Value} {base : Heap}
theorem scPx : FnScope ["pattern", "terms"] ["pattern"] (defScope sPt12) := ⟨rfl, rfl, rfl, by decide +kernel, rfl, by decide +kernel, by decide +kernel⟩
theorem ok_ptx {f : Addr} {fd : FuncData} (F : Fun K "pattern_text" "pattern_text" sPt12 f fd) : FnOk P w K mg base CX0 1 f fd ["pattern"] spPtx := by
  refine F.ok scPx (fun vs H Q E h => ?_) (fun cdv A outer s H vs Q E hr h => ?_)
  · obtain ⟨t, T, zs, rfl, _⟩ := h
    rfl
  · obtain ⟨t, T, zs, rfl, ht, few, lT, lz, k⟩ := h
    refine ⟨_, pss_cons (ps_set (i := 1) scPx.nd rfl (Or.inl rfl) (pe_join pe_str (pe_slice sl_tup (pv 0) (po_some pe_int) po_none)))
      (pss_one (ps_ret (pe_joined (.cons (pe_fmt (pe_ix ix_tup (pv 0) pe_int (fun _ _ => rfl))) (.cons pe_str (.cons (pe_fmt (pv 1)) (.cons pe_str .nil))))))), ?_⟩
    have e0 : Str.empty.length = 0 := rfl
    have s1 := sum_le 1000 zs lz
    have c1 : (("," : String) : Str).length = 1 := by decide +kernel
    have c2 : (("(" : String) : Str).length = 1 := by decide +kernel
    have c3 : (((")" : String)) : Str).length = 1 := by decide +kernel
    have jl : (Txt.join "," zs).length ≤ 110000 := by
      have q := join_len "," zs
      rw [c1] at q
      have e : Txt.join "," zs = Str.join "," zs := StrLaws.glued_eq_join _ _
      rw [e]
      refine Nat.le_trans q ?_
      have : zs.length * 1000 ≤ 100 * 1000 := Nat.mul_le_mul_right _ few
      omega
    refine ⟨⟨_, rfl⟩, _, rfl, _, rfl, t, _, rfl, SqT.of ht, cut_part _ _, fun u nu => ?_⟩
    rw [cut_one]
    refine ⟨_, u, zs, rfl, rfl, .inr (SqT.of upd_same), ?_, ?_⟩
    · rw [c1]
      have : zs.length * 1000 ≤ 100 * 1000 := Nat.mul_le_mul_right _ few
      omega
    · have ht2 := (same_new nu (o := .tup (zs.map V.str))) _ _ ht
      refine ⟨_, rfl, t, _, 0, _, rfl, rfl, SqT.of ht2, atI_nat (j := 0) rfl, .inl ⟨T, rfl, ?_, T, rfl, ?_, _, rfl, ?_, _, rfl, .inl ⟨_, rfl, ?_, _, rfl, ?_, _, rfl, ?_, ?_⟩⟩⟩
      · rw [sizeLine_eq]; omega
      · rw [len_app, e0, sizeLine_eq]; omega
      · rw [len_app, len_app, e0, c2, sizeLine_eq]; omega
      · rw [sizeLine_eq]; omega
      · rw [len_app, len_app, len_app, e0, c2, sizeLine_eq]; omega
      · rw [len_app, len_app, len_app, len_app, e0, c2, c3, sizeLine_eq]; omega
      · exact k _ (same_new nu)
end
end L2.LawH
set_option Elab.async false
set_option linter.all false
set_option maxRecDepth 100000
set_option maxHeartbeats 4000000
/-! _law_is_name. -/
namespace L2.LawH
open PySem PySem.Spec PyProof.Rows L2.Cmp L2.TxtSet
def one (c : Nat) : Str := ⟨#[c]⟩
section
variable {P : Program} {w : World} {K : PySem.W.Frag} {mg : Str → Option Value} {base : Heap}
end
end L2.LawH
set_option Elab.async false
set_option linter.all false
set_option maxRecDepth 100000
set_option maxHeartbeats 4000000
/-! _law_is_term. -/
namespace L2.LawH
open PySem PySem.Spec PyProof.Rows L2.Cmp L2.TxtSet
/-- a value that the law may ask: its signs are signs -/
def Okl (K : PySem.W.Frag) (H : Hp) (x : V) : Prop := (∃ z : Str, x = .str z ∧ z.length ≤ 100000 ∧ ∀ c ∈ z.cps.toList, c < 0x110000) ∨ (NotS K H x ∧ ∀ z, x ≠ .str z)
theorem Okl.okv {K : PySem.W.Frag} {H : Hp} {x : V} (h : Okl K H x) : Okv K H x := h.imp (fun ⟨z, e, l, _⟩ => ⟨z, e, l⟩) id
theorem Okl.same {K : PySem.W.Frag} {H H' : Hp} (s : Same H H') {x : V} (h : Okl K H x) : Okl K H' x := h.imp id fun ⟨⟨n, ty, kb⟩, no⟩ => ⟨⟨n, tyx_same s ty, kb⟩, no⟩
theorem isV_head {z : Str} (h : isV z = true) : ∃ r, z.cps.toList = 63 :: r := by
  rw [← first_sign] at h
  have e : cutS z none (some 1) = Str.ofString "?" := of_decide_eq_true h
  have q1 : (Str.ofString "?").cps.toList = [63] := by decide +kernel
  have e2 : HT.sIx z.length z.length (some 1) = min 1 z.length := HT.sIx_nat z.length z.length 1
  have e3 := congrArg (fun y : Str => y.cps.toList) e
  unfold cutS at e3
  rw [HT.sIx_none, e2] at e3
  simp only [q1] at e3
  have l : z.cps.toList.length = z.length := length_toList z
  cases hc : z.cps.toList with
  | nil =>
    rw [hc] at e3
    simp at e3
  | cons c r =>
    rw [hc] at e3 l
    rw [List.length_cons] at l
    have m : min 1 z.length = 1 := by omega
    rw [m] at e3
    simp at e3
    exact ⟨r, by rw [e3]⟩
theorem nmB_var {z : Str} (h : isV z = true) : nmB z.cps.toList = false := by
  obtain ⟨r, e⟩ := isV_head h
  rw [e]
  show (isLet 63 && r.all isSgn && decide (r.length ≤ 11)) = false
  have : isLet 63 = false := by decide
  rw [this, Bool.false_and, Bool.false_and]
section
variable {P : Program} {w : World} {K : PySem.W.Frag} {mg : Str → Option Value} {base : Heap}
end
end L2.LawH
set_option Elab.async false
set_option linter.all false
set_option maxRecDepth 100000
set_option maxHeartbeats 4000000
/-! _law_text. -/
namespace L2.LawH
open PySem PySem.Spec PyProof.Rows L2.Cmp L2.TxtSet
theorem empty_app (T : Str) : Str.empty ++ T = T := by
  have h : (Str.empty ++ T).cps.toList = T.cps.toList := by
    rw [toList_append]
    rfl
  have h2 := Array.toList_inj.mp h
  cases hx : Str.empty ++ T with
  | mk a =>
    rw [hx] at h2
    cases T
    exact congrArg Str.mk h2
section
variable {P : Program} {w : World} {K : PySem.W.Frag} {mg : Str → Option Value} {base : Heap}
end
end L2.LawH
set_option Elab.async false
set_option linter.all false
set_option maxRecDepth 100000
set_option maxHeartbeats 4000000
/-! _law_is_pattern; values that are asked. -/
namespace L2.LawH
open PySem PySem.Spec PyProof.Rows L2.Cmp L2.TxtSet
theorem Same.seqT {K : PySem.W.Frag} {H H' : Hp} {a : Addr} {xs : List V} (e : Same H H') (h : SqT K H a xs) : SqT K H' a xs := by
  rcases h with h | h
  · rcases h with h | ⟨o, h⟩
    · exact .inl (.inl (e _ _ h))
    · exact .inl (.inr ⟨o, e _ _ h⟩)
  · exact .inr h
mutual
theorem dp_same {K : PySem.W.Frag} {H H' : Hp} (s : Same H H') : ∀ (d : PyData) (v : V), Dp K H v d → Dp K H' v d
  | .none, _, h => by
    cases h
    exact .non
  | .bool b, _, h => by
    cases h
    exact .bl b
  | .int i, _, h => by
    cases h
    exact .int i
  | .str x, _, h => by
    cases h
    exact .str x
  | .list ds, _, h => by
    cases h with
    | lst hs ha => exact .lst (Same.seq s hs) (dpAll_same s ds _ ha)
  | .tuple ds, _, h => by
    cases h with
    | tup hs ha => exact .tup (Same.seqT s hs) (dpAll_same s ds _ ha)
  | .dict _, _, h => by cases h
theorem dpAll_same {K : PySem.W.Frag} {H H' : Hp} (s : Same H H') : ∀ (ds : List PyData) (vs : List V), DpAll K H vs ds → DpAll K H' vs ds
  | [], _, h => by
    cases h
    exact .nil
  | d :: ds, _, h => by
    cases h with
    | cons h1 h2 => exact .cons (dp_same s d _ h1) (dpAll_same s ds _ h2)
end
/-- an item of a tuple that is asked -/
def Itm (K : PySem.W.Frag) (H : Hp) (y : V) : Prop := Okl K H y ∧ ∃ d, Dp K H y d ∧ d.canLay0 = true ∧ d.depth ≤ 2
theorem Itm.same {K : PySem.W.Frag} {H H' : Hp} (s : Same H H') {y : V} (h : Itm K H y) : Itm K H' y :=
  let ⟨o, d, p, l⟩ := h
  ⟨o.same s, d, dp_same s d _ p, l⟩
/-- data of a list of items -/
theorem itms_data {K : PySem.W.Frag} {H : Hp} : ∀ (ys : List V), (∀ y ∈ ys, Itm K H y) → ∃ ds, DpAll K H ys ds ∧ ds.length = ys.length ∧ PyData.canLayAll0 ds = true ∧ PyData.depthAll ds ≤ 2
  | [], _ => ⟨[], .nil, rfl, by simp [PyData.canLayAll0], by simp [PyData.depthAll]⟩
  | y :: ys, h => by
    obtain ⟨ds, p, l, c, e⟩ := itms_data ys fun z m => h z (List.mem_cons_of_mem _ m)
    obtain ⟨_, d, q, c1, e1⟩ := h y List.mem_cons_self
    refine ⟨d :: ds, .cons q p, by simp [l], by simp [PyData.canLayAll0, c, c1], ?_⟩
    simp only [PyData.depthAll]
    omega
theorem shaped_list {ds : List PyData} (h : PyData.canLayAll0 ds = true) (e : PyData.depthAll ds ≤ 20) : SeqAt.shaped (.list ds) = true := by
  have h2 : PyData.depth (.list ds) ≤ 64 := by
    simp only [PyData.depth]
    omega
  show (PyData.canLay0 (.list ds) && decide (PyData.depth (.list ds) ≤ 64)) = true
  rw [Bool.and_eq_true]
  exact ⟨by simp only [PyData.canLay0]; exact h, decide_eq_true h2⟩
theorem eqv_nilD : ∀ ds : List PyData, PyData.eqv (.list ds) (.list []) = decide (ds.length = 0)
  | [] => by simp [PyData.eqv, PyData.eqvAll]
  | d :: ds => by simp [PyData.eqv, PyData.eqvAll]
/-- a value that is asked: a tuple of items, or no tuple -/
def Ask (K : PySem.W.Frag) (H : Hp) (x : V) : Option (List V) → Prop
  | none => Okl K H x ∧ NotT K H x
  | some xs => ∃ t, x = .ref t ∧ H t = some (.tup xs) ∧ xs.length ≤ 100 ∧ ∀ y ∈ xs, Itm K H y
theorem NotT.same {K : PySem.W.Frag} {H H' : Hp} (s : Same H H') {x : V} (h : NotT K H x) : NotT K H' x := let ⟨n, ty, kb⟩ := h; ⟨n, tyx_same s ty, kb⟩
theorem Ask.same {K : PySem.W.Frag} {H H' : Hp} (s : Same H H') {x : V} {o : Option (List V)} (h : Ask K H x o) : Ask K H' x o := by
  cases o with
  | none => exact ⟨h.1.same s, h.2.same s⟩
  | some xs =>
    obtain ⟨t, e, ht, l, i⟩ := h
    exact ⟨t, e, s _ _ ht, l, fun y m => (i y m).same s⟩
theorem Ask.okl {K : PySem.W.Frag} {H : Hp} {x : V} {o : Option (List V)} (h : Ask K H x o) : Okl K H x := by
  cases o with
  | none => exact h.1
  | some xs =>
    obtain ⟨t, rfl, ht, l, i⟩ := h
    exact .inr ⟨⟨"tuple", .base (.tup ht), by decide +kernel⟩, fun z e => by cases e⟩
def pAns : Option (List V) → Bool
  | none => false
  | some xs => patB xs
def fAns : Option (List V) → Bool
  | none => false
  | some xs => factB xs
theorem fact_eq (y : V) (r : List V) (lr : r.length ≤ 3) : factB (y :: r) = (vN y && r.all vN) := by
  show ((decide (r.length ≤ 3) && vN y && r.all fun y => vN y || vV y) && (vN y && r.all vN)) = _
  rw [decide_eq_true lr, Bool.true_and]
  cases h1 : vN y with
  | false => rfl
  | true =>
    cases h2 : r.all vN with
    | false => simp
    | true =>
      have : (r.all fun y => vN y || vV y) = true := List.all_eq_true.mpr fun x m => by rw [List.all_eq_true.mp h2 x m]; rfl
      rw [this]
      rfl
section
variable {P : Program} {w : World} {K : PySem.W.Frag} {mg : Str → Option Value} {base : Heap}
end
end L2.LawH
set_option Elab.async false
set_option linter.all false
set_option maxRecDepth 100000
set_option maxHeartbeats 4000000
/-! Texts of patterns read: the mathematics. -/
namespace L2.LawH
open PySem PySem.Spec PyProof.Rows L2.Cmp L2.TxtSet TL
abbrev opnS : Str := "("
abbrev clsS : Str := ")"
abbrev comS : Str := ","
theorem tl_opn : tl opnS = [40] := by decide +kernel
theorem tl_cls : tl clsS = [41] := by decide +kernel
theorem tl_com : tl comS = [44] := by decide +kernel
/-- table and inside of a text that is cut rightly -/
def cutP (z : Str) : Option (Str × Str) := match par [40] [] (tl z) with
  | none => none
  | some (a, b) => if b.getLast? = some 41 then some (⟨a.toArray⟩, ⟨b.dropLast.toArray⟩) else none
def terms (i : Str) : List Str := if i.length = 0 then [] else Txt.split i comS
def rdOk (z : Str) : Option (Str × List Str) := match cutP z with
  | none => none
  | some (a, i) => if patB (.str a :: (terms i).map V.str) = true then some (a, terms i) else none
/-! ### par and spl for one sign -/
theorem pre_one (s c : Nat) (r : List Nat) : pre [s] (c :: r) = decide (c = s) := by
  show ((c :: r).take 1 == [s]) = _
  rw [Bool.eq_iff_iff, beq_iff_eq, decide_eq_true_iff]
  simp
theorem par_eq (s : Nat) : ∀ (l acc : List Nat) (a b : List Nat), par [s] acc l = some (a, b) → ∃ m, a = acc ++ m ∧ l = m ++ s :: b ∧ s ∉ m
  | [], acc, a, b, h => by cases h
  | c :: r, acc, a, b, h => by
    by_cases hc : c = s
    · rw [par_hit (by rw [pre_one, decide_eq_true hc])] at h
      have h2 := Option.some.inj h
      have e1 : acc = a := congrArg Prod.fst h2
      have e2 : (c :: r).drop [s].length = b := congrArg Prod.snd h2
      refine ⟨[], by rw [List.append_nil]; exact e1.symm, ?_, by simp⟩
      rw [← e2, hc]
      rfl
    · rw [par_miss (by rw [pre_one, decide_eq_false hc])] at h
      obtain ⟨m, e1, e2, e3⟩ := par_eq s r (acc ++ [c]) a b h
      refine ⟨c :: m, by rw [e1, List.append_assoc]; rfl, by rw [e2]; rfl, ?_⟩
      intro hm
      rcases List.mem_cons.mp hm with h | h
      · exact hc h.symm
      · exact e3 h
theorem par_no (s : Nat) : ∀ (l acc : List Nat), par [s] acc l = none → s ∉ l
  | [], _, _ => by simp
  | c :: r, acc, h => by
    by_cases hc : c = s
    · rw [par_hit (by rw [pre_one, decide_eq_true hc])] at h
      cases h
    · rw [par_miss (by rw [pre_one, decide_eq_false hc])] at h
      intro hm
      rcases List.mem_cons.mp hm with h' | h'
      · exact hc h'.symm
      · exact par_no s r _ h h'
theorem spl_ne (S : List Nat) : ∀ (l : List Nat) (acc : List Nat), spl S 0 acc l ≠ [] := by
  intro l
  induction l with
  | nil => intro acc; rw [spl_nil]; simp
  | cons c r ih =>
    intro acc
    cases h : pre S (c :: r) with
    | true => rw [spl_hit h]; simp
    | false => rw [spl_miss h]; exact ih _
theorem joinL_cons (S p : List Nat) {X : List (List Nat)} (h : X ≠ []) : joinL S (p :: X) = p ++ (S ++ joinL S X) := by
  cases X with
  | nil => exact absurd rfl h
  | cons q r => rfl
theorem join_spl (s : Nat) : ∀ (l acc : List Nat), joinL [s] (spl [s] 0 acc l) = acc ++ l
  | [], acc => by
    rw [spl_nil]
    show acc = _
    rw [List.append_nil]
  | c :: r, acc => by
    by_cases hc : c = s
    · rw [spl_hit (by rw [pre_one, decide_eq_true hc])]
      show joinL [s] (acc :: spl [s] 0 [] r) = _
      rw [joinL_cons _ _ (spl_ne _ _ _), join_spl s r [], hc]
      rfl
    · rw [spl_miss (by rw [pre_one, decide_eq_false hc]), join_spl s r (acc ++ [c]), List.append_assoc]
      rfl
theorem part_le (s : Nat) : ∀ (X : List (List Nat)) (p : List Nat), p ∈ X → p.length ≤ (joinL [s] X).length
  | [], p, h => by cases h
  | [q], p, h => by
    rw [List.mem_singleton.mp h]
    exact Nat.le_refl _
  | q :: y :: r, p, h => by
    show p.length ≤ (q ++ ([s] ++ joinL [s] (y :: r))).length
    rw [List.length_append, List.length_append]
    rcases List.mem_cons.mp h with rfl | h
    · omega
    · have := part_le s (y :: r) p h
      omega
theorem parts_le (s : Nat) : ∀ (X : List (List Nat)), X.length ≤ (joinL [s] X).length + 1
  | [] => Nat.zero_le _
  | [q] => by simp
  | q :: y :: r => by
    have := parts_le s (y :: r)
    show (q :: y :: r).length ≤ (q ++ ([s] ++ joinL [s] (y :: r))).length + 1
    rw [List.length_append, List.length_append, List.length_cons]
    simp only [List.length_singleton]
    omega
theorem part_mem (s : Nat) : ∀ (X : List (List Nat)) (p : List Nat) (c : Nat), p ∈ X → c ∈ p → c ∈ joinL [s] X
  | [], p, c, h, _ => by cases h
  | [q], p, c, h, hc => by
    rw [List.mem_singleton.mp h] at hc
    exact hc
  | q :: y :: r, p, c, h, hc => by
    show c ∈ q ++ ([s] ++ joinL [s] (y :: r))
    rw [List.mem_append, List.mem_append]
    rcases List.mem_cons.mp h with rfl | h
    · exact .inl hc
    · exact .inr (.inr (part_mem s (y :: r) p c h hc))
/-! ### the terms -/
theorem com_kind (i : Str) : ¬ Builtin.Str.strKind i < Builtin.Str.strKind comS := kind_ok (by decide +kernel)
theorem split_tl (i : Str) : (Txt.split i comS).map tl = spl [44] 0 [] (tl i) := by
  have h := split_spl i comS (by rw [tl_com]; simp) (com_kind i)
  rw [tl_com] at h
  exact h
theorem join_terms (i : Str) : Txt.join comS (terms i) = i := by
  unfold terms
  by_cases h : i.length = 0
  · rw [if_pos h]
    refine ext_tl ?_
    rw [join_eq]
    have e : tl i = [] := by
      rw [len_tl] at h
      exact List.length_eq_zero_iff.mp h
    rw [e]
    rfl
  · rw [if_neg h]
    refine ext_tl ?_
    rw [join_eq, tl_join, tl_com, split_tl, join_spl]
    rfl
theorem terms_join (i : Str) (h : i.length ≠ 0) : joinL [44] ((terms i).map tl) = tl i := by
  unfold terms
  rw [if_neg h, split_tl, join_spl]
  rfl
theorem term_le {i y : Str} (h : y ∈ terms i) : y.length ≤ i.length := by
  by_cases h0 : i.length = 0
  · unfold terms at h
    rw [if_pos h0] at h
    cases h
  · have := part_le 44 ((terms i).map tl) (tl y) (List.mem_map_of_mem h)
    rw [terms_join i h0] at this
    rw [len_tl, len_tl]
    exact this
theorem terms_le (i : Str) : (terms i).length ≤ i.length + 1 := by
  by_cases h0 : i.length = 0
  · unfold terms
    rw [if_pos h0]
    exact Nat.zero_le _
  · have := parts_le 44 ((terms i).map tl)
    rw [terms_join i h0, List.length_map] at this
    rw [len_tl]
    exact this
theorem term_mem {i y : Str} (h : y ∈ terms i) {c : Nat} (hc : c ∈ tl y) : c ∈ tl i := by
  by_cases h0 : i.length = 0
  · unfold terms at h
    rw [if_pos h0] at h
    cases h
  · have := part_mem 44 ((terms i).map tl) (tl y) c (List.mem_map_of_mem h) hc
    rw [terms_join i h0] at this
    exact this
/-! ### the cuts -/
theorem last_cases (l : List Nat) : l = [] ∨ ∃ m c, l = m ++ [c] := by
  rcases List.eq_nil_or_concat l with h | ⟨m, c, h⟩
  · exact .inl h
  · exact .inr ⟨m, c, by rw [h, List.concat_eq_append]⟩
theorem suffix_eq (b : Str) : Txt.removesuffix b clsS = if (tl b).getLast? = some 41 then ⟨(tl b).dropLast.toArray⟩ else b := by
  have l1 : clsS.length = 1 := by decide +kernel
  have lb := len_tl b
  rw [StrLaws.removesuffix_eq, StrLaws.subAt_eq, l1, show clsS.cps.toList = [41] from tl_cls]
  rcases last_cases (tl b) with h | ⟨m, c, h⟩
  · rw [h] at lb
    have e : b.cps.toList = [] := h
    rw [h]
    simp [lb]
  · have e : b.cps.toList = m ++ [c] := h
    have l2 : b.length = m.length + 1 := by
      rw [lb, h, List.length_append]
      rfl
    rw [h, e, l2]
    have d1 : decide (0 + 1 ≤ m.length + 1) = true := decide_eq_true (by omega)
    have d2 : (m ++ [c]).drop (m.length + 1 - 1) = [c] := by
      rw [Nat.add_sub_cancel]
      exact List.drop_left
    have d3 : ((m ++ [c]).drop 0).take (m.length + 1 - 1 - 0) = m := by
      rw [List.drop_zero, Nat.sub_zero, Nat.add_sub_cancel]
      exact List.take_left
    rw [d1, d2, d3, Bool.true_and]
    by_cases hc : c = 41
    · rw [hc]
      simp
    · simp [hc]
theorem find_eq (z : Str) : Txt.find z opnS = match par [40] [] (tl z) with | none => -1 | some (a, _) => (a.length : Int) := by
  have hy : tl opnS ≠ [] := by rw [tl_opn]; simp
  have l1 : opnS.length = 1 := by decide +kernel
  have hx := len_tl z
  unfold Txt.find
  rcases StrLaws.occ_head z opnS 1 (Nat.le_refl 1) with ⟨h0, hn⟩ | ⟨i, r, h0, hi, hn⟩
  · have run := par_run (tl opnS) (tl z) (tl z).length 0 [] (by omega) (fun k _ _ => no_at hy (hn k))
    rw [List.drop_zero, Nat.zero_add, List.drop_length] at run
    rw [tl_opn] at run
    rw [h0, run]
    rfl
  · have hb : i + opnS.length ≤ z.length := hi.1
    have run := par_run (tl opnS) (tl z) i 0 [] (by omega) (fun k _ k2 => no_at hy (hn k (by omega)))
    rw [List.drop_zero, Nat.zero_add, List.nil_append, par_at hy ((at_iff hy i).mp hi)] at run
    rw [tl_opn] at run
    rw [h0, run]
    show (i : Int) = (((tl z).take i).length : Int)
    rw [List.length_take]
    omega
theorem part_eq (z : Str) : Txt.partition z opnS = (match par [40] [] (tl z) with | some (a, b) => (⟨a.toArray⟩, opnS, ⟨b.toArray⟩) | none => (z, Str.empty, Str.empty)) := by
  have h := partition_par z opnS (by rw [tl_opn]; simp)
  rw [tl_opn] at h
  exact h
/-! ### a text and its pattern's -/
theorem ptext_tl (T : Str) (i : Str) : tl (ptext T (terms i)) = tl T ++ 40 :: (tl i ++ [41]) := by
  unfold ptext
  rw [empty_app, tl_append, tl_append, tl_append, show tl (("(" : String) : Str) = [40] from tl_opn, show tl ((")" : String) : Str) = [41] from tl_cls, show Txt.join ((("," : String)) : Str) (terms i) = i from join_terms i]
  simp
theorem nm_len {l : List Nat} (h : nmB l = true) : l.length ≤ 12 := (nm_sgns h).2.1
theorem var_len {z : Str} (h : varB z = true) : z.length ≤ 13 := by
  unfold varB at h
  rw [Bool.and_eq_true] at h
  have := nm_len h.2
  rw [List.length_drop] at this
  rw [len_tl]
  show z.cps.toList.length ≤ 13
  omega
theorem pat_bd {a : Str} {ts : List Str} (h : patB (.str a :: ts.map V.str) = true) : a.length ≤ 12 ∧ ts.length ≤ 3 ∧ ∀ y ∈ ts, y.length ≤ 13 := by
  have h : (decide ((ts.map V.str).length ≤ 3) && vN (.str a) && (ts.map V.str).all fun y => vN y || vV y) = true := h
  rw [Bool.and_eq_true, Bool.and_eq_true, decide_eq_true_iff, List.length_map, List.all_eq_true] at h
  obtain ⟨⟨h1, h2⟩, h3⟩ := h
  refine ⟨?_, h1, fun y hy => ?_⟩
  · have := nm_len (show nmB a.cps.toList = true from h2)
    rw [len_tl]
    exact this
  · have := h3 (.str y) (List.mem_map_of_mem hy)
    rw [Bool.or_eq_true] at this
    rcases this with h | h
    · have := nm_len (show nmB y.cps.toList = true from h)
      rw [len_tl]
      exact Nat.le_trans this (by decide)
    · exact var_len (show varB y = true from h)
/-- the reading of the program: where its own test of the text holds -/
theorem read_same {z a b : Str} (h : par [40] [] (tl z) = some (tl a, tl b)) :
    (decide (V.str (ptext a (terms (Txt.removesuffix b clsS))) = V.str z)) = decide ((tl b).getLast? = some 41) := by
  obtain ⟨m, e1, e2, _⟩ := par_eq 40 _ _ _ _ h
  rw [List.nil_append] at e1
  rw [← e1] at e2
  have key : (ptext a (terms (Txt.removesuffix b clsS)) = z) ↔ tl (Txt.removesuffix b clsS) ++ [41] = tl b := by
    constructor
    · intro e
      have e3 := congrArg tl e
      rw [ptext_tl, e2] at e3
      have e4 := List.append_cancel_left e3
      injection e4
    · intro e
      refine ext_tl ?_
      rw [ptext_tl, e2, e]
  refine decide_eq_decide.mpr ⟨fun e => ?_, fun e => ?_⟩
  · have e5 := key.mp (V.str.inj e)
    rw [← e5]
    simp
  · refine congrArg V.str (key.mpr ?_)
    rw [suffix_eq, if_pos e]
    show (tl b).dropLast ++ [41] = tl b
    rcases last_cases (tl b) with h | ⟨m, c, h⟩
    · rw [h] at e
      cases e
    · rw [h] at e ⊢
      have : c = 41 := by simpa using e
      rw [this]
      simp
theorem read_none {z : Str} (h : par [40] [] (tl z) = none) : (decide (V.str (ptext z (terms (Txt.removesuffix Str.empty clsS))) = V.str z)) = false := by
  refine decide_eq_false fun e => ?_
  have e3 := congrArg (fun y => (tl y).length) (V.str.inj e)
  simp only [ptext_tl, List.length_append, List.length_cons] at e3
  omega
end L2.LawH
set_option Elab.async false
set_option linter.all false
set_option maxRecDepth 100000
set_option maxHeartbeats 4000000
/-! read_pattern. -/
namespace L2.LawH
open PySem PySem.Spec PyProof.Rows L2.Cmp L2.TxtSet TL
abbrev sRd18 : Stmt := top 12
def spRd : Sp := fun vs H Q _ => ∃ z : Str, vs = [.str z] ∧ z.length ≤ 90000 ∧ (∀ c ∈ tl z, c < 0x110000) ∧ (rdOk z = none → ∀ H', Same H H' → Q .non H') ∧
  (∀ a ts, rdOk z = some (a, ts) → ∀ (p : Addr) (H' : Hp), Same H H' → H p = none → H' p = some (.tup (.str a :: ts.map V.str)) → Q (.ref p) H')
theorem cut_le {z a i : Str} (h : cutP z = some (a, i)) : a.length ≤ z.length ∧ i.length ≤ z.length ∧ (∀ c ∈ tl a, c ∈ tl z) ∧ ∀ c ∈ tl i, c ∈ tl z := by
  unfold cutP at h
  cases hp : par [40] [] (tl z) with
  | none => rw [hp] at h; cases h
  | some ab =>
    obtain ⟨a', b'⟩ := ab
    obtain ⟨m, e1, e2, _⟩ := par_eq 40 _ _ _ _ hp
    rw [List.nil_append] at e1
    rw [hp] at h
    dsimp only at h
    by_cases hl : b'.getLast? = some 41
    · rw [if_pos hl] at h
      have h2 := Option.some.inj h
      have e3 : a = ⟨a'.toArray⟩ := (congrArg Prod.fst h2).symm
      have e4 : i = ⟨b'.dropLast.toArray⟩ := (congrArg Prod.snd h2).symm
      have t1 : tl a = m := by rw [e3, ← e1]
      have t2 : tl i = b'.dropLast := by rw [e4]
      have lz := congrArg List.length e2
      rw [List.length_append, List.length_cons] at lz
      have lb : b'.dropLast.length ≤ b'.length := by rw [List.length_dropLast]; omega
      refine ⟨?_, ?_, fun c hc => ?_, fun c hc => ?_⟩
      · rw [len_tl, len_tl, t1]
        omega
      · rw [len_tl, len_tl z, t2]
        omega
      · rw [e2]
        rw [t1] at hc
        exact List.mem_append_left _ hc
      · rw [e2]
        rw [t2] at hc
        exact List.mem_append_right _ (List.mem_cons_of_mem _ ((List.dropLast_sublist _).subset hc))
    · rw [if_neg hl] at h
      cases h
section
variable {P : Program} {w : World} {K : PySem.W.Frag} {mg : Str → Option Value} {base : Heap}
abbrev nRd : List Str := ["text", "table", "_", "rest", "inner", "terms", "pattern"]
theorem scRd : FnScope nRd ["text"] (defScope sRd18) := ⟨rfl, rfl, rfl, by decide +kernel, rfl, by decide +kernel, by decide +kernel⟩
theorem ok_rd {f fP fX : Addr} {fd fdP fdX : FuncData} (F : Fun K "read_pattern" "read_pattern" sRd18 f fd)
    (GP : FnOk P w K mg base CX0 3 fP fdP ["value"] (spIsP K patB)) (kP : PySem.W.keepIn K (.ref fP) = true) (bP : Binds K fdP ["value"] []) (mP : mg "is_pattern" = some (.ref fP))
    (GX : FnOk P w K mg base CX0 1 fX fdX ["pattern"] spPtx) (kX : PySem.W.keepIn K (.ref fX) = true) (bX : Binds K fdX ["pattern"] []) (mX : mg "pattern_text" = some (.ref fX)) :
    FnOk P w K mg base CX0 4 f fd ["text"] spRd := by
  refine F.ok scRd (fun vs H Q E h => ?_) (fun cdv A outer s H vs Q E hr h => ?_)
  · obtain ⟨z, rfl, _⟩ := h
    rfl
  · obtain ⟨z, rfl, lz, cz, kN, kS⟩ := h
    have hr1 : Room 1 _ := hr.mono (by decide)
    have hr3 : Room 3 _ := hr.mono (by decide)
    refine ⟨_, pss_cons (ps_asg (pe_partition (pv 0) pe_str) (pg_tup rfl (pgs_cons (pg_name (i := 1) scRd.nd rfl (.inl rfl)) (pgs_cons (pg_name (i := 2) scRd.nd rfl (.inl rfl)) (pgs_cons (pg_name (i := 3) scRd.nd rfl (.inl rfl)) pgs_nil)))))
      (pss_cons (ps_set (i := 4) scRd.nd rfl (Or.inl rfl) (pe_m1 PySem.F.slot_str_removesuffix PySem.F.type_str_removesuffix mt_removesuffix (pv 3) pe_str))
      (pss_cons (ps_set (i := 5) scRd.nd rfl (Or.inl rfl) (pe_ifExp (pt_truth (pv 4) (by intro _; rfl)) (pe_split (pv 4) pe_str) (pe_lst pa_nil)))
      (pss_cons (ps_set (i := 6) scRd.nd rfl (Or.inl rfl) (pe_tup (pa_cons (pv 1) (StX.pa_star (pv 5) pa_nil))))
      (pss_cons (ps_if (PW.pt (pw_and (pt_val (pe_call GP hr3 (by rfl) mP kP bP .nil pass0 (pa_cons (pv 6) pa_nil)))
          (pw_and1 (pt_cmpR op_eq (pe_call GX hr1 (by rfl) mX kX bX .nil pass0 (pa_cons (pv 6) pa_nil)) (pv 0) (nomark _))))) (pss_one (ps_ret (pv 6))) pss_nil)
      (pss_one (ps_ret pe_non)))))), ?_⟩
    refine ⟨_, rfl, ⟨_, rfl⟩, z, _, rfl, rfl, by decide +kernel, by rw [sizeLine_eq]; omega, fun p np => ?_⟩
    have facts : ∃ a b m, Txt.partition z opnS = (a, m, b) ∧ a.length ≤ z.length ∧ b.length ≤ z.length ∧
        (patB (.str a :: (terms (Txt.removesuffix b clsS)).map V.str) = true → decide (V.str (ptext a (terms (Txt.removesuffix b clsS))) = V.str z) = true → rdOk z = some (a, terms (Txt.removesuffix b clsS))) ∧
        (patB (.str a :: (terms (Txt.removesuffix b clsS)).map V.str) = false ∨ decide (V.str (ptext a (terms (Txt.removesuffix b clsS))) = V.str z) = false → rdOk z = none) := by
      cases hp : par [40] [] (tl z) with
      | none =>
        refine ⟨z, Str.empty, Str.empty, by rw [part_eq, hp], Nat.le_refl _, Nat.zero_le _, fun _ h => ?_, fun _ => ?_⟩
        · rw [read_none hp] at h
          cases h
        · unfold rdOk cutP
          rw [hp]
      | some ab =>
        obtain ⟨a, b⟩ := ab
        obtain ⟨m, e1, e2, _⟩ := par_eq 40 _ _ _ _ hp
        rw [List.nil_append] at e1
        have lz := congrArg List.length e2
        rw [List.length_append, List.length_cons, ← e1] at lz
        have hp2 : par [40] [] (tl z) = some (tl ⟨a.toArray⟩, tl ⟨b.toArray⟩) := hp
        refine ⟨⟨a.toArray⟩, ⟨b.toArray⟩, opnS, by rw [part_eq, hp], ?_, ?_, fun h1 h2 => ?_, fun h => ?_⟩
        · rw [len_tl, len_tl z]
          show a.length ≤ _
          omega
        · rw [len_tl, len_tl z]
          show b.length ≤ _
          omega
        · rw [read_same hp2] at h2
          have h2 : b.getLast? = some 41 := of_decide_eq_true h2
          have e : Txt.removesuffix ⟨b.toArray⟩ clsS = ⟨b.dropLast.toArray⟩ := by
            rw [suffix_eq]
            exact if_pos h2
          rw [e] at h1 ⊢
          unfold rdOk cutP
          rw [hp]
          dsimp only
          rw [if_pos h2]
          dsimp only
          rw [if_pos h1]
        · unfold rdOk cutP
          rw [hp]
          dsimp only
          by_cases h2 : b.getLast? = some 41
          · rw [if_pos h2]
            dsimp only
            rw [read_same hp2, decide_eq_true (show (tl ⟨b.toArray⟩).getLast? = some 41 from h2)] at h
            have e : Txt.removesuffix ⟨b.toArray⟩ clsS = ⟨b.dropLast.toArray⟩ := by
              rw [suffix_eq]
              exact if_pos h2
            rw [e] at h
            rcases h with h | h
            · rw [if_neg (by rw [h]; exact Bool.false_ne_true)]
            · cases h
          · rw [if_neg h2]
    obtain ⟨a, b, m, ep, la, lb, hyes, hno⟩ := facts
    have ep : Txt.partition z (Str.ofString "(") = (a, m, b) := ep
    rw [ep]
    dsimp only
    have li : (Txt.removesuffix b clsS).length ≤ b.length := by
      rw [suffix_eq]
      split
      · rw [len_tl, len_tl]
        show (tl b).dropLast.length ≤ _
        rw [List.length_dropLast]
        omega
      · exact Nat.le_refl _
    have u1 : Same H (upd H p (.tup [.str a, .str m, .str b])) := same_new np
    refine ⟨p, _, rfl, SqT.of upd_same, rfl, _, _, rfl, _, _, rfl, _, _, rfl, rfl, ?_⟩
    refine ⟨_, rfl, ⟨_, rfl⟩, b, _, rfl, rfl, by rw [sizeLine_eq]; omega, ?_⟩
    generalize hi : Txt.removesuffix b clsS = i at hyes hno li
    refine ⟨_, rfl, _, ⟨by rw [sizeLine_eq]; omega, rfl⟩, ?_⟩
    refine ite2 (fun h0 => ⟨_, rfl, ⟨_, rfl⟩, i, _, rfl, rfl, by decide +kernel, by rw [sizeLine_eq]; omega, fun l nl => ?_⟩) (fun h0 => ⟨by show 0 ≤ sizeLine; decide, fun l nl => ?_⟩)
    all_goals
      generalize hH2 : upd _ l _ = H2
      have s2 : Same H H2 := by
        rw [← hH2]
        exact u1.trans (same_new nl)
      have hl : H2 l = some (.lst ((terms i).map V.str)) := by
        rw [← hH2, upd_same]
        unfold terms
        first
          | exact congrArg (fun y : List Str => some (HO.lst (y.map V.str))) (if_neg (fun z : i.length = 0 => by simp [z] at h0)).symm
          | exact congrArg (fun y : List Str => some (HO.lst (y.map V.str))) (show ([] : List Str) = if i.length = 0 then [] else Txt.split i comS from (if_pos (show i.length = 0 by simpa using h0)).symm)
      have tle := terms_le i
      refine ⟨_, rfl, _, rfl, l, _, rfl, .inr (SqL.of hl), ?_, fun t nt => ?_⟩
      · simp only [List.append_nil, List.length_cons, List.length_map]
        rw [sizeLine_eq]
        omega
      rw [List.append_nil]
      generalize hH3 : upd H2 t _ = H3
      have s3 : Same H2 H3 := by
        rw [← hH3]
        exact same_new nt
      have ht : H3 t = some (.tup (.str a :: (terms i).map V.str)) := by
        rw [← hH3]
        exact upd_same
      have ntH : H t = none := by
        cases e : H t with
        | none => rfl
        | some o =>
          rw [s2 t o e] at nt
          cases nt
      refine ⟨_, rfl, _, rfl, .inl ⟨t, _, rfl, ht, ?_, fun y hy => ?_, fun H4 s4 => ⟨_, rfl, ?_⟩⟩⟩
      · rw [List.length_cons, List.length_map]
        omega
      · rcases List.mem_cons.mp hy with rfl | hy
        · exact .inl ⟨_, rfl, by omega⟩
        · obtain ⟨y', hy', rfl⟩ := List.mem_map.mp hy
          have := term_le hy'
          exact .inl ⟨_, rfl, by omega⟩
      cases hA : patB (.str a :: (terms i).map V.str) with
      | false =>
        refine iteF (iteF ?_)
        exact kN (hno (.inl hA)) _ ((s2.trans s3).trans s4)
      | true =>
        obtain ⟨ba, bt, by_⟩ := pat_bd hA
        refine iteT ⟨_, rfl, t, a, terms i, rfl, s4 _ _ ht, by omega, by omega, fun y hy => Nat.le_trans (by_ y hy) (by decide), fun H5 s5 => ⟨_, rfl, rfl, _, rfl, ?_⟩⟩
        cases hB : decide (V.str (ptext a (terms i)) = V.str z) with
        | false =>
          refine iteF ?_
          exact kN (hno (.inr hB)) _ (((s2.trans s3).trans s4).trans s5)
        | true =>
          refine iteT ⟨_, rfl, ?_⟩
          exact kS a (terms i) (hyes hA hB) t _ (((s2.trans s3).trans s4).trans s5) ntH (s5 _ _ (s4 _ _ ht))
end
end L2.LawH
set_option Elab.async false
set_option linter.all false
set_option maxRecDepth 100000
set_option maxHeartbeats 4000000
/-! _law_of_text. -/
namespace L2.LawH
open PySem PySem.Spec PyProof.Rows L2.Cmp L2.TxtSet TL
theorem sIx_m1 (n d : Nat) : HT.sIx n d (some (-1)) = n - 1 := by
  show (if (-1 : Int) < 0 then ((-1 : Int) + (n : Int)).toNat else min (-1 : Int).toNat n) = n - 1
  rw [if_pos (by decide)]
  omega
theorem cut_last (z : Str) : tl (cutS z (some (-1)) none) = (tl z).drop (z.length - 1) := by
  show ((tl z).drop (HT.sIx z.length 0 (some (-1)))).take (HT.sIx z.length z.length none - HT.sIx z.length 0 (some (-1))) = _
  rw [sIx_m1, HT.sIx_none]
  refine List.take_of_length_le ?_
  rw [List.length_drop, ← len_tl]
  omega
theorem cut_to (z : Str) (k : Nat) : tl (cutS z none (some (k : Int))) = (tl z).take k := by
  show ((tl z).drop (HT.sIx z.length 0 none)).take (HT.sIx z.length z.length (some (k : Int)) - HT.sIx z.length 0 none) = _
  rw [HT.sIx_nat, HT.sIx_none, List.drop_zero, Nat.sub_zero, len_tl z]
  rcases Nat.le_total k (tl z).length with h | h
  · rw [Nat.min_eq_left h]
  · rw [Nat.min_eq_right h, List.take_of_length_le (Nat.le_refl _), List.take_of_length_le h]
theorem cut_in {z : Str} {m b : List Nat} (h : tl z = m ++ 40 :: b) : tl (cutS z (some ((m.length : Int) + 1)) (some (-1))) = b.dropLast := by
  have hz : z.length = m.length + 1 + b.length := by
    rw [len_tl, h, List.length_append, List.length_cons]
    omega
  have e1 : HT.sIx z.length 0 (some ((m.length : Int) + 1)) = m.length + 1 := by
    have e := HT.sIx_nat z.length 0 (m.length + 1)
    rw [show ((m.length + 1 : Nat) : Int) = (m.length : Int) + 1 by omega] at e
    rw [e]
    omega
  show ((tl z).drop (HT.sIx z.length 0 (some ((m.length : Int) + 1)))).take (HT.sIx z.length z.length (some (-1)) - HT.sIx z.length 0 (some ((m.length : Int) + 1))) = _
  rw [sIx_m1, e1, h, hz]
  have e2 : (m ++ 40 :: b).drop (m.length + 1) = b := by
    rw [show m ++ 40 :: b = (m ++ [40]) ++ b by simp]
    have e3 : (m ++ [40]).length = m.length + 1 := by simp
    rw [← e3]
    exact List.drop_left
  rw [e2, List.dropLast_eq_take]
  congr 1
  omega
/-- the last sign of a text that is cut -/
theorem last_sign {z : Str} {m b : List Nat} (h : tl z = m ++ 40 :: b) : decide (V.str (cutS z (some (-1)) none) = V.str clsS) = decide (b.getLast? = some 41) := by
  refine decide_eq_decide.mpr ⟨fun e => ?_, fun e => ?_⟩
  · have e1 := congrArg tl (V.str.inj e)
    rw [cut_last, tl_cls, h, len_tl, h] at e1
    rcases last_cases b with hb | ⟨k, c, hb⟩
    · subst hb
      rw [List.length_append] at e1
      have e2 : (m ++ [40]).drop (m.length + 1 - 1) = [40] := by
        rw [Nat.add_sub_cancel]
        exact List.drop_left
      have e3 : (m ++ [40]).drop (m.length + [40].length - 1) = [40] := e2
      rw [e3] at e1
      cases e1
    · subst hb
      have e4 : m ++ 40 :: (k ++ [c]) = (m ++ 40 :: k) ++ [c] := by simp
      rw [e4, List.length_append] at e1
      have e5 : ((m ++ 40 :: k) ++ [c]).drop ((m ++ 40 :: k).length + 1 - 1) = [c] := by
        rw [Nat.add_sub_cancel]
        exact List.drop_left
      have e6 : ((m ++ 40 :: k) ++ [c]).drop ((m ++ 40 :: k).length + [c].length - 1) = [c] := e5
      rw [e6] at e1
      have : c = 41 := by simpa using e1
      rw [this]
      simp
  · refine congrArg V.str (ext_tl ?_)
    rw [cut_last, tl_cls, h, len_tl, h]
    rcases last_cases b with hb | ⟨k, c, hb⟩
    · subst hb
      cases e
    · subst hb
      have hc : c = 41 := by simpa using e
      subst hc
      have e4 : m ++ 40 :: (k ++ [41]) = (m ++ 40 :: k) ++ [41] := by simp
      rw [e4, List.length_append]
      have e5 : ((m ++ 40 :: k) ++ [41]).drop ((m ++ 40 :: k).length + 1 - 1) = [41] := by
        rw [Nat.add_sub_cancel]
        exact List.drop_left
      exact e5
theorem itm_str {K : PySem.W.Frag} {H : Hp} {y : Str} (l : y.length ≤ 100000) (h : ∀ c ∈ tl y, c < 0x110000) : Itm K H (.str y) :=
  ⟨.inl ⟨y, rfl, l, h⟩, .str y, .str y, by
    show (PyData.str y).canLay0 = true
    simp only [PyData.canLay0]
    exact ok_list h, by simp [PyData.depth]⟩
section
variable {P : Program} {w : World} {K : PySem.W.Frag} {mg : Str → Option Value} {base : Heap}
end
end L2.LawH
set_option Elab.async false
set_option linter.all false
set_option maxRecDepth 100000
set_option maxHeartbeats 4000000
/-! Texts of right patterns; _law_texts. -/
namespace L2.LawH
open PySem PySem.Spec PyProof.Rows L2.Cmp L2.TxtSet TL
/-- a right pattern -/
structure PatG (T : Str) (zs : List Str) : Prop where
  nT : Nm T
  few : zs.length ≤ 3
  each : ∀ z ∈ zs, Nm z ∨ Vr z
theorem sgn_ne21 {c : Nat} (h : isSgn c = true) : c ≠ 40 ∧ c ≠ 44 ∧ c ≠ 63 ∧ c < 128 := by
  unfold isSgn isLet at h
  simp only [Bool.or_eq_true, Bool.and_eq_true, decide_eq_true_eq] at h
  omega
theorem chr_nm21 {z : Str} (h : Nm z) : ∀ c ∈ tl z, isSgn c = true := fun c hc => List.all_eq_true.mp (nm_sgns h).1 c hc
theorem tl_q : tl (Str.ofString "?") = [63] := by decide +kernel
theorem chr_tm {z : Str} (h : Nm z ∨ Vr z) : ∀ c ∈ tl z, c ≠ 40 ∧ c ≠ 44 ∧ c < 128 := by
  intro c hc
  rcases h with h | ⟨y, ny, rfl⟩
  · have := sgn_ne21 (chr_nm21 h c hc)
    exact ⟨this.1, this.2.1, this.2.2.2⟩
  · rw [tl_append, tl_q] at hc
    rcases List.mem_append.mp hc with hc | hc
    · rw [List.mem_singleton.mp hc]
      decide
    · have := sgn_ne21 (chr_nm21 ny c hc)
      exact ⟨this.1, this.2.1, this.2.2.2⟩
theorem isV_q (y : Str) : isV (Str.ofString "?" ++ y) = true := by
  rw [← first_sign, decide_eq_true_iff]
  refine ext_tl ?_
  have e := cut_to (Str.ofString "?" ++ y) 1
  rw [show (some ((1 : Nat) : Int)) = some (1 : Int) from rfl] at e
  rw [e, tl_append, tl_q]
  rfl
theorem varB_vr {z : Str} (h : Vr z) : varB z = true := by
  obtain ⟨y, ny, rfl⟩ := h
  unfold varB
  rw [isV_q, Bool.true_and]
  have e : (Str.ofString "?" ++ y).cps.toList.drop 1 = tl y := by
    rw [show (Str.ofString "?" ++ y).cps.toList = tl (Str.ofString "?" ++ y) from rfl, tl_append, tl_q]
    rfl
  rw [e]
  exact ny
theorem tm_ok {z : Str} (h : Nm z ∨ Vr z) : (vN (.str z) || vV (.str z)) = true := by
  rcases h with h | h
  · have : vN (.str z) = true := h
    rw [this]
    rfl
  · have : vV (.str z) = true := varB_vr h
    rw [this, Bool.or_true]
theorem tm_len {z : Str} (h : Nm z ∨ Vr z) : 1 ≤ z.length ∧ z.length ≤ 13 := by
  rcases h with h | ⟨y, ny, rfl⟩
  · have := nm_sgns h
    rw [len_tl]
    exact ⟨this.2.2, Nat.le_trans this.2.1 (by decide)⟩
  · have := nm_sgns ny
    rw [len_tl, tl_append, tl_q, List.length_append]
    have e : (tl y).length = y.cps.toList.length := rfl
    simp only [List.length_singleton]
    omega
theorem PatG.pat {T : Str} {zs : List Str} (h : PatG T zs) : patB (.str T :: zs.map V.str) = true := by
  show (decide ((zs.map V.str).length ≤ 3) && vN (.str T) && (zs.map V.str).all fun y => vN y || vV y) = true
  rw [List.length_map, decide_eq_true h.few, show vN (.str T) = true from h.nT, Bool.true_and, Bool.true_and, List.all_map, List.all_eq_true]
  exact fun z m => tm_ok (h.each z m)
theorem PatG.strs {T : Str} {zs : List Str} (h : PatG T zs) : T.length ≤ 12 ∧ (∀ z ∈ zs, z.length ≤ 13) := ⟨by
  have := nm_len h.nT
  rw [len_tl]
  exact this, fun z m => (tm_len (h.each z m)).2⟩
theorem terms_text {zs : List Str} (h : ∀ z ∈ zs, Nm z ∨ Vr z) : terms (Txt.join comS zs) = zs := by
  unfold terms
  cases zs with
  | nil => rfl
  | cons z r =>
    have hl : (Txt.join comS (z :: r)).length ≠ 0 := by
      rw [join_eq, len_tl, tl_join, tl_com]
      have h1 := (tm_len (h z List.mem_cons_self)).1
      have h2 := part_le 44 ((z :: r).map tl) (tl z) (List.mem_map_of_mem List.mem_cons_self)
      rw [len_tl] at h1
      omega
    rw [if_neg hl]
    exact split_join (s := 44) (S := []) tl_com (by decide +kernel) (by simp) fun p m hc => (chr_tm (h p m) 44 hc).2.1 rfl
theorem ptext_tl21 (T : Str) (zs : List Str) : tl (ptext T zs) = tl T ++ 40 :: (tl (Txt.join comS zs) ++ [41]) := by
  unfold ptext
  rw [empty_app, tl_append, tl_append, tl_append, show tl (("(" : String) : Str) = [40] from tl_opn, show tl ((")" : String) : Str) = [41] from tl_cls]
  simp
theorem par_app21 {m b : List Nat} (h : 40 ∉ m) : par [40] [] (m ++ 40 :: b) = some (m, b) := by
  have e := par_part1 (s := 40) (S := []) (p := m) (rest := b) (acc := []) h
  rw [List.nil_append] at e
  exact e
theorem PatG.read {T : Str} {zs : List Str} (h : PatG T zs) : rdOk (ptext T zs) = some (T, zs) := by
  have nT : 40 ∉ tl T := fun hc => (sgn_ne21 (chr_nm21 h.nT 40 hc)).1 rfl
  unfold rdOk cutP
  rw [ptext_tl21, par_app21 nT]
  dsimp only
  rw [if_pos (by simp)]
  dsimp only
  have e1 : (⟨(tl T).toArray⟩ : Str) = T := mk_tl T
  have e2 : (⟨(tl (Txt.join comS zs) ++ [41]).dropLast.toArray⟩ : Str) = Txt.join comS zs := by
    rw [List.dropLast_concat]
  rw [e1, e2, terms_text h.each, if_pos h.pat]
theorem PatG.read_sp {T : Str} {zs : List Str} (h : PatG T zs) : rdOk (ptext T zs ++ Str.ofString " ") = none := by
  have nT : 40 ∉ tl T := fun hc => (sgn_ne21 (chr_nm21 h.nT 40 hc)).1 rfl
  have e : tl (ptext T zs ++ Str.ofString " ") = tl T ++ 40 :: ((tl (Txt.join comS zs) ++ [41]) ++ [32]) := by
    rw [tl_append, ptext_tl21, show tl (Str.ofString " ") = [32] by decide +kernel]
    simp
  unfold rdOk cutP
  rw [e, par_app21 nT]
  dsimp only
  rw [if_neg (by simp)]
theorem read_empty : rdOk (Str.ofString "") = none := by
  unfold rdOk cutP
  rw [show tl (Str.ofString "") = [] by decide +kernel]
  rfl
theorem PatG.codes {T : Str} {zs : List Str} (h : PatG T zs) : (∀ c ∈ tl (ptext T zs), c < 0x110000) ∧ (ptext T zs).length ≤ 57 := by
  have hj : ∀ c ∈ tl (Txt.join comS zs), c < 128 := by
    rw [join_eq, tl_join, tl_com]
    intro c hc
    -- signs of a joined text
    have key : ∀ X : List (List Nat), (∀ p ∈ X, ∀ c ∈ p, c < 128) → ∀ c ∈ joinL [44] X, c < 128 := by
      intro X
      induction X with
      | nil => intro _ c hc; cases hc
      | cons p r ih =>
        intro hX c hc
        cases r with
        | nil => exact hX p List.mem_cons_self c hc
        | cons q r =>
          rw [joinL_cons _ _ (by simp), List.mem_append, List.mem_append] at hc
          rcases hc with hc | hc | hc
          · exact hX p List.mem_cons_self c hc
          · rw [List.mem_singleton.mp hc]
            decide
          · exact ih (fun p m => hX p (List.mem_cons_of_mem _ m)) c hc
    refine key _ (fun p m c hc => ?_) c hc
    obtain ⟨z, mz, rfl⟩ := List.mem_map.mp m
    exact (chr_tm (h.each z mz) c hc).2.2
  refine ⟨fun c hc => ?_, ?_⟩
  · rw [ptext_tl21] at hc
    rcases List.mem_append.mp hc with hc | hc
    · exact Nat.lt_trans (sgn_ne21 (chr_nm21 h.nT c hc)).2.2.2 (by decide)
    · rcases List.mem_cons.mp hc with rfl | hc
      · decide
      · rcases List.mem_append.mp hc with hc | hc
        · exact Nat.lt_trans (hj c hc) (by decide)
        · rw [List.mem_singleton.mp hc]
          decide
  · rw [len_tl, ptext_tl21, List.length_append, List.length_cons, List.length_append]
    have l1 := h.strs.1
    rw [len_tl] at l1
    have l2 : (tl (Txt.join comS zs)).length ≤ 3 * 14 := by
      rw [← len_tl, join_eq]
      have q := join_len comS zs
      have s1 := sum_le 13 zs h.strs.2
      have c1 : comS.length = 1 := by decide +kernel
      have few := h.few
      rw [c1] at q
      omega
    simp only [List.length_singleton]
    omega
/-! ### compared -/
theorem strs_lay : ∀ zs : List Str, (∀ z ∈ zs, ∀ c ∈ tl z, c < 0x110000) → PyData.canLayAll0 (zs.map PyData.str) = true
  | [], _ => by simp [PyData.canLayAll0]
  | z :: zs, h => by
    have h1 : PyData.strOk z = true := ok_list (h z List.mem_cons_self)
    simp [PyData.canLayAll0, PyData.canLay0, h1, strs_lay zs fun y m => h y (List.mem_cons_of_mem _ m)]
theorem strs_dep : ∀ zs : List Str, PyData.depthAll (zs.map PyData.str) ≤ 2
  | [] => by simp [PyData.depthAll]
  | z :: zs => by
    have h1 := strs_dep zs
    simp only [List.map_cons, PyData.depthAll, PyData.depth]
    omega
theorem shaped_tupS {zs : List Str} (h : ∀ z ∈ zs, ∀ c ∈ tl z, c < 0x110000) : SeqAt.shaped (.tuple (zs.map PyData.str)) = true := by
  have h1 := strs_dep zs
  have h2 : PyData.depth (.tuple (zs.map PyData.str)) ≤ 64 := by
    simp only [PyData.depth]
    omega
  show (PyData.canLay0 (.tuple (zs.map PyData.str)) && decide (PyData.depth (.tuple (zs.map PyData.str)) ≤ 64)) = true
  rw [Bool.and_eq_true]
  exact ⟨by simp only [PyData.canLay0]; exact strs_lay zs h, decide_eq_true h2⟩
theorem eqv_tupS {zs : List Str} (h : ∀ z ∈ zs, ∀ c ∈ tl z, c < 0x110000) : PyData.eqv (.tuple (zs.map PyData.str)) (.tuple (zs.map PyData.str)) = true :=
  SeqAt.eqv_refl _ (SeqAt.canLay_of_shaped (shaped_tupS h))
theorem dp_pat {K : PySem.W.Frag} {H : Hp} {t : Addr} {T : Str} {zs : List Str} (h : H t = some (.tup (.str T :: zs.map V.str))) : Dp K H (.ref t) (.tuple ((T :: zs).map PyData.str)) :=
  .tup (SqT.of h) (dp_strs (T :: zs))
theorem PatG.all {T : Str} {zs : List Str} (h : PatG T zs) : ∀ z ∈ T :: zs, ∀ c ∈ tl z, c < 0x110000 := by
  intro z m c hc
  rcases List.mem_cons.mp m with rfl | m
  · exact Nat.lt_trans (sgn_ne21 (chr_nm21 h.nT c hc)).2.2.2 (by decide)
  · exact Nat.lt_trans (chr_tm (h.each z m) c hc).2.2 (by decide)
theorem rd_codes {z a : Str} {ts : List Str} (h : rdOk z = some (a, ts)) (cz : ∀ c ∈ tl z, c < 0x110000) : ∀ y ∈ a :: ts, ∀ c ∈ tl y, c < 0x110000 := by
  unfold rdOk at h
  cases hc : cutP z with
  | none => rw [hc] at h; cases h
  | some ai =>
    obtain ⟨a', i⟩ := ai
    rw [hc] at h
    dsimp only at h
    obtain ⟨_, _, c1, c2⟩ := cut_le hc
    by_cases hp : patB (.str a' :: (terms i).map V.str) = true
    · rw [if_pos hp] at h
      have h2 := Option.some.inj h
      have e1 : a' = a := congrArg Prod.fst h2
      have e2 : terms i = ts := congrArg Prod.snd h2
      subst e1
      subst e2
      intro y m c hy
      rcases List.mem_cons.mp m with rfl | m
      · exact cz c (c1 c hy)
      · exact cz c (c2 c (term_mem m hy))
    · rw [if_neg hp] at h
      cases h
end L2.LawH
set_option Elab.async false
set_option linter.all false
set_option maxRecDepth 100000
set_option maxHeartbeats 4000000
namespace L2.LawH
open PySem PySem.Spec PyProof.Rows
def qn (j : Nat) : Str := Str.ofString "k" ++ (toString (j : Int) : String)
theorem qn_ok : ((List.range 13).all fun j => nmB (qn j).cps.toList && decide ((qn j).length ≤ 3)) = true := by decide +kernel
theorem qn_nd : ((List.range 13).map qn).Nodup := by decide +kernel
def qs (n : Nat) : List Str := (List.range n).map qn
theorem qs_nd {n : Nat} (h : n ≤ 13) : (qs n).Nodup := by
  have e : qs n = ((List.range 13).map qn).take n := by
    unfold qs
    rw [← List.map_take, List.take_range, Nat.min_eq_left h]
  rw [e]
  exact qn_nd.sublist (List.take_sublist _ _)
theorem qs_len (n : Nat) : (qs n).length = n := by simp [qs]
theorem qs_get {n i : Nat} (h : i < n) : (qs n)[i]? = some (qn i) := by simp [qs, h]
theorem qs_nm {n : Nat} (h : n ≤ 13) {q : Str} (hq : q ∈ qs n) : Nm q := by
  obtain ⟨j, hj, rfl⟩ := List.mem_map.mp hq
  have h2 := List.all_eq_true.mp qn_ok j (List.mem_range.mpr (Nat.lt_of_lt_of_le (List.mem_range.mp hj) h))
  exact (Bool.and_eq_true_iff.mp h2).1
theorem qn_len {j : Nat} (h : j < 13) : (qn j).length ≤ 3 := by
  have h2 := List.all_eq_true.mp qn_ok j (List.mem_range.mpr h)
  exact of_decide_eq_true (Bool.and_eq_true_iff.mp h2).2
def free (L : List Str) (q : Str) : Bool := !decide (q ∈ L)
theorem some_free {L : List Str} {n : Nat} (h : n ≤ 13) (hl : L.length < n) : ∃ q r, (qs n).filter (free L) = q :: r ∧ Nm q ∧ q ∉ L := by
  cases e : (qs n).filter (free L) with
  | nil =>
    exfalso
    have all : ∀ q ∈ qs n, q ∈ L := by
      intro q hq
      have z := List.filter_eq_nil_iff.mp e q hq
      simpa [free] using z
    have := nodup_len _ _ (qs_nd h) all
    rw [qs_len] at this
    omega
  | cons q r =>
    have hm : q ∈ (qs n).filter (free L) := by
      rw [e]
      exact List.mem_cons_self
    obtain ⟨h1, h2⟩ := List.mem_filter.mp hm
    exact ⟨q, r, rfl, qs_nm h h1, by simpa [free] using h2⟩
end L2.LawH
set_option Elab.async false
set_option linter.all false
set_option maxRecDepth 100000
set_option maxHeartbeats 4000000
/-! The pool of three cells: words. -/
namespace L2.LawH
open PySem PySem.Spec PyProof.Rows TL
open Builtin.Int (intBits)
abbrev sWord : Stmt := top 23
abbrev sWords : Stmt := top 24
abbrev sgS : Str := Str.ofString "abcdefghijklmnopqrstuvwxyz0123456789"
theorem sg_all : sgS.cps.toList.all isSgn = true := by decide +kernel
theorem sg_len : sgS.cps.toList.length = 36 := by decide +kernel
theorem sg_let : (sgS.cps.toList.take 26).all isLet = true := by decide +kernel
theorem sg_at {r : Int} (h0 : 0 ≤ r) (h1 : r < 36) : ∃ c, atI sgS.cps.toList r = some c ∧ isSgn c = true := pick sg_all sg_len h0 h1
theorem sg_at26 {r : Int} (h0 : 0 ≤ r) (h1 : r < 26) : ∃ c, atI sgS.cps.toList r = some c ∧ isLet c = true := by
  obtain ⟨j, rfl⟩ : ∃ j : Nat, r = j := ⟨r.toNat, by omega⟩
  have hj : j < sgS.cps.toList.length := by rw [sg_len]; omega
  refine ⟨_, atI_nat (List.getElem?_eq_getElem hj), List.all_eq_true.mp sg_let _ ?_⟩
  have : j < (sgS.cps.toList.take 26).length := by rw [List.length_take, sg_len]; omega
  have q := List.getElem_mem this
  rwa [List.getElem_take] at q
theorem joinL_nil (X : List (List Nat)) : joinL [] X = X.flatten := by
  induction X with
  | nil => rfl
  | cons p r ih =>
    cases r with
    | nil => show p = _; simp
    | cons q r =>
      rw [joinL_cons [] p (by simp), ih]
      simp
/-- signs joined by nothing -/
theorem join_signs (cs : List Nat) : tl (Txt.join (Str.ofString "") (cs.map fun c => (⟨#[c]⟩ : Str))) = cs := by
  rw [join_eq, tl_join]
  have e : tl (Str.ofString "") = [] := by decide +kernel
  rw [e, joinL_nil, List.map_map]
  induction cs with
  | nil => rfl
  | cons c r ih =>
    rw [List.map_cons, List.flatten_cons, ih]
    rfl
theorem join_signs_len (cs : List Nat) : ((cs.map fun c => (⟨#[c]⟩ : Str)).map (·.length)).sum = cs.length := by
  induction cs with
  | nil => rfl
  | cons c r ih =>
    rw [List.map_cons, List.map_cons, List.sum_cons, ih, List.length_cons]
    show 1 + _ = _
    omega
def spWord : Sp := fun vs H Q _ => ∃ (a r : Addr) (m : Nat), vs = [.ref a] ∧ DrwAt a r (m + 13) H ∧ ∀ (z : Str) (H' : Hp), Nm z → DrwAt a r m H' → Kp a r H H' → Q (.str z) H'
def spWords : Sp := fun vs H Q _ => ∃ (a r : Addr) (m cn : Nat), vs = [.ref a, .int cn] ∧ cn ≤ 12 ∧ DrwAt a r (m + 13 * cn) H ∧
  ∀ (p : Addr) (L : List Str) (H' : Hp), L.length = cn → (∀ z ∈ L, Nm z) → L.Nodup → H p = none → H' p = some (.lst (L.map V.str)) → DrwAt a r m H' → Kp a r H H' → Q (.ref p) H'
/-- what was made while all but the pool stayed is outside the pool -/
theorem kp_at {a r b : Addr} {H H' : Hp} {o : HO} (k : Kp a r H H') (e : H b = some o) (na : b ≠ a) (nr : b ≠ r) : H' b = some o := off_le _ _ (k _ _ (by rw [off_of na nr]; exact e))
theorem kp_upd_new {a r p : Addr} {H H' : Hp} {o : HO} (k : Kp a r H H') (n : H p = none) : Kp a r H (upd H' p o) := fun b u e => by
  obtain ⟨e1, na, nr⟩ := off_some e
  have q := k _ _ e
  rw [off_of na nr] at q ⊢
  rw [upd_ne (ne_of_none e1 n)]
  exact q
section
variable {P : Program} {w : World} {K : PySem.W.Frag} {mg : Str → Option Value} {base : Heap}
abbrev nWord : List Str := ["_law_pool_here", "_law_signs", "_law_size", "_law_k"]
theorem scWord : FnScope nWord ["_law_pool_here"] (defScope sWord) := ⟨rfl, rfl, rfl, by decide +kernel, rfl, by decide +kernel, by decide +kernel⟩
theorem ok_word {f fD : Addr} {fd fdD : FuncData} (F : Fun K "_law_word" "_law_word" sWord f fd)
    (GD : FnOk P w K mg base CX0 1 fD fdD ["_law_pool_here", "_law_limit"] spDraw3) (kD : PySem.W.keepIn K (.ref fD) = true) (bD : Binds K fdD ["_law_pool_here", "_law_limit"] []) (mD : mg "_law_draw" = some (.ref fD))
    (mr : mg "range" = none) : FnOk P w K mg base CX0 2 f fd ["_law_pool_here"] spWord := by
  refine F.ok scWord (fun vs H Q E h => ?_) (fun cdv A outer s H vs Q E hr h => ?_)
  · obtain ⟨a, r, m, rfl, _⟩ := h
    rfl
  · obtain ⟨a, r, m, rfl, hs, k⟩ := h
    have hr1 : Room 1 _ := hr.mono (by decide)
    refine ⟨_, pss_cons (ps_set (i := 1) scWord.nd rfl (Or.inr rfl) pe_str)
      (pss_cons (ps_set (i := 2) scWord.nd rfl (Or.inl rfl) (pe_ix ix_list (pe_lst (pa_cons pe_int (pa_cons pe_int (pa_cons pe_int (pa_cons pe_int (pa_cons pe_int pa_nil)))))) (pe_call GD hr1 (by rfl) mD kD bD .nil pass0 (pa_cons (pv 0) (pa_cons pe_int pa_nil))) (fun _ _ => rfl)))
      (pss_one (ps_ret (pe_op op_add_str (pe_ix ix_str (pv 1) (pe_call GD hr1 (by rfl) mD kD bD .nil pass0 (pa_cons (pv 0) (pa_cons pe_int pa_nil))) (fun _ _ => rfl))
        (pe_join pe_str (pe_lc (own := [("_law_k", 3)]) (g := gName 3) (tt := tYes) rfl scWord.nd (pi_range1 (by rfl) mr (pa_cons (pv 2) pa_nil))
          (blkOk_by (own := [("_law_k", 3)]) (N := nWord) (sc := defScope sWord) (by decide +kernel)) (fun _ _ _ _ _ => pg_name (i := 3) scWord.nd rfl (Or.inl rfl)) (fun _ _ _ _ _ => pts_nil)
          (fun _ _ _ _ _ => pe_ix ix_str (pv 1) (pe_call GD hr1 (by rfl) mD kD bD .nil pass0 (pa_cons (pv 0) (pa_cons pe_int pa_nil))) (fun _ _ => rfl)))))))), ?_⟩
    refine ⟨(by show 5 ≤ sizeLine; decide), fun p1 n1 => ?_⟩
    have u1 := same_new (o := .lst [V.int 0, V.int 0, V.int 1, V.int 2, V.int 11]) n1
    have z1 := hs.ne n1
    refine ⟨_, rfl, a, r, m + 12, 5, rfl, hs.same u1, by decide, by decide, fun r1 H1 r10 r11 s1 k1 => ?_⟩
    have hl := kp_at k1 upd_same z1.1 z1.2
    have size : ∃ sz : Nat, atI [V.int 0, V.int 0, V.int 1, V.int 2, V.int 11] r1 = some (.int sz) ∧ sz ≤ 11 := by
      obtain ⟨j, rfl⟩ : ∃ j : Nat, r1 = j := ⟨r1.toNat, by omega⟩
      have hj : j = 0 ∨ j = 1 ∨ j = 2 ∨ j = 3 ∨ j = 4 := by omega
      rcases hj with rfl | rfl | rfl | rfl | rfl
      · exact ⟨0, atI_nat (j := 0) rfl, by decide⟩
      · exact ⟨0, atI_nat (j := 1) rfl, by decide⟩
      · exact ⟨1, atI_nat (j := 2) rfl, by decide⟩
      · exact ⟨2, atI_nat (j := 3) rfl, by decide⟩
      · exact ⟨11, atI_nat (j := 4) rfl, by decide⟩
    obtain ⟨sz, esz, hsz⟩ := size
    have k01 : Kp a r H H1 := (Kp.of u1).trans k1
    refine ⟨p1, _, _, _, rfl, rfl, SqL.of hl, esz, ?_⟩
    refine ⟨_, rfl, _, rfl, a, r, m + 11, 26, rfl, s1, by decide, by decide, fun r2 H2 r20 r21 s2 k2 => ?_⟩
    obtain ⟨c0, ec0, lc0⟩ := sg_at26 r20 r21
    refine ⟨_, _, _, rfl, rfl, (by decide +kernel), ec0, ?_⟩
    refine ⟨⟨_, rfl⟩, _, rfl, _, rfl, by omega, by omega, fun D nD => ?_⟩
    rw [Int.toNat_natCast]
    have zD := s2.ne nD
    have k02 := k01.trans k2
    refine lc_range (lo := 0) (n := sz) (fun i H5 => ∃ cs : List Nat, cs.length = i ∧ cs.all isSgn = true ∧ H5 D = some (.lst ((cs.map fun c => (⟨#[c]⟩ : Str)).map V.str)) ∧ DrwAt a r (m + 11 - i) H5 ∧ Kp a r H2 H5)
      ⟨[], rfl, rfl, upd_same, (s2.same (same_new nD)).mono (by omega), Kp.of (same_new nD)⟩ ?_ ?_
    · rintro i H5 hi ⟨cs, lc, hc, hD, s5, k5⟩
      refine ⟨rfl, ?_⟩
      dsimp only [tYes]
      rw [if_pos rfl]
      have s5' : DrwAt a r (m + 11 - (i + 1) + 1) H5 := s5.mono (by omega)
      refine ⟨_, rfl, _, rfl, a, r, m + 11 - (i + 1), 36, rfl, s5', by decide, by decide, fun r3 H6 r30 r31 s6 k6 => ?_⟩
      obtain ⟨c, ec, lc'⟩ := sg_at r30 r31
      refine ⟨_, _, _, rfl, rfl, (by decide +kernel), ec, ?_⟩
      refine ⟨_, kp_at k6 hD zD.1 zD.2, ?_, cs ++ [c], by simp [lc], ?_, by rw [upd_same]; simp, s6.upd (H0 := H) zD.1 zD.2, kp_upd_new (k5.trans k6) nD⟩
      · rw [List.length_map, List.length_map, lc, sizeLine_eq]
        omega
      · rw [List.all_append, hc]
        simp [lc']
    · rintro H5 ⟨cs, lc, hc, hD, s5, k5⟩
      refine ⟨_, D, _, rfl, rfl, .inl (SqL.of hD), ?_, ?_⟩
      · rw [join_signs_len, lc]
        have e : (Str.ofString "").length = 0 := by decide +kernel
        rw [e]
        omega
      · have hlen : (Txt.join (Str.ofString "") (cs.map fun c => (⟨#[c]⟩ : Str))).length = cs.length := by rw [len_tl, join_signs]
        refine ⟨_, _, rfl, rfl, ?_, k _ _ ?_ (s5.mono (by omega)) (k02.trans k5)⟩
        · rw [hlen, lc, sizeLine_eq]
          show 1 + sz ≤ _
          omega
        · show nmB (tl ((⟨#[c0]⟩ : Str) ++ _)) = true
          rw [tl_append, join_signs]
          show nmB (c0 :: cs) = true
          simp only [nmB, lc0, hc, lc, Bool.true_and, decide_eq_true_eq]
          omega
abbrev nWords : List Str := ["_law_pool_here", "_law_many", "_law_found", "_law_k", "_law_word_here", "_law_one", "_law_j"]
theorem scWords : FnScope nWords ["_law_pool_here", "_law_many"] (defScope sWords) := ⟨rfl, rfl, rfl, by decide +kernel, rfl, by decide +kernel, by decide +kernel⟩
theorem ok_words {f fN : Addr} {fd fdN : FuncData} (F : Fun K "_law_words" "_law_words" sWords f fd) (GN : FnOk P w K mg base CX0 2 fN fdN ["_law_pool_here"] spWord)
    (kN : PySem.W.keepIn K (.ref fN) = true) (bN : Binds K fdN ["_law_pool_here"] []) (mN : mg "_law_word" = some (.ref fN)) (mr : mg "range" = none) (ms : mg "str" = none) :
    FnOk P w K mg base CX0 3 f fd ["_law_pool_here", "_law_many"] spWords := by
  refine F.ok scWords (fun vs H Q E h => ?_) (fun cdv A outer s H vs Q E hr h => ?_)
  · obtain ⟨a, r, m, cn, rfl, _⟩ := h
    rfl
  · obtain ⟨a, r, m, cn, rfl, hcn, hs, k⟩ := h
    have hr2 : Room 2 _ := hr.mono (by decide)
    refine ⟨_, pss_cons (ps_set (i := 2) scWords.nd rfl (Or.inr rfl) (pe_lst pa_nil))
      (pss_cons (ps_for PassesOwn.never rfl (pi_range1 rfl mr (pa_cons (pv 1) pa_nil)) (pg_name (i := 3) scWords.nd rfl (Or.inl rfl))
        (pss_cons (ps_set (i := 4) scWords.nd rfl (Or.inl rfl) (pe_call GN hr2 (by rfl) mN kN bN .nil pass0 (pa_cons (pv 0) pa_nil)))
        (pss_cons (ps_if (PW.pt (pw_or (pt_cmpR op_in_seq (pv 4) (pv 2) (by rfl)) (pw_or1 (pt_cmpR op_eq (pe_slice sl_str (pv 4) po_none (po_some pe_int)) pe_str (nomark _)))))
          (pss_one (ps_set (i := 4) scWords.nd rfl (Or.inl rfl) (pe_ix ix_list (pe_lc (own := [("_law_one", 5)]) (g := gName 5) (tt := tTest (tOp (rIn K true) (tVar 5) (tVar 2))) rfl scWords.nd
            (pi_list (pe_lc (own := [("_law_j", 6)]) (g := gName 6) (tt := tYes) rfl scWords.nd (pi_range1 rfl mr (pa_cons (pe_op op_add (pv 1) pe_int) pa_nil))
              (blkOk_by (own := [("_law_j", 6)]) (N := nWords) (sc := defScope sWords) (by decide +kernel))
              (fun _ _ _ _ _ => pg_name (i := 6) scWords.nd rfl (Or.inl rfl)) (fun _ _ _ _ _ => pts_nil)
              (fun _ _ _ _ _ => pe_op op_add_str pe_str (pe_callTy call_str_int (by rfl) ms (by decide +kernel) (pa_cons (pv 6) pa_nil)))))
            (blkOk_by (own := [("_law_one", 5)]) (N := nWords) (sc := defScope sWords) (by decide +kernel))
            (fun _ _ _ _ _ => pg_name (i := 5) scWords.nd rfl (Or.inl rfl)) (fun _ _ _ _ _ => pts_one (pt_cmpR (op_notInK rfl) (pv 5) (pv 2) (by rfl))) (fun _ _ _ _ _ => pv 5)) pe_int (fun _ _ => rfl)))) pss_nil)
        (pss_one (ps_expr (pe_bm PySem.F.plainAttrs_list PySem.F.slot_list_append PySem.F.type_list_append mt_append (pv 2) (pa_cons (pv 4) pa_nil)))))))
      (pss_one (ps_ret (pv 2)))), ?_⟩
    refine ⟨(by show 0 ≤ sizeLine; decide), fun p np => ?_⟩
    have pa := hs.ne np
    refine ⟨_, rfl, _, rfl, by omega, by omega, for_range (lo := 0) (n := (cn : Int).toNat) (fun i σ H3 => ∃ (L : List Str) (v3 v4 v5 v6 : Option V), σ = [some (.ref a), some (.int cn), some (.ref p), v3, v4, v5, v6] ∧
      L.length = i ∧ (∀ z ∈ L, Nm z) ∧ L.Nodup ∧ H3 p = some (.lst (L.map V.str)) ∧ DrwAt a r (m + 13 * (cn - i)) H3 ∧ Kp a r H H3)
      ⟨[], none, none, none, none, rfl, rfl, fun _ z => (by cases z), List.nodup_nil, upd_same, (hs.same (same_new np)).mono (by omega), Kp.of (same_new np)⟩ ?_ ?_⟩
    · rintro i σ H3 hi ⟨L, v3, v4, v5, v6, rfl, hl, hnm, hnd, h3, s3, k3⟩
      rw [Int.toNat_natCast] at hi
      have s3' : DrwAt a r (m + 13 * (cn - (i + 1)) + 13) H3 := s3.mono (by omega)
      refine ⟨_, rfl, a, r, m + 13 * (cn - (i + 1)), rfl, s3', fun z H4 nz s4 k4 => ?_⟩
      have h4 := kp_at k4 h3 pa.1 pa.2
      have few : (L.map V.str).length < sizeLine := by
        rw [List.length_map, sizeLine_eq]
        omega
      have fin : ∀ (t : Str) (H6 : Hp) (w5 w6 : Option V), Same H4 H6 → Nm t → t ∉ L → ∃ (L' : List Str) (w3 w4 w5' w6' : Option V), [some (.ref a), some (.int cn), some (.ref p), some (V.int (0 + (i : Int))), some (.str t), w5, w6] = [some (.ref a), some (.int cn), some (.ref p), w3, w4, w5', w6'] ∧
          L'.length = i + 1 ∧ (∀ z ∈ L', Nm z) ∧ L'.Nodup ∧ (upd H6 p (.lst (L.map V.str ++ [V.str t]))) p = some (.lst (L'.map V.str)) ∧ DrwAt a r (m + 13 * (cn - (i + 1))) (upd H6 p (.lst (L.map V.str ++ [V.str t]))) ∧ Kp a r H (upd H6 p (.lst (L.map V.str ++ [V.str t]))) := by
        intro t H6 w5 w6 s46 nt ft
        refine ⟨L ++ [t], _, _, _, _, rfl, by simp [hl], fun y hy => ?_, ?_, by rw [upd_same]; simp, (s4.same s46).upd (H0 := H) pa.1 pa.2, kp_upd_new ((k3.trans k4).trans (Kp.of s46)) np⟩
        · rcases List.mem_append.mp hy with hy | hy
          · exact hnm y hy
          · have : y = t := by simpa using hy
            rw [this]
            exact nt
        · rw [List.nodup_append]
          refine ⟨hnd, by simp, fun x hx y hy e => ?_⟩
          have : y = t := by simpa using hy
          rw [e, this] at hx
          exact ft hx
      refine ⟨_, rfl, _, rfl, p, _, rfl, .inl (SqL.of h4), rfl, flat_strs L, ?_⟩
      have eI : (if false = true then !inV (V.str z) (L.map V.str) else inV (V.str z) (L.map V.str)) = decide (z ∈ L) := by
        rw [if_neg (by decide), inV_strs]
      have lz : z.length ≤ sizeLine := by
        have := (nm_sgns nz).2.1
        rw [length_toList] at this
        rw [sizeLine_eq]
        omega
      refine ⟨_, rfl, ?_⟩
      rw [eI]
      refine ite2 (fun h1 => ?_) (fun h1 => ⟨_, rfl, 3, rfl, z, rfl, lz, rfl, _, rfl, ite2 (fun h2 => ?_) (fun h2 => ?fin)⟩)
      case fin => exact ⟨_, rfl, .inl ⟨rfl, _, .inl (.inl h4)⟩, _, rfl, p, _, _, rfl, rfl, h4, few, fin z H4 _ _ (fun _ _ e => e) nz (fun e => h1 (decide_eq_true e))⟩
      all_goals
        refine ⟨_, rfl, _, _, rfl, rfl, _, rfl, by omega, by omega, fun D nD => ?_⟩
        have tn : ((cn : Int) + 1).toNat = cn + 1 := by omega
        rw [tn]
        refine lc_range (lo := 0) (n := cn + 1) (fun j H5 => Same H4 H5 ∧ H5 D = some (.lst (((qs (cn + 1)).take j).map V.str))) ⟨same_new nD, upd_same⟩ ?_ ?_
        · rintro j H5 hj ⟨s5, hD⟩
          refine ⟨rfl, ?_⟩
          dsimp only [tYes]
          rw [if_pos rfl]
          have e0 : (0 : Int) + (j : Int) = (j : Int) := by omega
          rw [e0]
          have l3 : (Str.ofString "k" ++ ((toString (j : Int) : String) : Str)).length ≤ 3 := qn_len (j := j) (by omega)
          have lsum : (Str.ofString "k").length + ((toString (j : Int) : String) : Str).length ≤ sizeLine := by
            have e1 : (Str.ofString "k" ++ ((toString (j : Int) : String) : Str)).length = (Str.ofString "k").length + ((toString (j : Int) : String) : Str).length := by
              rw [← length_toList, toList_append, List.length_append, length_toList, length_toList]
            rw [e1] at l3
            rw [sizeLine_eq]
            omega
          have lg : ((j : Int)).natAbs.log2 < 1920 := by
            have : ((j : Int)).natAbs < 2 ^ 11 := by
              have e2 : (2 : Nat) ^ 11 = 2048 := by decide
              rw [e2]
              omega
            have h9 : ((j : Int)).natAbs.log2 ≤ 11 := by
              by_cases z : ((j : Int)).natAbs = 0
              · rw [z]
                decide
              · exact Nat.le_of_lt ((Nat.log2_lt z).mpr this)
            omega
          refine ⟨_, rfl, _, rfl, lg, _, _, rfl, rfl, lsum, _, hD, ?_, fun b o e => ?_, ?_⟩
          · rw [List.length_map, List.length_take, qs_len]
            refine Nat.lt_of_le_of_lt (Nat.min_le_right _ _) ?_
            rw [sizeLine_eq]
            omega
          · rw [upd_ne (ne_of_none e nD)]
            exact s5 b o e
          · rw [upd_same, List.take_add_one, qs_get hj]
            simp [qn]
        · rintro H5 ⟨s5, hD⟩
          have hD' : H5 D = some (.lst ((qs (cn + 1)).map V.str)) := by
            rw [hD, List.take_of_length_le (by rw [qs_len]; exact Nat.le_refl _)]
          have h5 := s5 _ _ h4
          refine ⟨D, rfl, ⟨_, SqL.of hD'⟩, fun D2 nD2 => ?_⟩
          refine lc_list (K := K) (a := D) (xs := (qs (cn + 1)).map V.str) (fun j H6 => Same H5 H6 ∧ H6 D2 = some (.lst ((((qs (cn + 1)).take j).filter (free L)).map V.str)))
            ⟨same_new nD2, upd_same⟩ (fun j H6 _ h6 => h6.1.seq (SqL.of hD')) ?_ ?_
          · rintro j v H6 hj ⟨s6, hD2⟩
            rw [List.getElem?_map] at hj
            cases eb : (qs (cn + 1))[j]? with
            | none =>
              rw [eb] at hj
              cases hj
            | some q =>
              rw [eb] at hj
              cases hj
              have h6 := s6 _ _ h5
              refine ⟨rfl, _, rfl, _, rfl, p, _, rfl, .inl (SqL.of h6), rfl, flat_strs L, _, rfl, ?_⟩
              rw [List.take_add_one, eb, List.filter_append]
              have e2 : (if true = true then !inV (V.str q) (L.map V.str) else inV (V.str q) (L.map V.str)) = free L q := by
                rw [if_pos rfl, inV_strs]
                rfl
              rw [e2]
              cases ef : free L q with
              | true =>
                refine iteT ?_
                refine ⟨_, rfl, _, hD2, ?_, fun b o e => ?_, ?_⟩
                · rw [List.length_map]
                  refine Nat.lt_of_le_of_lt (List.length_filter_le _ _) ?_
                  rw [List.length_take, qs_len, sizeLine_eq]
                  omega
                · rw [upd_ne (ne_of_none e nD2)]
                  exact s6 b o e
                · rw [upd_same]
                  simp [ef]
              | false =>
                refine iteF ?_
                refine ⟨s6, ?_⟩
                rw [hD2]
                simp [ef]
          · rintro H6 ⟨s6, hD2⟩
            have hD2' : H6 D2 = some (.lst (((qs (cn + 1)).filter (free L)).map V.str)) := by
              rw [hD2, List.length_map, List.take_of_length_le (Nat.le_refl _)]
            have h6 := s6 _ _ h5
            obtain ⟨q, r', eq, nq, fq⟩ := some_free (L := L) (n := cn + 1) (by omega) (by omega)
            refine ⟨D2, _, 0, .str q, rfl, rfl, SqL.of hD2', ?_, _, rfl, .inl ⟨rfl, _, .inl (.inl h6)⟩, _, rfl, p, _, _, rfl, rfl, h6, few, ?_⟩
            · rw [eq]
              exact atI_nat (j := 0) rfl
            · exact fin q H6 _ _ (s5.trans s6) nq fq
    · rintro σ H3 ⟨L, v3, v4, v5, v6, rfl, hl, hnm, hnd, h3, s3, k3⟩
      rw [Int.toNat_natCast] at hl
      exact ⟨_, rfl, k p L H3 hl hnm hnd np h3 (s3.mono (by omega)) k3⟩
end
end L2.LawH
set_option Elab.async false
set_option linter.all false
set_option maxRecDepth 100000
set_option maxHeartbeats 4000000
namespace L2.LawH
open PySem PySem.Spec PyProof.Rows L2.Cmp L2.TxtSet TL
def rCatB : R2 := fun x y H Q => ∃ a b xs ys, x = .ref a ∧ y = .ref b ∧ H a = some (.tup xs) ∧ H b = some (.tup ys) ∧ xs.length + ys.length ≤ sizeLine ∧
  ∀ (p : Addr) (H' : Hp), Same H H' → H' p = some (.tup (xs ++ ys)) → (p = a ∨ p = b ∨ H p = none) → Q (.ref p) H'
theorem op_catB {X : Cx} : OpR X (binaryOp .Add) rCatB := by
  intro pins s σ H x y v u Q I rx ry h
  obtain ⟨a, b, xs, ys, rfl, rfl, ha, hb, hz, q⟩ := h
  refine op_catA pins s σ H _ _ v u Q I rx ry ⟨a, b, xs, ys, rfl, rfl, SqT.of ha, SqT.of hb, hz, fun e => ?_, fun _ e => ?_, fun _ _ p np => ?_⟩
  · subst e
    exact q b H (Same.refl H) hb (.inr (.inl rfl))
  · subst e
    exact q a H (Same.refl H) (by rw [List.append_nil]; exact ha) (.inl rfl)
  · exact q p _ (same_new np) upd_same (.inr (.inr np))
end L2.LawH
set_option Elab.async false
set_option linter.all false
set_option maxRecDepth 100000
set_option maxHeartbeats 4000000
/-! The pool of three cells: tables, constants and variables; patterns. -/
namespace L2.LawH
open PySem PySem.Spec PyProof.Rows TL
open Builtin.Int (intBits)
abbrev sWorld : Stmt := top 25
abbrev sPat3 : Stmt := top 26
structure Wld where
  T : List (Addr × Str × Nat)
  C : List Str
  W : List Str
structure WldOk (ω : Wld) : Prop where
  lT : ω.T.length = 5
  lC : ω.C.length = 4
  lW : ω.W.length = 12
  nT : ∀ x ∈ ω.T, Nm x.2.1 ∧ x.2.2 ≤ 3
  nC : ∀ z ∈ ω.C, Nm z
  nW : ∀ z ∈ ω.W, Vr z
  ndC : ω.C.Nodup
  ndW : ω.W.Nodup
/-- tables, constants, variables at p -/
def WldAt (H : Hp) (p : Addr) (ω : Wld) : Prop := ∃ t c v : Addr, H p = some (.tup [.ref t, .ref c, .ref v]) ∧ H t = some (.lst (ω.T.map fun x => V.ref x.1)) ∧
  H c = some (.lst (ω.C.map V.str)) ∧ H v = some (.lst (ω.W.map V.str)) ∧ ∀ x ∈ ω.T, H x.1 = some (.tup [.str x.2.1, .int (x.2.2 : Nat)])
theorem WldAt.same {H H' : Hp} {p : Addr} {ω : Wld} (h : WldAt H p ω) (s : Same H H') : WldAt H' p ω := by
  obtain ⟨t, c, v, h1, h2, h3, h4, h5⟩ := h
  exact ⟨t, c, v, s _ _ h1, s _ _ h2, s _ _ h3, s _ _ h4, fun x m => s _ _ (h5 x m)⟩
theorem off_new {a r p : Addr} {H : Hp} {m : Nat} {o : HO} (s : DrwAt a r m H) (n : H p = none) : Off a r (upd H p o) p = some o := by
  rw [off_of (s.ne n).1 (s.ne n).2, upd_same]
theorem kp_none {a r p : Addr} {H H' : Hp} (k : Kp a r H H') (n : H' p = none) (na : p ≠ a) (nr : p ≠ r) : H p = none := by
  cases e : H p with
  | none => rfl
  | some o =>
    rw [kp_at k e na nr] at n
    cases n
abbrev tl' (x : Str) : List Nat := x.cps.toList
theorem tl_inj {x y : Str} (h : tl x = tl y) : x = y := ext_tl h
theorem three {L : List Str} (h : L.length = 3) : ∃ x y z, L = [x, y, z] := by
  match L, h with
  | [x, y, z], _ => exact ⟨x, y, z, rfl⟩
def spWorld : Sp := fun vs H Q _ => ∃ (a r : Addr) (m : Nat), vs = [.ref a] ∧ DrwAt a r (m + 248) H ∧
  ∀ (p : Addr) (ω : Wld) (H' : Hp), WldAt (Off a r H') p ω → WldOk ω → DrwAt a r m H' → Kp a r H H' → Q (.ref p) H'
def spPat3 (K : PySem.W.Frag) : Sp := fun vs H Q _ => ∃ (a r p q : Addr) (m : Nat) (ω : Wld) (O : List Str), vs = [.ref a, .ref p, .ref q] ∧ DrwAt a r (m + 7) H ∧ WldAt (Off a r H) p ω ∧ WldOk ω ∧
  Off a r H q = some (.lst (O.map V.str)) ∧ O.length ≤ 1000 ∧ (∀ z ∈ O, Vr z) ∧
  ∀ (t : Addr) (T : Str) (zs : List Str) (H' : Hp), Off a r H' t = some (.tup (.str T :: zs.map V.str)) → H t = none → PatG T zs → DrwAt a r m H' → Kp a r H H' → Q (.ref t) H'
section
variable {P : Program} {w : World} {K : PySem.W.Frag} {mg : Str → Option Value} {base : Heap}
abbrev nWorld : List Str := ["_law_pool_here", "_law_names", "_law_tables", "_law_word_here"]
theorem scWorld : FnScope nWorld ["_law_pool_here"] (defScope sWorld) := ⟨rfl, rfl, rfl, by decide +kernel, rfl, by decide +kernel, by decide +kernel⟩
theorem ok_world {f fD fN : Addr} {fd fdD fdN : FuncData} (F : Fun K "_law_world" "_law_world" sWorld f fd)
    (GD : FnOk P w K mg base CX0 1 fD fdD ["_law_pool_here", "_law_limit"] spDraw3) (kD : PySem.W.keepIn K (.ref fD) = true) (bD : Binds K fdD ["_law_pool_here", "_law_limit"] []) (mD : mg "_law_draw" = some (.ref fD))
    (GN : FnOk P w K mg base CX0 3 fN fdN ["_law_pool_here", "_law_many"] spWords) (kN : PySem.W.keepIn K (.ref fN) = true) (bN : Binds K fdN ["_law_pool_here", "_law_many"] []) (mN : mg "_law_words" = some (.ref fN)) :
    FnOk P w K mg base CX0 4 f fd ["_law_pool_here"] spWorld := by
  refine F.ok scWorld (fun vs H Q E h => ?_) (fun cdv A outer s H vs Q E hr h => ?_)
  · obtain ⟨a, r, m, rfl, _⟩ := h
    rfl
  · obtain ⟨a, r, m, rfl, hs, k⟩ := h
    have hr1 : Room 1 _ := hr.mono (by decide)
    have hr3 : Room 3 _ := hr.mono (by decide)
    refine ⟨_, pss_cons (ps_set (i := 1) scWorld.nd rfl (Or.inl rfl) (pe_call GN hr3 (by rfl) mN kN bN .nil pass0 (pa_cons (pv 0) (pa_cons pe_int pa_nil))))
      (pss_cons (ps_set (i := 2) scWorld.nd rfl (Or.inl rfl) (pe_lst (pa_cons (pe_tup (pa_cons (pe_ix ix_list (pv 1) pe_int (fun _ _ => rfl)) (pa_cons pe_int pa_nil)))
        (pa_cons (pe_tup (pa_cons (pe_ix ix_list (pv 1) pe_int (fun _ _ => rfl)) (pa_cons pe_int pa_nil)))
        (pa_cons (pe_tup (pa_cons (pe_ix ix_list (pv 1) pe_int (fun _ _ => rfl)) (pa_cons (pe_call GD hr1 (by rfl) mD kD bD .nil pass0 (pa_cons (pv 0) (pa_cons pe_int pa_nil))) pa_nil)))
        (pa_cons (pe_tup (pa_cons (pe_ix ix_list (pv 1) pe_int (fun _ _ => rfl)) (pa_cons pe_int pa_nil)))
        (pa_cons (pe_tup (pa_cons (pe_ix ix_list (pv 1) pe_int (fun _ _ => rfl)) (pa_cons pe_int pa_nil))) pa_nil)))))))
      (pss_one (ps_ret (pe_tup (pa_cons (pv 2) (pa_cons (pe_call GN hr3 (by rfl) mN kN bN .nil pass0 (pa_cons (pv 0) (pa_cons pe_int pa_nil)))
        (pa_cons (pe_lc (own := [("_law_word_here", 3)]) (g := gName 3) (tt := tYes) rfl scWorld.nd (pi_list (pe_call GN hr3 (by rfl) mN kN bN .nil pass0 (pa_cons (pv 0) (pa_cons pe_int pa_nil))))
          (blkOk_by (own := [("_law_word_here", 3)]) (N := nWorld) (sc := defScope sWorld) (by decide +kernel)) (fun _ _ _ _ _ => pg_name (i := 3) scWorld.nd rfl (Or.inl rfl)) (fun _ _ _ _ _ => pts_nil)
          (fun _ _ _ _ _ => pe_op op_add_str pe_str (pv 3))) pa_nil))))))), ?_⟩
    refine ⟨_, rfl, a, r, m + 209, 3, rfl, by decide, hs, fun pn L H1 lL nmL ndL npn h1 s1 k1 => ?_⟩
    obtain ⟨n0, n1, n2, rfl⟩ := three lL
    have o1 : Off a r H1 pn = some (.lst [.str n0, .str n1, .str n2]) := by
      rw [off_of (hs.ne npn).1 (hs.ne npn).2]
      exact h1
    -- the tables
    refine ⟨_, rfl, pn, _, 0, _, rfl, rfl, SqL.of h1, rfl, (by show 2 ≤ sizeLine; decide), fun t1 nt1 => ?_⟩
    have u1 : Same H1 (upd H1 t1 (.tup [.str n0, .int 1])) := same_new nt1
    have c1 : (upd H1 t1 (.tup [.str n0, .int 1])) t1 = some (.tup [.str n0, .int 1]) := upd_same
    generalize upd H1 t1 (.tup [.str n0, .int 1]) = H2 at u1 c1 ⊢
    have s2 := s1.same u1
    have f1 : Off a r H2 t1 = some (.tup [.str n0, .int 1]) := by rw [off_of (s1.ne nt1).1 (s1.ne nt1).2]; exact c1
    have h2 := u1 _ _ h1
    refine ⟨_, rfl, pn, _, 1, _, rfl, rfl, SqL.of h2, rfl, (by show 2 ≤ sizeLine; decide), fun t2 nt2 => ?_⟩
    have u2 : Same H2 (upd H2 t2 (.tup [.str n1, .int 2])) := same_new nt2
    have c2 : (upd H2 t2 (.tup [.str n1, .int 2])) t2 = some (.tup [.str n1, .int 2]) := upd_same
    generalize upd H2 t2 (.tup [.str n1, .int 2]) = H3 at u2 c2 ⊢
    have s3 := s2.same u2
    have f2 : Off a r H3 t2 = some (.tup [.str n1, .int 2]) := by rw [off_of (s2.ne nt2).1 (s2.ne nt2).2]; exact c2
    have h3 := u2 _ _ h2
    refine ⟨_, rfl, pn, _, 2, _, rfl, rfl, SqL.of h3, rfl, _, rfl, a, r, m + 208, 4, rfl, s3, by decide, by decide, fun x H4 x0 x1 s4 k4 => ?_⟩
    obtain ⟨j, rfl⟩ : ∃ j : Nat, x = j := ⟨x.toNat, by omega⟩
    have h4 := kp_at k4 h3 (hs.ne npn).1 (hs.ne npn).2
    refine ⟨(by show 2 ≤ sizeLine; decide), fun t3 nt3 => ?_⟩
    have u4 : Same H4 (upd H4 t3 (.tup [.str n2, .int (j : Nat)])) := same_new nt3
    have c4 : (upd H4 t3 (.tup [.str n2, .int (j : Nat)])) t3 = some (.tup [.str n2, .int (j : Nat)]) := upd_same
    generalize upd H4 t3 (.tup [.str n2, .int (j : Nat)]) = H5 at u4 c4 ⊢
    have s5 := s4.same u4
    have f3 : Off a r H5 t3 = some (.tup [.str n2, .int (j : Nat)]) := by rw [off_of (s4.ne nt3).1 (s4.ne nt3).2]; exact c4
    have h5 := u4 _ _ h4
    refine ⟨_, rfl, pn, _, 0, _, rfl, rfl, SqL.of h5, rfl, (by show 2 ≤ sizeLine; decide), fun t4 nt4 => ?_⟩
    have u5 : Same H5 (upd H5 t4 (.tup [.str n0, .int 2])) := same_new nt4
    have c5 : (upd H5 t4 (.tup [.str n0, .int 2])) t4 = some (.tup [.str n0, .int 2]) := upd_same
    generalize upd H5 t4 (.tup [.str n0, .int 2]) = H6 at u5 c5 ⊢
    have s6 := s5.same u5
    have f4 : Off a r H6 t4 = some (.tup [.str n0, .int 2]) := by rw [off_of (s5.ne nt4).1 (s5.ne nt4).2]; exact c5
    have h6 := u5 _ _ h5
    refine ⟨_, rfl, pn, _, 1, _, rfl, rfl, SqL.of h6, rfl, (by show 2 ≤ sizeLine; decide), fun t5 nt5 => ?_⟩
    have u6 : Same H6 (upd H6 t5 (.tup [.str n1, .int 3])) := same_new nt5
    have c6 : (upd H6 t5 (.tup [.str n1, .int 3])) t5 = some (.tup [.str n1, .int 3]) := upd_same
    generalize upd H6 t5 (.tup [.str n1, .int 3]) = H7 at u6 c6 ⊢
    have s7 := s6.same u6
    have f5 : Off a r H7 t5 = some (.tup [.str n1, .int 3]) := by rw [off_of (s6.ne nt5).1 (s6.ne nt5).2]; exact c6
    refine ⟨(by show 5 ≤ sizeLine; decide), fun tl nl => ?_⟩
    have u7 : Same H7 (upd H7 tl (.lst [.ref t1, .ref t2, .ref t3, .ref t4, .ref t5])) := same_new nl
    have c7 : (upd H7 tl (.lst [.ref t1, .ref t2, .ref t3, .ref t4, .ref t5])) tl = some (.lst [.ref t1, .ref t2, .ref t3, .ref t4, .ref t5]) := upd_same
    generalize upd H7 tl (.lst [.ref t1, .ref t2, .ref t3, .ref t4, .ref t5]) = H8 at u7 c7 ⊢
    have s8 := s7.same u7
    have f6 : Off a r H8 tl = some (.lst [.ref t1, .ref t2, .ref t3, .ref t4, .ref t5]) := by rw [off_of (s7.ne nl).1 (s7.ne nl).2]; exact c7
    have k7 : Kp a r H7 H8 := Kp.of u7
    have k6 : Kp a r H6 H8 := (Kp.of u6).trans k7
    have k5 : Kp a r H5 H8 := (Kp.of u5).trans k6
    have k3 : Kp a r H3 H8 := (k4.trans (Kp.of u4)).trans k5
    have k2 : Kp a r H2 H8 := (Kp.of u2).trans k3
    have k08 : Kp a r H H8 := (k1.trans (Kp.of u1)).trans k2
    -- the constants and the variables
    refine ⟨_, rfl, _, rfl, a, r, m + 156, 4, rfl, by decide, s8, fun pc C H9 lC nmC ndC npc h9 s9 k9 => ?_⟩
    have f7 : Off a r H9 pc = some (.lst (C.map V.str)) := by rw [off_of (s8.ne npc).1 (s8.ne npc).2]; exact h9
    refine ⟨_, rfl, a, r, m, 12, rfl, by decide, s9, fun pw W H10 lW nmW ndW npw h10 s10 k10 => ?_⟩
    refine ⟨pw, rfl, ⟨_, SqL.of h10⟩, fun D nD => ?_⟩
    have zD := s10.ne nD
    refine lc_list (K := K) (a := pw) (xs := W.map V.str) (fun j H6 => Same H10 H6 ∧ H6 D = some (.lst (((W.take j).map fun y => Str.ofString "?" ++ y).map V.str)))
      ⟨same_new nD, upd_same⟩ (fun j H6 _ h6 => h6.1.seq (SqL.of h10)) ?_ ?_
    · rintro j v H11 hj ⟨s11, hD⟩
      rw [List.getElem?_map] at hj
      cases eb : W[j]? with
      | none =>
        rw [eb] at hj
        cases hj
      | some q =>
        rw [eb] at hj
        cases hj
        refine ⟨rfl, ?_⟩
        dsimp only [tYes]
        rw [if_pos rfl]
        have lq := (nm_sgns (nmW q (List.mem_of_getElem? eb))).2.1
        rw [length_toList] at lq
        refine ⟨_, rfl, _, _, rfl, rfl, ?_, _, hD, ?_, fun b o e => ?_, ?_⟩
        · have e : (Str.ofString "?").length = 1 := by decide +kernel
          rw [e, sizeLine_eq]
          omega
        · rw [List.length_map, List.length_map, List.length_take, sizeLine_eq]
          omega
        · rw [upd_ne (ne_of_none e nD)]
          exact s11 b o e
        · rw [upd_same, List.take_add_one, eb]
          simp
    · rintro H11 ⟨s11, hD⟩
      rw [List.length_map, List.take_length] at hD
      refine ⟨(by show 3 ≤ sizeLine; decide), fun p np => ?_⟩
      have s11' := s10.same s11
      have u12 : Same H11 (upd H11 p (.tup [.ref tl, .ref pc, .ref D])) := same_new np
      have c12 : (upd H11 p (.tup [.ref tl, .ref pc, .ref D])) p = some (.tup [.ref tl, .ref pc, .ref D]) := upd_same
      generalize upd H11 p (.tup [.ref tl, .ref pc, .ref D]) = H12 at u12 c12 ⊢
      have k11 : Kp a r H10 H12 := (Kp.of s11).trans (Kp.of u12)
      have k912 : Kp a r H9 H12 := k10.trans k11
      have k812 : Kp a r H8 H12 := k9.trans k912
      refine k p ⟨[(t1, n0, 1), (t2, n1, 2), (t3, n2, j), (t4, n0, 2), (t5, n1, 3)], C, W.map fun y => Str.ofString "?" ++ y⟩ H12 ⟨tl, pc, D, ?_, k812 _ _ f6, k912 _ _ f7, ?_, ?_⟩ ⟨rfl, lC, by rw [List.length_map]; exact lW, ?_, nmC, ?_, ndC, ?_⟩ ((s11'.same u12).mono (by omega)) (k08.trans k812)
      · rw [off_of (s11'.ne np).1 (s11'.ne np).2]
        exact c12
      · rw [off_of zD.1 zD.2]
        exact u12 _ _ hD
      · intro x hx
        simp only [List.mem_cons, List.not_mem_nil, or_false] at hx
        rcases hx with rfl | rfl | rfl | rfl | rfl
        · exact k812 _ _ (k2 _ _ f1)
        · exact k812 _ _ (k3 _ _ f2)
        · exact k812 _ _ (k5 _ _ f3)
        · exact k812 _ _ (k6 _ _ f4)
        · exact k812 _ _ (k7 _ _ f5)
      · have m0 := nmL n0 (by simp)
        have m1 := nmL n1 (by simp)
        have m2 := nmL n2 (by simp)
        intro x hx
        simp only [List.mem_cons, List.not_mem_nil, or_false] at hx
        rcases hx with rfl | rfl | rfl | rfl | rfl
        · exact ⟨m0, Nat.le_of_ble_eq_true rfl⟩
        · exact ⟨m1, Nat.le_of_ble_eq_true rfl⟩
        · exact ⟨m2, by show j ≤ 3; omega⟩
        · exact ⟨m0, Nat.le_of_ble_eq_true rfl⟩
        · exact ⟨m1, Nat.le_of_ble_eq_true rfl⟩
      · intro z hz
        obtain ⟨y, hy, rfl⟩ := List.mem_map.mp hz
        exact ⟨y, nmW y hy, rfl⟩
      · refine List.pairwise_map.mpr (ndW.imp fun {x y} n e => n (tl_inj ?_))
        have := congrArg tl' e
        simpa [tl', tl_append] using this
abbrev nPat3 : List Str := ["_law_pool_here", "_law_world_here", "_law_own", "_law_table", "_law_size", "_law_terms", "_law_k"]
abbrev pPat3 : List Str := ["_law_pool_here", "_law_world_here", "_law_own"]
theorem scPat3 : FnScope nPat3 pPat3 (defScope sPat3) := ⟨rfl, rfl, rfl, by decide +kernel, rfl, by decide +kernel, by decide +kernel⟩
theorem ok_pat3 {f fD : Addr} {fd fdD : FuncData} (F : Fun K "_law_pattern" "_law_pattern" sPat3 f fd)
    (GD : FnOk P w K mg base CX0 1 fD fdD ["_law_pool_here", "_law_limit"] spDraw3) (kD : PySem.W.keepIn K (.ref fD) = true) (bD : Binds K fdD ["_law_pool_here", "_law_limit"] []) (mD : mg "_law_draw" = some (.ref fD))
    (ml : mg "len" = none) (mr : mg "range" = none) (mt : mg "tuple" = none) : FnOk P w K mg base CX0 2 f fd pPat3 (spPat3 K) := by
  refine F.ok scPat3 (fun vs H Q E h => ?_) (fun cdv A outer s H vs Q E hr h => ?_)
  · obtain ⟨a, r, p, q, m, ω, O, rfl, _⟩ := h
    rfl
  · obtain ⟨a, r, p, q, m, ω, O, rfl, hs, hw, ok, hO, lO, nO, k⟩ := h
    have hr1 : Room 1 _ := hr.mono (by decide)
    have hu := hr.units
    refine ⟨_, pss_cons (ps_asg (pe_ix ix_list (pe_ix ix_tup (pv 1) pe_int (fun _ _ => rfl)) (pe_call GD hr1 (by rfl) mD kD bD .nil pass0 (pa_cons (pv 0) (pa_cons pe_int pa_nil))) (fun _ _ => rfl))
        (pg_tup (by rfl) (pgs_cons (pg_name (i := 3) scPat3.nd rfl (Or.inl rfl)) (pgs_cons (pg_name (i := 4) scPat3.nd rfl (Or.inl rfl)) pgs_nil))))
      (pss_cons (ps_set (i := 5) scPat3.nd rfl (Or.inl rfl) (pe_lst pa_nil))
      (pss_cons (ps_for PassesOwn.never rfl (pi_range1 (by rfl) mr (pa_cons (pv 4) pa_nil)) (pg_name (i := 6) scPat3.nd rfl (Or.inl rfl))
        (pss_one (ps_if (PW.pt (pw_and (pt_cmpR (L2.LstNo.op_neNilK (K := K) rfl hu) (pv 2) (pe_lst pa_nil) (nomark _)) (pw_and1 (pt_cmpR op_gt (pe_call GD hr1 (by rfl) mD kD bD .nil pass0 (pa_cons (pv 0) (pa_cons pe_int pa_nil))) pe_int (nomark _)))))
          (pss_one (ps_expr (pe_bm PySem.F.plainAttrs_list PySem.F.slot_list_append PySem.F.type_list_append mt_append (pv 5) (pa_cons (pe_ix ix_list (pv 2) (pe_call GD hr1 (by rfl) mD kD bD .nil pass0 (pa_cons (pv 0) (pa_cons (pe_callB call_len_seq (by rfl) ml (by decide +kernel) (pa_cons (pv 2) pa_nil)) pa_nil))) (fun _ _ => rfl)) pa_nil))))
          (pss_one (ps_expr (pe_bm PySem.F.plainAttrs_list PySem.F.slot_list_append PySem.F.type_list_append mt_append (pv 5) (pa_cons (pe_ix ix_list (pe_ix ix_tup (pv 1) pe_int (fun _ _ => rfl)) (pe_call GD hr1 (by rfl) mD kD bD .nil pass0 (pa_cons (pv 0) (pa_cons pe_int pa_nil))) (fun _ _ => rfl)) pa_nil)))))))
      (pss_one (ps_ret (pe_op op_catB (pe_tup (pa_cons (pv 3) pa_nil)) (pe_callTy call_tuple_of (by rfl) mt (by decide +kernel) (pa_cons (pv 5) pa_nil))))))), ?_⟩
    obtain ⟨t, c, v, h1, h2, h3, h4, h5⟩ := hw
    refine ⟨_, rfl, p, _, 0, _, rfl, rfl, SqT.of (off_le _ _ h1), rfl, _, rfl, a, r, m + 6, 5, rfl, hs, by decide, by decide, fun x H1 x0 x1 s1 k1 => ?_⟩
    obtain ⟨j, rfl⟩ : ∃ j : Nat, x = j := ⟨x.toNat, by omega⟩
    have hj : j < ω.T.length := by rw [ok.lT]; omega
    have ex : (ω.T.map fun x => V.ref x.1)[j]? = some (.ref ω.T[j].1) := by
      rw [List.getElem?_map, List.getElem?_eq_getElem hj]
      rfl
    have mx : ω.T[j] ∈ ω.T := List.getElem_mem hj
    obtain ⟨nT, l3⟩ := ok.nT _ mx
    have hx := h5 _ mx
    generalize ω.T[j] = y at ex mx nT l3 hx
    refine ⟨t, _, _, _, rfl, rfl, SqL.of (off_le _ _ (k1 _ _ h2)), atI_nat ex, _, _, rfl, SqT.of (off_le _ _ (k1 _ _ hx)), rfl, _, _, rfl, _, _, rfl, rfl, ?_⟩
    refine ⟨(by show 0 ≤ sizeLine; decide), fun D nD => ?_⟩
    have zD := s1.ne nD
    refine ⟨_, rfl, _, rfl, by omega, by omega, for_range (lo := 0) (n := ((y.2.2 : Nat) : Int).toNat) (fun i σ H3 => ∃ (zs : List Str) (v6 : Option V), σ = [some (.ref a), some (.ref p), some (.ref q), some (.str y.2.1), some (.int (y.2.2 : Nat)), some (.ref D), v6] ∧
      zs.length = i ∧ (∀ z ∈ zs, Nm z ∨ Vr z) ∧ H3 D = some (.lst (zs.map V.str)) ∧ DrwAt a r (m + 2 * (3 - i)) H3 ∧ Kp a r H H3)
      ⟨[], none, rfl, rfl, fun _ z => (by cases z), upd_same, (s1.same (same_new nD)).mono (by omega), k1.trans (Kp.of (same_new nD))⟩ ?_ ?_⟩
    · rintro i σ H3 hi ⟨zs, v6, rfl, lz, hz, hD, s3, k3⟩
      rw [Int.toNat_natCast] at hi
      have add : ∀ (z : Str) (H6 : Hp), Kp a r H H6 → H6 D = some (.lst (zs.map V.str)) → DrwAt a r (m + 2 * (3 - (i + 1))) H6 → Nm z ∨ Vr z → ∃ (zs' : List Str) (v6 : Option V), [some (V.ref a), some (.ref p), some (.ref q), some (.str y.2.1), some (.int (y.2.2 : Nat)), some (.ref D), some (V.int (0 + (i : Int)))] = [some (.ref a), some (.ref p), some (.ref q), some (.str y.2.1), some (.int (y.2.2 : Nat)), some (.ref D), v6] ∧
          zs'.length = i + 1 ∧ (∀ z ∈ zs', Nm z ∨ Vr z) ∧ (upd H6 D (.lst (zs.map V.str ++ [V.str z]))) D = some (.lst (zs'.map V.str)) ∧ DrwAt a r (m + 2 * (3 - (i + 1))) (upd H6 D (.lst (zs.map V.str ++ [V.str z]))) ∧ Kp a r H (upd H6 D (.lst (zs.map V.str ++ [V.str z]))) := by
        intro z H6 k6 hD6 s6 oz
        refine ⟨zs ++ [z], _, rfl, by simp [lz], fun y hy => ?_, by rw [upd_same]; simp, s6.upd (H0 := H) zD.1 zD.2, ?_⟩
        · rcases List.mem_append.mp hy with hy | hy
          · exact hz y hy
          · have e : y = z := by simpa using hy
            rw [e]
            exact oz
        · intro b o e
          have q := k6 _ _ e
          obtain ⟨e1, na, nr⟩ := off_some e
          rw [off_of na nr] at q ⊢
          have q1 := kp_at k1 e1 na nr
          rw [upd_ne (ne_of_none q1 nD)]
          exact q
      have few : (zs.map V.str).length < sizeLine := by
        rw [List.length_map, lz, sizeLine_eq]
        omega
      have hq3 := off_le _ _ (k3 _ _ hO)
      refine ⟨_, rfl, (by show 0 ≤ sizeLine; decide), fun e ne => ?_⟩
      have u4 : Same H3 (upd H3 e (.lst [])) := same_new ne
      have c4 : (upd H3 e (.lst [])) e = some (.lst []) := upd_same
      generalize upd H3 e (.lst []) = H4 at u4 c4 ⊢
      have s4 := s3.same u4
      have k4 : Kp a r H H4 := k3.trans (Kp.of u4)
      have hD4 := u4 _ _ hD
      have hq4 := u4 _ _ hq3
      refine ⟨q, e, _, rfl, rfl, SqL.of hq4, SqL.of c4, _, rfl, ?_⟩
      have s4' : DrwAt a r (m + 2 * (3 - (i + 1)) + 1 + 1) H4 := s4.mono (by omega)
      refine ite2 (fun hO0 => ?_) (fun hO0 => ?_)
      · refine ⟨_, rfl, a, r, m + 2 * (3 - (i + 1)) + 1, 5, rfl, s4', by decide, by decide, fun x2 H5 x20 x21 s5 k45 => ?_⟩
        have hD5 := kp_at k45 hD4 zD.1 zD.2
        have k5 := k4.trans k45
        refine ⟨_, _, rfl, rfl, _, rfl, ?_⟩
        refine ite2 (fun h0 => ?_) (fun h0 => ?els)
        · have hq5 := off_le _ _ (k5 _ _ hO)
          have l0 : 0 < O.length := by
            cases O with
            | nil => exact absurd hO0 (by decide)
            | cons z O => exact Nat.succ_pos _
          refine ⟨_, rfl, .inl ⟨rfl, _, .inl (.inl hD5)⟩, _, rfl, _, rfl, _, rfl, q, _, rfl, .inl (SqL.of hq5), ?_⟩
          refine ⟨a, r, m + 2 * (3 - (i + 1)), _, rfl, s5, by rw [List.length_map]; omega, by rw [List.length_map]; omega, fun x3 H6 x30 x31 s6 k56 => ?_⟩
          rw [List.length_map] at x31
          obtain ⟨j3, rfl⟩ : ∃ j : Nat, x3 = j := ⟨x3.toNat, by omega⟩
          have hj3 : j3 < O.length := by omega
          have k6 := k5.trans k56
          refine ⟨q, _, _, .str O[j3], rfl, rfl, SqL.of (off_le _ _ (k6 _ _ hO)), atI_nat (strs_get hj3), D, _, _, rfl, rfl, kp_at k56 hD5 zD.1 zD.2, few, ?_⟩
          exact add _ H6 k6 (kp_at k56 hD5 zD.1 zD.2) s6 (.inr (nO _ (List.getElem_mem hj3)))
        case els =>
          refine ⟨_, rfl, .inl ⟨rfl, _, .inl (.inl hD5)⟩, _, rfl, p, _, 1, _, rfl, rfl, SqT.of (off_le _ _ (k5 _ _ h1)), rfl, _, rfl, a, r, m + 2 * (3 - (i + 1)), 4, rfl, s5, by decide, by decide, fun x3 H6 x30 x31 s6 k56 => ?_⟩
          obtain ⟨j3, rfl⟩ : ∃ j : Nat, x3 = j := ⟨x3.toNat, by omega⟩
          have hj3 : j3 < ω.C.length := by rw [ok.lC]; omega
          have k6 := k5.trans k56
          refine ⟨c, _, _, .str ω.C[j3], rfl, rfl, SqL.of (off_le _ _ (k6 _ _ h3)), atI_nat (strs_get hj3), D, _, _, rfl, rfl, kp_at k56 hD5 zD.1 zD.2, few, ?_⟩
          exact add _ H6 k6 (kp_at k56 hD5 zD.1 zD.2) s6 (.inl (ok.nC _ (List.getElem_mem hj3)))
      · have s5 : DrwAt a r (m + 2 * (3 - (i + 1)) + 1) H4 := s4'.mono (by omega)
        refine ⟨_, rfl, .inl ⟨rfl, _, .inl (.inl hD4)⟩, _, rfl, p, _, 1, _, rfl, rfl, SqT.of (off_le _ _ (k4 _ _ h1)), rfl, _, rfl, a, r, m + 2 * (3 - (i + 1)), 4, rfl, s5, by decide, by decide, fun x3 H6 x30 x31 s6 k56 => ?_⟩
        obtain ⟨j3, rfl⟩ : ∃ j : Nat, x3 = j := ⟨x3.toNat, by omega⟩
        have hj3 : j3 < ω.C.length := by rw [ok.lC]; omega
        have k6 := k4.trans k56
        refine ⟨c, _, _, .str ω.C[j3], rfl, rfl, SqL.of (off_le _ _ (k6 _ _ h3)), atI_nat (strs_get hj3), D, _, _, rfl, rfl, kp_at k56 hD4 zD.1 zD.2, few, ?_⟩
        exact add _ H6 k6 (kp_at k56 hD4 zD.1 zD.2) s6 (.inl (ok.nC _ (List.getElem_mem hj3)))
    · rintro σ H3 ⟨zs, v6, rfl, lz, hz, hD, s3, k3⟩
      rw [Int.toNat_natCast] at lz
      refine ⟨_, rfl, (by show 1 ≤ sizeLine; decide), fun p1 np1 => ?_⟩
      have u4 : Same H3 (upd H3 p1 (.tup [.str y.2.1])) := same_new np1
      have c4 : (upd H3 p1 (.tup [.str y.2.1])) p1 = some (.tup [.str y.2.1]) := upd_same
      generalize upd H3 p1 (.tup [.str y.2.1]) = H4 at u4 c4 ⊢
      refine ⟨_, rfl, D, _, rfl, .inl ⟨SqL.of (u4 _ _ hD), fun p2 np2 => ?_⟩⟩
      have c4' := c4
      have u5 : Same H4 (upd H4 p2 (.tup (zs.map V.str))) := same_new np2
      have c5 : (upd H4 p2 (.tup (zs.map V.str))) p2 = some (.tup (zs.map V.str)) := upd_same
      generalize upd H4 p2 (.tup (zs.map V.str)) = H5 at u5 c5 ⊢
      refine ⟨p1, p2, _, _, rfl, rfl, u5 _ _ c4, c5, ?_, fun p3 H6 s6 c6 n3 => ?_⟩
      · rw [List.length_map, lz, sizeLine_eq]
        show 1 + _ ≤ _
        omega
      · have s4 := s3.same u4
        have s5 := s4.same u5
        have z3 : p3 ≠ a ∧ p3 ≠ r := by
          rcases n3 with rfl | rfl | n3
          · exact s3.ne np1
          · exact s4.ne np2
          · exact s5.ne n3
        have n3' : H3 p3 = none := by
          rcases n3 with rfl | rfl | n3
          · exact np1
          · exact none_of u4 np2
          · exact none_of (u4.trans u5) n3
        refine k p3 _ zs H6 (by rw [off_of z3.1 z3.2]; exact c6) (kp_none k3 n3' z3.1 z3.2) ⟨nT, by omega, hz⟩ ((s5.same s6).mono (by omega)) (((k3.trans (Kp.of u4)).trans (Kp.of u5)).trans (Kp.of s6))
end
end L2.LawH
set_option Elab.async false
set_option linter.all false
set_option maxRecDepth 100000
set_option maxHeartbeats 4000000
/-! Shapes of forms. -/
namespace L2.LawH
open PySem PySem.Spec PyProof.Rows TL
open Builtin.Int (intBits)
abbrev sShp : Stmt := top 27
inductive Shp where
  | lot (xs : List Pt)
  | node (s : Str) (l r : Shp)
def Shp.lvs : Shp → Nat
  | .lot _ => 1
  | .node _ l r => l.lvs + r.lvs
theorem Shp.lvs_pos : ∀ τ : Shp, 1 ≤ τ.lvs
  | .lot _ => Nat.le_refl _
  | .node _ l r => Nat.le_trans l.lvs_pos (Nat.le_add_right _ _)
abbrev optS : Str := Str.ofString "opt"
abbrev andS : Str := Str.ofString "&"
abbrev orS : Str := Str.ofString "|"
abbrev lotS : Str := Str.ofString "lot"
def Shp.Ok : Shp → Prop
  | .lot xs => xs.length ≤ 3 ∧ ∀ x ∈ xs, PatG x.2.1 x.2.2
  | .node s l r => (s = optS ∨ s = andS ∨ s = orS) ∧ l.Ok ∧ r.Ok
/-- a shape at p -/
def ShpAt (H : Hp) : Addr → Shp → Prop
  | p, .lot xs => ∃ q, H p = some (.tup [.str lotS, .ref q]) ∧ H q = some (.lst (xs.map fun x => V.ref x.1)) ∧ ∀ x ∈ xs, H x.1 = some (.tup (.str x.2.1 :: x.2.2.map V.str))
  | p, .node s l r => ∃ a b, H p = some (.tup [.str s, .ref a, .ref b]) ∧ ShpAt H a l ∧ ShpAt H b r
theorem ShpAt.same {H H' : Hp} (s : Same H H') : ∀ {p : Addr} (τ : Shp), ShpAt H p τ → ShpAt H' p τ
  | p, .lot xs, ⟨q, h1, h2, h3⟩ => ⟨q, s _ _ h1, s _ _ h2, fun x m => s _ _ (h3 x m)⟩
  | p, .node _ l r, ⟨a, b, h1, h2, h3⟩ => ⟨a, b, s _ _ h1, ShpAt.same s l h2, ShpAt.same s r h3⟩
def spShp (n : Nat) : Sp := fun vs H Q _ => ∃ (a r p : Addr) (m k : Nat) (ω : Wld), vs = [.ref a, .ref p, .int k] ∧ 1 ≤ k ∧ k ≤ n ∧ DrwAt a r (m + (30 * k - 3)) H ∧ WldAt (Off a r H) p ω ∧ WldOk ω ∧
  ∀ (t : Addr) (τ : Shp) (H' : Hp), ShpAt (Off a r H') t τ → τ.Ok → τ.lvs ≤ k → DrwAt a r m H' → Kp a r H H' → Q (.ref t) H'
section
variable {P : Program} {w : World} {K : PySem.W.Frag} {mg : Str → Option Value} {base : Heap}
abbrev nShp : List Str := ["_law_pool_here", "_law_world_here", "_law_most", "_law_own", "_law_k", "_law_first", "_law_sign"]
abbrev pShp : List Str := ["_law_pool_here", "_law_world_here", "_law_most"]
theorem scShp : FnScope nShp pShp (defScope sShp) := ⟨rfl, rfl, rfl, by decide +kernel, rfl, by decide +kernel, by decide +kernel⟩
theorem cutV_take (xs : List V) (k : Int) (h0 : 0 ≤ k) : cutV xs none (some k) = xs.take k.toNat := by
  obtain ⟨j, rfl⟩ : ∃ j : Nat, k = j := ⟨k.toNat, by omega⟩
  unfold cutV
  rw [HT.sIx_none, HT.sIx_nat, Int.toNat_natCast]
  simp [List.take_take]
theorem shp_step {f fD fP : Addr} {fd fdD fdP : FuncData} {n : Nat} (F : Fun K "_law_shape" "_law_shape" sShp f fd) (kF : PySem.W.keepIn K (.ref f) = true) (bF : Binds K fd pShp []) (mF : mg "_law_shape" = some (.ref f))
    (GD : FnOk P w K mg base CX0 1 fD fdD ["_law_pool_here", "_law_limit"] spDraw3) (kD : PySem.W.keepIn K (.ref fD) = true) (bD : Binds K fdD ["_law_pool_here", "_law_limit"] []) (mD : mg "_law_draw" = some (.ref fD))
    (GP : FnOk P w K mg base CX0 2 fP fdP pPat3 (spPat3 K)) (kP : PySem.W.keepIn K (.ref fP) = true) (bP : Binds K fdP pPat3 []) (mP : mg "_law_pattern" = some (.ref fP))
    (GS : FnOk P w K mg base CX0 (n + 2) f fd pShp (spShp n))
    (mr : mg "range" = none) : FnOk P w K mg base CX0 (n + 3) f fd pShp (spShp (n + 1)) := by
  refine F.ok scShp (fun vs H Q E h => ?_) (fun cdv A outer s H vs Q E hr h => ?_)
  · obtain ⟨a, r, p, m, k, ω, rfl, _⟩ := h
    rfl
  · obtain ⟨a, r, p, m, kk, ω, rfl, k1, k2, hs, hw, ok, k⟩ := h
    have hr1 : Room 1 _ := hr.mono (by omega)
    have hr2 : Room 2 _ := hr.mono (by omega)
    have hrn : Room (n + 2) _ := hr.mono (by omega)
    refine ⟨_, pss_cons (ps_if (PW.pt (pw_or (pt_cmpR op_lt (pv 2) pe_int (nomark _)) (pw_or1 (pt_cmpR op_eq (pe_call GD hr1 (by rfl) mD kD bD .nil pass0 (pa_cons (pv 0) (pa_cons pe_int pa_nil))) pe_int (nomark _)))))
        (pss_cons (ps_set (i := 3) scShp.nd rfl (Or.inr rfl) (pe_slice sl_list (pe_ix ix_tup (pv 1) pe_int (fun _ _ => rfl)) po_none (po_some (pe_op op_add pe_int (pe_call GD hr1 (by rfl) mD kD bD .nil pass0 (pa_cons (pv 0) (pa_cons pe_int pa_nil)))))))
        (pss_one (ps_ret (pe_tup (pa_cons pe_str (pa_cons (pe_lc (own := [("_law_k", 4)]) (g := gName 4) (tt := tYes) rfl scShp.nd
            (pi_range1 (by rfl) mr (pa_cons (pe_ix ix_list (pe_lst (pa_cons pe_int (pa_cons pe_int (pa_cons pe_int (pa_cons pe_int (pa_cons pe_int pa_nil)))))) (pe_call GD hr1 (by rfl) mD kD bD .nil pass0 (pa_cons (pv 0) (pa_cons pe_int pa_nil))) (fun _ _ => rfl)) pa_nil))
          (blkOk_by (own := [("_law_k", 4)]) (N := nShp) (sc := defScope sShp) (by decide +kernel)) (fun _ _ _ _ _ => pg_name (i := 4) scShp.nd rfl (Or.inl rfl)) (fun _ _ _ _ _ => pts_nil)
          (fun _ _ _ _ _ => pe_call GP hr2 (by rfl) mP kP bP .nil pass0 (pa_cons (pv 0) (pa_cons (pv 1) (pa_cons (pv 3) pa_nil))))) pa_nil)))))) pss_nil)
      (pss_cons (ps_set (i := 5) scShp.nd rfl (Or.inl rfl) (pe_op op_add pe_int (pe_call GD hr1 (by rfl) mD kD bD .nil pass0 (pa_cons (pv 0) (pa_cons (pe_op op_sub (pv 2) pe_int) pa_nil)))))
      (pss_cons (ps_set (i := 6) scShp.nd rfl (Or.inl rfl) (pe_ix ix_list (pe_lst (pa_cons pe_str (pa_cons pe_str (pa_cons pe_str (pa_cons pe_str pa_nil))))) (pe_call GD hr1 (by rfl) mD kD bD .nil pass0 (pa_cons (pv 0) (pa_cons pe_int pa_nil))) (fun _ _ => rfl)))
      (pss_one (ps_ret (pe_tup (pa_cons (pv 6) (pa_cons (pe_call GS hrn (by rfl) mF kF bF .nil pass0 (pa_cons (pv 0) (pa_cons (pv 1) (pa_cons (pv 5) pa_nil))))
        (pa_cons (pe_call GS hrn (by rfl) mF kF bF .nil pass0 (pa_cons (pv 0) (pa_cons (pv 1) (pa_cons (pe_op op_sub (pv 2) (pv 5)) pa_nil)))) pa_nil)))))))), ?_⟩
    have hs0 : DrwAt a r (m + (30 * kk - 4) + 1) H := hs.mono (by omega)
    refine ⟨_, rfl, _, _, rfl, rfl, _, rfl, ?_⟩
    refine ite2 (fun c1 => ?lot1) (fun c1 => ⟨_, rfl, a, r, m + (30 * kk - 4), 5, rfl, hs0, by decide, by decide, fun x H1 x0 x1 s1 kk1 => ⟨rfl, _, rfl, ite2 (fun c2 => ?lot2) (fun c2 => ?node)⟩⟩)
    case node =>
      have klt : m + (30 * kk - 4) ≤ 1000000 := by
        obtain ⟨_, _, _, _, _, _, b, _⟩ := s1
        omega
      have kk2 : 2 ≤ kk := by
        by_cases z : (kk : Int) < 2
        · exact absurd (decide_eq_true z) c1
        · omega
      refine ⟨_, rfl, _, rfl, _, _, rfl, rfl, a, r, m + (30 * kk - 5), _, rfl, s1.mono (by omega), by omega, by omega, fun y H2 y0 y1 s2 k2 => ?_⟩
      obtain ⟨j, rfl⟩ : ∃ j : Nat, y = j := ⟨y.toNat, by omega⟩
      refine ⟨_, _, rfl, rfl, ?_⟩
      have ej : (1 + (j : Int)) = ((j + 1 : Nat) : Int) := by omega
      dsimp only
      rw [ej]
      refine ⟨(by show 4 ≤ sizeLine; decide), fun p1 n1 => ?_⟩
      have z1 := s2.ne n1
      have u3 : Same H2 (upd H2 p1 (.lst [V.str optS, V.str andS, V.str orS, V.str optS])) := same_new n1
      have c3 : (upd H2 p1 (.lst [V.str optS, V.str andS, V.str orS, V.str optS])) p1 = some (.lst [V.str optS, V.str andS, V.str orS, V.str optS]) := upd_same
      generalize upd H2 p1 (.lst [V.str optS, V.str andS, V.str orS, V.str optS]) = H3 at u3 c3 ⊢
      refine ⟨_, rfl, a, r, m + (30 * kk - 6), 4, rfl, (s2.same u3).mono (by omega), by decide, by decide, fun y2 H4 y20 y21 s4 k4 => ?_⟩
      have sign : ∃ sg : Str, atI [V.str optS, V.str andS, V.str orS, V.str optS] y2 = some (.str sg) ∧ (sg = optS ∨ sg = andS ∨ sg = orS) := by
        obtain ⟨j, rfl⟩ : ∃ j : Nat, y2 = j := ⟨y2.toNat, by omega⟩
        have hj : j = 0 ∨ j = 1 ∨ j = 2 ∨ j = 3 := by omega
        rcases hj with rfl | rfl | rfl | rfl
        · exact ⟨_, atI_nat (j := 0) rfl, .inl rfl⟩
        · exact ⟨_, atI_nat (j := 1) rfl, .inr (.inl rfl)⟩
        · exact ⟨_, atI_nat (j := 2) rfl, .inr (.inr rfl)⟩
        · exact ⟨_, atI_nat (j := 3) rfl, .inl rfl⟩
      obtain ⟨sg, esg, hsg⟩ := sign
      refine ⟨p1, _, _, _, rfl, rfl, SqL.of (kp_at k4 c3 z1.1 z1.2), esg, ?_⟩
      have k04 := ((kk1.trans k2).trans (Kp.of u3)).trans k4
      refine ⟨_, rfl, _, rfl, _, rfl, _, rfl, a, r, p, m + (30 * (kk - (j + 1)) - 3), j + 1, ω, rfl, by omega, by omega, s4.mono (by omega), hw.same k04, ok, fun t1 τ1 H5 g1 o1 l1 s5 k5 => ?_⟩
      have ek : ((kk : Int) - ((j + 1 : Nat) : Int)) = ((kk - (j + 1) : Nat) : Int) := by omega
      refine ⟨_, rfl, _, rfl, _, rfl, _, rfl, _, _, rfl, rfl, ?_⟩
      dsimp only
      rw [ek]
      refine ⟨a, r, p, m, kk - (j + 1), ω, rfl, by omega, by omega, s5, hw.same (k04.trans k5), ok, fun t2 τ2 H6 g2 o2 l2 s6 k6 => ?_⟩
      refine ⟨(by show 3 ≤ sizeLine; decide), fun q nq => ?_⟩
      have zq := s6.ne nq
      have u7 : Same H6 (upd H6 q (.tup [.str sg, .ref t1, .ref t2])) := same_new nq
      have c7 : (upd H6 q (.tup [.str sg, .ref t1, .ref t2])) q = some (.tup [.str sg, .ref t1, .ref t2]) := upd_same
      generalize upd H6 q (.tup [.str sg, .ref t1, .ref t2]) = H7 at u7 c7 ⊢
      refine k q (.node sg τ1 τ2) H7 ⟨t1, t2, ?_, ShpAt.same (k6.trans (Kp.of u7)) _ g1, ShpAt.same (Kp.of u7) _ g2⟩ ⟨hsg, o1, o2⟩ (by show τ1.lvs + τ2.lvs ≤ kk; omega) (s6.same u7) ((k04.trans k5).trans (k6.trans (Kp.of u7)))
      rw [off_of zq.1 zq.2]
      exact c7
    case' lot1 =>
      have s2 : DrwAt a r (m + 23) H := hs0.mono (by omega)
      have kk1 : Kp a r H H := Kp.rfl
    case' lot2 =>
      have s2 : DrwAt a r (m + 23) H1 := s1.mono (by omega)
    all_goals
      obtain ⟨t, c, v, h1, h2, h3, h4, h5⟩ := id hw
      refine ⟨_, rfl, p, _, 2, _, rfl, rfl, SqT.of (off_le _ _ (kk1 _ _ h1)), rfl, _, rfl, a, r, m + 22, 3, rfl, s2, by decide, by decide, fun y H2 y0 y1 s3 k3 => ?_⟩
      refine ⟨_, _, rfl, rfl, _, rfl, ?_⟩
      have k03 := kk1.trans k3
      refine ⟨v, _, rfl, SqL.of (off_le _ _ (k03 _ _ h4)), fun u nu => ?_⟩
      rw [cutV_take _ _ (by omega), ← List.map_take]
      generalize hO : ω.W.take (2 + y).toNat = O
      have nO : ∀ z ∈ O, Vr z := fun z hz => ok.nW z (by rw [← hO] at hz; exact List.mem_of_mem_take hz)
      have lO : O.length ≤ 1000 := by
        rw [← hO, List.length_take, ok.lW]
        omega
      have u3 : Same H2 (upd H2 u (.lst (O.map V.str))) := same_new nu
      have c3 : (upd H2 u (.lst (O.map V.str))) u = some (.lst (O.map V.str)) := upd_same
      generalize upd H2 u (.lst (O.map V.str)) = H3 at u3 c3 ⊢
      have f3 : Off a r H3 u = some (.lst (O.map V.str)) := by
        rw [off_of (s3.ne nu).1 (s3.ne nu).2]
        exact c3
      have s4 := s3.same u3
      have k04 : Kp a r H H3 := k03.trans (Kp.of u3)
      refine ⟨(by show 5 ≤ sizeLine; decide), fun p1 n1 => ?_⟩
      have z1 := s4.ne n1
      have u4 : Same H3 (upd H3 p1 (.lst [V.int 1, V.int 1, V.int 2, V.int 0, V.int 3])) := same_new n1
      have c4 : (upd H3 p1 (.lst [V.int 1, V.int 1, V.int 2, V.int 0, V.int 3])) p1 = some (.lst [V.int 1, V.int 1, V.int 2, V.int 0, V.int 3]) := upd_same
      generalize upd H3 p1 (.lst [V.int 1, V.int 1, V.int 2, V.int 0, V.int 3]) = H4 at u4 c4 ⊢
      refine ⟨_, rfl, a, r, m + 21, 5, rfl, s4.same u4, by decide, by decide, fun y2 H5 y20 y21 s5 k5 => ?_⟩
      have size : ∃ sz : Nat, atI [V.int 1, V.int 1, V.int 2, V.int 0, V.int 3] y2 = some (.int sz) ∧ sz ≤ 3 := by
        obtain ⟨j, rfl⟩ : ∃ j : Nat, y2 = j := ⟨y2.toNat, by omega⟩
        have hj : j = 0 ∨ j = 1 ∨ j = 2 ∨ j = 3 ∨ j = 4 := by omega
        rcases hj with rfl | rfl | rfl | rfl | rfl
        · exact ⟨1, atI_nat (j := 0) rfl, by decide⟩
        · exact ⟨1, atI_nat (j := 1) rfl, by decide⟩
        · exact ⟨2, atI_nat (j := 2) rfl, by decide⟩
        · exact ⟨0, atI_nat (j := 3) rfl, by decide⟩
        · exact ⟨3, atI_nat (j := 4) rfl, by decide⟩
      obtain ⟨sz, esz, hsz⟩ := size
      refine ⟨p1, _, _, _, rfl, rfl, SqL.of (kp_at k5 c4 z1.1 z1.2), esz, ?_⟩
      have k45 : Kp a r H3 H5 := (Kp.of u4).trans k5
      refine ⟨_, rfl, by omega, by omega, fun D nD => ?_⟩
      rw [Int.toNat_natCast]
      have zD := s5.ne nD
      have k05 := k04.trans k45
      have hw5 := hw.same k05
      have fu5 := k45 _ _ f3
      refine lc_range (lo := 0) (n := sz) (fun i H6 => ∃ xs : List Pt, xs.length = i ∧ H6 D = some (.lst (xs.map fun x => V.ref x.1)) ∧ (∀ x ∈ xs, Off a r H6 x.1 = some (.tup (.str x.2.1 :: x.2.2.map V.str)) ∧ PatG x.2.1 x.2.2 ∧ x.1 ≠ D) ∧ DrwAt a r (m + 7 * (3 - i)) H6 ∧ Kp a r H5 H6)
        ⟨[], rfl, upd_same, fun _ z => (by cases z), (s5.same (same_new nD)).mono (by omega), Kp.of (same_new nD)⟩ ?_ ?_
      · rintro i H6 hi ⟨xs, lx, hD, hx, s6, k6⟩
        refine ⟨rfl, ?_⟩
        dsimp only [tYes]
        rw [if_pos rfl]
        have s6' : DrwAt a r (m + 7 * (3 - (i + 1)) + 7) H6 := s6.mono (by omega)
        refine ⟨_, rfl, _, rfl, _, rfl, a, r, p, u, m + 7 * (3 - (i + 1)), ω, O, rfl, s6', hw5.same k6, ok, k6 _ _ fu5, lO, nO, fun t T zs H7 ht nt pg s7 k7 => ?_⟩
        have hD7 := kp_at k7 hD zD.1 zD.2
        have tD : t ≠ D := fun e => by
          rw [e, hD] at nt
          cases nt
        have up : ∀ (b : Addr) (o : HO), b ≠ D → Off a r H7 b = some o → Off a r (upd H7 D (.lst (xs.map (fun x => V.ref x.1) ++ [V.ref t]))) b = some o := fun b o nb e => by
          obtain ⟨e1, na, nr⟩ := off_some e
          rw [off_of na nr, upd_ne nb]
          exact e1
        refine ⟨_, hD7, ?_, xs ++ [(t, T, zs)], by simp [lx], by rw [upd_same]; simp, fun y hy => ?_, s7.upd (H0 := H) zD.1 zD.2, kp_upd_new (k6.trans k7) nD⟩
        · rw [List.length_map, lx, sizeLine_eq]
          omega
        · rcases List.mem_append.mp hy with hy | hy
          · obtain ⟨h1, h2, h3⟩ := hx y hy
            exact ⟨up _ _ h3 (k7 _ _ h1), h2, h3⟩
          · have e : y = (t, T, zs) := by simpa using hy
            rw [e]
            exact ⟨up _ _ tD ht, pg, tD⟩
      · rintro H6 ⟨xs, lx, hD, hx, s6, k6⟩
        refine ⟨(by show 2 ≤ sizeLine; decide), fun q nq => ?_⟩
        have zq := s6.ne nq
        have u7 : Same H6 (upd H6 q (.tup [.str lotS, .ref D])) := same_new nq
        have c7 : (upd H6 q (.tup [.str lotS, .ref D])) q = some (.tup [.str lotS, .ref D]) := upd_same
        generalize upd H6 q (.tup [.str lotS, .ref D]) = H7 at u7 c7 ⊢
        refine k q (.lot xs) H7 ⟨D, ?_, ?_, fun x m => Kp.of u7 _ _ (hx x m).1⟩ ⟨by omega, fun x m => (hx x m).2.1⟩ k1 ((s6.same u7).mono (by omega)) ((k05.trans k6).trans (Kp.of u7))
        · rw [off_of zq.1 zq.2]
          exact c7
        · rw [off_of zD.1 zD.2]
          exact u7 _ _ hD
theorem ok_shape {f fD fP : Addr} {fd fdD fdP : FuncData} (F : Fun K "_law_shape" "_law_shape" sShp f fd) (kF : PySem.W.keepIn K (.ref f) = true) (bF : Binds K fd pShp []) (mF : mg "_law_shape" = some (.ref f))
    (GD : FnOk P w K mg base CX0 1 fD fdD ["_law_pool_here", "_law_limit"] spDraw3) (kD : PySem.W.keepIn K (.ref fD) = true) (bD : Binds K fdD ["_law_pool_here", "_law_limit"] []) (mD : mg "_law_draw" = some (.ref fD))
    (GP : FnOk P w K mg base CX0 2 fP fdP pPat3 (spPat3 K)) (kP : PySem.W.keepIn K (.ref fP) = true) (bP : Binds K fdP pPat3 []) (mP : mg "_law_pattern" = some (.ref fP))
    (mr : mg "range" = none) : ∀ n, FnOk P w K mg base CX0 (n + 2) f fd pShp (spShp n)
  | 0 => by
    have no : ∀ vs H Q E, ¬ spShp 0 vs H Q E := fun vs H Q E ⟨_, _, _, _, k, _, _, h1, h2, _⟩ => by omega
    exact ⟨fun vs H Q E h => absurd h (no _ _ _ _), fun A outer s H args us vs Q E hr he hb hv hs => absurd hs (no _ _ _ _)⟩
  | n + 1 => shp_step F kF bF mF GD kD bD mD GP kP bP mP (ok_shape F kF bF mF GD kD bD mD GP kP bP mP mr n) mr
end
end L2.LawH
set_option Elab.async false
set_option linter.all false
set_option maxRecDepth 100000
set_option maxHeartbeats 4000000
/-! Sets whose members are tuples, nested as they may be: what is asked of a member while it is sought and laid. -/
namespace L2.NSet
open PySem PySem.Spec PyProof.Rows
section
variable {P : Program} {w : World}
def ClsAt (P : Program) (w : World) (n : Nat) (s : Shared) (v : Value) : Prop := ∀ (A : Around) (E : Value → Shared → Prop) (Q : Bool → Shared → Prop), Q false s → wpAny (model P w) A (ofAClassStatement n v) Q E s
theorem ClsAt.flat {n : Nat} {s : Shared} {v : Value} (h : ∀ a, v ≠ .ref a) : ClsAt P w n s v := fun A E Q q => by
  have e : ofAClassStatement n v = pure false := by
    cases v with
    | ref a => exact absurd rfl (h a)
    | _ => cases n <;> rfl
  rw [e]
  exact wpAny_pure q
theorem ClsAt.tup {n : Nat} {s : Shared} {a : Addr} {o : Obj} {vs : Array Value} {m : Nat} (ho : s.heap.get? a = some o) (hc : o.cls = .type "tuple") (hd : o.data = .seq vs m) (hq : ∀ v ∈ vs.toList, ClsAt P w n s v) :
    ClsAt P w (n + 1) s (.ref a) := fun A E Q h => by
  unfold ofAClassStatement
  refine wpAny_bind (wpAny_typeOf ⟨o, ho, hc⟩ ?_)
  dsimp only
  have e : (("tuple" : String) == "tuple") = true := by decide
  simp only [e, if_true, Bool.not_true, Bool.false_eq_true, if_false]
  refine wpAny_bind (wpAny_pure ?_)
  simp only [Bool.not_true, Bool.false_eq_true, if_false]
  refine wpAny_bind (wpAny_seqItems ho hd ?_)
  dsimp only
  refine wpAny_bind ?_
  show wpAny _ _ (forIn vs _ _) _ _ s
  rw [← Array.forIn_toList]
  refine wpAny_forIn_list _ (fun rest r s1 => r.1 = none ∧ s1 = s ∧ ∀ v ∈ rest, ClsAt P w n s v) _ (fun v rest r s1 I => ?_) (fun r s1 I => ?_) _ _ ⟨rfl, rfl, hq⟩
  · obtain ⟨i1, rfl, i2⟩ := I
    refine wpAny_bind (i2 v List.mem_cons_self _ _ _ ?_)
    simp only [Bool.false_eq_true, if_false]
    exact wpAny_pure ⟨rfl, rfl, fun u m => i2 u (List.mem_cons_of_mem _ m)⟩
  · obtain ⟨r1, r2⟩ := r
    obtain ⟨i1, rfl, _⟩ := I
    simp only at i1
    subst i1
    exact wpAny_pure h
mutual
theorem cls_key : ∀ (k : NestedKey) (v : Value) (n : Nat) (s : Shared), NestedIs s.heap k v → k.depth ≤ n → ClsAt P w n s v
  | .none, _, _, _, x, _ => by cases x; exact .flat fun a e => nomatch e
  | .num i, _, _, _, x, _ => by cases x <;> exact .flat fun a e => nomatch e
  | .text y, _, _, _, x, _ => by cases x; exact .flat fun a e => nomatch e
  | .tup ks, _, n, s, x, hn => by
    cases x with
    | tup hg hc hd hk =>
      simp only [NestedKey.depth] at hn
      match n, hn with
      | n + 1, hn => exact .tup hg hc hd (cls_keys ks _ n s hk (Nat.le_of_succ_le_succ hn))
theorem cls_keys : ∀ (ks : List NestedKey) (vs : List Value) (n : Nat) (s : Shared), NestedAll s.heap ks vs → NestedKey.depthAll ks ≤ n → ∀ v ∈ vs, ClsAt P w n s v
  | [], _, _, _, x, _, v, hv => by cases x; cases hv
  | k :: ks, _, n, s, x, hn, v, hv => by
    cases x with
    | cons x1 x2 =>
      simp only [NestedKey.depthAll] at hn
      rcases List.mem_cons.mp hv with rfl | hv
      · exact cls_key k _ n s x1 (Nat.le_trans (Nat.le_max_left _ _) hn)
      · exact cls_keys ks _ n s x2 (Nat.le_trans (Nat.le_max_right _ _) hn) v hv
end
/-- hash by value: some answer -/
def HbvAt (P : Program) (w : World) (n : Nat) (s : Shared) (v : Value) : Prop := ∀ (A : Around) (E : Value → Shared → Prop) (Q : Bool → Shared → Prop), (∀ b, Q b s) → wpAny (model P w) A (hashByValue n v) Q E s
theorem HbvAt.tup {n : Nat} {s : Shared} {a : Addr} {o : Obj} {vs : Array Value} {m : Nat} (ho : s.heap.get? a = some o) (hc : o.cls = .type "tuple") (hd : o.data = .seq vs m) (hq : ∀ v ∈ vs.toList, HbvAt P w n s v) :
    HbvAt P w (n + 1) s (.ref a) := fun A E Q h => by
  unfold hashByValue
  refine wpAny_bind (wpAny_specialOf ⟨o, ho, hc⟩ F.slot_tuple_hash.lookup ?_)
  show wpAny _ _ (seqItems? (.ref a) >>= _) _ _ s
  refine wpAny_bind (wpAny_seqItems ho hd ?_)
  refine wpAny_bind ?_
  show wpAny _ _ (forIn vs _ _) _ _ s
  rw [← Array.forIn_toList]
  refine wpAny_forIn_list _ (fun rest r s1 => r.1 = none ∧ s1 = s ∧ ∀ v ∈ rest, HbvAt P w n s v) _ (fun v rest r s1 I => ?_) (fun r s1 I => ?_) _ _ ⟨rfl, rfl, hq⟩
  · obtain ⟨i1, rfl, i2⟩ := I
    refine wpAny_bind (i2 v List.mem_cons_self _ _ _ fun b => ?_)
    cases b with
    | true =>
      simp only [Bool.not_true, Bool.false_eq_true, if_false]
      exact wpAny_pure ⟨rfl, rfl, fun u m => i2 u (List.mem_cons_of_mem _ m)⟩
    | false =>
      simp only [Bool.not_false, if_true]
      exact wpAny_pure (wpAny_pure (h _))
  · obtain ⟨r1, r2⟩ := r
    obtain ⟨i1, rfl, _⟩ := I
    simp only at i1
    subst i1
    exact wpAny_pure (h _)
theorem HbvAt.flat {n : Nat} {s : Shared} {v : Value} (b : Bool) (e : hashByValue n v = pure b) : HbvAt P w n s v := fun A E Q q => by
  rw [e]
  exact wpAny_pure (q b)
mutual
theorem hbv_key : ∀ (k : NestedKey) (v : Value) (n : Nat) (s : Shared), NestedIs s.heap k v → k.depth ≤ n → HbvAt P w n s v
  | .none, _, n, _, x, _ => by cases x; exact .flat true (by cases n <;> rfl)
  | .num i, _, n, _, x, _ => by cases x <;> exact .flat true (by cases n <;> rfl)
  | .text y, _, n, _, x, _ => by cases x; exact .flat false (by cases n <;> rfl)
  | .tup ks, _, n, s, x, hn => by
    cases x with
    | tup hg hc hd hk =>
      simp only [NestedKey.depth] at hn
      match n, hn with
      | n + 1, hn => exact .tup hg hc hd (hbv_keys ks _ n s hk (Nat.le_of_succ_le_succ hn))
theorem hbv_keys : ∀ (ks : List NestedKey) (vs : List Value) (n : Nat) (s : Shared), NestedAll s.heap ks vs → NestedKey.depthAll ks ≤ n → ∀ v ∈ vs, HbvAt P w n s v
  | [], _, _, _, x, _, v, hv => by cases x; cases hv
  | k :: ks, _, n, s, x, hn, v, hv => by
    cases x with
    | cons x1 x2 =>
      simp only [NestedKey.depthAll] at hn
      rcases List.mem_cons.mp hv with rfl | hv
      · exact hbv_key k _ n s x1 (Nat.le_trans (Nat.le_max_left _ _) hn)
      · exact hbv_keys ks _ n s x2 (Nat.le_trans (Nat.le_max_right _ _) hn) v hv
end
end
section
variable {P : Program} {w : World} {A : Around} {E : Value → Shared → Prop} {s : Shared}
/-- the tuple at b is the key k -/
abbrev Kb (P : Program) (w : World) (h : Heap) (k : NestedKey) (b : Addr) : Prop := (nestedKind P w).is h k b
theorem kb_at {h h' : Heap} {k : NestedKey} {b : Addr} (x : Kb P w h k b) (hk : ∀ c o vs n, h.get? c = some o → o.data = .seq vs n → h'.get? c = some o) : Kb P w h' k b := ⟨NestedIs.at hk _ _ x.1, x.2⟩
theorem kb_but {h h' : Heap} {k : NestedKey} {a b : Addr} {o : Obj} {es : Array (Int × Value)} {ep : Nat} {t : SetTable} (x : Kb P w h k b) (ho : h.get? a = some o) (hd : o.data = .set es ep t) (hs : Heap.SameBut a h h') : Kb P w h' k b :=
  kb_at x fun c u vs n e1 e2 => (hs.2 c fun z => by
    rw [z, ho] at e1
    cases e1
    rw [hd] at e2
    cases e2).trans e1
theorem seen_key {k : NestedKey} {b : Addr} {Q : Bool → Shared → Prop} (hk : Kb P w s.heap k b) {ys : List Value} (hy : ∀ y ∈ ys, ∃ k2 c, y = Value.ref c ∧ Kb P w s.heap k2 c) (h : Q false s) :
    wpAny (model P w) A (searchCouldBeSeen (.ref b) ys) Q E s := by
  unfold searchCouldBeSeen
  refine wpAny_bind ?_
  refine wpAny_forIn_list _ (fun rest r s1 => r.1 = none ∧ s1 = s ∧ ∀ y ∈ rest, ∃ k2 c, y = Value.ref c ∧ Kb P w s.heap k2 c) _ (fun v rest r s1 I => ?_) (fun r s1 I => ?_) _ _ ⟨rfl, rfl, hy⟩
  · obtain ⟨i1, rfl, i2⟩ := I
    obtain ⟨k2, c, rfl, hc⟩ := i2 v List.mem_cons_self
    have more : ∀ y ∈ rest, ∃ k2 c, y = Value.ref c ∧ Kb P w s1.heap k2 c := fun u m => i2 u (List.mem_cons_of_mem _ m)
    dsimp only
    by_cases very : (b == c || (carriedByValue (.ref b) && carriedByValue (.ref c))) = true
    · exact wp_if_pos very (wpAny_pure ⟨rfl, rfl, more⟩)
    · refine wp_if_neg very (wpAny_bind ((nestedKind P w).quiet hk ?_))
      simp only [Bool.not_true, Bool.false_eq_true, if_false]
      refine wpAny_bind ((nestedKind P w).quiet hc ?_)
      simp only [Bool.not_true, Bool.false_eq_true, if_false]
      refine wpAny_bind (cls_key k _ 8 _ hk.1 hk.2 _ _ _ ?_)
      simp only [Bool.false_eq_true, if_false]
      refine wpAny_bind (cls_key k2 _ 8 _ hc.1 hc.2 _ _ _ ?_)
      simp only [Bool.false_eq_true, if_false]
      exact wpAny_pure ⟨rfl, rfl, more⟩
  · obtain ⟨r1, r2⟩ := r
    obtain ⟨i1, rfl, _⟩ := I
    simp only at i1
    subst i1
    exact wpAny_pure h
end
end L2.NSet
set_option Elab.async false
set_option linter.all false
set_option maxRecDepth 100000
set_option maxHeartbeats 4000000
/-! Sets whose members are tuples, nested as they may be: seeking a member in the table. -/
namespace L2.NSet
open PySem PySem.Spec PyProof.Rows
/-- the rows of the table: hash and address of each member -/
abbrev Mem : Type := Addr × NestedKey
def rowN (w : World) (p : Mem) : Int × Value := (p.2.hash w, Value.ref p.1)
structure Tab (P : Program) (w : World) (h : Heap) (a : Addr) (L : List Mem) (es : Array (Int × Value)) (ep : Nat) (t : SetTable) : Prop where
  here : ∃ o, h.get? a = some o ∧ o.ExactSet ∧ o.data = .set es ep t
  rows : es.toList = L.map (rowN w)
  lay : TabOk t (L.map fun p => p.2.hash w)
  once : (L.map (·.2)).Nodup
  each : ∀ p ∈ L, Kb P w h p.2 p.1
  told : w.params.followText "set-order" = true ∨ t.led = true
  free : L.length * 5 < t.mask * 3
  few : L.length < 64
section
variable {P : Program} {w : World} {A : Around} {E : Value → Shared → Prop} {s : Shared} {a : Addr} {L : List Mem} {es : Array (Int × Value)} {ep : Nat} {t : SetTable}
theorem rows_size (h : es.toList = L.map (rowN w)) : es.size = L.length := by
  rw [← Array.length_toList, h, List.length_map]
theorem rows_at (h : es.toList = L.map (rowN w)) {i : Nat} {p : Mem} (e : L[i]? = some p) : es[i]? = some (p.2.hash w, Value.ref p.1) := by
  rw [← Array.getElem?_toList, h, List.getElem?_map, e]
  rfl
theorem Tab.size (R : Tab P w s.heap a L es ep t) : es.size = L.length := rows_size R.rows
theorem Tab.fits (R : Tab P w s.heap a L es ep t) : t.fits es.size = true := by
  have h1 := R.lay.sz
  have h2 := R.size
  have h3 := R.free
  rw [List.length_map] at h1
  unfold SetTable.fits SetTable.fill
  rw [R.lay.dm, Bool.and_eq_true, beq_iff_eq, decide_eq_true_eq]
  show t.place.size = es.size ∧ t.place.size + 0 ≤ t.mask
  omega
/-- where the way of a hash begins -/
abbrev top0 (m : Nat) (hx : Int) : SetTable.Probe := runAt m (SetTable.bits hx % (m + 1)) (SetTable.bits hx)
theorem top_dummy (m : Nat) (hx : Int) (c : Nat) : (nth m (top0 m hx) c).dummy = none := by
  have key : ∀ (n : Nat) (p : SetTable.Probe), p.dummy = none → (nth m p n).dummy = none := fun n => by
    induction n with
    | zero => exact fun p h => h
    | succ n ih =>
      refine fun p h => ih (adv m p) ?_
      unfold adv
      split <;> exact h
  exact key c _ rfl
/-- the rest behind a candidate whose answer is known -/
theorem rest_of (R : Tab P w s.heap a L es ep t) {x : Addr} {k : NestedKey} (hx : Kb P w s.heap k x) (hu : A.units + 8 < cLine) {i j : Nat} {p : Mem} (hp : L[i]? = some p) (hi : t.place.toList[i]? = some j) {f : Nat} {nx : SetTable.Probe} {Q : SetFound → Shared → Prop}
    (yes : p.2 = k → Q (.there none) s) (no : p.2 ≠ k → wpAny (model P w) A (setSearchFrom a (.ref x) (k.hash w) true f (some nx)) Q E s) :
    wpAny (model P w) A (searchRest a (.ref x) (k.hash w) true f es t j i nx) Q E s := by
  obtain ⟨o, ho, ox, od⟩ := R.here
  have mp : p ∈ L := List.mem_of_getElem? hp
  unfold searchRest
  rw [rows_at R.rows hp]
  dsimp only
  refine wpAny_bind (wpAny_holding ((nestedKind P w).eqBool hu (R.each p mp) hx ?_))
  refine wpAny_bind (wpAny_setState_of ho od R.fits ?_)
  dsimp only
  by_cases e : p.2 = k
  · exact wp_if_pos (by simp [e]) (wpAny_pure (yes e))
  · refine wp_if_neg (by simp [e]) ?_
    rw [sameMem]
    dsimp only
    simp only [if_true, slot_live R.lay.ris hi, rows_at R.rows hp]
    refine wpAny_bind (wpAny_isSame_ref_self (wpAny_bind (wpAny_pure ?_)))
    simp only [if_true]
    exact wp_if_neg (by simp [e]) (no e)
theorem seek (R : Tab P w s.heap a L es ep t) {x : Addr} {k : NestedKey} (hx : Kb P w s.heap k x) (hu : A.units + 8 < cLine) {N : Nat} (nf : N < 10 * SetTable.turns t.mask)
    (n0 : way t.mask (k.hash w) N ∉ t.place.toList) (nb : ∀ c, c < N → way t.mask (k.hash w) c ∈ t.place.toList) {Q : SetFound → Shared → Prop}
    (yes : k ∈ L.map (·.2) → Q (.there none) s) (no : k ∉ L.map (·.2) → Q (.free (way t.mask (k.hash w) N) false) s) :
    ∀ (f c : Nat) (st : Option SetTable.Probe), st.getD (t.probeStart (k.hash w)) = nth t.mask (top0 t.mask (k.hash w)) c → c ≤ N → N - c < f →
      (∀ (i : Nat) p, L[i]? = some p → p.2 = k → ∃ d, c ≤ d ∧ d < N ∧ t.place.toList[i]? = some (way t.mask (k.hash w) d)) →
      wpAny (model P w) A (setSearchFrom a (.ref x) (k.hash w) true f st) Q E s
  | 0, _, _, _, _, z, _ => absurd z (Nat.not_lt_zero _)
  | f + 1, c, st, hst, hc, hf, ahead => by
    obtain ⟨o, ho, ox, od⟩ := R.here
    rw [setSearchFrom_succ]
    refine wpAny_bind (wpAny_setState_of ho od R.fits ?_)
    dsimp only
    have gw : ¬ t.gaveWay = true := by
      unfold SetTable.gaveWay
      rw [mask_odd R.lay.mok]
      decide
    refine wp_if_neg gw ?_
    have sh : ∀ q, nth t.mask (nth t.mask (top0 t.mask (k.hash w)) c) q = nth t.mask (top0 t.mask (k.hash w)) (c + q) := fun q => (nth_add t.mask c _ q).symm
    have ej : ∀ q, (nth t.mask (nth t.mask (top0 t.mask (k.hash w)) c) q).j = way t.mask (k.hash w) (c + q) := fun q => congrArg SetTable.Probe.j (sh q)
    have cN : c + (N - c) = N := by omega
    have G := go_spec t R.lay.ris R.lay.dm (fun i => (es[i]?.map (·.1)).getD 0) (k.hash w) (10 * SetTable.turns t.mask) (N - c) _ (top_dummy t.mask (k.hash w) c) (by omega)
      (fun q hq => by rw [ej]; exact nb (c + q) (by omega)) (by rw [ej, cN]; exact n0)
    have hat : ∀ (i : Nat) p, L[i]? = some p → (fun i => (es[i]?.map (·.1)).getD 0) i = p.2.hash w := fun i p hp => by
      show (es[i]?.map (·.1)).getD 0 = _
      rw [rows_at R.rows hp]
      rfl
    rcases G with ⟨q, i, hq, hi, hh, skip, pr⟩ | ⟨skip, pr⟩
    · rw [ej] at hi
      have pr2 : t.probe (fun i => (es[i]?.map (·.1)).getD 0) (k.hash w) (st.getD (t.probeStart (k.hash w))) = some (.candidate (way t.mask (k.hash w) (c + q)) i (nth t.mask (top0 t.mask (k.hash w)) (c + (q + 1)))) := by
        rw [hst, ← ej, ← sh]
        exact pr
      rw [pr2]
      dsimp only
      have il : i < L.length := by
        have h1 : i < t.place.toList.length := (List.getElem?_eq_some_iff.mp hi).1
        have h2 := R.lay.sz
        rw [List.length_map] at h2
        rw [Array.length_toList] at h1
        omega
      obtain ⟨p, hp⟩ : ∃ p, L[i]? = some p := ⟨_, List.getElem?_eq_getElem il⟩
      have go : wpAny (model P w) A (searchRest a (.ref x) (k.hash w) true f es t (way t.mask (k.hash w) (c + q)) i (nth t.mask (top0 t.mask (k.hash w)) (c + (q + 1)))) Q E s := by
        refine rest_of R hx hu hp hi (fun e => yes (List.mem_map.mpr ⟨p, List.mem_of_getElem? hp, e⟩)) fun ne => ?_
        refine seek R hx hu nf n0 nb yes no f (c + (q + 1)) _ rfl (by omega) (by omega) fun i2 p2 h2 k2 => ?_
        obtain ⟨d, d1, d2, d3⟩ := ahead i2 p2 h2 k2
        have hk2 : (fun i => (es[i]?.map (·.1)).getD 0) i2 = k.hash w := (hat i2 p2 h2).trans (by rw [k2])
        refine ⟨d, ?_, d2, d3⟩
        rcases Nat.lt_trichotomy d (c + q) with z | z | z
        · exact absurd hk2 (skip (d - c) i2 (by omega) (by rw [ej, show c + (d - c) = d by omega]; exact d3))
        · rw [z] at d3
          have s1 := slot_live R.lay.ris hi
          have s2 := slot_live R.lay.ris d3
          rw [s1] at s2
          injection s2 with s2
          rw [← s2, hp] at h2
          cases h2
          exact absurd k2 ne
        · omega
      by_cases led : t.led = true
      · exact wp_if_neg (by simp [led]) go
      · refine wp_if_pos (by simp [led]) (wpAny_bind (seen_key hx (fun y hy => ?_) ?_))
        · obtain ⟨e, he, rfl⟩ := List.mem_map.mp hy
          have he2 : e ∈ es.toList := by
            have : e ∈ es ∧ e.1 = k.hash w := by simpa using he
            simpa using this.1
          rw [R.rows] at he2
          obtain ⟨p2, m2, rfl⟩ := List.mem_map.mp he2
          exact ⟨p2.2, p2.1, rfl, R.each p2 m2⟩
        · exact wp_if_neg (by decide) go
    · have pr2 : t.probe (fun i => (es[i]?.map (·.1)).getD 0) (k.hash w) (st.getD (t.probeStart (k.hash w))) = some (.empty (way t.mask (k.hash w) N) none) := by
        have e2 : way t.mask (k.hash w) N = (nth t.mask (nth t.mask (top0 t.mask (k.hash w)) c) (N - c)).j := by rw [ej, cN]
        rw [hst, e2]
        exact pr
      rw [pr2]
      dsimp only
      refine wpAny_pure (no fun m => ?_)
      obtain ⟨p, mp, ek⟩ := List.mem_map.mp m
      obtain ⟨i, hi, e⟩ := List.getElem_of_mem mp
      have hp : L[i]? = some p := by rw [List.getElem?_eq_getElem hi, e]
      obtain ⟨d, d1, d2, d3⟩ := ahead i p hp ek
      exact skip (d - c) i (by omega) (by rw [ej, show c + (d - c) = d by omega]; exact d3) ((hat i p hp).trans (by rw [ek]))
theorem seek_all (R : Tab P w s.heap a L es ep t) {x : Addr} {k : NestedKey} (hx : Kb P w s.heap k x) (hu : A.units + 8 < cLine) {Q : SetFound → Shared → Prop}
    (yes : k ∈ L.map (·.2) → Q (.there none) s)
    (no : ∀ N, k ∉ L.map (·.2) → way t.mask (k.hash w) N ∉ t.place.toList → (∀ c, c < N → way t.mask (k.hash w) c ∈ t.place.toList) → Q (.free (way t.mask (k.hash w) N) false) s) :
    wpAny (model P w) A (setSearch a (.ref x) (k.hash w) true) Q E s := by
  have fr := R.free
  obtain ⟨N, nf, n0, nb⟩ := R.lay.first (by rw [List.length_map]; omega) (k.hash w)
  have small : N < 100000 := by
    have : 10 * SetTable.turns t.mask ≤ 1420 := by
      unfold SetTable.turns
      rcases R.lay.mok with e | e | e <;> omega
    omega
  unfold setSearch
  refine seek R hx hu nf n0 nb yes (fun m => no N m n0 nb) 100000 0 none rfl (Nat.zero_le _) (by omega) fun i p hp hk => ?_
  have hi : (L.map fun p => p.2.hash w)[i]? = some (k.hash w) := by
    rw [List.getElem?_map, hp, ← hk]
    rfl
  have il : i < t.place.toList.length := by
    have h1 : i < L.length := (List.getElem?_eq_some_iff.mp hp).1
    have h2 := R.lay.sz
    rw [List.length_map] at h2
    rw [Array.length_toList]
    omega
  have hj := List.getElem?_eq_getElem il
  obtain ⟨c, hc, e⟩ := R.lay.before n0 hi hj
  exact ⟨c, Nat.zero_le _, hc, by rw [hj, e]⟩
end
end L2.NSet
set_option Elab.async false
set_option linter.all false
set_option maxRecDepth 100000
set_option maxHeartbeats 4000000
/-! Sets whose members are tuples, nested as they may be: laying a member down. -/
namespace L2.NSet
open PySem PySem.Spec PyProof.Rows
section
variable {P : Program} {w : World} {A : Around} {E : Value → Shared → Prop} {s : Shared} {a : Addr} {L : List Mem} {es : Array (Int × Value)} {ep : Nat} {t : SetTable}
/-- rows picked by places -/
theorem picked (h : es.toList = L.map (rowN w)) {l : List Nat} (hl : ∀ i ∈ l, i < L.length) : ∃ M : List Mem, l.filterMap (fun i => es[i]?) = M.map (rowN w) ∧ M = l.filterMap (fun i => L[i]?) ∧
    (M.map fun p => p.2.hash w) = l.map fun i => (es.map (·.1)).getD i 0 := by
  induction l with
  | nil => exact ⟨[], rfl, rfl, rfl⟩
  | cons i l ih =>
    obtain ⟨M, m1, m2, m3⟩ := ih fun j m => hl j (List.mem_cons_of_mem _ m)
    have li := hl i List.mem_cons_self
    have hp : L[i]? = some L[i] := List.getElem?_eq_getElem li
    have he := rows_at h hp
    refine ⟨L[i] :: M, ?_, ?_, ?_⟩
    · rw [List.filterMap_cons_some he, m1]
      rfl
    · rw [List.filterMap_cons_some hp, m2]
    · rw [List.map_cons, List.map_cons, m3]
      have e5 : (es.map (·.1))[i]? = some ((L[i]).2.hash w) := by
        rw [Array.getElem?_map, he]
        rfl
      simp [Array.getD_eq_getD_getElem?, e5]
theorem all_places (L : List Mem) : (List.range L.length).filterMap (fun i => L[i]?) = L := by
  have key : ∀ n, n ≤ L.length → (List.range n).filterMap (fun i => L[i]?) = L.take n := fun n => by
    induction n with
    | zero => exact fun _ => rfl
    | succ n ih =>
      intro hn
      have lt : n < L.length := hn
      have hp : L[n]? = some L[n] := List.getElem?_eq_getElem lt
      rw [List.range_succ, List.filterMap_append, ih (Nat.le_of_lt lt), List.take_succ, hp, List.filterMap_cons_some hp]
      rfl
  rw [key L.length (Nat.le_refl _), List.take_length]
theorem reordered (h : es.toList = L.map (rowN w)) {order : Array Nat} (pm : order.toList.Perm (List.range L.length)) :
    ∃ M : List Mem, (order.filterMap (es[·]?)).toList = M.map (rowN w) ∧ M.Perm L ∧ (M.map fun p => p.2.hash w) = order.toList.map fun i => (es.map (·.1)).getD i 0 := by
  obtain ⟨M, m1, m2, m3⟩ := picked h (l := order.toList) fun i m => List.mem_range.mp (pm.mem_iff.mp m)
  refine ⟨M, ?_, ?_, m3⟩
  · rw [Array.toList_filterMap]
    exact m1
  · have q := pm.filterMap fun i => L[i]?
    rw [all_places, ← m2] at q
    exact q
/-- the table laid anew -/
theorem widen {o : Obj} (ho : s.heap.get? a = some o) (ox : o.ExactSet) (od : o.data = .set es ep t) (hr : es.toList = L.map (rowN w)) (hz : t.place.size = es.size) (hd : t.dummies = #[]) (hf : es.size ≤ t.mask)
    (nd : (L.map (·.2)).Nodup) (each : ∀ p ∈ L, Kb P w s.heap p.2 p.1) (told : w.params.followText "set-order" = true ∨ t.led = true) (few : L.length < 64) {want M : Nat}
    (hw : SetTable.sizeAbove want - 1 = M) (hM : MaskOk M) (h128 : SetTable.sizeAbove want ≤ 128) (hroom : L.length * 5 < M * 3) {Q : Unit → Shared → Prop}
    (hQ : ∀ h2 L2 es2 ep2 t2, Heap.SameBut a s.heap h2 → Tab P w h2 a L2 es2 ep2 t2 → L2.Perm L → Q () { s with heap := h2 }) : wpAny (model P w) A (setRelay a want) Q E s := by
  have sz := rows_size hr
  have fits : t.fits es.size = true := by
    unfold SetTable.fits SetTable.fill
    rw [hd, Bool.and_eq_true, beq_iff_eq, decide_eq_true_eq]
    show t.place.size = es.size ∧ t.place.size + 0 ≤ t.mask
    omega
  obtain ⟨t2, order, e, pm, T, em, el, e3, e4⟩ := relaid_ok t (hs := es.map (·.1)) (wanted := want) hw hM (by rw [Array.size_map, sz]; omega)
  rw [Array.size_map, sz] at pm
  obtain ⟨M2, r1, r2, r3⟩ := reordered hr pm
  rw [← r3] at T
  have z2 : (order.filterMap (es[·]?)).size = es.size := by rw [rows_size r1, r2.length_eq, sz]
  rw [setRelay_eq]
  refine wpAny_bind (wpAny_setState_of ho od fits ?_)
  dsimp only
  refine wp_if_neg (by rw [sizeLine_eq]; omega) ?_
  rw [e]
  dsimp only
  refine wpAny_bind (wp_if_neg (by rw [z2]; simp) (wpAny_pure ?_))
  dsimp only
  refine wpAny_storeSet_of ho od ?_ (by rw [z2, sz, sizeLine_eq]; omega)
  have sb := Heap.SameBut.update s.heap a (Obj.putSet (order.filterMap (es[·]?)) t2)
  refine hQ _ M2 (order.filterMap (es[·]?)) (ep + 1) t2 sb ⟨⟨_, store_at ho od, ⟨ox.1, ox.2.1, ox.2.2⟩, rfl⟩, r1, T, (r2.map (·.2)).nodup_iff.mpr nd, fun p m => kb_but (each p (r2.mem_iff.mp m)) ho od sb, by rw [el]; exact told, ?_, by rw [r2.length_eq]; exact few⟩ r2
  rw [r2.length_eq, em]
  exact hroom
theorem put_mid (L : List Mem) (p : Nat) (x : Mem) : (L.take p ++ x :: L.drop p).Perm (x :: L) := by
  have h : (L.take p ++ x :: L.drop p).Perm (x :: (L.take p ++ L.drop p)) := List.perm_middle
  rwa [List.take_append_drop] at h
/-- adding a tuple -/
theorem lay (R : Tab P w s.heap a L es ep t) {x : Addr} {k : NestedKey} (hx : Kb P w s.heap k x) (hu : A.units + 8 < cLine) (few : L.length + 1 < 64) {Q : Bool → Shared → Prop}
    (hQ : ∀ b h2 L2 es2 ep2 t2, Heap.SameBut a s.heap h2 → Tab P w h2 a L2 es2 ep2 t2 → (k ∈ L.map (·.2) → L2 = L) → (k ∉ L.map (·.2) → L2.Perm ((x, k) :: L)) → Q b { s with heap := h2 }) :
    wpAny (model P w) A (setAddHashed a (.ref x) (k.hash w)) Q E s := by
  obtain ⟨o, ho, ox, od⟩ := R.here
  have sz := R.size
  have fr := R.free
  unfold setAddHashed
  refine wpAny_holding ?_
  rw [show (100000 : Nat) = 99999 + 1 from rfl, setAddHashedIn_succ]
  refine wpAny_bind (wpAny_setState_of ho od R.fits ?_)
  dsimp only
  refine wp_if_neg (by simp [byScan, Value.scannable]) ?_
  refine wpAny_bind (seek_all R hx hu (fun m => ?_) fun N m n0 nb => ?_)
  · dsimp only
    exact wpAny_pure (hQ false s.heap L es ep t (Heap.SameBut.refl a s.heap) R (fun _ => rfl) fun z => absurd m z)
  dsimp only
  refine wpAny_bind (wpAny_setState_of ho od R.fits ?_)
  dsimp only
  obtain ⟨q1, q2, q3, q4, q5, _, _, _, q9⟩ := R.lay.put n0 nb
  generalize t.put (way t.mask (k.hash w) N) = pt at q1 q3 q4 q5 q9 ⊢
  obtain ⟨t1, p⟩ := pt
  dsimp only at q1 q3 q4 q5 q9 ⊢
  subst q1
  have mid : ∀ b : Bool, wpAny (model P w) A (do
      storeSet a (SetTable.insertAt es (SetTable.below t.place (way t.mask (k.hash w) N)) (k.hash w, Value.ref x)) (if b = true then t1 else { t1 with plain := false })
      if (!false && (if b = true then t1 else { t1 with plain := false }).tooFull) = true then setRelay a (SetTable.grown (es.size + 1))
      return true) Q E s := fun b => by
    have hin : (SetTable.insertAt es (SetTable.below t.place (way t.mask (k.hash w) N)) (k.hash w, Value.ref x)).toList = (L.take (SetTable.below t.place (way t.mask (k.hash w) N)) ++ (x, k) :: L.drop (SetTable.below t.place (way t.mask (k.hash w) N))).map (rowN w) := by
      rw [SetTable.toList_insertAt, R.rows, List.map_append, List.map_cons, List.map_take, List.map_drop]
      rfl
    generalize SetTable.below t.place (way t.mask (k.hash w) N) = p at q2 q3 hin ⊢
    have pm := put_mid L p (x, k)
    have len : (L.take p ++ (x, k) :: L.drop p).length = L.length + 1 := pm.length_eq
    have hh : (L.take p ++ (x, k) :: L.drop p).map (fun p => p.2.hash w) = (L.map fun p => p.2.hash w).take p ++ k.hash w :: (L.map fun p => p.2.hash w).drop p := by
      rw [List.map_append, List.map_cons, List.map_take, List.map_drop]
    rw [← hh] at q3
    have nd : ((L.take p ++ (x, k) :: L.drop p).map (·.2)).Nodup := (pm.map (·.2)).nodup_iff.mpr (List.nodup_cons.mpr ⟨m, R.once⟩)
    have z1 := rows_size hin
    rw [len] at z1
    generalize SetTable.insertAt es p (k.hash w, Value.ref x) = es1 at hin z1 ⊢
    generalize L.take p ++ (x, k) :: L.drop p = L1 at pm len q3 nd hin
    obtain ⟨u, hu2, u3, u4, u5, u6⟩ : ∃ u : SetTable, (if b = true then t1 else { t1 with plain := false }) = u ∧ TabOk u (L1.map fun p => p.2.hash w) ∧ u.mask = t.mask ∧ u.led = t.led ∧ u.fill = L.length + 1 := by
      cases b
      · exact ⟨{ t1 with plain := false }, rfl, ⟨q3.ris, q3.dm, q3.sz, q3.mok, q3.bd, q3.reach⟩, q4, q5, by rw [List.length_map] at q9; exact q9⟩
      · exact ⟨t1, rfl, q3, q4, q5, by rw [List.length_map] at q9; exact q9⟩
    rw [hu2]
    refine wpAny_bind (wpAny_storeSet_of ho od ?_ (by rw [z1, sizeLine_eq]; omega))
    have sb : Heap.SameBut a s.heap (s.heap.update a (Obj.putSet es1 u)) := Heap.SameBut.update ..
    have ho1 := store_at (es' := es1) (t' := u) ho od
    generalize s.heap.update a (Obj.putSet es1 u) = h1 at sb ho1 ⊢
    have each : ∀ p ∈ L1, Kb P w h1 p.2 p.1 := fun p mp => by
      rcases List.mem_cons.mp (pm.mem_iff.mp mp) with e | mp
      · rw [e]
        exact kb_but hx ho od sb
      · exact kb_but (R.each p mp) ho od sb
    have told : w.params.followText "set-order" = true ∨ u.led = true := by rw [u5]; exact R.told
    by_cases full : u.tooFull = true
    · refine wp_if_pos (by simp [full]) (wpAny_bind ?_)
      have tight : (L.length + 1) * 5 ≥ u.mask * 3 := by
        have h := full
        unfold SetTable.tooFull at h
        rw [decide_eq_true_eq, u6] at h
        exact h
      rw [sz]
      have z2 : u.place.size = es1.size := by
        have h := u3.sz
        rw [List.length_map, len] at h
        rw [h, z1]
      have two : (t.mask = 7 ∧ L.length = 4) ∨ (t.mask = 31 ∧ L.length = 18) := by
        rcases R.lay.mok with e | e | e
        · rw [u4, e] at tight
          rw [e] at fr
          exact .inl ⟨e, by omega⟩
        · rw [u4, e] at tight
          rw [e] at fr
          exact .inr ⟨e, by omega⟩
        · rw [u4, e] at tight
          omega
      have go : ∀ M, SetTable.sizeAbove (SetTable.grown (L.length + 1)) - 1 = M → MaskOk M → SetTable.sizeAbove (SetTable.grown (L.length + 1)) ≤ 128 → (L.length + 1) * 5 < M * 3 →
          wpAny (model P w) A (setRelay a (SetTable.grown (L.length + 1))) (fun _ s2 => wpAny (model P w) A (pure true) Q E s2) E { s with heap := h1 } := fun M g1 g2 g3 g4 =>
        widen (s := { s with heap := h1 }) ho1 ⟨ox.1, ox.2.1, ox.2.2⟩ rfl hin z2 u3.dm (by rw [z1, u4]; rcases two with ⟨e, e2⟩ | ⟨e, e2⟩ <;> omega) nd each told (by rw [len]; exact few) g1 g2 g3 (by rw [len]; exact g4)
          fun h2 L2 es2 ep2 t2 sb2 R2 pm2 => wpAny_pure (hQ true h2 L2 es2 ep2 t2 (sb.trans sb2) R2 (fun z => absurd z m) fun _ => pm2.trans pm)
      rcases two with ⟨_, e2⟩ | ⟨_, e2⟩
      · exact go 31 (by rw [e2, size_20]) (.inr (.inl rfl)) (by rw [e2, size_20]; decide) (by omega)
      · exact go 127 (by rw [e2, size_76]) (.inr (.inr rfl)) (by rw [e2, size_76]; decide) (by omega)
    · refine wp_if_neg (by simp [full]) (wpAny_pure (hQ true h1 L1 es1 (ep + 1) u sb ⟨⟨_, ho1, ⟨ox.1, ox.2.1, ox.2.2⟩, rfl⟩, hin, u3, nd, each, told, ?_, by rw [len]; exact few⟩ (fun z => absurd z m) fun _ => pm))
      have h := full
      unfold SetTable.tooFull at h
      rw [decide_eq_true_eq, u6] at h
      rw [len]
      omega
  by_cases pl : t1.plain = true
  · refine wp_if_pos pl (wpAny_bind (hbv_key k _ 8 _ hx.1 hx.2 _ _ _ fun b => ?_))
    exact mid b
  · refine wp_if_neg pl (wpAny_bind (wpAny_pure ?_))
    exact mid true
end
end L2.NSet
set_option Elab.async false
set_option linter.all false
set_option maxRecDepth 100000
set_option maxHeartbeats 4000000
/-! set(tuples): a list or a tuple of tuples goes into a new set. -/
namespace L2.NSet
open PySem PySem.Spec PyProof.Rows
section
variable {P : Program} {w : World} {A : Around} {E : Value → Shared → Prop} {s : Shared}
/-- what stands in the set when the first i have gone in -/
structure In (ks : List Mem) (i : Nat) (L : List Mem) : Prop where
  from_ : ∀ p ∈ L, p ∈ ks.take i
  to_ : ∀ p ∈ ks.take i, p.2 ∈ L.map (·.2)
  le : L.length ≤ i
theorem In.zero (ks : List Mem) : In ks 0 [] := ⟨fun p h => (nomatch h), fun p h => (by simp at h), Nat.le_refl _⟩
theorem In.next {ks L M : List Mem} {i : Nat} {x : Mem} (g : In ks i L) (h : ks[i]? = some x) (old : x.2 ∈ L.map (·.2) → M = L) (new : x.2 ∉ L.map (·.2) → M.Perm (x :: L)) : In ks (i + 1) M := by
  have tk : ks.take (i + 1) = ks.take i ++ [x] := by
    rw [List.take_succ, h]
    rfl
  by_cases m : x.2 ∈ L.map (·.2)
  · rw [old m]
    refine ⟨fun p mp => ?_, fun p mp => ?_, Nat.le_succ_of_le g.le⟩
    · rw [tk]
      exact List.mem_append_left _ (g.from_ p mp)
    · rw [tk] at mp
      rcases List.mem_append.mp mp with z | z
      · exact g.to_ p z
      · rw [List.mem_singleton.mp z]
        exact m
  · have pm := new m
    refine ⟨fun p mp => ?_, fun p mp => ?_, ?_⟩
    · rw [tk]
      rcases List.mem_cons.mp (pm.mem_iff.mp mp) with e | z
      · rw [e]
        exact List.mem_append_right _ (List.mem_singleton.mpr rfl)
      · exact List.mem_append_left _ (g.from_ p z)
    · rw [(pm.map (·.2)).mem_iff, List.map_cons]
      rw [tk] at mp
      rcases List.mem_append.mp mp with z | z
      · exact List.mem_cons_of_mem _ (g.to_ p z)
      · rw [List.mem_singleton.mp z]
        exact List.mem_cons_self
    · rw [pm.length_eq, List.length_cons]
      exact Nat.succ_le_succ g.le
theorem Tab.keep {h h2 : Heap} {a : Addr} {L : List Mem} {es : Array (Int × Value)} {ep : Nat} {t : SetTable} (R : Tab P w h a L es ep t) (ha : ∀ o, h.get? a = some o → h2.get? a = some o) (each : ∀ p ∈ L, Kb P w h2 p.2 p.1) : Tab P w h2 a L es ep t :=
  let ⟨o, ho, r⟩ := R.here
  ⟨⟨o, ha o ho, r⟩, R.rows, R.lay, R.once, each, R.told, R.free, R.few⟩
abbrev newSet (w : World) : Obj := { cls := .type "set", dict := none, data := .set #[] 0 (.fresh 0 0 (!w.params.followText "set-order")) }
theorem Tab.new {h : Heap} {a : Addr} (ho : h.get? a = some (newSet w)) : Tab P w h a [] #[] 0 (.fresh 0 0 (!w.params.followText "set-order")) where
  here := ⟨_, ho, ⟨rfl, rfl, rfl⟩, rfl⟩
  rows := rfl
  lay := ⟨List.Pairwise.nil, rfl, rfl, .inl rfl, fun x hx => (nomatch hx), fun i h j hi => (by simp at hi)⟩
  once := List.nodup_nil
  each := fun p hp => nomatch hp
  told := by
    show _ ∨ (!w.params.followText "set-order") = true
    cases w.params.followText "set-order"
    · exact .inr rfl
    · exact .inl rfl
  free := by
    show 0 * 5 < 7 * 3
    decide
  few := by
    show 0 < 64
    decide
theorem kb_keep {h h2 : Heap} {k : NestedKey} {b : Addr} (x : Kb P w h k b) (hk : ∀ c o, h.get? c = some o → h2.get? c = some o) : Kb P w h2 k b := kb_at x fun c o _ _ e _ => hk c o e
/-- the loop of set.update -/
theorem loopN {I : Addr} {fp wr : List Addr} {G : Array GenState → Array GenState → Prop} {n : Nat} {Pv : Nat → Value → Prop} {St : Nat → Shared → Prop} {R : Result → Shared → Prop}
    (W : WalksS P w A.in1 I fp wr G n Pv St) (S : Addr) (nf : S ∉ fp) (ks : List Mem) (hn : n = ks.length) (few : ks.length < 64) (val : ∀ i v, Pv i v → ∃ p, ks[i]? = some p ∧ v = .ref p.1)
    (g0 : Heap) (each : ∀ p ∈ ks, Kb P w g0 p.2 p.1) (s0 : g0.get? S = none) (w0 : ∀ b ∈ wr, g0.get? b = none) (hu : A.in1.units + 8 < cLine) :
    ∀ (m i : Nat) (s : Shared), n - i = m → i ≤ n → St i s → (∀ b o, g0.get? b = some o → s.heap.get? b = some o) → (∃ L es ep t, Tab P w s.heap S L es ep t ∧ In ks i L) →
      (∀ s2 L es ep t, Moved (S :: wr) G s s2 → Tab P w s2.heap S L es ep t → In ks n L → (∀ b o, g0.get? b = some o → s2.heap.get? b = some o) → R (.ok (.ret .none)) s2) →
      codeAny (model P w) A (.builtin "set.update.loop" ⟨[.ref S, .ref I], []⟩) R s := by
  have nw : S ∉ wr := fun h => nf (W.sub _ h)
  have wider : ∀ b ∈ wr, b ∈ S :: wr := fun b m => List.mem_cons_of_mem _ m
  have hold : ∀ {s1 s2 : Shared}, Moved wr G s1 s2 → (∀ b o, g0.get? b = some o → s1.heap.get? b = some o) → ∀ b o, g0.get? b = some o → s2.heap.get? b = some o := fun mv k b o e =>
    mv.heap b o (fun m => by rw [w0 b m] at e; cases e) (k b o e)
  intro m
  induction m with
  | zero =>
    rintro i s hm hi hst kp ⟨L, es, ep, t, R0, g⟩ hR
    obtain rfl : i = n := by omega
    refine codeAny_builtin F.entry_set_update_loop ?_
    rw [Around.under_plainId F.plain_set_update_loop _] <;> show wpAny _ A.in1 (pyNext (.ref I) >>= _) _ _ s
    refine wpAny_bind (W.done s _ _ hst fun s2 mv => ?_)
    have kp2 := hold mv kp
    exact wpAny_pure (hR s2 L es ep t (mv.mono wider) (R0.keep (fun o e => mv.heap S o nw e) fun p mp => kb_keep (each p (List.mem_of_mem_take (g.from_ p mp))) kp2) g kp2)
  | succ m ih =>
    rintro i s hm hi hst kp ⟨L, es, ep, t, R0, g⟩ hR
    have lt : i < n := by omega
    refine codeAny_builtin F.entry_set_update_loop ?_
    rw [Around.under_plainId F.plain_set_update_loop _] <;> show wpAny _ A.in1 (pyNext (.ref I) >>= _) _ _ s
    refine wpAny_bind (W.item i s _ _ lt hst fun v s2 hv hst2 mv => ?_)
    obtain ⟨p, hp, rfl⟩ := val i v hv
    have kp2 := hold mv kp
    have R2 : Tab P w s2.heap S L es ep t := R0.keep (fun o e => mv.heap S o nw e) fun q mq => kb_keep (each q (List.mem_of_mem_take (g.from_ q mq))) kp2
    have hx : Kb P w s2.heap p.2 p.1 := kb_keep (each p (List.mem_of_getElem? hp)) kp2
    show wpAny _ A.in1 (holding [Value.ref p.1] (setAdd S (.ref p.1)) >>= _) _ _ s2
    unfold setAdd
    refine wpAny_bind (wpAny_holding (wpAny_holding (wpAny_bind ((nestedKind P w).pyHash hu hx ?_))))
    refine lay (s := { s2 with toks := s2.toks + p.2.draws }) R2 hx hu (by have := g.le; omega) fun b h3 L3 es3 ep3 t3 sb R3 c1 c2 => ?_
    have kp3 : ∀ b o, g0.get? b = some o → h3.get? b = some o := fun b o e => (sb.2 b fun z => by rw [z, s0] at e; cases e).trans (kp2 b o e)
    refine wpAny_pure ⟨plainId_quiet F.plain_set_update_loop _, ih (i + 1) _ (by omega) lt (W.frame _ s2 _ _ hst2 (Nat.le_add_right _ _) fun b mb o e => ?_) kp3 ⟨L3, es3, ep3, t3, R3, g.next hp c1 c2⟩
      fun s4 L4 es4 ep4 t4 mv4 R4 g4 kp4 => hR s4 L4 es4 ep4 t4 (Moved.trans W.gtrans ((mv.mono wider).then_heap (Nat.le_add_right _ _) fun b o nb e => ?_) mv4) R4 g4 kp4⟩
    · rw [sb.2 b fun z => nf (by rw [← z]; exact mb)]
      exact e
    · rw [sb.2 b fun z => nb (by rw [z]; exact List.mem_cons_self)]
      exact e

set_option maxHeartbeats 16000000 in
/-- set(a list of tuples) -/
theorem call_set_list {l : Addr} {items : Array Value} (ks : List Mem) {Q : Value → Shared → Prop} (hh : A.handled = none) (hl : s.heap.IsList l items) (it : items.toList = ks.map fun p => Value.ref p.1)
    (each : ∀ p ∈ ks, Kb P w s.heap p.2 p.1) (few : ks.length < 64) (hu : A.units + 20 < cLine)
    (h : ∀ (h2 : Heap) (tk : Nat) L es ep t, Tab P w h2 s.heap.objs.size L es ep t → In ks ks.length L → (∀ b o, s.heap.get? b = some o → h2.get? b = some o) → Q (.ref s.heap.objs.size) { s with heap := h2, toks := tk }) :
    wpAny (model P w) A (call (.type "set") [.ref l]) Q E s := by
  have isz : items.size = ks.length := by rw [← Array.length_toList, it, List.length_map]
  obtain ⟨mc, mt, mmro⟩ := F.called_set.mro
  have mmade := F.called_set.made
  have msub := F.called_set.sub
  refine wpAny_call (codeAny_of_tree ?_) <;> show wpAny _ _ (callAny (.type "set") _) _ _ _
  refine wpAny_pure ⟨Code.quiet_builtin _ (by decide +kernel), codeAny_builtin F.entry_type_call ?_⟩ <;> rw [Around.under_plain (weight_type_call_type "set" [.ref l] []) rfl]
  have m1 := F.called_set.notType
  have m2 := F.called_set.canCreate
  have m3 := F.typeCall_set_1 (.ref l)
  repeat (any_goals (first | assumption | wp_step))
  refine codeAny_mono (code_set_led1 (.ref l) (E := E) (Q₁ := fun obj s1 => obj = .ref s.heap.objs.size ∧ s1 = { s with heap := s.heap.push (newSet w) }) ⟨rfl, rfl⟩) fun r s1 hr => ?_
  match r, hr with
  | .error e, hr => exact hr
  | .ok (.ret obj), hr =>
    obtain ⟨rfl, rfl⟩ := hr
    have atS : (s.heap.push (newSet w)).get? s.heap.objs.size = some (newSet w) := Heap.get?_push_size _ rfl
    have tyS : Shared.TypeIs { s with heap := s.heap.push (newSet w) } (.ref s.heap.objs.size) "set" := ⟨_, atS, rfl⟩
    have m4 := F.called_set.init.lookup
    have m5 := F.called_set.init.bind (.ref s.heap.objs.size)
    repeat (any_goals (first | assumption | wp_step))
    refine codeAny_mono (codeAny_call_builtin (R := wants (fun r s2 => r = .none ∧ ∃ h2 tk L es ep t, s2 = { s with heap := h2, toks := tk } ∧ Tab P w h2 s.heap.objs.size L es ep t ∧ In ks ks.length L ∧
        (∀ b o, s.heap.get? b = some o → h2.get? b = some o)) E) F.called_set.init.plain F.entry_set_init (check_set_init_1 tyS ?_)) fun r2 s2 hr2 => ?_
    · obtain ⟨⟨_, odict, _, oslots⟩, hol, hcl, nl, hdl⟩ := hl
      simp only at hcl hdl
      subst hcl; subst hdl
      have hol2 : (s.heap.push (newSet w)).get? l = some { cls := .type "list", dict := odict, data := .seq items nl, slots := oslots } := Heap.get?_push_of_some _ hol
      have m6 := F.sub_list_set
      have m7 := F.sub_list_frozenset
      have m8 : (Value.type "list" == Value.type "dict") = false := by decide
      have hl1 : (s.heap.push (newSet w)).IsList l items := ⟨_, hol2, rfl, nl, rfl⟩
      unfold Builtin.«set.__init__» noKeywords Builtin.Frozenset.updateFrom
      generalize hPI : pyIter = PI
      wp_walk
      subst hPI
      refine wpAny_pyIter_list hl1 (wpAny_bind (wpAny_runValue ?_))
      have lS : l < s.heap.objs.size := Heap.lt_size hol
      have zS : (s.heap.push (newSet w)).objs.size = s.heap.objs.size + 1 := Heap.size_push ..
      have hh3 : A.in1.in1.in1.handled = none := by simp [hh]
      have nI : l ≠ (s.heap.push (newSet w)).objs.size := by rw [zS]; exact Nat.ne_of_lt (Nat.lt_succ_of_lt lS)
      have nf : s.heap.objs.size ∉ [(s.heap.push (newSet w)).objs.size, l] := by
        rw [zS]; simp only [List.mem_cons, List.not_mem_nil, or_false, not_or]
        exact ⟨Nat.ne_of_lt (Nat.lt_succ_self _), Nat.ne_of_gt lS⟩
      have val : ∀ (i : Nat) (v : Value), items[i]? = some v → ∃ p, ks[i]? = some p ∧ v = .ref p.1 := fun i v hv => by
        have q : items.toList[i]? = some v := by rw [Array.getElem?_toList]; exact hv
        rw [it, List.getElem?_map] at q
        obtain ⟨p, hp, e⟩ := Option.map_eq_some_iff.mp q
        exact ⟨p, hp, e.symm⟩
      have out : ∀ b, s.heap.objs.size ≤ b → s.heap.get? b = none := fun b hb => by
        cases q : s.heap.get? b with
        | none => rfl
        | some o => exact absurd (Nat.lt_of_lt_of_le (Heap.lt_size q) hb) (Nat.lt_irrefl _)
      refine loopN ((Walks.list hh3 _ l nI items).toS) s.heap.objs.size nf ks isz few val s.heap each (out _ (Nat.le_refl _)) (fun b mb => out b (by rw [List.mem_singleton.mp mb, zS]; exact Nat.le_succ _))
        (show A.units + 3 + 8 < cLine by omega) (items.size - 0) 0 _ (by omega) (Nat.zero_le _) ⟨⟨_, Heap.get?_push_size _ rfl, rfl, rfl⟩, (hl1.push _)⟩ (fun b o e => Heap.get?_push_of_some _ (Heap.get?_push_of_some _ e)) ?first ?last
      case first => exact ⟨[], #[], 0, _, Tab.new (Heap.get?_push_of_some _ atS), In.zero ks⟩
      case last =>
        rintro ⟨h2, g2, d2, tk2, os2⟩ L es ep t mv R2 g3 kp
        obtain rfl : g2 = s.gens := mv.gens
        obtain rfl : d2 = s.drawn := mv.drawn
        obtain rfl : os2 = s.os := mv.os
        rw [isz] at g3
        exact wpAny_pure (wpAny_pure ⟨rfl, h2, tk2, L, es, ep, t, rfl, R2, g3, kp⟩)
    · match r2, hr2 with
      | .error e, hr2 => exact hr2
      | .ok (.ret r), hr2 =>
        obtain ⟨rfl, h2, tk, L, es, ep, t, rfl, R2, g3, kp⟩ := hr2
        repeat (any_goals (first | assumption | wp_step))
        exact h _ _ _ _ _ _ R2 g3 kp

set_option maxHeartbeats 16000000 in
/-- set(a tuple of tuples) -/
theorem call_set_tuple {l : Addr} {items : Array Value} (ks : List Mem) {Q : Value → Shared → Prop} (hh : A.handled = none) (hl : s.heap.IsTuple l items) (it : items.toList = ks.map fun p => Value.ref p.1)
    (each : ∀ p ∈ ks, Kb P w s.heap p.2 p.1) (few : ks.length < 64) (hu : A.units + 20 < cLine)
    (h : ∀ (h2 : Heap) (tk : Nat) L es ep t, Tab P w h2 s.heap.objs.size L es ep t → In ks ks.length L → (∀ b o, s.heap.get? b = some o → h2.get? b = some o) → Q (.ref s.heap.objs.size) { s with heap := h2, toks := tk }) :
    wpAny (model P w) A (call (.type "set") [.ref l]) Q E s := by
  have isz : items.size = ks.length := by rw [← Array.length_toList, it, List.length_map]
  obtain ⟨mc, mt, mmro⟩ := F.called_set.mro
  have mmade := F.called_set.made
  have msub := F.called_set.sub
  refine wpAny_call (codeAny_of_tree ?_) <;> show wpAny _ _ (callAny (.type "set") _) _ _ _
  refine wpAny_pure ⟨Code.quiet_builtin _ (by decide +kernel), codeAny_builtin F.entry_type_call ?_⟩ <;> rw [Around.under_plain (weight_type_call_type "set" [.ref l] []) rfl]
  have m1 := F.called_set.notType
  have m2 := F.called_set.canCreate
  have m3 := F.typeCall_set_1 (.ref l)
  repeat (any_goals (first | assumption | wp_step))
  refine codeAny_mono (code_set_led1 (.ref l) (E := E) (Q₁ := fun obj s1 => obj = .ref s.heap.objs.size ∧ s1 = { s with heap := s.heap.push (newSet w) }) ⟨rfl, rfl⟩) fun r s1 hr => ?_
  match r, hr with
  | .error e, hr => exact hr
  | .ok (.ret obj), hr =>
    obtain ⟨rfl, rfl⟩ := hr
    have atS : (s.heap.push (newSet w)).get? s.heap.objs.size = some (newSet w) := Heap.get?_push_size _ rfl
    have tyS : Shared.TypeIs { s with heap := s.heap.push (newSet w) } (.ref s.heap.objs.size) "set" := ⟨_, atS, rfl⟩
    have m4 := F.called_set.init.lookup
    have m5 := F.called_set.init.bind (.ref s.heap.objs.size)
    repeat (any_goals (first | assumption | wp_step))
    refine codeAny_mono (codeAny_call_builtin (R := wants (fun r s2 => r = .none ∧ ∃ h2 tk L es ep t, s2 = { s with heap := h2, toks := tk } ∧ Tab P w h2 s.heap.objs.size L es ep t ∧ In ks ks.length L ∧
        (∀ b o, s.heap.get? b = some o → h2.get? b = some o)) E) F.called_set.init.plain F.entry_set_init (check_set_init_1 tyS ?_)) fun r2 s2 hr2 => ?_
    · obtain ⟨⟨_, odict, _, oslots⟩, hol, hcl, nl, hdl⟩ := hl
      simp only at hcl hdl
      subst hcl; subst hdl
      have hol2 : (s.heap.push (newSet w)).get? l = some { cls := .type "tuple", dict := odict, data := .seq items nl, slots := oslots } := Heap.get?_push_of_some _ hol
      have m6 := F.sub_tuple_set
      have m7 := F.sub_tuple_frozenset
      have m8 : (Value.type "tuple" == Value.type "dict") = false := by decide
      have hl1 : (s.heap.push (newSet w)).IsTuple l items := ⟨_, hol2, rfl, nl, rfl⟩
      unfold Builtin.«set.__init__» noKeywords Builtin.Frozenset.updateFrom
      generalize hPI : pyIter = PI
      wp_walk
      subst hPI
      refine wpAny_pyIter_tuple hl1 (wpAny_bind (wpAny_runValue ?_))
      have lS : l < s.heap.objs.size := Heap.lt_size hol
      have zS : (s.heap.push (newSet w)).objs.size = s.heap.objs.size + 1 := Heap.size_push ..
      have hh3 : A.in1.in1.in1.handled = none := by simp [hh]
      have nI : l ≠ (s.heap.push (newSet w)).objs.size := by rw [zS]; exact Nat.ne_of_lt (Nat.lt_succ_of_lt lS)
      have nf : s.heap.objs.size ∉ [(s.heap.push (newSet w)).objs.size, l] := by
        rw [zS]; simp only [List.mem_cons, List.not_mem_nil, or_false, not_or]
        exact ⟨Nat.ne_of_lt (Nat.lt_succ_self _), Nat.ne_of_gt lS⟩
      have val : ∀ (i : Nat) (v : Value), items[i]? = some v → ∃ p, ks[i]? = some p ∧ v = .ref p.1 := fun i v hv => by
        have q : items.toList[i]? = some v := by rw [Array.getElem?_toList]; exact hv
        rw [it, List.getElem?_map] at q
        obtain ⟨p, hp, e⟩ := Option.map_eq_some_iff.mp q
        exact ⟨p, hp, e.symm⟩
      have out : ∀ b, s.heap.objs.size ≤ b → s.heap.get? b = none := fun b hb => by
        cases q : s.heap.get? b with
        | none => rfl
        | some o => exact absurd (Nat.lt_of_lt_of_le (Heap.lt_size q) hb) (Nat.lt_irrefl _)
      refine loopN ((Walks.tuple hh3 _ l nI items).toS) s.heap.objs.size nf ks isz few val s.heap each (out _ (Nat.le_refl _)) (fun b mb => out b (by rw [List.mem_singleton.mp mb, zS]; exact Nat.le_succ _))
        (show A.units + 3 + 8 < cLine by omega) (items.size - 0) 0 _ (by omega) (Nat.zero_le _) ⟨⟨_, Heap.get?_push_size _ rfl, rfl, rfl⟩, (hl1.push _)⟩ (fun b o e => Heap.get?_push_of_some _ (Heap.get?_push_of_some _ e)) ?first ?last
      case first => exact ⟨[], #[], 0, _, Tab.new (Heap.get?_push_of_some _ atS), In.zero ks⟩
      case last =>
        rintro ⟨h2, g2, d2, tk2, os2⟩ L es ep t mv R2 g3 kp
        obtain rfl : g2 = s.gens := mv.gens
        obtain rfl : d2 = s.drawn := mv.drawn
        obtain rfl : os2 = s.os := mv.os
        rw [isz] at g3
        exact wpAny_pure (wpAny_pure ⟨rfl, h2, tk2, L, es, ep, t, rfl, R2, g3, kp⟩)
    · match r2, hr2 with
      | .error e, hr2 => exact hr2
      | .ok (.ret r), hr2 =>
        obtain ⟨rfl, h2, tk, L, es, ep, t, rfl, R2, g3, kp⟩ := hr2
        repeat (any_goals (first | assumption | wp_step))
        exact h _ _ _ _ _ _ R2 g3 kp
end
end L2.NSet
set_option Elab.async false
set_option linter.all false
set_option maxRecDepth 100000
set_option maxHeartbeats 4000000
/-! Sorting tuples of which some may be empty. -/
namespace L2.SortT
open PySem PySem.Spec PySem.Calls PyProof.Rows PySem.W PySem.SeqAt
section
variable {P : Program} {w : World} {A : Around} {E : Value → Shared → Prop} {s : Shared}
theorem call_tuple_lt {Q : Value → Shared → Prop} {l b : Addr} {items items2 : Array Value} {e r : Nat → Bool} (hl : s.heap.IsTuple l items) (hb : s.heap.IsTuple b items2)
    (he : ∀ j (h1 : j < items.size) (h2 : j < items2.size), EqAt A.in1 s items[j] items2[j] (e j)) (hr : ∀ j (h1 : j < items.size) (h2 : j < items2.size), e j = false → RcLt A.in1 s items[j] items2[j] (r j))
    (h : Q (.bool (firstLt e r (decide (items.size < items2.size)) (List.range (min items.size items2.size)))) s) : wpAny (model P w) A (call (.builtin "tuple.__lt__") [.ref l, .ref b]) Q E s := by
  obtain ⟨⟨c1, d1, p1, s1⟩, ho1, hc1, n1, hd1⟩ := hl
  obtain ⟨⟨c2, d2, p2, s2⟩, ho2, hc2, n2, hd2⟩ := hb
  simp only at hc1 hd1 hc2 hd2
  subst hc1 hd1 hc2 hd2
  exact call_meets F.slot_tuple_lt ⟨_, ho1, rfl⟩ F.entry_tuple_lt (F.args_tuple_lt_2 _ _) (tuple_ltAt l b items items2 n1 n2 d1 d2 s1 s2 e r) ⟨ho1, ho2, he, hr, h⟩
/-- one tuple against another, as tuples of one type are asked -/
theorem oneLt_tup {xs ys : List PyData} {a b : Value} {as bs : List Addr} {Q : Bool → Shared → Prop} (ra : Reads s.heap a (.tuple xs) as) (rb : Reads s.heap b (.tuple ys) bs) (hal : alikeAll xs ys = true)
    (hu : A.units + min (PyData.tuple xs).depth (PyData.tuple ys).depth < cLine) (hq : Q (dataLt (.tuple xs) (.tuple ys)) s) : wpAny (model P w) A (oneLt' true a b) Q E s := by
  cases ra with
  | @tuple l o vs n _ as1 h1 h2 h3 h4 =>
    cases rb with
    | @tuple l2 o2 vs2 n2 _ bs1 k1 k2 k3 k4 =>
      have z1 : vs.size = xs.length := by simpa using SeqAt.ReadsAll.length _ _ _ h4
      have z2 : vs2.size = ys.length := by simpa using SeqAt.ReadsAll.length _ _ _ k4
      rw [dataLt_tuple, ← firstLt_toks xs ys hal, ← z1, ← z2] at hq
      rw [oneLt'_eq]
      simp only [if_true]
      refine wpAny_bind (wpAny_cRoomFor (SeqAt.room_here hu) ?_)
      refine wpAny_bind (wpAny_callSpecialIfBound?_slot (T := "tuple") ⟨_, h1, h2⟩ F.slot_tuple_lt (call_tuple_lt (e := pairEq xs ys) (r := fun j => dataLt (xs.getD j .none) (ys.getD j .none)) ⟨_, h1, h2, _, h3⟩ ⟨_, k1, k2, _, k3⟩
        (fun j j1 j2 => ?_) (fun j j1 j2 hj => ?_) (wpAny_truthy_bool hq)))
      · have q := eqAt_alikeAll xs ys A.in1 s vs.toList vs2.toList _ _ h4 k4 hal (SeqAt.room_in hu) j (by simpa using j1) (by simpa using j2)
        simpa using q
      · have q := rcLt_alikeAll xs ys A.in1 s vs.toList vs2.toList _ _ h4 k4 hal (SeqAt.room_in hu) j (by simpa using j1) (by simpa using j2) hj
        simpa using q
/-- the first items of tuples -/
inductive Fsts (h : Heap) : List Value → List (Option Value) → Prop
  | nil : Fsts h [] []
  | cons {a : Addr} {o : Obj} {xs : Array Value} {n : Nat} {vs : List Value} {os : List (Option Value)} : h.get? a = some o → o.cls = .type "tuple" → o.data = .seq xs n → Fsts h vs os → Fsts h (.ref a :: vs) (xs[0]? :: os)
theorem fsts_of {h : Heap} : ∀ {vs : List Value} {ds : List PyData}, EachIs (fun v d => ∃ as, Reads h v d as) vs ds → (∀ d ∈ ds, ∃ xs, d = .tuple xs) →
    ∃ os, Fsts h vs os ∧ ((os.all fun o => o.isSome) = true → ∀ d ∈ ds, ∃ x r, d = .tuple (x :: r))
  | [], _, .nil, _ => ⟨[], .nil, fun _ d m => nomatch m⟩
  | v :: vs, d :: ds, .cons r e, ht => by
    obtain ⟨os, f, g⟩ := fsts_of e fun d m => ht d (List.mem_cons_of_mem _ m)
    obtain ⟨xs, rfl⟩ := ht d List.mem_cons_self
    obtain ⟨as, r⟩ := r
    cases r with
    | @tuple _ _ vs2 _ _ _ h1 h2 h3 h4 =>
      refine ⟨_, .cons h1 h2 h3 f, fun al d m => ?_⟩
      rw [List.all_cons, Bool.and_eq_true] at al
      rcases List.mem_cons.mp m with rfl | m
      · have z : vs2.size = xs.length := by simpa using SeqAt.ReadsAll.length _ _ _ h4
        have q : 0 < vs2.size := by
          cases k : vs2.size with
          | zero =>
            have e0 : vs2[0]? = none := Array.getElem?_eq_none (by omega)
            rw [e0] at al
            cases al.1
          | succ n => exact Nat.succ_pos n
        cases xs with
        | nil =>
          rw [List.length_nil] at z
          omega
        | cons x r => exact ⟨x, r, rfl⟩
      · exact g al.2 d m
theorem fsts_ask {M : Model} {A : Around} {E : Value → Shared → Prop} : ∀ {vs : List Value} {os : List (Option Value)} {s : Shared} {Q : List (Option Value) → Shared → Prop}, Fsts s.heap vs os → Q os s → wpAny M A (vs.mapM firstOfTuple') Q E s
  | [], _, s, Q, .nil, h => by
    rw [List.mapM_nil]
    exact wpAny_pure h
  | _ :: vs, _, s, Q, .cons (a := a) (o := o) (os := os) h1 h2 h3 t, h => by
    rw [List.mapM_cons]
    refine wpAny_bind ?_
    rw [kas_first_eq]
    refine wpAny_bind (Looks.here (show Looks M s.heap (typeOf (.ref a)) o.cls from (Looks.ld h1).andThen .now) ?_)
    rw [h2, if_neg (by first | decide | simp)]
    refine wpAny_bind (listItems_at h1 h3 (wpAny_pure ?_))
    exact wpAny_bind (fsts_ask (Q := fun bs s2 => wpAny M A (pure (_ :: bs)) Q E s2) t (wpAny_pure h))
theorem looks_tup {h : Heap} {M : Model} : ∀ {vs : List Value} {os : List (Option Value)}, Fsts h vs os → ∀ v ∈ vs, Looks M h (typeOf v) (.type "tuple")
  | _ :: vs, _, .cons h1 h2 h3 t, v, m => by
    rcases List.mem_cons.mp m with rfl | m
    · rw [← h2]
      exact (Looks.ld h1).andThen .now
    · exact looks_tup t v m
/-- what kind of keys they are, where some are empty -/
theorem fsts_kind {vs : List Value} {os : List (Option Value)} {M : Model} {Q : SortKind → Shared → Prop} (f : Fsts s.heap vs os) (ne : vs ≠ []) (no : (os.all fun o => o.isSome) = false)
    (h : Q (if (os[0]?.bind id).isSome = true then general' else oneType') s) : wpAny M A (keyKind' vs.toArray) Q E s := by
  rw [kat_kind_eq, List.mapM_toArray, map_eq_pure_bind]
  refine wpAny_bind (wpAny_bind (fsts_ask f (wpAny_pure ?_)))
  have e1 : (os.toArray.all fun x => x.isSome) = false := by simpa using no
  rw [e1, if_neg Bool.false_ne_true]
  have e2 : os.toArray[0]? = os[0]? := by simp
  rw [e2]
  cases e3 : (os[0]?.bind id).isSome with
  | true =>
    rw [e3, if_pos rfl] at h
    rw [if_pos rfl]
    exact wpAny_pure h
  | false =>
    rw [e3, if_neg Bool.false_ne_true] at h
    rw [if_neg Bool.false_ne_true]
    rw [oneTypeOnly'_eq, List.mapM_toArray, map_eq_pure_bind]
    refine wpAny_bind (wpAny_bind (wpAny_bind (kas_mapM (r := Value.type "tuple") _ (fun v hv Q2 hq => (looks_tup f v hv).here hq) (wpAny_pure ?_))))
    have al : ((List.map (fun _ => Value.type "tuple") vs).toArray.all fun x => x == Value.type "tuple") = true := by
      simp only [List.all_toArray, List.all_map, List.all_eq_true]
      intro _ _
      exact beq_self_eq_true _
    have h0 : (List.map (fun _ => Value.type "tuple") vs).toArray[0]? = some (Value.type "tuple") := by
      cases vs with
      | nil => exact absurd rfl ne
      | cons v vs => simp
    rw [h0]
    simp only [al, if_true]
    exact wpAny_pure (wpAny_pure h)
/-- tuples that read as alike data can be sorted -/
theorem sorts_tups {vs : List Value} {ds : List PyData} (e : EachIs (fun v d => ∃ as, Reads s.heap v d as) vs ds) (hal : AllAlike ds) (ht : ∀ d ∈ ds, ∃ xs, d = .tuple xs) (hu : ∀ d, d ∈ ds → A.units + d.depth < cLine) :
    SortsAt P w A s (dataKind s.heap ds) vs := by
  obtain ⟨os, f, g⟩ := fsts_of e ht
  cases al : (os.all fun o => o.isSome) with
  | true => exact SortsAt.data e hal (.inl (g al)) hu
  | false =>
    refine ⟨fun v hv => ?_, if (os[0]?.bind id).isSome = true then general' else oneType', ?_, fun h2 E Q hq => ?_⟩
    · obtain ⟨d, hd, as, r⟩ := e.left v hv
      exact ⟨_, dataKind_some hal hd r⟩
    · intro E x y a b Q ha hb hq
      obtain ⟨d, as, hd, ra, rfl⟩ := dataKind_inv ha
      obtain ⟨d2, as2, hd2, rb, rfl⟩ := dataKind_inv hb
      obtain ⟨xs, rfl⟩ := ht d hd
      obtain ⟨ys, rfl⟩ := ht d2 hd2
      have hdd := hal _ hd _ hd2
      have room : A.units + min (PyData.tuple xs).depth (PyData.tuple ys).depth < cLine := Nat.lt_of_le_of_lt (Nat.add_le_add_left (Nat.min_le_left _ _) _) (hu _ hd)
      split
      · show wpAny (model P w) A (oneLt' false x y) Q E s
        exact oneLt_alike (f := false) (fun z => nomatch z) ra rb hdd (fun z => nomatch z) room hq
      · rw [keyLt'_oneType]
        exact oneLt_tup ra rb (by simpa [alike] using hdd) room hq
    · refine fsts_kind f (fun z => ?_) al hq
      rw [z] at h2
      simp at h2
end
end L2.SortT
set_option Elab.async false
set_option linter.all false
set_option maxRecDepth 100000
set_option maxHeartbeats 4000000
/-! Lists and sets of nested data, sorted; sets of tuples as tracked things. -/
namespace L2.NSet
open PySem PySem.Spec PyProof.Rows L2.SortT
section
variable {P : Program} {w : World} {A : Around} {E : Value → Shared → Prop} {s : Shared} {β : Type} {vs : List Value} {bs : List β} {enc : β → PyData} {R : Value → β → Prop}
open PySem.W PySem.SeqAt
/-- what can be sorted: as the library says, or tuples, empty ones too -/
def Srtb (ds : List PyData) : Prop := PySem.W.Sortable ds ∨ ∀ d ∈ ds, ∃ xs, d = .tuple xs
theorem sorts_any {ds : List PyData} (e : EachIs (fun v d => ∃ as, Reads s.heap v d as) vs ds) (hal : AllAlike ds) (hk : Srtb ds) (hu : ∀ d, d ∈ ds → A.units + d.depth < cLine) : SortsAt P w A s (dataKind s.heap ds) vs :=
  hk.elim (fun k => SortsAt.data e hal k hu) fun k => sorts_tups e hal k hu
theorem sorted_any {l : Addr} {Q : Value → Shared → Prop} (hl : s.heap.IsList l vs.toArray) (e : EachIs R vs bs) (er : EachIs (fun v b => ∃ as, Reads s.heap v (enc b) as) vs bs) (hal : AllAlike (bs.map enc)) (hk : Srtb (bs.map enc)) (hL : bs.length ≤ sizeLine)
    (hu : ∀ b, b ∈ bs → A.units + 2 + (enc b).depth < cLine) (h : ∀ out, out.length = bs.length → EachIs R out (bs.mergeSort (dataLe false enc)) → Q (.ref (s.heap.objs.size + 1)) { s with heap := sortedAll s.heap vs (List.toArray out) }) :
    wpAny (model P w) A (call (.builtin "sorted") [.ref l]) Q E s := by
  have er2 : EachIs (fun v b => ∃ as, Reads (sortingHeap (copyHeap s.heap vs) (s.heap.objs.size + 1) vs) v (enc b) as) vs bs := er.mono fun _ _ ⟨as, r⟩ => ⟨as, PyProof.Rows.Reads.keeps (fun _ _ => sorting_copy_old) r⟩
  refine sorted_vals hl (sorts_any (s := { s with heap := sortingHeap (copyHeap s.heap vs) (s.heap.objs.size + 1) vs }) (each_map (R := fun v d => ∃ as, Reads (sortingHeap (copyHeap s.heap vs) (s.heap.objs.size + 1) vs) v d as) enc er2) hal hk (bound_map hu)) ?_
    (h _ ?_ (sortVals_data false e er2 hal))
  · rw [e.length]
    exact hL
  · rw [sortVals_length false rfl]
    exact e.length
theorem list_sort_any2 {a : Addr} {n : Nat} {Q : Value → Shared → Prop} (ho : s.heap.get? a = some (seqObj "list" vs.toArray n)) (e : EachIs R vs bs) (er : EachIs (fun v b => ∃ as, Reads s.heap v (enc b) as ∧ a ∉ as) vs bs) (hal : AllAlike (bs.map enc)) (hk : Srtb (bs.map enc)) (hL : bs.length ≤ sizeLine)
    (hu : ∀ b, b ∈ bs → A.units + 1 + (enc b).depth < cLine) (h : ∀ out, out.length = bs.length → EachIs R out (bs.mergeSort (dataLe false enc)) → Q .none { s with heap := sortedHeap s.heap a vs (List.toArray out) }) :
    wpAny (model P w) A (call (.builtin "list.sort") [.ref a]) Q E s := by
  have er2 : EachIs (fun v b => ∃ as, Reads (sortingHeap s.heap a vs) v (enc b) as) vs bs := each_keepBut (h' := sortingHeap s.heap a vs) (fun _ _ hb q => sortingHeap_old hb q) (fun o q => by rw [ho] at q; rw [← Option.some.inj q]) hal er
  refine wpAny_call_entry slot_list_sort ⟨_, ho, rfl⟩ entry_list_sort (list_sort_vals (κ := dataKind (sortingHeap s.heap a vs) (bs.map enc)) ho (sorts_any (s := { s with heap := sortingHeap s.heap a vs })
    (each_map (R := fun v d => ∃ as, Reads (sortingHeap s.heap a vs) v d as) enc er2) hal hk (bound_map hu)) ?_ ⟨.none, rfl, ?_⟩) (args_list_sort _)
  · rw [e.length]
    exact hL
  · refine h _ ?_ (sortVals_data false e er2 hal)
    rw [sortVals_length false rfl]
    exact e.length
/-- rising -/
def Rise (enc : β → PyData) (l : List β) : Prop := l.Pairwise fun a b => dataLe false enc a b = true
theorem rise_sort (l : List β) : Rise enc (l.mergeSort (dataLe false enc)) := sort_pairwise (sortLe_total _ false _) l
theorem eachIs_mem {α γ : Type} {R : α → γ → Prop} : ∀ {xs : List α} {ys : List γ}, EachIs R xs ys → ∀ y ∈ ys, ∃ x ∈ xs, R x y
  | _, _, .nil, y, m => nomatch m
  | _, _, .cons r e, y, m => by
    rcases List.mem_cons.mp m with rfl | m
    · exact ⟨_, List.mem_cons_self, r⟩
    · obtain ⟨x, mx, rx⟩ := eachIs_mem e y m
      exact ⟨x, List.mem_cons_of_mem _ mx, rx⟩
theorem vals_each : ∀ {xs : List (V × PyData)} {us : List Value}, Vals (xs.map Prod.fst) us → EachIs (fun v (b : V × PyData) => RelV b.1 v) us xs
  | [], _, .nil => .nil
  | _ :: _, _, .cons r t => .cons r (vals_each t)
theorem each_vals : ∀ {xs : List (V × PyData)} {us : List Value}, EachIs (fun v (b : V × PyData) => RelV b.1 v) us xs → Vals (xs.map Prod.fst) us
  | [], _, .nil => .nil
  | _ :: _, _, .cons r t => .cons r (each_vals t)
end
section
variable {X : Cx} {pins : List (Addr × Obj)} {σ : L2.St} {H : Hp} {s : Shared}
open PySem.W
theorem each_reads (I : Inv X pins σ H s) : ∀ {xs : List (V × PyData)} {us : List Value}, (∀ x ∈ xs, Dp X.K H x.1 x.2) → Vals (xs.map Prod.fst) us → EachIs (fun v (b : V × PyData) => ∃ as, Reads s.heap v b.2 as) us xs
  | [], _, _, .nil => .nil
  | x :: xs, _, h, .cons r t => .cons (Dp.reads I x.2 x.1 _ (h x List.mem_cons_self) r) (each_reads I (fun y m => h y (List.mem_cons_of_mem _ m)) t)
/-- sorted(a list of nested data) -/
def rSortD (K : PySem.W.Frag) : List V → Hp → VK → Prop := fun vs H Q => ∃ (a : Addr) (xs : List (V × PyData)), vs = [V.ref a] ∧ SqL K H a (xs.map Prod.fst) ∧ (∀ x ∈ xs, Dp K H x.1 x.2) ∧ AllAlike (xs.map Prod.snd) ∧ Srtb (xs.map Prod.snd) ∧ xs.length ≤ 1000 ∧
  (∀ x ∈ xs, x.2.depth ≤ 40) ∧ ∀ (ys : List (V × PyData)) (p : Addr), ys.Perm xs → Rise Prod.snd ys → H p = none → Q (.ref p) (upd H p (.lst (ys.map Prod.fst)))
theorem cr_sortD (hu : X.A.units + 64 < cLine) : CallR X (.builtin "sorted") (rSortD X.K) := by
  intro pins s σ H vs us Q I r h
  obtain ⟨a, xs, rfl, ha, hd, hal, hk, few, dp, q⟩ := h
  rw [Vals.ref1 r]
  obtain ⟨its, rv, pl, hz⟩ := I.list ha
  have hl : s.heap.IsList a its.toArray := pl.isList
  refine sorted_any (R := fun v (b : V × PyData) => RelV b.1 v) (bs := xs) (enc := Prod.snd) hl (vals_each rv) (each_reads I hd rv) hal hk (Nat.le_trans few (by rw [sizeLine_eq]; decide)) (fun b m => by have := dp b m; omega) fun out lo eo => ?_
  have pm := List.mergeSort_perm xs (dataLe false Prod.snd)
  have hn : H (s.heap.objs.size + 1) = none := I.hok.fresh (Nat.le_succ _)
  have fit : ((xs.mergeSort (dataLe false Prod.snd)).map Prod.fst).length ≤ sizeLine := by
    rw [List.length_map, pm.length_eq, sizeLine_eq]
    omega
  obtain ⟨c, hc⟩ := sortedAll_at s.heap its out.toArray
  refine ⟨.ref (s.heap.objs.size + 1), upd H (s.heap.objs.size + 1) (.lst ((xs.mergeSort (dataLe false Prod.snd)).map Prod.fst)), I.laid (t' := s.toks) (fun b o e => sortedAll_old e) (Nat.le_succ _) ⟨fit, out, c, each_vals eo, hc⟩, rfl, q _ _ pm (rise_sort xs) hn⟩
end
end L2.NSet
set_option Elab.async false
set_option linter.all false
set_option maxRecDepth 100000
set_option maxHeartbeats 4000000
/-! Sets of tuples as tracked things: made of a list or a tuple, sorted. -/
namespace L2.NSet
open PySem PySem.Spec PyProof.Rows L2.SortT PySem.W
/-- the set at a, its members' tuples apart -/
structure Tab0 (P : Program) (w : World) (h : Heap) (a : Addr) (L : List Mem) : Prop where
  ex : ∃ (es : Array (Int × Value)) (ep : Nat) (t : SetTable), (∃ o, h.get? a = some o ∧ o.ExactSet ∧ o.data = .set es ep t) ∧ es.toList = L.map (rowN w) ∧ TabOk t (L.map fun p => p.2.hash w) ∧ (L.map (·.2)).Nodup ∧
    (w.params.followText "set-order" = true ∨ t.led = true) ∧ L.length * 5 < t.mask * 3 ∧ L.length < 64
def SetN (P : Program) (w : World) (a : Addr) (L : List Mem) : HO := .ext fun h => Tab0 P w h a L
section
variable {P : Program} {w : World} {h : Heap} {H : Hp} {a : Addr} {L : List Mem} {es : Array (Int × Value)} {ep : Nat} {t : SetTable}
theorem Tab.t0 (R : Tab P w h a L es ep t) : Tab0 P w h a L := ⟨es, ep, t, R.here, R.rows, R.lay, R.once, R.told, R.free, R.few⟩
theorem Tab0.full (R : Tab0 P w h a L) (each : ∀ p ∈ L, Kb P w h p.2 p.1) : ∃ es ep t, Tab P w h a L es ep t := by
  obtain ⟨es, ep, t, h1, h2, h3, h4, h5, h6, h7⟩ := R.ex
  exact ⟨es, ep, t, h1, h2, h3, h4, each, h5, h6, h7⟩
theorem setN_new (R : Tab0 P w h a L) : ObjOk P w H h a (SetN P w a L) := by
  have ⟨es, ep, t, ⟨o, ho, r⟩, q⟩ := R.ex
  refine ⟨R, ⟨o, ho⟩, fun h1 h2 p k => ?_⟩
  have ⟨es2, ep2, t2, ⟨o2, ho2, r2⟩, q2⟩ := Tab0.ex p
  exact ⟨es2, ep2, t2, ⟨o2, k o2 ho2, r2⟩, q2⟩
theorem refs_vals : ∀ {ks : List Mem} {us : List Value}, Vals (ks.map fun p => V.ref p.1) us → us = ks.map fun p => Value.ref p.1
  | [], _, .nil => rfl
  | p :: ks, _, .cons r t => by
    cases r
    rw [refs_vals t]
    rfl
theorem vals_refs : ∀ (ks : List Mem), Vals (ks.map fun p => V.ref p.1) (ks.map fun p => Value.ref p.1)
  | [] => .nil
  | p :: ks => .cons rfl (vals_refs ks)
theorem perm_lift {α γ : Type} (f : α → γ) : ∀ {vs : List γ} {L : List α}, vs.Perm (L.map f) → ∃ M : List α, M.Perm L ∧ vs = M.map f
  | [], [], pm => ⟨[], List.Perm.refl _, rfl⟩
  | [], x :: L, pm => by
    have e := pm.length_eq
    cases e
  | v :: vs, L, pm => by
    have m : v ∈ L.map f := pm.mem_iff.mp List.mem_cons_self
    obtain ⟨x, mx, rfl⟩ := List.mem_map.mp m
    obtain ⟨l1, l2, rfl⟩ := List.append_of_mem mx
    have q : (f x :: vs).Perm (f x :: (l1 ++ l2).map f) := by
      refine pm.trans ?_
      rw [List.map_append, List.map_cons, List.map_append]
      exact List.perm_middle
    obtain ⟨M, pM, e⟩ := perm_lift f (List.Perm.cons_inv q)
    exact ⟨x :: M, (List.Perm.cons x pM).trans List.perm_middle.symm, by rw [e]; rfl⟩
end
section
variable {X : Cx} {pins : List (Addr × Obj)} {σ : L2.St} {H : Hp} {s : Shared}
mutual
theorem nest_of (I : Inv X pins σ H s) : ∀ (k : NestedKey) (x : V) (v : Value), Dp X.K H x k.data → RelV x v → NestedIs s.heap k v
  | .none, x, v, d, r => by
    cases d
    cases r
    exact .none
  | .num i, x, v, d, r => by
    cases d
    obtain ⟨t, rfl⟩ := r
    exact .int i t
  | .text z, x, v, d, r => by
    cases d
    obtain ⟨t, rfl⟩ := r
    exact .text z t
  | .tup ks, x, v, d, r => by
    have d : Dp X.K H x (.tuple (NestedKey.datas ks)) := d
    cases d with
    | tup hq ha =>
      cases r
      obtain ⟨its, rv, ⟨o, ho, hc, n, hd⟩, _⟩ := I.tuple hq
      exact .tup ho hc hd (by simpa using nests_of I ks _ its ha rv)
theorem nests_of (I : Inv X pins σ H s) : ∀ (ks : List NestedKey) (xs : List V) (us : List Value), DpAll X.K H xs (NestedKey.datas ks) → Vals xs us → NestedAll s.heap ks us
  | [], xs, us, d, r => by
    cases d
    cases r
    exact .nil
  | k :: ks, xs, us, d, r => by
    have d : DpAll X.K H xs (k.data :: NestedKey.datas ks) := d
    cases d with
    | cons d1 d2 =>
      cases r with
      | cons r1 r2 => exact .cons (nest_of I k _ _ d1 r1) (nests_of I ks _ _ d2 r2)
end
/-- a tuple of references that has no dict of its own, as a thing of the heap alone -/
def PTu (a : Addr) (ts : List Addr) : HO := .ext fun h => ∃ o n, h.get? a = some o ∧ o.cls = .type "tuple" ∧ o.dict = none ∧ o.data = .seq (ts.map Value.ref).toArray n
/-- a tuple of pairs of texts -/
def PtOk (H : Hp) (p : Mem) : Prop := ∃ (ts : List Addr) (ks : List (Str × Str)), H p.1 = some (PTu p.1 ts) ∧ p.2 = .tup (ks.map fun q => .tup [.text q.1, .text q.2]) ∧ Paired (fun t (q : Str × Str) => H t = some (.tup [.str q.1, .str q.2])) ts ks
theorem pt_pairs (I : Inv X pins σ H s) : ∀ {ts : List Addr} {ks : List (Str × Str)}, Paired (fun t (q : Str × Str) => H t = some (.tup [.str q.1, .str q.2])) ts ks →
    NestedAll s.heap (ks.map fun q => .tup [.text q.1, .text q.2]) (ts.map Value.ref) ∧ PySem.ReadsAll s.heap (ts.map Value.ref) (NestedKey.datas (ks.map fun q => .tup [.text q.1, .text q.2])) []
  | _, _, .nil => ⟨.nil, .nil⟩
  | _, _, .cons (a := t) (b := q) h r => by
    obtain ⟨its, rv, ⟨o, ho, hc, n, hd⟩, _⟩ := I.tuple (SqT.of h)
    obtain ⟨i1, i2⟩ := pt_pairs I r
    cases rv with
    | cons r1 r2 =>
      cases r2 with
      | cons r2 r3 =>
        cases r3
        obtain ⟨t1, rfl⟩ := r1
        obtain ⟨t2, rfl⟩ := r2
        refine ⟨.cons (.tup ho hc hd (.cons (.text _ _) (.cons (.text _ _) .nil))) i1, .cons (as := []) (bs := []) ?_ i2⟩
        exact .tuple ho hc hd (.cons (as := []) (bs := []) (.str _ _) (.cons (as := []) (bs := []) (.str _ _) .nil))
/-- the member p stands in its tuple -/
def MemOk (K : PySem.W.Frag) (H : Hp) (p : Mem) : Prop := (Dp K H (.ref p.1) p.2.data ∨ PtOk H p) ∧ p.2.depth ≤ 8
theorem pt_both (I : Inv X pins σ H s) {p : Mem} (m : PtOk H p) : NestedIs s.heap p.2 (.ref p.1) ∧ PySem.Reads s.heap (.ref p.1) p.2.data [] := by
  obtain ⟨ts, ks, h, e, pr⟩ := m
  obtain ⟨o, n, ho, hc, hdn, hd⟩ := (show ∃ o n, s.heap.get? p.1 = some o ∧ o.cls = .type "tuple" ∧ o.dict = none ∧ o.data = .seq (ts.map Value.ref).toArray n from (I.hok p.1 _ h).1)
  obtain ⟨i1, i2⟩ := pt_pairs I pr
  rw [e]
  exact ⟨.tup ho hc hd (by simpa using i1), .tuple ho hc hd (by simpa using i2)⟩
theorem kb_of (I : Inv X pins σ H s) {p : Mem} (m : MemOk X.K H p) : Kb X.prog X.w s.heap p.2 p.1 := by
  rcases m.1 with d | d
  · exact ⟨nest_of I p.2 _ _ d rfl, m.2⟩
  · exact ⟨(pt_both I d).1, m.2⟩
/-- set(xs) -/
def rSetN (K : PySem.W.Frag) (P : Program) (w : World) : List V → Hp → VK → Prop := fun xs H Q => ∃ (l : Addr) (ks : List Mem), xs = [V.ref l] ∧ (SqL K H l (ks.map fun p => V.ref p.1) ∨ SqT K H l (ks.map fun p => V.ref p.1)) ∧ (∀ p ∈ ks, MemOk K H p) ∧ ks.length < 64 ∧
  ∀ a L, H a = none → (∀ p ∈ L, p ∈ ks) → (∀ p ∈ ks, p.2 ∈ L.map (·.2)) → (L.map (·.2)).Nodup → Q (.ref a) (upd H a (SetN P w a L))
theorem cr_setN (hc : X.calm = true) (hu : X.A.units + 64 < cLine) : CallR X (.type "set") (rSetN X.K X.prog X.w) := by
  intro pins s σ H xs us Q I r h
  obtain ⟨l, ks, rfl, hl, hk, few, q⟩ := h
  rw [Vals.ref1 r]
  have hn : H s.heap.objs.size = none := I.hok.fresh (Nat.le_refl _)
  have fin : ∀ (h2 : Heap) (tk : Nat) L es ep t, Tab X.prog X.w h2 s.heap.objs.size L es ep t → In ks ks.length L → (∀ b o, s.heap.get? b = some o → h2.get? b = some o) →
      ∃ y H2, Inv X pins σ H2 { s with heap := h2, toks := tk } ∧ RelV y (.ref s.heap.objs.size) ∧ Q y H2 := fun h2 tk L es ep t R g k =>
    ⟨.ref s.heap.objs.size, upd H s.heap.objs.size (SetN X.prog X.w s.heap.objs.size L), I.laid (t' := tk) k (Nat.le_refl _) (setN_new R.t0), rfl,
      q _ L hn (fun p m => List.mem_of_mem_take (g.from_ p m)) (fun p m => g.to_ p (by rw [List.take_length]; exact m)) R.once⟩
  rcases hl with hl | hl
  · obtain ⟨its, rv, pl, hz⟩ := I.list hl
    exact call_set_list (P := X.prog) (w := X.w) ks (I.ok.hd hc) pl.isList (by simpa using refs_vals rv) (fun p m => kb_of I (hk p m)) few (by omega) fin
  · obtain ⟨its, rv, ⟨o, ho, hcl, n, hd⟩, hz⟩ := I.tuple hl
    exact call_set_tuple (P := X.prog) (w := X.w) ks (I.ok.hd hc) ⟨o, ho, hcl, n, hd⟩ (by simpa using refs_vals rv) (fun p m => kb_of I (hk p m)) few (by omega) fin
/-- sorted(a set of tuples) -/
def rSortN (K : PySem.W.Frag) (P : Program) (w : World) : List V → Hp → VK → Prop := fun vs H Q => ∃ (a : Addr) (L : List Mem), vs = [V.ref a] ∧ H a = some (SetN P w a L) ∧ (∀ p ∈ L, MemOk K H p) ∧ AllAlike (L.map fun p => p.2.data) ∧
  (∀ p ∈ L, ∃ ks, p.2 = .tup ks) ∧ (∀ p ∈ L, p.2.data.depth ≤ 40) ∧ ∀ (M : List Mem) (p : Addr), M.Perm L → Rise (fun p : Mem => p.2.data) M → H p = none → Q (.ref p) (upd H p (.lst (M.map fun p => V.ref p.1)))
mutual
theorem reads_nest {h : Heap} : ∀ (k : NestedKey) (v : Value) (as : List Addr), PySem.Reads h v k.data as → as = []
  | .none, _, _, x => by
    cases x
    rfl
  | .num i, _, _, x => by
    cases x
    rfl
  | .text z, _, _, x => by
    cases x
    rfl
  | .tup ks, _, _, x => by
    have x : PySem.Reads h _ (.tuple (NestedKey.datas ks)) _ := x
    cases x with
    | tuple h1 h2 h3 h4 => exact reads_nests ks _ _ h4
theorem reads_nests {h : Heap} : ∀ (ks : List NestedKey) (vs : List Value) (as : List Addr), PySem.ReadsAll h vs (NestedKey.datas ks) as → as = []
  | [], _, _, x => by
    cases x
    rfl
  | k :: ks, _, _, x => by
    have x : PySem.ReadsAll h _ (k.data :: NestedKey.datas ks) _ := x
    cases x with
    | cons x1 x2 => rw [reads_nest k _ _ x1, reads_nests ks _ _ x2]; rfl
end
theorem each_mem2 (I : Inv X pins σ H s) {h2 : Heap} (k : ∀ b o, s.heap.get? b = some o → h2.get? b = some o) (a : Addr) : ∀ {M : List Mem}, (∀ p ∈ M, MemOk X.K H p) →
    EachIs (fun v (p : Mem) => ∃ as, PySem.Reads h2 v p.2.data as ∧ a ∉ as) (M.map fun p => Value.ref p.1) M
  | [], _ => .nil
  | p :: M, h => by
    obtain ⟨as, r⟩ : ∃ as, PySem.Reads s.heap (.ref p.1) p.2.data as := (h p List.mem_cons_self).1.elim (fun d => Dp.reads I p.2.data (.ref p.1) (.ref p.1) d rfl) fun d => ⟨[], (pt_both I d).2⟩
    have r2 := PyProof.Rows.Reads.keeps k r
    refine .cons ⟨as, r2, ?_⟩ (each_mem2 I k a fun q m => h q (List.mem_cons_of_mem _ m))
    rw [reads_nest p.2 _ _ r2]
    simp
theorem each_ref : ∀ M : List Mem, EachIs (fun v (p : Mem) => v = Value.ref p.1) (M.map fun p => Value.ref p.1) M
  | [] => .nil
  | p :: M => .cons rfl (each_ref M)
theorem ref_each : ∀ {M : List Mem} {out : List Value}, EachIs (fun v (p : Mem) => v = Value.ref p.1) out M → out = M.map fun p => Value.ref p.1
  | [], _, .nil => rfl
  | p :: M, _, .cons r e => by rw [r, ref_each e]; rfl
theorem cr_sortN (hc : X.calm = true) (hu : X.A.units + 64 < cLine) : CallR X (.builtin "sorted") (rSortN X.K X.prog X.w) := by
  intro pins s σ H vs us Q I r h
  obtain ⟨a, L, rfl, ha, hk, hal, htup, dp, q⟩ := h
  have R0 : Tab0 X.prog X.w s.heap a L := (I.hok a _ ha).1
  obtain ⟨es, ep, t, R⟩ := R0.full fun p m => kb_of I (hk p m)
  rw [Vals.ref1 r]
  obtain ⟨o, ho, ox, od⟩ := R.here
  have few := R.few
  refine Calls.call_function_entry kind_sorted plain_sorted entry_sorted (args_sorted1 _) ?_
  unfold Builtin.«sorted»
  refine wpAny_bind (m := checkCount "sorted" 1 1 _) (wpAny_pure (wpAny_bind (collect_set (A := X.A.in1) (I.ok.hd hc) ⟨o, ho, ox.1, od⟩ R.fits (by rw [R.size]; unfold scanBound; omega) R.lay.ris R.told fun s1 vs k1 z1 g1 o1 pm => ?_)))
  have hes : es.toList.map (·.2) = L.map fun p => Value.ref p.1 := by
    rw [R.rows, List.map_map]
    rfl
  rw [hes] at pm
  obtain ⟨M, pM, rfl⟩ := perm_lift _ pm
  have lM : M.length < 64 := by rw [pM.length_eq]; exact few
  refine wpAny_bind (wpAny_newList ?_ (by rw [List.length_map, sizeLine_eq]; omega))
  have at1 : (s1.heap.push (seqObj "list" (M.map fun p => Value.ref p.1).toArray 0)).get? s1.heap.objs.size = some (seqObj "list" (M.map fun p => Value.ref p.1).toArray 0) := Heap.get?_push_size _ rfl
  have mk : ∀ p ∈ M, MemOk X.K H p := fun p m => hk p (pM.mem_iff.mp m)
  have alM : AllAlike (M.map fun p => p.2.data) := fun d hd d2 hd2 => hal d ((pM.map _).mem_iff.mp hd) d2 ((pM.map _).mem_iff.mp hd2)
  refine wpAny_bind (wpAny_holding (list_sort_any2 (R := fun v (p : Mem) => v = Value.ref p.1) (enc := fun p : Mem => p.2.data) (bs := M) at1 (each_ref M) (each_mem2 I (fun b u e => Heap.get?_push_of_some _ (k1 b u e)) _ mk) alM (.inr fun d hd => ?_) (by rw [sizeLine_eq]; omega) (fun p m => ?_) fun out lo eo => ?_))
  · obtain ⟨p, mp, rfl⟩ := List.mem_map.mp hd
    obtain ⟨ks, e⟩ := htup p (pM.mem_iff.mp mp)
    exact ⟨_, by rw [e]; rfl⟩
  · have := dp p (pM.mem_iff.mp m)
    show X.A.units + 1 + 1 + _ < cLine
    omega
  · have eO := ref_each eo
    obtain ⟨c, hc2⟩ := sortedHeap_at (vs := M.map fun p => Value.ref p.1) (out := out.toArray) at1
    generalize hS : M.mergeSort (dataLe false fun p : Mem => p.2.data) = S at eO
    have pS : S.Perm M := by rw [← hS]; exact List.mergeSort_perm _ _
    have rS : Rise (fun p : Mem => p.2.data) S := by rw [← hS]; exact rise_sort M
    have hp : s.heap.objs.size ≤ s1.heap.objs.size := z1
    have hn : H s1.heap.objs.size = none := I.hok.fresh hp
    have old : ∀ b u, s.heap.get? b = some u → (sortedHeap (s1.heap.push (seqObj "list" (M.map fun p => Value.ref p.1).toArray 0)) s1.heap.objs.size (M.map fun p => Value.ref p.1) out.toArray).get? b = some u := fun b u e => by
      have q := k1 b u e
      have lt := Heap.lt_size q
      exact (sortedHeap_old (Nat.ne_of_lt lt) (by rw [size_push']; exact Nat.lt_succ_of_lt lt)).trans (Heap.get?_push_of_some _ q)
    have fit : (S.map fun p => V.ref p.1).length ≤ sizeLine := by rw [List.length_map, pS.length_eq, sizeLine_eq]; omega
    have J : Inv X pins σ (upd H s1.heap.objs.size (.lst (S.map fun p => V.ref p.1))) { s with heap := sortedHeap (s1.heap.push (seqObj "list" (M.map fun p => Value.ref p.1).toArray 0)) s1.heap.objs.size (M.map fun p => Value.ref p.1) out.toArray, gens := s1.gens, drawn := s1.drawn, toks := s1.toks } :=
      I.call (ch := []) (Un.laid old hp hn) (I.hok.laid old hp ⟨fit, out, c, by rw [eO]; exact vals_refs S, hc2⟩) (by rw [g1]; exact I.bare) fun _ z => nomatch z
    refine wpAny_pure ⟨_, rfl, ⟨.ref s1.heap.objs.size, _, ?_, rfl, q S s1.heap.objs.size (pS.trans pM) rS hn⟩⟩
    have e : ({ s1 with heap := sortedHeap (s1.heap.push (seqObj "list" (M.map fun p => Value.ref p.1).toArray 0)) s1.heap.objs.size (M.map fun p => Value.ref p.1) out.toArray } : Shared) = { s with heap := sortedHeap (s1.heap.push (seqObj "list" (M.map fun p => Value.ref p.1).toArray 0)) s1.heap.objs.size (M.map fun p => Value.ref p.1) out.toArray, gens := s1.gens, drawn := s1.drawn, toks := s1.toks } := by
      cases s1
      cases s
      cases o1
      rfl
    rw [e]
    exact J
end
end L2.NSet
set_option Elab.async false
set_option linter.all false
set_option maxRecDepth 100000
set_option maxHeartbeats 4000000
/-! Sets of tuples by comprehension. -/
namespace L2.NSet
open PySem PySem.Spec PyProof.Rows L2.Cmp
section
variable {X : Cx}
/-- a.add(x), x a tuple -/
theorem add_tup {P : Program} {w : World} {A : Around} {E : Value → Shared → Prop} {s : Shared} {a : Addr} {L : List Mem} {es : Array (Int × Value)} {ep : Nat} {t : SetTable} (R : Tab P w s.heap a L es ep t) {x : Addr} {k : NestedKey} (hx : Kb P w s.heap k x)
    (hu : A.units + 20 < cLine) (few : L.length + 1 < 64) {Q : Value → Shared → Prop}
    (hQ : ∀ tk h2 L2 es2 ep2 t2, Heap.SameBut a s.heap h2 → Tab P w h2 a L2 es2 ep2 t2 → (k ∈ L.map (·.2) → L2 = L) → (k ∉ L.map (·.2) → L2.Perm ((x, k) :: L)) → Q .none { s with heap := h2, toks := tk }) :
    wpAny (model P w) A (call (.builtin "set.add") [.ref a, .ref x]) Q E s := by
  have ty : s.TypeIs (.ref a) "set" := by
    obtain ⟨o, ho, ox, _⟩ := R.here
    exact ⟨o, ho, ox.1⟩
  refine wpAny_call_entry F.slot_set_add ty F.entry_set_add ?_ (F.args_set_add_2 _ _)
  unfold Builtin.«set.add» Builtin.Frozenset.oneOther Builtin.Frozenset.addrOf setAdd
  simp only [List.isEmpty_nil, bind_assoc]
  refine wpAny_bind (wpAny_pure (wpAny_bind (wpAny_pure (wpAny_bind (wpAny_holding (wpAny_bind ((nestedKind P w).pyHash (show A.units + 1 + 8 < cLine by omega) hx ?_)))))))
  exact lay (s := { s with toks := s.toks + k.draws }) R hx (show A.units + 1 + 8 < cLine by omega) few fun b h2 L2 es2 ep2 t2 sb R2 c1 c2 => wpAny_pure ⟨_, rfl, hQ _ h2 L2 es2 ep2 t2 sb R2 c1 c2⟩
/-- a tuple into the set at D -/
def tAdN (K : PySem.W.Frag) (P : Program) (w : World) (te : TE) (D : Addr) : TAc := fun σ H C => te σ H fun y H1 => ∃ (p : Mem) (L : List Mem), y = .ref p.1 ∧ H1 D = some (SetN P w D L) ∧ (∀ q ∈ L, MemOk K H1 q) ∧ MemOk K H1 p ∧ L.length + 1 < 64 ∧
  ∀ L2, (p.2 ∈ L.map (·.2) → L2 = L) → (p.2 ∉ L.map (·.2) → L2.Perm (p :: L)) → C (upd H1 D (SetN P w D L2))
def tSetN (K : PySem.W.Frag) (P : Program) (w : World) (wi : TI) (g : TG) (tt : TT) (te : TE) (vs : List Nat) : TE := fun σ H Q => wi σ H fun J H1 => ∀ D, H1 D = none → L2.Cmp.Walk J g tt (tAdN K P w te D) vs σ (fun H => Q (.ref D) H) (upd H1 D (SetN P w D []))
theorem emit_tup {B : Cx} (hx : B.xe = nil2) (hu : B.A.units + 64 < cLine) {elt : Expr} {te : TE} (he : PE B elt te) {D : Addr} : ∀ (pl : List (Addr × Obj)) s σ H C, Inv B pl σ H s → tAdN B.K B.prog B.w te D σ H C →
    wpAny (model B.prog B.w) B.A (do let v ← eval elt B.env; standAt elt.pos; let _ ← call (.builtin "set.add") [.ref D, v]) (fun _ s' => ∃ H', Inv B pl σ H' s' ∧ C H') nil2 s := by
  intro pl s σ H C I q
  have a1 := he.run pl s σ H _ I q
  rw [hx] at a1
  refine wpAny_bind (thnF a1 fun v s1 ⟨y, H1, I1, r1, p, L, ey, hD, hL, hp, few, c⟩ => wpAny_bind (wpAny_standAt (wpAny_bind ?_)))
  subst ey
  cases r1
  have R0 : Tab0 B.prog B.w s1.heap D L := (I1.hok D _ hD).1
  obtain ⟨es, ep, t, R⟩ := R0.full fun p m => kb_of I1 (hL p m)
  refine add_tup R (kb_of I1 hp) (by omega) few fun tk h2 L2 es2 ep2 t2 sb R2 c1 c2 => wpAny_pure ⟨_, ?_, c L2 c1 c2⟩
  have N := setN_new (P := B.prog) (w := B.w) (H := upd H1 D (SetN B.prog B.w D L2)) R2.t0
  exact I1.write (e := D) (t' := tk) (by rw [hD]; trivial) (.inl rfl) (fun b o hb ho => (sb.2 b hb).trans ho) (by obtain ⟨o, ho, _⟩ := R2.here; exact ⟨o, ho⟩) (setN_new R2.t0)
variable {elt tg iter : Expr} {ifs : List Expr} {scope : Scope} {own : List (PySem.Str × Nat)} {pos : Pos} {wi : TI} {g : TG} {tt : TT} {te : TE}
theorem pe_setN {K : PySem.W.Frag} {P : Program} {w : World} (eK : X.K = K) (eP : X.prog = P) (ew : X.w = w) (hc : X.calm = true) (hu : X.A.units + 64 < cLine) (hN : X.N.Nodup) (hi : PI X tg iter wi) (ok : BlkOk X.N X.env.scope scope own)
    (hg : ∀ (s : Shared) (H : Hp) (C : Addr) (cl : List (PySem.Str × Addr)) (fp : List Addr), PG (X.blk s H scope (compEnvC scope cl C X.env) fp) tg g) (ht : ∀ (s : Shared) (H : Hp) (C : Addr) (cl : List (PySem.Str × Addr)) (fp : List Addr), PTs (X.blk s H scope (compEnvC scope cl C X.env) fp) ifs tt)
    (he : ∀ (s : Shared) (H : Hp) (C : Addr) (cl : List (PySem.Str × Addr)) (fp : List Addr), PE (X.blk s H scope (compEnvC scope cl C X.env) fp) elt te) (hs : ∀ x, foldedSetIterable iter X.env x = pure x := by intro _; rfl) :
    PE X (.SetComp elt [⟨tg, iter, ifs, 0⟩] scope pos) (tSetN K P w wi g tt te (own.map (·.2))) := by
  subst eK eP ew
  refine ⟨fun pins s σ H Q I h => ?_⟩
  rw [PpSet.eval_SetComp]
  refine block_any (Q := Q) (Rd := fun J D H1 => L2.Cmp.Walk J g tt (tAdN X.K X.prog X.w te D) (own.map fun z : PySem.Str × Nat => z.2) σ (fun H => Q (.ref D) H) H1) (emp := fun D => SetN X.prog X.w D []) (.inl ⟨_, _, _, _, rfl⟩) rfl (fun q => PpSet.newSet_ok q)
    (fun I1 _ => setN_new (Tab.new (Heap.get?_push_size _ rfl)).t0) hc hN I hi ok hs h
    (fun s3 H3 C cl fp it tn J D s4 T stat I4 st4 nfp rd => ?_) fun D C s' m H' I' q hn f => ⟨m, hn, fun h'' sb => ?_⟩
  · exact clause_ok (B := X.blk s3 H3 scope (compEnvC scope cl C X.env) fp) (tail := tailIn _ _) (p := iter.pos) (.inl ⟨_, _, _, _, rfl⟩) rfl rfl rfl hc T (hg s3 H3 C cl fp) (ht s3 H3 C cl fp) stat (act_in (emit_tup (B := X.blk s3 H3 scope (compEnvC scope cl C X.env) fp) rfl hu (he s3 H3 C cl fp))) rfl
      (fun s' H' I' d => ⟨H', I', d⟩) rd I4 st4 nfp
  · obtain ⟨f0, f1, f2, f3, f4, f5⟩ := f
    exact ⟨.ref D, H', I'.turned (t' := s'.toks) (fun b o hb e => (sb.2 b hb).trans e) f0 f1 f3 f4 f5, rfl, q⟩
end
end L2.NSet
set_option Elab.async false
set_option linter.all false
set_option maxRecDepth 100000
set_option maxHeartbeats 4000000
namespace L2.LawH
open PySem PySem.Spec PyProof.Rows L2.TxtSet TL L2.NSet PySem.W
abbrev Fc := Str × List Str
/-- a fact as a member of a set, and as a key -/
def ptM (x : Pt) : Mem := (x.1, .tup (.text x.2.1 :: x.2.2.map .text))
def ptK (x : Pt) : List L2.Key := (Sum.inr x.2.1 : L2.Key) :: x.2.2.map Sum.inr
def ptV (x : Pt) : List V := .str x.2.1 :: x.2.2.map V.str
theorem ptK_V (x : Pt) : (ptK x).map kV = ptV x := by
  unfold ptK ptV
  rw [List.map_cons, List.map_map]
  rfl
theorem cr_setNK {X : Cx} {K : PySem.W.Frag} {P : Program} {w : World} (eK : X.K = K) (eP : X.prog = P) (ew : X.w = w) (hc : X.calm = true) (hu : X.A.units + 64 < cLine) : CallR X (.type "set") (rSetN K P w) := by
  subst eK eP ew
  exact cr_setN hc hu
theorem cr_sortNK {X : Cx} {K : PySem.W.Frag} {P : Program} {w : World} (eK : X.K = K) (eP : X.prog = P) (ew : X.w = w) (hc : X.calm = true) (hu : X.A.units + 64 < cLine) : CallR X (.builtin "sorted") (rSortN K P w) := by
  subst eK eP ew
  exact cr_sortN hc hu
theorem ptK_inj {x y : Pt} (h : ptK x = ptK y) : x.2 = y.2 := by
  unfold ptK at h
  injection h with h1 h2
  refine Prod.ext (Sum.inr.inj h1) ?_
  exact List.map_inj_right (fun a b e => Sum.inr.inj e) |>.mp h2
theorem ptM_inj {x y : Pt} (h : (ptM x).2 = (ptM y).2) : x.2 = y.2 := by
  unfold ptM at h
  injection h with h
  injection h with h1 h2
  injection h1 with h1
  exact Prod.ext h1 (List.map_inj_right (fun a b e => by injection e) |>.mp h2)
theorem lift_sub {α β : Type} (f : α → β) {xs : List α} : ∀ {M : List β}, (∀ p ∈ M, p ∈ xs.map f) → ∃ Ms : List α, M = Ms.map f ∧ ∀ x ∈ Ms, x ∈ xs
  | [], _ => ⟨[], rfl, fun x h => nomatch h⟩
  | p :: M, h => by
    obtain ⟨Ms, e, g⟩ := lift_sub f (M := M) fun q hq => h q (List.mem_cons_of_mem _ hq)
    obtain ⟨x, hx, ex⟩ := List.mem_map.mp (h p List.mem_cons_self)
    exact ⟨x :: Ms, by rw [List.map_cons, ex, e], fun y hy => (List.mem_cons.mp hy).elim (fun e => by rw [e]; exact hx) (g y)⟩
theorem datas_text : ∀ zs : List Str, NestedKey.datas (zs.map NestedKey.text) = zs.map PyData.str
  | [] => by simp [NestedKey.datas]
  | z :: zs => by
    rw [List.map_cons, List.map_cons, NestedKey.datas, datas_text zs]
    simp [NestedKey.data]
theorem data_ptM (x : Pt) : (ptM x).2.data = .tuple ((x.2.1 :: x.2.2).map PyData.str) := by
  unfold ptM
  rw [← List.map_cons, NestedKey.data, datas_text]
theorem alike_texts : ∀ a b : List Str, alikeAll (a.map PyData.str) (b.map PyData.str) = true
  | [], _ => by simp [alikeAll]
  | _ :: _, [] => by simp [alikeAll]
  | a :: as, b :: bs => by
    rw [List.map_cons, List.map_cons, alikeAll, alike_texts as bs]
    simp [alike]
theorem alike_ptM (x y : Pt) : alike (ptM x).2.data (ptM y).2.data = true := by
  rw [data_ptM, data_ptM, alike]
  exact alike_texts _ _
theorem ddepth_texts : ∀ a : List Str, PyData.depthAll (a.map PyData.str) = 0
  | [] => by simp [PyData.depthAll]
  | a :: as => by
    rw [List.map_cons, PyData.depthAll, ddepth_texts as]
    simp [PyData.depth]
theorem ddepth_ptM (x : Pt) : (ptM x).2.data.depth ≤ 1 := by
  rw [data_ptM, PyData.depth, ddepth_texts]
  exact Nat.le_refl _
theorem kdepth_texts : ∀ a : List Str, NestedKey.depthAll (a.map NestedKey.text) = 0
  | [] => by simp [NestedKey.depthAll]
  | a :: as => by
    rw [List.map_cons, NestedKey.depthAll, kdepth_texts as]
    simp [NestedKey.depth]
theorem kdepth_ptM (x : Pt) : (ptM x).2.depth ≤ 1 := by
  unfold ptM
  rw [← List.map_cons, NestedKey.depth, kdepth_texts]
  exact Nat.le_refl _
theorem dp_texts {K : PySem.W.Frag} {H : Hp} : ∀ zs : List Str, DpAll K H (zs.map V.str) (zs.map PyData.str)
  | [] => .nil
  | z :: zs => .cons (.str z) (dp_texts zs)
theorem memOk_pt {K : PySem.W.Frag} {H : Hp} {x : Pt} (h : H x.1 = some (.tup (ptV x))) : MemOk K H (ptM x) := by
  refine ⟨.inl ?_, Nat.le_trans (kdepth_ptM x) (by decide)⟩
  rw [data_ptM]
  exact .tup (SqT.of h) (dp_texts (x.2.1 :: x.2.2))
/-- a for over a list or a tuple -/
theorem for_seq {K : PySem.W.Frag} {q : Addr} {xs : List V} {g : TG} {tb : TS} {D : Ends} {σ : St} {H : Hp} (hq : SqL K H q xs ∨ SqT K H q xs) (Pv : Nat → St → Hp → Prop) (h0 : Pv 0 σ H) (st : ∀ i σ H', Pv i σ H' → Ext H H')
    (hs : ∀ i x σ H', xs[i]? = some x → Pv i σ H' → g x σ H' fun σ2 H2 => tb { D with nx := Pv (i + 1), ct := Pv (i + 1), bk := D.nx } σ2 H2) (hd : ∀ σ H, Pv xs.length σ H → D.nx σ H) :
    ((∃ xs, SqL K H q xs) ∧ ∃ W : Nat → Nat → St → Hp → Prop, (∃ m, W 0 m σ H) ∧ ∀ i m σ H, W i m σ H →
      ((Itl K q).stop i H ∧ D.nx σ H) ∨ ((Itl K q).go i H ∧ ∃ N : St → Hp → Prop, (∀ σ' H', N σ' H' → ∃ m', m' < m ∧ W (i + 1) m' σ' H') ∧ ∀ x H', (Itl K q).yld i H x H' → g x σ H' fun σ2 H2 => tb { D with nx := N, ct := N, bk := D.nx } σ2 H2)) ∨
    ((∃ xs, SqT K H q xs) ∧ ∃ W : Nat → Nat → St → Hp → Prop, (∃ m, W 0 m σ H) ∧ ∀ i m σ H, W i m σ H →
      ((Itt K q).stop i H ∧ D.nx σ H) ∨ ((Itt K q).go i H ∧ ∃ N : St → Hp → Prop, (∀ σ' H', N σ' H' → ∃ m', m' < m ∧ W (i + 1) m' σ' H') ∧ ∀ x H', (Itt K q).yld i H x H' → g x σ H' fun σ2 H2 => tb { D with nx := N, ct := N, bk := D.nx } σ2 H2)) :=
  hq.elim
    (fun e => .inl ⟨⟨_, e⟩, for_it (L2.walk_list (K := K)) Pv h0 (fun i σ H' _ p => e.ext (st i σ H' p)) (fun i x σ H' H'' _ p y => by obtain ⟨rfl, hx⟩ := y; exact hs i x σ _ hx p) hd⟩)
    (fun e => .inr ⟨⟨_, e⟩, for_it (L2.walk_tup (K := K)) Pv h0 (fun i σ H' _ p => e.ext (st i σ H' p)) (fun i x σ H' H'' _ p y => by obtain ⟨rfl, hx⟩ := y; exact hs i x σ _ hx p) hd⟩)
/-- a fact as data, and the order of facts -/
def facD (c : Str × List Str) : PyData := .tuple ((c.1 :: c.2).map PyData.str)
def fle (a b : Str × List Str) : Bool := !PySem.W.dataLt (facD b) (facD a)
theorem dp_fact {K : PySem.W.Frag} {H : Hp} {p : Addr} {c : Str × List Str} (h : H p = some (.tup ((c.1 :: c.2).map V.str))) : Dp K H (.ref p) (facD c) := .tup (SqT.of h) (dp_texts (c.1 :: c.2))
theorem alike_fact (a b : Str × List Str) : PySem.W.alike (facD a) (facD b) = true := by
  unfold facD
  rw [PySem.W.alike]
  exact alike_texts _ _
theorem depth_fact (a : Str × List Str) : (facD a).depth ≤ 1 := by
  unfold facD
  rw [PyData.depth, ddepth_texts]
  exact Nat.le_refl _
theorem eqvAll_texts : ∀ a b : List Str, PyData.eqvAll (a.map PyData.str) (b.map PyData.str) = decide (a = b)
  | [], [] => by simp [PyData.eqvAll]
  | [], _ :: _ => by simp [PyData.eqvAll]
  | _ :: _, [] => by simp [PyData.eqvAll]
  | x :: a, y :: b => by
    rw [List.map_cons, List.map_cons, PyData.eqvAll, eqvAll_texts a b]
    by_cases h : x = y
    · subst h
      simp [PyData.eqv]
    · simp [PyData.eqv, h]
theorem eqv_fact (a b : Str × List Str) : PyData.eqv (facD a) (facD b) = decide (a = b) := by
  unfold facD
  rw [PyData.eqv, eqvAll_texts]
  refine decide_eq_decide.mpr ⟨fun h => ?_, fun h => by rw [h]⟩
  injection h with h1 h2
  exact Prod.ext h1 h2
theorem lay_texts : ∀ zs : List Str, PyData.canLayAll0 (zs.map PyData.str) = zs.all PyData.strOk
  | [] => by simp [PyData.canLayAll0]
  | z :: zs => by
    rw [List.map_cons, PyData.canLayAll0, lay_texts zs]
    simp [PyData.canLay0]
/-- a fact of names -/
structure Fct (c : Str × List Str) : Prop where
  nT : Nm c.1
  l3 : c.2.length ≤ 3
  nz : ∀ z ∈ c.2, Nm z ∨ Vr z
theorem lay_fact {c : Str × List Str} (h : Fct c) : (facD c).canLay0 = true := by
  unfold facD
  rw [PyData.canLay0, lay_texts, List.all_cons, h.nT.strOk, List.all_eq_true.mpr fun z hz => (h.nz z hz).elim (fun q => q.strOk) (fun q => q.strOk)]
  rfl
theorem lay_facts : ∀ {cs : List (Str × List Str)}, (∀ c ∈ cs, Fct c) → PyData.canLayAll0 (cs.map facD) = true
  | [], _ => by simp [PyData.canLayAll0]
  | c :: cs, h => by
    rw [List.map_cons, PyData.canLayAll0, lay_fact (h c List.mem_cons_self), lay_facts fun d hd => h d (List.mem_cons_of_mem _ hd)]
    rfl
theorem depth_facts : ∀ cs : List (Str × List Str), PyData.depthAll (cs.map facD) ≤ 1
  | [] => by simp [PyData.depthAll]
  | c :: cs => by
    have a := depth_fact c
    have b := depth_facts cs
    rw [List.map_cons, PyData.depthAll]
    omega
theorem shaped_fact {c : Str × List Str} (h : Fct c) : SeqAt.shaped (facD c) = true := by
  unfold SeqAt.shaped
  rw [lay_fact h, Bool.true_and]
  exact decide_eq_true (Nat.le_trans (depth_fact c) (by decide))
theorem shaped_facts {cs : List (Str × List Str)} (h : ∀ c ∈ cs, Fct c) : SeqAt.shaped (.list (cs.map facD)) = true := by
  unfold SeqAt.shaped
  rw [PyData.canLay0, lay_facts h, Bool.true_and, PyData.depth]
  have := depth_facts cs
  exact decide_eq_true (by omega)
theorem dp_facts {K : PySem.W.Frag} {H : Hp} : ∀ {Fs : List Pt}, (∀ x ∈ Fs, H x.1 = some (.tup (ptV x))) → DpAll K H (Fs.map fun x => V.ref x.1) ((Fs.map (·.2)).map facD)
  | [], _ => .nil
  | x :: Fs, h => .cons (dp_fact (h x List.mem_cons_self)) (dp_facts fun y hy => h y (List.mem_cons_of_mem _ hy))
theorem any_fact (cs : List (Str × List Str)) (c : Str × List Str) : ((cs.map facD).any fun z => PyData.eqv z (facD c)) = decide (c ∈ cs) := by
  induction cs with
  | nil => rfl
  | cons d cs ih =>
    rw [List.map_cons, List.any_cons, ih, eqv_fact]
    by_cases e : d = c
    · simp [e]
    · have e2 : ¬ c = d := fun h => e h.symm
      simp [e, e2]
theorem joinL_signs {q : Nat → Prop} {s : Nat} (hs : q s) : ∀ X : List (List Nat), (∀ p ∈ X, ∀ c ∈ p, q c) → ∀ c ∈ joinL [s] X, q c
  | [], _, c, hc => nomatch hc
  | [p], hX, c, hc => hX p List.mem_cons_self c hc
  | p :: r :: X, hX, c, hc => by
    rw [joinL_cons _ _ (by simp), List.mem_append, List.mem_append] at hc
    rcases hc with hc | hc | hc
    · exact hX p List.mem_cons_self c hc
    · rw [List.mem_singleton.mp hc]
      exact hs
    · exact joinL_signs hs (r :: X) (fun p' hp => hX p' (List.mem_cons_of_mem _ hp)) c hc
def tkT (zs : List Str) : List (Int ⊕ List Nat) := keyToksAll (zs.map PyData.str)
theorem tkT_nil : tkT [] = [.inl 0] := by simp [tkT, keyToksAll]
theorem tkT_cons (z : Str) (zs : List Str) : tkT (z :: zs) = .inl 1 :: .inr z.cps.toList :: tkT zs := by simp [tkT, keyToksAll, keyToks]
theorem str_cps {a b : Str} (h : a.cps.toList = b.cps.toList) : a = b := by
  cases a
  cases b
  exact congrArg Str.mk (Array.toList_inj.mp h)
theorem tkT_inj : ∀ {m m' : List Str}, tkT m = tkT m' → m = m'
  | [], [], _ => rfl
  | [], p :: m', h => by
    rw [tkT_nil, tkT_cons] at h
    injection h with h1 h2
    exact absurd h1 (by decide)
  | p :: m, [], h => by
    rw [tkT_nil, tkT_cons] at h
    injection h with h1 h2
    exact absurd h1 (by decide)
  | p :: m, q :: m', h => by
    rw [tkT_cons, tkT_cons] at h
    injection h with _ h
    injection h with h1 h
    rw [tkT_inj h, str_cps (Sum.inr.inj h1)]
/-- a stands ahead of b -/
def ltF (a b : Str × List Str) : Bool := PyProof.Rows.lexLt itemOrd (tkT (a.1 :: a.2)) (tkT (b.1 :: b.2))
theorem toks_facD (c : Str × List Str) : keyToks (facD c) = tkT (c.1 :: c.2) := by
  unfold facD
  simp [tkT, keyToks]
theorem dataLt_facD (a b : Str × List Str) : dataLt (facD a) (facD b) = ltF a b := by
  show PyProof.Rows.lexLt itemOrd (keyToks (facD a)) (keyToks (facD b)) = _
  rw [toks_facD, toks_facD]
  rfl
theorem fle_eq (a b : Str × List Str) : fle a b = !ltF b a := by
  unfold fle
  rw [dataLt_facD]
theorem ltF_trans {a b c : Str × List Str} (x : ltF a b = true) (y : ltF b c = true) : ltF a c = true := lex_trans (O := itemOrd) _ _ _ x y
theorem ltF_irr (a : Str × List Str) : ltF a a = false := lex_irrefl (O := itemOrd) _
theorem ltF_asym {a b : Str × List Str} (x : ltF a b = true) : ltF b a = false := by
  cases e : ltF b a with
  | false => rfl
  | true =>
    have := ltF_trans x e
    rw [ltF_irr] at this
    cases this
theorem ltF_anti {a b : Str × List Str} (x : ltF a b = false) (y : ltF b a = false) : a = b := by
  have e := tkT_inj (lex_total (O := itemOrd) _ _ x y)
  injection e with e1 e2
  exact Prod.ext e1 e2
def Asc (cs : List (Str × List Str)) : Prop := cs.Pairwise fun a b => ltF a b = true
theorem Asc.nodup {cs : List (Str × List Str)} (h : Asc cs) : cs.Nodup := List.Pairwise.imp (fun {a b} q e => by
  rw [e, ltF_irr] at q
  cases q) h
theorem facD_ptM (x : Pt) : (ptM x).2.data = facD x.2 := data_ptM x
theorem asc_rise {Fs : List Pt} (n : (Fs.map (·.2)).Nodup) (r : Rise (fun x : Pt => facD x.2) Fs) : Asc (Fs.map (·.2)) := by
  have r2 : (Fs.map (·.2)).Pairwise fun a b => ltF b a = false := by
    rw [List.pairwise_map]
    refine List.Pairwise.imp (fun {a b} h => ?_) r
    have h' : (!dataLt (facD b.2) (facD a.2)) = true := h
    rw [dataLt_facD] at h'
    simpa using h'
  refine List.Pairwise.imp (fun {a b} h => ?_) (List.Pairwise.and n r2)
  obtain ⟨h1, h2⟩ := h
  cases e : ltF a b with
  | true => rfl
  | false => exact absurd (ltF_anti e h2) h1
theorem asc_riseM {M : List Pt} (n : (M.map (·.2)).Nodup) (r : Rise (fun x : Pt => (ptM x).2.data) M) : Asc (M.map (·.2)) := by
  refine asc_rise n ?_
  have e : (fun x : Pt => (ptM x).2.data) = fun x : Pt => facD x.2 := funext facD_ptM
  rw [← e]
  exact r
theorem asc_one {a b : List (Str × List Str)} (ha : Asc a) (hb : Asc b) (h : ∀ c, c ∈ a ↔ c ∈ b) : a = b :=
  List.Perm.eq_of_pairwise (le := fun x y => ltF x y = true) (fun x y _ _ p q => by
    have := ltF_asym p
    rw [q] at this
    cases this) ha hb ((List.perm_ext_iff_of_nodup ha.nodup hb.nodup).mpr h)
theorem eqvAll_facts : ∀ a b : List Fc, PyData.eqvAll (a.map facD) (b.map facD) = decide (a = b)
  | [], [] => by simp [PyData.eqvAll]
  | [], _ :: _ => by simp [PyData.eqvAll]
  | _ :: _, [] => by simp [PyData.eqvAll]
  | x :: a, y :: b => by
    rw [List.map_cons, List.map_cons, PyData.eqvAll, eqvAll_facts a b, eqv_fact]
    by_cases h : x = y
    · subst h
      simp
    · simp [h]
theorem eqv_list (a b : List Fc) : PyData.eqv (.list (a.map facD)) (.list (b.map facD)) = decide (a = b) := by
  rw [PyData.eqv, eqvAll_facts]
theorem eqv_tup (a b : List Fc) : PyData.eqv (.tuple (a.map facD)) (.tuple (b.map facD)) = decide (a = b) := by
  rw [PyData.eqv, eqvAll_facts]
theorem sh_tup {cs : List Fc} (h : ∀ c ∈ cs, Fct c) : SeqAt.shaped (.tuple (cs.map facD)) = true := by
  unfold SeqAt.shaped
  rw [PyData.canLay0, lay_facts h, Bool.true_and, PyData.depth]
  have := depth_facts cs
  exact decide_eq_true (by omega)
theorem lc_sift {α : Type} {J : It} {n : Nat} {G : Hp → Prop} {ms : List α} {val : α → V} (w : L2.Walk J n G (YAt (ms.map val))) (en : n = ms.length) {g : TG} {tt : TT} {te : TE} {vs : List Nat} {σ : St} {H1 : Hp} {D : Addr} {Qd : Hp → Prop} (p : α → Bool) (out : α → V)
    (nD : H1 D = none) (few : ms.length ≤ 100000) (hG : ∀ H, Same H1 H → G H)
    (hs : ∀ x ∈ ms, ∀ (H5 : Hp) (Yes : V → Hp → Prop) (No : Hp → Prop), Same H1 H5 → (∀ H4, Same H5 H4 → p x = true → Yes (out x) H4) → (∀ H4, Same H5 H4 → p x = false → No H4) →
      g (val x) (wipe σ vs) H5 fun σ2 H2 => wipe σ2 vs = wipe σ vs ∧ tt σ2 H2 fun b H3 => if b = true then te σ2 H3 Yes else No H3)
    (hd : ∀ H', Same H1 H' → H' D = some (.lst ((ms.filter p).map out)) → Qd H') :
    ∃ W : Nat → Nat → Hp → Prop, (∃ m, W 0 m (upd H1 D (.lst []))) ∧ ∀ i m H, W i m H →
      (J.stop i H ∧ Qd H) ∨ (J.go i H ∧ ∃ Nx : Hp → Prop, (∀ H', Nx H' → ∃ m', m' < m ∧ W (i + 1) m' H') ∧ ∀ x H', J.yld i H x H' → g x (wipe σ vs) H' fun σ2 H2 => wipe σ2 vs = wipe σ vs ∧ tt σ2 H2 fun b H3 =>
        if b = true then te σ2 H3 fun y H4 => ∃ acc, H4 D = some (.lst acc) ∧ acc.length < sizeLine ∧ Nx (upd H4 D (.lst (acc ++ [y]))) else Nx H3) := by
  subst en
  refine lc_it w (fun i H5 => Same H1 H5 ∧ H5 D = some (.lst (((ms.take i).filter p).map out))) ⟨same_new nD, upd_same⟩ (fun i H5 _ q => hG H5 q.1) (fun i z H5 H6 hi q y => ?_) (fun H5 q => ?_)
  · obtain ⟨rfl, hz⟩ := y
    obtain ⟨q1, q2⟩ := q
    rw [List.getElem?_map] at hz
    obtain ⟨x, hx, rfl⟩ := Option.map_eq_some_iff.mp hz
    have tk : ms.take (i + 1) = ms.take i ++ [x] := by
      rw [List.take_succ, hx]
      rfl
    refine hs x (List.mem_of_getElem? hx) H6 _ _ q1 (fun H4 s4 hp => ⟨_, s4 _ _ q2, ?_, ?_, ?_⟩) fun H4 s4 hp => ⟨?_, ?_⟩
    · rw [List.length_map, sizeLine_eq]
      have := List.length_filter_le p (ms.take i)
      rw [List.length_take] at this
      omega
    · intro b o h
      rw [upd_ne (ne_of_none h nD)]
      exact s4 _ _ (q1 _ _ h)
    · rw [upd_same, tk, List.filter_append, List.filter_cons_of_pos hp, List.filter_nil, List.map_append]
      rfl
    · intro b o h
      exact s4 _ _ (q1 _ _ h)
    · rw [tk, List.filter_append, List.filter_cons_of_neg (by rw [hp]; exact Bool.false_ne_true), List.filter_nil, List.append_nil]
      exact s4 _ _ q2
  · obtain ⟨q1, q2⟩ := q
    rw [List.take_length] at q2
    exact hd H5 q1 q2
end L2.LawH
set_option Elab.async false
set_option linter.all false
set_option maxRecDepth 100000
set_option maxHeartbeats 4000000
/-! Forms and their texts, read back: the mathematics. -/
namespace L2.LawH
open PySem PySem.Spec PyProof.Rows TL
inductive Fm where
  | lot (cs : List Fc)
  | node (s : Str) (l r : Fm)
def Fm.dep : Fm → Nat
  | .lot _ => 0
  | .node _ l r => max l.dep r.dep + 1
def SgnOk (s : Str) : Prop := s = optS ∨ s = andS ∨ s = orS
def Fm.Ok : Fm → Prop
  | .lot cs => Asc cs ∧ ∀ c ∈ cs, Fct c
  | .node s l r => SgnOk s ∧ l.Ok ∧ r.Ok
def ptl (c : Fc) : List Nat := tl (ptext c.1 c.2)
def lotl (cs : List Fc) : List Nat := 123 :: (joinL [32] (cs.map ptl) ++ [125])
def ftl : Fm → List Nat
  | .lot cs => lotl cs
  | .node s l r => 40 :: (ftl l ++ (32 :: (tl s ++ (32 :: (ftl r ++ [41])))))
def ftext (φ : Fm) : Str := ⟨(ftl φ).toArray⟩
theorem tl_ftext (φ : Fm) : tl (ftext φ) = ftl φ := by simp [ftext, tl]
def wrds (l : List Nat) : List Str := if l = [] then [] else (spl [32] 0 [] l).map fun x => (⟨x.toArray⟩ : Str)
def rdAll : List Str → Option (List Fc)
  | [] => some []
  | z :: r => (rdOk z).bind fun c => (rdAll r).map fun cs => c :: cs
instance (cs : List Fc) : Decidable (Asc cs) := by unfold Asc; infer_instance
def lotP (l : List Nat) : Option (Fm × List Nat) := (par [125] [] l).bind fun x => (rdAll (wrds x.1)).bind fun cs => if Asc cs then some (.lot cs, x.2) else none
def signP (l : List Nat) : Option (Str × List Nat) := if l.take 3 = [32, 38, 32] then some (andS, l.drop 3) else if l.take 3 = [32, 124, 32] then some (orS, l.drop 3) else if l.take 5 = [32, 111, 112, 116, 32] then some (optS, l.drop 5) else none
def parse : Nat → List Nat → Option (Fm × List Nat)
  | 0, l => if l.take 1 = [123] then lotP (l.drop 1) else none
  | d + 1, l => if l.take 1 = [123] then lotP (l.drop 1) else if l.take 1 = [40] then
      (parse d (l.drop 1)).bind fun x => (signP x.2).bind fun y => (parse d y.2).bind fun u => if u.2.take 1 = [41] then some (.node y.1 x.1 u.1, u.2.drop 1) else none
    else none
/-! ### one pattern -/
theorem vr_of {z : Str} (h : varB z = true) : Vr z := by
  unfold varB at h
  rw [Bool.and_eq_true] at h
  obtain ⟨r, e⟩ := isV_head h.1
  refine ⟨⟨r.toArray⟩, ?_, ext_tl ?_⟩
  · show nmB (⟨r.toArray⟩ : Str).cps.toList = true
    have := h.2
    rw [e] at this
    simpa using this
  · rw [tl_append, tl_q]
    show z.cps.toList = _
    rw [e]
    simp [tl]
theorem fct_pat {a : Str} {ts : List Str} (h : patB (.str a :: ts.map V.str) = true) : Fct (a, ts) := by
  have bd := pat_bd h
  have h2 : (decide ((ts.map V.str).length ≤ 3) && vN (.str a) && (ts.map V.str).all fun y => vN y || vV y) = true := h
  rw [Bool.and_eq_true, Bool.and_eq_true] at h2
  refine ⟨h2.1.2, bd.2.1, fun z hz => ?_⟩
  have q := List.all_eq_true.mp h2.2 (.str z) (List.mem_map_of_mem hz)
  rw [Bool.or_eq_true] at q
  exact q.imp (fun q => q) fun q => vr_of q
theorem Fct.pg {c : Fc} (h : Fct c) : PatG c.1 c.2 := ⟨h.nT, h.l3, h.nz⟩
theorem rd_text {z : Str} {c : Fc} (h : rdOk z = some c) : ptext c.1 c.2 = z ∧ Fct c := by
  unfold rdOk cutP at h
  cases hp : par [40] [] (tl z) with
  | none =>
    rw [hp] at h
    cases h
  | some ab =>
    obtain ⟨a, b⟩ := ab
    rw [hp] at h
    dsimp only at h
    by_cases e : b.getLast? = some 41
    · rw [if_pos e] at h
      dsimp only at h
      by_cases pb : patB (.str ⟨a.toArray⟩ :: (terms ⟨b.dropLast.toArray⟩).map V.str) = true
      · rw [if_pos pb] at h
        obtain rfl := Option.some.inj h
        refine ⟨ext_tl ?_, fct_pat pb⟩
        obtain ⟨m, e1, e2, _⟩ := par_eq 40 _ _ _ _ hp
        rw [List.nil_append] at e1
        rw [ptext_tl, e2, e1]
        show m ++ 40 :: (b.dropLast ++ [41]) = _
        rcases last_cases b with hb | ⟨m2, c2, hb⟩
        · rw [hb] at e
          cases e
        · rw [hb] at e ⊢
          have : c2 = 41 := by simpa using e
          rw [this]
          simp
      · rw [if_neg pb] at h
        cases h
    · rw [if_neg e] at h
      cases h
theorem Fct.rd {c : Fc} (h : Fct c) : rdOk (ptext c.1 c.2) = some c := h.pg.read
abbrev Pln (x : Nat) : Prop := x ≠ 32 ∧ x ≠ 123 ∧ x ≠ 125 ∧ x < 0x110000
theorem sgn_pln {c : Nat} (h : isSgn c = true) : Pln c := by
  unfold isSgn isLet at h
  simp only [Bool.or_eq_true, Bool.and_eq_true, decide_eq_true_eq] at h
  exact ⟨by omega, by omega, by omega, by omega⟩
theorem tm_pln {z : Str} (h : Nm z ∨ Vr z) : ∀ c ∈ tl z, Pln c := by
  intro c hc
  rcases h with h | ⟨y, ny, rfl⟩
  · exact sgn_pln (chr_nm21 h c hc)
  · rw [tl_append, tl_q] at hc
    rcases List.mem_append.mp hc with hc | hc
    · rw [List.mem_singleton.mp hc]
      exact ⟨by decide, by decide, by decide, by decide⟩
    · exact sgn_pln (chr_nm21 ny c hc)
theorem ptl_pln {c : Fc} (h : Fct c) : ∀ x ∈ ptl c, Pln x := by
  intro x hx
  unfold ptl at hx
  rw [ptext_tl21] at hx
  rcases List.mem_append.mp hx with hx | hx
  · exact tm_pln (.inl h.nT) x hx
  · rcases List.mem_cons.mp hx with rfl | hx
    · exact ⟨by decide, by decide, by decide, by decide⟩
    · rcases List.mem_append.mp hx with hx | hx
      · rw [join_eq, tl_join, tl_com] at hx
        refine joinL_signs (q := Pln) ⟨by decide, by decide, by decide, by decide⟩ _ (fun p hp c hc => ?_) x hx
        obtain ⟨z, hz, rfl⟩ := List.mem_map.mp hp
        exact tm_pln (h.nz z hz) c hc
      · rw [List.mem_singleton.mp hx]
        exact ⟨by decide, by decide, by decide, by decide⟩
theorem ptl_ne (c : Fc) : ptl c ≠ [] := by
  unfold ptl
  rw [ptext_tl21]
  simp
theorem ptl_len {c : Fc} (h : Fct c) : (ptl c).length ≤ 57 := by
  have := h.pg.codes.2
  rw [len_tl] at this
  exact this
/-! ### lots -/
theorem map_ptl (cs : List Fc) : (cs.map fun c => ptext c.1 c.2).map tl = cs.map ptl := by
  rw [List.map_map]
  rfl
theorem joinL_ne {c : Fc} {cs : List Fc} : joinL [32] ((c :: cs).map ptl) ≠ [] := by
  cases cs with
  | nil => exact ptl_ne c
  | cons d cs =>
    rw [List.map_cons, joinL_cons _ _ (by simp)]
    have := ptl_ne c
    simp [this]
theorem joinL_pln {cs : List Fc} (h : ∀ c ∈ cs, Fct c) : ∀ x ∈ joinL [32] (cs.map ptl), x ≠ 123 ∧ x ≠ 125 ∧ x < 0x110000 := by
  refine joinL_signs (q := fun x => x ≠ 123 ∧ x ≠ 125 ∧ x < 0x110000) ⟨by decide, by decide, by decide⟩ _ fun p hp c hc => ?_
  obtain ⟨d, hd, rfl⟩ := List.mem_map.mp hp
  exact (ptl_pln (h d hd) c hc).2
theorem str_tl (x : List Nat) : tl (⟨x.toArray⟩ : Str) = x := by simp [tl]
theorem wrds_join {cs : List Fc} (h : ∀ c ∈ cs, Fct c) : wrds (joinL [32] (cs.map ptl)) = cs.map fun c => ptext c.1 c.2 := by
  cases cs with
  | nil => rfl
  | cons c cs =>
    unfold wrds
    rw [if_neg joinL_ne, spl_join (by simp) (fun p hp m => ?_)]
    · rw [List.map_map]
      refine List.map_congr_left fun d hd => ext_tl ?_
      show tl (⟨(ptl d).toArray⟩ : Str) = _
      rw [str_tl]
      rfl
    · obtain ⟨d, hd, rfl⟩ := List.mem_map.mp hp
      exact (ptl_pln (h d hd) 32 m).1 rfl
theorem join_wrds (l : List Nat) : joinL [32] ((wrds l).map tl) = l := by
  unfold wrds
  by_cases e : l = []
  · rw [if_pos e, e]
    rfl
  · rw [if_neg e, List.map_map]
    have : (spl [32] 0 [] l).map (tl ∘ fun x => (⟨x.toArray⟩ : Str)) = spl [32] 0 [] l := by
      conv => rhs; rw [← List.map_id (spl [32] 0 [] l)]
      exact List.map_congr_left fun x _ => str_tl x
    rw [this, join_spl]
    rfl
theorem rdAll_of : ∀ {cs : List Fc}, (∀ c ∈ cs, Fct c) → rdAll (cs.map fun c => ptext c.1 c.2) = some cs
  | [], _ => rfl
  | c :: cs, h => by
    rw [List.map_cons, rdAll, (h c List.mem_cons_self).rd, rdAll_of fun d hd => h d (List.mem_cons_of_mem _ hd)]
    rfl
theorem rdAll_some : ∀ {zs : List Str} {cs : List Fc}, rdAll zs = some cs → (zs = cs.map fun c => ptext c.1 c.2) ∧ ∀ c ∈ cs, Fct c
  | [], cs, h => by
    obtain rfl := Option.some.inj h
    exact ⟨rfl, fun _ m => nomatch m⟩
  | z :: zs, cs, h => by
    rw [rdAll] at h
    obtain ⟨c, hc, h⟩ := Option.bind_eq_some_iff.mp h
    obtain ⟨ds, hd, h⟩ := Option.map_eq_some_iff.mp h
    subst h
    obtain ⟨e1, f1⟩ := rd_text hc
    obtain ⟨e2, f2⟩ := rdAll_some hd
    refine ⟨by rw [List.map_cons, e1, ← e2], fun d hd => ?_⟩
    rcases List.mem_cons.mp hd with rfl | hd
    · exact f1
    · exact f2 d hd
theorem lotP_of {cs : List Fc} (ha : Asc cs) (h : ∀ c ∈ cs, Fct c) (r : List Nat) : lotP (joinL [32] (cs.map ptl) ++ 125 :: r) = some (.lot cs, r) := by
  unfold lotP
  have e := par_part1 (s := 125) (S := []) (p := joinL [32] (cs.map ptl)) (rest := r) (acc := []) fun m => (joinL_pln h 125 m).2.1 rfl
  rw [show joinL [32] (cs.map ptl) ++ 125 :: r = joinL [32] (cs.map ptl) ++ ([125] ++ r) from rfl, e]
  show (rdAll (wrds ([] ++ joinL [32] (cs.map ptl)))).bind _ = _
  rw [List.nil_append, wrds_join h, rdAll_of h]
  show (if Asc cs then some (Fm.lot cs, r) else none) = _
  rw [if_pos ha]
theorem lotP_some {l r : List Nat} {φ : Fm} (h : lotP l = some (φ, r)) : ∃ cs, φ = .lot cs ∧ Asc cs ∧ (∀ c ∈ cs, Fct c) ∧ l = joinL [32] (cs.map ptl) ++ 125 :: r := by
  unfold lotP at h
  obtain ⟨⟨i, r'⟩, h1, h⟩ := Option.bind_eq_some_iff.mp h
  obtain ⟨cs, h2, h⟩ := Option.bind_eq_some_iff.mp h
  by_cases ha : Asc cs
  · rw [if_pos ha] at h
    have h := Option.some.inj h
    injection h with e1 e2
    subst e1 e2
    obtain ⟨e, f⟩ := rdAll_some h2
    refine ⟨cs, rfl, ha, f, ?_⟩
    obtain ⟨m, e1, e2, _⟩ := par_eq 125 _ _ _ _ h1
    rw [List.nil_append] at e1
    rw [e2, ← map_ptl, ← e]
    show m ++ _ = joinL [32] ((wrds i).map tl) ++ _
    rw [join_wrds, e1]
  · rw [if_neg ha] at h
    cases h
/-! ### signs -/
theorem tl_opt : tl optS = [111, 112, 116] := by decide +kernel
theorem tl_and : tl andS = [38] := by decide +kernel
theorem tl_or : tl orS = [124] := by decide +kernel
theorem take_eq {l p : List Nat} (n : Nat) (h : l.take n = p) : l = p ++ l.drop n := by rw [← h, List.take_append_drop]
theorem signP_some {l r : List Nat} {s : Str} (h : signP l = some (s, r)) : SgnOk s ∧ l = 32 :: (tl s ++ (32 :: r)) := by
  unfold signP at h
  by_cases c1 : l.take 3 = [32, 38, 32]
  · rw [if_pos c1] at h
    have h := Option.some.inj h
    injection h with e1 e2
    subst e1 e2
    refine ⟨.inr (.inl rfl), ?_⟩
    conv => lhs; rw [take_eq 3 c1]
    rw [tl_and]
    rfl
  · rw [if_neg c1] at h
    by_cases c2 : l.take 3 = [32, 124, 32]
    · rw [if_pos c2] at h
      have h := Option.some.inj h
      injection h with e1 e2
      subst e1 e2
      refine ⟨.inr (.inr rfl), ?_⟩
      conv => lhs; rw [take_eq 3 c2]
      rw [tl_or]
      rfl
    · rw [if_neg c2] at h
      by_cases c3 : l.take 5 = [32, 111, 112, 116, 32]
      · rw [if_pos c3] at h
        have h := Option.some.inj h
        injection h with e1 e2
        subst e1 e2
        refine ⟨.inl rfl, ?_⟩
        conv => lhs; rw [take_eq 5 c3]
        rw [tl_opt]
        rfl
      · rw [if_neg c3] at h
        cases h
theorem signP_of {s : Str} (h : SgnOk s) (r : List Nat) : signP (32 :: (tl s ++ (32 :: r))) = some (s, r) := by
  rcases h with rfl | rfl | rfl
  · rw [tl_opt]
    simp [signP]
  · rw [tl_and]
    simp [signP]
  · rw [tl_or]
    simp [signP]
/-! ### forms -/
theorem parse_some : ∀ (d : Nat) {l r : List Nat} {φ : Fm}, parse d l = some (φ, r) → l = ftl φ ++ r ∧ φ.Ok ∧ φ.dep ≤ d := by
  have lot : ∀ (d : Nat) {l r : List Nat} {φ : Fm}, l.take 1 = [123] → lotP (l.drop 1) = some (φ, r) → l = ftl φ ++ r ∧ φ.Ok ∧ φ.dep ≤ d := fun d l r φ h0 h => by
    obtain ⟨cs, rfl, ha, hf, e⟩ := lotP_some h
    refine ⟨?_, ⟨ha, hf⟩, Nat.zero_le _⟩
    rw [take_eq 1 h0, e]
    simp [ftl, lotl]
  intro d
  induction d with
  | zero =>
    intro l r φ h
    rw [parse] at h
    by_cases c : l.take 1 = [123]
    · rw [if_pos c] at h
      exact lot 0 c h
    · rw [if_neg c] at h
      cases h
  | succ d ih =>
    intro l r φ h
    rw [parse] at h
    by_cases c : l.take 1 = [123]
    · rw [if_pos c] at h
      exact lot _ c h
    · rw [if_neg c] at h
      by_cases c2 : l.take 1 = [40]
      · rw [if_pos c2] at h
        obtain ⟨⟨x, l1⟩, h1, h⟩ := Option.bind_eq_some_iff.mp h
        obtain ⟨⟨s, l2⟩, h2, h⟩ := Option.bind_eq_some_iff.mp h
        obtain ⟨⟨y, l3⟩, h3, h⟩ := Option.bind_eq_some_iff.mp h
        by_cases c3 : l3.take 1 = [41]
        · rw [if_pos c3] at h
          have h := Option.some.inj h
          injection h with e1 e2
          subst e1 e2
          obtain ⟨q1, o1, b1⟩ := ih h1
          obtain ⟨so, q2⟩ := signP_some h2
          obtain ⟨q3, o3, b3⟩ := ih h3
          refine ⟨?_, ⟨so, o1, o3⟩, ?_⟩
          · dsimp only at q2 q3
            rw [take_eq 1 c2, q1, q2, q3]
            dsimp only
            conv => lhs; rw [take_eq 1 c3]
            simp [ftl]
          · show max x.dep y.dep + 1 ≤ d + 1
            omega
        · rw [if_neg c3] at h
          cases h
      · rw [if_neg c2] at h
        cases h
theorem parse_of : ∀ (φ : Fm) (d : Nat) (r : List Nat), φ.Ok → φ.dep ≤ d → parse d (ftl φ ++ r) = some (φ, r)
  | .lot cs, d, r, h, _ => by
    have e : lotP (List.drop 1 (ftl (.lot cs) ++ r)) = some (.lot cs, r) := by
      have := lotP_of h.1 h.2 r
      simpa [ftl, lotl] using this
    cases d with
    | zero =>
      rw [parse, if_pos (by simp [ftl, lotl]), e]
    | succ d =>
      rw [parse, if_pos (by simp [ftl, lotl]), e]
  | .node s x y, 0, r, h, b => by
    exact absurd b (by show ¬ (max x.dep y.dep + 1 ≤ 0); omega)
  | .node s x y, d + 1, r, h, b => by
    have b : max x.dep y.dep + 1 ≤ d + 1 := b
    have e : ftl (.node s x y) ++ r = 40 :: (ftl x ++ (32 :: (tl s ++ (32 :: (ftl y ++ (41 :: r)))))) := by simp [ftl]
    rw [e, parse, if_neg (by simp), if_pos (by simp), List.drop_succ_cons, List.drop_zero, parse_of x d _ h.2.1 (by omega)]
    show (signP _).bind _ = _
    rw [signP_of h.1]
    show (parse d _).bind _ = _
    rw [parse_of y d _ h.2.2 (by omega)]
    rw [Option.bind_some]
    dsimp only
    rw [if_pos (by simp)]
    rfl
theorem parse_deep {φ : Fm} {d : Nat} {r : List Nat} (h : φ.Ok) (b : d < φ.dep) : parse d (ftl φ ++ r) = none := by
  cases e : parse d (ftl φ ++ r) with
  | none => rfl
  | some x =>
    obtain ⟨ψ, r'⟩ := x
    obtain ⟨e1, o, b1⟩ := parse_some d e
    have p1 := parse_of φ φ.dep r h (Nat.le_refl _)
    rw [e1, parse_of ψ φ.dep r' o (by omega)] at p1
    have p1 := Option.some.inj p1
    injection p1 with p2 p3
    subst p2
    omega
end L2.LawH
set_option Elab.async false
set_option linter.all false
set_option maxRecDepth 100000
set_option maxHeartbeats 4000000
/-! Form: made, its text. -/
namespace L2.LawH
open PySem PySem.Spec PyProof.Rows L2.TxtSet TL L2.NSet PySem.W
abbrev sInitF : Stmt := inClass (top 16) 0
abbrev sLotF : Stmt := inClass (top 16) 1
abbrev sAndF : Stmt := inClass (top 16) 5
abbrev sOrF : Stmt := inClass (top 16) 6
abbrev sOptF : Stmt := inClass (top 16) 7
abbrev sTextF : Stmt := inClass (top 16) 10
def fsF (s t u : V) : List (Str × V) := [("_sign", s), ("_halves", t), ("_wanted", u)]
structure ClF (K : PySem.W.Frag) (C : Addr) : Prop where
  cl : Cls K C
  nS : NoAttr K C "_sign"
  nH : NoAttr K C "_halves"
  nW : NoAttr K C "_wanted"
/-- a Form as it stands -/
def FrmAt (C : Addr) (H : Hp) : Addr → Fm → Prop
  | a, .lot cs => ∃ (dx t u : Addr) (xs : List Pt), H a = some (.ins C dx (fsF (.str lotS) (.ref t) (.ref u))) ∧ H t = some (.tup []) ∧ H u = some (.tup (xs.map fun x => V.ref x.1)) ∧ (∀ x ∈ xs, H x.1 = some (.tup (ptV x))) ∧ xs.map (·.2) = cs
  | a, .node s l r => ∃ dx t u b c : Addr, H a = some (.ins C dx (fsF (.str s) (.ref t) (.ref u))) ∧ H t = some (.tup [.ref b, .ref c]) ∧ H u = some (.tup []) ∧ FrmAt C H b l ∧ FrmAt C H c r
theorem FrmAt.same {C : Addr} {H H' : Hp} (s : Same H H') : ∀ {a : Addr} (φ : Fm), FrmAt C H a φ → FrmAt C H' a φ
  | a, .lot cs, ⟨dx, t, u, xs, h1, h2, h3, h4, h5⟩ => ⟨dx, t, u, xs, s _ _ h1, s _ _ h2, s _ _ h3, fun x m => s _ _ (h4 x m), h5⟩
  | a, .node _ l r, ⟨dx, t, u, b, c, h1, h2, h3, h4, h5⟩ => ⟨dx, t, u, b, c, s _ _ h1, s _ _ h2, s _ _ h3, FrmAt.same s l h4, FrmAt.same s r h5⟩
theorem FrmAt.ins {C : Addr} {H : Hp} {a : Addr} {φ : Fm} (h : FrmAt C H a φ) : ∃ dx s t u, H a = some (.ins C dx (fsF s t u)) := by
  cases φ with
  | lot cs => exact let ⟨dx, t, u, _, h1, _⟩ := h; ⟨dx, _, _, _, h1⟩
  | node s l r => exact let ⟨dx, t, u, _, _, h1, _⟩ := h; ⟨dx, _, _, _, h1⟩
def spInitF (C : Addr) : Sp := fun vs H Q _ => ∃ (p dx : Addr) (s t u : V), vs = [.ref p, s, t, u] ∧ H p = some (.ins C dx []) ∧ ∀ H', (∀ b, b ≠ p → H' b = H b) → H' p = some (.ins C dx (fsF s t u)) → Q .non H'
/-- Form(..), made -/
theorem make_frm {C : Addr} {HL : Hp} {s t u : V} {R : Addr → Hp → Prop} (k : ∀ (H' : Hp) (a dx : Addr), Same HL H' → HL a = none → H' a = some (.ins C dx (fsF s t u)) → R a H') (x dx : Addr) (nx : HL x = none) (ndx : HL dx = none) (ne : dx ≠ x) :
    spInitF C [.ref x, s, t, u] (upd (upd HL dx (.own x)) x (.ins C dx [])) (fun v H' => v = .non ∧ R x H') E0 := by
  refine ⟨x, dx, s, t, u, rfl, upd_same, fun H' o h => ⟨rfl, k H' x dx (fun b v e => ?_) nx h⟩⟩
  rw [o b (ne_of_none e nx), upd_ne (ne_of_none e nx), upd_ne (ne_of_none e ndx)]
  exact e
/-- sorted(set(..)) of tuples of texts -/
theorem sorted_set {K : PySem.W.Frag} {P : Program} {w : World} {H : Hp} {q : Addr} {xs : List Pt} {Q : VK} (hq : SqL K H q (xs.map fun x => V.ref x.1) ∨ SqT K H q (xs.map fun x => V.ref x.1)) (each : ∀ x ∈ xs, H x.1 = some (.tup (ptV x))) (few : xs.length < 64)
    (k : ∀ (l : Addr) (M : List Pt) (H' : Hp), Same H H' → H l = none → H' l = some (.lst (M.map fun x => V.ref x.1)) → (∀ x ∈ M, x ∈ xs) → (∀ c, c ∈ M.map (·.2) ↔ c ∈ xs.map (·.2)) → Asc (M.map (·.2)) → Q (.ref l) H') :
    rSetN K P w [.ref q] H fun v H1 => rSortN K P w [v] H1 Q := by
  have em : (xs.map ptM).map (fun z : Mem => V.ref z.1) = xs.map fun x => V.ref x.1 := by
    rw [List.map_map]
    rfl
  refine ⟨q, xs.map ptM, rfl, by rw [em]; exact hq, fun z hz => ?_, by rw [List.length_map]; omega, fun sa L ns sub all nd => ?_⟩
  · obtain ⟨x, hx, rfl⟩ := List.mem_map.mp hz
    exact memOk_pt (each x hx)
  have s6 : Same H (upd H sa (SetN P w sa L)) := same_new ns
  have h6 : (upd H sa (SetN P w sa L)) sa = some (SetN P w sa L) := upd_same
  generalize upd H sa (SetN P w sa L) = H6 at s6 h6 ⊢
  refine ⟨sa, L, rfl, h6, fun z hz => ?_, fun d hd d2 hd2 => ?_, fun z hz => ?_, fun z hz => ?_, fun M l pM rM nl => ?_⟩
  · obtain ⟨x, hx, rfl⟩ := List.mem_map.mp (sub z hz)
    exact memOk_pt (s6 _ _ (each x hx))
  · obtain ⟨z, hz, rfl⟩ := List.mem_map.mp hd
    obtain ⟨z2, hz2, rfl⟩ := List.mem_map.mp hd2
    obtain ⟨x, hx, rfl⟩ := List.mem_map.mp (sub z hz)
    obtain ⟨x2, hx2, rfl⟩ := List.mem_map.mp (sub z2 hz2)
    exact alike_ptM x x2
  · obtain ⟨x, hx, rfl⟩ := List.mem_map.mp (sub z hz)
    exact ⟨_, rfl⟩
  · obtain ⟨x, hx, rfl⟩ := List.mem_map.mp (sub z hz)
    exact Nat.le_trans (ddepth_ptM x) (by decide)
  · obtain ⟨Ms, e, subM⟩ := lift_sub ptM (xs := xs) (M := M) fun z hz => sub z (pM.mem_iff.mp hz)
    subst e
    have e2 : (Ms.map ptM).map (fun p : Mem => V.ref p.1) = Ms.map fun x => V.ref x.1 := by
      rw [List.map_map]
      rfl
    rw [e2]
    have rise : Rise (fun x : Pt => (ptM x).2.data) Ms := List.pairwise_map.mp rM
    have ndM : (Ms.map (·.2)).Nodup := by
      have h1 : ((Ms.map ptM).map (·.2)).Nodup := (pM.map (·.2)).nodup_iff.mpr nd
      rw [List.map_map] at h1
      refine List.pairwise_map.mpr ((List.pairwise_map.mp h1).imp fun {a b} n e => n ?_)
      show (ptM a).2 = (ptM b).2
      unfold ptM
      rw [e]
    refine k l Ms _ (s6.trans (same_new nl)) (none_of s6 nl) upd_same subM (fun c => ⟨fun h => ?_, fun h => ?_⟩) (asc_riseM ndM rise)
    · obtain ⟨y, hy, rfl⟩ := List.mem_map.mp h
      exact List.mem_map.mpr ⟨y, subM y hy, rfl⟩
    · obtain ⟨y, hy, rfl⟩ := List.mem_map.mp h
      have h2 := all (ptM y) (List.mem_map_of_mem hy)
      have h3 := ((pM.map (·.2)).mem_iff).mpr h2
      rw [List.map_map] at h3
      obtain ⟨z, hz, e⟩ := List.mem_map.mp h3
      exact List.mem_map.mpr ⟨z, hz, ptM_inj e⟩
section
variable {P : Program} {w : World} {K : PySem.W.Frag} {mg : Str → Option Value} {base : Heap}
theorem scInitF : FnScope ["self", "sign", "halves", "wanted"] ["self", "sign", "halves", "wanted"] (defScope sInitF) := ⟨rfl, rfl, rfl, by decide +kernel, rfl, by decide +kernel, by decide +kernel⟩
theorem ok_initF {f C : Addr} {fd : FuncData} (F : Fun K "__init__" "Form.__init__" sInitF f fd) (T : ClF K C) : FnOk P w K mg base CX0 1 f fd ["self", "sign", "halves", "wanted"] (spInitF C) := by
  refine F.ok scInitF (fun vs H Q E h => ?_) (fun cdv A outer s H vs Q E hr h => ?_)
  · obtain ⟨p, dx, s, t, u, rfl, _⟩ := h
    rfl
  · obtain ⟨p, dx, s, t, u, rfl, hp, k⟩ := h
    refine ⟨_, pss_cons (ps_fld (pv 0) (pv 1) rfl) (pss_cons (ps_fld (pv 0) (pv 2) rfl) (pss_one (ps_fld (pv 0) (pv 3) rfl))), ?_⟩
    refine ⟨_, rfl, _, rfl, p, C, dx, [], rfl, hp, T.cl, T.nS, (by show 0 < 1000; decide), ?_⟩
    refine ⟨_, rfl, _, rfl, p, C, dx, _, rfl, upd_same, T.cl, T.nH, (by show 1 < 1000; decide), ?_⟩
    refine ⟨_, rfl, _, rfl, p, C, dx, _, rfl, upd_same, T.cl, T.nW, (by show 2 < 1000; decide), ?_⟩
    exact k _ (fun b n => by rw [upd_ne n, upd_ne n, upd_ne n]) upd_same
end
end L2.LawH
set_option Elab.async false
set_option linter.all false
set_option maxRecDepth 100000
set_option maxHeartbeats 4000000
/-! Form: lot, &, |, opt, text. -/
namespace L2.ClsCall
open PySem PySem.Spec PyProof.Rows ClX
section
variable {X : Cx} {CX : CXT} {k n : Nat} {C p g f : Addr} {mc : Value} {sp : Sp} {E : St → XK} {o e : Expr} {es : List Expr} {m x : Str} {pos apos np : Pos} {ta : TE} {t tk : TA} {pl : Sem Bool} {fd : FuncData} {ps ks : List Str} {kws : List Keyword}
theorem run_cmA {q : Addr} {pins : List (Addr × Obj)} {σ : St} {H : Hp} {s : Shared} {Q : VK} {E1 : XK} {us : List Value} {kw : List (Str × Value)} {zs : List Value} {ws : List V} (F : FnOk X.prog X.w X.K X.mg X.base CX k g fd ps sp) (hr : Room k X.A)
    (hb : BindsTo s fd ⟨.ref C :: us, kw⟩ (ps.zip zs)) (hx : PassesAt CX X σ E1) (I : Inv X ((q, PySem.W.methodObj (.ref g) (.ref C)) :: pins) σ H s) (r : Vals ws zs) (h : sp ws H Q E1) :
    wpAny (model X.prog X.w) X.A (call (.ref q) us kw) (EP X pins σ Q) X.xe s := by
  have z : wpAny (model X.prog X.w) X.A (call (.ref q) us kw) (EP X ((q, PySem.W.methodObj (.ref g) (.ref C)) :: pins) σ Q) X.xe s := by
    refine wpAny_call (PySem.W.method_call (pin_at I) (codeAny_mono (F.run X.A X.stack s H ⟨.ref C :: us, kw⟩ zs ws Q E1 hr I.env0 hb r h) fun r s' hq => ?_))
    cases r with
    | error e => exact hx _ H s e s' I hq
    | ok fl =>
      cases fl with
      | ret u => exact I.after hq
      | next => exact False.elim hq
      | brk => exact False.elim hq
      | cont => exact False.elim hq
  exact thn z fun _ _ y => unpinE y
/-- C.m(e, ..), m a classmethod; what it raises may tell of the slots -/
def tCMethS (C : Addr) (sp : Sp) (E : St → XK) (ta : TE) (t : TA) : TE := fun σ H Q => ta σ H fun x H1 => x = .ref C ∧ t σ H1 fun vs H2 => sp (.ref C :: vs) H2 Q (E σ)
theorem pe_cmethS (he : PE X o ta) (r : CRead X.K C mc) (c : CMet X.K C mc m p g) (F : FnOk X.prog X.w X.K X.mg X.base CX k g fd ps sp) (hr : Room k X.A) (hb : Binds X.K fd ps []) (hx : ∀ σ, PassesAt CX X σ (E σ)) (ha : PA X (e :: es) t)
    (hst : starEach (e :: es) X.env = (false, eval e X.env) :: starEach es X.env := by rfl) (hpl : (backTo pos (starEach es X.env)).any (·.1) = false := by rfl)
    (ht : eval (.Call (.Attribute o m apos) (e :: es) [] pos) X.env = (do
      let ov ← eval o X.env
      standAt apos.atName
      let (f, first) ← holding [ov] (getMethod ov m pl)
      callWith pos f first (backTo pos (starEach (e :: es) X.env)) (backToKw pos (keywordEach [] X.env))) := by rfl) :
    PE X (.Call (.Attribute o m apos) (e :: es) [] pos) (tCMethS C sp E ta t) := by
  refine ⟨fun pins s σ H Q I h => PySem.W.methodCall_KW (pl := pl) (thn (he.run pins s σ H _ I h) fun u s1 ⟨x, H1, I1, rx, ex, q⟩ => ?_) ht⟩
  subst ex
  cases rx
  refine getmethcm_ok I1 r c fun s2 I2 => ?_
  refine callwith_cm I2 (base_none I1 (Nat.le_refl _)) c.fi (thn (ha.run pos _ s2 σ H1 _ I2 q) fun us s3 ⟨vs, H2, I3, rv, q2⟩ => ⟨⟨pin_at I3, I3.kIn⟩, ?_⟩) hst hpl
  have r2 : Vals (V.ref C :: vs) (Value.ref C :: us) := .cons rfl rv
  have hl : (Value.ref C :: us).length = ps.length := by rw [← r2.length]; exact F.len _ _ _ _ q2
  have b := hb s3 (Value.ref C :: us) I3.kIn (by rw [List.append_nil]; exact hl)
  rw [List.append_nil] at b
  exact run_cmA F hr b (hx σ) I3 r2 q2
/-- C.m(k = v, ..) -/
def tCMethK (C : Addr) (n : Nat) (sp : Sp) (gV : List V → List V → List V) (E : St → XK) (ta : TE) (tk : TA) : TE := fun σ H Q => ta σ H fun x H1 => x = .ref C ∧ tk σ H1 fun zs H2 => zs.length = n ∧ sp (gV [.ref C] zs) H2 Q (E σ)
theorem pe_cmethK {g1 : List Value → List Value → List Value} {gV : List V → List V → List V} (he : PE X o ta) (r : CRead X.K C mc) (c : CMet X.K C mc m p g) (F : FnOk X.prog X.w X.K X.mg X.base CX k g fd ps sp) (hr : Room k X.A) (hb : KBn X.K fd ps 1 ks g1 gV) (hx : ∀ σ, PassesAt CX X σ (E σ)) (hkw : PK X kws tk)
    (hall : (backToKw pos (keywordEach kws X.env)).all (·.1.isSome) = true := by rfl) (hks : (backToKw pos (keywordEach kws X.env)).filterMap (·.1) = ks := by rfl)
    (hpl : ((backTo pos (starEach [] X.env)).any (·.1) || (backToKw pos (keywordEach kws X.env)).any (·.1.isNone)) = false := by rfl)
    (ht : eval (.Call (.Attribute o m apos) [] kws pos) X.env = (do
      let ov ← eval o X.env
      standAt apos.atName
      let (f, first) ← holding [ov] (getMethod ov m pl)
      callWith pos f first (backTo pos (starEach [] X.env)) (backToKw pos (keywordEach kws X.env))) := by rfl) :
    PE X (.Call (.Attribute o m apos) [] kws pos) (tCMethK C ks.length sp gV E ta tk) := by
  refine ⟨fun pins s σ H Q I h => PySem.W.methodCall_KW (pl := pl) (thn (he.run pins s σ H _ I h) fun u s1 ⟨x, H1, I1, rx, ex, q⟩ => ?_) ht⟩
  subst ex
  cases rx
  refine getmethcm_ok I1 r c fun s2 I2 => ?_
  refine PySem.W.callWith_of (P := PySem.W.MethP X.K s1.heap.objs.size g (.ref C)) hpl (PySem.W.keeps_M c.fi) (PyProof.Rows.evalArgs_kw2_nil hall (thn (hkw.run pos _ s2 σ H1 _ I2 q) fun ws s3 ⟨zs, H2, I3, rz, lz, q2⟩ => ⟨⟨pin_at I3, I3.kIn⟩, ?_⟩))
  rw [hks]
  have b := hb.to s3 [Value.ref C] ws I3.kIn rfl (rz.length.symm.trans lz)
  exact run_cmA (us := []) F hr b (hx σ) I3 (hb.rel (show Vals [V.ref C] [Value.ref C] from .cons rfl .nil) rz) q2
/-- a class in a slot is called -/
def tMakeV (i : Nat) (C : Addr) (sp : Sp) (t : TA) : TE := fun σ H Q => σ[i]? = some (some (.ref C)) ∧ tMake C sp [] E0 t σ H Q
theorem pe_makeV {i : Nat} (hN : X.N[i]? = some x) (hv : Vis X.env.scope x) (M : Mk X.K C f) (F : FnOk X.prog X.w X.K X.mg X.base CX0 k f fd ps sp) (hr : Room (k + 1) X.A) (hb : Binds X.K fd ps []) (ha : PA X (e :: es) t)
    (hd : (x == ("__debug__" : Str)) = false := by decide) (hcd : (x == ("__classdict__" : Str)) = false := by decide) (he : starEach (e :: es) X.env = (false, eval e X.env) :: starEach es X.env := by rfl) (hpl : (backTo pos (starEach es X.env)).any (·.1) = false := by rfl) :
    PE X (.Call (.Name x np) (e :: es) [] pos) (tMakeV i C sp t) := by
  refine ⟨fun pins s σ H Q I h => ?_⟩
  obtain ⟨at_i, h⟩ := h
  refine wpAny_Call_Name_kw (thn ((pe_var (pos := np) hN hv hd hcd).run pins s σ H (fun v H1 => v = .ref C ∧ H1 = H) I ⟨.ref C, at_i, rfl, rfl⟩) fun u s1 ⟨v, H1, I1, r1, q1⟩ => ?_)
  obtain ⟨rfl, rfl⟩ := q1
  cases r1
  refine PySem.W.callWith_K (h₀ := X.base) I.ok.mod.kin M.kp (thn (ha.run pos pins s1 σ _ _ I1 h) fun us s2 ⟨vs, H2, I2, r, q⟩ => ⟨I2.kIn, ?_⟩) he hpl
  exact run_make M F hr hb .nil pass0 I2 r q
end
end L2.ClsCall
namespace L2.LawH
open PySem PySem.Spec PyProof.Rows L2.TxtSet TL L2.NSet PySem.W L2.ClsCall
def spLotF (C : Addr) (K : PySem.W.Frag) : Sp := fun vs H Q _ => ∃ (q : Addr) (xs : List Pt), vs = [.ref C, .ref q] ∧ (SqL K H q (xs.map fun x => V.ref x.1) ∨ SqT K H q (xs.map fun x => V.ref x.1)) ∧ (∀ x ∈ xs, H x.1 = some (.tup (ptV x)) ∧ Fct x.2) ∧ xs.length < 64 ∧
  ∀ (H' : Hp) (a : Addr) (cs : List Fc), Same H H' → H a = none → FrmAt C H' a (.lot cs) → Asc cs → (∀ c, c ∈ cs ↔ c ∈ xs.map (·.2)) → Q (.ref a) H'
def spBinF (C : Addr) (s : Str) : Sp := fun vs H Q _ => ∃ a b : Addr, vs = [.ref a, .ref b] ∧ ∀ (H' : Hp) (f : Addr), Same H H' → H f = none → (∀ x y, FrmAt C H a x → FrmAt C H b y → FrmAt C H' f (.node s x y)) → Q (.ref f) H'
def spTextF (C : Addr) (d : Nat) : Sp := fun vs H Q _ => ∃ (a : Addr) (φ : Fm), vs = [.ref a] ∧ FrmAt C H a φ ∧ φ.Ok ∧ φ.dep < d ∧ (ftl φ).length ≤ 60000 ∧ ∀ H', Same H H' → Q (.str (ftext φ)) H'
theorem fct_okv {K : PySem.W.Frag} {H : Hp} {x : Pt} (h : Fct x.2) : ∀ y ∈ ptV x, Okv K H y := by
  intro v hv
  have tm : ∀ z : Str, Nm z ∨ Vr z → Okv K H (.str z) := fun z hz => .inl ⟨z, rfl, Nat.le_trans (tm_len hz).2 (by decide)⟩
  unfold ptV at hv
  rcases List.mem_cons.mp hv with rfl | hv
  · exact tm _ (.inl h.nT)
  · obtain ⟨z, hz, rfl⟩ := List.mem_map.mp hv
    exact tm _ (h.nz z hz)
theorem Fct.pat {c : Fc} (h : Fct c) : patB (.str c.1 :: c.2.map V.str) = true := h.pg.pat
section
variable {P : Program} {w : World} {K : PySem.W.Frag} {mg : Str → Option Value} {base : Heap}
theorem scLotF : FnScope ["cls", "patterns", "value"] ["cls", "patterns"] (defScope sLotF) := ⟨rfl, rfl, rfl, by decide +kernel, rfl, by decide +kernel, by decide +kernel⟩
theorem ok_lotF {f fP fI C : Addr} {fd fdP fdI : FuncData} (F : Fun K "lot" "Form.lot" sLotF f fd) (M : Mk K C fI) (GI : FnOk P w K mg base CX0 1 fI fdI ["self", "sign", "halves", "wanted"] (spInitF C)) (bI : Binds K fdI ["self", "sign", "halves", "wanted"] [])
    (GP : FnOk P w K mg base CX0 3 fP fdP ["value"] (spIsP K patB)) (kP : PySem.W.keepIn K (.ref fP) = true) (bP : Binds K fdP ["value"] []) (mP : mg "is_pattern" = some (.ref fP))
    (ms : mg "sorted" = none) (mt : mg "tuple" = none) (mS : mg "set" = none) : FnOk P w K mg base CX0 4 f fd ["cls", "patterns"] (spLotF C K) := by
  refine F.ok scLotF (fun vs H Q E h => ?_) (fun cdv A outer s H vs Q E hr h => ?_)
  · obtain ⟨q, xs, rfl, _⟩ := h
    rfl
  · obtain ⟨q, xs, rfl, hq, each, few, k⟩ := h
    have hu := hr.units
    have hr3 : Room 3 _ := hr.mono (by decide)
    have hr2 : Room (1 + 1) _ := hr.mono (by decide)
    refine ⟨_, PSs.nox (pss_cons (ps_for PassesOwn.never rfl (pi_seq (pv 1)) (pg_name (i := 2) scLotF.nd rfl (Or.inl rfl))
        (pss_one (ps_if (pt_not (pt_val (pe_call GP hr3 (by rfl) mP kP bP .nil pass0 (pa_cons (pv 2) pa_nil)))) (pss_one ps_never) pss_nil)))
      (pss_one (ps_ret (pe_makeV (i := 0) (by rfl) (.inl (by rfl)) M GI hr2 bI (pa_cons pe_str (pa_cons (pe_tup pa_nil) (pa_cons (pe_callTy call_tuple_of (by rfl) mt (by decide +kernel) (pa_cons (pe_callB (cr_sortNK (K := K) (P := P) (w := w) rfl rfl rfl rfl hu) (by rfl) ms (by decide +kernel)
        (pa_cons (pe_callTy (cr_setNK (K := K) (P := P) (w := w) rfl rfl rfl rfl hu) (by rfl) mS (by decide +kernel) (pa_cons (pv 1) pa_nil)) pa_nil)) pa_nil)) pa_nil))))))), ?_⟩
    refine ⟨_, rfl, q, rfl, for_seq hq (fun i σ H5 => ∃ v2 : Option V, σ = [some (.ref C), some (.ref q), v2] ∧ Same H H5) ⟨none, rfl, fun _ _ h => h⟩ (fun i σ H5 p => let ⟨_, _, s⟩ := p; s) (fun i z σ H5 hz pp => ?_) (fun σ H5 pp => ?_)⟩
    · obtain ⟨v2, rfl, s5⟩ := pp
      rw [List.getElem?_map] at hz
      obtain ⟨x, hx, rfl⟩ := Option.map_eq_some_iff.mp hz
      obtain ⟨e1, e2⟩ := each x (List.mem_of_getElem? hx)
      refine ⟨_, rfl, .ref x.1, rfl, .inl ⟨x.1, ptV x, rfl, s5 _ _ e1, ?_, fct_okv e2, fun H6 s6 => ?_⟩⟩
      · have := e2.l3
        unfold ptV
        rw [List.length_cons, List.length_map]
        omega
      · rw [show patB (ptV x) = true from e2.pat]
        exact ⟨true, rfl, iteF ⟨_, rfl, s5.trans s6⟩⟩
    · obtain ⟨v2, rfl, s5⟩ := pp
      refine ⟨rfl, (by show 0 ≤ sizeLine; decide), fun t nt => ?_⟩
      have u1 : Same H5 (upd H5 t (.tup [])) := same_new nt
      have c1 : (upd H5 t (.tup [])) t = some (.tup []) := upd_same
      generalize upd H5 t (.tup []) = H6 at u1 c1 ⊢
      refine ⟨_, rfl, ?_⟩
      dsimp only [tNil, List.cons_append, List.nil_append]
      have s6 := s5.trans u1
      refine sorted_set (hq.imp (fun e => e.ext s6) fun e => e.ext s6) (fun x m => s6 _ _ (each x m).1) few fun l Ms H7 s7 nl hl sub mem asc => ?_
      refine ⟨l, _, rfl, .inl ⟨SqL.of hl, fun u nu => ?_⟩⟩
      have u2 : Same H7 (upd H7 u (.tup (Ms.map fun x => V.ref x.1))) := same_new nu
      have c2 : (upd H7 u (.tup (Ms.map fun x => V.ref x.1))) u = some (.tup (Ms.map fun x => V.ref x.1)) := upd_same
      generalize upd H7 u (.tup (Ms.map fun x => V.ref x.1)) = H8 at u2 c2 ⊢
      refine make_frm fun H9 a dx s9 na ha => ?_
      have s69 := (s7.trans u2).trans s9
      refine k H9 a (Ms.map (·.2)) (s6.trans s69) (none_of (s6.trans (s7.trans u2)) na) ⟨dx, t, u, Ms, ha, s69 _ _ c1, s9 _ _ c2, fun x m => s69 _ _ (s6 _ _ (each x (sub x m)).1), rfl⟩ asc mem
theorem scAndF : FnScope ["self", "other"] ["self", "other"] (defScope sAndF) := ⟨rfl, rfl, rfl, by decide +kernel, rfl, by decide +kernel, by decide +kernel⟩
theorem scOrF : FnScope ["self", "other"] ["self", "other"] (defScope sOrF) := ⟨rfl, rfl, rfl, by decide +kernel, rfl, by decide +kernel, by decide +kernel⟩
theorem scOptF : FnScope ["self", "other"] ["self", "other"] (defScope sOptF) := ⟨rfl, rfl, rfl, by decide +kernel, rfl, by decide +kernel, by decide +kernel⟩
theorem ok_andF {f fI C : Addr} {fd fdI : FuncData} (F : Fun K "__and__" "Form.__and__" sAndF f fd) (M : Mk K C fI) (GI : FnOk P w K mg base CX0 1 fI fdI ["self", "sign", "halves", "wanted"] (spInitF C)) (bI : Binds K fdI ["self", "sign", "halves", "wanted"] []) (mC : mg "Form" = some (.ref C)) :
    FnOk P w K mg base CX0 3 f fd ["self", "other"] (spBinF C andS) := by
  refine F.ok scAndF (fun vs H Q E h => ?_) (fun cdv A outer s H vs Q E hr h => ?_)
  · obtain ⟨a, b, rfl, _⟩ := h
    rfl
  · obtain ⟨a, b, rfl, k⟩ := h
    refine ⟨_, pss_one (ps_ret (pe_make M GI (hr.mono (by decide)) (by rfl) mC bI .nil pass0 (pa_cons pe_str (pa_cons (pe_tup (pa_cons (pv 0) (pa_cons (pv 1) pa_nil))) (pa_cons (pe_tup pa_nil) pa_nil))))), ?_⟩
    refine ⟨_, rfl, _, rfl, (by show 2 ≤ sizeLine; decide), fun t nt => ?_⟩
    have u1 : Same H (upd H t (.tup [.ref a, .ref b])) := same_new nt
    have c1 : (upd H t (.tup [.ref a, .ref b])) t = some (.tup [.ref a, .ref b]) := upd_same
    generalize upd H t (.tup [.ref a, .ref b]) = H1 at u1 c1 ⊢
    refine ⟨(by show 0 ≤ sizeLine; decide), fun u nu => ?_⟩
    have u2 : Same H1 (upd H1 u (.tup [])) := same_new nu
    have c2 : (upd H1 u (.tup [])) u = some (.tup []) := upd_same
    generalize upd H1 u (.tup []) = H2 at u2 c2 ⊢
    have s2 := u1.trans u2
    refine make_frm fun H3 g dx s3 ng hg => ?_
    exact k H3 g (s2.trans s3) (none_of s2 ng) (fun x y hx hy => ⟨dx, t, u, a, b, hg, s3 _ _ (u2 _ _ c1), s3 _ _ c2, hx.same (s2.trans s3), hy.same (s2.trans s3)⟩)
theorem ok_orF {f fI C : Addr} {fd fdI : FuncData} (F : Fun K "__or__" "Form.__or__" sOrF f fd) (M : Mk K C fI) (GI : FnOk P w K mg base CX0 1 fI fdI ["self", "sign", "halves", "wanted"] (spInitF C)) (bI : Binds K fdI ["self", "sign", "halves", "wanted"] []) (mC : mg "Form" = some (.ref C)) :
    FnOk P w K mg base CX0 3 f fd ["self", "other"] (spBinF C orS) := by
  refine F.ok scOrF (fun vs H Q E h => ?_) (fun cdv A outer s H vs Q E hr h => ?_)
  · obtain ⟨a, b, rfl, _⟩ := h
    rfl
  · obtain ⟨a, b, rfl, k⟩ := h
    refine ⟨_, pss_one (ps_ret (pe_make M GI (hr.mono (by decide)) (by rfl) mC bI .nil pass0 (pa_cons pe_str (pa_cons (pe_tup (pa_cons (pv 0) (pa_cons (pv 1) pa_nil))) (pa_cons (pe_tup pa_nil) pa_nil))))), ?_⟩
    refine ⟨_, rfl, _, rfl, (by show 2 ≤ sizeLine; decide), fun t nt => ?_⟩
    have u1 : Same H (upd H t (.tup [.ref a, .ref b])) := same_new nt
    have c1 : (upd H t (.tup [.ref a, .ref b])) t = some (.tup [.ref a, .ref b]) := upd_same
    generalize upd H t (.tup [.ref a, .ref b]) = H1 at u1 c1 ⊢
    refine ⟨(by show 0 ≤ sizeLine; decide), fun u nu => ?_⟩
    have u2 : Same H1 (upd H1 u (.tup [])) := same_new nu
    have c2 : (upd H1 u (.tup [])) u = some (.tup []) := upd_same
    generalize upd H1 u (.tup []) = H2 at u2 c2 ⊢
    have s2 := u1.trans u2
    refine make_frm fun H3 g dx s3 ng hg => ?_
    exact k H3 g (s2.trans s3) (none_of s2 ng) (fun x y hx hy => ⟨dx, t, u, a, b, hg, s3 _ _ (u2 _ _ c1), s3 _ _ c2, hx.same (s2.trans s3), hy.same (s2.trans s3)⟩)
theorem ok_optF {f fI C : Addr} {fd fdI : FuncData} (F : Fun K "opt" "Form.opt" sOptF f fd) (M : Mk K C fI) (GI : FnOk P w K mg base CX0 1 fI fdI ["self", "sign", "halves", "wanted"] (spInitF C)) (bI : Binds K fdI ["self", "sign", "halves", "wanted"] []) (mC : mg "Form" = some (.ref C)) :
    FnOk P w K mg base CX0 3 f fd ["self", "other"] (spBinF C optS) := by
  refine F.ok scOptF (fun vs H Q E h => ?_) (fun cdv A outer s H vs Q E hr h => ?_)
  · obtain ⟨a, b, rfl, _⟩ := h
    rfl
  · obtain ⟨a, b, rfl, k⟩ := h
    refine ⟨_, pss_one (ps_ret (pe_make M GI (hr.mono (by decide)) (by rfl) mC bI .nil pass0 (pa_cons pe_str (pa_cons (pe_tup (pa_cons (pv 0) (pa_cons (pv 1) pa_nil))) (pa_cons (pe_tup pa_nil) pa_nil))))), ?_⟩
    refine ⟨_, rfl, _, rfl, (by show 2 ≤ sizeLine; decide), fun t nt => ?_⟩
    have u1 : Same H (upd H t (.tup [.ref a, .ref b])) := same_new nt
    have c1 : (upd H t (.tup [.ref a, .ref b])) t = some (.tup [.ref a, .ref b]) := upd_same
    generalize upd H t (.tup [.ref a, .ref b]) = H1 at u1 c1 ⊢
    refine ⟨(by show 0 ≤ sizeLine; decide), fun u nu => ?_⟩
    have u2 : Same H1 (upd H1 u (.tup [])) := same_new nu
    have c2 : (upd H1 u (.tup [])) u = some (.tup []) := upd_same
    generalize upd H1 u (.tup []) = H2 at u2 c2 ⊢
    have s2 := u1.trans u2
    refine make_frm fun H3 g dx s3 ng hg => ?_
    exact k H3 g (s2.trans s3) (none_of s2 ng) (fun x y hx hy => ⟨dx, t, u, a, b, hg, s3 _ _ (u2 _ _ c1), s3 _ _ c2, hx.same (s2.trans s3), hy.same (s2.trans s3)⟩)
abbrev nTextF : List Str := ["self", "words", "pattern", "one", "other"]
theorem scTextF : FnScope nTextF ["self"] (defScope sTextF) := ⟨rfl, rfl, rfl, by decide +kernel, rfl, by decide +kernel, by decide +kernel⟩
theorem join_sum (s : Nat) : ∀ X : List (List Nat), (X.map (·.length)).sum + X.length ≤ (joinL [s] X).length + 1
  | [] => by simp
  | [p] => by
    show [p.length].sum + 1 ≤ p.length + 1
    simp
  | p :: q :: r => by
    have ih := join_sum s (q :: r)
    rw [joinL_cons _ _ (by simp), List.map_cons, List.sum_cons, List.length_cons, List.length_append, List.length_append]
    simp only [List.length_singleton]
    omega
theorem len_ftext (φ : Fm) : (ftext φ).length = (ftl φ).length := by rw [len_tl, tl_ftext]
theorem join_texts (cs : List Fc) : tl (Txt.join (Str.ofString " ") (cs.map fun c => ptext c.1 c.2)) = joinL [32] (cs.map ptl) := by
  rw [join_eq, tl_join, map_ptl, show tl (Str.ofString " ") = [32] by decide +kernel]
theorem sgn_no_lot {s : Str} (h : SgnOk s) : decide (V.str s = V.str lotS) = false := by
  rcases h with rfl | rfl | rfl <;> decide +kernel
theorem text_step {f fP C : Addr} {fd fdP : FuncData} {n : Nat} (F : Fun K "text" "Form.text" sTextF f fd) (T : ClF K C) (mT : Meth K C "text" f) (bF : Binds K fd ["self"] [])
    (GP : FnOk P w K mg base CX0 1 fP fdP ["pattern"] spPtx) (kP : PySem.W.keepIn K (.ref fP) = true) (bP : Binds K fdP ["pattern"] []) (mP : mg "pattern_text" = some (.ref fP))
    (GS : FnOk P w K mg base CX0 (n + 1) f fd ["self"] (spTextF C n)) : FnOk P w K mg base CX0 (n + 2) f fd ["self"] (spTextF C (n + 1)) := by
  refine F.ok scTextF (fun vs H Q E h => ?_) (fun cdv A outer s H vs Q E hr h => ?_)
  · obtain ⟨a, φ, rfl, _⟩ := h
    rfl
  · obtain ⟨a, φ, rfl, ha, ok, dp, ln, k⟩ := h
    have hr1 : Room 1 _ := hr.mono (by omega)
    refine ⟨_, pss_cons (ps_if (pt_cmpR op_eq (pe_fld (pv 0) rfl) pe_str (nomark _))
        (pss_cons (ps_set (i := 1) scTextF.nd rfl (Or.inl rfl) (pe_join pe_str (pe_lc (own := [("pattern", 2)]) (g := gName 2) (tt := tYes) rfl scTextF.nd (pi_tup (pe_fld (pv 0) rfl))
          (blkOk_by (own := [("pattern", 2)]) (N := nTextF) (sc := defScope sTextF) (by decide +kernel)) (fun _ _ _ _ _ => pg_name (i := 2) scTextF.nd rfl (Or.inl rfl)) (fun _ _ _ _ _ => pts_nil)
          (fun _ _ _ _ _ => pe_call GP hr1 (by rfl) mP kP bP .nil pass0 (pa_cons (pv 2) pa_nil)))))
        (pss_one (ps_ret (pe_op op_add_str (pe_op op_add_str pe_str (pv 1)) pe_str)))) pss_nil)
      (pss_cons (ps_asg (pe_fld (pv 0) rfl) (pg_tup (by rfl) (pgs_cons (pg_name (i := 3) scTextF.nd rfl (Or.inl rfl)) (pgs_cons (pg_name (i := 4) scTextF.nd rfl (Or.inl rfl)) pgs_nil))))
      (pss_one (ps_ret (pe_joined (.cons pe_str (.cons (pe_fmt (pe_meth0 (pv 3) T.cl mT GS hr bF .nil pass0)) (.cons pe_str (.cons (pe_fmt (pe_fld (pv 0) rfl)) (.cons pe_str (.cons (pe_fmt (pe_meth0 (pv 4) T.cl mT GS hr bF .nil pass0)) (.cons pe_str .nil))))))))))), ?_⟩
    cases φ with
    | lot cs =>
      obtain ⟨dx, t, u, xs, h1, h2, h3, h4, rfl⟩ := ha
      obtain ⟨asc, fct⟩ := ok
      refine ⟨_, rfl, a, C, dx, _, _, rfl, h1, T.cl, T.nS, rfl, rfl, _, rfl, iteT ?_⟩
      refine ⟨⟨_, rfl⟩, _, rfl, a, C, dx, _, _, rfl, h1, T.cl, T.nW, rfl, u, rfl, ⟨_, SqT.of h3⟩, fun D nD => ?_⟩
      have fl : ftl (.lot (xs.map (·.2))) = 123 :: (joinL [32] ((xs.map (·.2)).map ptl) ++ [125]) := rfl
      have lj : (joinL [32] ((xs.map (·.2)).map ptl)).length ≤ 60000 := by
        rw [fl] at ln
        simp only [List.length_cons, List.length_append] at ln
        omega
      have js := join_sum 32 ((xs.map (·.2)).map ptl)
      have lx : xs.length ≤ 100000 := by
        rw [List.length_map, List.length_map] at js
        omega
      refine lc_sift (ms := xs) (val := fun x => V.ref x.1) (L2.walk_tup (K := K)) (List.length_map _) (fun _ => true) (fun x => V.str (ptext x.2.1 x.2.2)) nD lx (fun H' s' => SqT.of (s' _ _ h3)) (fun x hx H5 Yes No s5 yes no => ?_) (fun H' s' hL => ?_)
      · refine ⟨rfl, ?_⟩
        dsimp only [tYes]
        rw [if_pos rfl]
        have fx := fct x.2 (List.mem_map_of_mem hx)
        refine ⟨_, rfl, x.1, x.2.1, x.2.2, rfl, s5 _ _ (h4 x hx), Nat.le_trans fx.l3 (by decide), ?_, ?_, fun H6 s6 => yes H6 s6 rfl⟩
        · exact Nat.le_trans (tm_len (.inl fx.nT)).2 (by decide)
        · exact fun z hz => Nat.le_trans (tm_len (fx.nz z hz)).2 (by decide)
      · have hL' : H' D = some (.lst (((xs.map (·.2)).map fun c : Fc => ptext c.1 c.2).map V.str)) := by
          rw [hL, List.map_map, List.map_map]
          rw [List.filter_eq_self.mpr (fun _ _ => rfl)]
          rfl
        have jt := join_texts (xs.map (·.2))
        refine ⟨_, D, _, rfl, rfl, .inl (SqL.of hL'), ?_, ?_⟩
        · rw [show (Str.ofString " ").length = 1 by decide +kernel, List.length_map, List.length_map, Nat.mul_one]
          rw [List.length_map, List.length_map] at js
          have e : ((xs.map (·.2)).map fun c : Fc => ptext c.1 c.2).map (·.length) = ((xs.map (·.2)).map ptl).map (·.length) := by
            simp only [← map_ptl, List.map_map]
            exact List.map_congr_left fun y _ => len_tl _
          rw [e]
          omega
        have lw : (Txt.join (Str.ofString " ") ((xs.map (·.2)).map fun c : Fc => ptext c.1 c.2)).length ≤ 60000 := by
          rw [len_tl, jt]
          exact lj
        have lo : (Str.ofString "{").length = 1 := by decide +kernel
        have lc : (Str.ofString "}").length = 1 := by decide +kernel
        refine ⟨_, rfl, _, _, rfl, rfl, ?_, _, _, rfl, rfl, ?_, ?_⟩
        · rw [lo, sizeLine_eq]
          omega
        · rw [len_app, lo, lc, sizeLine_eq]
          omega
        have e : (Str.ofString "{" ++ Txt.join (Str.ofString " ") ((xs.map (·.2)).map fun c : Fc => ptext c.1 c.2)) ++ Str.ofString "}" = ftext (.lot (xs.map (·.2))) := by
          refine ext_tl ?_
          rw [tl_append, tl_append, jt, tl_ftext, show tl (Str.ofString "{") = [123] by decide +kernel, show tl (Str.ofString "}") = [125] by decide +kernel, fl]
          simp
        rw [e]
        exact k H' s'
    | node s l r =>
      obtain ⟨dx, t, u, b, c, h1, h2, h3, h4, h5⟩ := ha
      obtain ⟨so, ol, orr⟩ := ok
      have dp : max l.dep r.dep + 1 < n + 1 := dp
      refine ⟨_, rfl, a, C, dx, _, _, rfl, h1, T.cl, T.nS, rfl, rfl, _, rfl, ?_⟩
      rw [sgn_no_lot so]
      refine iteF ?_
      have fl : ftl (.node s l r) = 40 :: (ftl l ++ (32 :: (tl s ++ (32 :: (ftl r ++ [41]))))) := rfl
      have lens : (ftl l).length + (tl s).length + (ftl r).length ≤ 60000 := by
        rw [fl] at ln
        simp only [List.length_cons, List.length_append] at ln
        omega
      refine ⟨_, rfl, a, C, dx, _, _, rfl, h1, T.cl, T.nH, rfl, t, _, rfl, SqT.of h2, rfl, _, _, rfl, _, _, rfl, rfl, ?_⟩
      obtain ⟨dx1, s1, t1, u1, g1⟩ := h4.ins
      obtain ⟨dx2, s2, t2, u2, g2⟩ := h5.ins
      have l1 : (Str.ofString "(").length = 1 := by decide +kernel
      have l2 : (Str.ofString " ").length = 1 := by decide +kernel
      have l3 : (Str.ofString ")").length = 1 := by decide +kernel
      have e0 : Str.empty.length = 0 := rfl
      have ls : s.length = (tl s).length := len_tl s
      have lf := len_ftext l
      have lg := len_ftext r
      refine ⟨_, rfl, ?_, ?_⟩
      · rw [len_app, e0, l1, sizeLine_eq]; omega
      refine ⟨_, rfl, b, dx1, _, rfl, g1, rfl, b, l, rfl, h4, ol, by omega, by omega, fun H1 sa => .inl ⟨_, rfl, ?_, _, rfl, ?_, _, rfl, ?_, ?_⟩⟩
      · rw [sizeLine_eq]; omega
      · rw [len_app, len_app, e0, l1, sizeLine_eq]; omega
      · rw [len_app, len_app, len_app, e0, l1, l2, sizeLine_eq]; omega
      refine ⟨_, rfl, a, C, dx, _, _, rfl, sa _ _ h1, T.cl, T.nS, rfl, .inl ⟨_, rfl, ?_, _, rfl, ?_, _, rfl, ?_, ?_⟩⟩
      · rw [sizeLine_eq]; omega
      · rw [len_app, len_app, len_app, len_app, e0, l1, l2, sizeLine_eq]; omega
      · rw [len_app, len_app, len_app, len_app, len_app, e0, l1, l2, sizeLine_eq]; omega
      refine ⟨_, rfl, c, dx2, _, rfl, sa _ _ g2, rfl, c, r, rfl, h5.same sa, orr, by omega, by omega, fun H2 sb => .inl ⟨_, rfl, ?_, _, rfl, ?_, _, rfl, ?_, ?_⟩⟩
      · rw [sizeLine_eq]; omega
      · rw [len_app, len_app, len_app, len_app, len_app, len_app, e0, l1, l2, sizeLine_eq]; omega
      · rw [len_app, len_app, len_app, len_app, len_app, len_app, len_app, e0, l1, l2, l3, sizeLine_eq]; omega
      have e : Str.empty ++ Str.ofString "(" ++ ftext l ++ Str.ofString " " ++ s ++ Str.ofString " " ++ ftext r ++ Str.ofString ")" = ftext (.node s l r) := by
        refine ext_tl ?_
        rw [empty_app, tl_ftext, fl]
        simp only [tl_append, tl_ftext, show tl (Str.ofString "(") = [40] by decide +kernel, show tl (Str.ofString " ") = [32] by decide +kernel, show tl (Str.ofString ")") = [41] by decide +kernel]
        simp
      rw [e]
      exact k H2 (sa.trans sb)
theorem ok_textF {f fP C : Addr} {fd fdP : FuncData} (F : Fun K "text" "Form.text" sTextF f fd) (T : ClF K C) (mT : Meth K C "text" f) (bF : Binds K fd ["self"] [])
    (GP : FnOk P w K mg base CX0 1 fP fdP ["pattern"] spPtx) (kP : PySem.W.keepIn K (.ref fP) = true) (bP : Binds K fdP ["pattern"] []) (mP : mg "pattern_text" = some (.ref fP)) : ∀ n, FnOk P w K mg base CX0 (n + 1) f fd ["self"] (spTextF C n)
  | 0 => by
    have no : ∀ vs H Q E, ¬ spTextF C 0 vs H Q E := fun vs H Q E ⟨_, _, _, _, _, h, _⟩ => absurd h (Nat.not_lt_zero _)
    exact ⟨fun vs H Q E h => absurd h (no _ _ _ _), fun A outer s H args us vs Q E hr he hb hv hs => absurd hs (no _ _ _ _)⟩
  | n + 1 => text_step F T mT bF GP kP bP mP (ok_textF F T mT bF GP kP bP mP n)
end
end L2.LawH
set_option Elab.async false
set_option linter.all false
set_option maxRecDepth 100000
set_option maxHeartbeats 4000000
/-! sign_from, lot_from. -/
namespace L2.LawH
open PySem PySem.Spec PyProof.Rows L2.TxtSet TL L2.NSet PySem.W L2.ClsCall
abbrev sSgF : Stmt := top 18
abbrev sLtF : Stmt := top 19
/-- a text that may be read -/
structure TxOk (z : Str) : Prop where
  len : z.length ≤ 50000
  cod : ∀ c ∈ tl z, c < 0x110000
  spc : (tl z).count 32 ≤ 60
theorem TxOk.szl {z : Str} (h : TxOk z) : z.length ≤ sizeLine := by
  have := h.len
  rw [sizeLine_eq]
  omega
theorem cut_drop (z : Str) (a n : Nat) (b : Int) (h : b = (a : Int) + n) : tl (cutS z (some (a : Int)) (some b)) = ((tl z).drop a).take n := by
  obtain rfl : b = ((a + n : Nat) : Int) := by omega
  show ((tl z).drop (HT.sIx z.length 0 (some (a : Int)))).take (HT.sIx z.length z.length (some ((a + n : Nat) : Int)) - HT.sIx z.length 0 (some (a : Int))) = _
  rw [HT.sIx_nat, HT.sIx_nat, len_tl z]
  rcases Nat.le_total a (tl z).length with h1 | h1
  · rw [Nat.min_eq_left h1]
    rcases Nat.le_total (a + n) (tl z).length with h2 | h2
    · rw [Nat.min_eq_left h2, Nat.add_sub_cancel_left]
    · rw [Nat.min_eq_right h2, List.take_of_length_le (l := (tl z).drop a) (i := n) (by rw [List.length_drop]; omega), List.take_of_length_le (by rw [List.length_drop]; omega)]
  · rw [Nat.min_eq_right h1, List.drop_of_length_le (Nat.le_refl _), List.drop_of_length_le h1, List.take_nil, List.take_nil]
theorem cut_is (z : Str) (a n : Nat) (b : Int) (p : Str) (h : b = (a : Int) + n) : decide (V.str (cutS z (some (a : Int)) (some b)) = V.str p) = decide (((tl z).drop a).take n = tl p) := by
  refine decide_eq_decide.mpr ⟨fun e => ?_, fun e => ?_⟩
  · rw [← cut_drop z a n b h, V.str.inj e]
  · exact congrArg V.str (ext_tl (by rw [cut_drop z a n b h, e]))
theorem take_len {α : Type} {l : List α} {n : Nat} {p : List α} (h : l.take n = p) (e : p.length = n) : n ≤ l.length := by
  rw [← h, List.length_take] at e
  omega
section
variable {X : Cx}
/-- C(), an own exception class without __init__ -/
theorem pmk_own0 {C : Addr} {bmB : List Value} {B newId initId : String} {x : Str} {p pos : Pos} (F : ExcBaseFacts B newId initId bmB) (q : PySem.W.excIn X.K C bmB newId = true) (gC : X.mg x = some (.ref C)) (kC : PySem.W.keepIn X.K (.ref C) = true) (r : Raises X (.ref C)) (hg : Gl X x)
    (hdb : (x == ("__debug__" : Str)) = false := by decide) : PMk X (.Call (.Name x p) [] [] pos) (fun σ H Q => Q (.ref C) none H) := by
  intro pins s σ H Q I h
  refine wpAny_Call_Name_kw (ld_glob I hg gC ?_ hdb)
  refine PySem.W.callWith_K0 I.kIn kC ?_
  show wpAny _ _ (call (.ref C) []) _ _ _
  obtain ⟨bm, N, nm, qn, bs, hdct, sn, sub, ab, col, dd, k0, k1, k2, k3, k5, mN, hC, hN, hni, T⟩ := exc_obj I.kIn q
  refine wpAny_call_exc_subT F T hC hN hni (fun h' e hm => ?_) (Nat.zero_le _)
  exact mk_of I hm r h (I.hok.gone hm.new)
end
/-- the three signs of the module -/
def SgT (K : PySem.W.Frag) (t : Addr) : Prop := ∃ (o : Obj) (its : Array Value) (n : Nat), K.lookup t = some o ∧ o.cls = .type "tuple" ∧ o.data = .seq its n ∧ its.size ≤ sizeLine ∧ Vals [V.str andS, V.str orS, V.str optS] its.toList
theorem SgT.at {K : PySem.W.Frag} {t : Addr} (h : SgT K t) (H : Hp) : SqT K H t [V.str andS, V.str orS, V.str optS] := .inr h
def spSgF (B : Addr) : Sp := fun vs H Q E => ∃ (z : Str) (a : Nat), vs = [.str z, .int a] ∧ TxOk z ∧ a ≤ (tl z).length ∧ (signP ((tl z).drop a) = none → ∀ H', Same H H' → E (.ref B) none H') ∧ (∀ s l', signP ((tl z).drop a) = some (s, l') → ∀ H', Same H H' → Q (.str s) H')
section
variable {P : Program} {w : World} {K : PySem.W.Frag} {mg : Str → Option Value} {base : Heap}
theorem scSgF : FnScope ["text", "at", "sign"] ["text", "at"] (defScope sSgF) := ⟨rfl, rfl, rfl, by decide +kernel, rfl, by decide +kernel, by decide +kernel⟩
theorem ok_sgF {f B tS : Addr} {fd : FuncData} {bmB : List Value} (F : Fun K "sign_from" "sign_from" sSgF f fd) (mS : mg "SIGNS_READ" = some (.ref tS)) (hS : SgT K tS) (ml : mg "len" = none)
    (FB : ExcBaseFacts "ValueError" "ValueError.__new__" "ValueError.__init__" bmB) (xB : PySem.W.excIn K B bmB "ValueError.__new__" = true) (gB : mg "BadText" = some (.ref B)) (kB : PySem.W.keepIn K (.ref B) = true) (rB : ∀ {X : Cx}, X.K = K → Raises X (.ref B)) :
    FnOk P w K mg base (L2.CX P w) 1 f fd ["text", "at"] (spSgF B) := by
  refine F.okX scSgF (fun vs H Q E h => ?_) (fun cdv A outer s H vs Q E hr h => ?_)
  · obtain ⟨z, a, rfl, _⟩ := h
    rfl
  · obtain ⟨z, a, rfl, tz, la, kE, kS⟩ := h
    refine ⟨_, pss_cons (ps_for (passes_of rfl) rfl (pi_tup (pe_glob (v := .ref tS) (by rfl) mS rfl)) (pg_name (i := 2) scSgF.nd rfl (Or.inl rfl))
        (pss_one (ps_if (pt_cmpR op_eq (pe_slice sl_str (pv 0) (po_some (pv 1)) (po_some (pe_op op_add (pe_op op_add (pv 1) (pe_callB call_len_str (by rfl) ml (by decide +kernel) (pa_cons (pv 2) pa_nil))) pe_int)))
            (pe_joined (.cons pe_str (.cons (pe_fmt (pv 2)) (.cons pe_str .nil)))) (nomark _)) (pss_one (ps_ret (pv 2))) pss_nil)))
      (pss_one (ps_raise rfl (takes_of rfl rfl rfl rfl) (pmk_own0 FB xB gB kB (rB rfl) (by rfl)))), ?_⟩
    refine ⟨tS, rfl, ⟨_, hS.at H⟩, for_tup (xs := [V.str andS, V.str orS, V.str optS]) (fun i σ H5 => ∃ v2 : Option V, σ = [some (.str z), some (.int a), v2] ∧ Same H H5 ∧ (1 ≤ i → ¬ ((tl z).drop a).take 3 = [32, 38, 32]) ∧ (2 ≤ i → ¬ ((tl z).drop a).take 3 = [32, 124, 32]) ∧ (3 ≤ i → ¬ ((tl z).drop a).take 5 = [32, 111, 112, 116, 32]))
      ⟨none, rfl, Same.refl _, fun h => by omega, fun h => by omega, fun h => by omega⟩ (fun i σ H5 _ p => ?_) (fun i x σ H5 hx p => ?_) (fun σ H5 p => ?_)⟩
    · exact hS.at H5
    · obtain ⟨v2, rfl, s5, n1, n2, n3⟩ := p
      have go : ∀ (s : Str) (n : Nat), s.length = n → n ≤ 3 → (decide (V.str (cutS z (some (a : Int)) (some ((a : Int) + (s.length : Int) + 2))) = V.str (Str.empty ++ Str.ofString " " ++ s ++ Str.ofString " ")) = decide (((tl z).drop a).take (n + 2) = 32 :: (tl s ++ [32]))) := fun s n e l => by
        rw [cut_is z a (n + 2) _ _ (by omega)]
        have : tl (Str.empty ++ Str.ofString " " ++ s ++ Str.ofString " ") = 32 :: (tl s ++ [32]) := by
          rw [empty_app]
          simp only [tl_append, show tl (Str.ofString " ") = [32] by decide +kernel]
          rfl
        rw [this]
      have e0 : Str.empty.length = 0 := rfl
      have l1 : (Str.ofString " ").length = 1 := by decide +kernel
      have hi : (i = 0 ∧ x = .str andS) ∨ (i = 1 ∧ x = .str orS) ∨ (i = 2 ∧ x = .str optS) := by
        have hl := (List.getElem?_eq_some_iff.mp hx).1
        simp only [List.length_cons, List.length_nil] at hl
        have : i = 0 ∨ i = 1 ∨ i = 2 := by omega
        rcases this with rfl | rfl | rfl
        · exact .inl ⟨rfl, (Option.some.inj hx).symm⟩
        · exact .inr (.inl ⟨rfl, (Option.some.inj hx).symm⟩)
        · exact .inr (.inr ⟨rfl, (Option.some.inj hx).symm⟩)
      have sx : ∃ s : Str, x = .str s ∧ s.length ≤ 3 := by
        rcases hi with ⟨_, rfl⟩ | ⟨_, rfl⟩ | ⟨_, rfl⟩
        · exact ⟨_, rfl, by decide +kernel⟩
        · exact ⟨_, rfl, by decide +kernel⟩
        · exact ⟨_, rfl, by decide +kernel⟩
      obtain ⟨sg, rfl, l3⟩ := sx
      refine ⟨_, rfl, ?_⟩
      refine ⟨_, rfl, _, rfl, _, rfl, _, rfl, sg, rfl, by rw [sizeLine_eq]; omega, _, _, rfl, rfl, _, _, rfl, rfl, _, rfl, z, rfl, tz.szl, ?_⟩
      refine ⟨_, rfl, ?_, _, rfl, .inl ⟨sg, rfl, ?_, _, rfl, ?_, _, rfl, ?_, ?_⟩⟩
      · rw [len_app, e0, l1, sizeLine_eq]; omega
      · rw [sizeLine_eq]; omega
      · rw [len_app, len_app, e0, l1, sizeLine_eq]; omega
      · rw [len_app, len_app, len_app, e0, l1, sizeLine_eq]; omega
      refine ⟨rfl, _, rfl, ?_⟩
      rw [go sg _ rfl l3]
      rcases hi with ⟨rfl, e⟩ | ⟨rfl, e⟩ | ⟨rfl, e⟩
      · obtain rfl := V.str.inj e
        rw [show andS.length = 1 by decide +kernel, tl_and]
        refine ite2 (fun h => ⟨_, rfl, kS _ _ (by unfold signP; rw [if_pos (show ((tl z).drop a).take 3 = [32, 38, 32] from of_decide_eq_true h)]) H5 s5⟩) (fun h => ⟨_, rfl, s5, fun _ q => h (decide_eq_true q), fun q => by omega, fun q => by omega⟩)
      · obtain rfl := V.str.inj e
        rw [show orS.length = 1 by decide +kernel, tl_or]
        refine ite2 (fun h => ⟨_, rfl, kS _ _ (by unfold signP; rw [if_neg (n1 (by decide)), if_pos (show ((tl z).drop a).take 3 = [32, 124, 32] from of_decide_eq_true h)]) H5 s5⟩) (fun h => ⟨_, rfl, s5, fun _ => n1 (by decide), fun _ q => h (decide_eq_true q), fun q => by omega⟩)
      · obtain rfl := V.str.inj e
        rw [show optS.length = 3 by decide +kernel, tl_opt]
        refine ite2 (fun h => ⟨_, rfl, kS _ _ (by unfold signP; rw [if_neg (n1 (by decide)), if_neg (n2 (by decide)), if_pos (show ((tl z).drop a).take 5 = [32, 111, 112, 116, 32] from of_decide_eq_true h)]) H5 s5⟩) (fun h => ⟨_, rfl, s5, fun _ => n1 (by decide), fun _ => n2 (by decide), fun _ q => h (decide_eq_true q)⟩)
    · obtain ⟨v2, rfl, s5, n1, n2, n3⟩ := p
      refine kE ?_ H5 s5
      unfold signP
      rw [if_neg (n1 (by decide)), if_neg (n2 (by decide)), if_neg (n3 (by decide))]
end
end L2.LawH
set_option Elab.async false
set_option linter.all false
set_option maxRecDepth 100000
set_option maxHeartbeats 4000000
/-! lot_from. -/
namespace L2.LawH
open PySem PySem.Spec PyProof.Rows L2.TxtSet TL L2.NSet PySem.W L2.ClsCall ClX
theorem un65 {k : Nat} {A : Around} (r : Room k A) : A.units + 65 < cLine := by
  have := r.un
  omega
theorem cut_from (z : Str) (k : Nat) : tl (cutS z (some (k : Int)) none) = (tl z).drop k := by
  show ((tl z).drop (HT.sIx z.length 0 (some (k : Int)))).take (HT.sIx z.length z.length none - HT.sIx z.length 0 (some (k : Int))) = _
  rw [HT.sIx_nat, HT.sIx_none, len_tl z]
  rcases Nat.le_total k (tl z).length with h | h
  · rw [Nat.min_eq_left h, List.take_of_length_le (by rw [List.length_drop]; omega)]
  · rw [Nat.min_eq_right h, Nat.sub_self, List.take_zero, List.drop_of_length_le h]
abbrev cbS : Str := Str.ofString "}"
abbrev spS : Str := Str.ofString " "
theorem tl_cb : tl cbS = [125] := by decide +kernel
theorem tl_sp : tl spS = [32] := by decide +kernel
theorem part_cb (z : Str) : Txt.partition z cbS = (match par [125] [] (tl z) with | some (a, b) => (⟨a.toArray⟩, cbS, ⟨b.toArray⟩) | none => (z, Str.empty, Str.empty)) := by
  have h := partition_par z cbS (by rw [tl_cb]; simp)
  rw [tl_cb] at h
  exact h
theorem spl_count : ∀ (l acc : List Nat), (spl [32] 0 acc l).length = l.count 32 + 1
  | [], acc => by rw [spl_nil]; rfl
  | c :: r, acc => by
    by_cases hc : c = 32
    · rw [spl_hit (by rw [pre_one, decide_eq_true hc])]
      show (acc :: spl [32] 0 [] r).length = _
      rw [List.length_cons, spl_count r [], hc, List.count_cons_self]
    · rw [spl_miss (by rw [pre_one, decide_eq_false hc]), spl_count r, List.count_cons_of_ne hc]
theorem wrds_few (l : List Nat) : (wrds l).length ≤ l.count 32 + 1 := by
  unfold wrds
  split
  · exact Nat.zero_le _
  · rw [List.length_map, spl_count]
    exact Nat.le_refl _
theorem wrds_split {i : Str} (h : tl i ≠ []) : Txt.split i spS = wrds (tl i) := by
  have e := split_spl i spS (by rw [tl_sp]; simp) (kind_ok (by decide +kernel))
  rw [tl_sp] at e
  unfold wrds
  rw [if_neg h, ← e, List.map_map]
  conv => lhs; rw [← List.map_id (Txt.split i spS)]
  exact List.map_congr_left fun x _ => ext_tl (str_tl _).symm
theorem wrd_mem {l : List Nat} {y : Str} (h : y ∈ wrds l) : (tl y).length ≤ l.length ∧ ∀ c ∈ tl y, c ∈ l := by
  have m : tl y ∈ (wrds l).map tl := List.mem_map_of_mem h
  have e := join_wrds l
  refine ⟨?_, fun c hc => ?_⟩
  · have := part_le 32 _ _ m
    rwa [e] at this
  · have := part_mem 32 _ _ c m hc
    rwa [e] at this
theorem rdAll_map : ∀ {ws : List Str} {cs : List Fc}, ws.map rdOk = cs.map some → rdAll ws = some cs
  | [], [], _ => rfl
  | [], _ :: _, h => by cases h
  | _ :: _, [], h => by cases h
  | z :: ws, c :: cs, h => by
    rw [List.map_cons, List.map_cons] at h
    injection h with h1 h2
    rw [rdAll, h1, rdAll_map h2]
    rfl
theorem rdAll_no {ws : List Str} {cs : List Fc} (h : rdAll ws = some cs) : ws.map rdOk = cs.map some := by
  obtain ⟨e, f⟩ := rdAll_some h
  rw [e, List.map_map]
  exact List.map_congr_left fun c hc => (f c hc).rd
def rvO : Option Pt → V
  | none => .non
  | some x => .ref x.1
def dvO : Option Pt → PyData
  | none => .none
  | some x => facD x.2
theorem dp_rvO {K : PySem.W.Frag} {H : Hp} : ∀ {os : List (Option Pt)}, (∀ x, some x ∈ os → H x.1 = some (.tup (ptV x))) → DpAll K H (os.map rvO) (os.map dvO)
  | [], _ => .nil
  | none :: os, h => .cons .non (dp_rvO fun x m => h x (List.mem_cons_of_mem _ m))
  | some y :: os, h => .cons (dp_fact (h y List.mem_cons_self)) (dp_rvO fun x m => h x (List.mem_cons_of_mem _ m))
theorem any_dvO : ∀ os : List (Option Pt), ((os.map dvO).any fun z => PyData.eqv z .none) = os.any fun o => o.isNone
  | [] => rfl
  | none :: os => by
    rw [List.map_cons, List.any_cons, List.any_cons, any_dvO os]
    simp [dvO, PyData.eqv]
  | some y :: os => by
    rw [List.map_cons, List.any_cons, List.any_cons, any_dvO os]
    simp [dvO, facD, PyData.eqv]
theorem shaped_dvO {os : List (Option Pt)} (h : ∀ x, some x ∈ os → Fct x.2) : SeqAt.shaped (.list (os.map dvO)) = true := by
  have l : ∀ os : List (Option Pt), (∀ x, some x ∈ os → Fct x.2) → PyData.canLayAll0 (os.map dvO) = true := by
    intro os
    induction os with
    | nil => intro _; simp [PyData.canLayAll0]
    | cons o os ih =>
      intro h
      rw [List.map_cons, PyData.canLayAll0, ih fun x m => h x (List.mem_cons_of_mem _ m)]
      cases o with
      | none => simp [dvO, PyData.canLay0]
      | some y => simp [dvO, lay_fact (h y List.mem_cons_self)]
  have d : ∀ os : List (Option Pt), PyData.depthAll (os.map dvO) ≤ 1 := by
    intro os
    induction os with
    | nil => simp [PyData.depthAll]
    | cons o os ih =>
      rw [List.map_cons, PyData.depthAll]
      have : (dvO o).depth ≤ 1 := by
        cases o with
        | none => simp [dvO, PyData.depth]
        | some y => exact depth_fact _
      omega
  unfold SeqAt.shaped
  rw [PyData.canLay0, l os h, Bool.true_and, PyData.depth]
  have := d os
  exact decide_eq_true (by omega)
theorem all_some : ∀ {os : List (Option Pt)}, (os.any fun o => o.isNone) = false → ∃ xs : List Pt, os = xs.map some
  | [], _ => ⟨[], rfl⟩
  | none :: os, h => by simp at h
  | some y :: os, h => by
    obtain ⟨xs, e⟩ := all_some (os := os) (by simpa using h)
    exact ⟨y :: xs, by rw [List.map_cons, e]⟩
theorem lot_len {cs : List Fc} (h : ∀ c ∈ cs, Fct c) : (ftl (.lot cs)).length ≤ 58 * cs.length + 2 := by
  have key : ∀ cs : List Fc, (∀ c ∈ cs, Fct c) → (joinL [32] (cs.map ptl)).length ≤ 58 * cs.length := by
    intro cs
    induction cs with
    | nil => intro _; exact Nat.zero_le _
    | cons c cs ih =>
      intro h
      have l := ptl_len (h c List.mem_cons_self)
      have i := ih fun d hd => h d (List.mem_cons_of_mem _ hd)
      cases cs with
      | nil =>
        show (ptl c).length ≤ 58 * 1
        omega
      | cons d cs =>
        rw [List.map_cons, joinL_cons _ _ (by simp), List.length_append, List.length_append]
        have e1 : ([32] : List Nat).length = 1 := rfl
        have e2 : (c :: d :: cs).length = (d :: cs).length + 1 := rfl
        omega
  have := key cs h
  show (123 :: (joinL [32] (cs.map ptl) ++ [125])).length ≤ _
  simp only [List.length_cons, List.length_append, List.length_nil]
  omega
def spLtF (B C : Addr) : Sp := fun vs H Q E => ∃ (z : Str) (a : Nat), vs = [.str z, .int a] ∧ TxOk z ∧ a ≤ (tl z).length ∧ ((tl z).drop a).take 1 = [123] ∧ (lotP ((tl z).drop (a + 1)) = none → ∀ H', Same H H' → E (.ref B) none H') ∧
  (∀ φ l', lotP ((tl z).drop (a + 1)) = some (φ, l') → ∀ (H' : Hp) (p g : Addr) (e : Nat), Same H H' → H p = none → H' p = some (.tup [.ref g, .int e]) → FrmAt C H' g φ → e ≤ (tl z).length → (tl z).drop e = l' → Q (.ref p) H')
section
variable {P : Program} {w : World} {K : PySem.W.Frag} {mg : Str → Option Value} {base : Heap}
abbrev nLtF : List Str := ["text", "at", "inner", "patterns", "word", "form", "whole"]
theorem scLtF : FnScope nLtF ["text", "at"] (defScope sLtF) := ⟨rfl, rfl, rfl, by decide +kernel, rfl, by decide +kernel, by decide +kernel⟩
theorem ok_ltF {f fR fL pL fT B C : Addr} {fd fdR fdL fdT : FuncData} {bmB : List Value} {mc : Value} (F : Fun K "lot_from" "lot_from" sLtF f fd) (T : ClF K C) (mC : mg "Form" = some (.ref C))
    (GR : FnOk P w K mg base CX0 4 fR fdR ["text"] spRd) (kR : PySem.W.keepIn K (.ref fR) = true) (bR : Binds K fdR ["text"] []) (mR : mg "read_pattern" = some (.ref fR))
    (rL : CRead K C mc) (cL : CMet K C mc "lot" pL fL) (GL : FnOk P w K mg base CX0 4 fL fdL ["cls", "patterns"] (spLotF C K)) (bL : Binds K fdL ["cls", "patterns"] [])
    (mT : Meth K C "text" fT) (GT : FnOk P w K mg base CX0 2 fT fdT ["self"] (spTextF C 1)) (bT : Binds K fdT ["self"] []) (ml : mg "len" = none)
    (FB : ExcBaseFacts "ValueError" "ValueError.__new__" "ValueError.__init__" bmB) (xB : PySem.W.excIn K B bmB "ValueError.__new__" = true) (gB : mg "BadText" = some (.ref B)) (kB : PySem.W.keepIn K (.ref B) = true) (rB : ∀ {X : Cx}, X.K = K → Raises X (.ref B)) :
    FnOk P w K mg base (L2.CX P w) 5 f fd ["text", "at"] (spLtF B C) := by
  refine F.okX scLtF (fun vs H Q E h => ?_) (fun cdv A outer s H vs Q E hr h => ?_)
  · obtain ⟨z, a, rfl, _⟩ := h
    rfl
  · obtain ⟨z, a, rfl, tz, la, t1, kE, kS⟩ := h
    have hr4 : Room 4 _ := hr.mono (by decide)
    have hr2 : Room 2 _ := hr.mono (by decide)
    have hu := hr.units
    have hu1 := un65 hr
    refine ⟨_, pss_cons (ps_set (i := 2) scLtF.nd rfl (Or.inl rfl) (pe_ix ix_tup (pe_partition (pe_slice sl_str (pv 0) (po_some (pe_op op_add (pv 1) pe_int)) po_none) pe_str) pe_int (fun _ _ => rfl)))
      (pss_cons (ps_set (i := 3) scLtF.nd rfl (Or.inl rfl) (pe_ifExp (pt_truth (pv 2) (by intro _; rfl)) (pe_lc (own := [("word", 4)]) (g := gName 4) (tt := tYes) rfl scLtF.nd (pi_list (pe_split (pv 2) pe_str))
          (blkOk_by (own := [("word", 4)]) (N := nLtF) (sc := defScope sLtF) (by decide +kernel)) (fun _ _ _ _ _ => pg_name (i := 4) scLtF.nd rfl (Or.inl rfl)) (fun _ _ _ _ _ => pts_nil)
          (fun _ _ _ _ _ => pe_call GR hr4 (by rfl) mR kR bR .nil pass0 (pa_cons (pv 4) pa_nil))) (pe_lst pa_nil)))
      (pss_cons (ps_if (pt_cmpR (op_inD hu1) pe_non (pv 3) (by rfl)) (pss_one (ps_raise rfl (takes_of rfl rfl rfl rfl) (pmk_own0 FB xB gB kB (rB rfl) (by rfl)))) pss_nil)
      (pss_cons (ps_set (i := 5) scLtF.nd rfl (Or.inl rfl) (pe_cmethS (E := fun _ => E0) (pe_glob (v := .ref C) (by rfl) mC rfl) rL cL GL hr4 bL (fun _ _ _ _ _ _ _ h => h.elim) (pa_cons (pv 3) pa_nil)))
      (pss_cons (ps_set (i := 6) scLtF.nd rfl (Or.inl rfl) (pe_meth0 (pv 5) T.cl mT GT hr2 bT .nil pass0))
      (pss_cons (ps_if (pt_cmpR op_ne (pe_slice sl_str (pv 0) (po_some (pv 1)) (po_some (pe_op op_add (pv 1) (pe_callB call_len_str (by rfl) ml (by decide +kernel) (pa_cons (pv 6) pa_nil))))) (pv 6) (nomark _))
        (pss_one (ps_raise rfl (takes_of rfl rfl rfl rfl) (pmk_own0 FB xB gB kB (rB rfl) (by rfl)))) pss_nil)
      (pss_one (ps_ret (pe_tup (pa_cons (pv 5) (pa_cons (pe_op op_add (pv 1) (pe_callB call_len_str (by rfl) ml (by decide +kernel) (pa_cons (pv 6) pa_nil))) pa_nil)))))))))), ?_⟩
    refine ⟨_, rfl, _, rfl, _, _, rfl, rfl, _, rfl, z, rfl, tz.szl, ?_⟩
    have ew : tl (cutS z (some ((a : Int) + 1)) none) = (tl z).drop (a + 1) := by
      have := cut_from z (a + 1)
      rwa [show ((a + 1 : Nat) : Int) = (a : Int) + 1 by omega] at this
    dsimp only
    generalize hw : cutS z (some ((a : Int) + 1)) none = W at ew ⊢
    have lW : W.length ≤ z.length := by
      rw [len_tl, len_tl z, ew, List.length_drop]
      omega
    refine ⟨⟨_, rfl⟩, W, _, rfl, rfl, by decide +kernel, by have := tz.szl; omega, fun p np => ?_⟩
    have dw : (tl z).drop (a + 1) = tl W := ew.symm
    rw [dw] at kE kS
    have hl : (tl z).drop a = 123 :: tl W := by
      have := take_eq 1 t1
      rw [List.drop_drop] at this
      rw [this, ew]
      rfl
    -- the inner text
    have facts : ∃ i m b : Str, Txt.partition W cbS = (i, m, b) ∧ (∀ x r, par [125] [] (tl W) = some (x, r) → tl i = x) ∧ tl i <+: tl W := by
      cases hp : par [125] [] (tl W) with
      | none => exact ⟨W, Str.empty, Str.empty, by rw [part_cb, hp], fun x r h => (by cases h), List.prefix_refl _⟩
      | some ab =>
        obtain ⟨x, r⟩ := ab
        refine ⟨⟨x.toArray⟩, cbS, ⟨r.toArray⟩, by rw [part_cb, hp], fun x' r' h => ?_, ?_⟩
        · cases h
          exact str_tl _
        · obtain ⟨m, e1, e2, _⟩ := par_eq 125 _ _ _ _ hp
          rw [List.nil_append] at e1
          rw [str_tl, e1, e2]
          exact List.prefix_append _ _
    obtain ⟨i, m, b, ep, hi, pre⟩ := facts
    have ep : Txt.partition W (Str.ofString "}") = (i, m, b) := ep
    rw [ep]
    dsimp only
    have li : (tl i).length ≤ z.length := Nat.le_trans pre.length_le (by rw [← len_tl]; exact lW)
    have ci : ∀ c ∈ tl i, c < 0x110000 := fun c hc => tz.cod c (List.mem_of_mem_drop (by rw [ew] at pre; exact pre.subset hc))
    have ni : (tl i).count 32 ≤ 60 := by
      refine Nat.le_trans (pre.sublist.count_le 32) (Nat.le_trans ?_ tz.spc)
      rw [ew]
      exact (List.drop_sublist _ _).count_le 32
    have u1 : Same H (upd H p (.tup [.str i, .str m, .str b])) := same_new np
    have c1 : (upd H p (.tup [.str i, .str m, .str b])) p = some (.tup [.str i, .str m, .str b]) := upd_same
    generalize upd H p (.tup [.str i, .str m, .str b]) = H1 at u1 c1 ⊢
    refine ⟨p, _, 0, _, rfl, rfl, SqT.of c1, rfl, ?_⟩
    refine ⟨_, rfl, _, ⟨by rw [sizeLine_eq]; have := tz.len; rw [len_tl]; omega, rfl⟩, ?_⟩
    have few : (wrds (tl i)).length ≤ 61 := Nat.le_trans (wrds_few _) (by omega)
    -- the words read
    have rest : ∀ (os : List (Option Pt)) (D : Addr) (H7 : Hp), Same H1 H7 → H7 D = some (.lst (os.map rvO)) → os.map (Option.map (·.2)) = (wrds (tl i)).map rdOk → (∀ x, some x ∈ os → H7 x.1 = some (.tup (ptV x))) → True := fun _ _ _ _ _ _ _ => trivial
    refine ite2 (fun h0 => ⟨_, rfl, ⟨_, rfl⟩, i, _, rfl, rfl, by decide +kernel, by rw [sizeLine_eq, len_tl]; have := tz.len; omega, fun l nl => ?wa⟩) (fun h0 => ⟨by show 0 ≤ sizeLine; decide, fun D nD => ?wb⟩)
    case' wa =>
      have hne : tl i ≠ [] := fun e => by
        have : i.length = 0 := by rw [len_tl, e]; rfl
        simp [this] at h0
      have es : Txt.split i (Str.ofString " ") = wrds (tl i) := wrds_split hne
      rw [es]
      have u2 : Same H1 (upd H1 l (.lst ((wrds (tl i)).map V.str))) := same_new nl
      have c2 : (upd H1 l (.lst ((wrds (tl i)).map V.str))) l = some (.lst ((wrds (tl i)).map V.str)) := upd_same
      generalize upd H1 l (.lst ((wrds (tl i)).map V.str)) = H2 at u2 c2 ⊢
      refine ⟨l, rfl, ⟨_, SqL.of c2⟩, fun D nD => ?_⟩
      refine lc_list (K := K) (a := l) (xs := (wrds (tl i)).map V.str) (fun j H5 => ∃ os : List (Option Pt), Same H2 H5 ∧ H5 D = some (.lst (os.map rvO)) ∧ os.map (Option.map (·.2)) = ((wrds (tl i)).take j).map rdOk ∧ (∀ x, some x ∈ os → H5 x.1 = some (.tup (ptV x)) ∧ x.1 ≠ D))
        ⟨[], same_new nD, upd_same, rfl, fun x m => nomatch m⟩ (fun j H5 _ h5 => let ⟨_, s5, _⟩ := h5; s5.seq (SqL.of c2)) ?_ ?_
      · rintro j v H5 hj ⟨os, s5, hD, e5, f5⟩
        rw [List.getElem?_map] at hj
        obtain ⟨y, hy, rfl⟩ := Option.map_eq_some_iff.mp hj
        obtain ⟨ly, cy⟩ := wrd_mem (List.mem_of_getElem? hy)
        refine ⟨rfl, ?_⟩
        dsimp only [tYes]
        rw [if_pos rfl]
        have lo : os.length ≤ 61 := by
          have := congrArg List.length e5
          rw [List.length_map, List.length_map, List.length_take] at this
          omega
        refine ⟨_, rfl, y, rfl, by rw [len_tl]; have := tz.len; omega, fun c hc => ci c (cy c hc), fun hn H6 s6 => ?_, fun T ts hn t H6 s6 nt ht => ?_⟩
        · refine ⟨_, s6 _ _ hD, ?_, os ++ [none], fun b o e => ?_, by rw [upd_same, List.map_append]; rfl, ?_, fun x m => ?_⟩
          · rw [List.length_map, sizeLine_eq]
            omega
          · rw [upd_ne (ne_of_none e nD)]
            exact s6 _ _ (s5 _ _ e)
          · rw [List.map_append, e5, List.take_add_one, hy, List.map_append]
            simp [hn]
          · rcases List.mem_append.mp m with m | m
            · obtain ⟨q1, q2⟩ := f5 x m
              exact ⟨by rw [upd_ne q2]; exact s6 _ _ q1, q2⟩
            · simp at m
        · have tD : t ≠ D := fun e => by
            rw [e, hD] at nt
            cases nt
          refine ⟨_, s6 _ _ hD, ?_, os ++ [some (t, T, ts)], fun b o e => ?_, by rw [upd_same, List.map_append]; rfl, ?_, fun x m => ?_⟩
          · rw [List.length_map, sizeLine_eq]
            omega
          · rw [upd_ne (ne_of_none e nD)]
            exact s6 _ _ (s5 _ _ e)
          · rw [List.map_append, e5, List.take_add_one, hy, List.map_append]
            simp [hn]
          · rcases List.mem_append.mp m with m | m
            · obtain ⟨q1, q2⟩ := f5 x m
              exact ⟨by rw [upd_ne q2]; exact s6 _ _ q1, q2⟩
            · have e : x = (t, T, ts) := by simpa using m
              rw [e]
              exact ⟨by rw [upd_ne tD]; exact ht, tD⟩
      rintro H7 ⟨os, s27, hD, e7, f7⟩
      rw [List.length_map, List.take_length] at e7
      have s17 := u2.trans s27
      have f7 := fun x m => (f7 x m).1
      have s7 := u1.trans s17
      clear s27 c2 nD
    case' wb =>
      have hnil : tl i = [] := by
        have : i.length = 0 := by simpa using h0
        rw [len_tl] at this
        exact List.length_eq_zero_iff.mp this
      obtain ⟨os, hos⟩ : ∃ os : List (Option Pt), os = [] := ⟨[], rfl⟩
      have e7 : os.map (Option.map (·.2)) = (wrds (tl i)).map rdOk := by
        rw [hos, hnil]
        rfl
      have s7 : Same H (upd H1 D (.lst [])) := u1.trans (same_new nD)
      have hD : (upd H1 D (.lst [])) D = some (.lst (os.map rvO)) := by
        rw [upd_same, hos]
        rfl
      have f7 : ∀ x, some x ∈ os → (upd H1 D (.lst [])) x.1 = some (.tup (ptV x)) := fun x m => by
        rw [hos] at m
        cases m
      generalize upd H1 D (.lst []) = H7 at s7 hD f7 ⊢
    all_goals
      have fO : ∀ x, some x ∈ os → Fct x.2 := fun x m => by
        have m2 : some x.2 ∈ (wrds (tl i)).map rdOk := by
          rw [← e7]
          exact List.mem_map.mpr ⟨some x, m, rfl⟩
        obtain ⟨y, _, hy⟩ := List.mem_map.mp m2
        exact (rd_text hy).2
      refine ⟨_, rfl, .none, os.map dvO, .non, .lst (SqL.of hD) (dp_rvO f7), by decide, shaped_dvO fO, ?_⟩
      rw [any_dvO]
      refine ⟨_, rfl, ?_⟩
      cases hn : os.any fun o => o.isNone with
      | true =>
        refine iteT (kE ?_ H7 s7)
        cases hp : lotP (tl W) with
        | none => rfl
        | some y =>
          obtain ⟨φ, r⟩ := y
          exfalso
          obtain ⟨cs, _, _, fc, e⟩ := lotP_some hp
          have hpar : par [125] [] (tl W) = some (joinL [32] (cs.map ptl), r) := by
            rw [e]
            exact par_part1 (s := 125) (S := []) (p := joinL [32] (cs.map ptl)) (rest := r) (acc := []) fun m => (joinL_pln fc 125 m).2.1 rfl
          rw [hi _ _ hpar, wrds_join fc, List.map_map] at e7
          obtain ⟨o, mo, no⟩ := List.any_eq_true.mp hn
          have m2 : o.map (·.2) ∈ os.map (Option.map (·.2)) := List.mem_map_of_mem mo
          rw [e7] at m2
          obtain ⟨c, mc, ec⟩ := List.mem_map.mp m2
          have ec : rdOk (ptext c.1 c.2) = o.map (·.2) := ec
          rw [(fc c mc).rd] at ec
          cases o with
          | none => cases ec
          | some x => cases no
      | false =>
        refine iteF ?_
        obtain ⟨xs, rfl⟩ := all_some hn
        have hr : rdAll (wrds (tl i)) = some (xs.map (·.2)) := rdAll_map (by rw [← e7, List.map_map, List.map_map]; rfl)
        obtain ⟨ew2, fx⟩ := rdAll_some hr
        have lx : xs.length ≤ 61 := by
          have := congrArg List.length ew2
          rw [List.length_map, List.length_map] at this
          omega
        have hD' : H7 D = some (.lst (xs.map fun x => V.ref x.1)) := by
          rw [hD, List.map_map]
          rfl
        refine ⟨rfl, _, rfl, D, xs, rfl, .inl (SqL.of hD'), fun x m => ⟨f7 x (List.mem_map_of_mem m), fO x (List.mem_map_of_mem m)⟩, by omega, fun H8 g cs s8 ng hg asc mem => ?_⟩
        have fc : ∀ c ∈ cs, Fct c := fun c hc => fx c ((mem c).mp hc)
        have lcs : cs.length ≤ 61 := by
          have := nodup_len cs (xs.map (·.2)) asc.nodup fun c hc => (mem c).mp hc
          rw [List.length_map] at this
          omega
        have ll := lot_len fc
        obtain ⟨dxg, sg, tg, ug, insg⟩ := hg.ins
        refine ⟨_, rfl, g, dxg, _, rfl, insg, rfl, g, .lot cs, rfl, hg, ⟨asc, fc⟩, Nat.zero_lt_one, by omega, fun H9 s9 => ?_⟩
        have lt : (ftext (.lot cs)).length ≤ 4000 := by
          rw [len_ftext]
          omega
        refine ⟨_, rfl, _, rfl, _, rfl, _, rfl, _, rfl, _, rfl, by rw [sizeLine_eq]; omega, _, _, rfl, rfl, _, rfl, z, rfl, tz.szl, _, rfl, rfl, _, rfl, ?_⟩
        rw [cut_is z a (ftl (.lot cs)).length _ _ (by rw [len_ftext]), tl_ftext, hl]
        have fl : ftl (.lot cs) = 123 :: (joinL [32] (cs.map ptl) ++ [125]) := rfl
        have s9' : Same H H9 := (s7.trans s8).trans s9
        by_cases hcmp : (123 :: tl W).take (ftl (.lot cs)).length = ftl (.lot cs)
        · rw [decide_eq_true hcmp]
          refine iteF ?_
          have eW : tl W = joinL [32] (cs.map ptl) ++ 125 :: ((tl W).drop ((joinL [32] (cs.map ptl)).length + 1)) := by
            rw [fl, List.length_cons, List.take_succ_cons] at hcmp
            have h2 := List.cons.inj hcmp
            have h3 := take_eq _ h2.2
            rw [List.length_append] at h3
            conv => lhs; rw [h3]
            simp
          have good := lotP_of asc fc ((tl W).drop ((joinL [32] (cs.map ptl)).length + 1))
          rw [← eW] at good
          refine ⟨_, rfl, _, rfl, _, rfl, _, rfl, by rw [sizeLine_eq]; omega, _, _, rfl, rfl, (by show 2 ≤ sizeLine; decide), fun q nq => ?_⟩
          have le : (ftl (.lot cs)).length = (joinL [32] (cs.map ptl)).length + 2 := by
            rw [fl]
            simp
          have ei : ((a : Int) + ((ftext (.lot cs)).length : Int)) = ((a + (ftl (.lot cs)).length : Nat) : Int) := by
            rw [len_ftext]
            omega
          dsimp only
          rw [ei]
          have u8 : Same H9 (upd H9 q (.tup [.ref g, .int ((a + (ftl (.lot cs)).length : Nat) : Int)])) := same_new nq
          have c8 : (upd H9 q (.tup [.ref g, .int ((a + (ftl (.lot cs)).length : Nat) : Int)])) q = some (.tup [.ref g, .int ((a + (ftl (.lot cs)).length : Nat) : Int)]) := upd_same
          generalize upd H9 q (.tup [.ref g, .int ((a + (ftl (.lot cs)).length : Nat) : Int)]) = H10 at u8 c8 ⊢
          refine kS _ _ good H10 q g _ (s9'.trans u8) (none_of s9' nq) c8 (hg.same (s9.trans u8)) ?_ ?_
          · have h1 := congrArg List.length hl
            rw [List.length_drop, List.length_cons] at h1
            have h2 := take_len hcmp rfl
            rw [List.length_cons] at h2
            omega
          · rw [← List.drop_drop, hl, le]
            rfl
        · rw [decide_eq_false hcmp]
          refine iteT (kE ?_ H9 s9')
          cases hp : lotP (tl W) with
          | none => rfl
          | some y =>
            obtain ⟨φ, r⟩ := y
            exfalso
            obtain ⟨cs', _, asc', fc', e⟩ := lotP_some hp
            have hpar : par [125] [] (tl W) = some (joinL [32] (cs'.map ptl), r) := by
              rw [e]
              exact par_part1 (s := 125) (S := []) (p := joinL [32] (cs'.map ptl)) (rest := r) (acc := []) fun m => (joinL_pln fc' 125 m).2.1 rfl
            have e8 := hr
            rw [hi _ _ hpar, wrds_join fc', rdAll_of fc'] at e8
            have e8 := Option.some.inj e8
            have ecs : cs = cs' := asc_one asc asc' fun c => by rw [mem c, e8]
            refine hcmp ?_
            rw [e, ecs, show ftl (.lot cs') = 123 :: (joinL [32] (cs'.map ptl) ++ [125]) from rfl]
            rw [show 123 :: (joinL [32] (cs'.map ptl) ++ 125 :: r) = (123 :: (joinL [32] (cs'.map ptl) ++ [125])) ++ r by simp]
            exact List.take_left
end
end L2.LawH
set_option Elab.async false
set_option linter.all false
set_option maxRecDepth 100000
set_option maxHeartbeats 4000000
/-! form_from, Form.read. -/
namespace L2.LawH
open PySem PySem.Spec PyProof.Rows L2.TxtSet TL L2.NSet PySem.W L2.ClsCall ClX
abbrev sFoF : Stmt := top 17
abbrev sRdF : Stmt := inClass (top 16) 11
theorem drop_one (l : List Nat) (a : Nat) : (l.drop a).drop 1 = l.drop (a + 1) := by rw [List.drop_drop]
def spFoF (B C : Addr) (d : Nat) : Sp := fun vs H Q E => ∃ (z : Str) (a k : Nat), vs = [.str z, .int a, .int k] ∧ TxOk z ∧ a ≤ (tl z).length ∧ k + d = 20 ∧ (parse d ((tl z).drop a) = none → ∀ H', Same H H' → E (.ref B) none H') ∧
  (∀ φ l', parse d ((tl z).drop a) = some (φ, l') → ∀ (H' : Hp) (p g : Addr) (e : Nat), Same H H' → H p = none → H' p = some (.tup [.ref g, .int e]) → FrmAt C H' g φ → e ≤ (tl z).length → (tl z).drop e = l' → Q (.ref p) H')
section
variable {P : Program} {w : World} {K : PySem.W.Frag} {mg : Str → Option Value} {base : Heap}
abbrev nFoF : List Str := ["text", "at", "depth", "one", "behind", "sign", "other", "end"]
abbrev pFoF : List Str := ["text", "at", "depth"]
theorem scFoF : FnScope nFoF pFoF (defScope sFoF) := ⟨rfl, rfl, rfl, by decide +kernel, rfl, by decide +kernel, by decide +kernel⟩
theorem fo_step {f fL fS fI B C : Addr} {fd fdL fdS fdI : FuncData} {bmB : List Value} {t20 : Tok} {d : Nat} (F : Fun K "form_from" "form_from" sFoF f fd) (kF : PySem.W.keepIn K (.ref f) = true) (bF : Binds K fd pFoF []) (mF : mg "form_from" = some (.ref f))
    (GL : FnOk P w K mg base (L2.CX P w) 5 fL fdL ["text", "at"] (spLtF B C)) (kL : PySem.W.keepIn K (.ref fL) = true) (bL : Binds K fdL ["text", "at"] []) (mL : mg "lot_from" = some (.ref fL))
    (GS : FnOk P w K mg base (L2.CX P w) 1 fS fdS ["text", "at"] (spSgF B)) (kS : PySem.W.keepIn K (.ref fS) = true) (bS : Binds K fdS ["text", "at"] []) (mS : mg "sign_from" = some (.ref fS))
    (mO : mg "MOST_OPEN" = some (.int 20 t20)) (ml : mg "len" = none) (mC : mg "Form" = some (.ref C)) (M : Mk K C fI) (GI : FnOk P w K mg base CX0 1 fI fdI ["self", "sign", "halves", "wanted"] (spInitF C)) (bI : Binds K fdI ["self", "sign", "halves", "wanted"] [])
    (FB : ExcBaseFacts "ValueError" "ValueError.__new__" "ValueError.__init__" bmB) (xB : PySem.W.excIn K B bmB "ValueError.__new__" = true) (gB : mg "BadText" = some (.ref B)) (kB : PySem.W.keepIn K (.ref B) = true) (rB : ∀ {X : Cx}, X.K = K → Raises X (.ref B))
    (GF : ∀ d', d = d' + 1 → FnOk P w K mg base (L2.CX P w) (d' + 6) f fd pFoF (spFoF B C d')) : FnOk P w K mg base (L2.CX P w) (d + 6) f fd pFoF (spFoF B C d) := by
  refine F.okX scFoF (fun vs H Q E h => ?_) (fun cdv A outer s H vs Q E hr h => ?_)
  · obtain ⟨z, a, k, rfl, _⟩ := h
    rfl
  · obtain ⟨z, a, k, rfl, tz, la, kd, kE, kS'⟩ := h
    have hr5 : Room 5 _ := hr.mono (by omega)
    have hr1 : Room 1 _ := hr.mono (by omega)
    have hr2 : Room (1 + 1) _ := hr.mono (by omega)
    have head : ∀ (p : Str) (c : Nat), tl p = [c] → decide (V.str (cutS z (some (a : Int)) (some ((a : Int) + 1))) = V.str p) = decide (((tl z).drop a).take 1 = [c]) := fun p c e => by
      exact (cut_is z a 1 ((a : Int) + 1) p rfl).trans (by rw [e])
    cases d with
    | zero =>
      have hk : (k : Int) = 20 := by omega
      refine ⟨_, pss_cons (ps_if (pt_cmpR op_eq (pe_slice sl_str (pv 0) (po_some (pv 1)) (po_some (pe_op op_add (pv 1) pe_int))) pe_str (nomark _))
          (pss_one (ps_ret (pe_callS GL hr5 (by rfl) mL kL bL (fun σ => passAt (takes_of (E := E) rfl rfl rfl rfl) σ) (pa_cons (pv 0) (pa_cons (pv 1) pa_nil))))) pss_nil)
        (pss_cons (ps_if (PW.pt (pw_or (pt_cmpR op_ne (pe_slice sl_str (pv 0) (po_some (pv 1)) (po_some (pe_op op_add (pv 1) pe_int))) pe_str (nomark _)) (pw_or1 (pt_cmpR op_eq (pv 2) (pe_glob (v := .int 20) (by rfl) mO ⟨_, rfl⟩) (nomark _)))))
          (pss_one (ps_raise rfl (takes_of rfl rfl rfl rfl) (pmk_own0 FB xB gB kB (rB rfl) (by rfl)))) pss_nil)
        (pss_cons ps_never (pss_cons ps_never (pss_cons ps_never (pss_cons ps_never (pss_one ps_never)))))), ?_⟩
      refine ⟨_, rfl, _, rfl, _, rfl, _, rfl, _, _, rfl, rfl, _, rfl, z, rfl, tz.szl, rfl, _, rfl, ?_⟩
      dsimp only
      rw [head (Str.ofString "{") 123 (by decide +kernel)]
      refine ite2 (fun h => ?_) (fun h => ?_)
      · have h := of_decide_eq_true h
        rw [parse, if_pos h, drop_one] at kE kS'
        exact ⟨_, rfl, _, rfl, z, a, rfl, tz, la, h, kE, kS'⟩
      have n123 : ¬ ((tl z).drop a).take 1 = [123] := fun q => h (decide_eq_true q)
      refine ⟨_, rfl, _, rfl, _, rfl, _, rfl, _, _, rfl, rfl, _, rfl, z, rfl, tz.szl, rfl, _, rfl, ?_⟩
      dsimp only
      rw [head (Str.ofString "(") 40 (by decide +kernel)]
      have hn : parse 0 ((tl z).drop a) = none := by rw [parse, if_neg n123]
      refine ite2 (fun _ => kE hn H (Same.refl _)) (fun _ => ⟨_, rfl, rfl, _, rfl, ?_⟩)
      rw [hk]
      exact iteT (kE hn H (Same.refl _))
    | succ d =>
      have GF := GF d rfl
      have hrd : Room (d + 6) _ := hr.mono (by omega)
      refine ⟨_, pss_cons (ps_if (pt_cmpR op_eq (pe_slice sl_str (pv 0) (po_some (pv 1)) (po_some (pe_op op_add (pv 1) pe_int))) pe_str (nomark _))
          (pss_one (ps_ret (pe_callS GL hr5 (by rfl) mL kL bL (fun σ => passAt (takes_of (E := E) rfl rfl rfl rfl) σ) (pa_cons (pv 0) (pa_cons (pv 1) pa_nil))))) pss_nil)
        (pss_cons (ps_if (PW.pt (pw_or (pt_cmpR op_ne (pe_slice sl_str (pv 0) (po_some (pv 1)) (po_some (pe_op op_add (pv 1) pe_int))) pe_str (nomark _)) (pw_or1 (pt_cmpR op_eq (pv 2) (pe_glob (v := .int 20) (by rfl) mO ⟨_, rfl⟩) (nomark _)))))
          (pss_one (ps_raise rfl (takes_of rfl rfl rfl rfl) (pmk_own0 FB xB gB kB (rB rfl) (by rfl)))) pss_nil)
        (pss_cons (ps_asg (pe_callS GF hrd (by rfl) mF kF bF (fun σ => passAt (takes_of (E := E) rfl rfl rfl rfl) σ) (pa_cons (pv 0) (pa_cons (pe_op op_add (pv 1) pe_int) (pa_cons (pe_op op_add (pv 2) pe_int) pa_nil))))
          (pg_tup (by rfl) (pgs_cons (pg_name (i := 3) scFoF.nd rfl (Or.inl rfl)) (pgs_cons (pg_name (i := 4) scFoF.nd rfl (Or.inl rfl)) pgs_nil))))
        (pss_cons (ps_set (i := 5) scFoF.nd rfl (Or.inl rfl) (pe_callS GS hr1 (by rfl) mS kS bS (fun σ => passAt (takes_of (E := E) rfl rfl rfl rfl) σ) (pa_cons (pv 0) (pa_cons (pv 4) pa_nil))))
        (pss_cons (ps_asg (pe_callS GF hrd (by rfl) mF kF bF (fun σ => passAt (takes_of (E := E) rfl rfl rfl rfl) σ) (pa_cons (pv 0) (pa_cons (pe_op op_add (pe_op op_add (pv 4) (pe_callB call_len_str (by rfl) ml (by decide +kernel) (pa_cons (pv 5) pa_nil))) pe_int) (pa_cons (pe_op op_add (pv 2) pe_int) pa_nil))))
          (pg_tup (by rfl) (pgs_cons (pg_name (i := 6) scFoF.nd rfl (Or.inl rfl)) (pgs_cons (pg_name (i := 7) scFoF.nd rfl (Or.inl rfl)) pgs_nil))))
        (pss_cons (ps_if (pt_cmpR op_ne (pe_slice sl_str (pv 0) (po_some (pv 7)) (po_some (pe_op op_add (pv 7) pe_int))) pe_str (nomark _))
          (pss_one (ps_raise rfl (takes_of rfl rfl rfl rfl) (pmk_own0 FB xB gB kB (rB rfl) (by rfl)))) pss_nil)
        (pss_one (ps_ret (pe_tup (pa_cons (pe_make M GI hr2 (by rfl) mC bI .nil pass0 (pa_cons (pv 5) (pa_cons (pe_tup (pa_cons (pv 3) (pa_cons (pv 6) pa_nil))) (pa_cons (pe_tup pa_nil) pa_nil)))) (pa_cons (pe_op op_add (pv 7) pe_int) pa_nil)))))))))), ?_⟩
      refine ⟨_, rfl, _, rfl, _, rfl, _, rfl, _, _, rfl, rfl, _, rfl, z, rfl, tz.szl, rfl, _, rfl, ?_⟩
      dsimp only
      rw [head (Str.ofString "{") 123 (by decide +kernel)]
      refine ite2 (fun h => ?_) (fun h => ?_)
      · have h := of_decide_eq_true h
        rw [parse, if_pos h, drop_one] at kE kS'
        exact ⟨_, rfl, _, rfl, z, a, rfl, tz, la, h, kE, kS'⟩
      have n123 : ¬ ((tl z).drop a).take 1 = [123] := fun q => h (decide_eq_true q)
      refine ⟨_, rfl, _, rfl, _, rfl, _, rfl, _, _, rfl, rfl, _, rfl, z, rfl, tz.szl, rfl, _, rfl, ?_⟩
      dsimp only
      rw [head (Str.ofString "(") 40 (by decide +kernel)]
      refine ite2 (fun h40 => kE ?_ H (Same.refl _)) (fun h40 => ⟨_, rfl, rfl, _, rfl, ?_⟩)
      · have h40 : ¬ ((tl z).drop a).take 1 = [40] := by simpa using h40
        rw [parse, if_neg n123, if_neg h40]
      have h40 : ((tl z).drop a).take 1 = [40] := by simpa using h40
      have k20 : decide (V.int (k : Int) = V.int 20) = false := decide_eq_false fun e => by
        have := V.int.inj e
        omega
      rw [k20]
      refine iteF ?_
      have hp : parse (d + 1) ((tl z).drop a) = (parse d ((tl z).drop (a + 1))).bind fun x => (signP x.2).bind fun y => (parse d y.2).bind fun u => if u.2.take 1 = [41] then some (.node y.1 x.1 u.1, u.2.drop 1) else none := by
        rw [parse, if_neg n123, if_pos h40, drop_one]
      have la1 : a + 1 ≤ (tl z).length := by
        have := take_len h40 rfl
        rw [List.length_drop] at this
        omega
      refine ⟨_, rfl, _, rfl, _, _, rfl, rfl, _, rfl, _, _, rfl, rfl, z, a + 1, k + 1, rfl, tz, la1, by omega, fun hn H' s' => kE (by rw [hp, hn]; rfl) H' s', fun φ1 l1 h1 H1 p1 g1 e1 s1 np1 hp1 fr1 le1 de1 => ?_⟩
      refine ⟨p1, _, rfl, SqT.of hp1, rfl, _, _, rfl, _, _, rfl, rfl, ?_⟩
      rw [h1] at hp
      refine ⟨_, rfl, _, rfl, z, e1, rfl, tz, le1, fun hn H' s' => kE ?_ H' (s1.trans s'), fun sg l2 h2 H2 s2 => ?_⟩
      · rw [de1] at hn
        rw [hp, Option.bind_some]
        dsimp only
        rw [hn]
        rfl
      rw [de1] at h2
      obtain ⟨so, el1⟩ := signP_some h2
      have ls : sg.length = (tl sg).length := len_tl sg
      have l3 : sg.length ≤ 3 := by
        rcases so with rfl | rfl | rfl <;> decide +kernel
      have le2 : e1 + sg.length + 2 ≤ (tl z).length := by
        have := congrArg List.length de1
        rw [List.length_drop, el1] at this
        simp only [List.length_cons, List.length_append] at this
        omega
      have de2 : (tl z).drop (e1 + sg.length + 2) = l2 := by
        rw [show e1 + sg.length + 2 = e1 + (sg.length + 2) by omega, ← List.drop_drop, de1, el1]
        rw [show 32 :: (tl sg ++ 32 :: l2) = (32 :: (tl sg ++ [32])) ++ l2 by simp]
        refine List.drop_left' ?_
        rw [List.length_cons, List.length_append, ← ls]
        rfl
      refine ⟨_, rfl, _, rfl, _, rfl, sg, rfl, by rw [sizeLine_eq]; omega, _, _, rfl, rfl, _, _, rfl, rfl, _, rfl, _, _, rfl, rfl, z, e1 + sg.length + 2, k + 1, rfl, tz, le2, by omega, fun hn H' s' => kE ?_ H' ((s1.trans s2).trans s'), fun φ2 l4 h4 H3 p3 g2 e2 s3 np3 hp3 fr2 le3 de3 => ?_⟩
      · rw [de2] at hn
        rw [hp, Option.bind_some]
        dsimp only
        rw [h2, Option.bind_some]
        dsimp only
        rw [hn]
        rfl
      rw [de2] at h4
      refine ⟨p3, _, rfl, SqT.of hp3, rfl, _, _, rfl, _, _, rfl, rfl, ?_⟩
      refine ⟨_, rfl, _, rfl, _, rfl, _, rfl, _, _, rfl, rfl, _, rfl, z, rfl, tz.szl, rfl, _, rfl, ?_⟩
      dsimp only
      rw [show decide (V.str (cutS z (some (e2 : Int)) (some ((e2 : Int) + 1))) = V.str (Str.ofString ")")) = decide (((tl z).drop e2).take 1 = [41]) from (cut_is z e2 1 ((e2 : Int) + 1) (Str.ofString ")") rfl).trans (by rw [show tl (Str.ofString ")") = [41] by decide +kernel]), de3]
      have s123 := (s1.trans s2).trans s3
      have hp : parse (d + 1) ((tl z).drop a) = if l4.take 1 = [41] then some (.node sg φ1 φ2, l4.drop 1) else none := by
        rw [hp, Option.bind_some]
        dsimp only
        rw [h2, Option.bind_some]
        dsimp only
        rw [h4, Option.bind_some]
      refine ite2 (fun h41 => kE ?_ H3 s123) (fun h41 => ?_)
      · have h41 : ¬ l4.take 1 = [41] := by simpa using h41
        rw [hp, if_neg h41]
      have h41 : l4.take 1 = [41] := by simpa using h41
      rw [if_pos h41] at hp
      refine ⟨_, rfl, _, rfl, _, rfl, (by show 2 ≤ sizeLine; decide), fun t nt => ?_⟩
      have u1 : Same H3 (upd H3 t (.tup [.ref g1, .ref g2])) := same_new nt
      have c1 : (upd H3 t (.tup [.ref g1, .ref g2])) t = some (.tup [.ref g1, .ref g2]) := upd_same
      generalize upd H3 t (.tup [.ref g1, .ref g2]) = H4 at u1 c1 ⊢
      refine ⟨(by show 0 ≤ sizeLine; decide), fun u nu => ?_⟩
      have u2 : Same H4 (upd H4 u (.tup [])) := same_new nu
      have c2 : (upd H4 u (.tup [])) u = some (.tup []) := upd_same
      generalize upd H4 u (.tup []) = H5 at u2 c2 ⊢
      dsimp only [tNil, List.cons_append, List.nil_append]
      refine make_frm fun H6 g dx s6 ng hg => ?_
      refine ⟨_, rfl, _, _, rfl, rfl, (by show 2 ≤ sizeLine; decide), fun q nq => ?_⟩
      dsimp only
      rw [show ((e2 : Int) + 1) = ((e2 + 1 : Nat) : Int) by omega]
      have u7 : Same H6 (upd H6 q (.tup [.ref g, .int ((e2 + 1 : Nat) : Int)])) := same_new nq
      have c7 : (upd H6 q (.tup [.ref g, .int ((e2 + 1 : Nat) : Int)])) q = some (.tup [.ref g, .int ((e2 + 1 : Nat) : Int)]) := upd_same
      generalize upd H6 q (.tup [.ref g, .int ((e2 + 1 : Nat) : Int)]) = H7 at u7 c7 ⊢
      have s37 := ((u1.trans u2).trans s6).trans u7
      refine kS' _ _ hp H7 q g (e2 + 1) (s123.trans s37) (none_of (s123.trans ((u1.trans u2).trans s6)) nq) c7 ?_ ?_ ?_
      · exact ⟨dx, t, u, g1, g2, u7 _ _ hg, u7 _ _ (s6 _ _ (u2 _ _ c1)), u7 _ _ (s6 _ _ c2), fr1.same ((s2.trans s3).trans s37), fr2.same s37⟩
      · have := take_len h41 rfl
        rw [← de3, List.length_drop] at this
        omega
      · rw [← de3, drop_one]
end
end L2.LawH
set_option Elab.async false
set_option linter.all false
set_option maxRecDepth 100000
set_option maxHeartbeats 4000000
/-! form_from at every depth; Form.read. -/
namespace L2.LawH
open PySem PySem.Spec PyProof.Rows L2.TxtSet TL L2.NSet PySem.W L2.ClsCall ClX
/-- what Form.read makes of a text -/
def rdForm (l : List Nat) : Option Fm := (parse 20 l).bind fun x => if x.2 = [] then some x.1 else none
theorem rdForm_some {l : List Nat} {φ : Fm} (h : rdForm l = some φ) : l = ftl φ ∧ φ.Ok ∧ φ.dep ≤ 20 := by
  unfold rdForm at h
  obtain ⟨⟨ψ, r⟩, h1, h⟩ := Option.bind_eq_some_iff.mp h
  by_cases e : r = []
  · rw [if_pos e] at h
    obtain rfl := Option.some.inj h
    subst e
    have := parse_some 20 h1
    rw [List.append_nil] at this
    exact this
  · rw [if_neg e] at h
    cases h
theorem rdForm_of {φ : Fm} (h : φ.Ok) (b : φ.dep ≤ 20) : rdForm (ftl φ) = some φ := by
  have := parse_of φ 20 [] h b
  rw [List.append_nil] at this
  unfold rdForm
  rw [this]
  rfl
theorem rdForm_deep {φ : Fm} (h : φ.Ok) (b : 20 < φ.dep) : rdForm (ftl φ) = none := by
  have := parse_deep (r := []) h b
  rw [List.append_nil] at this
  unfold rdForm
  rw [this]
  rfl
def spRdF (B C : Addr) : Sp := fun vs H Q E => ∃ z : Str, vs = [.ref C, .str z] ∧ TxOk z ∧ (rdForm (tl z) = none → ∀ H', Same H H' → E (.ref B) none H') ∧
  (∀ φ, rdForm (tl z) = some φ → ∀ (H' : Hp) (g : Addr), Same H H' → FrmAt C H' g φ → Q (.ref g) H')
section
variable {P : Program} {w : World} {K : PySem.W.Frag} {mg : Str → Option Value} {base : Heap}
theorem ok_foF {f fL fS fI B C : Addr} {fd fdL fdS fdI : FuncData} {bmB : List Value} {t20 : Tok} (F : Fun K "form_from" "form_from" sFoF f fd) (kF : PySem.W.keepIn K (.ref f) = true) (bF : Binds K fd pFoF []) (mF : mg "form_from" = some (.ref f))
    (GL : FnOk P w K mg base (L2.CX P w) 5 fL fdL ["text", "at"] (spLtF B C)) (kL : PySem.W.keepIn K (.ref fL) = true) (bL : Binds K fdL ["text", "at"] []) (mL : mg "lot_from" = some (.ref fL))
    (GS : FnOk P w K mg base (L2.CX P w) 1 fS fdS ["text", "at"] (spSgF B)) (kS : PySem.W.keepIn K (.ref fS) = true) (bS : Binds K fdS ["text", "at"] []) (mS : mg "sign_from" = some (.ref fS))
    (mO : mg "MOST_OPEN" = some (.int 20 t20)) (ml : mg "len" = none) (mC : mg "Form" = some (.ref C)) (M : Mk K C fI) (GI : FnOk P w K mg base CX0 1 fI fdI ["self", "sign", "halves", "wanted"] (spInitF C)) (bI : Binds K fdI ["self", "sign", "halves", "wanted"] [])
    (FB : ExcBaseFacts "ValueError" "ValueError.__new__" "ValueError.__init__" bmB) (xB : PySem.W.excIn K B bmB "ValueError.__new__" = true) (gB : mg "BadText" = some (.ref B)) (kB : PySem.W.keepIn K (.ref B) = true) (rB : ∀ {X : Cx}, X.K = K → Raises X (.ref B)) :
    ∀ d, FnOk P w K mg base (L2.CX P w) (d + 6) f fd pFoF (spFoF B C d)
  | 0 => fo_step F kF bF mF GL kL bL mL GS kS bS mS mO ml mC M GI bI FB xB gB kB rB fun d' h => by cases h
  | d + 1 => fo_step F kF bF mF GL kL bL mL GS kS bS mS mO ml mC M GI bI FB xB gB kB rB fun d' h => by
    obtain rfl : d = d' := by omega
    exact ok_foF F kF bF mF GL kL bL mL GS kS bS mS mO ml mC M GI bI FB xB gB kB rB d
abbrev nRdF : List Str := ["cls", "text", "form", "end"]
theorem scRdF : FnScope nRdF ["cls", "text"] (defScope sRdF) := ⟨rfl, rfl, rfl, by decide +kernel, rfl, by decide +kernel, by decide +kernel⟩
theorem ok_rdF {f fF B C : Addr} {fd fdF : FuncData} {bmB : List Value} (F : Fun K "read" "Form.read" sRdF f fd)
    (GF : FnOk P w K mg base (L2.CX P w) 26 fF fdF pFoF (spFoF B C 20)) (kF : PySem.W.keepIn K (.ref fF) = true) (bF : Binds K fdF pFoF []) (mF : mg "form_from" = some (.ref fF)) (ml : mg "len" = none)
    (FB : ExcBaseFacts "ValueError" "ValueError.__new__" "ValueError.__init__" bmB) (xB : PySem.W.excIn K B bmB "ValueError.__new__" = true) (gB : mg "BadText" = some (.ref B)) (kB : PySem.W.keepIn K (.ref B) = true) (rB : ∀ {X : Cx}, X.K = K → Raises X (.ref B)) :
    FnOk P w K mg base (L2.CX P w) 27 f fd ["cls", "text"] (spRdF B C) := by
  refine F.okX scRdF (fun vs H Q E h => ?_) (fun cdv A outer s H vs Q E hr h => ?_)
  · obtain ⟨z, rfl, _⟩ := h
    rfl
  · obtain ⟨z, rfl, tz, kE, kS⟩ := h
    refine ⟨_, pss_cons (ps_asg (pe_callS GF hr (by rfl) mF kF bF (fun σ => passAt (takes_of (E := E) rfl rfl rfl rfl) σ) (pa_cons (pv 1) (pa_cons pe_int (pa_cons pe_int pa_nil))))
        (pg_tup (by rfl) (pgs_cons (pg_name (i := 2) scRdF.nd rfl (Or.inl rfl)) (pgs_cons (pg_name (i := 3) scRdF.nd rfl (Or.inl rfl)) pgs_nil))))
      (pss_cons (ps_if (pt_cmpR op_lt (pv 3) (pe_callB call_len_str (by rfl) ml (by decide +kernel) (pa_cons (pv 1) pa_nil)) (nomark _)) (pss_one (ps_raise rfl (takes_of rfl rfl rfl rfl) (pmk_own0 FB xB gB kB (rB rfl) (by rfl)))) pss_nil)
      (pss_one (ps_ret (pv 2)))), ?_⟩
    refine ⟨_, rfl, z, 0, 0, rfl, tz, Nat.zero_le _, rfl, fun hn H' s' => kE ?_ H' s', fun φ l' h1 H1 p g e s1 np hp fr le de => ?_⟩
    · rw [List.drop_zero] at hn
      unfold rdForm
      rw [hn]
      rfl
    rw [List.drop_zero] at h1
    refine ⟨p, _, rfl, SqT.of hp, rfl, _, _, rfl, _, _, rfl, rfl, ?_⟩
    refine ⟨_, rfl, _, rfl, z, rfl, tz.szl, _, _, rfl, rfl, _, rfl, ?_⟩
    have ll : l' = [] ↔ e = (tl z).length := by
      have := congrArg List.length de
      rw [List.length_drop] at this
      constructor
      · intro h
        rw [h, List.length_nil] at this
        omega
      · intro h
        refine List.length_eq_zero_iff.mp ?_
        omega
    have lz := len_tl z
    refine ite2 (fun h => kE ?_ H1 s1) (fun h => ⟨_, rfl, kS φ ?_ H1 g s1 fr⟩)
    · have h := of_decide_eq_true h
      unfold rdForm
      rw [h1, Option.bind_some, if_neg fun q => by have := ll.mp q; omega]
    · have h : ¬ ((e : Int) < (z.length : Int)) := fun q => h (decide_eq_true q)
      unfold rdForm
      rw [h1, Option.bind_some, if_pos (ll.mpr (by omega))]
end
end L2.LawH
set_option Elab.async false
set_option linter.all false
set_option maxRecDepth 100000
set_option maxHeartbeats 4000000
/-! Shapes and their forms: the mathematics. -/
namespace L2.LawH
open PySem PySem.Spec PyProof.Rows TL
/-- the form of a shape -/
def Nrm : Shp → Fm → Prop
  | .lot xs, .lot cs => Asc cs ∧ ∀ c, c ∈ cs ↔ c ∈ xs.map (·.2)
  | .node s l r, .node s' l' r' => s = s' ∧ Nrm l l' ∧ Nrm r r'
  | _, _ => False
theorem Nrm.one : ∀ {τ : Shp} {φ ψ : Fm}, Nrm τ φ → Nrm τ ψ → φ = ψ
  | .lot _, .lot _, .lot _, h1, h2 => by rw [asc_one h1.1 h2.1 fun c => by rw [h1.2, h2.2]]
  | .node _ _ _, .node _ _ _, .node _ _ _, h1, h2 => by rw [← h1.1, ← h2.1, Nrm.one h1.2.1 h2.2.1, Nrm.one h1.2.2 h2.2.2]
  | .lot _, .lot _, .node _ _ _, _, h => h.elim
  | .lot _, .node _ _ _, _, h, _ => h.elim
  | .node _ _ _, .lot _, _, h, _ => h.elim
  | .node _ _ _, .node _ _ _, .lot _, _, h => h.elim
theorem fct_of {c : Fc} (h : PatG c.1 c.2) : Fct c := ⟨h.nT, h.few, h.each⟩
theorem nrm_few {xs : List Pt} {cs : List Fc} (h : Nrm (.lot xs) (.lot cs)) : cs.length ≤ xs.length := by
  have := nodup_len cs (xs.map (·.2)) h.1.nodup fun c hc => (h.2 c).mp hc
  rwa [List.length_map] at this
theorem nrm_ok : ∀ {τ : Shp} {φ : Fm}, τ.Ok → Nrm τ φ → φ.Ok
  | .lot xs, .lot cs, o, h => ⟨h.1, fun c hc => by
    obtain ⟨x, hx, rfl⟩ := List.mem_map.mp ((h.2 c).mp hc)
    exact fct_of (o.2 x hx)⟩
  | .node s l r, .node s' l' r', o, h => by
    obtain ⟨rfl, h1, h2⟩ := h
    exact ⟨o.1, nrm_ok o.2.1 h1, nrm_ok o.2.2 h2⟩
  | .lot _, .node _ _ _, _, h => h.elim
  | .node _ _ _, .lot _, _, h => h.elim
theorem sgn_len3 {s : Str} (h : SgnOk s) : (tl s).length ≤ 3 ∧ (tl s).count 32 = 0 ∧ ∀ c ∈ tl s, c < 0x110000 := by
  rcases h with rfl | rfl | rfl
  · rw [tl_opt]; decide
  · rw [tl_and]; decide
  · rw [tl_or]; decide
theorem joinL_count : ∀ cs : List Fc, (∀ c ∈ cs, Fct c) → (joinL [32] (cs.map ptl)).count 32 ≤ cs.length - 1
  | [], _ => Nat.le_refl _
  | [c], h => by
    show (ptl c).count 32 ≤ 0
    rw [List.count_eq_zero.mpr fun m => (ptl_pln (h c List.mem_cons_self) 32 m).1 rfl]
    exact Nat.le_refl _
  | c :: d :: cs, h => by
    have ih := joinL_count (d :: cs) fun x m => h x (List.mem_cons_of_mem _ m)
    rw [List.map_cons, joinL_cons _ _ (by simp), List.count_append, List.count_append, List.count_eq_zero.mpr fun m => (ptl_pln (h c List.mem_cons_self) 32 m).1 rfl]
    have e : List.count 32 [32] = 1 := by decide
    have l1 : (c :: d :: cs).length = cs.length + 2 := rfl
    have l2 : (d :: cs).length = cs.length + 1 := rfl
    omega
theorem nrm_bds : ∀ {τ : Shp} {φ : Fm}, τ.Ok → Nrm τ φ → (ftl φ).length + 8 ≤ 184 * τ.lvs ∧ φ.dep + 1 ≤ τ.lvs ∧ (ftl φ).count 32 + 2 ≤ 4 * τ.lvs ∧ ∀ c ∈ ftl φ, c < 0x110000
  | .lot xs, .lot cs, o, h => by
    have ok := nrm_ok o h
    have l := nrm_few h
    have l3 := o.1
    have ll := lot_len ok.2
    have jc := joinL_count cs ok.2
    refine ⟨by show _ ≤ 184 * 1; omega, Nat.le_refl _, ?_, ?_⟩
    · show (123 :: (joinL [32] (cs.map ptl) ++ [125])).count 32 + 2 ≤ 4 * 1
      rw [List.count_cons_of_ne (by decide), List.count_append]
      have e : List.count 32 [125] = 0 := by decide
      omega
    · intro c hc
      have hc : c ∈ 123 :: (joinL [32] (cs.map ptl) ++ [125]) := hc
      rcases List.mem_cons.mp hc with rfl | hc
      · decide
      · rcases List.mem_append.mp hc with hc | hc
        · exact (joinL_pln ok.2 c hc).2.2
        · rw [List.mem_singleton.mp hc]
          decide
  | .node s l r, .node s' l' r', o, h => by
    obtain ⟨rfl, h1, h2⟩ := h
    obtain ⟨a1, a2, a3, a4⟩ := nrm_bds o.2.1 h1
    obtain ⟨b1, b2, b3, b4⟩ := nrm_bds o.2.2 h2
    obtain ⟨s1, s2, s3⟩ := sgn_len3 o.1
    have e : ftl (.node s l' r') = 40 :: (ftl l' ++ (32 :: (tl s ++ (32 :: (ftl r' ++ [41]))))) := rfl
    have el : (Shp.node s l r).lvs = l.lvs + r.lvs := rfl
    rw [el]
    refine ⟨?_, ?_, ?_, ?_⟩
    · rw [e]
      simp only [List.length_cons, List.length_append, List.length_nil]
      have := len_tl s
      have s1' : (tl s).length ≤ 3 := s1
      omega
    · show max l'.dep r'.dep + 1 + 1 ≤ _
      omega
    · rw [e, List.count_cons_of_ne (by decide), List.count_append, List.count_cons_self, List.count_append, List.count_cons_self, List.count_append]
      have e : List.count 32 [41] = 0 := by decide
      omega
    · intro c hc
      rw [e] at hc
      simp only [List.mem_cons, List.mem_append, List.not_mem_nil, or_false] at hc
      rcases hc with rfl | hc | rfl | hc | rfl | hc | rfl
      · decide
      · exact a4 c hc
      · decide
      · exact s3 c hc
      · decide
      · exact b4 c hc
      · decide
  | .lot _, .node _ _ _, _, h => h.elim
  | .node _ _ _, .lot _, _, h => h.elim
def Shp.pts : Shp → List Pt
  | .lot xs => xs
  | .node _ l r => l.pts ++ r.pts
theorem pts_ok : ∀ {τ : Shp}, τ.Ok → τ.pts.length ≤ 3 * τ.lvs ∧ ∀ x ∈ τ.pts, PatG x.2.1 x.2.2
  | .lot xs, o => ⟨by show xs.length ≤ 3 * 1; have := o.1; omega, o.2⟩
  | .node s l r, o => by
    obtain ⟨a1, a2⟩ := pts_ok o.2.1
    obtain ⟨b1, b2⟩ := pts_ok o.2.2
    refine ⟨?_, fun x m => ?_⟩
    · show (l.pts ++ r.pts).length ≤ 3 * (l.lvs + r.lvs)
      rw [List.length_append]
      omega
    · rcases List.mem_append.mp m with m | m
      · exact a2 x m
      · exact b2 x m
theorem pts_at {H : Hp} : ∀ {p : Addr} (τ : Shp), ShpAt H p τ → ∀ x ∈ τ.pts, H x.1 = some (.tup (ptV x))
  | p, .lot xs, ⟨q, _, _, h⟩ => h
  | p, .node s l r, ⟨a, b, _, h1, h2⟩ => fun x m => by
    rcases List.mem_append.mp m with m | m
    · exact pts_at l h1 x m
    · exact pts_at r h2 x m
end L2.LawH
set_option Elab.async false
set_option linter.all false
set_option maxRecDepth 100000
set_option maxHeartbeats 4000000
/-! _law_lot_text, _law_text, _law_lots, _law_form. -/
namespace L2.LawH
open PySem PySem.Spec PyProof.Rows L2.TxtSet TL L2.NSet PySem.W L2.ClsCall ClX
abbrev sLLT : Stmt := top 32
abbrev sLTxt : Stmt := top 33
abbrev sLLots : Stmt := top 29
abbrev sLForm : Stmt := top 28
theorem pe_joinK {X : Cx} {K : PySem.W.Frag} (eK : X.K = K) {o e : Expr} {to te : TE} {apos pos : Pos} (ho : PE X o to) (he : PE X e te) (hs : starEach [e] X.env = [(false, eval e X.env)] := by rfl) (hbase : attributeBase o "join" X.env (eval o X.env) = eval o X.env := by rfl) (hline : (apos.endLine == pos.line) = true := by rfl) :
    PE X (.Call (.Attribute o "join" apos) [e] [] pos) (tM1 (fun x xs H Q => ∃ a p, ∃ ys : List Str, x = .str a ∧ xs = [.ref p] ∧ (SqL K H p (ys.map V.str) ∨ SqT K H p (ys.map V.str)) ∧
      (ys.map (·.length)).sum + ys.length * a.length ≤ 16777216 ∧ Q (.str (Txt.join a ys)) H) to te) := by
  subst eK
  exact pe_join ho he hs hbase hline
theorem ix_tupK {X : Cx} {K : PySem.W.Frag} (e : X.K = K) : IxR X (rIxT K) := by
  subst e
  exact ix_tup
def spLLT (K : PySem.W.Frag) : Sp := fun vs H Q _ => ∃ (q : Addr) (xs : List Pt), vs = [.ref q] ∧ SqL K H q (xs.map fun x => V.ref x.1) ∧ (∀ x ∈ xs, H x.1 = some (.tup (ptV x)) ∧ Fct x.2) ∧ xs.length < 64 ∧
  ∀ (H' : Hp) (cs : List Fc), Same H H' → Asc cs → (∀ c, c ∈ cs ↔ c ∈ xs.map (·.2)) → Q (.str (ftext (.lot cs))) H'
def spLTxt (n : Nat) : Sp := fun vs H Q _ => ∃ (p : Addr) (τ : Shp), vs = [.ref p] ∧ ShpAt H p τ ∧ τ.Ok ∧ τ.lvs ≤ n ∧ τ.lvs ≤ 100 ∧ ∀ (H' : Hp) (φ : Fm), Same H H' → Nrm τ φ → Q (.str (ftext φ)) H'
def spLLots (n : Nat) : Sp := fun vs H Q _ => ∃ (p : Addr) (τ : Shp), vs = [.ref p] ∧ ShpAt H p τ ∧ τ.Ok ∧ τ.lvs ≤ n ∧ τ.lvs ≤ 100 ∧ ∀ (H' : Hp) (l : Addr), Same H H' → H l = none → H' l = some (.lst (τ.pts.map fun x => V.ref x.1)) → Q (.ref l) H'
def spLForm (C : Addr) (n : Nat) : Sp := fun vs H Q _ => ∃ (p : Addr) (τ : Shp), vs = [.ref p] ∧ ShpAt H p τ ∧ τ.Ok ∧ τ.lvs ≤ n ∧ ∀ (H' : Hp) (f : Addr) (φ : Fm), Same H H' → FrmAt C H' f φ → Nrm τ φ → Q (.ref f) H'
section
variable {P : Program} {w : World} {K : PySem.W.Frag} {mg : Str → Option Value} {base : Heap}
abbrev nLLT : List Str := ["_law_lot", "_law_words_here", "_law_pattern_here"]
theorem scLLT : FnScope nLLT ["_law_lot"] (defScope sLLT) := ⟨rfl, rfl, rfl, by decide +kernel, rfl, by decide +kernel, by decide +kernel⟩
theorem ok_llt {f : Addr} {fd : FuncData} (F : Fun K "_law_lot_text" "_law_lot_text" sLLT f fd) (ms : mg "sorted" = none) (mS : mg "set" = none) : FnOk P w K mg base CX0 1 f fd ["_law_lot"] (spLLT K) := by
  refine F.ok scLLT (fun vs H Q E h => ?_) (fun cdv A outer s H vs Q E hr h => ?_)
  · obtain ⟨q, xs, rfl, _⟩ := h
    rfl
  · obtain ⟨q, xs, rfl, hq, each, few, k⟩ := h
    have hu := hr.units
    refine ⟨_, pss_cons (ps_setLc (i := 1) (own := [("_law_pattern_here", 2)]) (g := gName 2) (tt := tYes) rfl scLLT.nd rfl rfl (sw_true rfl rfl rfl (by decide +kernel))
          (pi_list (pe_callB (cr_sortNK (K := K) (P := P) (w := w) rfl rfl rfl rfl hu) (by rfl) ms (by decide +kernel) (pa_cons (pe_callTy (cr_setNK (K := K) (P := P) (w := w) rfl rfl rfl rfl hu) (by rfl) mS (by decide +kernel) (pa_cons (pv 0) pa_nil)) pa_nil)))
          (blkOk_by (own := [("_law_pattern_here", 2)]) (N := nLLT) (sc := defScope sLLT) (by decide +kernel)) (fun _ _ _ _ _ => pg_name (i := 2) scLLT.nd rfl (Or.inl rfl)) (fun _ _ _ _ _ => pts_nil)
          (fun _ _ _ _ _ => pe_op op_add_str (pe_op op_add_str (pe_op op_add_str (pe_ix (ix_tupK (K := K) rfl) (pv 2) pe_int (fun _ _ => rfl)) pe_str) (pe_joinK (K := K) rfl pe_str (pe_slice (sl_tupK (K := K) rfl) (pv 2) (po_some pe_int) po_none))) pe_str))
      (pss_one (ps_ret (pe_op op_add_str (pe_op op_add_str pe_str (pe_join pe_str (pv 1))) pe_str))), ?_⟩
    refine ⟨_, rfl, ?_⟩
    dsimp only [tNil, List.cons_append, List.nil_append]
    refine sorted_set (.inl hq) (fun x m => (each x m).1) few fun l Ms H1 s1 nl hl sub mem asc => ?_
    refine ⟨l, rfl, ⟨_, SqL.of hl⟩, fun D nD => ?_⟩
    have lMs : Ms.length ≤ 63 := by
      have := nodup_len (Ms.map (·.2)) (xs.map (·.2)) asc.nodup fun c hc => (mem c).mp hc
      rw [List.length_map, List.length_map] at this
      omega
    have fM : ∀ x ∈ Ms, Fct x.2 := fun x m => (each x (sub x m)).2
    refine lc_sift (ms := Ms) (val := fun x => V.ref x.1) (L2.walk_list (K := K)) (List.length_map _) (fun _ => true) (fun x => V.str (ptext x.2.1 x.2.2)) nD (by omega) (fun H' s' => SqL.of (s' _ _ hl)) (fun x hx H5 Yes No s5 yes no => ?_) (fun H' s' hL => ?_)
    · refine ⟨rfl, ?_⟩
      dsimp only [tYes]
      rw [if_pos rfl]
      have fx := fM x hx
      have hx5 : H5 x.1 = some (.tup (ptV x)) := s5 _ _ (s1 _ _ (each x (sub x hx)).1)
      have c1 : (Str.ofString ",").length = 1 := by decide +kernel
      have c2 : (Str.ofString "(").length = 1 := by decide +kernel
      have c3 : (Str.ofString ")").length = 1 := by decide +kernel
      have lT : x.2.1.length ≤ 13 := (tm_len (.inl fx.nT)).2
      have lz : ∀ z ∈ x.2.2, z.length ≤ 13 := fun z m => (tm_len (fx.nz z m)).2
      have s13 := sum_le 13 x.2.2 lz
      have l3 := fx.l3
      have jl : (Txt.join (Str.ofString ",") x.2.2).length ≤ 100 := by
        have q := join_len (Str.ofString ",") x.2.2
        rw [c1] at q
        have e : Txt.join (Str.ofString ",") x.2.2 = Str.join (Str.ofString ",") x.2.2 := StrLaws.glued_eq_join _ _
        rw [e]
        have : x.2.2.length * 13 ≤ 3 * 13 := Nat.mul_le_mul_right _ l3
        omega
      refine ⟨_, rfl, x.1, _, 0, _, rfl, rfl, SqT.of hx5, atI_nat (j := 0) rfl, _, _, rfl, rfl, ?_, ⟨_, rfl⟩, _, rfl, _, rfl, x.1, _, rfl, SqT.of hx5, cut_part _ _, fun u nu => ?_⟩
      · rw [c2, sizeLine_eq]
        omega
      rw [show cutV (ptV x) (some 1) none = x.2.2.map V.str from cut_one _ _]
      refine ⟨_, u, x.2.2, rfl, rfl, .inr (SqT.of upd_same), ?_, ?_⟩
      · rw [c1]
        have : x.2.2.length * 13 ≤ 3 * 13 := Nat.mul_le_mul_right _ l3
        omega
      refine ⟨_, _, rfl, rfl, ?_, _, _, rfl, rfl, ?_, ?_⟩
      · rw [len_app, c2, sizeLine_eq]
        omega
      · rw [len_app, len_app, c2, c3, sizeLine_eq]
        omega
      have e : x.2.1 ++ Str.ofString "(" ++ Txt.join (Str.ofString ",") x.2.2 ++ Str.ofString ")" = ptext x.2.1 x.2.2 := by
        refine ext_tl ?_
        rw [ptext_tl21]
        simp only [tl_append, show tl (Str.ofString "(") = [40] by decide +kernel, show tl (Str.ofString ")") = [41] by decide +kernel]
        simp
      rw [e]
      exact yes _ (same_new nu) rfl
    · have hL' : H' D = some (.lst (((Ms.map (·.2)).map fun c : Fc => ptext c.1 c.2).map V.str)) := by
        rw [hL, List.map_map, List.map_map]
        rw [List.filter_eq_self.mpr (fun _ _ => rfl)]
        rfl
      have jt := join_texts (Ms.map (·.2))
      have fc : ∀ c ∈ Ms.map (·.2), Fct c := fun c hc => by
        obtain ⟨x, hx, rfl⟩ := List.mem_map.mp hc
        exact fM x hx
      have ll := lot_len fc
      rw [List.length_map] at ll
      have fl : ftl (.lot (Ms.map (·.2))) = 123 :: (joinL [32] ((Ms.map (·.2)).map ptl) ++ [125]) := rfl
      have lj : (joinL [32] ((Ms.map (·.2)).map ptl)).length ≤ 60000 := by
        rw [fl] at ll
        simp only [List.length_cons, List.length_append, List.length_nil] at ll
        omega
      have js := join_sum 32 ((Ms.map (·.2)).map ptl)
      refine ⟨⟨_, rfl⟩, _, rfl, _, D, _, rfl, rfl, .inl (SqL.of hL'), ?_, ?_⟩
      · rw [show (Str.ofString " ").length = 1 by decide +kernel, List.length_map, List.length_map, Nat.mul_one]
        rw [List.length_map, List.length_map] at js
        have e : ((Ms.map (·.2)).map fun c : Fc => ptext c.1 c.2).map (·.length) = ((Ms.map (·.2)).map ptl).map (·.length) := by
          simp only [← map_ptl, List.map_map]
          exact List.map_congr_left fun y _ => len_tl _
        rw [e]
        omega
      have lw : (Txt.join (Str.ofString " ") ((Ms.map (·.2)).map fun c : Fc => ptext c.1 c.2)).length ≤ 60000 := by
        rw [len_tl, jt]
        exact lj
      have lo : (Str.ofString "{").length = 1 := by decide +kernel
      have lc : (Str.ofString "}").length = 1 := by decide +kernel
      refine ⟨_, _, rfl, rfl, ?_, _, _, rfl, rfl, ?_, ?_⟩
      · rw [lo, sizeLine_eq]
        omega
      · rw [len_app, lo, lc, sizeLine_eq]
        omega
      have e : (Str.ofString "{" ++ Txt.join (Str.ofString " ") ((Ms.map (·.2)).map fun c : Fc => ptext c.1 c.2)) ++ Str.ofString "}" = ftext (.lot (Ms.map (·.2))) := by
        refine ext_tl ?_
        rw [tl_append, tl_append, jt, tl_ftext, show tl (Str.ofString "{") = [123] by decide +kernel, show tl (Str.ofString "}") = [125] by decide +kernel, fl]
        simp
      rw [e]
      exact k H' _ (s1.trans s') asc mem
end
end L2.LawH
set_option Elab.async false
set_option linter.all false
set_option maxRecDepth 100000
set_option maxHeartbeats 4000000
/-! The operators of an own class: a + b, a - b, x in a, len(a), and a walk by its own __iter__ that tells iter of a tuple. -/
namespace L2.OwnOp
open PySem PySem.Spec PyProof.Rows
section
variable {X : Cx} {n : Nat} {pins : List (Addr × Obj)} {σ : St} {H : Hp} {s : Shared} {CX : CXT} {f : Addr} {fd : FuncData} {ps : List Str} {sp : Sp} {E : XK}
/-- an own def's call somewhere below -/
theorem run_own (F : FnOk X.prog X.w X.K X.mg X.base CX n f fd ps sp) (hb : Binds X.K fd ps []) (hx : Passes CX X E) {A : Around} (sb : Sub X n A) (I : Inv X pins σ H s) {vs : List V} {us : List Value} {Q : VK} (rv : Vals vs us) (want : sp vs H Q E) :
    wpAny (model X.prog X.w) A (call (.ref f) us) (fun u s' => CE X.stack X.prog X.w H s Q u s') X.xe s := by
  have e0 : Env0 X.prog X.w X.K X.mg X.base A X.stack s H := by
    have e := I.env0
    have sf : A.frames = X.A.frames := sb.fr
    exact ⟨by rw [sf]; exact e.frames, e.mod, e.bs, e.bsz, e.funs, e.frf, e.hok, e.bare⟩
  have hl := F.len _ _ _ _ want
  refine wpAny_call (codeAny_mono (F.run A X.stack s H ⟨us, []⟩ us vs _ E sb.room e0 (by
    have := hb s us I.kIn (by rw [List.append_nil, ← rv.length]; exact hl)
    simpa using this) rv want) fun r s' hq => ?_)
  cases r with
  | error e => exact hx pins σ H s e s' I hq
  | ok fl =>
    cases fl with
    | ret z => exact hq
    | next => exact False.elim hq
    | brk => exact False.elim hq
    | cont => exact False.elim hq
/-- the class of what stands at the left, and its def of that name -/
structure OwnM (X : Cx) (C f : Addr) (nm : Str) : Prop where
  fi : PySem.W.findIn X.K (.ref C) nm = some (some (.ref f))
  fn : PySem.W.isFn X.K (.ref f) = true
/-- x in p, p an instance -/
def rInOwn (C : Addr) (sp : Sp) : R2 := fun x y H Q => ∃ p dx fs, y = .ref p ∧ H p = some (.ins C dx fs) ∧ sp [.ref p, x] H (fun v H' => ∃ b, v = .bl b ∧ Q (.bl b) H') E0
def rNotInOwn (C : Addr) (sp : Sp) : R2 := fun x y H Q => ∃ p dx fs, y = .ref p ∧ H p = some (.ins C dx fs) ∧ sp [.ref p, x] H (fun v H' => ∃ b, v = .bl b ∧ Q (.bl (!b)) H') E0
theorem op_inOwn {C : Addr} (F : FnOk X.prog X.w X.K X.mg X.base CX0 n f fd ps sp) (hb : Binds X.K fd ps []) (m : OwnM X C f "__contains__") (hr : Room n X.A) (hx : Passes CX0 X E0) : OpR X (compareOp .In) (rInOwn C sp) := by
  intro pins s σ H x y v u Q I rx ry hq
  obtain ⟨p, dx, fs, rfl, hp, want⟩ := hq
  cases ry
  obtain ⟨_, J, _⟩ := ins_get I.hok hp
  obtain ⟨od, J, _⟩ := J.look
  obtain ⟨_, fr⟩ := I.fr
  refine PySem.W.in_K fr I.mod.kin J m.fi m.fn (wpAny_mono (run_own (vs := [.ref p, x]) F hb hx ⟨hr, rfl⟩ I (.cons rfl (.cons rx .nil)) want) (fun r s' z => ?_) fun _ _ z => z)
  obtain ⟨v', H', I', rv, b, rfl, q⟩ := I.after z
  cases rv
  exact wpAny_truthy_bool ⟨.bl b, H', I', rfl, q⟩
theorem op_notInOwn {C : Addr} (F : FnOk X.prog X.w X.K X.mg X.base CX0 n f fd ps sp) (hb : Binds X.K fd ps []) (m : OwnM X C f "__contains__") (hr : Room n X.A) (hx : Passes CX0 X E0) : OpR X (compareOp .NotIn) (rNotInOwn C sp) := by
  intro pins s σ H x y v u Q I rx ry hq
  obtain ⟨p, dx, fs, rfl, hp, want⟩ := hq
  cases ry
  obtain ⟨_, J, _⟩ := ins_get I.hok hp
  obtain ⟨od, J, _⟩ := J.look
  obtain ⟨_, fr⟩ := I.fr
  refine PySem.W.notIn_K fr I.mod.kin J m.fi m.fn (wpAny_mono (run_own (vs := [.ref p, x]) F hb hx ⟨hr, rfl⟩ I (.cons rfl (.cons rx .nil)) want) (fun r s' z => ?_) fun _ _ z => z)
  obtain ⟨v', H', I', rv, b, rfl, q⟩ := I.after z
  cases rv
  exact wpAny_truthy_bool ⟨.bl (!b), H', I', rfl, q⟩
/-- a + b, a - b of two instances -/
def rBinOwn (C : Addr) (sp : Sp) : R2 := fun x y H Q => ∃ p dx fs q dy gs, x = .ref p ∧ y = .ref q ∧ H p = some (.ins C dx fs) ∧ H q = some (.ins C dy gs) ∧ sp [.ref p, .ref q] H (fun v H' => ∃ r, v = .ref r ∧ Q (.ref r) H') E0
theorem op_binOwn {C : Addr} {op : Operator} (F : FnOk X.prog X.w X.K X.mg X.base CX0 n f fd ps sp) (hb : Binds X.K fd ps []) (m : OwnM X C f (PySem.dunder op.info.2)) (hc : PySem.W.selfFirst X.K C = true) (hr : Room n X.A) (hx : Passes CX0 X E0) :
    OpR X (binaryOp op) (rBinOwn C sp) := by
  intro pins s σ H x y v u Q I rx ry hq
  obtain ⟨p, dx, fs, q, dy, gs, rfl, rfl, hp, hq, want⟩ := hq
  cases rx
  cases ry
  obtain ⟨_, J, _⟩ := ins_get I.hok hp
  obtain ⟨od, J, _⟩ := J.look
  obtain ⟨_, J2, _⟩ := ins_get I.hok hq
  obtain ⟨od2, J2, _⟩ := J2.look
  obtain ⟨_, fr⟩ := I.fr
  refine PySem.W.binop_K fr I.mod.kin J J2.type hc m.fi m.fn (wpAny_mono (run_own (vs := [.ref p, .ref q]) F hb hx ⟨hr, rfl⟩ I (.cons rfl (.cons rfl .nil)) want) (fun r s' z => ?_) fun _ _ z => z)
  obtain ⟨v', H', I', rv, b, rfl, q⟩ := I.after z
  cases rv
  exact ⟨.ref b, H', I', rfl, q⟩
/-- len(p) -/
def rLenOwn (C : Addr) (sp : Sp) : List V → Hp → VK → Prop := fun xs H Q => ∃ p dx fs, xs = [.ref p] ∧ H p = some (.ins C dx fs) ∧ sp [.ref p] H (fun v H' => ∃ k : Nat, v = .int k ∧ k < 1000000 ∧ Q (.int k) H') E0
theorem call_lenOwn {C : Addr} (F : FnOk X.prog X.w X.K X.mg X.base CX0 n f fd ps sp) (hb : Binds X.K fd ps []) (m : OwnM X C f "__len__") (hr : Room (n + 1) X.A) (hx : Passes CX0 X E0) : CallR X (.builtin "len") (rLenOwn C sp) := by
  intro pins s σ H xs us Q I rv hq
  obtain ⟨p, dx, fs, rfl, hp, want⟩ := hq
  obtain rfl := Vals.ref1 rv
  obtain ⟨_, J, _⟩ := ins_get I.hok hp
  obtain ⟨od, J, _⟩ := J.look
  obtain ⟨_, fr⟩ := I.fr
  refine PySem.W.len_K fr I.mod.kin J m.fi m.fn (wpAny_mono (run_own (vs := [.ref p]) F hb hx ⟨hr.in1, rfl⟩ I (.cons rfl .nil) want) (fun r s' z => ?_) fun _ _ z => z)
  obtain ⟨v', H', I', rv, k, rfl, lk, q⟩ := I.after z
  obtain ⟨t, rfl⟩ := rv
  refine ⟨⟨by omega, by omega⟩, .int k, H', I'.kept (t' := s'.toks + 1) fun b o e => e, ⟨_, rfl⟩, q⟩
end
/-! ### an iterator over a tuple, as a value -/
def ItTup (t it : Addr) (i : Nat) : HO := .ext fun h => h.IsTupleIter it t i
theorem itTup_ok {P : Program} {w : World} {H : Hp} {h : Heap} {t it : Addr} {i : Nat} (e : h.IsTupleIter it t i) : ObjOk P w H h it (ItTup t it i) := ⟨e, ⟨_, e.choose_spec.1⟩, fun h1 h2 q k => Heap.IsTupleIter.at q k⟩
def del (H : Hp) (a : Addr) : Hp := fun b => if b = a then none else H b
theorem del_same {H : Hp} {a : Addr} : del H a a = none := by unfold del; rw [if_pos rfl]
theorem del_ne {H : Hp} {a b : Addr} (h : b ≠ a) : del H a b = H b := by unfold del; rw [if_neg h]
theorem del_upd {H : Hp} {a : Addr} {o : HO} (h : H a = none) : del (upd H a o) a = H := by
  funext b
  by_cases e : b = a
  · rw [e, del_same, h]
  · rw [del_ne e, upd_ne e]
section
variable {X : Cx} {n : Nat} {pins : List (Addr × Obj)} {σ : St} {H : Hp} {s : Shared}
/-- a thing of that kind is forgotten -/
theorem forget {a : Addr} {φ : Heap → Prop} (I : Inv X pins σ H s) (h : H a = some (.ext φ)) : Inv X pins σ (del H a) s := by
  have ne : ∀ b o, H b = some o → (∀ φ, o ≠ .ext φ) → b ≠ a := fun b o e hne z => by
    rw [z, h] at e
    cases e
    exact hne _ rfl
  have dn : ∀ b, H b = none → del H a b = none := fun b e => by
    unfold del
    split
    · rfl
    · exact e
  refine ⟨I.ok, I.os, I.bare, ⟨I.base.keep, I.base.slot, fun b o e n hx => dn b (I.base.free b o e n hx), I.base.there, fun b xs e => ?_, fun b o x e => ?_, fun b ps e => ?_⟩, I.loc, I.cell, dn _ I.free, fun x c e => dn _ (I.freeC x c e), fun p hp => ?_, fun b o e => ?_, I.len⟩
  · have q := I.base.tups b xs e
    rw [del_ne (ne b _ q (fun _ z => nomatch z))]; exact q
  · have q := I.base.frzs b o x e
    rw [del_ne (ne b _ q (fun _ z => nomatch z))]; exact q
  · obtain ⟨m, q⟩ := I.base.tbls b ps e
    exact ⟨m, by rw [del_ne (ne b _ q (fun _ z => nomatch z))]; exact q⟩
  · obtain ⟨e, n, r⟩ := I.pin p hp
    exact ⟨e, dn _ n, r⟩
  · have hb : b ≠ a := fun z => by rw [z, del_same] at e; cases e
    rw [del_ne hb] at e
    exact (I.hok b o e).stay (fun c v _ q => q) (fun c q => by rw [del_ne (ne c _ q (fun _ z => nomatch z))]; exact q) fun c xs q => by rw [del_ne (ne c _ q (fun _ z => nomatch z))]; exact q
/-- iter(t), t a tuple -/
def rIterTup (K : PySem.W.Frag) (N : Nat) : List V → Hp → VK → Prop := fun xs H Q => ∃ (t : Addr) (zs : List V), xs = [.ref t] ∧ SqT K H t zs ∧ ∀ it, H it = none → N ≤ it → Q (.ref it) (upd H it (ItTup t it 0))
theorem call_iterTup : CallR X (.builtin "iter") (rIterTup X.K X.s_0.heap.objs.size) := by
  intro pins s σ H xs us Q I r h
  obtain ⟨l, zs, rfl, hq, q⟩ := h
  obtain rfl := Vals.ref1 r
  obtain ⟨its, rv, pl, hz⟩ := I.tuple hq
  refine Calls.call_function_entry (by decide +kernel) (by decide +kernel) PySem.W.kdk_entry_iter (PySem.W.kdk_args_iter _) ?_
  unfold Builtin.«iter»
  refine wpAny_bind (m := someArgs "iter" 1 2 _) (wpAny_of_eq (a := [Value.ref l]) (by first | rfl | kernel_rfl!) ?_)
  show wpAny _ _ (pyIter (.ref l) >>= _) _ _ _
  refine wpAny_bind (wpAny_pyIter_tuple (show s.heap.IsTuple l its.toArray from pl) ?_)
  refine wpAny_pure ⟨_, rfl, ?_⟩
  have new : Heap.IsTupleIter (s.heap.push { cls := .type "tuple_iterator", data := .fields #[.ref l, rawInt (0 : Nat)] }) s.heap.objs.size l 0 := ⟨_, Heap.get?_push_size _ rfl, rfl, rfl⟩
  exact ⟨.ref s.heap.objs.size, _, I.laid (t' := s.toks) (fun b u e => Heap.get?_push_of_some _ e) (Nat.le_refl _) (itTup_ok new), rfl, q _ (I.hok.fresh (Nat.le_refl _)) I.sz⟩
end
/-! ### an own __iter__ that tells iter of a tuple -/
/-- what it tells: an iterator that is made in the call -/
def spIt (C : Addr) (fl : Str) (K : PySem.W.Frag) (N : Nat) : Sp := fun vs H Q _ => ∃ p dx fs t zs, vs = [.ref p] ∧ H p = some (.ins C dx fs) ∧ fs.lookup fl = some (.ref t) ∧ SqT K H t zs ∧ ∀ it, H it = none → N ≤ it → Q (.ref it) (upd H it (ItTup t it 0))
structure FnIt (P : Program) (w : World) (K : PySem.W.Frag) (mg : Str → Option Value) (base : Heap) (k : Nat) (f : Addr) (fd : FuncData) (C : Addr) (fl : Str) : Prop where
  run : ∀ (A : Around) (outer : List Env) (s : Shared) (H : Hp) (args : Args) (us : List Value) (vs : List V) (Q : VK) (E : XK), Room k A → Env0 P w K mg base A outer s H → BindsTo s fd args (([("self" : Str)] : List Str).zip us) → Vals vs us → spIt C fl K s.heap.objs.size vs H Q E →
    codeAny (model P w) A (.call (.ref f) args) (CR CX0 outer P w H s Q E) s
theorem it_of {P : Program} {w : World} {K : PySem.W.Frag} {mg : Str → Option Value} {base : Heap} {x qual : Str} {st : Stmt} {f C : Addr} {fd : FuncData} {N : List Str} {k : Nat} {fl : Str} (F : Fun K x qual st f fd) (S : FnScope N ["self"] (defScope st))
    (hbody : ∀ (cdv : Value) (A : Around) (outer : List Env) (s : Shared) (H : Hp) (vs : List V) (Q : VK) (E : XK), Room k (A.deeper (envOfC qual (defScope st) s.heap.objs.size f cdv)) → spIt C fl K s.heap.objs.size vs H Q E →
      ∃ t, PSs (cxOf CX0 P w K mg base N qual (defScope st) f cdv A outer s H E).nox (defBody st) t ∧ t { nx := fun _ H' => Q .non H', rt := Q } (start N vs) H) : FnIt P w K mg base (k + 1) f fd C fl := by
  obtain ⟨oc, od, kV, doc, pm, an, cdv, ct, osl, rfl, lk, hcd⟩ := F.ex
  refine ⟨fun A outer s H args us vs Q E hr e0 hb r hsp => ?_⟩
  have hl : vs.length = ([("self" : Str)] : List Str).length := by
    obtain ⟨p, dx, fs, t, zs, rfl, _⟩ := hsp
    rfl
  have KX : K.In s.heap := e0.mod.kin.keeps fun b o e => (e0.bs b o e).1
  have lim : s.heap.NoLimit := e0.mod.nolimit.keeps fun b o e => (e0.bs b o e).1
  have hkind : ∀ y ∈ ([("self" : Str)] : List Str).zip us, (defScope st).names.lookup y.1 = some .local ∨ ((defScope st).names.lookup y.1 = some .cell ∧ ((cellsFrom (s.heap.objs.size + 1) (defScope st).names []).lookup y.1).isSome = true) := fun ⟨n, v⟩ hy => by
    rcases S.par n (List.of_mem_zip hy).1 with q | q
    · exact .inl q
    · exact .inr ⟨q, PySem.W.cellsFrom_some _ _ _ (.inl q)⟩
  refine codeAny_call_function hr.depth (KX _ _ lk) rfl S.co S.gen rfl (PySem.W.codeRec_of KX hcd) (hb _ _ _ _ ?_)
  refine wpAny_newFunctionEnv_cells S.kind hkind fun env he s1 x => ?_
  subst he
  refine ⟨lim.keeps x.toInCall.keep, codeAny_func ?_⟩
  obtain ⟨t, ht, hq⟩ := hbody cdv A outer s H vs Q E (hr.deeper _) hsp
  have I : Inv (cxOf CX0 P w K mg base N qual (defScope st) f cdv A outer s H E) [] (start N vs) H s1 := inv_start S hr.hd e0 hl r x
  refine wpAny_mono (ht.nox.run [] s1 (start N vs) H _ I hq) (fun fl s' hs => ?_) fun e s' hs => hs
  have fin : ∀ {σ' : St} {H' : Hp} {v : V} {u : Value}, Inv (cxOf CX0 P w K mg base N qual (defScope st) f cdv A outer s H E) [] σ' H' s' → RelV v u → Q v H' → CE outer P w H s Q u s' :=
    fun {σ' H' v u} J rv q => ⟨v, H', J.os, J.bare, J.base, J.hok, rv, q⟩
  cases fl with
  | ret u =>
    obtain ⟨v, σ', H', J, rv, q⟩ := hs
    exact fin J rv q
  | next =>
    obtain ⟨σ', H', J, q⟩ := hs
    exact fin (v := V.non) (u := Value.none) J rfl q
  | brk =>
    obtain ⟨_, _, _, q⟩ := hs
    exact False.elim q
  | cont =>
    obtain ⟨_, _, _, q⟩ := hs
    exact False.elim q
section
variable {X : Cx} {n : Nat}
/-- the walk of an own instance -/
def iOwn (K : PySem.W.Frag) (C : Addr) (fl : Str) (te : TE) : TI := fun σ H R => te σ H fun x H1 => ∃ p dx fs t zs, x = .ref p ∧ H1 p = some (.ins C dx fs) ∧ fs.lookup fl = some (.ref t) ∧ SqT K H1 t zs ∧ R (Itt K t) H1
theorem pi_own {f : Addr} {fd : FuncData} {fl : Str} {tg e : Expr} {te : TE} {C : Addr} (F : FnIt X.prog X.w X.K X.mg X.base n f fd C fl) (hb : Binds X.K fd ["self"] []) (m : OwnM X C f "__iter__") (hr : Room n X.A)
    (he : PE X e te) : PI X tg e (iOwn X.K C fl te) := by
  refine ⟨fun pins s σ H R I h => ?_⟩
  refine thn (he.run pins s σ H _ I h) fun v s1 ⟨x, H1, I1, r1, q1⟩ => ?_
  obtain ⟨p, dx, fs, t, zs, rfl, hp, lk, ht, q⟩ := q1
  cases r1
  obtain ⟨_, J, _⟩ := ins_get I1.hok hp
  obtain ⟨od, J, _⟩ := J.look
  obtain ⟨_, fr⟩ := I1.fr
  have want : spIt C fl X.K s1.heap.objs.size [.ref p] H1 (fun v H' => ∃ it, v = .ref it ∧ H1 it = none ∧ s1.heap.objs.size ≤ it ∧ H' = upd H1 it (ItTup t it 0)) E0 := ⟨p, dx, fs, t, zs, rfl, hp, lk, ht, fun it n1 n2 => ⟨it, rfl, n1, n2, rfl⟩⟩
  refine PySem.W.owit_iter fr I1.mod.kin J m.fi m.fn (wpAny_call (codeAny_mono (F.run X.A X.stack s1 H1 ⟨[.ref p], []⟩ [.ref p] [.ref p] _ E0 hr I1.env0 (by
    have := hb s1 [.ref p] I1.kIn (by rfl)
    simpa using this) (.cons rfl .nil) want) fun r s' hq => ?_))
  cases r with
  | error e => exact pass0 pins σ H1 s1 e s' I1 hq
  | ok fl =>
    cases fl with
    | ret z =>
      obtain ⟨v', H', I', rv, it, rfl, n1, n2, rfl⟩ := I1.after hq
      cases rv
      have st : s'.heap.IsTupleIter it t 0 := (I'.hok it _ upd_same).1
      have I3 := forget I' (φ := fun h => h.IsTupleIter it t 0) upd_same
      rw [del_upd n1] at I3
      refine wpAny_specialOf st.typeIs PySem.F.slot_tuple_iterator_next.lookup ?_
      refine ⟨it, [it], _, Itt X.K t, H1, rfl, I3, turn_tuple t it, st, fun b hb => ?_, q⟩
      have e : b = it := by simpa using hb
      subst e
      exact I1.fpOk n2 n1
    | next => exact False.elim hq
    | brk => exact False.elim hq
    | cont => exact False.elim hq
end
end L2.OwnOp
set_option Elab.async false
set_option linter.all false
set_option maxRecDepth 100000
set_option maxHeartbeats 4000000
/-! _law_text, _law_lots, _law_form. -/
namespace L2.LawH
open PySem PySem.Spec PyProof.Rows L2.TxtSet TL L2.NSet PySem.W L2.ClsCall ClX L2.OwnOp
section
variable {P : Program} {w : World} {K : PySem.W.Frag} {mg : Str → Option Value} {base : Heap}
theorem scLTxt : FnScope ["_law_shape_here"] ["_law_shape_here"] (defScope sLTxt) := ⟨rfl, rfl, rfl, by decide +kernel, rfl, by decide +kernel, by decide +kernel⟩
theorem ltxt_step {f fL : Addr} {fd fdL : FuncData} {n : Nat} (F : Fun K "_law_text" "_law_text" sLTxt f fd) (kF : PySem.W.keepIn K (.ref f) = true) (bF : Binds K fd ["_law_shape_here"] []) (mF : mg "_law_text" = some (.ref f))
    (GL : FnOk P w K mg base CX0 1 fL fdL ["_law_lot"] (spLLT K)) (kL : PySem.W.keepIn K (.ref fL) = true) (bL : Binds K fdL ["_law_lot"] []) (mL : mg "_law_lot_text" = some (.ref fL))
    (GS : FnOk P w K mg base CX0 (n + 1) f fd ["_law_shape_here"] (spLTxt n)) : FnOk P w K mg base CX0 (n + 2) f fd ["_law_shape_here"] (spLTxt (n + 1)) := by
  refine F.ok scLTxt (fun vs H Q E h => ?_) (fun cdv A outer s H vs Q E hr h => ?_)
  · obtain ⟨p, τ, rfl, _⟩ := h
    rfl
  · obtain ⟨p, τ, rfl, hp, ok, ln, l100, k⟩ := h
    have hr1 : Room 1 _ := hr.mono (by omega)
    refine ⟨_, pss_cons (ps_if (pt_cmpR op_eq (pe_ix ix_tup (pv 0) pe_int (fun _ _ => rfl)) pe_str (nomark _)) (pss_one (ps_ret (pe_call GL hr1 (by rfl) mL kL bL .nil pass0 (pa_cons (pe_ix ix_tup (pv 0) pe_int (fun _ _ => rfl)) pa_nil)))) pss_nil)
      (pss_one (ps_ret (pe_op op_add_str (pe_op op_add_str (pe_op op_add_str (pe_op op_add_str (pe_op op_add_str (pe_op op_add_str pe_str (pe_call GS hr (by rfl) mF kF bF .nil pass0 (pa_cons (pe_ix ix_tup (pv 0) pe_int (fun _ _ => rfl)) pa_nil))) pe_str) (pe_ix ix_tup (pv 0) pe_int (fun _ _ => rfl))) pe_str)
        (pe_call GS hr (by rfl) mF kF bF .nil pass0 (pa_cons (pe_ix ix_tup (pv 0) pe_int (fun _ _ => rfl)) pa_nil))) pe_str))), ?_⟩
    cases τ with
    | lot xs =>
      obtain ⟨q, h1, h2, h3⟩ := hp
      refine ⟨_, rfl, p, _, 0, _, rfl, rfl, SqT.of h1, atI_nat (j := 0) rfl, rfl, _, rfl, iteT ?_⟩
      refine ⟨_, rfl, p, _, 1, _, rfl, rfl, SqT.of h1, atI_nat (j := 1) rfl, q, xs, rfl, SqL.of h2, fun x m => ⟨h3 x m, fct_of (ok.2 x m)⟩, by have := ok.1; omega, fun H' cs s' asc mem => k H' _ s' ⟨asc, mem⟩⟩
    | node sg l r =>
      obtain ⟨a, b, h1, h2, h3⟩ := hp
      obtain ⟨so, ol, orr⟩ := ok
      have el : (Shp.node sg l r).lvs = l.lvs + r.lvs := rfl
      have pl := l.lvs_pos
      have pr := r.lvs_pos
      refine ⟨_, rfl, p, _, 0, _, rfl, rfl, SqT.of h1, atI_nat (j := 0) rfl, rfl, _, rfl, ?_⟩
      rw [sgn_no_lot so]
      refine iteF ?_
      have l1 : (Str.ofString "(").length = 1 := by decide +kernel
      have l2 : (Str.ofString " ").length = 1 := by decide +kernel
      have l3 : (Str.ofString ")").length = 1 := by decide +kernel
      have ls : sg.length ≤ 3 := by
        rw [len_tl]
        exact (sgn_len3 so).1
      refine ⟨_, rfl, p, _, 1, _, rfl, rfl, SqT.of h1, atI_nat (j := 1) rfl, a, l, rfl, h2, ol, by omega, by omega, fun H1 φ s1 n1 => ?_⟩
      have b1 := (nrm_bds ol n1).1
      have f1 := len_ftext φ
      refine ⟨_, _, rfl, rfl, ?_, _, _, rfl, rfl, ?_, ?_⟩
      · rw [l1, sizeLine_eq]; omega
      · rw [len_app, l1, l2, sizeLine_eq]; omega
      have h1' := s1 _ _ h1
      refine ⟨_, rfl, p, _, 0, _, rfl, rfl, SqT.of h1', atI_nat (j := 0) rfl, _, _, rfl, rfl, ?_, _, _, rfl, rfl, ?_, ?_⟩
      · rw [len_app, len_app, l1, l2, sizeLine_eq]; omega
      · rw [len_app, len_app, len_app, l1, l2, sizeLine_eq]; omega
      refine ⟨_, rfl, p, _, 2, _, rfl, rfl, SqT.of h1', atI_nat (j := 2) rfl, b, r, rfl, ShpAt.same s1 _ h3, orr, by omega, by omega, fun H2 ψ s2 n2 => ?_⟩
      have b2 := (nrm_bds orr n2).1
      have f2 := len_ftext ψ
      refine ⟨_, _, rfl, rfl, ?_, _, _, rfl, rfl, ?_, ?_⟩
      · rw [len_app, len_app, len_app, len_app, l1, l2, sizeLine_eq]; omega
      · rw [len_app, len_app, len_app, len_app, len_app, l1, l2, l3, sizeLine_eq]; omega
      have e : Str.ofString "(" ++ ftext φ ++ Str.ofString " " ++ sg ++ Str.ofString " " ++ ftext ψ ++ Str.ofString ")" = ftext (.node sg φ ψ) := by
        refine ext_tl ?_
        rw [tl_ftext]
        simp only [tl_append, tl_ftext, show tl (Str.ofString "(") = [40] by decide +kernel, show tl (Str.ofString " ") = [32] by decide +kernel, show tl (Str.ofString ")") = [41] by decide +kernel, ftl]
        simp
      rw [e]
      exact k H2 _ (s1.trans s2) ⟨rfl, n1, n2⟩
theorem ok_ltxt {f fL : Addr} {fd fdL : FuncData} (F : Fun K "_law_text" "_law_text" sLTxt f fd) (kF : PySem.W.keepIn K (.ref f) = true) (bF : Binds K fd ["_law_shape_here"] []) (mF : mg "_law_text" = some (.ref f))
    (GL : FnOk P w K mg base CX0 1 fL fdL ["_law_lot"] (spLLT K)) (kL : PySem.W.keepIn K (.ref fL) = true) (bL : Binds K fdL ["_law_lot"] []) (mL : mg "_law_lot_text" = some (.ref fL)) : ∀ n, FnOk P w K mg base CX0 (n + 1) f fd ["_law_shape_here"] (spLTxt n)
  | 0 => by
    have no : ∀ vs H Q E, ¬ spLTxt 0 vs H Q E := fun vs H Q E ⟨_, τ, _, _, _, h, _⟩ => absurd (Nat.le_trans τ.lvs_pos h) (by decide)
    exact ⟨fun vs H Q E h => absurd h (no _ _ _ _), fun A outer s H args us vs Q E hr he hb hv hs => absurd hs (no _ _ _ _)⟩
  | n + 1 => ltxt_step F kF bF mF GL kL bL mL (ok_ltxt F kF bF mF GL kL bL mL n)
theorem scLLots : FnScope ["_law_shape_here"] ["_law_shape_here"] (defScope sLLots) := ⟨rfl, rfl, rfl, by decide +kernel, rfl, by decide +kernel, by decide +kernel⟩
theorem llots_step {f : Addr} {fd : FuncData} {n : Nat} (F : Fun K "_law_lots" "_law_lots" sLLots f fd) (kF : PySem.W.keepIn K (.ref f) = true) (bF : Binds K fd ["_law_shape_here"] []) (mF : mg "_law_lots" = some (.ref f)) (ml : mg "list" = none)
    (GS : FnOk P w K mg base CX0 (n + 1) f fd ["_law_shape_here"] (spLLots n)) : FnOk P w K mg base CX0 (n + 2) f fd ["_law_shape_here"] (spLLots (n + 1)) := by
  refine F.ok scLLots (fun vs H Q E h => ?_) (fun cdv A outer s H vs Q E hr h => ?_)
  · obtain ⟨p, τ, rfl, _⟩ := h
    rfl
  · obtain ⟨p, τ, rfl, hp, ok, ln, l100, k⟩ := h
    refine ⟨_, pss_cons (ps_if (pt_cmpR op_eq (pe_ix ix_tup (pv 0) pe_int (fun _ _ => rfl)) pe_str (nomark _)) (pss_one (ps_ret (pe_callTy call_list_of (by rfl) ml (by decide +kernel) (pa_cons (pe_ix ix_tup (pv 0) pe_int (fun _ _ => rfl)) pa_nil)))) pss_nil)
      (pss_one (ps_ret (pe_op op_cat (pe_call GS hr (by rfl) mF kF bF .nil pass0 (pa_cons (pe_ix ix_tup (pv 0) pe_int (fun _ _ => rfl)) pa_nil)) (pe_call GS hr (by rfl) mF kF bF .nil pass0 (pa_cons (pe_ix ix_tup (pv 0) pe_int (fun _ _ => rfl)) pa_nil))))), ?_⟩
    cases τ with
    | lot xs =>
      obtain ⟨q, h1, h2, h3⟩ := hp
      refine ⟨_, rfl, p, _, 0, _, rfl, rfl, SqT.of h1, atI_nat (j := 0) rfl, rfl, _, rfl, iteT ?_⟩
      refine ⟨_, rfl, p, _, 1, _, rfl, rfl, SqT.of h1, atI_nat (j := 1) rfl, q, _, rfl, .inl (SqL.of h2), fun l nl => k _ l (same_new nl) nl upd_same⟩
    | node sg l r =>
      obtain ⟨a, b, h1, h2, h3⟩ := hp
      obtain ⟨so, ol, orr⟩ := ok
      have el : (Shp.node sg l r).lvs = l.lvs + r.lvs := rfl
      have pl := l.lvs_pos
      have pr := r.lvs_pos
      refine ⟨_, rfl, p, _, 0, _, rfl, rfl, SqT.of h1, atI_nat (j := 0) rfl, rfl, _, rfl, ?_⟩
      rw [sgn_no_lot so]
      refine iteF ?_
      refine ⟨_, rfl, p, _, 1, _, rfl, rfl, SqT.of h1, atI_nat (j := 1) rfl, a, l, rfl, h2, ol, by omega, by omega, fun H1 u s1 nu cu => ?_⟩
      refine ⟨_, rfl, p, _, 2, _, rfl, rfl, SqT.of (s1 _ _ h1), atI_nat (j := 2) rfl, b, r, rfl, ShpAt.same s1 _ h3, orr, by omega, by omega, fun H2 v s2 nv cv => ?_⟩
      have q1 := (pts_ok ol).1
      have q2 := (pts_ok orr).1
      refine ⟨u, v, _, _, rfl, rfl, s2 _ _ cu, cv, ?_, fun t nt => ?_⟩
      · rw [List.length_map, List.length_map, sizeLine_eq]
        omega
      · refine k _ t ((s1.trans s2).trans (same_new nt)) (none_of (s1.trans s2) nt) ?_
        rw [upd_same, ← List.map_append]
        rfl
theorem ok_llots {f : Addr} {fd : FuncData} (F : Fun K "_law_lots" "_law_lots" sLLots f fd) (kF : PySem.W.keepIn K (.ref f) = true) (bF : Binds K fd ["_law_shape_here"] []) (mF : mg "_law_lots" = some (.ref f)) (ml : mg "list" = none) : ∀ n, FnOk P w K mg base CX0 (n + 1) f fd ["_law_shape_here"] (spLLots n)
  | 0 => by
    have no : ∀ vs H Q E, ¬ spLLots 0 vs H Q E := fun vs H Q E ⟨_, τ, _, _, _, h, _⟩ => absurd (Nat.le_trans τ.lvs_pos h) (by decide)
    exact ⟨fun vs H Q E h => absurd h (no _ _ _ _), fun A outer s H args us vs Q E hr he hb hv hs => absurd hs (no _ _ _ _)⟩
  | n + 1 => llots_step F kF bF mF ml (ok_llots F kF bF mF ml n)
theorem scLForm : FnScope ["_law_shape_here", "_law_one", "_law_other"] ["_law_shape_here"] (defScope sLForm) := ⟨rfl, rfl, rfl, by decide +kernel, rfl, by decide +kernel, by decide +kernel⟩
theorem lform_step {f fL pL fO fA fR C : Addr} {fd fdL fdO fdA fdR : FuncData} {mc : Value} {n : Nat} (F : Fun K "_law_form" "_law_form" sLForm f fd) (kF : PySem.W.keepIn K (.ref f) = true) (bF : Binds K fd ["_law_shape_here"] []) (mF : mg "_law_form" = some (.ref f))
    (T : ClF K C) (mC : mg "Form" = some (.ref C)) (rL : CRead K C mc) (cL : CMet K C mc "lot" pL fL) (GL : FnOk P w K mg base CX0 4 fL fdL ["cls", "patterns"] (spLotF C K)) (bL : Binds K fdL ["cls", "patterns"] [])
    (mO : Meth K C "opt" fO) (GO : FnOk P w K mg base CX0 3 fO fdO ["self", "other"] (spBinF C optS)) (bO : Binds K fdO ["self", "other"] []) (sf : PySem.W.selfFirst K C = true)
    (mA : Meth K C "__and__" fA) (GA : FnOk P w K mg base CX0 3 fA fdA ["self", "other"] (spBinF C andS)) (bA : Binds K fdA ["self", "other"] [])
    (mR : Meth K C "__or__" fR) (GR : FnOk P w K mg base CX0 3 fR fdR ["self", "other"] (spBinF C orS)) (bR : Binds K fdR ["self", "other"] [])
    (GS : FnOk P w K mg base CX0 (n + 5) f fd ["_law_shape_here"] (spLForm C n)) : FnOk P w K mg base CX0 (n + 6) f fd ["_law_shape_here"] (spLForm C (n + 1)) := by
  refine F.ok scLForm (fun vs H Q E h => ?_) (fun cdv A outer s H vs Q E hr h => ?_)
  · obtain ⟨p, τ, rfl, _⟩ := h
    rfl
  · obtain ⟨p, τ, rfl, hp, ok, ln, k⟩ := h
    have hr4 : Room 4 _ := hr.mono (by omega)
    have hr3 : Room 3 _ := hr.mono (by omega)
    refine ⟨_, pss_cons (ps_if (pt_cmpR op_eq (pe_ix ix_tup (pv 0) pe_int (fun _ _ => rfl)) pe_str (nomark _)) (pss_one (ps_ret (pe_cmethS (E := fun _ => E0) (pe_glob (v := .ref C) (by rfl) mC rfl) rL cL GL hr4 bL (fun _ _ _ _ _ _ _ h => h.elim) (pa_cons (pe_ix ix_tup (pv 0) pe_int (fun _ _ => rfl)) pa_nil)))) pss_nil)
      (pss_cons (ps_par (i := 1) (j := 2) rfl scLForm.nd rfl rfl (by decide) rfl rfl (pa_cons (pe_call GS hr (by rfl) mF kF bF .nil pass0 (pa_cons (pe_ix ix_tup (pv 0) pe_int (fun _ _ => rfl)) pa_nil)) (pa_cons (pe_call GS hr (by rfl) mF kF bF .nil pass0 (pa_cons (pe_ix ix_tup (pv 0) pe_int (fun _ _ => rfl)) pa_nil)) pa_nil)) (by rfl))
      (pss_cons (ps_if (pt_cmpR op_eq (pe_ix ix_tup (pv 0) pe_int (fun _ _ => rfl)) pe_str (nomark _)) (pss_one (ps_ret (pe_meth (pv 1) T.cl mO GO hr3 bO .nil pass0 (pa_cons (pv 2) pa_nil)))) pss_nil)
      (pss_one (ps_ret (pe_ifExp (pt_cmpR op_eq (pe_ix ix_tup (pv 0) pe_int (fun _ _ => rfl)) pe_str (nomark _)) (pe_op (op_binOwn (C := C) (op := .BitAnd) GA bA ⟨mA.at_, mA.fn⟩ sf hr3 pass0) (pv 1) (pv 2)) (pe_op (op_binOwn (C := C) (op := .BitOr) GR bR ⟨mR.at_, mR.fn⟩ sf hr3 pass0) (pv 1) (pv 2))))))), ?_⟩
    cases τ with
    | lot xs =>
      obtain ⟨q, h1, h2, h3⟩ := hp
      refine ⟨_, rfl, p, _, 0, _, rfl, rfl, SqT.of h1, atI_nat (j := 0) rfl, rfl, _, rfl, iteT ?_⟩
      refine ⟨rfl, _, rfl, p, _, 1, _, rfl, rfl, SqT.of h1, atI_nat (j := 1) rfl, q, xs, rfl, .inl (SqL.of h2), fun x m => ⟨h3 x m, fct_of (ok.2 x m)⟩, by have := ok.1; omega, fun H' a cs s' na fr asc mem => k H' a _ s' fr ⟨asc, mem⟩⟩
    | node sg l r =>
      obtain ⟨a, b, h1, h2, h3⟩ := hp
      obtain ⟨so, ol, orr⟩ := ok
      have el : (Shp.node sg l r).lvs = l.lvs + r.lvs := rfl
      have pl := l.lvs_pos
      have pr := r.lvs_pos
      refine ⟨_, rfl, p, _, 0, _, rfl, rfl, SqT.of h1, atI_nat (j := 0) rfl, rfl, _, rfl, ?_⟩
      rw [sgn_no_lot so]
      refine iteF ?_
      refine ⟨_, rfl, p, _, 1, _, rfl, rfl, SqT.of h1, atI_nat (j := 1) rfl, a, l, rfl, h2, ol, by omega, fun H1 u φ s1 fu nu => ?_⟩
      refine ⟨_, rfl, p, _, 2, _, rfl, rfl, SqT.of (s1 _ _ h1), atI_nat (j := 2) rfl, b, r, rfl, ShpAt.same s1 _ h3, orr, by omega, fun H2 v ψ s2 fv nv => ?_⟩
      refine ⟨_, _, rfl, ?_⟩
      have s12 := s1.trans s2
      have hp2 := s12 _ _ h1
      have fu2 := fu.same s2
      obtain ⟨dx1, q1, t1, u1, i1⟩ := fu2.ins
      obtain ⟨dx2, q2, t2, u2, i2⟩ := fv.ins
      refine ⟨_, rfl, p, _, 0, _, rfl, rfl, SqT.of hp2, atI_nat (j := 0) rfl, rfl, _, rfl, ?_⟩
      rcases so with rfl | rfl | rfl
      · refine iteT ⟨_, rfl, u, dx1, _, rfl, i1, rfl, _, rfl, u, v, rfl, fun H' f s' nf mk => k H' f _ (s12.trans s') (mk _ _ fu2 fv) ⟨rfl, nu, nv⟩⟩
      · rw [show decide (V.str andS = V.str (Str.ofString "opt")) = false by decide +kernel]
        refine iteF ⟨_, rfl, p, _, 0, _, rfl, rfl, SqT.of hp2, atI_nat (j := 0) rfl, rfl, _, rfl, iteT ?_⟩
        refine ⟨_, rfl, _, rfl, u, dx1, _, v, dx2, _, rfl, rfl, i1, i2, u, v, rfl, fun H' f s' nf mk => ⟨f, rfl, k H' f _ (s12.trans s') (mk _ _ fu2 fv) ⟨rfl, nu, nv⟩⟩⟩
      · rw [show decide (V.str orS = V.str (Str.ofString "opt")) = false by decide +kernel]
        refine iteF ⟨_, rfl, p, _, 0, _, rfl, rfl, SqT.of hp2, atI_nat (j := 0) rfl, rfl, _, rfl, ?_⟩
        rw [show decide (V.str orS = V.str (Str.ofString "&")) = false by decide +kernel]
        refine iteF ?_
        refine ⟨_, rfl, _, rfl, u, dx1, _, v, dx2, _, rfl, rfl, i1, i2, u, v, rfl, fun H' f s' nf mk => ⟨f, rfl, k H' f _ (s12.trans s') (mk _ _ fu2 fv) ⟨rfl, nu, nv⟩⟩⟩
theorem ok_lform {f fL pL fO fA fR C : Addr} {fd fdL fdO fdA fdR : FuncData} {mc : Value} (F : Fun K "_law_form" "_law_form" sLForm f fd) (kF : PySem.W.keepIn K (.ref f) = true) (bF : Binds K fd ["_law_shape_here"] []) (mF : mg "_law_form" = some (.ref f))
    (T : ClF K C) (mC : mg "Form" = some (.ref C)) (rL : CRead K C mc) (cL : CMet K C mc "lot" pL fL) (GL : FnOk P w K mg base CX0 4 fL fdL ["cls", "patterns"] (spLotF C K)) (bL : Binds K fdL ["cls", "patterns"] [])
    (mO : Meth K C "opt" fO) (GO : FnOk P w K mg base CX0 3 fO fdO ["self", "other"] (spBinF C optS)) (bO : Binds K fdO ["self", "other"] []) (sf : PySem.W.selfFirst K C = true)
    (mA : Meth K C "__and__" fA) (GA : FnOk P w K mg base CX0 3 fA fdA ["self", "other"] (spBinF C andS)) (bA : Binds K fdA ["self", "other"] [])
    (mR : Meth K C "__or__" fR) (GR : FnOk P w K mg base CX0 3 fR fdR ["self", "other"] (spBinF C orS)) (bR : Binds K fdR ["self", "other"] []) : ∀ n, FnOk P w K mg base CX0 (n + 5) f fd ["_law_shape_here"] (spLForm C n)
  | 0 => by
    have no : ∀ vs H Q E, ¬ spLForm C 0 vs H Q E := fun vs H Q E ⟨_, τ, _, _, _, h, _⟩ => absurd (Nat.le_trans τ.lvs_pos h) (by decide)
    exact ⟨fun vs H Q E h => absurd h (no _ _ _ _), fun A outer s H args us vs Q E hr he hb hv hs => absurd hs (no _ _ _ _)⟩
  | n + 1 => lform_step F kF bF mF T mC rL cL GL bL mO GO bO sf mA GA bA mR GR bR (ok_lform F kF bF mF T mC rL cL GL bL mO GO bO sf mA GA bA mR GR bR n)
end
end L2.LawH
set_option Elab.async false
set_option linter.all false
set_option maxRecDepth 100000
set_option maxHeartbeats 4000000
/-! _law_name, _law_read_pattern. -/
namespace L2.LawH
open PySem PySem.Spec PyProof.Rows L2.TxtSet TL L2.NSet PySem.W L2.Cmp
abbrev sLNm : Stmt := top 30
abbrev sLRP : Stmt := top 31
def spLNm : Sp := fun vs H Q _ => ∃ z : Str, vs = [.str z] ∧ z.length ≤ 60000 ∧ (∀ c ∈ tl z, c < 0x110000) ∧ ∀ H', Same H H' → Q (.bl (nmB (tl z))) H'
theorem sg26 : cutS (Str.ofString "abcdefghijklmnopqrstuvwxyz0123456789") none (some 26) = letS8 := by decide +kernel
section
variable {P : Program} {w : World} {K : PySem.W.Frag} {mg : Str → Option Value} {base : Heap}
abbrev nLNm : List Str := ["_law_word_here", "_law_signs", "_law_sign"]
theorem scLNm : FnScope nLNm ["_law_word_here"] (defScope sLNm) := ⟨rfl, rfl, rfl, by decide +kernel, rfl, by decide +kernel, by decide +kernel⟩
theorem ok_lnm {f : Addr} {fd : FuncData} (F : Fun K "_law_name" "_law_name" sLNm f fd) (ml : mg "len" = none) : FnOk P w K mg base CX0 1 f fd ["_law_word_here"] spLNm := by
  refine F.ok scLNm (fun vs H Q E h => ?_) (fun cdv A outer s H vs Q E hr h => ?_)
  · obtain ⟨z, rfl, _⟩ := h
    rfl
  · obtain ⟨z, rfl, hz, hcs, k⟩ := h
    have hu := hr.units
    have szl : z.length ≤ sizeLine := by rw [sizeLine_eq]; omega
    have lz : z.cps.toList.length = z.length := length_toList z
    refine ⟨_, pss_cons (ps_set (i := 1) scLNm.nd rfl (Or.inr rfl) pe_str)
      (pss_cons (ps_if (PW.pt (pw_or (pt_cmpR op_lt (pe_callB call_len_str (by rfl) ml (by decide +kernel) (pa_cons (pv 0) pa_nil)) pe_int (nomark _))
          (pw_or (pt_cmpR op_gt (pe_callB call_len_str (by rfl) ml (by decide +kernel) (pa_cons (pv 0) pa_nil)) pe_int (nomark _))
            (pw_or1 (pt_cmpR op_notin_str (pe_ix ix_str (pv 0) pe_int (fun _ _ => rfl)) (pe_slice sl_str (pv 1) po_none (po_some pe_int)) (by rfl)))))) (pss_one (ps_ret pe_bl)) pss_nil)
      (pss_one (ps_ret (pe_cmpR (op_eqD hu) (pe_lc (own := [("_law_sign", 2)]) (g := gName 2) (tt := tTest (tOp (fun x y H Q => ∃ i j, x = .str i ∧ y = .str j ∧ Q (.bl (!(!(Builtin.Str.occurrences j i 0 j.length 1).isEmpty))) H) (tVar 2) (tVar 1))) rfl scLNm.nd (pi_str (pv 0))
          (blkOk_by (own := [("_law_sign", 2)]) (N := nLNm) (sc := defScope sLNm) (by decide +kernel)) (fun _ _ _ _ _ => pg_name (i := 2) scLNm.nd rfl (Or.inl rfl)) (fun _ _ _ _ _ => pts_one (pt_cmpR op_notin_str (pv 2) (pv 1) (by rfl)))
          (fun _ _ _ _ _ => pv 2)) (pe_lst pa_nil) (by rfl))))), ?_⟩
    have big : ¬ (1 ≤ z.length ∧ z.length ≤ 12) → Q (.bl false) H := fun no => by
      have q := k H fun _ _ e => e
      have e : nmB (tl z) = false := by
        show nmB z.cps.toList = false
        cases hc : z.cps.toList with
        | nil => rfl
        | cons c r =>
          rw [hc, List.length_cons] at lz
          show (isLet c && r.all isSgn && decide (r.length ≤ 11)) = false
          rw [decide_eq_false (by omega), Bool.and_false]
      rw [e] at q
      exact q
    refine ⟨_, rfl, z, rfl, szl, _, _, rfl, rfl, _, rfl, ?_⟩
    refine ite2 (fun l1 => big fun y => by have := of_decide_eq_true l1; omega) (fun l1 => ⟨_, rfl, z, rfl, szl, _, _, rfl, rfl, _, rfl, ?_⟩)
    have l1 : 1 ≤ z.length := by
      by_cases q : (z.length : Int) < 1
      · exact absurd (decide_eq_true q) l1
      · omega
    refine ite2 (fun l2 => big fun y => by have := of_decide_eq_true l2; omega) (fun l2 => ?_)
    have l2 : z.length ≤ 12 := by
      by_cases q : (12 : Int) < (z.length : Int)
      · exact absurd (decide_eq_true q) l2
      · omega
    have k : ∀ H', Same H H' → Q (.bl (nmB z.cps.toList)) H' := k
    cases hc : z.cps.toList with
    | nil =>
      rw [hc] at lz
      have : z.length = 0 := lz.symm
      omega
    | cons c r =>
      have lr : r.length ≤ 11 := by
        rw [hc, List.length_cons] at lz
        omega
      rw [hc, nmB_eq c r lr] at k
      refine ⟨_, rfl, z, 0, c, rfl, rfl, szl, by rw [hc]; exact atI_nat (j := 0) rfl, _, rfl, 26, rfl, _, rfl, (by decide +kernel), _, _, rfl, rfl, _, rfl, ?_⟩
      rw [sg26, in_let]
      cases el : isLet c with
      | false =>
        rw [el, Bool.false_and] at k
        exact iteT (k H fun _ _ e => e)
      | true =>
        rw [el, Bool.true_and] at k
        refine iteF ⟨_, rfl, z, rfl, fun D nD => ?_⟩
        refine ⟨fun i m H5 => m = z.cps.size - i ∧ i ≤ z.cps.size ∧ Same H H5 ∧ H5 D = some (.lst ((((z.cps.toList.take i).filter fun c => !isSgn c).map one).map V.str)), ⟨_, rfl, Nat.zero_le _, same_new nD, upd_same⟩, ?_⟩
        rintro i m H5 ⟨rfl, hi, s5, h5⟩
        have sz : z.cps.size = z.cps.toList.length := by rw [Array.length_toList]
        rcases Nat.lt_or_eq_of_le hi with lt | rfl
        · refine .inr ⟨lt, fun H6 => Same H H6 ∧ H6 D = some (.lst ((((z.cps.toList.take (i + 1)).filter fun c => !isSgn c).map one).map V.str)), fun H6 p => ⟨_, by omega, rfl, lt, p.1, p.2⟩, ?_⟩
          rintro _ _ ⟨rfl, c2, hc2, rfl⟩
          have hc3 : z.cps.toList[i]? = some c2 := by rw [Array.getElem?_toList]; exact hc2
          refine ⟨rfl, _, rfl, _, rfl, _, _, rfl, rfl, _, rfl, ?_⟩
          rw [show (Str.ofString "abcdefghijklmnopqrstuvwxyz0123456789") = sgnS8 from rfl, in_sgn]
          cases es : isSgn c2 with
          | false =>
            refine iteT ⟨_, rfl, _, h5, ?_, fun b o e => ?_, ?_⟩
            · rw [List.length_map, List.length_map]
              refine Nat.lt_of_le_of_lt (List.length_filter_le _ _) ?_
              rw [List.length_take, sizeLine_eq]
              omega
            · rw [upd_ne (ne_of_none e nD)]
              exact s5 b o e
            · rw [upd_same, List.take_add_one, hc3]
              simp [es, one]
          | true =>
            refine iteF ⟨s5, ?_⟩
            rw [List.take_add_one, hc3, List.filter_append]
            simp only [Option.toList_some, List.filter_cons, es, Bool.not_true, Bool.false_eq_true, if_false, List.filter_nil, List.append_nil]
            exact h5
        · rw [sz, List.take_length] at h5
          refine .inl ⟨Nat.le_refl _, ?_⟩
          refine ⟨by show 0 ≤ sizeLine; decide, fun p np => ?_⟩
          refine ⟨_, _, .lst (SqL.of ((same_new np) _ _ h5)) (dp_strs _), .lst (SqL.of upd_same) .nil, shaped_strs fun y hy => ?_, by decide, ?_⟩
          · obtain ⟨c3, m3, rfl⟩ := List.mem_map.mp hy
            refine ok_list fun c4 m4 => ?_
            have e4 : c4 = c3 := by simpa [one] using m4
            rw [e4]
            exact hcs c3 (List.mem_filter.mp m3).1
          · rw [eqv_nil]
            have q := k (upd H5 p (.lst [])) (s5.trans (same_new np))
            have e : decide (List.map one (List.filter (fun c => !isSgn c) z.cps.toList) = []) = (c :: r).all isSgn := by
              rw [hc, Bool.eq_iff_iff, decide_eq_true_iff, List.map_eq_nil_iff, List.filter_eq_nil_iff, List.all_eq_true]
              exact ⟨fun h x m => by simpa using h x m, fun h x m => by simp [h x m]⟩
            rw [e]
            exact q
end
end L2.LawH
set_option Elab.async false
set_option linter.all false
set_option maxRecDepth 100000
set_option maxHeartbeats 4000000
/-! _law_read_pattern. -/
namespace L2.LawH
open PySem PySem.Spec PyProof.Rows L2.TxtSet TL L2.NSet PySem.W L2.Cmp
def spLRP : Sp := fun vs H Q _ => ∃ z : Str, vs = [.str z] ∧ z.length ≤ 50000 ∧ (∀ c ∈ tl z, c < 0x110000) ∧ (rdOk z = none → ∀ H', Same H H' → Q .non H') ∧
  (∀ c, rdOk z = some c → ∀ (p : Addr) (H' : Hp), Same H H' → H p = none → H' p = some (.tup (.str c.1 :: c.2.map V.str)) → Q (.ref p) H')
theorem atI_last {l : List Nat} {c : Nat} (h : l.getLast? = some c) : atI l (-1) = some c := by
  have hl : l ≠ [] := fun e => by
    rw [e] at h
    cases h
  have pos : 0 < l.length := List.length_pos_iff.mpr hl
  rw [List.getLast?_eq_getElem?] at h
  unfold atI ixN
  rw [if_neg (by decide), if_pos (by omega)]
  show l[((-1 : Int) + (l.length : Int)).toNat]? = some c
  rw [show ((-1 : Int) + (l.length : Int)).toNat = l.length - 1 by omega]
  exact h
/-- a term's law, as the law asks it -/
def tmB (t : Str) : Bool := if isV t then nmB ((tl t).drop 1) else nmB (tl t)
theorem tmB_eq (t : Str) : tmB t = (vN (.str t) || vV (.str t)) := by
  unfold tmB
  show _ = (nmB (tl t) || varB t)
  unfold varB
  cases h : isV t with
  | true =>
    rw [if_pos rfl, show nmB (tl t) = false from nmB_var h]
    rfl
  | false => simp
theorem rd_of {z : Str} {a b : List Nat} (h : par [40] [] (tl z) = some (a, b)) : rdOk z = if b.getLast? = some 41 then (if patB (.str ⟨a.toArray⟩ :: (terms ⟨b.dropLast.toArray⟩).map V.str) = true then some (⟨a.toArray⟩, terms ⟨b.dropLast.toArray⟩) else none) else none := by
  unfold rdOk cutP
  rw [h]
  dsimp only
  by_cases e : b.getLast? = some 41
  · rw [if_pos e, if_pos e]
  · rw [if_neg e, if_neg e]
theorem patB_eq (a : Str) (ts : List Str) : patB (.str a :: ts.map V.str) = (decide (ts.length ≤ 3) && nmB (tl a) && ts.all tmB) := by
  show (decide ((ts.map V.str).length ≤ 3) && vN (.str a) && (ts.map V.str).all fun y => vN y || vV y) = _
  rw [List.length_map, List.all_map]
  congr 1
  refine List.all_congr rfl fun t => (tmB_eq t).symm
theorem op_neNilC {X : Cx} {K : PySem.W.Frag} (e : X.K = K) (hu : X.A.units + 64 < cLine) : OpR X (compareOp .NotEq) (L2.LstNo.rNeNil K) := L2.LstNo.op_neNilK e hu
section
variable {P : Program} {w : World} {K : PySem.W.Frag} {mg : Str → Option Value} {base : Heap}
abbrev nLRP : List Str := ["_law_word_here", "_law_at", "_law_terms", "_law_term"]
theorem scLRP : FnScope nLRP ["_law_word_here"] (defScope sLRP) := ⟨rfl, rfl, rfl, by decide +kernel, rfl, by decide +kernel, by decide +kernel⟩
theorem ok_lrp {f fN : Addr} {fd fdN : FuncData} (F : Fun K "_law_read_pattern" "_law_read_pattern" sLRP f fd)
    (GN : FnOk P w K mg base CX0 1 fN fdN ["_law_word_here"] spLNm) (kN : PySem.W.keepIn K (.ref fN) = true) (bN : Binds K fdN ["_law_word_here"] []) (mN : mg "_law_name" = some (.ref fN))
    (mt : mg "tuple" = none) (ml : mg "len" = none) : FnOk P w K mg base CX0 2 f fd ["_law_word_here"] spLRP := by
  refine F.ok scLRP (fun vs H Q E h => ?_) (fun cdv A outer s H vs Q E hr h => ?_)
  · obtain ⟨z, rfl, _⟩ := h
    rfl
  · obtain ⟨z, rfl, lz, cz, kN', kS⟩ := h
    have hu := hr.units
    have szl : z.length ≤ sizeLine := by rw [sizeLine_eq]; omega
    refine ⟨_, pss_cons (ps_set (i := 1) scLRP.nd rfl (Or.inl rfl) (pe_m1 PySem.F.slot_str_find PySem.F.type_str_find mt_find (pv 0) pe_str))
      (pss_cons (ps_if (PW.pt (pw_or (pt_cmpR op_lt (pv 1) pe_int (nomark _)) (pw_or (pt_cmpR op_ne (pe_ix ix_str (pv 0) (pe_un un_neg pe_int) (fun _ _ => rfl)) pe_str (nomark _))
          (pw_or1 (pt_not (pt_val (pe_call GN hr (by rfl) mN kN bN .nil pass0 (pa_cons (pe_slice sl_str (pv 0) po_none (po_some (pv 1))) pa_nil)))))))) (pss_one (ps_ret pe_non)) pss_nil)
      (pss_cons (ps_set (i := 2) scLRP.nd rfl (Or.inl rfl) (pe_ifExp (pt_cmpR op_ne (pe_slice sl_str (pv 0) (po_some (pe_op op_add (pv 1) pe_int)) po_none) pe_str (nomark _))
          (pe_split (pe_slice sl_str (pv 0) (po_some (pe_op op_add (pv 1) pe_int)) (po_some (pe_un un_neg pe_int))) pe_str) (pe_lst pa_nil)))
      (pss_cons (ps_if (PW.pt (pw_or (pt_cmpR op_gt (pe_callB call_len_seq (by rfl) ml (by decide +kernel) (pa_cons (pv 2) pa_nil)) pe_int (nomark _))
          (pw_or1 (pt_cmpR (op_neNilC (K := K) rfl hu) (pe_lc (own := [("_law_term", 3)]) (g := gName 3) (tt := tNot (tB (tCall spLNm [] E0 (tCons (tIf (tTest (tOp rEq (tSl rSlS (tVar 3) tNoPart (tPart (tC (.int 1)))) (tC (.str (Str.ofString "?"))))) (tSl rSlS (tVar 3) (tPart (tC (.int 1))) tNoPart) (tVar 3)) tNil)))) rfl scLRP.nd (pi_list (pv 2))
              (blkOk_by (own := [("_law_term", 3)]) (N := nLRP) (sc := defScope sLRP) (by decide +kernel)) (fun _ _ _ _ _ => pg_name (i := 3) scLRP.nd rfl (Or.inl rfl))
              (fun _ _ _ _ _ => pts_one (pt_not (pt_val (pe_call GN hr (by rfl) mN kN bN .nil pass0 (pa_cons (pe_ifExp (pt_cmpR op_eq (pe_slice sl_str (pv 3) po_none (po_some pe_int)) pe_str (nomark _)) (pe_slice sl_str (pv 3) (po_some pe_int) po_none) (pv 3)) pa_nil)))))
              (fun _ _ _ _ _ => pv 3)) (pe_lst pa_nil) (nomark _))))) (pss_one (ps_ret pe_non)) pss_nil)
      (pss_one (ps_ret (pe_op op_catB (pe_tup (pa_cons (pe_slice sl_str (pv 0) po_none (po_some (pv 1))) pa_nil)) (pe_callTy call_tuple_of (by rfl) mt (by decide +kernel) (pa_cons (pv 2) pa_nil)))))))), ?_⟩
    refine ⟨_, rfl, ⟨_, rfl⟩, z, _, rfl, rfl, ?_⟩
    have ef : Txt.find z (Str.ofString "(") = match par [40] [] (tl z) with | none => -1 | some (a, _) => (a.length : Int) := find_eq z
    rw [ef]
    cases hp : par [40] [] (tl z) with
    | none =>
      have hn : rdOk z = none := by
        unfold rdOk cutP
        rw [hp]
      exact ⟨_, rfl, _, _, rfl, rfl, _, rfl, iteT (kN' hn H (Same.refl _))⟩
    | some ab =>
      obtain ⟨a, b⟩ := ab
      obtain ⟨m, e1, e2, n40⟩ := par_eq 40 _ _ _ _ hp
      rw [List.nil_append] at e1
      subst e1
      have rd := rd_of hp
      dsimp only
      refine ⟨_, rfl, _, _, rfl, rfl, _, rfl, ?_⟩
      by_cases a1 : (a.length : Int) < 1
      · rw [decide_eq_true a1]
        refine iteT (kN' ?_ H (Same.refl _))
        have ea : a = [] := List.length_eq_zero_iff.mp (by omega)
        rw [rd]
        by_cases hl : b.getLast? = some 41
        · rw [if_pos hl, patB_eq, str_tl, ea]
          rw [show nmB [] = false from rfl, Bool.and_false, Bool.false_and]
          rfl
        · rw [if_neg hl]
      rw [decide_eq_false a1]
      refine iteF ?_
      have hlast : ∃ c, (tl z).getLast? = some c ∧ (c = 41 ↔ b.getLast? = some 41) := by
        rw [e2]
        rcases last_cases b with rfl | ⟨m2, c2, rfl⟩
        · exact ⟨40, by simp, by simp⟩
        · exact ⟨c2, by rw [show a ++ 40 :: (m2 ++ [c2]) = (a ++ 40 :: m2) ++ [c2] by simp]; exact List.getLast?_concat, by simp⟩
      obtain ⟨c, hc, hc41⟩ := hlast
      have cc : decide (V.str (⟨#[c]⟩ : Str) = V.str (Str.ofString ")")) = decide (b.getLast? = some 41) := by
        refine decide_eq_decide.mpr ⟨fun e => hc41.mp ?_, fun e => ?_⟩
        · have := congrArg tl (V.str.inj e)
          rw [show tl (Str.ofString ")") = [41] by decide +kernel] at this
          have : [c] = [41] := this
          exact List.head_eq_of_cons_eq this
        · rw [hc41.mpr e]
          refine congrArg V.str (ext_tl ?_)
          rw [show tl (Str.ofString ")") = [41] by decide +kernel]
      refine ⟨_, rfl, _, rfl, z, -1, c, rfl, rfl, szl, atI_last hc, rfl, _, rfl, ?_⟩
      rw [cc]
      by_cases hl : b.getLast? = some 41
      case neg =>
        rw [decide_eq_false hl]
        refine iteT (kN' ?_ H (Same.refl _))
        rw [rd, if_neg hl]
      rw [decide_eq_true hl]
      rw [if_pos hl, patB_eq, str_tl] at rd
      have ea : cutS z none (some (a.length : Int)) = ⟨a.toArray⟩ := by
        refine ext_tl ?_
        rw [cut_to, e2, str_tl]
        exact List.take_left
      have ei : cutS z (some ((a.length : Int) + 1)) (some (-(1 : Int))) = ⟨b.dropLast.toArray⟩ := ext_tl (by rw [show (-(1 : Int)) = -1 from rfl, cut_in e2, str_tl])
      have eb : tl (cutS z (some ((a.length : Int) + 1)) none) = b := by
        have := cut_from z (a.length + 1)
        rw [show ((a.length + 1 : Nat) : Int) = (a.length : Int) + 1 by omega] at this
        rw [this, e2]
        rw [show a ++ 40 :: b = (a ++ [40]) ++ b by simp]
        exact List.drop_left' (by simp)
      have la : a.length ≤ 50000 ∧ b.length ≤ 50000 := by
        have := congrArg List.length e2
        rw [List.length_append, List.length_cons, ← len_tl] at this
        omega
      have ca : ∀ c ∈ a, c < 0x110000 := fun c m => cz c (by rw [e2]; exact List.mem_append_left _ m)
      have cb : ∀ c ∈ b, c < 0x110000 := fun c m => cz c (by rw [e2]; exact List.mem_append_right _ (List.mem_cons_of_mem _ m))
      refine iteF ⟨_, rfl, _, rfl, _, rfl, z, rfl, szl, ?_⟩
      dsimp only
      rw [ea]
      refine ⟨_, rfl, by rw [len_tl, str_tl]; omega, by rw [str_tl]; exact ca, fun H1 s1 => ⟨_, rfl, ?_⟩⟩
      rw [str_tl]
      cases hA : nmB a with
      | false =>
        refine iteT (kN' ?_ H1 s1)
        rw [rd, hA, Bool.and_false, Bool.false_and]
        rfl
      | true =>
        rw [hA, Bool.and_true] at rd
        refine iteF ?_
        generalize hI : (⟨b.dropLast.toArray⟩ : Str) = i at rd ei
        have ti : tl i = b.dropLast := by rw [← hI, str_tl]
        refine ⟨_, rfl, _, rfl, _, _, rfl, rfl, _, rfl, z, rfl, szl, rfl, _, rfl, ?_⟩
        have cb2 : decide (V.str (cutS z (some ((a.length : Int) + 1)) none) = V.str (Str.ofString ")")) = decide (b = [41]) := by
          refine decide_eq_decide.mpr ⟨fun e => ?_, fun e => ?_⟩
          · have := congrArg tl (V.str.inj e)
            rw [eb, show tl (Str.ofString ")") = [41] by decide +kernel] at this
            exact this
          · refine congrArg V.str (ext_tl ?_)
            rw [eb, e]
            decide +kernel
        dsimp only
        rw [cb2]
        have bb : b = b.dropLast ++ [41] := by
          rcases last_cases b with rfl | ⟨m2, c2, rfl⟩
          · cases hl
          · have : c2 = 41 := by simpa using hl
            rw [this]
            simp
        have li : i.length ≤ 50000 := by
          rw [len_tl, ti, List.length_dropLast]
          omega
        refine ite2 (fun h0 => ⟨_, rfl, _, rfl, _, _, rfl, rfl, _, rfl, _, rfl, _, rfl, z, rfl, szl, ⟨_, rfl⟩, i, _, ?ei, rfl, by decide +kernel, by rw [sizeLine_eq]; omega, fun l nl => ?wa⟩) (fun h0 => ⟨by show 0 ≤ sizeLine; decide, fun l nl => ?wb⟩)
        case ei => exact congrArg V.str ei
        case' wa =>
          have hne : i.length ≠ 0 := fun e => by
            have h0 : ¬ b = [41] := by simpa using h0
            refine h0 ?_
            rw [len_tl, ti] at e
            rw [bb, List.length_eq_zero_iff.mp e]
            rfl
          have es : Txt.split i (Str.ofString ",") = terms i := (if_neg hne).symm
          rw [es]
          have u2 : Same H1 (upd H1 l (.lst ((terms i).map V.str))) := same_new nl
          have c2 : (upd H1 l (.lst ((terms i).map V.str))) l = some (.lst ((terms i).map V.str)) := upd_same
          generalize upd H1 l (.lst ((terms i).map V.str)) = H2 at u2 c2 ⊢
        case' wb =>
          have h0 : b = [41] := by simpa using h0
          have hz : terms i = [] := if_pos (by rw [len_tl, ti, h0]; rfl)
          have e0 : (HO.lst []) = HO.lst ((terms i).map V.str) := by rw [hz]; rfl
          rw [e0]
          have u2 : Same H1 (upd H1 l (.lst ((terms i).map V.str))) := same_new nl
          have c2 : (upd H1 l (.lst ((terms i).map V.str))) l = some (.lst ((terms i).map V.str)) := upd_same
          generalize upd H1 l (.lst ((terms i).map V.str)) = H2 at u2 c2 ⊢
        all_goals
          have s2 := s1.trans u2
          have lt := terms_le i
          refine ⟨_, rfl, l, _, rfl, .inl (SqL.of c2), _, _, rfl, rfl, _, rfl, ?_⟩
          rw [List.length_map]
          refine ite2 (fun h3 => kN' ?_ H2 s2) (fun h3 => ?_)
          · have h3 := of_decide_eq_true h3
            rw [rd, decide_eq_false (by omega), Bool.false_and]
            rfl
          have l3 : (terms i).length ≤ 3 := by
            by_cases q : (3 : Int) < ((terms i).length : Int)
            · exact absurd (decide_eq_true q) h3
            · omega
          rw [decide_eq_true l3, Bool.true_and] at rd
          refine ⟨_, rfl, l, rfl, ⟨_, SqL.of c2⟩, fun D nD => ?_⟩
          refine lc_sift (ms := terms i) (val := V.str) (L2.walk_list (K := K)) (List.length_map _) (fun t => !tmB t) V.str nD (by omega) (fun H' s' => SqL.of (s' _ _ c2)) (fun t ht H5 Yes No s5 yes no => ?_) (fun H' s' hL => ?_)
          · refine ⟨rfl, ?_⟩
            have lt1 := term_le ht
            have ct : ∀ c ∈ tl t, c < 0x110000 := fun c hc => cb c ((List.dropLast_sublist b).subset (by rw [← ti]; exact term_mem ht hc))
            have szt : t.length ≤ sizeLine := by rw [sizeLine_eq]; omega
            have ot : tmB t = if isV t then nmB ((tl t).drop 1) else nmB (tl t) := rfl
            refine ⟨_, rfl, 1, rfl, t, rfl, szt, rfl, _, rfl, ?_⟩
            rw [show decide (V.str (cutS t none (some 1)) = V.str (Str.ofString "?")) = isV t by rw [← first_sign]; exact decide_eq_decide.mpr ⟨fun e => V.str.inj e, fun e => congrArg V.str e⟩]
            cases hv : isV t with
            | true =>
              rw [hv, if_pos rfl] at ot
              refine iteT ⟨_, rfl, 1, rfl, t, rfl, szt, _, rfl, Nat.le_trans (cutS_length t (some 1) none) (by omega), ?_, fun H6 s6 => ⟨_, rfl, ?_⟩⟩
              · intro c hc
                have e := cut_tail t
                exact ct c (List.mem_of_mem_drop (by rw [← e]; exact hc))
              · rw [show tl (cutS t (some 1) none) = (tl t).drop 1 from cut_tail t, ← ot]
                cases ho : tmB t with
                | false => exact iteT ⟨_, rfl, yes H6 s6 (by rw [ho]; rfl)⟩
                | true => exact iteF (no H6 s6 (by rw [ho]; rfl))
            | false =>
              rw [hv, if_neg Bool.false_ne_true] at ot
              refine iteF ⟨_, rfl, t, rfl, by omega, ct, fun H6 s6 => ⟨_, rfl, ?_⟩⟩
              rw [← ot]
              cases ho : tmB t with
              | false => exact iteT ⟨_, rfl, yes H6 s6 (by rw [ho]; rfl)⟩
              | true => exact iteF (no H6 s6 (by rw [ho]; rfl))
          · refine ⟨by show 0 ≤ sizeLine; decide, fun p np => ?_⟩
            have u6 : Same H' (upd H' p (.lst [])) := same_new np
            have c6 : (upd H' p (.lst [])) p = some (.lst []) := upd_same
            generalize upd H' p (.lst []) = H6 at u6 c6 ⊢
            refine ⟨D, p, _, rfl, rfl, SqL.of (u6 _ _ hL), SqL.of c6, _, rfl, ?_⟩
            have s6 := (s2.trans s').trans u6
            cases hall : (terms i).all tmB with
            | false =>
              have e : (!(((terms i).filter fun t => !tmB t).map V.str).isEmpty) = true := by
                rw [List.all_eq_false] at hall
                obtain ⟨t, mt, nt⟩ := hall
                have : t ∈ (terms i).filter fun t => !tmB t := List.mem_filter.mpr ⟨mt, by simp [nt]⟩
                cases hf : (terms i).filter fun t => !tmB t with
                | nil => rw [hf] at this; cases this
                | cons _ _ => rfl
              rw [e]
              refine iteT (kN' ?_ H6 s6)
              rw [rd, hall]
              rfl
            | true =>
              have e : (!(((terms i).filter fun t => !tmB t).map V.str).isEmpty) = false := by
                rw [List.filter_eq_nil_iff.mpr fun t ht => by
                  have := List.all_eq_true.mp hall t ht
                  simp [this]]
                rfl
              rw [e]
              refine iteF ?_
              rw [hall] at rd
              refine ⟨_, rfl, _, rfl, _, rfl, z, rfl, szl, (by show 1 ≤ sizeLine; decide), fun p1 np1 => ?_⟩
              dsimp only
              rw [ea]
              have u7 : Same H6 (upd H6 p1 (.tup [.str ⟨a.toArray⟩])) := same_new np1
              have c7 : (upd H6 p1 (.tup [.str ⟨a.toArray⟩])) p1 = some (.tup [.str ⟨a.toArray⟩]) := upd_same
              generalize upd H6 p1 (.tup [.str ⟨a.toArray⟩]) = H7 at u7 c7 ⊢
              have c2' := u7 _ _ (u6 _ _ (s' _ _ c2))
              refine ⟨_, rfl, l, _, rfl, .inl ⟨SqL.of c2', fun p2 np2 => ?_⟩⟩
              have u8 : Same H7 (upd H7 p2 (.tup ((terms i).map V.str))) := same_new np2
              have c8 : (upd H7 p2 (.tup ((terms i).map V.str))) p2 = some (.tup ((terms i).map V.str)) := upd_same
              generalize upd H7 p2 (.tup ((terms i).map V.str)) = H8 at u8 c8 ⊢
              refine ⟨p1, p2, _, _, rfl, rfl, u8 _ _ c7, c8, ?_, fun p3 H9 s9 c9 n3 => ?_⟩
              · rw [List.length_map, sizeLine_eq]
                show 1 + _ ≤ _
                omega
              · have s8 := (s6.trans u7).trans u8
                refine kS (⟨a.toArray⟩, terms i) rd p3 H9 (s8.trans s9) ?_ c9
                rcases n3 with rfl | rfl | n3
                · exact none_of s6 np1
                · exact none_of (s6.trans u7) np2
                · exact none_of s8 n3
end
end L2.LawH
set_option Elab.async false
set_option linter.all false
set_option maxRecDepth 100000
set_option maxHeartbeats 4000000
/-! _law_read_lot. -/
namespace L2.LawH
open PySem PySem.Spec PyProof.Rows L2.TxtSet TL L2.NSet PySem.W L2.Cmp
abbrev sLRL : Stmt := top 34
theorem par_acc (s : Nat) : ∀ (l acc : List Nat), par [s] acc l = (par [s] [] l).map fun x => (acc ++ x.1, x.2)
  | [], acc => rfl
  | c :: r, acc => by
    by_cases hc : c = s
    · rw [par_hit (by rw [pre_one, decide_eq_true hc]), par_hit (by rw [pre_one, decide_eq_true hc])]
      simp
    · rw [par_miss (by rw [pre_one, decide_eq_false hc]), par_miss (by rw [pre_one, decide_eq_false hc]), par_acc s r (acc ++ [c]), par_acc s r ([] ++ [c])]
      cases par [s] [] r with
      | none => rfl
      | some x => simp
theorem find3_cb (z : Str) (a : Nat) : Txt.find3 z cbS (a : Int) = match par [125] [] ((tl z).drop a) with | none => -1 | some (x, _) => ((a + x.length : Nat) : Int) := by
  have hy : tl cbS ≠ [] := by rw [tl_cb]; simp
  have l1 : cbS.length = 1 := by decide +kernel
  have hx := len_tl z
  unfold Txt.find3
  have ef : fromIndex z.length (a : Int) = a := by
    unfold fromIndex
    rw [if_neg (by omega)]
    omega
  rw [ef]
  rcases StrLaws.occ_head_from z cbS a 1 (Nat.le_refl 1) with ⟨h0, hn⟩ | ⟨i, r, h0, ha, hi, hn⟩
  · rw [h0]
    rcases Nat.le_total a (tl z).length with hl | hl
    · have run := par_run (tl cbS) (tl z) ((tl z).length - a) a [] (by omega) (fun k k1 _ => no_at hy (hn k k1))
      rw [show a + ((tl z).length - a) = (tl z).length by omega, List.drop_length, tl_cb] at run
      rw [run]
      rfl
    · rw [List.drop_of_length_le hl]
      rfl
  · have hb : i + cbS.length ≤ z.length := hi.1
    have run := par_run (tl cbS) (tl z) (i - a) a [] (by omega) (fun k k1 k2 => no_at hy (hn k k1 (by omega)))
    rw [show a + (i - a) = i by omega, List.nil_append, par_at hy ((at_iff hy i).mp hi), tl_cb] at run
    rw [h0, run]
    show (i : Int) = ((a + (((tl z).drop a).take (i - a)).length : Nat) : Int)
    rw [List.length_take, List.length_drop]
    omega
def spLRL : Sp := fun vs H Q _ => ∃ (z : Str) (a : Nat), vs = [.str z, .int a] ∧ TxOk z ∧ a ≤ (tl z).length ∧ ((tl z).drop a).take 1 = [123] ∧ (lotP ((tl z).drop (a + 1)) = none → ∀ H', Same H H' → Q (.int (-1)) H') ∧
  (∀ φ l', lotP ((tl z).drop (a + 1)) = some (φ, l') → ∀ (H' : Hp) (e : Nat), Same H H' → e ≤ (tl z).length → (tl z).drop e = l' → Q (.int e) H')
section
variable {P : Program} {w : World} {K : PySem.W.Frag} {mg : Str → Option Value} {base : Heap}
abbrev nLRL : List Str := ["_law_text_here", "_law_spot", "_law_end", "_law_inside", "_law_lot", "_law_word_here", "_law_one"]
theorem scLRL : FnScope nLRL ["_law_text_here", "_law_spot"] (defScope sLRL) := ⟨rfl, rfl, rfl, by decide +kernel, rfl, by decide +kernel, by decide +kernel⟩
theorem ok_lrl {f fR : Addr} {fd fdR : FuncData} (F : Fun K "_law_read_lot" "_law_read_lot" sLRL f fd)
    (GR : FnOk P w K mg base CX0 2 fR fdR ["_law_word_here"] spLRP) (kR : PySem.W.keepIn K (.ref fR) = true) (bR : Binds K fdR ["_law_word_here"] []) (mR : mg "_law_read_pattern" = some (.ref fR))
    (ms : mg "sorted" = none) (mS : mg "set" = none) : FnOk P w K mg base CX0 3 f fd ["_law_text_here", "_law_spot"] spLRL := by
  refine F.ok scLRL (fun vs H Q E h => ?_) (fun cdv A outer s H vs Q E hr h => ?_)
  · obtain ⟨z, a, rfl, _⟩ := h
    rfl
  · obtain ⟨z, a, rfl, tz, la, t1, kN, kS⟩ := h
    have hu := hr.units
    have hu1 := un65 hr
    have szl := tz.szl
    refine ⟨_, pss_cons (ps_set (i := 2) scLRL.nd rfl (Or.inl rfl) (pe_bm PySem.F.plainAttrs_str PySem.F.slot_str_find PySem.F.type_str_find mt_find3 (pv 0) (pa_cons pe_str (pa_cons (pv 1) pa_nil))))
      (pss_cons (ps_if (pt_cmpR op_lt (pv 2) pe_int (nomark _)) (pss_one (ps_ret (pe_un un_neg pe_int))) pss_nil)
      (pss_cons (ps_set (i := 3) scLRL.nd rfl (Or.inl rfl) (pe_slice sl_str (pv 0) (po_some (pe_op op_add (pv 1) pe_int)) (po_some (pv 2))))
      (pss_cons (ps_set (i := 4) scLRL.nd rfl (Or.inl rfl) (pe_ifExp (pt_cmpR op_ne (pv 3) pe_str (nomark _)) (pe_lc (own := [("_law_word_here", 5)]) (g := gName 5) (tt := tYes) rfl scLRL.nd (pi_list (pe_split (pv 3) pe_str))
          (blkOk_by (own := [("_law_word_here", 5)]) (N := nLRL) (sc := defScope sLRL) (by decide +kernel)) (fun _ _ _ _ _ => pg_name (i := 5) scLRL.nd rfl (Or.inl rfl)) (fun _ _ _ _ _ => pts_nil)
          (fun _ _ _ _ _ => pe_call GR hr (by rfl) mR kR bR .nil pass0 (pa_cons (pv 5) pa_nil))) (pe_lst pa_nil)))
      (pss_cons (ps_if (PW.pt (pw_or (pt_cmpR (op_inD hu1) pe_non (pv 4) (by rfl)) (pw_or1 (pt_cmpR (op_neD hu) (pv 4) (pe_callB (cr_sortNK (K := K) (P := P) (w := w) rfl rfl rfl rfl hu) (by rfl) ms (by decide +kernel) (pa_cons
            (pe_callTy (cr_setNK (K := K) (P := P) (w := w) rfl rfl rfl rfl hu) (by rfl) mS (by decide +kernel) (pa_cons (pe_lc (own := [("_law_one", 6)]) (g := gName 6) (tt := tTest (tOp (fun x y H Q => y = .non ∧ Q (.bl (!decide (x = .non))) H) (tVar 6) (tC .non))) rfl scLRL.nd (pi_list (pv 4))
              (blkOk_by (own := [("_law_one", 6)]) (N := nLRL) (sc := defScope sLRL) (by decide +kernel)) (fun _ _ _ _ _ => pg_name (i := 6) scLRL.nd rfl (Or.inl rfl)) (fun _ _ _ _ _ => pts_one (pt_cmpR op_notN (pv 6) pe_non (nomark _)))
              (fun _ _ _ _ _ => pv 6)) pa_nil)) pa_nil)) (nomark _))))) (pss_one (ps_ret (pe_un un_neg pe_int))) pss_nil)
      (pss_one (ps_ret (pe_op op_add (pv 2) pe_int))))))), ?_⟩
    have hl : (tl z).drop a = 123 :: (tl z).drop (a + 1) := by
      have := take_eq 1 t1
      rw [List.drop_drop] at this
      exact this
    have hlt : a + 1 ≤ (tl z).length := by
      have := take_len t1 rfl
      rw [List.length_drop] at this
      omega
    generalize hl1 : (tl z).drop (a + 1) = l1 at hl kN kS
    refine ⟨_, rfl, rfl, _, rfl, z, _, (a : Int), rfl, rfl, ?_⟩
    have ef : Txt.find3 z (Str.ofString "}") (a : Int) = match par [125] [] l1 with | none => -1 | some (x, _) => ((a + 1 + x.length : Nat) : Int) := by
      have e := find3_cb z a
      rw [hl, par_miss (by rw [pre_one]; decide), par_acc] at e
      rw [show Str.ofString "}" = cbS from rfl, e]
      cases par [125] [] l1 with
      | none => rfl
      | some x =>
        show ((a + ([] ++ [123] ++ x.1).length : Nat) : Int) = ((a + 1 + x.1.length : Nat) : Int)
        rw [List.nil_append, List.length_append]
        have : ([123] : List Nat).length = 1 := rfl
        omega
    rw [ef]
    cases hp : par [125] [] l1 with
    | none =>
      refine ⟨_, rfl, _, _, rfl, rfl, _, rfl, iteT ⟨_, rfl, kN ?_ H (Same.refl _)⟩⟩
      unfold lotP
      rw [hp]
      rfl
    | some ab =>
      obtain ⟨x, r⟩ := ab
      obtain ⟨m, e1, e2, _⟩ := par_eq 125 _ _ _ _ hp
      rw [List.nil_append] at e1
      subst e1
      have lp : lotP l1 = (rdAll (wrds x)).bind fun cs => if Asc cs then some (.lot cs, r) else none := by
        unfold lotP
        rw [hp]
        rfl
      dsimp only
      refine ⟨_, rfl, _, _, rfl, rfl, _, rfl, ?_⟩
      rw [decide_eq_false (show ¬ (((a + 1 + x.length : Nat) : Int) < 0) by omega)]
      refine iteF ⟨_, rfl, _, rfl, _, _, rfl, rfl, _, rfl, _, rfl, _, rfl, z, rfl, szl, ?_⟩
      have ew : tl (cutS z (some ((a : Int) + 1)) (some ((a + 1 + x.length : Nat) : Int))) = x := by
        have := cut_drop z (a + 1) x.length ((a + 1 + x.length : Nat) : Int) (by omega)
        rw [show ((a + 1 : Nat) : Int) = (a : Int) + 1 by omega, hl1, e2] at this
        rw [this]
        exact List.take_left
      dsimp only
      generalize cutS z (some ((a : Int) + 1)) (some ((a + 1 + x.length : Nat) : Int)) = i at ew ⊢
      have lx1 : l1.length ≤ 50000 := by
        rw [← hl1, List.length_drop]
        have := tz.len
        rw [len_tl] at this
        omega
      have li : (tl i).length ≤ 50000 := by
        have := congrArg List.length e2
        rw [List.length_append, List.length_cons] at this
        rw [ew]
        omega
      have ci : ∀ c ∈ tl i, c < 0x110000 := fun c hc => tz.cod c (List.mem_of_mem_drop (by rw [hl1, e2]; rw [ew] at hc; exact List.mem_append_left _ hc))
      have ni : (tl i).count 32 ≤ 60 := by
        refine Nat.le_trans ?_ tz.spc
        have h1 : (tl i).count 32 ≤ l1.count 32 := by
          rw [ew, e2, List.count_append]
          omega
        refine Nat.le_trans h1 ?_
        rw [← hl1]
        exact (List.drop_sublist _ _).count_le 32
      rw [← ew] at lp
      have few : (wrds (tl i)).length ≤ 61 := Nat.le_trans (wrds_few _) (by omega)
      have e00 : decide (V.str i = V.str (Str.ofString "")) = decide (tl i = []) := decide_eq_decide.mpr ⟨fun e => by rw [V.str.inj e]; decide +kernel, fun e => congrArg V.str (ext_tl (by rw [e]; decide +kernel))⟩
      refine ⟨_, rfl, rfl, _, rfl, ?_⟩
      rw [e00]
      refine ite2 (fun h0 => ⟨_, rfl, ⟨_, rfl⟩, i, _, rfl, rfl, by decide +kernel, by rw [sizeLine_eq, len_tl]; omega, fun l nl => ?wa⟩) (fun h0 => ⟨by show 0 ≤ sizeLine; decide, fun D nD => ?wb⟩)
      case' wa =>
        have hne : tl i ≠ [] := by simpa using h0
        have es : Txt.split i (Str.ofString " ") = wrds (tl i) := wrds_split hne
        rw [es]
        have u2 : Same H (upd H l (.lst ((wrds (tl i)).map V.str))) := same_new nl
        have c2 : (upd H l (.lst ((wrds (tl i)).map V.str))) l = some (.lst ((wrds (tl i)).map V.str)) := upd_same
        generalize upd H l (.lst ((wrds (tl i)).map V.str)) = H2 at u2 c2 ⊢
        refine ⟨l, rfl, ⟨_, SqL.of c2⟩, fun D nD => ?_⟩
        refine lc_list (K := K) (a := l) (xs := (wrds (tl i)).map V.str) (fun j H5 => ∃ os : List (Option Pt), Same H2 H5 ∧ H5 D = some (.lst (os.map rvO)) ∧ os.map (Option.map (·.2)) = ((wrds (tl i)).take j).map rdOk ∧ (∀ x, some x ∈ os → H5 x.1 = some (.tup (ptV x)) ∧ x.1 ≠ D))
          ⟨[], same_new nD, upd_same, rfl, fun x m => nomatch m⟩ (fun j H5 _ h5 => let ⟨_, s5, _⟩ := h5; s5.seq (SqL.of c2)) ?_ ?_
        · rintro j v H5 hj ⟨os, s5, hD, e5, f5⟩
          rw [List.getElem?_map] at hj
          obtain ⟨y, hy, rfl⟩ := Option.map_eq_some_iff.mp hj
          obtain ⟨ly, cy⟩ := wrd_mem (List.mem_of_getElem? hy)
          refine ⟨rfl, ?_⟩
          dsimp only [tYes]
          rw [if_pos rfl]
          have lo : os.length ≤ 61 := by
            have := congrArg List.length e5
            rw [List.length_map, List.length_map, List.length_take] at this
            omega
          refine ⟨_, rfl, y, rfl, by rw [len_tl]; omega, fun c hc => ci c (cy c hc), fun hn H6 s6 => ?_, fun c hn t H6 s6 nt ht => ?_⟩
          · refine ⟨_, s6 _ _ hD, ?_, os ++ [none], fun b o e => ?_, by rw [upd_same, List.map_append]; rfl, ?_, fun x m => ?_⟩
            · rw [List.length_map, sizeLine_eq]
              omega
            · rw [upd_ne (ne_of_none e nD)]
              exact s6 _ _ (s5 _ _ e)
            · rw [List.map_append, e5, List.take_add_one, hy, List.map_append]
              simp [hn]
            · rcases List.mem_append.mp m with m | m
              · obtain ⟨q1, q2⟩ := f5 x m
                exact ⟨by rw [upd_ne q2]; exact s6 _ _ q1, q2⟩
              · simp at m
          · have tD : t ≠ D := fun e => by
              rw [e, hD] at nt
              cases nt
            refine ⟨_, s6 _ _ hD, ?_, os ++ [some (t, c)], fun b o e => ?_, by rw [upd_same, List.map_append]; rfl, ?_, fun x m => ?_⟩
            · rw [List.length_map, sizeLine_eq]
              omega
            · rw [upd_ne (ne_of_none e nD)]
              exact s6 _ _ (s5 _ _ e)
            · rw [List.map_append, e5, List.take_add_one, hy, List.map_append]
              simp [hn]
            · rcases List.mem_append.mp m with m | m
              · obtain ⟨q1, q2⟩ := f5 x m
                exact ⟨by rw [upd_ne q2]; exact s6 _ _ q1, q2⟩
              · have e : x = (t, c) := by simpa using m
                rw [e]
                exact ⟨by rw [upd_ne tD]; exact ht, tD⟩
        rintro H7 ⟨os, s27, hD, e7, f7⟩
        rw [List.length_map, List.take_length] at e7
        have f7 := fun x m => (f7 x m).1
        have s7 := u2.trans s27
        clear s27 c2 nD
      case' wb =>
        have hnil : tl i = [] := by simpa using h0
        obtain ⟨os, hos⟩ : ∃ os : List (Option Pt), os = [] := ⟨[], rfl⟩
        have e7 : os.map (Option.map (·.2)) = (wrds (tl i)).map rdOk := by
          rw [hos, hnil]
          rfl
        have s7 : Same H (upd H D (.lst [])) := same_new nD
        have hD : (upd H D (.lst [])) D = some (.lst (os.map rvO)) := by
          rw [upd_same, hos]
          rfl
        have f7 : ∀ x, some x ∈ os → (upd H D (.lst [])) x.1 = some (.tup (ptV x)) := fun x m => by
          rw [hos] at m
          cases m
        generalize upd H D (.lst []) = H7 at s7 hD f7 ⊢
      all_goals
        have fO : ∀ x, some x ∈ os → Fct x.2 := fun x m => by
          have m2 : some x.2 ∈ (wrds (tl i)).map rdOk := by
            rw [← e7]
            exact List.mem_map.mpr ⟨some x, m, rfl⟩
          obtain ⟨y, _, hy⟩ := List.mem_map.mp m2
          exact (rd_text hy).2
        refine ⟨_, rfl, .none, os.map dvO, .non, .lst (SqL.of hD) (dp_rvO f7), by decide, shaped_dvO fO, ?_⟩
        rw [any_dvO]
        refine ⟨_, rfl, ?_⟩
        cases hn : os.any fun o => o.isNone with
        | true =>
          refine iteT ⟨_, rfl, kN ?_ H7 s7⟩
          rw [lp]
          cases hr : rdAll (wrds (tl i)) with
          | none => rfl
          | some cs =>
            exfalso
            rw [rdAll_no hr] at e7
            obtain ⟨o, mo, no⟩ := List.any_eq_true.mp hn
            have m2 : o.map (·.2) ∈ os.map (Option.map (·.2)) := List.mem_map_of_mem mo
            rw [e7] at m2
            obtain ⟨c, mc, ec⟩ := List.mem_map.mp m2
            cases o with
            | none => cases ec
            | some x => cases no
        | false =>
          refine iteF ?_
          obtain ⟨xs, rfl⟩ := all_some hn
          have hr : rdAll (wrds (tl i)) = some (xs.map (·.2)) := rdAll_map (by rw [← e7, List.map_map, List.map_map]; rfl)
          obtain ⟨ew2, fx⟩ := rdAll_some hr
          have lx : xs.length ≤ 61 := by
            have := congrArg List.length ew2
            rw [List.length_map, List.length_map] at this
            omega
          have hD' : H7 D = some (.lst (xs.map fun x => V.ref x.1)) := by
            rw [hD, List.map_map]
            rfl
          have each : ∀ x ∈ xs, H7 x.1 = some (.tup (ptV x)) := fun x m => f7 x (List.mem_map_of_mem m)
          rw [hr, Option.bind_some] at lp
          refine ⟨_, rfl, _, rfl, D, rfl, ⟨_, SqL.of hD'⟩, fun D2 nD2 => ?_⟩
          refine lc_sift (ms := xs) (val := fun x => V.ref x.1) (L2.walk_list (K := K)) (List.length_map _) (fun _ => true) (fun x => V.ref x.1) nD2 (by omega) (fun H' s' => SqL.of (s' _ _ hD')) (fun t ht H5 Yes No s5 yes no => ⟨rfl, _, rfl, rfl, _, rfl, iteT ⟨_, rfl, yes H5 (Same.refl _) rfl⟩⟩) (fun H' s' hL => ?_)
          rw [List.filter_eq_self.mpr (fun _ _ => rfl)] at hL
          dsimp only [tNil, List.cons_append, List.nil_append]
          refine sorted_set (.inl (SqL.of hL)) (fun x m => s' _ _ (each x m)) (by omega) fun l2 Ms H8 s8 nl2 hl2 sub mem asc => ?_
          have s78 := s'.trans s8
          have fM : ∀ c ∈ Ms.map (·.2), Fct c := fun c hc => fx c ((mem c).mp hc)
          refine ⟨.list ((xs.map (·.2)).map facD), .list ((Ms.map (·.2)).map facD), .lst (SqL.of (s78 _ _ hD')) (dp_facts fun x m => s78 _ _ (each x m)), .lst (SqL.of hl2) (dp_facts fun x m => s78 _ _ (each x (sub x m))), shaped_facts fx, shaped_facts fM, ?_⟩
          rw [eqv_list]
          refine ⟨_, rfl, ?_⟩
          have sH := s7.trans s78
          by_cases hc : xs.map (·.2) = Ms.map (·.2)
          · rw [decide_eq_true hc]
            rw [hc, if_pos asc] at lp
            refine iteF ⟨_, rfl, _, _, rfl, rfl, ?_⟩
            have ee : (((a + 1 + x.length : Nat) : Int) + 1) = ((a + 1 + x.length + 1 : Nat) : Int) := by omega
            dsimp only
            rw [ee]
            have le2 : a + 1 + x.length + 1 ≤ (tl z).length := by
              have h1 := congrArg List.length e2
              rw [List.length_append, List.length_cons, ← hl1, List.length_drop] at h1
              omega
            refine kS _ _ lp H8 _ sH le2 ?_
            rw [show a + 1 + x.length + 1 = (a + 1) + (x.length + 1) by omega, ← List.drop_drop, hl1, e2]
            rw [show x ++ 125 :: r = (x ++ [125]) ++ r by simp]
            exact List.drop_left' (by simp)
          · rw [decide_eq_false hc]
            refine iteT ⟨_, rfl, kN ?_ H8 sH⟩
            rw [lp]
            exact if_neg fun ax => hc (asc_one ax asc fun c => (mem c).symm)
end
end L2.LawH
set_option Elab.async false
set_option linter.all false
set_option maxRecDepth 100000
set_option maxHeartbeats 4000000
/-! _law_read. -/
namespace L2.LawH
open PySem PySem.Spec PyProof.Rows L2.TxtSet TL L2.NSet PySem.W L2.Cmp
abbrev sLRd : Stmt := top 35
def spLRd (d : Nat) : Sp := fun vs H Q _ => ∃ (z : Str) (a k : Nat), vs = [.str z, .int a, .int k] ∧ TxOk z ∧ a ≤ (tl z).length ∧ k + d = 20 ∧ (parse d ((tl z).drop a) = none → ∀ H', Same H H' → Q (.int (-1)) H') ∧
  (∀ φ l', parse d ((tl z).drop a) = some (φ, l') → ∀ (H' : Hp) (e : Nat), Same H H' → e ≤ (tl z).length → (tl z).drop e = l' → Q (.int e) H')
abbrev sgA : Str := Str.ofString " & "
abbrev sgO : Str := Str.ofString " | "
abbrev sgP : Str := Str.ofString " opt "
theorem tl_sgA : tl sgA = [32, 38, 32] := by decide +kernel
theorem tl_sgO : tl sgO = [32, 124, 32] := by decide +kernel
theorem tl_sgP : tl sgP = [32, 111, 112, 116, 32] := by decide +kernel
section
variable {P : Program} {w : World} {K : PySem.W.Frag} {mg : Str → Option Value} {base : Heap}
abbrev nLRd : List Str := ["_law_text_here", "_law_spot", "_law_deep", "_law_behind", "_law_sign", "_law_last"]
abbrev pLRd : List Str := ["_law_text_here", "_law_spot", "_law_deep"]
theorem scLRd : FnScope nLRd pLRd (defScope sLRd) := ⟨rfl, rfl, rfl, by decide +kernel, rfl, by decide +kernel, by decide +kernel⟩
theorem lrd_step {f fL : Addr} {fd fdL : FuncData} {d : Nat} (F : Fun K "_law_read" "_law_read" sLRd f fd) (kF : PySem.W.keepIn K (.ref f) = true) (bF : Binds K fd pLRd []) (mF : mg "_law_read" = some (.ref f))
    (GL : FnOk P w K mg base CX0 3 fL fdL ["_law_text_here", "_law_spot"] spLRL) (kL : PySem.W.keepIn K (.ref fL) = true) (bL : Binds K fdL ["_law_text_here", "_law_spot"] []) (mL : mg "_law_read_lot" = some (.ref fL)) (ml : mg "len" = none)
    (GF : ∀ d', d = d' + 1 → FnOk P w K mg base CX0 (d' + 4) f fd pLRd (spLRd d')) : FnOk P w K mg base CX0 (d + 4) f fd pLRd (spLRd d) := by
  refine F.ok scLRd (fun vs H Q E h => ?_) (fun cdv A outer s H vs Q E hr h => ?_)
  · obtain ⟨z, a, k, rfl, _⟩ := h
    rfl
  · obtain ⟨z, a, k, rfl, tz, la, kd, kN, kS⟩ := h
    have hr3 : Room 3 _ := hr.mono (by omega)
    have szl := tz.szl
    have head : ∀ (p : Str) (c : Nat), tl p = [c] → decide (V.str (cutS z (some (a : Int)) (some ((a : Int) + 1))) = V.str p) = decide (((tl z).drop a).take 1 = [c]) := fun p c e =>
      (cut_is z a 1 ((a : Int) + 1) p rfl).trans (by rw [e])
    cases d with
    | zero =>
      have hk : (k : Int) = 20 := by omega
      refine ⟨_, pss_cons (ps_if (pt_cmpR op_eq (pe_slice sl_str (pv 0) (po_some (pv 1)) (po_some (pe_op op_add (pv 1) pe_int))) pe_str (nomark _))
          (pss_one (ps_ret (pe_call GL hr3 (by rfl) mL kL bL .nil pass0 (pa_cons (pv 0) (pa_cons (pv 1) pa_nil))))) pss_nil)
        (pss_cons (ps_if (PW.pt (pw_or (pt_cmpR op_ne (pe_slice sl_str (pv 0) (po_some (pv 1)) (po_some (pe_op op_add (pv 1) pe_int))) pe_str (nomark _)) (pw_or1 (pt_cmpR op_eq (pv 2) pe_int (nomark _)))))
          (pss_one (ps_ret (pe_un un_neg pe_int))) pss_nil)
        (pss_cons ps_never (pss_cons ps_never (pss_one ps_never)))), ?_⟩
      refine ⟨_, rfl, _, rfl, _, rfl, _, rfl, _, _, rfl, rfl, _, rfl, z, rfl, szl, rfl, _, rfl, ?_⟩
      dsimp only
      rw [head (Str.ofString "{") 123 (by decide +kernel)]
      refine ite2 (fun h => ?_) (fun h => ?_)
      · have h := of_decide_eq_true h
        rw [parse, if_pos h, drop_one] at kN kS
        exact ⟨_, rfl, _, rfl, z, a, rfl, tz, la, h, kN, kS⟩
      have n123 : ¬ ((tl z).drop a).take 1 = [123] := fun q => h (decide_eq_true q)
      refine ⟨_, rfl, _, rfl, _, rfl, _, rfl, _, _, rfl, rfl, _, rfl, z, rfl, szl, rfl, _, rfl, ?_⟩
      dsimp only
      rw [head (Str.ofString "(") 40 (by decide +kernel)]
      have hn : parse 0 ((tl z).drop a) = none := by rw [parse, if_neg n123]
      refine ite2 (fun _ => ⟨_, rfl, kN hn H (Same.refl _)⟩) (fun _ => ⟨_, rfl, rfl, _, rfl, ?_⟩)
      rw [hk]
      exact iteT ⟨_, rfl, kN hn H (Same.refl _)⟩
    | succ d =>
      have GF := GF d rfl
      have hrd : Room (d + 4) _ := hr.mono (by omega)
      refine ⟨_, pss_cons (ps_if (pt_cmpR op_eq (pe_slice sl_str (pv 0) (po_some (pv 1)) (po_some (pe_op op_add (pv 1) pe_int))) pe_str (nomark _))
          (pss_one (ps_ret (pe_call GL hr3 (by rfl) mL kL bL .nil pass0 (pa_cons (pv 0) (pa_cons (pv 1) pa_nil))))) pss_nil)
        (pss_cons (ps_if (PW.pt (pw_or (pt_cmpR op_ne (pe_slice sl_str (pv 0) (po_some (pv 1)) (po_some (pe_op op_add (pv 1) pe_int))) pe_str (nomark _)) (pw_or1 (pt_cmpR op_eq (pv 2) pe_int (nomark _)))))
          (pss_one (ps_ret (pe_un un_neg pe_int))) pss_nil)
        (pss_cons (ps_set (i := 3) scLRd.nd rfl (Or.inl rfl) (pe_call GF hrd (by rfl) mF kF bF .nil pass0 (pa_cons (pv 0) (pa_cons (pe_op op_add (pv 1) pe_int) (pa_cons (pe_op op_add (pv 2) pe_int) pa_nil)))))
        (pss_cons (ps_for PassesOwn.never rfl (pi_list (pe_lst (pa_cons pe_str (pa_cons pe_str (pa_cons pe_str pa_nil))))) (pg_name (i := 4) scLRd.nd rfl (Or.inl rfl))
          (pss_one (ps_if (PW.pt (pw_and (pt_cmpR op_ge (pv 3) pe_int (nomark _)) (pw_and1 (pt_cmpR op_eq (pe_slice sl_str (pv 0) (po_some (pv 3)) (po_some (pe_op op_add (pv 3) (pe_callB call_len_str (by rfl) ml (by decide +kernel) (pa_cons (pv 4) pa_nil))))) (pv 4) (nomark _)))))
            (pss_cons (ps_set (i := 5) scLRd.nd rfl (Or.inl rfl) (pe_call GF hrd (by rfl) mF kF bF .nil pass0 (pa_cons (pv 0) (pa_cons (pe_op op_add (pv 3) (pe_callB call_len_str (by rfl) ml (by decide +kernel) (pa_cons (pv 4) pa_nil))) (pa_cons (pe_op op_add (pv 2) pe_int) pa_nil)))))
            (pss_one (ps_ret (pe_ifExp (PW.pt (pw_and (pt_cmpR op_ge (pv 5) pe_int (nomark _)) (pw_and1 (pt_cmpR op_eq (pe_slice sl_str (pv 0) (po_some (pv 5)) (po_some (pe_op op_add (pv 5) pe_int))) pe_str (nomark _))))) (pe_op op_add (pv 5) pe_int) (pe_un un_neg pe_int))))) pss_nil)))
        (pss_one (ps_ret (pe_un un_neg pe_int)))))), ?_⟩
      refine ⟨_, rfl, _, rfl, _, rfl, _, rfl, _, _, rfl, rfl, _, rfl, z, rfl, szl, rfl, _, rfl, ?_⟩
      dsimp only
      rw [head (Str.ofString "{") 123 (by decide +kernel)]
      refine ite2 (fun h => ?_) (fun h => ?_)
      · have h := of_decide_eq_true h
        rw [parse, if_pos h, drop_one] at kN kS
        exact ⟨_, rfl, _, rfl, z, a, rfl, tz, la, h, kN, kS⟩
      have n123 : ¬ ((tl z).drop a).take 1 = [123] := fun q => h (decide_eq_true q)
      refine ⟨_, rfl, _, rfl, _, rfl, _, rfl, _, _, rfl, rfl, _, rfl, z, rfl, szl, rfl, _, rfl, ?_⟩
      dsimp only
      rw [head (Str.ofString "(") 40 (by decide +kernel)]
      refine ite2 (fun h40 => ⟨_, rfl, kN ?_ H (Same.refl _)⟩) (fun h40 => ⟨_, rfl, rfl, _, rfl, ?_⟩)
      · have h40 : ¬ ((tl z).drop a).take 1 = [40] := by simpa using h40
        rw [parse, if_neg n123, if_neg h40]
      have h40 : ((tl z).drop a).take 1 = [40] := by simpa using h40
      have k20 : decide (V.int (k : Int) = V.int 20) = false := decide_eq_false fun e => by
        have := V.int.inj e
        omega
      rw [k20]
      refine iteF ?_
      have hp : parse (d + 1) ((tl z).drop a) = (parse d ((tl z).drop (a + 1))).bind fun x => (signP x.2).bind fun y => (parse d y.2).bind fun u => if u.2.take 1 = [41] then some (.node y.1 x.1 u.1, u.2.drop 1) else none := by
        rw [parse, if_neg n123, if_pos h40, drop_one]
      have la1 : a + 1 ≤ (tl z).length := by
        have := take_len h40 rfl
        rw [List.length_drop] at this
        omega
      have k1e : ((k : Int) + 1) = ((k + 1 : Nat) : Int) := by omega
      refine ⟨_, rfl, _, rfl, _, _, rfl, rfl, _, rfl, _, _, rfl, rfl, z, a + 1, k + 1, rfl, tz, la1, by omega, fun hn H1 s1 => ?_, fun φ1 l1 h1 H1 e1 s1 le1 de1 => ?_⟩
      · refine ⟨by show 3 ≤ sizeLine; decide, fun p np => ?_⟩
        have u2 : Same H1 (upd H1 p (.lst [V.str sgA, V.str sgO, V.str sgP])) := same_new np
        have c2 : (upd H1 p (.lst [V.str sgA, V.str sgO, V.str sgP])) p = some (.lst [V.str sgA, V.str sgO, V.str sgP]) := upd_same
        generalize upd H1 p (.lst [V.str sgA, V.str sgO, V.str sgP]) = H2 at u2 c2 ⊢
        have hN : parse (d + 1) ((tl z).drop a) = none := by rw [hp, hn]; rfl
        refine ⟨p, rfl, ⟨_, SqL.of c2⟩, for_list (K := K) (a := p) (xs := [V.str sgA, V.str sgO, V.str sgP]) (fun i σ H5 => ∃ v4 v5 : Option V, σ = [some (.str z), some (.int (a : Nat)), some (.int (k : Nat)), some (.int (-1)), v4, v5] ∧ Same H2 H5)
          ⟨none, none, rfl, Same.refl _⟩ (fun i σ H5 _ p5 => let ⟨_, _, _, s5⟩ := p5; SqL.of (s5 _ _ c2)) (fun i x σ H5 hx p5 => ?_) (fun σ H5 p5 => ?_)⟩
        · obtain ⟨v4, v5, rfl, s5⟩ := p5
          refine ⟨_, rfl, _, _, rfl, rfl, _, rfl, ?_⟩
          exact iteF (iteF ⟨_, _, rfl, s5⟩)
        · obtain ⟨v4, v5, rfl, s5⟩ := p5
          exact ⟨_, rfl, kN hN H5 ((s1.trans u2).trans s5)⟩
      · rw [h1, Option.bind_some] at hp
        dsimp only at hp
        refine ⟨by show 3 ≤ sizeLine; decide, fun p np => ?_⟩
        have u2 : Same H1 (upd H1 p (.lst [V.str sgA, V.str sgO, V.str sgP])) := same_new np
        have c2 : (upd H1 p (.lst [V.str sgA, V.str sgO, V.str sgP])) p = some (.lst [V.str sgA, V.str sgO, V.str sgP]) := upd_same
        generalize upd H1 p (.lst [V.str sgA, V.str sgO, V.str sgP]) = H2 at u2 c2 ⊢
        refine ⟨p, rfl, ⟨_, SqL.of c2⟩, for_list (K := K) (a := p) (xs := [V.str sgA, V.str sgO, V.str sgP]) (fun i σ H5 => ∃ v4 v5 : Option V, σ = [some (.str z), some (.int (a : Nat)), some (.int (k : Nat)), some (.int (e1 : Nat)), v4, v5] ∧ Same H2 H5 ∧ (1 ≤ i → ¬ l1.take 3 = [32, 38, 32]) ∧ (2 ≤ i → ¬ l1.take 3 = [32, 124, 32]) ∧ (3 ≤ i → ¬ l1.take 5 = [32, 111, 112, 116, 32]))
          ⟨none, none, rfl, Same.refl _, fun h => by omega, fun h => by omega, fun h => by omega⟩ (fun i σ H5 _ p5 => let ⟨_, _, _, s5, _⟩ := p5; SqL.of (s5 _ _ c2)) (fun i x σ H5 hx p5 => ?_) (fun σ H5 p5 => ?_)⟩
        · obtain ⟨v4, v5, rfl, s5, n1, n2, n3⟩ := p5
          have hx3 : ∃ sg s : Str, x = .str sg ∧ sg.length = (tl sg).length ∧ sg.length ≤ 5 ∧ (l1.take sg.length = tl sg → signP l1 = some (s, l1.drop sg.length)) ∧
              (¬ l1.take sg.length = tl sg → (1 ≤ i + 1 → ¬ l1.take 3 = [32, 38, 32]) ∧ (2 ≤ i + 1 → ¬ l1.take 3 = [32, 124, 32]) ∧ (3 ≤ i + 1 → ¬ l1.take 5 = [32, 111, 112, 116, 32])) := by
            have hl := (List.getElem?_eq_some_iff.mp hx).1
            simp only [List.length_cons, List.length_nil] at hl
            have : i = 0 ∨ i = 1 ∨ i = 2 := by omega
            rcases this with rfl | rfl | rfl
            · refine ⟨sgA, andS, (Option.some.inj hx).symm, len_tl _, by decide +kernel, ?_, ?_⟩
              · rw [show sgA.length = 3 by decide +kernel, tl_sgA]
                intro e
                unfold signP
                rw [if_pos e]
              · rw [show sgA.length = 3 by decide +kernel, tl_sgA]
                exact fun e => ⟨fun _ => e, fun h => by omega, fun h => by omega⟩
            · refine ⟨sgO, orS, (Option.some.inj hx).symm, len_tl _, by decide +kernel, ?_, ?_⟩
              · rw [show sgO.length = 3 by decide +kernel, tl_sgO]
                intro e
                unfold signP
                rw [if_neg (n1 (by decide)), if_pos e]
              · rw [show sgO.length = 3 by decide +kernel, tl_sgO]
                exact fun e => ⟨fun _ => n1 (by decide), fun _ => e, fun h => by omega⟩
            · refine ⟨sgP, optS, (Option.some.inj hx).symm, len_tl _, by decide +kernel, ?_, ?_⟩
              · rw [show sgP.length = 5 by decide +kernel, tl_sgP]
                intro e
                unfold signP
                rw [if_neg (n1 (by decide)), if_neg (n2 (by decide)), if_pos e]
              · rw [show sgP.length = 5 by decide +kernel, tl_sgP]
                exact fun e => ⟨fun _ => n1 (by decide), fun _ => n2 (by decide), fun _ => e⟩
          obtain ⟨sg, sn, rfl, lsg, l5, hyes, hno⟩ := hx3
          have szs : sg.length ≤ sizeLine := by rw [sizeLine_eq]; omega
          refine ⟨_, rfl, _, _, rfl, rfl, _, rfl, ?_⟩
          rw [decide_eq_true (show (0 : Int) ≤ ((e1 : Nat) : Int) by omega)]
          refine iteT ⟨_, rfl, _, rfl, _, rfl, _, rfl, _, rfl, sg, rfl, szs, _, _, rfl, rfl, _, rfl, z, rfl, szl, _, rfl, rfl, _, rfl, ?_⟩
          dsimp only
          rw [cut_is z e1 sg.length _ sg rfl, de1]
          have s15 := (s1.trans u2).trans s5
          by_cases hm : l1.take sg.length = tl sg
          case neg =>
            rw [decide_eq_false hm]
            obtain ⟨q1, q2, q3⟩ := hno hm
            exact iteF ⟨_, _, rfl, s5, q1, q2, q3⟩
          rw [decide_eq_true hm]
          rw [hyes hm, Option.bind_some] at hp
          dsimp only at hp
          have le2 : e1 + sg.length ≤ (tl z).length := by
            have h1 := take_len hm lsg.symm
            have h2 := congrArg List.length de1
            rw [List.length_drop] at h2
            omega
          have de2 : (tl z).drop (e1 + sg.length) = l1.drop sg.length := by rw [← List.drop_drop, de1]
          refine iteT ⟨_, rfl, _, rfl, _, rfl, sg, rfl, szs, _, _, rfl, rfl, _, rfl, _, _, rfl, rfl, z, e1 + sg.length, k + 1, rfl, tz, le2, by omega, fun hn H6 s6 => ?_, fun φ2 l4 h4 H6 e2 s6 le3 de3 => ?_⟩
          · rw [de2] at hn
            refine ⟨_, rfl, _, _, rfl, rfl, _, rfl, iteF (iteF ⟨_, rfl, kN ?_ H6 (s15.trans s6)⟩)⟩
            rw [hp, hn]
            rfl
          · rw [de2] at h4
            rw [h4, Option.bind_some] at hp
            dsimp only at hp
            refine ⟨_, rfl, _, _, rfl, rfl, _, rfl, ?_⟩
            rw [decide_eq_true (show (0 : Int) ≤ ((e2 : Nat) : Int) by omega)]
            refine iteT ⟨_, rfl, _, rfl, _, rfl, _, rfl, _, _, rfl, rfl, _, rfl, z, rfl, szl, rfl, _, rfl, ?_⟩
            dsimp only
            rw [show decide (V.str (cutS z (some (e2 : Int)) (some ((e2 : Int) + 1))) = V.str (Str.ofString ")")) = decide (((tl z).drop e2).take 1 = [41]) from (cut_is z e2 1 ((e2 : Int) + 1) (Str.ofString ")") rfl).trans (by rw [show tl (Str.ofString ")") = [41] by decide +kernel]), de3]
            by_cases h41 : l4.take 1 = [41]
            · rw [decide_eq_true h41]
              rw [if_pos h41] at hp
              refine iteT ⟨_, rfl, _, _, rfl, rfl, ?_⟩
              dsimp only
              rw [show ((e2 : Int) + 1) = ((e2 + 1 : Nat) : Int) by omega]
              refine kS _ _ hp H6 (e2 + 1) (s15.trans s6) ?_ ?_
              · have := take_len h41 rfl
                rw [← de3, List.length_drop] at this
                omega
              · rw [← de3, drop_one]
            · rw [decide_eq_false h41]
              rw [if_neg h41] at hp
              exact iteF ⟨_, rfl, kN hp H6 (s15.trans s6)⟩
        · obtain ⟨v4, v5, rfl, s5, n1, n2, n3⟩ := p5
          refine ⟨_, rfl, kN ?_ H5 ((s1.trans u2).trans s5)⟩
          rw [hp]
          have : signP l1 = none := by
            unfold signP
            rw [if_neg (n1 (by decide)), if_neg (n2 (by decide)), if_neg (n3 (by decide))]
          rw [this]
          rfl
theorem ok_lrd {f fL : Addr} {fd fdL : FuncData} (F : Fun K "_law_read" "_law_read" sLRd f fd) (kF : PySem.W.keepIn K (.ref f) = true) (bF : Binds K fd pLRd []) (mF : mg "_law_read" = some (.ref f))
    (GL : FnOk P w K mg base CX0 3 fL fdL ["_law_text_here", "_law_spot"] spLRL) (kL : PySem.W.keepIn K (.ref fL) = true) (bL : Binds K fdL ["_law_text_here", "_law_spot"] []) (mL : mg "_law_read_lot" = some (.ref fL)) (ml : mg "len" = none) :
    ∀ d, FnOk P w K mg base CX0 (d + 4) f fd pLRd (spLRd d)
  | 0 => lrd_step F kF bF mF GL kL bL mL ml fun d' h => by cases h
  | d + 1 => lrd_step F kF bF mF GL kL bL mL ml fun d' h => by
    obtain rfl : d = d' := by omega
    exact ok_lrd F kF bF mF GL kL bL mL ml d
end
end L2.LawH
set_option Elab.async false
set_option linter.all false
set_option maxRecDepth 100000
set_option maxHeartbeats 4000000
/-! Form's own ==. -/
namespace L2.LawH
open PySem PySem.Spec PyProof.Rows L2.TxtSet TL L2.NSet PySem.W L2.OwnOp
abbrev sEqF : Stmt := inClass (top 16) 8
/-- two forms of one kind -/
def RFm (C : Addr) (d : Nat) (a b : Addr) (H : Hp) : Prop := ∃ φ : Fm, φ.dep < d ∧ φ.Ok ∧ FrmAt C H a φ ∧ FrmAt C H b φ
theorem rfm_mon {C : Addr} {d : Nat} : ∀ a b H H', Ext H H' → RFm C d a b H → RFm C d a b H' := fun a b H H' e ⟨φ, h1, h2, h3, h4⟩ => ⟨φ, h1, h2, h3.same e, h4.same e⟩
theorem call_isiK {X : Cx} {K : PySem.W.Frag} (e : X.K = K) : CallR X (.builtin "isinstance") (rIsi K) := by
  subst e
  exact call_isi
theorem or_isi {X : Cx} {K : PySem.W.Frag} {C : Addr} (e : X.K = K) (c : C8.InsC K C) : CallR X (.builtin "isinstance") (fun xs H Q => (∃ a dx fs, xs = [.ref a, .ref C] ∧ H a = some (.ins C dx fs) ∧ Q (.bl true) H) ∨ rIsi K xs H Q) := by
  subst e
  intro pins s σ H xs us Q I rv h
  rcases h with h | h
  · exact C8.call_isC c pins s σ H xs us Q I rv h
  · exact call_isi pins s σ H xs us Q I rv h
section
variable {P : Program} {w : World} {K : PySem.W.Frag} {mg : Str → Option Value} {base : Heap}
theorem scEqF : FnScope ["self", "other"] ["self", "other"] (defScope sEqF) := ⟨rfl, rfl, rfl, by decide +kernel, rfl, by decide +kernel, by decide +kernel⟩
theorem eqf_step {f C : Addr} {fd : FuncData} {n : Nat} (F : Fun K "__eq__" "Form.__eq__" sEqF f fd) (T : ClF K C) (c : C8.InsC K C) (mC : mg "Form" = some (.ref C)) (mi : mg "isinstance" = none)
    (hs : PySem.W.findIn K (.ref C) "__eq__" = some (some (.ref f))) (hf : PySem.W.isFn K (.ref f) = true) (hb : Binds K fd ["self", "other"] [])
    (GS : FnOk P w K mg base CX0 (2 * n + 1) f fd ["self", "other"] (spEq (RFm C n))) : FnOk P w K mg base CX0 (2 * (n + 1) + 1) f fd ["self", "other"] (spEq (RFm C (n + 1))) := by
  refine F.ok scEqF (fun vs H Q E h => ?_) (fun cdv A outer s H vs Q E hr h => ?_)
  · obtain ⟨a, b, rfl, _⟩ := h
    rfl
  · obtain ⟨a, b, rfl, ⟨φ, hd, ok, ha, hb2⟩, k⟩ := h
    have hu := hr.units
    have hr2 : Room (2 * n + 1 + 1) _ := hr.mono (by omega)
    refine ⟨_, pss_one (ps_ret (pe_and (pe_callB (or_isi (K := K) rfl c) (by rfl) mi (by decide +kernel) (pa_cons (pv 1) (pa_cons (pe_glob (v := .ref C) (by rfl) mC rfl) pa_nil)))
      (pe_and (pe_cmpR op_eq (pe_fld (pv 0) rfl) (pe_fld (pv 1) rfl) (nomark _))
      (pe_and (pe_cmpR (op_eqG (rcG_tup (mon_ins rfm_mon) (eqG_ins GS hs hf hb pass0)) hr2) (pe_fld (pv 0) rfl) (pe_fld (pv 1) rfl) (nomark _))
        (pe_one (pe_cmpR (op_eqD hu) (pe_fld (pv 0) rfl) (pe_fld (pv 1) rfl) (nomark _))))))), ?_⟩
    cases φ with
    | lot cs =>
      obtain ⟨dx, t, u, xs, h1, h2, h3, h4, h5⟩ := ha
      obtain ⟨dy, t', u', ys, g1, g2, g3, g4, g5⟩ := hb2
      refine ⟨_, rfl, .inl ⟨b, dy, _, rfl, g1, true, rfl, iteT ?_⟩⟩
      refine ⟨_, rfl, a, C, dx, _, _, rfl, h1, T.cl, T.nS, rfl, _, rfl, b, C, dy, _, _, rfl, g1, T.cl, T.nS, rfl, rfl, _, rfl, iteT ?_⟩
      refine ⟨_, rfl, a, C, dx, _, _, rfl, h1, T.cl, T.nH, rfl, _, rfl, b, C, dy, _, _, rfl, g1, T.cl, T.nH, rfl, ⟨t, t', [], [], rfl, rfl, SqT.of h2, SqT.of g2, Prs.nil⟩, fun H1 e1 => ⟨_, rfl, iteT ?_⟩⟩
      have f1 : ∀ c ∈ xs.map (·.2), Fct c := by rw [h5]; exact ok.2
      have f2 : ∀ c ∈ ys.map (·.2), Fct c := by rw [g5]; exact ok.2
      refine ⟨_, rfl, a, C, dx, _, _, rfl, e1 _ _ h1, T.cl, T.nW, rfl, _, rfl, b, C, dy, _, _, rfl, e1 _ _ g1, T.cl, T.nW, rfl, .tuple ((xs.map (·.2)).map facD), .tuple ((ys.map (·.2)).map facD), .tup (SqT.of (e1 _ _ h3)) (dp_facts fun x m => e1 _ _ (h4 x m)), .tup (SqT.of (e1 _ _ g3)) (dp_facts fun x m => e1 _ _ (g4 x m)), sh_tup f1, sh_tup f2, ?_⟩
      rw [eqv_tup, h5, g5, decide_eq_true rfl]
      exact k H1 e1
    | node sg l r =>
      obtain ⟨dx, t, u, p, q, h1, h2, h3, h4, h5⟩ := ha
      obtain ⟨dy, t', u', p', q', g1, g2, g3, g4, g5⟩ := hb2
      have hd : max l.dep r.dep + 1 < n + 1 := hd
      refine ⟨_, rfl, .inl ⟨b, dy, _, rfl, g1, true, rfl, iteT ?_⟩⟩
      refine ⟨_, rfl, a, C, dx, _, _, rfl, h1, T.cl, T.nS, rfl, _, rfl, b, C, dy, _, _, rfl, g1, T.cl, T.nS, rfl, rfl, _, rfl, ?_⟩
      rw [decide_eq_true rfl]
      refine iteT ?_
      obtain ⟨a1, a2, a3, a4, i1⟩ := h4.ins
      obtain ⟨b1, b2, b3, b4, i2⟩ := h5.ins
      obtain ⟨a1', a2', a3', a4', i1'⟩ := g4.ins
      obtain ⟨b1', b2', b3', b4', i2'⟩ := g5.ins
      refine ⟨_, rfl, a, C, dx, _, _, rfl, h1, T.cl, T.nH, rfl, _, rfl, b, C, dy, _, _, rfl, g1, T.cl, T.nH, rfl, ⟨t, t', _, _, rfl, rfl, SqT.of h2, SqT.of g2, .cons ⟨p, p', _, _, _, _, rfl, rfl, i1, i1', l, by omega, ok.2.1, h4, g4⟩ (.cons ⟨q, q', _, _, _, _, rfl, rfl, i2, i2', r, by omega, ok.2.2, h5, g5⟩ .nil)⟩, fun H1 e1 => ⟨_, rfl, iteT ?_⟩⟩
      refine ⟨_, rfl, a, C, dx, _, _, rfl, e1 _ _ h1, T.cl, T.nW, rfl, _, rfl, b, C, dy, _, _, rfl, e1 _ _ g1, T.cl, T.nW, rfl, .tuple [], .tuple [], .tup (SqT.of (e1 _ _ h3)) .nil, .tup (SqT.of (e1 _ _ g3)) .nil, by decide, by decide, k H1 e1⟩
theorem ok_eqF {f C : Addr} {fd : FuncData} (F : Fun K "__eq__" "Form.__eq__" sEqF f fd) (T : ClF K C) (c : C8.InsC K C) (mC : mg "Form" = some (.ref C)) (mi : mg "isinstance" = none)
    (hs : PySem.W.findIn K (.ref C) "__eq__" = some (some (.ref f))) (hf : PySem.W.isFn K (.ref f) = true) (hb : Binds K fd ["self", "other"] []) : ∀ n, FnOk P w K mg base CX0 (2 * n + 1) f fd ["self", "other"] (spEq (RFm C n))
  | 0 => by
    have no : ∀ vs H Q E, ¬ spEq (RFm C 0) vs H Q E := fun vs H Q E ⟨_, _, _, ⟨_, h, _⟩, _⟩ => absurd h (Nat.not_lt_zero _)
    exact ⟨fun vs H Q E h => absurd h (no _ _ _ _), fun A outer s H args us vs Q E hr he hb hv hs => absurd hs (no _ _ _ _)⟩
  | n + 1 => eqf_step F T c mC mi hs hf hb (ok_eqF F T c mC mi hs hf hb n)
end
end L2.LawH
set_option Elab.async false
set_option linter.all false
set_option maxRecDepth 100000
set_option maxHeartbeats 4000000
/-! _law_told. -/
namespace L2.LawH
open PySem PySem.Spec PyProof.Rows L2.TxtSet TL L2.NSet PySem.W L2.OwnOp L2.ClsCall
abbrev sLTo : Stmt := top 36
abbrev badS : Str := Str.ofString "bad"
def tell (z : Str) : Str := if (rdForm (tl z)).isSome then z else badS
def spLTo : Sp := fun vs H Q _ => ∃ z : Str, vs = [.str z] ∧ TxOk z ∧ ∀ H', Same H H' → Q (.str (tell z)) H'
section
variable {P : Program} {w : World} {K : PySem.W.Frag} {mg : Str → Option Value} {base : Heap}
theorem scLTo : FnScope ["_law_text_here"] ["_law_text_here"] (defScope sLTo) := ⟨rfl, rfl, rfl, by decide +kernel, rfl, by decide +kernel, by decide +kernel⟩
theorem ok_lto {f fR pR fT C B : Addr} {fd fdR fdT : FuncData} {mc : Value} (F : Fun K "_law_told" "_law_told" sLTo f fd) (T : ClF K C)
    (GR : FnOk P w K mg base (L2.CX P w) 27 fR fdR ["cls", "text"] (spRdF B C)) (rR : ClX.CRead K C mc) (cR : ClX.CMet K C mc "read" pR fR) (bR : Binds K fdR ["cls", "text"] [])
    (mT : Meth K C "text" fT) (GT : FnOk P w K mg base CX0 22 fT fdT ["self"] (spTextF C 21)) (bT : Binds K fdT ["self"] [])
    (mC : mg "Form" = some (.ref C)) (mB : mg "BadText" = some (.ref B)) (te : PySem.W.exmOne K (.ref B) (.ref B) = some true) : FnOk P w K mg base CX0 28 f fd ["_law_text_here"] spLTo := by
  refine F.ok scLTo (fun vs H Q E h => ?_) (fun cdv A outer s H vs Q E hr h => ?_)
  · obtain ⟨z, rfl, _⟩ := h
    rfl
  · obtain ⟨z, rfl, tz, k⟩ := h
    have hr22 : Room 22 _ := hr.mono (by decide)
    refine ⟨_, pss_one (ps_try_only rfl rfl ⟨rfl, by decide, .inl mB⟩ takes0 (fun W pn xe tk _ =>
        pss_one (ps_ret (pe_meth0 (pe_cmethS (pe_glob (v := .ref C) (by rfl) mC rfl) rR cR GR hr bR (fun σ => passAt tk σ) (pa_cons (pv 0) pa_nil)) T.cl mT GT hr22 bT .nil pass0)))
      (fun a oe cls d pn hz hf => pss_one (ps_ret pe_str))), ?_⟩
    refine ⟨rfl, _, rfl, z, rfl, tz, fun hn H' s' => ⟨true, te, fun _ a na => ?_, fun q => nomatch q⟩, fun φ hφ H' g s' fr => ?_⟩
    · have := k H' s'
      unfold tell at this
      rw [hn] at this
      exact this
    · obtain ⟨e, ok, dp⟩ := rdForm_some hφ
      obtain ⟨dx, a1, a2, a3, i1⟩ := fr.ins
      refine ⟨g, dx, _, rfl, i1, rfl, g, φ, rfl, fr, ok, by omega, ?_, fun H2 s2 => ?_⟩
      · rw [← e]
        have := tz.len
        rw [len_tl] at this
        omega
      · have := k H2 (s'.trans s2)
        unfold tell at this
        rw [hφ] at this
        rw [show ftext φ = z from ext_tl (by rw [tl_ftext, e])]
        exact this
end
end L2.LawH
set_option Elab.async false
set_option linter.all false
set_option maxRecDepth 100000
set_option maxHeartbeats 4000000
/-! x.replace(y, z, 1) of written texts, behind a test against a number. -/
namespace L2.Rep1
open PySem PySem.Spec PyProof.Rows L2 TL
open Builtin Builtin.Str
theorem gives_rep1 (x y z : Str) (t u v k : Tok)
    (hf : ((occurrences x y 0 x.length 1).isEmpty || (y.length == 0 && z.length == 0)) = false →
      (u == 0 || v == 0) = false ∧ (u == v) = false ∧ (y == z) = false ∧ tooLong (x.length + (occurrences x y 0 x.length 1).length * z.length) = false) :
    Gives («str.replace» ⟨[.str x t, .str y u, .str z v, .int 1 k], []⟩) (if ((occurrences x y 0 x.length 1).isEmpty || (y.length == 0 && z.length == 0)) = true then .val (.str x t) else .str (glued z (partsBetween x (occurrences x y 0 x.length 1) y.length))) := by
  show Gives (if ((occurrences x y 0 x.length 1).isEmpty || (y.length == 0 && z.length == 0)) = true then (do rule "str.replace.nothing"; ret (.str x t)) else
          (do let same ← isSame (.str y u) (.str z v)
              if same = true then (do rule "str.replace.old-is-new"; ret (.str x t)) else
              if tooLong (x.length + (occurrences x y 0 x.length 1).length * z.length) = true then unsupported "str.replace:memory" else
              retStr (glued z (partsBetween x (occurrences x y 0 x.length 1) y.length)))) _
  cases hc : ((occurrences x y 0 x.length 1).isEmpty || (y.length == 0 && z.length == 0))
  · obtain ⟨h0, huv, hyz, hl⟩ := hf hc
    rw [isSame_str_other y z u v h0 huv hyz, hl]
    exact .of_eq rfl
  · exact .rule (.of_eq rfl)
/-- what it may be: the text, or the text with one piece exchanged -/
def Was (x y z r : Str) : Prop := r = x ∨ ∃ i : Nat, i + y.length ≤ x.length ∧ tl r = (tl x).take i ++ (tl z ++ (tl x).drop (i + y.length))
theorem was_glued {x y z : Str} (h : (occurrences x y 0 x.length 1).isEmpty = false) : Was x y z (glued z (partsBetween x (occurrences x y 0 x.length 1) y.length)) := by
  have l := StrLaws.occ_length_le x y 0 x.length 1
  have sp := StrLaws.occ_spec x y 0 x.length 1
  cases ho : occurrences x y 0 x.length 1 with
  | nil => rw [ho] at h; cases h
  | cons i r =>
    rw [ho] at l sp
    have hr : r = [] := by
      rw [List.length_cons] at l
      exact List.length_eq_zero_iff.mp (by omega)
    subst hr
    have hi := (sp i List.mem_cons_self).1
    refine .inr ⟨i, hi, ?_⟩
    have e : partsBetween x [i] y.length = [strSub x 0 i, strSub x (i + y.length) x.length] := by
      unfold partsBetween
      simp
    rw [e, StrLaws.glued_eq_join, tl_join]
    have e1 : tl (strSub x 0 i) = (tl x).take i := by
      unfold strSub tl
      simp
    have e2 : tl (strSub x (i + y.length) x.length) = (tl x).drop (i + y.length) := by
      unfold strSub tl
      simp [Str.length]
      exact List.take_of_length_le (by simp)
    show tl (strSub x 0 i) ++ (tl z ++ tl (strSub x (i + y.length) x.length)) = _
    rw [e1, e2]
theorem was_len {x y z r : Str} (h : Was x y z r) : r.length ≤ x.length + z.length := by
  rcases h with rfl | ⟨i, hi, e⟩
  · omega
  · have := congrArg List.length e
    rw [List.length_append, List.length_append, List.length_take, List.length_drop, ← len_tl, ← len_tl, ← len_tl] at this
    omega
section
variable {prog : Program} {w : World} {A : Around} {E : Value → Shared → Prop} {s : Shared} {env : Env}
theorem Call_method3 {o e₁ e₂ e₃ : Expr} {name : Str} {apos pos : Pos} {Q : Value → Shared → Prop}
    (hbase : attributeBase o name env (eval o env) = eval o env) (hs : starEach [e₁, e₂, e₃] env = [(false, eval e₁ env), (false, eval e₂ env), (false, eval e₃ env)]) (hline : (apos.endLine == pos.line) = true)
    (h : wpAny (model prog w) A (eval o env) (fun ov s₁ => MethodOnS prog w A E name ov pos [(false, eval e₁ env), (false, eval e₂ env), (false, eval e₃ env)] Q s₁) E s) :
    wpAny (model prog w) A (eval (.Call (.Attribute o name apos) [e₁, e₂, e₃] [] pos) env) Q E s := by
  refine wpAny_Call_method_lateS hbase (by rw [hs]; rfl) hline ?_
  rw [hs]; exact h
end
def tRep1 (to : TE) (y z : Str) : TE := fun σ H Q => to σ H fun v H1 => ∃ x, v = .str x ∧ x.length + z.length ≤ 16777216 ∧ ∀ r, Was x y z r → Q (.str r) H1
section
variable {X : Cx} {o e f : Expr} {te tf : TE} {to : TE} {y z : Str} {j k l : Nat} {c0 c1 c2 apos pos p p' : Pos}
theorem pet_rep1 (ho : PE X o to) (hyz : (y == z) = false := by decide)
    (hst : starEach [.Constant (.str y) j c0, .Constant (.str z) k c1, .Constant (.int 1) l c2] X.env = [(false, eval (.Constant (.str y) j c0) X.env), (false, eval (.Constant (.str z) k c1) X.env), (false, eval (.Constant (.int 1) l c2) X.env)] := by rfl)
    (hbase : attributeBase o "replace" X.env (eval o X.env) = eval o X.env := by rfl) (hline : (apos.endLine == pos.line) = true := by rfl) :
    PET X (.Call (.Attribute o "replace" apos) [.Constant (.str y) j c0, .Constant (.str z) k c1, .Constant (.int 1) l c2] [] pos) (tRep1 to y z) := by
  intro pins s σ H Q h0 I h
  refine Call_method3 hbase hst hline (wpAny_mono (PySem.wpAny_toks (ho.run pins s σ H _ I h)) (fun v s1 q => ?_) fun _ _ z => z.2)
  obtain ⟨hk, v', H1, I1, r1, x, e1, hb, q⟩ := q
  subst e1
  obtain ⟨tx, e2⟩ := r1
  subst e2
  refine ⟨"str", _, PySem.F.plainAttrs_str, PySem.F.slot_str_replace, PySem.F.type_str_replace, typeIs_str _ _ _, (fun _ e => nomatch e), Calls.callWith_builtin rfl (Calls.evalArgs_plain (Calls.spliced_cons ?_))⟩
  refine Calls.Constant_str (Calls.spliced_cons (Calls.Constant_str (Calls.spliced_cons (wpAny_Constant_int (Calls.spliced_nil ?_)))))
  have n0 : s1.toks ≠ 0 := by omega
  have hl : tooLong (x.length + (occurrences x y 0 x.length 1).length * z.length) = false := by
    have h1 := StrLaws.occ_length_le x y 0 x.length 1
    have h2 : (occurrences x y 0 x.length 1).length * z.length ≤ 1 * z.length := Nat.mul_le_mul_right _ h1
    unfold tooLong sizeLine
    exact decide_eq_false (by omega)
  refine call_gives PySem.F.slot_str_replace (typeIs_str _ _ _) PySem.F.entry_str_replace (PySem.F.args_str_replace_4 _ _ _ _)
    (gives_rep1 x y z tx s1.toks (s1.toks + 1) (s1.toks + 1 + 1) fun _ => ⟨by simp [n0], by simp, hyz, hl⟩) ?_
  cases hc : ((occurrences x y 0 x.length 1).isEmpty || (y.length == 0 && z.length == 0))
  · simp only [Bool.false_eq_true, if_false]
    have he : (occurrences x y 0 x.length 1).isEmpty = false := by
      cases h : (occurrences x y 0 x.length 1).isEmpty with
      | false => rfl
      | true => rw [h] at hc; cases hc
    have wg := was_glued (z := z) he
    have ll := was_len wg
    refine ⟨?_, .str _, H1, (I1.tok _), ⟨_, rfl⟩, q _ wg⟩
    rw [sizeLine_eq]
    omega
  · simp only [if_true]
    exact ⟨.str x, H1, I1.tok _, ⟨_, rfl⟩, q _ (.inl rfl)⟩
/-- if a op n: .., behind which a token is out -/
theorem ps_ifT {op : CmpOp} {r : R2} {a : Expr} {ta : TE} {i : Int} {A B : List Stmt} {t u : TS} (ho : OpR X (compareOp op) r) (ha : PE X a ta) (hA : PSsT X A t) (hB : PSsT X B u) (hm : behindInMarks op (.Constant (.int i) j p) = false) :
    PS X (.If (.Compare a [op] [.Constant (.int i) j p] p') A B pos) (tIfS (tTest (tOp r ta (tC (.int i)))) t u) := by
  refine ⟨fun pins s σ H D I h => ?_⟩
  refine wpAny_If (wpAny_isTrue_Compare1 (thn (ha.run pins s σ H _ I h) fun v s1 ⟨x, H1, I1, r1, q1⟩ => wpAny_Constant_int ?_) hm)
  refine wpAny_mono (PySem.wpAny_toks (ho pins { s1 with toks := s1.toks + 1 } σ H1 x (.int i) v (.int i s1.toks) _ (I1.tok _) r1 ⟨_, rfl⟩ q1)) (fun c s3 q => ?_) fun _ _ z => z.2
  obtain ⟨hk, z, H3, I3, r3, k, e, q3⟩ := q
  subst e
  cases r3
  have h1 : 1 ≤ s3.toks := Nat.le_trans (Nat.le_add_left 1 s1.toks) hk
  refine wpAny_truthy_bool ?_
  cases k with
  | true => exact hA pins s3 σ H3 D h1 I3 q3
  | false => exact hB pins s3 σ H3 D h1 I3 q3
end
end L2.Rep1
set_option Elab.async false
set_option linter.all false
set_option maxRecDepth 100000
set_option maxHeartbeats 4000000
/-! _law_bent. -/
namespace L2.LawH
open PySem PySem.Spec PyProof.Rows L2.TxtSet TL L2.NSet PySem.W L2.Rep1
abbrev sLBt : Stmt := top 37
/-- what a text may become -/
structure Near (z r : Str) : Prop where
  len : r.length ≤ 2 * z.length + 1
  cod : ∀ c ∈ tl r, c < 0x110000
  spc : (tl r).count 32 ≤ (tl z).count 32 + 1
def spBt : Sp := fun vs H Q _ => ∃ (a r : Addr) (m : Nat) (z : Str), vs = [.ref a, .str z] ∧ DrwAt a r (m + 3) H ∧ z.length ≤ 20000 ∧ (∀ c ∈ tl z, c < 0x110000) ∧ ∀ (y : Str) (H' : Hp), Near z y → DrwAt a r m H' → Kp a r H H' → Q (.str y) H'
/-! ### words -/
theorem split_sp (z : Str) : (Txt.split z spS).map tl = spl [32] 0 [] (tl z) := by
  have e := split_spl z spS (by rw [tl_sp]; simp) (kind_ok (by decide +kernel))
  rwa [tl_sp] at e
theorem join_sp (ws : List Str) : tl (Txt.join spS ws) = joinL [32] (ws.map tl) := by
  rw [join_eq, tl_join, tl_sp]
theorem joinL_len (X : List (List Nat)) : (joinL [32] X).length = (X.map (·.length)).sum + (X.length - 1) := by
  induction X with
  | nil => rfl
  | cons p r ih =>
    cases r with
    | nil =>
      show p.length = _
      simp
    | cons q r =>
      rw [joinL_cons _ _ (by simp), List.length_append, List.length_append, ih]
      have m1 : ((p :: q :: r).map (·.length)).sum = p.length + ((q :: r).map (·.length)).sum := by simp
      have l1 : (p :: q :: r).length = r.length + 2 := rfl
      have l2 : (q :: r).length = r.length + 1 := rfl
      have : ([32] : List Nat).length = 1 := rfl
      omega
theorem joinL_cnt (X : List (List Nat)) : (joinL [32] X).count 32 = (X.map (·.count 32)).sum + (X.length - 1) := by
  induction X with
  | nil => rfl
  | cons p r ih =>
    cases r with
    | nil =>
      show p.count 32 = _
      simp
    | cons q r =>
      rw [joinL_cons _ _ (by simp), List.count_append, List.count_append, ih]
      have m1 : ((p :: q :: r).map (·.count 32)).sum = p.count 32 + ((q :: r).map (·.count 32)).sum := by simp
      have l1 : (p :: q :: r).length = r.length + 2 := rfl
      have l2 : (q :: r).length = r.length + 1 := rfl
      have : List.count 32 ([32] : List Nat) = 1 := by decide
      omega
/-- words again, some of them twice -/
theorem near_words {z : Str} {ws : List Str} (cz : ∀ c ∈ tl z, c < 0x110000) (hm : ∀ w ∈ ws, w ∈ Txt.split z spS)
    (hl : (ws.map (·.length)).sum ≤ 2 * (((Txt.split z spS).map (·.length)).sum)) (hn : ws.length ≤ (Txt.split z spS).length + 1) (hne : ws ≠ [])
    (hc : (ws.map fun w => (tl w).count 32).sum = 0) : Near z (Txt.join spS ws) := by
  have js := join_spl 32 (tl z) []
  rw [List.nil_append, ← split_sp] at js
  have lz := joinL_len ((Txt.split z spS).map tl)
  rw [js, List.map_map, List.length_map] at lz
  have lr := joinL_len (ws.map tl)
  rw [← join_sp, List.map_map, List.length_map] at lr
  have e1 : (ws.map ((fun x : List Nat => x.length) ∘ tl)) = ws.map (·.length) := List.map_congr_left fun w _ => (len_tl w).symm
  have e2 : ((Txt.split z spS).map ((fun x : List Nat => x.length) ∘ tl)) = (Txt.split z spS).map (·.length) := List.map_congr_left fun w _ => (len_tl w).symm
  rw [e1] at lr
  rw [e2] at lz
  have sp : (Txt.split z spS).length ≥ 1 := by
    have := congrArg List.length (split_sp z)
    rw [List.length_map, spl_count] at this
    omega
  have pos : 1 ≤ ws.length := List.length_pos_iff.mpr hne
  refine ⟨?_, ?_, ?_⟩
  · rw [len_tl, len_tl z, lr, lz]
    omega
  · intro c hc2
    rw [join_sp] at hc2
    refine joinL_signs (q := fun c => c < 0x110000) (by decide) _ (fun p hp c hc3 => ?_) c hc2
    obtain ⟨w, hw, rfl⟩ := List.mem_map.mp hp
    have m : tl w ∈ (Txt.split z spS).map tl := List.mem_map_of_mem (hm w hw)
    have := part_mem 32 _ _ c m hc3
    rw [js] at this
    exact cz c this
  · have cr := joinL_cnt (ws.map tl)
    rw [← join_sp, List.map_map, List.length_map] at cr
    have e3 : (ws.map ((fun x : List Nat => x.count 32) ∘ tl)) = ws.map fun w => (tl w).count 32 := rfl
    rw [e3, hc] at cr
    have cz2 : (Txt.split z spS).length = (tl z).count 32 + 1 := by
      have := congrArg List.length (split_sp z)
      rwa [List.length_map, spl_count] at this
    omega
theorem spl_nosep : ∀ (l acc : List Nat), 32 ∉ acc → ∀ p ∈ spl [32] 0 acc l, 32 ∉ p
  | [], acc, h, p, m => by
    rw [spl_nil] at m
    rw [List.mem_singleton.mp m]
    exact h
  | c :: r, acc, h, p, m => by
    by_cases hc : c = 32
    · rw [spl_hit (by rw [pre_one, decide_eq_true hc])] at m
      rcases List.mem_cons.mp m with rfl | m
      · exact h
      · exact spl_nosep r [] (by simp) p m
    · rw [spl_miss (by rw [pre_one, decide_eq_false hc])] at m
      refine spl_nosep r (acc ++ [c]) (fun q => ?_) p m
      rcases List.mem_append.mp q with q | q
      · exact h q
      · exact hc (List.mem_singleton.mp q).symm
theorem word_nosp {z w : Str} (h : w ∈ Txt.split z spS) : (tl w).count 32 = 0 := by
  refine List.count_eq_zero.mpr ?_
  have m : tl w ∈ (Txt.split z spS).map tl := List.mem_map_of_mem h
  rw [split_sp] at m
  exact spl_nosep _ _ (by simp) _ m
theorem sum_zero : ∀ {ws : List Str}, (∀ w ∈ ws, (tl w).count 32 = 0) → (ws.map fun w => (tl w).count 32).sum = 0
  | [], _ => rfl
  | w :: ws, h => by
    rw [List.map_cons, List.sum_cons, h w List.mem_cons_self, sum_zero fun x m => h x (List.mem_cons_of_mem _ m)]
theorem sum_app (f : Str → Nat) (a b : List Str) : ((a ++ b).map f).sum = (a.map f).sum + (b.map f).sum := by
  rw [List.map_append, List.sum_append]
theorem sum_sub (f : Str → Nat) (W : List Str) (k : Nat) : ((W.take k).map f).sum + ((W.drop k).map f).sum = (W.map f).sum := by
  rw [← sum_app, List.take_append_drop]
theorem near_swap {z : Str} (cz : ∀ c ∈ tl z, c < 0x110000) {p : Nat} (hp : p < (Txt.split z spS).length) :
    Near z (Txt.join spS ((Txt.split z spS).take p ++ (((Txt.split z spS).drop p).take 2).reverse ++ (Txt.split z spS).drop (p + 2))) := by
  generalize hW : Txt.split z spS = W at hp
  have mem : ∀ w ∈ W.take p ++ ((W.drop p).take 2).reverse ++ W.drop (p + 2), w ∈ W := fun w m => by
    rcases List.mem_append.mp m with m | m
    · rcases List.mem_append.mp m with m | m
      · exact List.mem_of_mem_take m
      · exact List.mem_of_mem_drop (List.mem_of_mem_take (List.mem_reverse.mp m))
    · exact List.mem_of_mem_drop m
  have nosp : ∀ w ∈ W.take p ++ ((W.drop p).take 2).reverse ++ W.drop (p + 2), (tl w).count 32 = 0 := fun w m => word_nosp (by rw [hW]; exact mem w m)
  refine near_words cz (fun w m => by rw [hW]; exact mem w m) ?_ ?_ ?_ (sum_zero nosp)
  · rw [hW, sum_app, sum_app, List.map_reverse, List.sum_reverse]
    have h1 := sum_sub (·.length) W p
    have h2 := sum_sub (·.length) (W.drop p) 2
    rw [List.drop_drop] at h2
    omega
  · rw [hW]
    simp only [List.length_append, List.length_take, List.length_reverse, List.length_drop]
    omega
  · intro e
    have := congrArg List.length e
    simp only [List.length_append, List.length_take, List.length_reverse, List.length_drop, List.length_nil] at this
    omega
theorem near_twice {z : Str} (cz : ∀ c ∈ tl z, c < 0x110000) {p : Nat} (hp : p < (Txt.split z spS).length) :
    Near z (Txt.join spS ((Txt.split z spS).take (p + 1) ++ (Txt.split z spS).drop p)) := by
  generalize hW : Txt.split z spS = W at hp
  have mem : ∀ w ∈ W.take (p + 1) ++ W.drop p, w ∈ W := fun w m => by
    rcases List.mem_append.mp m with m | m
    · exact List.mem_of_mem_take m
    · exact List.mem_of_mem_drop m
  have nosp : ∀ w ∈ W.take (p + 1) ++ W.drop p, (tl w).count 32 = 0 := fun w m => word_nosp (by rw [hW]; exact mem w m)
  refine near_words cz (fun w m => by rw [hW]; exact mem w m) ?_ ?_ ?_ (sum_zero nosp)
  · rw [hW, sum_app]
    have h1 := sum_sub (·.length) W (p + 1)
    have h2 := sum_sub (·.length) W p
    omega
  · rw [hW]
    simp only [List.length_append, List.length_take, List.length_drop]
    omega
  · intro e
    have := congrArg List.length e
    simp only [List.length_append, List.length_take, List.length_drop, List.length_nil] at this
    omega
theorem near_was {z r : Str} (cz : ∀ c ∈ tl z, c < 0x110000) (h : Was z (Str.ofString "} ") (Str.ofString "}") r) : Near z r := by
  rcases h with rfl | ⟨i, hi, e⟩
  · exact ⟨by omega, cz, Nat.le_succ _⟩
  · have ey : (Str.ofString "} ").length = 2 := by decide +kernel
    have ez : tl (Str.ofString "}") = [125] := by decide +kernel
    rw [ey] at hi e
    rw [ez] at e
    refine ⟨?_, fun c hc => ?_, ?_⟩
    · rw [len_tl, e, len_tl z]
      simp only [List.length_append, List.length_take, List.length_drop, List.length_cons, List.length_nil]
      omega
    · rw [e] at hc
      rcases List.mem_append.mp hc with hc | hc
      · exact cz c (List.mem_of_mem_take hc)
      · rcases List.mem_append.mp hc with hc | hc
        · rw [List.mem_singleton.mp hc]
          decide
        · exact cz c (List.mem_of_mem_drop hc)
    · rw [e, List.count_append, List.count_append]
      have h1 := (List.take_append_drop i (tl z))
      have h2 : (tl z).count 32 = ((tl z).take i).count 32 + ((tl z).drop i).count 32 := by rw [← List.count_append, h1]
      have h3 : ((tl z).drop (i + 2)).count 32 ≤ ((tl z).drop i).count 32 := by
        rw [← List.drop_drop]
        exact (List.drop_sublist _ _).count_le 32
      have h4 : List.count 32 [125] = 0 := by decide
      omega
theorem near_cut {z m r : Str} (cz : ∀ c ∈ tl z, c < 0x110000) (cm : ∀ c ∈ tl m, c < 0x110000) (lm : (tl m).length ≤ 1) (i j : Nat) (hij : i ≤ j) (e : tl r = (tl z).take i ++ (tl m ++ (tl z).drop j)) : Near z r := by
  refine ⟨?_, fun c hc => ?_, ?_⟩
  · rw [len_tl, e, len_tl z]
    simp only [List.length_append, List.length_take, List.length_drop]
    omega
  · rw [e] at hc
    rcases List.mem_append.mp hc with hc | hc
    · exact cz c (List.mem_of_mem_take hc)
    · rcases List.mem_append.mp hc with hc | hc
      · exact cm c hc
      · exact cz c (List.mem_of_mem_drop hc)
  · rw [e, List.count_append, List.count_append]
    have h2 : (tl z).count 32 = ((tl z).take i).count 32 + ((tl z).drop i).count 32 := by rw [← List.count_append, List.take_append_drop]
    have h3 : ((tl z).drop j).count 32 ≤ ((tl z).drop i).count 32 := by
      rw [show j = i + (j - i) by omega, ← List.drop_drop]
      exact (List.drop_sublist _ _).count_le 32
    have h4 := List.count_le_length (a := 32) (l := tl m)
    omega
end L2.LawH
set_option Elab.async false
set_option linter.all false
set_option maxRecDepth 100000
set_option maxHeartbeats 4000000
/-! _law_bent. -/
namespace L2.LawH
open PySem PySem.Spec PyProof.Rows L2.TxtSet TL L2.NSet PySem.W L2.Rep1
theorem cutV_to (xs : List V) (k : Nat) : cutV xs none (some (k : Int)) = xs.take k := by
  unfold cutV
  rw [HT.sIx_nat, HT.sIx_none, List.drop_zero, Nat.sub_zero]
  rcases Nat.le_total k xs.length with h | h
  · rw [Nat.min_eq_left h]
  · rw [Nat.min_eq_right h, List.take_of_length_le (Nat.le_refl _), List.take_of_length_le h]
theorem cutV_from (xs : List V) (k : Nat) : cutV xs (some (k : Int)) none = xs.drop k := by
  unfold cutV
  rw [HT.sIx_nat, HT.sIx_none]
  rcases Nat.le_total k xs.length with h | h
  · rw [Nat.min_eq_left h]
    refine List.take_of_length_le ?_
    rw [List.length_drop]
    omega
  · rw [Nat.min_eq_right h, List.drop_of_length_le h, List.drop_of_length_le (Nat.le_refl _), List.take_nil]
theorem cutV_pn (xs : List V) (a n : Nat) (b : Int) (h : b = (a : Int) + n) : cutV xs (some (a : Int)) (some b) = (xs.drop a).take n := by
  obtain rfl : b = ((a + n : Nat) : Int) := by omega
  unfold cutV
  rw [HT.sIx_nat, HT.sIx_nat]
  rcases Nat.le_total a xs.length with h1 | h1
  · rw [Nat.min_eq_left h1]
    rcases Nat.le_total (a + n) xs.length with h2 | h2
    · rw [Nat.min_eq_left h2, Nat.add_sub_cancel_left]
    · rw [Nat.min_eq_right h2, List.take_of_length_le (l := xs.drop a) (i := n) (by rw [List.length_drop]; omega), List.take_of_length_le (by rw [List.length_drop]; omega)]
  · rw [Nat.min_eq_right h1, List.drop_of_length_le (Nat.le_refl _), List.drop_of_length_le h1, List.take_nil, List.take_nil]
theorem op_mul_str {X : Cx} : OpR X (binaryOp .Mult) (fun x y H Q => ∃ i n, x = .str i ∧ y = .int n ∧ MulOk i n ∧ Q (.str (Txt.mul i n)) H) := by
  intro pins s σ H x y v u Q I rx ry h
  obtain ⟨i, n, rfl, rfl, hz, q⟩ := h
  obtain ⟨t, rfl⟩ := rx
  obtain ⟨t', rfl⟩ := ry
  exact SB.mul hz fun t' k => ⟨.str (Txt.mul i n), H, I.tok _, ⟨_, rfl⟩, q⟩
theorem sum_join (ws : List Str) : (ws.map (·.length)).sum + ws.length * 1 ≤ (Txt.join spS ws).length + 1 := by
  have lr := joinL_len (ws.map tl)
  rw [← join_sp, List.map_map, List.length_map] at lr
  have e1 : (ws.map ((fun x : List Nat => x.length) ∘ tl)) = ws.map (·.length) := List.map_congr_left fun w _ => (len_tl w).symm
  rw [e1] at lr
  rw [len_tl]
  omega
abbrev bsS : Str := Str.ofString " (){},?&|opta0_"
theorem bs_len : (tl bsS).length = 15 := by decide +kernel
theorem bs_all : (tl bsS).all (fun c => decide (c < 128)) = true := by decide +kernel
theorem bs_at {r : Int} (h0 : 0 ≤ r) (h1 : r < 15) : ∃ c, atI (tl bsS) r = some c ∧ c < 0x110000 := by
  obtain ⟨c, hc, p⟩ := pick bs_all bs_len h0 h1
  exact ⟨c, hc, Nat.lt_trans (of_decide_eq_true p) (by decide)⟩
section
variable {P : Program} {w : World} {K : PySem.W.Frag} {mg : Str → Option Value} {base : Heap}
abbrev nLBt : List Str := ["_law_pool_here", "_law_text_here", "_law_at", "_law_what", "_law_words_here", "_law_place", "_law_sign"]
abbrev pLBt : List Str := ["_law_pool_here", "_law_text_here"]
theorem scLBt : FnScope nLBt pLBt (defScope sLBt) := ⟨rfl, rfl, rfl, by decide +kernel, rfl, by decide +kernel, by decide +kernel⟩
theorem ok_bt {f fD : Addr} {fd fdD : FuncData} (F : Fun K "_law_bent" "_law_bent" sLBt f fd)
    (GD : FnOk P w K mg base CX0 1 fD fdD ["_law_pool_here", "_law_limit"] spDraw3) (kD : PySem.W.keepIn K (.ref fD) = true) (bD : Binds K fdD ["_law_pool_here", "_law_limit"] []) (mD : mg "_law_draw" = some (.ref fD))
    (ml : mg "len" = none) (mi : mg "int" = none) : FnOk P w K mg base CX0 2 f fd pLBt spBt := by
  refine F.ok scLBt (fun vs H Q E h => ?_) (fun cdv A outer s H vs Q E hr h => ?_)
  · obtain ⟨a, r, m, z, rfl, _⟩ := h
    rfl
  · obtain ⟨a, r, m, z, rfl, hs, lz, cz, k⟩ := h
    have szl : z.length ≤ sizeLine := by rw [sizeLine_eq]; omega
    refine ⟨_, pss_cons (ps_set (i := 2) scLBt.nd rfl (Or.inl rfl) (pe_call GD hr (by rfl) mD kD bD .nil pass0 (pa_cons (pv 0) (pa_cons (pe_op op_add (pe_callB call_len_str (by rfl) ml (by decide +kernel) (pa_cons (pv 1) pa_nil)) pe_int) pa_nil))))
      (pss_cons (ps_set (i := 3) scLBt.nd rfl (Or.inl rfl) (pe_call GD hr (by rfl) mD kD bD .nil pass0 (pa_cons (pv 0) (pa_cons pe_int pa_nil))))
      (pss_cons (ps_ifT op_eq (pv 3) (CwR.psst_one (CwR.pst_ret (pet_rep1 (pv 1)))) CwR.psst_nil (nomark _))
      (pss_cons (ps_if (pt_cmpR op_eq (pv 3) pe_int (nomark _))
        (pss_cons (ps_set (i := 4) scLBt.nd rfl (Or.inl rfl) (pe_split (pv 1) pe_str))
        (pss_cons (ps_set (i := 5) scLBt.nd rfl (Or.inl rfl) (pe_call GD hr (by rfl) mD kD bD .nil pass0 (pa_cons (pv 0) (pa_cons (pe_callB call_len_seq (by rfl) ml (by decide +kernel) (pa_cons (pv 4) pa_nil)) pa_nil))))
        (pss_one (ps_ret (pe_join pe_str (pe_op op_cat (pe_op op_cat (pe_slice sl_list (pv 4) po_none (po_some (pv 5))) (pe_revL (pe_slice sl_list (pv 4) (po_some (pv 5)) (po_some (pe_op op_add (pv 5) pe_int))))) (pe_slice sl_list (pv 4) (po_some (pe_op op_add (pv 5) pe_int)) po_none))))))) pss_nil)
      (pss_cons (ps_if (pt_cmpR op_eq (pv 3) pe_int (nomark _))
        (pss_cons (ps_set (i := 4) scLBt.nd rfl (Or.inl rfl) (pe_split (pv 1) pe_str))
        (pss_cons (ps_set (i := 5) scLBt.nd rfl (Or.inl rfl) (pe_call GD hr (by rfl) mD kD bD .nil pass0 (pa_cons (pv 0) (pa_cons (pe_callB call_len_seq (by rfl) ml (by decide +kernel) (pa_cons (pv 4) pa_nil)) pa_nil))))
        (pss_one (ps_ret (pe_join pe_str (pe_op op_cat (pe_slice sl_list (pv 4) po_none (po_some (pe_op op_add (pv 5) pe_int))) (pe_slice sl_list (pv 4) (po_some (pv 5)) po_none))))))) pss_nil)
      (pss_cons (ps_set (i := 6) scLBt.nd rfl (Or.inl rfl) (pe_ix ix_str pe_str (pe_call GD hr (by rfl) mD kD bD .nil pass0 (pa_cons (pv 0) (pa_cons pe_int pa_nil))) (fun _ _ => rfl)))
      (pss_one (ps_ret (pe_op op_add_str (pe_op op_add_str (pe_slice sl_str (pv 1) po_none (po_some (pv 2))) (pe_op op_mul_str (pv 6) (pe_callTy call_int1 (by rfl) mi (by decide +kernel) (pa_cons (pe_cmpR op_lt (pv 3) pe_int (nomark _)) pa_nil))))
          (pe_slice sl_str (pv 1) (po_some (pe_op op_add (pv 2) (pe_callTy call_int1 (by rfl) mi (by decide +kernel) (pa_cons (pe_cmpR op_gt (pv 3) pe_int (nomark _)) pa_nil)))) po_none))))))))), ?_⟩
    have lenC : ∀ n : Nat, (Txt.split z spS).length = (tl z).count 32 + 1 := fun _ => by
      have := congrArg List.length (split_sp z)
      rwa [List.length_map, spl_count] at this
    have lW1 := lenC 0
    have cle := List.count_le_length (a := 32) (l := tl z)
    have llz := len_tl z
    refine ⟨_, rfl, _, rfl, z, rfl, szl, _, _, rfl, rfl, a, r, m + 2, _, rfl, hs, by omega, by omega, fun x H1 x0 x1 s1 k1 => ?_⟩
    obtain ⟨i, rfl⟩ : ∃ j : Nat, x = j := ⟨x.toNat, by omega⟩
    refine ⟨_, rfl, a, r, m + 1, 6, rfl, s1, by decide, by decide, fun y H2 y0 y1 s2 k2 => ?_⟩
    have k12 := k1.trans k2
    refine ⟨_, rfl, rfl, _, rfl, ?_⟩
    refine ite2 (fun _ => ⟨_, rfl, z, rfl, ?_, fun r' wr => k r' H2 (near_was cz wr) (s2.mono (by omega)) k12⟩) (fun _ => ?_)
    · rw [show (Str.ofString "}").length = 1 by decide +kernel]
      omega
    refine ⟨_, rfl, rfl, _, rfl, ?_⟩
    refine ite2 (fun _ => ?_) (fun _ => ?_)
    · refine ⟨_, rfl, ⟨_, rfl⟩, z, _, rfl, rfl, by decide +kernel, by rw [sizeLine_eq]; omega, fun l nl => ?_⟩
      rw [show Txt.split z (Str.ofString " ") = Txt.split z spS from rfl]
      generalize hW : Txt.split z spS = W at lW1
      have u3 : Same H2 (upd H2 l (.lst (W.map V.str))) := same_new nl
      have c3 : (upd H2 l (.lst (W.map V.str))) l = some (.lst (W.map V.str)) := upd_same
      generalize upd H2 l (.lst (W.map V.str)) = H3 at u3 c3 ⊢
      have zl := s2.ne nl
      refine ⟨_, rfl, _, rfl, l, _, rfl, .inl (SqL.of c3), a, r, m, _, rfl, s2.same u3, by rw [List.length_map]; omega, by rw [List.length_map]; omega, fun x3 H4 x30 x31 s4 k4 => ?_⟩
      rw [List.length_map] at x31
      obtain ⟨p, rfl⟩ : ∃ j : Nat, x3 = j := ⟨x3.toNat, by omega⟩
      have c4 := kp_at k4 c3 zl.1 zl.2
      have hp : p < (Txt.split z spS).length := by rw [hW]; omega
      have nr := near_swap cz hp
      rw [hW] at nr
      refine ⟨⟨_, rfl⟩, _, rfl, _, rfl, _, rfl, l, _, rfl, SqL.of c4, fun p1 np1 => ?_⟩
      rw [cutV_to, ← List.map_take]
      have u5 : Same H4 (upd H4 p1 (.lst ((W.take p).map V.str))) := same_new np1
      have c5 : (upd H4 p1 (.lst ((W.take p).map V.str))) p1 = some (.lst ((W.take p).map V.str)) := upd_same
      generalize upd H4 p1 (.lst ((W.take p).map V.str)) = H5 at u5 c5 ⊢
      refine ⟨_, rfl, _, rfl, _, rfl, _, rfl, _, _, rfl, rfl, _, rfl, l, _, rfl, SqL.of (u5 _ _ c4), fun p2 np2 => ?_⟩
      dsimp only
      rw [cutV_pn _ p 2 _ (by omega), ← List.map_drop, ← List.map_take]
      have u6 : Same H5 (upd H5 p2 (.lst (((W.drop p).take 2).map V.str))) := same_new np2
      have c6 : (upd H5 p2 (.lst (((W.drop p).take 2).map V.str))) p2 = some (.lst (((W.drop p).take 2).map V.str)) := upd_same
      generalize upd H5 p2 (.lst (((W.drop p).take 2).map V.str)) = H6 at u6 c6 ⊢
      refine ⟨p2, _, rfl, SqL.of c6, fun p3 np3 => ?_⟩
      rw [← List.map_reverse]
      have u7 : Same H6 (upd H6 p3 (.lst ((((W.drop p).take 2).reverse).map V.str))) := same_new np3
      have c7 : (upd H6 p3 (.lst ((((W.drop p).take 2).reverse).map V.str))) p3 = some (.lst ((((W.drop p).take 2).reverse).map V.str)) := upd_same
      generalize upd H6 p3 (.lst ((((W.drop p).take 2).reverse).map V.str)) = H7 at u7 c7 ⊢
      refine ⟨p1, p3, _, _, rfl, rfl, u7 _ _ (u6 _ _ c5), c7, ?_, fun p4 np4 => ?_⟩
      · simp only [List.length_map, List.length_take, List.length_reverse, List.length_drop]
        rw [sizeLine_eq]
        omega
      rw [← List.map_append]
      have u8 : Same H7 (upd H7 p4 (.lst ((W.take p ++ ((W.drop p).take 2).reverse).map V.str))) := same_new np4
      have c8 : (upd H7 p4 (.lst ((W.take p ++ ((W.drop p).take 2).reverse).map V.str))) p4 = some (.lst ((W.take p ++ ((W.drop p).take 2).reverse).map V.str)) := upd_same
      generalize upd H7 p4 (.lst ((W.take p ++ ((W.drop p).take 2).reverse).map V.str)) = H8 at u8 c8 ⊢
      refine ⟨_, rfl, _, rfl, _, _, rfl, rfl, _, rfl, l, _, rfl, SqL.of (u8 _ _ (u7 _ _ (u6 _ _ (u5 _ _ c4)))), fun p5 np5 => ?_⟩
      dsimp only
      rw [show ((p : Int) + 2) = ((p + 2 : Nat) : Int) by omega, cutV_from, ← List.map_drop]
      have u9 : Same H8 (upd H8 p5 (.lst ((W.drop (p + 2)).map V.str))) := same_new np5
      have c9 : (upd H8 p5 (.lst ((W.drop (p + 2)).map V.str))) p5 = some (.lst ((W.drop (p + 2)).map V.str)) := upd_same
      generalize upd H8 p5 (.lst ((W.drop (p + 2)).map V.str)) = H9 at u9 c9 ⊢
      refine ⟨p4, p5, _, _, rfl, rfl, u9 _ _ c8, c9, ?_, fun p6 np6 => ?_⟩
      · simp only [List.length_map, List.length_append, List.length_take, List.length_reverse, List.length_drop]
        rw [sizeLine_eq]
        omega
      rw [← List.map_append]
      have u10 : Same H9 (upd H9 p6 (.lst ((W.take p ++ ((W.drop p).take 2).reverse ++ W.drop (p + 2)).map V.str))) := same_new np6
      have c10 : (upd H9 p6 (.lst ((W.take p ++ ((W.drop p).take 2).reverse ++ W.drop (p + 2)).map V.str))) p6 = some (.lst ((W.take p ++ ((W.drop p).take 2).reverse ++ W.drop (p + 2)).map V.str)) := upd_same
      generalize upd H9 p6 (.lst ((W.take p ++ ((W.drop p).take 2).reverse ++ W.drop (p + 2)).map V.str)) = H10 at u10 c10 ⊢
      have sj := sum_join (W.take p ++ ((W.drop p).take 2).reverse ++ W.drop (p + 2))
      have nl2 := nr.len
      refine ⟨_, p6, _, rfl, rfl, .inl (SqL.of c10), ?_, ?_⟩
      · rw [show (Str.ofString " ").length = 1 by decide +kernel]
        omega
      have sall := ((((((u5.trans u6).trans u7).trans u8).trans u9).trans u10))
      exact k _ H10 nr (s4.same sall) (((k12.trans (Kp.of u3)).trans k4).trans (Kp.of sall))
    refine ⟨_, rfl, rfl, _, rfl, ?_⟩
    refine ite2 (fun _ => ?_) (fun _ => ?_)
    · refine ⟨_, rfl, ⟨_, rfl⟩, z, _, rfl, rfl, by decide +kernel, by rw [sizeLine_eq]; omega, fun l nl => ?_⟩
      rw [show Txt.split z (Str.ofString " ") = Txt.split z spS from rfl]
      generalize hW : Txt.split z spS = W at lW1
      have u3 : Same H2 (upd H2 l (.lst (W.map V.str))) := same_new nl
      have c3 : (upd H2 l (.lst (W.map V.str))) l = some (.lst (W.map V.str)) := upd_same
      generalize upd H2 l (.lst (W.map V.str)) = H3 at u3 c3 ⊢
      have zl := s2.ne nl
      refine ⟨_, rfl, _, rfl, l, _, rfl, .inl (SqL.of c3), a, r, m, _, rfl, s2.same u3, by rw [List.length_map]; omega, by rw [List.length_map]; omega, fun x3 H4 x30 x31 s4 k4 => ?_⟩
      rw [List.length_map] at x31
      obtain ⟨p, rfl⟩ : ∃ j : Nat, x3 = j := ⟨x3.toNat, by omega⟩
      have c4 := kp_at k4 c3 zl.1 zl.2
      have hp : p < (Txt.split z spS).length := by rw [hW]; omega
      have nr := near_twice cz hp
      rw [hW] at nr
      refine ⟨⟨_, rfl⟩, _, rfl, _, rfl, _, _, rfl, rfl, _, rfl, l, _, rfl, SqL.of c4, fun p1 np1 => ?_⟩
      dsimp only
      rw [show ((p : Int) + 1) = ((p + 1 : Nat) : Int) by omega, cutV_to, ← List.map_take]
      have u5 : Same H4 (upd H4 p1 (.lst ((W.take (p + 1)).map V.str))) := same_new np1
      have c5 : (upd H4 p1 (.lst ((W.take (p + 1)).map V.str))) p1 = some (.lst ((W.take (p + 1)).map V.str)) := upd_same
      generalize upd H4 p1 (.lst ((W.take (p + 1)).map V.str)) = H5 at u5 c5 ⊢
      refine ⟨_, rfl, _, rfl, _, rfl, l, _, rfl, SqL.of (u5 _ _ c4), fun p2 np2 => ?_⟩
      rw [cutV_from, ← List.map_drop]
      have u6 : Same H5 (upd H5 p2 (.lst ((W.drop p).map V.str))) := same_new np2
      have c6 : (upd H5 p2 (.lst ((W.drop p).map V.str))) p2 = some (.lst ((W.drop p).map V.str)) := upd_same
      generalize upd H5 p2 (.lst ((W.drop p).map V.str)) = H6 at u6 c6 ⊢
      refine ⟨p1, p2, _, _, rfl, rfl, u6 _ _ c5, c6, ?_, fun p6 np6 => ?_⟩
      · simp only [List.length_map, List.length_take, List.length_drop]
        rw [sizeLine_eq]
        omega
      rw [← List.map_append]
      have u10 : Same H6 (upd H6 p6 (.lst ((W.take (p + 1) ++ W.drop p).map V.str))) := same_new np6
      have c10 : (upd H6 p6 (.lst ((W.take (p + 1) ++ W.drop p).map V.str))) p6 = some (.lst ((W.take (p + 1) ++ W.drop p).map V.str)) := upd_same
      generalize upd H6 p6 (.lst ((W.take (p + 1) ++ W.drop p).map V.str)) = H10 at u10 c10 ⊢
      have sj := sum_join (W.take (p + 1) ++ W.drop p)
      have nl2 := nr.len
      refine ⟨_, p6, _, rfl, rfl, .inl (SqL.of c10), ?_, ?_⟩
      · rw [show (Str.ofString " ").length = 1 by decide +kernel]
        omega
      have sall := (u5.trans u6).trans u10
      exact k _ H10 nr (s4.same sall) (((k12.trans (Kp.of u3)).trans k4).trans (Kp.of sall))
    refine ⟨_, rfl, a, r, m, 15, rfl, s2, by decide, by decide, fun x3 H3 x30 x31 s3 k3 => ?_⟩
    obtain ⟨c, ec, hc⟩ := bs_at x30 x31
    refine ⟨_, _, _, rfl, rfl, by decide +kernel, ec, ?_⟩
    have ei : tl (cutS z none (some (i : Int))) = (tl z).take i := cut_to z i
    have li : (cutS z none (some (i : Int))).length ≤ z.length := cutS_length z none (some (i : Int))
    have l1 : (⟨#[c]⟩ : Str).length = 1 := rfl
    refine ⟨_, rfl, _, rfl, _, rfl, z, rfl, szl, _, rfl, _, rfl, _, _, rfl, rfl, .inr ⟨_, rfl, ?_⟩⟩
    have fin : ∀ (b : Bool) (M : Str) (j : Nat), (tl M).length ≤ 1 → (∀ c ∈ tl M, c < 0x110000) → i ≤ j → Near z (cutS z none (some (i : Int)) ++ M ++ cutS z (some (j : Int)) none) := fun b M j lm cm hij =>
      near_cut cz cm lm i j hij (by rw [tl_append, tl_append, ei, cut_from, List.append_assoc])
    have cM : ∀ c' ∈ tl (⟨#[c]⟩ : Str), c' < 0x110000 := fun c' m => by
      have : c' = c := by simpa [tl] using m
      rw [this]
      exact hc
    have last : ∀ (M : Str) (j : Nat), (tl M).length ≤ 1 → (∀ c ∈ tl M, c < 0x110000) → i ≤ j → Q (.str (cutS z none (some (i : Int)) ++ M ++ cutS z (some (j : Int)) none)) H3 := fun M j lm cm hij =>
      k _ H3 (fin true M j lm cm hij) s3 (k12.trans k3)
    have lj : ∀ j : Nat, (cutS z (some (j : Int)) none).length ≤ z.length := fun j => cutS_length z (some (j : Int)) none
    have m1 : Txt.mul (⟨#[c]⟩ : Str) 1 = ⟨#[c]⟩ := by
      unfold Txt.mul
      rw [if_neg (by decide), if_pos (by simp)]
    have m0 : Txt.mul (⟨#[c]⟩ : Str) 0 = Str.empty := by
      unfold Txt.mul
      rw [if_pos (by decide)]
    have e0 : Str.empty.length = 0 := rfl
    have ok1 : MulOk (⟨#[c]⟩ : Str) 1 := ⟨by decide, fun _ h => (by simp at h), fun _ h => (by simp at h)⟩
    have ok0 : MulOk (⟨#[c]⟩ : Str) 0 := ⟨by decide, fun h => absurd (by decide) h, fun h => absurd (by decide) h⟩
    cases hb : decide (y < 5) with
    | true =>
      rw [if_pos rfl]
      refine ⟨_, _, rfl, rfl, ok1, _, _, rfl, rfl, ?_, _, rfl, _, rfl, _, rfl, _, _, rfl, rfl, .inr ⟨_, rfl, _, _, rfl, rfl, _, rfl, z, rfl, szl, ?_⟩⟩
      · rw [m1, l1, sizeLine_eq]
        omega
      dsimp only
      rw [m1]
      cases hb3 : decide (3 < y) with
      | true =>
        rw [if_pos rfl, show ((i : Int) + 1) = ((i + 1 : Nat) : Int) by omega]
        refine ⟨_, _, rfl, rfl, ?_, last ⟨#[c]⟩ (i + 1) (Nat.le_refl _) cM (Nat.le_succ _)⟩
        have := lj (i + 1)
        rw [len_app, l1, sizeLine_eq]
        omega
      | false =>
        rw [if_neg Bool.false_ne_true, show ((i : Int) + 0) = ((i : Nat) : Int) by omega]
        refine ⟨_, _, rfl, rfl, ?_, last ⟨#[c]⟩ i (Nat.le_refl _) cM (Nat.le_refl _)⟩
        have := lj i
        rw [len_app, l1, sizeLine_eq]
        omega
    | false =>
      rw [if_neg Bool.false_ne_true]
      refine ⟨_, _, rfl, rfl, ok0, _, _, rfl, rfl, ?_, _, rfl, _, rfl, _, rfl, _, _, rfl, rfl, .inr ⟨_, rfl, _, _, rfl, rfl, _, rfl, z, rfl, szl, ?_⟩⟩
      · rw [m0, e0, sizeLine_eq]
        omega
      dsimp only
      rw [m0]
      cases hb3 : decide (3 < y) with
      | true =>
        rw [if_pos rfl, show ((i : Int) + 1) = ((i + 1 : Nat) : Int) by omega]
        refine ⟨_, _, rfl, rfl, ?_, last Str.empty (i + 1) (Nat.zero_le _) (fun _ m => (by cases m)) (Nat.le_succ _)⟩
        have := lj (i + 1)
        rw [len_app, e0, sizeLine_eq]
        omega
      | false =>
        rw [if_neg Bool.false_ne_true, show ((i : Int) + 0) = ((i : Nat) : Int) by omega]
        refine ⟨_, _, rfl, rfl, ?_, last Str.empty i (Nat.zero_le _) (fun _ m => (by cases m)) (Nat.le_refl _)⟩
        have := lj i
        rw [len_app, e0, sizeLine_eq]
        omega
end
end L2.LawH
set_option Elab.async false
set_option linter.all false
set_option maxRecDepth 100000
set_option maxHeartbeats 4000000
/-! Deep texts. -/
namespace L2.LawH
open PySem PySem.Spec PyProof.Rows TL
theorem foldl_app : ∀ (L : List (Array Nat)) (acc : Array Nat), (L.foldl (· ++ ·) acc).toList = acc.toList ++ (L.map (·.toList)).flatten
  | [], acc => by simp
  | x :: L, acc => by
    rw [List.foldl_cons, foldl_app L (acc ++ x), List.map_cons, List.flatten_cons, Array.toList_append, List.append_assoc]
theorem tl_mul (x : Str) (n : Nat) : tl (Txt.mul x (n : Int)) = (List.replicate n (tl x)).flatten := by
  unfold Txt.mul
  by_cases h : (n : Int) < 1
  · rw [if_pos h]
    have : n = 0 := by omega
    subst this
    rfl
  · rw [if_neg h]
    by_cases h2 : ((n : Int) == 1 || x.length == 0) = true
    · rw [if_pos h2]
      rw [Bool.or_eq_true] at h2
      rcases h2 with h2 | h2
      · have : n = 1 := by
          have := eq_of_beq h2
          omega
        subst this
        simp
      · have : x.length = 0 := eq_of_beq h2
        rw [len_tl] at this
        have e : tl x = [] := List.length_eq_zero_iff.mp this
        rw [e]
        simp
    · rw [if_neg h2]
      show ((List.replicate ((n : Int).toNat) x.cps).foldl (· ++ ·) #[]).toList = _
      rw [foldl_app, Int.toNat_natCast, List.map_replicate]
      simp [tl]
open Builtin Builtin.Str in
theorem mul_ok {x : Str} {n : Nat} (h : x.length * n ≤ 10000) (hn : n ≤ 100) : MulOk x (n : Int) := by
  refine ⟨?_, fun h1 h2 => ?_, fun h1 h2 => ?_⟩
  · rw [Bool.or_eq_false_iff]
    exact ⟨decide_eq_false (by omega), decide_eq_false (by omega)⟩
  · have n1 : (1 : Int) ≤ n := by omega
    intro h3
    have h4 : ((x.length : Int)) ≤ (2 ^ 63 - 1) / (n : Int) := by
      refine Int.le_ediv_of_mul_le (by omega) ?_
      have e : ((x.length * n : Nat) : Int) ≤ 10000 := by omega
      rw [Int.natCast_mul] at e
      omega
    omega
  · unfold tooLong
    refine decide_eq_false ?_
    rw [Int.toNat_natCast, sizeLine_eq]
    omega
theorem mul_len (x : Str) (n : Nat) : (Txt.mul x (n : Int)).length = n * x.length := by
  rw [len_tl, tl_mul, len_tl]
  simp
def lefts (s : Str) (cs : List Fc) : Nat → Fm
  | 0 => .lot cs
  | n + 1 => .node s (lefts s cs n) (.lot cs)
def rights (s : Str) (cs : List Fc) : Nat → Fm
  | 0 => .lot cs
  | n + 1 => .node s (.lot cs) (rights s cs n)
theorem lefts_ok {s : Str} {cs : List Fc} (hs : SgnOk s) (h : (Fm.lot cs).Ok) : ∀ n, (lefts s cs n).Ok ∧ (lefts s cs n).dep = n
  | 0 => ⟨h, rfl⟩
  | n + 1 => by
    obtain ⟨a, b⟩ := lefts_ok hs h n
    refine ⟨⟨hs, a, h⟩, ?_⟩
    show max (lefts s cs n).dep (Fm.lot cs).dep + 1 = n + 1
    rw [b]
    have : (Fm.lot cs).dep = 0 := rfl
    omega
theorem rights_ok {s : Str} {cs : List Fc} (hs : SgnOk s) (h : (Fm.lot cs).Ok) : ∀ n, (rights s cs n).Ok ∧ (rights s cs n).dep = n
  | 0 => ⟨h, rfl⟩
  | n + 1 => by
    obtain ⟨a, b⟩ := rights_ok hs h n
    refine ⟨⟨hs, h, a⟩, ?_⟩
    show max (Fm.lot cs).dep (rights s cs n).dep + 1 = n + 1
    rw [b]
    have : (Fm.lot cs).dep = 0 := rfl
    omega
theorem rep_succ {α : Type} (B : List α) (n : Nat) : (List.replicate (n + 1) B).flatten = (List.replicate n B).flatten ++ B := by
  rw [List.replicate_succ']
  simp
theorem lefts_tl (s : Str) (cs : List Fc) : ∀ n, ftl (lefts s cs n) = List.replicate n 40 ++ (lotl cs ++ (List.replicate n (32 :: (tl s ++ [32]) ++ lotl cs ++ [41])).flatten)
  | 0 => by
    show lotl cs = _
    simp
  | n + 1 => by
    show 40 :: (ftl (lefts s cs n) ++ (32 :: (tl s ++ (32 :: (lotl cs ++ [41]))))) = _
    rw [lefts_tl s cs n, rep_succ, List.replicate_succ]
    simp
theorem rights_tl (s : Str) (cs : List Fc) : ∀ n, ftl (rights s cs n) = (List.replicate n (40 :: (lotl cs ++ (32 :: (tl s ++ [32]))))).flatten ++ (lotl cs ++ List.replicate n 41)
  | 0 => by
    show lotl cs = _
    simp
  | n + 1 => by
    show 40 :: (lotl cs ++ (32 :: (tl s ++ (32 :: (ftl (rights s cs n) ++ [41]))))) = _
    rw [rights_tl s cs n, List.replicate_succ, List.replicate_succ', List.flatten_cons]
    simp
theorem flat_one (c n : Nat) : (List.replicate n [c]).flatten = List.replicate n c := by
  induction n with
  | zero => rfl
  | succ n ih => rw [List.replicate_succ, List.flatten_cons, ih, List.replicate_succ]; rfl
structure Smp (z : Str) (L S : Nat) : Prop where
  len : (tl z).length ≤ L
  cod : ∀ c ∈ tl z, c < 0x110000
  spc : (tl z).count 32 ≤ S
theorem Smp.app {a b : Str} {L L' S S' : Nat} (h : Smp a L S) (h' : Smp b L' S') : Smp (a ++ b) (L + L') (S + S') := by
  refine ⟨?_, fun c hc => ?_, ?_⟩
  · rw [tl_append, List.length_append]
    have := h.len
    have := h'.len
    omega
  · rw [tl_append] at hc
    exact (List.mem_append.mp hc).elim (h.cod c) (h'.cod c)
  · rw [tl_append, List.count_append]
    have := h.spc
    have := h'.spc
    omega
theorem Smp.mul {a : Str} {L S : Nat} (h : Smp a L S) (n : Nat) : Smp (Txt.mul a (n : Int)) (n * L) (n * S) := by
  refine ⟨?_, fun c hc => ?_, ?_⟩
  · rw [tl_mul]
    simp only [List.length_flatten, List.map_replicate, List.sum_replicate_nat]
    exact Nat.mul_le_mul_left _ h.len
  · rw [tl_mul] at hc
    obtain ⟨l, hl, hc⟩ := List.mem_flatten.mp hc
    rw [List.eq_of_mem_replicate hl] at hc
    exact h.cod c hc
  · rw [tl_mul, List.count_flatten]
    simp only [List.map_replicate, List.sum_replicate_nat]
    exact Nat.mul_le_mul_left _ h.spc
theorem Smp.ok {z : Str} {L S : Nat} (h : Smp z L S) (hL : L ≤ 50000) (hS : S ≤ 60) : TxOk z := ⟨by rw [len_tl]; exact Nat.le_trans h.len hL, h.cod, Nat.le_trans h.spc hS⟩
theorem smp_lot {cs : List Fc} (ok : (Fm.lot cs).Ok) (l : cs.length ≤ 1) : Smp (ftext (.lot cs)) 60 0 := by
  have ll := lot_len ok.2
  have jc := joinL_count cs ok.2
  refine ⟨?_, fun c hc => ?_, ?_⟩
  · rw [tl_ftext]
    omega
  · rw [tl_ftext] at hc
    have hc : c ∈ 123 :: (joinL [32] (cs.map ptl) ++ [125]) := hc
    rcases List.mem_cons.mp hc with rfl | hc
    · decide
    · rcases List.mem_append.mp hc with hc | hc
      · exact (joinL_pln ok.2 c hc).2.2
      · rw [List.mem_singleton.mp hc]
        decide
  · rw [tl_ftext]
    show (123 :: (joinL [32] (cs.map ptl) ++ [125])).count 32 ≤ 0
    rw [List.count_cons_of_ne (by decide), List.count_append]
    have e : List.count 32 [125] = 0 := by decide
    omega
/-! ### the texts of the law -/
theorem tell_empty : tell (Str.ofString "") = badS := by
  have e : tl (Str.ofString "") = [] := by decide +kernel
  unfold tell
  rw [e]
  rfl
theorem lot_nil : (Fm.lot []).Ok := ⟨List.Pairwise.nil, fun _ h => nomatch h⟩
theorem tell_braces : tell (Str.ofString "{}") = Str.ofString "{}" := by
  have e : tl (Str.ofString "{}") = ftl (.lot []) := by decide +kernel
  unfold tell
  rw [e, rdForm_of lot_nil (Nat.zero_le _)]
  rfl
theorem tell_paren : tell (Str.ofString "({})") = badS := by
  have e : tl (Str.ofString "({})") = 40 :: (ftl (.lot []) ++ [41]) := by decide +kernel
  have p : parse 20 (40 :: (ftl (.lot []) ++ [41])) = none := by
    rw [parse, if_neg (by simp), if_pos (by simp), List.drop_succ_cons, List.drop_zero, parse_of (.lot []) 19 [41] lot_nil (Nat.zero_le _)]
    rfl
  unfold tell rdForm
  rw [e, p]
  rfl
theorem tell_ok {φ : Fm} {z : Str} (e : tl z = ftl φ) (h : φ.Ok) : tell z = if φ.dep < 21 then z else badS := by
  unfold tell
  rw [e]
  by_cases b : φ.dep < 21
  · rw [rdForm_of h (by omega), if_pos b]
    rfl
  · rw [rdForm_deep h (by omega), if_neg b]
    rfl
end L2.LawH
set_option Elab.async false
set_option linter.all false
set_option maxRecDepth 100000
set_option maxHeartbeats 4000000
/-! The law. -/
namespace L2.LawH
open PySem PySem.Spec PyProof.Rows L2.TxtSet TL L2.NSet PySem.W L2.OwnOp L2.ClsCall
open Builtin.Int (intBits)
abbrev sLaw : Stmt := top 38
def spLaw (K : PySem.W.Frag) : Sp := fun vs H Q _ => ∃ (a : Addr) (ns : List Int), vs = [.ref a] ∧ SqL K H a (ns.map V.int) ∧ ns.length ≤ 63 ∧ (∀ z ∈ ns, intBits z ≤ 1048576) ∧ ∀ H', Q (.bl true) H'
theorem pass_none {X : Cx} (σ : St) : PassesAt (L2.CX X.prog X.w) X σ E0 := fun pins H s e s' _ c => by
  obtain ⟨_, _, _, _, _, _, _, _, _, _, _, _, h⟩ := c
  exact h.elim
theorem tell_no {z : Str} (h : rdForm (tl z) = none) : tell z = badS := by
  unfold tell
  rw [h]
  rfl
theorem tell_yes {z : Str} {φ : Fm} (h : rdForm (tl z) = some φ) : tell z = z := by
  unfold tell
  rw [h]
  rfl
theorem str_same (z : Str) : (!decide (V.str z = V.str z)) = false := by rw [decide_eq_true rfl]; rfl
section
variable {P : Program} {w : World} {K : PySem.W.Frag} {mg : Str → Option Value} {base : Heap}
abbrev nLaw : List Str := ["_law_script", "_law_pool_here", "_law_world_here", "_law_shape_here", "_law_text_here", "_law_form_here", "_law_k", "_law_sign", "_law_lot", "_law_deep", "_law_left", "_law_right", "_law_one"]
theorem scLaw : FnScope nLaw ["_law_script"] (defScope sLaw) := ⟨rfl, rfl, rfl, by decide +kernel, rfl, by decide +kernel, by decide +kernel⟩
theorem ok_law {f fPo fD fW fSh fTx fFo fB fTo fRd fLo fLT fT fE fR pR C B : Addr} {mc : Value} {fd fdPo fdD fdW fdSh fdTx fdFo fdB fdTo fdRd fdLo fdLT fdT fdE fdR : FuncData} (F : Fun K "law" "law" sLaw f fd)
    (GPo : FnOk P w K mg base CX0 1 fPo fdPo ["_law_script"] (spPool3 K)) (kPo : PySem.W.keepIn K (.ref fPo) = true) (bPo : Binds K fdPo ["_law_script"] []) (mPo : mg "_law_pool" = some (.ref fPo))
    (GD : FnOk P w K mg base CX0 1 fD fdD ["_law_pool_here", "_law_limit"] spDraw3) (kD : PySem.W.keepIn K (.ref fD) = true) (bD : Binds K fdD ["_law_pool_here", "_law_limit"] []) (mD : mg "_law_draw" = some (.ref fD))
    (GW : FnOk P w K mg base CX0 4 fW fdW ["_law_pool_here"] spWorld) (kW : PySem.W.keepIn K (.ref fW) = true) (bW : Binds K fdW ["_law_pool_here"] []) (mW : mg "_law_world" = some (.ref fW))
    (GSh : FnOk P w K mg base CX0 10 fSh fdSh pShp (spShp 8)) (kSh : PySem.W.keepIn K (.ref fSh) = true) (bSh : Binds K fdSh pShp []) (mSh : mg "_law_shape" = some (.ref fSh))
    (GTx : FnOk P w K mg base CX0 9 fTx fdTx ["_law_shape_here"] (spLTxt 8)) (kTx : PySem.W.keepIn K (.ref fTx) = true) (bTx : Binds K fdTx ["_law_shape_here"] []) (mTx : mg "_law_text" = some (.ref fTx))
    (GFo : FnOk P w K mg base CX0 13 fFo fdFo ["_law_shape_here"] (spLForm C 8)) (kFo : PySem.W.keepIn K (.ref fFo) = true) (bFo : Binds K fdFo ["_law_shape_here"] []) (mFo : mg "_law_form" = some (.ref fFo))
    (GB : FnOk P w K mg base CX0 2 fB fdB pLBt spBt) (kB : PySem.W.keepIn K (.ref fB) = true) (bB : Binds K fdB pLBt []) (mB : mg "_law_bent" = some (.ref fB))
    (GTo : FnOk P w K mg base CX0 28 fTo fdTo ["_law_text_here"] spLTo) (kTo : PySem.W.keepIn K (.ref fTo) = true) (bTo : Binds K fdTo ["_law_text_here"] []) (mTo : mg "_law_told" = some (.ref fTo))
    (GRd : FnOk P w K mg base CX0 24 fRd fdRd pLRd (spLRd 20)) (kRd : PySem.W.keepIn K (.ref fRd) = true) (bRd : Binds K fdRd pLRd []) (mRd : mg "_law_read" = some (.ref fRd))
    (GLo : FnOk P w K mg base CX0 9 fLo fdLo ["_law_shape_here"] (spLLots 8)) (kLo : PySem.W.keepIn K (.ref fLo) = true) (bLo : Binds K fdLo ["_law_shape_here"] []) (mLo : mg "_law_lots" = some (.ref fLo))
    (GLT : FnOk P w K mg base CX0 1 fLT fdLT ["_law_lot"] (spLLT K)) (kLT : PySem.W.keepIn K (.ref fLT) = true) (bLT : Binds K fdLT ["_law_lot"] []) (mLT : mg "_law_lot_text" = some (.ref fLT))
    (T : ClF K C) (mC : mg "Form" = some (.ref C)) (mT : Meth K C "text" fT) (GT : FnOk P w K mg base CX0 22 fT fdT ["self"] (spTextF C 21)) (bT : Binds K fdT ["self"] [])
    (hs : PySem.W.findIn K (.ref C) "__eq__" = some (some (.ref fE))) (hf : PySem.W.isFn K (.ref fE) = true) (GE : FnOk P w K mg base CX0 19 fE fdE ["self", "other"] (spEq (RFm C 9))) (bE : Binds K fdE ["self", "other"] [])
    (rR : ClX.CRead K C mc) (cR : ClX.CMet K C mc "read" pR fR) (GR : FnOk P w K mg base (L2.CX P w) 27 fR fdR ["cls", "text"] (spRdF B C)) (bR : Binds K fdR ["cls", "text"] [])
    {g1 : List Value → List Value → List Value} (bRk : KBn K fdR ["cls", "text"] 1 ["text"] g1 (fun a b => a ++ b))
    (ml : mg "len" = none) (mr : mg "range" = none) : FnOk P w K mg base CX0 29 f fd ["_law_script"] (spLaw K) := by
  refine F.ok scLaw (fun vs H Q E h => ?_) (fun cdv A outer s H vs Q E hr h => ?_)
  · obtain ⟨a, ns, rfl, _⟩ := h
    rfl
  · obtain ⟨q, ns, rfl, hS, hlen, hbits, k⟩ := h
    have hr1 : Room 1 _ := hr.mono (by decide)
    have hr2 : Room 2 _ := hr.mono (by decide)
    have hr4 : Room 4 _ := hr.mono (by decide)
    have hr9 : Room 9 _ := hr.mono (by decide)
    have hr10 : Room 10 _ := hr.mono (by decide)
    have hr13 : Room 13 _ := hr.mono (by decide)
    have hr19 : Room 19 _ := hr.mono (by decide)
    have hr22 : Room 22 _ := hr.mono (by decide)
    have hr24 : Room 24 _ := hr.mono (by decide)
    have hr27 : Room 27 _ := hr.mono (by decide)
    refine ⟨_, pss_cons (ps_set (i := 1) scLaw.nd rfl (Or.inl rfl) (pe_call GPo hr1 (by rfl) mPo kPo bPo .nil pass0 (pa_cons (pv 0) pa_nil)))
      (pss_cons (ps_set (i := 2) scLaw.nd rfl (Or.inl rfl) (pe_call GW hr4 (by rfl) mW kW bW .nil pass0 (pa_cons (pv 1) pa_nil)))
      (pss_cons (ps_set (i := 3) scLaw.nd rfl (Or.inl rfl) (pe_call GSh hr10 (by rfl) mSh kSh bSh .nil pass0 (pa_cons (pv 1) (pa_cons (pv 2) (pa_cons pe_int pa_nil)))))
      (pss_cons (ps_set (i := 4) scLaw.nd rfl (Or.inl rfl) (pe_call GTx hr9 (by rfl) mTx kTx bTx .nil pass0 (pa_cons (pv 3) pa_nil)))
      (pss_cons (ps_set (i := 5) scLaw.nd rfl (Or.inl rfl) (pe_call GFo hr13 (by rfl) mFo kFo bFo .nil pass0 (pa_cons (pv 3) pa_nil)))
      (pss_cons (ps_if (PW.pt (pw_or (pt_cmpR op_ne (pe_meth0 (pv 5) T.cl mT GT hr22 bT .nil pass0) (pv 4) (nomark _))
          (pw_or (pt_not (pt_cmpR (op_eqG (rcG_ins GE hs hf bE pass0) hr19) (pe_cmethS (E := fun _ => E0) (pe_glob (v := .ref C) (by rfl) mC rfl) rR cR GR hr27 bR (fun σ => pass_none σ) (pa_cons (pv 4) pa_nil)) (pv 5) (nomark _)))
          (pw_or1 (pt_cmpR op_ne (pe_meth0 (pe_cmethK (E := fun _ => E0) (pe_glob (v := .ref C) (by rfl) mC rfl) rR cR GR hr27 bRk (fun σ => pass_none σ) (pk_cons (pv 4) pk_nil)) T.cl mT GT hr22 bT .nil pass0) (pv 4) (nomark _)))))) (pss_one (ps_ret pe_bl)) pss_nil)
      (pss_cons (ps_for PassesOwn.never rfl (pi_range1 (by rfl) mr (pa_cons pe_int pa_nil)) (pg_name (i := 6) scLaw.nd rfl (Or.inl rfl))
        (pss_cons (ps_set (i := 4) scLaw.nd rfl (Or.inl rfl) (pe_call GB hr2 (by rfl) mB kB bB .nil pass0 (pa_cons (pv 1) (pa_cons (pv 4) pa_nil))))
        (pss_one (ps_if (pt_cmpR op_ne (pe_call GTo hr (by rfl) mTo kTo bTo .nil pass0 (pa_cons (pv 4) pa_nil))
          (pe_ifExp (PW.pt (pw_and (pt_cmpR op_ne (pv 4) pe_str (nomark _)) (pw_and1 (pt_cmpR op_eq (pe_call GRd hr24 (by rfl) mRd kRd bRd .nil pass0 (pa_cons (pv 4) (pa_cons pe_int (pa_cons pe_int pa_nil)))) (pe_callB call_len_str (by rfl) ml (by decide +kernel) (pa_cons (pv 4) pa_nil)) (nomark _))))) (pv 4) pe_str) (nomark _))
          (pss_one (ps_ret pe_bl)) pss_nil))))
      (pss_cons (ps_set (i := 7) scLaw.nd rfl (Or.inl rfl) (pe_ix ix_list (pe_lst (pa_cons pe_str (pa_cons pe_str (pa_cons pe_str pa_nil)))) (pe_call GD hr1 (by rfl) mD kD bD .nil pass0 (pa_cons (pv 1) (pa_cons pe_int pa_nil))) (fun _ _ => rfl)))
      (pss_cons (ps_set (i := 8) scLaw.nd rfl (Or.inl rfl) (pe_call GLT hr1 (by rfl) mLT kLT bLT .nil pass0 (pa_cons (pe_slice sl_list (pe_call GLo hr9 (by rfl) mLo kLo bLo .nil pass0 (pa_cons (pv 3) pa_nil)) po_none (po_some pe_int)) pa_nil)))
      (pss_cons (ps_for PassesOwn.never rfl (pi_list (pe_lst (pa_cons pe_int (pa_cons pe_int (pa_cons pe_int (pa_cons pe_int pa_nil)))))) (pg_name (i := 9) scLaw.nd rfl (Or.inl rfl))
        (pss_cons (ps_set (i := 10) scLaw.nd rfl (Or.inl rfl) (pe_op op_add_str (pe_op op_add_str (pe_op op_mul_str pe_str (pv 9)) (pv 8)) (pe_op op_mul_str (pe_op op_add_str (pe_op op_add_str (pv 7) (pv 8)) pe_str) (pv 9))))
        (pss_cons (ps_set (i := 11) scLaw.nd rfl (Or.inl rfl) (pe_op op_add_str (pe_op op_add_str (pe_op op_mul_str (pe_op op_add_str (pe_op op_add_str pe_str (pv 8)) (pv 7)) (pv 9)) (pv 8)) (pe_op op_mul_str pe_str (pv 9))))
        (pss_one (ps_for PassesOwn.never rfl (pi_list (pe_lst (pa_cons (pv 10) (pa_cons (pv 11) pa_nil)))) (pg_name (i := 12) scLaw.nd rfl (Or.inl rfl))
          (pss_one (ps_if (pt_cmpR op_ne (pe_call GTo hr (by rfl) mTo kTo bTo .nil pass0 (pa_cons (pv 12) pa_nil)) (pe_ifExp (pt_cmpR op_lt (pv 9) pe_int (nomark _)) (pv 12) pe_str) (nomark _)) (pss_one (ps_ret pe_bl)) pss_nil)))))))
      (pss_one (ps_ret (pe_and (pe_cmpR op_eq (pe_call GTo hr (by rfl) mTo kTo bTo .nil pass0 (pa_cons pe_str pa_nil)) pe_str (nomark _))
        (pe_and (pe_cmpR op_eq (pe_call GTo hr (by rfl) mTo kTo bTo .nil pass0 (pa_cons pe_str pa_nil)) pe_str (nomark _))
          (pe_one (pe_cmpR op_eq (pe_call GTo hr (by rfl) mTo kTo bTo .nil pass0 (pa_cons pe_str pa_nil)) pe_str (nomark _)))))))))))))))), ?_⟩
    refine ⟨_, rfl, q, ns, rfl, hS, hlen, hbits, fun p r H1 s1 np nr d1 => ?_⟩
    refine ⟨_, rfl, p, r, 999000, rfl, d1.mono (by decide), fun wd ω H2 hw2 okw d2 k2 => ?_⟩
    refine ⟨_, rfl, _, rfl, p, r, wd, 998000, 8, ω, rfl, by decide, by decide, d2.mono (by decide), hw2, okw, fun sh τ H3 hs3 okτ lτ d3 k3 => ?_⟩
    refine ⟨_, rfl, sh, τ, rfl, ShpAt.same off_le τ hs3, okτ, lτ, by omega, fun H4 φ s4 n4 => ?_⟩
    refine ⟨_, rfl, sh, τ, rfl, ShpAt.same (off_le.trans s4) τ hs3, okτ, lτ, fun H5 fo ψ s5 fr5 n5 => ?_⟩
    obtain rfl := n4.one n5
    obtain ⟨b1, b2, b3, b4⟩ := nrm_bds okτ n4
    have okφ := nrm_ok okτ n4
    have lvp := τ.lvs_pos
    have sz0 : (tl (ftext φ)).length = (ftl φ).length := by rw [tl_ftext]
    have tφ : TxOk (ftext φ) := ⟨by rw [len_ftext]; omega, by rw [tl_ftext]; exact b4, by rw [tl_ftext]; omega⟩
    have rφ : rdForm (tl (ftext φ)) = some φ := by
      rw [tl_ftext]
      exact rdForm_of okφ (by omega)
    have s35 := s4.trans s5
    have d5 := d3.same s35
    have k5 : Kp p r H3 H5 := Kp.of s35
    have no : ∀ {H' : Hp} {R : Prop}, rdForm (tl (ftext φ)) = none → R := fun hn => by
      rw [rφ] at hn
      cases hn
    obtain ⟨dx, e1, e2, e3, i5⟩ := fr5.ins
    -- the form told and read
    refine ⟨_, rfl, fo, dx, _, rfl, i5, rfl, fo, φ, rfl, fr5, okφ, by omega, by omega, fun H6 s6 => ⟨_, rfl, rfl, _, rfl, ?_⟩⟩
    rw [str_same]
    refine iteF ?_
    refine ⟨rfl, _, rfl, ftext φ, rfl, tφ, fun hn => no (H' := H6) hn, fun φ' hφ' H7 g s7 fr7 => ?_⟩
    obtain rfl : φ = φ' := by
      rw [rφ] at hφ'
      exact Option.some.inj hφ'
    have fr57 := fr5.same (s6.trans s7)
    obtain ⟨dy, f1, f2, f3, i7⟩ := fr7.ins
    obtain ⟨dz, h1, h2, h3, i57⟩ := fr57.ins
    refine ⟨_, rfl, ⟨g, fo, dy, dz, _, _, rfl, rfl, i7, i57, φ, by omega, okφ, fr7, fr57⟩, fun H8 s8 => ⟨_, rfl, iteF ?_⟩⟩
    refine ⟨rfl, _, rfl, rfl, ftext φ, rfl, tφ, fun hn => no (H' := H8) hn, fun φ' hφ' H9 g2 s9 fr9 => ?_⟩
    obtain rfl : φ = φ' := by
      rw [rφ] at hφ'
      exact Option.some.inj hφ'
    obtain ⟨dw, j1, j2, j3, i9⟩ := fr9.ins
    refine ⟨g2, dw, _, rfl, i9, rfl, g2, φ, rfl, fr9, okφ, by omega, by omega, fun H10 s10 => ⟨_, rfl, rfl, _, rfl, ?_⟩⟩
    rw [str_same]
    refine iteF ?_
    have s510 := (((s6.trans s7).trans (show Same H7 H8 from s8)).trans s9).trans s10
    have d10 := d5.same s510
    have k10 : Kp p r H3 H10 := Kp.of (s35.trans s510)
    -- the texts bent
    refine ⟨_, rfl, by decide, by decide, for_range (lo := 0) (n := (3 : Int).toNat) (fun i σ H' => ∃ (z : Str) (v6 : Option V), σ = [some (.ref q), some (.ref p), some (.ref wd), some (.ref sh), some (.str z), some (.ref fo), v6, none, none, none, none, none, none] ∧
      (tl z).length + 1 ≤ 1500 * 2 ^ i ∧ (∀ c ∈ tl z, c < 0x110000) ∧ (tl z).count 32 ≤ 30 + i ∧ DrwAt p r (900000 - 3 * i) H' ∧ Kp p r H3 H')
      ⟨ftext φ, none, rfl, by rw [sz0]; omega, by rw [tl_ftext]; exact b4, by rw [tl_ftext]; omega, d10.mono (by decide), k10⟩ ?_ ?_⟩
    · rintro i σ H11 hi ⟨z, v6, rfl, lz, cz, nz, d11, k11⟩
      have hi : i < 3 := hi
      have pw : (2 : Nat) ^ i ≤ 4 := by
        have : i = 0 ∨ i = 1 ∨ i = 2 := by omega
        rcases this with rfl | rfl | rfl <;> decide
      refine ⟨_, rfl, _, rfl, p, r, 900000 - 3 * (i + 1), z, rfl, d11.mono (by omega), by rw [len_tl]; omega, cz, fun y H12 ny d12 k12 => ?_⟩
      have ly := ny.len
      rw [len_tl, len_tl z] at ly
      have spy := ny.spc
      have ty : TxOk y := ⟨by rw [len_tl]; omega, ny.cod, by omega⟩
      have inv : ∀ (H' : Hp) (v6 : Option V), Same H12 H' → ∃ (z : Str) (v6' : Option V), [some (V.ref q), some (.ref p), some (.ref wd), some (.ref sh), some (.str y), some (.ref fo), v6, none, none, none, none, none, none] = [some (.ref q), some (.ref p), some (.ref wd), some (.ref sh), some (.str z), some (.ref fo), v6', none, none, none, none, none, none] ∧
          (tl z).length + 1 ≤ 1500 * 2 ^ (i + 1) ∧ (∀ c ∈ tl z, c < 0x110000) ∧ (tl z).count 32 ≤ 30 + (i + 1) ∧ DrwAt p r (900000 - 3 * (i + 1)) H' ∧ Kp p r H3 H' := fun H' v6 s' =>
        ⟨y, _, rfl, by rw [Nat.pow_succ]; omega, ny.cod, by omega, d12.same s', (k11.trans k12).trans (Kp.of s')⟩
      refine ⟨_, rfl, y, rfl, ty, fun H13 s13 => ⟨_, rfl, rfl, _, rfl, ?_⟩⟩
      by_cases ey : tl y = []
      · have e0 : y = Str.ofString "" := ext_tl (by rw [ey]; decide +kernel)
        rw [decide_eq_true (congrArg V.str e0)]
        refine iteF (iteF ⟨rfl, _, rfl, ?_⟩)
        rw [e0, tell_empty, str_same]
        rw [← e0]
        exact iteF (inv H13 _ s13)
      · have e0 : decide (V.str y = V.str (Str.ofString "")) = false := decide_eq_false fun e => ey (by rw [V.str.inj e]; decide +kernel)
        rw [e0]
        refine iteT ⟨_, rfl, y, 0, 0, rfl, ty, Nat.zero_le _, rfl, fun hn H14 s14 => ?_, fun χ l' hχ H14 e s14 le de => ?_⟩
        · rw [List.drop_zero] at hn
          have rn : rdForm (tl y) = none := by
            unfold rdForm
            rw [hn]
            rfl
          refine ⟨_, rfl, y, rfl, ty.szl, rfl, _, rfl, ?_⟩
          rw [decide_eq_false (show ¬ (V.int (-1) = V.int (y.length : Int)) from fun e => by have := V.int.inj e; omega)]
          refine iteF ⟨rfl, _, rfl, ?_⟩
          rw [tell_no rn, str_same]
          exact iteF (inv H14 _ (s13.trans s14))
        · rw [List.drop_zero] at hχ
          have ll : l' = [] ↔ e = y.length := by
            have := congrArg List.length de
            rw [List.length_drop, ← len_tl] at this
            rw [← len_tl] at le
            constructor
            · intro h
              rw [h, List.length_nil] at this
              omega
            · intro h
              exact List.length_eq_zero_iff.mp (by omega)
          refine ⟨_, rfl, y, rfl, ty.szl, rfl, _, rfl, ?_⟩
          by_cases he : e = y.length
          · rw [decide_eq_true (show V.int (e : Int) = V.int (y.length : Int) from by rw [he])]
            refine iteT ⟨_, rfl, rfl, _, rfl, ?_⟩
            have rs : rdForm (tl y) = some χ := by
              unfold rdForm
              rw [hχ, Option.bind_some, if_pos (ll.mpr he)]
            rw [tell_yes rs, str_same]
            exact iteF (inv H14 _ (s13.trans s14))
          · rw [decide_eq_false (show ¬ (V.int (e : Int) = V.int (y.length : Int)) from fun q => he (by have := V.int.inj q; omega))]
            refine iteF ⟨rfl, _, rfl, ?_⟩
            have rn : rdForm (tl y) = none := by
              unfold rdForm
              rw [hχ, Option.bind_some, if_neg fun q => he (ll.mp q)]
            rw [tell_no rn, str_same]
            exact iteF (inv H14 _ (s13.trans s14))
    · rintro σ H11 ⟨z, v6, rfl, lz, cz, nz, d11, k11⟩
      have d11 : DrwAt p r 890000 H11 := d11.mono (by decide)
      refine ⟨by show 3 ≤ sizeLine; decide, fun p1 np1 => ?_⟩
      have z1 := d11.ne np1
      have u12 : Same H11 (upd H11 p1 (.lst [V.str sgA, V.str sgO, V.str sgP])) := same_new np1
      have c12 : (upd H11 p1 (.lst [V.str sgA, V.str sgO, V.str sgP])) p1 = some (.lst [V.str sgA, V.str sgO, V.str sgP]) := upd_same
      generalize upd H11 p1 (.lst [V.str sgA, V.str sgO, V.str sgP]) = H12 at u12 c12 ⊢
      refine ⟨_, rfl, p, r, 889999, 3, rfl, (d11.same u12).mono (by decide), by decide, by decide, fun x H13 x0 x1 d13 k13 => ?_⟩
      have sign : ∃ sg sn : Str, atI [V.str sgA, V.str sgO, V.str sgP] x = some (.str sg) ∧ SgnOk sn ∧ tl sg = 32 :: (tl sn ++ [32]) ∧ Smp sg 5 2 := by
        obtain ⟨j, rfl⟩ : ∃ j : Nat, x = j := ⟨x.toNat, by omega⟩
        have hj : j = 0 ∨ j = 1 ∨ j = 2 := by omega
        rcases hj with rfl | rfl | rfl
        · exact ⟨sgA, andS, atI_nat (j := 0) rfl, .inr (.inl rfl), by rw [tl_sgA, tl_and]; rfl, ⟨by rw [tl_sgA]; decide, by rw [tl_sgA]; decide, by rw [tl_sgA]; decide⟩⟩
        · exact ⟨sgO, orS, atI_nat (j := 1) rfl, .inr (.inr rfl), by rw [tl_sgO, tl_or]; rfl, ⟨by rw [tl_sgO]; decide, by rw [tl_sgO]; decide, by rw [tl_sgO]; decide⟩⟩
        · exact ⟨sgP, optS, atI_nat (j := 2) rfl, .inl rfl, by rw [tl_sgP, tl_opt]; rfl, ⟨by rw [tl_sgP]; decide, by rw [tl_sgP]; decide, by rw [tl_sgP]; decide⟩⟩
      obtain ⟨sg, sn, esg, osn, tsg, msg⟩ := sign
      refine ⟨p1, _, _, _, rfl, rfl, SqL.of (kp_at k13 c12 z1.1 z1.2), esg, ?_⟩
      have k313 := (k11.trans (Kp.of u12)).trans k13
      have hs13 : ShpAt H13 sh τ := ShpAt.same off_le τ (ShpAt.same k313 τ hs3)
      refine ⟨_, rfl, sh, τ, rfl, hs13, okτ, lτ, by omega, fun H14 l s14 nl cl => ?_⟩
      refine ⟨_, rfl, l, _, rfl, SqL.of cl, fun u nu => ?_⟩
      rw [show (some (1 : Int)) = some ((1 : Nat) : Int) from rfl, cutV_to, ← List.map_take]
      have u15 : Same H14 (upd H14 u (.lst ((τ.pts.take 1).map fun x => V.ref x.1))) := same_new nu
      have c15 : (upd H14 u (.lst ((τ.pts.take 1).map fun x => V.ref x.1))) u = some (.lst ((τ.pts.take 1).map fun x => V.ref x.1)) := upd_same
      generalize upd H14 u (.lst ((τ.pts.take 1).map fun x => V.ref x.1)) = H15 at u15 c15 ⊢
      have pok := (pts_ok okτ).2
      have pat := pts_at τ hs13
      refine ⟨u, τ.pts.take 1, rfl, SqL.of c15, fun x m => ⟨u15 _ _ (s14 _ _ (pat x (List.mem_of_mem_take m))), fct_of (pok x (List.mem_of_mem_take m))⟩, by rw [List.length_take]; omega, fun H16 cs s16 asc mem => ?_⟩
      have okL : (Fm.lot cs).Ok := ⟨asc, fun c hc => by
        obtain ⟨x, hx, rfl⟩ := List.mem_map.mp ((mem c).mp hc)
        exact fct_of (pok x (List.mem_of_mem_take hx))⟩
      have l1 : cs.length ≤ 1 := by
        have := nodup_len cs ((τ.pts.take 1).map (·.2)) asc.nodup fun c hc => (mem c).mp hc
        rw [List.length_map, List.length_take] at this
        omega
      have mlt := smp_lot okL l1
      have tlt := tl_ftext (.lot cs)
      generalize ftext (.lot cs) = LT at mlt tlt ⊢
      have tlt : tl LT = lotl cs := tlt
      have mop : Smp (Str.ofString "(") 1 0 := ⟨by decide +kernel, by decide +kernel, by decide +kernel⟩
      have mcl : Smp (Str.ofString ")") 1 0 := ⟨by decide +kernel, by decide +kernel, by decide +kernel⟩
      have top : tl (Str.ofString "(") = [40] := by decide +kernel
      have tcl : tl (Str.ofString ")") = [41] := by decide +kernel
      refine ⟨by show 4 ≤ sizeLine; decide, fun p2 np2 => ?_⟩
      have u17 : Same H16 (upd H16 p2 (.lst [V.int 19, V.int 20, V.int 21, V.int 22])) := same_new np2
      have c17 : (upd H16 p2 (.lst [V.int 19, V.int 20, V.int 21, V.int 22])) p2 = some (.lst [V.int 19, V.int 20, V.int 21, V.int 22]) := upd_same
      generalize upd H16 p2 (.lst [V.int 19, V.int 20, V.int 21, V.int 22]) = H17 at u17 c17 ⊢
      refine ⟨p2, rfl, ⟨_, SqL.of c17⟩, for_list (K := K) (a := p2) (xs := [V.int 19, V.int 20, V.int 21, V.int 22]) (fun i σ H' => ∃ v9 v10 v11 v12 : Option V, σ = [some (.ref q), some (.ref p), some (.ref wd), some (.ref sh), some (.str z), some (.ref fo), v6, some (.str sg), some (.str LT), v9, v10, v11, v12] ∧ Same H17 H')
        ⟨none, none, none, none, rfl, Same.refl _⟩ (fun i σ H' _ p5 => let ⟨_, _, _, _, _, s5⟩ := p5; SqL.of (s5 _ _ c17)) (fun i x σ H18 hx p5 => ?_) (fun σ H18 p5 => ?_)⟩
      · obtain ⟨v9, v10, v11, v12, rfl, s18⟩ := p5
        have hn : ∃ n : Nat, x = .int n ∧ n ≤ 22 := by
          have hl := (List.getElem?_eq_some_iff.mp hx).1
          simp only [List.length_cons, List.length_nil] at hl
          have : i = 0 ∨ i = 1 ∨ i = 2 ∨ i = 3 := by omega
          rcases this with rfl | rfl | rfl | rfl
          · exact ⟨19, (Option.some.inj hx).symm, by decide⟩
          · exact ⟨20, (Option.some.inj hx).symm, by decide⟩
          · exact ⟨21, (Option.some.inj hx).symm, by decide⟩
          · exact ⟨22, (Option.some.inj hx).symm, by decide⟩
        obtain ⟨n, rfl, n22⟩ := hn
        have m1 := mop.mul n
        have m2 := (msg.app mlt).app mcl
        have m3 := m2.mul n
        have mL := (m1.app mlt).app m3
        have r2 := (mop.app mlt).app msg
        have r3 := r2.mul n
        have r4 := mcl.mul n
        have mR := (r3.app mlt).app r4
        have bnd : ∀ {y : Str} {L S : Nat}, Smp y L S → y.length ≤ L := fun h => by rw [len_tl]; exact h.len
        have bnd2 : n * (5 + 60 + 1) ≤ 22 * 66 := Nat.mul_le_mul n22 (Nat.le_refl _)
        have bnd3 : n * (1 + 60 + 5) ≤ 22 * 66 := Nat.mul_le_mul n22 (Nat.le_refl _)
        have bnd4 : n * 1 ≤ 22 * 1 := Nat.mul_le_mul n22 (Nat.le_refl _)
        have mulk : ∀ {y : Str} {L S : Nat}, Smp y L S → L ≤ 66 → MulOk y (n : Int) := fun {y L S} h hL => mul_ok (by
          have h1 := bnd h
          have : y.length * n ≤ 66 * 22 := Nat.mul_le_mul (Nat.le_trans h1 hL) n22
          omega) (by omega)
        refine ⟨_, rfl, _, _, rfl, rfl, mulk mop (by decide), _, rfl, _, _, rfl, rfl, ?_, _, rfl, _, rfl, _, _, rfl, rfl, ?_, _, _, rfl, rfl, ?_, _, rfl, _, _, rfl, rfl, mulk m2 (by decide), _, _, rfl, rfl, ?_, ?_⟩
        · have := bnd m1; have := bnd mlt; rw [sizeLine_eq]; omega
        · have := bnd msg; have := bnd mlt; rw [sizeLine_eq]; omega
        · have := bnd (msg.app mlt); have := bnd mcl; rw [sizeLine_eq]; omega
        · have := bnd (m1.app mlt); have := bnd m3; rw [sizeLine_eq]; omega
        refine ⟨_, rfl, _, _, rfl, rfl, ?_, _, rfl, _, _, rfl, rfl, ?_, _, rfl, _, _, rfl, rfl, mulk r2 (by decide), _, rfl, _, _, rfl, rfl, ?_, _, rfl, _, _, rfl, rfl, mulk mcl (by decide), _, _, rfl, rfl, ?_, ?_⟩
        · have := bnd mop; have := bnd mlt; rw [sizeLine_eq]; omega
        · have := bnd (mop.app mlt); have := bnd msg; rw [sizeLine_eq]; omega
        · have := bnd r3; have := bnd mlt; rw [sizeLine_eq]; omega
        · have := bnd (r3.app mlt); have := bnd r4; rw [sizeLine_eq]; omega
        have tL : tl (Txt.mul (Str.ofString "(") (n : Int) ++ LT ++ Txt.mul (sg ++ LT ++ Str.ofString ")") (n : Int)) = ftl (lefts sn cs n) := by
          rw [lefts_tl, tl_append, tl_append, tl_mul, tl_mul, tl_append, tl_append, top, tcl, tlt, tsg, flat_one, List.append_assoc]
        have tR : tl (Txt.mul (Str.ofString "(" ++ LT ++ sg) (n : Int) ++ LT ++ Txt.mul (Str.ofString ")") (n : Int)) = ftl (rights sn cs n) := by
          rw [rights_tl, tl_append, tl_append, tl_mul, tl_mul, tl_append, tl_append, top, tcl, tlt, tsg, flat_one, List.append_assoc]
          simp
        obtain ⟨oL, dL⟩ := lefts_ok osn okL n
        obtain ⟨oR, dR⟩ := rights_ok osn okL n
        have tyL := mL.ok (by omega) (by omega)
        have tyR := mR.ok (by omega) (by omega)
        generalize Txt.mul (Str.ofString "(") (n : Int) ++ LT ++ Txt.mul (sg ++ LT ++ Str.ofString ")") (n : Int) = TL at tL tyL ⊢
        generalize Txt.mul (Str.ofString "(" ++ LT ++ sg) (n : Int) ++ LT ++ Txt.mul (Str.ofString ")") (n : Int) = TR at tR tyR ⊢
        refine ⟨_, rfl, _, rfl, by show 2 ≤ sizeLine; decide, fun p3 np3 => ?_⟩
        have u19 : Same H18 (upd H18 p3 (.lst [V.str TL, V.str TR])) := same_new np3
        have c19 : (upd H18 p3 (.lst [V.str TL, V.str TR])) p3 = some (.lst [V.str TL, V.str TR]) := upd_same
        generalize upd H18 p3 (.lst [V.str TL, V.str TR]) = H19 at u19 c19 ⊢
        refine ⟨p3, rfl, ⟨_, SqL.of c19⟩, for_list (K := K) (a := p3) (xs := [V.str TL, V.str TR]) (fun i σ H' => ∃ v12 : Option V, σ = [some (.ref q), some (.ref p), some (.ref wd), some (.ref sh), some (.str z), some (.ref fo), v6, some (.str sg), some (.str LT), some (.int n), some (.str TL), some (.str TR), v12] ∧ Same H19 H')
          ⟨v12, rfl, Same.refl _⟩ (fun i σ H' _ p5 => let ⟨_, _, s5⟩ := p5; SqL.of (s5 _ _ c19)) (fun i y σ H20 hy p5 => ?_) (fun σ H20 p5 => ?_)⟩
        · obtain ⟨v12, rfl, s20⟩ := p5
          have hy2 : ∃ (y' : Str) (χ : Fm), y = .str y' ∧ tl y' = ftl χ ∧ χ.Ok ∧ χ.dep = n ∧ TxOk y' := by
            have hl := (List.getElem?_eq_some_iff.mp hy).1
            simp only [List.length_cons, List.length_nil] at hl
            have : i = 0 ∨ i = 1 := by omega
            rcases this with rfl | rfl
            · exact ⟨TL, _, (Option.some.inj hy).symm, tL, oL, dL, tyL⟩
            · exact ⟨TR, _, (Option.some.inj hy).symm, tR, oR, dR, tyR⟩
          obtain ⟨y', χ, rfl, ty, oy, dy, xy⟩ := hy2
          refine ⟨_, rfl, y', rfl, xy, fun H21 s21 => ⟨_, rfl, _, _, rfl, rfl, _, rfl, ?_⟩⟩
          have tt := tell_ok ty oy
          rw [dy] at tt
          by_cases h21 : n < 21
          · rw [decide_eq_true (show (n : Int) < 21 by omega)]
            refine iteT ⟨_, rfl, rfl, _, rfl, ?_⟩
            rw [tt, if_pos h21, str_same]
            exact iteF ⟨_, rfl, s20.trans s21⟩
          · rw [decide_eq_false (show ¬ ((n : Int) < 21) by omega)]
            refine iteF ⟨rfl, _, rfl, ?_⟩
            rw [tt, if_neg h21, str_same]
            exact iteF ⟨_, rfl, s20.trans s21⟩
        · obtain ⟨v12, rfl, s20⟩ := p5
          exact ⟨_, _, _, _, rfl, (s18.trans u19).trans s20⟩
      · obtain ⟨v9, v10, v11, v12, rfl, s18⟩ := p5
        refine ⟨Str.ofString "", rfl, ⟨by decide +kernel, by decide +kernel, by decide +kernel⟩, fun H19 s19 => ⟨rfl, _, rfl, ?_⟩⟩
        rw [tell_empty, decide_eq_true rfl]
        refine iteT ⟨Str.ofString "{}", rfl, ⟨by decide +kernel, by decide +kernel, by decide +kernel⟩, fun H20 s20 => ⟨rfl, _, rfl, ?_⟩⟩
        rw [tell_braces, decide_eq_true rfl]
        refine iteT ⟨Str.ofString "({})", rfl, ⟨by decide +kernel, by decide +kernel, by decide +kernel⟩, fun H21 s21 => ⟨rfl, ?_⟩⟩
        rw [tell_paren, decide_eq_true rfl]
        exact k H21
end
end L2.LawH
set_option Elab.async false
set_option linter.all false
set_option maxRecDepth 100000
set_option maxHeartbeats 0
/-! The law on texts of forms: its end. -/
namespace L2.LawH
open PySem PySem.Spec PyProof.Rows L2.TxtSet TL L2.NSet PySem.W L2.OwnOp
open Builtin.Int (intBits)
abbrev veB10 : List Value := [.type "ValueError", .type "Exception", .type "BaseException", .type "object"]
theorem kbnA {K : PySem.W.Frag} {x qual : Str} {st : Stmt} {f : Addr} {fd : FuncData} (F : Fun K x qual st f fd) {ps ks : List Str}
    (h : ∀ (kV doc pm : Value) (an : Option Addr) (cdv ct : Value) (us ws : List Value), us.length = 1 → ws.length = ks.length → bindArgs (PySem.W.fnOf x qual (defArgs st) (defBody st) (defScope st) .none kV doc pm an cdv ct) ⟨us, ks.zip ws⟩ = pure (ps.zip (us ++ ws))) :
    KBn K fd ps 1 ks (fun a b => a ++ b) (fun a b => a ++ b) := by
  obtain ⟨oc, od, kV, doc, pm, an, cdv, ct, osl, rfl, lk, hcd⟩ := F.ex
  exact ⟨fun s us ws _ l1 l2 => .of_eq (h kV doc pm an cdv ct us ws l1 l2), fun r1 r2 => r1.append r2⟩
theorem exm_b {K : PySem.W.Frag} {D B : Addr} {b : Bool} (su : PySem.W.subIn K (.ref B) (.type "BaseException") = some true) (ic : PySem.W.isClsIn K B = true) (ty : PySem.W.typeIn K (.ref B) = some (.type "type")) (sB : PySem.W.subIn K (.ref D) (.ref B) = some b) :
    PySem.W.exmOne K (.ref D) (.ref B) = some b := by
  unfold PySem.W.exmOne
  rw [su, if_pos (by decide +kernel)]
  show (if ((PySem.W.clsIn K B).isSome && PySem.W.typeIn K (.ref B) == some (.type "type")) = true then PySem.W.subIn K (.ref D) (.ref B) else none) = _
  have ic' : (PySem.W.clsIn K B).isSome = true := ic
  rw [ic', ty, if_pos (by decide +kernel)]
  exact sB
theorem kit_self {K : PySem.W.Frag} {C : Addr} : PySem.W.kitOne K (.ref C) (.ref C) = some true := by
  show (if (Value.ref C == Value.ref C) = true then some true else PySem.W.kitCls K (.ref C) (.ref C)) = some true
  rw [if_pos (by simp)]
theorem sgt_mk {K : PySem.W.Frag} {t : Addr} {n : Nat} {d : Option Addr} {s : Array (Option Value)} {t1 t2 t3 : Tok} (l : K.lookup t = some ⟨.type "tuple", d, .seq #[.str andS t1, .str orS t2, .str optS t3] n, s⟩) : SgT K t :=
  ⟨_, _, _, l, rfl, rfl, (by show 3 ≤ sizeLine; decide), .cons ⟨_, rfl⟩ (.cons ⟨_, rfl⟩ (.cons ⟨_, rfl⟩ .nil))⟩
theorem all_mk {P : Program} {w : World} {K : PySem.W.Frag} {h : Heap} {mg : Str → Option Value} {fa fPo fD fWd fWs fW fPa fSh fFo fLo fNm fRP fLT fTx fRL fRd fTo fBt fN fV fP fX fR fFF fSF fLF fL fMI fMA fMR fMO fME fMT fCL fCR pCL pCR cF cB tS : Addr} {t3 t4 t5 : Tok}
    (X : K.In h) (G : h.Ns mainGlobals mg) (hfa : mg "law" = some (.ref fa))
    (bPo : PySem.W.nsIn K mainGlobals "_law_pool" = some (some (.ref fPo)))
    (EPo : ∃ fd, Fun K "_law_pool" "_law_pool" sPool3 fPo fd)
    (bD : PySem.W.nsIn K mainGlobals "_law_draw" = some (some (.ref fD)))
    (ED : ∃ fd, Fun K "_law_draw" "_law_draw" sDraw3 fD fd)
    (bWd : PySem.W.nsIn K mainGlobals "_law_word" = some (some (.ref fWd)))
    (EWd : ∃ fd, Fun K "_law_word" "_law_word" sWord fWd fd)
    (bWs : PySem.W.nsIn K mainGlobals "_law_words" = some (some (.ref fWs)))
    (EWs : ∃ fd, Fun K "_law_words" "_law_words" sWords fWs fd)
    (bW : PySem.W.nsIn K mainGlobals "_law_world" = some (some (.ref fW)))
    (EW : ∃ fd, Fun K "_law_world" "_law_world" sWorld fW fd)
    (bPa : PySem.W.nsIn K mainGlobals "_law_pattern" = some (some (.ref fPa)))
    (EPa : ∃ fd, Fun K "_law_pattern" "_law_pattern" sPat3 fPa fd)
    (bSh : PySem.W.nsIn K mainGlobals "_law_shape" = some (some (.ref fSh)))
    (ESh : ∃ fd, Fun K "_law_shape" "_law_shape" sShp fSh fd)
    (bFo : PySem.W.nsIn K mainGlobals "_law_form" = some (some (.ref fFo)))
    (EFo : ∃ fd, Fun K "_law_form" "_law_form" sLForm fFo fd)
    (bLo : PySem.W.nsIn K mainGlobals "_law_lots" = some (some (.ref fLo)))
    (ELo : ∃ fd, Fun K "_law_lots" "_law_lots" sLLots fLo fd)
    (bNm : PySem.W.nsIn K mainGlobals "_law_name" = some (some (.ref fNm)))
    (ENm : ∃ fd, Fun K "_law_name" "_law_name" sLNm fNm fd)
    (bRP : PySem.W.nsIn K mainGlobals "_law_read_pattern" = some (some (.ref fRP)))
    (ERP : ∃ fd, Fun K "_law_read_pattern" "_law_read_pattern" sLRP fRP fd)
    (bLT : PySem.W.nsIn K mainGlobals "_law_lot_text" = some (some (.ref fLT)))
    (ELT : ∃ fd, Fun K "_law_lot_text" "_law_lot_text" sLLT fLT fd)
    (bTx : PySem.W.nsIn K mainGlobals "_law_text" = some (some (.ref fTx)))
    (ETx : ∃ fd, Fun K "_law_text" "_law_text" sLTxt fTx fd)
    (bRL : PySem.W.nsIn K mainGlobals "_law_read_lot" = some (some (.ref fRL)))
    (ERL : ∃ fd, Fun K "_law_read_lot" "_law_read_lot" sLRL fRL fd)
    (bRd : PySem.W.nsIn K mainGlobals "_law_read" = some (some (.ref fRd)))
    (ERd : ∃ fd, Fun K "_law_read" "_law_read" sLRd fRd fd)
    (bTo : PySem.W.nsIn K mainGlobals "_law_told" = some (some (.ref fTo)))
    (ETo : ∃ fd, Fun K "_law_told" "_law_told" sLTo fTo fd)
    (bBt : PySem.W.nsIn K mainGlobals "_law_bent" = some (some (.ref fBt)))
    (EBt : ∃ fd, Fun K "_law_bent" "_law_bent" sLBt fBt fd)
    (bN : PySem.W.nsIn K mainGlobals "is_name" = some (some (.ref fN)))
    (EN : ∃ fd, Fun K "is_name" "is_name" sIsN fN fd)
    (bV : PySem.W.nsIn K mainGlobals "is_variable" = some (some (.ref fV)))
    (EV : ∃ fd, Fun K "is_variable" "is_variable" sIsV9 fV fd)
    (bP : PySem.W.nsIn K mainGlobals "is_pattern" = some (some (.ref fP)))
    (EP : ∃ fd, Fun K "is_pattern" "is_pattern" sIsP9 fP fd)
    (bX : PySem.W.nsIn K mainGlobals "pattern_text" = some (some (.ref fX)))
    (EX : ∃ fd, Fun K "pattern_text" "pattern_text" sPt12 fX fd)
    (bR : PySem.W.nsIn K mainGlobals "read_pattern" = some (some (.ref fR)))
    (ER : ∃ fd, Fun K "read_pattern" "read_pattern" sRd18 fR fd)
    (bFF : PySem.W.nsIn K mainGlobals "form_from" = some (some (.ref fFF)))
    (EFF : ∃ fd, Fun K "form_from" "form_from" sFoF fFF fd)
    (bSF : PySem.W.nsIn K mainGlobals "sign_from" = some (some (.ref fSF)))
    (ESF : ∃ fd, Fun K "sign_from" "sign_from" sSgF fSF fd)
    (bLF : PySem.W.nsIn K mainGlobals "lot_from" = some (some (.ref fLF)))
    (ELF : ∃ fd, Fun K "lot_from" "lot_from" sLtF fLF fd)
    (bL : PySem.W.nsIn K mainGlobals "law" = some (some (.ref fL)))
    (EL : ∃ fd, Fun K "law" "law" sLaw fL fd)
    (bC : PySem.W.nsIn K mainGlobals "Form" = some (some (.ref cF)))
    (bB : PySem.W.nsIn K mainGlobals "BadText" = some (some (.ref cB)))
    (bMI : PySem.W.findIn K (.ref cF) "__init__" = some (some (.ref fMI)))
    (EMI : ∃ fd, Fun K "__init__" "Form.__init__" sInitF fMI fd)
    (iMI : PySem.W.isFn K (.ref fMI) = true)
    (bMA : PySem.W.findIn K (.ref cF) "__and__" = some (some (.ref fMA)))
    (EMA : ∃ fd, Fun K "__and__" "Form.__and__" sAndF fMA fd)
    (iMA : PySem.W.isFn K (.ref fMA) = true)
    (bMR : PySem.W.findIn K (.ref cF) "__or__" = some (some (.ref fMR)))
    (EMR : ∃ fd, Fun K "__or__" "Form.__or__" sOrF fMR fd)
    (iMR : PySem.W.isFn K (.ref fMR) = true)
    (bMO : PySem.W.findIn K (.ref cF) "opt" = some (some (.ref fMO)))
    (EMO : ∃ fd, Fun K "opt" "Form.opt" sOptF fMO fd)
    (iMO : PySem.W.isFn K (.ref fMO) = true)
    (bME : PySem.W.findIn K (.ref cF) "__eq__" = some (some (.ref fME)))
    (EME : ∃ fd, Fun K "__eq__" "Form.__eq__" sEqF fME fd)
    (iME : PySem.W.isFn K (.ref fME) = true)
    (bMT : PySem.W.findIn K (.ref cF) "text" = some (some (.ref fMT)))
    (EMT : ∃ fd, Fun K "text" "Form.text" sTextF fMT fd)
    (iMT : PySem.W.isFn K (.ref fMT) = true)
    (rd : PySem.W.readsIn K cF (.type "type") = true)
    (rga : PySem.W.specialIn K (.ref cF) "__getattribute__" = some (some (.builtin "type.__getattribute__")))
    (bCL : PySem.W.findCls K (.ref cF) (.type "type") "lot" = some (.get (.builtin "classmethod.__get__") (.ref pCL) .none (.ref cF)))
    (XrCL : ∃ rest, PySem.W.recIn K pCL "classmethod" = some (.ref fCL :: rest))
    (iCL : PySem.W.fnIn K fCL = true)
    (ECL : ∃ fd, Fun K "lot" "Form.lot" sLotF fCL fd)
    (bCR : PySem.W.findCls K (.ref cF) (.type "type") "read" = some (.get (.builtin "classmethod.__get__") (.ref pCR) .none (.ref cF)))
    (XrCR : ∃ rest, PySem.W.recIn K pCR "classmethod" = some (.ref fCR :: rest))
    (iCR : PySem.W.fnIn K fCR = true)
    (ECR : ∃ fd, Fun K "read" "Form.read" sRdF fCR fd)
    (pg : PySem.W.plainGet K cF Str.empty = true)
    (hd : PySem.W.hasDictIn K cF = true)
    (po : PySem.W.plainOver K cF = true)
    (sa : PySem.W.findIn K (.ref cF) "__setattr__" = some (some (.builtin "object.__setattr__")))
    (mk : PySem.W.makesIn K cF = true)
    (kc : PySem.W.keepIn K (.ref cF) = true)
    (nS : PySem.W.findIn K (.ref cF) "_sign" = some none)
    (nH : PySem.W.findIn K (.ref cF) "_halves" = some none)
    (nW : PySem.W.findIn K (.ref cF) "_wanted" = some none)
    (sf : PySem.W.selfFirst K cF = true)
    (ha : PySem.W.findIn K (.ref cF) "__class__" = some (some (.builtin "object.__class__")))
    (hn : PySem.W.specialIn K (.builtin "object.__class__") "__get__" = some (some (.builtin "getset_descriptor.__get__")))
    (htk : PySem.W.takesIn K (.builtin "object.__class__") = some true)
    (hm : PySem.W.mroIn K cF (.type "object") = some true)
    (exB : PySem.W.subIn K (.ref cB) (.type "BaseException") = some true)
    (txB : PySem.W.typeIn K (.ref cB) = some (.type "type"))
    (kxB : PySem.W.keepIn K (.ref cB) = true)
    (ixB : PySem.W.isClsIn K cB = true)
    (sxB : PySem.W.subIn K (.ref cB) (.ref cB) = some true)
    (QB : PySem.W.excIn K cB veB10 "ValueError.__new__" = true)
    (bS : PySem.W.nsIn K mainGlobals "SIGNS_READ" = some (some (.ref tS)))
    (DS : SgT K tS)
    (z_int : PySem.W.nsIn K mainGlobals "int" = some none)
    (z_str : PySem.W.nsIn K mainGlobals "str" = some none)
    (z_len : PySem.W.nsIn K mainGlobals "len" = some none)
    (z_range : PySem.W.nsIn K mainGlobals "range" = some none)
    (z_tuple : PySem.W.nsIn K mainGlobals "tuple" = some none)
    (z_list : PySem.W.nsIn K mainGlobals "list" = some none)
    (z_sorted : PySem.W.nsIn K mainGlobals "sorted" = some none)
    (z_isinstance : PySem.W.nsIn K mainGlobals "isinstance" = some none)
    (z_set : PySem.W.nsIn K mainGlobals "set" = some none)
    (c0 : PySem.W.nsIn K mainGlobals "LONGEST_NAME" = some (some (.int 12 t3)))
    (c1 : PySem.W.nsIn K mainGlobals "MOST_TERMS" = some (some (.int 3 t4)))
    (c2 : PySem.W.nsIn K mainGlobals "MOST_OPEN" = some (some (.int 20 t5)))
    : ∃ fd : FuncData, (∀ (s : Shared) (v : Value), BindsTo s fd ⟨[v], []⟩ [("_law_script", v)]) ∧
      ∀ base : Heap, K.In base → base.Ns mainGlobals mg → FnOk P w K mg base CX0 29 fa fd ["_law_script"] (spLaw K) := by
  have e := hfa.symm.trans (PySem.W.mg_of X G bL)
  cases e
  obtain ⟨dPo, FPo⟩ := EPo
  obtain ⟨dD, FD⟩ := ED
  obtain ⟨dWd, FWd⟩ := EWd
  obtain ⟨dWs, FWs⟩ := EWs
  obtain ⟨dW, FW⟩ := EW
  obtain ⟨dPa, FPa⟩ := EPa
  obtain ⟨dSh, FSh⟩ := ESh
  obtain ⟨dFo, FFo⟩ := EFo
  obtain ⟨dLo, FLo⟩ := ELo
  obtain ⟨dNm, FNm⟩ := ENm
  obtain ⟨dRP, FRP⟩ := ERP
  obtain ⟨dLT, FLT⟩ := ELT
  obtain ⟨dTx, FTx⟩ := ETx
  obtain ⟨dRL, FRL⟩ := ERL
  obtain ⟨dRd, FRd⟩ := ERd
  obtain ⟨dTo, FTo⟩ := ETo
  obtain ⟨dBt, FBt⟩ := EBt
  obtain ⟨dN, FN⟩ := EN
  obtain ⟨dV, FV⟩ := EV
  obtain ⟨dP, FP⟩ := EP
  obtain ⟨dX, FX⟩ := EX
  obtain ⟨dR, FR⟩ := ER
  obtain ⟨dFF, FFF⟩ := EFF
  obtain ⟨dSF, FSF⟩ := ESF
  obtain ⟨dLF, FLF⟩ := ELF
  obtain ⟨dL, FL⟩ := EL
  obtain ⟨dMI, FMI⟩ := EMI
  obtain ⟨dMA, FMA⟩ := EMA
  obtain ⟨dMR, FMR⟩ := EMR
  obtain ⟨dMO, FMO⟩ := EMO
  obtain ⟨dME, FME⟩ := EME
  obtain ⟨dMT, FMT⟩ := EMT
  obtain ⟨dCL, FCL⟩ := ECL
  obtain ⟨dCR, FCR⟩ := ECR
  have mPo := PySem.W.mg_of X G bPo
  have mD := PySem.W.mg_of X G bD
  have mWd := PySem.W.mg_of X G bWd
  have mWs := PySem.W.mg_of X G bWs
  have mW := PySem.W.mg_of X G bW
  have mPa := PySem.W.mg_of X G bPa
  have mSh := PySem.W.mg_of X G bSh
  have mFo := PySem.W.mg_of X G bFo
  have mLo := PySem.W.mg_of X G bLo
  have mNm := PySem.W.mg_of X G bNm
  have mRP := PySem.W.mg_of X G bRP
  have mLT := PySem.W.mg_of X G bLT
  have mTx := PySem.W.mg_of X G bTx
  have mRL := PySem.W.mg_of X G bRL
  have mRd := PySem.W.mg_of X G bRd
  have mTo := PySem.W.mg_of X G bTo
  have mBt := PySem.W.mg_of X G bBt
  have mN := PySem.W.mg_of X G bN
  have mV := PySem.W.mg_of X G bV
  have mP := PySem.W.mg_of X G bP
  have mX := PySem.W.mg_of X G bX
  have mR := PySem.W.mg_of X G bR
  have mFF := PySem.W.mg_of X G bFF
  have mSF := PySem.W.mg_of X G bSF
  have mLF := PySem.W.mg_of X G bLF
  have mL := PySem.W.mg_of X G bL
  have qPo := FPo.binds (ps := ["_law_script"]) fun _ _ _ _ _ _ us hl => match us, hl with | [_], _ => rfl
  have qD := FD.binds (ps := ["_law_pool_here", "_law_limit"]) fun _ _ _ _ _ _ us hl => match us, hl with | [_, _], _ => rfl
  have qWd := FWd.binds (ps := ["_law_pool_here"]) fun _ _ _ _ _ _ us hl => match us, hl with | [_], _ => rfl
  have qWs := FWs.binds (ps := ["_law_pool_here", "_law_many"]) fun _ _ _ _ _ _ us hl => match us, hl with | [_, _], _ => rfl
  have qW := FW.binds (ps := ["_law_pool_here"]) fun _ _ _ _ _ _ us hl => match us, hl with | [_], _ => rfl
  have qPa := FPa.binds (ps := ["_law_pool_here", "_law_world_here", "_law_own"]) fun _ _ _ _ _ _ us hl => match us, hl with | [_, _, _], _ => rfl
  have qSh := FSh.binds (ps := ["_law_pool_here", "_law_world_here", "_law_most"]) fun _ _ _ _ _ _ us hl => match us, hl with | [_, _, _], _ => rfl
  have qFo := FFo.binds (ps := ["_law_shape_here"]) fun _ _ _ _ _ _ us hl => match us, hl with | [_], _ => rfl
  have qLo := FLo.binds (ps := ["_law_shape_here"]) fun _ _ _ _ _ _ us hl => match us, hl with | [_], _ => rfl
  have qNm := FNm.binds (ps := ["_law_word_here"]) fun _ _ _ _ _ _ us hl => match us, hl with | [_], _ => rfl
  have qRP := FRP.binds (ps := ["_law_word_here"]) fun _ _ _ _ _ _ us hl => match us, hl with | [_], _ => rfl
  have qLT := FLT.binds (ps := ["_law_lot"]) fun _ _ _ _ _ _ us hl => match us, hl with | [_], _ => rfl
  have qTx := FTx.binds (ps := ["_law_shape_here"]) fun _ _ _ _ _ _ us hl => match us, hl with | [_], _ => rfl
  have qRL := FRL.binds (ps := ["_law_text_here", "_law_spot"]) fun _ _ _ _ _ _ us hl => match us, hl with | [_, _], _ => rfl
  have qRd := FRd.binds (ps := ["_law_text_here", "_law_spot", "_law_deep"]) fun _ _ _ _ _ _ us hl => match us, hl with | [_, _, _], _ => rfl
  have qTo := FTo.binds (ps := ["_law_text_here"]) fun _ _ _ _ _ _ us hl => match us, hl with | [_], _ => rfl
  have qBt := FBt.binds (ps := ["_law_pool_here", "_law_text_here"]) fun _ _ _ _ _ _ us hl => match us, hl with | [_, _], _ => rfl
  have qN := FN.binds (ps := ["value"]) fun _ _ _ _ _ _ us hl => match us, hl with | [_], _ => rfl
  have qV := FV.binds (ps := ["value"]) fun _ _ _ _ _ _ us hl => match us, hl with | [_], _ => rfl
  have qP := FP.binds (ps := ["value"]) fun _ _ _ _ _ _ us hl => match us, hl with | [_], _ => rfl
  have qX := FX.binds (ps := ["pattern"]) fun _ _ _ _ _ _ us hl => match us, hl with | [_], _ => rfl
  have qR := FR.binds (ps := ["text"]) fun _ _ _ _ _ _ us hl => match us, hl with | [_], _ => rfl
  have qFF := FFF.binds (ps := ["text", "at", "depth"]) fun _ _ _ _ _ _ us hl => match us, hl with | [_, _, _], _ => rfl
  have qSF := FSF.binds (ps := ["text", "at"]) fun _ _ _ _ _ _ us hl => match us, hl with | [_, _], _ => rfl
  have qLF := FLF.binds (ps := ["text", "at"]) fun _ _ _ _ _ _ us hl => match us, hl with | [_, _], _ => rfl
  have qMI := FMI.binds (ps := ["self", "sign", "halves", "wanted"]) fun _ _ _ _ _ _ us hl => match us, hl with | [_, _, _, _], _ => rfl
  have qMA := FMA.binds (ps := ["self", "other"]) fun _ _ _ _ _ _ us hl => match us, hl with | [_, _], _ => rfl
  have qMR := FMR.binds (ps := ["self", "other"]) fun _ _ _ _ _ _ us hl => match us, hl with | [_, _], _ => rfl
  have qMO := FMO.binds (ps := ["self", "other"]) fun _ _ _ _ _ _ us hl => match us, hl with | [_, _], _ => rfl
  have qME := FME.binds (ps := ["self", "other"]) fun _ _ _ _ _ _ us hl => match us, hl with | [_, _], _ => rfl
  have qMT := FMT.binds (ps := ["self"]) fun _ _ _ _ _ _ us hl => match us, hl with | [_], _ => rfl
  have qCL := FCL.binds (ps := ["cls", "patterns"]) fun _ _ _ _ _ _ us hl => match us, hl with | [_, _], _ => rfl
  have qCR := FCR.binds (ps := ["cls", "text"]) fun _ _ _ _ _ _ us hl => match us, hl with | [_, _], _ => rfl
  have kCR := kbnA FCR (ps := ["cls", "text"]) (ks := ["text"]) fun _ _ _ _ _ _ us ws l1 l2 => match us, ws, l1, l2 with | [_], [_], _, _ => rfl
  have mC := PySem.W.mg_of X G bC
  have mB := PySem.W.mg_of X G bB
  have mS := PySem.W.mg_of X G bS
  have y_int := PySem.W.mg_none_of X G z_int
  have y_str := PySem.W.mg_none_of X G z_str
  have y_len := PySem.W.mg_none_of X G z_len
  have y_range := PySem.W.mg_none_of X G z_range
  have y_tuple := PySem.W.mg_none_of X G z_tuple
  have y_list := PySem.W.mg_none_of X G z_list
  have y_sorted := PySem.W.mg_none_of X G z_sorted
  have y_isinstance := PySem.W.mg_none_of X G z_isinstance
  have y_set := PySem.W.mg_none_of X G z_set
  have g0 := PySem.W.mg_of X G c0
  have g1 := PySem.W.mg_of X G c1
  have g2 := PySem.W.mg_of X G c2
  have cl : Cls K cF := ⟨pg, hd, po, sa⟩
  have T : ClF K cF := ⟨cl, nS, nH, nW⟩
  have M : Mk K cF fMI := ⟨mk, bMI, iMI, kc⟩
  have IC : C8.InsC K cF := ⟨cl, ha, hn, htk, hm, kit_self⟩
  have rB : ∀ {X : Cx}, X.K = K → Raises X (.ref cB) := fun e => raises_own (by rw [e]; exact exB) (by rw [e]; exact txB)
  have te := exm_b exB ixB txB sxB
  have RR : ClX.CRead K cF (.type "type") := ⟨rd, rga⟩
  have CL : ClX.CMet K cF (.type "type") "lot" pCL fCL := ⟨bCL, XrCL, iCL⟩
  have CR : ClX.CMet K cF (.type "type") "read" pCR fCR := ⟨bCR, XrCR, iCR⟩
  have hT : Meth K cF "text" fMT := ⟨bMT, iMT, FMT.kp⟩
  have hO : Meth K cF "opt" fMO := ⟨bMO, iMO, FMO.kp⟩
  have hA : Meth K cF "__and__" fMA := ⟨bMA, iMA, FMA.kp⟩
  have hR : Meth K cF "__or__" fMR := ⟨bMR, iMR, FMR.kp⟩
  have FL' := FL
  obtain ⟨oc, od, kV, doc, pm, an, cdv, ct, osl, ez, _, _⟩ := FL.ex
  subst ez
  refine ⟨PySem.W.fnOf "law" "law" (defArgs sLaw) (defBody sLaw) (defScope sLaw) .none kV doc pm an cdv ct, fun s v => .of_eq rfl, fun base _ _ => ?_⟩
  have GPo := ok_pool3 (P := P) (w := w) (mg := mg) (base := base) FPo y_int
  have GD := ok_draw3 (P := P) (w := w) (mg := mg) (base := base) FD y_int
  have GWd := ok_word (P := P) (w := w) (mg := mg) (base := base) FWd GD FD.kp qD mD y_range
  have GWs := ok_words (P := P) (w := w) (mg := mg) (base := base) FWs GWd FWd.kp qWd mWd y_range y_str
  have GW := ok_world (P := P) (w := w) (mg := mg) (base := base) FW GD FD.kp qD mD GWs FWs.kp qWs mWs
  have GPa := ok_pat3 (P := P) (w := w) (mg := mg) (base := base) FPa GD FD.kp qD mD y_len y_range y_tuple
  have GSh := ok_shape (P := P) (w := w) (mg := mg) (base := base) FSh FSh.kp qSh mSh GD FD.kp qD mD GPa FPa.kp qPa mPa y_range 8
  have GN := ok_isN (P := P) (w := w) (mg := mg) (base := base) FN g0 y_isinstance y_str y_len
  have GV := ok_isV (P := P) (w := w) (mg := mg) (base := base) FV GN FN.kp qN mN y_isinstance y_str
  have GP := ok_isP (P := P) (w := w) (mg := mg) (base := base) FP GN FN.kp qN mN GV FV.kp qV mV g1 y_isinstance y_tuple y_len
  have GX := ok_ptx (P := P) (w := w) (mg := mg) (base := base) FX
  have GR := ok_rd (P := P) (w := w) (mg := mg) (base := base) FR GP FP.kp qP mP GX FX.kp qX mX
  have GMI := ok_initF (P := P) (w := w) (mg := mg) (base := base) FMI T
  have GCL := ok_lotF (P := P) (w := w) (mg := mg) (base := base) FCL M GMI qMI GP FP.kp qP mP y_sorted y_tuple y_set
  have GMA := ok_andF (P := P) (w := w) (mg := mg) (base := base) FMA M GMI qMI mC
  have GMR := ok_orF (P := P) (w := w) (mg := mg) (base := base) FMR M GMI qMI mC
  have GMO := ok_optF (P := P) (w := w) (mg := mg) (base := base) FMO M GMI qMI mC
  have GT1 := ok_textF (P := P) (w := w) (mg := mg) (base := base) FMT T hT qMT GX FX.kp qX mX 1
  have GT21 := ok_textF (P := P) (w := w) (mg := mg) (base := base) FMT T hT qMT GX FX.kp qX mX 21
  have GSF := ok_sgF (P := P) (w := w) (mg := mg) (base := base) FSF mS DS y_len PySem.F.excBase_ValueError QB mB kxB rB
  have GLF := ok_ltF (P := P) (w := w) (mg := mg) (base := base) (B := cB) FLF T mC GR FR.kp qR mR RR CL GCL qCL hT GT1 qMT y_len PySem.F.excBase_ValueError QB mB kxB rB
  have GFF := ok_foF (P := P) (w := w) (mg := mg) (base := base) FFF FFF.kp qFF mFF GLF FLF.kp qLF mLF GSF FSF.kp qSF mSF g2 y_len mC M GMI qMI PySem.F.excBase_ValueError QB mB kxB rB 20
  have GCR := ok_rdF (P := P) (w := w) (mg := mg) (base := base) FCR GFF FFF.kp qFF mFF y_len PySem.F.excBase_ValueError QB mB kxB rB
  have GLT := ok_llt (P := P) (w := w) (mg := mg) (base := base) FLT y_sorted y_set
  have GTx := ok_ltxt (P := P) (w := w) (mg := mg) (base := base) FTx FTx.kp qTx mTx GLT FLT.kp qLT mLT 8
  have GLo := ok_llots (P := P) (w := w) (mg := mg) (base := base) FLo FLo.kp qLo mLo y_list 8
  have GFo := ok_lform (P := P) (w := w) (mg := mg) (base := base) FFo FFo.kp qFo mFo T mC RR CL GCL qCL hO GMO qMO sf hA GMA qMA hR GMR qMR 8
  have GNm := ok_lnm (P := P) (w := w) (mg := mg) (base := base) FNm y_len
  have GRP := ok_lrp (P := P) (w := w) (mg := mg) (base := base) FRP GNm FNm.kp qNm mNm y_tuple y_len
  have GRL := ok_lrl (P := P) (w := w) (mg := mg) (base := base) FRL GRP FRP.kp qRP mRP y_sorted y_set
  have GRd := ok_lrd (P := P) (w := w) (mg := mg) (base := base) FRd FRd.kp qRd mRd GRL FRL.kp qRL mRL y_len 20
  have GME := ok_eqF (P := P) (w := w) (mg := mg) (base := base) FME T IC mC y_isinstance bME iME qME 9
  have GTo := ok_lto (P := P) (w := w) (mg := mg) (base := base) FTo T GCR RR CR qCR hT GT21 qMT mC mB te
  have GBt := ok_bt (P := P) (w := w) (mg := mg) (base := base) FBt GD FD.kp qD mD y_len y_int
  exact ok_law FL' GPo FPo.kp qPo mPo GD FD.kp qD mD GW FW.kp qW mW GSh FSh.kp qSh mSh GTx FTx.kp qTx mTx GFo FFo.kp qFo mFo GBt FBt.kp qBt mBt GTo FTo.kp qTo mTo GRd FRd.kp qRd mRd GLo FLo.kp qLo mLo GLT FLT.kp qLT mLT T mC hT GT21 qMT bME iME GME qME RR CR GCR qCR kCR y_len y_range
theorem walk {l : PySem.W.OpenLaw} {q : Program} {loose : List Str} {XP : (Str → Option Value) → Heap → Prop} {YP : World → Heap → Prop} {d : DefRec} {K : Params → PySem.W.Frag}
    (hn : l.most = some 63) (hdf : d.params.defaults = []) (hY : ∀ (w : World) (h : Heap), YP w h → (K w.params).In h)
    (F : ∀ (w : World) (mg : Str → Option Value) (fa : Addr) (h : Heap), (K w.params).In h → h.Ns mainGlobals mg → mg d.name = some (.ref fa) →
      ∃ fd : FuncData, (∀ (s : Shared) (u : Value), BindsTo s fd ⟨[u], []⟩ [("_law_script", u)]) ∧
        ∀ base : Heap, (K w.params).In base → base.Ns mainGlobals mg → FnOk l.prog w (K w.params) mg base CX0 29 fa fd ["_law_script"] (spLaw (K w.params))) :
    PySem.W.WalkO q loose XP YP l.row.toRowW d [] (fun f vs => PySem.call f vs) :=
  L2.walk_ofB (n := 63) (k := 29) (x := "_law_script") (CX := fun _ => CX0) (sp := fun w => spLaw (K w.params)) hn (by decide) hdf ⟨rfl, by decide, by decide⟩ hY F
    (fun _ _ a ns hl hb _ hS => ⟨a, ns, rfl, hS, hl, hb, fun _ => rfl⟩) fun _ _ _ _ _ z => z
end L2.LawH
set_option Elab.async false
open PySem PySem.W PyProof.Rows
set_option maxRecDepth 100000 in
set_option maxHeartbeats 0 in
theorem PySem.Challenge.cw_fullestrows_k31_texts_of_forms_holds : PySem.Challenge.rw_fullestrows_k31_texts_of_forms.Holds := by
  w_on; o_law; k_head; (case hw => w_witness2)
  k_fill
  refine L2.LawH.walk (l := PySem.Challenge.rw_fullestrows_k31_texts_of_forms) rfl rfl (fun w h Y => PySem.W.kIn_of Y) ?F
  case F =>
    intro w mg fa h KX G hmg
    refine' L2.LawH.all_mk KX G hmg ?bPo ?EPo ?bD ?ED ?bWd ?EWd ?bWs ?EWs ?bW ?EW ?bPa ?EPa ?bSh ?ESh ?bFo ?EFo ?bLo ?ELo ?bNm ?ENm ?bRP ?ERP ?bLT ?ELT ?bTx ?ETx ?bRL ?ERL ?bRd ?ERd ?bTo ?ETo ?bBt ?EBt ?bN ?EN ?bV ?EV ?bP ?EP ?bX ?EX ?bR ?ER ?bFF ?EFF ?bSF ?ESF ?bLF ?ELF ?bL ?EL ?bC ?bB ?bMI ?EMI ?iMI ?bMA ?EMA ?iMA ?bMR ?EMR ?iMR ?bMO ?EMO ?iMO ?bME ?EME ?iME ?bMT ?EMT ?iMT ?rd ?rga ?bCL ?XrCL ?iCL ?ECL ?bCR ?XrCR ?iCR ?ECR ?pg ?hd ?po ?sa ?mk ?kc ?nS ?nH ?nW ?sf ?ha ?hn ?htk ?hm ?exB ?txB ?kxB ?ixB ?sxB ?QB ?bS ?DS ?z_int ?z_str ?z_len ?z_range ?z_tuple ?z_list ?z_sorted ?z_isinstance ?z_set ?c0 ?c1 ?c2
    (case bPo => k_is)
    (case EPo => exact ⟨_, L2.fun_mk (by k_is) (by k_is) (by k_is)⟩)
    (case bD => k_is)
    (case ED => exact ⟨_, L2.fun_mk (by k_is) (by k_is) (by k_is)⟩)
    (case bWd => k_is)
    (case EWd => exact ⟨_, L2.fun_mk (by k_is) (by k_is) (by k_is)⟩)
    (case bWs => k_is)
    (case EWs => exact ⟨_, L2.fun_mk (by k_is) (by k_is) (by k_is)⟩)
    (case bW => k_is)
    (case EW => exact ⟨_, L2.fun_mk (by k_is) (by k_is) (by k_is)⟩)
    (case bPa => k_is)
    (case EPa => exact ⟨_, L2.fun_mk (by k_is) (by k_is) (by k_is)⟩)
    (case bSh => k_is)
    (case ESh => exact ⟨_, L2.fun_mk (by k_is) (by k_is) (by k_is)⟩)
    (case bFo => k_is)
    (case EFo => exact ⟨_, L2.fun_mk (by k_is) (by k_is) (by k_is)⟩)
    (case bLo => k_is)
    (case ELo => exact ⟨_, L2.fun_mk (by k_is) (by k_is) (by k_is)⟩)
    (case bNm => k_is)
    (case ENm => exact ⟨_, L2.fun_mk (by k_is) (by k_is) (by k_is)⟩)
    (case bRP => k_is)
    (case ERP => exact ⟨_, L2.fun_mk (by k_is) (by k_is) (by k_is)⟩)
    (case bLT => k_is)
    (case ELT => exact ⟨_, L2.fun_mk (by k_is) (by k_is) (by k_is)⟩)
    (case bTx => k_is)
    (case ETx => exact ⟨_, L2.fun_mk (by k_is) (by k_is) (by k_is)⟩)
    (case bRL => k_is)
    (case ERL => exact ⟨_, L2.fun_mk (by k_is) (by k_is) (by k_is)⟩)
    (case bRd => k_is)
    (case ERd => exact ⟨_, L2.fun_mk (by k_is) (by k_is) (by k_is)⟩)
    (case bTo => k_is)
    (case ETo => exact ⟨_, L2.fun_mk (by k_is) (by k_is) (by k_is)⟩)
    (case bBt => k_is)
    (case EBt => exact ⟨_, L2.fun_mk (by k_is) (by k_is) (by k_is)⟩)
    (case bN => k_is)
    (case EN => exact ⟨_, L2.fun_mk (by k_is) (by k_is) (by k_is)⟩)
    (case bV => k_is)
    (case EV => exact ⟨_, L2.fun_mk (by k_is) (by k_is) (by k_is)⟩)
    (case bP => k_is)
    (case EP => exact ⟨_, L2.fun_mk (by k_is) (by k_is) (by k_is)⟩)
    (case bX => k_is)
    (case EX => exact ⟨_, L2.fun_mk (by k_is) (by k_is) (by k_is)⟩)
    (case bR => k_is)
    (case ER => exact ⟨_, L2.fun_mk (by k_is) (by k_is) (by k_is)⟩)
    (case bFF => k_is)
    (case EFF => exact ⟨_, L2.fun_mk (by k_is) (by k_is) (by k_is)⟩)
    (case bSF => k_is)
    (case ESF => exact ⟨_, L2.fun_mk (by k_is) (by k_is) (by k_is)⟩)
    (case bLF => k_is)
    (case ELF => exact ⟨_, L2.fun_mk (by k_is) (by k_is) (by k_is)⟩)
    (case bL => k_is)
    (case EL => exact ⟨_, L2.fun_mk (by k_is) (by k_is) (by k_is)⟩)
    (case bC => k_is)
    (case bB => k_is)
    (case bMI => k_is)
    (case EMI => exact ⟨_, L2.fun_mk (by k_is) (by k_is) (by k_is)⟩)
    (case iMI => k_is)
    (case bMA => k_is)
    (case EMA => exact ⟨_, L2.fun_mk (by k_is) (by k_is) (by k_is)⟩)
    (case iMA => k_is)
    (case bMR => k_is)
    (case EMR => exact ⟨_, L2.fun_mk (by k_is) (by k_is) (by k_is)⟩)
    (case iMR => k_is)
    (case bMO => k_is)
    (case EMO => exact ⟨_, L2.fun_mk (by k_is) (by k_is) (by k_is)⟩)
    (case iMO => k_is)
    (case bME => k_is)
    (case EME => exact ⟨_, L2.fun_mk (by k_is) (by k_is) (by k_is)⟩)
    (case iME => k_is)
    (case bMT => k_is)
    (case EMT => exact ⟨_, L2.fun_mk (by k_is) (by k_is) (by k_is)⟩)
    (case iMT => k_is)
    (case rd => k_is)
    (case rga => k_is)
    (case bCL => k_is)
    (case XrCL => exact ⟨_, by k_is⟩)
    (case iCL => k_is)
    (case ECL => exact ⟨_, L2.fun_mk (by k_is) (by k_is) (by k_is)⟩)
    (case bCR => k_is)
    (case XrCR => exact ⟨_, by k_is⟩)
    (case iCR => k_is)
    (case ECR => exact ⟨_, L2.fun_mk (by k_is) (by k_is) (by k_is)⟩)
    (case pg => k_is)
    (case hd => k_is)
    (case po => k_is)
    (case sa => k_is)
    (case mk => k_is)
    (case kc => k_is)
    (case nS => k_is)
    (case nH => k_is)
    (case nW => k_is)
    (case sf => k_is)
    (case ha => k_is)
    (case hn => k_is)
    (case htk => k_is)
    (case hm => k_is)
    (case exB => k_is)
    (case txB => k_is)
    (case kxB => k_is)
    (case ixB => k_is)
    (case sxB => k_is)
    (case QB => k_exc)
    (case bS => k_is)
    (case DS => exact L2.LawH.sgt_mk (by k_is))
    (case z_int => k_is)
    (case z_str => k_is)
    (case z_len => k_is)
    (case z_range => k_is)
    (case z_tuple => k_is)
    (case z_list => k_is)
    (case z_sorted => k_is)
    (case z_isinstance => k_is)
    (case z_set => k_is)
    (case c0 => k_is)
    (case c1 => k_is)
    (case c2 => k_is)
