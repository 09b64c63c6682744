import PyProof.Rows.All
import Wide.All
import OpenK.AllK
import Wide.FinOn
import HandS.ForMost
import HandS.TupSets
import KE.KeyNested
import KE.KDictKeyed
import HandS.Strs
import KE.SortData
import KE.SortCalls
import PyProof.FactsAll.tuple_2
import HandS.SetTxt0
import HandS.Deep
import HandS.SetBool
import HandS.Set
import HandS.SetKeys
import HandS.Comp
import HandS.DictComp
import HandS.More
import HandS.EndBits
import HandS.IsInst
import HandS.StrMore
import HandS.FStr
import HandS.Star
import PyProof.ListMulRoad
import HandS.TupAny
import HandS.TupMul
import HandS.ForExc
import HandS.Walk
import HandS.OwnEq
import HandS.Defaults
import PyProof.NeKinds
import HandS.ListEq
import HandS.DeepEq
import HandS.Exc
import HandS.TryMany
import HandS.SuiteRaise
import HandS.RaiseFrom
import HandS.HotCalls
import HandS.ExcCtx
import HandS.ExcInit
import HandS.ExcInitHot
import HandS.WordsExc
import KE.KTryMore
import HandS.Property
import HandS.ClsMeth
import HandS.ExcOwn
import KE.GoesEnum
import HandS.Zip
import HandS.ListItems
import KE.KItemsList
import KE.KDictZip
import KE.GoesZip
import KE.GoesMore
import PyProof.ListNew
import HandS.Rev
import KE.KOwnIter
import HandS.Codes
import KE.KIsAll
import HandS.List
import HandS.Style
import HandS.Conv
import HandS.MakeKw
import PyProof.ExcBaseAll.ValueError
import PySem.Challenge.RW_fullestrows_k22_texts_of_questions
set_option Elab.async false
set_option linter.all false
set_option maxRecDepth 100000
set_option maxHeartbeats 4000000
/-! Sets whose members are tuples, nested as they may be: what is asked of a member while it is sought and laid. -/
namespace L2.NSet
open PySem PySem.Spec PyProof.Rows
section
variable {P : Program} {w : World}
def ClsAt (P : Program) (w : World) (n : Nat) (s : Shared) (v : Value) : Prop := ∀ (A : Around) (E : Value → Shared → Prop) (Q : Bool → Shared → Prop), Q false s → wpAny (model P w) A (ofAClassStatement n v) Q E s
theorem ClsAt.flat {n : Nat} {s : Shared} {v : Value} (h : ∀ a, v ≠ .ref a) : ClsAt P w n s v := fun A E Q q => by
  have e : ofAClassStatement n v = pure false := by
    cases v with
    | ref a => exact absurd rfl (h a)
    | _ => cases n <;> rfl
  rw [e]
  exact wpAny_pure q
theorem ClsAt.tup {n : Nat} {s : Shared} {a : Addr} {o : Obj} {vs : Array Value} {m : Nat} (ho : s.heap.get? a = some o) (hc : o.cls = .type "tuple") (hd : o.data = .seq vs m) (hq : ∀ v ∈ vs.toList, ClsAt P w n s v) :
    ClsAt P w (n + 1) s (.ref a) := fun A E Q h => by
  unfold ofAClassStatement
  refine wpAny_bind (wpAny_typeOf ⟨o, ho, hc⟩ ?_)
  dsimp only
  have e : (("tuple" : String) == "tuple") = true := by decide
  simp only [e, if_true, Bool.not_true, Bool.false_eq_true, if_false]
  refine wpAny_bind (wpAny_pure ?_)
  simp only [Bool.not_true, Bool.false_eq_true, if_false]
  refine wpAny_bind (wpAny_seqItems ho hd ?_)
  dsimp only
  refine wpAny_bind ?_
  show wpAny _ _ (forIn vs _ _) _ _ s
  rw [← Array.forIn_toList]
  refine wpAny_forIn_list _ (fun rest r s1 => r.1 = none ∧ s1 = s ∧ ∀ v ∈ rest, ClsAt P w n s v) _ (fun v rest r s1 I => ?_) (fun r s1 I => ?_) _ _ ⟨rfl, rfl, hq⟩
  · obtain ⟨i1, rfl, i2⟩ := I
    refine wpAny_bind (i2 v List.mem_cons_self _ _ _ ?_)
    simp only [Bool.false_eq_true, if_false]
    exact wpAny_pure ⟨rfl, rfl, fun u m => i2 u (List.mem_cons_of_mem _ m)⟩
  · obtain ⟨r1, r2⟩ := r
    obtain ⟨i1, rfl, _⟩ := I
    simp only at i1
    subst i1
    exact wpAny_pure h
mutual
theorem cls_key : ∀ (k : NestedKey) (v : Value) (n : Nat) (s : Shared), NestedIs s.heap k v → k.depth ≤ n → ClsAt P w n s v
  | .none, _, _, _, x, _ => by cases x; exact .flat fun a e => nomatch e
  | .num i, _, _, _, x, _ => by cases x <;> exact .flat fun a e => nomatch e
  | .text y, _, _, _, x, _ => by cases x; exact .flat fun a e => nomatch e
  | .tup ks, _, n, s, x, hn => by
    cases x with
    | tup hg hc hd hk =>
      simp only [NestedKey.depth] at hn
      match n, hn with
      | n + 1, hn => exact .tup hg hc hd (cls_keys ks _ n s hk (Nat.le_of_succ_le_succ hn))
theorem cls_keys : ∀ (ks : List NestedKey) (vs : List Value) (n : Nat) (s : Shared), NestedAll s.heap ks vs → NestedKey.depthAll ks ≤ n → ∀ v ∈ vs, ClsAt P w n s v
  | [], _, _, _, x, _, v, hv => by cases x; cases hv
  | k :: ks, _, n, s, x, hn, v, hv => by
    cases x with
    | cons x1 x2 =>
      simp only [NestedKey.depthAll] at hn
      rcases List.mem_cons.mp hv with rfl | hv
      · exact cls_key k _ n s x1 (Nat.le_trans (Nat.le_max_left _ _) hn)
      · exact cls_keys ks _ n s x2 (Nat.le_trans (Nat.le_max_right _ _) hn) v hv
end
/-- hash by value: some answer -/
def HbvAt (P : Program) (w : World) (n : Nat) (s : Shared) (v : Value) : Prop := ∀ (A : Around) (E : Value → Shared → Prop) (Q : Bool → Shared → Prop), (∀ b, Q b s) → wpAny (model P w) A (hashByValue n v) Q E s
theorem HbvAt.tup {n : Nat} {s : Shared} {a : Addr} {o : Obj} {vs : Array Value} {m : Nat} (ho : s.heap.get? a = some o) (hc : o.cls = .type "tuple") (hd : o.data = .seq vs m) (hq : ∀ v ∈ vs.toList, HbvAt P w n s v) :
    HbvAt P w (n + 1) s (.ref a) := fun A E Q h => by
  unfold hashByValue
  refine wpAny_bind (wpAny_specialOf ⟨o, ho, hc⟩ F.slot_tuple_hash.lookup ?_)
  show wpAny _ _ (seqItems? (.ref a) >>= _) _ _ s
  refine wpAny_bind (wpAny_seqItems ho hd ?_)
  refine wpAny_bind ?_
  show wpAny _ _ (forIn vs _ _) _ _ s
  rw [← Array.forIn_toList]
  refine wpAny_forIn_list _ (fun rest r s1 => r.1 = none ∧ s1 = s ∧ ∀ v ∈ rest, HbvAt P w n s v) _ (fun v rest r s1 I => ?_) (fun r s1 I => ?_) _ _ ⟨rfl, rfl, hq⟩
  · obtain ⟨i1, rfl, i2⟩ := I
    refine wpAny_bind (i2 v List.mem_cons_self _ _ _ fun b => ?_)
    cases b with
    | true =>
      simp only [Bool.not_true, Bool.false_eq_true, if_false]
      exact wpAny_pure ⟨rfl, rfl, fun u m => i2 u (List.mem_cons_of_mem _ m)⟩
    | false =>
      simp only [Bool.not_false, if_true]
      exact wpAny_pure (wpAny_pure (h _))
  · obtain ⟨r1, r2⟩ := r
    obtain ⟨i1, rfl, _⟩ := I
    simp only at i1
    subst i1
    exact wpAny_pure (h _)
theorem HbvAt.flat {n : Nat} {s : Shared} {v : Value} (b : Bool) (e : hashByValue n v = pure b) : HbvAt P w n s v := fun A E Q q => by
  rw [e]
  exact wpAny_pure (q b)
mutual
theorem hbv_key : ∀ (k : NestedKey) (v : Value) (n : Nat) (s : Shared), NestedIs s.heap k v → k.depth ≤ n → HbvAt P w n s v
  | .none, _, n, _, x, _ => by cases x; exact .flat true (by cases n <;> rfl)
  | .num i, _, n, _, x, _ => by cases x <;> exact .flat true (by cases n <;> rfl)
  | .text y, _, n, _, x, _ => by cases x; exact .flat false (by cases n <;> rfl)
  | .tup ks, _, n, s, x, hn => by
    cases x with
    | tup hg hc hd hk =>
      simp only [NestedKey.depth] at hn
      match n, hn with
      | n + 1, hn => exact .tup hg hc hd (hbv_keys ks _ n s hk (Nat.le_of_succ_le_succ hn))
theorem hbv_keys : ∀ (ks : List NestedKey) (vs : List Value) (n : Nat) (s : Shared), NestedAll s.heap ks vs → NestedKey.depthAll ks ≤ n → ∀ v ∈ vs, HbvAt P w n s v
  | [], _, _, _, x, _, v, hv => by cases x; cases hv
  | k :: ks, _, n, s, x, hn, v, hv => by
    cases x with
    | cons x1 x2 =>
      simp only [NestedKey.depthAll] at hn
      rcases List.mem_cons.mp hv with rfl | hv
      · exact hbv_key k _ n s x1 (Nat.le_trans (Nat.le_max_left _ _) hn)
      · exact hbv_keys ks _ n s x2 (Nat.le_trans (Nat.le_max_right _ _) hn) v hv
end
end
section
variable {P : Program} {w : World} {A : Around} {E : Value → Shared → Prop} {s : Shared}
/-- the tuple at b is the key k -/
abbrev Kb (P : Program) (w : World) (h : Heap) (k : NestedKey) (b : Addr) : Prop := (nestedKind P w).is h k b
theorem kb_at {h h' : Heap} {k : NestedKey} {b : Addr} (x : Kb P w h k b) (hk : ∀ c o vs n, h.get? c = some o → o.data = .seq vs n → h'.get? c = some o) : Kb P w h' k b := ⟨NestedIs.at hk _ _ x.1, x.2⟩
theorem kb_but {h h' : Heap} {k : NestedKey} {a b : Addr} {o : Obj} {es : Array (Int × Value)} {ep : Nat} {t : SetTable} (x : Kb P w h k b) (ho : h.get? a = some o) (hd : o.data = .set es ep t) (hs : Heap.SameBut a h h') : Kb P w h' k b :=
  kb_at x fun c u vs n e1 e2 => (hs.2 c fun z => by
    rw [z, ho] at e1
    cases e1
    rw [hd] at e2
    cases e2).trans e1
theorem seen_key {k : NestedKey} {b : Addr} {Q : Bool → Shared → Prop} (hk : Kb P w s.heap k b) {ys : List Value} (hy : ∀ y ∈ ys, ∃ k2 c, y = Value.ref c ∧ Kb P w s.heap k2 c) (h : Q false s) :
    wpAny (model P w) A (searchCouldBeSeen (.ref b) ys) Q E s := by
  unfold searchCouldBeSeen
  refine wpAny_bind ?_
  refine wpAny_forIn_list _ (fun rest r s1 => r.1 = none ∧ s1 = s ∧ ∀ y ∈ rest, ∃ k2 c, y = Value.ref c ∧ Kb P w s.heap k2 c) _ (fun v rest r s1 I => ?_) (fun r s1 I => ?_) _ _ ⟨rfl, rfl, hy⟩
  · obtain ⟨i1, rfl, i2⟩ := I
    obtain ⟨k2, c, rfl, hc⟩ := i2 v List.mem_cons_self
    have more : ∀ y ∈ rest, ∃ k2 c, y = Value.ref c ∧ Kb P w s1.heap k2 c := fun u m => i2 u (List.mem_cons_of_mem _ m)
    dsimp only
    by_cases very : (b == c || (carriedByValue (.ref b) && carriedByValue (.ref c))) = true
    · exact wp_if_pos very (wpAny_pure ⟨rfl, rfl, more⟩)
    · refine wp_if_neg very (wpAny_bind ((nestedKind P w).quiet hk ?_))
      simp only [Bool.not_true, Bool.false_eq_true, if_false]
      refine wpAny_bind ((nestedKind P w).quiet hc ?_)
      simp only [Bool.not_true, Bool.false_eq_true, if_false]
      refine wpAny_bind (cls_key k _ 8 _ hk.1 hk.2 _ _ _ ?_)
      simp only [Bool.false_eq_true, if_false]
      refine wpAny_bind (cls_key k2 _ 8 _ hc.1 hc.2 _ _ _ ?_)
      simp only [Bool.false_eq_true, if_false]
      exact wpAny_pure ⟨rfl, rfl, more⟩
  · obtain ⟨r1, r2⟩ := r
    obtain ⟨i1, rfl, _⟩ := I
    simp only at i1
    subst i1
    exact wpAny_pure h
end
end L2.NSet
set_option Elab.async false
set_option linter.all false
set_option maxRecDepth 100000
set_option maxHeartbeats 4000000
/-! Sets whose members are tuples, nested as they may be: seeking a member in the table. -/
namespace L2.NSet
open PySem PySem.Spec PyProof.Rows
/-- the rows of the table: hash and address of each member -/
abbrev Mem : Type := Addr × NestedKey
def rowN (w : World) (p : Mem) : Int × Value := (p.2.hash w, Value.ref p.1)
structure Tab (P : Program) (w : World) (h : Heap) (a : Addr) (L : List Mem) (es : Array (Int × Value)) (ep : Nat) (t : SetTable) : Prop where
  here : ∃ o, h.get? a = some o ∧ o.ExactSet ∧ o.data = .set es ep t
  rows : es.toList = L.map (rowN w)
  lay : TabOk t (L.map fun p => p.2.hash w)
  once : (L.map (·.2)).Nodup
  each : ∀ p ∈ L, Kb P w h p.2 p.1
  told : w.params.followText "set-order" = true ∨ t.led = true
  free : L.length * 5 < t.mask * 3
  few : L.length < 64
section
variable {P : Program} {w : World} {A : Around} {E : Value → Shared → Prop} {s : Shared} {a : Addr} {L : List Mem} {es : Array (Int × Value)} {ep : Nat} {t : SetTable}
theorem rows_size (h : es.toList = L.map (rowN w)) : es.size = L.length := by
  rw [← Array.length_toList, h, List.length_map]
theorem rows_at (h : es.toList = L.map (rowN w)) {i : Nat} {p : Mem} (e : L[i]? = some p) : es[i]? = some (p.2.hash w, Value.ref p.1) := by
  rw [← Array.getElem?_toList, h, List.getElem?_map, e]
  rfl
theorem Tab.size (R : Tab P w s.heap a L es ep t) : es.size = L.length := rows_size R.rows
theorem Tab.fits (R : Tab P w s.heap a L es ep t) : t.fits es.size = true := by
  have h1 := R.lay.sz
  have h2 := R.size
  have h3 := R.free
  rw [List.length_map] at h1
  unfold SetTable.fits SetTable.fill
  rw [R.lay.dm, Bool.and_eq_true, beq_iff_eq, decide_eq_true_eq]
  show t.place.size = es.size ∧ t.place.size + 0 ≤ t.mask
  omega
/-- where the way of a hash begins -/
abbrev top0 (m : Nat) (hx : Int) : SetTable.Probe := runAt m (SetTable.bits hx % (m + 1)) (SetTable.bits hx)
theorem top_dummy (m : Nat) (hx : Int) (c : Nat) : (nth m (top0 m hx) c).dummy = none := by
  have key : ∀ (n : Nat) (p : SetTable.Probe), p.dummy = none → (nth m p n).dummy = none := fun n => by
    induction n with
    | zero => exact fun p h => h
    | succ n ih =>
      refine fun p h => ih (adv m p) ?_
      unfold adv
      split <;> exact h
  exact key c _ rfl
/-- the rest behind a candidate whose answer is known -/
theorem rest_of (R : Tab P w s.heap a L es ep t) {x : Addr} {k : NestedKey} (hx : Kb P w s.heap k x) (hu : A.units + 8 < cLine) {i j : Nat} {p : Mem} (hp : L[i]? = some p) (hi : t.place.toList[i]? = some j) {f : Nat} {nx : SetTable.Probe} {Q : SetFound → Shared → Prop}
    (yes : p.2 = k → Q (.there none) s) (no : p.2 ≠ k → wpAny (model P w) A (setSearchFrom a (.ref x) (k.hash w) true f (some nx)) Q E s) :
    wpAny (model P w) A (searchRest a (.ref x) (k.hash w) true f es t j i nx) Q E s := by
  obtain ⟨o, ho, ox, od⟩ := R.here
  have mp : p ∈ L := List.mem_of_getElem? hp
  unfold searchRest
  rw [rows_at R.rows hp]
  dsimp only
  refine wpAny_bind (wpAny_holding ((nestedKind P w).eqBool hu (R.each p mp) hx ?_))
  refine wpAny_bind (wpAny_setState_of ho od R.fits ?_)
  dsimp only
  by_cases e : p.2 = k
  · exact wp_if_pos (by simp [e]) (wpAny_pure (yes e))
  · refine wp_if_neg (by simp [e]) ?_
    rw [sameMem]
    dsimp only
    simp only [if_true, slot_live R.lay.ris hi, rows_at R.rows hp]
    refine wpAny_bind (wpAny_isSame_ref_self (wpAny_bind (wpAny_pure ?_)))
    simp only [if_true]
    exact wp_if_neg (by simp [e]) (no e)
theorem seek (R : Tab P w s.heap a L es ep t) {x : Addr} {k : NestedKey} (hx : Kb P w s.heap k x) (hu : A.units + 8 < cLine) {N : Nat} (nf : N < 10 * SetTable.turns t.mask)
    (n0 : way t.mask (k.hash w) N ∉ t.place.toList) (nb : ∀ c, c < N → way t.mask (k.hash w) c ∈ t.place.toList) {Q : SetFound → Shared → Prop}
    (yes : k ∈ L.map (·.2) → Q (.there none) s) (no : k ∉ L.map (·.2) → Q (.free (way t.mask (k.hash w) N) false) s) :
    ∀ (f c : Nat) (st : Option SetTable.Probe), st.getD (t.probeStart (k.hash w)) = nth t.mask (top0 t.mask (k.hash w)) c → c ≤ N → N - c < f →
      (∀ (i : Nat) p, L[i]? = some p → p.2 = k → ∃ d, c ≤ d ∧ d < N ∧ t.place.toList[i]? = some (way t.mask (k.hash w) d)) →
      wpAny (model P w) A (setSearchFrom a (.ref x) (k.hash w) true f st) Q E s
  | 0, _, _, _, _, z, _ => absurd z (Nat.not_lt_zero _)
  | f + 1, c, st, hst, hc, hf, ahead => by
    obtain ⟨o, ho, ox, od⟩ := R.here
    rw [setSearchFrom_succ]
    refine wpAny_bind (wpAny_setState_of ho od R.fits ?_)
    dsimp only
    have gw : ¬ t.gaveWay = true := by
      unfold SetTable.gaveWay
      rw [mask_odd R.lay.mok]
      decide
    refine wp_if_neg gw ?_
    have sh : ∀ q, nth t.mask (nth t.mask (top0 t.mask (k.hash w)) c) q = nth t.mask (top0 t.mask (k.hash w)) (c + q) := fun q => (nth_add t.mask c _ q).symm
    have ej : ∀ q, (nth t.mask (nth t.mask (top0 t.mask (k.hash w)) c) q).j = way t.mask (k.hash w) (c + q) := fun q => congrArg SetTable.Probe.j (sh q)
    have cN : c + (N - c) = N := by omega
    have G := go_spec t R.lay.ris R.lay.dm (fun i => (es[i]?.map (·.1)).getD 0) (k.hash w) (10 * SetTable.turns t.mask) (N - c) _ (top_dummy t.mask (k.hash w) c) (by omega)
      (fun q hq => by rw [ej]; exact nb (c + q) (by omega)) (by rw [ej, cN]; exact n0)
    have hat : ∀ (i : Nat) p, L[i]? = some p → (fun i => (es[i]?.map (·.1)).getD 0) i = p.2.hash w := fun i p hp => by
      show (es[i]?.map (·.1)).getD 0 = _
      rw [rows_at R.rows hp]
      rfl
    rcases G with ⟨q, i, hq, hi, hh, skip, pr⟩ | ⟨skip, pr⟩
    · rw [ej] at hi
      have pr2 : t.probe (fun i => (es[i]?.map (·.1)).getD 0) (k.hash w) (st.getD (t.probeStart (k.hash w))) = some (.candidate (way t.mask (k.hash w) (c + q)) i (nth t.mask (top0 t.mask (k.hash w)) (c + (q + 1)))) := by
        rw [hst, ← ej, ← sh]
        exact pr
      rw [pr2]
      dsimp only
      have il : i < L.length := by
        have h1 : i < t.place.toList.length := (List.getElem?_eq_some_iff.mp hi).1
        have h2 := R.lay.sz
        rw [List.length_map] at h2
        rw [Array.length_toList] at h1
        omega
      obtain ⟨p, hp⟩ : ∃ p, L[i]? = some p := ⟨_, List.getElem?_eq_getElem il⟩
      have go : wpAny (model P w) A (searchRest a (.ref x) (k.hash w) true f es t (way t.mask (k.hash w) (c + q)) i (nth t.mask (top0 t.mask (k.hash w)) (c + (q + 1)))) Q E s := by
        refine rest_of R hx hu hp hi (fun e => yes (List.mem_map.mpr ⟨p, List.mem_of_getElem? hp, e⟩)) fun ne => ?_
        refine seek R hx hu nf n0 nb yes no f (c + (q + 1)) _ rfl (by omega) (by omega) fun i2 p2 h2 k2 => ?_
        obtain ⟨d, d1, d2, d3⟩ := ahead i2 p2 h2 k2
        have hk2 : (fun i => (es[i]?.map (·.1)).getD 0) i2 = k.hash w := (hat i2 p2 h2).trans (by rw [k2])
        refine ⟨d, ?_, d2, d3⟩
        rcases Nat.lt_trichotomy d (c + q) with z | z | z
        · exact absurd hk2 (skip (d - c) i2 (by omega) (by rw [ej, show c + (d - c) = d by omega]; exact d3))
        · rw [z] at d3
          have s1 := slot_live R.lay.ris hi
          have s2 := slot_live R.lay.ris d3
          rw [s1] at s2
          injection s2 with s2
          rw [← s2, hp] at h2
          cases h2
          exact absurd k2 ne
        · omega
      by_cases led : t.led = true
      · exact wp_if_neg (by simp [led]) go
      · refine wp_if_pos (by simp [led]) (wpAny_bind (seen_key hx (fun y hy => ?_) ?_))
        · obtain ⟨e, he, rfl⟩ := List.mem_map.mp hy
          have he2 : e ∈ es.toList := by
            have : e ∈ es ∧ e.1 = k.hash w := by simpa using he
            simpa using this.1
          rw [R.rows] at he2
          obtain ⟨p2, m2, rfl⟩ := List.mem_map.mp he2
          exact ⟨p2.2, p2.1, rfl, R.each p2 m2⟩
        · exact wp_if_neg (by decide) go
    · have pr2 : t.probe (fun i => (es[i]?.map (·.1)).getD 0) (k.hash w) (st.getD (t.probeStart (k.hash w))) = some (.empty (way t.mask (k.hash w) N) none) := by
        have e2 : way t.mask (k.hash w) N = (nth t.mask (nth t.mask (top0 t.mask (k.hash w)) c) (N - c)).j := by rw [ej, cN]
        rw [hst, e2]
        exact pr
      rw [pr2]
      dsimp only
      refine wpAny_pure (no fun m => ?_)
      obtain ⟨p, mp, ek⟩ := List.mem_map.mp m
      obtain ⟨i, hi, e⟩ := List.getElem_of_mem mp
      have hp : L[i]? = some p := by rw [List.getElem?_eq_getElem hi, e]
      obtain ⟨d, d1, d2, d3⟩ := ahead i p hp ek
      exact skip (d - c) i (by omega) (by rw [ej, show c + (d - c) = d by omega]; exact d3) ((hat i p hp).trans (by rw [ek]))
theorem seek_all (R : Tab P w s.heap a L es ep t) {x : Addr} {k : NestedKey} (hx : Kb P w s.heap k x) (hu : A.units + 8 < cLine) {Q : SetFound → Shared → Prop}
    (yes : k ∈ L.map (·.2) → Q (.there none) s)
    (no : ∀ N, k ∉ L.map (·.2) → way t.mask (k.hash w) N ∉ t.place.toList → (∀ c, c < N → way t.mask (k.hash w) c ∈ t.place.toList) → Q (.free (way t.mask (k.hash w) N) false) s) :
    wpAny (model P w) A (setSearch a (.ref x) (k.hash w) true) Q E s := by
  have fr := R.free
  obtain ⟨N, nf, n0, nb⟩ := R.lay.first (by rw [List.length_map]; omega) (k.hash w)
  have small : N < 100000 := by
    have : 10 * SetTable.turns t.mask ≤ 1420 := by
      unfold SetTable.turns
      rcases R.lay.mok with e | e | e <;> omega
    omega
  unfold setSearch
  refine seek R hx hu nf n0 nb yes (fun m => no N m n0 nb) 100000 0 none rfl (Nat.zero_le _) (by omega) fun i p hp hk => ?_
  have hi : (L.map fun p => p.2.hash w)[i]? = some (k.hash w) := by
    rw [List.getElem?_map, hp, ← hk]
    rfl
  have il : i < t.place.toList.length := by
    have h1 : i < L.length := (List.getElem?_eq_some_iff.mp hp).1
    have h2 := R.lay.sz
    rw [List.length_map] at h2
    rw [Array.length_toList]
    omega
  have hj := List.getElem?_eq_getElem il
  obtain ⟨c, hc, e⟩ := R.lay.before n0 hi hj
  exact ⟨c, Nat.zero_le _, hc, by rw [hj, e]⟩
end
end L2.NSet
set_option Elab.async false
set_option linter.all false
set_option maxRecDepth 100000
set_option maxHeartbeats 4000000
/-! Sets whose members are tuples, nested as they may be: laying a member down. -/
namespace L2.NSet
open PySem PySem.Spec PyProof.Rows
section
variable {P : Program} {w : World} {A : Around} {E : Value → Shared → Prop} {s : Shared} {a : Addr} {L : List Mem} {es : Array (Int × Value)} {ep : Nat} {t : SetTable}
/-- rows picked by places -/
theorem picked (h : es.toList = L.map (rowN w)) {l : List Nat} (hl : ∀ i ∈ l, i < L.length) : ∃ M : List Mem, l.filterMap (fun i => es[i]?) = M.map (rowN w) ∧ M = l.filterMap (fun i => L[i]?) ∧
    (M.map fun p => p.2.hash w) = l.map fun i => (es.map (·.1)).getD i 0 := by
  induction l with
  | nil => exact ⟨[], rfl, rfl, rfl⟩
  | cons i l ih =>
    obtain ⟨M, m1, m2, m3⟩ := ih fun j m => hl j (List.mem_cons_of_mem _ m)
    have li := hl i List.mem_cons_self
    have hp : L[i]? = some L[i] := List.getElem?_eq_getElem li
    have he := rows_at h hp
    refine ⟨L[i] :: M, ?_, ?_, ?_⟩
    · rw [List.filterMap_cons_some he, m1]
      rfl
    · rw [List.filterMap_cons_some hp, m2]
    · rw [List.map_cons, List.map_cons, m3]
      have e5 : (es.map (·.1))[i]? = some ((L[i]).2.hash w) := by
        rw [Array.getElem?_map, he]
        rfl
      simp [Array.getD_eq_getD_getElem?, e5]
theorem all_places (L : List Mem) : (List.range L.length).filterMap (fun i => L[i]?) = L := by
  have key : ∀ n, n ≤ L.length → (List.range n).filterMap (fun i => L[i]?) = L.take n := fun n => by
    induction n with
    | zero => exact fun _ => rfl
    | succ n ih =>
      intro hn
      have lt : n < L.length := hn
      have hp : L[n]? = some L[n] := List.getElem?_eq_getElem lt
      rw [List.range_succ, List.filterMap_append, ih (Nat.le_of_lt lt), List.take_succ, hp, List.filterMap_cons_some hp]
      rfl
  rw [key L.length (Nat.le_refl _), List.take_length]
theorem reordered (h : es.toList = L.map (rowN w)) {order : Array Nat} (pm : order.toList.Perm (List.range L.length)) :
    ∃ M : List Mem, (order.filterMap (es[·]?)).toList = M.map (rowN w) ∧ M.Perm L ∧ (M.map fun p => p.2.hash w) = order.toList.map fun i => (es.map (·.1)).getD i 0 := by
  obtain ⟨M, m1, m2, m3⟩ := picked h (l := order.toList) fun i m => List.mem_range.mp (pm.mem_iff.mp m)
  refine ⟨M, ?_, ?_, m3⟩
  · rw [Array.toList_filterMap]
    exact m1
  · have q := pm.filterMap fun i => L[i]?
    rw [all_places, ← m2] at q
    exact q
/-- the table laid anew -/
theorem widen {o : Obj} (ho : s.heap.get? a = some o) (ox : o.ExactSet) (od : o.data = .set es ep t) (hr : es.toList = L.map (rowN w)) (hz : t.place.size = es.size) (hd : t.dummies = #[]) (hf : es.size ≤ t.mask)
    (nd : (L.map (·.2)).Nodup) (each : ∀ p ∈ L, Kb P w s.heap p.2 p.1) (told : w.params.followText "set-order" = true ∨ t.led = true) (few : L.length < 64) {want M : Nat}
    (hw : SetTable.sizeAbove want - 1 = M) (hM : MaskOk M) (h128 : SetTable.sizeAbove want ≤ 128) (hroom : L.length * 5 < M * 3) {Q : Unit → Shared → Prop}
    (hQ : ∀ h2 L2 es2 ep2 t2, Heap.SameBut a s.heap h2 → Tab P w h2 a L2 es2 ep2 t2 → L2.Perm L → Q () { s with heap := h2 }) : wpAny (model P w) A (setRelay a want) Q E s := by
  have sz := rows_size hr
  have fits : t.fits es.size = true := by
    unfold SetTable.fits SetTable.fill
    rw [hd, Bool.and_eq_true, beq_iff_eq, decide_eq_true_eq]
    show t.place.size = es.size ∧ t.place.size + 0 ≤ t.mask
    omega
  obtain ⟨t2, order, e, pm, T, em, el, e3, e4⟩ := relaid_ok t (hs := es.map (·.1)) (wanted := want) hw hM (by rw [Array.size_map, sz]; omega)
  rw [Array.size_map, sz] at pm
  obtain ⟨M2, r1, r2, r3⟩ := reordered hr pm
  rw [← r3] at T
  have z2 : (order.filterMap (es[·]?)).size = es.size := by rw [rows_size r1, r2.length_eq, sz]
  rw [setRelay_eq]
  refine wpAny_bind (wpAny_setState_of ho od fits ?_)
  dsimp only
  refine wp_if_neg (by rw [sizeLine_eq]; omega) ?_
  rw [e]
  dsimp only
  refine wpAny_bind (wp_if_neg (by rw [z2]; simp) (wpAny_pure ?_))
  dsimp only
  refine wpAny_storeSet_of ho od ?_ (by rw [z2, sz, sizeLine_eq]; omega)
  have sb := Heap.SameBut.update s.heap a (Obj.putSet (order.filterMap (es[·]?)) t2)
  refine hQ _ M2 (order.filterMap (es[·]?)) (ep + 1) t2 sb ⟨⟨_, store_at ho od, ⟨ox.1, ox.2.1, ox.2.2⟩, rfl⟩, r1, T, (r2.map (·.2)).nodup_iff.mpr nd, fun p m => kb_but (each p (r2.mem_iff.mp m)) ho od sb, by rw [el]; exact told, ?_, by rw [r2.length_eq]; exact few⟩ r2
  rw [r2.length_eq, em]
  exact hroom
theorem put_mid (L : List Mem) (p : Nat) (x : Mem) : (L.take p ++ x :: L.drop p).Perm (x :: L) := by
  have h : (L.take p ++ x :: L.drop p).Perm (x :: (L.take p ++ L.drop p)) := List.perm_middle
  rwa [List.take_append_drop] at h
/-- adding a tuple -/
theorem lay (R : Tab P w s.heap a L es ep t) {x : Addr} {k : NestedKey} (hx : Kb P w s.heap k x) (hu : A.units + 8 < cLine) (few : L.length + 1 < 64) {Q : Bool → Shared → Prop}
    (hQ : ∀ b h2 L2 es2 ep2 t2, Heap.SameBut a s.heap h2 → Tab P w h2 a L2 es2 ep2 t2 → (k ∈ L.map (·.2) → L2 = L) → (k ∉ L.map (·.2) → L2.Perm ((x, k) :: L)) → Q b { s with heap := h2 }) :
    wpAny (model P w) A (setAddHashed a (.ref x) (k.hash w)) Q E s := by
  obtain ⟨o, ho, ox, od⟩ := R.here
  have sz := R.size
  have fr := R.free
  unfold setAddHashed
  refine wpAny_holding ?_
  rw [show (100000 : Nat) = 99999 + 1 from rfl, setAddHashedIn_succ]
  refine wpAny_bind (wpAny_setState_of ho od R.fits ?_)
  dsimp only
  refine wp_if_neg (by simp [byScan, Value.scannable]) ?_
  refine wpAny_bind (seek_all R hx hu (fun m => ?_) fun N m n0 nb => ?_)
  · dsimp only
    exact wpAny_pure (hQ false s.heap L es ep t (Heap.SameBut.refl a s.heap) R (fun _ => rfl) fun z => absurd m z)
  dsimp only
  refine wpAny_bind (wpAny_setState_of ho od R.fits ?_)
  dsimp only
  obtain ⟨q1, q2, q3, q4, q5, _, _, _, q9⟩ := R.lay.put n0 nb
  generalize t.put (way t.mask (k.hash w) N) = pt at q1 q3 q4 q5 q9 ⊢
  obtain ⟨t1, p⟩ := pt
  dsimp only at q1 q3 q4 q5 q9 ⊢
  subst q1
  have mid : ∀ b : Bool, wpAny (model P w) A (do
      storeSet a (SetTable.insertAt es (SetTable.below t.place (way t.mask (k.hash w) N)) (k.hash w, Value.ref x)) (if b = true then t1 else { t1 with plain := false })
      if (!false && (if b = true then t1 else { t1 with plain := false }).tooFull) = true then setRelay a (SetTable.grown (es.size + 1))
      return true) Q E s := fun b => by
    have hin : (SetTable.insertAt es (SetTable.below t.place (way t.mask (k.hash w) N)) (k.hash w, Value.ref x)).toList = (L.take (SetTable.below t.place (way t.mask (k.hash w) N)) ++ (x, k) :: L.drop (SetTable.below t.place (way t.mask (k.hash w) N))).map (rowN w) := by
      rw [SetTable.toList_insertAt, R.rows, List.map_append, List.map_cons, List.map_take, List.map_drop]
      rfl
    generalize SetTable.below t.place (way t.mask (k.hash w) N) = p at q2 q3 hin ⊢
    have pm := put_mid L p (x, k)
    have len : (L.take p ++ (x, k) :: L.drop p).length = L.length + 1 := pm.length_eq
    have hh : (L.take p ++ (x, k) :: L.drop p).map (fun p => p.2.hash w) = (L.map fun p => p.2.hash w).take p ++ k.hash w :: (L.map fun p => p.2.hash w).drop p := by
      rw [List.map_append, List.map_cons, List.map_take, List.map_drop]
    rw [← hh] at q3
    have nd : ((L.take p ++ (x, k) :: L.drop p).map (·.2)).Nodup := (pm.map (·.2)).nodup_iff.mpr (List.nodup_cons.mpr ⟨m, R.once⟩)
    have z1 := rows_size hin
    rw [len] at z1
    generalize SetTable.insertAt es p (k.hash w, Value.ref x) = es1 at hin z1 ⊢
    generalize L.take p ++ (x, k) :: L.drop p = L1 at pm len q3 nd hin
    obtain ⟨u, hu2, u3, u4, u5, u6⟩ : ∃ u : SetTable, (if b = true then t1 else { t1 with plain := false }) = u ∧ TabOk u (L1.map fun p => p.2.hash w) ∧ u.mask = t.mask ∧ u.led = t.led ∧ u.fill = L.length + 1 := by
      cases b
      · exact ⟨{ t1 with plain := false }, rfl, ⟨q3.ris, q3.dm, q3.sz, q3.mok, q3.bd, q3.reach⟩, q4, q5, by rw [List.length_map] at q9; exact q9⟩
      · exact ⟨t1, rfl, q3, q4, q5, by rw [List.length_map] at q9; exact q9⟩
    rw [hu2]
    refine wpAny_bind (wpAny_storeSet_of ho od ?_ (by rw [z1, sizeLine_eq]; omega))
    have sb : Heap.SameBut a s.heap (s.heap.update a (Obj.putSet es1 u)) := Heap.SameBut.update ..
    have ho1 := store_at (es' := es1) (t' := u) ho od
    generalize s.heap.update a (Obj.putSet es1 u) = h1 at sb ho1 ⊢
    have each : ∀ p ∈ L1, Kb P w h1 p.2 p.1 := fun p mp => by
      rcases List.mem_cons.mp (pm.mem_iff.mp mp) with e | mp
      · rw [e]
        exact kb_but hx ho od sb
      · exact kb_but (R.each p mp) ho od sb
    have told : w.params.followText "set-order" = true ∨ u.led = true := by rw [u5]; exact R.told
    by_cases full : u.tooFull = true
    · refine wp_if_pos (by simp [full]) (wpAny_bind ?_)
      have tight : (L.length + 1) * 5 ≥ u.mask * 3 := by
        have h := full
        unfold SetTable.tooFull at h
        rw [decide_eq_true_eq, u6] at h
        exact h
      rw [sz]
      have z2 : u.place.size = es1.size := by
        have h := u3.sz
        rw [List.length_map, len] at h
        rw [h, z1]
      have two : (t.mask = 7 ∧ L.length = 4) ∨ (t.mask = 31 ∧ L.length = 18) := by
        rcases R.lay.mok with e | e | e
        · rw [u4, e] at tight
          rw [e] at fr
          exact .inl ⟨e, by omega⟩
        · rw [u4, e] at tight
          rw [e] at fr
          exact .inr ⟨e, by omega⟩
        · rw [u4, e] at tight
          omega
      have go : ∀ M, SetTable.sizeAbove (SetTable.grown (L.length + 1)) - 1 = M → MaskOk M → SetTable.sizeAbove (SetTable.grown (L.length + 1)) ≤ 128 → (L.length + 1) * 5 < M * 3 →
          wpAny (model P w) A (setRelay a (SetTable.grown (L.length + 1))) (fun _ s2 => wpAny (model P w) A (pure true) Q E s2) E { s with heap := h1 } := fun M g1 g2 g3 g4 =>
        widen (s := { s with heap := h1 }) ho1 ⟨ox.1, ox.2.1, ox.2.2⟩ rfl hin z2 u3.dm (by rw [z1, u4]; rcases two with ⟨e, e2⟩ | ⟨e, e2⟩ <;> omega) nd each told (by rw [len]; exact few) g1 g2 g3 (by rw [len]; exact g4)
          fun h2 L2 es2 ep2 t2 sb2 R2 pm2 => wpAny_pure (hQ true h2 L2 es2 ep2 t2 (sb.trans sb2) R2 (fun z => absurd z m) fun _ => pm2.trans pm)
      rcases two with ⟨_, e2⟩ | ⟨_, e2⟩
      · exact go 31 (by rw [e2, size_20]) (.inr (.inl rfl)) (by rw [e2, size_20]; decide) (by omega)
      · exact go 127 (by rw [e2, size_76]) (.inr (.inr rfl)) (by rw [e2, size_76]; decide) (by omega)
    · refine wp_if_neg (by simp [full]) (wpAny_pure (hQ true h1 L1 es1 (ep + 1) u sb ⟨⟨_, ho1, ⟨ox.1, ox.2.1, ox.2.2⟩, rfl⟩, hin, u3, nd, each, told, ?_, by rw [len]; exact few⟩ (fun z => absurd z m) fun _ => pm))
      have h := full
      unfold SetTable.tooFull at h
      rw [decide_eq_true_eq, u6] at h
      rw [len]
      omega
  by_cases pl : t1.plain = true
  · refine wp_if_pos pl (wpAny_bind (hbv_key k _ 8 _ hx.1 hx.2 _ _ _ fun b => ?_))
    exact mid b
  · refine wp_if_neg pl (wpAny_bind (wpAny_pure ?_))
    exact mid true
end
end L2.NSet
set_option Elab.async false
set_option linter.all false
set_option maxRecDepth 100000
set_option maxHeartbeats 4000000
/-! set(tuples): a list or a tuple of tuples goes into a new set. -/
namespace L2.NSet
open PySem PySem.Spec PyProof.Rows
section
variable {P : Program} {w : World} {A : Around} {E : Value → Shared → Prop} {s : Shared}
/-- what stands in the set when the first i have gone in -/
structure In (ks : List Mem) (i : Nat) (L : List Mem) : Prop where
  from_ : ∀ p ∈ L, p ∈ ks.take i
  to_ : ∀ p ∈ ks.take i, p.2 ∈ L.map (·.2)
  le : L.length ≤ i
theorem In.zero (ks : List Mem) : In ks 0 [] := ⟨fun p h => (nomatch h), fun p h => (by simp at h), Nat.le_refl _⟩
theorem In.next {ks L M : List Mem} {i : Nat} {x : Mem} (g : In ks i L) (h : ks[i]? = some x) (old : x.2 ∈ L.map (·.2) → M = L) (new : x.2 ∉ L.map (·.2) → M.Perm (x :: L)) : In ks (i + 1) M := by
  have tk : ks.take (i + 1) = ks.take i ++ [x] := by
    rw [List.take_succ, h]
    rfl
  by_cases m : x.2 ∈ L.map (·.2)
  · rw [old m]
    refine ⟨fun p mp => ?_, fun p mp => ?_, Nat.le_succ_of_le g.le⟩
    · rw [tk]
      exact List.mem_append_left _ (g.from_ p mp)
    · rw [tk] at mp
      rcases List.mem_append.mp mp with z | z
      · exact g.to_ p z
      · rw [List.mem_singleton.mp z]
        exact m
  · have pm := new m
    refine ⟨fun p mp => ?_, fun p mp => ?_, ?_⟩
    · rw [tk]
      rcases List.mem_cons.mp (pm.mem_iff.mp mp) with e | z
      · rw [e]
        exact List.mem_append_right _ (List.mem_singleton.mpr rfl)
      · exact List.mem_append_left _ (g.from_ p z)
    · rw [(pm.map (·.2)).mem_iff, List.map_cons]
      rw [tk] at mp
      rcases List.mem_append.mp mp with z | z
      · exact List.mem_cons_of_mem _ (g.to_ p z)
      · rw [List.mem_singleton.mp z]
        exact List.mem_cons_self
    · rw [pm.length_eq, List.length_cons]
      exact Nat.succ_le_succ g.le
theorem Tab.keep {h h2 : Heap} {a : Addr} {L : List Mem} {es : Array (Int × Value)} {ep : Nat} {t : SetTable} (R : Tab P w h a L es ep t) (ha : ∀ o, h.get? a = some o → h2.get? a = some o) (each : ∀ p ∈ L, Kb P w h2 p.2 p.1) : Tab P w h2 a L es ep t :=
  let ⟨o, ho, r⟩ := R.here
  ⟨⟨o, ha o ho, r⟩, R.rows, R.lay, R.once, each, R.told, R.free, R.few⟩
abbrev newSet (w : World) : Obj := { cls := .type "set", dict := none, data := .set #[] 0 (.fresh 0 0 (!w.params.followText "set-order")) }
theorem Tab.new {h : Heap} {a : Addr} (ho : h.get? a = some (newSet w)) : Tab P w h a [] #[] 0 (.fresh 0 0 (!w.params.followText "set-order")) where
  here := ⟨_, ho, ⟨rfl, rfl, rfl⟩, rfl⟩
  rows := rfl
  lay := ⟨List.Pairwise.nil, rfl, rfl, .inl rfl, fun x hx => (nomatch hx), fun i h j hi => (by simp at hi)⟩
  once := List.nodup_nil
  each := fun p hp => nomatch hp
  told := by
    show _ ∨ (!w.params.followText "set-order") = true
    cases w.params.followText "set-order"
    · exact .inr rfl
    · exact .inl rfl
  free := by
    show 0 * 5 < 7 * 3
    decide
  few := by
    show 0 < 64
    decide
theorem kb_keep {h h2 : Heap} {k : NestedKey} {b : Addr} (x : Kb P w h k b) (hk : ∀ c o, h.get? c = some o → h2.get? c = some o) : Kb P w h2 k b := kb_at x fun c o _ _ e _ => hk c o e
/-- the loop of set.update -/
theorem loopN {I : Addr} {fp wr : List Addr} {G : Array GenState → Array GenState → Prop} {n : Nat} {Pv : Nat → Value → Prop} {St : Nat → Shared → Prop} {R : Result → Shared → Prop}
    (W : WalksS P w A.in1 I fp wr G n Pv St) (S : Addr) (nf : S ∉ fp) (ks : List Mem) (hn : n = ks.length) (few : ks.length < 64) (val : ∀ i v, Pv i v → ∃ p, ks[i]? = some p ∧ v = .ref p.1)
    (g0 : Heap) (each : ∀ p ∈ ks, Kb P w g0 p.2 p.1) (s0 : g0.get? S = none) (w0 : ∀ b ∈ wr, g0.get? b = none) (hu : A.in1.units + 8 < cLine) :
    ∀ (m i : Nat) (s : Shared), n - i = m → i ≤ n → St i s → (∀ b o, g0.get? b = some o → s.heap.get? b = some o) → (∃ L es ep t, Tab P w s.heap S L es ep t ∧ In ks i L) →
      (∀ s2 L es ep t, Moved (S :: wr) G s s2 → Tab P w s2.heap S L es ep t → In ks n L → (∀ b o, g0.get? b = some o → s2.heap.get? b = some o) → R (.ok (.ret .none)) s2) →
      codeAny (model P w) A (.builtin "set.update.loop" ⟨[.ref S, .ref I], []⟩) R s := by
  have nw : S ∉ wr := fun h => nf (W.sub _ h)
  have wider : ∀ b ∈ wr, b ∈ S :: wr := fun b m => List.mem_cons_of_mem _ m
  have hold : ∀ {s1 s2 : Shared}, Moved wr G s1 s2 → (∀ b o, g0.get? b = some o → s1.heap.get? b = some o) → ∀ b o, g0.get? b = some o → s2.heap.get? b = some o := fun mv k b o e =>
    mv.heap b o (fun m => by rw [w0 b m] at e; cases e) (k b o e)
  intro m
  induction m with
  | zero =>
    rintro i s hm hi hst kp ⟨L, es, ep, t, R0, g⟩ hR
    obtain rfl : i = n := by omega
    refine codeAny_builtin F.entry_set_update_loop ?_
    rw [Around.under_plainId F.plain_set_update_loop _] <;> show wpAny _ A.in1 (pyNext (.ref I) >>= _) _ _ s
    refine wpAny_bind (W.done s _ _ hst fun s2 mv => ?_)
    have kp2 := hold mv kp
    exact wpAny_pure (hR s2 L es ep t (mv.mono wider) (R0.keep (fun o e => mv.heap S o nw e) fun p mp => kb_keep (each p (List.mem_of_mem_take (g.from_ p mp))) kp2) g kp2)
  | succ m ih =>
    rintro i s hm hi hst kp ⟨L, es, ep, t, R0, g⟩ hR
    have lt : i < n := by omega
    refine codeAny_builtin F.entry_set_update_loop ?_
    rw [Around.under_plainId F.plain_set_update_loop _] <;> show wpAny _ A.in1 (pyNext (.ref I) >>= _) _ _ s
    refine wpAny_bind (W.item i s _ _ lt hst fun v s2 hv hst2 mv => ?_)
    obtain ⟨p, hp, rfl⟩ := val i v hv
    have kp2 := hold mv kp
    have R2 : Tab P w s2.heap S L es ep t := R0.keep (fun o e => mv.heap S o nw e) fun q mq => kb_keep (each q (List.mem_of_mem_take (g.from_ q mq))) kp2
    have hx : Kb P w s2.heap p.2 p.1 := kb_keep (each p (List.mem_of_getElem? hp)) kp2
    show wpAny _ A.in1 (holding [Value.ref p.1] (setAdd S (.ref p.1)) >>= _) _ _ s2
    unfold setAdd
    refine wpAny_bind (wpAny_holding (wpAny_holding (wpAny_bind ((nestedKind P w).pyHash hu hx ?_))))
    refine lay (s := { s2 with toks := s2.toks + p.2.draws }) R2 hx hu (by have := g.le; omega) fun b h3 L3 es3 ep3 t3 sb R3 c1 c2 => ?_
    have kp3 : ∀ b o, g0.get? b = some o → h3.get? b = some o := fun b o e => (sb.2 b fun z => by rw [z, s0] at e; cases e).trans (kp2 b o e)
    refine wpAny_pure ⟨plainId_quiet F.plain_set_update_loop _, ih (i + 1) _ (by omega) lt (W.frame _ s2 _ _ hst2 (Nat.le_add_right _ _) fun b mb o e => ?_) kp3 ⟨L3, es3, ep3, t3, R3, g.next hp c1 c2⟩
      fun s4 L4 es4 ep4 t4 mv4 R4 g4 kp4 => hR s4 L4 es4 ep4 t4 (Moved.trans W.gtrans ((mv.mono wider).then_heap (Nat.le_add_right _ _) fun b o nb e => ?_) mv4) R4 g4 kp4⟩
    · rw [sb.2 b fun z => nf (by rw [← z]; exact mb)]
      exact e
    · rw [sb.2 b fun z => nb (by rw [z]; exact List.mem_cons_self)]
      exact e

set_option maxHeartbeats 16000000 in
/-- set(a list of tuples) -/
theorem call_set_list {l : Addr} {items : Array Value} (ks : List Mem) {Q : Value → Shared → Prop} (hh : A.handled = none) (hl : s.heap.IsList l items) (it : items.toList = ks.map fun p => Value.ref p.1)
    (each : ∀ p ∈ ks, Kb P w s.heap p.2 p.1) (few : ks.length < 64) (hu : A.units + 20 < cLine)
    (h : ∀ (h2 : Heap) (tk : Nat) L es ep t, Tab P w h2 s.heap.objs.size L es ep t → In ks ks.length L → (∀ b o, s.heap.get? b = some o → h2.get? b = some o) → Q (.ref s.heap.objs.size) { s with heap := h2, toks := tk }) :
    wpAny (model P w) A (call (.type "set") [.ref l]) Q E s := by
  have isz : items.size = ks.length := by rw [← Array.length_toList, it, List.length_map]
  obtain ⟨mc, mt, mmro⟩ := F.called_set.mro
  have mmade := F.called_set.made
  have msub := F.called_set.sub
  refine wpAny_call (codeAny_of_tree ?_) <;> show wpAny _ _ (callAny (.type "set") _) _ _ _
  refine wpAny_pure ⟨Code.quiet_builtin _ (by decide +kernel), codeAny_builtin F.entry_type_call ?_⟩ <;> rw [Around.under_plain (weight_type_call_type "set" [.ref l] []) rfl]
  have m1 := F.called_set.notType
  have m2 := F.called_set.canCreate
  have m3 := F.typeCall_set_1 (.ref l)
  repeat (any_goals (first | assumption | wp_step))
  refine codeAny_mono (code_set_led1 (.ref l) (E := E) (Q₁ := fun obj s1 => obj = .ref s.heap.objs.size ∧ s1 = { s with heap := s.heap.push (newSet w) }) ⟨rfl, rfl⟩) fun r s1 hr => ?_
  match r, hr with
  | .error e, hr => exact hr
  | .ok (.ret obj), hr =>
    obtain ⟨rfl, rfl⟩ := hr
    have atS : (s.heap.push (newSet w)).get? s.heap.objs.size = some (newSet w) := Heap.get?_push_size _ rfl
    have tyS : Shared.TypeIs { s with heap := s.heap.push (newSet w) } (.ref s.heap.objs.size) "set" := ⟨_, atS, rfl⟩
    have m4 := F.called_set.init.lookup
    have m5 := F.called_set.init.bind (.ref s.heap.objs.size)
    repeat (any_goals (first | assumption | wp_step))
    refine codeAny_mono (codeAny_call_builtin (R := wants (fun r s2 => r = .none ∧ ∃ h2 tk L es ep t, s2 = { s with heap := h2, toks := tk } ∧ Tab P w h2 s.heap.objs.size L es ep t ∧ In ks ks.length L ∧
        (∀ b o, s.heap.get? b = some o → h2.get? b = some o)) E) F.called_set.init.plain F.entry_set_init (check_set_init_1 tyS ?_)) fun r2 s2 hr2 => ?_
    · obtain ⟨⟨_, odict, _, oslots⟩, hol, hcl, nl, hdl⟩ := hl
      simp only at hcl hdl
      subst hcl; subst hdl
      have hol2 : (s.heap.push (newSet w)).get? l = some { cls := .type "list", dict := odict, data := .seq items nl, slots := oslots } := Heap.get?_push_of_some _ hol
      have m6 := F.sub_list_set
      have m7 := F.sub_list_frozenset
      have m8 : (Value.type "list" == Value.type "dict") = false := by decide
      have hl1 : (s.heap.push (newSet w)).IsList l items := ⟨_, hol2, rfl, nl, rfl⟩
      unfold Builtin.«set.__init__» noKeywords Builtin.Frozenset.updateFrom
      generalize hPI : pyIter = PI
      wp_walk
      subst hPI
      refine wpAny_pyIter_list hl1 (wpAny_bind (wpAny_runValue ?_))
      have lS : l < s.heap.objs.size := Heap.lt_size hol
      have zS : (s.heap.push (newSet w)).objs.size = s.heap.objs.size + 1 := Heap.size_push ..
      have hh3 : A.in1.in1.in1.handled = none := by simp [hh]
      have nI : l ≠ (s.heap.push (newSet w)).objs.size := by rw [zS]; exact Nat.ne_of_lt (Nat.lt_succ_of_lt lS)
      have nf : s.heap.objs.size ∉ [(s.heap.push (newSet w)).objs.size, l] := by
        rw [zS]; simp only [List.mem_cons, List.not_mem_nil, or_false, not_or]
        exact ⟨Nat.ne_of_lt (Nat.lt_succ_self _), Nat.ne_of_gt lS⟩
      have val : ∀ (i : Nat) (v : Value), items[i]? = some v → ∃ p, ks[i]? = some p ∧ v = .ref p.1 := fun i v hv => by
        have q : items.toList[i]? = some v := by rw [Array.getElem?_toList]; exact hv
        rw [it, List.getElem?_map] at q
        obtain ⟨p, hp, e⟩ := Option.map_eq_some_iff.mp q
        exact ⟨p, hp, e.symm⟩
      have out : ∀ b, s.heap.objs.size ≤ b → s.heap.get? b = none := fun b hb => by
        cases q : s.heap.get? b with
        | none => rfl
        | some o => exact absurd (Nat.lt_of_lt_of_le (Heap.lt_size q) hb) (Nat.lt_irrefl _)
      refine loopN ((Walks.list hh3 _ l nI items).toS) s.heap.objs.size nf ks isz few val s.heap each (out _ (Nat.le_refl _)) (fun b mb => out b (by rw [List.mem_singleton.mp mb, zS]; exact Nat.le_succ _))
        (show A.units + 3 + 8 < cLine by omega) (items.size - 0) 0 _ (by omega) (Nat.zero_le _) ⟨⟨_, Heap.get?_push_size _ rfl, rfl, rfl⟩, (hl1.push _)⟩ (fun b o e => Heap.get?_push_of_some _ (Heap.get?_push_of_some _ e)) ?first ?last
      case first => exact ⟨[], #[], 0, _, Tab.new (Heap.get?_push_of_some _ atS), In.zero ks⟩
      case last =>
        rintro ⟨h2, g2, d2, tk2, os2⟩ L es ep t mv R2 g3 kp
        obtain rfl : g2 = s.gens := mv.gens
        obtain rfl : d2 = s.drawn := mv.drawn
        obtain rfl : os2 = s.os := mv.os
        rw [isz] at g3
        exact wpAny_pure (wpAny_pure ⟨rfl, h2, tk2, L, es, ep, t, rfl, R2, g3, kp⟩)
    · match r2, hr2 with
      | .error e, hr2 => exact hr2
      | .ok (.ret r), hr2 =>
        obtain ⟨rfl, h2, tk, L, es, ep, t, rfl, R2, g3, kp⟩ := hr2
        repeat (any_goals (first | assumption | wp_step))
        exact h _ _ _ _ _ _ R2 g3 kp

set_option maxHeartbeats 16000000 in
/-- set(a tuple of tuples) -/
theorem call_set_tuple {l : Addr} {items : Array Value} (ks : List Mem) {Q : Value → Shared → Prop} (hh : A.handled = none) (hl : s.heap.IsTuple l items) (it : items.toList = ks.map fun p => Value.ref p.1)
    (each : ∀ p ∈ ks, Kb P w s.heap p.2 p.1) (few : ks.length < 64) (hu : A.units + 20 < cLine)
    (h : ∀ (h2 : Heap) (tk : Nat) L es ep t, Tab P w h2 s.heap.objs.size L es ep t → In ks ks.length L → (∀ b o, s.heap.get? b = some o → h2.get? b = some o) → Q (.ref s.heap.objs.size) { s with heap := h2, toks := tk }) :
    wpAny (model P w) A (call (.type "set") [.ref l]) Q E s := by
  have isz : items.size = ks.length := by rw [← Array.length_toList, it, List.length_map]
  obtain ⟨mc, mt, mmro⟩ := F.called_set.mro
  have mmade := F.called_set.made
  have msub := F.called_set.sub
  refine wpAny_call (codeAny_of_tree ?_) <;> show wpAny _ _ (callAny (.type "set") _) _ _ _
  refine wpAny_pure ⟨Code.quiet_builtin _ (by decide +kernel), codeAny_builtin F.entry_type_call ?_⟩ <;> rw [Around.under_plain (weight_type_call_type "set" [.ref l] []) rfl]
  have m1 := F.called_set.notType
  have m2 := F.called_set.canCreate
  have m3 := F.typeCall_set_1 (.ref l)
  repeat (any_goals (first | assumption | wp_step))
  refine codeAny_mono (code_set_led1 (.ref l) (E := E) (Q₁ := fun obj s1 => obj = .ref s.heap.objs.size ∧ s1 = { s with heap := s.heap.push (newSet w) }) ⟨rfl, rfl⟩) fun r s1 hr => ?_
  match r, hr with
  | .error e, hr => exact hr
  | .ok (.ret obj), hr =>
    obtain ⟨rfl, rfl⟩ := hr
    have atS : (s.heap.push (newSet w)).get? s.heap.objs.size = some (newSet w) := Heap.get?_push_size _ rfl
    have tyS : Shared.TypeIs { s with heap := s.heap.push (newSet w) } (.ref s.heap.objs.size) "set" := ⟨_, atS, rfl⟩
    have m4 := F.called_set.init.lookup
    have m5 := F.called_set.init.bind (.ref s.heap.objs.size)
    repeat (any_goals (first | assumption | wp_step))
    refine codeAny_mono (codeAny_call_builtin (R := wants (fun r s2 => r = .none ∧ ∃ h2 tk L es ep t, s2 = { s with heap := h2, toks := tk } ∧ Tab P w h2 s.heap.objs.size L es ep t ∧ In ks ks.length L ∧
        (∀ b o, s.heap.get? b = some o → h2.get? b = some o)) E) F.called_set.init.plain F.entry_set_init (check_set_init_1 tyS ?_)) fun r2 s2 hr2 => ?_
    · obtain ⟨⟨_, odict, _, oslots⟩, hol, hcl, nl, hdl⟩ := hl
      simp only at hcl hdl
      subst hcl; subst hdl
      have hol2 : (s.heap.push (newSet w)).get? l = some { cls := .type "tuple", dict := odict, data := .seq items nl, slots := oslots } := Heap.get?_push_of_some _ hol
      have m6 := F.sub_tuple_set
      have m7 := F.sub_tuple_frozenset
      have m8 : (Value.type "tuple" == Value.type "dict") = false := by decide
      have hl1 : (s.heap.push (newSet w)).IsTuple l items := ⟨_, hol2, rfl, nl, rfl⟩
      unfold Builtin.«set.__init__» noKeywords Builtin.Frozenset.updateFrom
      generalize hPI : pyIter = PI
      wp_walk
      subst hPI
      refine wpAny_pyIter_tuple hl1 (wpAny_bind (wpAny_runValue ?_))
      have lS : l < s.heap.objs.size := Heap.lt_size hol
      have zS : (s.heap.push (newSet w)).objs.size = s.heap.objs.size + 1 := Heap.size_push ..
      have hh3 : A.in1.in1.in1.handled = none := by simp [hh]
      have nI : l ≠ (s.heap.push (newSet w)).objs.size := by rw [zS]; exact Nat.ne_of_lt (Nat.lt_succ_of_lt lS)
      have nf : s.heap.objs.size ∉ [(s.heap.push (newSet w)).objs.size, l] := by
        rw [zS]; simp only [List.mem_cons, List.not_mem_nil, or_false, not_or]
        exact ⟨Nat.ne_of_lt (Nat.lt_succ_self _), Nat.ne_of_gt lS⟩
      have val : ∀ (i : Nat) (v : Value), items[i]? = some v → ∃ p, ks[i]? = some p ∧ v = .ref p.1 := fun i v hv => by
        have q : items.toList[i]? = some v := by rw [Array.getElem?_toList]; exact hv
        rw [it, List.getElem?_map] at q
        obtain ⟨p, hp, e⟩ := Option.map_eq_some_iff.mp q
        exact ⟨p, hp, e.symm⟩
      have out : ∀ b, s.heap.objs.size ≤ b → s.heap.get? b = none := fun b hb => by
        cases q : s.heap.get? b with
        | none => rfl
        | some o => exact absurd (Nat.lt_of_lt_of_le (Heap.lt_size q) hb) (Nat.lt_irrefl _)
      refine loopN ((Walks.tuple hh3 _ l nI items).toS) s.heap.objs.size nf ks isz few val s.heap each (out _ (Nat.le_refl _)) (fun b mb => out b (by rw [List.mem_singleton.mp mb, zS]; exact Nat.le_succ _))
        (show A.units + 3 + 8 < cLine by omega) (items.size - 0) 0 _ (by omega) (Nat.zero_le _) ⟨⟨_, Heap.get?_push_size _ rfl, rfl, rfl⟩, (hl1.push _)⟩ (fun b o e => Heap.get?_push_of_some _ (Heap.get?_push_of_some _ e)) ?first ?last
      case first => exact ⟨[], #[], 0, _, Tab.new (Heap.get?_push_of_some _ atS), In.zero ks⟩
      case last =>
        rintro ⟨h2, g2, d2, tk2, os2⟩ L es ep t mv R2 g3 kp
        obtain rfl : g2 = s.gens := mv.gens
        obtain rfl : d2 = s.drawn := mv.drawn
        obtain rfl : os2 = s.os := mv.os
        rw [isz] at g3
        exact wpAny_pure (wpAny_pure ⟨rfl, h2, tk2, L, es, ep, t, rfl, R2, g3, kp⟩)
    · match r2, hr2 with
      | .error e, hr2 => exact hr2
      | .ok (.ret r), hr2 =>
        obtain ⟨rfl, h2, tk, L, es, ep, t, rfl, R2, g3, kp⟩ := hr2
        repeat (any_goals (first | assumption | wp_step))
        exact h _ _ _ _ _ _ R2 g3 kp
end
end L2.NSet
set_option Elab.async false
set_option linter.all false
set_option maxRecDepth 100000
set_option maxHeartbeats 4000000
/-! Sorting tuples of which some may be empty. -/
namespace L2.SortT
open PySem PySem.Spec PySem.Calls PyProof.Rows PySem.W PySem.SeqAt
section
variable {P : Program} {w : World} {A : Around} {E : Value → Shared → Prop} {s : Shared}
theorem call_tuple_lt {Q : Value → Shared → Prop} {l b : Addr} {items items2 : Array Value} {e r : Nat → Bool} (hl : s.heap.IsTuple l items) (hb : s.heap.IsTuple b items2)
    (he : ∀ j (h1 : j < items.size) (h2 : j < items2.size), EqAt A.in1 s items[j] items2[j] (e j)) (hr : ∀ j (h1 : j < items.size) (h2 : j < items2.size), e j = false → RcLt A.in1 s items[j] items2[j] (r j))
    (h : Q (.bool (firstLt e r (decide (items.size < items2.size)) (List.range (min items.size items2.size)))) s) : wpAny (model P w) A (call (.builtin "tuple.__lt__") [.ref l, .ref b]) Q E s := by
  obtain ⟨⟨c1, d1, p1, s1⟩, ho1, hc1, n1, hd1⟩ := hl
  obtain ⟨⟨c2, d2, p2, s2⟩, ho2, hc2, n2, hd2⟩ := hb
  simp only at hc1 hd1 hc2 hd2
  subst hc1 hd1 hc2 hd2
  exact call_meets F.slot_tuple_lt ⟨_, ho1, rfl⟩ F.entry_tuple_lt (F.args_tuple_lt_2 _ _) (tuple_ltAt l b items items2 n1 n2 d1 d2 s1 s2 e r) ⟨ho1, ho2, he, hr, h⟩
/-- one tuple against another, as tuples of one type are asked -/
theorem oneLt_tup {xs ys : List PyData} {a b : Value} {as bs : List Addr} {Q : Bool → Shared → Prop} (ra : Reads s.heap a (.tuple xs) as) (rb : Reads s.heap b (.tuple ys) bs) (hal : alikeAll xs ys = true)
    (hu : A.units + min (PyData.tuple xs).depth (PyData.tuple ys).depth < cLine) (hq : Q (dataLt (.tuple xs) (.tuple ys)) s) : wpAny (model P w) A (oneLt' true a b) Q E s := by
  cases ra with
  | @tuple l o vs n _ as1 h1 h2 h3 h4 =>
    cases rb with
    | @tuple l2 o2 vs2 n2 _ bs1 k1 k2 k3 k4 =>
      have z1 : vs.size = xs.length := by simpa using SeqAt.ReadsAll.length _ _ _ h4
      have z2 : vs2.size = ys.length := by simpa using SeqAt.ReadsAll.length _ _ _ k4
      rw [dataLt_tuple, ← firstLt_toks xs ys hal, ← z1, ← z2] at hq
      rw [oneLt'_eq]
      simp only [if_true]
      refine wpAny_bind (wpAny_cRoomFor (SeqAt.room_here hu) ?_)
      refine wpAny_bind (wpAny_callSpecialIfBound?_slot (T := "tuple") ⟨_, h1, h2⟩ F.slot_tuple_lt (call_tuple_lt (e := pairEq xs ys) (r := fun j => dataLt (xs.getD j .none) (ys.getD j .none)) ⟨_, h1, h2, _, h3⟩ ⟨_, k1, k2, _, k3⟩
        (fun j j1 j2 => ?_) (fun j j1 j2 hj => ?_) (wpAny_truthy_bool hq)))
      · have q := eqAt_alikeAll xs ys A.in1 s vs.toList vs2.toList _ _ h4 k4 hal (SeqAt.room_in hu) j (by simpa using j1) (by simpa using j2)
        simpa using q
      · have q := rcLt_alikeAll xs ys A.in1 s vs.toList vs2.toList _ _ h4 k4 hal (SeqAt.room_in hu) j (by simpa using j1) (by simpa using j2) hj
        simpa using q
/-- the first items of tuples -/
inductive Fsts (h : Heap) : List Value → List (Option Value) → Prop
  | nil : Fsts h [] []
  | cons {a : Addr} {o : Obj} {xs : Array Value} {n : Nat} {vs : List Value} {os : List (Option Value)} : h.get? a = some o → o.cls = .type "tuple" → o.data = .seq xs n → Fsts h vs os → Fsts h (.ref a :: vs) (xs[0]? :: os)
theorem fsts_of {h : Heap} : ∀ {vs : List Value} {ds : List PyData}, EachIs (fun v d => ∃ as, Reads h v d as) vs ds → (∀ d ∈ ds, ∃ xs, d = .tuple xs) →
    ∃ os, Fsts h vs os ∧ ((os.all fun o => o.isSome) = true → ∀ d ∈ ds, ∃ x r, d = .tuple (x :: r))
  | [], _, .nil, _ => ⟨[], .nil, fun _ d m => nomatch m⟩
  | v :: vs, d :: ds, .cons r e, ht => by
    obtain ⟨os, f, g⟩ := fsts_of e fun d m => ht d (List.mem_cons_of_mem _ m)
    obtain ⟨xs, rfl⟩ := ht d List.mem_cons_self
    obtain ⟨as, r⟩ := r
    cases r with
    | @tuple _ _ vs2 _ _ _ h1 h2 h3 h4 =>
      refine ⟨_, .cons h1 h2 h3 f, fun al d m => ?_⟩
      rw [List.all_cons, Bool.and_eq_true] at al
      rcases List.mem_cons.mp m with rfl | m
      · have z : vs2.size = xs.length := by simpa using SeqAt.ReadsAll.length _ _ _ h4
        have q : 0 < vs2.size := by
          cases k : vs2.size with
          | zero =>
            have e0 : vs2[0]? = none := Array.getElem?_eq_none (by omega)
            rw [e0] at al
            cases al.1
          | succ n => exact Nat.succ_pos n
        cases xs with
        | nil =>
          rw [List.length_nil] at z
          omega
        | cons x r => exact ⟨x, r, rfl⟩
      · exact g al.2 d m
theorem fsts_ask {M : Model} {A : Around} {E : Value → Shared → Prop} : ∀ {vs : List Value} {os : List (Option Value)} {s : Shared} {Q : List (Option Value) → Shared → Prop}, Fsts s.heap vs os → Q os s → wpAny M A (vs.mapM firstOfTuple') Q E s
  | [], _, s, Q, .nil, h => by
    rw [List.mapM_nil]
    exact wpAny_pure h
  | _ :: vs, _, s, Q, .cons (a := a) (o := o) (os := os) h1 h2 h3 t, h => by
    rw [List.mapM_cons]
    refine wpAny_bind ?_
    rw [kas_first_eq]
    refine wpAny_bind (Looks.here (show Looks M s.heap (typeOf (.ref a)) o.cls from (Looks.ld h1).andThen .now) ?_)
    rw [h2, if_neg (by first | decide | simp)]
    refine wpAny_bind (listItems_at h1 h3 (wpAny_pure ?_))
    exact wpAny_bind (fsts_ask (Q := fun bs s2 => wpAny M A (pure (_ :: bs)) Q E s2) t (wpAny_pure h))
theorem looks_tup {h : Heap} {M : Model} : ∀ {vs : List Value} {os : List (Option Value)}, Fsts h vs os → ∀ v ∈ vs, Looks M h (typeOf v) (.type "tuple")
  | _ :: vs, _, .cons h1 h2 h3 t, v, m => by
    rcases List.mem_cons.mp m with rfl | m
    · rw [← h2]
      exact (Looks.ld h1).andThen .now
    · exact looks_tup t v m
/-- what kind of keys they are, where some are empty -/
theorem fsts_kind {vs : List Value} {os : List (Option Value)} {M : Model} {Q : SortKind → Shared → Prop} (f : Fsts s.heap vs os) (ne : vs ≠ []) (no : (os.all fun o => o.isSome) = false)
    (h : Q (if (os[0]?.bind id).isSome = true then general' else oneType') s) : wpAny M A (keyKind' vs.toArray) Q E s := by
  rw [kat_kind_eq, List.mapM_toArray, map_eq_pure_bind]
  refine wpAny_bind (wpAny_bind (fsts_ask f (wpAny_pure ?_)))
  have e1 : (os.toArray.all fun x => x.isSome) = false := by simpa using no
  rw [e1, if_neg Bool.false_ne_true]
  have e2 : os.toArray[0]? = os[0]? := by simp
  rw [e2]
  cases e3 : (os[0]?.bind id).isSome with
  | true =>
    rw [e3, if_pos rfl] at h
    rw [if_pos rfl]
    exact wpAny_pure h
  | false =>
    rw [e3, if_neg Bool.false_ne_true] at h
    rw [if_neg Bool.false_ne_true]
    rw [oneTypeOnly'_eq, List.mapM_toArray, map_eq_pure_bind]
    refine wpAny_bind (wpAny_bind (wpAny_bind (kas_mapM (r := Value.type "tuple") _ (fun v hv Q2 hq => (looks_tup f v hv).here hq) (wpAny_pure ?_))))
    have al : ((List.map (fun _ => Value.type "tuple") vs).toArray.all fun x => x == Value.type "tuple") = true := by
      simp only [List.all_toArray, List.all_map, List.all_eq_true]
      intro _ _
      exact beq_self_eq_true _
    have h0 : (List.map (fun _ => Value.type "tuple") vs).toArray[0]? = some (Value.type "tuple") := by
      cases vs with
      | nil => exact absurd rfl ne
      | cons v vs => simp
    rw [h0]
    simp only [al, if_true]
    exact wpAny_pure (wpAny_pure h)
/-- tuples that read as alike data can be sorted -/
theorem sorts_tups {vs : List Value} {ds : List PyData} (e : EachIs (fun v d => ∃ as, Reads s.heap v d as) vs ds) (hal : AllAlike ds) (ht : ∀ d ∈ ds, ∃ xs, d = .tuple xs) (hu : ∀ d, d ∈ ds → A.units + d.depth < cLine) :
    SortsAt P w A s (dataKind s.heap ds) vs := by
  obtain ⟨os, f, g⟩ := fsts_of e ht
  cases al : (os.all fun o => o.isSome) with
  | true => exact SortsAt.data e hal (.inl (g al)) hu
  | false =>
    refine ⟨fun v hv => ?_, if (os[0]?.bind id).isSome = true then general' else oneType', ?_, fun h2 E Q hq => ?_⟩
    · obtain ⟨d, hd, as, r⟩ := e.left v hv
      exact ⟨_, dataKind_some hal hd r⟩
    · intro E x y a b Q ha hb hq
      obtain ⟨d, as, hd, ra, rfl⟩ := dataKind_inv ha
      obtain ⟨d2, as2, hd2, rb, rfl⟩ := dataKind_inv hb
      obtain ⟨xs, rfl⟩ := ht d hd
      obtain ⟨ys, rfl⟩ := ht d2 hd2
      have hdd := hal _ hd _ hd2
      have room : A.units + min (PyData.tuple xs).depth (PyData.tuple ys).depth < cLine := Nat.lt_of_le_of_lt (Nat.add_le_add_left (Nat.min_le_left _ _) _) (hu _ hd)
      split
      · show wpAny (model P w) A (oneLt' false x y) Q E s
        exact oneLt_alike (f := false) (fun z => nomatch z) ra rb hdd (fun z => nomatch z) room hq
      · rw [keyLt'_oneType]
        exact oneLt_tup ra rb (by simpa [alike] using hdd) room hq
    · refine fsts_kind f (fun z => ?_) al hq
      rw [z] at h2
      simp at h2
end
end L2.SortT
set_option Elab.async false
set_option linter.all false
set_option maxRecDepth 100000
set_option maxHeartbeats 4000000
/-! Lists and sets of nested data, sorted; sets of tuples as tracked things. -/
namespace L2.NSet
open PySem PySem.Spec PyProof.Rows L2.SortT
section
variable {P : Program} {w : World} {A : Around} {E : Value → Shared → Prop} {s : Shared} {β : Type} {vs : List Value} {bs : List β} {enc : β → PyData} {R : Value → β → Prop}
open PySem.W PySem.SeqAt
/-- what can be sorted: as the library says, or tuples, empty ones too -/
def Srtb (ds : List PyData) : Prop := PySem.W.Sortable ds ∨ ∀ d ∈ ds, ∃ xs, d = .tuple xs
theorem sorts_any {ds : List PyData} (e : EachIs (fun v d => ∃ as, Reads s.heap v d as) vs ds) (hal : AllAlike ds) (hk : Srtb ds) (hu : ∀ d, d ∈ ds → A.units + d.depth < cLine) : SortsAt P w A s (dataKind s.heap ds) vs :=
  hk.elim (fun k => SortsAt.data e hal k hu) fun k => sorts_tups e hal k hu
theorem sorted_any {l : Addr} {Q : Value → Shared → Prop} (hl : s.heap.IsList l vs.toArray) (e : EachIs R vs bs) (er : EachIs (fun v b => ∃ as, Reads s.heap v (enc b) as) vs bs) (hal : AllAlike (bs.map enc)) (hk : Srtb (bs.map enc)) (hL : bs.length ≤ sizeLine)
    (hu : ∀ b, b ∈ bs → A.units + 2 + (enc b).depth < cLine) (h : ∀ out, out.length = bs.length → EachIs R out (bs.mergeSort (dataLe false enc)) → Q (.ref (s.heap.objs.size + 1)) { s with heap := sortedAll s.heap vs (List.toArray out) }) :
    wpAny (model P w) A (call (.builtin "sorted") [.ref l]) Q E s := by
  have er2 : EachIs (fun v b => ∃ as, Reads (sortingHeap (copyHeap s.heap vs) (s.heap.objs.size + 1) vs) v (enc b) as) vs bs := er.mono fun _ _ ⟨as, r⟩ => ⟨as, PyProof.Rows.Reads.keeps (fun _ _ => sorting_copy_old) r⟩
  refine sorted_vals hl (sorts_any (s := { s with heap := sortingHeap (copyHeap s.heap vs) (s.heap.objs.size + 1) vs }) (each_map (R := fun v d => ∃ as, Reads (sortingHeap (copyHeap s.heap vs) (s.heap.objs.size + 1) vs) v d as) enc er2) hal hk (bound_map hu)) ?_
    (h _ ?_ (sortVals_data false e er2 hal))
  · rw [e.length]
    exact hL
  · rw [sortVals_length false rfl]
    exact e.length
theorem list_sort_any2 {a : Addr} {n : Nat} {Q : Value → Shared → Prop} (ho : s.heap.get? a = some (seqObj "list" vs.toArray n)) (e : EachIs R vs bs) (er : EachIs (fun v b => ∃ as, Reads s.heap v (enc b) as ∧ a ∉ as) vs bs) (hal : AllAlike (bs.map enc)) (hk : Srtb (bs.map enc)) (hL : bs.length ≤ sizeLine)
    (hu : ∀ b, b ∈ bs → A.units + 1 + (enc b).depth < cLine) (h : ∀ out, out.length = bs.length → EachIs R out (bs.mergeSort (dataLe false enc)) → Q .none { s with heap := sortedHeap s.heap a vs (List.toArray out) }) :
    wpAny (model P w) A (call (.builtin "list.sort") [.ref a]) Q E s := by
  have er2 : EachIs (fun v b => ∃ as, Reads (sortingHeap s.heap a vs) v (enc b) as) vs bs := each_keepBut (h' := sortingHeap s.heap a vs) (fun _ _ hb q => sortingHeap_old hb q) (fun o q => by rw [ho] at q; rw [← Option.some.inj q]) hal er
  refine wpAny_call_entry slot_list_sort ⟨_, ho, rfl⟩ entry_list_sort (list_sort_vals (κ := dataKind (sortingHeap s.heap a vs) (bs.map enc)) ho (sorts_any (s := { s with heap := sortingHeap s.heap a vs })
    (each_map (R := fun v d => ∃ as, Reads (sortingHeap s.heap a vs) v d as) enc er2) hal hk (bound_map hu)) ?_ ⟨.none, rfl, ?_⟩) (args_list_sort _)
  · rw [e.length]
    exact hL
  · refine h _ ?_ (sortVals_data false e er2 hal)
    rw [sortVals_length false rfl]
    exact e.length
/-- rising -/
def Rise (enc : β → PyData) (l : List β) : Prop := l.Pairwise fun a b => dataLe false enc a b = true
theorem rise_sort (l : List β) : Rise enc (l.mergeSort (dataLe false enc)) := sort_pairwise (sortLe_total _ false _) l
theorem eachIs_mem {α γ : Type} {R : α → γ → Prop} : ∀ {xs : List α} {ys : List γ}, EachIs R xs ys → ∀ y ∈ ys, ∃ x ∈ xs, R x y
  | _, _, .nil, y, m => nomatch m
  | _, _, .cons r e, y, m => by
    rcases List.mem_cons.mp m with rfl | m
    · exact ⟨_, List.mem_cons_self, r⟩
    · obtain ⟨x, mx, rx⟩ := eachIs_mem e y m
      exact ⟨x, List.mem_cons_of_mem _ mx, rx⟩
theorem vals_each : ∀ {xs : List (V × PyData)} {us : List Value}, Vals (xs.map Prod.fst) us → EachIs (fun v (b : V × PyData) => RelV b.1 v) us xs
  | [], _, .nil => .nil
  | _ :: _, _, .cons r t => .cons r (vals_each t)
theorem each_vals : ∀ {xs : List (V × PyData)} {us : List Value}, EachIs (fun v (b : V × PyData) => RelV b.1 v) us xs → Vals (xs.map Prod.fst) us
  | [], _, .nil => .nil
  | _ :: _, _, .cons r t => .cons r (each_vals t)
end
section
variable {X : Cx} {pins : List (Addr × Obj)} {σ : L2.St} {H : Hp} {s : Shared}
open PySem.W
theorem each_reads (I : Inv X pins σ H s) : ∀ {xs : List (V × PyData)} {us : List Value}, (∀ x ∈ xs, Dp X.K H x.1 x.2) → Vals (xs.map Prod.fst) us → EachIs (fun v (b : V × PyData) => ∃ as, Reads s.heap v b.2 as) us xs
  | [], _, _, .nil => .nil
  | x :: xs, _, h, .cons r t => .cons (Dp.reads I x.2 x.1 _ (h x List.mem_cons_self) r) (each_reads I (fun y m => h y (List.mem_cons_of_mem _ m)) t)
/-- sorted(a list of nested data) -/
def rSortD (K : PySem.W.Frag) : List V → Hp → VK → Prop := fun vs H Q => ∃ (a : Addr) (xs : List (V × PyData)), vs = [V.ref a] ∧ SqL K H a (xs.map Prod.fst) ∧ (∀ x ∈ xs, Dp K H x.1 x.2) ∧ AllAlike (xs.map Prod.snd) ∧ Srtb (xs.map Prod.snd) ∧ xs.length ≤ 1000 ∧
  (∀ x ∈ xs, x.2.depth ≤ 40) ∧ ∀ (ys : List (V × PyData)) (p : Addr), ys.Perm xs → Rise Prod.snd ys → H p = none → Q (.ref p) (upd H p (.lst (ys.map Prod.fst)))
theorem cr_sortD (hu : X.A.units + 64 < cLine) : CallR X (.builtin "sorted") (rSortD X.K) := by
  intro pins s σ H vs us Q I r h
  obtain ⟨a, xs, rfl, ha, hd, hal, hk, few, dp, q⟩ := h
  rw [Vals.ref1 r]
  obtain ⟨its, rv, pl, hz⟩ := I.list ha
  have hl : s.heap.IsList a its.toArray := pl.isList
  refine sorted_any (R := fun v (b : V × PyData) => RelV b.1 v) (bs := xs) (enc := Prod.snd) hl (vals_each rv) (each_reads I hd rv) hal hk (Nat.le_trans few (by rw [sizeLine_eq]; decide)) (fun b m => by have := dp b m; omega) fun out lo eo => ?_
  have pm := List.mergeSort_perm xs (dataLe false Prod.snd)
  have hn : H (s.heap.objs.size + 1) = none := I.hok.fresh (Nat.le_succ _)
  have fit : ((xs.mergeSort (dataLe false Prod.snd)).map Prod.fst).length ≤ sizeLine := by
    rw [List.length_map, pm.length_eq, sizeLine_eq]
    omega
  obtain ⟨c, hc⟩ := sortedAll_at s.heap its out.toArray
  refine ⟨.ref (s.heap.objs.size + 1), upd H (s.heap.objs.size + 1) (.lst ((xs.mergeSort (dataLe false Prod.snd)).map Prod.fst)), I.laid (t' := s.toks) (fun b o e => sortedAll_old e) (Nat.le_succ _) ⟨fit, out, c, each_vals eo, hc⟩, rfl, q _ _ pm (rise_sort xs) hn⟩
end
end L2.NSet
set_option Elab.async false
set_option linter.all false
set_option maxRecDepth 100000
set_option maxHeartbeats 4000000
/-! Sets of tuples as tracked things: made of a list or a tuple, sorted. -/
namespace L2.NSet
open PySem PySem.Spec PyProof.Rows L2.SortT PySem.W
/-- the set at a, its members' tuples apart -/
structure Tab0 (P : Program) (w : World) (h : Heap) (a : Addr) (L : List Mem) : Prop where
  ex : ∃ (es : Array (Int × Value)) (ep : Nat) (t : SetTable), (∃ o, h.get? a = some o ∧ o.ExactSet ∧ o.data = .set es ep t) ∧ es.toList = L.map (rowN w) ∧ TabOk t (L.map fun p => p.2.hash w) ∧ (L.map (·.2)).Nodup ∧
    (w.params.followText "set-order" = true ∨ t.led = true) ∧ L.length * 5 < t.mask * 3 ∧ L.length < 64
def SetN (P : Program) (w : World) (a : Addr) (L : List Mem) : HO := .ext fun h => Tab0 P w h a L
section
variable {P : Program} {w : World} {h : Heap} {H : Hp} {a : Addr} {L : List Mem} {es : Array (Int × Value)} {ep : Nat} {t : SetTable}
theorem Tab.t0 (R : Tab P w h a L es ep t) : Tab0 P w h a L := ⟨es, ep, t, R.here, R.rows, R.lay, R.once, R.told, R.free, R.few⟩
theorem Tab0.full (R : Tab0 P w h a L) (each : ∀ p ∈ L, Kb P w h p.2 p.1) : ∃ es ep t, Tab P w h a L es ep t := by
  obtain ⟨es, ep, t, h1, h2, h3, h4, h5, h6, h7⟩ := R.ex
  exact ⟨es, ep, t, h1, h2, h3, h4, each, h5, h6, h7⟩
theorem setN_new (R : Tab0 P w h a L) : ObjOk P w H h a (SetN P w a L) := by
  have ⟨es, ep, t, ⟨o, ho, r⟩, q⟩ := R.ex
  refine ⟨R, ⟨o, ho⟩, fun h1 h2 p k => ?_⟩
  have ⟨es2, ep2, t2, ⟨o2, ho2, r2⟩, q2⟩ := Tab0.ex p
  exact ⟨es2, ep2, t2, ⟨o2, k o2 ho2, r2⟩, q2⟩
theorem refs_vals : ∀ {ks : List Mem} {us : List Value}, Vals (ks.map fun p => V.ref p.1) us → us = ks.map fun p => Value.ref p.1
  | [], _, .nil => rfl
  | p :: ks, _, .cons r t => by
    cases r
    rw [refs_vals t]
    rfl
theorem vals_refs : ∀ (ks : List Mem), Vals (ks.map fun p => V.ref p.1) (ks.map fun p => Value.ref p.1)
  | [] => .nil
  | p :: ks => .cons rfl (vals_refs ks)
theorem perm_lift {α γ : Type} (f : α → γ) : ∀ {vs : List γ} {L : List α}, vs.Perm (L.map f) → ∃ M : List α, M.Perm L ∧ vs = M.map f
  | [], [], pm => ⟨[], List.Perm.refl _, rfl⟩
  | [], x :: L, pm => by
    have e := pm.length_eq
    cases e
  | v :: vs, L, pm => by
    have m : v ∈ L.map f := pm.mem_iff.mp List.mem_cons_self
    obtain ⟨x, mx, rfl⟩ := List.mem_map.mp m
    obtain ⟨l1, l2, rfl⟩ := List.append_of_mem mx
    have q : (f x :: vs).Perm (f x :: (l1 ++ l2).map f) := by
      refine pm.trans ?_
      rw [List.map_append, List.map_cons, List.map_append]
      exact List.perm_middle
    obtain ⟨M, pM, e⟩ := perm_lift f (List.Perm.cons_inv q)
    exact ⟨x :: M, (List.Perm.cons x pM).trans List.perm_middle.symm, by rw [e]; rfl⟩
end
section
variable {X : Cx} {pins : List (Addr × Obj)} {σ : L2.St} {H : Hp} {s : Shared}
mutual
theorem nest_of (I : Inv X pins σ H s) : ∀ (k : NestedKey) (x : V) (v : Value), Dp X.K H x k.data → RelV x v → NestedIs s.heap k v
  | .none, x, v, d, r => by
    cases d
    cases r
    exact .none
  | .num i, x, v, d, r => by
    cases d
    obtain ⟨t, rfl⟩ := r
    exact .int i t
  | .text z, x, v, d, r => by
    cases d
    obtain ⟨t, rfl⟩ := r
    exact .text z t
  | .tup ks, x, v, d, r => by
    have d : Dp X.K H x (.tuple (NestedKey.datas ks)) := d
    cases d with
    | tup hq ha =>
      cases r
      obtain ⟨its, rv, ⟨o, ho, hc, n, hd⟩, _⟩ := I.tuple hq
      exact .tup ho hc hd (by simpa using nests_of I ks _ its ha rv)
theorem nests_of (I : Inv X pins σ H s) : ∀ (ks : List NestedKey) (xs : List V) (us : List Value), DpAll X.K H xs (NestedKey.datas ks) → Vals xs us → NestedAll s.heap ks us
  | [], xs, us, d, r => by
    cases d
    cases r
    exact .nil
  | k :: ks, xs, us, d, r => by
    have d : DpAll X.K H xs (k.data :: NestedKey.datas ks) := d
    cases d with
    | cons d1 d2 =>
      cases r with
      | cons r1 r2 => exact .cons (nest_of I k _ _ d1 r1) (nests_of I ks _ _ d2 r2)
end
/-- a tuple of references that has no dict of its own, as a thing of the heap alone -/
def PTu (a : Addr) (ts : List Addr) : HO := .ext fun h => ∃ o n, h.get? a = some o ∧ o.cls = .type "tuple" ∧ o.dict = none ∧ o.data = .seq (ts.map Value.ref).toArray n
/-- a tuple of pairs of texts -/
def PtOk (H : Hp) (p : Mem) : Prop := ∃ (ts : List Addr) (ks : List (Str × Str)), H p.1 = some (PTu p.1 ts) ∧ p.2 = .tup (ks.map fun q => .tup [.text q.1, .text q.2]) ∧ Paired (fun t (q : Str × Str) => H t = some (.tup [.str q.1, .str q.2])) ts ks
theorem pt_pairs (I : Inv X pins σ H s) : ∀ {ts : List Addr} {ks : List (Str × Str)}, Paired (fun t (q : Str × Str) => H t = some (.tup [.str q.1, .str q.2])) ts ks →
    NestedAll s.heap (ks.map fun q => .tup [.text q.1, .text q.2]) (ts.map Value.ref) ∧ PySem.ReadsAll s.heap (ts.map Value.ref) (NestedKey.datas (ks.map fun q => .tup [.text q.1, .text q.2])) []
  | _, _, .nil => ⟨.nil, .nil⟩
  | _, _, .cons (a := t) (b := q) h r => by
    obtain ⟨its, rv, ⟨o, ho, hc, n, hd⟩, _⟩ := I.tuple (SqT.of h)
    obtain ⟨i1, i2⟩ := pt_pairs I r
    cases rv with
    | cons r1 r2 =>
      cases r2 with
      | cons r2 r3 =>
        cases r3
        obtain ⟨t1, rfl⟩ := r1
        obtain ⟨t2, rfl⟩ := r2
        refine ⟨.cons (.tup ho hc hd (.cons (.text _ _) (.cons (.text _ _) .nil))) i1, .cons (as := []) (bs := []) ?_ i2⟩
        exact .tuple ho hc hd (.cons (as := []) (bs := []) (.str _ _) (.cons (as := []) (bs := []) (.str _ _) .nil))
/-- the member p stands in its tuple -/
def MemOk (K : PySem.W.Frag) (H : Hp) (p : Mem) : Prop := (Dp K H (.ref p.1) p.2.data ∨ PtOk H p) ∧ p.2.depth ≤ 8
theorem pt_both (I : Inv X pins σ H s) {p : Mem} (m : PtOk H p) : NestedIs s.heap p.2 (.ref p.1) ∧ PySem.Reads s.heap (.ref p.1) p.2.data [] := by
  obtain ⟨ts, ks, h, e, pr⟩ := m
  obtain ⟨o, n, ho, hc, hdn, hd⟩ := (show ∃ o n, s.heap.get? p.1 = some o ∧ o.cls = .type "tuple" ∧ o.dict = none ∧ o.data = .seq (ts.map Value.ref).toArray n from (I.hok p.1 _ h).1)
  obtain ⟨i1, i2⟩ := pt_pairs I pr
  rw [e]
  exact ⟨.tup ho hc hd (by simpa using i1), .tuple ho hc hd (by simpa using i2)⟩
theorem kb_of (I : Inv X pins σ H s) {p : Mem} (m : MemOk X.K H p) : Kb X.prog X.w s.heap p.2 p.1 := by
  rcases m.1 with d | d
  · exact ⟨nest_of I p.2 _ _ d rfl, m.2⟩
  · exact ⟨(pt_both I d).1, m.2⟩
/-- set(xs) -/
def rSetN (K : PySem.W.Frag) (P : Program) (w : World) : List V → Hp → VK → Prop := fun xs H Q => ∃ (l : Addr) (ks : List Mem), xs = [V.ref l] ∧ (SqL K H l (ks.map fun p => V.ref p.1) ∨ SqT K H l (ks.map fun p => V.ref p.1)) ∧ (∀ p ∈ ks, MemOk K H p) ∧ ks.length < 64 ∧
  ∀ a L, H a = none → (∀ p ∈ L, p ∈ ks) → (∀ p ∈ ks, p.2 ∈ L.map (·.2)) → (L.map (·.2)).Nodup → Q (.ref a) (upd H a (SetN P w a L))
theorem cr_setN (hc : X.calm = true) (hu : X.A.units + 64 < cLine) : CallR X (.type "set") (rSetN X.K X.prog X.w) := by
  intro pins s σ H xs us Q I r h
  obtain ⟨l, ks, rfl, hl, hk, few, q⟩ := h
  rw [Vals.ref1 r]
  have hn : H s.heap.objs.size = none := I.hok.fresh (Nat.le_refl _)
  have fin : ∀ (h2 : Heap) (tk : Nat) L es ep t, Tab X.prog X.w h2 s.heap.objs.size L es ep t → In ks ks.length L → (∀ b o, s.heap.get? b = some o → h2.get? b = some o) →
      ∃ y H2, Inv X pins σ H2 { s with heap := h2, toks := tk } ∧ RelV y (.ref s.heap.objs.size) ∧ Q y H2 := fun h2 tk L es ep t R g k =>
    ⟨.ref s.heap.objs.size, upd H s.heap.objs.size (SetN X.prog X.w s.heap.objs.size L), I.laid (t' := tk) k (Nat.le_refl _) (setN_new R.t0), rfl,
      q _ L hn (fun p m => List.mem_of_mem_take (g.from_ p m)) (fun p m => g.to_ p (by rw [List.take_length]; exact m)) R.once⟩
  rcases hl with hl | hl
  · obtain ⟨its, rv, pl, hz⟩ := I.list hl
    exact call_set_list (P := X.prog) (w := X.w) ks (I.ok.hd hc) pl.isList (by simpa using refs_vals rv) (fun p m => kb_of I (hk p m)) few (by omega) fin
  · obtain ⟨its, rv, ⟨o, ho, hcl, n, hd⟩, hz⟩ := I.tuple hl
    exact call_set_tuple (P := X.prog) (w := X.w) ks (I.ok.hd hc) ⟨o, ho, hcl, n, hd⟩ (by simpa using refs_vals rv) (fun p m => kb_of I (hk p m)) few (by omega) fin
/-- sorted(a set of tuples) -/
def rSortN (K : PySem.W.Frag) (P : Program) (w : World) : List V → Hp → VK → Prop := fun vs H Q => ∃ (a : Addr) (L : List Mem), vs = [V.ref a] ∧ H a = some (SetN P w a L) ∧ (∀ p ∈ L, MemOk K H p) ∧ AllAlike (L.map fun p => p.2.data) ∧
  (∀ p ∈ L, ∃ ks, p.2 = .tup ks) ∧ (∀ p ∈ L, p.2.data.depth ≤ 40) ∧ ∀ (M : List Mem) (p : Addr), M.Perm L → Rise (fun p : Mem => p.2.data) M → H p = none → Q (.ref p) (upd H p (.lst (M.map fun p => V.ref p.1)))
mutual
theorem reads_nest {h : Heap} : ∀ (k : NestedKey) (v : Value) (as : List Addr), PySem.Reads h v k.data as → as = []
  | .none, _, _, x => by
    cases x
    rfl
  | .num i, _, _, x => by
    cases x
    rfl
  | .text z, _, _, x => by
    cases x
    rfl
  | .tup ks, _, _, x => by
    have x : PySem.Reads h _ (.tuple (NestedKey.datas ks)) _ := x
    cases x with
    | tuple h1 h2 h3 h4 => exact reads_nests ks _ _ h4
theorem reads_nests {h : Heap} : ∀ (ks : List NestedKey) (vs : List Value) (as : List Addr), PySem.ReadsAll h vs (NestedKey.datas ks) as → as = []
  | [], _, _, x => by
    cases x
    rfl
  | k :: ks, _, _, x => by
    have x : PySem.ReadsAll h _ (k.data :: NestedKey.datas ks) _ := x
    cases x with
    | cons x1 x2 => rw [reads_nest k _ _ x1, reads_nests ks _ _ x2]; rfl
end
theorem each_mem2 (I : Inv X pins σ H s) {h2 : Heap} (k : ∀ b o, s.heap.get? b = some o → h2.get? b = some o) (a : Addr) : ∀ {M : List Mem}, (∀ p ∈ M, MemOk X.K H p) →
    EachIs (fun v (p : Mem) => ∃ as, PySem.Reads h2 v p.2.data as ∧ a ∉ as) (M.map fun p => Value.ref p.1) M
  | [], _ => .nil
  | p :: M, h => by
    obtain ⟨as, r⟩ : ∃ as, PySem.Reads s.heap (.ref p.1) p.2.data as := (h p List.mem_cons_self).1.elim (fun d => Dp.reads I p.2.data (.ref p.1) (.ref p.1) d rfl) fun d => ⟨[], (pt_both I d).2⟩
    have r2 := PyProof.Rows.Reads.keeps k r
    refine .cons ⟨as, r2, ?_⟩ (each_mem2 I k a fun q m => h q (List.mem_cons_of_mem _ m))
    rw [reads_nest p.2 _ _ r2]
    simp
theorem each_ref : ∀ M : List Mem, EachIs (fun v (p : Mem) => v = Value.ref p.1) (M.map fun p => Value.ref p.1) M
  | [] => .nil
  | p :: M => .cons rfl (each_ref M)
theorem ref_each : ∀ {M : List Mem} {out : List Value}, EachIs (fun v (p : Mem) => v = Value.ref p.1) out M → out = M.map fun p => Value.ref p.1
  | [], _, .nil => rfl
  | p :: M, _, .cons r e => by rw [r, ref_each e]; rfl
theorem cr_sortN (hc : X.calm = true) (hu : X.A.units + 64 < cLine) : CallR X (.builtin "sorted") (rSortN X.K X.prog X.w) := by
  intro pins s σ H vs us Q I r h
  obtain ⟨a, L, rfl, ha, hk, hal, htup, dp, q⟩ := h
  have R0 : Tab0 X.prog X.w s.heap a L := (I.hok a _ ha).1
  obtain ⟨es, ep, t, R⟩ := R0.full fun p m => kb_of I (hk p m)
  rw [Vals.ref1 r]
  obtain ⟨o, ho, ox, od⟩ := R.here
  have few := R.few
  refine Calls.call_function_entry kind_sorted plain_sorted entry_sorted (args_sorted1 _) ?_
  unfold Builtin.«sorted»
  refine wpAny_bind (m := checkCount "sorted" 1 1 _) (wpAny_pure (wpAny_bind (collect_set (A := X.A.in1) (I.ok.hd hc) ⟨o, ho, ox.1, od⟩ R.fits (by rw [R.size]; unfold scanBound; omega) R.lay.ris R.told fun s1 vs k1 z1 g1 o1 pm => ?_)))
  have hes : es.toList.map (·.2) = L.map fun p => Value.ref p.1 := by
    rw [R.rows, List.map_map]
    rfl
  rw [hes] at pm
  obtain ⟨M, pM, rfl⟩ := perm_lift _ pm
  have lM : M.length < 64 := by rw [pM.length_eq]; exact few
  refine wpAny_bind (wpAny_newList ?_ (by rw [List.length_map, sizeLine_eq]; omega))
  have at1 : (s1.heap.push (seqObj "list" (M.map fun p => Value.ref p.1).toArray 0)).get? s1.heap.objs.size = some (seqObj "list" (M.map fun p => Value.ref p.1).toArray 0) := Heap.get?_push_size _ rfl
  have mk : ∀ p ∈ M, MemOk X.K H p := fun p m => hk p (pM.mem_iff.mp m)
  have alM : AllAlike (M.map fun p => p.2.data) := fun d hd d2 hd2 => hal d ((pM.map _).mem_iff.mp hd) d2 ((pM.map _).mem_iff.mp hd2)
  refine wpAny_bind (wpAny_holding (list_sort_any2 (R := fun v (p : Mem) => v = Value.ref p.1) (enc := fun p : Mem => p.2.data) (bs := M) at1 (each_ref M) (each_mem2 I (fun b u e => Heap.get?_push_of_some _ (k1 b u e)) _ mk) alM (.inr fun d hd => ?_) (by rw [sizeLine_eq]; omega) (fun p m => ?_) fun out lo eo => ?_))
  · obtain ⟨p, mp, rfl⟩ := List.mem_map.mp hd
    obtain ⟨ks, e⟩ := htup p (pM.mem_iff.mp mp)
    exact ⟨_, by rw [e]; rfl⟩
  · have := dp p (pM.mem_iff.mp m)
    show X.A.units + 1 + 1 + _ < cLine
    omega
  · have eO := ref_each eo
    obtain ⟨c, hc2⟩ := sortedHeap_at (vs := M.map fun p => Value.ref p.1) (out := out.toArray) at1
    generalize hS : M.mergeSort (dataLe false fun p : Mem => p.2.data) = S at eO
    have pS : S.Perm M := by rw [← hS]; exact List.mergeSort_perm _ _
    have rS : Rise (fun p : Mem => p.2.data) S := by rw [← hS]; exact rise_sort M
    have hp : s.heap.objs.size ≤ s1.heap.objs.size := z1
    have hn : H s1.heap.objs.size = none := I.hok.fresh hp
    have old : ∀ b u, s.heap.get? b = some u → (sortedHeap (s1.heap.push (seqObj "list" (M.map fun p => Value.ref p.1).toArray 0)) s1.heap.objs.size (M.map fun p => Value.ref p.1) out.toArray).get? b = some u := fun b u e => by
      have q := k1 b u e
      have lt := Heap.lt_size q
      exact (sortedHeap_old (Nat.ne_of_lt lt) (by rw [size_push']; exact Nat.lt_succ_of_lt lt)).trans (Heap.get?_push_of_some _ q)
    have fit : (S.map fun p => V.ref p.1).length ≤ sizeLine := by rw [List.length_map, pS.length_eq, sizeLine_eq]; omega
    have J : Inv X pins σ (upd H s1.heap.objs.size (.lst (S.map fun p => V.ref p.1))) { s with heap := sortedHeap (s1.heap.push (seqObj "list" (M.map fun p => Value.ref p.1).toArray 0)) s1.heap.objs.size (M.map fun p => Value.ref p.1) out.toArray, gens := s1.gens, drawn := s1.drawn, toks := s1.toks } :=
      I.call (ch := []) (Un.laid old hp hn) (I.hok.laid old hp ⟨fit, out, c, by rw [eO]; exact vals_refs S, hc2⟩) (by rw [g1]; exact I.bare) fun _ z => nomatch z
    refine wpAny_pure ⟨_, rfl, ⟨.ref s1.heap.objs.size, _, ?_, rfl, q S s1.heap.objs.size (pS.trans pM) rS hn⟩⟩
    have e : ({ s1 with heap := sortedHeap (s1.heap.push (seqObj "list" (M.map fun p => Value.ref p.1).toArray 0)) s1.heap.objs.size (M.map fun p => Value.ref p.1) out.toArray } : Shared) = { s with heap := sortedHeap (s1.heap.push (seqObj "list" (M.map fun p => Value.ref p.1).toArray 0)) s1.heap.objs.size (M.map fun p => Value.ref p.1) out.toArray, gens := s1.gens, drawn := s1.drawn, toks := s1.toks } := by
      cases s1
      cases s
      cases o1
      rfl
    rw [e]
    exact J
end
end L2.NSet
set_option Elab.async false
set_option linter.all false
set_option maxRecDepth 100000
set_option maxHeartbeats 4000000
/-! Sets whose members have a key (texts, numbers): what they hold, in any order; adding; walking them; sorting sets of texts. -/
namespace L2.GSet
open PySem PySem.Spec PyProof.Rows
section
variable {P : Program} {w : World} {κ : Type} [DecidableEq κ]
/-- a set's payload holds the keys ks, and its table can be walked -/
structure Pay (kd : PySem.KeyKind P w κ) (key : Value → κ) (es : Array (Int × Value)) (t : SetTable) (ks : List κ) : Prop where
  el : ElemsOf kd es.toList
  pm : (es.toList.map fun e => key e.2).Perm ks
  few : es.size < scanBound
  fit : t.fits es.size = true
  ris : Ris t.place.toList
  led : w.params.followText "set-order" = true ∨ t.led = true
def GAt (kd : PySem.KeyKind P w κ) (key : Value → κ) (h : Heap) (a : Addr) (ks : List κ) : Prop :=
  ∃ o es ep t, h.get? a = some o ∧ o.ExactSet ∧ o.data = .set es ep t ∧ Pay kd key es t ks
variable {kd : PySem.KeyKind P w κ} {key : Value → κ} {es : Array (Int × Value)} {t : SetTable} {ks : List κ} {h h' : Heap} {a : Addr}
theorem GAt.keep (R : GAt kd key h a ks) (k : ∀ o, h.get? a = some o → h'.get? a = some o) : GAt kd key h' a ks :=
  let ⟨o, es, ep, t, ho, r⟩ := R
  ⟨o, es, ep, t, k o ho, r⟩
theorem GAt.some (R : GAt kd key h a ks) : ∃ o, h.get? a = some o := let ⟨o, _, _, _, ho, _⟩ := R; ⟨o, ho⟩
theorem Pay.size (p : Pay kd key es t ks) : es.size = ks.length := by
  have q := p.pm.length_eq
  rwa [List.length_map, Array.length_toList] at q
theorem Pay.is (hk : ∀ k v, kd.is k v = true → key v = k) (p : Pay kd key es t ks) {e : Int × Value} (he : e ∈ es.toList) (k : κ) : kd.is k e.2 = true ↔ key e.2 = k := by
  obtain ⟨⟨k', i, _⟩, _⟩ := p.el e he
  refine ⟨hk k _, fun z => ?_⟩
  rw [← z, hk k' _ i]
  exact i
theorem Pay.mem (hk : ∀ k v, kd.is k v = true → key v = k) (p : Pay kd key es t ks) (k : κ) : k ∈ ks ↔ ∃ e ∈ es.toList, kd.is k e.2 = true := by
  rw [← p.pm.mem_iff, List.mem_map]
  exact ⟨fun ⟨e, m, q⟩ => ⟨e, m, (p.is hk m k).2 q⟩, fun ⟨e, m, q⟩ => ⟨e, m, (p.is hk m k).1 q⟩⟩
end
section
variable {P : Program} {w : World} {κ : Type} [DecidableEq κ] {kd : PySem.KeyKind P w κ} {key : Value → κ} {A : Around} {E : Value → Shared → Prop} {s : Shared} {a : Addr} {ks : List κ}
/-- laying the payload down, with the growing behind it -/
theorem lay_down {grow : Bool → Sem Unit} (hgrow : ∀ (b : Bool) (s1 : Shared) (C : Unit → Shared → Prop), C () s1 → wpAny (model P w) A (grow b) C E s1)
    {o : Obj} {es0 es : Array (Int × Value)} {ep : Nat} {t0 t : SetTable} (ho : s.heap.get? a = some o) (ox : o.ExactSet) (od : o.data = .set es0 ep t0) (p : Pay kd key es t ks) {wd : Bool} {R : Option Bool → Shared → Prop}
    (hR : ∀ h', Heap.SameBut a s.heap h' → GAt kd key h' a ks → R (some true) { s with heap := h' }) :
    wpAny (model P w) A (do
        storeSet a es t
        if (!wd && t.tooFull) = true then do
            grow (relayAll t es (SetTable.grown es.size)).2.2
            storeSet a (relayAll t es (SetTable.grown es.size)).1 (relayAll t es (SetTable.grown es.size)).2.1
            pure (some true)
          else pure (some true)) R E s := by
  have b1 := Heap.SameBut.update s.heap a (Obj.putSet es t)
  have o1 := PpSet.storeB_at (es' := es) (t' := t) ho od
  refine wpAny_bind (wpAny_storeSet_of ho od ?_ (fits_of_scanBound p.few))
  split
  · have q1 := relayAll_perm t es (SetTable.grown es.size)
    have q2 := relayAll_fits t es (SetTable.grown es.size)
    have q3 := relayAll_ris t es (SetTable.grown es.size)
    have q4 := relayAll_led t es (SetTable.grown es.size)
    cases e : relayAll t es (SetTable.grown es.size) with
    | mk es2 rest =>
      obtain ⟨t2, gw⟩ := rest
      rw [e] at q1 q2 q3 q4
      have zz : es2.size = es.size := by
        have := q1.length_eq
        rwa [Array.length_toList, Array.length_toList] at this
      have p2 : Pay kd key es2 t2 ks := ⟨p.el.perm q1, (q1.map _).trans p.pm, by rw [zz]; exact p.few, q2, q3, p.led.imp id fun z => q4.trans z⟩
      have o2 := PpSet.storeB_at (es' := es2) (t' := t2) o1 rfl
      refine wpAny_bind (hgrow _ _ _ (wpAny_bind (wpAny_storeSet_of o1 rfl (wpAny_pure (hR _ (b1.trans (Heap.SameBut.update _ a _)) ⟨_, es2, _, t2, o2, ox, rfl, p2⟩)) (fits_of_scanBound p2.few))))
  · exact wpAny_pure (hR _ b1 ⟨_, es, _, t, o1, ox, rfl, p⟩)
theorem add_hashed (hk : ∀ k v, kd.is k v = true → key v = k) {k : κ} {x : Value} {Q : Bool → Shared → Prop} (hx : kd.is k x = true) (hsc : x.scannable = true) (R : GAt kd key s.heap a ks) (room : ks.length + 1 < scanBound)
    (hQ : ∀ b h', Heap.SameBut a s.heap h' → GAt kd key h' a (if k ∈ ks then ks else ks ++ [k]) → Q b { s with heap := h' }) :
    wpAny (model P w) A (setAddHashed a x (kd.hash k)) Q E s := by
  obtain ⟨o, es, ep, t, ho, ox, od, p⟩ := R
  unfold setAddHashed setAddHashedIn
  refine wpAny_holding (wpAny_bind (wpAny_setState_of ho od p.fit ?_))
  dsimp only
  rw [byScan_of hsc p.few p.el, if_pos rfl]
  unfold setAddByScan
  refine wpAny_bind (wpAny_bind (wpAny_rule (wpAny_bind (wpAny_setScan_of hx ho od p.fit p.el ?_))))
  cases fi : List.findIdx? (fun e => kd.is k e.2) es.toList with
  | some j =>
    obtain ⟨lj, ij, _⟩ := List.findIdx?_eq_some_iff_getElem.mp fi
    have mk : k ∈ ks := (p.mem hk k).2 ⟨_, List.getElem_mem lj, ij⟩
    have q := hQ false s.heap (Heap.SameBut.refl a s.heap) ⟨o, es, ep, t, ho, ox, od, by rw [if_pos mk]; exact p⟩
    exact wpAny_pure (wpAny_pure q)
  | none =>
    have mk : k ∉ ks := fun z => by
      obtain ⟨e, he, i⟩ := (p.mem hk k).1 z
      have c := List.findIdx?_eq_none_iff.mp fi e he
      rw [i] at c
      exact Bool.noConfusion c
    dsimp only
    have q1 := layNew_perm t es (kd.hash k) x
    have q2 := layNew_fits t es (kd.hash k) x
    have q3 := layNew_ris t es (kd.hash k) x p.ris
    have q4 := layNew_led t es (kd.hash k) x
    generalize layNew t es (kd.hash k) x = Z at q1 q2 q3 q4 ⊢
    obtain ⟨es1, t1, wd, gw⟩ := Z
    dsimp only at q1 q2 q3 q4 ⊢
    rw [Array.toList_push] at q1
    have zz : es1.size = ks.length + 1 := by
      have z := q1.length_eq
      rw [List.length_append, Array.length_toList, Array.length_toList, p.size] at z
      exact z
    have pay : ∀ t' : SetTable, t'.fits es1.size = true → Ris t'.place.toList → t'.led = t.led → Pay kd key es1 t' (ks ++ [k]) := fun t' f r l =>
      ⟨(p.el.push hx hsc).perm q1, by
        have z := q1.map fun e => key e.2
        rw [List.map_append, List.map_cons, List.map_nil, hk k x hx] at z
        exact z.trans (p.pm.append_right _), by rw [zz]; exact room, f, r, p.led.imp id fun z => l.trans z⟩
    have fin : ∀ h', Heap.SameBut a s.heap h' → GAt kd key h' a (ks ++ [k]) → Q true { s with heap := h' } := fun h' sb g => hQ true h' sb (by rw [if_neg mk]; exact g)
    have gives : ∀ (b : Bool) (s1 : Shared) (C : Unit → Shared → Prop), C () s1 → wpAny (model P w) A (match b with | true => rule "set.scan.the-table-gave-way" | false => pure ()) C E s1 := fun b s1 C q => by
      cases b
      · exact wpAny_pure q
      · exact wpAny_rule q
    refine wpAny_bind (gives _ _ _ ?_)
    split
    · refine wpAny_bind ?_
      rw [hashByValue_scannable 8 hsc]
      refine wpAny_pure (lay_down gives ho ox od (pay _ ?_ ?_ ?_) fun h' sb g => wpAny_pure (fin h' sb g))
      · split
        · exact q2
        · exact SetTable.fits_plain_off q2
      · split <;> exact q3
      · split <;> exact q4
    · refine wpAny_bind (wpAny_pure ?_)
      simp only [↓reduceIte]
      exact lay_down gives ho ox od (pay _ q2 q3 q4) fun h' sb g => wpAny_pure (fin h' sb g)
/-- a.add(x) -/
theorem add_call (hk : ∀ k v, kd.is k v = true → key v = k) {k : κ} {x : Value} {Q : Value → Shared → Prop} (hx : kd.is k x = true) (hsc : x.scannable = true) (R : GAt kd key s.heap a ks) (room : ks.length + 1 < scanBound)
    (hQ : ∀ h', Heap.SameBut a s.heap h' → GAt kd key h' a (if k ∈ ks then ks else ks ++ [k]) → Q .none { s with heap := h', toks := s.toks + 1 }) :
    wpAny (model P w) A (call (.builtin "set.add") [.ref a, x]) Q E s := by
  have ty : s.TypeIs (.ref a) "set" := by
    obtain ⟨o, es, ep, t, ho, ox, _⟩ := R
    exact ⟨o, ho, ox.1⟩
  refine wpAny_call_entry F.slot_set_add ty F.entry_set_add ?_ (F.args_set_add_2 _ _)
  unfold Builtin.«set.add» Builtin.Frozenset.oneOther Builtin.Frozenset.addrOf setAdd
  simp only [List.isEmpty_nil, bind_assoc]
  refine wpAny_bind (wpAny_pure (wpAny_bind (wpAny_pure (wpAny_bind (wpAny_holding (wpAny_bind (kd.pyHash hx ?_)))))))
  exact add_hashed (s := { s with toks := s.toks + 1 }) hk hx hsc R room fun b h' sb g => wpAny_pure ⟨_, rfl, hQ h' sb g⟩
theorem fresh (h : Heap) : GAt kd key (h.push { cls := .type "set", dict := none, data := .set #[] 0 (.fresh 0 0 (!w.params.followText "set-order")) }) h.objs.size [] := by
  refine ⟨_, #[], 0, _, Heap.get?_push_size _ rfl, ⟨rfl, rfl, rfl⟩, rfl, ⟨fun e z => by simp at z, .nil, by decide, rfl, List.Pairwise.nil, ?_⟩⟩
  show _ ∨ (!w.params.followText "set-order") = true
  cases w.params.followText "set-order"
  · exact .inr rfl
  · exact .inl rfl
end
end L2.GSet
set_option Elab.async false
set_option linter.all false
set_option maxRecDepth 100000
set_option maxHeartbeats 4000000
/-! Comprehensions of any kind with one or two `for`s, by what is laid ahead of them and what a turn's end does. -/
namespace L2.Cmp
open PySem PySem.Spec PyProof.Rows
/-- a turn's shape -/
def turnOf (tg : Expr) (ifs : List Expr) (p : Pos) (it : Value) (env : Env) (tail : Bool → Sem PySem.Fin) : Sem PySem.Fin := do
  standAt p
  match ← pyNext it with
  | none => pure (.done .next)
  | some v =>
    letOwnedTupleGo tg it v
    assign tg env v
    let ok ← forIn ifs true fun c r => if r = true then do let ok ← isTrue c env (eval c env); pure (ForInStep.yield ok) else pure (ForInStep.yield r)
    tail ok
/-- the innermost turn's end -/
def tailIn (em : Sem Unit) (cd : Code) : Bool → Sem PySem.Fin := fun ok => if ok = true then em >>= fun _ => again cd else again cd
/-- the outer one's: the second source is walked -/
def tailOut (node i1 : Expr) (acc : Value) (env : Env) (cd : Code) : Bool → Sem PySem.Fin := fun ok => if ok = true then do
    let x ← eval i1 env
    standAt i1.pos
    let x ← foldedSetIterable i1 env x
    let _ ← runOwn (.compStart node 1 (← holding [x] (pyIter x)) acc env) env
    again cd
  else again cd
/-- a set's, a list's or a dict's comprehension -/
def IsC (node : Expr) : Prop := (∃ e gs sc p, node = .SetComp e gs sc p) ∨ (∃ e gs sc p, node = .ListComp e gs sc p) ∨ ∃ k v gs sc p, node = .DictComp k v gs sc p
theorem IsC.den {prog : Program} {w : World} {node : Expr} (c : IsC node) (lvl : Nat) (it acc : Value) (env : Env) (A : Around) :
    (A.under (.compLoop node lvl it acc env) = A ∧ (model prog w).den (.compLoop node lvl it acc env) = (compTurn node lvl it acc env).onRaise (fun x => do noteFrame x env; theTreesLotGoes x) ∧ (Code.compLoop node lvl it acc env).quiet = true) ∧
    (A.under (.compStart node lvl it acc env) = A ∧ (model prog w).den (.compStart node lvl it acc env) = (compStart node lvl it acc env).onRaise (fun x => do noteFrame x env; standAt theWindowsPlace)) := by
  rcases c with ⟨e, gs, sc, p, rfl⟩ | ⟨e, gs, sc, p, rfl⟩ | ⟨k, v, gs, sc, p, rfl⟩ <;> exact ⟨⟨rfl, rfl, rfl⟩, rfl, rfl⟩
abbrev nil2 : Value → Shared → Prop := fun _ _ => False
theorem loop_any {prog : Program} {w : World} {A : Around} {R : Result → Shared → Prop} {s : Shared} {node : Expr} {lvl : Nat} {it acc : Value} {env : Env} (ic : IsC node) (Iv : Nat → Shared → Prop)
    (turn : ∀ n s, Iv n s → wpAny (model prog w) A (compTurn node lvl it acc env) (fun fin s' => match fin with | .done f => R (.ok f) s' | .again c' => c' = Code.compLoop node lvl it acc env ∧ ∃ m, m < n ∧ Iv m s') nil2 s)
    (n : Nat) (h : Iv n s) : codeAny (model prog w) A (.compLoop node lvl it acc env) R s := by
  obtain ⟨d1, d2, d3⟩ := (ic.den (prog := prog) (w := w) lvl it acc env A).1
  refine codeAny_loop d3 Iv (fun n s hI => ?_) n h
  rw [d1, d2]
  exact wpAny_noted (wpAny_mono (turn n s hI) (fun _ _ z => z) fun _ _ z => z.elim)
theorem start_any {prog : Program} {w : World} {A : Around} {R : Result → Shared → Prop} {s : Shared} {node tg iter : Expr} {ifs : List Expr} {lvl : Nat} {it acc : Value} {env : Env} (ic : IsC node) (hcl : (clausesOf node)[lvl]? = some ⟨tg, iter, ifs, 0⟩)
    (h0 : codeAny (model prog w) A (.compLoop node lvl it acc env) R s)
    (h : wpAny (model prog w) A (pyIter it) (fun it' s' => codeAny (model prog w) A (.compLoop node lvl it' acc env) R s') nil2 s) :
    codeAny (model prog w) A (.compStart node lvl it acc env) R s := by
  obtain ⟨d1, d2⟩ := (ic.den (prog := prog) (w := w) lvl it acc env A).2
  have qu : ∀ it', (Code.compLoop node lvl it' acc env).quiet = true := fun it' => (ic.den (prog := prog) (w := w) lvl it' acc env A).1.2.2
  refine codeAny_of_tree ?_
  rw [d1, d2]
  refine wpAny_notedAt ?_
  unfold compStart
  rw [hcl]
  show wpAny _ _ (ask >>= _) _ _ s
  refine wpAny_bind (wpAny_askSetting (wpAny_ite ?_))
  split
  · first
      | exact wpAny_bind (wpAny_pure (wpAny_pure (And.intro (qu _) h0)))
      | exact wpAny_pure (And.intro (qu _) h0)
  · refine wpAny_bind (wpAny_rule ?_)
    show wpAny _ _ (standAt iter.pos >>= _) _ _ s
    exact wpAny_bind (wpAny_standAt (wpAny_bind (wpAny_mono h (fun it' s' h' => wpAny_pure (And.intro (qu _) h')) fun _ _ z => z.elim)))
/-- what the end of a turn reaches from the slots σ: it forgets at most vs -/
def Past (B : Cx) (pins : List (Addr × Obj)) (vs : List Nat) (σ : List (Option V)) (C : Hp → Prop) (s' : Shared) : Prop :=
  ∃ σ' H', Inv B pins σ' H' s' ∧ σ'.length = σ.length ∧ (∀ (j : Nat) v, j ∉ vs → σ[j]? = some (some v) → σ'[j]? = some (some v)) ∧ C H'
abbrev TAc := List (Option V) → Hp → (Hp → Prop) → Prop
/-- the walk of one clause, as it is read -/
def Walk (J : It) (g : TG) (tt : TT) (ta : TAc) (vs : List Nat) (σ : List (Option V)) (Done : Hp → Prop) (H0 : Hp) : Prop :=
  ∃ W : Nat → Nat → Hp → Prop, (∃ m, W 0 m H0) ∧ ∀ i m H, W i m H → (J.stop i H ∧ Done H) ∨ (J.go i H ∧ ∃ Nx : Hp → Prop, (∀ H', Nx H' → ∃ m', m' < m ∧ W (i + 1) m' H') ∧
    ∀ x H', J.yld i H x H' → g x (wipe σ vs) H' fun σ2 H2 => wipe σ2 vs = wipe σ vs ∧ tt σ2 H2 fun b H3 => if b = true then ta σ2 H3 Nx else Nx H3)
section
variable {B : Cx} {pins : List (Addr × Obj)} {it : Addr} {fp : List Addr} {tn : Nat → Heap → Prop} {J : It} {vs : List Nat} {σ : List (Option V)} {tg : Expr} {ifs : List Expr} {g : TG} {tt : TT} {ta : TAc} {p : Pos} {tail : Bool → Sem PySem.Fin} {cd : Code}
theorem turn_ok (hx : B.xe = nil2) (hc : B.calm = true) (T : Turn B.prog B.w B.K tg J fp it tn) (pg : PG B tg g) (pt : PTs B ifs tt) (stat : ∀ H', (∀ b ∈ fp, H' b = none) → ∀ b ∈ fp, FpOk B pins H' b)
    (act : ∀ (pl : List (Addr × Obj)) s σ H C, Inv B pl σ H s → ta σ H C → wpAny (model B.prog B.w) B.A (tail true) (fun fin s' => fin = .again cd ∧ Past B pl vs σ C s') nil2 s) (no : tail false = again cd)
    {R : Result → Shared → Prop} {W : Nat → Nat → Hp → Prop} {Done : Hp → Prop} (hd : ∀ s' H', Inv B pins (wipe σ vs) H' s' → Done H' → R (.ok .next) s')
    (turn : ∀ i m H, W i m H → (J.stop i H ∧ Done H) ∨ (J.go i H ∧ ∃ Nx : Hp → Prop, (∀ H', Nx H' → ∃ m', m' < m ∧ W (i + 1) m' H') ∧
      ∀ x H', J.yld i H x H' → g x (wipe σ vs) H' fun σ2 H2 => wipe σ2 vs = wipe σ vs ∧ tt σ2 H2 fun b H3 => if b = true then ta σ2 H3 Nx else Nx H3)) (n : Nat) (s : Shared)
    (start : ∃ i H', Inv B pins (wipe σ vs) H' s ∧ tn i s.heap ∧ (∀ b ∈ fp, H' b = none) ∧ W i n H') :
    wpAny (model B.prog B.w) B.A (turnOf tg ifs p (.ref it) B.env tail) (fun fin s' => match fin with | .done f => R (.ok f) s' | .again c' => c' = cd ∧ ∃ m, m < n ∧ ∃ i H', Inv B pins (wipe σ vs) H' s' ∧ tn i s'.heap ∧ (∀ b ∈ fp, H' b = none) ∧ W i m H') nil2 s := by
  obtain ⟨i, H5, I5, st5, n5, w5⟩ := start
  unfold turnOf
  refine wpAny_bind (wpAny_standAt (wpAny_bind ?_))
  rcases turn i n H5 w5 with ⟨stop, dn⟩ | ⟨go, Nx, hNx, step⟩
  · refine thnF (T.done B rfl rfl rfl hc i pins s _ H5 nil2 I5 (stat _ n5) st5 stop) fun r s6 ⟨hr, I6⟩ => ?_
    subst hr
    exact wpAny_pure (hd _ _ I6 dn)
  · refine thnF (T.item B rfl rfl rfl hc i pins s _ H5 nil2 I5 (stat _ n5) st5 go) fun r s6 ⟨u, hr, h6⟩ => ?_
    subst hr
    refine wpAny_bind (thnF h6 fun _ s7 ⟨x, H7, I7, r7, y7, st7, n7⟩ => ?_)
    have a1 := pg.run _ s7 _ H7 x u _ (I7.pinned (stat _ n7) (T.obj _ _ st7)) r7 (step x H7 y7)
    rw [hx] at a1
    refine wpAny_bind (thnF a1 fun _ s8 ⟨σ8, H8, I8, hw8, q8⟩ => ?_)
    have a2 := pt.run _ s8 σ8 H8 _ I8 q8
    rw [hx] at a2
    refine wpAny_bind (thnF a2 fun b s9 ⟨H9, I9, q9⟩ => ?_)
    have fin : ∀ s', Past B (pins ++ pinsAt fp s7.heap) vs σ8 Nx s' → ∃ m, m < n ∧ ∃ i H', Inv B pins (wipe σ vs) H' s' ∧ tn i s'.heap ∧ (∀ b ∈ fp, H' b = none) ∧ W i m H' := by
      rintro s' ⟨σ', H', I', hl, hk, nx⟩
      obtain ⟨m, lt, wm⟩ := hNx H' nx
      have there : ∀ b ∈ fp, ∀ o, s7.heap.get? b = some o → s'.heap.get? b = some o ∧ H' b = none := fun b hb o e =>
        let z := I'.pin (b, o) (List.mem_append_right _ (List.mem_append_right _ (mem_pinsAt hb e)))
        ⟨z.1, z.2.1⟩
      refine ⟨m, lt, i + 1, H', I'.unpinned.weak ?_ ?_, T.keep _ _ _ st7 fun b hb o e => (there b hb o e).1, fun b hb => ?_, wm⟩
      · rw [hl, ← hw8, wipe_length]
      · intro j v e
        rw [← hw8] at e
        exact hk j v (wipe_some e).2 (wipe_some e).1
      · obtain ⟨o, e, _⟩ := T.obj _ _ st7 b hb
        exact (there b hb o e).2
    cases b with
    | false =>
      rw [no]
      exact wpAny_pure ⟨rfl, fin _ ⟨σ8, H9, I9, rfl, fun _ _ _ e => e, q9⟩⟩
    | true =>
      refine wpAny_mono (act _ s9 σ8 H9 _ I9 q9) (fun f s' z => ?_) fun _ _ z => z.elim
      obtain ⟨rfl, pa⟩ := z
      exact ⟨rfl, fin _ pa⟩
/-- the whole loop of a clause -/
theorem clause_ok {node : Expr} {lvl : Nat} {acc : Value} (ic : IsC node) (ht : compTurn node lvl (.ref it) acc B.env = turnOf tg ifs p (.ref it) B.env tail) (hcd : cd = .compLoop node lvl (.ref it) acc B.env)
    (hx : B.xe = nil2) (hc : B.calm = true) (T : Turn B.prog B.w B.K tg J fp it tn) (pg : PG B tg g) (pt : PTs B ifs tt) (stat : ∀ H', (∀ b ∈ fp, H' b = none) → ∀ b ∈ fp, FpOk B pins H' b)
    (act : ∀ (pl : List (Addr × Obj)) s σ H C, Inv B pl σ H s → ta σ H C → wpAny (model B.prog B.w) B.A (tail true) (fun fin s' => fin = .again cd ∧ Past B pl vs σ C s') nil2 s) (no : tail false = again cd)
    {R : Result → Shared → Prop} {Done : Hp → Prop} (hd : ∀ s' H', Inv B pins (wipe σ vs) H' s' → Done H' → R (.ok .next) s')
    {H0 : Hp} (wk : Walk J g tt ta vs σ Done H0) {s : Shared} (I : Inv B pins (wipe σ vs) H0 s) (st : tn 0 s.heap) (n0 : ∀ b ∈ fp, H0 b = none) :
    codeAny (model B.prog B.w) B.A (.compLoop node lvl (.ref it) acc B.env) R s := by
  obtain ⟨W, ⟨m0, w0⟩, turn⟩ := wk
  subst hcd
  refine loop_any ic (fun n s' => ∃ i H', Inv B pins (wipe σ vs) H' s' ∧ tn i s'.heap ∧ (∀ b ∈ fp, H' b = none) ∧ W i n H') (fun n s' z => ?_) m0 ⟨0, H0, I, st, n0, w0⟩
  rw [ht]
  exact turn_ok hx hc T pg pt stat act no hd turn n s' z
/-- the end of an innermost turn, by what the code em does -/
theorem act_in {em : Sem Unit} (h : ∀ (pl : List (Addr × Obj)) s σ H C, Inv B pl σ H s → ta σ H C → wpAny (model B.prog B.w) B.A em (fun _ s' => ∃ H', Inv B pl σ H' s' ∧ C H') nil2 s) :
    ∀ (pl : List (Addr × Obj)) s σ H C, Inv B pl σ H s → ta σ H C → wpAny (model B.prog B.w) B.A (tailIn em cd true) (fun fin s' => fin = .again cd ∧ Past B pl vs σ C s') nil2 s := by
  intro pl s σ H C I q
  show wpAny _ _ (em >>= fun _ => again cd) _ _ s
  exact wpAny_bind (wpAny_mono (h pl s σ H C I q) (fun _ s' ⟨H', I', c⟩ => wpAny_pure ⟨rfl, σ, H', I', rfl, fun _ _ _ e => e, c⟩) fun _ _ z => z)
/-- the end of an outer turn -/
theorem act_out {node i1 t1 : Expr} {ifs1 : List Expr} {acc : Value} {wi1 : TI} {g1 : TG} {tt1 : TT} {vs1 : List Nat} {em : Sem Unit} {p1 : Pos} (ic : IsC node) (hcl : (clausesOf node)[1]? = some ⟨t1, i1, ifs1, 0⟩)
    (ht : ∀ it1, compTurn node 1 (.ref it1) acc B.env = turnOf t1 ifs1 p1 (.ref it1) B.env (tailIn em (.compLoop node 1 (.ref it1) acc B.env)))
    (hx : B.xe = nil2) (hc : B.calm = true) (hv : ∀ i ∈ vs1, i ∈ vs) (hs : ∀ x, foldedSetIterable i1 B.env x = pure x) (hi1 : PI B t1 i1 wi1) (pg1 : PG B t1 g1) (pt1 : PTs B ifs1 tt1)
    (h : ∀ (pl : List (Addr × Obj)) s σ H C, Inv B pl σ H s → ta σ H C → wpAny (model B.prog B.w) B.A em (fun _ s' => ∃ H', Inv B pl σ H' s' ∧ C H') nil2 s) :
    ∀ (pl : List (Addr × Obj)) s σ H C, Inv B pl σ H s → (wi1 σ H fun J1 H1 => Walk J1 g1 tt1 ta vs1 σ C H1) →
      wpAny (model B.prog B.w) B.A (tailOut node i1 acc B.env cd true) (fun fin s' => fin = .again cd ∧ Past B pl vs σ C s') nil2 s := by
  intro pl s σ H C I q
  unfold tailOut
  rw [if_pos rfl]
  have a1 := hi1.run pl s σ H _ I q
  rw [hx] at a1
  refine wpAny_bind (thnF a1 fun xv s1 a2 => ?_)
  refine wpAny_bind (wpAny_standAt (wpAny_bind (wpAny_of_eq (hs xv) (wpAny_bind (wpAny_holding (thnF a2 fun itv s2 z => ?_))))))
  obtain ⟨it1, fp1, tn1, J1, H2, rfl, I2, T1, st2, f2, wk⟩ := z
  refine wpAny_bind (wpAny_runOwn ?_)
  have stat1 : ∀ H', (∀ b ∈ fp1, H' b = none) → ∀ b ∈ fp1, FpOk B pl H' b := fun H' hn b hb => ⟨hn b hb, (f2 b hb).2⟩
  have lp : codeAny (model B.prog B.w) B.A (.compLoop node 1 (.ref it1) acc B.env) (fun r s' => match r with | .ok _ => Past B pl vs σ C s' | .error _ => False) s2 :=
    clause_ok (cd := .compLoop node 1 (.ref it1) acc B.env) ic (ht it1) rfl hx hc T1 pg1 pt1 stat1 (act_in h) rfl
      (fun s' H' I' c => ⟨wipe σ vs1, H', I', wipe_length _ _, fun j v nj e => by rw [wipe_out fun m => nj (hv j m)]; exact e, c⟩) wk (I2.weak (wipe_length _ _) fun j v e => (wipe_some e).1) st2 fun b hb => (f2 b hb).1
  rw [Around.mark_none]
  refine codeAny_mono (start_any ic hcl lp (T1.self B.A 0 _ _ _ st2 lp)) fun r s' hr => ?_
  cases r with
  | error e => exact hr.elim
  | ok f => first
    | exact wpAny_pure ⟨rfl, hr⟩
    | exact wpAny_bind (wpAny_pure (wpAny_pure ⟨rfl, hr⟩))
end
end L2.Cmp
set_option Elab.async false
set_option linter.all false
set_option maxRecDepth 100000
set_option maxHeartbeats 4000000
/-! Set comprehensions with one or two `for`s. -/
namespace L2.Cmp
open PySem PySem.Spec PyProof.Rows
section
variable {X : Cx}
/-- from the comprehension to its first clause's loop -/
theorem block_any {pins : List (Addr × Obj)} {s : Shared} {σ : L2.St} {H : Hp} {Q : VK} {node tg iter : Expr} {ifs : List Expr} {rest : List Comprehension} {scope : Scope} {own : List (PySem.Str × Nat)} {pos' : Pos} {wi : TI} {use : Option (Value → Sem Unit)} {Qf : Value → Shared → Prop}
    {newAcc : Sem Value} {O : Obj} {emp : Addr → HO} {Rd : It → Addr → Hp → Prop} (ic : IsC node) (hcl : clausesOf node = ⟨tg, iter, ifs, 0⟩ :: rest)
    (hnew : ∀ {s : Shared} {Q E : Value → Shared → Prop}, Q (.ref s.heap.objs.size) { s with heap := s.heap.push O } → wpAny (model X.prog X.w) X.A newAcc Q E s)
    (hemp : ∀ {pins : List (Addr × Obj)} {σ : L2.St} {H : Hp} {s : Shared}, Inv X pins σ H s → ∀ H' : Hp, ObjOk X.prog X.w H' (s.heap.push O) s.heap.objs.size (emp s.heap.objs.size))
    (hc : X.calm = true) (hN : X.N.Nodup) (I : Inv X pins σ H s) (hi : PI X tg iter wi) (ok : BlkOk X.N X.env.scope scope own) (hs : ∀ x, foldedSetIterable iter X.env x = pure x)
    (h : wi σ H fun J H1 => ∀ D, H1 D = none → Rd J D (upd H1 D (emp D)))
    (loop : ∀ (s3 : Shared) (H3 : Hp) (C : Addr) (cl : List (PySem.Str × Addr)) (fp : List Addr) (it : Addr) (tn : Nat → Heap → Prop) (J : It) (D : Addr) (s4 : Shared), Turn X.prog X.w X.K tg J fp it tn →
      (∀ H', (∀ b ∈ fp, H' b = none) → ∀ b ∈ fp, FpOk (X.blk s3 H3 scope (compEnvC scope cl C X.env) fp) [] H' b) → Inv (X.blk s3 H3 scope (compEnvC scope cl C X.env) fp) [] (wipe σ (own.map (·.2))) H3 s4 → tn 0 s4.heap → (∀ b ∈ fp, H3 b = none) → Rd J D H3 →
      codeAny (model X.prog X.w) X.A (.compLoop node 0 (.ref it) (.ref D) (compEnvC scope cl C X.env)) (fun r s' => match r with
        | .ok _ => ∃ H', Inv (X.blk s3 H3 scope (compEnvC scope cl C X.env) fp) [] (wipe σ (own.map (·.2))) H' s' ∧ Q (.ref D) H'
        | .error _ => False) s4)
    (hRR : ∀ D C s' m H', Inv X pins σ H' s' → Q (.ref D) H' → s'.heap.Ns C m → FpOk X pins H' C → compPost (model X.prog X.w) X.A X.xe use Qf (.ref D) C (.ok .next) s') :
    wpAny (model X.prog X.w) X.A (comprehension node scope X.env pos' newAcc false (eval iter X.env) use) Qf X.xe s := by
  have frees : ∀ y ∈ scope.names, y.2 = .free → ∃ c, X.env.cells.lookup y.1 = some c := fun y hy e => (ok.free y hy e).elim (fun k => I.ok.has _ (.inl k)) fun k => I.ok.has _ (.inr k)
  refine wpAny_comprehension_free (use := use) hcl hs (closure_ok frees) ok.kind (fun y hy e => by rw [ok.uniq y hy, e]) (thn (hi.run pins s σ H _ I h) fun xv s1 hx => thn hx fun itv s2 z => ?_)
  obtain ⟨it, fp, tn, J, H2, rfl, I2, T, st2, f2, q⟩ := z
  refine hnew (newEnv_comp ?_)
  obtain ⟨D, hD⟩ : ∃ D, s2.heap.objs.size = D := ⟨_, rfl⟩
  have rd := q D (I2.hok.fresh (Nat.le_of_eq hD))
  obtain ⟨s3, hs3⟩ : ∃ s3 : Shared, ({ s2 with heap := s2.heap.push O } : Shared) = s3 := ⟨_, rfl⟩
  have push3 : s3.heap = s2.heap.push O := by rw [← hs3]
  have I3 : Inv X pins σ (upd H2 D (emp D)) s3 := by
    rw [← hs3, ← hD]
    exact I2.laid (t' := s2.toks) (fun b o e => Heap.get?_push_of_some _ e) (Nat.le_refl _) (hemp I2 _)
  have f3 : ∀ b ∈ fp, FpOk X pins (upd H2 D (emp D)) b ∧ b < s3.heap.objs.size := fun b hb => by
    obtain ⟨o, e, _⟩ := T.obj _ _ st2 b hb
    have lt := Heap.lt_size e
    refine ⟨⟨?_, (f2 b hb).2⟩, by rw [push3, Heap.size_push]; exact Nat.lt_succ_of_lt lt⟩
    rw [upd_ne (Nat.ne_of_lt (hD ▸ lt))]
    exact (f2 b hb).1
  have st3 : tn 0 s3.heap := T.keep _ _ _ st2 fun b _ o e => by rw [push3]; exact Heap.get?_push_of_some _ e
  rw [hD, hs3]
  generalize hH3 : upd H2 D (emp D) = H3 at I3 f3 rd
  have I4 := block_start I3 ok hN f3
  generalize hcl' : cellsFrom (s3.heap.objs.size + 1) scope.names (cloFrom X.env.cells scope.names []) = cl at I4 ⊢
  obtain ⟨s4, hs4⟩ : ∃ s4 : Shared, ({ s3 with heap := pushCells (s3.heap.push { cls := .type "dict", data := .dict #[] }) scope.names } : Shared) = s4 := ⟨_, rfl⟩
  rw [hs4] at I4
  have st4 : tn 0 s4.heap := T.keep _ _ _ st3 fun b _ o e => by rw [← hs4]; exact pushCells_keeps _ _ _ _ (Heap.get?_push_of_some _ e)
  have nfp : ∀ b ∈ fp, H3 b = none := fun b hb => (f3 b hb).1.1
  have stat : ∀ H', (∀ b ∈ fp, H' b = none) → ∀ b ∈ fp, FpOk (X.blk s3 H3 scope (compEnvC scope cl s3.heap.objs.size X.env) fp) [] H' b := fun H' hn b hb =>
    ⟨hn b hb, (I4.ok.exf b hb).1, I4.ok.exfs b hb, .inl hb, fun x c e => (I4.ok.exf b hb).2 x c e, fun p hp => absurd (show p ∈ ([] : List (Addr × Obj)) ++ [] from hp) (by simp)⟩
  show codeAny _ _ (.compStart node 0 (.ref it) (.ref D) (compEnvC scope cl s3.heap.objs.size X.env)) (compPost (model X.prog X.w) X.A X.xe use Qf (.ref D) s3.heap.objs.size) _
  rw [hs4]
  have lp := codeAny_mono (loop s3 H3 s3.heap.objs.size cl fp it tn J D s4 T stat I4 st4 nfp rd) (R' := compPost (model X.prog X.w) X.A X.xe use Qf (.ref D) s3.heap.objs.size) fun r s' z => by
    cases r with
    | error e => exact z.elim
    | ok f =>
      obtain ⟨H', I', qq⟩ := z
      have I7 : Inv X pins σ H' s' := I3.call' (ch := fp) I'.os I'.base I'.hok I'.bare fun b hb => ⟨(f3 b hb).1.2.2.2.1, (f3 b hb).1.2.1, (f3 b hb).1.2.2.2.2.1, (f3 b hb).1.2.2.2.2.2⟩
      have nC : H' s3.heap.objs.size = none := I'.free
      obtain ⟨m, hn, _⟩ := I'.loc
      have cp := hRR D s3.heap.objs.size s' m H' I7 qq hn (I3.fpOk (Nat.le_refl _) nC)
      cases use <;> exact cp
  exact start_any ic (by rw [hcl]; rfl) lp (T.self X.A 0 _ _ _ st4 lp)
end
/-- how values go into a new set -/
structure Adder (P : Program) (w : World) where
  emp : Addr → HO
  ad : Addr → V → Hp → (Hp → Prop) → Prop
  fresh : ∀ (H : Hp) (h : Heap), ObjOk P w H (h.push { cls := .type "set", dict := none, data := .set #[] 0 (.fresh 0 0 (!w.params.followText "set-order")) }) h.objs.size (emp h.objs.size)
  add : ∀ {X : Cx}, X.prog = P → X.w = w → ∀ {pins : List (Addr × Obj)} {σ : L2.St} {H : Hp} {s : Shared} {E : Value → Shared → Prop} {D : Addr} {y : V} {v : Value} {C : Hp → Prop}, Inv X pins σ H s → RelV y v → ad D y H C →
    wpAny (model P w) X.A (call (.builtin "set.add") [.ref D, v]) (fun _ s' => ∃ H', Inv X pins σ H' s' ∧ C H') E s
/-- an item into the set at D -/
def tAd {P : Program} {w : World} (M : Adder P w) (te : TE) (D : Addr) : TAc := fun σ H C => te σ H fun y H' => M.ad D y H' C
def tSet1 {P : Program} {w : World} (M : Adder P w) (wi : TI) (g : TG) (tt : TT) (te : TE) (vs : List Nat) : TE := fun σ H Q => wi σ H fun J H1 => ∀ D, H1 D = none → Walk J g tt (tAd M te D) vs σ (fun H => Q (.ref D) H) (upd H1 D (M.emp D))
def tSet2 {P : Program} {w : World} (M : Adder P w) (wi : TI) (g : TG) (tt : TT) (wi1 : TI) (g1 : TG) (tt1 : TT) (te : TE) (vs vs1 : List Nat) : TE := fun σ H Q => wi σ H fun J H1 => ∀ D, H1 D = none →
  Walk J g tt (fun σ2 H2 C => wi1 σ2 H2 fun J1 H3 => Walk J1 g1 tt1 (tAd M te D) vs1 σ2 C H3) vs σ (fun H => Q (.ref D) H) (upd H1 D (M.emp D))
section
variable {X : Cx} {elt tg iter : Expr} {ifs : List Expr} {scope : Scope} {own : List (PySem.Str × Nat)} {pos : Pos} {wi : TI} {g : TG} {tt : TT} {te : TE}
theorem emit_ok {B : Cx} (M : Adder B.prog B.w) (hx : B.xe = nil2) (he : PE B elt te) {D : Addr} : ∀ (pl : List (Addr × Obj)) s σ H C, Inv B pl σ H s → tAd M te D σ H C →
    wpAny (model B.prog B.w) B.A (do let v ← eval elt B.env; standAt elt.pos; let _ ← call (.builtin "set.add") [.ref D, v]) (fun _ s' => ∃ H', Inv B pl σ H' s' ∧ C H') nil2 s := by
  intro pl s σ H C I q
  have a1 := he.run pl s σ H _ I q
  rw [hx] at a1
  exact wpAny_bind (thnF a1 fun v s1 ⟨y, H1, I1, r1, q1⟩ => wpAny_bind (wpAny_standAt (wpAny_bind (thnF (M.add rfl rfl I1 r1 q1) fun _ s2 z => wpAny_pure z))))
theorem pe_set1 (M : Adder X.prog X.w) (hc : X.calm = true) (hN : X.N.Nodup) (hi : PI X tg iter wi) (ok : BlkOk X.N X.env.scope scope own)
    (hg : ∀ (s : Shared) (H : Hp) (C : Addr) (cl : List (PySem.Str × Addr)) (fp : List Addr), PG (X.blk s H scope (compEnvC scope cl C X.env) fp) tg g) (ht : ∀ (s : Shared) (H : Hp) (C : Addr) (cl : List (PySem.Str × Addr)) (fp : List Addr), PTs (X.blk s H scope (compEnvC scope cl C X.env) fp) ifs tt)
    (he : ∀ (s : Shared) (H : Hp) (C : Addr) (cl : List (PySem.Str × Addr)) (fp : List Addr), PE (X.blk s H scope (compEnvC scope cl C X.env) fp) elt te) (hs : ∀ x, foldedSetIterable iter X.env x = pure x := by intro _; rfl) :
    PE X (.SetComp elt [⟨tg, iter, ifs, 0⟩] scope pos) (tSet1 M wi g tt te (own.map (·.2))) := by
  refine ⟨fun pins s σ H Q I h => ?_⟩
  rw [PpSet.eval_SetComp]
  refine block_any (Q := Q) (Rd := fun J D H1 => Walk J g tt (tAd M te D) (own.map fun z : PySem.Str × Nat => z.2) σ (fun H => Q (.ref D) H) H1) (.inl ⟨_, _, _, _, rfl⟩) rfl (fun q => PpSet.newSet_ok q) (fun _ _ => M.fresh _ _) hc hN I hi ok hs h
    (fun s3 H3 C cl fp it tn J D s4 T stat I4 st4 nfp rd => ?_) fun D C s' m H' I' q hn f => ⟨m, hn, fun h'' sb => ?_⟩
  · exact clause_ok (B := X.blk s3 H3 scope (compEnvC scope cl C X.env) fp) (tail := tailIn _ _) (p := iter.pos) (.inl ⟨_, _, _, _, rfl⟩) rfl rfl rfl hc T (hg s3 H3 C cl fp) (ht s3 H3 C cl fp) stat (act_in (emit_ok (B := X.blk s3 H3 scope (compEnvC scope cl C X.env) fp) M rfl (he s3 H3 C cl fp))) rfl
      (fun s' H' I' d => ⟨H', I', d⟩) rd I4 st4 nfp
  · obtain ⟨f0, f1, f2, f3, f4, f5⟩ := f
    exact ⟨.ref D, H', I'.turned (t' := s'.toks) (fun b o hb e => (sb.2 b hb).trans e) f0 f1 f3 f4 f5, rfl, q⟩
theorem pe_set2 (M : Adder X.prog X.w) {tg1 iter1 : Expr} {ifs1 : List Expr} {wi1 : TI} {g1 : TG} {tt1 : TT} {vs1 : List Nat} (hc : X.calm = true) (hN : X.N.Nodup) (hi : PI X tg iter wi) (ok : BlkOk X.N X.env.scope scope own) (hv : ∀ i ∈ vs1, i ∈ own.map (·.2))
    (hg : ∀ (s : Shared) (H : Hp) (C : Addr) (cl : List (PySem.Str × Addr)) (fp : List Addr), PG (X.blk s H scope (compEnvC scope cl C X.env) fp) tg g) (ht : ∀ (s : Shared) (H : Hp) (C : Addr) (cl : List (PySem.Str × Addr)) (fp : List Addr), PTs (X.blk s H scope (compEnvC scope cl C X.env) fp) ifs tt)
    (hi1 : ∀ (s : Shared) (H : Hp) (C : Addr) (cl : List (PySem.Str × Addr)) (fp : List Addr), PI (X.blk s H scope (compEnvC scope cl C X.env) fp) tg1 iter1 wi1)
    (hg1 : ∀ (s : Shared) (H : Hp) (C : Addr) (cl : List (PySem.Str × Addr)) (fp : List Addr), PG (X.blk s H scope (compEnvC scope cl C X.env) fp) tg1 g1) (ht1 : ∀ (s : Shared) (H : Hp) (C : Addr) (cl : List (PySem.Str × Addr)) (fp : List Addr), PTs (X.blk s H scope (compEnvC scope cl C X.env) fp) ifs1 tt1)
    (he : ∀ (s : Shared) (H : Hp) (C : Addr) (cl : List (PySem.Str × Addr)) (fp : List Addr), PE (X.blk s H scope (compEnvC scope cl C X.env) fp) elt te)
    (hs : ∀ x, foldedSetIterable iter X.env x = pure x := by intro _; rfl) (hs1 : ∀ env x, foldedSetIterable iter1 env x = pure x := by intro _ _; rfl) :
    PE X (.SetComp elt [⟨tg, iter, ifs, 0⟩, ⟨tg1, iter1, ifs1, 0⟩] scope pos) (tSet2 M wi g tt wi1 g1 tt1 te (own.map (·.2)) vs1) := by
  refine ⟨fun pins s σ H Q I h => ?_⟩
  rw [PpSet.eval_SetComp]
  refine block_any (Q := Q) (Rd := fun J D H1 => Walk J g tt (fun σ2 H2 C => wi1 σ2 H2 fun J1 H3 => Walk J1 g1 tt1 (tAd M te D) vs1 σ2 C H3) (own.map fun z : PySem.Str × Nat => z.2) σ (fun H => Q (.ref D) H) H1) (.inl ⟨_, _, _, _, rfl⟩) rfl (fun q => PpSet.newSet_ok q) (fun _ _ => M.fresh _ _) hc hN I hi ok hs h
    (fun s3 H3 C cl fp it tn J D s4 T stat I4 st4 nfp rd => ?_) fun D C s' m H' I' q hn f => ⟨m, hn, fun h'' sb => ?_⟩
  · exact clause_ok (B := X.blk s3 H3 scope (compEnvC scope cl C X.env) fp) (tail := tailOut _ iter1 (.ref D) _ _) (p := iter.pos) (.inl ⟨_, _, _, _, rfl⟩) rfl rfl rfl hc T (hg s3 H3 C cl fp) (ht s3 H3 C cl fp) stat
      (act_out (p1 := iter1.pos) (.inl ⟨_, _, _, _, rfl⟩) rfl (fun it1 => rfl) rfl hc hv (hs1 _) (hi1 s3 H3 C cl fp) (hg1 s3 H3 C cl fp) (ht1 s3 H3 C cl fp) (emit_ok (B := X.blk s3 H3 scope (compEnvC scope cl C X.env) fp) M rfl (he s3 H3 C cl fp))) rfl
      (fun s' H' I' d => ⟨H', I', d⟩) rd I4 st4 nfp
  · obtain ⟨f0, f1, f2, f3, f4, f5⟩ := f
    exact ⟨.ref D, H', I'.turned (t' := s'.toks) (fun b o hb e => (sb.2 b hb).trans e) f0 f1 f3 f4 f5, rfl, q⟩
end
/-- a key and a value into the dict at D -/
def tPut (tk tv : TE) (D : Addr) : TAc := fun σ H C => tk σ H fun y H1 => tv σ H1 fun x H2 => ∃ (kvs : List (Key × V)) (k : Key), y = kV k ∧ H2 D = some (.dK kvs) ∧ kvs.length < sizeLine ∧ C (upd H2 D (.dK (putK kvs k x)))
def tDict2 (wi : TI) (g : TG) (tt : TT) (wi1 : TI) (g1 : TG) (tt1 : TT) (tk tv : TE) (vs vs1 : List Nat) : TE := fun σ H Q => wi σ H fun J H1 => ∀ D, H1 D = none →
  Walk J g tt (fun σ2 H2 C => wi1 σ2 H2 fun J1 H3 => Walk J1 g1 tt1 (tPut tk tv D) vs1 σ2 C H3) vs σ (fun H => Q (.ref D) H) (upd H1 D (.dK []))
section
variable {X : Cx} {kx vx tg iter : Expr} {ifs : List Expr} {scope : Scope} {own : List (PySem.Str × Nat)} {pos : Pos} {wi : TI} {g : TG} {tt : TT} {tk tv : TE}
theorem emit_put {B : Cx} (hx : B.xe = nil2) (hk : PE B kx tk) (hv : PE B vx tv) {D : Addr} {p : Pos} : ∀ (pl : List (Addr × Obj)) s σ H C, Inv B pl σ H s → tPut tk tv D σ H C →
    wpAny (model B.prog B.w) B.A (do let kv ← eval kx B.env; let vv ← holding [kv] (eval vx B.env); standAt p; holding [kv, vv] (dictSet D kv vv)) (fun _ s' => ∃ H', Inv B pl σ H' s' ∧ C H') nil2 s := by
  intro pl s σ H C I q
  have a1 := hk.run pl s σ H _ I q
  rw [hx] at a1
  refine wpAny_bind (thnF a1 fun kv s1 ⟨y, H1, I1, r1, q1⟩ => ?_)
  have a2 := hv.run pl s1 σ H1 _ I1 q1
  rw [hx] at a2
  refine wpAny_bind (wpAny_holding (thnF a2 fun vv s2 ⟨x, H2, I2, r2, kvs, k, ey, hD, few, c⟩ => ?_))
  subst ey
  exact wpAny_bind (wpAny_standAt (wpAny_holding (d_dictSet I2 hD few r1 r2 fun s3 I3 => ⟨_, I3, c⟩)))
theorem pe_dict2 {tg1 iter1 : Expr} {ifs1 : List Expr} {wi1 : TI} {g1 : TG} {tt1 : TT} {vs1 : List Nat} (hc : X.calm = true) (hN : X.N.Nodup) (hi : PI X tg iter wi) (ok : BlkOk X.N X.env.scope scope own) (hv : ∀ i ∈ vs1, i ∈ own.map (·.2))
    (hg : ∀ (s : Shared) (H : Hp) (C : Addr) (cl : List (PySem.Str × Addr)) (fp : List Addr), PG (X.blk s H scope (compEnvC scope cl C X.env) fp) tg g) (ht : ∀ (s : Shared) (H : Hp) (C : Addr) (cl : List (PySem.Str × Addr)) (fp : List Addr), PTs (X.blk s H scope (compEnvC scope cl C X.env) fp) ifs tt)
    (hi1 : ∀ (s : Shared) (H : Hp) (C : Addr) (cl : List (PySem.Str × Addr)) (fp : List Addr), PI (X.blk s H scope (compEnvC scope cl C X.env) fp) tg1 iter1 wi1)
    (hg1 : ∀ (s : Shared) (H : Hp) (C : Addr) (cl : List (PySem.Str × Addr)) (fp : List Addr), PG (X.blk s H scope (compEnvC scope cl C X.env) fp) tg1 g1) (ht1 : ∀ (s : Shared) (H : Hp) (C : Addr) (cl : List (PySem.Str × Addr)) (fp : List Addr), PTs (X.blk s H scope (compEnvC scope cl C X.env) fp) ifs1 tt1)
    (hk : ∀ (s : Shared) (H : Hp) (C : Addr) (cl : List (PySem.Str × Addr)) (fp : List Addr), PE (X.blk s H scope (compEnvC scope cl C X.env) fp) kx tk) (he : ∀ (s : Shared) (H : Hp) (C : Addr) (cl : List (PySem.Str × Addr)) (fp : List Addr), PE (X.blk s H scope (compEnvC scope cl C X.env) fp) vx tv)
    (hs : ∀ x, foldedSetIterable iter X.env x = pure x := by intro _; rfl) (hs1 : ∀ env x, foldedSetIterable iter1 env x = pure x := by intro _ _; rfl) :
    PE X (.DictComp kx vx [⟨tg, iter, ifs, 0⟩, ⟨tg1, iter1, ifs1, 0⟩] scope pos) (tDict2 wi g tt wi1 g1 tt1 tk tv (own.map (·.2)) vs1) := by
  refine ⟨fun pins s σ H Q I h => ?_⟩
  rw [arm_eval_DictComp]
  refine block_any (Q := Q) (Rd := fun J D H1 => Walk J g tt (fun σ2 H2 C => wi1 σ2 H2 fun J1 H3 => Walk J1 g1 tt1 (tPut tk tv D) vs1 σ2 C H3) (own.map fun z : PySem.Str × Nat => z.2) σ (fun H => Q (.ref D) H) H1) (emp := fun _ => .dK []) (.inr (.inr ⟨_, _, _, _, _, rfl⟩)) rfl
    (fun q => wpAny_newObj_type q) (fun I' H' => dk_empty _ I'.big) hc hN I hi ok hs h
    (fun s3 H3 C cl fp it tn J D s4 T stat I4 st4 nfp rd => ?_) fun D C s' m H' I' q hn f => ⟨m, hn, fun h'' sb => ?_⟩
  · exact clause_ok (B := X.blk s3 H3 scope (compEnvC scope cl C X.env) fp) (tail := tailOut _ iter1 (.ref D) _ _) (p := iter.pos) (.inr (.inr ⟨_, _, _, _, _, rfl⟩)) rfl rfl rfl hc T (hg s3 H3 C cl fp) (ht s3 H3 C cl fp) stat
      (act_out (p1 := iter1.pos) (.inr (.inr ⟨_, _, _, _, _, rfl⟩)) rfl (fun it1 => rfl) rfl hc hv (hs1 _) (hi1 s3 H3 C cl fp) (hg1 s3 H3 C cl fp) (ht1 s3 H3 C cl fp) (emit_put (B := X.blk s3 H3 scope (compEnvC scope cl C X.env) fp) rfl (hk s3 H3 C cl fp) (he s3 H3 C cl fp))) rfl
      (fun s' H' I' d => ⟨H', I', d⟩) rd I4 st4 nfp
  · obtain ⟨f0, f1, f2, f3, f4, f5⟩ := f
    exact ⟨.ref D, H', I'.turned (t' := s'.toks) (fun b o hb e => (sb.2 b hb).trans e) f0 f1 f3 f4 f5, rfl, q⟩
end
end L2.Cmp
set_option Elab.async false
set_option linter.all false
set_option maxRecDepth 100000
set_option maxHeartbeats 4000000
/-! Sets of texts: as tracked things, by comprehension, sorted. -/
namespace L2.TxtSet
open PySem PySem.Spec PyProof.Rows L2.GSet L2.Cmp
def keyT : Value → Str
  | .str x _ => x
  | _ => ⟨#[]⟩
theorem keyT_is (P : Program) (w : World) : ∀ k v, (PySem.strKind P w).is k v = true → keyT v = k := fun k v h => by
  obtain ⟨t, rfl⟩ := Value.isStrOf_shape h
  rfl
/-- the set of texts at a: ks, in some order -/
def SetT (P : Program) (w : World) (a : Addr) (ks : List Str) : HO := .ext fun h => GAt (PySem.strKind P w) keyT h a ks
theorem setT_new {P : Program} {w : World} {H : Hp} {h : Heap} {a : Addr} {ks : List Str} (R : GAt (PySem.strKind P w) keyT h a ks) : ObjOk P w H h a (SetT P w a ks) := ⟨R, R.some, fun h1 h2 p k => GAt.keep p k⟩
section
variable {X : Cx} {pins : List (Addr × Obj)} {σ : L2.St} {H : Hp} {s : Shared}
theorem setT_get {a : Addr} {ks : List Str} (I : Inv X pins σ H s) (ha : H a = some (SetT X.prog X.w a ks)) : GAt (PySem.strKind X.prog X.w) keyT s.heap a ks := (I.hok a _ ha).1
end
/-- texts into a set of texts -/
def addT (P : Program) (w : World) : Adder P w where
  emp := fun D => SetT P w D []
  ad := fun D y H C => ∃ (z : Str) (ks : List Str), y = .str z ∧ H D = some (SetT P w D ks) ∧ ks.length + 1 < scanBound ∧ C (upd H D (SetT P w D (if z ∈ ks then ks else ks ++ [z])))
  fresh := fun H h => setT_new (GSet.fresh h)
  add := fun {X} hP hw {pins σ H s E D y v C} I r q => by
    subst hP
    subst hw
    obtain ⟨z, ks, rfl, hD, room, c⟩ := q
    obtain ⟨u, rfl⟩ := r
    refine add_call (keyT_is X.prog X.w) (k := z) (Froz.is_str z u) rfl (setT_get I hD) room fun h' sb new => ⟨_, ?_, c⟩
    exact I.write (e := D) (t' := s.toks + 1) (by rw [hD]; trivial) (.inl rfl) (fun b o hb ho => (sb.2 b hb).trans ho) new.some (setT_new new)
/-- sorted(a set of texts) -/
def rSortT (P : Program) (w : World) : List V → Hp → VK → Prop := fun vs H Q => ∃ (a : Addr) (ks : List Str), vs = [V.ref a] ∧ H a = some (SetT P w a ks) ∧ ks.length < 64 ∧
  ∀ (ys : List Str) (p : Addr), ys.Perm ks → sortedS ys = true → H p = none → Q (.ref p) (upd H p (.lst (ys.map V.str)))
theorem strs_out : ∀ {vs : List Value}, (∀ v ∈ vs, ∃ x u, v = Value.str x u) → StrsAre vs (vs.map keyT)
  | [], _ => .nil
  | v :: vs, h => by
    obtain ⟨x, u, rfl⟩ := h v List.mem_cons_self
    exact .cons x u (strs_out fun y m => h y (List.mem_cons_of_mem _ m))
theorem sort_tree {P : Program} {w : World} {A : Around} {E : Value → Shared → Prop} {s : Shared} {a : Addr} {ks : List Str} {Q : Value → Shared → Prop} (R : GAt (PySem.strKind P w) keyT s.heap a ks) (hh : A.handled = none) (h64 : ks.length < 64)
    (hQ : ∀ s' p (out : Array Value) (c : Nat) (ys : List Str), (∀ b o, s.heap.get? b = some o → s'.heap.get? b = some o) → s'.gens = s.gens → s'.os = s.os → s.heap.objs.size ≤ p → s'.heap.get? p = some (seqObj "list" out c) →
      StrsAre out.toList ys → ys.Perm ks → sortedS ys = true → Q (.ref p) s') : wpAny (model P w) A (call (.builtin "sorted") [.ref a]) Q E s := by
  obtain ⟨o, es, ep, t, ho, ox, od, p⟩ := R
  refine Calls.call_function_entry kind_sorted plain_sorted entry_sorted (args_sorted1 _) ?_
  unfold Builtin.«sorted»
  refine wpAny_bind (m := checkCount "sorted" 1 1 _) (wpAny_pure (wpAny_bind (collect_set (A := A.in1) hh ⟨o, ho, ox.1, od⟩ p.fit p.few p.ris p.led fun s1 vs k1 z1 g1 o1 pm => ?_)))
  have lv : vs.length = ks.length := by rw [pm.length_eq, List.length_map, Array.length_toList, p.size]
  have tx : StrsAre vs (vs.map keyT) := strs_out fun v m => by
    obtain ⟨e, he, rfl⟩ := List.mem_map.mp (pm.mem_iff.mp m)
    obtain ⟨⟨k, i, _⟩, _⟩ := p.el e he
    obtain ⟨u, q⟩ := Value.isStrOf_shape i
    exact ⟨k, u, q⟩
  have pk : (vs.map keyT).Perm ks := by
    have z := pm.map keyT
    rw [List.map_map] at z
    exact z.trans p.pm
  refine wpAny_bind (wpAny_newList ?_ (by rw [lv, sizeLine_eq]; omega))
  have at1 : (s1.heap.push (seqObj "list" vs.toArray 0)).get? s1.heap.objs.size = some (seqObj "list" vs.toArray 0) := Heap.get?_push_size _ rfl
  refine wpAny_bind (wpAny_holding (wpAny_call_entry slot_list_sort ⟨_, at1, rfl⟩ entry_list_sort (list_sort_treeK strKind_oneLt at1 tx.keysOf (fun v₁ v₂ rest e => keyKind_strs (by rw [← e]; exact tx)) (by rw [lv]; exact h64) fun st' hp' hs' => ?_) (args_list_sort _)))
  obtain ⟨ys, a1, a2, a3⟩ := sorted_out_str tx hp' hs'
  refine ⟨_, rfl, ?_⟩
  generalize ho' : (arrOf st').map (·.2) = out at a1
  obtain ⟨c, hc⟩ := sortedHeap_at (vs := vs) (out := out) at1
  refine wpAny_pure ⟨_, rfl, hQ _ s1.heap.objs.size out c ys (fun b u e => ?_) g1 o1 z1 hc a1 (a2.trans pk) a3⟩
  have q := k1 b u e
  have lt := Heap.lt_size q
  exact (sortedHeap_old (Nat.ne_of_lt lt) (by rw [size_push']; exact Nat.lt_succ_of_lt lt)).trans (Heap.get?_push_of_some _ q)
section
variable {X : Cx}
theorem cr_sortT (hc : X.calm = true) : CallR X (.builtin "sorted") (rSortT X.prog X.w) := by
  intro pins s σ H vs us Q I r h
  obtain ⟨a, ks, rfl, ha, h64, q⟩ := h
  rw [Vals.ref1 r]
  refine sort_tree (setT_get I ha) (I.ok.hd hc) h64 fun s' p out c ys k g o hp at2 tx pm so => ?_
  have hn : H p = none := I.hok.fresh hp
  have fits : (ys.map V.str).length ≤ sizeLine := by rw [List.length_map, pm.length_eq, sizeLine_eq]; omega
  have J : Inv X pins σ (upd H p (.lst (ys.map V.str))) { s with heap := s'.heap, gens := s'.gens, drawn := s'.drawn, toks := s'.toks } :=
    I.call (ch := []) (Un.laid k hp hn) (I.hok.laid k hp ⟨fits, out.toList, c, vals_of_strs tx, at2⟩) (by rw [g]; exact I.bare) fun _ z => nomatch z
  have e : s' = { s with heap := s'.heap, gens := s'.gens, drawn := s'.drawn, toks := s'.toks } := by
    cases s'
    cases s
    cases o
    rfl
  rw [e]
  exact ⟨.ref p, _, J, rfl, q ys p pm so hn⟩
end
end L2.TxtSet
set_option Elab.async false
set_option linter.all false
set_option maxRecDepth 100000
set_option maxHeartbeats 4000000
/-! Sets of tuples by comprehension. -/
namespace L2.NSet
open PySem PySem.Spec PyProof.Rows L2.Cmp
section
variable {X : Cx}
/-- a.add(x), x a tuple -/
theorem add_tup {P : Program} {w : World} {A : Around} {E : Value → Shared → Prop} {s : Shared} {a : Addr} {L : List Mem} {es : Array (Int × Value)} {ep : Nat} {t : SetTable} (R : Tab P w s.heap a L es ep t) {x : Addr} {k : NestedKey} (hx : Kb P w s.heap k x)
    (hu : A.units + 20 < cLine) (few : L.length + 1 < 64) {Q : Value → Shared → Prop}
    (hQ : ∀ tk h2 L2 es2 ep2 t2, Heap.SameBut a s.heap h2 → Tab P w h2 a L2 es2 ep2 t2 → (k ∈ L.map (·.2) → L2 = L) → (k ∉ L.map (·.2) → L2.Perm ((x, k) :: L)) → Q .none { s with heap := h2, toks := tk }) :
    wpAny (model P w) A (call (.builtin "set.add") [.ref a, .ref x]) Q E s := by
  have ty : s.TypeIs (.ref a) "set" := by
    obtain ⟨o, ho, ox, _⟩ := R.here
    exact ⟨o, ho, ox.1⟩
  refine wpAny_call_entry F.slot_set_add ty F.entry_set_add ?_ (F.args_set_add_2 _ _)
  unfold Builtin.«set.add» Builtin.Frozenset.oneOther Builtin.Frozenset.addrOf setAdd
  simp only [List.isEmpty_nil, bind_assoc]
  refine wpAny_bind (wpAny_pure (wpAny_bind (wpAny_pure (wpAny_bind (wpAny_holding (wpAny_bind ((nestedKind P w).pyHash (show A.units + 1 + 8 < cLine by omega) hx ?_)))))))
  exact lay (s := { s with toks := s.toks + k.draws }) R hx (show A.units + 1 + 8 < cLine by omega) few fun b h2 L2 es2 ep2 t2 sb R2 c1 c2 => wpAny_pure ⟨_, rfl, hQ _ h2 L2 es2 ep2 t2 sb R2 c1 c2⟩
/-- a tuple into the set at D -/
def tAdN (K : PySem.W.Frag) (P : Program) (w : World) (te : TE) (D : Addr) : TAc := fun σ H C => te σ H fun y H1 => ∃ (p : Mem) (L : List Mem), y = .ref p.1 ∧ H1 D = some (SetN P w D L) ∧ (∀ q ∈ L, MemOk K H1 q) ∧ MemOk K H1 p ∧ L.length + 1 < 64 ∧
  ∀ L2, (p.2 ∈ L.map (·.2) → L2 = L) → (p.2 ∉ L.map (·.2) → L2.Perm (p :: L)) → C (upd H1 D (SetN P w D L2))
def tSetN (K : PySem.W.Frag) (P : Program) (w : World) (wi : TI) (g : TG) (tt : TT) (te : TE) (vs : List Nat) : TE := fun σ H Q => wi σ H fun J H1 => ∀ D, H1 D = none → L2.Cmp.Walk J g tt (tAdN K P w te D) vs σ (fun H => Q (.ref D) H) (upd H1 D (SetN P w D []))
theorem emit_tup {B : Cx} (hx : B.xe = nil2) (hu : B.A.units + 64 < cLine) {elt : Expr} {te : TE} (he : PE B elt te) {D : Addr} : ∀ (pl : List (Addr × Obj)) s σ H C, Inv B pl σ H s → tAdN B.K B.prog B.w te D σ H C →
    wpAny (model B.prog B.w) B.A (do let v ← eval elt B.env; standAt elt.pos; let _ ← call (.builtin "set.add") [.ref D, v]) (fun _ s' => ∃ H', Inv B pl σ H' s' ∧ C H') nil2 s := by
  intro pl s σ H C I q
  have a1 := he.run pl s σ H _ I q
  rw [hx] at a1
  refine wpAny_bind (thnF a1 fun v s1 ⟨y, H1, I1, r1, p, L, ey, hD, hL, hp, few, c⟩ => wpAny_bind (wpAny_standAt (wpAny_bind ?_)))
  subst ey
  cases r1
  have R0 : Tab0 B.prog B.w s1.heap D L := (I1.hok D _ hD).1
  obtain ⟨es, ep, t, R⟩ := R0.full fun p m => kb_of I1 (hL p m)
  refine add_tup R (kb_of I1 hp) (by omega) few fun tk h2 L2 es2 ep2 t2 sb R2 c1 c2 => wpAny_pure ⟨_, ?_, c L2 c1 c2⟩
  have N := setN_new (P := B.prog) (w := B.w) (H := upd H1 D (SetN B.prog B.w D L2)) R2.t0
  exact I1.write (e := D) (t' := tk) (by rw [hD]; trivial) (.inl rfl) (fun b o hb ho => (sb.2 b hb).trans ho) (by obtain ⟨o, ho, _⟩ := R2.here; exact ⟨o, ho⟩) (setN_new R2.t0)
variable {elt tg iter : Expr} {ifs : List Expr} {scope : Scope} {own : List (PySem.Str × Nat)} {pos : Pos} {wi : TI} {g : TG} {tt : TT} {te : TE}
theorem pe_setN {K : PySem.W.Frag} {P : Program} {w : World} (eK : X.K = K) (eP : X.prog = P) (ew : X.w = w) (hc : X.calm = true) (hu : X.A.units + 64 < cLine) (hN : X.N.Nodup) (hi : PI X tg iter wi) (ok : BlkOk X.N X.env.scope scope own)
    (hg : ∀ (s : Shared) (H : Hp) (C : Addr) (cl : List (PySem.Str × Addr)) (fp : List Addr), PG (X.blk s H scope (compEnvC scope cl C X.env) fp) tg g) (ht : ∀ (s : Shared) (H : Hp) (C : Addr) (cl : List (PySem.Str × Addr)) (fp : List Addr), PTs (X.blk s H scope (compEnvC scope cl C X.env) fp) ifs tt)
    (he : ∀ (s : Shared) (H : Hp) (C : Addr) (cl : List (PySem.Str × Addr)) (fp : List Addr), PE (X.blk s H scope (compEnvC scope cl C X.env) fp) elt te) (hs : ∀ x, foldedSetIterable iter X.env x = pure x := by intro _; rfl) :
    PE X (.SetComp elt [⟨tg, iter, ifs, 0⟩] scope pos) (tSetN K P w wi g tt te (own.map (·.2))) := by
  subst eK eP ew
  refine ⟨fun pins s σ H Q I h => ?_⟩
  rw [PpSet.eval_SetComp]
  refine block_any (Q := Q) (Rd := fun J D H1 => L2.Cmp.Walk J g tt (tAdN X.K X.prog X.w te D) (own.map fun z : PySem.Str × Nat => z.2) σ (fun H => Q (.ref D) H) H1) (emp := fun D => SetN X.prog X.w D []) (.inl ⟨_, _, _, _, rfl⟩) rfl (fun q => PpSet.newSet_ok q)
    (fun I1 _ => setN_new (Tab.new (Heap.get?_push_size _ rfl)).t0) hc hN I hi ok hs h
    (fun s3 H3 C cl fp it tn J D s4 T stat I4 st4 nfp rd => ?_) fun D C s' m H' I' q hn f => ⟨m, hn, fun h'' sb => ?_⟩
  · exact clause_ok (B := X.blk s3 H3 scope (compEnvC scope cl C X.env) fp) (tail := tailIn _ _) (p := iter.pos) (.inl ⟨_, _, _, _, rfl⟩) rfl rfl rfl hc T (hg s3 H3 C cl fp) (ht s3 H3 C cl fp) stat (act_in (emit_tup (B := X.blk s3 H3 scope (compEnvC scope cl C X.env) fp) rfl hu (he s3 H3 C cl fp))) rfl
      (fun s' H' I' d => ⟨H', I', d⟩) rd I4 st4 nfp
  · obtain ⟨f0, f1, f2, f3, f4, f5⟩ := f
    exact ⟨.ref D, H', I'.turned (t' := s'.toks) (fun b o hb e => (sb.2 b hb).trans e) f0 f1 f3 f4 f5, rfl, q⟩
end
end L2.NSet
set_option Elab.async false
set_option linter.all false
set_option maxRecDepth 100000
set_option maxHeartbeats 4000000
namespace L2.LawH
open PySem PySem.Spec PyProof.Rows
open Builtin.Int (intBits)
def top (i : Nat) : Stmt := PySem.Challenge.pw_fullestrows_k22_texts_of_questions.main.body.getD i (.Pass ⟨0, 0, 0, 0⟩)
theorem mod_pos {x y : Int} (h : 0 < y) : 0 ≤ x.fmod y ∧ x.fmod y < y := by
  rw [Int.fmod_eq_emod_of_nonneg x (Int.le_of_lt h)]
  exact ⟨Int.emod_nonneg x (by omega), Int.emod_lt_of_pos x h⟩
theorem small_bits {x : Int} (h0 : 0 ≤ x) (h : x < 1152921504606846976) : intBits x ≤ 60 := by
  refine PySem.intBits_le_iff.mpr ?_
  have e : (2 : Nat) ^ 60 = 1152921504606846976 := by decide
  rw [e]
  omega
theorem small_ok {x : Int} (h0 : 0 ≤ x) (h : x < 1152921504606846976) : (intBits x : Int) * 3 ≤ 2 ^ 27 := by
  have := small_bits h0 h
  have e : (2 : Int) ^ 27 = 134217728 := by decide
  rw [e]
  omega
theorem op_powB {X : Cx} : OpR X (binaryOp .Pow) (rI (fun i j => 0 ≤ j ∧ (Builtin.Int.intBits i : Int) * j ≤ 2 ^ 27) fun i j => .int (i ^ j.toNat)) :=
  opI fun _ _ _ _ _ _ _ hc q => pow_int hc.1 hc.2 q
/-- all but a stands as it stood -/
def Keep (a : Addr) (H H' : Hp) : Prop := ∀ b o, H b = some o → b ≠ a → H' b = some o
theorem Keep.refl (a : Addr) (H : Hp) : Keep a H H := fun _ _ e _ => e
theorem Keep.trans {a : Addr} {H H1 H2 : Hp} (k : Keep a H H1) (l : Keep a H1 H2) : Keep a H H2 := fun b o e n => l b o (k b o e n) n
theorem Keep.of {a : Addr} {H H' : Hp} (s : Same H H') : Keep a H H' := fun b o e _ => s b o e
theorem same_new {H : Hp} {p : Addr} {o : HO} (n : H p = none) : Same H (upd H p o) := fun b u e => by
  rw [upd_ne (ne_of_none e n)]
  exact e
theorem Keep.free {a b : Addr} {H H' : Hp} (k : Keep a H H') (n : H' b = none) (ha : H' a ≠ none) : H b = none := by
  cases e : H b with
  | none => rfl
  | some o =>
    have nb : b ≠ a := fun z => ha (by rw [← z]; exact n)
    rw [k b o e nb] at n
    cases n
def isLet (c : Nat) : Bool := decide (97 ≤ c) && decide (c ≤ 122)
def isSgn (c : Nat) : Bool := isLet c || (decide (48 ≤ c) && decide (c ≤ 57))
def nmB : List Nat → Bool
  | [] => false
  | c :: r => isLet c && r.all isSgn && decide (r.length ≤ 11)
/-- a name -/
def Nm (z : Str) : Prop := nmB z.cps.toList = true
theorem toList_append (a b : Str) : (a ++ b).cps.toList = a.cps.toList ++ b.cps.toList := by
  rw [Str.cps_append, Array.toList_append]
theorem length_toList (a : Str) : a.cps.toList.length = a.length := by
  show a.cps.toList.length = a.cps.size
  exact Array.length_toList
abbrev letS : Str := Str.ofString "abcdefghijklmnopqrstuvwxyz"
abbrev digS : Str := Str.ofString "0123456789"
theorem let_all : letS.cps.toList.all isLet = true := by decide +kernel
theorem sgn_all : (letS ++ digS).cps.toList.all isSgn = true := by decide +kernel
theorem let_len : letS.cps.toList.length = 26 := by decide +kernel
theorem sgn_len : (letS ++ digS).cps.toList.length = 36 := by decide +kernel
theorem pick {l : List Nat} {p : Nat → Bool} {n : Nat} (all : l.all p = true) (len : l.length = n) {r : Int} (h0 : 0 ≤ r) (h1 : r < n) :
    ∃ c, atI l r = some c ∧ p c = true := by
  obtain ⟨j, rfl⟩ : ∃ j : Nat, r = j := ⟨r.toNat, by omega⟩
  have hj : j < l.length := by omega
  refine ⟨l[j], atI_nat (List.getElem?_eq_getElem hj), ?_⟩
  exact List.all_eq_true.mp all _ (List.getElem_mem hj)
theorem nm_one {c : Nat} (h : isLet c = true) : Nm ⟨#[c]⟩ := by
  show nmB [c] = true
  simp [nmB, h]
theorem sgn_of_let {c : Nat} (h : isLet c = true) : isSgn c = true := by simp [isSgn, h]
theorem nm_sgns {l : List Nat} (h : nmB l = true) : l.all isSgn = true ∧ l.length ≤ 12 ∧ 1 ≤ l.length := by
  cases l with
  | nil => cases h
  | cons c r =>
    simp only [nmB, Bool.and_eq_true, decide_eq_true_eq] at h
    refine ⟨?_, by simp; omega, by simp⟩
    simp only [List.all_cons, Bool.and_eq_true]
    exact ⟨sgn_of_let h.1.1, h.1.2⟩
theorem nodup_len {α : Type} [DecidableEq α] : ∀ (l D : List α), l.Nodup → (∀ x ∈ l, x ∈ D) → l.length ≤ D.length
  | [], _, _, _ => Nat.zero_le _
  | x :: l, D, nd, h => by
    obtain ⟨n1, n2⟩ := List.nodup_cons.mp nd
    have hx := h x List.mem_cons_self
    have ih := nodup_len l (D.erase x) n2 fun y hy => by
      have ne : y ≠ x := fun z => n1 (by rw [← z]; exact hy)
      exact (List.mem_erase_of_ne ne).mpr (h y (List.mem_cons_of_mem _ hy))
    have e := List.length_erase_of_mem hx
    have pos : 0 < D.length := List.length_pos_of_mem hx
    rw [List.length_cons]
    omega
theorem op_notInK {X : Cx} {K : PySem.W.Frag} (e : X.K = K) : OpR X (compareOp .NotIn) (rIn K true) := by
  subst e
  exact op_notIn_seq
theorem inV_strs (q : Str) : ∀ L : List Str, inV (.str q) (L.map V.str) = decide (q ∈ L)
  | [] => by simp [inV]
  | x :: L => by
    have ih := inV_strs q L
    unfold inV at ih ⊢
    rw [List.map_cons, List.any_cons, ih]
    by_cases h : x = q
    · subst h
      simp [eqV]
    · have h' : ¬ q = x := fun z => h z.symm
      simp [eqV, h, h']
theorem flat_strs : ∀ L : List Str, (L.map V.str).all flatV = true
  | [] => rfl
  | _ :: L => by
    rw [List.map_cons, List.all_cons, flat_strs L]
    rfl
theorem Keep.upd_new {a p : Addr} {H H' : Hp} {o : HO} (k : Keep a H H') (n : H p = none) : Keep a H (upd H' p o) := fun b u e nb => by
  rw [upd_ne (ne_of_none e n)]
  exact k b u e nb
theorem ix_listK {X : Cx} {K : PySem.W.Frag} (e : X.K = K) : IxR X (rIxL K) := by
  subst e
  exact ix_list
/-- a variable -/
def Vr (z : Str) : Prop := ∃ y : Str, Nm y ∧ z = Str.ofString "?" ++ y
theorem ints_get {Z : List Nat} {i : Nat} (h : i < Z.length) : (Z.map fun n : Nat => V.int (n : Int))[i]? = some (.int (Z[i] : Nat)) := by
  rw [List.getElem?_map, List.getElem?_eq_getElem h]
  rfl
theorem strs_get {L : List Str} {i : Nat} (h : i < L.length) : (L.map V.str)[i]? = some (.str L[i]) := by
  rw [List.getElem?_map, List.getElem?_eq_getElem h]
  rfl
theorem ok_list {z : Str} (h : ∀ c ∈ z.cps.toList, c < 0x110000) : PyData.strOk z = true := by
  unfold PyData.strOk
  rw [← Array.all_toList, List.all_eq_true]
  exact fun c hc => decide_eq_true (h c hc)
theorem sgn_small {c : Nat} (h : isSgn c = true) : c < 0x110000 := by
  simp only [isSgn, isLet, Bool.or_eq_true, Bool.and_eq_true, decide_eq_true_eq] at h
  omega
theorem Nm.strOk {z : Str} (h : Nm z) : PyData.strOk z = true := by
  obtain ⟨h1, _, _⟩ := nm_sgns h
  exact ok_list fun c hc => sgn_small (List.all_eq_true.mp h1 c hc)
theorem Vr.strOk {z : Str} (h : Vr z) : PyData.strOk z = true := by
  obtain ⟨y, ny, rfl⟩ := h
  obtain ⟨h1, _, _⟩ := nm_sgns ny
  refine ok_list fun c hc => ?_
  rw [toList_append] at hc
  rcases List.mem_append.mp hc with hc | hc
  · have e1 : (Str.ofString "?").cps.toList = [63] := by decide +kernel
    rw [e1] at hc
    have e : c = 63 := by simpa using hc
    omega
  · exact sgn_small (List.all_eq_true.mp h1 c hc)
theorem dp_strs {K : PySem.W.Frag} {H : Hp} : ∀ zs : List Str, DpAll K H (zs.map V.str) (zs.map PyData.str)
  | [] => .nil
  | z :: zs => .cons (.str z) (dp_strs zs)
theorem lay_strs : ∀ zs : List Str, (PyData.list (zs.map PyData.str)).canLay0 = (zs.all PyData.strOk)
  | [] => rfl
  | z :: zs => by
    have ih := lay_strs zs
    simp only [PyData.canLay0, PyData.canLayAll0, List.map_cons, List.all_cons] at ih ⊢
    rw [ih]
theorem depth_strs : ∀ zs : List Str, (PyData.list (zs.map PyData.str)).depth ≤ 2
  | [] => by decide
  | z :: zs => by
    have ih := depth_strs zs
    simp only [PyData.depth, PyData.depthAll, List.map_cons] at ih ⊢
    omega
theorem shaped_strs {zs : List Str} (h : ∀ z ∈ zs, PyData.strOk z = true) : SeqAt.shaped (.list (zs.map PyData.str)) = true := by
  unfold SeqAt.shaped
  rw [lay_strs, List.all_eq_true.mpr h, Bool.true_and]
  exact decide_eq_true (Nat.le_trans (depth_strs zs) (by decide))
theorem eqv_nil : ∀ zs : List Str, PyData.eqv (.list (zs.map PyData.str)) (.list []) = decide (zs = [])
  | [] => by decide
  | z :: zs => by simp [PyData.eqv, PyData.eqvAll]
theorem none_of {H H' : Hp} {a : Addr} (s : Same H H') (n : H' a = none) : H a = none := by
  cases h : H a with
  | none => rfl
  | some o => rw [s _ _ h] at n; cases n
end L2.LawH
set_option Elab.async false
set_option linter.all false
set_option maxRecDepth 100000
set_option maxHeartbeats 4000000
/-! is_free, variables_of. -/
namespace L2.LawH
open PySem PySem.Spec PyProof.Rows L2.Cmp L2.TxtSet
abbrev sVars : Stmt := top 16
/-! ### walks of a list or a tuple -/
def iSeq (K : PySem.W.Frag) (tl : TE) : TI := fun σ H R => tl σ H fun x H1 => ∃ a, x = .ref a ∧ (((∃ xs, SqL K H1 a xs) ∧ R (Itl K a) H1) ∨ ((∃ xs, SqT K H1 a xs) ∧ R (Itt K a) H1))
theorem pi_seq {X : Cx} {tg l : Expr} {tl : TE} (hl : PE X l tl) : PI X tg l (iSeq X.K tl) := by
  refine ⟨fun pins s σ H R I h => thn (hl.run pins s σ H _ I h) fun v s1 ⟨x, H1, I1, r1, q1⟩ => ?_⟩
  obtain ⟨a, rfl, q⟩ := q1
  cases r1
  have frs : ∀ b ∈ [s1.heap.objs.size], FpOk X pins H1 b := fun b hb => by
    obtain rfl : b = s1.heap.objs.size := by simpa using hb
    exact I1.fpOk (Nat.le_refl _) (I1.hok.fresh (Nat.le_refl _))
  rcases q with ⟨⟨xs, hq⟩, q⟩ | ⟨⟨xs, hq⟩, q⟩
  · obtain ⟨its, _, p, _⟩ := I1.list hq
    exact wpAny_pyIter_list p.isList ⟨_, _, _, _, H1, rfl, I1.kept (t' := s1.toks) fun b o e => Heap.get?_push_of_some _ e, turn_list a _, ⟨_, Heap.get?_push_size _ rfl, rfl, rfl⟩, frs, q⟩
  · obtain ⟨its, _, p, _⟩ := I1.tuple hq
    exact wpAny_pyIter_tuple (show s1.heap.IsTuple a its.toArray from p) ⟨_, _, _, _, H1, rfl, I1.kept (t' := s1.toks) fun b o e => Heap.get?_push_of_some _ e, turn_tuple a _, ⟨_, Heap.get?_push_size _ rfl, rfl, rfl⟩, frs, q⟩
theorem pi_tupK {X : Cx} {K : PySem.W.Frag} (e : X.K = K) {tg l : Expr} {tl : TE} (hl : PE X l tl) : PI X tg l (iTup K tl) := by
  subst e
  exact pi_tup hl
theorem sl_tupK {X : Cx} {K : PySem.W.Frag} (e : X.K = K) : SlR X (rSlT K) := by
  subst e
  exact sl_tup
/-- how a clause over xs is walked, where Sq says that they stand there -/
def WalkR (J : It) (Sq : Hp → Prop) (xs : List V) : Prop := ∀ (g : TG) (tt : TT) (ta : TAc) (vs : List Nat) (σ : List (Option V)) (H0 : Hp) (Done : Hp → Prop) (Pv : Nat → Hp → Prop), Pv 0 H0 → (∀ i H, i ≤ xs.length → Pv i H → Sq H) →
  (∀ i x H, xs[i]? = some x → Pv i H → g x (wipe σ vs) H fun σ2 H2 => wipe σ2 vs = wipe σ vs ∧ tt σ2 H2 fun b H3 => if b = true then ta σ2 H3 (Pv (i + 1)) else Pv (i + 1) H3) → (∀ H, Pv xs.length H → Done H) → L2.Cmp.Walk J g tt ta vs σ Done H0
theorem walk_list {K : PySem.W.Frag} {a : Addr} {xs : List V} : WalkR (Itl K a) (fun H => SqL K H a xs) xs := by
  intro g tt ta vs σ H0 Done Pv h0 hl hs hd
  refine ⟨fun i m H => m = xs.length - i ∧ i ≤ xs.length ∧ Pv i H, ⟨xs.length, rfl, Nat.zero_le _, h0⟩, ?_⟩
  rintro i m H ⟨rfl, hi, p⟩
  rcases Nat.lt_or_eq_of_le hi with lt | rfl
  · refine .inr ⟨⟨xs, xs[i], hl i H hi p, by simp [lt]⟩, Pv (i + 1), fun H' p' => ⟨xs.length - (i + 1), by omega, rfl, lt, p'⟩, ?_⟩
    rintro x _ ⟨rfl, y⟩
    exact hs i x _ (y xs (hl i _ hi p)) p
  · exact .inl ⟨⟨xs, hl _ H hi p, Nat.le_refl _⟩, hd H p⟩
theorem walk_tup {K : PySem.W.Frag} {a : Addr} {xs : List V} : WalkR (Itt K a) (fun H => SqT K H a xs) xs := by
  intro g tt ta vs σ H0 Done Pv h0 hl hs hd
  refine ⟨fun i m H => m = xs.length - i ∧ i ≤ xs.length ∧ Pv i H, ⟨xs.length, rfl, Nat.zero_le _, h0⟩, ?_⟩
  rintro i m H ⟨rfl, hi, p⟩
  rcases Nat.lt_or_eq_of_le hi with lt | rfl
  · refine .inr ⟨⟨xs, xs[i], hl i H hi p, by simp [lt]⟩, Pv (i + 1), fun H' p' => ⟨xs.length - (i + 1), by omega, rfl, lt, p'⟩, ?_⟩
    rintro x _ ⟨rfl, y⟩
    exact hs i x _ (y xs (hl i _ hi p)) p
  · exact .inl ⟨⟨xs, hl _ H hi p, Nat.le_refl _⟩, hd H p⟩
/-! ### each once -/
def put1 (ks : List Str) (z : Str) : List Str := if z ∈ ks then ks else ks ++ [z]
def uniq (l : List Str) : List Str := l.foldl put1 []
theorem uniq_snoc (l : List Str) (z : Str) : uniq (l ++ [z]) = put1 (uniq l) z := by
  unfold uniq
  rw [List.foldl_append]
  rfl
theorem fold_len : ∀ (l acc : List Str), (l.foldl put1 acc).length ≤ acc.length + l.length
  | [], acc => Nat.le_refl _
  | z :: l, acc => by
    have ih := fold_len l (put1 acc z)
    have : (put1 acc z).length ≤ acc.length + 1 := by
      unfold put1
      split
      · omega
      · simp
    rw [List.foldl_cons, List.length_cons]
    omega
theorem uniq_len (l : List Str) : (uniq l).length ≤ l.length := by
  have h := fold_len l []
  rw [List.length_nil, Nat.zero_add] at h
  exact h
theorem fold_mem {y : Str} : ∀ (l acc : List Str), y ∈ l.foldl put1 acc ↔ y ∈ acc ∨ y ∈ l
  | [], acc => by simp
  | z :: l, acc => by
    rw [List.foldl_cons, fold_mem l (put1 acc z), List.mem_cons]
    unfold put1
    split
    · rename_i m
      constructor
      · rintro (h | h)
        · exact .inl h
        · exact .inr (.inr h)
      · rintro (h | rfl | h)
        · exact .inl h
        · exact .inl m
        · exact .inr h
    · rw [List.mem_append, List.mem_singleton, or_assoc]
theorem uniq_mem {y : Str} {l : List Str} : y ∈ uniq l ↔ y ∈ l := by
  unfold uniq
  rw [fold_mem]
  simp
theorem fold_nodup : ∀ (l acc : List Str), acc.Nodup → (l.foldl put1 acc).Nodup
  | [], acc, h => h
  | z :: l, acc, h => by
    rw [List.foldl_cons]
    refine fold_nodup l _ ?_
    unfold put1
    split
    · exact h
    · rename_i m
      rw [List.nodup_append]
      exact ⟨h, by simp, fun a ha b hb e => by
        rw [List.mem_singleton.mp hb] at e
        exact m (e ▸ ha)⟩
theorem uniq_nodup (l : List Str) : (uniq l).Nodup := fold_nodup l [] List.nodup_nil
/-! ### lots of patterns, as they stand -/
abbrev Pt : Type := Addr × Str × List Str
def isV (z : Str) : Bool := Txt.startswith z (Str.ofString "?")
def frees (xs : List Pt) : List Str := (xs.flatMap fun x => x.2.2).filter isV
theorem frees_snoc (xs : List Pt) (x : Pt) : frees (xs ++ [x]) = frees xs ++ x.2.2.filter isV := by
  unfold frees
  rw [List.flatMap_append, List.filter_append]
  simp
theorem frees_take {xs : List Pt} {i : Nat} {x : Pt} (h : xs[i]? = some x) : frees (xs.take (i + 1)) = frees (xs.take i) ++ x.2.2.filter isV := by
  rw [List.take_succ, h]
  exact frees_snoc _ _
theorem frees_le (xs : List Pt) (i : Nat) : (frees (xs.take i)).length ≤ (frees xs).length := by
  have e : frees xs = frees (xs.take i) ++ frees (xs.drop i) := by
    unfold frees
    rw [← List.filter_append, ← List.flatMap_append, List.take_append_drop]
  rw [e, List.length_append]
  omega
/-- the lot xs at q, a list or a tuple -/
structure LotAt (H : Hp) (q : Addr) (xs : List Pt) : Prop where
  sq : H q = some (.lst (xs.map fun x => V.ref x.1)) ∨ H q = some (.tup (xs.map fun x => V.ref x.1))
  each : ∀ x ∈ xs, H x.1 = some (.tup (.str x.2.1 :: x.2.2.map V.str))
theorem cut_one (v : V) (l : List V) : cutV (v :: l) (some 1) none = l := by
  have e : HT.sIx (v :: l).length 0 (some 1) = 1 := by
    have z := HT.sIx_nat (v :: l).length 0 1
    rw [List.length_cons] at z ⊢
    exact z.trans (by omega)
  unfold cutV
  rw [e, HT.sIx_none]
  simp
theorem cut_part (v : V) (l : List V) : ¬ (HT.sIx (v :: l).length 0 (some 1) = 0 ∧ HT.sIx (v :: l).length (v :: l).length none = (v :: l).length) := by
  rintro ⟨e, _⟩
  have z := HT.sIx_nat (v :: l).length 0 1
  rw [List.length_cons] at z e
  have z' := z.symm.trans e
  omega
theorem LotAt.same {H H' : Hp} {q : Addr} {xs : List Pt} (h : LotAt H q xs) (s : Same H H') : LotAt H' q xs := ⟨h.sq.imp (s _ _) (s _ _), fun x m => s _ _ (h.each x m)⟩
theorem first_one {z : Str} {c : Nat} {r : List Nat} (h : z.cps.toList = c :: r) : decide (V.str ⟨#[c]⟩ = V.str (Str.ofString "?")) = isV z := by
  have q1 : (Str.ofString "?").cps = #[63] := by decide +kernel
  have q2 : (Str.ofString "?").length = 1 := by decide +kernel
  have es : Str.ofString "?" = ⟨#[63]⟩ := by
    cases h : Str.ofString "?" with
    | mk c => rw [h] at q1; exact congrArg Str.mk q1
  have l := length_toList z
  rw [h, List.length_cons] at l
  have hz : z.cps = (c :: r).toArray := by rw [← h]
  have z0 : z.cps[0]? = some c := by
    rw [← Array.getElem?_toList, h]
    rfl
  unfold isV Txt.startswith Builtin.Str.subAt
  rw [q1, q2, es, Bool.eq_iff_iff, decide_eq_true_iff, hz]
  have l0 : z.length = r.length + 1 := l.symm
  rw [l0]
  simp
def spVars : Sp := fun vs H Q _ => ∃ (q : Addr) (xs : List Pt), vs = [.ref q] ∧ LotAt H q xs ∧ (∀ x ∈ xs, ∀ z ∈ x.2.2, 1 ≤ z.length ∧ z.length ≤ 100) ∧ (frees xs).length ≤ 60 ∧
  ∀ (p : Addr) (ys : List Str) (H' : Hp), Same H H' → H p = none → ys.Perm (uniq (frees xs)) → sortedS ys = true → H' p = some (.lst (ys.map V.str)) → Q (.ref p) H'
section
variable {P : Program} {w : World} {K : PySem.W.Frag} {mg : Str → Option Value} {base : Heap}
abbrev nVars : List Str := ["lot", "pattern", "term"]
theorem scVs : FnScope nVars ["lot"] (defScope sVars) := ⟨rfl, rfl, rfl, by decide +kernel, rfl, by decide +kernel, by decide +kernel⟩
theorem ok_vars {f : Addr} {fd : FuncData} (F : Fun K "variables_of" "variables_of" sVars f fd) (ms : mg "sorted" = none) :
    FnOk P w K mg base CX0 2 f fd ["lot"] spVars := by
  refine F.ok scVs (fun vs H Q E h => ?_) (fun cdv A outer s H vs Q E hr h => ?_)
  · obtain ⟨q, xs, rfl, _⟩ := h
    rfl
  · obtain ⟨q, xs, rfl, lot, shape, few, k⟩ := h
    refine ⟨_, pss_one (ps_ret (pe_callB (L2.TxtSet.cr_sortT rfl) (by rfl) ms (by decide +kernel) (pa_cons
      (pe_set2 (own := [("pattern", 1), ("term", 2)]) (vs1 := [2]) (g := gName 1) (g1 := gName 2) (tt := tYes) (addT P w) rfl scVs.nd (pi_seq (pv 0))
        (blkOk_by (own := [("pattern", 1), ("term", 2)]) (N := nVars) (sc := defScope sVars) (by decide +kernel)) (by decide)
        (fun _ _ _ _ _ => pg_name (i := 1) scVs.nd rfl (Or.inl rfl)) (fun _ _ _ _ _ => pts_nil)
        (fun _ _ _ _ _ => pi_tupK (K := K) rfl (pe_slice (sl_tupK (K := K) rfl) (pv 1) (po_some pe_int) po_none))
        (fun _ _ _ _ _ => pg_name (i := 2) scVs.nd rfl (Or.inl rfl))
        (fun _ _ _ _ _ => pts_one (pt_cmpR op_eq (pe_ix ix_str (pv 2) pe_int (fun _ _ => rfl)) pe_str (nomark _)))
        (fun _ _ _ _ _ => pv 2)) pa_nil))), ?_⟩
    have main : ∀ (J : It) (Sq : Hp → Prop), WalkR J Sq (xs.map fun x => V.ref x.1) → (∀ H', Same H H' → Sq H') → ∀ (Qd : Hp → Prop) (D : Addr), H D = none → (∀ H', Same H H' → H' D = some (SetT P w D (uniq (frees xs))) → Qd H') →
        L2.Cmp.Walk J (gName 1) tYes (fun σ2 H2 C => iTup K (tSl (rSlT K) (tVar 1) (tPart (tC (.int 1))) tNoPart) σ2 H2 fun J1 H3 => L2.Cmp.Walk J1 (gName 2) (tTest (tOp rEq (tOp rIxS (tVar 2) (tC (.int 0))) (tC (.str (Str.ofString "?"))))) (tAd (addT P w) (tVar 2) D) [2] σ2 C H3) [1, 2] [some (.ref q), none, none] Qd (upd H D (SetT P w D [])) := by
      intro J Sq wr st Qd D nD hd
      refine wr _ _ _ _ _ _ _ (fun i H5 => H5 D = some (SetT P w D (uniq (frees (xs.take i)))) ∧ Same H H5) ⟨upd_same, same_new nD⟩ (fun i H5 hi p => st _ p.2) (fun i x H5 hx p => ?_) fun H5 p => hd H5 p.2 ?_
      · obtain ⟨p1, p2⟩ := p
        rw [List.getElem?_map] at hx
        obtain ⟨y, hy, rfl⟩ := Option.map_eq_some_iff.mp hx
        have my : y ∈ xs := List.mem_of_getElem? hy
        have ty := lot.each y my
        refine ⟨rfl, ?_⟩
        dsimp only [tYes]
        rw [if_pos rfl]
        refine ⟨_, rfl, _, rfl, y.1, _, rfl, SqT.of (p2 _ _ ty), cut_part _ _, fun t nt => ⟨t, rfl, ⟨_, SqT.of upd_same⟩, ?_⟩⟩
        rw [cut_one]
        have tD : t ≠ D := fun e => by
          rw [e, p1] at nt
          cases nt
        refine walk_tup (xs := y.2.2.map V.str) _ _ _ _ _ _ _ (fun j H6 => H6 D = some (SetT P w D (uniq (frees (xs.take i) ++ (y.2.2.take j).filter isV))) ∧ Same H H6 ∧ H6 t = some (.tup (y.2.2.map V.str))) ?_ (fun j H6 hj p => SqT.of p.2.2) (fun j x H6 hx p => ?_) (fun H6 p => ?_)
        · refine ⟨?_, fun b o e => ?_, upd_same⟩
          · rw [upd_ne (Ne.symm tD), p1]
            simp
          · have q5 := p2 b o e
            rw [upd_ne (ne_of_none q5 nt)]
            exact q5
        · obtain ⟨p3, p4, p5⟩ := p
          rw [List.getElem?_map] at hx
          obtain ⟨z, hz, rfl⟩ := Option.map_eq_some_iff.mp hx
          have tk : (y.2.2.take (j + 1)) = y.2.2.take j ++ [z] := by
            rw [List.take_succ, hz]
            rfl
          have sh := shape y my z (List.mem_of_getElem? hz)
          obtain ⟨c, r, hc⟩ : ∃ c r, z.cps.toList = c :: r := by
            cases e : z.cps.toList with
            | nil =>
              have l := length_toList z
              rw [e] at l
              have l0 : z.length = 0 := l.symm
              omega
            | cons c r => exact ⟨c, r, rfl⟩
          refine ⟨rfl, _, rfl, z, 0, c, rfl, rfl, by rw [sizeLine_eq]; omega, by rw [hc]; exact atI_nat (j := 0) rfl, rfl, _, rfl, ?_⟩
          rw [first_one hc]
          by_cases hv : isV z = true
          · rw [hv]
            dsimp only
            rw [if_pos rfl]
            have room : (uniq (frees (xs.take i) ++ (y.2.2.take j).filter isV)).length ≤ 60 := by
              have u1 := uniq_len (frees (xs.take i) ++ (y.2.2.take j).filter isV)
              have u2 := frees_le xs (i + 1)
              rw [frees_take hy, List.length_append] at u2
              have u3 : ((y.2.2.take j).filter isV).length ≤ (y.2.2.filter isV).length := ((List.take_sublist _ _).filter _).length_le
              rw [List.length_append] at u1
              omega
            refine ⟨_, rfl, z, _, rfl, p3, Nat.lt_of_le_of_lt (Nat.succ_le_succ room) (by decide), ?_, fun b o e => ?_, ?_⟩
            · rw [upd_same, tk, List.filter_append, List.filter_cons_of_pos hv, List.filter_nil, ← List.append_assoc, uniq_snoc]
              rfl
            · have hb : b ≠ D := ne_of_none e nD
              rw [upd_ne hb]
              exact p4 b o e
            · rw [upd_ne tD]
              exact p5
          · have hv' : isV z = false := by simpa using hv
            rw [hv']
            dsimp only
            rw [if_neg Bool.false_ne_true]
            refine ⟨?_, p4, p5⟩
            rw [tk, List.filter_append, List.filter_cons_of_neg hv, List.filter_nil, List.append_nil]
            exact p3
        · rw [List.length_map, List.take_length] at p
          exact ⟨by rw [frees_take hy]; exact p.1, p.2.1⟩
      · have e := p.1
        rw [List.length_map, List.take_length] at e
        exact e
    have fin : ∀ (D : Addr), H D = none → ∀ H', Same H H' → H' D = some (SetT P w D (uniq (frees xs))) → L2.TxtSet.rSortT P w [.ref D] H' Q := fun D nD H' sm hD =>
      ⟨D, _, rfl, hD, Nat.lt_of_le_of_lt (Nat.le_trans (uniq_len _) few) (by decide), fun ys p pm so np => k p ys _ (fun b o e => by
        have e' := sm b o e
        rw [upd_ne (ne_of_none e' np)]
        exact e') (by
        cases e : H p with
        | none => rfl
        | some o =>
          rw [sm p o e] at np
          cases np) pm so upd_same⟩
    refine ⟨_, rfl, q, rfl, ?_⟩
    rcases lot.sq with hq | hq
    · exact .inl ⟨⟨_, SqL.of hq⟩, fun D nD => main _ _ walk_list (fun H' sm => SqL.of (sm _ _ hq)) _ D nD (fin D nD)⟩
    · exact .inr ⟨⟨_, SqT.of hq⟩, fun D nD => main _ _ walk_tup (fun H' sm => SqT.of (sm _ _ hq)) _ D nD (fin D nD)⟩
end
end L2.LawH
set_option Elab.async false
set_option linter.all false
set_option maxRecDepth 100000
set_option maxHeartbeats 4000000
/-! _law_variables. -/
namespace L2.LawH
open PySem PySem.Spec PyProof.Rows L2.Cmp L2.TxtSet
theorem first_sign (z : Str) : decide (cutS z none (some 1) = Str.ofString "?") = isV z := by
  have q1 : (Str.ofString "?").cps = #[63] := by decide +kernel
  have q2 : (Str.ofString "?").length = 1 := by decide +kernel
  have e2 : HT.sIx z.length z.length (some 1) = min 1 z.length := HT.sIx_nat z.length z.length 1
  have l : z.cps.toList.length = z.length := length_toList z
  have es : Str.ofString "?" = ⟨#[63]⟩ := by
    cases h : Str.ofString "?" with
    | mk c => rw [h] at q1; exact congrArg Str.mk q1
  unfold isV Txt.startswith cutS Builtin.Str.subAt
  rw [HT.sIx_none, e2, q1, q2, es, Bool.eq_iff_iff, decide_eq_true_iff]
  cases hz : z.cps.toList with
  | nil =>
    rw [hz] at l
    have l0 : z.length = 0 := l.symm
    rw [l0]
    simp
  | cons x r =>
    rw [hz] at l
    have l0 : z.length = r.length + 1 := l.symm
    have ez : z.cps = (x :: r).toArray := by rw [← hz]
    rw [l0, ez]
    have m : min 1 (r.length + 1) = 1 := by omega
    rw [m]
    simp
section
variable {P : Program} {w : World} {K : PySem.W.Frag} {mg : Str → Option Value} {base : Heap}
end
end L2.LawH
set_option Elab.async false
set_option linter.all false
set_option maxRecDepth 100000
set_option maxHeartbeats 4000000
/-! _law_lot; two ascending lists of the same texts. -/
namespace L2.LawH
open PySem PySem.Spec PyProof.Rows L2.Cmp L2.TxtSet
theorem asc_pw : ∀ (l : List Str) (p : Str), risingS p l = true → (p :: l).Pairwise fun a b => a.cps.toList ≤ b.cps.toList
  | [], p, _ => List.pairwise_singleton _ _
  | x :: r, p, h => by
    simp only [risingS, Bool.and_eq_true, Bool.not_eq_true', ltCps_eq, decide_eq_false_iff_not, List.not_lt] at h
    have ih := asc_pw r x h.2
    refine List.pairwise_cons.mpr ⟨fun y hy => ?_, ih⟩
    rcases List.mem_cons.mp hy with rfl | hy
    · exact h.1
    · exact List.le_trans h.1 ((List.pairwise_cons.mp ih).1 y hy)
theorem asc_all {l : List Str} (h : sortedS l = true) : l.Pairwise fun a b => a.cps.toList ≤ b.cps.toList := by
  cases l with
  | nil => exact List.Pairwise.nil
  | cons x r => exact asc_pw r x h
theorem asc_eq {l l' u : List Str} (h : sortedS l = true) (h' : sortedS l' = true) (p : l.Perm u) (p' : l'.Perm u) : l = l' := by
  refine List.Perm.eq_of_pairwise (fun a b _ _ x y => ?_) (asc_all h) (asc_all h') (p.trans p'.symm)
  have e : a.cps.toList = b.cps.toList := List.le_antisymm x y
  cases a
  cases b
  exact congrArg Str.mk (Array.toList_inj.mp e)
section
variable {P : Program} {w : World} {K : PySem.W.Frag} {mg : Str → Option Value} {base : Heap}
end
end L2.LawH
set_option Elab.async false
set_option linter.all false
set_option maxRecDepth 100000
set_option maxHeartbeats 4000000
/-! is_name, is_variable. -/
namespace L2.LawH
open PySem PySem.Spec PyProof.Rows L2.Cmp L2.TxtSet
abbrev sIsN : Stmt := top 13
abbrev sIsV : Stmt := top 14
/-- a value of a kind that is no text -/
def NotS (K : PySem.W.Frag) (H : Hp) (x : V) : Prop := ∃ n : String, TyX K H x (.type n) ∧ kitB n "str" = some false
abbrev letS8 : Str := "abcdefghijklmnopqrstuvwxyz"
abbrev sgnS8 : Str := "abcdefghijklmnopqrstuvwxyz0123456789"
def spIsN (K : PySem.W.Frag) : Sp := fun vs H Q _ => ∃ x : V, vs = [x] ∧ ((∃ z : Str, x = .str z ∧ z.length ≤ 100000 ∧ ∀ H', Same H H' → Q (.bl (nmB z.cps.toList)) H') ∨ (NotS K H x ∧ Q (.bl false) H))
theorem in_let (c : Nat) : (!(Builtin.Str.occurrences letS8 ⟨#[c]⟩ 0 letS8.length 1).isEmpty) = isLet c := by
  rw [empty_one, Bool.not_not]
  have e : letS8.cps.toList = [97,98,99,100,101,102,103,104,105,106,107,108,109,110,111,112,113,114,115,116,117,118,119,120,121,122] := by decide +kernel
  rw [e]
  unfold isLet
  rw [Bool.eq_iff_iff]
  simp only [decide_eq_true_eq, Bool.and_eq_true, List.mem_cons, List.not_mem_nil, or_false]
  omega
theorem in_sgn (c : Nat) : (!(Builtin.Str.occurrences sgnS8 ⟨#[c]⟩ 0 sgnS8.length 1).isEmpty) = isSgn c := by
  rw [empty_one, Bool.not_not]
  have e : sgnS8.cps.toList = [97,98,99,100,101,102,103,104,105,106,107,108,109,110,111,112,113,114,115,116,117,118,119,120,121,122,48,49,50,51,52,53,54,55,56,57] := by decide +kernel
  rw [e]
  unfold isSgn isLet
  rw [Bool.eq_iff_iff]
  simp only [decide_eq_true_eq, Bool.and_eq_true, Bool.or_eq_true, List.mem_cons, List.not_mem_nil, or_false]
  omega
theorem nmB_eq (c : Nat) (r : List Nat) (h : r.length ≤ 11) : nmB (c :: r) = (isLet c && ((c :: r).all isSgn)) := by
  show (isLet c && r.all isSgn && decide (r.length ≤ 11)) = _
  rw [decide_eq_true h, Bool.and_true, List.all_cons]
  cases hl : isLet c with
  | false => rfl
  | true =>
    have : isSgn c = true := by
      unfold isSgn
      rw [hl]
      rfl
    rw [this]
    rfl
theorem asc_tab : ((List.range 128).all fun c => (Unicode.isAlnum c == (isSgn c || (decide (65 ≤ c) && decide (c ≤ 90)))) && (Unicode.isLower c == isLet c) &&
    ((Unicode.isUpper c || Unicode.isTitle c) == (decide (65 ≤ c) && decide (c ≤ 90))) && (Unicode.isAlpha c == (isLet c || (decide (65 ≤ c) && decide (c ≤ 90))))) = true := by decide +kernel
theorem asc_at {c : Nat} (h : c < 128) : Unicode.isAlnum c = (isSgn c || (decide (65 ≤ c) && decide (c ≤ 90))) ∧ Unicode.isLower c = isLet c ∧
    (Unicode.isUpper c || Unicode.isTitle c) = (decide (65 ≤ c) && decide (c ≤ 90)) ∧ Unicode.isAlpha c = (isLet c || (decide (65 ≤ c) && decide (c ≤ 90))) := by
  have q := List.all_eq_true.mp asc_tab c (List.mem_range.mpr h)
  simp only [Bool.and_eq_true, beq_iff_eq] at q
  exact ⟨q.1.1.1, q.1.1.2, q.1.2, q.2⟩
theorem all_cps (z : Str) (p : Nat → Bool) : z.cps.all p = z.cps.toList.all p := by rw [Array.all_toList]
theorem any_cps (z : Str) (p : Nat → Bool) : z.cps.any p = z.cps.toList.any p := by rw [Array.any_toList]
theorem sgn_asc {c : Nat} (h : isSgn c = true) : c < 128 := by
  unfold isSgn isLet at h
  simp only [Bool.or_eq_true, Bool.and_eq_true, decide_eq_true_eq] at h
  omega
/-- what the name test asks before the first sign -/
def pre8 (l : List Nat) : Bool := l.all (fun c => decide (c < 128)) && (decide (l.length > 0) && l.all Unicode.isAlnum) && (l.any Unicode.isLower && !l.any fun c => Unicode.isUpper c || Unicode.isTitle c)
theorem pre8_sgn {l : List Nat} (h : pre8 l = true) : l.all isSgn = true := by
  unfold pre8 at h
  simp only [Bool.and_eq_true, decide_eq_true_eq, Bool.not_eq_true'] at h
  obtain ⟨⟨h1, h2, h3⟩, h4, h5⟩ := h
  refine List.all_eq_true.mpr fun c m => ?_
  have a := of_decide_eq_true (List.all_eq_true.mp h1 c m)
  have b := List.all_eq_true.mp h3 c m
  have d := List.any_eq_false.mp h5 c m
  obtain ⟨q1, q2, q3, q4⟩ := asc_at a
  rw [q1] at b
  rw [q3] at d
  simpa [d] using b
theorem pre8_of {c : Nat} {r : List Nat} (hc : isLet c = true) (h : (c :: r).all isSgn = true) : pre8 (c :: r) = true := by
  have asc : ∀ d ∈ c :: r, d < 128 := fun d m => sgn_asc (List.all_eq_true.mp h d m)
  unfold pre8
  simp only [Bool.and_eq_true, decide_eq_true_eq, Bool.not_eq_true']
  refine ⟨⟨List.all_eq_true.mpr fun d m => decide_eq_true (asc d m), Nat.succ_pos _, List.all_eq_true.mpr fun d m => ?_⟩, List.any_eq_true.mpr ⟨c, List.mem_cons_self, ?_⟩, List.any_eq_false.mpr fun d m => ?_⟩
  · rw [(asc_at (asc d m)).1, List.all_eq_true.mp h d m, Bool.true_or]
  · rw [(asc_at (asc c List.mem_cons_self)).2.1, hc]
  · rw [(asc_at (asc d m)).2.2.1]
    have q := List.all_eq_true.mp h d m
    unfold isSgn isLet at q
    simp only [Bool.or_eq_true, Bool.and_eq_true, decide_eq_true_eq] at q
    simp only [Bool.and_eq_true, decide_eq_true_eq]
    omega
theorem nmB_pre {c : Nat} {r : List Nat} (h : pre8 (c :: r) = true) : nmB (c :: r) = (Unicode.isAlpha c && decide ((c :: r).length ≤ 12)) := by
  have sg := pre8_sgn h
  rw [List.all_cons, Bool.and_eq_true] at sg
  have asc := sgn_asc sg.1
  obtain ⟨q1, q2, q3, q4⟩ := asc_at asc
  have al : Unicode.isAlpha c = isLet c := by
    have s := sg.1
    unfold isSgn at s
    rw [q4]
    unfold isLet at s ⊢
    rw [Bool.eq_iff_iff]
    simp only [Bool.or_eq_true, Bool.and_eq_true, decide_eq_true_eq] at s ⊢
    omega
  show (isLet c && r.all isSgn && decide (r.length ≤ 11)) = _
  rw [sg.2, al, Bool.and_true, List.length_cons]
  congr 1
  exact decide_eq_decide.mpr ⟨fun h => by omega, fun h => by omega⟩
theorem pre8_eq (z : Str) : (Txt.isascii z && Txt.isalnum z && Txt.islower z) = pre8 z.cps.toList := by
  unfold Txt.isascii Txt.isalnum Txt.islower pre8
  rw [all_cps, all_cps, any_cps, any_cps, length_toList]
theorem nmB_no {l : List Nat} (h : pre8 l = false) : nmB l = false := by
  cases l with
  | nil => rfl
  | cons c r =>
    cases e : nmB (c :: r) with
    | false => rfl
    | true =>
      have e : (isLet c && r.all isSgn && decide (r.length ≤ 11)) = true := e
      simp only [Bool.and_eq_true] at e
      have sg : isSgn c = true := by
        unfold isSgn
        rw [e.1.1, Bool.true_or]
      rw [pre8_of e.1.1 (by rw [List.all_cons, sg, e.1.2, Bool.and_self])] at h
      cases h
section
variable {P : Program} {w : World} {K : PySem.W.Frag} {mg : Str → Option Value} {base : Heap}
theorem scIN : FnScope ["value"] ["value"] (defScope sIsN) := ⟨rfl, rfl, rfl, by decide +kernel, rfl, by decide +kernel, by decide +kernel⟩
theorem ok_isN {f : Addr} {fd : FuncData} (F : Fun K "is_name" "is_name" sIsN f fd) {t3 : Tok} (mM : mg "LONGEST_NAME" = some (.int 12 t3))
    (mi : mg "isinstance" = none) (mst : mg "str" = none) (ml : mg "len" = none) :
    FnOk P w K mg base CX0 1 f fd ["value"] (spIsN K) := by
  refine F.ok scIN (fun vs H Q E h => ?_) (fun cdv A outer s H vs Q E hr h => ?_)
  · obtain ⟨x, rfl, _⟩ := h
    rfl
  · obtain ⟨x, rfl, h⟩ := h
    refine ⟨_, pss_one (ps_ret (pe_and (pe_callB call_isi (by rfl) mi (by decide +kernel) (pa_cons (pv 0) (pa_cons (pe_bltn (v := .ty "str") (by rfl) mst (by decide +kernel) rfl) pa_nil)))
      (pe_and (pe_m0 PySem.F.slot_str_isascii PySem.F.type_str_isascii mt_isascii (pv 0))
      (pe_and (pe_m0 PySem.F.slot_str_isalnum PySem.F.type_str_isalnum mt_isalnum (pv 0))
      (pe_and (pe_m0 PySem.F.slot_str_islower PySem.F.type_str_islower mt_islower (pv 0))
      (pe_and (pe_m0 PySem.F.slot_str_isalpha PySem.F.type_str_isalpha mt_isalpha (pe_ix ix_str (pv 0) pe_int (fun _ _ => rfl)))
        (pe_one (pe_cmpR op_le (pe_callB call_len_str (by rfl) ml (by decide +kernel) (pa_cons (pv 0) pa_nil)) (pe_glob (v := .int 12) (by rfl) mM ⟨_, rfl⟩) (by rfl))))))))), ?_⟩
    rcases h with ⟨z, rfl, hz, k⟩ | ⟨⟨n, ty, kb⟩, k⟩
    · have szl : z.length ≤ sizeLine := by rw [sizeLine_eq]; omega
      have no : pre8 z.cps.toList = false → Q (.bl false) H := fun e => by
        have q := k H fun _ _ e => e
        rw [nmB_no e] at q
        exact q
      have pe := pre8_eq z
      refine ⟨_, rfl, _, .ty "str", _, _, true, rfl, .ty "str", .base (.str z), kit_ty (by decide +kernel), _, rfl, ?_⟩
      refine iteT ?_
      refine ⟨_, rfl, ⟨_, rfl⟩, _, rfl, rfl, trivial, _, rfl, ?_⟩
      cases eA : Txt.isascii z with
      | false => exact iteF (no (by rw [← pe, eA, Bool.false_and, Bool.false_and]))
      | true =>
        refine iteT ⟨_, rfl, ⟨_, rfl⟩, _, rfl, rfl, trivial, _, rfl, ?_⟩
        cases eB : Txt.isalnum z with
        | false => exact iteF (no (by rw [← pe, eB, Bool.and_false, Bool.false_and]))
        | true =>
          refine iteT ⟨_, rfl, ⟨_, rfl⟩, _, rfl, rfl, trivial, _, rfl, ?_⟩
          cases eC : Txt.islower z with
          | false => exact iteF (no (by rw [← pe, eC, Bool.and_false]))
          | true =>
            have p8 : pre8 z.cps.toList = true := by rw [← pe, eA, eB, eC]; rfl
            have lz : z.cps.toList.length = z.length := length_toList z
            have k' := k H fun _ _ e => e
            cases hc : z.cps.toList with
            | nil =>
              rw [hc] at p8
              cases p8
            | cons c r =>
              rw [hc] at p8 k' lz
              rw [nmB_pre p8] at k'
              refine iteT ⟨_, rfl, z, 0, c, rfl, rfl, szl, by rw [hc]; exact atI_nat (j := 0) rfl, ⟨_, rfl⟩, _, rfl, rfl, trivial, _, rfl, ?_⟩
              have ea : Txt.isalpha ⟨#[c]⟩ = Unicode.isAlpha c := by
                unfold Txt.isalpha
                simp [Str.length]
              rw [ea]
              cases eD : Unicode.isAlpha c with
              | false =>
                rw [eD, Bool.false_and] at k'
                exact iteF k'
              | true =>
                rw [eD, Bool.true_and] at k'
                refine iteT ⟨_, rfl, z, rfl, szl, _, _, rfl, rfl, ?_⟩
                have e : decide ((z.length : Int) ≤ 12) = decide ((c :: r).length ≤ 12) := decide_eq_decide.mpr ⟨fun h => by omega, fun h => by omega⟩
                rw [← e] at k'
                exact k'
    · refine ⟨_, rfl, _, .ty "str", _, _, false, rfl, .ty "str", ty, kit_ty kb, _, rfl, ?_⟩
      exact iteF k
end
end L2.LawH
set_option Elab.async false
set_option linter.all false
set_option maxRecDepth 100000
set_option maxHeartbeats 4000000
/-! is_variable, is_pattern, is_fact. -/
namespace L2.LawH
open PySem PySem.Spec PyProof.Rows L2.Cmp L2.TxtSet
abbrev sIsV9 : Stmt := top 14
abbrev sIsP9 : Stmt := top 15
abbrev sIsF9 : Stmt := top 6
def varB (z : Str) : Bool := isV z && nmB (z.cps.toList.drop 1)
theorem cut_tail (z : Str) : (cutS z (some 1) none).cps.toList = z.cps.toList.drop 1 := by
  have l : z.cps.toList.length = z.length := length_toList z
  have e1 : HT.sIx z.length 0 (some 1) = min 1 z.length := HT.sIx_nat z.length 0 1
  unfold cutS
  rw [e1, HT.sIx_none]
  show (z.cps.toList.drop (min 1 z.length)).take (z.length - min 1 z.length) = _
  cases hc : z.cps.toList with
  | nil => simp
  | cons c r =>
    rw [hc, List.length_cons] at l
    have m : min 1 z.length = 1 := by omega
    rw [m]
    have e : z.length - 1 = r.length := by omega
    rw [e]
    simp
/-- names and variables among values -/
def vN : V → Bool
  | .str z => nmB z.cps.toList
  | _ => false
def vV : V → Bool
  | .str z => varB z
  | _ => false
/-- a value that may be asked -/
def Okv (K : PySem.W.Frag) (H : Hp) (x : V) : Prop := (∃ z : Str, x = .str z ∧ z.length ≤ 100000) ∨ (NotS K H x ∧ ∀ z, x ≠ .str z)
theorem tyx_same {K : PySem.W.Frag} {H H' : Hp} (s : Same H H') {x : V} {t : Value} (h : TyX K H x t) : TyX K H' x t := by
  cases h with
  | base b =>
    refine .base ?_
    cases b with
    | non => exact .non
    | bl x => exact .bl x
    | int i => exact .int i
    | str x => exact .str x
    | flt x => exact .flt x
    | lst e => exact .lst (s _ _ e)
    | frz e => exact .frz (s _ _ e)
    | tup e => exact .tup (s _ _ e)
    | dK e => exact .dK (s _ _ e)
    | dT e => exact .dT (s _ _ e)
    | ins e cl ha hn htk hm => exact .ins (s _ _ e) cl ha hn htk hm
  | byt b => exact .byt b
  | set e => exact .set (s _ _ e)
  | kList e c => exact .kList e c
  | kTuple e c => exact .kTuple e c
  | kDict e c => exact .kDict e c
  | fTuple e => exact .fTuple (s _ _ e)
  | fDict e => exact .fDict (s _ _ e)
theorem Okv.same {K : PySem.W.Frag} {H H' : Hp} (s : Same H H') {x : V} (h : Okv K H x) : Okv K H' x := by
  rcases h with h | ⟨⟨n, ty, kb⟩, no⟩
  · exact .inl h
  · exact .inr ⟨⟨n, tyx_same s ty, kb⟩, no⟩
def NotT (K : PySem.W.Frag) (H : Hp) (x : V) : Prop := ∃ n : String, TyX K H x (.type n) ∧ kitB n "tuple" = some false
def patB (xs : List V) : Bool := match xs with
  | [] => false
  | x :: r => decide (r.length ≤ 3) && vN x && r.all fun y => vN y || vV y
def factB (xs : List V) : Bool := patB xs && xs.all vN
def spIsVr (K : PySem.W.Frag) : Sp := fun vs H Q _ => ∃ x : V, vs = [x] ∧ Okv K H x ∧ ∀ H', Same H H' → Q (.bl (vV x)) H'
def spIsP (K : PySem.W.Frag) (f : List V → Bool) : Sp := fun vs H Q _ => ∃ x : V, vs = [x] ∧
  ((∃ (t : Addr) (xs : List V), x = .ref t ∧ H t = some (.tup xs) ∧ xs.length ≤ 100000 ∧ (∀ y ∈ xs, Okv K H y) ∧ ∀ H', Same H H' → Q (.bl (f xs)) H') ∨ (NotT K H x ∧ ∀ H', Same H H' → Q (.bl false) H'))
theorem isN_of {K : PySem.W.Frag} {H : Hp} {x : V} {Q : VK} {E : XK} (o : Okv K H x) (k : ∀ H', Same H H' → Q (.bl (vN x)) H') : spIsN K [x] H Q E := by
  refine ⟨x, rfl, ?_⟩
  rcases o with ⟨z, rfl, l⟩ | ⟨n, no⟩
  · exact .inl ⟨z, rfl, l, k⟩
  · refine .inr ⟨n, ?_⟩
    have e : vN x = false := by
      cases x with
      | str z => exact absurd rfl (no z)
      | _ => rfl
    have q := k H fun _ _ e => e
    rw [e] at q
    exact q
section
variable {P : Program} {w : World} {K : PySem.W.Frag} {mg : Str → Option Value} {base : Heap}
theorem scIV : FnScope ["value"] ["value"] (defScope sIsV9) := ⟨rfl, rfl, rfl, by decide +kernel, rfl, by decide +kernel, by decide +kernel⟩
theorem ok_isV {f fN : Addr} {fd fdN : FuncData} (F : Fun K "is_variable" "is_variable" sIsV9 f fd)
    (GN : FnOk P w K mg base CX0 1 fN fdN ["value"] (spIsN K)) (kN : PySem.W.keepIn K (.ref fN) = true) (bN : Binds K fdN ["value"] []) (mN : mg "is_name" = some (.ref fN))
    (mi : mg "isinstance" = none) (mst : mg "str" = none) :
    FnOk P w K mg base CX0 2 f fd ["value"] (spIsVr K) := by
  refine F.ok scIV (fun vs H Q E h => ?_) (fun cdv A outer s H vs Q E hr h => ?_)
  · obtain ⟨x, rfl, _⟩ := h
    rfl
  · obtain ⟨x, rfl, o, k⟩ := h
    have hr1 : Room 1 _ := hr.mono (by decide)
    refine ⟨_, pss_one (ps_ret (pe_and (pe_callB call_isi (by rfl) mi (by decide +kernel) (pa_cons (pv 0) (pa_cons (pe_bltn (v := .ty "str") (by rfl) mst (by decide +kernel) rfl) pa_nil)))
      (pe_and (pe_m1 PySem.F.slot_str_startswith PySem.F.type_str_startswith mt_startswith (pv 0) pe_str)
        (pe_one (pe_call GN hr1 (by rfl) mN kN bN .nil pass0 (pa_cons (pe_slice sl_str (pv 0) (po_some pe_int) po_none) pa_nil)))))), ?_⟩
    rcases o with ⟨z, rfl, l⟩ | ⟨⟨n, ty, kb⟩, no⟩
    · have kv : ∀ H', Same H H' → Q (.bl (varB z)) H' := k
      refine ⟨_, rfl, _, .ty "str", _, _, true, rfl, .ty "str", .base (.str z), kit_ty (by decide +kernel), _, rfl, ?_⟩
      refine iteT ?_
      refine ⟨_, rfl, ⟨_, rfl⟩, _, _, rfl, rfl, _, rfl, ?_⟩
      refine ite2 (fun h1 => ?_) (fun h1 => ?_)
      · have h1 : isV z = true := h1
        refine ⟨_, rfl, _, rfl, z, rfl, by rw [sizeLine_eq]; omega, ?_⟩
        refine isN_of (E := E0) (.inl ⟨_, rfl, Nat.le_trans (cutS_length z (some 1) none) l⟩) fun H' s => ?_
        have q := kv H' s
        unfold varB at q
        rw [h1, Bool.true_and, ← cut_tail] at q
        exact q
      · have h1 : isV z = false := by
          cases e : isV z with
          | false => rfl
          | true => exact absurd e h1
        have q := kv H fun _ _ e => e
        unfold varB at q
        rw [h1, Bool.false_and] at q
        exact q
    · refine ⟨_, rfl, _, .ty "str", _, _, false, rfl, .ty "str", ty, kit_ty kb, _, rfl, ?_⟩
      refine iteF ?_
      have q := k H fun _ _ e => e
      have e : vV x = false := by
        cases x with
        | str z => exact absurd rfl (no z)
        | _ => rfl
      rw [e] at q
      exact q
theorem scIP : FnScope ["value", "term"] ["value"] (defScope sIsP9) := ⟨rfl, rfl, rfl, by decide +kernel, rfl, by decide +kernel, by decide +kernel⟩
theorem ok_isP {f fN fV : Addr} {fd fdN fdV : FuncData} (F : Fun K "is_pattern" "is_pattern" sIsP9 f fd)
    (GN : FnOk P w K mg base CX0 1 fN fdN ["value"] (spIsN K)) (kN : PySem.W.keepIn K (.ref fN) = true) (bN : Binds K fdN ["value"] []) (mN : mg "is_name" = some (.ref fN))
    (GV : FnOk P w K mg base CX0 2 fV fdV ["value"] (spIsVr K)) (kV : PySem.W.keepIn K (.ref fV) = true) (bV : Binds K fdV ["value"] []) (mV : mg "is_variable" = some (.ref fV))
    {t3 : Tok} (mM : mg "MOST_TERMS" = some (.int 3 t3)) (mi : mg "isinstance" = none) (mtp : mg "tuple" = none) (ml : mg "len" = none) :
    FnOk P w K mg base CX0 3 f fd ["value"] (spIsP K patB) := by
  refine F.ok scIP (fun vs H Q E h => ?_) (fun cdv A outer s H vs Q E hr h => ?_)
  · obtain ⟨x, rfl, _⟩ := h
    rfl
  · obtain ⟨x, rfl, h⟩ := h
    have hr1 : Room 1 _ := hr.mono (by decide)
    have hr2 : Room 2 _ := hr.mono (by decide)
    refine ⟨_, pss_cons (ps_if (PW.pt (pw_or (pt_not (pt_val (pe_callB call_isi (by rfl) mi (by decide +kernel) (pa_cons (pv 0) (pa_cons (pe_bltn (v := .ty "tuple") (by rfl) mtp (by decide +kernel) rfl) pa_nil)))))
          (pw_or1 (pt_not (pt_chain op_le op_le pe_int (pe_callB call_len_seq (by rfl) ml (by decide +kernel) (pa_cons (pv 0) pa_nil)) (pe_op op_add pe_int (pe_glob (v := .int 3) (by rfl) mM ⟨_, rfl⟩))))))) (pss_one (ps_ret pe_bl)) pss_nil)
      (pss_cons (ps_for PassesOwn.never rfl (pi_tup (pe_slice sl_tup (pv 0) (po_some pe_int) po_none)) (pg_name (i := 1) scIP.nd rfl (Or.inl rfl))
        (pss_one (ps_if (PW.pt (pw_and (pt_not (pt_val (pe_call GN hr1 (by rfl) mN kN bN .nil pass0 (pa_cons (pv 1) pa_nil)))) (pw_and1 (pt_not (pt_val (pe_call GV hr2 (by rfl) mV kV bV .nil pass0 (pa_cons (pv 1) pa_nil)))))))
          (pss_one (ps_ret pe_bl)) pss_nil)))
      (pss_one (ps_ret (pe_call GN hr1 (by rfl) mN kN bN .nil pass0 (pa_cons (pe_ix ix_tup (pv 0) pe_int (fun _ _ => rfl)) pa_nil))))), ?_⟩
    rcases h with ⟨t, xs, rfl, ht, lx, okx, k⟩ | ⟨⟨n, ty, kb⟩, k⟩
    · have big : ¬ (1 ≤ xs.length ∧ xs.length ≤ 4) → Q (.bl false) H := fun no => by
        have q := k H fun _ _ e => e
        have e : patB xs = false := by
          cases xs with
          | nil => rfl
          | cons x r =>
            rw [List.length_cons] at no
            show (decide (r.length ≤ 3) && vN x && r.all fun y => vN y || vV y) = false
            rw [decide_eq_false (by omega), Bool.false_and, Bool.false_and]
        rw [e] at q
        exact q
      refine ⟨_, rfl, _, .ty "tuple", _, _, true, rfl, .ty "tuple", .base (.tup ht), kit_ty (by decide +kernel), _, rfl, ?_⟩
      refine iteF ?_
      refine ⟨_, rfl, t, _, rfl, .inr (SqT.of ht), _, _, rfl, rfl, _, rfl, ?_⟩
      refine ite2 (fun l1 => ⟨_, _, rfl, rfl, _, _, rfl, rfl, _, rfl, ?_⟩) (fun l1 => ⟨_, rfl, iteT (big fun y => l1 (decide_eq_true (by omega)))⟩)
      have l1 : (1 : Int) ≤ xs.length := of_decide_eq_true l1
      refine ite2 (fun l2 => ?_) (fun l2 => ?_)
      · have l2' : ¬ ((xs.length : Int) ≤ 1 + 3) := fun y => by
          rw [decide_eq_true y] at l2
          cases l2
        exact big fun y => l2' (by omega)
      · have l2' : (xs.length : Int) ≤ 1 + 3 := by
          by_cases y : (xs.length : Int) ≤ 1 + 3
          · exact y
          · rw [decide_eq_false y] at l2
            exact absurd rfl l2
        cases xs with
        | nil =>
          rw [List.length_nil] at l1
          omega
        | cons y r =>
          have lr : r.length ≤ 3 := by
            rw [List.length_cons] at l2'
            omega
          have k : ∀ H', Same H H' → Q (.bl (vN y && r.all fun y => vN y || vV y)) H' := fun H' s => by
            have q := k H' s
            have e : patB (y :: r) = (vN y && r.all fun y => vN y || vV y) := by
              show (decide (r.length ≤ 3) && vN y && r.all fun y => vN y || vV y) = _
              rw [decide_eq_true lr, Bool.true_and]
            rw [e] at q
            exact q
          refine ⟨_, rfl, _, rfl, t, _, rfl, SqT.of ht, cut_part _ _, fun u nu => ⟨u, rfl, ⟨_, SqT.of upd_same⟩, ?_⟩⟩
          rw [cut_one]
          refine for_tup (xs := r) (fun i σ H5 => ∃ v1, σ = [some (.ref t), v1] ∧ Same H H5 ∧ H5 u = some (.tup r) ∧ ((r.take i).all fun y => vN y || vV y) = true)
            ⟨none, rfl, same_new nu, upd_same, rfl⟩ (fun i σ H5 _ p => ?_) (fun i x σ H5 hx p => ?_) (fun σ H5 p => ?_)
          · obtain ⟨_, _, _, p2, _⟩ := p
            exact SqT.of p2
          · obtain ⟨v1, rfl, p1, p2, p3⟩ := p
            have ox : Okv K H x := okx x (List.mem_cons_of_mem _ (List.mem_of_getElem? hx))
            have more : (vN x || vV x) = true → ((r.take (i + 1)).all fun y => vN y || vV y) = true := fun e => by
              rw [List.take_add_one, hx, List.all_append, p3]
              simpa using e
            have less : (vN x || vV x) = false → ∀ H', Same H H' → Q (.bl false) H' := fun e H' s => by
              have q := k H' s
              have n : (r.all fun y => vN y || vV y) = false := by
                rw [List.all_eq_false]
                exact ⟨x, List.mem_of_getElem? hx, by rw [e]; decide⟩
              rw [n, Bool.and_false] at q
              exact q
            refine ⟨_, rfl, ?_⟩
            dsimp only [tNil, List.cons_append, List.nil_append]
            refine isN_of (K := K) (E := E0) (ox.same p1) fun H6 s6 => ⟨_, rfl, ?_⟩
            cases en : vN x with
            | true =>
              refine iteF ⟨_, rfl, p1.trans s6, s6 _ _ p2, more (by rw [en]; rfl)⟩
            | false =>
              refine iteT ⟨_, rfl, x, rfl, ox.same (p1.trans s6), fun H7 s7 => ⟨_, rfl, ?_⟩⟩
              cases ev : vV x with
              | true => exact iteF ⟨_, rfl, (p1.trans s6).trans s7, s7 _ _ (s6 _ _ p2), more (by rw [ev, Bool.or_true])⟩
              | false => exact iteT (less (by rw [en, ev]; rfl) _ ((p1.trans s6).trans s7))
          · obtain ⟨v1, rfl, p1, p2, p3⟩ := p
            rw [List.take_length] at p3
            refine ⟨_, rfl, t, _, 0, y, rfl, rfl, SqT.of (p1 _ _ ht), atI_nat (j := 0) rfl, ?_⟩
            dsimp only [tNil, List.cons_append, List.nil_append]
            refine isN_of (K := K) (E := E0) ((okx y List.mem_cons_self).same p1) fun H1 s1 => ?_
            have q := k H1 (p1.trans s1)
            rw [p3, Bool.and_true] at q
            exact q
    · refine ⟨_, rfl, _, .ty "tuple", _, _, false, rfl, .ty "tuple", ty, kit_ty kb, _, rfl, ?_⟩
      exact iteT (k H fun _ _ e => e)
end
end L2.LawH
set_option Elab.async false
set_option linter.all false
set_option maxRecDepth 100000
set_option maxHeartbeats 4000000
/-! is_fact. -/
namespace L2.LawH
open PySem PySem.Spec PyProof.Rows L2.Cmp L2.TxtSet
section
variable {P : Program} {w : World} {K : PySem.W.Frag} {mg : Str → Option Value} {base : Heap}
theorem factB_eq {xs : List V} (h0 : 1 ≤ xs.length) (h : xs.length ≤ 4) : factB xs = xs.all vN := by
  cases xs with
  | nil => cases h0
  | cons y r =>
    rw [List.length_cons] at h
    show ((decide (r.length ≤ 3) && vN y && (r.all fun y => vN y || vV y)) && (vN y && r.all vN)) = (vN y && r.all vN)
    rw [decide_eq_true (by omega), Bool.true_and]
    cases e : r.all vN with
    | false => simp
    | true =>
      have e2 : (r.all fun y => vN y || vV y) = true := List.all_eq_true.mpr fun x m => by rw [List.all_eq_true.mp e x m, Bool.true_or]
      rw [e2]
      simp
theorem factB_no {xs : List V} (h : ¬ (1 ≤ xs.length ∧ xs.length ≤ 4)) : factB xs = false := by
  cases xs with
  | nil => rfl
  | cons y r =>
    rw [List.length_cons] at h
    show ((decide (r.length ≤ 3) && vN y && (r.all fun y => vN y || vV y)) && (vN y && r.all vN)) = false
    rw [decide_eq_false (by omega), Bool.false_and, Bool.false_and, Bool.false_and]
end
end L2.LawH
set_option Elab.async false
set_option linter.all false
set_option maxRecDepth 100000
set_option maxHeartbeats 4000000
/-! pattern_text. -/
namespace L2.LawH
open PySem PySem.Spec PyProof.Rows L2.Cmp L2.TxtSet
abbrev sPt12 : Stmt := top 17
theorem len_app (a b : Str) : (a ++ b).length = a.length + b.length := by
  rw [← length_toList, toList_append, List.length_append, length_toList, length_toList]
theorem join_len (sep : Str) : ∀ ys : List Str, (Str.join sep ys).length ≤ (ys.map (·.length)).sum + ys.length * sep.length
  | [] => Nat.zero_le _
  | [x] => by
    show x.length ≤ _
    simp
  | x :: y :: r => by
    have ih := join_len sep (y :: r)
    show (x ++ sep ++ Str.join sep (y :: r)).length ≤ _
    rw [len_app, len_app, List.map_cons, List.sum_cons, List.length_cons, Nat.succ_mul]
    omega
theorem sum_le (B : Nat) : ∀ ys : List Str, (∀ y ∈ ys, y.length ≤ B) → (ys.map (·.length)).sum ≤ ys.length * B
  | [], _ => Nat.zero_le _
  | x :: r, h => by
    have ih := sum_le B r fun y m => h y (List.mem_cons_of_mem _ m)
    have hx := h x List.mem_cons_self
    rw [List.map_cons, List.sum_cons, List.length_cons, Nat.succ_mul]
    omega
/-- the text of a pattern, as it is put together -/
def ptext (T : Str) (zs : List Str) : Str := Str.empty ++ T ++ "(" ++ Txt.join "," zs ++ ")"
def spPtx : Sp := fun vs H Q _ => ∃ (t : Addr) (T : Str) (zs : List Str), vs = [.ref t] ∧ H t = some (.tup (.str T :: zs.map V.str)) ∧ zs.length ≤ 100 ∧ T.length ≤ 1000 ∧ (∀ z ∈ zs, z.length ≤ 1000) ∧
  ∀ H', Same H H' → Q (.str (ptext T zs)) H'
section
variable {P : Program} {w : World} {K : PySem.W.Frag} {mg : Str → Option Value} {base : Heap}
theorem scPx : FnScope ["pattern", "terms"] ["pattern"] (defScope sPt12) := ⟨rfl, rfl, rfl, by decide +kernel, rfl, by decide +kernel, by decide +kernel⟩
theorem ok_ptx {f : Addr} {fd : FuncData} (F : Fun K "pattern_text" "pattern_text" sPt12 f fd) : FnOk P w K mg base CX0 1 f fd ["pattern"] spPtx := by
  refine F.ok scPx (fun vs H Q E h => ?_) (fun cdv A outer s H vs Q E hr h => ?_)
  · obtain ⟨t, T, zs, rfl, _⟩ := h
    rfl
  · obtain ⟨t, T, zs, rfl, ht, few, lT, lz, k⟩ := h
    refine ⟨_, pss_cons (ps_set (i := 1) scPx.nd rfl (Or.inl rfl) (pe_join pe_str (pe_slice sl_tup (pv 0) (po_some pe_int) po_none)))
      (pss_one (ps_ret (pe_joined (.cons (pe_fmt (pe_ix ix_tup (pv 0) pe_int (fun _ _ => rfl))) (.cons pe_str (.cons (pe_fmt (pv 1)) (.cons pe_str .nil))))))), ?_⟩
    have e0 : Str.empty.length = 0 := rfl
    have s1 := sum_le 1000 zs lz
    have c1 : (("," : String) : Str).length = 1 := by decide +kernel
    have c2 : (("(" : String) : Str).length = 1 := by decide +kernel
    have c3 : (((")" : String)) : Str).length = 1 := by decide +kernel
    have jl : (Txt.join "," zs).length ≤ 110000 := by
      have q := join_len "," zs
      rw [c1] at q
      have e : Txt.join "," zs = Str.join "," zs := StrLaws.glued_eq_join _ _
      rw [e]
      refine Nat.le_trans q ?_
      have : zs.length * 1000 ≤ 100 * 1000 := Nat.mul_le_mul_right _ few
      omega
    refine ⟨⟨_, rfl⟩, _, rfl, _, rfl, t, _, rfl, SqT.of ht, cut_part _ _, fun u nu => ?_⟩
    rw [cut_one]
    refine ⟨_, u, zs, rfl, rfl, .inr (SqT.of upd_same), ?_, ?_⟩
    · rw [c1]
      have : zs.length * 1000 ≤ 100 * 1000 := Nat.mul_le_mul_right _ few
      omega
    · have ht2 := (same_new nu (o := .tup (zs.map V.str))) _ _ ht
      refine ⟨_, rfl, t, _, 0, _, rfl, rfl, SqT.of ht2, atI_nat (j := 0) rfl, .inl ⟨T, rfl, ?_, T, rfl, ?_, _, rfl, ?_, _, rfl, .inl ⟨_, rfl, ?_, _, rfl, ?_, _, rfl, ?_, ?_⟩⟩⟩
      · rw [sizeLine_eq]; omega
      · rw [len_app, e0, sizeLine_eq]; omega
      · rw [len_app, len_app, e0, c2, sizeLine_eq]; omega
      · rw [sizeLine_eq]; omega
      · rw [len_app, len_app, len_app, e0, c2, sizeLine_eq]; omega
      · rw [len_app, len_app, len_app, len_app, e0, c2, c3, sizeLine_eq]; omega
      · exact k _ (same_new nu)
end
end L2.LawH
set_option Elab.async false
set_option linter.all false
set_option maxRecDepth 100000
set_option maxHeartbeats 4000000
/-! _law_is_name. -/
namespace L2.LawH
open PySem PySem.Spec PyProof.Rows L2.Cmp L2.TxtSet
def one (c : Nat) : Str := ⟨#[c]⟩
section
variable {P : Program} {w : World} {K : PySem.W.Frag} {mg : Str → Option Value} {base : Heap}
end
end L2.LawH
set_option Elab.async false
set_option linter.all false
set_option maxRecDepth 100000
set_option maxHeartbeats 4000000
/-! _law_is_term. -/
namespace L2.LawH
open PySem PySem.Spec PyProof.Rows L2.Cmp L2.TxtSet
/-- a value that the law may ask: its signs are signs -/
def Okl (K : PySem.W.Frag) (H : Hp) (x : V) : Prop := (∃ z : Str, x = .str z ∧ z.length ≤ 100000 ∧ ∀ c ∈ z.cps.toList, c < 0x110000) ∨ (NotS K H x ∧ ∀ z, x ≠ .str z)
theorem Okl.okv {K : PySem.W.Frag} {H : Hp} {x : V} (h : Okl K H x) : Okv K H x := h.imp (fun ⟨z, e, l, _⟩ => ⟨z, e, l⟩) id
theorem Okl.same {K : PySem.W.Frag} {H H' : Hp} (s : Same H H') {x : V} (h : Okl K H x) : Okl K H' x := h.imp id fun ⟨⟨n, ty, kb⟩, no⟩ => ⟨⟨n, tyx_same s ty, kb⟩, no⟩
theorem isV_head {z : Str} (h : isV z = true) : ∃ r, z.cps.toList = 63 :: r := by
  rw [← first_sign] at h
  have e : cutS z none (some 1) = Str.ofString "?" := of_decide_eq_true h
  have q1 : (Str.ofString "?").cps.toList = [63] := by decide +kernel
  have e2 : HT.sIx z.length z.length (some 1) = min 1 z.length := HT.sIx_nat z.length z.length 1
  have e3 := congrArg (fun y : Str => y.cps.toList) e
  unfold cutS at e3
  rw [HT.sIx_none, e2] at e3
  simp only [q1] at e3
  have l : z.cps.toList.length = z.length := length_toList z
  cases hc : z.cps.toList with
  | nil =>
    rw [hc] at e3
    simp at e3
  | cons c r =>
    rw [hc] at e3 l
    rw [List.length_cons] at l
    have m : min 1 z.length = 1 := by omega
    rw [m] at e3
    simp at e3
    exact ⟨r, by rw [e3]⟩
theorem nmB_var {z : Str} (h : isV z = true) : nmB z.cps.toList = false := by
  obtain ⟨r, e⟩ := isV_head h
  rw [e]
  show (isLet 63 && r.all isSgn && decide (r.length ≤ 11)) = false
  have : isLet 63 = false := by decide
  rw [this, Bool.false_and, Bool.false_and]
section
variable {P : Program} {w : World} {K : PySem.W.Frag} {mg : Str → Option Value} {base : Heap}
end
end L2.LawH
set_option Elab.async false
set_option linter.all false
set_option maxRecDepth 100000
set_option maxHeartbeats 4000000
/-! _law_text. -/
namespace L2.LawH
open PySem PySem.Spec PyProof.Rows L2.Cmp L2.TxtSet
theorem empty_app (T : Str) : Str.empty ++ T = T := by
  have h : (Str.empty ++ T).cps.toList = T.cps.toList := by
    rw [toList_append]
    rfl
  have h2 := Array.toList_inj.mp h
  cases hx : Str.empty ++ T with
  | mk a =>
    rw [hx] at h2
    cases T
    exact congrArg Str.mk h2
section
variable {P : Program} {w : World} {K : PySem.W.Frag} {mg : Str → Option Value} {base : Heap}
end
end L2.LawH
set_option Elab.async false
set_option linter.all false
set_option maxRecDepth 100000
set_option maxHeartbeats 4000000
/-! _law_is_pattern; values that are asked. -/
namespace L2.LawH
open PySem PySem.Spec PyProof.Rows L2.Cmp L2.TxtSet
theorem Same.seqT {K : PySem.W.Frag} {H H' : Hp} {a : Addr} {xs : List V} (e : Same H H') (h : SqT K H a xs) : SqT K H' a xs := by
  rcases h with h | h
  · rcases h with h | ⟨o, h⟩
    · exact .inl (.inl (e _ _ h))
    · exact .inl (.inr ⟨o, e _ _ h⟩)
  · exact .inr h
mutual
theorem dp_same {K : PySem.W.Frag} {H H' : Hp} (s : Same H H') : ∀ (d : PyData) (v : V), Dp K H v d → Dp K H' v d
  | .none, _, h => by
    cases h
    exact .non
  | .bool b, _, h => by
    cases h
    exact .bl b
  | .int i, _, h => by
    cases h
    exact .int i
  | .str x, _, h => by
    cases h
    exact .str x
  | .list ds, _, h => by
    cases h with
    | lst hs ha => exact .lst (Same.seq s hs) (dpAll_same s ds _ ha)
  | .tuple ds, _, h => by
    cases h with
    | tup hs ha => exact .tup (Same.seqT s hs) (dpAll_same s ds _ ha)
  | .dict _, _, h => by cases h
theorem dpAll_same {K : PySem.W.Frag} {H H' : Hp} (s : Same H H') : ∀ (ds : List PyData) (vs : List V), DpAll K H vs ds → DpAll K H' vs ds
  | [], _, h => by
    cases h
    exact .nil
  | d :: ds, _, h => by
    cases h with
    | cons h1 h2 => exact .cons (dp_same s d _ h1) (dpAll_same s ds _ h2)
end
/-- an item of a tuple that is asked -/
def Itm (K : PySem.W.Frag) (H : Hp) (y : V) : Prop := Okl K H y ∧ ∃ d, Dp K H y d ∧ d.canLay0 = true ∧ d.depth ≤ 2
theorem Itm.same {K : PySem.W.Frag} {H H' : Hp} (s : Same H H') {y : V} (h : Itm K H y) : Itm K H' y :=
  let ⟨o, d, p, l⟩ := h
  ⟨o.same s, d, dp_same s d _ p, l⟩
/-- data of a list of items -/
theorem itms_data {K : PySem.W.Frag} {H : Hp} : ∀ (ys : List V), (∀ y ∈ ys, Itm K H y) → ∃ ds, DpAll K H ys ds ∧ ds.length = ys.length ∧ PyData.canLayAll0 ds = true ∧ PyData.depthAll ds ≤ 2
  | [], _ => ⟨[], .nil, rfl, by simp [PyData.canLayAll0], by simp [PyData.depthAll]⟩
  | y :: ys, h => by
    obtain ⟨ds, p, l, c, e⟩ := itms_data ys fun z m => h z (List.mem_cons_of_mem _ m)
    obtain ⟨_, d, q, c1, e1⟩ := h y List.mem_cons_self
    refine ⟨d :: ds, .cons q p, by simp [l], by simp [PyData.canLayAll0, c, c1], ?_⟩
    simp only [PyData.depthAll]
    omega
theorem shaped_list {ds : List PyData} (h : PyData.canLayAll0 ds = true) (e : PyData.depthAll ds ≤ 20) : SeqAt.shaped (.list ds) = true := by
  have h2 : PyData.depth (.list ds) ≤ 64 := by
    simp only [PyData.depth]
    omega
  show (PyData.canLay0 (.list ds) && decide (PyData.depth (.list ds) ≤ 64)) = true
  rw [Bool.and_eq_true]
  exact ⟨by simp only [PyData.canLay0]; exact h, decide_eq_true h2⟩
theorem eqv_nilD : ∀ ds : List PyData, PyData.eqv (.list ds) (.list []) = decide (ds.length = 0)
  | [] => by simp [PyData.eqv, PyData.eqvAll]
  | d :: ds => by simp [PyData.eqv, PyData.eqvAll]
/-- a value that is asked: a tuple of items, or no tuple -/
def Ask (K : PySem.W.Frag) (H : Hp) (x : V) : Option (List V) → Prop
  | none => Okl K H x ∧ NotT K H x
  | some xs => ∃ t, x = .ref t ∧ H t = some (.tup xs) ∧ xs.length ≤ 100 ∧ ∀ y ∈ xs, Itm K H y
theorem NotT.same {K : PySem.W.Frag} {H H' : Hp} (s : Same H H') {x : V} (h : NotT K H x) : NotT K H' x := let ⟨n, ty, kb⟩ := h; ⟨n, tyx_same s ty, kb⟩
theorem Ask.same {K : PySem.W.Frag} {H H' : Hp} (s : Same H H') {x : V} {o : Option (List V)} (h : Ask K H x o) : Ask K H' x o := by
  cases o with
  | none => exact ⟨h.1.same s, h.2.same s⟩
  | some xs =>
    obtain ⟨t, e, ht, l, i⟩ := h
    exact ⟨t, e, s _ _ ht, l, fun y m => (i y m).same s⟩
theorem Ask.okl {K : PySem.W.Frag} {H : Hp} {x : V} {o : Option (List V)} (h : Ask K H x o) : Okl K H x := by
  cases o with
  | none => exact h.1
  | some xs =>
    obtain ⟨t, rfl, ht, l, i⟩ := h
    exact .inr ⟨⟨"tuple", .base (.tup ht), by decide +kernel⟩, fun z e => by cases e⟩
def pAns : Option (List V) → Bool
  | none => false
  | some xs => patB xs
def fAns : Option (List V) → Bool
  | none => false
  | some xs => factB xs
theorem fact_eq (y : V) (r : List V) (lr : r.length ≤ 3) : factB (y :: r) = (vN y && r.all vN) := by
  show ((decide (r.length ≤ 3) && vN y && r.all fun y => vN y || vV y) && (vN y && r.all vN)) = _
  rw [decide_eq_true lr, Bool.true_and]
  cases h1 : vN y with
  | false => rfl
  | true =>
    cases h2 : r.all vN with
    | false => simp
    | true =>
      have : (r.all fun y => vN y || vV y) = true := List.all_eq_true.mpr fun x m => by rw [List.all_eq_true.mp h2 x m]; rfl
      rw [this]
      rfl
section
variable {P : Program} {w : World} {K : PySem.W.Frag} {mg : Str → Option Value} {base : Heap}
end
end L2.LawH
set_option Elab.async false
set_option linter.all false
set_option maxRecDepth 100000
set_option maxHeartbeats 4000000
/-! Texts of patterns read: the mathematics. -/
namespace L2.LawH
open PySem PySem.Spec PyProof.Rows L2.Cmp L2.TxtSet TL
abbrev opnS : Str := "("
abbrev clsS : Str := ")"
abbrev comS : Str := ","
theorem tl_opn : tl opnS = [40] := by decide +kernel
theorem tl_cls : tl clsS = [41] := by decide +kernel
theorem tl_com : tl comS = [44] := by decide +kernel
/-- table and inside of a text that is cut rightly -/
def cutP (z : Str) : Option (Str × Str) := match par [40] [] (tl z) with
  | none => none
  | some (a, b) => if b.getLast? = some 41 then some (⟨a.toArray⟩, ⟨b.dropLast.toArray⟩) else none
def terms (i : Str) : List Str := if i.length = 0 then [] else Txt.split i comS
def rdOk (z : Str) : Option (Str × List Str) := match cutP z with
  | none => none
  | some (a, i) => if patB (.str a :: (terms i).map V.str) = true then some (a, terms i) else none
/-! ### par and spl for one sign -/
theorem pre_one (s c : Nat) (r : List Nat) : pre [s] (c :: r) = decide (c = s) := by
  show ((c :: r).take 1 == [s]) = _
  rw [Bool.eq_iff_iff, beq_iff_eq, decide_eq_true_iff]
  simp
theorem par_eq (s : Nat) : ∀ (l acc : List Nat) (a b : List Nat), par [s] acc l = some (a, b) → ∃ m, a = acc ++ m ∧ l = m ++ s :: b ∧ s ∉ m
  | [], acc, a, b, h => by cases h
  | c :: r, acc, a, b, h => by
    by_cases hc : c = s
    · rw [par_hit (by rw [pre_one, decide_eq_true hc])] at h
      have h2 := Option.some.inj h
      have e1 : acc = a := congrArg Prod.fst h2
      have e2 : (c :: r).drop [s].length = b := congrArg Prod.snd h2
      refine ⟨[], by rw [List.append_nil]; exact e1.symm, ?_, by simp⟩
      rw [← e2, hc]
      rfl
    · rw [par_miss (by rw [pre_one, decide_eq_false hc])] at h
      obtain ⟨m, e1, e2, e3⟩ := par_eq s r (acc ++ [c]) a b h
      refine ⟨c :: m, by rw [e1, List.append_assoc]; rfl, by rw [e2]; rfl, ?_⟩
      intro hm
      rcases List.mem_cons.mp hm with h | h
      · exact hc h.symm
      · exact e3 h
theorem par_no (s : Nat) : ∀ (l acc : List Nat), par [s] acc l = none → s ∉ l
  | [], _, _ => by simp
  | c :: r, acc, h => by
    by_cases hc : c = s
    · rw [par_hit (by rw [pre_one, decide_eq_true hc])] at h
      cases h
    · rw [par_miss (by rw [pre_one, decide_eq_false hc])] at h
      intro hm
      rcases List.mem_cons.mp hm with h' | h'
      · exact hc h'.symm
      · exact par_no s r _ h h'
theorem spl_ne (S : List Nat) : ∀ (l : List Nat) (acc : List Nat), spl S 0 acc l ≠ [] := by
  intro l
  induction l with
  | nil => intro acc; rw [spl_nil]; simp
  | cons c r ih =>
    intro acc
    cases h : pre S (c :: r) with
    | true => rw [spl_hit h]; simp
    | false => rw [spl_miss h]; exact ih _
theorem joinL_cons (S p : List Nat) {X : List (List Nat)} (h : X ≠ []) : joinL S (p :: X) = p ++ (S ++ joinL S X) := by
  cases X with
  | nil => exact absurd rfl h
  | cons q r => rfl
theorem join_spl (s : Nat) : ∀ (l acc : List Nat), joinL [s] (spl [s] 0 acc l) = acc ++ l
  | [], acc => by
    rw [spl_nil]
    show acc = _
    rw [List.append_nil]
  | c :: r, acc => by
    by_cases hc : c = s
    · rw [spl_hit (by rw [pre_one, decide_eq_true hc])]
      show joinL [s] (acc :: spl [s] 0 [] r) = _
      rw [joinL_cons _ _ (spl_ne _ _ _), join_spl s r [], hc]
      rfl
    · rw [spl_miss (by rw [pre_one, decide_eq_false hc]), join_spl s r (acc ++ [c]), List.append_assoc]
      rfl
theorem part_le (s : Nat) : ∀ (X : List (List Nat)) (p : List Nat), p ∈ X → p.length ≤ (joinL [s] X).length
  | [], p, h => by cases h
  | [q], p, h => by
    rw [List.mem_singleton.mp h]
    exact Nat.le_refl _
  | q :: y :: r, p, h => by
    show p.length ≤ (q ++ ([s] ++ joinL [s] (y :: r))).length
    rw [List.length_append, List.length_append]
    rcases List.mem_cons.mp h with rfl | h
    · omega
    · have := part_le s (y :: r) p h
      omega
theorem parts_le (s : Nat) : ∀ (X : List (List Nat)), X.length ≤ (joinL [s] X).length + 1
  | [] => Nat.zero_le _
  | [q] => by simp
  | q :: y :: r => by
    have := parts_le s (y :: r)
    show (q :: y :: r).length ≤ (q ++ ([s] ++ joinL [s] (y :: r))).length + 1
    rw [List.length_append, List.length_append, List.length_cons]
    simp only [List.length_singleton]
    omega
theorem part_mem (s : Nat) : ∀ (X : List (List Nat)) (p : List Nat) (c : Nat), p ∈ X → c ∈ p → c ∈ joinL [s] X
  | [], p, c, h, _ => by cases h
  | [q], p, c, h, hc => by
    rw [List.mem_singleton.mp h] at hc
    exact hc
  | q :: y :: r, p, c, h, hc => by
    show c ∈ q ++ ([s] ++ joinL [s] (y :: r))
    rw [List.mem_append, List.mem_append]
    rcases List.mem_cons.mp h with rfl | h
    · exact .inl hc
    · exact .inr (.inr (part_mem s (y :: r) p c h hc))
/-! ### the terms -/
theorem com_kind (i : Str) : ¬ Builtin.Str.strKind i < Builtin.Str.strKind comS := kind_ok (by decide +kernel)
theorem split_tl (i : Str) : (Txt.split i comS).map tl = spl [44] 0 [] (tl i) := by
  have h := split_spl i comS (by rw [tl_com]; simp) (com_kind i)
  rw [tl_com] at h
  exact h
theorem join_terms (i : Str) : Txt.join comS (terms i) = i := by
  unfold terms
  by_cases h : i.length = 0
  · rw [if_pos h]
    refine ext_tl ?_
    rw [join_eq]
    have e : tl i = [] := by
      rw [len_tl] at h
      exact List.length_eq_zero_iff.mp h
    rw [e]
    rfl
  · rw [if_neg h]
    refine ext_tl ?_
    rw [join_eq, tl_join, tl_com, split_tl, join_spl]
    rfl
theorem terms_join (i : Str) (h : i.length ≠ 0) : joinL [44] ((terms i).map tl) = tl i := by
  unfold terms
  rw [if_neg h, split_tl, join_spl]
  rfl
theorem term_le {i y : Str} (h : y ∈ terms i) : y.length ≤ i.length := by
  by_cases h0 : i.length = 0
  · unfold terms at h
    rw [if_pos h0] at h
    cases h
  · have := part_le 44 ((terms i).map tl) (tl y) (List.mem_map_of_mem h)
    rw [terms_join i h0] at this
    rw [len_tl, len_tl]
    exact this
theorem terms_le (i : Str) : (terms i).length ≤ i.length + 1 := by
  by_cases h0 : i.length = 0
  · unfold terms
    rw [if_pos h0]
    exact Nat.zero_le _
  · have := parts_le 44 ((terms i).map tl)
    rw [terms_join i h0, List.length_map] at this
    rw [len_tl]
    exact this
theorem term_mem {i y : Str} (h : y ∈ terms i) {c : Nat} (hc : c ∈ tl y) : c ∈ tl i := by
  by_cases h0 : i.length = 0
  · unfold terms at h
    rw [if_pos h0] at h
    cases h
  · have := part_mem 44 ((terms i).map tl) (tl y) c (List.mem_map_of_mem h) hc
    rw [terms_join i h0] at this
    exact this
/-! ### the cuts -/
theorem last_cases (l : List Nat) : l = [] ∨ ∃ m c, l = m ++ [c] := by
  rcases List.eq_nil_or_concat l with h | ⟨m, c, h⟩
  · exact .inl h
  · exact .inr ⟨m, c, by rw [h, List.concat_eq_append]⟩
theorem suffix_eq (b : Str) : Txt.removesuffix b clsS = if (tl b).getLast? = some 41 then ⟨(tl b).dropLast.toArray⟩ else b := by
  have l1 : clsS.length = 1 := by decide +kernel
  have lb := len_tl b
  rw [StrLaws.removesuffix_eq, StrLaws.subAt_eq, l1, show clsS.cps.toList = [41] from tl_cls]
  rcases last_cases (tl b) with h | ⟨m, c, h⟩
  · rw [h] at lb
    have e : b.cps.toList = [] := h
    rw [h]
    simp [lb]
  · have e : b.cps.toList = m ++ [c] := h
    have l2 : b.length = m.length + 1 := by
      rw [lb, h, List.length_append]
      rfl
    rw [h, e, l2]
    have d1 : decide (0 + 1 ≤ m.length + 1) = true := decide_eq_true (by omega)
    have d2 : (m ++ [c]).drop (m.length + 1 - 1) = [c] := by
      rw [Nat.add_sub_cancel]
      exact List.drop_left
    have d3 : ((m ++ [c]).drop 0).take (m.length + 1 - 1 - 0) = m := by
      rw [List.drop_zero, Nat.sub_zero, Nat.add_sub_cancel]
      exact List.take_left
    rw [d1, d2, d3, Bool.true_and]
    by_cases hc : c = 41
    · rw [hc]
      simp
    · simp [hc]
theorem find_eq (z : Str) : Txt.find z opnS = match par [40] [] (tl z) with | none => -1 | some (a, _) => (a.length : Int) := by
  have hy : tl opnS ≠ [] := by rw [tl_opn]; simp
  have l1 : opnS.length = 1 := by decide +kernel
  have hx := len_tl z
  unfold Txt.find
  rcases StrLaws.occ_head z opnS 1 (Nat.le_refl 1) with ⟨h0, hn⟩ | ⟨i, r, h0, hi, hn⟩
  · have run := par_run (tl opnS) (tl z) (tl z).length 0 [] (by omega) (fun k _ _ => no_at hy (hn k))
    rw [List.drop_zero, Nat.zero_add, List.drop_length] at run
    rw [tl_opn] at run
    rw [h0, run]
    rfl
  · have hb : i + opnS.length ≤ z.length := hi.1
    have run := par_run (tl opnS) (tl z) i 0 [] (by omega) (fun k _ k2 => no_at hy (hn k (by omega)))
    rw [List.drop_zero, Nat.zero_add, List.nil_append, par_at hy ((at_iff hy i).mp hi)] at run
    rw [tl_opn] at run
    rw [h0, run]
    show (i : Int) = (((tl z).take i).length : Int)
    rw [List.length_take]
    omega
theorem part_eq (z : Str) : Txt.partition z opnS = (match par [40] [] (tl z) with | some (a, b) => (⟨a.toArray⟩, opnS, ⟨b.toArray⟩) | none => (z, Str.empty, Str.empty)) := by
  have h := partition_par z opnS (by rw [tl_opn]; simp)
  rw [tl_opn] at h
  exact h
/-! ### a text and its pattern's -/
theorem ptext_tl (T : Str) (i : Str) : tl (ptext T (terms i)) = tl T ++ 40 :: (tl i ++ [41]) := by
  unfold ptext
  rw [empty_app, tl_append, tl_append, tl_append, show tl (("(" : String) : Str) = [40] from tl_opn, show tl ((")" : String) : Str) = [41] from tl_cls, show Txt.join ((("," : String)) : Str) (terms i) = i from join_terms i]
  simp
theorem nm_len {l : List Nat} (h : nmB l = true) : l.length ≤ 12 := (nm_sgns h).2.1
theorem var_len {z : Str} (h : varB z = true) : z.length ≤ 13 := by
  unfold varB at h
  rw [Bool.and_eq_true] at h
  have := nm_len h.2
  rw [List.length_drop] at this
  rw [len_tl]
  show z.cps.toList.length ≤ 13
  omega
theorem pat_bd {a : Str} {ts : List Str} (h : patB (.str a :: ts.map V.str) = true) : a.length ≤ 12 ∧ ts.length ≤ 3 ∧ ∀ y ∈ ts, y.length ≤ 13 := by
  have h : (decide ((ts.map V.str).length ≤ 3) && vN (.str a) && (ts.map V.str).all fun y => vN y || vV y) = true := h
  rw [Bool.and_eq_true, Bool.and_eq_true, decide_eq_true_iff, List.length_map, List.all_eq_true] at h
  obtain ⟨⟨h1, h2⟩, h3⟩ := h
  refine ⟨?_, h1, fun y hy => ?_⟩
  · have := nm_len (show nmB a.cps.toList = true from h2)
    rw [len_tl]
    exact this
  · have := h3 (.str y) (List.mem_map_of_mem hy)
    rw [Bool.or_eq_true] at this
    rcases this with h | h
    · have := nm_len (show nmB y.cps.toList = true from h)
      rw [len_tl]
      exact Nat.le_trans this (by decide)
    · exact var_len (show varB y = true from h)
/-- the reading of the program: where its own test of the text holds -/
theorem read_same {z a b : Str} (h : par [40] [] (tl z) = some (tl a, tl b)) :
    (decide (V.str (ptext a (terms (Txt.removesuffix b clsS))) = V.str z)) = decide ((tl b).getLast? = some 41) := by
  obtain ⟨m, e1, e2, _⟩ := par_eq 40 _ _ _ _ h
  rw [List.nil_append] at e1
  rw [← e1] at e2
  have key : (ptext a (terms (Txt.removesuffix b clsS)) = z) ↔ tl (Txt.removesuffix b clsS) ++ [41] = tl b := by
    constructor
    · intro e
      have e3 := congrArg tl e
      rw [ptext_tl, e2] at e3
      have e4 := List.append_cancel_left e3
      injection e4
    · intro e
      refine ext_tl ?_
      rw [ptext_tl, e2, e]
  refine decide_eq_decide.mpr ⟨fun e => ?_, fun e => ?_⟩
  · have e5 := key.mp (V.str.inj e)
    rw [← e5]
    simp
  · refine congrArg V.str (key.mpr ?_)
    rw [suffix_eq, if_pos e]
    show (tl b).dropLast ++ [41] = tl b
    rcases last_cases (tl b) with h | ⟨m, c, h⟩
    · rw [h] at e
      cases e
    · rw [h] at e ⊢
      have : c = 41 := by simpa using e
      rw [this]
      simp
theorem read_none {z : Str} (h : par [40] [] (tl z) = none) : (decide (V.str (ptext z (terms (Txt.removesuffix Str.empty clsS))) = V.str z)) = false := by
  refine decide_eq_false fun e => ?_
  have e3 := congrArg (fun y => (tl y).length) (V.str.inj e)
  simp only [ptext_tl, List.length_append, List.length_cons] at e3
  omega
end L2.LawH
set_option Elab.async false
set_option linter.all false
set_option maxRecDepth 100000
set_option maxHeartbeats 4000000
/-! read_pattern. -/
namespace L2.LawH
open PySem PySem.Spec PyProof.Rows L2.Cmp L2.TxtSet TL
abbrev sRd18 : Stmt := top 18
def spRd : Sp := fun vs H Q _ => ∃ z : Str, vs = [.str z] ∧ z.length ≤ 90000 ∧ (∀ c ∈ tl z, c < 0x110000) ∧ (rdOk z = none → ∀ H', Same H H' → Q .non H') ∧
  (∀ a ts, rdOk z = some (a, ts) → ∀ (p : Addr) (H' : Hp), Same H H' → H p = none → H' p = some (.tup (.str a :: ts.map V.str)) → Q (.ref p) H')
theorem cut_le {z a i : Str} (h : cutP z = some (a, i)) : a.length ≤ z.length ∧ i.length ≤ z.length ∧ (∀ c ∈ tl a, c ∈ tl z) ∧ ∀ c ∈ tl i, c ∈ tl z := by
  unfold cutP at h
  cases hp : par [40] [] (tl z) with
  | none => rw [hp] at h; cases h
  | some ab =>
    obtain ⟨a', b'⟩ := ab
    obtain ⟨m, e1, e2, _⟩ := par_eq 40 _ _ _ _ hp
    rw [List.nil_append] at e1
    rw [hp] at h
    dsimp only at h
    by_cases hl : b'.getLast? = some 41
    · rw [if_pos hl] at h
      have h2 := Option.some.inj h
      have e3 : a = ⟨a'.toArray⟩ := (congrArg Prod.fst h2).symm
      have e4 : i = ⟨b'.dropLast.toArray⟩ := (congrArg Prod.snd h2).symm
      have t1 : tl a = m := by rw [e3, ← e1]
      have t2 : tl i = b'.dropLast := by rw [e4]
      have lz := congrArg List.length e2
      rw [List.length_append, List.length_cons] at lz
      have lb : b'.dropLast.length ≤ b'.length := by rw [List.length_dropLast]; omega
      refine ⟨?_, ?_, fun c hc => ?_, fun c hc => ?_⟩
      · rw [len_tl, len_tl, t1]
        omega
      · rw [len_tl, len_tl z, t2]
        omega
      · rw [e2]
        rw [t1] at hc
        exact List.mem_append_left _ hc
      · rw [e2]
        rw [t2] at hc
        exact List.mem_append_right _ (List.mem_cons_of_mem _ ((List.dropLast_sublist _).subset hc))
    · rw [if_neg hl] at h
      cases h
section
variable {P : Program} {w : World} {K : PySem.W.Frag} {mg : Str → Option Value} {base : Heap}
abbrev nRd : List Str := ["text", "table", "_", "rest", "inner", "terms", "pattern"]
theorem scRd : FnScope nRd ["text"] (defScope sRd18) := ⟨rfl, rfl, rfl, by decide +kernel, rfl, by decide +kernel, by decide +kernel⟩
theorem ok_rd {f fP fX : Addr} {fd fdP fdX : FuncData} (F : Fun K "read_pattern" "read_pattern" sRd18 f fd)
    (GP : FnOk P w K mg base CX0 3 fP fdP ["value"] (spIsP K patB)) (kP : PySem.W.keepIn K (.ref fP) = true) (bP : Binds K fdP ["value"] []) (mP : mg "is_pattern" = some (.ref fP))
    (GX : FnOk P w K mg base CX0 1 fX fdX ["pattern"] spPtx) (kX : PySem.W.keepIn K (.ref fX) = true) (bX : Binds K fdX ["pattern"] []) (mX : mg "pattern_text" = some (.ref fX)) :
    FnOk P w K mg base CX0 4 f fd ["text"] spRd := by
  refine F.ok scRd (fun vs H Q E h => ?_) (fun cdv A outer s H vs Q E hr h => ?_)
  · obtain ⟨z, rfl, _⟩ := h
    rfl
  · obtain ⟨z, rfl, lz, cz, kN, kS⟩ := h
    have hr1 : Room 1 _ := hr.mono (by decide)
    have hr3 : Room 3 _ := hr.mono (by decide)
    refine ⟨_, pss_cons (ps_asg (pe_partition (pv 0) pe_str) (pg_tup rfl (pgs_cons (pg_name (i := 1) scRd.nd rfl (.inl rfl)) (pgs_cons (pg_name (i := 2) scRd.nd rfl (.inl rfl)) (pgs_cons (pg_name (i := 3) scRd.nd rfl (.inl rfl)) pgs_nil)))))
      (pss_cons (ps_set (i := 4) scRd.nd rfl (Or.inl rfl) (pe_m1 PySem.F.slot_str_removesuffix PySem.F.type_str_removesuffix mt_removesuffix (pv 3) pe_str))
      (pss_cons (ps_set (i := 5) scRd.nd rfl (Or.inl rfl) (pe_ifExp (pt_truth (pv 4) (by intro _; rfl)) (pe_split (pv 4) pe_str) (pe_lst pa_nil)))
      (pss_cons (ps_set (i := 6) scRd.nd rfl (Or.inl rfl) (pe_tup (pa_cons (pv 1) (StX.pa_star (pv 5) pa_nil))))
      (pss_cons (ps_if (PW.pt (pw_and (pt_val (pe_call GP hr3 (by rfl) mP kP bP .nil pass0 (pa_cons (pv 6) pa_nil)))
          (pw_and1 (pt_cmpR op_eq (pe_call GX hr1 (by rfl) mX kX bX .nil pass0 (pa_cons (pv 6) pa_nil)) (pv 0) (nomark _))))) (pss_one (ps_ret (pv 6))) pss_nil)
      (pss_one (ps_ret pe_non)))))), ?_⟩
    refine ⟨_, rfl, ⟨_, rfl⟩, z, _, rfl, rfl, by decide +kernel, by rw [sizeLine_eq]; omega, fun p np => ?_⟩
    have facts : ∃ a b m, Txt.partition z opnS = (a, m, b) ∧ a.length ≤ z.length ∧ b.length ≤ z.length ∧
        (patB (.str a :: (terms (Txt.removesuffix b clsS)).map V.str) = true → decide (V.str (ptext a (terms (Txt.removesuffix b clsS))) = V.str z) = true → rdOk z = some (a, terms (Txt.removesuffix b clsS))) ∧
        (patB (.str a :: (terms (Txt.removesuffix b clsS)).map V.str) = false ∨ decide (V.str (ptext a (terms (Txt.removesuffix b clsS))) = V.str z) = false → rdOk z = none) := by
      cases hp : par [40] [] (tl z) with
      | none =>
        refine ⟨z, Str.empty, Str.empty, by rw [part_eq, hp], Nat.le_refl _, Nat.zero_le _, fun _ h => ?_, fun _ => ?_⟩
        · rw [read_none hp] at h
          cases h
        · unfold rdOk cutP
          rw [hp]
      | some ab =>
        obtain ⟨a, b⟩ := ab
        obtain ⟨m, e1, e2, _⟩ := par_eq 40 _ _ _ _ hp
        rw [List.nil_append] at e1
        have lz := congrArg List.length e2
        rw [List.length_append, List.length_cons, ← e1] at lz
        have hp2 : par [40] [] (tl z) = some (tl ⟨a.toArray⟩, tl ⟨b.toArray⟩) := hp
        refine ⟨⟨a.toArray⟩, ⟨b.toArray⟩, opnS, by rw [part_eq, hp], ?_, ?_, fun h1 h2 => ?_, fun h => ?_⟩
        · rw [len_tl, len_tl z]
          show a.length ≤ _
          omega
        · rw [len_tl, len_tl z]
          show b.length ≤ _
          omega
        · rw [read_same hp2] at h2
          have h2 : b.getLast? = some 41 := of_decide_eq_true h2
          have e : Txt.removesuffix ⟨b.toArray⟩ clsS = ⟨b.dropLast.toArray⟩ := by
            rw [suffix_eq]
            exact if_pos h2
          rw [e] at h1 ⊢
          unfold rdOk cutP
          rw [hp]
          dsimp only
          rw [if_pos h2]
          dsimp only
          rw [if_pos h1]
        · unfold rdOk cutP
          rw [hp]
          dsimp only
          by_cases h2 : b.getLast? = some 41
          · rw [if_pos h2]
            dsimp only
            rw [read_same hp2, decide_eq_true (show (tl ⟨b.toArray⟩).getLast? = some 41 from h2)] at h
            have e : Txt.removesuffix ⟨b.toArray⟩ clsS = ⟨b.dropLast.toArray⟩ := by
              rw [suffix_eq]
              exact if_pos h2
            rw [e] at h
            rcases h with h | h
            · rw [if_neg (by rw [h]; exact Bool.false_ne_true)]
            · cases h
          · rw [if_neg h2]
    obtain ⟨a, b, m, ep, la, lb, hyes, hno⟩ := facts
    have ep : Txt.partition z (Str.ofString "(") = (a, m, b) := ep
    rw [ep]
    dsimp only
    have li : (Txt.removesuffix b clsS).length ≤ b.length := by
      rw [suffix_eq]
      split
      · rw [len_tl, len_tl]
        show (tl b).dropLast.length ≤ _
        rw [List.length_dropLast]
        omega
      · exact Nat.le_refl _
    have u1 : Same H (upd H p (.tup [.str a, .str m, .str b])) := same_new np
    refine ⟨p, _, rfl, SqT.of upd_same, rfl, _, _, rfl, _, _, rfl, _, _, rfl, rfl, ?_⟩
    refine ⟨_, rfl, ⟨_, rfl⟩, b, _, rfl, rfl, by rw [sizeLine_eq]; omega, ?_⟩
    generalize hi : Txt.removesuffix b clsS = i at hyes hno li
    refine ⟨_, rfl, _, ⟨by rw [sizeLine_eq]; omega, rfl⟩, ?_⟩
    refine ite2 (fun h0 => ⟨_, rfl, ⟨_, rfl⟩, i, _, rfl, rfl, by decide +kernel, by rw [sizeLine_eq]; omega, fun l nl => ?_⟩) (fun h0 => ⟨by show 0 ≤ sizeLine; decide, fun l nl => ?_⟩)
    all_goals
      generalize hH2 : upd _ l _ = H2
      have s2 : Same H H2 := by
        rw [← hH2]
        exact u1.trans (same_new nl)
      have hl : H2 l = some (.lst ((terms i).map V.str)) := by
        rw [← hH2, upd_same]
        unfold terms
        first
          | exact congrArg (fun y : List Str => some (HO.lst (y.map V.str))) (if_neg (fun z : i.length = 0 => by simp [z] at h0)).symm
          | exact congrArg (fun y : List Str => some (HO.lst (y.map V.str))) (show ([] : List Str) = if i.length = 0 then [] else Txt.split i comS from (if_pos (show i.length = 0 by simpa using h0)).symm)
      have tle := terms_le i
      refine ⟨_, rfl, _, rfl, l, _, rfl, .inr (SqL.of hl), ?_, fun t nt => ?_⟩
      · simp only [List.append_nil, List.length_cons, List.length_map]
        rw [sizeLine_eq]
        omega
      rw [List.append_nil]
      generalize hH3 : upd H2 t _ = H3
      have s3 : Same H2 H3 := by
        rw [← hH3]
        exact same_new nt
      have ht : H3 t = some (.tup (.str a :: (terms i).map V.str)) := by
        rw [← hH3]
        exact upd_same
      have ntH : H t = none := by
        cases e : H t with
        | none => rfl
        | some o =>
          rw [s2 t o e] at nt
          cases nt
      refine ⟨_, rfl, _, rfl, .inl ⟨t, _, rfl, ht, ?_, fun y hy => ?_, fun H4 s4 => ⟨_, rfl, ?_⟩⟩⟩
      · rw [List.length_cons, List.length_map]
        omega
      · rcases List.mem_cons.mp hy with rfl | hy
        · exact .inl ⟨_, rfl, by omega⟩
        · obtain ⟨y', hy', rfl⟩ := List.mem_map.mp hy
          have := term_le hy'
          exact .inl ⟨_, rfl, by omega⟩
      cases hA : patB (.str a :: (terms i).map V.str) with
      | false =>
        refine iteF (iteF ?_)
        exact kN (hno (.inl hA)) _ ((s2.trans s3).trans s4)
      | true =>
        obtain ⟨ba, bt, by_⟩ := pat_bd hA
        refine iteT ⟨_, rfl, t, a, terms i, rfl, s4 _ _ ht, by omega, by omega, fun y hy => Nat.le_trans (by_ y hy) (by decide), fun H5 s5 => ⟨_, rfl, rfl, _, rfl, ?_⟩⟩
        cases hB : decide (V.str (ptext a (terms i)) = V.str z) with
        | false =>
          refine iteF ?_
          exact kN (hno (.inr hB)) _ (((s2.trans s3).trans s4).trans s5)
        | true =>
          refine iteT ⟨_, rfl, ?_⟩
          exact kS a (terms i) (hyes hA hB) t _ (((s2.trans s3).trans s4).trans s5) ntH (s5 _ _ (s4 _ _ ht))
end
end L2.LawH
set_option Elab.async false
set_option linter.all false
set_option maxRecDepth 100000
set_option maxHeartbeats 4000000
/-! _law_of_text. -/
namespace L2.LawH
open PySem PySem.Spec PyProof.Rows L2.Cmp L2.TxtSet TL
theorem sIx_m1 (n d : Nat) : HT.sIx n d (some (-1)) = n - 1 := by
  show (if (-1 : Int) < 0 then ((-1 : Int) + (n : Int)).toNat else min (-1 : Int).toNat n) = n - 1
  rw [if_pos (by decide)]
  omega
theorem cut_last (z : Str) : tl (cutS z (some (-1)) none) = (tl z).drop (z.length - 1) := by
  show ((tl z).drop (HT.sIx z.length 0 (some (-1)))).take (HT.sIx z.length z.length none - HT.sIx z.length 0 (some (-1))) = _
  rw [sIx_m1, HT.sIx_none]
  refine List.take_of_length_le ?_
  rw [List.length_drop, ← len_tl]
  omega
theorem cut_to (z : Str) (k : Nat) : tl (cutS z none (some (k : Int))) = (tl z).take k := by
  show ((tl z).drop (HT.sIx z.length 0 none)).take (HT.sIx z.length z.length (some (k : Int)) - HT.sIx z.length 0 none) = _
  rw [HT.sIx_nat, HT.sIx_none, List.drop_zero, Nat.sub_zero, len_tl z]
  rcases Nat.le_total k (tl z).length with h | h
  · rw [Nat.min_eq_left h]
  · rw [Nat.min_eq_right h, List.take_of_length_le (Nat.le_refl _), List.take_of_length_le h]
theorem cut_in {z : Str} {m b : List Nat} (h : tl z = m ++ 40 :: b) : tl (cutS z (some ((m.length : Int) + 1)) (some (-1))) = b.dropLast := by
  have hz : z.length = m.length + 1 + b.length := by
    rw [len_tl, h, List.length_append, List.length_cons]
    omega
  have e1 : HT.sIx z.length 0 (some ((m.length : Int) + 1)) = m.length + 1 := by
    have e := HT.sIx_nat z.length 0 (m.length + 1)
    rw [show ((m.length + 1 : Nat) : Int) = (m.length : Int) + 1 by omega] at e
    rw [e]
    omega
  show ((tl z).drop (HT.sIx z.length 0 (some ((m.length : Int) + 1)))).take (HT.sIx z.length z.length (some (-1)) - HT.sIx z.length 0 (some ((m.length : Int) + 1))) = _
  rw [sIx_m1, e1, h, hz]
  have e2 : (m ++ 40 :: b).drop (m.length + 1) = b := by
    rw [show m ++ 40 :: b = (m ++ [40]) ++ b by simp]
    have e3 : (m ++ [40]).length = m.length + 1 := by simp
    rw [← e3]
    exact List.drop_left
  rw [e2, List.dropLast_eq_take]
  congr 1
  omega
/-- the last sign of a text that is cut -/
theorem last_sign {z : Str} {m b : List Nat} (h : tl z = m ++ 40 :: b) : decide (V.str (cutS z (some (-1)) none) = V.str clsS) = decide (b.getLast? = some 41) := by
  refine decide_eq_decide.mpr ⟨fun e => ?_, fun e => ?_⟩
  · have e1 := congrArg tl (V.str.inj e)
    rw [cut_last, tl_cls, h, len_tl, h] at e1
    rcases last_cases b with hb | ⟨k, c, hb⟩
    · subst hb
      rw [List.length_append] at e1
      have e2 : (m ++ [40]).drop (m.length + 1 - 1) = [40] := by
        rw [Nat.add_sub_cancel]
        exact List.drop_left
      have e3 : (m ++ [40]).drop (m.length + [40].length - 1) = [40] := e2
      rw [e3] at e1
      cases e1
    · subst hb
      have e4 : m ++ 40 :: (k ++ [c]) = (m ++ 40 :: k) ++ [c] := by simp
      rw [e4, List.length_append] at e1
      have e5 : ((m ++ 40 :: k) ++ [c]).drop ((m ++ 40 :: k).length + 1 - 1) = [c] := by
        rw [Nat.add_sub_cancel]
        exact List.drop_left
      have e6 : ((m ++ 40 :: k) ++ [c]).drop ((m ++ 40 :: k).length + [c].length - 1) = [c] := e5
      rw [e6] at e1
      have : c = 41 := by simpa using e1
      rw [this]
      simp
  · refine congrArg V.str (ext_tl ?_)
    rw [cut_last, tl_cls, h, len_tl, h]
    rcases last_cases b with hb | ⟨k, c, hb⟩
    · subst hb
      cases e
    · subst hb
      have hc : c = 41 := by simpa using e
      subst hc
      have e4 : m ++ 40 :: (k ++ [41]) = (m ++ 40 :: k) ++ [41] := by simp
      rw [e4, List.length_append]
      have e5 : ((m ++ 40 :: k) ++ [41]).drop ((m ++ 40 :: k).length + 1 - 1) = [41] := by
        rw [Nat.add_sub_cancel]
        exact List.drop_left
      exact e5
theorem itm_str {K : PySem.W.Frag} {H : Hp} {y : Str} (l : y.length ≤ 100000) (h : ∀ c ∈ tl y, c < 0x110000) : Itm K H (.str y) :=
  ⟨.inl ⟨y, rfl, l, h⟩, .str y, .str y, by
    show (PyData.str y).canLay0 = true
    simp only [PyData.canLay0]
    exact ok_list h, by simp [PyData.depth]⟩
section
variable {P : Program} {w : World} {K : PySem.W.Frag} {mg : Str → Option Value} {base : Heap}
end
end L2.LawH
set_option Elab.async false
set_option linter.all false
set_option maxRecDepth 100000
set_option maxHeartbeats 4000000
/-! Texts of right patterns; _law_texts. -/
namespace L2.LawH
open PySem PySem.Spec PyProof.Rows L2.Cmp L2.TxtSet TL
/-- a right pattern -/
structure PatG (T : Str) (zs : List Str) : Prop where
  nT : Nm T
  few : zs.length ≤ 3
  each : ∀ z ∈ zs, Nm z ∨ Vr z
theorem sgn_ne21 {c : Nat} (h : isSgn c = true) : c ≠ 40 ∧ c ≠ 44 ∧ c ≠ 63 ∧ c < 128 := by
  unfold isSgn isLet at h
  simp only [Bool.or_eq_true, Bool.and_eq_true, decide_eq_true_eq] at h
  omega
theorem chr_nm21 {z : Str} (h : Nm z) : ∀ c ∈ tl z, isSgn c = true := fun c hc => List.all_eq_true.mp (nm_sgns h).1 c hc
theorem tl_q : tl (Str.ofString "?") = [63] := by decide +kernel
theorem chr_tm {z : Str} (h : Nm z ∨ Vr z) : ∀ c ∈ tl z, c ≠ 40 ∧ c ≠ 44 ∧ c < 128 := by
  intro c hc
  rcases h with h | ⟨y, ny, rfl⟩
  · have := sgn_ne21 (chr_nm21 h c hc)
    exact ⟨this.1, this.2.1, this.2.2.2⟩
  · rw [tl_append, tl_q] at hc
    rcases List.mem_append.mp hc with hc | hc
    · rw [List.mem_singleton.mp hc]
      decide
    · have := sgn_ne21 (chr_nm21 ny c hc)
      exact ⟨this.1, this.2.1, this.2.2.2⟩
theorem isV_q (y : Str) : isV (Str.ofString "?" ++ y) = true := by
  rw [← first_sign, decide_eq_true_iff]
  refine ext_tl ?_
  have e := cut_to (Str.ofString "?" ++ y) 1
  rw [show (some ((1 : Nat) : Int)) = some (1 : Int) from rfl] at e
  rw [e, tl_append, tl_q]
  rfl
theorem varB_vr {z : Str} (h : Vr z) : varB z = true := by
  obtain ⟨y, ny, rfl⟩ := h
  unfold varB
  rw [isV_q, Bool.true_and]
  have e : (Str.ofString "?" ++ y).cps.toList.drop 1 = tl y := by
    rw [show (Str.ofString "?" ++ y).cps.toList = tl (Str.ofString "?" ++ y) from rfl, tl_append, tl_q]
    rfl
  rw [e]
  exact ny
theorem tm_ok {z : Str} (h : Nm z ∨ Vr z) : (vN (.str z) || vV (.str z)) = true := by
  rcases h with h | h
  · have : vN (.str z) = true := h
    rw [this]
    rfl
  · have : vV (.str z) = true := varB_vr h
    rw [this, Bool.or_true]
theorem tm_len {z : Str} (h : Nm z ∨ Vr z) : 1 ≤ z.length ∧ z.length ≤ 13 := by
  rcases h with h | ⟨y, ny, rfl⟩
  · have := nm_sgns h
    rw [len_tl]
    exact ⟨this.2.2, Nat.le_trans this.2.1 (by decide)⟩
  · have := nm_sgns ny
    rw [len_tl, tl_append, tl_q, List.length_append]
    have e : (tl y).length = y.cps.toList.length := rfl
    simp only [List.length_singleton]
    omega
theorem PatG.pat {T : Str} {zs : List Str} (h : PatG T zs) : patB (.str T :: zs.map V.str) = true := by
  show (decide ((zs.map V.str).length ≤ 3) && vN (.str T) && (zs.map V.str).all fun y => vN y || vV y) = true
  rw [List.length_map, decide_eq_true h.few, show vN (.str T) = true from h.nT, Bool.true_and, Bool.true_and, List.all_map, List.all_eq_true]
  exact fun z m => tm_ok (h.each z m)
theorem PatG.strs {T : Str} {zs : List Str} (h : PatG T zs) : T.length ≤ 12 ∧ (∀ z ∈ zs, z.length ≤ 13) := ⟨by
  have := nm_len h.nT
  rw [len_tl]
  exact this, fun z m => (tm_len (h.each z m)).2⟩
theorem terms_text {zs : List Str} (h : ∀ z ∈ zs, Nm z ∨ Vr z) : terms (Txt.join comS zs) = zs := by
  unfold terms
  cases zs with
  | nil => rfl
  | cons z r =>
    have hl : (Txt.join comS (z :: r)).length ≠ 0 := by
      rw [join_eq, len_tl, tl_join, tl_com]
      have h1 := (tm_len (h z List.mem_cons_self)).1
      have h2 := part_le 44 ((z :: r).map tl) (tl z) (List.mem_map_of_mem List.mem_cons_self)
      rw [len_tl] at h1
      omega
    rw [if_neg hl]
    exact split_join (s := 44) (S := []) tl_com (by decide +kernel) (by simp) fun p m hc => (chr_tm (h p m) 44 hc).2.1 rfl
theorem ptext_tl21 (T : Str) (zs : List Str) : tl (ptext T zs) = tl T ++ 40 :: (tl (Txt.join comS zs) ++ [41]) := by
  unfold ptext
  rw [empty_app, tl_append, tl_append, tl_append, show tl (("(" : String) : Str) = [40] from tl_opn, show tl ((")" : String) : Str) = [41] from tl_cls]
  simp
theorem par_app21 {m b : List Nat} (h : 40 ∉ m) : par [40] [] (m ++ 40 :: b) = some (m, b) := by
  have e := par_part1 (s := 40) (S := []) (p := m) (rest := b) (acc := []) h
  rw [List.nil_append] at e
  exact e
theorem PatG.read {T : Str} {zs : List Str} (h : PatG T zs) : rdOk (ptext T zs) = some (T, zs) := by
  have nT : 40 ∉ tl T := fun hc => (sgn_ne21 (chr_nm21 h.nT 40 hc)).1 rfl
  unfold rdOk cutP
  rw [ptext_tl21, par_app21 nT]
  dsimp only
  rw [if_pos (by simp)]
  dsimp only
  have e1 : (⟨(tl T).toArray⟩ : Str) = T := mk_tl T
  have e2 : (⟨(tl (Txt.join comS zs) ++ [41]).dropLast.toArray⟩ : Str) = Txt.join comS zs := by
    rw [List.dropLast_concat]
  rw [e1, e2, terms_text h.each, if_pos h.pat]
theorem PatG.read_sp {T : Str} {zs : List Str} (h : PatG T zs) : rdOk (ptext T zs ++ Str.ofString " ") = none := by
  have nT : 40 ∉ tl T := fun hc => (sgn_ne21 (chr_nm21 h.nT 40 hc)).1 rfl
  have e : tl (ptext T zs ++ Str.ofString " ") = tl T ++ 40 :: ((tl (Txt.join comS zs) ++ [41]) ++ [32]) := by
    rw [tl_append, ptext_tl21, show tl (Str.ofString " ") = [32] by decide +kernel]
    simp
  unfold rdOk cutP
  rw [e, par_app21 nT]
  dsimp only
  rw [if_neg (by simp)]
theorem read_empty : rdOk (Str.ofString "") = none := by
  unfold rdOk cutP
  rw [show tl (Str.ofString "") = [] by decide +kernel]
  rfl
theorem PatG.codes {T : Str} {zs : List Str} (h : PatG T zs) : (∀ c ∈ tl (ptext T zs), c < 0x110000) ∧ (ptext T zs).length ≤ 57 := by
  have hj : ∀ c ∈ tl (Txt.join comS zs), c < 128 := by
    rw [join_eq, tl_join, tl_com]
    intro c hc
    -- signs of a joined text
    have key : ∀ X : List (List Nat), (∀ p ∈ X, ∀ c ∈ p, c < 128) → ∀ c ∈ joinL [44] X, c < 128 := by
      intro X
      induction X with
      | nil => intro _ c hc; cases hc
      | cons p r ih =>
        intro hX c hc
        cases r with
        | nil => exact hX p List.mem_cons_self c hc
        | cons q r =>
          rw [joinL_cons _ _ (by simp), List.mem_append, List.mem_append] at hc
          rcases hc with hc | hc | hc
          · exact hX p List.mem_cons_self c hc
          · rw [List.mem_singleton.mp hc]
            decide
          · exact ih (fun p m => hX p (List.mem_cons_of_mem _ m)) c hc
    refine key _ (fun p m c hc => ?_) c hc
    obtain ⟨z, mz, rfl⟩ := List.mem_map.mp m
    exact (chr_tm (h.each z mz) c hc).2.2
  refine ⟨fun c hc => ?_, ?_⟩
  · rw [ptext_tl21] at hc
    rcases List.mem_append.mp hc with hc | hc
    · exact Nat.lt_trans (sgn_ne21 (chr_nm21 h.nT c hc)).2.2.2 (by decide)
    · rcases List.mem_cons.mp hc with rfl | hc
      · decide
      · rcases List.mem_append.mp hc with hc | hc
        · exact Nat.lt_trans (hj c hc) (by decide)
        · rw [List.mem_singleton.mp hc]
          decide
  · rw [len_tl, ptext_tl21, List.length_append, List.length_cons, List.length_append]
    have l1 := h.strs.1
    rw [len_tl] at l1
    have l2 : (tl (Txt.join comS zs)).length ≤ 3 * 14 := by
      rw [← len_tl, join_eq]
      have q := join_len comS zs
      have s1 := sum_le 13 zs h.strs.2
      have c1 : comS.length = 1 := by decide +kernel
      have few := h.few
      rw [c1] at q
      omega
    simp only [List.length_singleton]
    omega
/-! ### compared -/
theorem strs_lay : ∀ zs : List Str, (∀ z ∈ zs, ∀ c ∈ tl z, c < 0x110000) → PyData.canLayAll0 (zs.map PyData.str) = true
  | [], _ => by simp [PyData.canLayAll0]
  | z :: zs, h => by
    have h1 : PyData.strOk z = true := ok_list (h z List.mem_cons_self)
    simp [PyData.canLayAll0, PyData.canLay0, h1, strs_lay zs fun y m => h y (List.mem_cons_of_mem _ m)]
theorem strs_dep : ∀ zs : List Str, PyData.depthAll (zs.map PyData.str) ≤ 2
  | [] => by simp [PyData.depthAll]
  | z :: zs => by
    have h1 := strs_dep zs
    simp only [List.map_cons, PyData.depthAll, PyData.depth]
    omega
theorem shaped_tupS {zs : List Str} (h : ∀ z ∈ zs, ∀ c ∈ tl z, c < 0x110000) : SeqAt.shaped (.tuple (zs.map PyData.str)) = true := by
  have h1 := strs_dep zs
  have h2 : PyData.depth (.tuple (zs.map PyData.str)) ≤ 64 := by
    simp only [PyData.depth]
    omega
  show (PyData.canLay0 (.tuple (zs.map PyData.str)) && decide (PyData.depth (.tuple (zs.map PyData.str)) ≤ 64)) = true
  rw [Bool.and_eq_true]
  exact ⟨by simp only [PyData.canLay0]; exact strs_lay zs h, decide_eq_true h2⟩
theorem eqv_tupS {zs : List Str} (h : ∀ z ∈ zs, ∀ c ∈ tl z, c < 0x110000) : PyData.eqv (.tuple (zs.map PyData.str)) (.tuple (zs.map PyData.str)) = true :=
  SeqAt.eqv_refl _ (SeqAt.canLay_of_shaped (shaped_tupS h))
theorem dp_pat {K : PySem.W.Frag} {H : Hp} {t : Addr} {T : Str} {zs : List Str} (h : H t = some (.tup (.str T :: zs.map V.str))) : Dp K H (.ref t) (.tuple ((T :: zs).map PyData.str)) :=
  .tup (SqT.of h) (dp_strs (T :: zs))
theorem PatG.all {T : Str} {zs : List Str} (h : PatG T zs) : ∀ z ∈ T :: zs, ∀ c ∈ tl z, c < 0x110000 := by
  intro z m c hc
  rcases List.mem_cons.mp m with rfl | m
  · exact Nat.lt_trans (sgn_ne21 (chr_nm21 h.nT c hc)).2.2.2 (by decide)
  · exact Nat.lt_trans (chr_tm (h.each z m) c hc).2.2 (by decide)
theorem rd_codes {z a : Str} {ts : List Str} (h : rdOk z = some (a, ts)) (cz : ∀ c ∈ tl z, c < 0x110000) : ∀ y ∈ a :: ts, ∀ c ∈ tl y, c < 0x110000 := by
  unfold rdOk at h
  cases hc : cutP z with
  | none => rw [hc] at h; cases h
  | some ai =>
    obtain ⟨a', i⟩ := ai
    rw [hc] at h
    dsimp only at h
    obtain ⟨_, _, c1, c2⟩ := cut_le hc
    by_cases hp : patB (.str a' :: (terms i).map V.str) = true
    · rw [if_pos hp] at h
      have h2 := Option.some.inj h
      have e1 : a' = a := congrArg Prod.fst h2
      have e2 : terms i = ts := congrArg Prod.snd h2
      subst e1
      subst e2
      intro y m c hy
      rcases List.mem_cons.mp m with rfl | m
      · exact cz c (c1 c hy)
      · exact cz c (c2 c (term_mem m hy))
    · rw [if_neg hp] at h
      cases h
end L2.LawH
set_option Elab.async false
set_option linter.all false
set_option maxRecDepth 100000
set_option maxHeartbeats 4000000
namespace L2.LawH
open PySem PySem.Spec PyProof.Rows
def qn (j : Nat) : Str := Str.ofString "k" ++ (toString (j : Int) : String)
theorem qn_ok : ((List.range 13).all fun j => nmB (qn j).cps.toList && decide ((qn j).length ≤ 3)) = true := by decide +kernel
theorem qn_nd : ((List.range 13).map qn).Nodup := by decide +kernel
def qs (n : Nat) : List Str := (List.range n).map qn
theorem qs_nd {n : Nat} (h : n ≤ 13) : (qs n).Nodup := by
  have e : qs n = ((List.range 13).map qn).take n := by
    unfold qs
    rw [← List.map_take, List.take_range, Nat.min_eq_left h]
  rw [e]
  exact qn_nd.sublist (List.take_sublist _ _)
theorem qs_len (n : Nat) : (qs n).length = n := by simp [qs]
theorem qs_get {n i : Nat} (h : i < n) : (qs n)[i]? = some (qn i) := by simp [qs, h]
theorem qs_nm {n : Nat} (h : n ≤ 13) {q : Str} (hq : q ∈ qs n) : Nm q := by
  obtain ⟨j, hj, rfl⟩ := List.mem_map.mp hq
  have h2 := List.all_eq_true.mp qn_ok j (List.mem_range.mpr (Nat.lt_of_lt_of_le (List.mem_range.mp hj) h))
  exact (Bool.and_eq_true_iff.mp h2).1
theorem qn_len {j : Nat} (h : j < 13) : (qn j).length ≤ 3 := by
  have h2 := List.all_eq_true.mp qn_ok j (List.mem_range.mpr h)
  exact of_decide_eq_true (Bool.and_eq_true_iff.mp h2).2
def free (L : List Str) (q : Str) : Bool := !decide (q ∈ L)
theorem some_free {L : List Str} {n : Nat} (h : n ≤ 13) (hl : L.length < n) : ∃ q r, (qs n).filter (free L) = q :: r ∧ Nm q ∧ q ∉ L := by
  cases e : (qs n).filter (free L) with
  | nil =>
    exfalso
    have all : ∀ q ∈ qs n, q ∈ L := by
      intro q hq
      have z := List.filter_eq_nil_iff.mp e q hq
      simpa [free] using z
    have := nodup_len _ _ (qs_nd h) all
    rw [qs_len] at this
    omega
  | cons q r =>
    have hm : q ∈ (qs n).filter (free L) := by
      rw [e]
      exact List.mem_cons_self
    obtain ⟨h1, h2⟩ := List.mem_filter.mp hm
    exact ⟨q, r, rfl, qs_nm h h1, by simpa [free] using h2⟩
end L2.LawH
set_option Elab.async false
set_option linter.all false
set_option maxRecDepth 100000
set_option maxHeartbeats 4000000
namespace L2.LawH
open PySem PySem.Spec PyProof.Rows L2.Cmp L2.TxtSet TL
def rCatB : R2 := fun x y H Q => ∃ a b xs ys, x = .ref a ∧ y = .ref b ∧ H a = some (.tup xs) ∧ H b = some (.tup ys) ∧ xs.length + ys.length ≤ sizeLine ∧
  ∀ (p : Addr) (H' : Hp), Same H H' → H' p = some (.tup (xs ++ ys)) → (p = a ∨ p = b ∨ H p = none) → Q (.ref p) H'
theorem op_catB {X : Cx} : OpR X (binaryOp .Add) rCatB := by
  intro pins s σ H x y v u Q I rx ry h
  obtain ⟨a, b, xs, ys, rfl, rfl, ha, hb, hz, q⟩ := h
  refine op_catA pins s σ H _ _ v u Q I rx ry ⟨a, b, xs, ys, rfl, rfl, SqT.of ha, SqT.of hb, hz, fun e => ?_, fun _ e => ?_, fun _ _ p np => ?_⟩
  · subst e
    exact q b H (Same.refl H) hb (.inr (.inl rfl))
  · subst e
    exact q a H (Same.refl H) (by rw [List.append_nil]; exact ha) (.inl rfl)
  · exact q p _ (same_new np) upd_same (.inr (.inr np))
end L2.LawH
set_option Elab.async false
set_option linter.all false
set_option maxRecDepth 100000
set_option maxHeartbeats 4000000
namespace L2.LawH
open PySem PySem.Spec PyProof.Rows L2.TxtSet TL L2.NSet PySem.W
abbrev Fc := Str × List Str
/-- a fact as a member of a set, and as a key -/
def ptM (x : Pt) : Mem := (x.1, .tup (.text x.2.1 :: x.2.2.map .text))
def ptK (x : Pt) : List L2.Key := (Sum.inr x.2.1 : L2.Key) :: x.2.2.map Sum.inr
def ptV (x : Pt) : List V := .str x.2.1 :: x.2.2.map V.str
theorem ptK_V (x : Pt) : (ptK x).map kV = ptV x := by
  unfold ptK ptV
  rw [List.map_cons, List.map_map]
  rfl
theorem cr_setNK {X : Cx} {K : PySem.W.Frag} {P : Program} {w : World} (eK : X.K = K) (eP : X.prog = P) (ew : X.w = w) (hc : X.calm = true) (hu : X.A.units + 64 < cLine) : CallR X (.type "set") (rSetN K P w) := by
  subst eK eP ew
  exact cr_setN hc hu
theorem cr_sortNK {X : Cx} {K : PySem.W.Frag} {P : Program} {w : World} (eK : X.K = K) (eP : X.prog = P) (ew : X.w = w) (hc : X.calm = true) (hu : X.A.units + 64 < cLine) : CallR X (.builtin "sorted") (rSortN K P w) := by
  subst eK eP ew
  exact cr_sortN hc hu
theorem ptK_inj {x y : Pt} (h : ptK x = ptK y) : x.2 = y.2 := by
  unfold ptK at h
  injection h with h1 h2
  refine Prod.ext (Sum.inr.inj h1) ?_
  exact List.map_inj_right (fun a b e => Sum.inr.inj e) |>.mp h2
theorem ptM_inj {x y : Pt} (h : (ptM x).2 = (ptM y).2) : x.2 = y.2 := by
  unfold ptM at h
  injection h with h
  injection h with h1 h2
  injection h1 with h1
  exact Prod.ext h1 (List.map_inj_right (fun a b e => by injection e) |>.mp h2)
theorem lift_sub {α β : Type} (f : α → β) {xs : List α} : ∀ {M : List β}, (∀ p ∈ M, p ∈ xs.map f) → ∃ Ms : List α, M = Ms.map f ∧ ∀ x ∈ Ms, x ∈ xs
  | [], _ => ⟨[], rfl, fun x h => nomatch h⟩
  | p :: M, h => by
    obtain ⟨Ms, e, g⟩ := lift_sub f (M := M) fun q hq => h q (List.mem_cons_of_mem _ hq)
    obtain ⟨x, hx, ex⟩ := List.mem_map.mp (h p List.mem_cons_self)
    exact ⟨x :: Ms, by rw [List.map_cons, ex, e], fun y hy => (List.mem_cons.mp hy).elim (fun e => by rw [e]; exact hx) (g y)⟩
theorem datas_text : ∀ zs : List Str, NestedKey.datas (zs.map NestedKey.text) = zs.map PyData.str
  | [] => by simp [NestedKey.datas]
  | z :: zs => by
    rw [List.map_cons, List.map_cons, NestedKey.datas, datas_text zs]
    simp [NestedKey.data]
theorem data_ptM (x : Pt) : (ptM x).2.data = .tuple ((x.2.1 :: x.2.2).map PyData.str) := by
  unfold ptM
  rw [← List.map_cons, NestedKey.data, datas_text]
theorem alike_texts : ∀ a b : List Str, alikeAll (a.map PyData.str) (b.map PyData.str) = true
  | [], _ => by simp [alikeAll]
  | _ :: _, [] => by simp [alikeAll]
  | a :: as, b :: bs => by
    rw [List.map_cons, List.map_cons, alikeAll, alike_texts as bs]
    simp [alike]
theorem alike_ptM (x y : Pt) : alike (ptM x).2.data (ptM y).2.data = true := by
  rw [data_ptM, data_ptM, alike]
  exact alike_texts _ _
theorem ddepth_texts : ∀ a : List Str, PyData.depthAll (a.map PyData.str) = 0
  | [] => by simp [PyData.depthAll]
  | a :: as => by
    rw [List.map_cons, PyData.depthAll, ddepth_texts as]
    simp [PyData.depth]
theorem ddepth_ptM (x : Pt) : (ptM x).2.data.depth ≤ 1 := by
  rw [data_ptM, PyData.depth, ddepth_texts]
  exact Nat.le_refl _
theorem kdepth_texts : ∀ a : List Str, NestedKey.depthAll (a.map NestedKey.text) = 0
  | [] => by simp [NestedKey.depthAll]
  | a :: as => by
    rw [List.map_cons, NestedKey.depthAll, kdepth_texts as]
    simp [NestedKey.depth]
theorem kdepth_ptM (x : Pt) : (ptM x).2.depth ≤ 1 := by
  unfold ptM
  rw [← List.map_cons, NestedKey.depth, kdepth_texts]
  exact Nat.le_refl _
theorem dp_texts {K : PySem.W.Frag} {H : Hp} : ∀ zs : List Str, DpAll K H (zs.map V.str) (zs.map PyData.str)
  | [] => .nil
  | z :: zs => .cons (.str z) (dp_texts zs)
theorem memOk_pt {K : PySem.W.Frag} {H : Hp} {x : Pt} (h : H x.1 = some (.tup (ptV x))) : MemOk K H (ptM x) := by
  refine ⟨.inl ?_, Nat.le_trans (kdepth_ptM x) (by decide)⟩
  rw [data_ptM]
  exact .tup (SqT.of h) (dp_texts (x.2.1 :: x.2.2))
/-- a for over a list or a tuple -/
theorem for_seq {K : PySem.W.Frag} {q : Addr} {xs : List V} {g : TG} {tb : TS} {D : Ends} {σ : St} {H : Hp} (hq : SqL K H q xs ∨ SqT K H q xs) (Pv : Nat → St → Hp → Prop) (h0 : Pv 0 σ H) (st : ∀ i σ H', Pv i σ H' → Ext H H')
    (hs : ∀ i x σ H', xs[i]? = some x → Pv i σ H' → g x σ H' fun σ2 H2 => tb { D with nx := Pv (i + 1), ct := Pv (i + 1), bk := D.nx } σ2 H2) (hd : ∀ σ H, Pv xs.length σ H → D.nx σ H) :
    ((∃ xs, SqL K H q xs) ∧ ∃ W : Nat → Nat → St → Hp → Prop, (∃ m, W 0 m σ H) ∧ ∀ i m σ H, W i m σ H →
      ((Itl K q).stop i H ∧ D.nx σ H) ∨ ((Itl K q).go i H ∧ ∃ N : St → Hp → Prop, (∀ σ' H', N σ' H' → ∃ m', m' < m ∧ W (i + 1) m' σ' H') ∧ ∀ x H', (Itl K q).yld i H x H' → g x σ H' fun σ2 H2 => tb { D with nx := N, ct := N, bk := D.nx } σ2 H2)) ∨
    ((∃ xs, SqT K H q xs) ∧ ∃ W : Nat → Nat → St → Hp → Prop, (∃ m, W 0 m σ H) ∧ ∀ i m σ H, W i m σ H →
      ((Itt K q).stop i H ∧ D.nx σ H) ∨ ((Itt K q).go i H ∧ ∃ N : St → Hp → Prop, (∀ σ' H', N σ' H' → ∃ m', m' < m ∧ W (i + 1) m' σ' H') ∧ ∀ x H', (Itt K q).yld i H x H' → g x σ H' fun σ2 H2 => tb { D with nx := N, ct := N, bk := D.nx } σ2 H2)) :=
  hq.elim
    (fun e => .inl ⟨⟨_, e⟩, for_it (L2.walk_list (K := K)) Pv h0 (fun i σ H' _ p => e.ext (st i σ H' p)) (fun i x σ H' H'' _ p y => by obtain ⟨rfl, hx⟩ := y; exact hs i x σ _ hx p) hd⟩)
    (fun e => .inr ⟨⟨_, e⟩, for_it (L2.walk_tup (K := K)) Pv h0 (fun i σ H' _ p => e.ext (st i σ H' p)) (fun i x σ H' H'' _ p y => by obtain ⟨rfl, hx⟩ := y; exact hs i x σ _ hx p) hd⟩)
/-- a fact as data, and the order of facts -/
def facD (c : Str × List Str) : PyData := .tuple ((c.1 :: c.2).map PyData.str)
def fle (a b : Str × List Str) : Bool := !PySem.W.dataLt (facD b) (facD a)
theorem dp_fact {K : PySem.W.Frag} {H : Hp} {p : Addr} {c : Str × List Str} (h : H p = some (.tup ((c.1 :: c.2).map V.str))) : Dp K H (.ref p) (facD c) := .tup (SqT.of h) (dp_texts (c.1 :: c.2))
theorem alike_fact (a b : Str × List Str) : PySem.W.alike (facD a) (facD b) = true := by
  unfold facD
  rw [PySem.W.alike]
  exact alike_texts _ _
theorem depth_fact (a : Str × List Str) : (facD a).depth ≤ 1 := by
  unfold facD
  rw [PyData.depth, ddepth_texts]
  exact Nat.le_refl _
theorem eqvAll_texts : ∀ a b : List Str, PyData.eqvAll (a.map PyData.str) (b.map PyData.str) = decide (a = b)
  | [], [] => by simp [PyData.eqvAll]
  | [], _ :: _ => by simp [PyData.eqvAll]
  | _ :: _, [] => by simp [PyData.eqvAll]
  | x :: a, y :: b => by
    rw [List.map_cons, List.map_cons, PyData.eqvAll, eqvAll_texts a b]
    by_cases h : x = y
    · subst h
      simp [PyData.eqv]
    · simp [PyData.eqv, h]
theorem eqv_fact (a b : Str × List Str) : PyData.eqv (facD a) (facD b) = decide (a = b) := by
  unfold facD
  rw [PyData.eqv, eqvAll_texts]
  refine decide_eq_decide.mpr ⟨fun h => ?_, fun h => by rw [h]⟩
  injection h with h1 h2
  exact Prod.ext h1 h2
theorem lay_texts : ∀ zs : List Str, PyData.canLayAll0 (zs.map PyData.str) = zs.all PyData.strOk
  | [] => by simp [PyData.canLayAll0]
  | z :: zs => by
    rw [List.map_cons, PyData.canLayAll0, lay_texts zs]
    simp [PyData.canLay0]
/-- a fact of names -/
structure Fct (c : Str × List Str) : Prop where
  nT : Nm c.1
  l3 : c.2.length ≤ 3
  nz : ∀ z ∈ c.2, Nm z ∨ Vr z
theorem lay_fact {c : Str × List Str} (h : Fct c) : (facD c).canLay0 = true := by
  unfold facD
  rw [PyData.canLay0, lay_texts, List.all_cons, h.nT.strOk, List.all_eq_true.mpr fun z hz => (h.nz z hz).elim (fun q => q.strOk) (fun q => q.strOk)]
  rfl
theorem lay_facts : ∀ {cs : List (Str × List Str)}, (∀ c ∈ cs, Fct c) → PyData.canLayAll0 (cs.map facD) = true
  | [], _ => by simp [PyData.canLayAll0]
  | c :: cs, h => by
    rw [List.map_cons, PyData.canLayAll0, lay_fact (h c List.mem_cons_self), lay_facts fun d hd => h d (List.mem_cons_of_mem _ hd)]
    rfl
theorem depth_facts : ∀ cs : List (Str × List Str), PyData.depthAll (cs.map facD) ≤ 1
  | [] => by simp [PyData.depthAll]
  | c :: cs => by
    have a := depth_fact c
    have b := depth_facts cs
    rw [List.map_cons, PyData.depthAll]
    omega
theorem shaped_fact {c : Str × List Str} (h : Fct c) : SeqAt.shaped (facD c) = true := by
  unfold SeqAt.shaped
  rw [lay_fact h, Bool.true_and]
  exact decide_eq_true (Nat.le_trans (depth_fact c) (by decide))
theorem shaped_facts {cs : List (Str × List Str)} (h : ∀ c ∈ cs, Fct c) : SeqAt.shaped (.list (cs.map facD)) = true := by
  unfold SeqAt.shaped
  rw [PyData.canLay0, lay_facts h, Bool.true_and, PyData.depth]
  have := depth_facts cs
  exact decide_eq_true (by omega)
theorem dp_facts {K : PySem.W.Frag} {H : Hp} : ∀ {Fs : List Pt}, (∀ x ∈ Fs, H x.1 = some (.tup (ptV x))) → DpAll K H (Fs.map fun x => V.ref x.1) ((Fs.map (·.2)).map facD)
  | [], _ => .nil
  | x :: Fs, h => .cons (dp_fact (h x List.mem_cons_self)) (dp_facts fun y hy => h y (List.mem_cons_of_mem _ hy))
theorem any_fact (cs : List (Str × List Str)) (c : Str × List Str) : ((cs.map facD).any fun z => PyData.eqv z (facD c)) = decide (c ∈ cs) := by
  induction cs with
  | nil => rfl
  | cons d cs ih =>
    rw [List.map_cons, List.any_cons, ih, eqv_fact]
    by_cases e : d = c
    · simp [e]
    · have e2 : ¬ c = d := fun h => e h.symm
      simp [e, e2]
theorem joinL_signs {q : Nat → Prop} {s : Nat} (hs : q s) : ∀ X : List (List Nat), (∀ p ∈ X, ∀ c ∈ p, q c) → ∀ c ∈ joinL [s] X, q c
  | [], _, c, hc => nomatch hc
  | [p], hX, c, hc => hX p List.mem_cons_self c hc
  | p :: r :: X, hX, c, hc => by
    rw [joinL_cons _ _ (by simp), List.mem_append, List.mem_append] at hc
    rcases hc with hc | hc | hc
    · exact hX p List.mem_cons_self c hc
    · rw [List.mem_singleton.mp hc]
      exact hs
    · exact joinL_signs hs (r :: X) (fun p' hp => hX p' (List.mem_cons_of_mem _ hp)) c hc
def tkT (zs : List Str) : List (Int ⊕ List Nat) := keyToksAll (zs.map PyData.str)
theorem tkT_nil : tkT [] = [.inl 0] := by simp [tkT, keyToksAll]
theorem tkT_cons (z : Str) (zs : List Str) : tkT (z :: zs) = .inl 1 :: .inr z.cps.toList :: tkT zs := by simp [tkT, keyToksAll, keyToks]
theorem str_cps {a b : Str} (h : a.cps.toList = b.cps.toList) : a = b := by
  cases a
  cases b
  exact congrArg Str.mk (Array.toList_inj.mp h)
theorem tkT_inj : ∀ {m m' : List Str}, tkT m = tkT m' → m = m'
  | [], [], _ => rfl
  | [], p :: m', h => by
    rw [tkT_nil, tkT_cons] at h
    injection h with h1 h2
    exact absurd h1 (by decide)
  | p :: m, [], h => by
    rw [tkT_nil, tkT_cons] at h
    injection h with h1 h2
    exact absurd h1 (by decide)
  | p :: m, q :: m', h => by
    rw [tkT_cons, tkT_cons] at h
    injection h with _ h
    injection h with h1 h
    rw [tkT_inj h, str_cps (Sum.inr.inj h1)]
/-- a stands ahead of b -/
def ltF (a b : Str × List Str) : Bool := PyProof.Rows.lexLt itemOrd (tkT (a.1 :: a.2)) (tkT (b.1 :: b.2))
theorem toks_facD (c : Str × List Str) : keyToks (facD c) = tkT (c.1 :: c.2) := by
  unfold facD
  simp [tkT, keyToks]
theorem dataLt_facD (a b : Str × List Str) : dataLt (facD a) (facD b) = ltF a b := by
  show PyProof.Rows.lexLt itemOrd (keyToks (facD a)) (keyToks (facD b)) = _
  rw [toks_facD, toks_facD]
  rfl
theorem fle_eq (a b : Str × List Str) : fle a b = !ltF b a := by
  unfold fle
  rw [dataLt_facD]
theorem ltF_trans {a b c : Str × List Str} (x : ltF a b = true) (y : ltF b c = true) : ltF a c = true := lex_trans (O := itemOrd) _ _ _ x y
theorem ltF_irr (a : Str × List Str) : ltF a a = false := lex_irrefl (O := itemOrd) _
theorem ltF_asym {a b : Str × List Str} (x : ltF a b = true) : ltF b a = false := by
  cases e : ltF b a with
  | false => rfl
  | true =>
    have := ltF_trans x e
    rw [ltF_irr] at this
    cases this
theorem ltF_anti {a b : Str × List Str} (x : ltF a b = false) (y : ltF b a = false) : a = b := by
  have e := tkT_inj (lex_total (O := itemOrd) _ _ x y)
  injection e with e1 e2
  exact Prod.ext e1 e2
def Asc (cs : List (Str × List Str)) : Prop := cs.Pairwise fun a b => ltF a b = true
theorem Asc.nodup {cs : List (Str × List Str)} (h : Asc cs) : cs.Nodup := List.Pairwise.imp (fun {a b} q e => by
  rw [e, ltF_irr] at q
  cases q) h
theorem facD_ptM (x : Pt) : (ptM x).2.data = facD x.2 := data_ptM x
theorem asc_rise {Fs : List Pt} (n : (Fs.map (·.2)).Nodup) (r : Rise (fun x : Pt => facD x.2) Fs) : Asc (Fs.map (·.2)) := by
  have r2 : (Fs.map (·.2)).Pairwise fun a b => ltF b a = false := by
    rw [List.pairwise_map]
    refine List.Pairwise.imp (fun {a b} h => ?_) r
    have h' : (!dataLt (facD b.2) (facD a.2)) = true := h
    rw [dataLt_facD] at h'
    simpa using h'
  refine List.Pairwise.imp (fun {a b} h => ?_) (List.Pairwise.and n r2)
  obtain ⟨h1, h2⟩ := h
  cases e : ltF a b with
  | true => rfl
  | false => exact absurd (ltF_anti e h2) h1
theorem asc_riseM {M : List Pt} (n : (M.map (·.2)).Nodup) (r : Rise (fun x : Pt => (ptM x).2.data) M) : Asc (M.map (·.2)) := by
  refine asc_rise n ?_
  have e : (fun x : Pt => (ptM x).2.data) = fun x : Pt => facD x.2 := funext facD_ptM
  rw [← e]
  exact r
theorem asc_one {a b : List (Str × List Str)} (ha : Asc a) (hb : Asc b) (h : ∀ c, c ∈ a ↔ c ∈ b) : a = b :=
  List.Perm.eq_of_pairwise (le := fun x y => ltF x y = true) (fun x y _ _ p q => by
    have := ltF_asym p
    rw [q] at this
    cases this) ha hb ((List.perm_ext_iff_of_nodup ha.nodup hb.nodup).mpr h)
theorem eqvAll_facts : ∀ a b : List Fc, PyData.eqvAll (a.map facD) (b.map facD) = decide (a = b)
  | [], [] => by simp [PyData.eqvAll]
  | [], _ :: _ => by simp [PyData.eqvAll]
  | _ :: _, [] => by simp [PyData.eqvAll]
  | x :: a, y :: b => by
    rw [List.map_cons, List.map_cons, PyData.eqvAll, eqvAll_facts a b, eqv_fact]
    by_cases h : x = y
    · subst h
      simp
    · simp [h]
theorem eqv_list (a b : List Fc) : PyData.eqv (.list (a.map facD)) (.list (b.map facD)) = decide (a = b) := by
  rw [PyData.eqv, eqvAll_facts]
theorem eqv_tup (a b : List Fc) : PyData.eqv (.tuple (a.map facD)) (.tuple (b.map facD)) = decide (a = b) := by
  rw [PyData.eqv, eqvAll_facts]
theorem sh_tup {cs : List Fc} (h : ∀ c ∈ cs, Fct c) : SeqAt.shaped (.tuple (cs.map facD)) = true := by
  unfold SeqAt.shaped
  rw [PyData.canLay0, lay_facts h, Bool.true_and, PyData.depth]
  have := depth_facts cs
  exact decide_eq_true (by omega)
theorem lc_sift {α : Type} {J : It} {n : Nat} {G : Hp → Prop} {ms : List α} {val : α → V} (w : L2.Walk J n G (YAt (ms.map val))) (en : n = ms.length) {g : TG} {tt : TT} {te : TE} {vs : List Nat} {σ : St} {H1 : Hp} {D : Addr} {Qd : Hp → Prop} (p : α → Bool) (out : α → V)
    (nD : H1 D = none) (few : ms.length ≤ 100000) (hG : ∀ H, Same H1 H → G H)
    (hs : ∀ x ∈ ms, ∀ (H5 : Hp) (Yes : V → Hp → Prop) (No : Hp → Prop), Same H1 H5 → (∀ H4, Same H5 H4 → p x = true → Yes (out x) H4) → (∀ H4, Same H5 H4 → p x = false → No H4) →
      g (val x) (wipe σ vs) H5 fun σ2 H2 => wipe σ2 vs = wipe σ vs ∧ tt σ2 H2 fun b H3 => if b = true then te σ2 H3 Yes else No H3)
    (hd : ∀ H', Same H1 H' → H' D = some (.lst ((ms.filter p).map out)) → Qd H') :
    ∃ W : Nat → Nat → Hp → Prop, (∃ m, W 0 m (upd H1 D (.lst []))) ∧ ∀ i m H, W i m H →
      (J.stop i H ∧ Qd H) ∨ (J.go i H ∧ ∃ Nx : Hp → Prop, (∀ H', Nx H' → ∃ m', m' < m ∧ W (i + 1) m' H') ∧ ∀ x H', J.yld i H x H' → g x (wipe σ vs) H' fun σ2 H2 => wipe σ2 vs = wipe σ vs ∧ tt σ2 H2 fun b H3 =>
        if b = true then te σ2 H3 fun y H4 => ∃ acc, H4 D = some (.lst acc) ∧ acc.length < sizeLine ∧ Nx (upd H4 D (.lst (acc ++ [y]))) else Nx H3) := by
  subst en
  refine lc_it w (fun i H5 => Same H1 H5 ∧ H5 D = some (.lst (((ms.take i).filter p).map out))) ⟨same_new nD, upd_same⟩ (fun i H5 _ q => hG H5 q.1) (fun i z H5 H6 hi q y => ?_) (fun H5 q => ?_)
  · obtain ⟨rfl, hz⟩ := y
    obtain ⟨q1, q2⟩ := q
    rw [List.getElem?_map] at hz
    obtain ⟨x, hx, rfl⟩ := Option.map_eq_some_iff.mp hz
    have tk : ms.take (i + 1) = ms.take i ++ [x] := by
      rw [List.take_succ, hx]
      rfl
    refine hs x (List.mem_of_getElem? hx) H6 _ _ q1 (fun H4 s4 hp => ⟨_, s4 _ _ q2, ?_, ?_, ?_⟩) fun H4 s4 hp => ⟨?_, ?_⟩
    · rw [List.length_map, sizeLine_eq]
      have := List.length_filter_le p (ms.take i)
      rw [List.length_take] at this
      omega
    · intro b o h
      rw [upd_ne (ne_of_none h nD)]
      exact s4 _ _ (q1 _ _ h)
    · rw [upd_same, tk, List.filter_append, List.filter_cons_of_pos hp, List.filter_nil, List.map_append]
      rfl
    · intro b o h
      exact s4 _ _ (q1 _ _ h)
    · rw [tk, List.filter_append, List.filter_cons_of_neg (by rw [hp]; exact Bool.false_ne_true), List.filter_nil, List.append_nil]
      exact s4 _ _ q2
  · obtain ⟨q1, q2⟩ := q
    rw [List.take_length] at q2
    exact hd H5 q1 q2
end L2.LawH
set_option Elab.async false
set_option linter.all false
set_option maxRecDepth 100000
set_option maxHeartbeats 4000000
/-! Patterns and words (the texts of a node). -/
namespace L2.LawH
open PySem PySem.Spec PyProof.Rows TL L2.NSet PySem.W
def ptl (c : Fc) : List Nat := tl (ptext c.1 c.2)
def wrds (l : List Nat) : List Str := if l = [] then [] else (spl [32] 0 [] l).map fun x => (⟨x.toArray⟩ : Str)
def rdAll : List Str → Option (List Fc)
  | [] => some []
  | z :: r => (rdOk z).bind fun c => (rdAll r).map fun cs => c :: cs
/-! ### one pattern -/
theorem vr_of {z : Str} (h : varB z = true) : Vr z := by
  unfold varB at h
  rw [Bool.and_eq_true] at h
  obtain ⟨r, e⟩ := isV_head h.1
  refine ⟨⟨r.toArray⟩, ?_, ext_tl ?_⟩
  · show nmB (⟨r.toArray⟩ : Str).cps.toList = true
    have := h.2
    rw [e] at this
    simpa using this
  · rw [tl_append, tl_q]
    show z.cps.toList = _
    rw [e]
    simp [tl]
theorem fct_pat {a : Str} {ts : List Str} (h : patB (.str a :: ts.map V.str) = true) : Fct (a, ts) := by
  have bd := pat_bd h
  have h2 : (decide ((ts.map V.str).length ≤ 3) && vN (.str a) && (ts.map V.str).all fun y => vN y || vV y) = true := h
  rw [Bool.and_eq_true, Bool.and_eq_true] at h2
  refine ⟨h2.1.2, bd.2.1, fun z hz => ?_⟩
  have q := List.all_eq_true.mp h2.2 (.str z) (List.mem_map_of_mem hz)
  rw [Bool.or_eq_true] at q
  exact q.imp (fun q => q) fun q => vr_of q
theorem Fct.pg {c : Fc} (h : Fct c) : PatG c.1 c.2 := ⟨h.nT, h.l3, h.nz⟩
theorem rd_text {z : Str} {c : Fc} (h : rdOk z = some c) : ptext c.1 c.2 = z ∧ Fct c := by
  unfold rdOk cutP at h
  cases hp : par [40] [] (tl z) with
  | none =>
    rw [hp] at h
    cases h
  | some ab =>
    obtain ⟨a, b⟩ := ab
    rw [hp] at h
    dsimp only at h
    by_cases e : b.getLast? = some 41
    · rw [if_pos e] at h
      dsimp only at h
      by_cases pb : patB (.str ⟨a.toArray⟩ :: (terms ⟨b.dropLast.toArray⟩).map V.str) = true
      · rw [if_pos pb] at h
        obtain rfl := Option.some.inj h
        refine ⟨ext_tl ?_, fct_pat pb⟩
        obtain ⟨m, e1, e2, _⟩ := par_eq 40 _ _ _ _ hp
        rw [List.nil_append] at e1
        rw [ptext_tl, e2, e1]
        show m ++ 40 :: (b.dropLast ++ [41]) = _
        rcases last_cases b with hb | ⟨m2, c2, hb⟩
        · rw [hb] at e
          cases e
        · rw [hb] at e ⊢
          have : c2 = 41 := by simpa using e
          rw [this]
          simp
      · rw [if_neg pb] at h
        cases h
    · rw [if_neg e] at h
      cases h
theorem Fct.rd {c : Fc} (h : Fct c) : rdOk (ptext c.1 c.2) = some c := h.pg.read
abbrev Pln (x : Nat) : Prop := x ≠ 32 ∧ x ≠ 123 ∧ x ≠ 125 ∧ x < 0x110000
theorem sgn_pln {c : Nat} (h : isSgn c = true) : Pln c := by
  unfold isSgn isLet at h
  simp only [Bool.or_eq_true, Bool.and_eq_true, decide_eq_true_eq] at h
  exact ⟨by omega, by omega, by omega, by omega⟩
theorem tm_pln {z : Str} (h : Nm z ∨ Vr z) : ∀ c ∈ tl z, Pln c := by
  intro c hc
  rcases h with h | ⟨y, ny, rfl⟩
  · exact sgn_pln (chr_nm21 h c hc)
  · rw [tl_append, tl_q] at hc
    rcases List.mem_append.mp hc with hc | hc
    · rw [List.mem_singleton.mp hc]
      exact ⟨by decide, by decide, by decide, by decide⟩
    · exact sgn_pln (chr_nm21 ny c hc)
theorem ptl_pln {c : Fc} (h : Fct c) : ∀ x ∈ ptl c, Pln x := by
  intro x hx
  unfold ptl at hx
  rw [ptext_tl21] at hx
  rcases List.mem_append.mp hx with hx | hx
  · exact tm_pln (.inl h.nT) x hx
  · rcases List.mem_cons.mp hx with rfl | hx
    · exact ⟨by decide, by decide, by decide, by decide⟩
    · rcases List.mem_append.mp hx with hx | hx
      · rw [join_eq, tl_join, tl_com] at hx
        refine joinL_signs (q := Pln) ⟨by decide, by decide, by decide, by decide⟩ _ (fun p hp c hc => ?_) x hx
        obtain ⟨z, hz, rfl⟩ := List.mem_map.mp hp
        exact tm_pln (h.nz z hz) c hc
      · rw [List.mem_singleton.mp hx]
        exact ⟨by decide, by decide, by decide, by decide⟩
theorem ptl_ne (c : Fc) : ptl c ≠ [] := by
  unfold ptl
  rw [ptext_tl21]
  simp
theorem ptl_len {c : Fc} (h : Fct c) : (ptl c).length ≤ 57 := by
  have := h.pg.codes.2
  rw [len_tl] at this
  exact this
/-! ### lots -/
theorem map_ptl (cs : List Fc) : (cs.map fun c => ptext c.1 c.2).map tl = cs.map ptl := by
  rw [List.map_map]
  rfl
theorem joinL_ne {c : Fc} {cs : List Fc} : joinL [32] ((c :: cs).map ptl) ≠ [] := by
  cases cs with
  | nil => exact ptl_ne c
  | cons d cs =>
    rw [List.map_cons, joinL_cons _ _ (by simp)]
    have := ptl_ne c
    simp [this]
theorem joinL_pln {cs : List Fc} (h : ∀ c ∈ cs, Fct c) : ∀ x ∈ joinL [32] (cs.map ptl), x ≠ 123 ∧ x ≠ 125 ∧ x < 0x110000 := by
  refine joinL_signs (q := fun x => x ≠ 123 ∧ x ≠ 125 ∧ x < 0x110000) ⟨by decide, by decide, by decide⟩ _ fun p hp c hc => ?_
  obtain ⟨d, hd, rfl⟩ := List.mem_map.mp hp
  exact (ptl_pln (h d hd) c hc).2
theorem str_tl (x : List Nat) : tl (⟨x.toArray⟩ : Str) = x := by simp [tl]
theorem wrds_join {cs : List Fc} (h : ∀ c ∈ cs, Fct c) : wrds (joinL [32] (cs.map ptl)) = cs.map fun c => ptext c.1 c.2 := by
  cases cs with
  | nil => rfl
  | cons c cs =>
    unfold wrds
    rw [if_neg joinL_ne, spl_join (by simp) (fun p hp m => ?_)]
    · rw [List.map_map]
      refine List.map_congr_left fun d hd => ext_tl ?_
      show tl (⟨(ptl d).toArray⟩ : Str) = _
      rw [str_tl]
      rfl
    · obtain ⟨d, hd, rfl⟩ := List.mem_map.mp hp
      exact (ptl_pln (h d hd) 32 m).1 rfl
theorem join_wrds (l : List Nat) : joinL [32] ((wrds l).map tl) = l := by
  unfold wrds
  by_cases e : l = []
  · rw [if_pos e, e]
    rfl
  · rw [if_neg e, List.map_map]
    have : (spl [32] 0 [] l).map (tl ∘ fun x => (⟨x.toArray⟩ : Str)) = spl [32] 0 [] l := by
      conv => rhs; rw [← List.map_id (spl [32] 0 [] l)]
      exact List.map_congr_left fun x _ => str_tl x
    rw [this, join_spl]
    rfl
theorem rdAll_of : ∀ {cs : List Fc}, (∀ c ∈ cs, Fct c) → rdAll (cs.map fun c => ptext c.1 c.2) = some cs
  | [], _ => rfl
  | c :: cs, h => by
    rw [List.map_cons, rdAll, (h c List.mem_cons_self).rd, rdAll_of fun d hd => h d (List.mem_cons_of_mem _ hd)]
    rfl
theorem rdAll_some : ∀ {zs : List Str} {cs : List Fc}, rdAll zs = some cs → (zs = cs.map fun c => ptext c.1 c.2) ∧ ∀ c ∈ cs, Fct c
  | [], cs, h => by
    obtain rfl := Option.some.inj h
    exact ⟨rfl, fun _ m => nomatch m⟩
  | z :: zs, cs, h => by
    rw [rdAll] at h
    obtain ⟨c, hc, h⟩ := Option.bind_eq_some_iff.mp h
    obtain ⟨ds, hd, h⟩ := Option.map_eq_some_iff.mp h
    subst h
    obtain ⟨e1, f1⟩ := rd_text hc
    obtain ⟨e2, f2⟩ := rdAll_some hd
    refine ⟨by rw [List.map_cons, e1, ← e2], fun d hd => ?_⟩
    rcases List.mem_cons.mp hd with rfl | hd
    · exact f1
    · exact f2 d hd

end L2.LawH
set_option Elab.async false
set_option linter.all false
set_option maxRecDepth 100000
set_option maxHeartbeats 4000000
namespace L2.LstNo
open PySem PySem.Spec PyProof.Rows PySem.SeqAt AutoSeq1 MeetsSeq MeetsSeq2 MeetsSeq3
section
variable {P : Program} {w : World} {A : Around} {s : Shared}
theorem ne_sizes {l b : Addr} {xs ys : Array Value} (h1 : s.heap.IsList l xs) (h2 : s.heap.IsList b ys) (hz : xs.size ≠ ys.size) (hu : A.units + 8 < cLine)
    (E : Value → Shared → Prop) (Q : Value → Shared → Prop) (h : Q (.bool true) s) : wpAny (model P w) A (compareOp .NotEq (.ref l) (.ref b)) Q E s := by
  obtain ⟨⟨c1, d1, e1, s1⟩, ho1, hc1, n1, hd1⟩ := h1
  obtain ⟨⟨c2, d2, e2, s2⟩, ho2, hc2, n2, hd2⟩ := h2
  simp only at hc1 hd1 hc2 hd2
  subst hc1 hd1 hc2 hd2
  have ta : s.TypeIs (.ref l) "list" := ⟨_, ho1, rfl⟩
  have tb : s.TypeIs (.ref b) "list" := ⟨_, ho2, rfl⟩
  have whole : MeetsIn P w (Builtin.«list.__ne__» ⟨[.ref l, .ref b], []⟩) (fun A R s => s.heap.get? l = some { cls := .type "list", dict := d1, data := .seq xs n1, slots := s1 } ∧ s.heap.get? b = some { cls := .type "list", dict := d2, data := .seq ys n2, slots := s2 } ∧ R (.ok (.ret (.bool true))) s) := by
    rintro A R ⟨hp, g, d, tk, os⟩ ⟨hl, hb, h⟩
    have f3 := AutoSeq1.sub_list_list
    have hne : (xs.size != ys.size) = true := by simp [hz]
    wp_walk using wpAny_loadPart' hl, wpAny_loadPart' hb
    exact h
  exact wpAny_richCompare_same_room (op := .NotEq) ta tb F.slot_list_ne (call_meetsIn F.slot_list_ne ta F.entry_list_ne (F.args_list_ne_2 _ _) whole ⟨ho1, ho2, show Value.bool true ≠ Value.notImplemented ∧ Q (.bool true) s from ⟨(fun x => nomatch x), h⟩⟩) (by omega)
end
section
variable {X : Cx}
def rNeNil (K : PySem.W.Frag) : R2 := fun x y H Q => ∃ a b xs, x = .ref a ∧ y = .ref b ∧ SqL K H a xs ∧ SqL K H b [] ∧ Q (.bl (!xs.isEmpty)) H
theorem op_neNil (hu : X.A.units + 64 < cLine) : OpR X (compareOp .NotEq) (rNeNil X.K) := by
  intro pins s σ H x y v u Q I rx ry h
  obtain ⟨a, b, xs, rfl, rfl, ha, hb, q⟩ := h
  cases xs with
  | nil => exact op_neD hu pins s σ H _ _ v u Q I rx ry ⟨.list [], .list [], .lst ha .nil, .lst hb .nil, by decide, by decide, q⟩
  | cons x0 xs =>
    cases (show v = Value.ref a from rx)
    cases (show u = Value.ref b from ry)
    obtain ⟨us, r1, p1, _⟩ := I.list ha
    obtain ⟨ws, r2, p2, _⟩ := I.list hb
    refine ne_sizes (A := X.A) p1.isList p2.isList ?_ (by omega) X.xe (EP X pins σ Q) ⟨.bl true, H, I, rfl, q⟩
    rw [List.size_toArray, List.size_toArray, ← r1.length, ← r2.length]
    simp
end
theorem op_neNilK {X : Cx} {K : PySem.W.Frag} (e : X.K = K) (hu : X.A.units + 64 < cLine) : OpR X (compareOp .NotEq) (rNeNil K) := by
  subst e
  exact op_neNil hu
end L2.LstNo
set_option Elab.async false
set_option linter.all false
set_option maxRecDepth 100000
set_option maxHeartbeats 4000000
/-! The pool of three cells: draws. -/
namespace L2.LawH
open PySem PySem.Spec PyProof.Rows
open Builtin.Int (intBits)
abbrev sPool3 : Stmt := top 32
abbrev sDraw3 : Stmt := top 33
/-- all but a and r -/
def Off (a r : Addr) (H : Hp) : Hp := fun b => if b = a ∨ b = r then none else H b
theorem off_of {a r b : Addr} {H : Hp} (na : b ≠ a) (nr : b ≠ r) : Off a r H b = H b := if_neg fun z => z.elim na nr
theorem off_some {a r b : Addr} {H : Hp} {o : HO} (h : Off a r H b = some o) : H b = some o ∧ b ≠ a ∧ b ≠ r := by
  unfold Off at h
  by_cases c : b = a ∨ b = r
  · rw [if_pos c] at h
    cases h
  · rw [if_neg c] at h
    exact ⟨h, fun z => c (.inl z), fun z => c (.inr z)⟩
theorem off_le {a r : Addr} {H : Hp} : Same (Off a r H) H := fun _ _ e => (off_some e).1
abbrev Kp (a r : Addr) (H H' : Hp) : Prop := Same (Off a r H) (Off a r H')
theorem Kp.of {a r : Addr} {H H' : Hp} (s : Same H H') : Kp a r H H' := fun b o e => by
  obtain ⟨e, na, nr⟩ := off_some e
  rw [off_of na nr]
  exact s _ _ e
theorem Kp.rfl {a r : Addr} {H : Hp} : Kp a r H H := fun _ _ e => e
theorem kp_a {a r : Addr} {H : Hp} {o : HO} : Kp a r H (upd H a o) := fun b p e => by
  obtain ⟨e, na, nr⟩ := off_some e
  rw [off_of na nr, upd_ne na]
  exact e
theorem kp_r {a r : Addr} {H : Hp} {o : HO} : Kp a r H (upd H r o) := fun b p e => by
  obtain ⟨e, na, nr⟩ := off_some e
  rw [off_of na nr, upd_ne nr]
  exact e
/-- the pool at a, its numbers at r, with m draws still to be had -/
def DrwAt (a r : Addr) (m : Nat) (H : Hp) : Prop := ∃ (L : List Int) (s : Int) (n : Nat), H a = some (.lst [.ref r, .int s, .int n]) ∧ H r = some (.lst (L.map V.int)) ∧ a ≠ r ∧ n + m ≤ 1000000 ∧
  0 ≤ s ∧ s < 2147483629 ∧ L.length ≤ 63 ∧ ∀ z ∈ L, 0 ≤ z ∧ intBits z ≤ 1048576
theorem DrwAt.mono {a r : Addr} {H : Hp} {m m' : Nat} (h : DrwAt a r m H) (l : m' ≤ m) : DrwAt a r m' H := by
  obtain ⟨L, s, n, e1, e2, e3, e4, e5⟩ := h
  exact ⟨L, s, n, e1, e2, e3, by omega, e5⟩
theorem DrwAt.same {a r : Addr} {H H' : Hp} {m : Nat} (h : DrwAt a r m H) (s : Same H H') : DrwAt a r m H' := by
  obtain ⟨L, z, n, e1, e2, e3⟩ := h
  exact ⟨L, z, n, s _ _ e1, s _ _ e2, e3⟩
theorem DrwAt.ne {a r p : Addr} {H : Hp} {m : Nat} (h : DrwAt a r m H) (n : H p = none) : p ≠ a ∧ p ≠ r := by
  obtain ⟨L, z, k, e1, e2, _⟩ := h
  exact ⟨(ne_of_none e1 n).symm, (ne_of_none e2 n).symm⟩
theorem DrwAt.upd {a r p : Addr} {H H0 : Hp} {m : Nat} {o : HO} (h : DrwAt a r m H) (na : p ≠ a) (nr : p ≠ r) : DrwAt a r m (upd H p o) := by
  obtain ⟨L, z, k, e1, e2, e3⟩ := h
  exact ⟨L, z, k, by rw [upd_ne na.symm]; exact e1, by rw [upd_ne nr.symm]; exact e2, e3⟩
theorem fdiv_bits {z k : Int} (h0 : 0 ≤ z) (hk : 0 < k) (hb : intBits z ≤ 1048576) : 0 ≤ z.fdiv k ∧ intBits (z.fdiv k) ≤ 1048576 := by
  rw [Int.fdiv_eq_ediv_of_nonneg z (Int.le_of_lt hk)]
  have h1 : 0 ≤ z / k := Int.ediv_nonneg h0 (Int.le_of_lt hk)
  have h2 : z / k ≤ z := Int.ediv_le_self k h0
  refine ⟨h1, PySem.intBits_le_iff.mpr ?_⟩
  have h3 := PySem.intBits_le_iff.mp hb
  omega
theorem ix0 (n : Nat) (h : 0 < n) : ixN n 0 = some 0 := by
  unfold ixN
  simp [h]
def spPool3 (K : PySem.W.Frag) : Sp := fun vs H Q _ => ∃ (a : Addr) (ns : List Int), vs = [.ref a] ∧ SqL K H a (ns.map V.int) ∧ ns.length ≤ 63 ∧ (∀ z ∈ ns, intBits z ≤ 1048576) ∧
  ∀ p r H', Same H H' → H p = none → H r = none → DrwAt p r 1000000 H' → Q (.ref p) H'
def spDraw3 : Sp := fun vs H Q _ => ∃ (a r : Addr) (m : Nat) (k : Int), vs = [.ref a, .int k] ∧ DrwAt a r (m + 1) H ∧ 0 < k ∧ k ≤ 1000000 ∧
  ∀ (x : Int) (H' : Hp), 0 ≤ x → x < k → DrwAt a r m H' → Kp a r H H' → Q (.int x) H'
section
variable {P : Program} {w : World} {K : PySem.W.Frag} {mg : Str → Option Value} {base : Heap}
abbrev nPool3 : List Str := ["_law_script", "_law_seed", "_law_cell"]
theorem scPool3 : FnScope nPool3 ["_law_script"] (defScope sPool3) := ⟨rfl, rfl, rfl, by decide +kernel, rfl, by decide +kernel, by decide +kernel⟩
theorem ok_pool3 {f : Addr} {fd : FuncData} (F : Fun K "_law_pool" "_law_pool" sPool3 f fd) (mi : mg "int" = none) :
    FnOk P w K mg base CX0 1 f fd ["_law_script"] (spPool3 K) := by
  refine F.ok scPool3 (fun vs H Q E h => ?_) (fun cdv A outer s H vs Q E hr h => ?_)
  · obtain ⟨a, ns, rfl, _⟩ := h
    rfl
  · obtain ⟨a, ns, rfl, ha, ln, hb, k⟩ := h
    refine ⟨_, pss_cons (ps_set (i := 1) scPool3.nd rfl (Or.inl rfl) pe_int)
      (pss_cons (ps_for PassesOwn.never rfl (pi_list (pv 0)) (pg_name (i := 2) scPool3.nd rfl (Or.inl rfl))
        (pss_one (ps_set (i := 1) scPool3.nd rfl (Or.inl rfl) (pe_op op_modN (pe_callTy call_int1 (by rfl) mi (by decide +kernel) (pa_cons (pe_op op_add (pe_op op_mul (pv 1) pe_int) (pv 2)) pa_nil)) pe_int))))
      (pss_one (ps_ret (pe_lst (pa_cons (pe_lc (own := [("_law_cell", 2)]) (g := gName 2) (tt := tTest (tOp (rI0 fun i j => .bl (decide (j ≤ i))) (tVar 2) (tOp (rI CPow fun i j => .int (i ^ j.toNat)) (tC (.int 10)) (tC (.int 18))))) rfl scPool3.nd (pi_list (pv 0))
          (blkOk_by (own := [("_law_cell", 2)]) (N := nPool3) (sc := defScope sPool3) (by decide +kernel)) (fun _ _ _ _ _ => pg_name (i := 2) scPool3.nd rfl (Or.inl rfl)) (fun _ _ _ _ _ => pts_one (pt_cmpR op_ge (pv 2) (pe_op op_pow pe_int pe_int) (nomark _)))
          (fun _ _ _ _ _ => pv 2)) (pa_cons (pv 1) (pa_cons pe_int pa_nil))))))), ?_⟩
    refine ⟨_, rfl, _, rfl, ⟨_, ha⟩, for_list (K := K) (a := a) (xs := ns.map V.int) (fun i σ H1 => ∃ (s : Int) (v : Option V), σ = [some (.ref a), some (.int s), v] ∧ H1 = H ∧ 0 ≤ s ∧ s < 2147483629)
      ⟨1, none, rfl, rfl, by decide, by decide⟩ (fun i σ H1 _ h1 => ?_) (fun i x σ H1 hx h1 => ?_) (fun σ H1 h1 => ?_)⟩
    · obtain ⟨_, _, _, rfl, _⟩ := h1
      exact ha
    · obtain ⟨s, v, rfl, rfl, s0, s1⟩ := h1
      rw [List.getElem?_map] at hx
      cases ex : ns[i]? with
      | none =>
        rw [ex] at hx
        cases hx
      | some z =>
        rw [ex] at hx
        cases hx
        refine ⟨_, rfl, _, _, rfl, rfl, .inr ⟨by decide, by decide⟩, _, rfl, _, _, rfl, rfl, .inl ⟨_, rfl, _, _, rfl, rfl, (by show (2147483629 : Int) ≠ 0; decide), ?_⟩⟩
        exact ⟨_, _, rfl, rfl, (mod_pos (by decide)).1, (mod_pos (by decide)).2⟩
    · obtain ⟨s, v, rfl, rfl, s0, s1⟩ := h1
      refine ⟨_, rfl, a, rfl, ⟨_, ha⟩, fun D nD => ?_⟩
      refine lc_list (K := K) (a := a) (xs := ns.map V.int) (fun j H6 => Same H1 H6 ∧ H6 D = some (.lst (((ns.take j).filter fun z => decide (1000000000000000000 ≤ z)).map V.int)))
          ⟨same_new nD, upd_same⟩ (fun j H6 _ h6 => h6.1.seq ha) ?_ ?_
      · rintro j v H6 hj ⟨s6, hD2⟩
        rw [List.getElem?_map] at hj
        cases ex : ns[j]? with
        | none =>
          rw [ex] at hj
          cases hj
        | some q =>
          rw [ex] at hj
          cases hj
          refine ⟨rfl, _, rfl, _, _, rfl, rfl, ⟨by decide, by decide, by decide⟩, _, _, rfl, rfl, _, rfl, ?_⟩
          rw [List.take_add_one, ex, List.filter_append]
          have e10 : ((10 : Int) ^ (18 : Int).toNat) = 1000000000000000000 := by decide
          rw [e10]
          by_cases c : (1000000000000000000 : Int) ≤ q
          · rw [decide_eq_true c]
            refine iteT ⟨_, rfl, _, hD2, ?_, fun b o e => ?_, ?_⟩
            · rw [List.length_map]
              refine Nat.lt_of_le_of_lt (List.length_filter_le _ _) ?_
              rw [List.length_take, sizeLine_eq]
              omega
            · rw [upd_ne (ne_of_none e nD)]
              exact s6 b o e
            · rw [upd_same]
              simp [c]
          · rw [decide_eq_false c]
            refine iteF ⟨s6, ?_⟩
            rw [hD2]
            simp [c]
      · rintro H6 ⟨s6, hD2⟩
        rw [List.length_map, List.take_length] at hD2
        refine ⟨_, rfl, (by show 3 ≤ sizeLine; decide), fun p np => ?_⟩
        have u1 : Same H6 (upd H6 p (.lst [.ref D, .int s, .int 0])) := same_new np
        have e1 : (upd H6 p (.lst [.ref D, .int s, .int 0])) p = some (.lst [.ref D, .int s, .int 0]) := upd_same
        have npH : H1 p = none := none_of s6 np
        refine k p D _ (s6.trans u1) npH nD ⟨_, s, 0, e1, u1 _ _ hD2, ?_, by decide, s0, s1, ?_, ?_⟩
        · rintro rfl
          rw [np] at hD2
          cases hD2
        · exact Nat.le_trans (List.length_filter_le _ _) ln
        · intro z hz
          obtain ⟨m1, m2⟩ := List.mem_filter.mp hz
          have := of_decide_eq_true m2
          exact ⟨by omega, hb z m1⟩
abbrev nDraw3 : List Str := ["_law_pool_here", "_law_limit", "_law_rest", "_law_value", "_law_first", "_law_second"]
theorem scDraw3 : FnScope nDraw3 ["_law_pool_here", "_law_limit"] (defScope sDraw3) := ⟨rfl, rfl, rfl, by decide +kernel, rfl, by decide +kernel, by decide +kernel⟩
theorem ok_draw3 {f : Addr} {fd : FuncData} (F : Fun K "_law_draw" "_law_draw" sDraw3 f fd) (mi : mg "int" = none) :
    FnOk P w K mg base CX0 1 f fd ["_law_pool_here", "_law_limit"] spDraw3 := by
  refine F.ok scDraw3 (fun vs H Q E h => ?_) (fun cdv A outer s H vs Q E hr h => ?_)
  · obtain ⟨a, c, n, m, rfl, _⟩ := h
    rfl
  · obtain ⟨a, r, fu, m, rfl, ⟨L, sd, n, ha, hr', nar, hn, s0, s1, lL, hL⟩, m0, m1, k⟩ := h
    have hu := hr.units
    refine ⟨_, pss_cons (ps_set (i := 2) scDraw3.nd rfl (Or.inl rfl) (pe_ix ix_list (pv 0) pe_int (fun _ _ => rfl)))
      (pss_cons (ps_if (pt_cmpR (L2.LstNo.op_neNilK (K := K) rfl hu) (pv 2) (pe_lst pa_nil) (nomark _))
        (pss_cons (ps_set (i := 3) scDraw3.nd rfl (Or.inl rfl) (pe_op op_modN (pe_callTy call_int1 (by rfl) mi (by decide +kernel) (pa_cons (pe_ix ix_list (pv 2) pe_int (fun _ _ => rfl)) pa_nil)) (pv 1)))
        (pss_cons (ps_asg (pe_op op_fdivN (pe_ix ix_list (pv 2) pe_int (fun _ _ => rfl)) (pv 1)) (pg_sub (pv 2) pe_int set_list))
        (pss_cons (ps_if (pt_cmpR op_eq (pe_ix ix_list (pv 2) pe_int (fun _ _ => rfl)) pe_int (nomark _))
          (pss_one (ps_expr (pe_bm PySem.F.plainAttrs_list PySem.F.slot_list_pop PySem.F.type_list_pop mt_popAt (pv 2) (pa_cons pe_int pa_nil)))) pss_nil)
        (pss_one (ps_ret (pv 3)))))) pss_nil)
      (pss_cons (ps_asg (pe_op op_add (pe_ix ix_list (pv 0) pe_int (fun _ _ => rfl)) pe_int) (pg_sub (pv 0) pe_int set_list))
      (pss_cons (ps_set (i := 4) scDraw3.nd rfl (Or.inl rfl) (pe_op op_modN (pe_op op_powB (pe_callTy call_int1 (by rfl) mi (by decide +kernel) (pa_cons (pe_op op_add (pe_ix ix_list (pv 0) pe_int (fun _ _ => rfl)) (pe_op op_mul pe_int (pe_ix ix_list (pv 0) pe_int (fun _ _ => rfl)))) pa_nil)) pe_int) pe_int))
      (pss_cons (ps_set (i := 5) scDraw3.nd rfl (Or.inl rfl) (pe_op op_modN (pe_callTy call_int1 (by rfl) mi (by decide +kernel) (pa_cons (pe_op op_add (pe_op op_mul (pv 4) pe_int) (pe_ix ix_list (pv 0) pe_int (fun _ _ => rfl))) pa_nil)) pe_int))
      (pss_one (ps_ret (pe_op op_modN (pe_op op_fdivN (pe_callTy call_int1 (by rfl) mi (by decide +kernel) (pa_cons (pv 5) pa_nil)) pe_int) (pv 1)))))))), ?_⟩
    refine ⟨_, rfl, a, _, _, _, rfl, rfl, SqL.of ha, rfl, ?_⟩
    refine ⟨_, rfl, (by show 0 ≤ sizeLine; decide), fun p np => ?_⟩
    have u1 : Same H (upd H p (.lst [])) := same_new np
    have cp : (upd H p (.lst [])) p = some (.lst []) := upd_same
    generalize upd H p (.lst []) = H1 at u1 cp ⊢
    have kp1 : Kp a r H H1 := Kp.of u1
    have ha1 := u1 _ _ ha
    have hr1 := u1 _ _ hr'
    refine ⟨r, p, _, rfl, rfl, SqL.of hr1, SqL.of cp, _, rfl, ?_⟩
    cases L with
    | cons z L =>
      obtain ⟨z0, zb⟩ := hL z List.mem_cons_self
      refine iteT ?_
      refine ⟨_, rfl, r, _, _, _, rfl, rfl, SqL.of hr1, atI_nat (j := 0) rfl, .inl ⟨_, rfl, ?_⟩⟩
      refine ⟨_, rfl, _, _, rfl, rfl, by omega, ?_⟩
      refine ⟨_, rfl, r, _, _, _, rfl, rfl, SqL.of hr1, atI_nat (j := 0) rfl, _, rfl, _, _, rfl, rfl, ⟨by omega, by omega⟩, _, rfl, r, _, _, 0, rfl, rfl, hr1, ix0 _ (by simp), ?_⟩
      have q := fdiv_bits z0 m0 zb
      have e9 : (upd H1 r (.lst ((List.map V.int (z :: L)).set 0 (.int (z.fdiv m))))) r = some (.lst ((z.fdiv m :: L).map V.int)) := upd_same
      have o9 : ∀ b, b ≠ r → (upd H1 r (.lst ((List.map V.int (z :: L)).set 0 (.int (z.fdiv m))))) b = H1 b := fun b nb => upd_ne nb
      dsimp only
      generalize upd H1 r (.lst ((List.map V.int (z :: L)).set 0 (.int (z.fdiv m)))) = H3 at e9 o9 ⊢
      generalize z.fdiv m = z' at q e9 ⊢
      refine ⟨_, rfl, r, _, _, _, rfl, rfl, SqL.of e9, atI_nat (j := 0) rfl, rfl, _, rfl, ?_⟩
      have hh : ∀ (L' : List Int) (H' : Hp), H' r = some (.lst (L'.map V.int)) → (∀ b, b ≠ r → H' b = H1 b) → L'.length ≤ 63 → (∀ z ∈ L', 0 ≤ z ∧ intBits z ≤ 1048576) → Q (.int (z.fmod m)) H' := fun L' H' e1 e2 e3 e4 => by
        refine k _ _ (mod_pos m0).1 (mod_pos m0).2 ⟨L', sd, n, by rw [e2 a nar]; exact ha1, e1, nar, by omega, s0, s1, e3, e4⟩ (kp1.trans fun b o e => ?_)
        obtain ⟨e, na, nr⟩ := off_some e
        rw [off_of na nr, e2 b nr]
        exact e
      refine ite2 (fun h0 => ?_) (fun h0 => ?_)
      · refine ⟨_, rfl, .inl ⟨rfl, _, .inl (.inl e9)⟩, r, _, 0, 0, _, rfl, rfl, e9, by decide, by decide, by simp [seqIndex?], rfl, _, rfl, ?_⟩
        refine hh L _ upd_same (fun b nb => by rw [upd_ne nb, o9 b nb]) (by rw [List.length_cons] at lL; omega) fun y hy => hL y (List.mem_cons_of_mem _ hy)
      · refine ⟨_, rfl, ?_⟩
        refine hh (z' :: L) _ e9 o9 lL fun y hy => ?_
        rcases List.mem_cons.mp hy with rfl | hy
        · exact q
        · exact hL y (List.mem_cons_of_mem _ hy)
    | nil =>
      refine iteF ?_
      refine ⟨_, rfl, a, _, _, _, rfl, rfl, SqL.of ha1, rfl, _, _, rfl, rfl, _, rfl, a, _, _, _, rfl, rfl, ha1, rfl, ?_⟩
      generalize hH2 : upd H1 a _ = H2
      have ha2 : H2 a = some (.lst [.ref r, .int sd, .int ((n + 1 : Nat) : Int)]) := by
        rw [← hH2, upd_same]
        rfl
      refine ⟨_, rfl, a, _, _, _, rfl, rfl, SqL.of ha2, rfl, _, rfl, a, _, _, _, rfl, rfl, SqL.of ha2, rfl, _, _, rfl, rfl, .inr ⟨by omega, by omega⟩, _, _, rfl, rfl, .inl ⟨_, rfl, ?_⟩⟩
      refine ⟨_, _, rfl, rfl, ⟨by decide, ?_⟩, _, _, rfl, rfl, (by show (2147483647 : Int) ≠ 0; decide), ?_⟩
      · have sb : intBits (sd + 7927 * ((n + 1 : Nat) : Int)) ≤ 60 := small_bits (by omega) (by omega)
        have e : (2 : Int) ^ 27 = 134217728 := by decide
        rw [e]
        omega
      have b1 := fun x : Int => mod_pos (x := x) (y := 2147483647) (by decide)
      refine ⟨_, rfl, _, _, rfl, rfl, .inr ⟨by decide, by decide⟩, _, rfl, a, _, _, _, rfl, rfl, SqL.of ha2, rfl, _, _, rfl, rfl, .inl ⟨_, rfl, _, _, rfl, rfl, (by show (2147483629 : Int) ≠ 0; decide), ?_⟩⟩
      refine ⟨_, rfl, .inl ⟨_, rfl, _, _, rfl, rfl, ⟨by decide, by decide⟩, _, rfl, _, _, rfl, rfl, by omega, ?_⟩⟩
      refine k _ _ (mod_pos m0).1 (mod_pos m0).2 ⟨[], sd, n + 1, ha2, ?_, nar, by omega, s0, s1, by decide, fun _ z => by cases z⟩ (kp1.trans ?_)
      · rw [← hH2, upd_ne nar.symm]
        exact hr1
      · rw [← hH2]
        exact kp_a
end
end L2.LawH
set_option Elab.async false
set_option linter.all false
set_option maxRecDepth 100000
set_option maxHeartbeats 4000000
/-! The pool of three cells: words. -/
namespace L2.LawH
open PySem PySem.Spec PyProof.Rows TL
open Builtin.Int (intBits)
abbrev sWord : Stmt := top 34
abbrev sWords : Stmt := top 35
abbrev sgS : Str := Str.ofString "abcdefghijklmnopqrstuvwxyz0123456789"
theorem sg_all : sgS.cps.toList.all isSgn = true := by decide +kernel
theorem sg_len : sgS.cps.toList.length = 36 := by decide +kernel
theorem sg_let : (sgS.cps.toList.take 26).all isLet = true := by decide +kernel
theorem sg_at {r : Int} (h0 : 0 ≤ r) (h1 : r < 36) : ∃ c, atI sgS.cps.toList r = some c ∧ isSgn c = true := pick sg_all sg_len h0 h1
theorem sg_at26 {r : Int} (h0 : 0 ≤ r) (h1 : r < 26) : ∃ c, atI sgS.cps.toList r = some c ∧ isLet c = true := by
  obtain ⟨j, rfl⟩ : ∃ j : Nat, r = j := ⟨r.toNat, by omega⟩
  have hj : j < sgS.cps.toList.length := by rw [sg_len]; omega
  refine ⟨_, atI_nat (List.getElem?_eq_getElem hj), List.all_eq_true.mp sg_let _ ?_⟩
  have : j < (sgS.cps.toList.take 26).length := by rw [List.length_take, sg_len]; omega
  have q := List.getElem_mem this
  rwa [List.getElem_take] at q
theorem joinL_nil (X : List (List Nat)) : joinL [] X = X.flatten := by
  induction X with
  | nil => rfl
  | cons p r ih =>
    cases r with
    | nil => show p = _; simp
    | cons q r =>
      rw [joinL_cons [] p (by simp), ih]
      simp
/-- signs joined by nothing -/
theorem join_signs (cs : List Nat) : tl (Txt.join (Str.ofString "") (cs.map fun c => (⟨#[c]⟩ : Str))) = cs := by
  rw [join_eq, tl_join]
  have e : tl (Str.ofString "") = [] := by decide +kernel
  rw [e, joinL_nil, List.map_map]
  induction cs with
  | nil => rfl
  | cons c r ih =>
    rw [List.map_cons, List.flatten_cons, ih]
    rfl
theorem join_signs_len (cs : List Nat) : ((cs.map fun c => (⟨#[c]⟩ : Str)).map (·.length)).sum = cs.length := by
  induction cs with
  | nil => rfl
  | cons c r ih =>
    rw [List.map_cons, List.map_cons, List.sum_cons, ih, List.length_cons]
    show 1 + _ = _
    omega
def spWord : Sp := fun vs H Q _ => ∃ (a r : Addr) (m : Nat), vs = [.ref a] ∧ DrwAt a r (m + 13) H ∧ ∀ (z : Str) (H' : Hp), Nm z → DrwAt a r m H' → Kp a r H H' → Q (.str z) H'
def spWords : Sp := fun vs H Q _ => ∃ (a r : Addr) (m cn : Nat), vs = [.ref a, .int cn] ∧ cn ≤ 12 ∧ DrwAt a r (m + 13 * cn) H ∧
  ∀ (p : Addr) (L : List Str) (H' : Hp), L.length = cn → (∀ z ∈ L, Nm z) → L.Nodup → H p = none → H' p = some (.lst (L.map V.str)) → DrwAt a r m H' → Kp a r H H' → Q (.ref p) H'
/-- what was made while all but the pool stayed is outside the pool -/
theorem kp_at {a r b : Addr} {H H' : Hp} {o : HO} (k : Kp a r H H') (e : H b = some o) (na : b ≠ a) (nr : b ≠ r) : H' b = some o := off_le _ _ (k _ _ (by rw [off_of na nr]; exact e))
theorem kp_upd_new {a r p : Addr} {H H' : Hp} {o : HO} (k : Kp a r H H') (n : H p = none) : Kp a r H (upd H' p o) := fun b u e => by
  obtain ⟨e1, na, nr⟩ := off_some e
  have q := k _ _ e
  rw [off_of na nr] at q ⊢
  rw [upd_ne (ne_of_none e1 n)]
  exact q
section
variable {P : Program} {w : World} {K : PySem.W.Frag} {mg : Str → Option Value} {base : Heap}
abbrev nWord : List Str := ["_law_pool_here", "_law_signs", "_law_size", "_law_k"]
theorem scWord : FnScope nWord ["_law_pool_here"] (defScope sWord) := ⟨rfl, rfl, rfl, by decide +kernel, rfl, by decide +kernel, by decide +kernel⟩
theorem ok_word {f fD : Addr} {fd fdD : FuncData} (F : Fun K "_law_word" "_law_word" sWord f fd)
    (GD : FnOk P w K mg base CX0 1 fD fdD ["_law_pool_here", "_law_limit"] spDraw3) (kD : PySem.W.keepIn K (.ref fD) = true) (bD : Binds K fdD ["_law_pool_here", "_law_limit"] []) (mD : mg "_law_draw" = some (.ref fD))
    (mr : mg "range" = none) : FnOk P w K mg base CX0 2 f fd ["_law_pool_here"] spWord := by
  refine F.ok scWord (fun vs H Q E h => ?_) (fun cdv A outer s H vs Q E hr h => ?_)
  · obtain ⟨a, r, m, rfl, _⟩ := h
    rfl
  · obtain ⟨a, r, m, rfl, hs, k⟩ := h
    have hr1 : Room 1 _ := hr.mono (by decide)
    refine ⟨_, pss_cons (ps_set (i := 1) scWord.nd rfl (Or.inr rfl) pe_str)
      (pss_cons (ps_set (i := 2) scWord.nd rfl (Or.inl rfl) (pe_ix ix_list (pe_lst (pa_cons pe_int (pa_cons pe_int (pa_cons pe_int (pa_cons pe_int (pa_cons pe_int pa_nil)))))) (pe_call GD hr1 (by rfl) mD kD bD .nil pass0 (pa_cons (pv 0) (pa_cons pe_int pa_nil))) (fun _ _ => rfl)))
      (pss_one (ps_ret (pe_op op_add_str (pe_ix ix_str (pv 1) (pe_call GD hr1 (by rfl) mD kD bD .nil pass0 (pa_cons (pv 0) (pa_cons pe_int pa_nil))) (fun _ _ => rfl))
        (pe_join pe_str (pe_lc (own := [("_law_k", 3)]) (g := gName 3) (tt := tYes) rfl scWord.nd (pi_range1 (by rfl) mr (pa_cons (pv 2) pa_nil))
          (blkOk_by (own := [("_law_k", 3)]) (N := nWord) (sc := defScope sWord) (by decide +kernel)) (fun _ _ _ _ _ => pg_name (i := 3) scWord.nd rfl (Or.inl rfl)) (fun _ _ _ _ _ => pts_nil)
          (fun _ _ _ _ _ => pe_ix ix_str (pv 1) (pe_call GD hr1 (by rfl) mD kD bD .nil pass0 (pa_cons (pv 0) (pa_cons pe_int pa_nil))) (fun _ _ => rfl)))))))), ?_⟩
    refine ⟨(by show 5 ≤ sizeLine; decide), fun p1 n1 => ?_⟩
    have u1 := same_new (o := .lst [V.int 0, V.int 0, V.int 1, V.int 2, V.int 11]) n1
    have z1 := hs.ne n1
    refine ⟨_, rfl, a, r, m + 12, 5, rfl, hs.same u1, by decide, by decide, fun r1 H1 r10 r11 s1 k1 => ?_⟩
    have hl := kp_at k1 upd_same z1.1 z1.2
    have size : ∃ sz : Nat, atI [V.int 0, V.int 0, V.int 1, V.int 2, V.int 11] r1 = some (.int sz) ∧ sz ≤ 11 := by
      obtain ⟨j, rfl⟩ : ∃ j : Nat, r1 = j := ⟨r1.toNat, by omega⟩
      have hj : j = 0 ∨ j = 1 ∨ j = 2 ∨ j = 3 ∨ j = 4 := by omega
      rcases hj with rfl | rfl | rfl | rfl | rfl
      · exact ⟨0, atI_nat (j := 0) rfl, by decide⟩
      · exact ⟨0, atI_nat (j := 1) rfl, by decide⟩
      · exact ⟨1, atI_nat (j := 2) rfl, by decide⟩
      · exact ⟨2, atI_nat (j := 3) rfl, by decide⟩
      · exact ⟨11, atI_nat (j := 4) rfl, by decide⟩
    obtain ⟨sz, esz, hsz⟩ := size
    have k01 : Kp a r H H1 := (Kp.of u1).trans k1
    refine ⟨p1, _, _, _, rfl, rfl, SqL.of hl, esz, ?_⟩
    refine ⟨_, rfl, _, rfl, a, r, m + 11, 26, rfl, s1, by decide, by decide, fun r2 H2 r20 r21 s2 k2 => ?_⟩
    obtain ⟨c0, ec0, lc0⟩ := sg_at26 r20 r21
    refine ⟨_, _, _, rfl, rfl, (by decide +kernel), ec0, ?_⟩
    refine ⟨⟨_, rfl⟩, _, rfl, _, rfl, by omega, by omega, fun D nD => ?_⟩
    rw [Int.toNat_natCast]
    have zD := s2.ne nD
    have k02 := k01.trans k2
    refine lc_range (lo := 0) (n := sz) (fun i H5 => ∃ cs : List Nat, cs.length = i ∧ cs.all isSgn = true ∧ H5 D = some (.lst ((cs.map fun c => (⟨#[c]⟩ : Str)).map V.str)) ∧ DrwAt a r (m + 11 - i) H5 ∧ Kp a r H2 H5)
      ⟨[], rfl, rfl, upd_same, (s2.same (same_new nD)).mono (by omega), Kp.of (same_new nD)⟩ ?_ ?_
    · rintro i H5 hi ⟨cs, lc, hc, hD, s5, k5⟩
      refine ⟨rfl, ?_⟩
      dsimp only [tYes]
      rw [if_pos rfl]
      have s5' : DrwAt a r (m + 11 - (i + 1) + 1) H5 := s5.mono (by omega)
      refine ⟨_, rfl, _, rfl, a, r, m + 11 - (i + 1), 36, rfl, s5', by decide, by decide, fun r3 H6 r30 r31 s6 k6 => ?_⟩
      obtain ⟨c, ec, lc'⟩ := sg_at r30 r31
      refine ⟨_, _, _, rfl, rfl, (by decide +kernel), ec, ?_⟩
      refine ⟨_, kp_at k6 hD zD.1 zD.2, ?_, cs ++ [c], by simp [lc], ?_, by rw [upd_same]; simp, s6.upd (H0 := H) zD.1 zD.2, kp_upd_new (k5.trans k6) nD⟩
      · rw [List.length_map, List.length_map, lc, sizeLine_eq]
        omega
      · rw [List.all_append, hc]
        simp [lc']
    · rintro H5 ⟨cs, lc, hc, hD, s5, k5⟩
      refine ⟨_, D, _, rfl, rfl, .inl (SqL.of hD), ?_, ?_⟩
      · rw [join_signs_len, lc]
        have e : (Str.ofString "").length = 0 := by decide +kernel
        rw [e]
        omega
      · have hlen : (Txt.join (Str.ofString "") (cs.map fun c => (⟨#[c]⟩ : Str))).length = cs.length := by rw [len_tl, join_signs]
        refine ⟨_, _, rfl, rfl, ?_, k _ _ ?_ (s5.mono (by omega)) (k02.trans k5)⟩
        · rw [hlen, lc, sizeLine_eq]
          show 1 + sz ≤ _
          omega
        · show nmB (tl ((⟨#[c0]⟩ : Str) ++ _)) = true
          rw [tl_append, join_signs]
          show nmB (c0 :: cs) = true
          simp only [nmB, lc0, hc, lc, Bool.true_and, decide_eq_true_eq]
          omega
abbrev nWords : List Str := ["_law_pool_here", "_law_many", "_law_found", "_law_k", "_law_word_here", "_law_one", "_law_j"]
theorem scWords : FnScope nWords ["_law_pool_here", "_law_many"] (defScope sWords) := ⟨rfl, rfl, rfl, by decide +kernel, rfl, by decide +kernel, by decide +kernel⟩
theorem ok_words {f fN : Addr} {fd fdN : FuncData} (F : Fun K "_law_words" "_law_words" sWords f fd) (GN : FnOk P w K mg base CX0 2 fN fdN ["_law_pool_here"] spWord)
    (kN : PySem.W.keepIn K (.ref fN) = true) (bN : Binds K fdN ["_law_pool_here"] []) (mN : mg "_law_word" = some (.ref fN)) (mr : mg "range" = none) (ms : mg "str" = none) :
    FnOk P w K mg base CX0 3 f fd ["_law_pool_here", "_law_many"] spWords := by
  refine F.ok scWords (fun vs H Q E h => ?_) (fun cdv A outer s H vs Q E hr h => ?_)
  · obtain ⟨a, r, m, cn, rfl, _⟩ := h
    rfl
  · obtain ⟨a, r, m, cn, rfl, hcn, hs, k⟩ := h
    have hr2 : Room 2 _ := hr.mono (by decide)
    refine ⟨_, pss_cons (ps_set (i := 2) scWords.nd rfl (Or.inr rfl) (pe_lst pa_nil))
      (pss_cons (ps_for PassesOwn.never rfl (pi_range1 rfl mr (pa_cons (pv 1) pa_nil)) (pg_name (i := 3) scWords.nd rfl (Or.inl rfl))
        (pss_cons (ps_set (i := 4) scWords.nd rfl (Or.inl rfl) (pe_call GN hr2 (by rfl) mN kN bN .nil pass0 (pa_cons (pv 0) pa_nil)))
        (pss_cons (ps_if (PW.pt (pw_or (pt_cmpR op_in_seq (pv 4) (pv 2) (by rfl)) (pw_or1 (pt_cmpR op_eq (pe_slice sl_str (pv 4) po_none (po_some pe_int)) pe_str (nomark _)))))
          (pss_one (ps_set (i := 4) scWords.nd rfl (Or.inl rfl) (pe_ix ix_list (pe_lc (own := [("_law_one", 5)]) (g := gName 5) (tt := tTest (tOp (rIn K true) (tVar 5) (tVar 2))) rfl scWords.nd
            (pi_list (pe_lc (own := [("_law_j", 6)]) (g := gName 6) (tt := tYes) rfl scWords.nd (pi_range1 rfl mr (pa_cons (pe_op op_add (pv 1) pe_int) pa_nil))
              (blkOk_by (own := [("_law_j", 6)]) (N := nWords) (sc := defScope sWords) (by decide +kernel))
              (fun _ _ _ _ _ => pg_name (i := 6) scWords.nd rfl (Or.inl rfl)) (fun _ _ _ _ _ => pts_nil)
              (fun _ _ _ _ _ => pe_op op_add_str pe_str (pe_callTy call_str_int (by rfl) ms (by decide +kernel) (pa_cons (pv 6) pa_nil)))))
            (blkOk_by (own := [("_law_one", 5)]) (N := nWords) (sc := defScope sWords) (by decide +kernel))
            (fun _ _ _ _ _ => pg_name (i := 5) scWords.nd rfl (Or.inl rfl)) (fun _ _ _ _ _ => pts_one (pt_cmpR (op_notInK rfl) (pv 5) (pv 2) (by rfl))) (fun _ _ _ _ _ => pv 5)) pe_int (fun _ _ => rfl)))) pss_nil)
        (pss_one (ps_expr (pe_bm PySem.F.plainAttrs_list PySem.F.slot_list_append PySem.F.type_list_append mt_append (pv 2) (pa_cons (pv 4) pa_nil)))))))
      (pss_one (ps_ret (pv 2)))), ?_⟩
    refine ⟨(by show 0 ≤ sizeLine; decide), fun p np => ?_⟩
    have pa := hs.ne np
    refine ⟨_, rfl, _, rfl, by omega, by omega, for_range (lo := 0) (n := (cn : Int).toNat) (fun i σ H3 => ∃ (L : List Str) (v3 v4 v5 v6 : Option V), σ = [some (.ref a), some (.int cn), some (.ref p), v3, v4, v5, v6] ∧
      L.length = i ∧ (∀ z ∈ L, Nm z) ∧ L.Nodup ∧ H3 p = some (.lst (L.map V.str)) ∧ DrwAt a r (m + 13 * (cn - i)) H3 ∧ Kp a r H H3)
      ⟨[], none, none, none, none, rfl, rfl, fun _ z => (by cases z), List.nodup_nil, upd_same, (hs.same (same_new np)).mono (by omega), Kp.of (same_new np)⟩ ?_ ?_⟩
    · rintro i σ H3 hi ⟨L, v3, v4, v5, v6, rfl, hl, hnm, hnd, h3, s3, k3⟩
      rw [Int.toNat_natCast] at hi
      have s3' : DrwAt a r (m + 13 * (cn - (i + 1)) + 13) H3 := s3.mono (by omega)
      refine ⟨_, rfl, a, r, m + 13 * (cn - (i + 1)), rfl, s3', fun z H4 nz s4 k4 => ?_⟩
      have h4 := kp_at k4 h3 pa.1 pa.2
      have few : (L.map V.str).length < sizeLine := by
        rw [List.length_map, sizeLine_eq]
        omega
      have fin : ∀ (t : Str) (H6 : Hp) (w5 w6 : Option V), Same H4 H6 → Nm t → t ∉ L → ∃ (L' : List Str) (w3 w4 w5' w6' : Option V), [some (.ref a), some (.int cn), some (.ref p), some (V.int (0 + (i : Int))), some (.str t), w5, w6] = [some (.ref a), some (.int cn), some (.ref p), w3, w4, w5', w6'] ∧
          L'.length = i + 1 ∧ (∀ z ∈ L', Nm z) ∧ L'.Nodup ∧ (upd H6 p (.lst (L.map V.str ++ [V.str t]))) p = some (.lst (L'.map V.str)) ∧ DrwAt a r (m + 13 * (cn - (i + 1))) (upd H6 p (.lst (L.map V.str ++ [V.str t]))) ∧ Kp a r H (upd H6 p (.lst (L.map V.str ++ [V.str t]))) := by
        intro t H6 w5 w6 s46 nt ft
        refine ⟨L ++ [t], _, _, _, _, rfl, by simp [hl], fun y hy => ?_, ?_, by rw [upd_same]; simp, (s4.same s46).upd (H0 := H) pa.1 pa.2, kp_upd_new ((k3.trans k4).trans (Kp.of s46)) np⟩
        · rcases List.mem_append.mp hy with hy | hy
          · exact hnm y hy
          · have : y = t := by simpa using hy
            rw [this]
            exact nt
        · rw [List.nodup_append]
          refine ⟨hnd, by simp, fun x hx y hy e => ?_⟩
          have : y = t := by simpa using hy
          rw [e, this] at hx
          exact ft hx
      refine ⟨_, rfl, _, rfl, p, _, rfl, .inl (SqL.of h4), rfl, flat_strs L, ?_⟩
      have eI : (if false = true then !inV (V.str z) (L.map V.str) else inV (V.str z) (L.map V.str)) = decide (z ∈ L) := by
        rw [if_neg (by decide), inV_strs]
      have lz : z.length ≤ sizeLine := by
        have := (nm_sgns nz).2.1
        rw [length_toList] at this
        rw [sizeLine_eq]
        omega
      refine ⟨_, rfl, ?_⟩
      rw [eI]
      refine ite2 (fun h1 => ?_) (fun h1 => ⟨_, rfl, 3, rfl, z, rfl, lz, rfl, _, rfl, ite2 (fun h2 => ?_) (fun h2 => ?fin)⟩)
      case fin => exact ⟨_, rfl, .inl ⟨rfl, _, .inl (.inl h4)⟩, _, rfl, p, _, _, rfl, rfl, h4, few, fin z H4 _ _ (fun _ _ e => e) nz (fun e => h1 (decide_eq_true e))⟩
      all_goals
        refine ⟨_, rfl, _, _, rfl, rfl, _, rfl, by omega, by omega, fun D nD => ?_⟩
        have tn : ((cn : Int) + 1).toNat = cn + 1 := by omega
        rw [tn]
        refine lc_range (lo := 0) (n := cn + 1) (fun j H5 => Same H4 H5 ∧ H5 D = some (.lst (((qs (cn + 1)).take j).map V.str))) ⟨same_new nD, upd_same⟩ ?_ ?_
        · rintro j H5 hj ⟨s5, hD⟩
          refine ⟨rfl, ?_⟩
          dsimp only [tYes]
          rw [if_pos rfl]
          have e0 : (0 : Int) + (j : Int) = (j : Int) := by omega
          rw [e0]
          have l3 : (Str.ofString "k" ++ ((toString (j : Int) : String) : Str)).length ≤ 3 := qn_len (j := j) (by omega)
          have lsum : (Str.ofString "k").length + ((toString (j : Int) : String) : Str).length ≤ sizeLine := by
            have e1 : (Str.ofString "k" ++ ((toString (j : Int) : String) : Str)).length = (Str.ofString "k").length + ((toString (j : Int) : String) : Str).length := by
              rw [← length_toList, toList_append, List.length_append, length_toList, length_toList]
            rw [e1] at l3
            rw [sizeLine_eq]
            omega
          have lg : ((j : Int)).natAbs.log2 < 1920 := by
            have : ((j : Int)).natAbs < 2 ^ 11 := by
              have e2 : (2 : Nat) ^ 11 = 2048 := by decide
              rw [e2]
              omega
            have h9 : ((j : Int)).natAbs.log2 ≤ 11 := by
              by_cases z : ((j : Int)).natAbs = 0
              · rw [z]
                decide
              · exact Nat.le_of_lt ((Nat.log2_lt z).mpr this)
            omega
          refine ⟨_, rfl, _, rfl, lg, _, _, rfl, rfl, lsum, _, hD, ?_, fun b o e => ?_, ?_⟩
          · rw [List.length_map, List.length_take, qs_len]
            refine Nat.lt_of_le_of_lt (Nat.min_le_right _ _) ?_
            rw [sizeLine_eq]
            omega
          · rw [upd_ne (ne_of_none e nD)]
            exact s5 b o e
          · rw [upd_same, List.take_add_one, qs_get hj]
            simp [qn]
        · rintro H5 ⟨s5, hD⟩
          have hD' : H5 D = some (.lst ((qs (cn + 1)).map V.str)) := by
            rw [hD, List.take_of_length_le (by rw [qs_len]; exact Nat.le_refl _)]
          have h5 := s5 _ _ h4
          refine ⟨D, rfl, ⟨_, SqL.of hD'⟩, fun D2 nD2 => ?_⟩
          refine lc_list (K := K) (a := D) (xs := (qs (cn + 1)).map V.str) (fun j H6 => Same H5 H6 ∧ H6 D2 = some (.lst ((((qs (cn + 1)).take j).filter (free L)).map V.str)))
            ⟨same_new nD2, upd_same⟩ (fun j H6 _ h6 => h6.1.seq (SqL.of hD')) ?_ ?_
          · rintro j v H6 hj ⟨s6, hD2⟩
            rw [List.getElem?_map] at hj
            cases eb : (qs (cn + 1))[j]? with
            | none =>
              rw [eb] at hj
              cases hj
            | some q =>
              rw [eb] at hj
              cases hj
              have h6 := s6 _ _ h5
              refine ⟨rfl, _, rfl, _, rfl, p, _, rfl, .inl (SqL.of h6), rfl, flat_strs L, _, rfl, ?_⟩
              rw [List.take_add_one, eb, List.filter_append]
              have e2 : (if true = true then !inV (V.str q) (L.map V.str) else inV (V.str q) (L.map V.str)) = free L q := by
                rw [if_pos rfl, inV_strs]
                rfl
              rw [e2]
              cases ef : free L q with
              | true =>
                refine iteT ?_
                refine ⟨_, rfl, _, hD2, ?_, fun b o e => ?_, ?_⟩
                · rw [List.length_map]
                  refine Nat.lt_of_le_of_lt (List.length_filter_le _ _) ?_
                  rw [List.length_take, qs_len, sizeLine_eq]
                  omega
                · rw [upd_ne (ne_of_none e nD2)]
                  exact s6 b o e
                · rw [upd_same]
                  simp [ef]
              | false =>
                refine iteF ?_
                refine ⟨s6, ?_⟩
                rw [hD2]
                simp [ef]
          · rintro H6 ⟨s6, hD2⟩
            have hD2' : H6 D2 = some (.lst (((qs (cn + 1)).filter (free L)).map V.str)) := by
              rw [hD2, List.length_map, List.take_of_length_le (Nat.le_refl _)]
            have h6 := s6 _ _ h5
            obtain ⟨q, r', eq, nq, fq⟩ := some_free (L := L) (n := cn + 1) (by omega) (by omega)
            refine ⟨D2, _, 0, .str q, rfl, rfl, SqL.of hD2', ?_, _, rfl, .inl ⟨rfl, _, .inl (.inl h6)⟩, _, rfl, p, _, _, rfl, rfl, h6, few, ?_⟩
            · rw [eq]
              exact atI_nat (j := 0) rfl
            · exact fin q H6 _ _ (s5.trans s6) nq fq
    · rintro σ H3 ⟨L, v3, v4, v5, v6, rfl, hl, hnm, hnd, h3, s3, k3⟩
      rw [Int.toNat_natCast] at hl
      exact ⟨_, rfl, k p L H3 hl hnm hnd np h3 (s3.mono (by omega)) k3⟩
end
end L2.LawH
set_option Elab.async false
set_option linter.all false
set_option maxRecDepth 100000
set_option maxHeartbeats 4000000
/-! The pool of three cells: tables, constants and variables; patterns. -/
namespace L2.LawH
open PySem PySem.Spec PyProof.Rows TL
open Builtin.Int (intBits)
abbrev sWorld : Stmt := top 36
abbrev sPat3 : Stmt := top 37
structure Wld where
  T : List (Addr × Str × Nat)
  C : List Str
  W : List Str
structure WldOk (ω : Wld) : Prop where
  lT : ω.T.length = 5
  lC : ω.C.length = 4
  lW : ω.W.length = 12
  nT : ∀ x ∈ ω.T, Nm x.2.1 ∧ x.2.2 ≤ 3
  nC : ∀ z ∈ ω.C, Nm z
  nW : ∀ z ∈ ω.W, Vr z
  ndC : ω.C.Nodup
  ndW : ω.W.Nodup
  pos : 4 ≤ (ω.T.filter fun x => decide (0 < x.2.2)).length
/-- tables, constants, variables at p -/
def WldAt (H : Hp) (p : Addr) (ω : Wld) : Prop := ∃ t c v : Addr, H p = some (.tup [.ref t, .ref c, .ref v]) ∧ H t = some (.lst (ω.T.map fun x => V.ref x.1)) ∧
  H c = some (.lst (ω.C.map V.str)) ∧ H v = some (.lst (ω.W.map V.str)) ∧ ∀ x ∈ ω.T, H x.1 = some (.tup [.str x.2.1, .int (x.2.2 : Nat)])
theorem WldAt.same {H H' : Hp} {p : Addr} {ω : Wld} (h : WldAt H p ω) (s : Same H H') : WldAt H' p ω := by
  obtain ⟨t, c, v, h1, h2, h3, h4, h5⟩ := h
  exact ⟨t, c, v, s _ _ h1, s _ _ h2, s _ _ h3, s _ _ h4, fun x m => s _ _ (h5 x m)⟩
theorem off_new {a r p : Addr} {H : Hp} {m : Nat} {o : HO} (s : DrwAt a r m H) (n : H p = none) : Off a r (upd H p o) p = some o := by
  rw [off_of (s.ne n).1 (s.ne n).2, upd_same]
theorem kp_none {a r p : Addr} {H H' : Hp} (k : Kp a r H H') (n : H' p = none) (na : p ≠ a) (nr : p ≠ r) : H p = none := by
  cases e : H p with
  | none => rfl
  | some o =>
    rw [kp_at k e na nr] at n
    cases n
abbrev tl' (x : Str) : List Nat := x.cps.toList
theorem tl_inj {x y : Str} (h : tl x = tl y) : x = y := ext_tl h
theorem three {L : List Str} (h : L.length = 3) : ∃ x y z, L = [x, y, z] := by
  match L, h with
  | [x, y, z], _ => exact ⟨x, y, z, rfl⟩
def spWorld : Sp := fun vs H Q _ => ∃ (a r : Addr) (m : Nat), vs = [.ref a] ∧ DrwAt a r (m + 248) H ∧
  ∀ (p : Addr) (ω : Wld) (H' : Hp), WldAt (Off a r H') p ω → WldOk ω → DrwAt a r m H' → Kp a r H H' → Q (.ref p) H'
def spPat3 (K : PySem.W.Frag) : Sp := fun vs H Q _ => ∃ (a r p q : Addr) (m : Nat) (ω : Wld) (O : List Str), vs = [.ref a, .ref p, .ref q] ∧ DrwAt a r (m + 7) H ∧ WldAt (Off a r H) p ω ∧ WldOk ω ∧
  Off a r H q = some (.lst (O.map V.str)) ∧ O.length ≤ 1000 ∧ (∀ z ∈ O, Vr z) ∧
  ∀ (t : Addr) (T : Str) (zs : List Str) (H' : Hp), Off a r H' t = some (.tup (.str T :: zs.map V.str)) → H t = none → PatG T zs → (∀ z ∈ zs, Nm z ∨ z ∈ O) → DrwAt a r m H' → Kp a r H H' → Q (.ref t) H'
section
variable {P : Program} {w : World} {K : PySem.W.Frag} {mg : Str → Option Value} {base : Heap}
abbrev nWorld : List Str := ["_law_pool_here", "_law_names", "_law_tables", "_law_word_here"]
theorem scWorld : FnScope nWorld ["_law_pool_here"] (defScope sWorld) := ⟨rfl, rfl, rfl, by decide +kernel, rfl, by decide +kernel, by decide +kernel⟩
theorem ok_world {f fD fN : Addr} {fd fdD fdN : FuncData} (F : Fun K "_law_world" "_law_world" sWorld f fd)
    (GD : FnOk P w K mg base CX0 1 fD fdD ["_law_pool_here", "_law_limit"] spDraw3) (kD : PySem.W.keepIn K (.ref fD) = true) (bD : Binds K fdD ["_law_pool_here", "_law_limit"] []) (mD : mg "_law_draw" = some (.ref fD))
    (GN : FnOk P w K mg base CX0 3 fN fdN ["_law_pool_here", "_law_many"] spWords) (kN : PySem.W.keepIn K (.ref fN) = true) (bN : Binds K fdN ["_law_pool_here", "_law_many"] []) (mN : mg "_law_words" = some (.ref fN)) :
    FnOk P w K mg base CX0 4 f fd ["_law_pool_here"] spWorld := by
  refine F.ok scWorld (fun vs H Q E h => ?_) (fun cdv A outer s H vs Q E hr h => ?_)
  · obtain ⟨a, r, m, rfl, _⟩ := h
    rfl
  · obtain ⟨a, r, m, rfl, hs, k⟩ := h
    have hr1 : Room 1 _ := hr.mono (by decide)
    have hr3 : Room 3 _ := hr.mono (by decide)
    refine ⟨_, pss_cons (ps_set (i := 1) scWorld.nd rfl (Or.inl rfl) (pe_call GN hr3 (by rfl) mN kN bN .nil pass0 (pa_cons (pv 0) (pa_cons pe_int pa_nil))))
      (pss_cons (ps_set (i := 2) scWorld.nd rfl (Or.inl rfl) (pe_lst (pa_cons (pe_tup (pa_cons (pe_ix ix_list (pv 1) pe_int (fun _ _ => rfl)) (pa_cons pe_int pa_nil)))
        (pa_cons (pe_tup (pa_cons (pe_ix ix_list (pv 1) pe_int (fun _ _ => rfl)) (pa_cons pe_int pa_nil)))
        (pa_cons (pe_tup (pa_cons (pe_ix ix_list (pv 1) pe_int (fun _ _ => rfl)) (pa_cons (pe_call GD hr1 (by rfl) mD kD bD .nil pass0 (pa_cons (pv 0) (pa_cons pe_int pa_nil))) pa_nil)))
        (pa_cons (pe_tup (pa_cons (pe_ix ix_list (pv 1) pe_int (fun _ _ => rfl)) (pa_cons pe_int pa_nil)))
        (pa_cons (pe_tup (pa_cons (pe_ix ix_list (pv 1) pe_int (fun _ _ => rfl)) (pa_cons pe_int pa_nil))) pa_nil)))))))
      (pss_one (ps_ret (pe_tup (pa_cons (pv 2) (pa_cons (pe_call GN hr3 (by rfl) mN kN bN .nil pass0 (pa_cons (pv 0) (pa_cons pe_int pa_nil)))
        (pa_cons (pe_lc (own := [("_law_word_here", 3)]) (g := gName 3) (tt := tYes) rfl scWorld.nd (pi_list (pe_call GN hr3 (by rfl) mN kN bN .nil pass0 (pa_cons (pv 0) (pa_cons pe_int pa_nil))))
          (blkOk_by (own := [("_law_word_here", 3)]) (N := nWorld) (sc := defScope sWorld) (by decide +kernel)) (fun _ _ _ _ _ => pg_name (i := 3) scWorld.nd rfl (Or.inl rfl)) (fun _ _ _ _ _ => pts_nil)
          (fun _ _ _ _ _ => pe_op op_add_str pe_str (pv 3))) pa_nil))))))), ?_⟩
    refine ⟨_, rfl, a, r, m + 209, 3, rfl, by decide, hs, fun pn L H1 lL nmL ndL npn h1 s1 k1 => ?_⟩
    obtain ⟨n0, n1, n2, rfl⟩ := three lL
    have o1 : Off a r H1 pn = some (.lst [.str n0, .str n1, .str n2]) := by
      rw [off_of (hs.ne npn).1 (hs.ne npn).2]
      exact h1
    -- the tables
    refine ⟨_, rfl, pn, _, 0, _, rfl, rfl, SqL.of h1, rfl, (by show 2 ≤ sizeLine; decide), fun t1 nt1 => ?_⟩
    have u1 : Same H1 (upd H1 t1 (.tup [.str n0, .int 1])) := same_new nt1
    have c1 : (upd H1 t1 (.tup [.str n0, .int 1])) t1 = some (.tup [.str n0, .int 1]) := upd_same
    generalize upd H1 t1 (.tup [.str n0, .int 1]) = H2 at u1 c1 ⊢
    have s2 := s1.same u1
    have f1 : Off a r H2 t1 = some (.tup [.str n0, .int 1]) := by rw [off_of (s1.ne nt1).1 (s1.ne nt1).2]; exact c1
    have h2 := u1 _ _ h1
    refine ⟨_, rfl, pn, _, 1, _, rfl, rfl, SqL.of h2, rfl, (by show 2 ≤ sizeLine; decide), fun t2 nt2 => ?_⟩
    have u2 : Same H2 (upd H2 t2 (.tup [.str n1, .int 2])) := same_new nt2
    have c2 : (upd H2 t2 (.tup [.str n1, .int 2])) t2 = some (.tup [.str n1, .int 2]) := upd_same
    generalize upd H2 t2 (.tup [.str n1, .int 2]) = H3 at u2 c2 ⊢
    have s3 := s2.same u2
    have f2 : Off a r H3 t2 = some (.tup [.str n1, .int 2]) := by rw [off_of (s2.ne nt2).1 (s2.ne nt2).2]; exact c2
    have h3 := u2 _ _ h2
    refine ⟨_, rfl, pn, _, 2, _, rfl, rfl, SqL.of h3, rfl, _, rfl, a, r, m + 208, 4, rfl, s3, by decide, by decide, fun x H4 x0 x1 s4 k4 => ?_⟩
    obtain ⟨j, rfl⟩ : ∃ j : Nat, x = j := ⟨x.toNat, by omega⟩
    have h4 := kp_at k4 h3 (hs.ne npn).1 (hs.ne npn).2
    refine ⟨(by show 2 ≤ sizeLine; decide), fun t3 nt3 => ?_⟩
    have u4 : Same H4 (upd H4 t3 (.tup [.str n2, .int (j : Nat)])) := same_new nt3
    have c4 : (upd H4 t3 (.tup [.str n2, .int (j : Nat)])) t3 = some (.tup [.str n2, .int (j : Nat)]) := upd_same
    generalize upd H4 t3 (.tup [.str n2, .int (j : Nat)]) = H5 at u4 c4 ⊢
    have s5 := s4.same u4
    have f3 : Off a r H5 t3 = some (.tup [.str n2, .int (j : Nat)]) := by rw [off_of (s4.ne nt3).1 (s4.ne nt3).2]; exact c4
    have h5 := u4 _ _ h4
    refine ⟨_, rfl, pn, _, 0, _, rfl, rfl, SqL.of h5, rfl, (by show 2 ≤ sizeLine; decide), fun t4 nt4 => ?_⟩
    have u5 : Same H5 (upd H5 t4 (.tup [.str n0, .int 2])) := same_new nt4
    have c5 : (upd H5 t4 (.tup [.str n0, .int 2])) t4 = some (.tup [.str n0, .int 2]) := upd_same
    generalize upd H5 t4 (.tup [.str n0, .int 2]) = H6 at u5 c5 ⊢
    have s6 := s5.same u5
    have f4 : Off a r H6 t4 = some (.tup [.str n0, .int 2]) := by rw [off_of (s5.ne nt4).1 (s5.ne nt4).2]; exact c5
    have h6 := u5 _ _ h5
    refine ⟨_, rfl, pn, _, 1, _, rfl, rfl, SqL.of h6, rfl, (by show 2 ≤ sizeLine; decide), fun t5 nt5 => ?_⟩
    have u6 : Same H6 (upd H6 t5 (.tup [.str n1, .int 3])) := same_new nt5
    have c6 : (upd H6 t5 (.tup [.str n1, .int 3])) t5 = some (.tup [.str n1, .int 3]) := upd_same
    generalize upd H6 t5 (.tup [.str n1, .int 3]) = H7 at u6 c6 ⊢
    have s7 := s6.same u6
    have f5 : Off a r H7 t5 = some (.tup [.str n1, .int 3]) := by rw [off_of (s6.ne nt5).1 (s6.ne nt5).2]; exact c6
    refine ⟨(by show 5 ≤ sizeLine; decide), fun tl nl => ?_⟩
    have u7 : Same H7 (upd H7 tl (.lst [.ref t1, .ref t2, .ref t3, .ref t4, .ref t5])) := same_new nl
    have c7 : (upd H7 tl (.lst [.ref t1, .ref t2, .ref t3, .ref t4, .ref t5])) tl = some (.lst [.ref t1, .ref t2, .ref t3, .ref t4, .ref t5]) := upd_same
    generalize upd H7 tl (.lst [.ref t1, .ref t2, .ref t3, .ref t4, .ref t5]) = H8 at u7 c7 ⊢
    have s8 := s7.same u7
    have f6 : Off a r H8 tl = some (.lst [.ref t1, .ref t2, .ref t3, .ref t4, .ref t5]) := by rw [off_of (s7.ne nl).1 (s7.ne nl).2]; exact c7
    have k7 : Kp a r H7 H8 := Kp.of u7
    have k6 : Kp a r H6 H8 := (Kp.of u6).trans k7
    have k5 : Kp a r H5 H8 := (Kp.of u5).trans k6
    have k3 : Kp a r H3 H8 := (k4.trans (Kp.of u4)).trans k5
    have k2 : Kp a r H2 H8 := (Kp.of u2).trans k3
    have k08 : Kp a r H H8 := (k1.trans (Kp.of u1)).trans k2
    -- the constants and the variables
    refine ⟨_, rfl, _, rfl, a, r, m + 156, 4, rfl, by decide, s8, fun pc C H9 lC nmC ndC npc h9 s9 k9 => ?_⟩
    have f7 : Off a r H9 pc = some (.lst (C.map V.str)) := by rw [off_of (s8.ne npc).1 (s8.ne npc).2]; exact h9
    refine ⟨_, rfl, a, r, m, 12, rfl, by decide, s9, fun pw W H10 lW nmW ndW npw h10 s10 k10 => ?_⟩
    refine ⟨pw, rfl, ⟨_, SqL.of h10⟩, fun D nD => ?_⟩
    have zD := s10.ne nD
    refine lc_list (K := K) (a := pw) (xs := W.map V.str) (fun j H6 => Same H10 H6 ∧ H6 D = some (.lst (((W.take j).map fun y => Str.ofString "?" ++ y).map V.str)))
      ⟨same_new nD, upd_same⟩ (fun j H6 _ h6 => h6.1.seq (SqL.of h10)) ?_ ?_
    · rintro j v H11 hj ⟨s11, hD⟩
      rw [List.getElem?_map] at hj
      cases eb : W[j]? with
      | none =>
        rw [eb] at hj
        cases hj
      | some q =>
        rw [eb] at hj
        cases hj
        refine ⟨rfl, ?_⟩
        dsimp only [tYes]
        rw [if_pos rfl]
        have lq := (nm_sgns (nmW q (List.mem_of_getElem? eb))).2.1
        rw [length_toList] at lq
        refine ⟨_, rfl, _, _, rfl, rfl, ?_, _, hD, ?_, fun b o e => ?_, ?_⟩
        · have e : (Str.ofString "?").length = 1 := by decide +kernel
          rw [e, sizeLine_eq]
          omega
        · rw [List.length_map, List.length_map, List.length_take, sizeLine_eq]
          omega
        · rw [upd_ne (ne_of_none e nD)]
          exact s11 b o e
        · rw [upd_same, List.take_add_one, eb]
          simp
    · rintro H11 ⟨s11, hD⟩
      rw [List.length_map, List.take_length] at hD
      refine ⟨(by show 3 ≤ sizeLine; decide), fun p np => ?_⟩
      have s11' := s10.same s11
      have u12 : Same H11 (upd H11 p (.tup [.ref tl, .ref pc, .ref D])) := same_new np
      have c12 : (upd H11 p (.tup [.ref tl, .ref pc, .ref D])) p = some (.tup [.ref tl, .ref pc, .ref D]) := upd_same
      generalize upd H11 p (.tup [.ref tl, .ref pc, .ref D]) = H12 at u12 c12 ⊢
      have k11 : Kp a r H10 H12 := (Kp.of s11).trans (Kp.of u12)
      have k912 : Kp a r H9 H12 := k10.trans k11
      have k812 : Kp a r H8 H12 := k9.trans k912
      refine k p ⟨[(t1, n0, 1), (t2, n1, 2), (t3, n2, j), (t4, n0, 2), (t5, n1, 3)], C, W.map fun y => Str.ofString "?" ++ y⟩ H12 ⟨tl, pc, D, ?_, k812 _ _ f6, k912 _ _ f7, ?_, ?_⟩ ⟨rfl, lC, by rw [List.length_map]; exact lW, ?_, nmC, ?_, ndC, ?_, ?_⟩ ((s11'.same u12).mono (by omega)) (k08.trans k812)
      · rw [off_of (s11'.ne np).1 (s11'.ne np).2]
        exact c12
      · rw [off_of zD.1 zD.2]
        exact u12 _ _ hD
      · intro x hx
        simp only [List.mem_cons, List.not_mem_nil, or_false] at hx
        rcases hx with rfl | rfl | rfl | rfl | rfl
        · exact k812 _ _ (k2 _ _ f1)
        · exact k812 _ _ (k3 _ _ f2)
        · exact k812 _ _ (k5 _ _ f3)
        · exact k812 _ _ (k6 _ _ f4)
        · exact k812 _ _ (k7 _ _ f5)
      · have m0 := nmL n0 (by simp)
        have m1 := nmL n1 (by simp)
        have m2 := nmL n2 (by simp)
        intro x hx
        simp only [List.mem_cons, List.not_mem_nil, or_false] at hx
        rcases hx with rfl | rfl | rfl | rfl | rfl
        · exact ⟨m0, Nat.le_of_ble_eq_true rfl⟩
        · exact ⟨m1, Nat.le_of_ble_eq_true rfl⟩
        · exact ⟨m2, by show j ≤ 3; omega⟩
        · exact ⟨m0, Nat.le_of_ble_eq_true rfl⟩
        · exact ⟨m1, Nat.le_of_ble_eq_true rfl⟩
      · intro z hz
        obtain ⟨y, hy, rfl⟩ := List.mem_map.mp hz
        exact ⟨y, nmW y hy, rfl⟩
      · refine List.pairwise_map.mpr (ndW.imp fun {x y} n e => n (tl_inj ?_))
        have := congrArg tl' e
        simpa [tl', tl_append] using this
      · show 4 ≤ (List.filter (fun x => decide (0 < x.2.2)) [(t1, n0, 1), (t2, n1, 2), (t3, n2, j), (t4, n0, 2), (t5, n1, 3)]).length
        by_cases hj : 0 < j
        · simp [List.filter, hj]
        · simp [List.filter, hj]
abbrev nPat3 : List Str := ["_law_pool_here", "_law_world_here", "_law_own", "_law_table", "_law_size", "_law_terms", "_law_k"]
abbrev pPat3 : List Str := ["_law_pool_here", "_law_world_here", "_law_own"]
theorem scPat3 : FnScope nPat3 pPat3 (defScope sPat3) := ⟨rfl, rfl, rfl, by decide +kernel, rfl, by decide +kernel, by decide +kernel⟩
theorem ok_pat3 {f fD : Addr} {fd fdD : FuncData} (F : Fun K "_law_pattern" "_law_pattern" sPat3 f fd)
    (GD : FnOk P w K mg base CX0 1 fD fdD ["_law_pool_here", "_law_limit"] spDraw3) (kD : PySem.W.keepIn K (.ref fD) = true) (bD : Binds K fdD ["_law_pool_here", "_law_limit"] []) (mD : mg "_law_draw" = some (.ref fD))
    (ml : mg "len" = none) (mr : mg "range" = none) (mt : mg "tuple" = none) : FnOk P w K mg base CX0 2 f fd pPat3 (spPat3 K) := by
  refine F.ok scPat3 (fun vs H Q E h => ?_) (fun cdv A outer s H vs Q E hr h => ?_)
  · obtain ⟨a, r, p, q, m, ω, O, rfl, _⟩ := h
    rfl
  · obtain ⟨a, r, p, q, m, ω, O, rfl, hs, hw, ok, hO, lO, nO, k⟩ := h
    have hr1 : Room 1 _ := hr.mono (by decide)
    have hu := hr.units
    refine ⟨_, pss_cons (ps_asg (pe_ix ix_list (pe_ix ix_tup (pv 1) pe_int (fun _ _ => rfl)) (pe_call GD hr1 (by rfl) mD kD bD .nil pass0 (pa_cons (pv 0) (pa_cons pe_int pa_nil))) (fun _ _ => rfl))
        (pg_tup (by rfl) (pgs_cons (pg_name (i := 3) scPat3.nd rfl (Or.inl rfl)) (pgs_cons (pg_name (i := 4) scPat3.nd rfl (Or.inl rfl)) pgs_nil))))
      (pss_cons (ps_set (i := 5) scPat3.nd rfl (Or.inl rfl) (pe_lst pa_nil))
      (pss_cons (ps_for PassesOwn.never rfl (pi_range1 (by rfl) mr (pa_cons (pv 4) pa_nil)) (pg_name (i := 6) scPat3.nd rfl (Or.inl rfl))
        (pss_one (ps_if (PW.pt (pw_and (pt_cmpR (L2.LstNo.op_neNilK (K := K) rfl hu) (pv 2) (pe_lst pa_nil) (nomark _)) (pw_and1 (pt_cmpR op_gt (pe_call GD hr1 (by rfl) mD kD bD .nil pass0 (pa_cons (pv 0) (pa_cons pe_int pa_nil))) pe_int (nomark _)))))
          (pss_one (ps_expr (pe_bm PySem.F.plainAttrs_list PySem.F.slot_list_append PySem.F.type_list_append mt_append (pv 5) (pa_cons (pe_ix ix_list (pv 2) (pe_call GD hr1 (by rfl) mD kD bD .nil pass0 (pa_cons (pv 0) (pa_cons (pe_callB call_len_seq (by rfl) ml (by decide +kernel) (pa_cons (pv 2) pa_nil)) pa_nil))) (fun _ _ => rfl)) pa_nil))))
          (pss_one (ps_expr (pe_bm PySem.F.plainAttrs_list PySem.F.slot_list_append PySem.F.type_list_append mt_append (pv 5) (pa_cons (pe_ix ix_list (pe_ix ix_tup (pv 1) pe_int (fun _ _ => rfl)) (pe_call GD hr1 (by rfl) mD kD bD .nil pass0 (pa_cons (pv 0) (pa_cons pe_int pa_nil))) (fun _ _ => rfl)) pa_nil)))))))
      (pss_one (ps_ret (pe_op op_catB (pe_tup (pa_cons (pv 3) pa_nil)) (pe_callTy call_tuple_of (by rfl) mt (by decide +kernel) (pa_cons (pv 5) pa_nil))))))), ?_⟩
    obtain ⟨t, c, v, h1, h2, h3, h4, h5⟩ := hw
    refine ⟨_, rfl, p, _, 0, _, rfl, rfl, SqT.of (off_le _ _ h1), rfl, _, rfl, a, r, m + 6, 5, rfl, hs, by decide, by decide, fun x H1 x0 x1 s1 k1 => ?_⟩
    obtain ⟨j, rfl⟩ : ∃ j : Nat, x = j := ⟨x.toNat, by omega⟩
    have hj : j < ω.T.length := by rw [ok.lT]; omega
    have ex : (ω.T.map fun x => V.ref x.1)[j]? = some (.ref ω.T[j].1) := by
      rw [List.getElem?_map, List.getElem?_eq_getElem hj]
      rfl
    have mx : ω.T[j] ∈ ω.T := List.getElem_mem hj
    obtain ⟨nT, l3⟩ := ok.nT _ mx
    have hx := h5 _ mx
    generalize ω.T[j] = y at ex mx nT l3 hx
    refine ⟨t, _, _, _, rfl, rfl, SqL.of (off_le _ _ (k1 _ _ h2)), atI_nat ex, _, _, rfl, SqT.of (off_le _ _ (k1 _ _ hx)), rfl, _, _, rfl, _, _, rfl, rfl, ?_⟩
    refine ⟨(by show 0 ≤ sizeLine; decide), fun D nD => ?_⟩
    have zD := s1.ne nD
    refine ⟨_, rfl, _, rfl, by omega, by omega, for_range (lo := 0) (n := ((y.2.2 : Nat) : Int).toNat) (fun i σ H3 => ∃ (zs : List Str) (v6 : Option V), σ = [some (.ref a), some (.ref p), some (.ref q), some (.str y.2.1), some (.int (y.2.2 : Nat)), some (.ref D), v6] ∧
      zs.length = i ∧ (∀ z ∈ zs, Nm z ∨ z ∈ O) ∧ H3 D = some (.lst (zs.map V.str)) ∧ DrwAt a r (m + 2 * (3 - i)) H3 ∧ Kp a r H H3)
      ⟨[], none, rfl, rfl, fun _ z => (by cases z), upd_same, (s1.same (same_new nD)).mono (by omega), k1.trans (Kp.of (same_new nD))⟩ ?_ ?_⟩
    · rintro i σ H3 hi ⟨zs, v6, rfl, lz, hz, hD, s3, k3⟩
      rw [Int.toNat_natCast] at hi
      have add : ∀ (z : Str) (H6 : Hp), Kp a r H H6 → H6 D = some (.lst (zs.map V.str)) → DrwAt a r (m + 2 * (3 - (i + 1))) H6 → Nm z ∨ z ∈ O → ∃ (zs' : List Str) (v6 : Option V), [some (V.ref a), some (.ref p), some (.ref q), some (.str y.2.1), some (.int (y.2.2 : Nat)), some (.ref D), some (V.int (0 + (i : Int)))] = [some (.ref a), some (.ref p), some (.ref q), some (.str y.2.1), some (.int (y.2.2 : Nat)), some (.ref D), v6] ∧
          zs'.length = i + 1 ∧ (∀ z ∈ zs', Nm z ∨ z ∈ O) ∧ (upd H6 D (.lst (zs.map V.str ++ [V.str z]))) D = some (.lst (zs'.map V.str)) ∧ DrwAt a r (m + 2 * (3 - (i + 1))) (upd H6 D (.lst (zs.map V.str ++ [V.str z]))) ∧ Kp a r H (upd H6 D (.lst (zs.map V.str ++ [V.str z]))) := by
        intro z H6 k6 hD6 s6 oz
        refine ⟨zs ++ [z], _, rfl, by simp [lz], fun y hy => ?_, by rw [upd_same]; simp, s6.upd (H0 := H) zD.1 zD.2, ?_⟩
        · rcases List.mem_append.mp hy with hy | hy
          · exact hz y hy
          · have e : y = z := by simpa using hy
            rw [e]
            exact oz
        · intro b o e
          have q := k6 _ _ e
          obtain ⟨e1, na, nr⟩ := off_some e
          rw [off_of na nr] at q ⊢
          have q1 := kp_at k1 e1 na nr
          rw [upd_ne (ne_of_none q1 nD)]
          exact q
      have few : (zs.map V.str).length < sizeLine := by
        rw [List.length_map, lz, sizeLine_eq]
        omega
      have hq3 := off_le _ _ (k3 _ _ hO)
      refine ⟨_, rfl, (by show 0 ≤ sizeLine; decide), fun e ne => ?_⟩
      have u4 : Same H3 (upd H3 e (.lst [])) := same_new ne
      have c4 : (upd H3 e (.lst [])) e = some (.lst []) := upd_same
      generalize upd H3 e (.lst []) = H4 at u4 c4 ⊢
      have s4 := s3.same u4
      have k4 : Kp a r H H4 := k3.trans (Kp.of u4)
      have hD4 := u4 _ _ hD
      have hq4 := u4 _ _ hq3
      refine ⟨q, e, _, rfl, rfl, SqL.of hq4, SqL.of c4, _, rfl, ?_⟩
      have s4' : DrwAt a r (m + 2 * (3 - (i + 1)) + 1 + 1) H4 := s4.mono (by omega)
      refine ite2 (fun hO0 => ?_) (fun hO0 => ?_)
      · refine ⟨_, rfl, a, r, m + 2 * (3 - (i + 1)) + 1, 5, rfl, s4', by decide, by decide, fun x2 H5 x20 x21 s5 k45 => ?_⟩
        have hD5 := kp_at k45 hD4 zD.1 zD.2
        have k5 := k4.trans k45
        refine ⟨_, _, rfl, rfl, _, rfl, ?_⟩
        refine ite2 (fun h0 => ?_) (fun h0 => ?els)
        · have hq5 := off_le _ _ (k5 _ _ hO)
          have l0 : 0 < O.length := by
            cases O with
            | nil => exact absurd hO0 (by decide)
            | cons z O => exact Nat.succ_pos _
          refine ⟨_, rfl, .inl ⟨rfl, _, .inl (.inl hD5)⟩, _, rfl, _, rfl, _, rfl, q, _, rfl, .inl (SqL.of hq5), ?_⟩
          refine ⟨a, r, m + 2 * (3 - (i + 1)), _, rfl, s5, by rw [List.length_map]; omega, by rw [List.length_map]; omega, fun x3 H6 x30 x31 s6 k56 => ?_⟩
          rw [List.length_map] at x31
          obtain ⟨j3, rfl⟩ : ∃ j : Nat, x3 = j := ⟨x3.toNat, by omega⟩
          have hj3 : j3 < O.length := by omega
          have k6 := k5.trans k56
          refine ⟨q, _, _, .str O[j3], rfl, rfl, SqL.of (off_le _ _ (k6 _ _ hO)), atI_nat (strs_get hj3), D, _, _, rfl, rfl, kp_at k56 hD5 zD.1 zD.2, few, ?_⟩
          exact add _ H6 k6 (kp_at k56 hD5 zD.1 zD.2) s6 (.inr (List.getElem_mem hj3))
        case els =>
          refine ⟨_, rfl, .inl ⟨rfl, _, .inl (.inl hD5)⟩, _, rfl, p, _, 1, _, rfl, rfl, SqT.of (off_le _ _ (k5 _ _ h1)), rfl, _, rfl, a, r, m + 2 * (3 - (i + 1)), 4, rfl, s5, by decide, by decide, fun x3 H6 x30 x31 s6 k56 => ?_⟩
          obtain ⟨j3, rfl⟩ : ∃ j : Nat, x3 = j := ⟨x3.toNat, by omega⟩
          have hj3 : j3 < ω.C.length := by rw [ok.lC]; omega
          have k6 := k5.trans k56
          refine ⟨c, _, _, .str ω.C[j3], rfl, rfl, SqL.of (off_le _ _ (k6 _ _ h3)), atI_nat (strs_get hj3), D, _, _, rfl, rfl, kp_at k56 hD5 zD.1 zD.2, few, ?_⟩
          exact add _ H6 k6 (kp_at k56 hD5 zD.1 zD.2) s6 (.inl (ok.nC _ (List.getElem_mem hj3)))
      · have s5 : DrwAt a r (m + 2 * (3 - (i + 1)) + 1) H4 := s4'.mono (by omega)
        refine ⟨_, rfl, .inl ⟨rfl, _, .inl (.inl hD4)⟩, _, rfl, p, _, 1, _, rfl, rfl, SqT.of (off_le _ _ (k4 _ _ h1)), rfl, _, rfl, a, r, m + 2 * (3 - (i + 1)), 4, rfl, s5, by decide, by decide, fun x3 H6 x30 x31 s6 k56 => ?_⟩
        obtain ⟨j3, rfl⟩ : ∃ j : Nat, x3 = j := ⟨x3.toNat, by omega⟩
        have hj3 : j3 < ω.C.length := by rw [ok.lC]; omega
        have k6 := k4.trans k56
        refine ⟨c, _, _, .str ω.C[j3], rfl, rfl, SqL.of (off_le _ _ (k6 _ _ h3)), atI_nat (strs_get hj3), D, _, _, rfl, rfl, kp_at k56 hD4 zD.1 zD.2, few, ?_⟩
        exact add _ H6 k6 (kp_at k56 hD4 zD.1 zD.2) s6 (.inl (ok.nC _ (List.getElem_mem hj3)))
    · rintro σ H3 ⟨zs, v6, rfl, lz, hz, hD, s3, k3⟩
      rw [Int.toNat_natCast] at lz
      refine ⟨_, rfl, (by show 1 ≤ sizeLine; decide), fun p1 np1 => ?_⟩
      have u4 : Same H3 (upd H3 p1 (.tup [.str y.2.1])) := same_new np1
      have c4 : (upd H3 p1 (.tup [.str y.2.1])) p1 = some (.tup [.str y.2.1]) := upd_same
      generalize upd H3 p1 (.tup [.str y.2.1]) = H4 at u4 c4 ⊢
      refine ⟨_, rfl, D, _, rfl, .inl ⟨SqL.of (u4 _ _ hD), fun p2 np2 => ?_⟩⟩
      have c4' := c4
      have u5 : Same H4 (upd H4 p2 (.tup (zs.map V.str))) := same_new np2
      have c5 : (upd H4 p2 (.tup (zs.map V.str))) p2 = some (.tup (zs.map V.str)) := upd_same
      generalize upd H4 p2 (.tup (zs.map V.str)) = H5 at u5 c5 ⊢
      refine ⟨p1, p2, _, _, rfl, rfl, u5 _ _ c4, c5, ?_, fun p3 H6 s6 c6 n3 => ?_⟩
      · rw [List.length_map, lz, sizeLine_eq]
        show 1 + _ ≤ _
        omega
      · have s4 := s3.same u4
        have s5 := s4.same u5
        have z3 : p3 ≠ a ∧ p3 ≠ r := by
          rcases n3 with rfl | rfl | n3
          · exact s3.ne np1
          · exact s4.ne np2
          · exact s5.ne n3
        have n3' : H3 p3 = none := by
          rcases n3 with rfl | rfl | n3
          · exact np1
          · exact none_of u4 np2
          · exact none_of (u4.trans u5) n3
        refine k p3 _ zs H6 (by rw [off_of z3.1 z3.2]; exact c6) (kp_none k3 n3' z3.1 z3.2) ⟨nT, by omega, fun z m => (hz z m).imp_right (nO z)⟩ hz ((s5.same s6).mono (by omega)) (((k3.trans (Kp.of u4)).trans (Kp.of u5)).trans (Kp.of s6))
end
end L2.LawH
set_option Elab.async false
set_option linter.all false
set_option maxRecDepth 100000
set_option maxHeartbeats 4000000
/-! try: .. except (A, B, C): a suite that raises. -/
namespace L2.TryTup
open PySem PySem.Spec PyProof.Rows L2
theorem ff_up {h h' B : Heap} (k : ∀ b o, h.get? b = some o → h'.get? b = some o) : ∀ {l : List Env}, h.FunFrames B l → h'.FunFrames B l := by
  intro l
  induction l with
  | nil => intro _; simp [Heap.FunFrames]
  | cons a l ih =>
    intro e
    simp only [Heap.FunFrames] at e ⊢
    obtain ⟨e1, ⟨L, o, e2, e3, e4, e5⟩, e6⟩ := e
    exact ⟨e1, ⟨L, o, e2, e3, k _ _ e4, e5⟩, ih e6⟩
theorem fly_up {h h' B : Heap} {l : List Env} {a : Addr} {Z : Obj → Prop} (k : ∀ b o, h.get? b = some o → h'.get? b = some o) (f : HandSPX.FlyingZ B l a Z h) : HandSPX.FlyingZ B l a Z h' := by
  obtain ⟨f1, f2, f3, oe, vs, T, oT, ts, g1, g2, g3, g4, g5, g6, g7, g8⟩ := f
  exact ⟨fun b o e => k _ _ (f1 b o e), f2, ff_up k f3, oe, vs, T, oT, ts, k _ _ g1, g2, g3, g4, g5, g6, k _ _ g7, g8⟩
/-- the wish behind except (A, B, C) -/
def wTup (K : PySem.W.Frag) (cs : List Value) (ts : Addr → Value → Option Addr → TS) (Wout : WX) (D : Ends) : WX := fun cls d σ H => ∃ b, PySem.W.exmAny K cls cs = some b ∧ (b = true → ∀ a, H a = none → ts a cls d D σ H) ∧ (b = false → Wout cls d σ H)
def wPassT (K : PySem.W.Frag) (cs : List Value) (Wout : WX) : WX := fun cls d σ H => PySem.W.exmAny K cls cs = some false ∧ Wout cls d σ H
section
variable {X : Cx} {x1 x2 x3 : Str} {c1 c2 c3 : Value} {body suite : List Stmt} {b₀ : Stmt} {p1 p2 p3 pt pos pos' : Pos} {kk : Nat} {tb : WX → TS} {ts : Addr → Value → Option Addr → TS} {Wout : WX}
theorem un_x {pins pn' : List (Addr × Obj)} {σ : St} {H : Hp} {s : Shared} {a : Addr} {q : Addr × Obj} (ok : X.Ok) (h : Inv (L2H.suiteX X a (q :: (X.pn ++ pins))) pn' σ H s) : Inv X pins σ H s := by
  obtain ⟨h1, h2, h3, h4, h5, h6, h7, h8, h9, h10, h11⟩ := h
  exact Inv.unsuite (X := X) (a := a) (q := q) (pn' := pn') ⟨⟨h1.mod, h1.kind, h1.glob, h1.blt, h1.above, h1.inj, h1.has, h1.cab, h1.hd, h1.frames, h1.stk, h1.exf, h1.bs, h1.bsz, h1.noex, h1.exfs, h1.funs, h1.frf⟩, h2, h3, h4, h5, h6, h7, h8, h9, h10, h11⟩ ok
theorem out_ofX {pins : List (Addr × Obj)} {a : Addr} {oe : Obj} {D : Ends} {f : Flow} {s6 : Shared} (ok : X.Ok)
    (un : ∀ {σ H}, Inv (L2H.suiteX X a ((a, oe) :: (X.pn ++ pins))) [] σ H s6 → Inv X pins σ H s6)
    (h : SP (L2H.suiteX X a ((a, oe) :: (X.pn ++ pins))) [] D f s6) : SP X pins D f s6 := by
  cases f with
  | next => exact let ⟨σ, H, S, q⟩ := h; ⟨σ, H, un S, q⟩
  | brk => exact let ⟨σ, H, S, q⟩ := h; ⟨σ, H, un S, q⟩
  | cont => exact let ⟨σ, H, S, q⟩ := h; ⟨σ, H, un S, q⟩
  | ret u => exact let ⟨v, σ, H, S, r, q⟩ := h; ⟨v, σ, H, un S, r, q⟩
theorem ps_try_tup3X (hs : X.stack = X.env :: X.outer) (hf : X.env.frame = some X.env.locals) (n1 : Names X x1 c1) (n2 : Names X x2 c2) (n3 : Names X x3 c3)
    (hpa : ∀ hd : Option Value, PassesOwnAt (model X.prog X.w) (X.A.mark hd) X.A X.env X.xe) (tk : L2.Takes X Wout)
    (hb : ∀ (W : WX) (pn : List (Addr × Obj)) (xe : Value → Shared → Prop), L2N.Takes (X.tr pn xe) W → PassesOwn (model X.prog X.w) X.A X.env xe → PSs (X.tr pn xe) body (tb W))
    (hsu : ∀ (a : Addr) (oe : Obj) (cls : Value) (d : Option Addr) (pn : List (Addr × Obj)), L2N.Zn cls d oe → (∃ vs, oe.data = .fields vs) → L2.Takes (L2H.suiteX X a ((a, oe) :: pn)) Wout → L2H.HotC (L2H.suiteX X a ((a, oe) :: pn)) →
      PSs (L2H.suiteX X a ((a, oe) :: pn)) (b₀ :: suite) (ts a cls d)) :
    PS X (.Try body [.ExceptHandler (some (.Tuple [.Name x1 p1, .Name x2 p2, .Name x3 p3] kk pt)) none (b₀ :: suite) pos'] [] [] pos) (fun D σ H => tb (wTup X.K [c1, c2, c3] ts Wout D) D σ H) := by
  refine ⟨fun pins s σ H D I h => ?_⟩
  have ok := I.ok
  have frames : X.A.frames = some (X.env :: X.outer) := by rw [ok.frames, hs]
  refine wpAny_Try_except (wpAny_mono ((hb (wTup X.K [c1, c2, c3] ts Wout D) (X.pn ++ pins) (fun e s₁ => wpAny (model X.prog X.w) X.A (noteFrame e X.env) (fun _ s₂ => wpAny (model X.prog X.w) X.A (setFlight e none) (fun _ s₃ =>
    wpAny (model X.prog X.w) X.A (handleBy e X.env [.ExceptHandler (some (.Tuple [.Name x1 p1, .Name x2 p2, .Name x3 p3] kk pt)) none (b₀ :: suite) pos']) (SP X pins D) X.xe s₃) X.xe s₂) X.xe s₁) (fun u s' caught => ?_) PassesOwn.looking).run [] s σ H D (I.toTry _) h) (fun f s1 ends => ?_) (fun e s1 he => he))
  · obtain ⟨a, B, sI, _, σ', H', cls, d, rfl, J', nb, up, sky, na, os, ag, w⟩ := caught
    have J : Inv X pins σ' H' sI := J'.ofTry ok
    show wpAny (model X.prog X.w) X.A (noteFrame (.ref a) X.env) _ _ _
    refine L2N.Sky.land L2N.Zn.steady frames hf (hs ▸ sky) fun h3 fl3 up3 => ?_
    have J3 : Inv X pins σ' H' { s' with heap := h3 } := J.landed nb fl3.1 (up.trans up3) os ag
    obtain ⟨oe3, vs3, he3, hz3, hd3⟩ := fl3.there
    have out : a ∉ frs (X.env :: X.outer) := fun m => by
      obtain ⟨_, o', e', no⟩ := fl3.2.2.1.mem m
      rw [he3] at e'
      cases e'
      exact no _ hd3
    have nL : a ≠ X.env.locals := fun z => out (List.mem_filterMap.mpr ⟨X.env, List.mem_cons_self, by rw [hf, z]⟩)
    have nF : a ∉ X.fs := fun m => by
      obtain ⟨e, he, q⟩ := List.mem_filterMap.mp m
      exact out (List.mem_filterMap.mpr ⟨e, List.mem_cons_of_mem _ he, q⟩)
    have S3 := J3.suite he3 hd3 na nL nF
    have named : ∀ {y : Str} {cv : Value} {yp : Pos} {Q : Value → Shared → Prop} {E : Value → Shared → Prop}, Names X y cv → Q cv { s' with heap := h3 } → wpAny (model X.prog X.w) (X.A.mark (some (.ref a))) (eval (.Name y yp) X.env) Q E { s' with heap := h3 } := fun {y cv yp Q E} hy q => by
      obtain ⟨g, dbg, m | ⟨m, v, nn⟩⟩ := hy
      · exact ld_glob (X := X.suite a ((a, oe3) :: (X.pn ++ pins))) S3 g m q dbg
      · exact ld_blt (X := X.suite a ((a, oe3) :: (X.pn ++ pins))) S3 g m v q nn dbg
    obtain ⟨b, hb1, yes, no⟩ := w
    refine wpAny_handleBy_cons (codeAny_handlers_test (wpAny_Tuple ?_)) (by intro q; cases q)
    have sp3 : ∀ {Q : List Value → Shared → Prop} {E : Value → Shared → Prop}, Q [c1, c2, c3] { s' with heap := h3 } → wpAny (model X.prog X.w) (X.A.mark (some (.ref a))) (spliced (backTo pt (starEach [.Name x1 p1, .Name x2 p2, .Name x3 p3] X.env))) Q E { s' with heap := h3 } := by
      intro Q E q
      show wpAny _ _ (spliced [(false, eval (.Name x1 p1) X.env), (false, eval (.Name x2 p2) X.env), (false, eval (.Name x3 p3) X.env)]) _ _ _
      simp only [spliced]
      refine wpAny_bind (named n1 ?_)
      rw [if_neg Bool.false_ne_true]
      refine wpAny_bind (wpAny_pure (wpAny_bind (wpAny_holding (wpAny_bind (named n2 ?_)))))
      rw [if_neg Bool.false_ne_true]
      refine wpAny_bind (wpAny_pure (wpAny_bind (wpAny_holding (wpAny_bind (named n3 ?_)))))
      rw [if_neg Bool.false_ne_true]
      exact wpAny_bind (wpAny_pure (wpAny_bind (wpAny_holding (wpAny_pure (wpAny_pure (wpAny_pure (wpAny_pure q)))))))
    refine sp3 ⟨by rw [sizeLine_eq]; exact Nat.le_of_ble_eq_true rfl, ?_⟩
    have keep : ∀ b o, h3.get? b = some o → (h3.push { cls := Value.type "tuple", data := Data.seq #[c1, c2, c3] }).get? b = some o := fun b o e => Heap.get?_push_of_some _ e
    have got : (h3.push { cls := Value.type "tuple", data := Data.seq #[c1, c2, c3] }).get? h3.objs.size = some { cls := Value.type "tuple", data := Data.seq #[c1, c2, c3] } := Heap.get?_push_size _ rfl
    show wpAny _ _ (excMatches (Value.ref a) (Value.ref h3.objs.size)) _ _ { s' with heap := h3.push { cls := Value.type "tuple", data := Data.seq #[c1, c2, c3] } }
    have fl4 := fly_up keep fl3
    have J4 : Inv X pins σ' H' { s' with heap := h3.push { cls := Value.type "tuple", data := Data.seq #[c1, c2, c3] } } := J3.kept (t' := s'.toks) keep
    generalize h3.push { cls := Value.type "tuple", data := Data.seq #[c1, c2, c3] } = h4 at keep got fl4 J4 ⊢
    obtain ⟨oe4, vs4, he4, hz4, hd4⟩ := fl4.there
    have isC : PySem.W.Looks (model X.prog X.w) h4 (typeOf (.ref a)) cls := fun A Q E s k q => wpAny_typeOf_ref (k _ _ he4) (by rw [hz4.1]; exact q)
    refine (PySem.W.exm_tup3 (M := model X.prog X.w) J4.kIn isC got hb1).here ?_
    cases b with
    | true =>
      refine codeAny_handlers_suite (HandSPX.lands_againZ fl4 fun h5 fl5 up5 => ?_)
      have J5 : Inv X pins σ' H' { s' with heap := h5 } := J.landed nb fl5.1 (((up.trans up3).trans fun b o e _ => ⟨o.slots, keep b o e⟩).trans up5) os ag
      obtain ⟨oe5, vs5, he5, hz5, hd5⟩ := fl5.there
      have S5 := L2H.suiteX_of (J5.suite he5 hd5 na nL nF)
      have tk5 : L2.Takes (L2H.suiteX X a ((a, oe5) :: (X.pn ++ pins))) Wout := by
        rintro u s6 ⟨a6, B6, sI6, pins6, σ6, H6, cls6, d6, e6, I6, nb6, up6, sky6, na6, os6, ag6, w6⟩
        exact tk u s6 ⟨a6, B6, sI6, pins, σ6, H6, cls6, d6, e6, un_x ok I6, nb6, up6, sky6, na6, os6, ag6, w6⟩
      have hot : L2H.HotC (L2H.suiteX X a ((a, oe5) :: (X.pn ++ pins))) := ⟨(a, oe5), ⟨rfl, vs5, hd5, hz5.2.2 vs5 hd5⟩, List.mem_cons_self⟩
      refine wpAny_mono ((hsu a oe5 cls d (X.pn ++ pins) hz5 ⟨_, hd5⟩ tk5 hot).run [] _ _ H' D S5 (yes rfl a na)) (fun f s6 e6 => ?_) (fun e s6 z => hpa (some (.ref a)) e s6 z)
      exact out_ofX (X := X) ok (fun S => un_x ok S) e6
    | false =>
      show wpAny _ X.A (handleBy (.ref a) X.env []) _ _ _
      refine wpAny_handleBy_nil ?_
      obtain ⟨_, _, _, oe, vs, T, oT, ts', he, hz, hd, h1, hr⟩ := id fl4
      unfold PySem.passOn
      refine wpAny_bind (wpAny_field he hd h1 ?_)
      rw [if_neg (show ¬ ((Value.ref T == Value.none) = true) from by simp)]
      have on : wpAny (model X.prog X.w) X.A (setFlight (.ref a) X.env.frame) (fun _ s4 => wpAny (model X.prog X.w) X.A (throw (.ref a) : Sem Flow) (SP X pins D) X.xe s4) X.xe { s' with heap := h4 } := by
        rw [hf]
        refine HandSPX.setFlight_upZ fl4 fun h5 hh5 up5 => wpAny_throw (tk _ _ ⟨a, B, sI, pins, σ', H', cls, d, rfl, J, nb, (((up.trans up3).trans fun b o e _ => ⟨o.slots, keep b o e⟩).trans up5), .inr (.inr ?_), na, os, ag, no rfl⟩)
        rw [hs]
        obtain ⟨f1, f2, f3, oe, vs, T, oT, ts, g1, g2, g3⟩ := hh5
        exact ⟨f1, f2, f3, oe, vs, T, oT, ts, g1, ⟨g2.1, g2.2.1⟩, g3⟩
      first
        | exact wpAny_bind (wpAny_pure (wpAny_bind on))
        | exact wpAny_bind on
  · cases f with
    | next => exact let ⟨σ', H', J', q⟩ := ends; wpAny_execs_nil ⟨σ', H', J'.ofTry ok, q⟩
    | brk => exact let ⟨σ', H', J', q⟩ := ends; ⟨σ', H', J'.ofTry ok, q⟩
    | cont => exact let ⟨σ', H', J', q⟩ := ends; ⟨σ', H', J'.ofTry ok, q⟩
    | ret u => exact let ⟨v, σ', H', J', r, q⟩ := ends; ⟨v, σ', H', J'.ofTry ok, r, q⟩
end
end L2.TryTup
set_option Elab.async false
set_option linter.all false
set_option maxRecDepth 100000
set_option maxHeartbeats 4000000
/-! An own exception class over another own one, called with keywords: the steps of its making, with the keywords carried along. -/
namespace MadeKw
open PySem PySem.HandSPX PyProof.Rows PySem.Calls
section
variable {M : Model} {A : Around} {E : Value → Shared → Prop} {hp : Heap} {gn : Array GenState} {dn : Drawn} {tn : Nat} {on : OsState}
variable {nm q : Str} {C N : Addr} {bs bm bmB : List Value} {hdct : Bool} {sn : List Str} {sub : List Value} {ab : Bool}
variable {col : Option Bool} {dd : Option Addr} {k0 k1 k2 k3 k5 : Option Value} {B newId initId : String}

theorem check_new (F : ExcBaseFacts B newId initId bmB)
    (same : ∀ Y : String, bm.contains (.type Y) = bmB.contains (.type Y))
    {us : List Value} {kw : List (Str × Value)} {Q : Unit → Shared → Prop}
    (at_ : hp.get? C = some (excClassObj nm q C N bs bm hdct sn sub ab col dd k0 k1 k2 k3 k5 newId))
    (fin : Q () ⟨hp, gn, dn, tn, on⟩) :
    wpAny M A (checkBuiltinCall newId ⟨.ref C :: us, kw⟩) Q E ⟨hp, gn, dn, tn, on⟩ := by
  have base : (Value.ref C :: bm).contains (.type B) = true := by
    rw [List.contains_cons, same, F.hasB, Bool.or_true]
  have star := F.noStar
  simp only [checkBuiltinCall, F.newKind, F.newSplit, F.newRow]
  repeat
    first
    | refine wpAny_loadPart_at at_ ?_
    | (refine wpAny_isSubtype_exc at_ ?_
       rw [base])
    | refine wpAny_staticBase_exc at_ ?_
    | refine wpAny_madeBy_exc at_ ?_
    | simp only [bne_self_eq_false, Bool.false_eq_true, if_false]
    | wp_step
  exact fin
end
section
variable {prog : Program} {w : World} {A : Around} {E : Value → Shared → Prop} {R : Result → Shared → Prop}
variable {hp : Heap} {gn : Array GenState} {dn : Drawn} {tn : Nat} {on : OsState}
variable {nm q : Str} {C N : Addr} {bs bm bmB : List Value} {hdct : Bool} {sn : List Str} {sub : List Value} {ab : Bool}
variable {col : Option Bool} {dd : Option Addr} {k0 k1 k2 k3 k5 : Option Value} {B newId initId : String}

theorem new_made (F : ExcBaseFacts B newId initId bmB)
    (same : ∀ Y : String, bm.contains (.type Y) = bmB.contains (.type Y))
    {us : List Value} {kw : List (Str × Value)}
    (at_ : hp.get? C = some (excClassObj nm q C N bs bm hdct sn sub ab col dd k0 k1 k2 k3 k5 newId))
    (fin : R (.ok (.ret (.ref (hp.objs.size + 1)))) ⟨(hp.push (W.kdv_tup us)).push (excO C hp.objs.size), gn, dn, tn, on⟩)
    (few : us.length ≤ sizeLine) :
    codeAny (model prog w) A (.builtin newId ⟨.ref C :: us, kw⟩) R ⟨hp, gn, dn, tn, on⟩ := by
  have ends := F.ends
  have inB : (Value.ref C :: bm).contains (.type B) = true := by
    rw [List.contains_cons, same, F.hasB, Bool.or_true]
  have noA : (Value.ref C :: bm).contains (.type "AttributeError") = false := by
    rw [List.contains_cons, same, F.noAttr]
    rfl
  have noN : (Value.ref C :: bm).contains (.type "NameError") = false := by
    rw [List.contains_cons, same, F.noName]
    rfl
  refine codeAny_builtinAt F.entry ?_
  unfold Builtin.«BaseException.__new__»
  refine PySem.wpAt_bind ?_
  show PySem.wpAt _ _ _ (stack >>= _) _ _ _
  refine PySem.wpAt_bind (PySem.wpAt_stack fun p below => PySem.wpAt_of_wpAny ?_)
  wp_walk
  refine PySem.wpAt_of_wpAny ?_
  rw [F.owner]
  repeat
    first
    | with_reducible refine wpAny_madeHere_exc F.canon at_ ?_
    | with_reducible refine wpAny_loadPart_at at_ ?_
    | (with_reducible refine wpAny_isSubtype_exc at_ ?_
       first
       | rw [inB]
       | rw [noA]
       | rw [noN])
    | wp_step
  show R _ _
  rw [Heap.size_push]
  exact fin

theorem called_type (F : ExcBaseFacts B newId initId bmB)
    (same : ∀ Y : String, bm.contains (.type Y) = bmB.contains (.type Y))
    {us : List Value} {kw : List (Str × Value)} {fI : Addr} {Q : Fin → Shared → Prop}
    (at_ : hp.get? C = some (excClassObj nm q C N bs bm hdct sn sub ab col dd k0 k1 k2 k3 k5 newId))
    (li : W.Looks (model prog w) hp (typeLookup (.ref C) "__init__") (some (.ref fI)))
    (lb : ∀ self, W.Looks (model prog w) hp (bindSpecial (.ref fI) self) (.ref fI, [self]))
    (few : us.length ≤ sizeLine)
    (fin : codeAny (model prog w) A (.call (.ref fI) ⟨.ref (hp.objs.size + 1) :: us, kw⟩)
      (fun r s' => match r with
        | .ok (.ret v) => v = .none ∧ Q (.done (.ret (.ref (hp.objs.size + 1)))) s'
        | .ok _ => False
        | .error e => E e s')
      ⟨(hp.push (W.kdv_tup us)).push (excO C hp.objs.size), gn, dn, tn, on⟩) :
    wpAny (model prog w) A (Builtin.«type.__call__» ⟨.ref C :: us, kw⟩) Q E ⟨hp, gn, dn, tn, on⟩ := by
  repeat
    first
    | with_reducible refine wpAny_loadPart_at at_ ?_
    | with_reducible refine wpAny_madeBy_exc at_ ?_
    | wp_step
  refine codeAny_call_builtin_code (Code.quiet_builtin _ F.quiet) (check_new F same at_ ?_)
  refine new_made F same at_ ?_ few
  show wpAny _ _ _ _ _ _
  have old : ∀ b o, hp.get? b = some o → ((hp.push (W.kdv_tup us)).push (excO C hp.objs.size)).get? b = some o :=
    fun b o e => Heap.get?_push_of_some _ (Heap.get?_push_of_some _ e)
  have at1 := old _ _ at_
  have got : ((hp.push (W.kdv_tup us)).push (excO C hp.objs.size)).get? (hp.objs.size + 1) = some (excO C hp.objs.size) := by
    heap_get
  have self_ : (Value.ref C :: bm).contains (.ref C) = true := by simp
  have li1 := li.keeps old
  have lb1 := (lb (.ref (hp.objs.size + 1))).keeps old
  unfold isInstance
  repeat
    first
    | with_reducible refine wpAny_loadPart_at got ?_
    | (with_reducible refine wpAny_isSubtype_exc at1 ?_
       rw [self_])
    | wp_step
  show wpAny _ _ (typeLookup (.ref C) _) _ _ _
  refine li1.at ?_
  refine wpAny_holding (wpAny_bind (lb1.at ?_))
  refine wpAny_bind (wpAny_call (codeAny_mono fin fun r s' z => ?_))
  rcases r with e | (v | _ | _ | _) <;> first | exact z | exact z.elim | skip
  obtain ⟨rfl, z⟩ := z
  first
    | exact wpAny_pure (wpAny_pure z)
    | (wp_walk
       exact z)

theorem made (F : ExcBaseFacts B newId initId bmB)
    (same : ∀ Y : String, bm.contains (.type Y) = bmB.contains (.type Y))
    {us : List Value} {kw : List (Str × Value)} {fI : Addr}
    (at_ : hp.get? C = some (excClassObj nm q C N bs bm hdct sn sub ab col dd k0 k1 k2 k3 k5 newId))
    (li : W.Looks (model prog w) hp (typeLookup (.ref C) "__init__") (some (.ref fI)))
    (lb : ∀ self, W.Looks (model prog w) hp (bindSpecial (.ref fI) self) (.ref fI, [self]))
    (few : us.length ≤ sizeLine)
    (fin : codeAny (model prog w) (A.under (.builtin "type.__call__" ⟨.ref C :: us, kw⟩))
      (.call (.ref fI) ⟨.ref (hp.objs.size + 1) :: us, kw⟩) (W.InitBack (hp.objs.size + 1) R)
      ⟨(hp.push (W.kdv_tup us)).push (excO C hp.objs.size), gn, dn, tn, on⟩) :
    codeAny (model prog w) A (.call (.ref C) ⟨us, kw⟩) R ⟨hp, gn, dn, tn, on⟩ := by
  have f1 := tc_lookup
  have f2 := tc_bind (.ref C)
  have ty : (⟨hp, gn, dn, tn, on⟩ : Shared).TypeIs (.ref C) "type" := ⟨_, at_, rfl⟩
  refine codeAny_of_tree ?_
  show wpAny _ _ (callAny (.ref C) _) _ _ _
  repeat
    (any_goals
      (first
       | assumption
       | with_reducible refine wpAny_loadPart_at at_ ?_
       | wp_step))
  refine ⟨rfl, ?_⟩
  refine codeAny_call_builtin_at (Code.quiet_builtin _ (by decide +kernel)) entry_typeCall
    (wpAny_check_type_call_sub at_ (called_type F same at_ li lb few ?_))
  refine codeAny_mono fin fun r s' z => ?_
  rcases r with e | (v | _ | _ | _) <;> exact z
end
end MadeKw
set_option Elab.async false
set_option linter.all false
set_option maxRecDepth 100000
set_option maxHeartbeats 4000000
/-! Exceptions without a context, made where nothing is handled; defs that raise them. -/
namespace L2.ExcN
open PySem PySem.Spec PyProof.Rows L2
theorem cxN {P : Program} {w : World} {outer : List Env} {H : Hp} {s : Shared} {E : XK} {u : Value} {s' : Shared} (h : L2N.CX P w outer H s E u s') : L2.CX P w outer H s E u s' := by
  obtain ⟨a, B, H', cls, d, e, ⟨f1, f2, f3, oe, vs, T, oT, ts, g1, g2, g3⟩, h2⟩ := h
  exact ⟨a, B, H', cls, d, e, ⟨f1, f2, f3, oe, vs, T, oT, ts, g1, ⟨g2.1, g2.2.1⟩, g3⟩, h2⟩
/-- a def whose exceptions have no context -/
theorem fnN {P : Program} {w : World} {K : PySem.W.Frag} {mg : Str → Option Value} {base : Heap} {k : Nat} {f : Addr} {fd : FuncData} {ps : List Str} {sp : Sp} (h : FnOk P w K mg base (L2N.CX P w) k f fd ps sp) : FnOk P w K mg base (L2.CX P w) k f fd ps sp := by
  refine ⟨h.len, fun A outer s H args us vs Q E hr he hb hv hs => codeAny_mono (h.run A outer s H args us vs Q E hr he hb hv hs) fun r s' q => ?_⟩
  rcases r with e | (v | _ | _ | _)
  · exact cxN q
  all_goals exact q
theorem okN {P : Program} {w : World} {K : PySem.W.Frag} {mg : Str → Option Value} {base : Heap} {x qual : Str} {st : Stmt} {f : Addr} {fd : FuncData} {N ps : List Str} {k : Nat} {sp : Sp} (F : Fun K x qual st f fd) (S : FnScope N ps (defScope st))
    (len : ∀ (vs : List V) (H : Hp) (Q : VK) (E : XK), sp vs H Q E → vs.length = ps.length)
    (walk : ∀ (cdv : Value) (A : Around) (outer : List Env) (s : Shared) (H : Hp) (vs : List V) (Q : VK) (E : XK), Room k (A.deeper (envOfC qual (defScope st) s.heap.objs.size f cdv)) → sp vs H Q E →
      ∃ t, PSs (cxOf (L2N.CX P w) P w K mg base N qual (defScope st) f cdv A outer s H E) (defBody st) t ∧ t { nx := fun x H' => Q V.non H', rt := Q } (start N vs) H) :
    FnOk P w K mg base (L2N.CX P w) (k + 1) f fd ps sp := by
  obtain ⟨⟨oc, od, kV, doc, pm, an, cdv, ct, osl, rfl, lk, hcd⟩, kp⟩ := F
  exact fn_of lk hcd S len fun A outer s H vs Q E hr h => walk cdv A outer s H vs Q E hr h
theorem takesN {X : Cx} {W : WX} (h : L2.Takes X W) : L2N.Takes X W := by
  rintro u s' ⟨a, B, sI, pins, σ, H, cls, d, e, I, nb, up, sky, na, os, ag, w⟩
  refine h u s' ⟨a, B, sI, pins, σ, H, cls, d, e, I, nb, up, ?_, na, os, ag, w⟩
  rcases sky with ⟨f1, f2, f3, oe, vs, g1, g2, g3⟩ | ⟨f1, f2, f3, oe, vs, T, oT, ts, g1, g2, g3⟩ | ⟨f1, f2, f3, oe, vs, T, oT, ts, g1, g2, g3⟩
  · exact .inl ⟨f1, f2, f3, oe, vs, g1, ⟨g2.1, g2.2.1⟩, g3⟩
  · exact .inr (.inl ⟨f1, f2, f3, oe, vs, T, oT, ts, g1, ⟨g2.1, g2.2.1⟩, g3⟩)
  · exact .inr (.inr ⟨f1, f2, f3, oe, vs, T, oT, ts, g1, ⟨g2.1, g2.2.1⟩, g3⟩)
section
variable {X : Cx}
/-- C(), an own exception class without __init__ -/
theorem pmk_own0N {C : Addr} {bmB : List Value} {B newId initId : String} {x : Str} {p pos : Pos} (F : ExcBaseFacts B newId initId bmB) (q : PySem.W.excIn X.K C bmB newId = true) (gC : X.mg x = some (.ref C)) (kC : PySem.W.keepIn X.K (.ref C) = true) (r : Raises X (.ref C)) (hg : Gl X x)
    (hdb : (x == ("__debug__" : Str)) = false := by decide) : L2N.PMk X (.Call (.Name x p) [] [] pos) (fun σ H Q => Q (.ref C) none H) := by
  intro pins s σ H Q I h
  refine wpAny_Call_Name_kw (ld_glob I hg gC ?_ hdb)
  refine PySem.W.callWith_K0 I.kIn kC ?_
  show wpAny _ _ (call (.ref C) []) _ _ _
  obtain ⟨bm, N, nm, qn, bs, hdct, sn, sub, ab, col, dd, k0, k1, k2, k3, k5, mN, hC, hN, hni, T⟩ := exc_obj I.kIn q
  refine wpAny_call_exc_subT F T hC hN hni (fun h' e hm => ?_) (Nat.zero_le _)
  exact L2N.mk_of I hm r h (I.hok.gone hm.new)
/-- the same for one that is raised where another one is handled -/
theorem pmk5_own0 {C : Addr} {bmB : List Value} {B newId initId : String} {x : Str} {p pos : Pos} (F : ExcBaseFacts B newId initId bmB) (q : PySem.W.excIn X.K C bmB newId = true) (gC : X.mg x = some (.ref C)) (kC : PySem.W.keepIn X.K (.ref C) = true) (r : Raises X (.ref C)) (hg : Gl X x)
    (hdb : (x == ("__debug__" : Str)) = false := by decide) : L2H.PMk5 X (.Call (.Name x p) [] [] pos) (fun σ H Q => Q (.ref C) none H) := by
  intro pins s σ H Q I h
  refine wpAny_Call_Name_kw (ld_glob I hg gC ?_ hdb)
  refine PySem.W.callWith_K0 I.kIn kC ?_
  show wpAny _ _ (call (.ref C) []) _ _ _
  obtain ⟨bm, N, nm, qn, bs, hdct, sn, sub, ab, col, dd, k0, k1, k2, k3, k5, mN, hC, hN, hni, T⟩ := exc_obj I.kIn q
  refine wpAny_call_exc_subT F T hC hN hni (fun h' e hm => ?_) (Nat.zero_le _)
  refine ⟨L2N.mk_of I hm r h (I.hok.gone hm.new), fun a oe vs e1 e2 e3 => ?_⟩
  obtain ⟨t, h1, _⟩ := hm.there
  cases e1
  rw [h1] at e2
  cases e2
  cases e3
  show 4 < 6
  exact Nat.lt_of_lt_of_le (Nat.lt_succ_self 4) (Nat.le_succ 5)
/-- C(e, ..), an own exception class whose __init__ is a def -/
theorem pmk_oexN {e : Expr} {es : List Expr} {ta : TA} {p pos : Pos} {CX : CXT} {x : Str} {C fI : Addr} {k : Nat} {fd : FuncData} {ps : List Str} {sp : Sp} {ds : List Value} {dvs : List V} (T : OexC X.K C)
    (iC : PySem.W.findIn X.K (.ref C) "__init__" = some (some (.ref fI))) (tI : PySem.W.typeIn X.K (.ref fI) = some (.type "function")) (F1 : FnOk X.prog X.w X.K X.mg X.base CX k fI fd ps sp) (hr : Room (k + 1) X.A)
    (hb : Binds X.K fd ps ds) (hd : Vals dvs ds) (hx : Passes CX X fun _ _ _ => False) (hg : Gl X x) (hm : X.mg x = some (.ref C)) (ha : PA X (e :: es) ta)
    (hdb : (x == ("__debug__" : Str)) = false := by decide)
    (he : starEach (e :: es) X.env = (false, eval e X.env) :: starEach es X.env := by rfl)
    (hpl : (backTo pos (starEach es X.env)).any (·.1) = false := by rfl) :
    L2N.PMk X (.Call (.Name x p) (e :: es) [] pos) (tMkO C sp dvs ta) := by
  intro pins s σ H Q I h
  refine wpAny_Call_Name_kw (ld_glob I hg hm ?_ hdb)
  refine PySem.W.callWith_K (h₀ := X.base) I.ok.mod.kin T.kC (thn (ha.run pos pins s σ H _ I h) fun us s1 ⟨vs, H1, I1, r, q⟩ => ⟨I1.kIn, ?_⟩) he hpl
  obtain ⟨l1, q⟩ := q
  obtain ⟨nm, qn, N, bs, bm, sn, sub, ab, col, dd, k0, k1, k2, k3, k5, hC, hbm⟩ := T.cls
  obtain ⟨hp, gn, dr, tk', os⟩ := s1
  have up : hp.objs.size ≤ hp.objs.size + 1 := Nat.le_succ _
  have hn : H1 (hp.objs.size + 1) = none := I1.hok.fresh up
  have hq := q (hp.objs.size + 1) hn
  have keep : ∀ b o, hp.get? b = some o → ((hp.push (PySem.W.kdv_tup us)).push (PySem.HandSPX.excO C hp.objs.size)).get? b = some o := fun b o e => Heap.get?_push_of_some _ (Heap.get?_push_of_some _ e)
  have got : ((hp.push (PySem.W.kdv_tup us)).push (PySem.HandSPX.excO C hp.objs.size)).get? (hp.objs.size + 1) = some (PySem.HandSPX.excO C hp.objs.size) := by heap_get
  have I2 : Inv X pins σ (upd H1 (hp.objs.size + 1) (exo (hp.objs.size + 1) C none)) ⟨(hp.push (PySem.W.kdv_tup us)).push (PySem.HandSPX.excO C hp.objs.size), gn, dr, tk', os⟩ := I1.laid (t' := tk') keep up (exo_ok got)
  have r2 : Vals (V.ref (hp.objs.size + 1) :: (vs ++ dvs)) (Value.ref (hp.objs.size + 1) :: (us ++ ds)) := .cons rfl (r.append hd)
  have lps : (Value.ref (hp.objs.size + 1) :: (us ++ ds)).length = ps.length := r2.length.symm.trans (F1.len _ _ _ _ hq)
  have hus : us.length ≤ sizeLine := by
    have := r.length
    rw [sizeLine_eq]
    omega
  refine wpAny_call (MadeKw.made PySem.F.excBase_ValueError (fun Y => PySem.HandSPX.refsVE_contains Y bm hbm) (I1.kIn _ _ hC)
    (PySem.W.looks_findIn I1.kIn iC) (fun self => PySem.W.bind_fn I1.kIn self tI) hus ?_)
  refine codeAny_mono (F1.run _ X.stack _ _ ⟨Value.ref (hp.objs.size + 1) :: us, []⟩
    (Value.ref (hp.objs.size + 1) :: us ++ ds) _ _ (fun _ _ _ => False) (hr.make C us [])
    (I2.env0.make C us []) (hb _ (Value.ref (hp.objs.size + 1) :: us) I2.kIn lps) r2 hq) fun r s' hq' => ?_
  cases r with
  | error er => exact hx pins σ _ _ er s' I2 hq'
  | ok fl =>
    cases fl with
    | ret u =>
      obtain ⟨v, H2, eos, ag, un, hok, rv, ev, dd, fs, h1, h2, h3, q3⟩ := hq'
      subst ev
      refine ⟨rv, ?_⟩
      obtain ⟨h2', g2, d2, t2, os2⟩ := s'
      obtain ⟨t0, G, J, up2, nG, at2, na2⟩ := mk_end0 (d2 := d2) (t2 := t2) I1 up keep un hok eos ag h1 h2 h3
      exact ⟨_, _, _, _, _, .ref C, some dd, rfl, J, up2, nG, at2, ⟨rfl, rfl, fun vs e => by cases e; rfl⟩, rfl, rfl, na2, rfl, ag, L2.raises_own T.exC T.tyC, q3⟩
    | next => exact False.elim hq'
    | brk => exact False.elim hq'
    | cont => exact False.elim hq'
end
end L2.ExcN
set_option Elab.async false
set_option linter.all false
set_option maxRecDepth 100000
set_option maxHeartbeats 4000000
/-! Rules and lemmas that law_k31 has, too. -/

namespace L2.ClsCall
open PySem PySem.Spec PyProof.Rows ClX
section
variable {X : Cx} {CX : CXT} {k n : Nat} {C p g f : Addr} {mc : Value} {sp : Sp} {E : St → XK} {o e : Expr} {es : List Expr} {m x : Str} {pos apos np : Pos} {ta : TE} {t tk : TA} {pl : Sem Bool} {fd : FuncData} {ps ks : List Str} {kws : List Keyword}
theorem run_cmA {q : Addr} {pins : List (Addr × Obj)} {σ : St} {H : Hp} {s : Shared} {Q : VK} {E1 : XK} {us : List Value} {kw : List (Str × Value)} {zs : List Value} {ws : List V} (F : FnOk X.prog X.w X.K X.mg X.base CX k g fd ps sp) (hr : Room k X.A)
    (hb : BindsTo s fd ⟨.ref C :: us, kw⟩ (ps.zip zs)) (hx : PassesAt CX X σ E1) (I : Inv X ((q, PySem.W.methodObj (.ref g) (.ref C)) :: pins) σ H s) (r : Vals ws zs) (h : sp ws H Q E1) :
    wpAny (model X.prog X.w) X.A (call (.ref q) us kw) (EP X pins σ Q) X.xe s := by
  have z : wpAny (model X.prog X.w) X.A (call (.ref q) us kw) (EP X ((q, PySem.W.methodObj (.ref g) (.ref C)) :: pins) σ Q) X.xe s := by
    refine wpAny_call (PySem.W.method_call (pin_at I) (codeAny_mono (F.run X.A X.stack s H ⟨.ref C :: us, kw⟩ zs ws Q E1 hr I.env0 hb r h) fun r s' hq => ?_))
    cases r with
    | error e => exact hx _ H s e s' I hq
    | ok fl =>
      cases fl with
      | ret u => exact I.after hq
      | next => exact False.elim hq
      | brk => exact False.elim hq
      | cont => exact False.elim hq
  exact thn z fun _ _ y => unpinE y
/-- C.m(e, ..), m a classmethod; what it raises may tell of the slots -/
def tCMethS (C : Addr) (sp : Sp) (E : St → XK) (ta : TE) (t : TA) : TE := fun σ H Q => ta σ H fun x H1 => x = .ref C ∧ t σ H1 fun vs H2 => sp (.ref C :: vs) H2 Q (E σ)
theorem pe_cmethS (he : PE X o ta) (r : CRead X.K C mc) (c : CMet X.K C mc m p g) (F : FnOk X.prog X.w X.K X.mg X.base CX k g fd ps sp) (hr : Room k X.A) (hb : Binds X.K fd ps []) (hx : ∀ σ, PassesAt CX X σ (E σ)) (ha : PA X (e :: es) t)
    (hst : starEach (e :: es) X.env = (false, eval e X.env) :: starEach es X.env := by rfl) (hpl : (backTo pos (starEach es X.env)).any (·.1) = false := by rfl)
    (ht : eval (.Call (.Attribute o m apos) (e :: es) [] pos) X.env = (do
      let ov ← eval o X.env
      standAt apos.atName
      let (f, first) ← holding [ov] (getMethod ov m pl)
      callWith pos f first (backTo pos (starEach (e :: es) X.env)) (backToKw pos (keywordEach [] X.env))) := by rfl) :
    PE X (.Call (.Attribute o m apos) (e :: es) [] pos) (tCMethS C sp E ta t) := by
  refine ⟨fun pins s σ H Q I h => PySem.W.methodCall_KW (pl := pl) (thn (he.run pins s σ H _ I h) fun u s1 ⟨x, H1, I1, rx, ex, q⟩ => ?_) ht⟩
  subst ex
  cases rx
  refine getmethcm_ok I1 r c fun s2 I2 => ?_
  refine callwith_cm I2 (base_none I1 (Nat.le_refl _)) c.fi (thn (ha.run pos _ s2 σ H1 _ I2 q) fun us s3 ⟨vs, H2, I3, rv, q2⟩ => ⟨⟨pin_at I3, I3.kIn⟩, ?_⟩) hst hpl
  have r2 : Vals (V.ref C :: vs) (Value.ref C :: us) := .cons rfl rv
  have hl : (Value.ref C :: us).length = ps.length := by rw [← r2.length]; exact F.len _ _ _ _ q2
  have b := hb s3 (Value.ref C :: us) I3.kIn (by rw [List.append_nil]; exact hl)
  rw [List.append_nil] at b
  exact run_cmA F hr b (hx σ) I3 r2 q2
/-- C.m(k = v, ..) -/
def tCMethK (C : Addr) (n : Nat) (sp : Sp) (gV : List V → List V → List V) (E : St → XK) (ta : TE) (tk : TA) : TE := fun σ H Q => ta σ H fun x H1 => x = .ref C ∧ tk σ H1 fun zs H2 => zs.length = n ∧ sp (gV [.ref C] zs) H2 Q (E σ)
theorem pe_cmethK {g1 : List Value → List Value → List Value} {gV : List V → List V → List V} (he : PE X o ta) (r : CRead X.K C mc) (c : CMet X.K C mc m p g) (F : FnOk X.prog X.w X.K X.mg X.base CX k g fd ps sp) (hr : Room k X.A) (hb : KBn X.K fd ps 1 ks g1 gV) (hx : ∀ σ, PassesAt CX X σ (E σ)) (hkw : PK X kws tk)
    (hall : (backToKw pos (keywordEach kws X.env)).all (·.1.isSome) = true := by rfl) (hks : (backToKw pos (keywordEach kws X.env)).filterMap (·.1) = ks := by rfl)
    (hpl : ((backTo pos (starEach [] X.env)).any (·.1) || (backToKw pos (keywordEach kws X.env)).any (·.1.isNone)) = false := by rfl)
    (ht : eval (.Call (.Attribute o m apos) [] kws pos) X.env = (do
      let ov ← eval o X.env
      standAt apos.atName
      let (f, first) ← holding [ov] (getMethod ov m pl)
      callWith pos f first (backTo pos (starEach [] X.env)) (backToKw pos (keywordEach kws X.env))) := by rfl) :
    PE X (.Call (.Attribute o m apos) [] kws pos) (tCMethK C ks.length sp gV E ta tk) := by
  refine ⟨fun pins s σ H Q I h => PySem.W.methodCall_KW (pl := pl) (thn (he.run pins s σ H _ I h) fun u s1 ⟨x, H1, I1, rx, ex, q⟩ => ?_) ht⟩
  subst ex
  cases rx
  refine getmethcm_ok I1 r c fun s2 I2 => ?_
  refine PySem.W.callWith_of (P := PySem.W.MethP X.K s1.heap.objs.size g (.ref C)) hpl (PySem.W.keeps_M c.fi) (PyProof.Rows.evalArgs_kw2_nil hall (thn (hkw.run pos _ s2 σ H1 _ I2 q) fun ws s3 ⟨zs, H2, I3, rz, lz, q2⟩ => ⟨⟨pin_at I3, I3.kIn⟩, ?_⟩))
  rw [hks]
  have b := hb.to s3 [Value.ref C] ws I3.kIn rfl (rz.length.symm.trans lz)
  exact run_cmA (us := []) F hr b (hx σ) I3 (hb.rel (show Vals [V.ref C] [Value.ref C] from .cons rfl .nil) rz) q2
/-- a class in a slot is called -/
def tMakeV (i : Nat) (C : Addr) (sp : Sp) (t : TA) : TE := fun σ H Q => σ[i]? = some (some (.ref C)) ∧ tMake C sp [] E0 t σ H Q
theorem pe_makeV {i : Nat} (hN : X.N[i]? = some x) (hv : Vis X.env.scope x) (M : Mk X.K C f) (F : FnOk X.prog X.w X.K X.mg X.base CX0 k f fd ps sp) (hr : Room (k + 1) X.A) (hb : Binds X.K fd ps []) (ha : PA X (e :: es) t)
    (hd : (x == ("__debug__" : Str)) = false := by decide) (hcd : (x == ("__classdict__" : Str)) = false := by decide) (he : starEach (e :: es) X.env = (false, eval e X.env) :: starEach es X.env := by rfl) (hpl : (backTo pos (starEach es X.env)).any (·.1) = false := by rfl) :
    PE X (.Call (.Name x np) (e :: es) [] pos) (tMakeV i C sp t) := by
  refine ⟨fun pins s σ H Q I h => ?_⟩
  obtain ⟨at_i, h⟩ := h
  refine wpAny_Call_Name_kw (thn ((pe_var (pos := np) hN hv hd hcd).run pins s σ H (fun v H1 => v = .ref C ∧ H1 = H) I ⟨.ref C, at_i, rfl, rfl⟩) fun u s1 ⟨v, H1, I1, r1, q1⟩ => ?_)
  obtain ⟨rfl, rfl⟩ := q1
  cases r1
  refine PySem.W.callWith_K (h₀ := X.base) I.ok.mod.kin M.kp (thn (ha.run pos pins s1 σ _ _ I1 h) fun us s2 ⟨vs, H2, I2, r, q⟩ => ⟨I2.kIn, ?_⟩) he hpl
  exact run_make M F hr hb .nil pass0 I2 r q
end
end L2.ClsCall
namespace L2.LawH
open PySem PySem.Spec PyProof.Rows L2.TxtSet TL L2.NSet PySem.W L2.ClsCall ClX L2.Cmp

/-- sorted(set(..)) of tuples of texts -/
theorem sorted_set {K : PySem.W.Frag} {P : Program} {w : World} {H : Hp} {q : Addr} {xs : List Pt} {Q : VK} (hq : SqL K H q (xs.map fun x => V.ref x.1) ∨ SqT K H q (xs.map fun x => V.ref x.1)) (each : ∀ x ∈ xs, H x.1 = some (.tup (ptV x))) (few : xs.length < 64)
    (k : ∀ (l : Addr) (M : List Pt) (H' : Hp), Same H H' → H l = none → H' l = some (.lst (M.map fun x => V.ref x.1)) → (∀ x ∈ M, x ∈ xs) → (∀ c, c ∈ M.map (·.2) ↔ c ∈ xs.map (·.2)) → Asc (M.map (·.2)) → Q (.ref l) H') :
    rSetN K P w [.ref q] H fun v H1 => rSortN K P w [v] H1 Q := by
  have em : (xs.map ptM).map (fun z : Mem => V.ref z.1) = xs.map fun x => V.ref x.1 := by
    rw [List.map_map]
    rfl
  refine ⟨q, xs.map ptM, rfl, by rw [em]; exact hq, fun z hz => ?_, by rw [List.length_map]; omega, fun sa L ns sub all nd => ?_⟩
  · obtain ⟨x, hx, rfl⟩ := List.mem_map.mp hz
    exact memOk_pt (each x hx)
  have s6 : Same H (upd H sa (SetN P w sa L)) := same_new ns
  have h6 : (upd H sa (SetN P w sa L)) sa = some (SetN P w sa L) := upd_same
  generalize upd H sa (SetN P w sa L) = H6 at s6 h6 ⊢
  refine ⟨sa, L, rfl, h6, fun z hz => ?_, fun d hd d2 hd2 => ?_, fun z hz => ?_, fun z hz => ?_, fun M l pM rM nl => ?_⟩
  · obtain ⟨x, hx, rfl⟩ := List.mem_map.mp (sub z hz)
    exact memOk_pt (s6 _ _ (each x hx))
  · obtain ⟨z, hz, rfl⟩ := List.mem_map.mp hd
    obtain ⟨z2, hz2, rfl⟩ := List.mem_map.mp hd2
    obtain ⟨x, hx, rfl⟩ := List.mem_map.mp (sub z hz)
    obtain ⟨x2, hx2, rfl⟩ := List.mem_map.mp (sub z2 hz2)
    exact alike_ptM x x2
  · obtain ⟨x, hx, rfl⟩ := List.mem_map.mp (sub z hz)
    exact ⟨_, rfl⟩
  · obtain ⟨x, hx, rfl⟩ := List.mem_map.mp (sub z hz)
    exact Nat.le_trans (ddepth_ptM x) (by decide)
  · obtain ⟨Ms, e, subM⟩ := lift_sub ptM (xs := xs) (M := M) fun z hz => sub z (pM.mem_iff.mp hz)
    subst e
    have e2 : (Ms.map ptM).map (fun p : Mem => V.ref p.1) = Ms.map fun x => V.ref x.1 := by
      rw [List.map_map]
      rfl
    rw [e2]
    have rise : Rise (fun x : Pt => (ptM x).2.data) Ms := List.pairwise_map.mp rM
    have ndM : (Ms.map (·.2)).Nodup := by
      have h1 : ((Ms.map ptM).map (·.2)).Nodup := (pM.map (·.2)).nodup_iff.mpr nd
      rw [List.map_map] at h1
      refine List.pairwise_map.mpr ((List.pairwise_map.mp h1).imp fun {a b} n e => n ?_)
      show (ptM a).2 = (ptM b).2
      unfold ptM
      rw [e]
    refine k l Ms _ (s6.trans (same_new nl)) (none_of s6 nl) upd_same subM (fun c => ⟨fun h => ?_, fun h => ?_⟩) (asc_riseM ndM rise)
    · obtain ⟨y, hy, rfl⟩ := List.mem_map.mp h
      exact List.mem_map.mpr ⟨y, subM y hy, rfl⟩
    · obtain ⟨y, hy, rfl⟩ := List.mem_map.mp h
      have h2 := all (ptM y) (List.mem_map_of_mem hy)
      have h3 := ((pM.map (·.2)).mem_iff).mpr h2
      rw [List.map_map] at h3
      obtain ⟨z, hz, e⟩ := List.mem_map.mp h3
      exact List.mem_map.mpr ⟨z, hz, ptM_inj e⟩
theorem fct_okv {K : PySem.W.Frag} {H : Hp} {x : Pt} (h : Fct x.2) : ∀ y ∈ ptV x, Okv K H y := by
  intro v hv
  have tm : ∀ z : Str, Nm z ∨ Vr z → Okv K H (.str z) := fun z hz => .inl ⟨z, rfl, Nat.le_trans (tm_len hz).2 (by decide)⟩
  unfold ptV at hv
  rcases List.mem_cons.mp hv with rfl | hv
  · exact tm _ (.inl h.nT)
  · obtain ⟨z, hz, rfl⟩ := List.mem_map.mp hv
    exact tm _ (h.nz z hz)
theorem Fct.pat {c : Fc} (h : Fct c) : patB (.str c.1 :: c.2.map V.str) = true := h.pg.pat
theorem join_sum (s : Nat) : ∀ X : List (List Nat), (X.map (·.length)).sum + X.length ≤ (joinL [s] X).length + 1
  | [] => by simp
  | [p] => by
    show [p.length].sum + 1 ≤ p.length + 1
    simp
  | p :: q :: r => by
    have ih := join_sum s (q :: r)
    rw [joinL_cons _ _ (by simp), List.map_cons, List.sum_cons, List.length_cons, List.length_append, List.length_append]
    simp only [List.length_singleton]
    omega
theorem join_texts (cs : List Fc) : tl (Txt.join (Str.ofString " ") (cs.map fun c => ptext c.1 c.2)) = joinL [32] (cs.map ptl) := by
  rw [join_eq, tl_join, map_ptl, show tl (Str.ofString " ") = [32] by decide +kernel]
section
variable {X : Cx}
theorem cut_drop (z : Str) (a n : Nat) (b : Int) (h : b = (a : Int) + n) : tl (cutS z (some (a : Int)) (some b)) = ((tl z).drop a).take n := by
  obtain rfl : b = ((a + n : Nat) : Int) := by omega
  show ((tl z).drop (HT.sIx z.length 0 (some (a : Int)))).take (HT.sIx z.length z.length (some ((a + n : Nat) : Int)) - HT.sIx z.length 0 (some (a : Int))) = _
  rw [HT.sIx_nat, HT.sIx_nat, len_tl z]
  rcases Nat.le_total a (tl z).length with h1 | h1
  · rw [Nat.min_eq_left h1]
    rcases Nat.le_total (a + n) (tl z).length with h2 | h2
    · rw [Nat.min_eq_left h2, Nat.add_sub_cancel_left]
    · rw [Nat.min_eq_right h2, List.take_of_length_le (l := (tl z).drop a) (i := n) (by rw [List.length_drop]; omega), List.take_of_length_le (by rw [List.length_drop]; omega)]
  · rw [Nat.min_eq_right h1, List.drop_of_length_le (Nat.le_refl _), List.drop_of_length_le h1, List.take_nil, List.take_nil]
theorem cut_is (z : Str) (a n : Nat) (b : Int) (p : Str) (h : b = (a : Int) + n) : decide (V.str (cutS z (some (a : Int)) (some b)) = V.str p) = decide (((tl z).drop a).take n = tl p) := by
  refine decide_eq_decide.mpr ⟨fun e => ?_, fun e => ?_⟩
  · rw [← cut_drop z a n b h, V.str.inj e]
  · exact congrArg V.str (ext_tl (by rw [cut_drop z a n b h, e]))
theorem take_len {α : Type} {l : List α} {n : Nat} {p : List α} (h : l.take n = p) (e : p.length = n) : n ≤ l.length := by
  rw [← h, List.length_take] at e
  omega
end
theorem un65 {k : Nat} {A : Around} (r : Room k A) : A.units + 65 < cLine := by
  have := r.un
  omega
theorem cut_from (z : Str) (k : Nat) : tl (cutS z (some (k : Int)) none) = (tl z).drop k := by
  show ((tl z).drop (HT.sIx z.length 0 (some (k : Int)))).take (HT.sIx z.length z.length none - HT.sIx z.length 0 (some (k : Int))) = _
  rw [HT.sIx_nat, HT.sIx_none, len_tl z]
  rcases Nat.le_total k (tl z).length with h | h
  · rw [Nat.min_eq_left h, List.take_of_length_le (by rw [List.length_drop]; omega)]
  · rw [Nat.min_eq_right h, Nat.sub_self, List.take_zero, List.drop_of_length_le h]
abbrev spS : Str := Str.ofString " "
theorem tl_sp : tl spS = [32] := by decide +kernel
theorem spl_count : ∀ (l acc : List Nat), (spl [32] 0 acc l).length = l.count 32 + 1
  | [], acc => by rw [spl_nil]; rfl
  | c :: r, acc => by
    by_cases hc : c = 32
    · rw [spl_hit (by rw [pre_one, decide_eq_true hc])]
      show (acc :: spl [32] 0 [] r).length = _
      rw [List.length_cons, spl_count r [], hc, List.count_cons_self]
    · rw [spl_miss (by rw [pre_one, decide_eq_false hc]), spl_count r, List.count_cons_of_ne hc]
theorem wrds_few (l : List Nat) : (wrds l).length ≤ l.count 32 + 1 := by
  unfold wrds
  split
  · exact Nat.zero_le _
  · rw [List.length_map, spl_count]
    exact Nat.le_refl _
theorem wrds_split {i : Str} (h : tl i ≠ []) : Txt.split i spS = wrds (tl i) := by
  have e := split_spl i spS (by rw [tl_sp]; simp) (kind_ok (by decide +kernel))
  rw [tl_sp] at e
  unfold wrds
  rw [if_neg h, ← e, List.map_map]
  conv => lhs; rw [← List.map_id (Txt.split i spS)]
  exact List.map_congr_left fun x _ => ext_tl (str_tl _).symm
theorem wrd_mem {l : List Nat} {y : Str} (h : y ∈ wrds l) : (tl y).length ≤ l.length ∧ ∀ c ∈ tl y, c ∈ l := by
  have m : tl y ∈ (wrds l).map tl := List.mem_map_of_mem h
  have e := join_wrds l
  refine ⟨?_, fun c hc => ?_⟩
  · have := part_le 32 _ _ m
    rwa [e] at this
  · have := part_mem 32 _ _ c m hc
    rwa [e] at this
theorem rdAll_map : ∀ {ws : List Str} {cs : List Fc}, ws.map rdOk = cs.map some → rdAll ws = some cs
  | [], [], _ => rfl
  | [], _ :: _, h => by cases h
  | _ :: _, [], h => by cases h
  | z :: ws, c :: cs, h => by
    rw [List.map_cons, List.map_cons] at h
    injection h with h1 h2
    rw [rdAll, h1, rdAll_map h2]
    rfl
theorem rdAll_no {ws : List Str} {cs : List Fc} (h : rdAll ws = some cs) : ws.map rdOk = cs.map some := by
  obtain ⟨e, f⟩ := rdAll_some h
  rw [e, List.map_map]
  exact List.map_congr_left fun c hc => (f c hc).rd
def rvO : Option Pt → V
  | none => .non
  | some x => .ref x.1
def dvO : Option Pt → PyData
  | none => .none
  | some x => facD x.2
theorem dp_rvO {K : PySem.W.Frag} {H : Hp} : ∀ {os : List (Option Pt)}, (∀ x, some x ∈ os → H x.1 = some (.tup (ptV x))) → DpAll K H (os.map rvO) (os.map dvO)
  | [], _ => .nil
  | none :: os, h => .cons .non (dp_rvO fun x m => h x (List.mem_cons_of_mem _ m))
  | some y :: os, h => .cons (dp_fact (h y List.mem_cons_self)) (dp_rvO fun x m => h x (List.mem_cons_of_mem _ m))
theorem any_dvO : ∀ os : List (Option Pt), ((os.map dvO).any fun z => PyData.eqv z .none) = os.any fun o => o.isNone
  | [] => rfl
  | none :: os => by
    rw [List.map_cons, List.any_cons, List.any_cons, any_dvO os]
    simp [dvO, PyData.eqv]
  | some y :: os => by
    rw [List.map_cons, List.any_cons, List.any_cons, any_dvO os]
    simp [dvO, facD, PyData.eqv]
theorem shaped_dvO {os : List (Option Pt)} (h : ∀ x, some x ∈ os → Fct x.2) : SeqAt.shaped (.list (os.map dvO)) = true := by
  have l : ∀ os : List (Option Pt), (∀ x, some x ∈ os → Fct x.2) → PyData.canLayAll0 (os.map dvO) = true := by
    intro os
    induction os with
    | nil => intro _; simp [PyData.canLayAll0]
    | cons o os ih =>
      intro h
      rw [List.map_cons, PyData.canLayAll0, ih fun x m => h x (List.mem_cons_of_mem _ m)]
      cases o with
      | none => simp [dvO, PyData.canLay0]
      | some y => simp [dvO, lay_fact (h y List.mem_cons_self)]
  have d : ∀ os : List (Option Pt), PyData.depthAll (os.map dvO) ≤ 1 := by
    intro os
    induction os with
    | nil => simp [PyData.depthAll]
    | cons o os ih =>
      rw [List.map_cons, PyData.depthAll]
      have : (dvO o).depth ≤ 1 := by
        cases o with
        | none => simp [dvO, PyData.depth]
        | some y => exact depth_fact _
      omega
  unfold SeqAt.shaped
  rw [PyData.canLay0, l os h, Bool.true_and, PyData.depth]
  have := d os
  exact decide_eq_true (by omega)
theorem all_some : ∀ {os : List (Option Pt)}, (os.any fun o => o.isNone) = false → ∃ xs : List Pt, os = xs.map some
  | [], _ => ⟨[], rfl⟩
  | none :: os, h => by simp at h
  | some y :: os, h => by
    obtain ⟨xs, e⟩ := all_some (os := os) (by simpa using h)
    exact ⟨y :: xs, by rw [List.map_cons, e]⟩
theorem pe_joinK {X : Cx} {K : PySem.W.Frag} (eK : X.K = K) {o e : Expr} {to te : TE} {apos pos : Pos} (ho : PE X o to) (he : PE X e te) (hs : starEach [e] X.env = [(false, eval e X.env)] := by rfl) (hbase : attributeBase o "join" X.env (eval o X.env) = eval o X.env := by rfl) (hline : (apos.endLine == pos.line) = true := by rfl) :
    PE X (.Call (.Attribute o "join" apos) [e] [] pos) (tM1 (fun x xs H Q => ∃ a p, ∃ ys : List Str, x = .str a ∧ xs = [.ref p] ∧ (SqL K H p (ys.map V.str) ∨ SqT K H p (ys.map V.str)) ∧
      (ys.map (·.length)).sum + ys.length * a.length ≤ 16777216 ∧ Q (.str (Txt.join a ys)) H) to te) := by
  subst eK
  exact pe_join ho he hs hbase hline
theorem ix_tupK {X : Cx} {K : PySem.W.Frag} (e : X.K = K) : IxR X (rIxT K) := by
  subst e
  exact ix_tup
theorem op_neNilC {X : Cx} {K : PySem.W.Frag} (e : X.K = K) (hu : X.A.units + 64 < cLine) : OpR X (compareOp .NotEq) (L2.LstNo.rNeNil K) := L2.LstNo.op_neNilK e hu
theorem split_sp (z : Str) : (Txt.split z spS).map tl = spl [32] 0 [] (tl z) := by
  have e := split_spl z spS (by rw [tl_sp]; simp) (kind_ok (by decide +kernel))
  rwa [tl_sp] at e
theorem join_sp (ws : List Str) : tl (Txt.join spS ws) = joinL [32] (ws.map tl) := by
  rw [join_eq, tl_join, tl_sp]
theorem joinL_len (X : List (List Nat)) : (joinL [32] X).length = (X.map (·.length)).sum + (X.length - 1) := by
  induction X with
  | nil => rfl
  | cons p r ih =>
    cases r with
    | nil =>
      show p.length = _
      simp
    | cons q r =>
      rw [joinL_cons _ _ (by simp), List.length_append, List.length_append, ih]
      have m1 : ((p :: q :: r).map (·.length)).sum = p.length + ((q :: r).map (·.length)).sum := by simp
      have l1 : (p :: q :: r).length = r.length + 2 := rfl
      have l2 : (q :: r).length = r.length + 1 := rfl
      have : ([32] : List Nat).length = 1 := rfl
      omega
theorem joinL_cnt (X : List (List Nat)) : (joinL [32] X).count 32 = (X.map (·.count 32)).sum + (X.length - 1) := by
  induction X with
  | nil => rfl
  | cons p r ih =>
    cases r with
    | nil =>
      show p.count 32 = _
      simp
    | cons q r =>
      rw [joinL_cons _ _ (by simp), List.count_append, List.count_append, ih]
      have m1 : ((p :: q :: r).map (·.count 32)).sum = p.count 32 + ((q :: r).map (·.count 32)).sum := by simp
      have l1 : (p :: q :: r).length = r.length + 2 := rfl
      have l2 : (q :: r).length = r.length + 1 := rfl
      have : List.count 32 ([32] : List Nat) = 1 := by decide
      omega
theorem spl_nosep : ∀ (l acc : List Nat), 32 ∉ acc → ∀ p ∈ spl [32] 0 acc l, 32 ∉ p
  | [], acc, h, p, m => by
    rw [spl_nil] at m
    rw [List.mem_singleton.mp m]
    exact h
  | c :: r, acc, h, p, m => by
    by_cases hc : c = 32
    · rw [spl_hit (by rw [pre_one, decide_eq_true hc])] at m
      rcases List.mem_cons.mp m with rfl | m
      · exact h
      · exact spl_nosep r [] (by simp) p m
    · rw [spl_miss (by rw [pre_one, decide_eq_false hc])] at m
      refine spl_nosep r (acc ++ [c]) (fun q => ?_) p m
      rcases List.mem_append.mp q with q | q
      · exact h q
      · exact hc (List.mem_singleton.mp q).symm
theorem word_nosp {z w : Str} (h : w ∈ Txt.split z spS) : (tl w).count 32 = 0 := by
  refine List.count_eq_zero.mpr ?_
  have m : tl w ∈ (Txt.split z spS).map tl := List.mem_map_of_mem h
  rw [split_sp] at m
  exact spl_nosep _ _ (by simp) _ m
theorem cutV_to (xs : List V) (k : Nat) : cutV xs none (some (k : Int)) = xs.take k := by
  unfold cutV
  rw [HT.sIx_nat, HT.sIx_none, List.drop_zero, Nat.sub_zero]
  rcases Nat.le_total k xs.length with h | h
  · rw [Nat.min_eq_left h]
  · rw [Nat.min_eq_right h, List.take_of_length_le (Nat.le_refl _), List.take_of_length_le h]
theorem cutV_from (xs : List V) (k : Nat) : cutV xs (some (k : Int)) none = xs.drop k := by
  unfold cutV
  rw [HT.sIx_nat, HT.sIx_none]
  rcases Nat.le_total k xs.length with h | h
  · rw [Nat.min_eq_left h]
    refine List.take_of_length_le ?_
    rw [List.length_drop]
    omega
  · rw [Nat.min_eq_right h, List.drop_of_length_le h, List.drop_of_length_le (Nat.le_refl _), List.take_nil]
theorem cutV_pn (xs : List V) (a n : Nat) (b : Int) (h : b = (a : Int) + n) : cutV xs (some (a : Int)) (some b) = (xs.drop a).take n := by
  obtain rfl : b = ((a + n : Nat) : Int) := by omega
  unfold cutV
  rw [HT.sIx_nat, HT.sIx_nat]
  rcases Nat.le_total a xs.length with h1 | h1
  · rw [Nat.min_eq_left h1]
    rcases Nat.le_total (a + n) xs.length with h2 | h2
    · rw [Nat.min_eq_left h2, Nat.add_sub_cancel_left]
    · rw [Nat.min_eq_right h2, List.take_of_length_le (l := xs.drop a) (i := n) (by rw [List.length_drop]; omega), List.take_of_length_le (by rw [List.length_drop]; omega)]
  · rw [Nat.min_eq_right h1, List.drop_of_length_le (Nat.le_refl _), List.drop_of_length_le h1, List.take_nil, List.take_nil]
theorem op_mul_str {X : Cx} : OpR X (binaryOp .Mult) (fun x y H Q => ∃ i n, x = .str i ∧ y = .int n ∧ MulOk i n ∧ Q (.str (Txt.mul i n)) H) := by
  intro pins s σ H x y v u Q I rx ry h
  obtain ⟨i, n, rfl, rfl, hz, q⟩ := h
  obtain ⟨t, rfl⟩ := rx
  obtain ⟨t', rfl⟩ := ry
  exact SB.mul hz fun t' k => ⟨.str (Txt.mul i n), H, I.tok _, ⟨_, rfl⟩, q⟩
theorem foldl_app : ∀ (L : List (Array Nat)) (acc : Array Nat), (L.foldl (· ++ ·) acc).toList = acc.toList ++ (L.map (·.toList)).flatten
  | [], acc => by simp
  | x :: L, acc => by
    rw [List.foldl_cons, foldl_app L (acc ++ x), List.map_cons, List.flatten_cons, Array.toList_append, List.append_assoc]
theorem tl_mul (x : Str) (n : Nat) : tl (Txt.mul x (n : Int)) = (List.replicate n (tl x)).flatten := by
  unfold Txt.mul
  by_cases h : (n : Int) < 1
  · rw [if_pos h]
    have : n = 0 := by omega
    subst this
    rfl
  · rw [if_neg h]
    by_cases h2 : ((n : Int) == 1 || x.length == 0) = true
    · rw [if_pos h2]
      rw [Bool.or_eq_true] at h2
      rcases h2 with h2 | h2
      · have : n = 1 := by
          have := eq_of_beq h2
          omega
        subst this
        simp
      · have : x.length = 0 := eq_of_beq h2
        rw [len_tl] at this
        have e : tl x = [] := List.length_eq_zero_iff.mp this
        rw [e]
        simp
    · rw [if_neg h2]
      show ((List.replicate ((n : Int).toNat) x.cps).foldl (· ++ ·) #[]).toList = _
      rw [foldl_app, Int.toNat_natCast, List.map_replicate]
      simp [tl]
open Builtin Builtin.Str in
theorem mul_ok {x : Str} {n : Nat} (h : x.length * n ≤ 10000) (hn : n ≤ 100) : MulOk x (n : Int) := by
  refine ⟨?_, fun h1 h2 => ?_, fun h1 h2 => ?_⟩
  · rw [Bool.or_eq_false_iff]
    exact ⟨decide_eq_false (by omega), decide_eq_false (by omega)⟩
  · have n1 : (1 : Int) ≤ n := by omega
    intro h3
    have h4 : ((x.length : Int)) ≤ (2 ^ 63 - 1) / (n : Int) := by
      refine Int.le_ediv_of_mul_le (by omega) ?_
      have e : ((x.length * n : Nat) : Int) ≤ 10000 := by omega
      rw [Int.natCast_mul] at e
      omega
    omega
  · unfold tooLong
    refine decide_eq_false ?_
    rw [Int.toNat_natCast, sizeLine_eq]
    omega
theorem mul_len (x : Str) (n : Nat) : (Txt.mul x (n : Int)).length = n * x.length := by
  rw [len_tl, tl_mul, len_tl]
  simp
theorem flat_one (c n : Nat) : (List.replicate n [c]).flatten = List.replicate n c := by
  induction n with
  | zero => rfl
  | succ n ih => rw [List.replicate_succ, List.flatten_cons, ih, List.replicate_succ]; rfl
end L2.LawH
set_option Elab.async false
set_option linter.all false
set_option maxRecDepth 100000
set_option maxHeartbeats 4000000
/-! Lots in order, their variables; trees by their parents. -/
namespace L2.LawH
open PySem PySem.Spec PyProof.Rows TL L2.TxtSet
/-! ### a lot in order -/
def insF (c : Fc) : List Fc → List Fc
  | [] => [c]
  | d :: r => if ltF c d = true then c :: d :: r else if ltF d c = true then d :: insF c r else d :: r
def nrm (cs : List Fc) : List Fc := cs.foldr insF []
theorem insF_mem {c x : Fc} : ∀ l : List Fc, x ∈ insF c l ↔ x = c ∨ x ∈ l
  | [] => by simp [insF]
  | d :: r => by
    unfold insF
    by_cases h : ltF c d = true
    · rw [if_pos h]
      simp
    · rw [if_neg h]
      by_cases h2 : ltF d c = true
      · rw [if_pos h2, List.mem_cons, insF_mem r, List.mem_cons]
        exact ⟨fun z => z.elim (fun z => .inr (.inl z)) fun z => z.elim .inl fun z => .inr (.inr z), fun z => z.elim (fun z => .inr (.inl z)) fun z => z.elim .inl fun z => .inr (.inr z)⟩
      · rw [if_neg h2]
        have e : c = d := ltF_anti (by simpa using h) (by simpa using h2)
        rw [e]
        simp
theorem insF_asc {c : Fc} : ∀ l : List Fc, Asc l → Asc (insF c l)
  | [], _ => List.pairwise_singleton _ _
  | d :: r, h => by
    obtain ⟨h1, h2⟩ := List.pairwise_cons.mp h
    unfold insF
    by_cases a : ltF c d = true
    · rw [if_pos a]
      refine List.pairwise_cons.mpr ⟨fun y hy => ?_, h⟩
      rcases List.mem_cons.mp hy with rfl | hy
      · exact a
      · exact ltF_trans a (h1 y hy)
    · rw [if_neg a]
      by_cases b : ltF d c = true
      · rw [if_pos b]
        refine List.pairwise_cons.mpr ⟨fun y hy => ?_, insF_asc r h2⟩
        rcases (insF_mem r).mp hy with rfl | hy
        · exact b
        · exact h1 y hy
      · rw [if_neg b]
        exact h
theorem nrm_mem {x : Fc} : ∀ {cs : List Fc}, x ∈ nrm cs ↔ x ∈ cs
  | [] => Iff.rfl
  | c :: cs => by
    show x ∈ insF c (nrm cs) ↔ _
    rw [insF_mem, nrm_mem, List.mem_cons]
theorem nrm_asc : ∀ cs : List Fc, Asc (nrm cs)
  | [] => List.Pairwise.nil
  | c :: cs => insF_asc _ (nrm_asc cs)
theorem nrm_of {a cs : List Fc} (ha : Asc a) (h : ∀ c, c ∈ a ↔ c ∈ cs) : a = nrm cs := asc_one ha (nrm_asc cs) fun c => (h c).trans nrm_mem.symm
theorem nrm_self {a : List Fc} (ha : Asc a) : nrm a = a := (nrm_of ha fun _ => Iff.rfl).symm
theorem nrm_len (cs : List Fc) : (nrm cs).length ≤ cs.length := nodup_len _ _ (nrm_asc cs).nodup fun _ h => nrm_mem.mp h
theorem nrm_nil {cs : List Fc} : nrm cs = [] ↔ cs = [] := by
  cases cs with
  | nil => exact ⟨fun _ => rfl, fun _ => rfl⟩
  | cons c cs =>
    refine ⟨fun h => ?_, fun h => nomatch h⟩
    have : c ∈ nrm (c :: cs) := nrm_mem.mpr List.mem_cons_self
    rw [h] at this
    cases this
/-! ### the variables of a lot -/
def insT (z : Str) : List Str → List Str
  | [] => [z]
  | y :: r => if z.cps.toList ≤ y.cps.toList then z :: y :: r else y :: insT z r
def srtT (l : List Str) : List Str := l.foldr insT []
theorem insT_perm (z : Str) : ∀ l : List Str, (insT z l).Perm (z :: l)
  | [] => List.Perm.refl _
  | y :: r => by
    unfold insT
    by_cases h : z.cps.toList ≤ y.cps.toList
    · rw [if_pos h]
    · rw [if_neg h]
      exact ((insT_perm z r).cons y).trans (List.Perm.swap z y r)
theorem insT_pw (z : Str) : ∀ l : List Str, (l.Pairwise fun a b => a.cps.toList ≤ b.cps.toList) → (insT z l).Pairwise fun a b => a.cps.toList ≤ b.cps.toList
  | [], _ => List.pairwise_singleton _ _
  | y :: r, h => by
    obtain ⟨h1, h2⟩ := List.pairwise_cons.mp h
    unfold insT
    by_cases a : z.cps.toList ≤ y.cps.toList
    · rw [if_pos a]
      refine List.pairwise_cons.mpr ⟨fun x hx => ?_, h⟩
      rcases List.mem_cons.mp hx with rfl | hx
      · exact a
      · exact List.le_trans a (h1 x hx)
    · rw [if_neg a]
      refine List.pairwise_cons.mpr ⟨fun x hx => ?_, insT_pw z r h2⟩
      rcases List.mem_cons.mp ((insT_perm z r).mem_iff.mp hx) with rfl | hx
      · exact (List.le_total _ _).resolve_left a
      · exact h1 x hx
theorem srtT_perm : ∀ l : List Str, (srtT l).Perm l
  | [] => List.Perm.refl _
  | z :: l => (insT_perm z _).trans ((srtT_perm l).cons z)
theorem srtT_pw : ∀ l : List Str, (srtT l).Pairwise fun a b => a.cps.toList ≤ b.cps.toList
  | [] => List.Pairwise.nil
  | z :: l => insT_pw z _ (srtT_pw l)
theorem rising_of : ∀ (l : List Str) (p : Str), ((p :: l).Pairwise fun a b => a.cps.toList ≤ b.cps.toList) → risingS p l = true
  | [], _, _ => rfl
  | x :: r, p, h => by
    obtain ⟨h1, h2⟩ := List.pairwise_cons.mp h
    simp only [risingS, Bool.and_eq_true, Bool.not_eq_true', ltCps_eq, decide_eq_false_iff_not, List.not_lt]
    exact ⟨h1 x List.mem_cons_self, rising_of r x h2⟩
theorem sorted_of {l : List Str} (h : l.Pairwise fun a b => a.cps.toList ≤ b.cps.toList) : sortedS l = true := by
  cases l with
  | nil => rfl
  | cons x r => exact rising_of r x h
def vrs (cs : List Fc) : List Str := (cs.flatMap fun c => c.2).filter isV
theorem frees_vrs (xs : List Pt) : frees xs = vrs (xs.map (·.2)) := by
  unfold frees vrs
  rw [List.flatMap_map]
def nms (cs : List Fc) : List Str := srtT (uniq (vrs cs))
theorem nms_of {ys : List Str} {cs : List Fc} (p : ys.Perm (uniq (vrs cs))) (s : sortedS ys = true) : ys = nms cs := asc_eq s (sorted_of (srtT_pw _)) p (srtT_perm _)
theorem nms_mem {z : Str} {cs : List Fc} : z ∈ nms cs ↔ ∃ c ∈ cs, z ∈ c.2 ∧ isV z = true := by
  unfold nms vrs
  rw [(srtT_perm _).mem_iff, uniq_mem, List.mem_filter, List.mem_flatMap]
  exact ⟨fun ⟨⟨c, h1, h2⟩, h3⟩ => ⟨c, h1, h2, h3⟩, fun ⟨c, h1, h2, h3⟩ => ⟨⟨c, h1, h2⟩, h3⟩⟩
theorem nms_nodup (cs : List Fc) : (nms cs).Nodup := (srtT_perm _).nodup_iff.mpr (uniq_nodup _)
theorem nms_sorted (cs : List Fc) : sortedS (nms cs) = true := sorted_of (srtT_pw _)
theorem nms_ext {a b : List Fc} (h : ∀ c, c ∈ a ↔ c ∈ b) : nms a = nms b := by
  refine asc_eq (u := nms b) (nms_sorted a) (nms_sorted b) ?_ (List.Perm.refl _)
  refine (List.perm_ext_iff_of_nodup (nms_nodup a) (nms_nodup b)).mpr fun z => ?_
  rw [nms_mem, nms_mem]
  exact ⟨fun ⟨c, h1, h2⟩ => ⟨c, (h c).mp h1, h2⟩, fun ⟨c, h1, h2⟩ => ⟨c, (h c).mpr h1, h2⟩⟩
theorem nms_nrm (cs : List Fc) : nms (nrm cs) = nms cs := nms_ext fun _ => nrm_mem
theorem nms_len (cs : List Fc) : (nms cs).length ≤ (vrs cs).length := by
  unfold nms
  rw [(srtT_perm _).length_eq]
  exact uniq_len _
theorem isV_vr {z : Str} (o : Nm z ∨ Vr z) (h : isV z = true) : Vr z := by
  rcases o with o | o
  · have := nmB_var h
    rw [show nmB z.cps.toList = true from o] at this
    cases this
  · exact o
theorem nms_vr {cs : List Fc} (h : ∀ c ∈ cs, Fct c) {z : Str} (m : z ∈ nms cs) : Vr z := by
  obtain ⟨c, hc, hz, v⟩ := nms_mem.mp m
  exact isV_vr ((h c hc).nz z hz) v
/-! ### trees by their parents -/
def pa (ps : List (Option Nat)) (k : Nat) : Option Nat := (ps[k]?).join
structure Wf (ps : List (Option Nat)) : Prop where
  rt : pa ps 0 = none
  up : ∀ k, 0 < k → k < ps.length → ∃ p, pa ps k = some p ∧ p < k
theorem pa_lt {ps : List (Option Nat)} {k p : Nat} (h : pa ps k = some p) : k < ps.length := by
  unfold pa at h
  by_cases l : k < ps.length
  · exact l
  · rw [List.getElem?_eq_none (by omega)] at h
    cases h
theorem Wf.lt {ps : List (Option Nat)} (w : Wf ps) {k p : Nat} (h : pa ps k = some p) : p < k ∧ k < ps.length := by
  have l := pa_lt h
  refine ⟨?_, l⟩
  rcases Nat.eq_zero_or_pos k with e | e
  · subst e
    rw [w.rt] at h
    cases h
  · obtain ⟨q, h1, h2⟩ := w.up k e l
    rw [h1] at h
    cases h
    exact h2
def kids (ps : List (Option Nat)) (k : Nat) : List Nat := (List.range ps.length).filter fun j => decide (pa ps j = some k)
theorem kids_mem {ps : List (Option Nat)} {k j : Nat} : j ∈ kids ps k ↔ pa ps j = some k := by
  unfold kids
  rw [List.mem_filter, List.mem_range, decide_eq_true_eq]
  exact ⟨fun h => h.2, fun h => ⟨pa_lt h, h⟩⟩
theorem kids_nodup (ps : List (Option Nat)) (k : Nat) : (kids ps k).Nodup := List.nodup_range.filter _
def ordF (ps : List (Option Nat)) : Nat → Nat → List Nat
  | 0, k => [k]
  | f + 1, k => k :: (kids ps k).flatMap (ordF ps f)
theorem flat_congr {α β : Type} {f g : α → List β} : ∀ {l : List α}, (∀ x ∈ l, f x = g x) → l.flatMap f = l.flatMap g
  | [], _ => rfl
  | x :: l, h => by rw [List.flatMap_cons, List.flatMap_cons, h x List.mem_cons_self, flat_congr fun y hy => h y (List.mem_cons_of_mem _ hy)]
theorem ordF_fuel {ps : List (Option Nat)} (w : Wf ps) : ∀ (f f' k : Nat), ps.length ≤ k + f → ps.length ≤ k + f' → ordF ps f k = ordF ps f' k
  | 0, 0, _, _, _ => rfl
  | 0, f' + 1, k, h, _ => by
    have : kids ps k = [] := List.eq_nil_iff_forall_not_mem.mpr fun j hj => by
      have := w.lt (kids_mem.mp hj)
      omega
    rw [ordF, ordF, this]
    rfl
  | f + 1, 0, k, _, h => by
    have : kids ps k = [] := List.eq_nil_iff_forall_not_mem.mpr fun j hj => by
      have := w.lt (kids_mem.mp hj)
      omega
    rw [ordF, ordF, this]
    rfl
  | f + 1, f' + 1, k, h, h' => by
    rw [ordF, ordF]
    refine congrArg _ (flat_congr fun j hj => ?_)
    have := w.lt (kids_mem.mp hj)
    exact ordF_fuel w f f' j (by omega) (by omega)
def ord (ps : List (Option Nat)) (k : Nat) : List Nat := ordF ps ps.length k
theorem ord_eq {ps : List (Option Nat)} (w : Wf ps) (k : Nat) : ord ps k = k :: (kids ps k).flatMap (ord ps) := by
  unfold ord
  rw [ordF_fuel w ps.length (ps.length + 1) k (by omega) (by omega), ordF]
theorem kids_ind {ps : List (Option Nat)} (w : Wf ps) {Q : Nat → Prop} (h : ∀ k, (∀ j ∈ kids ps k, Q j) → Q k) (k : Nat) : Q k := by
  have key : ∀ n k, ps.length ≤ k + n → Q k := by
    intro n
    induction n with
    | zero =>
      intro k e
      refine h k fun j hj => ?_
      have := w.lt (kids_mem.mp hj)
      omega
    | succ n ih =>
      intro k e
      refine h k fun j hj => ih j ?_
      have := w.lt (kids_mem.mp hj)
      omega
  exact key ps.length k (by omega)
def pthF (ps : List (Option Nat)) : Nat → Nat → List Nat
  | 0, k => [k]
  | f + 1, k => match pa ps k with
    | none => [k]
    | some p => pthF ps f p ++ [k]
theorem pthF_fuel {ps : List (Option Nat)} (w : Wf ps) : ∀ (f f' k : Nat), k ≤ f → k ≤ f' → pthF ps f k = pthF ps f' k
  | 0, 0, _, _, _ => rfl
  | 0, f' + 1, k, h, _ => by
    have : k = 0 := by omega
    subst this
    rw [pthF, pthF, w.rt]
  | f + 1, 0, k, _, h => by
    have : k = 0 := by omega
    subst this
    rw [pthF, pthF, w.rt]
  | f + 1, f' + 1, k, h, h' => by
    rw [pthF, pthF]
    cases e : pa ps k with
    | none => rfl
    | some p =>
      have := w.lt e
      show pthF ps f p ++ [k] = pthF ps f' p ++ [k]
      rw [pthF_fuel w f f' p (by omega) (by omega)]
def pth (ps : List (Option Nat)) (k : Nat) : List Nat := pthF ps k k
theorem pth_root {ps : List (Option Nat)} {k : Nat} (h : pa ps k = none) : pth ps k = [k] := by
  unfold pth
  cases k with
  | zero => rfl
  | succ k => rw [pthF, h]
theorem pth_step {ps : List (Option Nat)} (w : Wf ps) {k p : Nat} (h : pa ps k = some p) : pth ps k = pth ps p ++ [k] := by
  have l := w.lt h
  unfold pth
  cases k with
  | zero => omega
  | succ k =>
    rw [pthF, h]
    show pthF ps k p ++ [k + 1] = _
    rw [pthF_fuel w k p p (by omega) (by omega)]
theorem pth_end {ps : List (Option Nat)} (w : Wf ps) (k : Nat) : ∃ l, pth ps k = l ++ [k] := by
  cases e : pa ps k with
  | none => exact ⟨[], pth_root e⟩
  | some p => exact ⟨_, pth_step w e⟩
theorem pth_last {ps : List (Option Nat)} (w : Wf ps) {k j : Nat} (h : pth ps k = pth ps j) : k = j := by
  obtain ⟨a, ea⟩ := pth_end w k
  obtain ⟨b, eb⟩ := pth_end w j
  rw [ea, eb] at h
  have := congrArg List.getLast? h
  simpa using this
def dp (ps : List (Option Nat)) (k : Nat) : Nat := (pth ps k).length - 1
theorem dp_len {ps : List (Option Nat)} (w : Wf ps) (k : Nat) : (pth ps k).length = dp ps k + 1 := by
  obtain ⟨l, e⟩ := pth_end w k
  unfold dp
  rw [e]
  simp
theorem dp_root {ps : List (Option Nat)} {k : Nat} (h : pa ps k = none) : dp ps k = 0 := by
  unfold dp
  rw [pth_root h]
  rfl
theorem dp_step {ps : List (Option Nat)} (w : Wf ps) {k p : Nat} (h : pa ps k = some p) : dp ps k = dp ps p + 1 := by
  have := dp_len w p
  unfold dp at *
  rw [pth_step w h]
  simp
  omega
/-- what is beneath a node has its way -/
theorem ord_pth {ps : List (Option Nat)} (w : Wf ps) : ∀ (k : Nat), ∀ j ∈ ord ps k, pth ps k <+: pth ps j := by
  refine kids_ind w fun k ih j hj => ?_
  rw [ord_eq w] at hj
  rcases List.mem_cons.mp hj with rfl | hj
  · exact List.prefix_refl _
  · obtain ⟨c, hc, hj⟩ := List.mem_flatMap.mp hj
    refine List.IsPrefix.trans ?_ (ih c hc j hj)
    rw [pth_step w (kids_mem.mp hc)]
    exact List.prefix_append _ _
theorem pfx_one {α : Type} {a b c : List α} (h1 : a <+: c) (h2 : b <+: c) (e : a.length = b.length) : a = b := by
  rw [List.prefix_iff_eq_take.mp h1, List.prefix_iff_eq_take.mp h2, e]
theorem kid_dp {ps : List (Option Nat)} (w : Wf ps) {k c : Nat} (h : c ∈ kids ps k) : (pth ps c).length = (pth ps k).length + 1 := by
  rw [pth_step w (kids_mem.mp h)]
  simp
theorem ord_nodup {ps : List (Option Nat)} (w : Wf ps) : ∀ k : Nat, (ord ps k).Nodup := by
  refine kids_ind w fun k ih => ?_
  rw [ord_eq w]
  refine List.nodup_cons.mpr ⟨fun m => ?_, ?_⟩
  · obtain ⟨c, hc, hm⟩ := List.mem_flatMap.mp m
    have := (ord_pth w c k hm).length_le
    have := kid_dp w hc
    omega
  · refine List.nodup_iff_pairwise_ne.mpr (List.pairwise_flatMap.mpr ⟨fun c hc => List.nodup_iff_pairwise_ne.mp (ih c hc), ?_⟩)
    have nd := kids_nodup ps k
    refine (List.nodup_iff_pairwise_ne.mp nd).imp_of_mem fun {c d} hc hd ne x hx y hy e => ne ?_
    subst e
    refine pth_last w (pfx_one (ord_pth w c x hx) (ord_pth w d x hy) ?_)
    rw [kid_dp w hc, kid_dp w hd]
theorem ord_lt {ps : List (Option Nat)} (w : Wf ps) : ∀ k, k < ps.length → ∀ j ∈ ord ps k, j < ps.length := by
  refine kids_ind w fun k ih l j hj => ?_
  rw [ord_eq w] at hj
  rcases List.mem_cons.mp hj with rfl | hj
  · exact l
  · obtain ⟨c, hc, hj⟩ := List.mem_flatMap.mp hj
    exact ih c hc (pa_lt (kids_mem.mp hc)) j hj
/-- whoever is beneath, but is not the top, has a parent beneath -/
theorem ord_up {ps : List (Option Nat)} (w : Wf ps) : ∀ k, ∀ j ∈ ord ps k, j ≠ k → ∃ p ∈ ord ps k, pa ps j = some p := by
  refine kids_ind w fun k ih j hj ne => ?_
  rw [ord_eq w] at hj ⊢
  rcases List.mem_cons.mp hj with rfl | hj
  · exact absurd rfl ne
  · obtain ⟨c, hc, hj⟩ := List.mem_flatMap.mp hj
    by_cases e : j = c
    · subst e
      exact ⟨k, List.mem_cons_self, kids_mem.mp hc⟩
    · obtain ⟨p, h1, h2⟩ := ih c hc j hj e
      exact ⟨p, List.mem_cons_of_mem _ (List.mem_flatMap.mpr ⟨c, hc, h1⟩), h2⟩
end L2.LawH
set_option Elab.async false
set_option linter.all false
set_option maxRecDepth 100000
set_option maxHeartbeats 4000000
/-! Lines that tell a tree. -/
namespace L2.LawH
open PySem PySem.Spec PyProof.Rows TL L2.TxtSet
/-! ### one node more, at the end of the last way -/
theorem pth_pre {ps : List (Option Nat)} (w : Wf ps) : ∀ (n k : Nat), k ≤ n → ∀ l c r, pth ps k = l ++ c :: r → pth ps c = l ++ [c] := by
  intro n
  induction n with
  | zero =>
    intro k hk l c r e
    have : k = 0 := by omega
    subst this
    rw [pth_root w.rt] at e
    cases l with
    | nil =>
      injection e with e1 e2
      rw [← e1, pth_root w.rt]
      rfl
    | cons x l => simp at e
  | succ n ih =>
    intro k hk l c r e
    cases h : pa ps k with
    | none =>
      rw [pth_root h] at e
      cases l with
      | nil =>
        injection e with e1 e2
        rw [← e1, pth_root h]
        rfl
      | cons x l => simp at e
    | some p =>
      have lt := w.lt h
      rw [pth_step w h] at e
      rcases List.eq_nil_or_concat r with rfl | ⟨r', y, rfl⟩
      · have e2 := List.append_inj' e rfl
        have : k = c := by simpa using e2.2
        rw [← this, pth_step w h, e2.1]
      · rw [show l ++ c :: (r'.concat y) = (l ++ c :: r') ++ [y] by simp] at e
        have e2 := List.append_inj' e rfl
        exact ih p (by omega) l c r' e2.1
section
variable {ps : List (Option Nat)} {p : Nat}
theorem pa_old (k : Nat) (h : k < ps.length) : pa (ps ++ [some p]) k = pa ps k := by
  unfold pa
  rw [List.getElem?_append_left h]
theorem pa_new : pa (ps ++ [some p]) ps.length = some p := by
  unfold pa
  rw [List.getElem?_append_right (Nat.le_refl _)]
  simp
theorem wf_more (w : Wf ps) (hp : p < ps.length) : Wf (ps ++ [some p]) := by
  refine ⟨by rw [pa_old _ (by omega)]; exact w.rt, fun k h0 hk => ?_⟩
  rw [List.length_append, List.length_singleton] at hk
  by_cases e : k = ps.length
  · subst e
    exact ⟨p, pa_new, hp⟩
  · rw [pa_old _ (by omega)]
    exact w.up k h0 (by omega)
theorem pth_old (w : Wf ps) (hp : p < ps.length) : ∀ (n k : Nat), k ≤ n → k < ps.length → pth (ps ++ [some p]) k = pth ps k := by
  intro n
  induction n with
  | zero =>
    intro k h h2
    have : k = 0 := by omega
    subst this
    rw [pth_root w.rt, pth_root (wf_more w hp).rt]
  | succ n ih =>
    intro k h h2
    cases e : pa ps k with
    | none => rw [pth_root e, pth_root ((pa_old k h2).trans e)]
    | some q =>
      have := w.lt e
      rw [pth_step w e, pth_step (wf_more w hp) ((pa_old k h2).trans e), ih q (by omega) (by omega)]
theorem kids_more (k : Nat) : kids (ps ++ [some p]) k = kids ps k ++ (if p = k then [ps.length] else []) := by
  unfold kids
  rw [List.length_append, List.length_singleton, List.range_succ, List.filter_append]
  congr 1
  · refine List.filter_congr fun j hj => ?_
    rw [pa_old _ (List.mem_range.mp hj)]
  · by_cases e : p = k
    · rw [if_pos e]
      simp [pa_new, e]
    · rw [if_neg e]
      simp [pa_new, e]
theorem ord_same (w : Wf ps) (hp : p < ps.length) : ∀ k, k < ps.length → ¬ (pth ps k <+: pth ps p) → ord (ps ++ [some p]) k = ord ps k := by
  have w' := wf_more w hp
  refine kids_ind w fun k ih hk no => ?_
  rw [ord_eq w, ord_eq w', kids_more, if_neg (fun (e : p = k) => no (by rw [e]; exact List.prefix_refl _)), List.append_nil]
  refine congrArg _ (flat_congr fun c hc => ih c hc (pa_lt (kids_mem.mp hc)) fun h => no (List.IsPrefix.trans ?_ h))
  rw [pth_step w (kids_mem.mp hc)]
  exact List.prefix_append _ _
theorem ord_last (w : Wf ps) (hp : p < ps.length) {m : Nat} (hm : pth ps p <+: pth ps m) : ∀ k, k < ps.length → pth ps k <+: pth ps p → (ord ps k).getLast? = some m → ord (ps ++ [some p]) k = ord ps k ++ [ps.length] := by
  have w' := wf_more w hp
  refine kids_ind w fun k ih hk le hl => ?_
  rw [ord_eq w'] 
  rw [ord_eq w] at hl ⊢
  rw [kids_more, List.flatMap_append]
  by_cases e : p = k
  · subst e
    rw [if_pos rfl]
    have e1 : (kids ps p).flatMap (ord (ps ++ [some p])) = (kids ps p).flatMap (ord ps) := flat_congr fun c hc => ord_same w hp c (pa_lt (kids_mem.mp hc)) fun h => by
      have := h.length_le
      have := kid_dp w hc
      omega
    have e2 : ord (ps ++ [some p]) ps.length = [ps.length] := by
      rw [ord_eq w']
      have : kids (ps ++ [some p]) ps.length = [] := List.eq_nil_iff_forall_not_mem.mpr fun j hj => by
        have := w'.lt (kids_mem.mp hj)
        rw [List.length_append, List.length_singleton] at this
        omega
      rw [this]
      rfl
    rw [e1, List.flatMap_singleton, e2]
    rfl
  · rw [if_neg e, List.flatMap_nil, List.append_nil]
    obtain ⟨r, hr⟩ := le
    obtain ⟨lk, ek⟩ := pth_end w k
    cases r with
    | nil =>
      rw [List.append_nil] at hr
      exact absurd (pth_last w hr).symm e
    | cons c r =>
      have hc := pth_pre w p p (Nat.le_refl _) _ _ _ hr.symm
      have kc : c ∈ kids ps k := by
        refine kids_mem.mpr ?_
        cases hpa : pa ps c with
        | none =>
          rw [pth_root hpa, ek] at hc
          have := congrArg List.length hc
          simp at this
        | some q =>
          rw [pth_step w hpa] at hc
          rw [pth_last w (List.append_inj' hc rfl).1]
      have cp : pth ps c <+: pth ps p := by
        rw [hc, ← hr]
        exact ⟨r, by simp⟩
      -- c is the last of the kids
      rcases List.eq_nil_or_concat (kids ps k) with e0 | ⟨cs, y, e0⟩
      · rw [e0] at kc
        cases kc
      · rw [List.concat_eq_append] at e0
        have hy : y ∈ kids ps k := by rw [e0]; simp
        have lm : (ord ps y).getLast? = some m := by
          rw [e0, List.flatMap_append, List.flatMap_singleton] at hl
          have ne : ord ps y ≠ [] := by rw [ord_eq w]; simp
          rw [← List.cons_append, List.getLast?_append] at hl
          cases hh : (ord ps y).getLast? with
          | none => exact absurd (List.getLast?_eq_none_iff.mp hh) ne
          | some z =>
            rw [hh] at hl
            simpa using hl
        have ym : pth ps y <+: pth ps m := ord_pth w y m (List.mem_of_getLast? lm)
        have cy : c = y := pth_last w (pfx_one (cp.trans hm) ym (by rw [kid_dp w kc, kid_dp w hy]))
        subst cy
        have nd := kids_nodup ps k
        rw [e0] at nd
        have e1 : cs.flatMap (ord (ps ++ [some p])) = cs.flatMap (ord ps) := flat_congr fun d hd => by
          have kd : d ∈ kids ps k := by rw [e0]; exact List.mem_append_left _ hd
          refine ord_same w hp d (pa_lt (kids_mem.mp kd)) fun h => ?_
          have : d = c := pth_last w (pfx_one h cp (by rw [kid_dp w kc, kid_dp w kd]))
          subst this
          exact (List.nodup_append.mp nd).2.2 d hd d (by simp) rfl
        rw [e0, List.flatMap_append, List.flatMap_append, e1, List.flatMap_singleton, List.flatMap_singleton, ih c kc (pa_lt (kids_mem.mp kc)) cp lm]
        simp
end
/-! ### lines -/
def bd (l : List Nat) : List Nat := l.dropWhile fun c => c == 32
def ld (l : List Nat) : Nat := l.length - (bd l).length
def wds (l : List Nat) : List Str := (spl [32] 0 [] l).map fun x => (⟨x.toArray⟩ : Str)
def lotO (r : List Nat) : List (Option Fc) := if r = [45] then [] else (wds r).map rdOk
abbrev NdO := Option Nat × List (Option Fc)
abbrev Tst := List NdO × List Nat
def tst (s : Tst) (l : List Nat) : Option Tst :=
  if s.2.length < ld l ∨ (s.1 ≠ [] ∧ ld l = 0) then none
  else some (s.1 ++ [(if s.1 = [] then none else s.2[ld l - 1]?, lotO (bd l))], s.2.take (ld l) ++ [s.1.length])
def tld : Tst → List (List Nat) → Option Tst
  | s, [] => some s
  | s, l :: r => (tst s l).bind fun s' => tld s' r
theorem tld_app : ∀ (a b : List (List Nat)) (s : Tst), tld s (a ++ b) = (tld s a).bind fun s' => tld s' b
  | [], b, s => rfl
  | l :: a, b, s => by
    rw [List.cons_append, tld, tld]
    cases tst s l with
    | none => rfl
    | some s' => exact tld_app a b s'
structure ToldI (s : Tst) (ls : List (List Nat)) : Prop where
  wf : Wf (s.1.map (·.1))
  dep : ∀ (k : Nat) l, ls[k]? = some l → dp (s.1.map (·.1)) k = ld l
  lot : s.1.map (·.2) = ls.map fun l => lotO (bd l)
  ab0 : s.1 = [] → s.2 = []
  ab : s.1 ≠ [] → s.2 = pth (s.1.map (·.1)) (s.1.length - 1)
  or : s.1 ≠ [] → ord (s.1.map (·.1)) 0 = List.range s.1.length
theorem ToldI.len {s : Tst} {ls : List (List Nat)} (h : ToldI s ls) : s.1.length = ls.length := by
  have := congrArg List.length h.lot
  simpa using this
theorem told_nil : ToldI ([], []) [] := ⟨⟨rfl, fun k _ h => absurd h (Nat.not_lt_zero _)⟩, fun k l h => (by simp at h), rfl, fun _ => rfl, fun h => absurd rfl h, fun h => absurd rfl h⟩
theorem told_step {s s' : Tst} {ls : List (List Nat)} {l : List Nat} (h : ToldI s ls) (e : tst s l = some s') : ToldI s' (ls ++ [l]) := by
  unfold tst at e
  by_cases c : s.2.length < ld l ∨ (s.1 ≠ [] ∧ ld l = 0)
  · rw [if_pos c] at e
    cases e
  · rw [if_neg c] at e
    obtain rfl := Option.some.inj e
    have c1 : ld l ≤ s.2.length := Nat.le_of_not_lt fun z => c (.inl z)
    have lot' : (s.1 ++ [((if s.1 = [] then none else s.2[ld l - 1]? : Option Nat), lotO (bd l))]).map (·.2) = (ls ++ [l]).map fun l => lotO (bd l) := by
      rw [List.map_append, List.map_append, h.lot]
      rfl
    by_cases e0 : s.1 = []
    · have l0 : ls = [] := by
        have := h.len
        rw [e0] at this
        exact List.length_eq_zero_iff.mp this.symm
      have d0 : ld l = 0 := by
        rw [h.ab0 e0] at c1
        exact Nat.le_zero.mp c1
      subst l0
      rw [if_pos e0] at lot' ⊢
      have ab0 := h.ab0 e0
      rw [e0] at lot' ⊢
      rw [ab0, d0]
      have w0 : Wf [none] := ⟨rfl, fun k h1 h2 => by simp at h2; omega⟩
      refine ⟨w0, fun k l' hk => ?_, lot', fun z => (by simp at z), fun _ => ?_, fun _ => ?_⟩
      · cases k with
        | zero =>
          have : l = l' := by simpa using hk
          rw [← this, d0]
          exact dp_root rfl
        | succ k => simp at hk
      · exact (pth_root rfl).symm
      · show ord [none] 0 = [0]
        rw [ord_eq w0]
        rfl
    · have d1 : 1 ≤ ld l := Nat.pos_of_ne_zero fun z => c (.inr ⟨e0, z⟩)
      have hn : 0 < s.1.length := List.length_pos_iff.mpr e0
      rw [h.ab e0] at c1 lot' ⊢
      rw [if_neg e0] at lot' ⊢
      have w := h.wf
      have or := h.or e0
      have ln : (s.1.map (·.1)).length = s.1.length := List.length_map _
      have dep := h.dep
      generalize hps : s.1.map (·.1) = ps at *
      have lt : ld l - 1 < (pth ps (s.1.length - 1)).length := by omega
      rw [List.getElem?_eq_getElem lt] at lot' ⊢
      have split : pth ps (s.1.length - 1) = (pth ps (s.1.length - 1)).take (ld l - 1) ++ (pth ps (s.1.length - 1))[ld l - 1] :: (pth ps (s.1.length - 1)).drop (ld l) := by
        have e2 : ld l = ld l - 1 + 1 := by omega
        conv => lhs; rw [← List.take_append_drop (ld l - 1) (pth ps (s.1.length - 1)), List.drop_eq_getElem_cons lt]
        rw [← e2]
      have tk : (pth ps (s.1.length - 1)).take (ld l) = (pth ps (s.1.length - 1)).take (ld l - 1) ++ [(pth ps (s.1.length - 1))[ld l - 1]] := by
        have e2 : ld l = ld l - 1 + 1 := by omega
        conv => lhs; rw [e2]
        rw [List.take_succ_eq_append_getElem lt]
      rw [tk]
      have lp : ((pth ps (s.1.length - 1)).take (ld l - 1)).length = ld l - 1 := by rw [List.length_take]; omega
      generalize (pth ps (s.1.length - 1)).take (ld l - 1) = l1 at split lp tk ⊢
      generalize (pth ps (s.1.length - 1)).drop (ld l) = l2 at split
      generalize (pth ps (s.1.length - 1))[ld l - 1] = p at split lot' tk ⊢
      have hpp := pth_pre w _ _ (Nat.le_refl _) _ _ _ split
      have pm : pth ps p <+: pth ps (s.1.length - 1) := by
        rw [hpp, split]
        exact ⟨l2, by simp⟩
      have r0 : s.1.length - 1 < ps.length := by omega
      have plt : p < ps.length := by
        have : p ≤ s.1.length - 1 := by
          have key : ∀ n k, k ≤ n → ∀ x ∈ pth ps k, x ≤ k := by
            intro n
            induction n with
            | zero =>
              intro k hk x hx
              have : k = 0 := by omega
              subst this
              rw [pth_root w.rt] at hx
              rw [List.mem_singleton.mp hx]
              exact Nat.le_refl _
            | succ n ih =>
              intro k hk x hx
              cases hh : pa ps k with
              | none =>
                rw [pth_root hh] at hx
                rw [List.mem_singleton.mp hx]
                exact Nat.le_refl _
              | some q =>
                have := w.lt hh
                rw [pth_step w hh] at hx
                rcases List.mem_append.mp hx with hx | hx
                · have := ih q (by omega) x hx
                  omega
                · rw [List.mem_singleton.mp hx]
                  exact Nat.le_refl _
          refine key _ _ (Nat.le_refl _) p ?_
          rw [split]
          simp
        omega
      have w' := wf_more w plt
      have em : (s.1 ++ [(some p, lotO (bd l))]).map (·.1) = ps ++ [some p] := by
        rw [List.map_append, hps]
        rfl
      have em2 : (s.1 ++ [(some p, lotO (bd l))]).length = ps.length + 1 := by
        rw [List.length_append, ← ln]
        rfl
      have pn : pth (ps ++ [some p]) ps.length = l1 ++ [p] ++ [ps.length] := by
        rw [pth_step w' pa_new, pth_old w plt _ _ (Nat.le_refl _) plt, hpp]
      refine ⟨by rw [em]; exact w', fun k l' hk => ?_, lot', fun z => (by simp at z), fun _ => ?_, fun _ => ?_⟩
      · rw [em]
        have ll := h.len
        by_cases hk2 : k < ls.length
        · rw [List.getElem?_append_left hk2] at hk
          rw [← dep k l' hk]
          unfold dp
          rw [pth_old w plt _ _ (Nat.le_refl _) (by omega)]
        · rw [List.getElem?_append_right (by omega)] at hk
          have hk0 : k - ls.length = 0 := by
            cases h9 : k - ls.length with
            | zero => rfl
            | succ j =>
              rw [h9] at hk
              simp at hk
          rw [hk0] at hk
          have : l = l' := by simpa using hk
          subst this
          have : k = ps.length := by omega
          rw [this]
          unfold dp
          rw [pn]
          simp
          omega
      · rw [em, em2, Nat.add_sub_cancel, pn, ln]
      · rw [em, em2, List.range_succ, ln, ← or, ← ln]
        refine ord_last w plt pm 0 (by omega) (ord_pth w 0 p ?_) ?_
        · rw [or]
          exact List.mem_range.mpr (by omega)
        · rw [or]
          have : s.1.length = (s.1.length - 1) + 1 := by omega
          rw [this, List.range_succ]
          simp
theorem told_all : ∀ (ls done : List (List Nat)) (s s' : Tst), ToldI s done → tld s ls = some s' → ToldI s' (done ++ ls)
  | [], done, s, s', h, e => by
    obtain rfl := Option.some.inj e
    rw [List.append_nil]
    exact h
  | l :: ls, done, s, s', h, e => by
    rw [tld] at e
    obtain ⟨s1, e1, e2⟩ := Option.bind_eq_some_iff.mp e
    have := told_all ls (done ++ [l]) s1 s' (told_step h e1) e2
    rwa [List.append_assoc] at this
theorem told_of {ls : List (List Nat)} {s : Tst} (e : tld ([], []) ls = some s) : ToldI s ls := told_all ls [] _ _ told_nil e
/-! ### the lines of a tree tell it -/
theorem idxOf_at {k : Nat} (r : List Nat) : ∀ pre : List Nat, k ∉ pre → (pre ++ k :: r).idxOf k = pre.length
  | [], _ => by simp [List.idxOf, List.findIdx, List.findIdx.go]
  | x :: pre, h => by
    have ne : x ≠ k := fun e => h (by rw [e]; exact List.mem_cons_self)
    have ih := idxOf_at r pre fun m => h (List.mem_cons_of_mem _ m)
    rw [List.cons_append, List.idxOf_cons, ih, beq_eq_false_iff_ne.mpr ne]
    rfl
section
variable {ps : List (Option Nat)} {ln : Nat → List Nat} {lt : Nat → List (Option Fc)}
def ent (ps : List (Option Nat)) (lt : Nat → List (Option Fc)) (j : Nat) : NdO := ((pa ps j).map fun p => (ord ps 0).idxOf p, lt j)
theorem tells (w : Wf ps) (hd : ∀ k, k < ps.length → ld (ln k) = dp ps k) (hl : ∀ k, k < ps.length → lotO (bd (ln k)) = lt k) : ∀ k, k < ps.length → ∀ (pre ab : List Nat), pre ++ ord ps k <+: ord ps 0 → ab.take (dp ps k) = (pth ps k).dropLast.map (fun p => (ord ps 0).idxOf p) → (dp ps k = 0 → pre = []) → (pre = [] → pa ps k = none) →
    ∃ ab', tld (pre.map (ent ps lt), ab) ((ord ps k).map ln) = some ((pre ++ ord ps k).map (ent ps lt), ab') ∧ ab'.take (dp ps k + 1) = (pth ps k).map fun p => (ord ps 0).idxOf p := by
  have od := ord_nodup w 0
  refine kids_ind w fun k ih hk pre ab hp ha h0 h1 => ?_
  rw [ord_eq w] at hp ⊢
  have pos : (ord ps 0).idxOf k = pre.length := by
    obtain ⟨r, hr⟩ := hp
    rw [← hr] at od ⊢
    rw [List.append_assoc, List.cons_append]
    rw [List.append_assoc, List.cons_append] at od
    have nk : k ∉ pre := fun m => (List.nodup_append.mp od).2.2 k m k List.mem_cons_self rfl
    exact idxOf_at _ _ nk
  have lab : dp ps k ≤ ab.length := by
    have := congrArg List.length ha
    rw [List.length_take, List.length_map, List.length_dropLast, dp_len w] at this
    omega
  have st : tst (pre.map (ent ps lt), ab) (ln k) = some ((pre ++ [k]).map (ent ps lt), ab.take (dp ps k) ++ [pre.length]) := by
    unfold tst
    rw [hd k hk, hl k hk]
    dsimp only
    rw [if_neg]
    · rw [List.map_append, List.length_map]
      congr 4
      show ((if pre.map (ent ps lt) = [] then none else ab[dp ps k - 1]? : Option Nat), lt k) = ent ps lt k
      unfold ent
      by_cases e : pre = []
      · rw [if_pos (by rw [e]; rfl), h1 e]
        rfl
      · rw [if_neg (by simpa using e)]
        have d1 : 0 < dp ps k := Nat.pos_of_ne_zero fun z => e (h0 z)
        congr 1
        cases hpa : pa ps k with
        | none =>
          rw [dp_root hpa] at d1
          exact absurd d1 (Nat.lt_irrefl _)
        | some p =>
          have e3 : ab[dp ps k - 1]? = (ab.take (dp ps k))[dp ps k - 1]? := by
            rw [List.getElem?_take_of_lt (by omega)]
          obtain ⟨l9, e9⟩ := pth_end w p
          have dk := dp_step w hpa
          have dpl := dp_len w p
          rw [e3, ha, pth_step w hpa, List.dropLast_concat, e9, List.map_append]
          rw [e9, List.length_append, List.length_singleton] at dpl
          rw [List.getElem?_append_right (by rw [List.length_map]; omega), List.length_map]
          rw [show dp ps k - 1 - l9.length = 0 by omega]
          rfl
    · rintro (z | ⟨z1, z2⟩)
      · omega
      · exact z1 (by rw [h0 z2]; rfl)
  have ab1 : (ab.take (dp ps k) ++ [pre.length]).take (dp ps k + 1) = (pth ps k).map fun p => (ord ps 0).idxOf p := by
    obtain ⟨l9, e9⟩ := pth_end w k
    rw [ha, ← pos, e9, List.dropLast_concat, List.map_append]
    refine List.take_of_length_le ?_
    have := dp_len w k
    rw [e9, List.length_append, List.length_singleton] at this
    rw [List.length_append, List.length_map, List.length_singleton]
    omega
  have fold : ∀ (cs : List Nat) (pre' ab' : List Nat), (∀ c ∈ cs, c ∈ kids ps k) → pre' ≠ [] → pre' ++ cs.flatMap (ord ps) <+: ord ps 0 → ab'.take (dp ps k + 1) = (pth ps k).map (fun p => (ord ps 0).idxOf p) →
      ∃ ab'', tld (pre'.map (ent ps lt), ab') ((cs.flatMap (ord ps)).map ln) = some ((pre' ++ cs.flatMap (ord ps)).map (ent ps lt), ab'') ∧ ab''.take (dp ps k + 1) = (pth ps k).map fun p => (ord ps 0).idxOf p := by
    intro cs
    induction cs with
    | nil =>
      intro pre' ab' _ _ _ h
      exact ⟨ab', by rw [List.flatMap_nil, List.append_nil]; rfl, h⟩
    | cons c cs ihc =>
      intro pre' ab' hc ne hp' h
      have kc := hc c List.mem_cons_self
      have pc := kids_mem.mp kc
      have dc := dp_step w pc
      rw [List.flatMap_cons, ← List.append_assoc] at hp'
      obtain ⟨a1, t1, k1⟩ := ih c kc (pa_lt pc) pre' ab' (List.IsPrefix.trans (List.prefix_append _ _) hp') (by rw [dc, h, pth_step w pc, List.dropLast_concat]) (fun z => by omega) (fun z => absurd z ne)
      have k2 : a1.take (dp ps k + 1) = (pth ps k).map fun p => (ord ps 0).idxOf p := by
        have := congrArg (List.take (dp ps k + 1)) k1
        rw [List.take_take, Nat.min_eq_left (by omega), pth_step w pc, List.map_append] at this
        rw [this, List.take_append_of_le_length (by rw [List.length_map, dp_len w]; omega)]
        exact List.take_of_length_le (by rw [List.length_map, dp_len w]; omega)
      obtain ⟨a2, t2, k3⟩ := ihc (pre' ++ ord ps c) a1 (fun d hd => hc d (List.mem_cons_of_mem _ hd)) (by simp [ne]) hp' k2
      refine ⟨a2, ?_, k3⟩
      rw [List.flatMap_cons, List.map_append, tld_app, t1, ← List.append_assoc]
      exact t2
  obtain ⟨a2, t2, k2⟩ := fold (kids ps k) (pre ++ [k]) _ (fun c h => h) (by simp) (by rw [List.append_assoc]; exact hp) ab1
  refine ⟨a2, ?_, k2⟩
  rw [List.map_cons, tld, st]
  show tld _ _ = _
  rw [t2, List.append_assoc]
  rfl
theorem tells_all (w : Wf ps) (n0 : 0 < ps.length) (hd : ∀ k, k < ps.length → ld (ln k) = dp ps k) (hl : ∀ k, k < ps.length → lotO (bd (ln k)) = lt k) : ∃ ab, tld ([], []) ((ord ps 0).map ln) = some ((ord ps 0).map (ent ps lt), ab) := by
  obtain ⟨ab, h, _⟩ := tells w hd hl 0 n0 [] [] (by rw [List.nil_append]; exact List.prefix_refl _) (by rw [pth_root w.rt, dp_root w.rt]; rfl) (fun _ => rfl) (fun _ => w.rt)
  exact ⟨ab, h⟩
end
end L2.LawH
set_option Elab.async false
set_option linter.all false
set_option maxRecDepth 100000
set_option maxHeartbeats 4000000
/-! Trees that are questions; the text of a tree. -/
namespace L2.LawH
open PySem PySem.Spec PyProof.Rows TL L2.TxtSet
abbrev Nd := Option Nat × List Fc
abbrev prs (τ : List Nd) : List (Option Nat) := τ.map (·.1)
def lo (τ : List Nd) (k : Nat) : List Fc := (τ[k]?.map (·.2)).getD []
theorem lo_at {τ : List Nd} {k : Nat} {x : Nd} (h : τ[k]? = some x) : lo τ k = x.2 := by
  unfold lo
  rw [h]
  rfl
theorem lo_mem {τ : List Nd} {k : Nat} {c : Fc} (h : c ∈ lo τ k) : ∃ x ∈ τ, lo τ k = x.2 := by
  unfold lo at h ⊢
  cases e : τ[k]? with
  | none =>
    rw [e] at h
    cases h
  | some x => exact ⟨x, List.mem_of_getElem? e, rfl⟩
theorem lo_fct {τ : List Nd} (h : ∀ x ∈ τ, ∀ c ∈ x.2, Fct c) (k : Nat) : ∀ c ∈ lo τ k, Fct c := fun c hc => by
  obtain ⟨x, hx, e⟩ := lo_mem hc
  rw [e] at hc
  exact h x hx c hc
/-- the new variables of a node -/
def nw (ps : List (Option Nat)) (l : Nat → List Fc) (k : Nat) : List Str := match pa ps k with
  | none => nms (l k)
  | some p => (nms (l k)).filter fun z => !decide (z ∈ nms (l p))
theorem nw_nodup (ps : List (Option Nat)) (l : Nat → List Fc) (k : Nat) : (nw ps l k).Nodup := by
  unfold nw
  cases pa ps k with
  | none => exact nms_nodup _
  | some p => exact (nms_nodup _).filter _
theorem nw_sub {ps : List (Option Nat)} {l : Nat → List Fc} {k : Nat} {z : Str} (h : z ∈ nw ps l k) : z ∈ nms (l k) := by
  unfold nw at h
  cases e : pa ps k with
  | none =>
    rw [e] at h
    exact h
  | some p =>
    rw [e] at h
    exact (List.mem_filter.mp h).1
theorem nw_congr {ps : List (Option Nat)} {l l' : Nat → List Fc} {k : Nat} (h : ∀ j, nms (l j) = nms (l' j)) : nw ps l k = nw ps l' k := by
  unfold nw
  cases pa ps k with
  | none => exact h k
  | some p =>
    show (nms (l k)).filter _ = (nms (l' k)).filter _
    rw [h k, h p]
structure Good (ps : List (Option Nat)) (l : Nat → List Fc) : Prop where
  one : ∀ i j, i ≠ j → i < ps.length → j < ps.length → ∀ z, z ∈ nw ps l i → z ∉ nw ps l j
  new : ∀ i, 0 < i → i < ps.length → nw ps l i ≠ []
theorem Good.congr {ps : List (Option Nat)} {l l' : Nat → List Fc} (h : Good ps l) (e : ∀ j, nms (l j) = nms (l' j)) : Good ps l' :=
  ⟨fun i j ne hi hj z hz hz' => h.one i j ne hi hj z (by rw [nw_congr e]; exact hz) (by rw [nw_congr e]; exact hz'), fun i h0 hi => by rw [← nw_congr e]; exact h.new i h0 hi⟩
/-! ### the text of a node -/
def ltl (cs : List Fc) : List Nat := if cs = [] then [45] else joinL [32] (cs.map ptl)
def lin (d : Nat) (cs : List Fc) : List Nat := List.replicate d 32 ++ ltl cs
theorem ltl_chr {cs : List Fc} (h : ∀ c ∈ cs, Fct c) : ∀ x ∈ ltl cs, x ≠ 10 ∧ x < 0x110000 := by
  unfold ltl
  by_cases e : cs = []
  · rw [if_pos e]
    intro x hx
    rw [List.mem_singleton.mp hx]
    exact ⟨by decide, by decide⟩
  · rw [if_neg e]
    refine joinL_signs (q := fun x => x ≠ 10 ∧ x < 0x110000) ⟨by decide, by decide⟩ _ fun p hp c hc => ?_
    obtain ⟨d, hd, rfl⟩ := List.mem_map.mp hp
    refine ⟨fun e => ?_, (ptl_pln (h d hd) c hc).2.2.2⟩
    unfold ptl at hc
    rw [ptext_tl21] at hc
    have sg : ∀ z : Str, Nm z ∨ Vr z → c ∉ tl z := fun z o m => by
      rcases o with o | ⟨y, ny, rfl⟩
      · have := chr_nm21 o c m
        rw [e] at this
        revert this
        decide
      · rw [tl_append, tl_q] at m
        rcases List.mem_append.mp m with m | m
        · rw [e] at m
          exact absurd (List.mem_singleton.mp m) (by decide)
        · have := chr_nm21 ny c m
          rw [e] at this
          revert this
          decide
    rcases List.mem_append.mp hc with hc | hc
    · exact sg _ (.inl (h d hd).nT) hc
    · rcases List.mem_cons.mp hc with hc | hc
      · rw [e] at hc
        exact absurd hc (by decide)
      · rcases List.mem_append.mp hc with hc | hc
        · rw [join_eq, tl_join, tl_com] at hc
          refine joinL_signs (q := fun x => x ≠ c) (by rw [e]; decide) _ (fun p hp x hx => ?_) c hc rfl
          obtain ⟨z, hz, rfl⟩ := List.mem_map.mp hp
          intro e2
          rw [e2] at hx
          exact sg _ ((h d hd).nz z hz) hx
        · rw [e] at hc
          exact absurd (List.mem_singleton.mp hc) (by decide)
theorem ptl_head {c : Fc} (h : Fct c) : ∃ x r, ptl c = x :: r ∧ x ≠ 32 ∧ 40 ∈ ptl c := by
  have hp := ptl_pln h
  cases e : ptl c with
  | nil => exact absurd e (ptl_ne c)
  | cons x r =>
    rw [← e]
    refine ⟨x, r, e, (hp x (by rw [e]; exact List.mem_cons_self)).1, ?_⟩
    unfold ptl
    rw [ptext_tl21]
    simp
theorem ltl_head {cs : List Fc} (h : ∀ c ∈ cs, Fct c) : ∃ x r, ltl cs = x :: r ∧ x ≠ 32 := by
  unfold ltl
  cases cs with
  | nil => exact ⟨45, [], rfl, by decide⟩
  | cons c cs =>
    rw [if_neg (by simp)]
    obtain ⟨x, r, e, ne, _⟩ := ptl_head (h c List.mem_cons_self)
    cases cs with
    | nil => exact ⟨x, r, by rw [List.map_singleton]; exact e, ne⟩
    | cons d cs =>
      rw [List.map_cons, joinL_cons _ _ (by simp), e]
      exact ⟨x, _, rfl, ne⟩
theorem bd_lin {d : Nat} {cs : List Fc} (h : ∀ c ∈ cs, Fct c) : bd (lin d cs) = ltl cs ∧ ld (lin d cs) = d := by
  obtain ⟨x, r, e, ne⟩ := ltl_head h
  have b : bd (lin d cs) = ltl cs := by
    unfold bd lin
    rw [e]
    induction d with
    | zero =>
      rw [List.replicate_zero, List.nil_append]
      rw [List.dropWhile_cons_of_neg (by simpa using ne)]
    | succ d ih =>
      rw [List.replicate_succ, List.cons_append]
      simpa [List.dropWhile] using ih
  refine ⟨b, ?_⟩
  unfold ld
  rw [b]
  unfold lin
  rw [List.length_append, List.length_replicate]
  omega
theorem ltl_ne {c : Fc} {cs : List Fc} (h : ∀ d ∈ c :: cs, Fct d) : ltl (c :: cs) ≠ [45] := by
  intro e
  obtain ⟨x, r, e1, ne, m⟩ := ptl_head (h c List.mem_cons_self)
  unfold ltl at e
  rw [if_neg (by simp)] at e
  have : 40 ∈ joinL [32] ((c :: cs).map ptl) := by
    cases cs with
    | nil => exact m
    | cons d cs =>
      rw [List.map_cons, joinL_cons _ _ (by simp)]
      exact List.mem_append_left _ m
  rw [e] at this
  exact absurd (List.mem_singleton.mp this) (by decide)
theorem wds_ltl {cs : List Fc} (h : ∀ c ∈ cs, Fct c) (ne : cs ≠ []) : wds (ltl cs) = cs.map fun c => ptext c.1 c.2 := by
  have := wrds_join h
  unfold ltl
  rw [if_neg ne]
  unfold wrds at this
  cases cs with
  | nil => exact absurd rfl ne
  | cons c cs =>
    rw [if_neg joinL_ne] at this
    exact this
theorem lotO_ltl {cs : List Fc} (h : ∀ c ∈ cs, Fct c) : lotO (ltl cs) = cs.map some := by
  unfold lotO
  cases cs with
  | nil => rfl
  | cons c cs =>
    rw [if_neg (ltl_ne h), wds_ltl h (by simp), List.map_map]
    exact List.map_congr_left fun d hd => (h d hd).rd
theorem ltl_inj {a b : List Fc} (ha : ∀ c ∈ a, Fct c) (hb : ∀ c ∈ b, Fct c) (e : ltl a = ltl b) : a = b := by
  have := lotO_ltl ha
  rw [e, lotO_ltl hb] at this
  exact (List.map_inj_right (fun _ _ z => Option.some.inj z)).mp this.symm
theorem rdAll_map' : ∀ {ws : List Str} {cs : List Fc}, ws.map rdOk = cs.map some → rdAll ws = some cs
  | [], [], _ => rfl
  | [], c :: cs, h => by cases h
  | z :: ws, [], h => by cases h
  | z :: ws, c :: cs, h => by
    rw [List.map_cons, List.map_cons] at h
    injection h with h1 h2
    rw [rdAll, h1, rdAll_map' h2]
    rfl
theorem lotO_some {r : List Nat} {cs : List Fc} (h : lotO r = cs.map some) : r = ltl cs ∧ ∀ c ∈ cs, Fct c := by
  unfold lotO at h
  by_cases e : r = [45]
  · rw [if_pos e] at h
    have : cs = [] := by
      cases cs with
      | nil => rfl
      | cons c cs => cases h
    subst this
    exact ⟨e, fun _ m => nomatch m⟩
  · rw [if_neg e] at h
    have h2 := rdAll_some (rdAll_map' h)
    refine ⟨?_, h2.2⟩
    have jw : joinL [32] ((wds r).map tl) = r := by
      unfold wds
      rw [List.map_map]
      have : (spl [32] 0 [] r).map (tl ∘ fun x => (⟨x.toArray⟩ : Str)) = spl [32] 0 [] r := by
        conv => rhs; rw [← List.map_id (spl [32] 0 [] r)]
        exact List.map_congr_left fun x _ => str_tl x
      rw [this, join_spl]
      rfl
    have ne : cs ≠ [] := by
      intro z
      rw [z] at h2
      have := h2.1
      unfold wds at this
      exact spl_ne [32] r [] (by simpa using this)
    unfold ltl
    rw [if_neg ne]
    rw [h2.1, map_ptl] at jw
    exact jw.symm
theorem lin_of (l : List Nat) : l = List.replicate (ld l) 32 ++ bd l := by
  unfold ld
  induction l with
  | nil => rfl
  | cons x l ih =>
    by_cases e : x = 32
    · have : bd (x :: l) = bd l := by
        unfold bd
        simp [List.dropWhile, e]
      rw [this]
      have le : (bd l).length ≤ l.length := by
        unfold bd
        exact (List.dropWhile_suffix _).length_le
      rw [List.length_cons, show l.length + 1 - (bd l).length = (l.length - (bd l).length) + 1 by omega, List.replicate_succ, List.cons_append, e, ← ih]
    · have : bd (x :: l) = x :: l := by
        unfold bd
        rw [List.dropWhile_cons_of_neg (by simpa using e)]
      rw [this]
      simp
/-! ### whole texts -/
/-- the lines of a tree in the order of its nodes, with the lots l -/
def tlin (ps : List (Option Nat)) (l : Nat → List Fc) : List (List Nat) := (ord ps 0).map fun k => lin (dp ps k) (l k)
def RdOk (ls : List (List Nat)) (τ : List Nd) : Prop := (∃ ab, tld ([], []) ls = some (τ.map fun x => (x.1, x.2.map some), ab)) ∧ Good (prs τ) (lo τ) ∧ ∀ x ∈ τ, Asc x.2
theorem somes_inj {a b : List Nd} (h : (a.map fun x => ((x.1, x.2.map some) : NdO)) = b.map fun x => (x.1, x.2.map some)) : a = b := by
  refine (List.map_inj_right fun x y e => ?_).mp h
  have e1 : x.1 = y.1 := (Prod.mk.inj e).1
  have e2 : x.2.map some = y.2.map some := (Prod.mk.inj e).2
  exact Prod.ext e1 ((List.map_inj_right (fun _ _ z => Option.some.inj z)).mp e2)
theorem RdOk.one {ls : List (List Nat)} {a b : List Nd} (ha : RdOk ls a) (hb : RdOk ls b) : a = b := by
  obtain ⟨⟨x, hx⟩, _⟩ := ha
  obtain ⟨⟨y, hy⟩, _⟩ := hb
  rw [hx] at hy
  exact somes_inj (Prod.mk.inj (Option.some.inj hy)).1
theorem joinL_inj {s : Nat} {a b : List (List Nat)} (ha : a ≠ []) (hb : b ≠ []) (na : ∀ p ∈ a, s ∉ p) (nb : ∀ p ∈ b, s ∉ p) (e : joinL [s] a = joinL [s] b) : a = b := by
  rw [← spl_join ha na, ← spl_join hb nb, e]
section
variable {ls : List (List Nat)} {τ : List Nd} {ab : List Nat}
theorem told_fct (h : tld ([], []) ls = some (τ.map fun x => (x.1, x.2.map some), ab)) : ∀ x ∈ τ, ∀ c ∈ x.2, Fct c := by
  have t := told_of h
  intro x hx
  have lt := t.lot
  dsimp only at lt
  rw [List.map_map] at lt
  have m : x.2.map some ∈ ls.map fun l => lotO (bd l) := by
    rw [← lt]
    exact List.mem_map_of_mem (f := (fun x : NdO => x.2) ∘ fun x : Nd => (x.1, x.2.map some)) hx
  obtain ⟨l, _, e⟩ := List.mem_map.mp m
  exact (lotO_some e).2
theorem told_prs : ((τ.map fun x => ((x.1, x.2.map some) : NdO)).map (·.1)) = prs τ := by
  rw [List.map_map]
  rfl
theorem told_lines (h : tld ([], []) ls = some (τ.map fun x => (x.1, x.2.map some), ab)) (ne : ls ≠ []) : ls = tlin (prs τ) (lo τ) ∧ ord (prs τ) 0 = List.range τ.length ∧ Wf (prs τ) ∧ τ.length = ls.length := by
  have t := told_of h
  have len := t.len
  have wf := t.wf
  have dep := t.dep
  have or := t.or
  have lt := t.lot
  dsimp only at len wf dep or lt
  rw [told_prs] at wf dep or
  rw [List.length_map] at len or
  have tn : (τ.map fun x => ((x.1, x.2.map some) : NdO)) ≠ [] := by
    intro e
    have := List.length_pos_iff.mpr ne
    rw [← len] at this
    have e2 := congrArg List.length e
    simp at e2
    rw [e2] at this
    exact absurd this (by simp)
  have o := or tn
  refine ⟨?_, o, wf, len⟩
  unfold tlin
  rw [o]
  refine List.ext_getElem? fun k => ?_
  rw [List.getElem?_map]
  by_cases hk : k < τ.length
  · rw [List.getElem?_range hk]
    have hk2 : k < ls.length := by omega
    rw [List.getElem?_eq_getElem hk2]
    show some _ = some _
    congr 1
    show ls[k] = lin (dp (prs τ) k) (lo τ k)
    rw [dep k _ (List.getElem?_eq_getElem hk2)]
    have e := congrArg (fun z => z[k]?) lt
    simp only [List.getElem?_map, List.getElem?_eq_getElem hk, List.getElem?_eq_getElem hk2, Option.map_some] at e
    have e2 := (lotO_some (Option.some.inj e).symm).1
    rw [lo_at (List.getElem?_eq_getElem hk)]
    unfold lin
    rw [← e2]
    exact lin_of _
  · rw [List.getElem?_eq_none (by omega), List.getElem?_eq_none (by rw [List.length_range]; omega)]
    rfl
/-- the text of the question made of told nodes is the text that told them just when each lot ascends -/
theorem told_text (h : tld ([], []) ls = some (τ.map fun x => (x.1, x.2.map some), ab)) (ne : ls ≠ []) : joinL [10] (tlin (prs τ) fun k => nrm (lo τ k)) = joinL [10] ls ↔ ∀ x ∈ τ, Asc x.2 := by
  obtain ⟨e1, o, wf, len⟩ := told_lines h ne
  have f := told_fct h
  have n0 : 0 < τ.length := by
    have := List.length_pos_iff.mpr ne
    omega
  have no10 : ∀ l : Nat → List Fc, (∀ k, ∀ c ∈ l k, Fct c) → ∀ p ∈ tlin (prs τ) l, 10 ∉ p := by
    intro l hl p hp m
    obtain ⟨k, _, rfl⟩ := List.mem_map.mp hp
    rcases List.mem_append.mp m with m | m
    · exact absurd (List.mem_replicate.mp m).2 (by decide)
    · exact (ltl_chr (hl k) 10 m).1 rfl
  have tne : ∀ l : Nat → List Fc, tlin (prs τ) l ≠ [] := by
    intro l z
    have := congrArg List.length z
    unfold tlin at this
    rw [o] at this
    simp at this
    rw [this] at n0
    exact absurd n0 (by simp)
  have fn : ∀ k, ∀ c ∈ nrm (lo τ k), Fct c := fun k c hc => lo_fct f k c (nrm_mem.mp hc)
  constructor
  · intro e
    have e2 := joinL_inj (tne _) ne (no10 _ fn) (by rw [e1]; exact no10 _ fun k => lo_fct f k) e
    rw [e1] at e2
    intro x hx
    obtain ⟨k, hk⟩ := List.mem_iff_getElem?.mp hx
    have lk : k < τ.length := (List.getElem?_eq_some_iff.mp hk).1
    have e3 := congrArg (fun z => z[k]?) e2
    unfold tlin at e3
    rw [o] at e3
    simp only [List.getElem?_map, List.getElem?_range lk, Option.map_some] at e3
    have e4 := List.append_cancel_left (Option.some.inj e3)
    have e5 := ltl_inj (fn k) (lo_fct f k) e4
    rw [lo_at hk] at e5
    rw [← e5]
    exact nrm_asc _
  · intro a
    rw [e1]
    congr 1
    unfold tlin
    refine List.map_congr_left fun k _ => ?_
    have : nrm (lo τ k) = lo τ k := by
      unfold lo
      cases e : τ[k]? with
      | none => rfl
      | some x => exact nrm_self (a x (List.mem_of_getElem? e))
    show lin _ (nrm (lo τ k)) = _
    rw [this]
end
/-! ### the tree read from the text of a tree -/
section
variable {τ : List Nd}
/-- the nodes in the order of the text -/
def ren (τ : List Nd) : List Nd := (ord (prs τ) 0).map fun j => ((pa (prs τ) j).map fun p => (ord (prs τ) 0).idxOf p, nrm (lo τ j))
theorem ren_at {i j : Nat} (h : (ord (prs τ) 0)[i]? = some j) : (ren τ)[i]? = some ((pa (prs τ) j).map fun p => (ord (prs τ) 0).idxOf p, nrm (lo τ j)) := by
  unfold ren
  rw [List.getElem?_map, h]
  rfl
theorem idx_get {l : List Nat} {p : Nat} (h : p ∈ l) : l[l.idxOf p]? = some p := by
  have := List.idxOf_lt_length_of_mem h
  rw [List.getElem?_eq_getElem this, List.getElem_idxOf]
theorem ren_nw (w : Wf (prs τ)) {i j : Nat} (h : (ord (prs τ) 0)[i]? = some j) : nw (prs (ren τ)) (lo (ren τ)) i = nw (prs τ) (lo τ) j := by
  have e1 : pa (prs (ren τ)) i = (pa (prs τ) j).map fun p => (ord (prs τ) 0).idxOf p := by
    unfold pa prs
    rw [List.getElem?_map, ren_at h]
    rfl
  unfold nw
  rw [e1, lo_at (ren_at h)]
  cases e : pa (prs τ) j with
  | none => exact nms_nrm _
  | some p =>
    show (nms (nrm (lo τ j))).filter _ = (nms (lo τ j)).filter _
    have mj := List.mem_of_getElem? h
    have ne : j ≠ 0 := by
      intro z
      rw [z, w.rt] at e
      cases e
    obtain ⟨q, hq, eq⟩ := ord_up w 0 j mj ne
    rw [e] at eq
    cases eq
    rw [lo_at (ren_at (idx_get hq)), nms_nrm, nms_nrm]
theorem ren_rd (w : Wf (prs τ)) (n0 : 0 < τ.length) (f : ∀ x ∈ τ, ∀ c ∈ x.2, Fct c) (g : Good (prs τ) (lo τ)) : RdOk (tlin (prs τ) fun k => nrm (lo τ k)) (ren τ) := by
  have fn : ∀ k, ∀ c ∈ nrm (lo τ k), Fct c := fun k c hc => lo_fct f k c (nrm_mem.mp hc)
  have lp : (prs τ).length = τ.length := List.length_map _
  obtain ⟨ab, h⟩ := tells_all (ps := prs τ) (ln := fun k => lin (dp (prs τ) k) (nrm (lo τ k))) (lt := fun k => (nrm (lo τ k)).map some) w (by omega) (fun k _ => (bd_lin (fn k)).2) (fun k _ => by rw [(bd_lin (fn k)).1]; exact lotO_ltl (fn k))
  refine ⟨⟨ab, ?_⟩, ⟨fun i j ne hi hj z hz hz' => ?_, fun i h0 hi => ?_⟩, fun x hx => ?_⟩
  · unfold tlin
    rw [h]
    unfold ren
    rw [List.map_map]
    rfl
  · have lr : (prs (ren τ)).length = (ord (prs τ) 0).length := by
      unfold prs ren
      rw [List.length_map, List.length_map]
    rw [lr] at hi hj
    have ei := List.getElem?_eq_getElem hi
    have ej := List.getElem?_eq_getElem hj
    rw [ren_nw w ei] at hz
    rw [ren_nw w ej] at hz'
    refine g.one _ _ (fun e => ne ?_) (ord_lt w 0 (by omega) _ (List.mem_of_getElem? ei)) (ord_lt w 0 (by omega) _ (List.mem_of_getElem? ej)) z hz hz'
    exact (List.getElem_inj (ord_nodup w 0)).mp e
  · have lr : (prs (ren τ)).length = (ord (prs τ) 0).length := by
      unfold prs ren
      rw [List.length_map, List.length_map]
    rw [lr] at hi
    have ei := List.getElem?_eq_getElem hi
    rw [ren_nw w ei]
    refine g.new _ (Nat.pos_of_ne_zero fun z => ?_) (ord_lt w 0 (by omega) _ (List.mem_of_getElem? ei))
    have e0 : (ord (prs τ) 0)[0]? = some 0 := by rw [ord_eq w]; rfl
    have h0' : 0 < (ord (prs τ) 0).length := by omega
    have : (ord (prs τ) 0)[0] = (ord (prs τ) 0)[i] := by
      rw [z]
      rw [List.getElem?_eq_getElem h0'] at e0
      exact Option.some.inj e0
    have := (List.getElem_inj (ord_nodup w 0)).mp this
    omega
  · unfold ren at hx
    obtain ⟨j, _, rfl⟩ := List.mem_map.mp hx
    exact nrm_asc _
/-- it has the same parents and lots just when the text has the nodes in their order -/
theorem ren_same (w : Wf (prs τ)) (n0 : 0 < τ.length) (f : ∀ x ∈ τ, ∀ c ∈ x.2, Fct c) : (ren τ).map (·.1) = prs τ ∧ (ren τ).map (·.2) = (List.range τ.length).map (fun k => nrm (lo τ k)) ↔ ord (prs τ) 0 = List.range τ.length := by
  have lp : (prs τ).length = τ.length := List.length_map _
  have fn : ∀ k, ∀ c ∈ nrm (lo τ k), Fct c := fun k c hc => lo_fct f k c (nrm_mem.mp hc)
  constructor
  · rintro ⟨e, _⟩
    obtain ⟨ab, h⟩ := tells_all (ps := prs τ) (ln := fun k => lin (dp (prs τ) k) (nrm (lo τ k))) (lt := fun k => (nrm (lo τ k)).map some) w (by omega) (fun k _ => (bd_lin (fn k)).2) (fun k _ => by rw [(bd_lin (fn k)).1]; exact lotO_ltl (fn k))
    have t := told_of h
    have or := t.or
    dsimp only at or
    have m : ((ord (prs τ) 0).map (ent (prs τ) fun k => (nrm (lo τ k)).map some)).map (·.1) = prs τ := by
      refine Eq.trans ?_ e
      unfold ren
      rw [List.map_map, List.map_map]
      rfl
    rw [m] at or
    have len : ((ord (prs τ) 0).map (ent (prs τ) fun k => (nrm (lo τ k)).map some)).length = τ.length := by
      have := congrArg List.length m
      rw [List.length_map, lp] at this
      exact this
    rw [len] at or
    refine or fun z => ?_
    rw [z] at len
    simp at len
    omega
  · intro o
    unfold ren
    rw [o, List.map_map, List.map_map]
    refine ⟨?_, rfl⟩
    refine List.ext_getElem? fun k => ?_
    rw [List.getElem?_map]
    by_cases hk : k < τ.length
    · rw [List.getElem?_range hk]
      show some ((pa (prs τ) k).map _) = _
      have e : (prs τ)[k]? = some (pa (prs τ) k) := by
        unfold pa
        rw [List.getElem?_eq_getElem (by omega)]
        rfl
      rw [e]
      congr 1
      cases e2 : pa (prs τ) k with
      | none => rfl
      | some p =>
        have := w.lt e2
        show some _ = some _
        congr 1
        have hp : p ∈ List.range τ.length := List.mem_range.mpr (by omega)
        have g := idx_get hp
        have l := List.idxOf_lt_length_of_mem hp
        rw [List.length_range] at l
        rw [List.getElem?_range l] at g
        exact Option.some.inj g
    · rw [List.getElem?_eq_none (by rw [List.length_range]; omega), List.getElem?_eq_none (by omega)]
      rfl
end
end L2.LawH
set_option Elab.async false
set_option linter.all false
set_option maxRecDepth 100000
set_option maxHeartbeats 4000000
/-! enumerate over a list or a tuple; comprehensions in general; is_whole, is_list, is_node, are_nodes. -/
namespace PySem
set_option maxHeartbeats 1000000 in
theorem meets_enumerate_oneB {v : Value} {o : Obj} {H : Heap → Prop} (B : Begins v o H) :
    Meets (Builtin.«enumerate.__new__» ⟨[.type "enumerate", v], []⟩) (fun _ R s => H s.heap ∧
      R (.ok (.ret (.ref (s.heap.push o).objs.size))) { s with heap := (s.heap.push o).push { cls := .type "enumerate", data := .fields #[.none, .bool false, .ref s.heap.objs.size, rawInt 0, .none, .none] } }) :=
  .of_wp fun prog w A R s h => by
    obtain ⟨hp, g, d, tk, os⟩ := s; obtain ⟨h1, h⟩ := h
    have hsub := sub_enumerate
    have q1 : ∀ {A' : Around} {E : Value → Shared → Prop} {Q : Value → Shared → Prop}, Q (.ref hp.objs.size) ⟨hp.push o, g, d, tk, os⟩ → wpAny (model prog w) A' (pyIter v) Q E ⟨hp, g, d, tk, os⟩ :=
      fun q => B.iter prog w _ _ ⟨hp, g, d, tk, os⟩ _ h1 q
    wp_walk using q1
    refine wpAny_stack_any fun st => wpAny_pure ?_
    split
    · rename_i c _ _ _ _ _
      cases (c == Value.type "enumerate")
      · wp_walk using q1
        exact ⟨_, rfl, h⟩
      · wp_walk using q1
        exact ⟨_, rfl, h⟩
    · wp_walk using q1
      exact ⟨_, rfl, h⟩
theorem call_enumerate_B {prog : Program} {w : World} {A : Around} {E : Value → Shared → Prop} {s : Shared} {v : Value} {o : Obj} {H : Heap → Prop} {Q : Value → Shared → Prop} (B : Begins v o H) (h1 : H s.heap)
    (h : ∀ h', IsEnum h' (s.heap.objs.size + 1) s.heap.objs.size 0 .none → h'.get? s.heap.objs.size = some o → h'.objs.size = s.heap.objs.size + 2 →
      (∀ b o, s.heap.get? b = some o → h'.get? b = some o) → Q (.ref (s.heap.objs.size + 1)) { s with heap := h' }) :
    wpAny (model prog w) A (call (.type "enumerate") [v]) Q E s := by
  refine callType_new F.called_enumerate (by decide) (F.typeCall_enumerate_1 _) (F.newCall_enumerate_1 _) (fun obj => F.args_object_init_2 obj _) F.entry_enumerate_new
    (meets_enumerate_oneB B) ⟨h1, ?_⟩
  have hz : (s.heap.push o).objs.size = s.heap.objs.size + 1 := Heap.size_push ..
  show _ ∧ _
  rw [hz]
  have he : IsEnum ((s.heap.push o).push { cls := .type "enumerate", data := .fields #[.none, .bool false, .ref s.heap.objs.size, rawInt 0, .none, .none] }) (s.heap.objs.size + 1) s.heap.objs.size 0 .none := by
    have := Heap.get?_push_size (s.heap.push o) (o := { cls := .type "enumerate", data := .fields #[.none, .bool false, .ref s.heap.objs.size, rawInt 0, .none, .none] }) rfl
    rw [hz] at this; exact this
  refine ⟨⟨_, he, rfl⟩, h _ he (Heap.get?_push_of_some _ (Heap.get?_push_size _ B.free)) (by rw [Heap.size_push, hz]) fun b o' x => Heap.get?_push_of_some _ (Heap.get?_push_of_some _ x)⟩
end PySem
namespace L2.Rws
open PySem PySem.Spec PyProof.Rows L2.LawH
/-- the tuple at a as it stands at each turn, each item in a new pair -/
def IteT (K : PySem.W.Frag) (a : Addr) : It :=
  ⟨fun i H => ∃ (xs : List V) (x : V), SqT K H a xs ∧ xs[i]? = some x, fun i H v H' => ∃ T x, v = .ref T ∧ H T = none ∧ H' = upd H T (.tup [.int (i : Nat), x]) ∧ ∀ xs, SqT K H a xs → xs[i]? = some x, fun i H => ∃ xs : List V, SqT K H a xs ∧ xs.length = i⟩
theorem turn_enumT {P : Program} {w : World} {K : PySem.W.Frag} {elts : List Expr} {kk : Nat} {tpos : Pos} (a e it : Addr) :
    Turn P w K (.Tuple elts kk tpos) (IteT K a) [e, it] e (fun i h => (∃ old, IsEnum h e it ((i : Nat) : Int) old) ∧ h.IsTupleIter it a i ∧ e ≠ it) where
  mem := by simp
  obj := fun i h st b hb => by
    obtain ⟨⟨old, he⟩, ⟨o, ho, hc, hd⟩, _⟩ := st
    have e' : b = e ∨ b = it := by simpa using hb
    rcases e' with z | z
    · rw [z]; exact ⟨_, he, fun v q => nomatch q⟩
    · rw [z]; exact ⟨o, ho, fun v q => by rw [hd] at q; cases q⟩
  keep := fun i h h' st k => let ⟨⟨old, he⟩, hi, hne⟩ := st; ⟨⟨old, k e (by simp) _ he⟩, hi.at fun o q => k it (by simp) o q, hne⟩
  item := by
    intro X hP hw hK hc i pins s σ H E I hf st hg
    subst hP hw hK
    obtain ⟨⟨old, he⟩, hit, hne⟩ := st
    obtain ⟨xs, x, hq, hx⟩ := hg
    obtain ⟨its, rv, p, hz⟩ := I.tuple hq
    obtain ⟨u, hu, ru⟩ := rv.get hx
    have hel : e < s.heap.objs.size := Heap.lt_size he
    have hil : it < s.heap.objs.size := by obtain ⟨_, q, _⟩ := hit; exact Heap.lt_size q
    have hTa : s.heap.IsTuple a its.toArray := p
    have nit : a ≠ it := fun q => by
      obtain ⟨o, e1, e2, _⟩ := hit
      obtain ⟨o', e1', e2', _⟩ := hTa
      rw [q, e1] at e1'
      cases e1'
      rw [e2] at e2'
      exact absurd e2' (by decide)
    have nea : a ≠ e := fun q => by
      obtain ⟨o', e1', e2', _⟩ := hTa
      rw [q, he] at e1'
      cases e1'
      have e2' : (Value.type "enumerate") = Value.type "tuple" := e2'
      exact absurd e2' (by decide)
    have D := Draws.tuple (prog := X.prog) (w := X.w) (A := X.A.in1) (I.ok.hd hc) it a nit its.toArray
    refine wpAny_pyNext_enum_itemC D he ⟨hit, hTa⟩ (by have := (List.getElem?_eq_some_iff.mp hu).1; simpa using this) hne (by simp [nea.symm, hne]) fun y h' tk hy ho st' hT hsz hk => ?_
    have hy : its[i]? = some y := by simpa using hy
    have : u = y := Option.some.inj (hu.symm.trans hy)
    subst this
    refine ⟨_, rfl, wpAny_letOwnedTupleGo_enum (s := { s with heap := h', toks := tk + 1 }) ho fun h'' he' sb => ?_⟩
    have hT2 : h''.get? s.heap.objs.size = some { cls := .type "tuple", data := .seq #[.int i tk, u] } := (sb.2 _ (Nat.ne_of_gt hel)).trans hT
    have new : ObjOk X.prog X.w (upd H s.heap.objs.size (.tup [.int (i : Nat), x])) h'' s.heap.objs.size (.tup [.int (i : Nat), x]) :=
      ⟨by show 2 ≤ sizeLine; decide, [.int i tk, u], .cons ⟨_, rfl⟩ (.cons ru .nil), ⟨_, hT2, rfl, _, rfl⟩⟩
    have I1 : Inv X pins σ (upd H s.heap.objs.size (.tup [.int (i : Nat), x])) { s with heap := h'', toks := tk + 1 } :=
      I.turnedNew (ch := [e, it]) (fun b ob hb q => (sb.2 b (fun z => hb (by simp [z]))).trans (hk b ob (fun z => hb (by simp [z])) (fun z => hb (by simp [z])) q)) hf (Nat.le_refl _) new
    refine ⟨.ref s.heap.objs.size, _, I1, rfl, ⟨_, x, rfl, I.hok.fresh (Nat.le_refl _), rfl, fun ys hy => by rw [I.tuple_inj hy hq]; exact hx⟩, ⟨⟨u, ?_⟩, st'.1.at fun o q => (sb.2 it (Ne.symm hne)).trans q, hne⟩, fun b hb => ?_⟩
    · have e1 : ((i + 1 : Nat) : Int) = (i : Int) + 1 := by omega
      rw [e1]; exact he'
    · have hb' : b < s.heap.objs.size := by
        have e' : b = e ∨ b = it := by simpa using hb
        rcases e' with z | z
        · rw [z]; exact hel
        · rw [z]; exact hil
      rw [upd_ne (Nat.ne_of_lt hb')]
      exact (hf b hb).1
  done := by
    intro X hP hw hK hc i pins s σ H E I hf st hg
    subst hP hw hK
    obtain ⟨⟨old, he⟩, hit, hne⟩ := st
    obtain ⟨xs, hq, hx⟩ := hg
    obtain ⟨its, rv, p, hz⟩ := I.tuple hq
    obtain ⟨f0, f1, f2, f3, f4, f5⟩ := hf it (by simp)
    have hl := rv.length
    have hTa : s.heap.IsTuple a its.toArray := p
    have nit : a ≠ it := fun q => by
      obtain ⟨o, e1, e2, _⟩ := hit
      obtain ⟨o', e1', e2', _⟩ := hTa
      rw [q, e1] at e1'
      cases e1'
      rw [e2] at e2'
      exact absurd e2' (by decide)
    have D := Draws.tuple (prog := X.prog) (w := X.w) (A := X.A.in1) (I.ok.hd hc) it a nit its.toArray
    refine wpAny_pyNext_enum_endD D he ⟨?_, hTa⟩ fun h' eb => ⟨rfl, I.turned (t' := s.toks) (fun b o hb q => eb b o hb q) f0 f1 f3 f4 f5⟩
    have : its.toArray.size = i := by simp; omega
    rw [this]
    exact hit
  self := fun A i s Q E st h => let ⟨⟨_, he⟩, _⟩ := st; wpAny_pyIter_enum he h
/-- enumerate over a list or a tuple -/
def iEnumS (K : PySem.W.Frag) (ta : TA) : TI := fun σ H R => ta σ H fun vs H1 => ∃ a, vs = [.ref a] ∧ (((∃ xs, SqL K H1 a xs) ∧ R (Ite K a) H1) ∨ ((∃ xs, SqT K H1 a xs) ∧ R (IteT K a) H1))
theorem pi_enumS {X : Cx} {e : Expr} {ta : TA} {p pos tpos : Pos} {elts : List Expr} {kk : Nat} (hg : Gl X "enumerate") (hm : X.mg "enumerate" = none) (ha : PA X [e] ta) (hs : starEach [e] X.env = [(false, eval e X.env)] := by rfl) :
    PI X (.Tuple elts kk tpos) (.Call (.Name "enumerate" p) [e] [] pos) (iEnumS X.K ta) := by
  refine ⟨fun pins s σ H R I h => ?_⟩
  refine Call_ (ld_blt I hg hm boot_enumerate (PyProof.Rows.callWith_type1 (thn (ha.run pos pins s σ H _ I h) fun us s1 ⟨vs, H1, I1, r1, q1⟩ => ?_) hs rfl))
  obtain ⟨a, ex, q⟩ := q1
  subst ex
  cases r1 with
  | cons r rr =>
    cases rr
    cases r
    have fp : ∀ b ∈ [s1.heap.objs.size + 1, s1.heap.objs.size], FpOk X pins H1 b := fun b hb => by
      have e' : b = s1.heap.objs.size + 1 ∨ b = s1.heap.objs.size := by simpa using hb
      have hle : s1.heap.objs.size ≤ b := by
        rcases e' with z | z
        · rw [z]; exact Nat.le_add_right _ _
        · rw [z]; exact Nat.le_refl _
      exact I1.fpOk hle (I1.hok.fresh hle)
    rcases q with ⟨⟨xs, hq⟩, q⟩ | ⟨⟨xs, hq⟩, q⟩
    · obtain ⟨its, rv, p', hz⟩ := I1.list hq
      refine call_enumerate_list p'.isList fun h' he hit hsz hk => wpAny_pyIter_enum he ?_
      have I2 : Inv X pins σ H1 { s1 with heap := h' } := I1.kept (t' := s1.toks) hk
      exact ⟨s1.heap.objs.size + 1, [s1.heap.objs.size + 1, s1.heap.objs.size], _, _, H1, rfl, I2, turn_enum a (s1.heap.objs.size + 1) s1.heap.objs.size, ⟨⟨.none, he⟩, hit, Nat.succ_ne_self _⟩, fp, q⟩
    · obtain ⟨its, rv, p', hz⟩ := I1.tuple hq
      refine call_enumerate_B (begins_tuple a its.toArray) (show s1.heap.IsTuple a its.toArray from p') fun h' he hit hsz hk => wpAny_pyIter_enum he ?_
      have I2 : Inv X pins σ H1 { s1 with heap := h' } := I1.kept (t' := s1.toks) hk
      exact ⟨s1.heap.objs.size + 1, [s1.heap.objs.size + 1, s1.heap.objs.size], _, _, H1, rfl, I2, turn_enumT a (s1.heap.objs.size + 1) s1.heap.objs.size, ⟨⟨.none, he⟩, ⟨_, hit, rfl, rfl⟩, Nat.succ_ne_self _⟩, fp, q⟩
theorem walk_enumT {K : PySem.W.Frag} {a : Addr} {xs : List V} : L2.Walk (IteT K a) xs.length (fun H => SqT K H a xs) (YPair (fun i => some (.int (i : Nat))) (fun i => xs[i]?)) := by
  refine ⟨fun i _ hi q => ⟨xs, xs[i], q, by simp [hi]⟩, fun _ q => ⟨xs, q, rfl⟩, fun i H v H' _ q y => ?_⟩
  obtain ⟨T, x, h1, h2, h3, h4⟩ := y
  exact ⟨T, .int (i : Nat), x, h1, h2, h3, rfl, h4 xs q⟩
end L2.Rws

namespace L2.LawH
open PySem PySem.Spec PyProof.Rows L2.TxtSet TL L2.NSet PySem.W L2.Cmp L2.Rws
/-- the heap without one place -/
def Wo (D : Addr) (H : Hp) : Hp := fun b => if b = D then none else H b
theorem wo_of {D b : Addr} {H : Hp} (n : b ≠ D) : Wo D H b = H b := if_neg n
theorem wo_le {D : Addr} {H : Hp} : Same (Wo D H) H := fun b o e => by
  unfold Wo at e
  by_cases c : b = D
  · rw [if_pos c] at e
    cases e
  · rw [if_neg c] at e
    exact e
theorem wo_none {D : Addr} {H : Hp} (n : H D = none) : Same H (Wo D H) := fun b o e => by
  rw [wo_of (fun z => by rw [z, n] at e; cases e)]
  exact e
theorem wo_upd {D : Addr} {H : Hp} {o : HO} : Same (Wo D H) (Wo D (upd H D o)) := fun b p e => by
  have ne : b ≠ D := fun z => by
    unfold Wo at e
    rw [if_pos z] at e
    cases e
  rw [wo_of ne] at e ⊢
  rw [upd_ne ne]
  exact e
theorem wo_same {D : Addr} {H H' : Hp} (s : Same H H') : Same (Wo D H) (Wo D H') := fun b p e => by
  have ne : b ≠ D := fun z => by
    unfold Wo at e
    rw [if_pos z] at e
    cases e
  rw [wo_of ne] at e ⊢
  exact s _ _ e
theorem wo_new {D t : Addr} {H : Hp} {o : HO} (hD : H t = some o) (ne : t ≠ D) : Wo D H t = some o := (wo_of ne).trans hD
/-- a comprehension over any walk; R tells of the items so far -/
theorem lc_acc {J : It} {n : Nat} {G : Hp → Prop} {Y : Nat → Hp → V → Hp → Prop} (w : L2.Walk J n G Y) {g : TG} {tt : TT} {te : TE} {vs : List Nat} {σ : St} {H1 : Hp} {D : Addr} {Qd : Hp → Prop} (R : Hp → Nat → List V → Prop)
    (nD : H1 D = none) (few : n ≤ 100000) (hG : ∀ H, Same H1 H → G H) (mono : ∀ H H' i acc, Same H H' → R H i acc → R H' i acc) (r0 : R H1 0 [])
    (hs : ∀ (i : Nat) (x : V) (H5 H6 : Hp) (acc : List V), i < n → Same H1 H5 → H5 D = some (.lst acc) → R (Wo D H5) i acc → acc.length ≤ i → Y i H5 x H6 → ∀ (Yes : V → Hp → Prop) (No : Hp → Prop), (∀ y H4, Same H5 H4 → R (Wo D H4) (i + 1) (acc ++ [y]) → Yes y H4) → (∀ H4, Same H5 H4 → R (Wo D H4) (i + 1) acc → No H4) →
      g x (wipe σ vs) H6 fun σ2 H2 => wipe σ2 vs = wipe σ vs ∧ tt σ2 H2 fun b H3 => if b = true then te σ2 H3 Yes else No H3)
    (hd : ∀ (H' : Hp) (acc : List V), Same H1 H' → H' D = some (.lst acc) → acc.length ≤ n → R (Wo D H') n acc → Qd H') :
    ∃ W : Nat → Nat → Hp → Prop, (∃ m, W 0 m (upd H1 D (.lst []))) ∧ ∀ i m H, W i m H →
      (J.stop i H ∧ Qd H) ∨ (J.go i H ∧ ∃ Nx : Hp → Prop, (∀ H', Nx H' → ∃ m', m' < m ∧ W (i + 1) m' H') ∧ ∀ x H', J.yld i H x H' → g x (wipe σ vs) H' fun σ2 H2 => wipe σ2 vs = wipe σ vs ∧ tt σ2 H2 fun b H3 =>
        if b = true then te σ2 H3 fun y H4 => ∃ acc, H4 D = some (.lst acc) ∧ acc.length < sizeLine ∧ Nx (upd H4 D (.lst (acc ++ [y]))) else Nx H3) := by
  refine lc_it w (fun i H5 => Same H1 H5 ∧ ∃ acc, H5 D = some (.lst acc) ∧ acc.length ≤ i ∧ R (Wo D H5) i acc) ⟨same_new nD, [], upd_same, Nat.le_refl _, mono _ _ _ _ ((wo_none nD).trans wo_upd) r0⟩ (fun i H5 _ q => hG H5 q.1) (fun i z H5 H6 hi q y => ?_) (fun H5 q => ?_)
  · obtain ⟨q1, acc, q2, q3, q4⟩ := q
    refine hs i z H5 H6 acc hi q1 q2 q4 q3 y _ _ (fun y H4 s4 r => ⟨acc, s4 _ _ q2, ?_, ?_, acc ++ [y], upd_same, ?_, mono _ _ _ _ wo_upd r⟩) fun H4 s4 r => ⟨q1.trans s4, acc, s4 _ _ q2, Nat.le_succ_of_le q3, r⟩
    · rw [sizeLine_eq]
      omega
    · intro b o h
      rw [upd_ne (ne_of_none h nD)]
      exact s4 _ _ (q1 _ _ h)
    · rw [List.length_append, List.length_singleton]
      omega
  · obtain ⟨q1, acc, q2, q3, q4⟩ := q
    exact hd H5 acc q1 q2 q3 q4
end L2.LawH
set_option Elab.async false
set_option linter.all false
set_option maxRecDepth 100000
set_option maxHeartbeats 4000000
/-! list(zip(a tuple, a tuple)): new pairs. -/
namespace L2.ZipL
open PySem PySem.Spec PyProof.Rows L2.LawH PySem.W
theorem zip_no_len : typeLookup (.type "zip") "__len__" = pure none := by rw [typeLookup_type, builtinLookup_eq_fast]; kernel_rfl
theorem zip_no_hint : typeLookup (.type "zip") "__length_hint__" = pure none := by rw [typeLookup_type, builtinLookup_eq_fast]; kernel_rfl
section
variable {prog : Program} {w : World} {A : Around} {E : Value → Shared → Prop} {s : Shared} {z TI TO i1 i2 : Addr} {fp1 fp2 : List Addr} {n i : Nat} {P1 P2 : Nat → Value → Prop} {St1 St2 : Nat → Heap → Prop}
theorem held_item {T : Addr} {f : Bool} {oT : Obj} {Q : Value → Shared → Prop} (S : ZipSep2 z TI TO i1 i2 fp1 fp2) (D1 : Draws prog w A i1 fp1 n P1 St1) (D2 : Draws prog w A i2 fp2 n P2 St2)
    (hz : IsZipHeld s.heap z TI TO T f) (hT : s.heap.get? T = some oT) (hTI : IsTupOf2 s.heap TI (.ref i1) (.ref i2)) (st1 : St1 i s.heap) (st2 : St2 i s.heap) (lt : i < n)
    (hQ : ∀ x y h' tk, P1 i x → P2 i y → IsZipHeld h' z TI TO T true → St1 (i + 1) h' → St2 (i + 1) h' → IsTupOf2 h' s.heap.objs.size x y → h'.objs.size = s.heap.objs.size + 1 →
      (∀ c o, c ≠ z → c ≠ i1 → c ≠ i2 → s.heap.get? c = some o → h'.get? c = some o) → Q (.ref s.heap.objs.size) { s with heap := h', toks := tk }) :
    wpAny (model prog w) A (Builtin.«zip.__next__» ⟨[.ref z], []⟩) (fun fin s' => ∃ v, fin = .done (.ret v) ∧ Q v s') E s := by
  obtain ⟨hp, g, d, tk0, os⟩ := s
  show wpAny _ _ (field (.ref z) 2 >>= _) _ _ _
  refine wpAny_bind (wpAny_field hz rfl (x := .bool false) rfl ?_)
  show wpAny _ _ (field (.ref z) 3 >>= _) _ _ _
  refine wpAny_bind (wpAny_field hz rfl (x := .ref TI) rfl (wpAny_bind (wpAny_seqItems hTI rfl ?_)))
  show wpAny _ _ (Builtin.SmallTypes.ownedTupleIsFree (.ref z) >>= _) _ _ _
  refine wpAny_bind (wpAny_tupleHeld_zip hz hT fun ha za sa => ?_)
  simp only [Bool.false_eq_true, if_false]
  refine wpAny_bind ?_
  rw [← Array.forIn_toList]
  simp only [List.forIn_cons, List.forIn_nil]
  have p1 := D1.over st1 sa S.zf1
  have p2 := D2.over st2 sa S.zf2
  refine wpAny_bind (wpAny_bind (wpAny_holding ?_))
  show wpAny _ _ (Builtin.SmallTypes.nextOf (.ref i1) >>= _) _ _ _
  refine wpAny_bind (D1.item i _ _ _ lt p1 fun x hb tkb hx q1 sb => wpAny_pure (wpAny_pure ?_))
  have p2' := D2.over p2 sb S.sep1_2
  refine wpAny_bind (wpAny_bind (wpAny_holding ?_))
  show wpAny _ _ (Builtin.SmallTypes.nextOf (.ref i2) >>= _) _ _ _
  refine wpAny_bind (D2.item i _ _ _ lt p2' fun y hc tkc hy q2 sc => wpAny_pure (wpAny_pure (wpAny_pure ?_)))
  have q1' := D1.over q1 sc S.sep2_1
  show wpAny _ _ (newTuple [x, y] >>= _) _ _ _
  refine wpAny_bind (wpAny_newTuple (wpAny_pure ⟨_, rfl, ?_⟩))
  have hsz : hc.objs.size = hp.objs.size := by rw [sc.1, sb.1, sa.1]
  show Q (.ref hc.objs.size) _
  have zc : IsZipHeld hc z TI TO T true := sc.extBut _ _ S.zi2 (sb.extBut _ _ S.zi1 za)
  have pair : IsTupOf2 (hc.push { cls := .type "tuple", data := .seq #[x, y] }) hc.objs.size x y := Heap.get?_push_size _ rfl
  have sz : (hc.push { cls := .type "tuple", data := .seq #[x, y] }).objs.size = hc.objs.size + 1 := Heap.size_push ..
  rw [hsz] at pair sz ⊢
  exact hQ x y _ _ hx hy (Heap.get?_push_of_some _ zc) (D1.frame _ _ _ q1' fun b _ o e => Heap.get?_push_of_some _ e) (D2.frame _ _ _ q2 fun b _ o e => Heap.get?_push_of_some _ e) pair sz
    fun c o c1 c2 c3 e => Heap.get?_push_of_some _ (sc.extBut _ _ c3 (sb.extBut _ _ c2 (sa.extBut _ _ c1 e)))
theorem held_end {T : Addr} {f : Bool} {oT : Obj} {Q : Fin → Shared → Prop} (S : ZipSep2 z TI TO i1 i2 fp1 fp2) (D1 : Draws prog w A i1 fp1 n P1 St1)
    (hz : IsZipHeld s.heap z TI TO T f) (hT : s.heap.get? T = some oT) (hTI : IsTupOf2 s.heap TI (.ref i1) (.ref i2)) (st1 : St1 n s.heap)
    (hE : ∀ h' e, (∀ c o, c ≠ z → c ≠ i1 → s.heap.get? c = some o → h'.get? c = some o) → (∃ o, h'.get? e = some o ∧ o.cls = .type "StopIteration") → E (.ref e) { s with heap := h' }) :
    wpAny (model prog w) A (Builtin.«zip.__next__» ⟨[.ref z], []⟩) Q E s := by
  show wpAny _ _ (field (.ref z) 2 >>= _) _ _ _
  refine wpAny_bind (wpAny_field hz rfl (x := .bool false) rfl ?_)
  show wpAny _ _ (field (.ref z) 3 >>= _) _ _ _
  refine wpAny_bind (wpAny_field hz rfl (x := .ref TI) rfl (wpAny_bind (wpAny_seqItems hTI rfl ?_)))
  show wpAny _ _ (Builtin.SmallTypes.ownedTupleIsFree (.ref z) >>= _) _ _ _
  refine wpAny_bind (wpAny_tupleHeld_zip hz hT fun ha za sa => ?_)
  simp only [Bool.false_eq_true, if_false]
  refine wpAny_bind ?_
  rw [← Array.forIn_toList]
  simp only [List.forIn_cons, List.forIn_nil]
  refine wpAny_bind (wpAny_bind (wpAny_holding ?_))
  show wpAny _ _ (Builtin.SmallTypes.nextOf (.ref i1) >>= _) _ _ _
  exact wpAny_bind (D1.done _ _ _ (D1.over st1 sa S.zf1) fun hb e sb he => hE hb e (fun c o c1 c2 x => sb _ _ c2 (sa.extBut _ _ c1 x)) he)
theorem next_item {T : Addr} {f : Bool} {oT : Obj} {Q : Option Value → Shared → Prop} (S : ZipSep2 z TI TO i1 i2 fp1 fp2) (D1 : Draws prog w A.in1 i1 fp1 n P1 St1) (D2 : Draws prog w A.in1 i2 fp2 n P2 St2)
    (hz : IsZipHeld s.heap z TI TO T f) (hT : s.heap.get? T = some oT) (hTI : IsTupOf2 s.heap TI (.ref i1) (.ref i2)) (st1 : St1 i s.heap) (st2 : St2 i s.heap) (lt : i < n)
    (hQ : ∀ x y h' tk, P1 i x → P2 i y → IsZipHeld h' z TI TO T true → St1 (i + 1) h' → St2 (i + 1) h' → IsTupOf2 h' s.heap.objs.size x y → h'.objs.size = s.heap.objs.size + 1 →
      (∀ c o, c ≠ z → c ≠ i1 → c ≠ i2 → s.heap.get? c = some o → h'.get? c = some o) → Q (some (.ref s.heap.objs.size)) { s with heap := h', toks := tk }) :
    wpAny (model prog w) A (pyNext (.ref z)) Q E s := by
  have ty : s.TypeIs (.ref z) "zip" := ⟨_, hz, rfl⟩
  unfold pyNext
  exact wpAny_bind (wpAny_attempt (wpAny_callSpecial?_slot (name := Str.ofString "__next__") ty F.slot_zip_next (wpAny_call_entry F.slot_zip_next ty F.entry_zip_next
    (held_item S D1 D2 hz hT hTI st1 st2 lt fun x y h' tk a b c d e f g k => wpAny_pure (hQ x y h' tk a b c d e f g k)) (F.args_zip_next_1 _))))
theorem next_end {T : Addr} {f : Bool} {oT : Obj} {Q : Option Value → Shared → Prop} (S : ZipSep2 z TI TO i1 i2 fp1 fp2) (D1 : Draws prog w A.in1 i1 fp1 n P1 St1)
    (hz : IsZipHeld s.heap z TI TO T f) (hT : s.heap.get? T = some oT) (hTI : IsTupOf2 s.heap TI (.ref i1) (.ref i2)) (st1 : St1 n s.heap)
    (hQ : ∀ h', (∀ c o, c ≠ z → c ≠ i1 → s.heap.get? c = some o → h'.get? c = some o) → Q none { s with heap := h' }) : wpAny (model prog w) A (pyNext (.ref z)) Q E s := by
  have ty : s.TypeIs (.ref z) "zip" := ⟨_, hz, rfl⟩
  unfold pyNext
  refine wpAny_bind (wpAny_attempt (wpAny_callSpecial?_slot (name := Str.ofString "__next__") ty F.slot_zip_next (wpAny_call_entry F.slot_zip_next ty F.entry_zip_next
    (held_end S D1 hz hT hTI st1 fun h' e hk he => ?_) (F.args_zip_next_1 _))))
  obtain ⟨o, ho, hc⟩ := he
  exact wpAny_bind (wpAny_isInstance (T := "StopIteration") (b := true) ⟨o, ho, hc⟩ isSubtype_stop (wpAny_pure (hQ _ hk)))
end
/-- a zip at its turn i, the list S apart -/
structure ZSt (h : Heap) (z TI TO i1 i2 l1 l2 : Addr) (xs ys : Array Value) (S : Addr) (i : Nat) : Prop where
  ti : IsTupOf2 h TI (.ref i1) (.ref i2)
  g1 : h.IsTupleIter i1 l1 i ∧ h.IsTuple l1 xs
  g2 : h.IsTupleIter i2 l2 i ∧ h.IsTuple l2 ys
  zz : (IsZip h z TI TO .none ∧ ∃ a b, IsTupOf2 h TO a b) ∨ ∃ T f oT, IsZipHeld h z TI TO T f ∧ h.get? T = some oT ∧ T ≠ z ∧ T ≠ i1 ∧ T ≠ i2 ∧ T ≠ S
theorem ZSt.keep {h h' : Heap} {z TI TO i1 i2 l1 l2 S : Addr} {xs ys : Array Value} {i : Nat} (x : ZSt h z TI TO i1 i2 l1 l2 xs ys S i) (hk : ∀ b o, b ≠ S → h.get? b = some o → h'.get? b = some o)
    (n : z ≠ S ∧ TI ≠ S ∧ TO ≠ S ∧ i1 ≠ S ∧ i2 ≠ S ∧ l1 ≠ S ∧ l2 ≠ S) : ZSt h' z TI TO i1 i2 l1 l2 xs ys S i := by
  obtain ⟨n0, n1, n2, n3, n4, n5, n6⟩ := n
  refine ⟨hk _ _ n1 x.ti, ⟨x.g1.1.at fun o e => hk _ o n3 e, x.g1.2.at fun o e => hk _ o n5 e⟩, ⟨x.g2.1.at fun o e => hk _ o n4 e, x.g2.2.at fun o e => hk _ o n6 e⟩, ?_⟩
  rcases x.zz with ⟨hz, a, b, ho⟩ | ⟨T, f, oT, hz, hT, r1, r2, r3, r4⟩
  · exact .inl ⟨hk _ _ n0 hz, a, b, hk _ _ n2 ho⟩
  · exact .inr ⟨T, f, oT, hk _ _ n0 hz, hk _ _ r4 hT, r1, r2, r3, r4⟩
section
variable {prog : Program} {w : World} {A : Around} {E : Value → Shared → Prop} {s : Shared} {z TI TO i1 i2 l1 l2 S : Addr} {xs ys : Array Value} {i : Nat}
theorem z_item {Q : Option Value → Shared → Prop} (hA : A.handled = none) (sp : ZipSep2 z TI TO i1 i2 [i1, l1] [i2, l2]) (l1z : l1 ≠ i1) (l2z : l2 ≠ i2) (le : ys.size = xs.size) (st : ZSt s.heap z TI TO i1 i2 l1 l2 xs ys S i) (lt : i < xs.size) (hS : S < s.heap.objs.size)
    (hQ : ∀ x y h' tk, xs[i]? = some x → ys[i]? = some y → ZSt h' z TI TO i1 i2 l1 l2 xs ys S (i + 1) → IsTupOf2 h' s.heap.objs.size x y → h'.objs.size = s.heap.objs.size + 1 →
      (∀ c o, c ≠ z → c ≠ TO → c ≠ i1 → c ≠ i2 → s.heap.get? c = some o → h'.get? c = some o) → Q (some (.ref s.heap.objs.size)) { s with heap := h', toks := tk }) :
    wpAny (model prog w) A (pyNext (.ref z)) Q E s := by
  have D1 : Draws prog w A.in1 i1 [i1, l1] xs.size (fun i v => xs[i]? = some v) (fun i h => h.IsTupleIter i1 l1 i ∧ h.IsTuple l1 xs) := Draws.tuple (A := A.in1) hA i1 l1 l1z xs
  have D2 : Draws prog w A.in1 i2 [i2, l2] xs.size (fun i v => ys[i]? = some v) (fun i h => h.IsTupleIter i2 l2 i ∧ h.IsTuple l2 ys) := le ▸ Draws.tuple (A := A.in1) hA i2 l2 l2z ys
  obtain ⟨hi, g1, g2, hz⟩ := st
  have nl : ∀ {c o}, s.heap.get? c = some o → s.heap.objs.size ≠ c := fun e => Nat.ne_of_gt (Heap.lt_size e)
  obtain ⟨o1, e1⟩ := D1.live _ _ g1
  obtain ⟨o2, e2⟩ := D2.live _ _ g2
  rcases hz with ⟨hz, a, b, ho⟩ | ⟨T, f, oT, hz, hT, r1, r2, r3, r4⟩
  · refine wpAny_pyNext_zipD2_item sp D1 D2 hz hi ho g1 g2 lt lt fun x y h' tk hx hy a1 a2 s1 s2 pr sz hk => ?_
    exact hQ x y h' tk hx hy ⟨hk _ _ sp.TIz sp.TITO sp.TIi1 sp.TIi2 hi, s1, s2, .inr ⟨_, false, _, a1, pr, nl hz, nl e1, nl e2, Nat.ne_of_gt hS⟩⟩ pr sz hk
  · refine next_item sp D1 D2 hz hT hi g1 g2 lt fun x y h' tk hx hy a1 s1 s2 pr sz hk => ?_
    exact hQ x y h' tk hx hy ⟨hk _ _ sp.TIz sp.TIi1 sp.TIi2 hi, s1, s2, .inr ⟨T, true, oT, a1, hk _ _ r1 r2 r3 hT, r1, r2, r3, r4⟩⟩ pr sz fun c o c1 _ c3 c4 e => hk c o c1 c3 c4 e
theorem z_done {Q : Option Value → Shared → Prop} (hA : A.handled = none) (sp : ZipSep2 z TI TO i1 i2 [i1, l1] [i2, l2]) (l1z : l1 ≠ i1) (l2z : l2 ≠ i2) (le : ys.size = xs.size) (st : ZSt s.heap z TI TO i1 i2 l1 l2 xs ys S xs.size)
    (hQ : ∀ h' tk, (∀ c o, c ≠ z → c ≠ TO → c ≠ i1 → c ≠ i2 → s.heap.get? c = some o → h'.get? c = some o) → Q none { s with heap := h', toks := tk }) :
    wpAny (model prog w) A (pyNext (.ref z)) Q E s := by
  have D1 : Draws prog w A.in1 i1 [i1, l1] xs.size (fun i v => xs[i]? = some v) (fun i h => h.IsTupleIter i1 l1 i ∧ h.IsTuple l1 xs) := Draws.tuple (A := A.in1) hA i1 l1 l1z xs
  have D2 : Draws prog w A.in1 i2 [i2, l2] xs.size (fun i v => ys[i]? = some v) (fun i h => h.IsTupleIter i2 l2 i ∧ h.IsTuple l2 ys) := le ▸ Draws.tuple (A := A.in1) hA i2 l2 l2z ys
  obtain ⟨hi, g1, g2, hz⟩ := st
  rcases hz with ⟨hz, a, b, ho⟩ | ⟨T, f, oT, hz, hT, r1, r2, r3, r4⟩
  · exact wpAny_pyNext_zipD2_end sp D1 D2 hz hi ho g1 g2 (Nat.le_refl _) (Nat.le_refl _) (.inl rfl) fun h' tk hk => hQ h' tk hk
  · exact next_end sp D1 hz hT hi g1 fun h' hk => hQ h' s.toks fun c o c1 _ c3 _ e => hk c o c1 c3 e
end
structure ZG (xs ys : Array Value) (lo : Addr) (h : Heap) (as : List Addr) : Prop where
  rise : as.Pairwise (· < ·)
  above : ∀ a ∈ as, lo < a
  pairs : ∀ (j : Nat) (a : Addr), as[j]? = some a → ∃ x y, xs[j]? = some x ∧ ys[j]? = some y ∧ IsTupOf2 h a x y
theorem ZG.there {xs ys : Array Value} {lo : Addr} {h : Heap} {as : List Addr} (g : ZG xs ys lo h as) {a : Addr} (ha : a ∈ as) : a < h.objs.size := by
  obtain ⟨j, hj⟩ := List.mem_iff_getElem?.mp ha
  obtain ⟨_, _, _, _, e⟩ := g.pairs j a hj
  exact Heap.lt_size e
section
variable {prog : Program} {w : World} {A : Around} {s : Shared} {R : Result → Shared → Prop} {z TI TO i1 i2 l1 l2 : Addr} {xs ys : Array Value}
theorem zl_loop {S : Addr} (hh : A.handled = none) (sp : ZipSep2 z TI TO i1 i2 [i1, l1] [i2, l2]) (l1z : l1 ≠ i1) (l2z : l2 ≠ i2) (le : ys.size = xs.size)
    (lS : z < S ∧ TI < S ∧ TO < S ∧ i1 < S ∧ i2 < S ∧ l1 < S ∧ l2 < S) (hn : xs.size ≤ sizeLine) (res : Value) {h₁ : Heap}
    (hR : ∀ h' tk acc c as, (∀ b o, b ≠ S → b ≠ z → b ≠ TO → b ≠ i1 → b ≠ i2 → h₁.get? b = some o → h'.get? b = some o) → h'.get? S = some { cls := .type "list", dict := none, data := .seq acc c, slots := #[] } → as.length = xs.size → ZG xs ys S h' as →
      acc.toList = as.map Value.ref → R (.ok (.ret res)) { s with heap := h', toks := tk }) :
    ∀ (k i : Nat) (h : Heap) (tk c : Nat) (acc : Array Value) (as : List Addr), xs.size - i = k → i ≤ xs.size → ZSt h z TI TO i1 i2 l1 l2 xs ys S i → (∀ b o, b ≠ S → b ≠ z → b ≠ TO → b ≠ i1 → b ≠ i2 → h₁.get? b = some o → h.get? b = some o) →
      h.get? S = some { cls := .type "list", dict := none, data := .seq acc c, slots := #[] } → acc.toList = as.map Value.ref → as.length = i → ZG xs ys S h as →
      codeAny (model prog w) A (.builtin "list.extend.loop" ⟨[.ref S, .ref z, res], []⟩) R { s with heap := h, toks := tk } := by
  obtain ⟨s0, s1, s2, s3, s4, s5, s6⟩ := lS
  have ne : z ≠ S ∧ TI ≠ S ∧ TO ≠ S ∧ i1 ≠ S ∧ i2 ≠ S ∧ l1 ≠ S ∧ l2 ≠ S := ⟨Nat.ne_of_lt s0, Nat.ne_of_lt s1, Nat.ne_of_lt s2, Nat.ne_of_lt s3, Nat.ne_of_lt s4, Nat.ne_of_lt s5, Nat.ne_of_lt s6⟩
  have far : ∀ {b : Addr}, S < b → b ≠ z ∧ b ≠ TO ∧ b ≠ i1 ∧ b ≠ i2 := fun {b} hb => ⟨Nat.ne_of_gt (Nat.lt_trans s0 hb), Nat.ne_of_gt (Nat.lt_trans s2 hb), Nat.ne_of_gt (Nat.lt_trans s3 hb), Nat.ne_of_gt (Nat.lt_trans s4 hb)⟩
  intro k
  induction k with
  | zero =>
    intro i h tk c acc as hk hi hst hkeep hS hacc hal hG
    have hin : i = xs.size := by omega
    subst hin
    refine codeAny_builtin PySem.F.entry_extend_loop ?_
    rw [Around.under_plainId PySem.F.plain_extend_loop _]
    show wpAny _ A.in1 (pyNext (.ref z) >>= _) _ _ _
    refine wpAny_bind (z_done (s := { s with heap := h, toks := tk }) (A := A.in1) hh sp l1z l2z le hst fun h' tk' he => ?_)
    refine wpAny_pure (hR h' tk' acc c as (fun b o n1 n2 n3 n4 n5 e => he b o n2 n3 n4 n5 (hkeep b o n1 n2 n3 n4 n5 e)) (he S _ ne.1.symm ne.2.2.1.symm ne.2.2.2.1.symm ne.2.2.2.2.1.symm hS) hal ⟨hG.rise, hG.above, fun j a hj => ?_⟩ hacc)
    obtain ⟨x, y, e1, e2, e3⟩ := hG.pairs j a hj
    obtain ⟨f1, f2, f3, f4⟩ := far (hG.above a (List.mem_of_getElem? hj))
    exact ⟨x, y, e1, e2, he a _ f1 f2 f3 f4 e3⟩
  | succ k ih =>
    intro i h tk c acc as hk hi hst hkeep hS hacc hal hG
    have hlt : i < xs.size := by omega
    have hsz : acc.size = i := by rw [← Array.length_toList, hacc, List.length_map, hal]
    have hSl : S < h.objs.size := Heap.lt_size hS
    refine codeAny_builtin PySem.F.entry_extend_loop ?_
    rw [Around.under_plainId PySem.F.plain_extend_loop _]
    show wpAny _ A.in1 (pyNext (.ref z) >>= _) _ _ _
    refine wpAny_bind (z_item (s := { s with heap := h, toks := tk }) (A := A.in1) (S := S) hh sp l1z l2z le hst hlt hSl fun x y h' tk' hx hy hst' ht hz hkp => ?_)
    dsimp only at ht hz hkp ⊢
    have hS' := hkp S _ ne.1.symm ne.2.2.1.symm ne.2.2.2.1.symm ne.2.2.2.2.1.symm hS
    have up : ∀ b o, b ≠ S → h'.get? b = some o → (h'.update S (Obj.mapSeq (·.push (Value.ref h.objs.size)))).get? b = some o := fun b o hb e => (Heap.get?_update_other _ _ (Ne.symm hb)).trans e
    show wpAny _ A.in1 (updateSeq S (·.push (Value.ref h.objs.size)) >>= _) _ _ _
    refine wpAny_bind ?_
    refine wpAny_updateSeq hS' rfl (wpAny_pure ⟨plainId_quiet PySem.F.plain_extend_loop _, ih (i + 1) _ tk' _ (acc.push (Value.ref h.objs.size)) (as ++ [h.objs.size]) (by omega) hlt (hst'.keep up ne)
      (fun b o n1 n2 n3 n4 n5 e => up b o n1 (hkp b o n2 n3 n4 n5 (hkeep b o n1 n2 n3 n4 n5 e))) (Heap.get?_update_self _ hS' rfl) (by rw [Array.toList_push, hacc, List.map_append]; rfl) (by rw [List.length_append, hal]; rfl) ⟨?_, ?_, ?_⟩⟩) (by rw [hsz]; omega) (by show (acc.push (Value.ref h.objs.size)).size ≤ sizeLine + 1; rw [Array.size_push, hsz]; omega)
    · refine List.pairwise_append.mpr ⟨hG.rise, List.pairwise_singleton _ _, fun a ha b hb => ?_⟩
      rw [List.mem_singleton.mp hb]
      exact hG.there ha
    · intro a ha
      rcases List.mem_append.mp ha with ha | ha
      · exact hG.above a ha
      · rw [List.mem_singleton.mp ha]; exact hSl
    · intro j b hj
      rcases Nat.lt_trichotomy j as.length with h1 | h1 | h1
      · rw [List.getElem?_append_left h1] at hj
        obtain ⟨x', y', e1, e2, e3⟩ := hG.pairs j b hj
        have hb := hG.above b (List.mem_of_getElem? hj)
        obtain ⟨f1, f2, f3, f4⟩ := far hb
        exact ⟨x', y', e1, e2, up b _ (Nat.ne_of_gt hb) (hkp b _ f1 f2 f3 f4 e3)⟩
      · subst h1
        have hb : h.objs.size = b := by simpa using hj
        subst hb
        exact ⟨x, y, by rw [hal]; exact hx, by rw [hal]; exact hy, up _ _ (Nat.ne_of_gt hSl) ht⟩
      · have hnone : (as ++ [h.objs.size])[j]? = none := List.getElem?_eq_none (by rw [List.length_append, List.length_singleton]; omega)
        rw [hnone] at hj; cases hj
theorem zl_extend {S : Addr} (hh : A.handled = none) (sp : ZipSep2 z TI TO i1 i2 [i1, l1] [i2, l2]) (l1z : l1 ≠ i1) (l2z : l2 ≠ i2) (le : ys.size = xs.size)
    (lS : z < S ∧ TI < S ∧ TO < S ∧ i1 < S ∧ i2 < S ∧ l1 < S ∧ l2 < S) (hn : xs.size ≤ sizeLine) (res : Value) (c₀ : Nat) (hst : ZSt s.heap z TI TO i1 i2 l1 l2 xs ys S 0) (hz : IsZip s.heap z TI TO .none) (hS : s.heap.get? S = some { cls := .type "list", data := .seq #[] c₀ })
    (hR : ∀ h' tk acc c as, (∀ b o, b ≠ S → b ≠ z → b ≠ TO → b ≠ i1 → b ≠ i2 → s.heap.get? b = some o → h'.get? b = some o) → h'.get? S = some { cls := .type "list", dict := none, data := .seq acc c, slots := #[] } → as.length = xs.size → ZG xs ys S h' as →
      acc.toList = as.map Value.ref → R (.ok (.ret res)) { s with heap := h', toks := tk }) :
    wpAny (model prog w) A.in1 (Builtin.List.listExtendWith (.ref S) (.ref z) res)
      (fun fin s' => match fin with | .done f => R (.ok f) s' | .again c' => c'.quiet = true ∧ codeAny (model prog w) A c' R s') (fun e s' => R (.error e) s') s := by
  have ty : s.TypeIs (.ref z) "zip" := ⟨_, hz, rfl⟩
  have hSz : S ≠ z := Nat.ne_of_gt lS.1
  have ne : z ≠ S ∧ TI ≠ S ∧ TO ≠ S ∧ i1 ≠ S ∧ i2 ≠ S ∧ l1 ≠ S ∧ l2 ≠ S := let ⟨s0, s1, s2, s3, s4, s5, s6⟩ := lS; ⟨Nat.ne_of_lt s0, Nat.ne_of_lt s1, Nat.ne_of_lt s2, Nat.ne_of_lt s3, Nat.ne_of_lt s4, Nat.ne_of_lt s5, Nat.ne_of_lt s6⟩
  unfold Builtin.List.listExtendWith
  refine wpAny_bind (wpAny_typeOf ty ?_)
  have h1 : Builtin.List.listSameRef (.ref S) (.ref z) = false := by simp [Builtin.List.listSameRef, hSz]
  have h2 : (Value.type "zip" == Value.type "list") = false := by decide
  have h3 : (Value.type "zip" == Value.type "tuple") = false := by decide
  simp only [h1, h2, h3, Bool.or_false, Bool.false_eq_true, if_false]
  refine wpAny_bind (wpAny_pyIter_zip hz ?_)
  refine wpAny_bind (wpAny_holding ?_)
  unfold Builtin.List.listLengthHint
  refine wpAny_bind (wpAny_specialOf ty zip_no_len ?_)
  show wpAny _ A.in1 (specialOf (Value.ref z) (Str.ofString "__length_hint__") >>= _) _ _ _
  refine wpAny_bind (wpAny_specialOf ty zip_no_hint ?_)
  refine wpAny_pure ?_
  show wpAny _ A.in1 (rule "list.extend.makes-room" >>= fun _ => Builtin.List.listTouch (.ref S) >>= fun _ =>
    again (.builtin "list.extend.loop" ⟨[.ref S, .ref z, res], []⟩)) _ _ _
  refine wpAny_bind (wpAny_rule ?_)
  refine wpAny_bind ?_
  show wpAny _ A.in1 (updateSeq S (·.push .none) >>= fun _ => updateSeq S (·.pop)) _ _ _
  refine wpAny_bind (wpAny_updateSeq hS rfl ?_)
  have hS₂ := Heap.get?_update_self (Obj.mapSeq (·.push Value.none)) hS rfl
  refine wpAny_updateSeq (hz := by seq_fits) hS₂ rfl ?_
  have hS₃ := Heap.get?_update_self (Obj.mapSeq (·.pop)) hS₂ rfl
  have oth : ∀ b o, b ≠ S → s.heap.get? b = some o → ((s.heap.update S (Obj.mapSeq (·.push Value.none))).update S (Obj.mapSeq (·.pop))).get? b = some o :=
    fun b o hb e => (Heap.get?_update_other _ _ (Ne.symm hb)).trans ((Heap.get?_update_other _ _ (Ne.symm hb)).trans e)
  refine wpAny_pure ⟨plainId_quiet F.plain_extend_loop _, ?_⟩
  exact zl_loop (s := s) (h₁ := s.heap) hh sp l1z l2z le lS hn res hR xs.size 0 _ s.toks _ #[] [] (Nat.sub_zero _) (Nat.zero_le _) (hst.keep oth ne) (fun b o n1 _ _ _ _ e => oth b o n1 e) hS₃ rfl rfl
    ⟨List.Pairwise.nil, (fun _ ha => nomatch ha), (fun j a hj => by simp at hj)⟩
end
section
variable {prog : Program} {w : World} {A : Around} {E : Value → Shared → Prop} {s : Shared} {z TI TO i1 i2 l1 l2 : Addr} {xs ys : Array Value}
theorem zl_call {Q : Value → Shared → Prop} (hh : A.handled = none) (sp : ZipSep2 z TI TO i1 i2 [i1, l1] [i2, l2]) (l1z : l1 ≠ i1) (l2z : l2 ≠ i2) (le : ys.size = xs.size) (hn : xs.size ≤ sizeLine)
    (hz : IsZip s.heap z TI TO .none) (hTI : IsTupOf2 s.heap TI (.ref i1) (.ref i2)) (hTO : IsTupOf2 s.heap TO .none .none) (g1 : s.heap.IsTupleIter i1 l1 0 ∧ s.heap.IsTuple l1 xs) (g2 : s.heap.IsTupleIter i2 l2 0 ∧ s.heap.IsTuple l2 ys)
    (hQ : ∀ h' tk acc c as, (∀ b o, b ≠ z → b ≠ TO → b ≠ i1 → b ≠ i2 → s.heap.get? b = some o → h'.get? b = some o) → h'.get? s.heap.objs.size = some { cls := .type "list", dict := none, data := .seq acc c, slots := #[] } → as.length = xs.size → ZG xs ys s.heap.objs.size h' as →
      acc.toList = as.map Value.ref → Q (.ref s.heap.objs.size) { s with heap := h', toks := tk }) :
    wpAny (model prog w) A (call (.type "list") [.ref z]) Q E s := by
  refine callType_codes (Q₁ := fun obj s₁ => obj = .ref s.heap.objs.size ∧ s₁ = { s with heap := s.heap.push { cls := .type "list", data := .seq #[] } }) PySem.F.called_list (PySem.F.typeCall_list_1 _) PySem.F.entry_list_init
    (code_list_new _ ⟨rfl, rfl⟩) fun obj s₁ h₁ => ?_
  obtain ⟨rfl, rfl⟩ := h₁
  have hS : (s.heap.push { cls := .type "list", data := .seq #[] }).get? s.heap.objs.size = some { cls := .type "list", data := .seq #[] } := Heap.get?_push_size _ rfl
  obtain ⟨o1, p1, _⟩ := id g1.1
  obtain ⟨o2, p2, _⟩ := id g2.1
  obtain ⟨o3, p3, _⟩ := id g1.2
  obtain ⟨o4, p4, _⟩ := id g2.2
  have lS : z < s.heap.objs.size ∧ TI < s.heap.objs.size ∧ TO < s.heap.objs.size ∧ i1 < s.heap.objs.size ∧ i2 < s.heap.objs.size ∧ l1 < s.heap.objs.size ∧ l2 < s.heap.objs.size :=
    ⟨Heap.lt_size hz, Heap.lt_size hTI, Heap.lt_size hTO, Heap.lt_size p1, Heap.lt_size p2, Heap.lt_size p3, Heap.lt_size p4⟩
  have ne : z ≠ s.heap.objs.size ∧ TI ≠ s.heap.objs.size ∧ TO ≠ s.heap.objs.size ∧ i1 ≠ s.heap.objs.size ∧ i2 ≠ s.heap.objs.size ∧ l1 ≠ s.heap.objs.size ∧ l2 ≠ s.heap.objs.size :=
    let ⟨s0, s1, s2, s3, s4, s5, s6⟩ := lS; ⟨Nat.ne_of_lt s0, Nat.ne_of_lt s1, Nat.ne_of_lt s2, Nat.ne_of_lt s3, Nat.ne_of_lt s4, Nat.ne_of_lt s5, Nat.ne_of_lt s6⟩
  have st0 : ZSt s.heap z TI TO i1 i2 l1 l2 xs ys s.heap.objs.size 0 := ⟨hTI, g1, g2, .inl ⟨hz, _, _, hTO⟩⟩
  refine ⟨⟨_, hS, rfl⟩, PySem.F.args_list_init_2 _ _, ?_⟩
  show wpAny _ A.in1.in1 (do let old ← Builtin.List.listItems (.ref s.heap.objs.size); Builtin.List.listUpdate (.ref s.heap.objs.size) (fun _ => #[]); letGo old.toList.reverse; Builtin.List.listExtendWith (.ref s.heap.objs.size) (.ref z) .none) _ _ _
  refine wpAny_bind ?_
  unfold Builtin.List.listItems
  refine wpAny_bind (wpAny_seqItems hS rfl (wpAny_pure ?_))
  show wpAny _ _ (updateSeq s.heap.objs.size (fun _ => #[]) >>= fun _ => letGo (#[] : Array Value).toList.reverse >>= fun _ => Builtin.List.listExtendWith (.ref s.heap.objs.size) (.ref z) .none) _ _ _
  refine wpAny_bind (wpAny_updateSeq hS rfl ?_)
  have hS₂ := Heap.get?_update_self (Obj.mapSeq (fun _ => (#[] : Array Value))) hS rfl
  have oth : ∀ b o, b ≠ s.heap.objs.size → s.heap.get? b = some o → ((s.heap.push { cls := .type "list", data := .seq #[] }).update s.heap.objs.size (Obj.mapSeq (fun _ => (#[] : Array Value)))).get? b = some o :=
    fun b o hb e => (Heap.get?_update_other _ _ (Ne.symm hb)).trans (Heap.get?_push_of_some _ e)
  refine wpAny_bind (wpAny_letGo ?_)
  refine zl_extend (A := A.in1) (S := s.heap.objs.size) hh sp l1z l2z le lS hn .none _ (st0.keep oth ne) (oth _ _ ne.1 hz) hS₂ fun h' tk acc c as hk hS' hl hG hacc => ?_
  exact ⟨rfl, hQ h' tk acc c as (fun b o n2 n3 n4 n5 e => hk b o (Nat.ne_of_lt (Heap.lt_size e)) n2 n3 n4 n5 (oth b o (Nat.ne_of_lt (Heap.lt_size e)) e)) hS' hl hG hacc⟩
end
/-- the pairs tracked at their places -/
def putZ : Hp → List Addr → List (V × V) → Hp
  | H, a :: as, p :: ps => putZ (upd H a (.tup [p.1, p.2])) as ps
  | H, _, _ => H
theorem putZ_off {b : Addr} : ∀ (as : List Addr) (ps : List (V × V)) (H : Hp), b ∉ as → putZ H as ps b = H b
  | [], _, _, _ => rfl
  | _ :: _, [], _, _ => rfl
  | a :: as, p :: ps, H, h => by
    show putZ (upd H a (.tup [p.1, p.2])) as ps b = H b
    rw [putZ_off as ps _ (fun z => h (List.mem_cons_of_mem _ z)), upd_ne (fun z => h (by rw [z]; exact List.mem_cons_self))]
theorem putZ_at : ∀ (as : List Addr) (ps : List (V × V)) (H : Hp), as.length = ps.length → as.Nodup → ∀ (j : Nat) (a : Addr) (p : V × V), as[j]? = some a → ps[j]? = some p → putZ H as ps a = some (.tup [p.1, p.2])
  | [], _, _, _, _, j, a, p, e, _ => by simp at e
  | _ :: _, [], _, h, _, _, _, _, _, _ => by cases h
  | a :: as, p :: ps, H, h, hn, j, b, q, e1, e2 => by
    have hn' := List.nodup_cons.mp hn
    cases j with
    | zero =>
      have e1 : a = b := Option.some.inj e1
      have e2 : p = q := Option.some.inj e2
      subst e1 e2
      show putZ (upd H a (.tup [p.1, p.2])) as ps a = some (.tup [p.1, p.2])
      rw [putZ_off as ps _ hn'.1, upd_same]
    | succ j => exact putZ_at as ps _ (Nat.succ.inj h) hn'.2 j b q (by simpa using e1) (by simpa using e2)
def tListZip (K : PySem.W.Frag) (ta : TA) : TE := fun σ H Q => ta σ H fun us H1 => ∃ (a b : Addr) (xs ys : List V), us = [.ref a, .ref b] ∧ SqT K H1 a xs ∧ SqT K H1 b ys ∧ xs.length = ys.length ∧ xs.length ≤ 100000 ∧
  ∀ (H' : Hp) (p : Addr) (ts : List Addr), Same H1 H' → H1 p = none → (∀ t ∈ ts, H1 t = none) → p ∉ ts → ts.length = xs.length → H' p = some (.lst (ts.map V.ref)) → (∀ (j : Nat) (t : Addr) (x y : V), ts[j]? = some t → xs[j]? = some x → ys[j]? = some y → H' t = some (.tup [x, y])) → Q (.ref p) H'
theorem pe_listZip {X : Cx} {K : PySem.W.Frag} (eK : X.K = K) {e1 e2 : Expr} {ta : TA} {p p2 pos pos2 : Pos} (hcalm : X.calm = true) (hg : Gl X "list") (hm : X.mg "list" = none) (hv : bootBuiltins "list" = some (.type "list")) (hgz : Gl X "zip") (hmz : X.mg "zip" = none) (ha : PA X [e1, e2] ta)
    (he : starEach [.Call (.Name "zip" p2) [e1, e2] [] pos2] X.env = (false, eval (.Call (.Name "zip" p2) [e1, e2] [] pos2) X.env) :: starEach [] X.env := by rfl) (hpl : (backTo pos (starEach [] X.env)).any (·.1) = false := by rfl)
    (hs : starEach [e1, e2] X.env = (false, eval e1 X.env) :: starEach [e2] X.env := by rfl) (hpl2 : (backTo pos2 (starEach [e2] X.env)).any (·.1) = false := by rfl) :
    PE X (.Call (.Name "list" p) [.Call (.Name "zip" p2) [e1, e2] [] pos2] [] pos) (tListZip K ta) := by
  subst eK
  refine ⟨fun pins s σ H Q I h => ?_⟩
  refine wpAny_Call_Name_kw (ld_blt I hg hm hv ?_ (by decide) (by decide))
  refine PyProof.Rows.callWith_type1 ?_ he hpl
  rw [he]
  show wpAny _ _ (spliced ((false, eval (.Call (.Name "zip" p2) [e1, e2] [] pos2) X.env) :: backTo pos (starEach [] X.env))) _ _ s
  refine Calls.spliced_cons ?_
  refine Call_ (ld_blt I hgz hmz PyProof.Rows.boot_zip (PyProof.Rows.callWith_type1 (thn (ha.run pos2 pins s σ H _ I h) fun us s1 ⟨vs, H1, I1, r1, q1⟩ => ?_) hs hpl2))
  obtain ⟨a, b, xs, ys, ex, hqx, hqy, lv, few, q⟩ := q1
  subst ex
  cases r1 with
  | cons r rr =>
    cases rr with
    | cons r' rr =>
      cases rr
      cases r
      cases r'
      obtain ⟨its, rv, g1, _⟩ := I1.tuple hqx
      obtain ⟨its2, rv2, g2, _⟩ := I1.tuple hqy
      obtain ⟨oa, pa, _⟩ := id g1
      obtain ⟨ob, pb, _⟩ := id g2
      have la : a < s1.heap.objs.size := Heap.lt_size pa
      have lb : b < s1.heap.objs.size := Heap.lt_size pb
      refine zip_begins2 (begins_tuple a its.toArray) (begins_tuple b its2.toArray) g1 g2 fun h' hz hTI hTO h1 h2 hsz hk => ?_
      refine Calls.spliced_nil ?_
      have l1 := rv.length
      have l2 := rv2.length
      have S : ZipSep2 (s1.heap.objs.size + 4) (s1.heap.objs.size + 2) (s1.heap.objs.size + 3) s1.heap.objs.size (s1.heap.objs.size + 1) [s1.heap.objs.size, a] [s1.heap.objs.size + 1, b] :=
        zip_sep2 (fun c hc => by rw [List.mem_singleton.mp hc]; exact la) (fun c hc => by rw [List.mem_singleton.mp hc]; exact lb)
      refine zl_call (s := { s1 with heap := h' }) (xs := its.toArray) (ys := its2.toArray) (I1.ok.hd hcalm) S (Nat.ne_of_lt la) (Nat.ne_of_lt (Nat.lt_succ_of_lt lb)) (by simp; omega) (by simp only [List.size_toArray]; rw [← l1, sizeLine_eq]; omega) hz hTI hTO ⟨⟨_, h1, rfl, rfl⟩, (show s1.heap.IsTuple a its.toArray from g1).at fun o e => hk _ o e⟩ ⟨⟨_, h2, rfl, rfl⟩, (show s1.heap.IsTuple b its2.toArray from g2).at fun o e => hk _ o e⟩ fun h2' tk acc c as k hS hl hG hacc => ?_
      have le : s1.heap.objs.size ≤ h'.objs.size := by rw [hsz]; exact Nat.le_add_right _ _
      have up : ∀ c o, s1.heap.get? c = some o → h2'.get? c = some o := fun c o e => by
        have := Heap.lt_size e
        exact k c o (Nat.ne_of_lt (Nat.lt_of_lt_of_le this (Nat.le_add_right _ _))) (Nat.ne_of_lt (Nat.lt_of_lt_of_le this (Nat.le_add_right _ _))) (Nat.ne_of_lt this) (Nat.ne_of_lt (Nat.lt_of_lt_of_le this (Nat.le_add_right _ _))) (hk c o e)
      have hSn : h'.objs.size ∉ as := fun z => Nat.lt_irrefl _ (hG.above _ z)
      have nd : as.Nodup := List.Pairwise.imp (fun {a b} (h : a < b) => Nat.ne_of_lt h) hG.rise
      have new : ∀ t ∈ as, H1 t = none := fun t ht => I1.hok.fresh (Nat.le_trans le (Nat.le_of_lt (hG.above t ht)))
      have newS : H1 h'.objs.size = none := I1.hok.fresh le
      have la' : as.length = (xs.zip ys).length := by
        rw [hl, List.length_zip, ← lv, Nat.min_self, List.size_toArray, ← l1]
      have atP := putZ_at as (xs.zip ys) (upd H1 h'.objs.size (.lst (as.map V.ref))) la' nd
      have off : ∀ b, b ∉ as → b ≠ h'.objs.size → putZ (upd H1 h'.objs.size (.lst (as.map V.ref))) as (xs.zip ys) b = H1 b := fun b h1 h2 => by rw [putZ_off as _ _ h1, upd_ne h2]
      have kp : ∀ b u, H1 b = some u → (putZ (upd H1 h'.objs.size (.lst (as.map V.ref))) as (xs.zip ys)) b = some u := fun b u e => by
        rw [off b (fun z => by rw [new b z] at e; cases e) (fun z => by rw [z, newS] at e; cases e)]
        exact e
      have eS : putZ (upd H1 h'.objs.size (.lst (as.map V.ref))) as (xs.zip ys) h'.objs.size = some (.lst (as.map V.ref)) := by rw [putZ_off as _ _ hSn, upd_same]
      have low : ∀ b o, s1.heap.get? b = some o → b ∉ as ∧ b ≠ h'.objs.size := fun b o e => ⟨fun z => Nat.lt_irrefl _ (Nat.lt_trans (Nat.lt_of_lt_of_le (Heap.lt_size e) le) (hG.above b z)), fun z => Nat.lt_irrefl _ (Nat.lt_of_lt_of_le (z ▸ Heap.lt_size e) le)⟩
      have J : Inv X pins σ (putZ (upd H1 h'.objs.size (.lst (as.map V.ref))) as (xs.zip ys)) { s1 with heap := h2', toks := tk } := by
        refine I1.call' (ch := []) rfl ⟨fun b o q _ _ _ => up b o q, fun b o q _ _ _ => ⟨o.slots, up b o q⟩, fun b o q n _ => ?_, fun b o q _ => ⟨o, up b o q⟩, fun b xs q => kp b _ q, fun b o u q => kp b _ q, fun b ps q => ⟨#[], by rw [kp b _ q]; simp⟩⟩ (fun b u q => ?_) I1.bare fun b z => by simp at z
        · obtain ⟨z1, z2⟩ := low b o q
          rw [off b z1 z2]
          exact n
        · by_cases hb : b ∈ as
          · obtain ⟨j, ej⟩ := List.mem_iff_getElem?.mp hb
            obtain ⟨x, y, f1, f2, f3⟩ := hG.pairs j b ej
            have jx : j < its.length := by
              have := (Array.getElem?_eq_some_iff.mp f1).1
              simpa using this
            have jy : j < its2.length := by omega
            have gx : its[j]? = some x := by simpa using f1
            have gy : its2[j]? = some y := by simpa using f2
            have hx : xs[j]? = some xs[j] := List.getElem?_eq_getElem (by omega)
            have hy : ys[j]? = some ys[j] := List.getElem?_eq_getElem (by omega)
            have hz' : (xs.zip ys)[j]? = some (xs[j], ys[j]) := by
              rw [List.getElem?_zip_eq_some]
              exact ⟨hx, hy⟩
            rw [atP j b _ ej hz'] at q
            cases q
            obtain ⟨x', ex', rx'⟩ := rv.get hx
            obtain ⟨y', ey', ry'⟩ := rv2.get hy
            rw [gx] at ex'
            rw [gy] at ey'
            cases ex'
            cases ey'
            exact ⟨by show 2 ≤ sizeLine; decide, [x, y], .cons rx' (.cons ry' .nil), ⟨_, f3, rfl, _, rfl⟩⟩
          · by_cases hb2 : b = h'.objs.size
            · rw [hb2] at q ⊢
              rw [eS] at q
              cases q
              refine ⟨by rw [List.length_map, la', List.length_zip, ← lv, Nat.min_self, sizeLine_eq]; omega, acc.toList, c, by rw [hacc]; exact LiI.vals_refs as, ?_⟩
              rw [Array.toArray_toList]
              exact hS
            · rw [off b hb hb2] at q
              exact (I1.hok b u q).stay (fun d v _ y => up d v y) (fun d y => kp d _ y) fun d xs y => kp d _ y
      refine ⟨.ref h'.objs.size, _, J, rfl, q _ _ as kp newS new hSn (by rw [la', List.length_zip, ← lv, Nat.min_self]) eS fun j t x y e1 e2 e3 => ?_⟩
      exact atP j t (x, y) e1 (by rw [List.getElem?_zip_eq_some]; exact ⟨e2, e3⟩)
end L2.ZipL
set_option Elab.async false
set_option linter.all false
set_option maxRecDepth 100000
set_option maxHeartbeats 4000000
/-! Comprehensions and loops over a list or a tuple, plain or enumerated. -/
namespace L2.LawH
open PySem PySem.Spec PyProof.Rows L2.TxtSet TL L2.NSet PySem.W L2.Cmp L2.Rws
/-- a list or a tuple at a -/
def Sq (H : Hp) (a : Addr) (xs : List V) : Prop := H a = some (.lst xs) ∨ H a = some (.tup xs)
theorem Sq.same {H H' : Hp} (s : Same H H') {a : Addr} {xs : List V} (h : Sq H a xs) : Sq H' a xs := h.imp (s _ _) (s _ _)
theorem Sq.or {K : PySem.W.Frag} {H : Hp} {a : Addr} {xs : List V} (h : Sq H a xs) : SqL K H a xs ∨ SqT K H a xs := h.imp SqL.of SqT.of
section
variable {K : PySem.W.Frag} {g : TG} {tt : TT} {te : TE} {vs : List Nat} {σ : St} {H1 : Hp} {a : Addr} {xs : List V} {Qd : Addr → Hp → Prop}
theorem lc_seqS (hq : Sq H1 a xs) (few : xs.length ≤ 100000) (R : Hp → Nat → List V → Prop) (mono : ∀ H H' i acc, Same H H' → R H i acc → R H' i acc) (r0 : R H1 0 [])
    (hs : ∀ (D : Addr) (i : Nat) (x : V) (H5 : Hp) (acc : List V), xs[i]? = some x → Same H1 H5 → H5 D = some (.lst acc) → R (Wo D H5) i acc → ∀ (Yes : V → Hp → Prop) (No : Hp → Prop), (∀ y H4, Same H5 H4 → R (Wo D H4) (i + 1) (acc ++ [y]) → Yes y H4) → (∀ H4, Same H5 H4 → R (Wo D H4) (i + 1) acc → No H4) →
      g x (wipe σ vs) H5 fun σ2 H2 => wipe σ2 vs = wipe σ vs ∧ tt σ2 H2 fun b H3 => if b = true then te σ2 H3 Yes else No H3)
    (hd : ∀ (D : Addr) (H' : Hp) (acc : List V), H1 D = none → Same H1 H' → H' D = some (.lst acc) → acc.length ≤ xs.length → R (Wo D H') xs.length acc → Qd D H') :
    ((∃ xs, SqL K H1 a xs) ∧ ∀ D, H1 D = none → ∃ W : Nat → Nat → Hp → Prop, (∃ m, W 0 m (upd H1 D (.lst []))) ∧ ∀ i m H, W i m H →
      ((Itl K a).stop i H ∧ Qd D H) ∨ ((Itl K a).go i H ∧ ∃ Nx : Hp → Prop, (∀ H', Nx H' → ∃ m', m' < m ∧ W (i + 1) m' H') ∧ ∀ x H', (Itl K a).yld i H x H' → g x (wipe σ vs) H' fun σ2 H2 => wipe σ2 vs = wipe σ vs ∧ tt σ2 H2 fun b H3 =>
        if b = true then te σ2 H3 fun y H4 => ∃ acc, H4 D = some (.lst acc) ∧ acc.length < sizeLine ∧ Nx (upd H4 D (.lst (acc ++ [y]))) else Nx H3)) ∨
    ((∃ xs, SqT K H1 a xs) ∧ ∀ D, H1 D = none → ∃ W : Nat → Nat → Hp → Prop, (∃ m, W 0 m (upd H1 D (.lst []))) ∧ ∀ i m H, W i m H →
      ((Itt K a).stop i H ∧ Qd D H) ∨ ((Itt K a).go i H ∧ ∃ Nx : Hp → Prop, (∀ H', Nx H' → ∃ m', m' < m ∧ W (i + 1) m' H') ∧ ∀ x H', (Itt K a).yld i H x H' → g x (wipe σ vs) H' fun σ2 H2 => wipe σ2 vs = wipe σ vs ∧ tt σ2 H2 fun b H3 =>
        if b = true then te σ2 H3 fun y H4 => ∃ acc, H4 D = some (.lst acc) ∧ acc.length < sizeLine ∧ Nx (upd H4 D (.lst (acc ++ [y]))) else Nx H3)) := by
  rcases hq with e | e
  · exact .inl ⟨⟨_, SqL.of e⟩, fun D nD => lc_acc (L2.walk_list (K := K)) R nD few (fun H s => SqL.of (s _ _ e)) mono r0 (fun i x H5 H6 acc hi s5 hD r _ y Yes No yes no => by obtain ⟨rfl, ex⟩ := y; exact hs D i x H6 acc ex s5 hD r Yes No yes no) fun H' acc s' hD l r => hd D H' acc nD s' hD l r⟩
  · exact .inr ⟨⟨_, SqT.of e⟩, fun D nD => lc_acc (L2.walk_tup (K := K)) R nD few (fun H s => SqT.of (s _ _ e)) mono r0 (fun i x H5 H6 acc hi s5 hD r _ y Yes No yes no => by obtain ⟨rfl, ex⟩ := y; exact hs D i x H6 acc ex s5 hD r Yes No yes no) fun H' acc s' hD l r => hd D H' acc nD s' hD l r⟩
theorem lc_enumS (hq : Sq H1 a xs) (few : xs.length ≤ 100000) (R : Hp → Nat → List V → Prop) (mono : ∀ H H' i acc, Same H H' → R H i acc → R H' i acc) (r0 : R H1 0 [])
    (hs : ∀ (D : Addr) (i : Nat) (x : V) (T : Addr) (H5 H6 : Hp) (acc : List V), xs[i]? = some x → Same H1 H5 → H5 D = some (.lst acc) → R (Wo D H5) i acc → H5 T = none → Same H5 H6 → H6 T = some (.tup [.int (i : Nat), x]) → ∀ (Yes : V → Hp → Prop) (No : Hp → Prop), (∀ y H4, Same H6 H4 → R (Wo D H4) (i + 1) (acc ++ [y]) → Yes y H4) → (∀ H4, Same H6 H4 → R (Wo D H4) (i + 1) acc → No H4) →
      g (.ref T) (wipe σ vs) H6 fun σ2 H2 => wipe σ2 vs = wipe σ vs ∧ tt σ2 H2 fun b H3 => if b = true then te σ2 H3 Yes else No H3)
    (hd : ∀ (D : Addr) (H' : Hp) (acc : List V), H1 D = none → Same H1 H' → H' D = some (.lst acc) → acc.length ≤ xs.length → R (Wo D H') xs.length acc → Qd D H') :
    ((∃ xs, SqL K H1 a xs) ∧ ∀ D, H1 D = none → ∃ W : Nat → Nat → Hp → Prop, (∃ m, W 0 m (upd H1 D (.lst []))) ∧ ∀ i m H, W i m H →
      ((Ite K a).stop i H ∧ Qd D H) ∨ ((Ite K a).go i H ∧ ∃ Nx : Hp → Prop, (∀ H', Nx H' → ∃ m', m' < m ∧ W (i + 1) m' H') ∧ ∀ x H', (Ite K a).yld i H x H' → g x (wipe σ vs) H' fun σ2 H2 => wipe σ2 vs = wipe σ vs ∧ tt σ2 H2 fun b H3 =>
        if b = true then te σ2 H3 fun y H4 => ∃ acc, H4 D = some (.lst acc) ∧ acc.length < sizeLine ∧ Nx (upd H4 D (.lst (acc ++ [y]))) else Nx H3)) ∨
    ((∃ xs, SqT K H1 a xs) ∧ ∀ D, H1 D = none → ∃ W : Nat → Nat → Hp → Prop, (∃ m, W 0 m (upd H1 D (.lst []))) ∧ ∀ i m H, W i m H →
      ((IteT K a).stop i H ∧ Qd D H) ∨ ((IteT K a).go i H ∧ ∃ Nx : Hp → Prop, (∀ H', Nx H' → ∃ m', m' < m ∧ W (i + 1) m' H') ∧ ∀ x H', (IteT K a).yld i H x H' → g x (wipe σ vs) H' fun σ2 H2 => wipe σ2 vs = wipe σ vs ∧ tt σ2 H2 fun b H3 =>
        if b = true then te σ2 H3 fun y H4 => ∃ acc, H4 D = some (.lst acc) ∧ acc.length < sizeLine ∧ Nx (upd H4 D (.lst (acc ++ [y]))) else Nx H3)) := by
  have key : ∀ (D : Addr) (i : Nat) (v : V) (H5 H6 : Hp) (acc : List V), Same H1 H5 → H5 D = some (.lst acc) → R (Wo D H5) i acc → YPair (fun i => some (.int (i : Nat))) (fun i => xs[i]?) i H5 v H6 → ∀ (Yes : V → Hp → Prop) (No : Hp → Prop), (∀ y H4, Same H5 H4 → R (Wo D H4) (i + 1) (acc ++ [y]) → Yes y H4) → (∀ H4, Same H5 H4 → R (Wo D H4) (i + 1) acc → No H4) →
      g v (wipe σ vs) H6 fun σ2 H2 => wipe σ2 vs = wipe σ vs ∧ tt σ2 H2 fun b H3 => if b = true then te σ2 H3 Yes else No H3 := by
    intro D i v H5 H6 acc s5 hD r y Yes No yes no
    obtain ⟨T, x, z, rfl, nT, rfl, ex, ez⟩ := y
    obtain rfl : x = .int (i : Nat) := (Option.some.inj ex).symm
    have s6 : Same H5 (upd H5 T (.tup [.int (i : Nat), z])) := same_new nT
    exact hs D i z T H5 _ acc ez s5 hD r nT s6 upd_same Yes No (fun y H4 s4 => yes y H4 (s6.trans s4)) fun H4 s4 => no H4 (s6.trans s4)
  rcases hq with e | e
  · exact .inl ⟨⟨_, SqL.of e⟩, fun D nD => lc_acc (L2.walk_enum (K := K)) R nD few (fun H s => SqL.of (s _ _ e)) mono r0 (fun i x H5 H6 acc hi s5 hD r _ y => key D i x H5 H6 acc s5 hD r y) fun H' acc s' hD l r => hd D H' acc nD s' hD l r⟩
  · exact .inr ⟨⟨_, SqT.of e⟩, fun D nD => lc_acc (walk_enumT (K := K)) R nD few (fun H s => SqT.of (s _ _ e)) mono r0 (fun i x H5 H6 acc hi s5 hD r _ y => key D i x H5 H6 acc s5 hD r y) fun H' acc s' hD l r => hd D H' acc nD s' hD l r⟩
end
theorem for_enumS {K : PySem.W.Frag} {q : Addr} {xs : List V} {g : TG} {tb : TS} {D : Ends} {σ : St} {H : Hp} (hq : Sq H q xs) (Pv : Nat → St → Hp → Prop) (h0 : Pv 0 σ H) (st : ∀ i σ H', Pv i σ H' → Sq H' q xs)
    (hs : ∀ i x σ H' T, xs[i]? = some x → Pv i σ H' → H' T = none → g (.ref T) σ (upd H' T (.tup [.int (i : Nat), x])) fun σ2 H2 => tb { D with nx := Pv (i + 1), ct := Pv (i + 1), bk := D.nx } σ2 H2) (hd : ∀ σ H, Pv xs.length σ H → D.nx σ H)
    (lst : ∀ i σ H', Pv i σ H' → H q = some (.lst xs) → H' q = some (.lst xs)) (tup : ∀ i σ H', Pv i σ H' → H q = some (.tup xs) → H' q = some (.tup xs)) :
    ((∃ xs, SqL K H q xs) ∧ ∃ W : Nat → Nat → St → Hp → Prop, (∃ m, W 0 m σ H) ∧ ∀ i m σ H, W i m σ H →
      ((Ite K q).stop i H ∧ D.nx σ H) ∨ ((Ite K q).go i H ∧ ∃ N : St → Hp → Prop, (∀ σ' H', N σ' H' → ∃ m', m' < m ∧ W (i + 1) m' σ' H') ∧ ∀ x H', (Ite K q).yld i H x H' → g x σ H' fun σ2 H2 => tb { D with nx := N, ct := N, bk := D.nx } σ2 H2)) ∨
    ((∃ xs, SqT K H q xs) ∧ ∃ W : Nat → Nat → St → Hp → Prop, (∃ m, W 0 m σ H) ∧ ∀ i m σ H, W i m σ H →
      ((IteT K q).stop i H ∧ D.nx σ H) ∨ ((IteT K q).go i H ∧ ∃ N : St → Hp → Prop, (∀ σ' H', N σ' H' → ∃ m', m' < m ∧ W (i + 1) m' σ' H') ∧ ∀ x H', (IteT K q).yld i H x H' → g x σ H' fun σ2 H2 => tb { D with nx := N, ct := N, bk := D.nx } σ2 H2)) :=
  hq.elim
    (fun e => .inl ⟨⟨_, SqL.of e⟩, for_it (L2.walk_enum (K := K)) Pv h0 (fun i σ H' _ p => SqL.of (lst i σ H' p e)) (fun i x σ H' H'' _ p y => by
      obtain ⟨T, x, y, rfl, nT, rfl, ex, ey⟩ := y
      obtain rfl : x = .int (i : Nat) := (Option.some.inj ex).symm
      exact hs i y σ _ T ey p nT) hd⟩)
    (fun e => .inr ⟨⟨_, SqT.of e⟩, for_it (walk_enumT (K := K)) Pv h0 (fun i σ H' _ p => SqT.of (tup i σ H' p e)) (fun i x σ H' H'' _ p y => by
      obtain ⟨T, x, y, rfl, nT, rfl, ex, ey⟩ := y
      obtain rfl : x = .int (i : Nat) := (Option.some.inj ex).symm
      exact hs i y σ _ T ey p nT) hd⟩)
theorem for_seqS {K : PySem.W.Frag} {q : Addr} {xs : List V} {g : TG} {tb : TS} {D : Ends} {σ : St} {H : Hp} (hq : Sq H q xs) (Pv : Nat → St → Hp → Prop) (h0 : Pv 0 σ H)
    (hs : ∀ i x σ H', xs[i]? = some x → Pv i σ H' → g x σ H' fun σ2 H2 => tb { D with nx := Pv (i + 1), ct := Pv (i + 1), bk := D.nx } σ2 H2) (hd : ∀ σ H, Pv xs.length σ H → D.nx σ H)
    (lst : ∀ i σ H', Pv i σ H' → H q = some (.lst xs) → H' q = some (.lst xs)) (tup : ∀ i σ H', Pv i σ H' → H q = some (.tup xs) → H' q = some (.tup xs)) :
    ((∃ xs, SqL K H q xs) ∧ ∃ W : Nat → Nat → St → Hp → Prop, (∃ m, W 0 m σ H) ∧ ∀ i m σ H, W i m σ H →
      ((Itl K q).stop i H ∧ D.nx σ H) ∨ ((Itl K q).go i H ∧ ∃ N : St → Hp → Prop, (∀ σ' H', N σ' H' → ∃ m', m' < m ∧ W (i + 1) m' σ' H') ∧ ∀ x H', (Itl K q).yld i H x H' → g x σ H' fun σ2 H2 => tb { D with nx := N, ct := N, bk := D.nx } σ2 H2)) ∨
    ((∃ xs, SqT K H q xs) ∧ ∃ W : Nat → Nat → St → Hp → Prop, (∃ m, W 0 m σ H) ∧ ∀ i m σ H, W i m σ H →
      ((Itt K q).stop i H ∧ D.nx σ H) ∨ ((Itt K q).go i H ∧ ∃ N : St → Hp → Prop, (∀ σ' H', N σ' H' → ∃ m', m' < m ∧ W (i + 1) m' σ' H') ∧ ∀ x H', (Itt K q).yld i H x H' → g x σ H' fun σ2 H2 => tb { D with nx := N, ct := N, bk := D.nx } σ2 H2)) :=
  hq.elim
    (fun e => .inl ⟨⟨_, SqL.of e⟩, for_it (L2.walk_list (K := K)) Pv h0 (fun i σ H' _ p => SqL.of (lst i σ H' p e)) (fun i x σ H' H'' _ p y => by
      obtain ⟨rfl, ey⟩ := y
      exact hs i x σ _ ey p) hd⟩)
    (fun e => .inr ⟨⟨_, SqT.of e⟩, for_it (L2.walk_tup (K := K)) Pv h0 (fun i σ H' _ p => SqT.of (tup i σ H' p e)) (fun i x σ H' H'' _ p y => by
      obtain ⟨rfl, ey⟩ := y
      exact hs i x σ _ ey p) hd⟩)
end L2.LawH
set_option Elab.async false
set_option linter.all false
set_option maxRecDepth 100000
set_option maxHeartbeats 4000000
/-! is_whole, is_list, is_node, are_nodes. -/
namespace L2.LawH
open PySem PySem.Spec PyProof.Rows L2.TxtSet TL L2.NSet PySem.W L2.Cmp L2.Rws
abbrev sWhole : Stmt := top 12
abbrev sIsL : Stmt := top 21
abbrev sIsNd : Stmt := top 22
abbrev sAreN : Stmt := top 23
def isI : V → Bool
  | .int _ => true
  | _ => false
/-- a value of which it is known whether it is an integer, and no bool -/
def WhlAt (K : PySem.W.Frag) (H : Hp) (x : V) : Prop := ∃ (n : String) (i o : Bool), TyX K H x (.type n) ∧ kitB n "int" = some i ∧ kitB n "bool" = some o ∧ isI x = (i && !o)
theorem WhlAt.same {K : PySem.W.Frag} {H H' : Hp} (s : Same H H') {x : V} (h : WhlAt K H x) : WhlAt K H' x := let ⟨n, i, o, h1, h2, h3, h4⟩ := h; ⟨n, i, o, tyx_same s h1, h2, h3, h4⟩
section
variable {K : PySem.W.Frag} {H : Hp}
theorem whl_int (i : Int) : WhlAt K H (.int i) := ⟨"int", true, false, .base (.int i), by decide +kernel, by decide +kernel, rfl⟩
theorem whl_bl (b : Bool) : WhlAt K H (.bl b) := ⟨"bool", true, true, .base (.bl b), by decide +kernel, by decide +kernel, rfl⟩
theorem whl_non : WhlAt K H .non := ⟨"NoneType", false, false, .base .non, by decide +kernel, by decide +kernel, rfl⟩
theorem whl_str (z : Str) : WhlAt K H (.str z) := ⟨"str", false, false, .base (.str z), by decide +kernel, by decide +kernel, rfl⟩
theorem whl_lst {a : Addr} {xs : List V} (h : H a = some (.lst xs)) : WhlAt K H (.ref a) := ⟨"list", false, false, .base (.lst h), by decide +kernel, by decide +kernel, rfl⟩
end
def spWhole (K : PySem.W.Frag) : Sp := fun vs H Q _ => ∃ x : V, vs = [x] ∧ WhlAt K H x ∧ Q (.bl (isI x)) H

def pV : Option Nat → V
  | none => .non
  | some p => .int (p : Nat)
/-- a node as it is handed in -/
structure Nx where
  t : Addr
  p : Option Nat
  l : Addr
  os : List (Option Pt)
structure NodeAt (H : Hp) (x : Nx) : Prop where
  tu : H x.t = some (.tup [pV x.p, .ref x.l])
  li : Sq H x.l (x.os.map rvO)
  ea : ∀ y, some y ∈ x.os → H y.1 = some (.tup (ptV y))
theorem NodeAt.same {H H' : Hp} (s : Same H H') {x : Nx} (h : NodeAt H x) : NodeAt H' x := ⟨s _ _ h.tu, h.li.same s, fun y m => s _ _ (h.ea y m)⟩
structure NodesAt (H : Hp) (N : Addr) (xs : List Nx) : Prop where
  sq : Sq H N (xs.map fun x => .ref x.t)
  ea : ∀ x ∈ xs, NodeAt H x
theorem NodesAt.same {H H' : Hp} (s : Same H H') {N : Addr} {xs : List Nx} (h : NodesAt H N xs) : NodesAt H' N xs := ⟨h.sq.same s, fun x m => (h.ea x m).same s⟩
def spIsL : Sp := fun vs H Q _ => ∃ (a : Addr) (xs : List V), vs = [.ref a] ∧ Sq H a xs ∧ ∀ H', Same H H' → Q (.bl true) H'
def spIsNd : Sp := fun vs H Q _ => ∃ (x : Nx) (i : Nat), vs = [.ref x.t, .int (i : Nat)] ∧ NodeAt H x ∧ (i = 0 → x.p = none) ∧ (0 < i → ∃ p, x.p = some p ∧ p < i) ∧ ∀ H', Same H H' → Q (.bl true) H'
def spAreN : Sp := fun vs H Q _ => ∃ (N : Addr) (xs : List Nx), vs = [.ref N] ∧ NodesAt H N xs ∧ 0 < xs.length ∧ xs.length ≤ 1000 ∧ Wf (xs.map (·.p)) ∧ ∀ H', Same H H' → Q (.bl true) H'
section
variable {P : Program} {w : World} {K : PySem.W.Frag} {mg : Str → Option Value} {base : Heap}
theorem scWhole : FnScope ["value"] ["value"] (defScope sWhole) := ⟨rfl, rfl, rfl, by decide +kernel, rfl, by decide +kernel, by decide +kernel⟩
theorem ok_whole {f : Addr} {fd : FuncData} (F : Fun K "is_whole" "is_whole" sWhole f fd) (mi : mg "isinstance" = none) (mt : mg "int" = none) (mb : mg "bool" = none) : FnOk P w K mg base CX0 1 f fd ["value"] (spWhole K) := by
  refine F.ok scWhole (fun vs H Q E h => ?_) (fun cdv A outer s H vs Q E hr h => ?_)
  · obtain ⟨x, rfl, _⟩ := h
    rfl
  · obtain ⟨x, rfl, ⟨n, i, o, ty, k1, k2, e⟩, q⟩ := h
    refine ⟨_, pss_one (ps_ret (pe_and (pe_callB call_isi (by rfl) mi (by decide +kernel) (pa_cons (pv 0) (pa_cons (pe_bltn (v := .ty "int") (by rfl) mt (by decide +kernel) rfl) pa_nil)))
      (pe_one (pe_not (pe_callB call_isi (by rfl) mi (by decide +kernel) (pa_cons (pv 0) (pa_cons (pe_bltn (v := .ty "bool") (by rfl) mb (by decide +kernel) rfl) pa_nil))))))), ?_⟩
    refine ⟨_, rfl, _, .ty "int", _, _, i, rfl, .ty "int", ty, kit_ty k1, _, rfl, ?_⟩
    rw [e] at q
    cases i with
    | false => exact iteF q
    | true => exact iteT ⟨_, rfl, _, .ty "bool", _, _, o, rfl, .ty "bool", ty, kit_ty k2, _, rfl, q⟩

theorem kit_lt {K : PySem.W.Frag} {t : String} {b : Bool} (h : (match kitB t "list" with | some true => some true | some false => kitB t "tuple" | none => none) = some b) : PySem.W.kitAny K (.type t) [.type "list", .type "tuple"] = some b := by
  cases e : kitB t "list" with
  | none => rw [e] at h; cases h
  | some c =>
    rw [e] at h
    cases c with
    | true =>
      cases h
      exact kitAny_cons (kit_ty e) (fun z => by cases z) (fun _ => rfl)
    | false =>
      dsimp only at h
      exact kitAny_cons (kit_ty e) (fun _ => kitAny_cons (kit_ty h) (fun z => by rw [z]; rfl) (fun z => z)) (fun z => by cases z)
theorem scIsL : FnScope ["value"] ["value"] (defScope sIsL) := ⟨rfl, rfl, rfl, by decide +kernel, rfl, by decide +kernel, by decide +kernel⟩
theorem ok_isL {f : Addr} {fd : FuncData} (F : Fun K "is_list" "is_list" sIsL f fd) (mi : mg "isinstance" = none) (mL : mg "list" = none) (mT : mg "tuple" = none) : FnOk P w K mg base CX0 1 f fd ["value"] spIsL := by
  refine F.ok scIsL (fun vs H Q E h => ?_) (fun cdv A outer s H vs Q E hr h => ?_)
  · obtain ⟨x, n, rfl, _⟩ := h
    rfl
  · obtain ⟨a, xs, rfl, ha, k⟩ := h
    refine ⟨_, pss_one (ps_ret (pe_callB call_isiT (by rfl) mi (by decide +kernel) (pa_cons (pv 0) (pa_cons (pe_tup (pa_cons (pe_bltn (v := .ty "list") (by rfl) mL (by decide +kernel) rfl) (pa_cons (pe_bltn (v := .ty "tuple") (by rfl) mT (by decide +kernel) rfl) pa_nil))) pa_nil)))), ?_⟩
    refine ⟨_, rfl, by show 2 ≤ sizeLine; decide, fun p np => ?_⟩
    have s1 : Same H (upd H p (.tup [.ty "list", .ty "tuple"])) := same_new np
    have h1 : (upd H p (.tup [.ty "list", .ty "tuple"])) p = some (.tup [.ty "list", .ty "tuple"]) := upd_same
    generalize upd H p (.tup [.ty "list", .ty "tuple"]) = H1 at s1 h1 ⊢
    have pr : Paired ClsV [V.ty "list", V.ty "tuple"] [Value.type "list", Value.type "tuple"] := .cons (.ty "list") (.cons (.ty "tuple") .nil)
    rcases ha.same s1 with e | e
    · exact ⟨.ref a, p, _, _, _, true, rfl, h1, pr, .base (.lst e), kit_lt (by decide +kernel), k _ s1⟩
    · exact ⟨.ref a, p, _, _, _, true, rfl, h1, pr, .base (.tup e), kit_lt (by decide +kernel), k _ s1⟩
theorem scIsNd : FnScope ["value", "index"] ["value", "index"] (defScope sIsNd) := ⟨rfl, rfl, rfl, by decide +kernel, rfl, by decide +kernel, by decide +kernel⟩
theorem ok_isNd {f fL fW : Addr} {fd fdL fdW : FuncData} (F : Fun K "is_node" "is_node" sIsNd f fd)
    (GL : FnOk P w K mg base CX0 1 fL fdL ["value"] spIsL) (kL : PySem.W.keepIn K (.ref fL) = true) (bL : Binds K fdL ["value"] []) (mL : mg "is_list" = some (.ref fL))
    (GW : FnOk P w K mg base CX0 1 fW fdW ["value"] (spWhole K)) (kW : PySem.W.keepIn K (.ref fW) = true) (bW : Binds K fdW ["value"] []) (mW : mg "is_whole" = some (.ref fW))
    (mi : mg "isinstance" = none) (mT : mg "tuple" = none) (ml : mg "len" = none) : FnOk P w K mg base CX0 2 f fd ["value", "index"] spIsNd := by
  refine F.ok scIsNd (fun vs H Q E h => ?_) (fun cdv A outer s H vs Q E hr h => ?_)
  · obtain ⟨x, i, rfl, _⟩ := h
    rfl
  · obtain ⟨x, i, rfl, hx, i0, i1, k⟩ := h
    have hr1 : Room 1 _ := hr.mono (by decide)
    refine ⟨_, pss_cons (ps_if (PW.pt (pw_or (pt_not (pt_val (pe_callB call_isi (by rfl) mi (by decide +kernel) (pa_cons (pv 0) (pa_cons (pe_bltn (v := .ty "tuple") (by rfl) mT (by decide +kernel) rfl) pa_nil)))))
          (pw_or (pt_cmpR op_ne (pe_callB call_len_seq (by rfl) ml (by decide +kernel) (pa_cons (pv 0) pa_nil)) pe_int (nomark _))
            (pw_or1 (pt_not (pt_val (pe_call GL hr1 (by rfl) mL kL bL .nil pass0 (pa_cons (pe_ix ix_tup (pv 0) pe_int (fun _ _ => rfl)) pa_nil))))))))
        (pss_one (ps_ret pe_bl)) pss_nil)
      (pss_cons (ps_if (pt_cmpR op_eq (pv 1) pe_int (nomark _)) (pss_one (ps_ret (pe_cmpR op_isN (pe_ix ix_tup (pv 0) pe_int (fun _ _ => rfl)) pe_non (nomark _)))) pss_nil)
      (pss_one (ps_ret (pe_and (pe_call GW hr1 (by rfl) mW kW bW .nil pass0 (pa_cons (pe_ix ix_tup (pv 0) pe_int (fun _ _ => rfl)) pa_nil)) (pe_one (pe_chain op_le op_lt pe_int (pe_ix ix_tup (pv 0) pe_int (fun _ _ => rfl)) (pv 1))))))), ?_⟩
    have ht := hx.tu
    refine ⟨_, rfl, _, .ty "tuple", _, _, true, rfl, .ty "tuple", .base (.tup ht), kit_ty (by decide +kernel), _, rfl, ?_⟩
    refine iteF ?_
    refine ⟨_, rfl, x.t, _, rfl, .inr (SqT.of ht), rfl, _, rfl, iteF ?_⟩
    refine ⟨_, rfl, x.t, _, 1, _, rfl, rfl, SqT.of ht, rfl, x.l, _, rfl, hx.li, fun H1 s1 => ⟨_, rfl, iteF ?_⟩⟩
    have ht1 := s1 _ _ ht
    refine ⟨_, rfl, rfl, _, rfl, ite2 (fun c => ?_) (fun c => ?_)⟩
    · have e0 : i = 0 := by
        have := of_decide_eq_true c
        injection this with e
        omega
      refine ⟨_, rfl, x.t, _, 0, _, rfl, rfl, SqT.of ht1, rfl, rfl, ?_⟩
      rw [i0 e0]
      exact k _ s1
    · have ne : 0 < i := Nat.pos_of_ne_zero fun e => by
        subst e
        exact absurd c (by decide)
      obtain ⟨q, eq, lq⟩ := i1 ne
      rw [eq] at ht1
      refine ⟨_, rfl, x.t, _, 0, _, rfl, rfl, SqT.of ht1, rfl, _, rfl, whl_int (q : Int), _, rfl, iteT ?_⟩
      refine ⟨_, rfl, x.t, _, 0, _, rfl, rfl, SqT.of ht1, rfl, _, _, rfl, rfl, _, rfl, ?_⟩
      rw [decide_eq_true (by omega : (0 : Int) ≤ (q : Int))]
      refine iteT ⟨_, rfl, _, _, rfl, rfl, ?_⟩
      dsimp only
      rw [decide_eq_true (by omega : (q : Int) < (i : Int))]
      exact k _ s1
abbrev nAreN : List Str := ["value", "at", "node"]
theorem scAreN : FnScope nAreN ["value"] (defScope sAreN) := ⟨rfl, rfl, rfl, by decide +kernel, rfl, by decide +kernel, by decide +kernel⟩
theorem ok_areN {f fL fN : Addr} {fd fdL fdN : FuncData} (F : Fun K "are_nodes" "are_nodes" sAreN f fd)
    (GL : FnOk P w K mg base CX0 1 fL fdL ["value"] spIsL) (kL : PySem.W.keepIn K (.ref fL) = true) (bL : Binds K fdL ["value"] []) (mL : mg "is_list" = some (.ref fL))
    (GN : FnOk P w K mg base CX0 2 fN fdN ["value", "index"] spIsNd) (kN : PySem.W.keepIn K (.ref fN) = true) (bN : Binds K fdN ["value", "index"] []) (mN : mg "is_node" = some (.ref fN))
    (ma : mg "all" = none) (ml : mg "len" = none) (me : mg "enumerate" = none) : FnOk P w K mg base CX0 3 f fd ["value"] spAreN := by
  refine F.ok scAreN (fun vs H Q E h => ?_) (fun cdv A outer s H vs Q E hr h => ?_)
  · obtain ⟨N, xs, rfl, _⟩ := h
    rfl
  · obtain ⟨N, xs, rfl, hN, l0, l1, wf, k⟩ := h
    have hr1 : Room 1 _ := hr.mono (by decide)
    have hr2 : Room 2 _ := hr.mono (by decide)
    refine ⟨_, pss_one (ps_ret (pe_and (pe_call GL hr1 (by rfl) mL kL bL .nil pass0 (pa_cons (pv 0) pa_nil)) (pe_and (pe_cmpR op_gt (pe_callB call_len_seq (by rfl) ml (by decide +kernel) (pa_cons (pv 0) pa_nil)) pe_int (nomark _))
      (pe_one (pe_callB (cr_all rfl) (by rfl) ma (by decide +kernel) (pa_cons (pe_lc (own := [("at", 1), ("node", 2)]) (g := gTup K 2 (gCons (gName 1) (gCons (gName 2) gNil))) (tt := tYes) rfl scAreN.nd (pi_enumS (by rfl) me (pa_cons (pv 0) pa_nil))
        (blkOk_by (own := [("at", 1), ("node", 2)]) (N := nAreN) (sc := defScope sAreN) (by decide +kernel)) (fun _ _ _ _ _ => pg_tup (by rfl) (pgs_cons (pg_name (i := 1) scAreN.nd rfl (Or.inl rfl)) (pgs_cons (pg_name (i := 2) scAreN.nd rfl (Or.inl rfl)) pgs_nil))) (fun _ _ _ _ _ => pts_nil)
        (fun _ _ _ _ _ => pe_call GN hr2 (by rfl) mN kN bN .nil pass0 (pa_cons (pv 2) (pa_cons (pv 1) pa_nil)))) pa_nil)))))), ?_⟩
    refine ⟨_, rfl, N, _, rfl, hN.sq, fun H1 s1 => ⟨_, rfl, iteT ?_⟩⟩
    have hN1 := hN.same s1
    refine ⟨_, rfl, N, _, rfl, hN1.sq.or, _, _, rfl, rfl, _, rfl, ?_⟩
    rw [decide_eq_true (by rw [List.length_map]; omega)]
    refine iteT ⟨_, rfl, N, rfl, ?_⟩
    refine lc_enumS hN1.sq (by rw [List.length_map]; omega) (fun _ i acc => acc = List.replicate i (V.bl true)) (fun _ _ _ _ _ h => h) rfl ?_ ?_
    · intro D i x T H5 H6 acc hx s5 hD r nT s6 hT Yes No yes no
      rw [List.getElem?_map] at hx
      obtain ⟨n, hn, rfl⟩ := Option.map_eq_some_iff.mp hx
      have mn := List.mem_of_getElem? hn
      have li : i < xs.length := (List.getElem?_eq_some_iff.mp hn).1
      have pi : pa (xs.map (·.p)) i = n.p := by
        unfold pa
        rw [List.getElem?_map, hn]
        rfl
      refine ⟨T, _, rfl, SqT.of hT, rfl, _, _, rfl, _, _, rfl, rfl, ?_⟩
      refine ⟨rfl, ?_⟩
      dsimp only [tYes]
      rw [if_pos rfl]
      refine ⟨_, rfl, _, rfl, n, i, rfl, (hN1.ea n mn).same (s5.trans s6), fun e => ?_, fun e => ?_, fun H4 s4 => yes _ H4 s4 (by rw [r, List.replicate_succ'])⟩
      · subst e
        rw [← pi]
        exact wf.rt
      · obtain ⟨q, h1, h2⟩ := wf.up i e (by rw [List.length_map]; exact li)
        exact ⟨q, by rw [← pi]; exact h1, h2⟩
    · intro D H' acc nD s' hD l r
      rw [List.length_map] at r
      refine ⟨D, List.replicate xs.length true, rfl, SqL.of (by rw [hD, r, List.map_replicate]), ?_⟩
      rw [show (List.replicate xs.length true).all id = true from List.all_eq_true.mpr fun b hb => (List.mem_replicate.mp hb).2]
      exact k _ (s1.trans s')
end
end L2.LawH
set_option Elab.async false
set_option linter.all false
set_option maxRecDepth 100000
set_option maxHeartbeats 4000000
/-! new_names, children_of, first_twice, lot_text. -/
namespace L2.LawH
open PySem PySem.Spec PyProof.Rows L2.TxtSet TL L2.NSet PySem.W L2.Cmp L2.Rws L2.ZipL
abbrev sNewN : Stmt := top 24
abbrev sChil : Stmt := top 25
abbrev sFTw : Stmt := top 27
abbrev sLotT : Stmt := top 28
/-- the new ones of each node, out of the names of all -/
def nwn (ps : List (Option Nat)) (f : Nat → List Str) (k : Nat) : List Str := match pa ps k with
  | none => f k
  | some p => (f k).filter fun z => !decide (z ∈ f p)
theorem nw_nwn (ps : List (Option Nat)) (l : Nat → List Fc) (k : Nat) : nw ps l k = nwn ps (fun j => nms (l j)) k := rfl
abbrev Lz := Addr × List Str
def nth (nl : List Lz) (k : Nat) : List Str := (nl[k]?.map (·.2)).getD []
theorem nth_at {nl : List Lz} {k : Nat} {x : Lz} (h : nl[k]? = some x) : nth nl k = x.2 := by
  unfold nth
  rw [h]
  rfl
abbrev refZ (us : List Lz) : List V := us.map fun x => V.ref x.1
def spNewN : Sp := fun vs H Q _ => ∃ (P N : Addr) (ps : List (Option Nat)) (nl : List Lz), vs = [.ref P, .ref N] ∧ H P = some (.tup (ps.map pV)) ∧ H N = some (.tup (refZ nl)) ∧ (∀ x ∈ nl, H x.1 = some (.lst (x.2.map V.str)) ∧ x.2.length ≤ 1000) ∧
  ps.length = nl.length ∧ 0 < nl.length ∧ nl.length ≤ 1000 ∧ Wf ps ∧
  ∀ (H' : Hp) (F : Addr) (us : List Lz), Same H H' → H F = none → H' F = some (.lst (refZ us)) → us.length = nl.length → (∀ k u, us[k]? = some u → H' u.1 = some (.tup (u.2.map V.str)) ∧ u.2 = nwn ps (nth nl) k) → Q (.ref F) H'
section
variable {P : Program} {w : World} {K : PySem.W.Frag} {mg : Str → Option Value} {base : Heap}
abbrev nNewN : List Str := ["parents", "names", "found", "parent", "mine", "name"]
theorem scNewN : FnScope nNewN ["parents", "names"] (defScope sNewN) := ⟨rfl, rfl, rfl, by decide +kernel, rfl, by decide +kernel, by decide +kernel⟩
theorem keep_same {F : Addr} {H H' : Hp} (k : Keep F H H') (n : H F = none) : Same H H' := fun b o e => k b o e fun z => by
  rw [z, n] at e
  cases e
theorem ok_newN {f : Addr} {fd : FuncData} (F : Fun K "new_names" "new_names" sNewN f fd) (mL : mg "list" = none) (mz : mg "zip" = none) (mt : mg "tuple" = none) : FnOk P w K mg base CX0 1 f fd ["parents", "names"] spNewN := by
  refine F.ok scNewN (fun vs H Q E h => ?_) (fun cdv A outer s H vs Q E hr h => ?_)
  · obtain ⟨_, _, _, _, rfl, _⟩ := h
    rfl
  · obtain ⟨P, N, ps, nl, rfl, hP, hN, hx, lp, l0, l1, wf, k⟩ := h
    refine ⟨_, pss_cons (ps_set (i := 2) scNewN.nd rfl (Or.inl rfl) (pe_lst (pa_cons (pe_callTy call_tuple_of (by rfl) mt (by decide +kernel) (pa_cons (pe_ix ix_tup (pv 1) pe_int (fun _ _ => rfl)) pa_nil)) pa_nil)))
      (pss_cons (ps_for PassesOwn.never rfl (pi_list (pe_slice sl_list (pe_listZip (K := K) rfl rfl (by rfl) mL (by decide +kernel) (by rfl) mz (pa_cons (pv 0) (pa_cons (pv 1) pa_nil))) (po_some pe_int) po_none))
          (pg_tup (by rfl) (pgs_cons (pg_name (i := 3) scNewN.nd rfl (Or.inr rfl)) (pgs_cons (pg_name (i := 4) scNewN.nd rfl (Or.inl rfl)) pgs_nil)))
        (pss_one (ps_expr (pe_bm PySem.F.plainAttrs_list PySem.F.slot_list_append PySem.F.type_list_append mt_append (pv 2) (pa_cons (pe_callTy call_tuple_of (by rfl) mt (by decide +kernel) (pa_cons
          (pe_lc (own := [("name", 5)]) (g := gName 5) (tt := tTest (tOp (rIn K true) (tVar 5) (tOp (rIxT K) (tVar 1) (tVar 3)))) rfl scNewN.nd (pi_list (pv 4))
            (blkOk_by (own := [("name", 5)]) (N := nNewN) (sc := defScope sNewN) (by decide +kernel)) (fun _ _ _ _ _ => pg_name (i := 5) scNewN.nd rfl (Or.inl rfl)) (fun _ _ _ _ _ => pts_one (pt_cmpR (op_notInK rfl) (pv 5) (pe_ix (ix_tupK rfl) (pv 1) (pv 3) (fun _ _ => rfl)) (by rfl)))
            (fun _ _ _ _ _ => pv 5)) pa_nil)) pa_nil)))))
      (pss_one (ps_ret (pv 2)))), ?_⟩
    obtain ⟨x0, h0⟩ : ∃ x0, nl[0]? = some x0 := ⟨nl[0], List.getElem?_eq_getElem l0⟩
    refine ⟨_, rfl, N, _, 0, _, rfl, rfl, SqT.of hN, atI_nat (j := 0) (by rw [List.getElem?_map, h0]; rfl), ?_⟩
    refine ⟨x0.1, _, rfl, .inl ⟨SqL.of (hx x0 (List.mem_of_getElem? h0)).1, fun p1 n1 => ?_⟩⟩
    have u1 : Same H (upd H p1 (.tup (x0.2.map V.str))) := same_new n1
    have c1 : (upd H p1 (.tup (x0.2.map V.str))) p1 = some (.tup (x0.2.map V.str)) := upd_same
    generalize upd H p1 (.tup (x0.2.map V.str)) = H1 at u1 c1 ⊢
    refine ⟨(by show 1 ≤ sizeLine; decide), fun F nF => ?_⟩
    have u2 : Same H1 (upd H1 F (.lst [.ref p1])) := same_new nF
    have c2 : (upd H1 F (.lst [.ref p1])) F = some (.lst [.ref p1]) := upd_same
    have pF : p1 ≠ F := fun e => by rw [e, nF] at c1; cases c1
    have cp : (upd H1 F (.lst [.ref p1])) p1 = some (.tup (x0.2.map V.str)) := u2 _ _ c1
    generalize upd H1 F (.lst [.ref p1]) = H2 at u2 c2 cp ⊢
    have s2 := u1.trans u2
    refine ⟨_, rfl, _, rfl, P, N, _, _, rfl, SqT.of (s2 _ _ hP), SqT.of (s2 _ _ hN), by rw [List.length_map, List.length_map, lp], by rw [List.length_map]; omega, fun H3 Z ts s3 nZ nts nZt lts hZ htz => ?_⟩
    rw [List.length_map, lp] at lts
    refine ⟨1, rfl, Z, _, rfl, SqL.of hZ, fun Y nY => ?_⟩
    rw [show cutV (ts.map V.ref) (some 1) none = (ts.drop 1).map V.ref by rw [List.map_drop]; exact cutV_from _ 1]
    have u4 : Same H3 (upd H3 Y (.lst ((ts.drop 1).map V.ref))) := same_new nY
    have c4 : (upd H3 Y (.lst ((ts.drop 1).map V.ref))) Y = some (.lst ((ts.drop 1).map V.ref)) := upd_same
    generalize upd H3 Y (.lst ((ts.drop 1).map V.ref)) = H4 at u4 c4 ⊢
    have nHF : H F = none := none_of u1 nF
    have hF4 : H4 F = some (.lst [.ref p1]) := u4 _ _ (s3 _ _ c2)
    have hp4 : H4 p1 = some (.tup (x0.2.map V.str)) := u4 _ _ (s3 _ _ cp)
    have YF : Y ≠ F := fun e => by rw [e, s3 _ _ c2] at nY; cases nY
    have s4 := s2.trans (s3.trans u4)
    refine ⟨Y, rfl, ⟨_, SqL.of c4⟩, for_it (L2.walk_list (K := K)) (fun i σ H5 => ∃ (us : List Lz) (v3 v4 v5 : Option V), σ = [some (.ref P), some (.ref N), some (.ref F), v3, v4, v5] ∧ us.length = i + 1 ∧ H5 F = some (.lst (refZ us)) ∧
      (∀ k u, us[k]? = some u → u.1 ≠ F ∧ H5 u.1 = some (.tup (u.2.map V.str)) ∧ u.2 = nwn ps (nth nl) k) ∧ Keep F H4 H5)
      ⟨[(p1, x0.2)], none, none, none, rfl, rfl, hF4, fun k u hu => ?_, Keep.refl _ _⟩ (fun i σ H5 _ pp => let ⟨_, _, _, _, _, _, _, _, kp⟩ := pp; SqL.of (kp _ _ c4 YF)) (fun i z σ H5 H6 hi pp yy => ?_) (fun σ H5 pp => ?_)⟩
    · cases k with
      | zero =>
        have : (p1, x0.2) = u := Option.some.inj hu
        subst this
        refine ⟨pF, hp4, ?_⟩
        unfold nwn
        rw [wf.rt]
        exact (nth_at h0).symm
      | succ k => simp at hu
    · obtain ⟨us, v3, v4, v5, rfl, lu, hF, hus, kp⟩ := pp
      obtain ⟨rfl, hz⟩ := yy
      rw [List.length_map, List.length_drop, lts] at hi
      rw [List.getElem?_map] at hz
      obtain ⟨t, ht, rfl⟩ := Option.map_eq_some_iff.mp hz
      rw [List.getElem?_drop] at ht
      have l1 : 1 + i < nl.length := by omega
      have hxm : nl[1 + i]? = some nl[1 + i] := List.getElem?_eq_getElem l1
      obtain ⟨q, eq, lq⟩ := wf.up (1 + i) (by omega) (by omega)
      have ep : ps[1 + i]? = some (some q) := by
        have : (1 + i) < ps.length := by omega
        have e := List.getElem?_eq_getElem this
        unfold pa at eq
        rw [e] at eq
        rw [e]
        exact congrArg some eq
      have hxq : nl[q]? = some nl[q] := List.getElem?_eq_getElem (by omega)
      generalize nl[1 + i] = xm at hxm
      generalize nl[q] = xq at hxq
      have mm := List.mem_of_getElem? hxm
      have mq := List.mem_of_getElem? hxq
      have neF : ∀ b o, H2 b = some o → (∀ a, o ≠ .lst a) → b ≠ F := fun b o e n z => by
        rw [z, c2] at e
        cases e
        exact n _ rfl
      have htt := htz (1 + i) t _ _ ht (by rw [List.getElem?_map, ep]; rfl) (by rw [List.getElem?_map, hxm]; rfl)
      have tF : t ≠ F := fun z => by
        rw [z, s3 _ _ c2] at htt
        cases htt
      have up : ∀ b o, H b = some o → H6 b = some o := fun b o e => kp b o (s4 _ _ e) fun z => by rw [z, nHF] at e; cases e
      refine ⟨t, _, rfl, SqT.of (kp _ _ (u4 _ _ htt) tF), rfl, _, _, rfl, _, _, rfl, rfl, ?_⟩
      refine ⟨_, rfl, .inl ⟨rfl, _, .inl (.inl hF)⟩, _, rfl, xm.1, rfl, ⟨_, SqL.of (up _ _ (hx xm mm).1)⟩, fun D nD => ?_⟩
      have lx := (hx xm mm).2
      refine lc_sift (ms := xm.2) (val := V.str) (L2.walk_list (K := K)) (List.length_map _) (fun z => !decide (z ∈ xq.2)) V.str nD (by omega) (fun H' s' => SqL.of (s' _ _ (up _ _ (hx xm mm).1))) (fun z hz H5 Yes No s5 yes no => ?_) (fun H' s' hL => ?_)
      · refine ⟨rfl, _, rfl, _, rfl, _, rfl, N, _, _, _, rfl, rfl, SqT.of (s5 _ _ (up _ _ hN)), atI_nat (j := q) (by rw [List.getElem?_map, hxq]; rfl), xq.1, _, rfl, .inl (SqL.of (s5 _ _ (up _ _ (hx xq mq).1))), rfl, flat_strs _, _, rfl, ?_⟩
        rw [if_pos rfl, inV_strs]
        by_cases c : z ∈ xq.2
        · rw [decide_eq_true c]
          exact iteF (no _ (fun _ _ e => e) (by rw [decide_eq_true c]; rfl))
        · rw [decide_eq_false c]
          exact iteT ⟨_, rfl, yes _ (fun _ _ e => e) (by rw [decide_eq_false c]; rfl)⟩
      · refine ⟨D, _, rfl, .inl ⟨SqL.of hL, fun p2 n2 => ?_⟩⟩
        have u7 : Same H' (upd H' p2 (.tup ((xm.2.filter fun z => !decide (z ∈ xq.2)).map V.str))) := same_new n2
        have c7 : (upd H' p2 (.tup ((xm.2.filter fun z => !decide (z ∈ xq.2)).map V.str))) p2 = some (.tup ((xm.2.filter fun z => !decide (z ∈ xq.2)).map V.str)) := upd_same
        generalize upd H' p2 (.tup ((xm.2.filter fun z => !decide (z ∈ xq.2)).map V.str)) = H7 at u7 c7 ⊢
        have s67 := s'.trans u7
        have hF7 := s67 _ _ hF
        have p2F : p2 ≠ F := fun e => by rw [e] at c7; rw [hF7] at c7; cases c7
        refine ⟨F, _, _, rfl, rfl, hF7, by rw [List.length_map, lu, sizeLine_eq]; omega, ?_⟩
        refine ⟨us ++ [(p2, xm.2.filter fun z => !decide (z ∈ xq.2))], _, _, _, rfl, by rw [List.length_append, lu]; rfl, by rw [upd_same]; simp [refZ], fun k u hu => ?_, fun b o e nb => by rw [upd_ne nb]; exact s67 _ _ (kp _ _ e nb)⟩
        by_cases hk : k < us.length
        · rw [List.getElem?_append_left hk] at hu
          obtain ⟨g1, g2, g3⟩ := hus k u hu
          exact ⟨g1, by rw [upd_ne g1]; exact s67 _ _ g2, g3⟩
        · rw [List.getElem?_append_right (by omega)] at hu
          have k0 : k - us.length = 0 := by
            cases h9 : k - us.length with
            | zero => rfl
            | succ j =>
              rw [h9] at hu
              simp at hu
          rw [k0] at hu
          have : (p2, xm.2.filter fun z => !decide (z ∈ xq.2)) = u := Option.some.inj hu
          subst this
          have ek : k = 1 + i := by omega
          subst ek
          refine ⟨p2F, by rw [upd_ne p2F]; exact c7, ?_⟩
          unfold nwn
          rw [eq]
          show _ = (nth nl (1 + i)).filter _
          rw [nth_at hxm, nth_at hxq]
    · obtain ⟨us, v3, v4, v5, rfl, lu, hF, hus, kp⟩ := pp
      rw [List.length_map, List.length_drop, lts] at lu
      refine ⟨_, rfl, k H5 F us (fun b o e => kp b o (s4 _ _ e) fun z => by rw [z, nHF] at e; cases e) nHF hF (by omega) fun k u hu => ⟨(hus k u hu).2.1, (hus k u hu).2.2⟩⟩
end
end L2.LawH
set_option Elab.async false
set_option linter.all false
set_option maxRecDepth 100000
set_option maxHeartbeats 4000000
/-! children_of, first_twice, lot_text. -/
namespace L2.LawH
open PySem PySem.Spec PyProof.Rows L2.TxtSet TL L2.NSet PySem.W L2.Cmp L2.Rws L2.ZipL
theorem call_tuple_ofK {X : Cx} {K : PySem.W.Frag} (e : X.K = K) : CallR X (.type "tuple") (fun xs H Q => ∃ p ys, xs = [.ref p] ∧ ((SqL K H p ys ∧ ∀ l, H l = none → Q (.ref l) (upd H l (.tup ys))) ∨ (SqT K H p ys ∧ Q (.ref p) H))) := by
  subst e
  exact call_tuple_of
theorem ifF {b : Bool} {A B : Prop} (e : b = false) (h : B) : if b = true then A else B := by
  rw [e]
  exact iteF h
theorem ifT {b : Bool} {A B : Prop} (e : b = true) (h : A) : if b = true then A else B := by
  rw [e]
  exact iteT h
theorem wo_ne {D a : Addr} {H : Hp} {o : HO} (h : Wo D H a = some o) : a ≠ D := fun e => by
  unfold Wo at h
  rw [if_pos e] at h
  cases h
abbrev Lk := Addr × List Nat
abbrev refK (us : List Lk) : List V := us.map fun x => V.ref x.1
abbrev intsV (ns : List Nat) : List V := ns.map fun n : Nat => V.int (n : Int)
def spChil : Sp := fun vs H Q _ => ∃ (P : Addr) (ps : List (Option Nat)), vs = [.ref P] ∧ H P = some (.tup (ps.map pV)) ∧ ps.length ≤ 1000 ∧ Wf ps ∧
  ∀ (H' : Hp) (C : Addr) (us : List Lk), Same H H' → H C = none → H' C = some (.lst (refK us)) → us.length = ps.length → (∀ k u, us[k]? = some u → H' u.1 = some (.tup (intsV u.2)) ∧ u.2 = kids ps k) → Q (.ref C) H'
def kidsTo (ps : List (Option Nat)) (i k : Nat) : List Nat := (List.range i).filter fun j => decide (pa ps j = some k)
theorem kidsTo_all (ps : List (Option Nat)) (k : Nat) : kidsTo ps ps.length k = kids ps k := rfl
theorem kidsTo_succ (ps : List (Option Nat)) (i k : Nat) : kidsTo ps (i + 1) k = kidsTo ps i k ++ (if pa ps i = some k then [i] else []) := by
  unfold kidsTo
  rw [List.range_succ, List.filter_append]
  by_cases c : pa ps i = some k
  · simp [c]
  · simp [c]
def ltZ (a b : Str) : Bool := dataLt (.str a) (.str b)
theorem ltZ_anti {a b : Str} (x : ltZ a b = false) (y : ltZ b a = false) : a = b := by
  have := lex_total (O := itemOrd) (keyToks (.str a)) (keyToks (.str b)) x y
  simp [keyToks] at this
  exact str_cps (by simpa using this)
theorem nd_of : ∀ ys : List Str, (ys.Pairwise fun a b => ltZ b a = false) → (∀ p ∈ ys.zip (ys.drop 1), p.1 ≠ p.2) → ys.Nodup
  | [], _, _ => List.nodup_nil
  | [x], _, _ => by simp
  | x :: y :: r, h, n => by
    obtain ⟨h1, h2⟩ := List.pairwise_cons.mp h
    have ih := nd_of (y :: r) h2 fun p hp => n p (by
      show p ∈ (x, y) :: (y :: r).zip r
      exact List.mem_cons_of_mem _ hp)
    have nxy : x ≠ y := n (x, y) (by
      show (x, y) ∈ (x, y) :: (y :: r).zip r
      exact List.mem_cons_self)
    refine List.nodup_cons.mpr ⟨fun m => ?_, ih⟩
    rcases List.mem_cons.mp m with e | m
    · exact nxy e
    · exact nxy (ltZ_anti ((List.pairwise_cons.mp h2).1 x m) (h1 y List.mem_cons_self))
def spFTw (K : PySem.W.Frag) : Sp := fun vs H Q _ => ∃ (L : Addr) (zs : List Str), vs = [.ref L] ∧ SqL K H L (zs.map V.str) ∧ zs.length ≤ 1000 ∧ ¬ zs.Nodup ∧ ∀ (H' : Hp) (z : Str), Same H H' → Q (.str z) H'
def ltS (cs : List Fc) : Str := ⟨(ltl cs).toArray⟩
theorem tl_ltS (cs : List Fc) : tl (ltS cs) = ltl cs := by simp [ltS, tl]
def spLotT : Sp := fun vs H Q _ => ∃ (t : Addr) (xs : List Pt), vs = [.ref t] ∧ H t = some (.tup (xs.map fun x => V.ref x.1)) ∧ (∀ x ∈ xs, H x.1 = some (.tup (ptV x)) ∧ Fct x.2) ∧ xs.length ≤ 1000 ∧ ∀ H', Same H H' → Q (.str (ltS (xs.map (·.2)))) H'
section
variable {P : Program} {w : World} {K : PySem.W.Frag} {mg : Str → Option Value} {base : Heap}
abbrev nChil : List Str := ["parents", "found", "_", "node", "parent", "nodes"]
theorem scChil : FnScope nChil ["parents"] (defScope sChil) := ⟨rfl, rfl, rfl, by decide +kernel, rfl, by decide +kernel, by decide +kernel⟩
theorem ok_chil {f : Addr} {fd : FuncData} (F : Fun K "children_of" "children_of" sChil f fd) (me : mg "enumerate" = none) (mt : mg "tuple" = none) : FnOk P w K mg base CX0 1 f fd ["parents"] spChil := by
  refine F.ok scChil (fun vs H Q E h => ?_) (fun cdv A outer s H vs Q E hr h => ?_)
  · obtain ⟨_, _, rfl, _⟩ := h
    rfl
  · obtain ⟨P, ps, rfl, hP, lp, wf, k⟩ := h
    refine ⟨_, pss_cons (ps_setLc (i := 1) (own := [("_", 2)]) (g := gName 2) (tt := tYes) rfl scChil.nd rfl rfl (sw_true rfl rfl rfl (by decide +kernel)) (pi_tup (pv 0))
            (blkOk_by (own := [("_", 2)]) (N := nChil) (sc := defScope sChil) (by decide +kernel)) (fun _ _ _ _ _ => pg_name (i := 2) scChil.nd rfl (Or.inl rfl)) (fun _ _ _ _ _ => pts_nil)
            (fun _ _ _ _ _ => pe_lst pa_nil))
      (pss_cons (ps_for PassesOwn.never rfl (pi_enumS (by rfl) me (pa_cons (pv 0) pa_nil)) (pg_tup (by rfl) (pgs_cons (pg_name (i := 3) scChil.nd rfl (Or.inl rfl)) (pgs_cons (pg_name (i := 4) scChil.nd rfl (Or.inl rfl)) pgs_nil)))
        (pss_one (ps_if (pt_cmpR op_notN (pv 4) pe_non (nomark _)) (pss_one (ps_expr (pe_bm PySem.F.plainAttrs_list PySem.F.slot_list_append PySem.F.type_list_append mt_append (pe_ix ix_list (pv 1) (pv 4) (fun _ _ => rfl)) (pa_cons (pv 3) pa_nil)))) pss_nil)))
      (pss_one (ps_ret (pe_lc (own := [("nodes", 5)]) (g := gName 5) (tt := tYes) rfl scChil.nd (pi_list (pv 1))
            (blkOk_by (own := [("nodes", 5)]) (N := nChil) (sc := defScope sChil) (by decide +kernel)) (fun _ _ _ _ _ => pg_name (i := 5) scChil.nd rfl (Or.inl rfl)) (fun _ _ _ _ _ => pts_nil)
            (fun _ _ _ _ _ => pe_callTy (call_tuple_ofK (K := K) rfl) (by rfl) mt (by decide +kernel) (pa_cons (pv 5) pa_nil)))))), ?_⟩
    refine ⟨_, rfl, P, rfl, ⟨_, SqT.of hP⟩, fun D nD => ?_⟩
    refine lc_acc (L2.walk_tup (K := K) (xs := ps.map pV)) (fun Hh i acc => ∃ fs : List Addr, acc = fs.map V.ref ∧ fs.length = i ∧ fs.Nodup ∧ ∀ a ∈ fs, Hh a = some (.lst []) ∧ H a = none) nD (by rw [List.length_map]; omega) (fun H' s' => SqT.of (s' _ _ hP))
      (fun H H' i acc s' h => let ⟨fs, h1, h2, h3, h4⟩ := h; ⟨fs, h1, h2, h3, fun a m => ⟨s' _ _ (h4 a m).1, (h4 a m).2⟩⟩) ⟨[], rfl, rfl, List.nodup_nil, fun _ m => nomatch m⟩ (fun i x H5 H6 acc hi s5 hD r la yy Yes No yes no => ?_) (fun H1 acc s1 hD la r => ?_)
    · obtain ⟨rfl, hx⟩ := yy
      obtain ⟨fs, rfl, lf, nd, hf⟩ := r
      refine ⟨rfl, ?_⟩
      dsimp only [tYes]
      rw [if_pos rfl]
      refine ⟨(by show 0 ≤ sizeLine; decide), fun q nq => ?_⟩
      have s7 : Same H6 (upd H6 q (.lst [])) := same_new nq
      have c7 : (upd H6 q (.lst [])) q = some (.lst []) := upd_same
      have qD : q ≠ D := fun e => by rw [e, hD] at nq; cases nq
      refine yes _ _ s7 ⟨fs ++ [q], by simp, by simp [lf], ?_, fun a m => ?_⟩
      · refine List.nodup_append.mpr ⟨nd, by simp, fun a ha b hb e => ?_⟩
        rw [List.mem_singleton.mp hb] at e
        have := wo_le _ _ (hf a ha).1
        rw [e, nq] at this
        cases this
      · rcases List.mem_append.mp m with m | m
        · exact ⟨wo_same s7 _ _ (hf a m).1, (hf a m).2⟩
        · rw [List.mem_singleton.mp m]
          exact ⟨wo_new c7 qD, none_of s5 nq⟩
    · obtain ⟨fs, rfl, lf, nd, hf⟩ := r
      rw [List.length_map] at lf
      have hf1 : ∀ a ∈ fs, a ≠ D ∧ H1 a = some (.lst []) := fun a m => ⟨wo_ne (hf a m).1, wo_le _ _ (hf a m).1⟩
      have hf0 : ∀ a ∈ fs, H a = none := fun a m => (hf a m).2
      -- whatever stood before is none of the new lists
      have newf : ∀ a ∈ fs, a ≠ P := fun a m e => by
        have := (hf1 a m).2
        rw [e, s1 _ _ hP] at this
        cases this
      refine ⟨_, rfl, P, rfl, for_enumS (xs := ps.map pV) (.inr (s1 _ _ hP)) (fun i σ H5 => ∃ (v2 v3 v4 v5 : Option V), σ = [some (.ref P), some (.ref D), v2, v3, v4, v5] ∧ i ≤ ps.length ∧ (∀ k a, fs[k]? = some a → H5 a = some (.lst (intsV (kidsTo ps i k)))) ∧ (∀ b o, H1 b = some o → b ∉ fs → H5 b = some o))
        ⟨_, _, _, _, rfl, Nat.zero_le _, fun k a hk => (hf1 a (List.mem_of_getElem? hk)).2, fun b o e _ => e⟩ (fun i σ H5 pp => let ⟨_, _, _, _, _, _, _, kp⟩ := pp; .inr (kp _ _ (s1 _ _ hP) fun m => newf P m rfl))
        (fun i x σ H5 T hx pp nT => ?_) (fun σ H5 pp => ?_) (fun i σ H5 pp e => let ⟨_, _, _, _, _, _, _, kp⟩ := pp; kp _ _ e fun m => newf P m rfl) (fun i σ H5 pp e => let ⟨_, _, _, _, _, _, _, kp⟩ := pp; kp _ _ e fun m => newf P m rfl)⟩
      · obtain ⟨v2, v3, v4, v5, rfl, le, hk, kp⟩ := pp
        rw [List.getElem?_map] at hx
        obtain ⟨p, hp, rfl⟩ := Option.map_eq_some_iff.mp hx
        have li : i < ps.length := (List.getElem?_eq_some_iff.mp hp).1
        have pi : pa ps i = p := by
          unfold pa
          rw [hp]
          rfl
        have s6 : Same H5 (upd H5 T (.tup [.int (i : Nat), pV p])) := same_new nT
        have c6 : (upd H5 T (.tup [.int (i : Nat), pV p])) T = some (.tup [.int (i : Nat), pV p]) := upd_same
        generalize upd H5 T (.tup [.int (i : Nat), pV p]) = H6 at s6 c6 ⊢
        refine ⟨T, _, rfl, SqT.of c6, rfl, _, _, rfl, _, _, rfl, rfl, ?_⟩
        cases p with
        | none =>
          refine ⟨_, rfl, rfl, _, rfl, ifF rfl ?_⟩
          refine ⟨_, _, _, _, rfl, li, fun k a ha => ?_, fun b o e nb => s6 _ _ (kp b o e nb)⟩
          rw [s6 _ _ (hk k a ha), kidsTo_succ, pi]
          simp
        | some q =>
          refine ⟨_, rfl, rfl, _, rfl, ifT rfl ?_⟩
          have lq := (wf.lt pi).1
          have hq : fs[q]? = some fs[q] := List.getElem?_eq_getElem (by omega)
          generalize fs[q] = a at hq
          have ma := List.mem_of_getElem? hq
          have hD6 : H6 D = some (.lst (fs.map V.ref)) := s6 _ _ (kp _ _ hD fun m => (hf1 D m).1 rfl)
          have ha6 := s6 _ _ (hk q a hq)
          refine ⟨_, rfl, _, rfl, D, _, _, .ref a, rfl, rfl, SqL.of hD6, atI_nat (j := q) (by rw [List.getElem?_map, hq]; rfl), .inl ⟨rfl, _, .inl (.inl ha6)⟩, _, rfl, a, _, _, rfl, rfl, ha6, ?_, ?_⟩
          · rw [List.length_map, sizeLine_eq]
            have : (kidsTo ps i q).length ≤ i := by
              unfold kidsTo
              refine Nat.le_trans (List.length_filter_le _ _) ?_
              rw [List.length_range]
              exact Nat.le_refl _
            omega
          · refine ⟨_, _, _, _, rfl, li, fun k b hb => ?_, fun b o e nb => ?_⟩
            · by_cases e : k = q
              · subst e
                rw [hq] at hb
                cases hb
                rw [upd_same, kidsTo_succ, pi, if_pos rfl]
                simp [intsV]
              · have nb : b ≠ a := fun z => e (by
                  subst z
                  obtain ⟨g1, e1⟩ := List.getElem?_eq_some_iff.mp hb
                  obtain ⟨g2, e2⟩ := List.getElem?_eq_some_iff.mp hq
                  exact (List.getElem_inj nd).mp (e1.trans e2.symm))
                rw [upd_ne nb, s6 _ _ (hk k b hb), kidsTo_succ, pi, if_neg (fun z => e (Option.some.inj z).symm), List.append_nil]
            · rw [upd_ne fun z => nb (by rw [z]; exact ma)]
              exact s6 _ _ (kp b o e nb)
      · obtain ⟨v2, v3, v4, v5, rfl, _, hk, kp⟩ := pp
        rw [List.length_map] at hk
        have hD5 : H5 D = some (.lst (fs.map V.ref)) := kp _ _ hD fun m => (hf1 D m).1 rfl
        have s15 : Same H H5 := fun b o e => kp b o (s1 _ _ e) fun m => by
          rw [hf0 b m] at e
          cases e
        refine ⟨_, rfl, ?_⟩
        refine ⟨D, rfl, ⟨_, SqL.of hD5⟩, fun C nC => ?_⟩
        refine lc_acc (L2.walk_list (K := K) (xs := fs.map V.ref)) (fun Hh i acc => ∃ us : List Lk, acc = refK us ∧ us.length = i ∧ ∀ k u, us[k]? = some u → Hh u.1 = some (.tup (intsV u.2)) ∧ u.2 = kids ps k) nC (by rw [List.length_map]; omega) (fun H' s' => SqL.of (s' _ _ hD5))
          (fun Hq Hr i acc s' h => by
            obtain ⟨us, h1, h2, h3⟩ := h
            exact ⟨us, h1, h2, fun k u hu => ⟨s' _ _ (h3 k u hu).1, (h3 k u hu).2⟩⟩) ⟨[], rfl, rfl, fun k u hu => (by simp at hu)⟩ (fun i x H6 H7 acc hi s6 hC r la yy Yes No yes no => ?_) (fun H7 acc s7 hC la r => ?_)
        · obtain ⟨rfl, hx⟩ := yy
          obtain ⟨us, rfl, lu, hu⟩ := r
          rw [List.getElem?_map] at hx
          obtain ⟨a, ha, rfl⟩ := Option.map_eq_some_iff.mp hx
          refine ⟨rfl, ?_⟩
          dsimp only [tYes]
          rw [if_pos rfl]
          refine ⟨_, rfl, a, _, rfl, .inl ⟨SqL.of (s6 _ _ (hk i a ha)), fun q nq => ?_⟩⟩
          have s8 : Same H7 (upd H7 q (.tup (intsV (kidsTo ps ps.length i)))) := same_new nq
          have c8 : (upd H7 q (.tup (intsV (kidsTo ps ps.length i)))) q = some (.tup (intsV (kidsTo ps ps.length i))) := upd_same
          have qC : q ≠ C := fun e => by rw [e, hC] at nq; cases nq
          refine yes _ _ s8 ⟨us ++ [(q, kidsTo ps ps.length i)], by simp [refK], by simp [lu], fun k u hk2 => ?_⟩
          by_cases hlt : k < us.length
          · rw [List.getElem?_append_left hlt] at hk2
            exact ⟨wo_same s8 _ _ (hu k u hk2).1, (hu k u hk2).2⟩
          · rw [List.getElem?_append_right (by omega)] at hk2
            have k0 : k - us.length = 0 := by
              cases h9 : k - us.length with
              | zero => rfl
              | succ j =>
                rw [h9] at hk2
                simp at hk2
            rw [k0] at hk2
            have : (q, kidsTo ps ps.length i) = u := Option.some.inj hk2
            subst this
            have ek : k = i := by omega
            subst ek
            exact ⟨wo_new c8 qC, kidsTo_all ps _⟩
        · obtain ⟨us, rfl, lu, hu⟩ := r
          rw [List.length_map] at lu
          exact k H7 C us (s15.trans s7) (none_of s15 nC) hC (by omega) fun k u hu2 => ⟨wo_le _ _ (hu k u hu2).1, (hu k u hu2).2⟩
end
end L2.LawH
set_option Elab.async false
set_option linter.all false
set_option maxRecDepth 100000
set_option maxHeartbeats 4000000
/-! first_twice, lot_text. -/
namespace L2.LawH
open PySem PySem.Spec PyProof.Rows L2.TxtSet TL L2.NSet PySem.W L2.Cmp L2.Rws L2.ZipL
theorem take_snoc {α : Type} {l : List α} {i : Nat} {x : α} (h : l[i]? = some x) : l.take (i + 1) = l.take i ++ [x] := by
  rw [List.take_succ, h]
  rfl
section
variable {P : Program} {w : World} {K : PySem.W.Frag} {mg : Str → Option Value} {base : Heap}
abbrev nFTw : List Str := ["names", "ordered", "name", "other"]
theorem scFTw : FnScope nFTw ["names"] (defScope sFTw) := ⟨rfl, rfl, rfl, by decide +kernel, rfl, by decide +kernel, by decide +kernel⟩
theorem ok_fTw {f : Addr} {fd : FuncData} (F : Fun K "first_twice" "first_twice" sFTw f fd) (ms : mg "sorted" = none) (mz : mg "zip" = none) : FnOk P w K mg base CX0 1 f fd ["names"] (spFTw K) := by
  refine F.ok scFTw (fun vs H Q E h => ?_) (fun cdv A outer s H vs Q E hr h => ?_)
  · obtain ⟨_, _, rfl, _⟩ := h
    rfl
  · obtain ⟨L, zs, rfl, hL, lz, dup, k⟩ := h
    have hu := hr.units
    refine ⟨_, pss_cons (ps_set (i := 1) scFTw.nd rfl (Or.inl rfl) (pe_callB (cr_sortD hu) (by rfl) ms (by decide +kernel) (pa_cons (pv 0) pa_nil)))
      (pss_one (ps_ret (pe_ix ix_list (pe_lc (own := [("name", 2), ("other", 3)]) (g := gTup K 2 (gCons (gName 2) (gCons (gName 3) gNil))) (tt := tTest (tOp rEq (tVar 2) (tVar 3))) rfl scFTw.nd (pi_zip (by rfl) mz (pa_cons (pv 1) (pa_cons (pe_slice sl_list (pv 1) (po_some pe_int) po_none) pa_nil)))
            (blkOk_by (own := [("name", 2), ("other", 3)]) (N := nFTw) (sc := defScope sFTw) (by decide +kernel)) (fun _ _ _ _ _ => pg_tup (by rfl) (pgs_cons (pg_name (i := 2) scFTw.nd rfl (Or.inl rfl)) (pgs_cons (pg_name (i := 3) scFTw.nd rfl (Or.inl rfl)) pgs_nil)))
            (fun _ _ _ _ _ => pts_one (pt_cmpR op_eq (pv 2) (pv 3) (nomark _)))
            (fun _ _ _ _ _ => pv 2)) pe_int (fun _ _ => rfl)))), ?_⟩
    refine ⟨_, rfl, L, zs.map fun z => (V.str z, PyData.str z), rfl, by rw [List.map_map]; exact hL, fun x hx => ?_, fun d hd d' hd' => ?_, .inl (.inr fun d hd => ?_), by rw [List.length_map]; exact lz, fun x hx => ?_, fun ys p pm ri np => ?_⟩
    · obtain ⟨z, _, rfl⟩ := List.mem_map.mp hx
      exact .str _
    · rw [List.map_map] at hd hd'
      obtain ⟨z, _, rfl⟩ := List.mem_map.mp hd
      obtain ⟨z', _, rfl⟩ := List.mem_map.mp hd'
      rfl
    · rw [List.map_map] at hd
      obtain ⟨z, _, rfl⟩ := List.mem_map.mp hd
      exact ⟨fun e => (by cases e), fun xs e => (by cases e)⟩
    · obtain ⟨z, _, rfl⟩ := List.mem_map.mp hx
      show PyData.depth (.str z) ≤ 40
      simp [PyData.depth]
    · obtain ⟨ws, rfl⟩ : ∃ ws : List Str, ys = ws.map fun z => (V.str z, PyData.str z) := by
        have hm : ∀ y ∈ ys, ∃ z, y = (V.str z, PyData.str z) := fun y hy => by
          obtain ⟨z, _, e⟩ := List.mem_map.mp (pm.mem_iff.mp hy)
          exact ⟨z, e.symm⟩
        clear pm ri
        induction ys with
        | nil => exact ⟨[], rfl⟩
        | cons y ys ih =>
          obtain ⟨ws, e⟩ := ih fun x hx => hm x (List.mem_cons_of_mem _ hx)
          obtain ⟨z, ez⟩ := hm y List.mem_cons_self
          exact ⟨z :: ws, by rw [List.map_cons, ← ez, ← e]⟩
      have pm2 : ws.Perm zs := by
        have := pm.map fun x => match x.2 with
          | PyData.str z => z
          | _ => Str.empty
        rw [List.map_map, List.map_map] at this
        have id1 : ∀ l : List Str, l.map ((fun x : V × PyData => match x.2 with | PyData.str z => z | _ => Str.empty) ∘ fun z => (V.str z, PyData.str z)) = l := fun l => by
          conv => rhs; rw [← List.map_id l]
          rfl
        rw [id1, id1] at this
        exact this
      have pw : ws.Pairwise fun a b => ltZ b a = false := by
        have r2 : (ws.map fun z => (V.str z, PyData.str z)).Pairwise fun a b => dataLe false Prod.snd a b = true := ri
        rw [List.pairwise_map] at r2
        refine r2.imp fun {a b} h => ?_
        have h' : (!dataLt (.str b) (.str a)) = true := h
        unfold ltZ
        cases e : dataLt (.str b) (.str a) with
        | false => rfl
        | true =>
          rw [e] at h'
          cases h'
      have lw := pm2.length_eq
      rw [show (List.map (fun z => (V.str z, PyData.str z)) ws).map Prod.fst = ws.map V.str by rw [List.map_map]; rfl]
      have s1 : Same H (upd H p (.lst (ws.map V.str))) := same_new np
      have c1 : (upd H p (.lst (ws.map V.str))) p = some (.lst (ws.map V.str)) := upd_same
      generalize upd H p (.lst (ws.map V.str)) = H1 at s1 c1 ⊢
      refine ⟨_, rfl, _, rfl, 1, rfl, p, _, rfl, SqL.of c1, fun q nq => ?_⟩
      rw [show cutV (ws.map V.str) (some 1) none = (ws.drop 1).map V.str by rw [List.map_drop]; exact cutV_from _ 1]
      have s2 : Same H1 (upd H1 q (.lst ((ws.drop 1).map V.str))) := same_new nq
      have c2 : (upd H1 q (.lst ((ws.drop 1).map V.str))) q = some (.lst ((ws.drop 1).map V.str)) := upd_same
      generalize upd H1 q (.lst ((ws.drop 1).map V.str)) = H2 at s2 c2 ⊢
      have c1' := s2 _ _ c1
      refine ⟨p, q, _, _, rfl, SqL.of c1', SqL.of c2, fun D nD => ?_⟩
      refine lc_acc (L2.walk_zip (K := K) (xs := ws.map V.str) (ys := (ws.drop 1).map V.str) (n := (ws.zip (ws.drop 1)).length) (by rw [List.length_zip, List.length_map, List.length_map])) (fun _ i acc => acc = (((ws.zip (ws.drop 1)).take i).filter fun x => decide (x.1 = x.2)).map fun x => V.str x.1) nD (by rw [List.length_zip]; omega)
        (fun H' s' => ⟨SqL.of (s' _ _ c1'), SqL.of (s' _ _ c2)⟩) (fun _ _ _ _ _ h => h) rfl (fun i x H5 H6 acc hi s5 hD r la yy Yes No yes no => ?_) (fun H7 acc s7 hD la r => ?_)
      · obtain ⟨T, x, y, rfl, nT, rfl, ex, ey⟩ := yy
        have s6 : Same H5 (upd H5 T (.tup [x, y])) := same_new nT
        have c6 : (upd H5 T (.tup [x, y])) T = some (.tup [x, y]) := upd_same
        generalize upd H5 T (.tup [x, y]) = H6 at s6 c6 ⊢
        have ex : (ws.map V.str)[i]? = some x := ex
        have ey : ((ws.drop 1).map V.str)[i]? = some y := ey
        rw [List.getElem?_map] at ex ey
        obtain ⟨a, ha, rfl⟩ := Option.map_eq_some_iff.mp ex
        obtain ⟨b, hb, rfl⟩ := Option.map_eq_some_iff.mp ey
        have hz : (ws.zip (ws.drop 1))[i]? = some (a, b) := by
          rw [List.getElem?_zip_eq_some]
          exact ⟨ha, hb⟩
        refine ⟨T, _, rfl, SqT.of c6, rfl, _, _, rfl, _, _, rfl, rfl, ?_⟩
        refine ⟨rfl, _, rfl, _, rfl, rfl, _, rfl, ?_⟩
        by_cases c : a = b
        · rw [decide_eq_true (congrArg V.str c)]
          refine iteT ⟨_, rfl, yes _ _ s6 ?_⟩
          rw [r, take_snoc hz, List.filter_append, List.map_append]
          simp [c]
        · rw [decide_eq_false (fun e => c (V.str.inj e))]
          refine iteF (no _ s6 ?_)
          rw [r, take_snoc hz, List.filter_append, List.map_append]
          simp [c]
      · rw [List.take_length] at r
        have some1 : ∃ z rest, acc = V.str z :: rest := by
          cases e : (ws.zip (ws.drop 1)).filter fun x => decide (x.1 = x.2) with
          | cons x r' => exact ⟨x.1, _, by rw [r, e]; rfl⟩
          | nil =>
            exfalso
            refine dup (pm2.nodup_iff.mp (nd_of ws pw fun x hx e2 => ?_))
            have : x ∈ (ws.zip (ws.drop 1)).filter fun x => decide (x.1 = x.2) := List.mem_filter.mpr ⟨hx, decide_eq_true e2⟩
            rw [e] at this
            cases this
        obtain ⟨z, rest, rfl⟩ := some1
        refine ⟨D, _, _, _, rfl, rfl, SqL.of hD, atI_nat (j := 0) rfl, ?_⟩
        exact k H7 z (((s1.trans s2).trans s7))
abbrev nLotT : List Str := ["lot", "pattern"]
theorem scLotT : FnScope nLotT ["lot"] (defScope sLotT) := ⟨rfl, rfl, rfl, by decide +kernel, rfl, by decide +kernel, by decide +kernel⟩
theorem ok_lotT {f fP : Addr} {fd fdP : FuncData} (F : Fun K "lot_text" "lot_text" sLotT f fd)
    (GP : FnOk P w K mg base CX0 1 fP fdP ["pattern"] spPtx) (kP : PySem.W.keepIn K (.ref fP) = true) (bP : Binds K fdP ["pattern"] []) (mP : mg "pattern_text" = some (.ref fP)) : FnOk P w K mg base CX0 2 f fd ["lot"] spLotT := by
  refine F.ok scLotT (fun vs H Q E h => ?_) (fun cdv A outer s H vs Q E hr h => ?_)
  · obtain ⟨_, _, rfl, _⟩ := h
    rfl
  · obtain ⟨t, xs, rfl, ht, each, lx, k⟩ := h
    have hr1 : Room 1 _ := hr.mono (by decide)
    refine ⟨_, pss_one (ps_ret (pe_ifExp (pt_truth (pv 0) (by intro _; rfl)) (pe_join pe_str (pe_lc (own := [("pattern", 1)]) (g := gName 1) (tt := tYes) rfl scLotT.nd (pi_tup (pv 0))
          (blkOk_by (own := [("pattern", 1)]) (N := nLotT) (sc := defScope sLotT) (by decide +kernel)) (fun _ _ _ _ _ => pg_name (i := 1) scLotT.nd rfl (Or.inl rfl)) (fun _ _ _ _ _ => pts_nil)
          (fun _ _ _ _ _ => pe_call GP hr1 (by rfl) mP kP bP .nil pass0 (pa_cons (pv 1) pa_nil)))) pe_str)), ?_⟩
    refine ⟨_, rfl, !(xs.map fun x => V.ref x.1).isEmpty, .inr (.inl ⟨_, SqT.of ht, rfl⟩), ?_⟩
    cases hx0 : xs with
    | nil =>
      rw [hx0] at k
      refine iteF ?_
      have e : ltS (List.map (fun x : Pt => x.2) []) = Str.ofString "-" := ext_tl (by rw [tl_ltS]; decide +kernel)
      have := k H fun _ _ e => e
      rw [e] at this
      exact this
    | cons x0 xr =>
      rw [← hx0]
      refine ifT (by rw [hx0]; rfl) ?_
      refine ⟨⟨_, rfl⟩, _, rfl, t, rfl, ⟨_, SqT.of ht⟩, fun D nD => ?_⟩
      refine lc_sift (ms := xs) (val := fun x => V.ref x.1) (L2.walk_tup (K := K)) (List.length_map _) (fun _ => true) (fun x => V.str (ptext x.2.1 x.2.2)) nD (by omega) (fun H' s' => SqT.of (s' _ _ ht)) (fun x hx H5 Yes No s5 yes no => ?_) (fun H' s' hL => ?_)
      · refine ⟨rfl, ?_⟩
        dsimp only [tYes]
        rw [if_pos rfl]
        have fx := (each x hx).2
        refine ⟨_, rfl, x.1, x.2.1, x.2.2, rfl, s5 _ _ (each x hx).1, Nat.le_trans fx.l3 (by decide), ?_, ?_, fun H6 s6 => yes H6 s6 rfl⟩
        · exact Nat.le_trans (tm_len (.inl fx.nT)).2 (by decide)
        · exact fun z hz => Nat.le_trans (tm_len (fx.nz z hz)).2 (by decide)
      · have hL' : H' D = some (.lst (((xs.map (·.2)).map fun c : Fc => ptext c.1 c.2).map V.str)) := by
          rw [hL, List.map_map, List.map_map]
          rw [List.filter_eq_self.mpr (fun _ _ => rfl)]
          rfl
        have jt := join_texts (xs.map (·.2))
        have js : (((xs.map (·.2)).map fun c : Fc => ptext c.1 c.2).map (·.length)).sum ≤ xs.length * 57 := by
          have := sum_le 57 ((xs.map (·.2)).map fun c : Fc => ptext c.1 c.2) fun y hy => by
            obtain ⟨c, hc, rfl⟩ := List.mem_map.mp hy
            obtain ⟨x, hx, rfl⟩ := List.mem_map.mp hc
            exact (each x hx).2.pg.codes.2
          rw [List.length_map, List.length_map] at this
          exact this
        refine ⟨_, D, _, rfl, rfl, .inl (SqL.of hL'), ?_, ?_⟩
        · rw [show (Str.ofString " ").length = 1 by decide +kernel, List.length_map, List.length_map, Nat.mul_one]
          omega
        have e : Txt.join (Str.ofString " ") ((xs.map (·.2)).map fun c : Fc => ptext c.1 c.2) = ltS (xs.map (·.2)) := by
          refine ext_tl ?_
          rw [jt, tl_ltS]
          unfold ltl
          rw [if_neg (by rw [hx0]; simp)]
        rw [e]
        exact k H' s'
end
end L2.LawH
set_option Elab.async false
set_option linter.all false
set_option maxRecDepth 100000
set_option maxHeartbeats 4000000
/-! Two fors in a comprehension; the errors; a question as it stands. -/
namespace L2.LawH
open PySem PySem.Spec PyProof.Rows L2.TxtSet TL L2.NSet PySem.W L2.Cmp L2.Rws L2.ZipL
theorem tyes_go {σ : St} {H : Hp} {A B : Hp → Prop} (h : A H) : tYes σ H (fun b H3 => if b = true then A H3 else B H3) := by
  show (if (true : Bool) = true then A H else B H)
  rw [if_pos rfl]
  exact h
theorem lc2_in (w : L2.Walk J1 n1 G1 Y1) {g1 : TG} {tt1 : TT} {te : TE} {vs1 : List Nat} {σ2 : St} {H4 : Hp} {D : Addr} {Nx : Hp → Prop} (Pv : Nat → Hp → Prop) (h0 : Pv 0 H4) (hG : ∀ i H, i ≤ n1 → Pv i H → G1 H)
    (hs : ∀ i x H H', i < n1 → Pv i H → Y1 i H x H' → g1 x (wipe σ2 vs1) H' fun σ3 H5 => wipe σ3 vs1 = wipe σ2 vs1 ∧ tt1 σ3 H5 fun b H6 =>
      if b = true then te σ3 H6 fun y H7 => ∃ acc, H7 D = some (.lst acc) ∧ acc.length < sizeLine ∧ Pv (i + 1) (upd H7 D (.lst (acc ++ [y]))) else Pv (i + 1) H6) (hd : ∀ H, Pv n1 H → Nx H) :
    ∃ W1 : Nat → Nat → Hp → Prop, (∃ m, W1 0 m H4) ∧ ∀ j k H, W1 j k H →
      (J1.stop j H ∧ Nx H) ∨ (J1.go j H ∧ ∃ Nx1 : Hp → Prop, (∀ H', Nx1 H' → ∃ k', k' < k ∧ W1 (j + 1) k' H') ∧ ∀ x H', J1.yld j H x H' → g1 x (wipe σ2 vs1) H' fun σ3 H5 => wipe σ3 vs1 = wipe σ2 vs1 ∧ tt1 σ3 H5 fun b H6 =>
        if b = true then te σ3 H6 fun y H7 => ∃ acc, H7 D = some (.lst acc) ∧ acc.length < sizeLine ∧ Nx1 (upd H7 D (.lst (acc ++ [y]))) else Nx1 H6) := by
  refine ⟨fun i m H => m = n1 - i ∧ i ≤ n1 ∧ Pv i H, ⟨n1, by simp, Nat.zero_le _, h0⟩, ?_⟩
  rintro i m H ⟨rfl, hi, p⟩
  have q := hG i H hi p
  by_cases hlt : i < n1
  · refine .inr ⟨w.goes i H hlt q, Pv (i + 1), fun H' p' => ⟨n1 - (i + 1), by omega, rfl, hlt, p'⟩, fun x H' y => hs i x H H' hlt p (w.yields i H x H' hlt q y)⟩
  · have e : i = n1 := by omega
    subst e
    exact .inl ⟨w.stops H q, hd H p⟩
theorem lc2_flat {α β : Type} {J : It} {n : Nat} {G : Hp → Prop} {ms : List α} {val : α → V} (w : L2.Walk J n G (YAt (ms.map val))) (en : n = ms.length) (inn : α → List β) (vin : β → V) (out : α → β → V) (Ok : α → St → Prop)
    {g g1 : TG} {wi1 : TI} {te : TE} {vs vs1 : List Nat} {σ : St} {H1 : Hp} {D : Addr} {Qd : Hp → Prop} (nD : H1 D = none) (few : (ms.flatMap fun x => (inn x).map (out x)).length < 100000) (hG : ∀ H, Same H1 H → G H)
    (hs : ∀ x ∈ ms, ∀ (H5 : Hp) (C : St → Hp → Prop), Same H1 H5 → (∀ σ2, wipe σ2 vs = wipe σ vs → Ok x σ2 → C σ2 H5) → g (val x) (wipe σ vs) H5 C)
    (h1 : ∀ x ∈ ms, ∀ (σ2 : St) (H5 : Hp) (R : It → Hp → Prop), Ok x σ2 → Same H1 H5 → (∀ (J1 : It) (n1 : Nat) (G1 : Hp → Prop), L2.Walk J1 n1 G1 (YAt ((inn x).map vin)) → n1 = (inn x).length → (∀ H, Same H1 H → G1 H) → R J1 H5) → wi1 σ2 H5 R)
    (h2 : ∀ x ∈ ms, ∀ y ∈ inn x, ∀ (σ2 : St) (H5 : Hp) (C : VK), Ok x σ2 → Same H1 H5 → C (out x y) H5 → g1 (vin y) (wipe σ2 vs1) H5 fun σ3 H6 => wipe σ3 vs1 = wipe σ2 vs1 ∧ te σ3 H6 C)
    (gm : ∀ (y : V) (σ2 : St) (H5 : Hp) (A B : St → Hp → Prop), (∀ σ2 H2, A σ2 H2 → B σ2 H2) → g1 y (wipe σ2 vs1) H5 A → g1 y (wipe σ2 vs1) H5 B)
    (hd : ∀ H', Same H1 H' → H' D = some (.lst (ms.flatMap fun x => (inn x).map (out x))) → Qd H') :
    ∃ W : Nat → Nat → Hp → Prop, (∃ m, W 0 m (upd H1 D (.lst []))) ∧ ∀ i m H, W i m H →
      (J.stop i H ∧ Qd H) ∨ (J.go i H ∧ ∃ Nx : Hp → Prop, (∀ H', Nx H' → ∃ m', m' < m ∧ W (i + 1) m' H') ∧ ∀ x H', J.yld i H x H' → g x (wipe σ vs) H' fun σ2 H2 => wipe σ2 vs = wipe σ vs ∧ tYes σ2 H2 fun b H3 =>
        if b = true then wi1 σ2 H3 fun J1 H4 => ∃ W1 : Nat → Nat → Hp → Prop, (∃ m, W1 0 m H4) ∧ ∀ j k H, W1 j k H →
          (J1.stop j H ∧ Nx H) ∨ (J1.go j H ∧ ∃ Nx1 : Hp → Prop, (∀ H', Nx1 H' → ∃ k', k' < k ∧ W1 (j + 1) k' H') ∧ ∀ x H', J1.yld j H x H' → g1 x (wipe σ2 vs1) H' fun σ3 H5 => wipe σ3 vs1 = wipe σ2 vs1 ∧ tYes σ3 H5 fun b H6 =>
            if b = true then te σ3 H6 fun y H7 => ∃ acc, H7 D = some (.lst acc) ∧ acc.length < sizeLine ∧ Nx1 (upd H7 D (.lst (acc ++ [y]))) else Nx1 H6)
        else Nx H3) := by
  subst en
  obtain ⟨ou, eo⟩ : ∃ ou : Nat → List V, ou = fun a => (ms.take a).flatMap fun x => (inn x).map (out x) := ⟨_, rfl⟩
  have whole : ou ms.length = ms.flatMap fun x => (inn x).map (out x) := by rw [eo]; simp
  have grow : ∀ a, (ou a).length ≤ (ou ms.length).length := fun a => by
    rw [whole, show ou a = (ms.take a).flatMap fun x => (inn x).map (out x) by rw [eo]]
    have e : ms = ms.take a ++ ms.drop a := (List.take_append_drop a ms).symm
    have : (ms.flatMap fun x => (inn x).map (out x)) = ((ms.take a).flatMap fun x => (inn x).map (out x)) ++ ((ms.drop a).flatMap fun x => (inn x).map (out x)) := by rw [← List.flatMap_append, ← e]
    rw [this, List.length_append]
    omega
  refine ⟨fun a m H => m = ms.length - a ∧ a ≤ ms.length ∧ Same H1 H ∧ H D = some (.lst (ou a)), ⟨ms.length, by simp, Nat.zero_le _, same_new nD, by rw [eo]; exact upd_same⟩, ?_⟩
  rintro a m H ⟨rfl, ha, a4, hD⟩
  by_cases hlt : a < ms.length
  · refine .inr ⟨w.goes a H hlt (hG H a4), fun H' => Same H1 H' ∧ H' D = some (.lst (ou (a + 1))), fun H' p' => ⟨ms.length - (a + 1), by omega, rfl, hlt, p'⟩, fun x H' y => ?_⟩
    obtain ⟨rfl, hx⟩ := w.yields a H x H' hlt (hG H a4) y
    rw [List.getElem?_map] at hx
    obtain ⟨r, hr, rfl⟩ := Option.map_eq_some_iff.mp hx
    have mr := List.mem_of_getElem? hr
    have eout : ou (a + 1) = ou a ++ (inn r).map (out r) := by
      rw [eo]
      show ((ms.take (a + 1)).flatMap _) = _
      rw [take_snoc hr, List.flatMap_append]
      simp
    refine hs r mr H' _ a4 fun σ2 hw ok => ⟨hw, tyes_go ?_⟩
    refine h1 r mr σ2 H' _ ok a4 fun J1 n1 G1 w1 en1 hG1 => ?_
    subst en1
    refine lc2_in w1 (fun q H5 => Same H1 H5 ∧ H5 D = some (.lst (ou a ++ ((inn r).take q).map (out r)))) ⟨a4, by simpa using hD⟩ (fun q H5 _ p => hG1 H5 p.1) (fun q x H5 H6 hq p y => ?_) (fun H5 p => ?_)
    · obtain ⟨rfl, hy⟩ := y
      rw [List.getElem?_map] at hy
      obtain ⟨u, hu, rfl⟩ := Option.map_eq_some_iff.mp hy
      obtain ⟨s5, p2⟩ := p
      have lq : (ou a ++ ((inn r).take q).map (out r)).length < 100000 := by
        have g1 := grow (a + 1)
        rw [whole, eout, List.length_append, List.length_map] at g1
        rw [List.length_append, List.length_map, List.length_take]
        omega
      refine gm _ _ _ _ _ (fun σ3 H3 q => ⟨q.1, tyes_go q.2⟩) (h2 r mr u (List.mem_of_getElem? hu) σ2 H6 _ ok s5 ⟨_, p2, by rw [sizeLine_eq]; omega, fun b o e => ?_, ?_⟩)
      · rw [upd_ne (ne_of_none e nD)]
        exact s5 _ _ e
      · rw [upd_same, take_snoc hu, List.map_append, List.append_assoc]
        rfl
    · obtain ⟨s5, p2⟩ := p
      rw [List.take_length] at p2
      exact ⟨s5, by rw [eout]; exact p2⟩
  · have e : a = ms.length := by omega
    subst e
    exact .inl ⟨w.stops H (hG H a4), hd H a4 (by rw [hD, whole])⟩
theorem flat_few {α β : Type} {ms : List α} {f : α → List β} {a : Nat} (h : ∀ x ∈ ms, (f x).length ≤ a) : (ms.flatMap f).length ≤ ms.length * a := by
  induction ms with
  | nil => simp
  | cons x ms ih =>
    rw [List.flatMap_cons, List.length_append, List.length_cons]
    have h1 := h x List.mem_cons_self
    have h2 := ih fun y m => h y (List.mem_cons_of_mem _ m)
    rw [Nat.add_mul, Nat.one_mul]
    omega
/-! ### errors with one attribute -/
def spXf (C : Addr) (n : Str) : Sp := fun vs H Q _ => ∃ (e : Addr) (y : V), vs = [.ref e, y] ∧ H e = some (exo e C none) ∧ ∀ dx, H dx = none → dx ≠ e → Q .non (upd (upd H dx (exd dx [(n, y)])) e (exo e C (some dx)))
theorem mk_xf {C : Addr} {n : Str} {H H1 : Hp} {Q : XK} {y : V} (s : Same H H1) (k : ∀ (H' : Hp) (d : Addr), Same H H' → H d = none → H' d = some (.xd [(n, y)]) → Q (.ref C) (some d) H') : ∀ a, H1 a = none →
    spXf C n [.ref a, y] (upd H1 a (exo a C none)) (fun v H2 => v = .non ∧ ∃ (d : Addr) (fs : List (Str × V)), H2 a = some (exo a C (some d)) ∧ H2 d = some (exd d fs) ∧ H1 d = none ∧ Q (.ref C) (some d) (upd (del H2 a) d (.xd fs))) (fun _ _ _ => False) := fun a na => by
  refine ⟨a, y, rfl, upd_same, fun dx nd ne => ⟨rfl, dx, [(n, y)], upd_same, ?_, ?_, ?_⟩⟩
  · rw [upd_ne ne, upd_same]
  · rw [upd_ne ne] at nd
    exact nd
  · rw [upd_ne ne] at nd
    have old : ∀ b o, H b = some o → b ≠ a ∧ b ≠ dx := fun b o h => by
      have h1 := s _ _ h
      refine ⟨fun e => ?_, fun e => ?_⟩
      · rw [e, na] at h1
        cases h1
      · rw [e, nd] at h1
        cases h1
    refine k _ dx (fun b o h => ?_) ?_ upd_same
    · obtain ⟨n1, n2⟩ := old b o h
      rw [upd_ne n2, del_ne n1, upd_ne n1, upd_ne n2, upd_ne n1]
      exact s _ _ h
    · cases e : H dx with
      | none => rfl
      | some o =>
        rw [s _ _ e] at nd
        cases nd
abbrev sBPi : Stmt := inClass (top 3) 0
abbrev sLOi : Stmt := inClass (top 6) 0
abbrev sNNi : Stmt := inClass (top 7) 0
section
variable {P : Program} {w : World} {K : PySem.W.Frag} {mg : Str → Option Value} {base : Heap}
theorem scBPi : FnScope ["self", "value"] ["self", "value"] (defScope sBPi) := ⟨rfl, rfl, rfl, by decide +kernel, rfl, by decide +kernel, by decide +kernel⟩
theorem ok_BPi {f C : Addr} {fd : FuncData} (F : Fun K "__init__" "BadPattern.__init__" sBPi f fd) (T : OexC K C) (nl : PySem.W.findIn K (.ref C) "value" = some none) : FnOk P w K mg base CX0 1 f fd ["self", "value"] (spXf C "value") := by
  refine F.ok scBPi (fun vs H Q E h => ?_) (fun cdv A outer s H vs Q E hr h => ?_)
  · obtain ⟨e, n, rfl, _⟩ := h
    rfl
  · obtain ⟨e, n, rfl, he, k⟩ := h
    refine ⟨_, pss_one (ps_ost (pv 0) (pv 1)), ?_⟩
    exact ⟨_, rfl, _, rfl, e, C, rfl, T, nl, .inl ⟨he, fun dx h1 h2 => k dx h1 h2⟩⟩
theorem scLOi : FnScope ["self", "variable"] ["self", "variable"] (defScope sLOi) := ⟨rfl, rfl, rfl, by decide +kernel, rfl, by decide +kernel, by decide +kernel⟩
theorem ok_LOi {f C : Addr} {fd : FuncData} (F : Fun K "__init__" "Loose.__init__" sLOi f fd) (T : OexC K C) (nl : PySem.W.findIn K (.ref C) "variable" = some none) : FnOk P w K mg base CX0 1 f fd ["self", "variable"] (spXf C "variable") := by
  refine F.ok scLOi (fun vs H Q E h => ?_) (fun cdv A outer s H vs Q E hr h => ?_)
  · obtain ⟨e, n, rfl, _⟩ := h
    rfl
  · obtain ⟨e, n, rfl, he, k⟩ := h
    refine ⟨_, pss_one (ps_ost (pv 0) (pv 1)), ?_⟩
    exact ⟨_, rfl, _, rfl, e, C, rfl, T, nl, .inl ⟨he, fun dx h1 h2 => k dx h1 h2⟩⟩
theorem scNNi : FnScope ["self", "index"] ["self", "index"] (defScope sNNi) := ⟨rfl, rfl, rfl, by decide +kernel, rfl, by decide +kernel, by decide +kernel⟩
theorem ok_NNi {f C : Addr} {fd : FuncData} (F : Fun K "__init__" "NothingNew.__init__" sNNi f fd) (T : OexC K C) (nl : PySem.W.findIn K (.ref C) "index" = some none) : FnOk P w K mg base CX0 1 f fd ["self", "index"] (spXf C "index") := by
  refine F.ok scNNi (fun vs H Q E h => ?_) (fun cdv A outer s H vs Q E hr h => ?_)
  · obtain ⟨e, n, rfl, _⟩ := h
    rfl
  · obtain ⟨e, n, rfl, he, k⟩ := h
    refine ⟨_, pss_one (ps_ost (pv 0) (pv 1)), ?_⟩
    exact ⟨_, rfl, _, rfl, e, C, rfl, T, nl, .inl ⟨he, fun dx h1 h2 => k dx h1 h2⟩⟩
end
/-! ### a question -/
structure ClQ (K : PySem.W.Frag) (C : Addr) : Prop where
  cl : Cls K C
  n1 : NoAttr K C "_parents"
  n2 : NoAttr K C "_lots"
  n3 : NoAttr K C "_names"
  n4 : NoAttr K C "_new"
  n5 : NoAttr K C "_children"
  n6 : NoAttr K C "_home"
  n7 : NoAttr K C "_parts"
  n8 : NoAttr K C "_constants"
  n9 : NoAttr K C "_places"
  n10 : NoAttr K C "_having"
  n11 : NoAttr K C "_leads"
  n12 : NoAttr K C "_aims"
  n13 : NoAttr K C "_courses"
structure Qr where
  pt : Addr
  lt : Addr
  nm : Addr
  nw : Addr
  ch : Addr
  hm : Addr
  d1 : Addr
  d2 : Addr
  d3 : Addr
  d4 : Addr
  d5 : Addr
def fsQ (r : Qr) : List (Str × V) := [("_parents", .ref r.pt), ("_lots", .ref r.lt), ("_names", .ref r.nm), ("_new", .ref r.nw), ("_children", .ref r.ch), ("_home", .ref r.hm), ("_parts", .non), ("_constants", .non),
  ("_places", .ref r.d1), ("_having", .ref r.d2), ("_leads", .ref r.d3), ("_aims", .ref r.d4), ("_courses", .ref r.d5)]
/-- the lots of a tree, as tuples -/
structure LotsAt (H : Hp) (lt : Addr) (τ : List Nd) (ls : List (Addr × List Pt)) : Prop where
  tu : H lt = some (.tup (ls.map fun x => V.ref x.1))
  ln : ls.length = τ.length
  ea : ∀ k l, ls[k]? = some l → H l.1 = some (.tup (l.2.map fun x => V.ref x.1)) ∧ (∀ x ∈ l.2, H x.1 = some (.tup (ptV x))) ∧ l.2.map (·.2) = lo τ k
structure ChlAt (H : Hp) (ch : Addr) (ps : List (Option Nat)) (us : List Lk) : Prop where
  tu : H ch = some (.tup (refK us))
  ln : us.length = ps.length
  ea : ∀ k u, us[k]? = some u → H u.1 = some (.tup (intsV u.2)) ∧ u.2 = kids ps k
structure NmsAt (H : Hp) (nm : Addr) (τ : List Nd) (nl : List Lz) : Prop where
  tu : H nm = some (.tup (refZ nl))
  ln : nl.length = τ.length
  ea : ∀ k u, nl[k]? = some u → H u.1 = some (.lst (u.2.map V.str)) ∧ u.2 = nms (lo τ k)
structure NewAt (H : Hp) (nw_ : Addr) (τ : List Nd) (nl : List Lz) : Prop where
  tu : H nw_ = some (.tup (refZ nl))
  ln : nl.length = τ.length
  ea : ∀ k u, nl[k]? = some u → H u.1 = some (.tup (u.2.map V.str)) ∧ u.2 = nw (prs τ) (lo τ) k
/-- a question as it stands -/
structure QAt (C : Addr) (H : Hp) (a : Addr) (τ : List Nd) : Prop where
  ex : ∃ (dx : Addr) (r : Qr) (ls : List (Addr × List Pt)) (nl ul : List Lz) (us : List Lk) (kvs : List (L2.Key × V)), H a = some (.ins C dx (fsQ r)) ∧ H r.pt = some (.tup ((prs τ).map pV)) ∧ LotsAt H r.lt τ ls ∧ NmsAt H r.nm τ nl ∧ NewAt H r.nw τ ul ∧ ChlAt H r.ch (prs τ) us ∧ H r.hm = some (.dK kvs) ∧
    H r.d1 = some (.dK []) ∧ H r.d2 = some (.dK []) ∧ H r.d3 = some (.dK []) ∧ H r.d4 = some (.dK []) ∧ H r.d5 = some (.dK [])
theorem LotsAt.same {H H' : Hp} (s : Same H H') {lt : Addr} {τ : List Nd} {ls : List (Addr × List Pt)} (h : LotsAt H lt τ ls) : LotsAt H' lt τ ls := ⟨s _ _ h.tu, h.ln, fun k l e => let ⟨a, b, c⟩ := h.ea k l e; ⟨s _ _ a, fun x m => s _ _ (b x m), c⟩⟩
theorem ChlAt.same {H H' : Hp} (s : Same H H') {ch : Addr} {ps : List (Option Nat)} {us : List Lk} (h : ChlAt H ch ps us) : ChlAt H' ch ps us := ⟨s _ _ h.tu, h.ln, fun k l e => let ⟨a, c⟩ := h.ea k l e; ⟨s _ _ a, c⟩⟩
theorem NmsAt.same {H H' : Hp} (s : Same H H') {a : Addr} {τ : List Nd} {us : List Lz} (h : NmsAt H a τ us) : NmsAt H' a τ us := ⟨s _ _ h.tu, h.ln, fun k l e => let ⟨a, c⟩ := h.ea k l e; ⟨s _ _ a, c⟩⟩
theorem NewAt.same {H H' : Hp} (s : Same H H') {a : Addr} {τ : List Nd} {us : List Lz} (h : NewAt H a τ us) : NewAt H' a τ us := ⟨s _ _ h.tu, h.ln, fun k l e => let ⟨a, c⟩ := h.ea k l e; ⟨s _ _ a, c⟩⟩
theorem QAt.same {C : Addr} {H H' : Hp} (s : Same H H') {a : Addr} {τ : List Nd} (h : QAt C H a τ) : QAt C H' a τ := by
  obtain ⟨dx, r, ls, nl, ul, us, kvs, h1, h2, h3, h4, h5, h6, h7, h8, h9, h10, h11, h12⟩ := h.ex
  exact ⟨dx, r, ls, nl, ul, us, kvs, s _ _ h1, s _ _ h2, h3.same s, h4.same s, h5.same s, h6.same s, s _ _ h7, s _ _ h8, s _ _ h9, s _ _ h10, s _ _ h11, s _ _ h12⟩
/-- what is handed in, as a tree: the lots ascend -/
def trO (x : Nx) : Nd := (x.p, nrm ((x.os.filterMap id).map (·.2)))
def spInitQ (C BP LO NN : Addr) : Sp := fun vs H Q E => ∃ (p dx N : Addr) (xs : List Nx), vs = [.ref p, .ref N] ∧ H p = some (.ins C dx []) ∧ NodesAt H N xs ∧ 0 < xs.length ∧ xs.length ≤ 16 ∧ Wf (xs.map (·.p)) ∧ (∀ x ∈ xs, x.os.length ≤ 20 ∧ ∀ y, some y ∈ x.os → Fct y.2) ∧
  (∀ (H' : Hp) (d c : Addr), Keep p H H' → (c = BP ∧ (∃ x ∈ xs, none ∈ x.os) ∨ (c = LO ∨ c = NN) ∧ (∀ x ∈ xs, none ∉ x.os) ∧ ¬ Good (xs.map (·.p)) (lo (xs.map trO))) → E (.ref c) (some d) H') ∧
  ((∀ x ∈ xs, none ∉ x.os) → Good (xs.map (·.p)) (lo (xs.map trO)) → ∀ H', Keep p H H' → QAt C H' p (xs.map trO) → Q .non H')
theorem prs_tr (xs : List Nx) : prs (xs.map trO) = xs.map (·.p) := by
  unfold prs
  rw [List.map_map]
  rfl
end L2.LawH
set_option Elab.async false
set_option linter.all false
set_option maxRecDepth 100000
set_option maxHeartbeats 4000000
/-! The dict of the homes; when it is as long as the new variables. -/
namespace L2.LawH
open PySem PySem.Spec PyProof.Rows L2.TxtSet TL L2.NSet PySem.W L2.Cmp L2.Rws L2.ZipL
theorem uniq_full : ∀ l : List Str, (uniq l).length = l.length → l.Nodup := by
  intro l
  have key : ∀ n (l : List Str), l.length = n → (uniq l).length = l.length → l.Nodup := by
    intro n
    induction n with
    | zero =>
      intro l hl _
      rw [List.length_eq_zero_iff.mp hl]
      exact List.nodup_nil
    | succ n ih =>
      intro l hl h
      rcases List.eq_nil_or_concat l with rfl | ⟨m, z, rfl⟩
      · exact List.nodup_nil
      · rw [List.concat_eq_append] at hl h ⊢
        rw [uniq_snoc, List.length_append, List.length_singleton] at h
        rw [List.length_append, List.length_singleton] at hl
        have lm := uniq_len m
        unfold put1 at h
        by_cases c : z ∈ uniq m
        · rw [if_pos c] at h
          omega
        · rw [if_neg c, List.length_append, List.length_singleton] at h
          refine List.nodup_append.mpr ⟨ih m (by omega) (by omega), by simp, fun a ha b hb e => ?_⟩
          rw [List.mem_singleton.mp hb] at e
          exact c (uniq_mem.mpr (e ▸ ha))
  exact key _ l rfl
theorem uniq_lt (l : List Str) : (uniq l).length < l.length ↔ ¬ l.Nodup := by
  have h := uniq_len l
  constructor
  · intro a nd
    have := nodup_len l (uniq l) nd fun x hx => uniq_mem.mpr hx
    omega
  · intro nd
    rcases Nat.lt_or_eq_of_le h with a | a
    · exact a
    · exact absurd (uniq_full l a) nd
theorem new_one {ps : List (Option Nat)} {l : Nat → List Fc} {us : List Lz} (ln : us.length = ps.length) (ea : ∀ k u, us[k]? = some u → u.2 = nw ps l k) :
    (us.flatMap fun u => u.2).Nodup ↔ ∀ i j, i ≠ j → i < ps.length → j < ps.length → ∀ z, z ∈ nw ps l i → z ∉ nw ps l j := by
  have at_ : ∀ i (h : i < us.length), us[i].2 = nw ps l i := fun i h => ea i _ (List.getElem?_eq_getElem h)
  rw [List.nodup_iff_pairwise_ne, List.pairwise_flatMap]
  constructor
  · rintro ⟨_, pw⟩ i j ne hi hj z hz hz'
    have pw := List.pairwise_iff_getElem.mp pw
    rcases Nat.lt_or_gt_of_ne ne with h | h
    · exact pw i j (by omega) (by omega) h z (by rw [at_]; exact hz) z (by rw [at_]; exact hz') rfl
    · exact pw j i (by omega) (by omega) h z (by rw [at_]; exact hz') z (by rw [at_]; exact hz) rfl
  · intro h
    refine ⟨fun u hu => ?_, List.pairwise_iff_getElem.mpr fun i j hi hj lt x hx y hy e => ?_⟩
    · obtain ⟨k, hk⟩ := List.mem_iff_getElem?.mp hu
      rw [ea k u hk]
      exact List.nodup_iff_pairwise_ne.mp (nw_nodup _ _ _)
    · subst e
      rw [at_] at hx hy
      exact h i j (by omega) (by omega) (by omega) x hx hy
/-- enumerate over a tuple, in a comprehension of any kind -/
theorem walk_enumR {K : PySem.W.Frag} {a : Addr} {xs : List V} {g : TG} {tt : TT} {ta : TAc} {vs : List Nat} {σ : List (Option V)} {H0 : Hp} {Done : Hp → Prop} (Pv : Nat → Hp → Prop) (h0 : Pv 0 H0) (hl : ∀ i H, i ≤ xs.length → Pv i H → SqT K H a xs)
    (hs : ∀ (i : Nat) (x : V) (T : Addr) (H : Hp), xs[i]? = some x → Pv i H → H T = none → g (.ref T) (wipe σ vs) (upd H T (.tup [.int (i : Nat), x])) fun σ2 H2 => wipe σ2 vs = wipe σ vs ∧ tt σ2 H2 fun b H3 => if b = true then ta σ2 H3 (Pv (i + 1)) else Pv (i + 1) H3)
    (hd : ∀ H, Pv xs.length H → Done H) : L2.Cmp.Walk (IteT K a) g tt ta vs σ Done H0 := by
  refine ⟨fun i m H => m = xs.length - i ∧ i ≤ xs.length ∧ Pv i H, ⟨xs.length, rfl, Nat.zero_le _, h0⟩, ?_⟩
  rintro i m H ⟨rfl, hi, p⟩
  rcases Nat.lt_or_eq_of_le hi with lt | rfl
  · refine .inr ⟨(walk_enumT (K := K) (a := a) (xs := xs)).goes i H lt (hl i H hi p), Pv (i + 1), fun H' p' => ⟨xs.length - (i + 1), by omega, rfl, lt, p'⟩, fun v H' y => ?_⟩
    obtain ⟨T, x, z, rfl, nT, rfl, ex, ez⟩ := (walk_enumT (K := K) (a := a) (xs := xs)).yields i H v H' lt (hl i H hi p) y
    obtain rfl : x = .int (i : Nat) := (Option.some.inj ex).symm
    exact hs i z T H ez p nT
  · exact .inl ⟨(walk_enumT (K := K) (a := a) (xs := xs)).stops H (hl _ H hi p), hd H p⟩
theorem putK_in {kvs : List (L2.Key × V)} {k : L2.Key} (v : V) (m : k ∈ kvs.map (·.1)) : (putK kvs k v).map (·.1) = kvs.map (·.1) := by
  unfold putK
  have c : (kvs.any fun kv => decide (kv.1 = k)) = true := by
    obtain ⟨x, hx, e⟩ := List.mem_map.mp m
    exact List.any_eq_true.mpr ⟨x, hx, decide_eq_true e⟩
  rw [if_pos c, List.map_map]
  refine List.map_congr_left fun x _ => ?_
  show (if x.1 = k then (x.1, v) else x).1 = x.1
  by_cases e : x.1 = k
  · rw [if_pos e]
  · rw [if_neg e]
theorem putK_out {kvs : List (L2.Key × V)} {k : L2.Key} (v : V) (m : k ∉ kvs.map (·.1)) : (putK kvs k v).map (·.1) = kvs.map (·.1) ++ [k] := by
  unfold putK
  have c : ¬ (kvs.any fun kv => decide (kv.1 = k)) = true := fun c => by
    obtain ⟨x, hx, e⟩ := List.any_eq_true.mp c
    exact m (List.mem_map.mpr ⟨x, hx, of_decide_eq_true e⟩)
  rw [if_neg c, List.map_append]
  rfl
theorem mem_inr {z : Str} {l : List Str} : (Sum.inr z : L2.Key) ∈ l.map Sum.inr ↔ z ∈ l :=
  ⟨fun h => let ⟨y, hy, e⟩ := List.mem_map.mp h; (Sum.inr.inj e) ▸ hy, fun h => List.mem_map_of_mem h⟩
theorem home_go {K : PySem.W.Frag} {H1 : Hp} {W D : Addr} {us : List Lz} {i7 i8 i9 : Nat} {σ : List (Option V)} {Qd : Hp → Prop} (hW : H1 W = some (.tup (refZ us))) (each : ∀ u ∈ us, H1 u.1 = some (.tup (u.2.map V.str))) (few : (us.flatMap fun u => u.2).length ≤ 100000) (nD : H1 D = none)
    (l7 : i7 < σ.length) (l8 : i8 < σ.length) (l9 : i9 < σ.length) (n78 : i7 ≠ i8) (n79 : i7 ≠ i9) (n89 : i8 ≠ i9)
    (hd : ∀ H' kvs, Same H1 H' → H' D = some (.dK kvs) → kvs.map (·.1) = (uniq (us.flatMap fun u => u.2)).map Sum.inr → Qd H') :
    L2.Cmp.Walk (IteT K W) (gTup K 2 (gCons (gName i7) (gCons (gName i8) gNil))) tYes (fun σ2 H2 C => iTup K (tVar i8) σ2 H2 fun J1 H3 => L2.Cmp.Walk J1 (gName i9) tYes (tPut (tVar i9) (tVar i7) D) [i9] σ2 C H3) [i7, i8, i9] σ Qd (upd H1 D (.dK [])) := by
  refine walk_enumR (xs := refZ us) (fun i H5 => Same H1 H5 ∧ ∃ kvs, H5 D = some (.dK kvs) ∧ kvs.map (·.1) = (uniq ((us.take i).flatMap fun u => u.2)).map Sum.inr) ⟨same_new nD, [], upd_same, rfl⟩ (fun i H hi p => SqT.of (p.1 _ _ hW)) (fun i x T H5 hx pp nT => ?_) (fun H5 pp => ?_)
  · obtain ⟨s5, kvs, hD, ek⟩ := pp
    rw [List.getElem?_map] at hx
    obtain ⟨u, hu, rfl⟩ := Option.map_eq_some_iff.mp hx
    have mu := List.mem_of_getElem? hu
    have s6 : Same H5 (upd H5 T (.tup [.int (i : Nat), .ref u.1])) := same_new nT
    have c6 : (upd H5 T (.tup [.int (i : Nat), .ref u.1])) T = some (.tup [.int (i : Nat), .ref u.1]) := upd_same
    have TD : T ≠ D := fun e => by rw [e, hD] at nT; cases nT
    have hD6 := s6 _ _ hD
    generalize upd H5 T (.tup [.int (i : Nat), .ref u.1]) = H6 at s6 c6 hD6 ⊢
    refine ⟨T, _, rfl, SqT.of c6, rfl, _, _, rfl, _, _, rfl, rfl, ?_⟩
    have ln : ∀ (a b : V), (((wipe σ [i7, i8, i9]).set i7 (some a)).set i8 (some b)).length = σ.length := fun a b => by
      rw [List.length_set, List.length_set, wipe_length]
    refine ⟨?_, ?_⟩
    · show ((((((wipe σ [i7, i8, i9]).set i7 _).set i8 _).set i9 none).set i8 none).set i7 none) = ((σ.set i9 none).set i8 none).set i7 none
      refine List.ext_getElem? fun j => ?_
      simp only [wipe, List.getElem?_set, List.length_set]
      by_cases a7 : i7 = j
      · subst a7
        simp [l7]
      · by_cases a8 : i8 = j
        · subst a8
          simp [a7, l8]
        · by_cases a9 : i9 = j
          · subst a9
            simp [a7, a8, l9]
          · simp [a7, a8, a9]
    refine tyes_go ?_
    refine ⟨_, ?_, u.1, rfl, ⟨_, SqT.of (s6 _ _ (s5 _ _ (each u mu)))⟩, ?_⟩
    · rw [List.getElem?_set_self (by rw [List.length_set, wipe_length]; exact l8)]
    have s16 := s5.trans s6
    refine L2.LawH.walk_tup (xs := u.2.map V.str) _ _ _ _ _ _ _ (fun j H7 => Same H1 H7 ∧ ∃ kvs, H7 D = some (.dK kvs) ∧ kvs.map (·.1) = (uniq (((us.take i).flatMap fun u => u.2) ++ u.2.take j)).map Sum.inr) ⟨s16, kvs, hD6, by simpa using ek⟩ (fun j H7 hj p => SqT.of (p.1 _ _ (each u mu))) (fun j x H7 hx p => ?_) (fun H7 p => ?_)
    · obtain ⟨s7, kvs7, hD7, ek7⟩ := p
      rw [List.getElem?_map] at hx
      obtain ⟨z, hz, rfl⟩ := Option.map_eq_some_iff.mp hx
      refine ⟨?_, tyes_go ?_⟩
      · show (List.set (List.set _ i9 none) i9 (some (V.str z))).set i9 none = List.set _ i9 none
        rw [List.set_set, List.set_set]
      · refine ⟨.str z, ?_, .int (i : Nat), ?_, kvs7, Sum.inr z, rfl, hD7, ?_, ?_, ?_⟩
        · show (List.set (List.set _ i9 none) i9 (some (V.str z)))[i9]? = some (some (V.str z))
          rw [List.getElem?_set_self]
          rw [List.length_set, wipe_length, ln]
          exact l9
        · show (List.set (List.set (List.set (List.set _ i7 _) i8 _) i9 none) i9 (some (V.str z)))[i7]? = some (some (V.int (i : Nat)))
          rw [List.getElem?_set_ne (Ne.symm n79), List.getElem?_set_ne (Ne.symm n79), List.getElem?_set_ne (Ne.symm n78), List.getElem?_set_self (by rw [wipe_length]; exact l7)]
        · have e1 := congrArg List.length ek7
          rw [List.length_map, List.length_map] at e1
          have e2 := uniq_len (((us.take i).flatMap fun u => u.2) ++ u.2.take j)
          have e3 : (((us.take i).flatMap fun u => u.2) ++ u.2.take j).length ≤ (us.flatMap fun u => u.2).length := by
            have e4 : us = us.take i ++ us.drop i := (List.take_append_drop i us).symm
            have e5 : us.drop i = u :: us.drop (i + 1) := by
              have lt := (List.getElem?_eq_some_iff.mp hu)
              rw [List.drop_eq_getElem_cons lt.1, lt.2]
            have e6 : (us.flatMap fun u => u.2) = ((us.take i).flatMap fun u => u.2) ++ (u.2 ++ (us.drop (i + 1)).flatMap fun u => u.2) := by
              conv => lhs; rw [e4, e5]
              rw [List.flatMap_append, List.flatMap_cons]
            rw [e6]
            simp only [List.length_append, List.length_take]
            omega
          rw [sizeLine_eq]
          omega
        · intro b o e
          have := s7 _ _ e
          by_cases c : b = D
          · rw [c, nD] at e
            cases e
          · rw [upd_ne c]
            exact this
        · refine ⟨_, upd_same, ?_⟩
          rw [take_snoc hz, ← List.append_assoc, uniq_snoc]
          unfold put1
          by_cases c : z ∈ uniq (((us.take i).flatMap fun u => u.2) ++ u.2.take j)
          · rw [if_pos c, putK_in _ (by rw [ek7]; exact mem_inr.mpr c), ek7]
          · rw [if_neg c, putK_out _ (by rw [ek7]; exact fun m => c (mem_inr.mp m)), ek7, List.map_append]
            rfl
    · obtain ⟨s7, kvs7, hD7, ek7⟩ := p
      refine ⟨s7, kvs7, hD7, ?_⟩
      rw [ek7, take_snoc hu, List.flatMap_append, List.length_map, List.take_length]
      simp
  · obtain ⟨s5, kvs, hD, ek⟩ := pp
    refine hd H5 kvs s5 hD ?_
    rw [ek, List.length_map, List.take_length]
end L2.LawH
set_option Elab.async false
set_option linter.all false
set_option maxRecDepth 100000
set_option maxHeartbeats 4000000
/-! Question.__init__. -/
namespace L2.LawH
open PySem PySem.Spec PyProof.Rows L2.TxtSet TL L2.NSet PySem.W L2.Cmp L2.Rws L2.ZipL L2.ExcN
abbrev sInitQ : Stmt := inClass (top 30) 0
section
variable {P : Program} {w : World} {K : PySem.W.Frag} {mg : Str → Option Value} {base : Heap}
theorem call_len_seqK {X : Cx} {K : PySem.W.Frag} (e : X.K = K) : CallR X (.builtin "len") (fun xs H Q => ∃ p ys, xs = [V.ref p] ∧ (SqL K H p ys ∨ SqT K H p ys) ∧ Q (.int ys.length) H) := by
  subst e
  exact call_len_seq
theorem wo_tup {p b C dx : Addr} {G : Hp} {fs : List (Str × V)} {l : List V} (hp : G p = some (.ins C dx fs)) (h : G b = some (.tup l)) : Wo p G b = some (.tup l) := wo_new h fun e => by
  rw [e, hp] at h
  cases h
theorem wo_lst {p b C dx : Addr} {G : Hp} {fs : List (Str × V)} {l : List V} (hp : G p = some (.ins C dx fs)) (h : G b = some (.lst l)) : Wo p G b = some (.lst l) := wo_new h fun e => by
  rw [e, hp] at h
  cases h
theorem wo_dk {p b C dx : Addr} {G : Hp} {fs : List (Str × V)} {l : List (L2.Key × V)} (hp : G p = some (.ins C dx fs)) (h : G b = some (.dK l)) : Wo p G b = some (.dK l) := wo_new h fun e => by
  rw [e, hp] at h
  cases h
theorem Sq.wo {p b C dx : Addr} {G : Hp} {fs : List (Str × V)} {l : List V} (hp : G p = some (.ins C dx fs)) (h : Sq G b l) : Sq (Wo p G) b l := h.imp (wo_lst hp) (wo_tup hp)
theorem NodesAt.wo {p N C dx : Addr} {G : Hp} {fs : List (Str × V)} {xs : List Nx} (hp : G p = some (.ins C dx fs)) (h : NodesAt G N xs) : NodesAt (Wo p G) N xs :=
  ⟨h.sq.wo hp, fun x m => ⟨wo_tup hp (h.ea x m).tu, (h.ea x m).li.wo hp, fun y hy => wo_tup hp ((h.ea x m).ea y hy)⟩⟩
theorem LotsAt.wo {p lt C dx : Addr} {G : Hp} {fs : List (Str × V)} {τ : List Nd} {ls : List (Addr × List Pt)} (hp : G p = some (.ins C dx fs)) (h : LotsAt G lt τ ls) : LotsAt (Wo p G) lt τ ls :=
  ⟨wo_tup hp h.tu, h.ln, fun k l e => let ⟨a, b, c⟩ := h.ea k l e; ⟨wo_tup hp a, fun x m => wo_tup hp (b x m), c⟩⟩
theorem NmsAt.wo {p lt C dx : Addr} {G : Hp} {fs : List (Str × V)} {τ : List Nd} {ls : List Lz} (hp : G p = some (.ins C dx fs)) (h : NmsAt G lt τ ls) : NmsAt (Wo p G) lt τ ls :=
  ⟨wo_tup hp h.tu, h.ln, fun k l e => let ⟨a, b⟩ := h.ea k l e; ⟨wo_lst hp a, b⟩⟩
theorem NewAt.wo {p lt C dx : Addr} {G : Hp} {fs : List (Str × V)} {τ : List Nd} {ls : List Lz} (hp : G p = some (.ins C dx fs)) (h : NewAt G lt τ ls) : NewAt (Wo p G) lt τ ls :=
  ⟨wo_tup hp h.tu, h.ln, fun k l e => let ⟨a, b⟩ := h.ea k l e; ⟨wo_tup hp a, b⟩⟩
theorem ChlAt.wo {p lt C dx : Addr} {G : Hp} {fs : List (Str × V)} {ps : List (Option Nat)} {ls : List Lk} (hp : G p = some (.ins C dx fs)) (h : ChlAt G lt ps ls) : ChlAt (Wo p G) lt ps ls :=
  ⟨wo_tup hp h.tu, h.ln, fun k l e => let ⟨a, b⟩ := h.ea k l e; ⟨wo_tup hp a, b⟩⟩
/-- after a store -/
theorem put_wo {p : Addr} {G : Hp} {X : HO} : Same (Wo p G) (Wo p (upd G p X)) ∧ (upd G p X) p = some X := ⟨wo_upd, upd_same⟩
theorem keep_wo {p : Addr} {G G' : Hp} (s : Same (Wo p G) (Wo p G')) : Keep p G G' := fun b o e ne => wo_le _ _ (s _ _ (wo_new e ne))
theorem Same.sq {G G' : Hp} (s : Same G G') {a : Addr} {l : List V} (h : Sq G a l) : Sq G' a l := h.same s
theorem lo_tr {xs : List Nx} {k : Nat} {n : Nx} (h : xs[k]? = some n) : lo (xs.map trO) k = nrm ((n.os.filterMap id).map (·.2)) := by
  rw [lo_at (x := trO n) (by rw [List.getElem?_map, h]; rfl)]
  rfl
theorem some_filter : ∀ ys : List Pt, (ys.map some).filterMap id = ys
  | [] => rfl
  | y :: ys => by
    have ih := some_filter ys
    rw [List.map_cons, List.filterMap_cons, ih]
    rfl
theorem none_free : ∀ {os : List (Option Pt)}, none ∉ os → ∃ ys : List Pt, os = ys.map some
  | [], _ => ⟨[], rfl⟩
  | none :: os, h => absurd List.mem_cons_self h
  | some y :: os, h => by
    obtain ⟨ys, e⟩ := none_free (os := os) fun m => h (List.mem_cons_of_mem _ m)
    exact ⟨y :: ys, by rw [List.map_cons, e]⟩
theorem lo_ok {xs : List Nx} (fo : ∀ x ∈ xs, x.os.length ≤ 20 ∧ ∀ y, some y ∈ x.os → Fct y.2) (k : Nat) : (lo (xs.map trO) k).length ≤ 20 ∧ (∀ c ∈ lo (xs.map trO) k, Fct c) ∧ (vrs (lo (xs.map trO) k)).length ≤ 60 := by
  have key : (lo (xs.map trO) k).length ≤ 20 ∧ ∀ c ∈ lo (xs.map trO) k, Fct c := by
    cases e : xs[k]? with
    | none =>
      have : lo (xs.map trO) k = [] := by
        unfold lo
        rw [List.getElem?_map, e]
        rfl
      rw [this]
      exact ⟨by simp, fun _ m => nomatch m⟩
    | some n =>
      have mn := List.mem_of_getElem? e
      rw [lo_tr e]
      refine ⟨Nat.le_trans (nrm_len _) ?_, fun c hc => ?_⟩
      · rw [List.length_map]
        exact Nat.le_trans (List.length_filterMap_le _ _) (fo n mn).1
      · obtain ⟨y, hy, rfl⟩ := List.mem_map.mp (nrm_mem.mp hc)
        obtain ⟨o, ho, e2⟩ := List.mem_filterMap.mp hy
        have : o = some y := e2
        rw [this] at ho
        exact (fo n mn).2 y ho
  refine ⟨key.1, key.2, ?_⟩
  unfold vrs
  refine Nat.le_trans (List.length_filter_le _ _) (Nat.le_trans (flat_few (a := 3) fun c hc => (key.2 c hc).l3) ?_)
  have := key.1
  omega
abbrev nInitQ : List Str := ["self", "nodes", "_", "patterns", "value", "parent", "lot", "node", "names", "name", "index"]
theorem scInitQ : FnScope nInitQ ["self", "nodes"] (defScope sInitQ) := ⟨rfl, rfl, rfl, by decide +kernel, rfl, by decide +kernel, by decide +kernel⟩
theorem ok_initQ {f fA fP fV fN fC fT fBP fLO fNN C BN BP LO NN : Addr} {fd fdA fdP fdV fdN fdC fdT fdBP fdLO fdNN : FuncData} (F : Fun K "__init__" "Question.__init__" sInitQ f fd) (T : ClQ K C)
    (GA : FnOk P w K mg base CX0 3 fA fdA ["value"] spAreN) (kA : PySem.W.keepIn K (.ref fA) = true) (bA : Binds K fdA ["value"] []) (mA : mg "are_nodes" = some (.ref fA))
    (GP : FnOk P w K mg base CX0 3 fP fdP ["value"] (spIsP K patB)) (kP : PySem.W.keepIn K (.ref fP) = true) (bP : Binds K fdP ["value"] []) (mP : mg "is_pattern" = some (.ref fP))
    (GV : FnOk P w K mg base CX0 2 fV fdV ["lot"] spVars) (kV : PySem.W.keepIn K (.ref fV) = true) (bV : Binds K fdV ["lot"] []) (mV : mg "variables_of" = some (.ref fV))
    (GN : FnOk P w K mg base CX0 1 fN fdN ["parents", "names"] spNewN) (kN : PySem.W.keepIn K (.ref fN) = true) (bN : Binds K fdN ["parents", "names"] []) (mN : mg "new_names" = some (.ref fN))
    (GC : FnOk P w K mg base CX0 1 fC fdC ["parents"] spChil) (kC : PySem.W.keepIn K (.ref fC) = true) (bC : Binds K fdC ["parents"] []) (mC : mg "children_of" = some (.ref fC))
    (GT : FnOk P w K mg base CX0 1 fT fdT ["names"] (spFTw K)) (kT : PySem.W.keepIn K (.ref fT) = true) (bT : Binds K fdT ["names"] []) (mT : mg "first_twice" = some (.ref fT))
    (TBP : OexC K BP) (iBP : PySem.W.findIn K (.ref BP) "__init__" = some (some (.ref fBP))) (tBP : PySem.W.typeIn K (.ref fBP) = some (.type "function")) (GBP : FnOk P w K mg base CX0 1 fBP fdBP ["self", "value"] (spXf BP "value")) (bBP : Binds K fdBP ["self", "value"] []) (mBP : mg "BadPattern" = some (.ref BP))
    (TLO : OexC K LO) (iLO : PySem.W.findIn K (.ref LO) "__init__" = some (some (.ref fLO))) (tLO : PySem.W.typeIn K (.ref fLO) = some (.type "function")) (GLO : FnOk P w K mg base CX0 1 fLO fdLO ["self", "variable"] (spXf LO "variable")) (bLO : Binds K fdLO ["self", "variable"] []) (mLO : mg "Loose" = some (.ref LO))
    (TNN : OexC K NN) (iNN : PySem.W.findIn K (.ref NN) "__init__" = some (some (.ref fNN))) (tNN : PySem.W.typeIn K (.ref fNN) = some (.type "function")) (GNN : FnOk P w K mg base CX0 1 fNN fdNN ["self", "index"] (spXf NN "index")) (bNN : Binds K fdNN ["self", "index"] []) (mNN : mg "NothingNew" = some (.ref NN))
    (me : mg "enumerate" = none) (mt : mg "tuple" = none) (ms : mg "sorted" = none) (mS : mg "set" = none) (ml : mg "len" = none) (msu : mg "sum" = none) :
    FnOk P w K mg base (L2N.CX P w) 4 f fd ["self", "nodes"] (spInitQ C BP LO NN) := by
  refine okN F scInitQ (fun vs H Q E h => ?_) (fun cdv A outer s H vs Q E hr h => ?_)
  · obtain ⟨_, _, _, _, rfl, _⟩ := h
    rfl
  · obtain ⟨p, dx, N, xs, rfl, hp, hN, l0, l40, wf, fo, kE, kQ⟩ := h
    have hr1 : Room 1 _ := hr.mono (by decide)
    have hr2 : Room 2 _ := hr.mono (by decide)
    have hu := hr.units
    refine ⟨_, pss_cons (ps_if (pt_not (pt_val (pe_call GA hr (by rfl) mA kA bA .nil pass0 (pa_cons (pv 1) pa_nil)))) (pss_one ps_never) pss_nil)
      (pss_cons (ps_for (passes_of rfl) rfl (pi_seq (pv 1)) (pg_tup (by rfl) (pgs_cons (pg_name (i := 2) scInitQ.nd rfl (Or.inl rfl)) (pgs_cons (pg_name (i := 3) scInitQ.nd rfl (Or.inl rfl)) pgs_nil)))
        (pss_one (ps_for (passes_of rfl) rfl (pi_seq (pv 3)) (pg_name (i := 4) scInitQ.nd rfl (Or.inl rfl))
          (pss_one (ps_if (pt_not (pt_val (pe_call GP hr (by rfl) mP kP bP .nil pass0 (pa_cons (pv 4) pa_nil)))) (pss_one (L2N.ps_raise rfl (L2N.takes_of rfl rfl rfl rfl) (pmk_oexN TBP iBP tBP GBP hr2 bBP .nil pass0 (by rfl) mBP (pa_cons (pv 4) pa_nil)))) pss_nil)))))
      (pss_cons (ps_fld (pv 0) (pe_callTy call_tuple_of (by rfl) mt (by decide +kernel) (pa_cons (pe_lc (own := [("parent", 5), ("_", 2)]) (g := gTup K 2 (gCons (gName 5) (gCons (gName 2) gNil))) (tt := tYes) rfl scInitQ.nd (pi_seq (pv 1))
          (blkOk_by (own := [("parent", 5), ("_", 2)]) (N := nInitQ) (sc := defScope sInitQ) (by decide +kernel)) (fun _ _ _ _ _ => pg_tup (by rfl) (pgs_cons (pg_name (i := 5) scInitQ.nd rfl (Or.inl rfl)) (pgs_cons (pg_name (i := 2) scInitQ.nd rfl (Or.inl rfl)) pgs_nil))) (fun _ _ _ _ _ => pts_nil)
          (fun _ _ _ _ _ => pv 5)) pa_nil)) rfl)
      (pss_cons (ps_fld (pv 0) (pe_callTy call_tuple_of (by rfl) mt (by decide +kernel) (pa_cons (pe_lc (own := [("_", 2), ("patterns", 3)]) (g := gTup K 2 (gCons (gName 2) (gCons (gName 3) gNil))) (tt := tYes) rfl scInitQ.nd (pi_seq (pv 1))
          (blkOk_by (own := [("_", 2), ("patterns", 3)]) (N := nInitQ) (sc := defScope sInitQ) (by decide +kernel)) (fun _ _ _ _ _ => pg_tup (by rfl) (pgs_cons (pg_name (i := 2) scInitQ.nd rfl (Or.inl rfl)) (pgs_cons (pg_name (i := 3) scInitQ.nd rfl (Or.inl rfl)) pgs_nil))) (fun _ _ _ _ _ => pts_nil)
          (fun _ _ _ _ _ => pe_callTy (call_tuple_ofK (K := K) rfl) (by rfl) mt (by decide +kernel) (pa_cons (pe_callB (cr_sortNK (K := K) (P := P) (w := w) rfl rfl rfl rfl hu) (by rfl) ms (by decide +kernel) (pa_cons (pe_callTy (cr_setNK (K := K) (P := P) (w := w) rfl rfl rfl rfl hu) (by rfl) mS (by decide +kernel) (pa_cons (pv 3) pa_nil)) pa_nil)) pa_nil))) pa_nil)) rfl)
      (pss_cons (ps_fld (pv 0) (pe_callTy call_tuple_of (by rfl) mt (by decide +kernel) (pa_cons (pe_lc (own := [("lot", 6)]) (g := gName 6) (tt := tYes) rfl scInitQ.nd (pi_tup (pe_fld (pv 0) rfl))
          (blkOk_by (own := [("lot", 6)]) (N := nInitQ) (sc := defScope sInitQ) (by decide +kernel)) (fun _ _ _ _ _ => pg_name (i := 6) scInitQ.nd rfl (Or.inl rfl)) (fun _ _ _ _ _ => pts_nil)
          (fun _ _ _ _ _ => pe_call GV hr2 (by rfl) mV kV bV .nil pass0 (pa_cons (pv 6) pa_nil))) pa_nil)) rfl)
      (pss_cons (ps_fld (pv 0) (pe_callTy call_tuple_of (by rfl) mt (by decide +kernel) (pa_cons (pe_call GN hr1 (by rfl) mN kN bN .nil pass0 (pa_cons (pe_fld (pv 0) rfl) (pa_cons (pe_fld (pv 0) rfl) pa_nil))) pa_nil)) rfl)
      (pss_cons (ps_fld (pv 0) (pe_callTy call_tuple_of (by rfl) mt (by decide +kernel) (pa_cons (pe_call GC hr1 (by rfl) mC kC bC .nil pass0 (pa_cons (pe_fld (pv 0) rfl) pa_nil)) pa_nil)) rfl)
      (pss_cons (ps_fld (pv 0) (pe_dict2 (own := [("node", 7), ("names", 8), ("name", 9)]) (vs1 := [9]) (g := gTup K 2 (gCons (gName 7) (gCons (gName 8) gNil))) (g1 := gName 9) (tt := tYes) (tt1 := tYes) rfl scInitQ.nd (pi_enumS (by rfl) me (pa_cons (pe_fld (pv 0) rfl) pa_nil))
          (blkOk_by (own := [("node", 7), ("names", 8), ("name", 9)]) (N := nInitQ) (sc := defScope sInitQ) (by decide +kernel)) (by decide)
          (fun _ _ _ _ _ => pg_tup (by rfl) (pgs_cons (pg_name (i := 7) scInitQ.nd rfl (Or.inl rfl)) (pgs_cons (pg_name (i := 8) scInitQ.nd rfl (Or.inl rfl)) pgs_nil))) (fun _ _ _ _ _ => pts_nil)
          (fun _ _ _ _ _ => pi_tupK (K := K) rfl (pv 8)) (fun _ _ _ _ _ => pg_name (i := 9) scInitQ.nd rfl (Or.inl rfl)) (fun _ _ _ _ _ => pts_nil) (fun _ _ _ _ _ => pv 9) (fun _ _ _ _ _ => pv 7)) rfl)
      (pss_cons (ps_if (pt_cmpR op_lt (pe_callB call_lenD (by rfl) ml (by decide +kernel) (pa_cons (pe_fld (pv 0) rfl) pa_nil)) (pe_callB (cr_sum rfl) (by rfl) msu (by decide +kernel) (pa_cons
            (pe_lc (own := [("names", 8)]) (g := gName 8) (tt := tYes) rfl scInitQ.nd (pi_tup (pe_fld (pv 0) rfl)) (blkOk_by (own := [("names", 8)]) (N := nInitQ) (sc := defScope sInitQ) (by decide +kernel)) (fun _ _ _ _ _ => pg_name (i := 8) scInitQ.nd rfl (Or.inl rfl)) (fun _ _ _ _ _ => pts_nil)
              (fun _ _ _ _ _ => pe_callB (call_len_seqK (K := K) rfl) (by rfl) ml (by decide +kernel) (pa_cons (pv 8) pa_nil))) pa_nil)) (nomark _))
          (pss_one (L2N.ps_raise rfl (L2N.takes_of rfl rfl rfl rfl) (pmk_oexN TLO iLO tLO GLO hr2 bLO .nil pass0 (by rfl) mLO (pa_cons (pe_call GT hr1 (by rfl) mT kT bT .nil pass0 (pa_cons
            (pe_lc2 (own := [("names", 8), ("name", 9)]) (vs1 := [9]) (g := gName 8) (g1 := gName 9) (tt := tYes) (tt1 := tYes) rfl scInitQ.nd (pi_tup (pe_fld (pv 0) rfl))
              (blkOk_by (own := [("names", 8), ("name", 9)]) (N := nInitQ) (sc := defScope sInitQ) (by decide +kernel)) (by decide)
              (fun _ _ _ _ _ => pg_name (i := 8) scInitQ.nd rfl (Or.inl rfl)) (fun _ _ _ _ _ => pts_nil) (fun _ _ _ _ _ => pi_tupK (K := K) rfl (pv 8)) (fun _ _ _ _ _ => pg_name (i := 9) scInitQ.nd rfl (Or.inl rfl)) (fun _ _ _ _ _ => pts_nil) (fun _ _ _ _ _ => pv 9)) pa_nil)) pa_nil)))) pss_nil)
      (pss_cons (ps_for (passes_of rfl) rfl (pi_enumS (by rfl) me (pa_cons (pe_fld (pv 0) rfl) pa_nil)) (pg_tup (by rfl) (pgs_cons (pg_name (i := 10) scInitQ.nd rfl (Or.inl rfl)) (pgs_cons (pg_name (i := 8) scInitQ.nd rfl (Or.inl rfl)) pgs_nil)))
        (pss_one (ps_if (PW.pt (pw_and (pt_cmpR op_gt (pv 10) pe_int (nomark _)) (pw_and1 (pt_not (pt_truth (pv 8) (by intro _; rfl)))))) (pss_one (L2N.ps_raise rfl (L2N.takes_of rfl rfl rfl rfl) (pmk_oexN TNN iNN tNN GNN hr2 bNN .nil pass0 (by rfl) mNN (pa_cons (pv 10) pa_nil)))) pss_nil)))
      (pss_cons (ps_fld (pv 0) pe_non rfl)
      (pss_cons (ps_fld (pv 0) pe_non rfl)
      (pss_cons (ps_fld (pv 0) pe_dnewK rfl)
      (pss_cons (ps_fld (pv 0) pe_dnewK rfl)
      (pss_cons (ps_fld (pv 0) pe_dnewK rfl)
      (pss_cons (ps_fld (pv 0) pe_dnewK rfl)
      (pss_one (ps_fld (pv 0) pe_dnewK rfl))))))))))))))))), ?_⟩
    refine ⟨_, rfl, N, xs, rfl, hN, l0, by omega, wf, fun H1 s1 => ⟨_, rfl, iteF ?_⟩⟩
    have hN1 := hN.same s1
    refine ⟨_, rfl, N, rfl, for_seqS hN1.sq (fun i σ H5 => ∃ v2 v3 v4 : Option V, σ = [some (.ref p), some (.ref N), v2, v3, v4, none, none, none, none, none, none] ∧ Same H1 H5 ∧ ∀ x ∈ xs.take i, none ∉ x.os)
      ⟨none, none, none, rfl, Same.refl _, fun x m => (by simp at m)⟩ (fun i x σ H5 hx pp => ?_) (fun σ G0 pp => ?_) (fun i σ H5 pp e => let ⟨_, _, _, _, s, _⟩ := pp; s _ _ e) (fun i σ H5 pp e => let ⟨_, _, _, _, s, _⟩ := pp; s _ _ e)⟩
    · obtain ⟨v2, v3, v4, rfl, s5, no⟩ := pp
      rw [List.getElem?_map] at hx
      obtain ⟨n, hn, rfl⟩ := Option.map_eq_some_iff.mp hx
      have mn := List.mem_of_getElem? hn
      have nn := (hN1.ea n mn).same s5
      refine ⟨n.t, _, rfl, SqT.of nn.tu, rfl, _, _, rfl, _, _, rfl, rfl, ?_⟩
      refine ⟨_, rfl, n.l, rfl, for_seqS nn.li (fun j σ H6 => ∃ v4 : Option V, σ = [some (.ref p), some (.ref N), some (pV n.p), some (.ref n.l), v4, none, none, none, none, none, none] ∧ Same H5 H6 ∧ none ∉ n.os.take j)
        ⟨_, rfl, Same.refl _, by simp⟩ (fun j y σ H6 hy pp => ?_) (fun σ H6 pp => ?_) (fun i σ H5 pp e => let ⟨_, _, s, _⟩ := pp; s _ _ e) (fun i σ H5 pp e => let ⟨_, _, s, _⟩ := pp; s _ _ e)⟩
      · obtain ⟨v4, rfl, s6, nj⟩ := pp
        rw [List.getElem?_map] at hy
        obtain ⟨o, ho, rfl⟩ := Option.map_eq_some_iff.mp hy
        have mo := List.mem_of_getElem? ho
        cases o with
        | none =>
          refine ⟨.non, rfl, .non, rfl, .inr ⟨⟨"NoneType", .base .non, by decide +kernel⟩, fun H7 s7 => ⟨_, rfl, iteT ⟨_, rfl, (by show 1 ≤ 1000; decide), ?_⟩⟩⟩⟩
          exact mk_xf (Same.refl H7) fun H' d s' nd hd => kE H' d BP (Keep.of ((s1.trans (s5.trans (s6.trans s7))).trans s')) (.inl ⟨rfl, n, mn, mo⟩)
        | some y =>
          have fy := (fo n mn).2 y mo
          refine ⟨.ref y.1, rfl, .ref y.1, rfl, .inl ⟨y.1, ptV y, rfl, s6 _ _ (nn.ea y mo), ?_, fct_okv fy, fun H7 s7 => ?_⟩⟩
          · unfold ptV
            rw [List.length_cons, List.length_map]
            have := fy.l3
            omega
          · rw [show patB (ptV y) = true from fy.pat]
            refine ⟨_, rfl, iteF ⟨_, rfl, s6.trans s7, fun m => ?_⟩⟩
            rw [take_snoc ho] at m
            rcases List.mem_append.mp m with m | m
            · exact nj m
            · cases List.mem_singleton.mp m
      · obtain ⟨v4, rfl, s6, nj⟩ := pp
        rw [List.length_map, List.take_length] at nj
        refine ⟨_, _, _, rfl, s5.trans s6, fun x m => ?_⟩
        rw [take_snoc hn] at m
        rcases List.mem_append.mp m with m | m
        · exact no x m
        · rw [List.mem_singleton.mp m]
          exact nj
    · obtain ⟨v2, v3, v4, rfl, s5, nf⟩ := pp
      rw [List.length_map, List.take_length] at nf
      have sG := s1.trans s5
      have hpG := sG _ _ hp
      have nW := (hN1.same s5).wo hpG
      have kG : Keep p H G0 := Keep.of sG
      clear hN1 s5 s1 sG
      -- _parents
      refine ⟨_, rfl, N, rfl, lc_seqS (Same.sq wo_le nW.sq) (by rw [List.length_map]; omega) (fun _ i acc => acc = (xs.take i).map fun x => pV x.p) (fun _ _ _ _ _ h => h) rfl (fun D i x H5 acc hx s5 hD r Yes No yes no => ?_) (fun D H5 acc nD s5 hD la r => ?_)⟩
      · rw [List.getElem?_map] at hx
        obtain ⟨n, hn, rfl⟩ := Option.map_eq_some_iff.mp hx
        have nn := (nW.ea n (List.mem_of_getElem? hn)).tu
        refine ⟨n.t, _, rfl, SqT.of (s5 _ _ (wo_le _ _ nn)), rfl, _, _, rfl, _, _, rfl, rfl, rfl, ?_⟩
        refine tyes_go ⟨_, rfl, yes _ _ (Same.refl _) ?_⟩
        rw [r, take_snoc hn, List.map_append]
        rfl
      rw [List.length_map, List.take_length] at r
      refine ⟨D, _, rfl, .inl ⟨SqL.of hD, fun qP nqP => ?_⟩⟩
      rw [r]
      have s6 : Same H5 (upd H5 qP (.tup (xs.map fun x => pV x.p))) := same_new nqP
      have c6 : (upd H5 qP (.tup (xs.map fun x => pV x.p))) qP = some (.tup (xs.map fun x => pV x.p)) := upd_same
      generalize upd H5 qP (.tup (xs.map fun x => pV x.p)) = G1 at s6 c6 ⊢
      have s01 := s5.trans s6
      have hp1 := s01 _ _ hpG
      refine ⟨_, rfl, p, C, dx, [], rfl, hp1, T.cl, T.n1, (by show 0 < 1000; decide), ?_⟩
      obtain ⟨w1, q1⟩ := put_wo (p := p) (G := G1) (X := .ins C dx (putF "_parents" (.ref qP) []))
      have q1 : (upd G1 p (.ins C dx (putF "_parents" (.ref qP) []))) p = some (.ins C dx [("_parents", .ref qP)]) := q1
      have a1 : Same (Wo p G0) (Wo p (upd G1 p (.ins C dx (putF "_parents" (.ref qP) [])))) := (wo_same s01).trans w1
      have cP := w1 _ _ (wo_tup hp1 c6)
      generalize upd G1 p (.ins C dx (putF "_parents" (.ref qP) [])) = A1 at q1 a1 cP ⊢
      clear s5 hD s6 c6 s01 hp1 w1 la nD
      have eP : (xs.map fun x => pV x.p) = (prs (xs.map trO)).map pV := by rw [prs_tr, List.map_map]; rfl
      rw [eP] at cP
      have nW1 := nW.same a1
      -- _lots
      refine ⟨_, rfl, N, rfl, lc_seqS (Same.sq wo_le nW1.sq) (by rw [List.length_map]; omega) (fun Hh i acc => ∃ ls : List (Addr × List Pt), acc = ls.map (fun x => V.ref x.1) ∧ ls.length = i ∧ ∀ k l, ls[k]? = some l → Hh l.1 = some (.tup (l.2.map fun x => V.ref x.1)) ∧ (∀ x ∈ l.2, Hh x.1 = some (.tup (ptV x))) ∧ l.2.map (·.2) = lo (xs.map trO) k)
        (fun Hq Hr i acc s' h => by
          obtain ⟨ls, h1, h2, h3⟩ := h
          exact ⟨ls, h1, h2, fun k l e => ⟨s' _ _ (h3 k l e).1, fun x m => s' _ _ ((h3 k l e).2.1 x m), (h3 k l e).2.2⟩⟩) ⟨[], rfl, rfl, fun k l e => (by simp at e)⟩ (fun D i x H5 acc hx s5 hD r Yes No yes no => ?_) (fun D H5 acc nD s5 hD la r => ?_)⟩
      · rw [List.getElem?_map] at hx
        obtain ⟨n, hn, rfl⟩ := Option.map_eq_some_iff.mp hx
        have mn := List.mem_of_getElem? hn
        have nn := nW1.ea n mn
        obtain ⟨ys, ey⟩ := none_free (nf n mn)
        have ov : n.os.map rvO = ys.map fun x => V.ref x.1 := by
          rw [ey, List.map_map]
          rfl
        have li := (Same.sq wo_le nn.li).same s5
        rw [ov] at li
        have few := (fo n mn).1
        rw [ey, List.length_map] at few
        refine ⟨n.t, _, rfl, SqT.of (s5 _ _ (wo_le _ _ nn.tu)), rfl, _, _, rfl, _, _, rfl, rfl, rfl, ?_⟩
        refine tyes_go ⟨_, rfl, ?_⟩
        dsimp only [tNil, List.cons_append, List.nil_append]
        refine sorted_set (xs := ys) li.or (fun x m => s5 _ _ (wo_le _ _ (nn.ea x (by rw [ey]; exact List.mem_map_of_mem m)))) (by omega) fun l M H6 s6 nl hl sub mem asc => ⟨l, _, rfl, .inl ⟨SqL.of hl, fun q nq => ?_⟩⟩
        obtain ⟨ls, rfl, ll, hls⟩ := r
        have s7 : Same H6 (upd H6 q (.tup (M.map fun x => V.ref x.1))) := same_new nq
        have c7 : (upd H6 q (.tup (M.map fun x => V.ref x.1))) q = some (.tup (M.map fun x => V.ref x.1)) := upd_same
        have qD : q ≠ D := fun e => by rw [e, s6 _ _ hD] at nq; cases nq
        have s67 := s6.trans s7
        refine yes _ _ s67 ⟨ls ++ [(q, M)], by simp, by simp [ll], fun k l e => ?_⟩
        by_cases hk : k < ls.length
        · rw [List.getElem?_append_left hk] at e
          obtain ⟨g1, g2, g3⟩ := hls k l e
          exact ⟨wo_same s67 _ _ g1, fun x m => wo_same s67 _ _ (g2 x m), g3⟩
        · rw [List.getElem?_append_right (by omega)] at e
          have k0 : k - ls.length = 0 := by
            cases h9 : k - ls.length with
            | zero => rfl
            | succ j =>
              rw [h9] at e
              simp at e
          rw [k0] at e
          have : (q, M) = l := Option.some.inj e
          subst this
          have ek : k = i := by omega
          subst ek
          refine ⟨wo_new c7 qD, fun x m => ?_, ?_⟩
          · have g := s67 _ _ (s5 _ _ (wo_le _ _ (nn.ea x (by rw [ey]; exact List.mem_map_of_mem (sub x m)))))
            exact wo_new g fun z => by rw [z, s67 _ _ hD] at g; cases g
          · rw [lo_tr hn, ey, some_filter]
            exact nrm_of asc mem
      obtain ⟨ls, rfl, ll, hls⟩ := r
      rw [List.length_map] at ll
      refine ⟨D, _, rfl, .inl ⟨SqL.of hD, fun qL nqL => ?_⟩⟩
      have s6 : Same H5 (upd H5 qL (.tup (ls.map fun x => V.ref x.1))) := same_new nqL
      have c6 : (upd H5 qL (.tup (ls.map fun x => V.ref x.1))) qL = some (.tup (ls.map fun x => V.ref x.1)) := upd_same
      generalize upd H5 qL (.tup (ls.map fun x => V.ref x.1)) = G2 at s6 c6 ⊢
      have s12 := s5.trans s6
      have hp2 := s12 _ _ q1
      have LA : LotsAt G2 qL (xs.map trO) ls := ⟨c6, by rw [ll, List.length_map], fun k l e => ⟨s6 _ _ (wo_le _ _ (hls k l e).1), fun x m => s6 _ _ (wo_le _ _ ((hls k l e).2.1 x m)), (hls k l e).2.2⟩⟩
      refine ⟨_, rfl, p, C, dx, _, rfl, hp2, T.cl, T.n2, (by show 1 < 1000; decide), ?_⟩
      obtain ⟨w2, q2⟩ := put_wo (p := p) (G := G2) (X := .ins C dx (putF "_lots" (.ref qL) [("_parents", .ref qP)]))
      have q2 : (upd G2 p (.ins C dx (putF "_lots" (.ref qL) [("_parents", .ref qP)]))) p = some (.ins C dx [("_parents", .ref qP), ("_lots", .ref qL)]) := q2
      have a2 : Same (Wo p A1) (Wo p (upd G2 p (.ins C dx (putF "_lots" (.ref qL) [("_parents", .ref qP)])))) := (wo_same s12).trans w2
      have LW := (LA.wo hp2).same w2
      generalize upd G2 p (.ins C dx (putF "_lots" (.ref qL) [("_parents", .ref qP)])) = A2 at q2 a2 LW ⊢
      clear s5 hD s6 c6 s12 hp2 w2 la nD LA hls
      have cP2 := a2 _ _ cP
      -- _names
      refine ⟨_, rfl, p, C, dx, _, _, rfl, q2, T.cl, T.n2, rfl, qL, rfl, ⟨_, SqT.of (wo_le _ _ LW.tu)⟩, fun D nD => ?_⟩
      have lls : ls.length = xs.length := ll
      refine lc_acc (L2.walk_tup (K := K) (xs := ls.map fun x => V.ref x.1)) (fun Hh i acc => ∃ us : List Lz, acc = refZ us ∧ us.length = i ∧ ∀ k u, us[k]? = some u → Hh u.1 = some (.lst (u.2.map V.str)) ∧ u.2 = nms (lo (xs.map trO) k)) nD (by rw [List.length_map]; omega) (fun H' s' => SqT.of (s' _ _ (wo_le _ _ LW.tu)))
        (fun Hq Hr i acc s' h => by
          obtain ⟨us, h1, h2, h3⟩ := h
          exact ⟨us, h1, h2, fun k u e => ⟨s' _ _ (h3 k u e).1, (h3 k u e).2⟩⟩) ⟨[], rfl, rfl, fun k l e => (by simp at e)⟩ (fun i x H5 H6 acc hi s5 hD r la yy Yes No yes no => ?_) (fun H5 acc s5 hD la r => ?_)
      · obtain ⟨rfl, hx⟩ := yy
        rw [List.getElem?_map] at hx
        obtain ⟨l, hl, rfl⟩ := Option.map_eq_some_iff.mp hx
        obtain ⟨us, rfl, lu, hus⟩ := r
        obtain ⟨g1, g2, g3⟩ := LW.ea i l hl
        have li : i < xs.length := by
          have := (List.getElem?_eq_some_iff.mp hl).1
          omega
        have hxi : xs[i]? = some xs[i] := List.getElem?_eq_getElem li
        have mxi : xs[i] ∈ xs := List.getElem_mem li
        generalize xs[i] = n at hxi mxi
        obtain ⟨ys, ey⟩ := none_free (nf n mxi)
        have fyl := fo n mxi
        rw [ey, List.length_map] at fyl
        have l2 : l.2.map (·.2) = nrm (ys.map (·.2)) := by
          rw [g3, lo_tr hxi, ey, some_filter]
        have mem2 : ∀ x ∈ l.2, Fct x.2 := fun x m => by
          have : x.2 ∈ l.2.map (·.2) := List.mem_map_of_mem m
          rw [l2, nrm_mem] at this
          obtain ⟨y, hy, e⟩ := List.mem_map.mp this
          rw [← e]
          exact fyl.2 y (List.mem_map_of_mem hy)
        have len2 : l.2.length ≤ 20 := by
          have e1 := congrArg List.length l2
          rw [List.length_map] at e1
          have e2 := nrm_len (ys.map (·.2))
          rw [List.length_map] at e2
          omega
        refine ⟨rfl, ?_⟩
        refine tyes_go ⟨_, rfl, l.1, l.2, rfl, ⟨.inr (s5 _ _ (wo_le _ _ g1)), fun x m => s5 _ _ (wo_le _ _ (g2 x m))⟩, fun x m z hz => ?_, ?_, fun q ys' H7 s7 nq pm srt hq => ?_⟩
        · have := tm_len ((mem2 x m).nz z hz)
          exact ⟨this.1, by omega⟩
        · rw [frees_vrs]
          unfold vrs
          refine Nat.le_trans (List.length_filter_le _ _) ?_
          refine Nat.le_trans (flat_few (a := 3) fun c hc => ?_) ?_
          · obtain ⟨x, m, rfl⟩ := List.mem_map.mp hc
            exact (mem2 x m).l3
          · rw [List.length_map]
            omega
        · rw [frees_vrs] at pm
          have en := nms_of pm srt
          have qD : q ≠ D := fun e => by rw [e, hD] at nq; cases nq
          refine yes _ _ s7 ⟨us ++ [(q, ys')], by simp [refZ], by simp [lu], fun k u e => ?_⟩
          by_cases hk : k < us.length
          · rw [List.getElem?_append_left hk] at e
            exact ⟨wo_same s7 _ _ (hus k u e).1, (hus k u e).2⟩
          · rw [List.getElem?_append_right (by omega)] at e
            have k0 : k - us.length = 0 := by
              cases h9 : k - us.length with
              | zero => rfl
              | succ j =>
                rw [h9] at e
                simp at e
            rw [k0] at e
            have : (q, ys') = u := Option.some.inj e
            subst this
            have ek : k = i := by omega
            subst ek
            exact ⟨wo_new hq qD, by rw [en, g3]⟩
      obtain ⟨nl, rfl, lnl, hnl⟩ := r
      rw [List.length_map] at lnl
      refine ⟨D, _, rfl, .inl ⟨SqL.of hD, fun qN nqN => ?_⟩⟩
      have s6 : Same H5 (upd H5 qN (.tup (refZ nl))) := same_new nqN
      have c6 : (upd H5 qN (.tup (refZ nl))) qN = some (.tup (refZ nl)) := upd_same
      generalize upd H5 qN (.tup (refZ nl)) = G3 at s6 c6 ⊢
      have s23 := s5.trans s6
      have hp3 := s23 _ _ q2
      have NA : NmsAt G3 qN (xs.map trO) nl := ⟨c6, by rw [lnl, List.length_map, lls], fun k l e => ⟨s6 _ _ (wo_le _ _ (hnl k l e).1), (hnl k l e).2⟩⟩
      refine ⟨_, rfl, p, C, dx, _, rfl, hp3, T.cl, T.n3, (by show 2 < 1000; decide), ?_⟩
      obtain ⟨w3, q3⟩ := put_wo (p := p) (G := G3) (X := .ins C dx (putF "_names" (.ref qN) [("_parents", .ref qP), ("_lots", .ref qL)]))
      have q3 : (upd G3 p (.ins C dx (putF "_names" (.ref qN) [("_parents", .ref qP), ("_lots", .ref qL)]))) p = some (.ins C dx [("_parents", .ref qP), ("_lots", .ref qL), ("_names", .ref qN)]) := q3
      have a3 : Same (Wo p A2) (Wo p (upd G3 p (.ins C dx (putF "_names" (.ref qN) [("_parents", .ref qP), ("_lots", .ref qL)])))) := (wo_same s23).trans w3
      have NW := (NA.wo hp3).same w3
      generalize upd G3 p (.ins C dx (putF "_names" (.ref qN) [("_parents", .ref qP), ("_lots", .ref qL)])) = A3 at q3 a3 NW ⊢
      clear s5 hD s6 c6 s23 hp3 w3 la nD NA hnl
      have cP3 := a3 _ _ cP2
      have LW3 := LW.same a3
      -- _new
      have wf' : Wf (prs (xs.map trO)) := by rw [prs_tr]; exact wf
      have lpr : (prs (xs.map trO)).length = xs.length := by rw [prs_tr, List.length_map]
      refine ⟨_, rfl, p, C, dx, _, _, rfl, q3, T.cl, T.n1, rfl, _, rfl, p, C, dx, _, _, rfl, q3, T.cl, T.n3, rfl, qP, qN, prs (xs.map trO), nl, rfl, wo_le _ _ cP3, wo_le _ _ NW.tu, fun u hu => ?_, by rw [lpr, lnl, lls], by rw [lnl, lls]; exact l0, by rw [lnl, lls]; omega, wf', fun H5 D ul s5 nD hD lul hul => ?_⟩
      · obtain ⟨k, hk⟩ := List.mem_iff_getElem?.mp hu
        obtain ⟨g1, g2⟩ := NW.ea k u hk
        refine ⟨wo_le _ _ g1, ?_⟩
        rw [g2]
        have := nms_len (lo (xs.map trO) k)
        have := (lo_ok fo k).2.2
        omega
      have hF : ∀ k u, ul[k]? = some u → H5 u.1 = some (.tup (u.2.map V.str)) ∧ u.2 = nw (prs (xs.map trO)) (lo (xs.map trO)) k := fun k u e => by
        obtain ⟨g1, g2⟩ := hul k u e
        refine ⟨g1, ?_⟩
        rw [g2, nw_nwn]
        unfold nwn
        have en : ∀ j, j < xs.length → nth nl j = nms (lo (xs.map trO) j) := fun j hj => by
          have : j < nl.length := by omega
          rw [nth_at (List.getElem?_eq_getElem this)]
          exact (NW.ea j _ (List.getElem?_eq_getElem this)).2
        have hk : k < xs.length := by
          have := (List.getElem?_eq_some_iff.mp e).1
          omega
        cases h : pa (prs (xs.map trO)) k with
        | none => exact en k hk
        | some q =>
          have := wf'.lt h
          show (nth nl k).filter _ = (nms _).filter _
          rw [en k hk, en q (by omega)]
      refine ⟨D, _, rfl, .inl ⟨SqL.of hD, fun qW nqW => ?_⟩⟩
      have s6 : Same H5 (upd H5 qW (.tup (refZ ul))) := same_new nqW
      have c6 : (upd H5 qW (.tup (refZ ul))) qW = some (.tup (refZ ul)) := upd_same
      generalize upd H5 qW (.tup (refZ ul)) = G4 at s6 c6 ⊢
      have s34 := s5.trans s6
      have hp4 := s34 _ _ q3
      have WA : NewAt G4 qW (xs.map trO) ul := ⟨c6, by rw [lul, lnl, List.length_map, lls], fun k l e => ⟨s6 _ _ (hF k l e).1, (hF k l e).2⟩⟩
      refine ⟨_, rfl, p, C, dx, _, rfl, hp4, T.cl, T.n4, (by show 3 < 1000; decide), ?_⟩
      obtain ⟨w4, q4⟩ := put_wo (p := p) (G := G4) (X := .ins C dx (putF "_new" (.ref qW) [("_parents", .ref qP), ("_lots", .ref qL), ("_names", .ref qN)]))
      have q4 : (upd G4 p (.ins C dx (putF "_new" (.ref qW) [("_parents", .ref qP), ("_lots", .ref qL), ("_names", .ref qN)]))) p = some (.ins C dx [("_parents", .ref qP), ("_lots", .ref qL), ("_names", .ref qN), ("_new", .ref qW)]) := q4
      have a4 : Same (Wo p A3) (Wo p (upd G4 p (.ins C dx (putF "_new" (.ref qW) [("_parents", .ref qP), ("_lots", .ref qL), ("_names", .ref qN)])))) := (wo_same s34).trans w4
      have WW := (WA.wo hp4).same w4
      generalize upd G4 p (.ins C dx (putF "_new" (.ref qW) [("_parents", .ref qP), ("_lots", .ref qL), ("_names", .ref qN)])) = A4 at q4 a4 WW ⊢
      clear s5 hD s6 c6 s34 hp4 w4 nD WA hul hF
      have cP4 := a4 _ _ cP3
      have LW4 := LW3.same a4
      have NW4 := NW.same a4
      -- _children
      refine ⟨_, rfl, p, C, dx, _, _, rfl, q4, T.cl, T.n1, rfl, qP, prs (xs.map trO), rfl, wo_le _ _ cP4, by rw [lpr]; omega, wf', fun H5 D us s5 nD hD lus hus => ?_⟩
      refine ⟨D, _, rfl, .inl ⟨SqL.of hD, fun qC nqC => ?_⟩⟩
      have s6 : Same H5 (upd H5 qC (.tup (refK us))) := same_new nqC
      have c6 : (upd H5 qC (.tup (refK us))) qC = some (.tup (refK us)) := upd_same
      generalize upd H5 qC (.tup (refK us)) = G5 at s6 c6 ⊢
      have s45 := s5.trans s6
      have hp5 := s45 _ _ q4
      have CA : ChlAt G5 qC (prs (xs.map trO)) us := ⟨c6, lus, fun k l e => ⟨s6 _ _ (hus k l e).1, (hus k l e).2⟩⟩
      refine ⟨_, rfl, p, C, dx, _, rfl, hp5, T.cl, T.n5, (by show 4 < 1000; decide), ?_⟩
      obtain ⟨w5, q5⟩ := put_wo (p := p) (G := G5) (X := .ins C dx (putF "_children" (.ref qC) [("_parents", .ref qP), ("_lots", .ref qL), ("_names", .ref qN), ("_new", .ref qW)]))
      have q5 : (upd G5 p (.ins C dx (putF "_children" (.ref qC) [("_parents", .ref qP), ("_lots", .ref qL), ("_names", .ref qN), ("_new", .ref qW)]))) p = some (.ins C dx [("_parents", .ref qP), ("_lots", .ref qL), ("_names", .ref qN), ("_new", .ref qW), ("_children", .ref qC)]) := q5
      have a5 : Same (Wo p A4) (Wo p (upd G5 p (.ins C dx (putF "_children" (.ref qC) [("_parents", .ref qP), ("_lots", .ref qL), ("_names", .ref qN), ("_new", .ref qW)])))) := (wo_same s45).trans w5
      have CW := (CA.wo hp5).same w5
      generalize upd G5 p (.ins C dx (putF "_children" (.ref qC) [("_parents", .ref qP), ("_lots", .ref qL), ("_names", .ref qN), ("_new", .ref qW)])) = A5 at q5 a5 CW ⊢
      clear s5 hD s6 c6 s45 hp5 w5 nD CA hus
      have cP5 := a5 _ _ cP4
      have LW5 := LW4.same a5
      have NW5 := NW4.same a5
      have WW5 := WW.same a5
      -- _home
      have lul' : ul.length = xs.length := by omega
      have eachW : ∀ u ∈ ul, A5 u.1 = some (.tup (u.2.map V.str)) := fun u hu => by
        obtain ⟨k, hk⟩ := List.mem_iff_getElem?.mp hu
        exact wo_le _ _ (WW5.ea k u hk).1
      have lenW : ∀ u ∈ ul, u.2.length ≤ 60 := fun u hu => by
        obtain ⟨k, hk⟩ := List.mem_iff_getElem?.mp hu
        rw [(WW5.ea k u hk).2]
        have e1 : (nw (prs (xs.map trO)) (lo (xs.map trO)) k).length ≤ (nms (lo (xs.map trO) k)).length := nodup_len _ _ (nw_nodup _ _ _) fun z hz => nw_sub hz
        have e2 := nms_len (lo (xs.map trO) k)
        have e3 := (lo_ok fo k).2.2
        omega
      have fewW : (ul.flatMap fun u => u.2).length ≤ 960 := by
        have := flat_few (ms := ul) (f := fun u => u.2) (a := 60) lenW
        omega
      refine ⟨_, rfl, p, C, dx, _, _, rfl, q5, T.cl, T.n4, rfl, qW, rfl, .inr ⟨⟨_, SqT.of (wo_le _ _ WW5.tu)⟩, fun D nD => home_go (wo_le _ _ WW5.tu) eachW (by omega) nD (by show 7 < 11; decide) (by show 8 < 11; decide) (by show 9 < 11; decide) (by decide) (by decide) (by decide) fun G6 kvs s56 hD ek => ?_⟩⟩
      have hp6 := s56 _ _ q5
      refine ⟨_, rfl, p, C, dx, _, rfl, hp6, T.cl, T.n6, (by show 5 < 1000; decide), ?_⟩
      obtain ⟨w6, q6⟩ := put_wo (p := p) (G := G6) (X := .ins C dx (putF "_home" (.ref D) [("_parents", .ref qP), ("_lots", .ref qL), ("_names", .ref qN), ("_new", .ref qW), ("_children", .ref qC)]))
      have q6 : (upd G6 p (.ins C dx (putF "_home" (.ref D) [("_parents", .ref qP), ("_lots", .ref qL), ("_names", .ref qN), ("_new", .ref qW), ("_children", .ref qC)]))) p = some (.ins C dx [("_parents", .ref qP), ("_lots", .ref qL), ("_names", .ref qN), ("_new", .ref qW), ("_children", .ref qC), ("_home", .ref D)]) := q6
      have a6 : Same (Wo p A5) (Wo p (upd G6 p (.ins C dx (putF "_home" (.ref D) [("_parents", .ref qP), ("_lots", .ref qL), ("_names", .ref qN), ("_new", .ref qW), ("_children", .ref qC)])))) := (wo_same s56).trans w6
      have cH := w6 _ _ (wo_dk hp6 hD)
      generalize upd G6 p (.ins C dx (putF "_home" (.ref D) [("_parents", .ref qP), ("_lots", .ref qL), ("_names", .ref qN), ("_new", .ref qW), ("_children", .ref qC)])) = A6 at q6 a6 cH ⊢
      clear s56 hD hp6 w6
      have cP6 := a6 _ _ cP5
      have LW6 := LW5.same a6
      have NW6 := NW5.same a6
      have WW6 := WW5.same a6
      have CW6 := CW.same a6
      have k6 : Keep p H A6 := kG.trans (keep_wo ((((a1.trans a2).trans a3).trans (a4.trans a5)).trans a6))
      have eachW6 : ∀ u ∈ ul, Wo p A6 u.1 = some (.tup (u.2.map V.str)) := fun u hu => by
        obtain ⟨k, hk⟩ := List.mem_iff_getElem?.mp hu
        exact (WW6.ea k u hk).1
      clear nW1 cP cP2 cP3 cP4 cP5 LW LW3 LW4 LW5 NW NW4 NW5 WW WW5 CW eachW
      -- loose?
      refine ⟨_, rfl, p, C, dx, _, _, rfl, q6, T.cl, T.n6, rfl, D, kvs, rfl, wo_le _ _ cH, ?_⟩
      refine ⟨_, rfl, p, C, dx, _, _, rfl, q6, T.cl, T.n4, rfl, qW, rfl, ⟨_, SqT.of (wo_le _ _ WW6.tu)⟩, fun S nS => ?_⟩
      refine lc_sift (ms := ul) (val := fun u => V.ref u.1) (L2.walk_tup (K := K)) (List.length_map _) (fun _ => true) (fun u => V.int (u.2.length : Nat)) nS (by omega) (fun H' s' => SqT.of (s' _ _ (wo_le _ _ WW6.tu))) (fun u hu H5 Yes No s5 yes no => ⟨rfl, tyes_go ⟨_, rfl, u.1, _, rfl, .inr (SqT.of (s5 _ _ (wo_le _ _ (eachW6 u hu)))), ?_⟩⟩) (fun A7 s67 hS => ?_)
      · have := yes H5 (Same.refl _) rfl
        rw [List.length_map]
        exact this
      rw [List.filter_eq_self.mpr (fun _ _ => rfl)] at hS
      refine ⟨S, ul.map fun u => ((u.2.length : Nat) : Int), rfl, SqL.of (by rw [hS, List.map_map]; rfl), ?_⟩
      have esum : (ul.map fun u => ((u.2.length : Nat) : Int)).sum = (((ul.flatMap fun u => u.2).length : Nat) : Int) := by
        clear ek lul lul' WW6 eachW6 lenW fewW hS
        induction ul with
        | nil => rfl
        | cons u ul ih =>
          rw [List.map_cons, List.sum_cons, ih, List.flatMap_cons, List.length_append]
          omega
      rw [esum]
      have lk : kvs.length = (uniq (ul.flatMap fun u => u.2)).length := by
        have := congrArg List.length ek
        rw [List.length_map, List.length_map] at this
        exact this
      have uone := new_one (l := lo (xs.map trO)) (us := ul) (by rw [lpr]; exact lul') fun k u e => (WW6.ea k u e).2
      refine ⟨_, _, rfl, rfl, _, rfl, ?_⟩
      refine ite2 (fun hlt => ?_) (fun hlt => ?_)
      · refine ⟨_, rfl, p, C, dx, _, _, rfl, s67 _ _ q6, T.cl, T.n4, rfl, qW, rfl, ⟨_, SqT.of (s67 _ _ (wo_le _ _ WW6.tu))⟩, fun S2 nS2 => ?_⟩
        have dup : ¬ (ul.flatMap fun u => u.2).Nodup := (uniq_lt _).mp (by
          have := of_decide_eq_true hlt
          omega)
        refine lc2_flat (ms := ul) (val := fun u : Lz => V.ref u.1) (L2.walk_tup (K := K)) (List.length_map _) (fun u => u.2) V.str (fun _ z => V.str z) (fun u σ2 => σ2 = [some (.ref p), some (.ref N), v2, v3, v4, none, none, none, some (.ref u.1), none, none]) nS2 (by
            rw [show (ul.flatMap fun u => u.2.map V.str) = (ul.flatMap fun u => u.2).map V.str by rw [List.map_flatMap], List.length_map]
            omega) (fun H' s' => SqT.of (s' _ _ (s67 _ _ (wo_le _ _ WW6.tu)))) (fun u mu H8 C8 s8 c => c _ rfl rfl) (fun u mu σ2 H8 R8 ok s8 c => ?_) (fun u mu z mz σ2 H8 C8 ok s8 c => ?_) (fun y σ2 H8 A B ab q => ab _ _ q) (fun H8 s8 hD8 => ?_)
        · subst ok
          exact ⟨_, rfl, u.1, rfl, ⟨_, SqT.of (s8 _ _ (s67 _ _ (wo_le _ _ (eachW6 u mu))))⟩, c _ _ _ (L2.walk_tup (K := K)) (List.length_map _) fun H' s' => SqT.of (s' _ _ (s67 _ _ (wo_le _ _ (eachW6 u mu))))⟩
        · subst ok
          exact ⟨rfl, _, rfl, c⟩
        · rw [show (ul.flatMap fun u => u.2.map V.str) = (ul.flatMap fun u => u.2).map V.str by rw [List.map_flatMap]] at hD8
          refine ⟨S2, _, rfl, SqL.of hD8, ?_, dup, fun H9 z s9 => ?_⟩
          · omega
          · refine ⟨(by show 1 ≤ 1000; decide), ?_⟩
            exact mk_xf (Same.refl H9) fun H' d s' nd hd => kE H' d LO (k6.trans (Keep.of ((s67.trans (s8.trans s9)).trans s'))) (.inr ⟨.inl rfl, nf, fun g => dup (uone.mpr (by
              have := g.one
              rw [← prs_tr] at this
              exact this))⟩)
      · have ndW : (ul.flatMap fun u => u.2).Nodup := by
          by_cases nd : (ul.flatMap fun u => u.2).Nodup
          · exact nd
          · have := (uniq_lt _).mpr nd
            exact absurd (decide_eq_true (by omega)) hlt
        have one := uone.mp ndW
        have q7 := s67 _ _ q6
        have k7 : Keep p H A7 := k6.trans (Keep.of s67)
        have a67 := wo_same (D := p) s67
        have cP7 := a67 _ _ cP6
        have LW7 := LW6.same a67
        have NW7 := NW6.same a67
        have WW7 := WW6.same a67
        have CW7 := CW6.same a67
        have cH7 := a67 _ _ cH
        clear cP6 LW6 NW6 WW6 CW6 cH eachW6 hS ek
        refine ⟨_, rfl, p, C, dx, _, _, rfl, q7, T.cl, T.n4, rfl, qW, rfl, for_enumS (xs := refZ ul) (.inr (wo_le _ _ WW7.tu)) (fun i σ H5 => ∃ v8 v10 : Option V, σ = [some (.ref p), some (.ref N), v2, v3, v4, none, none, none, v8, none, v10] ∧ Same A7 H5 ∧ ∀ k, 0 < k → k < i → nw (prs (xs.map trO)) (lo (xs.map trO)) k ≠ [])
          ⟨_, _, rfl, Same.refl _, fun k h1 h2 => absurd h2 (Nat.not_lt_zero _)⟩ (fun i σ H5 pp => let ⟨_, _, _, s, _⟩ := pp; .inr (s _ _ (wo_le _ _ WW7.tu))) (fun i x σ H5 T' hx pp nT => ?_) (fun σ A8 pp => ?_) (fun i σ H5 pp e => let ⟨_, _, _, s, _⟩ := pp; s _ _ e) (fun i σ H5 pp e => let ⟨_, _, _, s, _⟩ := pp; s _ _ e)⟩
        · obtain ⟨v8, v10, rfl, s5, nn⟩ := pp
          rw [List.getElem?_map] at hx
          obtain ⟨u, hu, rfl⟩ := Option.map_eq_some_iff.mp hx
          obtain ⟨g1, g2⟩ := WW7.ea i u hu
          have s6 : Same H5 (upd H5 T' (.tup [.int (i : Nat), .ref u.1])) := same_new nT
          have c6 : (upd H5 T' (.tup [.int (i : Nat), .ref u.1])) T' = some (.tup [.int (i : Nat), .ref u.1]) := upd_same
          generalize upd H5 T' (.tup [.int (i : Nat), .ref u.1]) = H6 at s6 c6 ⊢
          have s56 := s5.trans s6
          have li : i < xs.length := by
            have := (List.getElem?_eq_some_iff.mp hu).1
            omega
          refine ⟨T', _, rfl, SqT.of c6, rfl, _, _, rfl, _, _, rfl, rfl, ?_⟩
          have go : (0 < i → u.2 ≠ []) → ∃ v8' v10' : Option V, [some (.ref p), some (.ref N), v2, v3, v4, none, none, none, some (.ref u.1), none, some (.int (i : Nat))] = [some (V.ref p), some (.ref N), v2, v3, v4, none, none, none, v8', none, v10'] ∧ Same A7 H6 ∧ ∀ k, 0 < k → k < i + 1 → nw (prs (xs.map trO)) (lo (xs.map trO)) k ≠ [] := fun h => ⟨_, _, rfl, s56, fun k h1 h2 => by
            by_cases e : k = i
            · subst e
              rw [← g2]
              exact h h1
            · exact nn k h1 (by omega)⟩
          refine ⟨_, rfl, _, _, rfl, rfl, _, rfl, ite2 (fun c => ⟨_, rfl, !(u.2.map V.str).isEmpty, .inr (.inl ⟨_, SqT.of (s56 _ _ (wo_le _ _ g1)), rfl⟩), ?_⟩) (fun c => ifF rfl (go fun h0 => absurd (decide_eq_true (by omega)) c))⟩
          cases e : u.2 with
          | nil =>
            refine iteT ⟨_, rfl, (by show 1 ≤ 1000; decide), ?_⟩
            have h0 := of_decide_eq_true c
            exact mk_xf (Same.refl H6) fun H' d s' nd hd => kE H' d NN (k7.trans (Keep.of (s56.trans s'))) (.inr ⟨.inr rfl, nf, fun g => by
              have := g.new i (by omega) (by rw [List.length_map]; exact li)
              rw [← prs_tr, ← g2] at this
              exact this e⟩)
          | cons z zs =>
            refine iteF ?_
            have := go fun _ => (by rw [e]; simp)
            exact this
        · obtain ⟨v8, v10, rfl, s78, nn⟩ := pp
          have q8 := s78 _ _ q7
          have a78 := wo_same (D := p) s78
          have good : Good (xs.map (·.p)) (lo (xs.map trO)) := by
            rw [← prs_tr]
            refine ⟨one, fun i h0 hi => nn i h0 ?_⟩
            rw [List.length_map, lul']
            rw [lpr] at hi
            exact hi
          have k8 : Keep p H A8 := k7.trans (Keep.of s78)
          have cP8 := a78 _ _ cP7
          have LW8 := LW7.same a78
          have NW8 := NW7.same a78
          have WW8 := WW7.same a78
          have CW8 := CW7.same a78
          have cH8 := a78 _ _ cH7
          clear cP7 LW7 NW7 WW7 CW7 cH7
          have kk8 : Same (Wo p A8) (Wo p A8) := Same.refl _
          refine ⟨_, rfl, p, C, dx, _, rfl, q8, T.cl, T.n7, (by show 6 < 1000; decide), ?_⟩
          obtain ⟨w9, q9⟩ := put_wo (p := p) (G := A8) (X := .ins C dx (putF "_parts" (.non) [("_parents", .ref qP), ("_lots", .ref qL), ("_names", .ref qN), ("_new", .ref qW), ("_children", .ref qC), ("_home", .ref D)]))
          have q9 : (upd A8 p (.ins C dx (putF "_parts" (.non) [("_parents", .ref qP), ("_lots", .ref qL), ("_names", .ref qN), ("_new", .ref qW), ("_children", .ref qC), ("_home", .ref D)]))) p = some (.ins C dx [("_parents", .ref qP), ("_lots", .ref qL), ("_names", .ref qN), ("_new", .ref qW), ("_children", .ref qC), ("_home", .ref D), ("_parts", .non)]) := q9
          have kk9 := kk8.trans w9
          generalize upd A8 p (.ins C dx (putF "_parts" (.non) [("_parents", .ref qP), ("_lots", .ref qL), ("_names", .ref qN), ("_new", .ref qW), ("_children", .ref qC), ("_home", .ref D)])) = A9 at q9 kk9  ⊢
          refine ⟨_, rfl, p, C, dx, _, rfl, q9, T.cl, T.n8, (by show 7 < 1000; decide), ?_⟩
          obtain ⟨w10, q10⟩ := put_wo (p := p) (G := A9) (X := .ins C dx (putF "_constants" (.non) [("_parents", .ref qP), ("_lots", .ref qL), ("_names", .ref qN), ("_new", .ref qW), ("_children", .ref qC), ("_home", .ref D), ("_parts", .non)]))
          have q10 : (upd A9 p (.ins C dx (putF "_constants" (.non) [("_parents", .ref qP), ("_lots", .ref qL), ("_names", .ref qN), ("_new", .ref qW), ("_children", .ref qC), ("_home", .ref D), ("_parts", .non)]))) p = some (.ins C dx [("_parents", .ref qP), ("_lots", .ref qL), ("_names", .ref qN), ("_new", .ref qW), ("_children", .ref qC), ("_home", .ref D), ("_parts", .non), ("_constants", .non)]) := q10
          have kk10 := kk9.trans w10
          generalize upd A9 p (.ins C dx (putF "_constants" (.non) [("_parents", .ref qP), ("_lots", .ref qL), ("_names", .ref qN), ("_new", .ref qW), ("_children", .ref qC), ("_home", .ref D), ("_parts", .non)])) = A10 at q10 kk10  ⊢
          refine fun d1 nd1 => ?_
          have ed1 : Same A10 (upd A10 d1 (.dK [])) := same_new nd1
          have fd1 : (upd A10 d1 (.dK [])) d1 = some (.dK []) := upd_same
          generalize upd A10 d1 (.dK []) = M8 at ed1 fd1 ⊢
          have q10 := ed1 _ _ q10
          refine ⟨_, rfl, p, C, dx, _, rfl, q10, T.cl, T.n9, (by show 8 < 1000; decide), ?_⟩
          obtain ⟨w11, q11⟩ := put_wo (p := p) (G := M8) (X := .ins C dx (putF "_places" (.ref d1) [("_parents", .ref qP), ("_lots", .ref qL), ("_names", .ref qN), ("_new", .ref qW), ("_children", .ref qC), ("_home", .ref D), ("_parts", .non), ("_constants", .non)]))
          have q11 : (upd M8 p (.ins C dx (putF "_places" (.ref d1) [("_parents", .ref qP), ("_lots", .ref qL), ("_names", .ref qN), ("_new", .ref qW), ("_children", .ref qC), ("_home", .ref D), ("_parts", .non), ("_constants", .non)]))) p = some (.ins C dx [("_parents", .ref qP), ("_lots", .ref qL), ("_names", .ref qN), ("_new", .ref qW), ("_children", .ref qC), ("_home", .ref D), ("_parts", .non), ("_constants", .non), ("_places", .ref d1)]) := q11
          have kk11 := kk10.trans ((wo_same (D := p) ed1).trans w11)
          have xd1 := w11 _ _ (wo_dk q10 fd1)
          generalize upd M8 p (.ins C dx (putF "_places" (.ref d1) [("_parents", .ref qP), ("_lots", .ref qL), ("_names", .ref qN), ("_new", .ref qW), ("_children", .ref qC), ("_home", .ref D), ("_parts", .non), ("_constants", .non)])) = A11 at q11 kk11 xd1 ⊢
          refine fun d2 nd2 => ?_
          have ed2 : Same A11 (upd A11 d2 (.dK [])) := same_new nd2
          have fd2 : (upd A11 d2 (.dK [])) d2 = some (.dK []) := upd_same
          generalize upd A11 d2 (.dK []) = M9 at ed2 fd2 ⊢
          have q11 := ed2 _ _ q11
          refine ⟨_, rfl, p, C, dx, _, rfl, q11, T.cl, T.n10, (by show 9 < 1000; decide), ?_⟩
          obtain ⟨w12, q12⟩ := put_wo (p := p) (G := M9) (X := .ins C dx (putF "_having" (.ref d2) [("_parents", .ref qP), ("_lots", .ref qL), ("_names", .ref qN), ("_new", .ref qW), ("_children", .ref qC), ("_home", .ref D), ("_parts", .non), ("_constants", .non), ("_places", .ref d1)]))
          have q12 : (upd M9 p (.ins C dx (putF "_having" (.ref d2) [("_parents", .ref qP), ("_lots", .ref qL), ("_names", .ref qN), ("_new", .ref qW), ("_children", .ref qC), ("_home", .ref D), ("_parts", .non), ("_constants", .non), ("_places", .ref d1)]))) p = some (.ins C dx [("_parents", .ref qP), ("_lots", .ref qL), ("_names", .ref qN), ("_new", .ref qW), ("_children", .ref qC), ("_home", .ref D), ("_parts", .non), ("_constants", .non), ("_places", .ref d1), ("_having", .ref d2)]) := q12
          have kk12 := kk11.trans ((wo_same (D := p) ed2).trans w12)
          have xd2 := w12 _ _ (wo_dk q11 fd2)
          have xd1 := ((wo_same (D := p) ed2).trans w12) _ _ xd1
          generalize upd M9 p (.ins C dx (putF "_having" (.ref d2) [("_parents", .ref qP), ("_lots", .ref qL), ("_names", .ref qN), ("_new", .ref qW), ("_children", .ref qC), ("_home", .ref D), ("_parts", .non), ("_constants", .non), ("_places", .ref d1)])) = A12 at q12 kk12 xd1 xd2 ⊢
          refine fun d3 nd3 => ?_
          have ed3 : Same A12 (upd A12 d3 (.dK [])) := same_new nd3
          have fd3 : (upd A12 d3 (.dK [])) d3 = some (.dK []) := upd_same
          generalize upd A12 d3 (.dK []) = M10 at ed3 fd3 ⊢
          have q12 := ed3 _ _ q12
          refine ⟨_, rfl, p, C, dx, _, rfl, q12, T.cl, T.n11, (by show 10 < 1000; decide), ?_⟩
          obtain ⟨w13, q13⟩ := put_wo (p := p) (G := M10) (X := .ins C dx (putF "_leads" (.ref d3) [("_parents", .ref qP), ("_lots", .ref qL), ("_names", .ref qN), ("_new", .ref qW), ("_children", .ref qC), ("_home", .ref D), ("_parts", .non), ("_constants", .non), ("_places", .ref d1), ("_having", .ref d2)]))
          have q13 : (upd M10 p (.ins C dx (putF "_leads" (.ref d3) [("_parents", .ref qP), ("_lots", .ref qL), ("_names", .ref qN), ("_new", .ref qW), ("_children", .ref qC), ("_home", .ref D), ("_parts", .non), ("_constants", .non), ("_places", .ref d1), ("_having", .ref d2)]))) p = some (.ins C dx [("_parents", .ref qP), ("_lots", .ref qL), ("_names", .ref qN), ("_new", .ref qW), ("_children", .ref qC), ("_home", .ref D), ("_parts", .non), ("_constants", .non), ("_places", .ref d1), ("_having", .ref d2), ("_leads", .ref d3)]) := q13
          have kk13 := kk12.trans ((wo_same (D := p) ed3).trans w13)
          have xd3 := w13 _ _ (wo_dk q12 fd3)
          have xd1 := ((wo_same (D := p) ed3).trans w13) _ _ xd1
          have xd2 := ((wo_same (D := p) ed3).trans w13) _ _ xd2
          generalize upd M10 p (.ins C dx (putF "_leads" (.ref d3) [("_parents", .ref qP), ("_lots", .ref qL), ("_names", .ref qN), ("_new", .ref qW), ("_children", .ref qC), ("_home", .ref D), ("_parts", .non), ("_constants", .non), ("_places", .ref d1), ("_having", .ref d2)])) = A13 at q13 kk13 xd1 xd2 xd3 ⊢
          refine fun d4 nd4 => ?_
          have ed4 : Same A13 (upd A13 d4 (.dK [])) := same_new nd4
          have fd4 : (upd A13 d4 (.dK [])) d4 = some (.dK []) := upd_same
          generalize upd A13 d4 (.dK []) = M11 at ed4 fd4 ⊢
          have q13 := ed4 _ _ q13
          refine ⟨_, rfl, p, C, dx, _, rfl, q13, T.cl, T.n12, (by show 11 < 1000; decide), ?_⟩
          obtain ⟨w14, q14⟩ := put_wo (p := p) (G := M11) (X := .ins C dx (putF "_aims" (.ref d4) [("_parents", .ref qP), ("_lots", .ref qL), ("_names", .ref qN), ("_new", .ref qW), ("_children", .ref qC), ("_home", .ref D), ("_parts", .non), ("_constants", .non), ("_places", .ref d1), ("_having", .ref d2), ("_leads", .ref d3)]))
          have q14 : (upd M11 p (.ins C dx (putF "_aims" (.ref d4) [("_parents", .ref qP), ("_lots", .ref qL), ("_names", .ref qN), ("_new", .ref qW), ("_children", .ref qC), ("_home", .ref D), ("_parts", .non), ("_constants", .non), ("_places", .ref d1), ("_having", .ref d2), ("_leads", .ref d3)]))) p = some (.ins C dx [("_parents", .ref qP), ("_lots", .ref qL), ("_names", .ref qN), ("_new", .ref qW), ("_children", .ref qC), ("_home", .ref D), ("_parts", .non), ("_constants", .non), ("_places", .ref d1), ("_having", .ref d2), ("_leads", .ref d3), ("_aims", .ref d4)]) := q14
          have kk14 := kk13.trans ((wo_same (D := p) ed4).trans w14)
          have xd4 := w14 _ _ (wo_dk q13 fd4)
          have xd1 := ((wo_same (D := p) ed4).trans w14) _ _ xd1
          have xd2 := ((wo_same (D := p) ed4).trans w14) _ _ xd2
          have xd3 := ((wo_same (D := p) ed4).trans w14) _ _ xd3
          generalize upd M11 p (.ins C dx (putF "_aims" (.ref d4) [("_parents", .ref qP), ("_lots", .ref qL), ("_names", .ref qN), ("_new", .ref qW), ("_children", .ref qC), ("_home", .ref D), ("_parts", .non), ("_constants", .non), ("_places", .ref d1), ("_having", .ref d2), ("_leads", .ref d3)])) = A14 at q14 kk14 xd1 xd2 xd3 xd4 ⊢
          refine fun d5 nd5 => ?_
          have ed5 : Same A14 (upd A14 d5 (.dK [])) := same_new nd5
          have fd5 : (upd A14 d5 (.dK [])) d5 = some (.dK []) := upd_same
          generalize upd A14 d5 (.dK []) = M12 at ed5 fd5 ⊢
          have q14 := ed5 _ _ q14
          refine ⟨_, rfl, p, C, dx, _, rfl, q14, T.cl, T.n13, (by show 12 < 1000; decide), ?_⟩
          obtain ⟨w15, q15⟩ := put_wo (p := p) (G := M12) (X := .ins C dx (putF "_courses" (.ref d5) [("_parents", .ref qP), ("_lots", .ref qL), ("_names", .ref qN), ("_new", .ref qW), ("_children", .ref qC), ("_home", .ref D), ("_parts", .non), ("_constants", .non), ("_places", .ref d1), ("_having", .ref d2), ("_leads", .ref d3), ("_aims", .ref d4)]))
          have q15 : (upd M12 p (.ins C dx (putF "_courses" (.ref d5) [("_parents", .ref qP), ("_lots", .ref qL), ("_names", .ref qN), ("_new", .ref qW), ("_children", .ref qC), ("_home", .ref D), ("_parts", .non), ("_constants", .non), ("_places", .ref d1), ("_having", .ref d2), ("_leads", .ref d3), ("_aims", .ref d4)]))) p = some (.ins C dx [("_parents", .ref qP), ("_lots", .ref qL), ("_names", .ref qN), ("_new", .ref qW), ("_children", .ref qC), ("_home", .ref D), ("_parts", .non), ("_constants", .non), ("_places", .ref d1), ("_having", .ref d2), ("_leads", .ref d3), ("_aims", .ref d4), ("_courses", .ref d5)]) := q15
          have kk15 := kk14.trans ((wo_same (D := p) ed5).trans w15)
          have xd5 := w15 _ _ (wo_dk q14 fd5)
          have xd1 := ((wo_same (D := p) ed5).trans w15) _ _ xd1
          have xd2 := ((wo_same (D := p) ed5).trans w15) _ _ xd2
          have xd3 := ((wo_same (D := p) ed5).trans w15) _ _ xd3
          have xd4 := ((wo_same (D := p) ed5).trans w15) _ _ xd4
          generalize upd M12 p (.ins C dx (putF "_courses" (.ref d5) [("_parents", .ref qP), ("_lots", .ref qL), ("_names", .ref qN), ("_new", .ref qW), ("_children", .ref qC), ("_home", .ref D), ("_parts", .non), ("_constants", .non), ("_places", .ref d1), ("_having", .ref d2), ("_leads", .ref d3), ("_aims", .ref d4)])) = A15 at q15 kk15 xd1 xd2 xd3 xd4 xd5 ⊢
          refine kQ nf good A15 (k8.trans (keep_wo kk15)) ⟨dx, ⟨qP, qL, qN, qW, qC, D, d1, d2, d3, d4, d5⟩, ls, nl, ul, us, kvs, q15, ?_⟩
          have up : Same (Wo p A8) A15 := kk15.trans wo_le
          exact ⟨up _ _ cP8, LW8.same up, NW8.same up, WW8.same up, CW8.same up, up _ _ cH8, wo_le _ _ xd1, wo_le _ _ xd2, wo_le _ _ xd3, wo_le _ _ xd4, wo_le _ _ xd5⟩
end
end L2.LawH
set_option Elab.async false
set_option linter.all false
set_option maxRecDepth 100000
set_option maxHeartbeats 4000000
/-! Question.nodes, children, text. -/
namespace L2.LawH
open PySem PySem.Spec PyProof.Rows L2.TxtSet TL L2.NSet PySem.W L2.Cmp L2.Rws L2.ZipL L2.ExcN RT RZ
abbrev sNodQ : Stmt := inClass (top 30) 1
abbrev sChiQ : Stmt := inClass (top 30) 13
abbrev sTxtQ : Stmt := inClass (top 30) 35
/-- reversed of a tuple -/
theorem walk_revT {K : PySem.W.Frag} {a : Addr} {xs : List V} : L2.Walk (ItvT K a xs.length) xs.length (fun H => SqT K H a xs) (fun i H x H' => H' = H ∧ xs[xs.length - 1 - i]? = some x) :=
  ⟨fun i _ hi q => ⟨hi, xs, xs[xs.length - 1 - i]'(by omega), q, by simp [show xs.length - 1 - i < xs.length by omega]⟩, fun _ _ => Nat.le_refl _, fun _ _ _ _ _ q y => ⟨y.1, y.2 xs q⟩⟩
theorem walk_zipT {K : PySem.W.Frag} {a b : Addr} {xs ys : List V} {n : Nat} (hn : n = min xs.length ys.length) : L2.Walk (ItzT K a b) n (fun H => SqT K H a xs ∧ SqT K H b ys) (YPair (fun i => xs[i]?) (fun i => ys[i]?)) := by
  subst hn
  refine ⟨fun i _ hi q => ?_, fun _ q => ⟨xs, ys, q.1, q.2, by omega⟩, fun i H v H' _ q y => ?_⟩
  · have h1 : i < xs.length := by omega
    have h2 : i < ys.length := by omega
    exact ⟨xs, ys, xs[i], ys[i], q.1, q.2, by simp [h1], by simp [h2]⟩
  · obtain ⟨T, x, z, h1, h2, h3, h4, h5⟩ := y
    exact ⟨T, x, z, h1, h2, h3, h4 xs q.1, h5 ys q.2⟩
theorem call_list_ofK {X : Cx} {K : PySem.W.Frag} (e : X.K = K) : CallR X (.type "list") (fun xs H Q => ∃ p ys, xs = [.ref p] ∧ (SqL K H p ys ∨ SqT K H p ys) ∧ ∀ l, H l = none → Q (.ref l) (upd H l (.lst ys))) := by
  subst e
  exact call_list_of
/-- a node that is told, or written by the law: its lot is a list -/
structure Nl where
  t : Addr
  p : Option Nat
  l : Addr
  ys : List Pt
def Nl.nd (x : Nl) : Nd := (x.p, x.ys.map (·.2))
structure NlAt (H : Hp) (x : Nl) : Prop where
  tu : H x.t = some (.tup [pV x.p, .ref x.l])
  li : H x.l = some (.lst (x.ys.map fun y => V.ref y.1))
  ea : ∀ y ∈ x.ys, H y.1 = some (.tup (ptV y))
theorem NlAt.same {H H' : Hp} (s : Same H H') {x : Nl} (h : NlAt H x) : NlAt H' x := ⟨s _ _ h.tu, s _ _ h.li, fun y m => s _ _ (h.ea y m)⟩
structure NlsAt (H : Hp) (N : Addr) (xs : List Nl) : Prop where
  sq : H N = some (.lst (xs.map fun x => V.ref x.t))
  ea : ∀ x ∈ xs, NlAt H x
theorem NlsAt.same {H H' : Hp} (s : Same H H') {N : Addr} {xs : List Nl} (h : NlsAt H N xs) : NlsAt H' N xs := ⟨s _ _ h.sq, fun x m => (h.ea x m).same s⟩
def spNodQ (C : Addr) : Sp := fun vs H Q _ => ∃ (a : Addr) (τ : List Nd), vs = [.ref a] ∧ QAt C H a τ ∧ τ.length ≤ 1000 ∧ ∀ (H' : Hp) (N : Addr) (xs : List Nl), Same H H' → H N = none → NlsAt H' N xs → xs.map Nl.nd = τ → Q (.ref N) H'
def spChiQ (C : Addr) : Sp := fun vs H Q _ => ∃ (a : Addr) (τ : List Nd) (k : Nat), vs = [.ref a, .int (k : Nat)] ∧ QAt C H a τ ∧ k < τ.length ∧ ∀ u : Addr, H u = some (.tup (intsV (kids (prs τ) k))) → Q (.ref u) H
def txS (τ : List Nd) : Str := ⟨(joinL [10] (tlin (prs τ) (lo τ))).toArray⟩
theorem tl_txS (τ : List Nd) : tl (txS τ) = joinL [10] (tlin (prs τ) (lo τ)) := by simp [txS, tl]
def spTxtQ (C : Addr) : Sp := fun vs H Q _ => ∃ (a : Addr) (τ : List Nd), vs = [.ref a] ∧ QAt C H a τ ∧ Wf (prs τ) ∧ 0 < τ.length ∧ τ.length ≤ 100 ∧ (∀ x ∈ τ, x.2.length ≤ 20 ∧ ∀ c ∈ x.2, Fct c) ∧ ∀ H', Same H H' → Q (.str (txS τ)) H'
section
variable {P : Program} {w : World} {K : PySem.W.Frag} {mg : Str → Option Value} {base : Heap}
abbrev nNodQ : List Str := ["self", "parent", "lot"]
theorem scNodQ : FnScope nNodQ ["self"] (defScope sNodQ) := ⟨rfl, rfl, rfl, by decide +kernel, rfl, by decide +kernel, by decide +kernel⟩
theorem ok_nodQ {f C : Addr} {fd : FuncData} (F : Fun K "nodes" "Question.nodes" sNodQ f fd) (T : ClQ K C) (mz : mg "zip" = none) (mL : mg "list" = none) : FnOk P w K mg base CX0 1 f fd ["self"] (spNodQ C) := by
  refine F.ok scNodQ (fun vs H Q E h => ?_) (fun cdv A outer s H vs Q E hr h => ?_)
  · obtain ⟨_, _, rfl, _⟩ := h
    rfl
  · obtain ⟨a, τ, rfl, qa, l1, k⟩ := h
    obtain ⟨dx, r, ls, nl, ul, us, kvs, h1, h2, h3, _⟩ := qa.ex
    refine ⟨_, pss_one (ps_ret (pe_lc (own := [("parent", 1), ("lot", 2)]) (g := gTup K 2 (gCons (gName 1) (gCons (gName 2) gNil))) (tt := tYes) rfl scNodQ.nd (pi_zipA (by rfl) mz (pa_cons (pe_fld (pv 0) rfl) (pa_cons (pe_fld (pv 0) rfl) pa_nil)))
          (blkOk_by (own := [("parent", 1), ("lot", 2)]) (N := nNodQ) (sc := defScope sNodQ) (by decide +kernel)) (fun _ _ _ _ _ => pg_tup (by rfl) (pgs_cons (pg_name (i := 1) scNodQ.nd rfl (Or.inl rfl)) (pgs_cons (pg_name (i := 2) scNodQ.nd rfl (Or.inl rfl)) pgs_nil))) (fun _ _ _ _ _ => pts_nil)
          (fun _ _ _ _ _ => pe_tup (pa_cons (pv 1) (pa_cons (pe_callTy (call_list_ofK (K := K) rfl) (by rfl) mL (by decide +kernel) (pa_cons (pv 2) pa_nil)) pa_nil))))), ?_⟩
    have lps : (prs τ).length = τ.length := List.length_map _
    refine ⟨_, rfl, a, C, dx, _, _, rfl, h1, T.cl, T.n1, rfl, _, rfl, a, C, dx, _, _, rfl, h1, T.cl, T.n2, rfl, r.pt, r.lt, _, _, rfl, .inr ⟨SqT.of h2, SqT.of h3.tu, fun D nD => ?_⟩⟩
    refine lc_acc (walk_zipT (K := K) (xs := (prs τ).map pV) (ys := ls.map fun x => V.ref x.1) (n := τ.length) (by rw [List.length_map, List.length_map, List.length_map, h3.ln, Nat.min_self])) (fun Hh i acc => ∃ xs : List Nl, acc = xs.map (fun x => V.ref x.t) ∧ (∀ x ∈ xs, NlAt Hh x) ∧ xs.map Nl.nd = τ.take i) nD (by omega) (fun H' s' => ⟨SqT.of (s' _ _ h2), SqT.of (s' _ _ h3.tu)⟩)
      (fun Hq Hr i acc s' h => by
        obtain ⟨xs, e1, e2, e3⟩ := h
        exact ⟨xs, e1, fun x m => (e2 x m).same s', e3⟩) ⟨[], rfl, fun _ m => (by cases m), rfl⟩ (fun i x H5 H6 acc hi s5 hD r' la yy Yes No yes no => ?_) (fun H5 acc s5 hD la r' => ?_)
    · obtain ⟨T', x, y, rfl, nT, rfl, ex, ey⟩ := yy
      have s6 : Same H5 (upd H5 T' (.tup [x, y])) := same_new nT
      have c6 : (upd H5 T' (.tup [x, y])) T' = some (.tup [x, y]) := upd_same
      generalize upd H5 T' (.tup [x, y]) = H6 at s6 c6 ⊢
      have ex : ((prs τ).map pV)[i]? = some x := ex
      have ey : (ls.map fun x => V.ref x.1)[i]? = some y := ey
      have ht : τ[i]? = some τ[i] := List.getElem?_eq_getElem hi
      generalize τ[i] = nd at ht
      rw [List.getElem?_map, List.getElem?_map, ht] at ex
      have ex : pV nd.1 = x := Option.some.inj ex
      subst ex
      rw [List.getElem?_map] at ey
      obtain ⟨l, hl, rfl⟩ := Option.map_eq_some_iff.mp ey
      obtain ⟨g1, g2, g3⟩ := h3.ea i l hl
      rw [lo_at ht] at g3
      obtain ⟨xs, rfl, hxs, exs⟩ := r'
      have s56 := s5.trans s6
      refine ⟨T', _, rfl, SqT.of c6, rfl, _, _, rfl, _, _, rfl, rfl, rfl, ?_⟩
      refine tyes_go ⟨_, rfl, _, rfl, l.1, _, rfl, .inr (SqT.of (s56 _ _ g1)), fun q nq => ?_⟩
      have s7 : Same H6 (upd H6 q (.lst (l.2.map fun x => V.ref x.1))) := same_new nq
      have c7 : (upd H6 q (.lst (l.2.map fun x => V.ref x.1))) q = some (.lst (l.2.map fun x => V.ref x.1)) := upd_same
      have qD : q ≠ D := fun e => by rw [e, s6 _ _ hD] at nq; cases nq
      generalize upd H6 q (.lst (l.2.map fun x => V.ref x.1)) = H7 at s7 c7 ⊢
      refine ⟨(by show 2 ≤ sizeLine; decide), fun t nt => ?_⟩
      have s8 : Same H7 (upd H7 t (.tup [pV nd.1, .ref q])) := same_new nt
      have c8 : (upd H7 t (.tup [pV nd.1, .ref q])) t = some (.tup [pV nd.1, .ref q]) := upd_same
      have tD : t ≠ D := fun e => by rw [e, s7 _ _ (s6 _ _ hD)] at nt; cases nt
      generalize upd H7 t (.tup [pV nd.1, .ref q]) = H8 at s8 c8 ⊢
      have s68 := s7.trans s8
      refine yes _ _ (s6.trans s68) ⟨xs ++ [⟨t, nd.1, q, l.2⟩], by simp, fun x m => ?_, ?_⟩
      · rcases List.mem_append.mp m with m | m
        · exact (hxs x m).same (wo_same (s6.trans s68))
        · rw [List.mem_singleton.mp m]
          refine ⟨wo_new c8 tD, wo_new (s8 _ _ c7) qD, fun y my => ?_⟩
          have g := s68 _ _ (s56 _ _ (g2 y my))
          exact wo_new g fun z => by rw [z, s68 _ _ (s6 _ _ hD)] at g; cases g
      · rw [List.map_append, exs, take_snoc ht]
        show _ ++ [(nd.1, l.2.map (·.2))] = _
        rw [g3]
    · obtain ⟨xs, rfl, hxs, exs⟩ := r'
      rw [List.take_length] at exs
      exact k H5 D xs s5 nD ⟨hD, fun x m => (hxs x m).same wo_le⟩ exs
theorem scChiQ : FnScope ["self", "node"] ["self", "node"] (defScope sChiQ) := ⟨rfl, rfl, rfl, by decide +kernel, rfl, by decide +kernel, by decide +kernel⟩
theorem ok_chiQ {f C : Addr} {fd : FuncData} (F : Fun K "children" "Question.children" sChiQ f fd) (T : ClQ K C) : FnOk P w K mg base CX0 1 f fd ["self", "node"] (spChiQ C) := by
  refine F.ok scChiQ (fun vs H Q E h => ?_) (fun cdv A outer s H vs Q E hr h => ?_)
  · obtain ⟨_, _, _, rfl, _⟩ := h
    rfl
  · obtain ⟨a, τ, kk, rfl, qa, lk, k⟩ := h
    obtain ⟨dx, r, ls, nl, ul, us, kvs, h1, h2, h3, h4, h5, h6, _⟩ := qa.ex
    refine ⟨_, pss_one (ps_ret (pe_ix ix_tup (pe_fld (pv 0) rfl) (pv 1) (fun _ _ => rfl))), ?_⟩
    have lps : (prs τ).length = τ.length := List.length_map _
    have lu : kk < us.length := by
      have := h6.ln
      omega
    have hu : us[kk]? = some us[kk] := List.getElem?_eq_getElem lu
    generalize us[kk] = u at hu
    obtain ⟨g1, g2⟩ := h6.ea kk u hu
    refine ⟨_, rfl, a, C, dx, _, _, rfl, h1, T.cl, T.n5, rfl, _, rfl, r.ch, _, _, .ref u.1, rfl, rfl, SqT.of h6.tu, atI_nat (j := kk) (by rw [List.getElem?_map, hu]; rfl), ?_⟩
    exact k u.1 (by rw [← g2]; exact g1)
end
end L2.LawH
set_option Elab.async false
set_option linter.all false
set_option maxRecDepth 100000
set_option maxHeartbeats 4000000
/-! Question.text. -/
namespace L2.LawH
open PySem PySem.Spec PyProof.Rows L2.TxtSet TL L2.NSet PySem.W L2.Cmp L2.Rws L2.ZipL L2.ExcN RT RZ
theorem dp_le {ps : List (Option Nat)} (w : Wf ps) : ∀ (n k : Nat), k ≤ n → dp ps k ≤ k := by
  intro n
  induction n with
  | zero =>
    intro k h
    have : k = 0 := by omega
    subst this
    rw [dp_root w.rt]
    exact Nat.le_refl _
  | succ n ih =>
    intro k h
    cases e : pa ps k with
    | none =>
      rw [dp_root e]
      exact Nat.zero_le _
    | some p =>
      have := w.lt e
      have := ih p (by omega)
      rw [dp_step w e]
      omega
def linS (τ : List Nd) (k : Nat) : Str := ⟨(lin (dp (prs τ) k) (lo τ k)).toArray⟩
theorem tl_linS (τ : List Nd) (k : Nat) : tl (linS τ k) = lin (dp (prs τ) k) (lo τ k) := by simp [linS, tl]
theorem ltl_len {cs : List Fc} (h : ∀ c ∈ cs, Fct c) : (ltl cs).length ≤ 58 * cs.length + 1 := by
  have key : ∀ cs : List Fc, (∀ c ∈ cs, Fct c) → (joinL [32] (cs.map ptl)).length ≤ 58 * cs.length := by
    intro cs
    induction cs with
    | nil => intro _; exact Nat.zero_le _
    | cons c cs ih =>
      intro h
      have l := ptl_len (h c List.mem_cons_self)
      have i := ih fun d hd => h d (List.mem_cons_of_mem _ hd)
      cases cs with
      | nil =>
        show (ptl c).length ≤ 58 * 1
        omega
      | cons d cs =>
        rw [List.map_cons, joinL_cons _ _ (by simp), List.length_append, List.length_append]
        have e1 : ([32] : List Nat).length = 1 := rfl
        have e2 : (c :: d :: cs).length = (d :: cs).length + 1 := rfl
        omega
  unfold ltl
  by_cases e : cs = []
  · rw [if_pos e]
    simp
  · rw [if_neg e]
    exact Nat.le_succ_of_le (key cs h)
abbrev Wt := Addr × Nat
section
variable {P : Program} {w : World} {K : PySem.W.Frag} {mg : Str → Option Value} {base : Heap}
abbrev nTxtQ : List Str := ["self", "lines", "waiting", "node", "depth", "child"]
theorem scTxtQ : FnScope nTxtQ ["self"] (defScope sTxtQ) := ⟨rfl, rfl, rfl, by decide +kernel, rfl, by decide +kernel, by decide +kernel⟩
theorem ok_txtQ {f fL fC C : Addr} {fd fdL fdC : FuncData} (F : Fun K "text" "Question.text" sTxtQ f fd) (T : ClQ K C)
    (GL : FnOk P w K mg base CX0 2 fL fdL ["lot"] spLotT) (kL : PySem.W.keepIn K (.ref fL) = true) (bL : Binds K fdL ["lot"] []) (mL : mg "lot_text" = some (.ref fL))
    (GC : FnOk P w K mg base CX0 1 fC fdC ["self", "node"] (spChiQ C)) (hC : Meth K C "children" fC) (bC : Binds K fdC ["self", "node"] [])
    (mrv : mg "reversed" = none) : FnOk P w K mg base CX0 3 f fd ["self"] (spTxtQ C) := by
  refine F.ok scTxtQ (fun vs H Q E h => ?_) (fun cdv A outer s H vs Q E hr h => ?_)
  · obtain ⟨_, _, rfl, _⟩ := h
    rfl
  · obtain ⟨a, τ, rfl, qa, wf, l0, l1, fo, k⟩ := h
    obtain ⟨dx, r, ls, nl, ul, us, kvs, h1, h2, h3, _⟩ := qa.ex
    have hr1 : Room 1 _ := hr.mono (by decide)
    refine ⟨_, pss_cons (ps_set (i := 1) scTxtQ.nd rfl (Or.inl rfl) (pe_lst pa_nil))
      (pss_cons (ps_set (i := 2) scTxtQ.nd rfl (Or.inl rfl) (pe_lst (pa_cons (pe_tup (pa_cons pe_int (pa_cons pe_int pa_nil))) pa_nil)))
      (pss_cons (ps_while PassesOwn.never (pt_truth (pv 2) (by intro _; rfl))
        (pss_cons (ps_asg (pe_bm0 PySem.F.plainAttrs_list PySem.F.slot_list_pop PySem.F.type_list_pop mt_pop (pv 2)) (pg_tup (by rfl) (pgs_cons (pg_name (i := 3) scTxtQ.nd rfl (Or.inl rfl)) (pgs_cons (pg_name (i := 4) scTxtQ.nd rfl (Or.inr rfl)) pgs_nil))))
        (pss_cons (ps_expr (pe_bm PySem.F.plainAttrs_list PySem.F.slot_list_append PySem.F.type_list_append mt_append (pv 1) (pa_cons (pe_op op_add_str (pe_op op_mul_str pe_str (pv 4)) (pe_call GL hr (by rfl) mL kL bL .nil pass0 (pa_cons (pe_ix ix_tup (pe_fld (pv 0) rfl) (pv 3) (fun _ _ => rfl)) pa_nil))) pa_nil)))
        (pss_one (ps_expr (pe_bm PySem.F.plainAttrs_list PySem.F.slot_list_extend PySem.F.type_list_extend mt_extend (pv 2) (pa_cons
          (pe_lc (own := [("child", 5)]) (g := gName 5) (tt := tYes) rfl scTxtQ.nd (pi_revA (by rfl) mrv (pe_meth (pv 0) T.cl hC GC hr1 bC .nil pass0 (pa_cons (pv 3) pa_nil)))
            (blkOk_by (own := [("child", 5)]) (N := nTxtQ) (sc := defScope sTxtQ) (by decide +kernel)) (fun _ _ _ _ _ => pg_name (i := 5) scTxtQ.nd rfl (Or.inl rfl)) (fun _ _ _ _ _ => pts_nil)
            (fun _ _ _ _ _ => pe_tup (pa_cons (pv 5) (pa_cons (pe_op op_add (pv 4) pe_int) pa_nil)))) pa_nil)))))))
      (pss_one (ps_ret (pe_join pe_str (pv 1)))))), ?_⟩
    have lps : (prs τ).length = τ.length := List.length_map _
    refine ⟨(by show 0 ≤ sizeLine; decide), fun L nL => ?_⟩
    have u1 : Same H (upd H L (.lst [])) := same_new nL
    have c1 : (upd H L (.lst [])) L = some (.lst []) := upd_same
    generalize upd H L (.lst []) = H1 at u1 c1 ⊢
    refine ⟨(by show 2 ≤ sizeLine; decide), fun t0 nt0 => ?_⟩
    have u2 : Same H1 (upd H1 t0 (.tup [.int 0, .int 0])) := same_new nt0
    have c2 : (upd H1 t0 (.tup [.int 0, .int 0])) t0 = some (.tup [.int 0, .int 0]) := upd_same
    generalize upd H1 t0 (.tup [.int 0, .int 0]) = H2 at u2 c2 ⊢
    refine ⟨(by show 1 ≤ sizeLine; decide), fun W nW => ?_⟩
    have u3 : Same H2 (upd H2 W (.lst [.ref t0])) := same_new nW
    have c3 : (upd H2 W (.lst [.ref t0])) W = some (.lst [.ref t0]) := upd_same
    generalize upd H2 W (.lst [.ref t0]) = H3 at u3 c3 ⊢
    have LW : L ≠ W := fun e => by
      rw [← e, u2 _ _ c1] at nW
      cases nW
    have nHW : H W = none := none_of (u1.trans u2) nW
    have tL0 : t0 ≠ L := fun e => by rw [e, c1] at nt0; cases nt0
    have tW0 : t0 ≠ W := fun e => by rw [e] at c2; rw [c2] at nW; cases nW
    refine ⟨fun m σ H5 => ∃ (em : List Nat) (ws : List Wt) (v3 v4 v5 : Option V), σ = [some (.ref a), some (.ref L), some (.ref W), v3, v4, v5] ∧ m = (ws.reverse.flatMap fun x => ord (prs τ) x.2).length ∧ em ++ (ws.reverse.flatMap fun x => ord (prs τ) x.2) = ord (prs τ) 0 ∧
      H5 L = some (.lst ((em.map (linS τ)).map V.str)) ∧ H5 W = some (.lst (ws.map fun x => V.ref x.1)) ∧ (∀ x ∈ ws, x.2 < τ.length ∧ x.1 ≠ L ∧ x.1 ≠ W ∧ H5 x.1 = some (.tup [.int (x.2 : Nat), .int (dp (prs τ) x.2 : Nat)])) ∧ Same H H5,
      ⟨_, [], [(t0, 0)], none, none, none, rfl, rfl, by simp, u3 _ _ (u2 _ _ c1), c3, fun x m => ?_, (u1.trans u2).trans u3⟩, fun m σ H5 inv => ?_⟩
    · rw [List.mem_singleton.mp m]
      refine ⟨l0, tL0, tW0, ?_⟩
      rw [dp_root wf.rt]
      exact u3 _ _ c2
    · obtain ⟨em, ws, v3, v4, v5, rfl, em1, em2, hL, hW, hws, s5⟩ := inv
      have lenO : (ord (prs τ) 0).length ≤ τ.length := by
        have := nodup_len (ord (prs τ) 0) (List.range τ.length) (ord_nodup wf 0) fun j hj => List.mem_range.mpr (by rw [← lps]; exact ord_lt wf 0 (by omega) j hj)
        rwa [List.length_range] at this
      have lem : em.length ≤ 100 := by
        have := congrArg List.length em2
        rw [List.length_append] at this
        omega
      refine ⟨_, rfl, !(ws.map fun x => V.ref x.1).isEmpty, .inl ⟨_, SqL.of hW, rfl⟩, ?_⟩
      rcases List.eq_nil_or_concat ws with rfl | ⟨ws', x, rfl⟩
      · -- nothing waits
        refine iteF ?_
        have eo : em = ord (prs τ) 0 := by simpa using em2
        refine ⟨⟨_, rfl⟩, _, rfl, _, L, _, rfl, rfl, .inl (SqL.of hL), ?_, ?_⟩
        · rw [show (Str.ofString "\n").length = 1 by decide +kernel, List.length_map, Nat.mul_one]
          have := sum_le 2000 (em.map (linS τ)) fun y hy => by
            obtain ⟨j, hj, rfl⟩ := List.mem_map.mp hy
            rw [len_tl, tl_linS]
            unfold lin
            rw [List.length_append, List.length_replicate]
            have lj : j < τ.length := by
              rw [← lps]
              exact ord_lt wf 0 (by omega) j (eo ▸ hj)
            have d := dp_le wf j j (Nat.le_refl _)
            have lj2 := ltl_len (lo_fct (fun x hx => (fo x hx).2) j)
            have lj3 : (lo τ j).length ≤ 20 := by
              rw [lo_at (List.getElem?_eq_getElem lj)]
              exact (fo _ (List.getElem_mem lj)).1
            omega
          rw [List.length_map] at this
          omega
        · have e : Txt.join (Str.ofString "\n") (em.map (linS τ)) = txS τ := by
            refine ext_tl ?_
            rw [join_eq, tl_join, tl_txS, show tl (Str.ofString "\n") = [10] by decide +kernel, List.map_map, eo]
            unfold tlin
            exact congrArg _ (List.map_congr_left fun j _ => tl_linS τ j)
          rw [e]
          exact k H5 s5
      · rw [List.concat_eq_append] at *
        obtain ⟨t, kk⟩ := x
        obtain ⟨lk, tL, tW, ht⟩ := hws (t, kk) (by simp)
        have lk : kk < τ.length := lk
        have tL : t ≠ L := tL
        have tW : t ≠ W := tW
        have ht : H5 t = some (.tup [.int (kk : Nat), .int (dp (prs τ) kk : Nat)]) := ht
        refine ifT (by simp) ⟨_, fun σ' H' q => q, ?_⟩
        have hW' : H5 W = some (.lst ((ws'.map fun x => V.ref x.1) ++ [.ref t])) := by rw [hW]; simp
        refine ⟨_, rfl, .inl ⟨rfl, _, .inl (.inl hW')⟩, W, _, .ref t, rfl, rfl, hW', by simp, ?_⟩
        rw [List.dropLast_concat]
        have kW : ∀ b o, b ≠ W → H5 b = some o → (upd H5 W (.lst (ws'.map fun x => V.ref x.1))) b = some o := fun b o ne e => by rw [upd_ne ne]; exact e
        have cW : (upd H5 W (.lst (ws'.map fun x => V.ref x.1))) W = some (.lst (ws'.map fun x => V.ref x.1)) := upd_same
        generalize upd H5 W (.lst (ws'.map fun x => V.ref x.1)) = H6 at kW cW ⊢
        have s6 : Same H H6 := fun b o e => kW b o (fun z => by rw [z, nHW] at e; cases e) (s5 _ _ e)
        have hL6 := kW _ _ LW hL
        have ht6 := kW _ _ tW ht
        refine ⟨t, _, rfl, SqT.of ht6, rfl, _, _, rfl, _, _, rfl, rfl, ?_⟩
        -- the line
        have dk := dp_le wf kk kk (Nat.le_refl _)
        obtain ⟨l, hl⟩ : ∃ l, ls[kk]? = some l := ⟨ls[kk]'(by rw [h3.ln]; exact lk), List.getElem?_eq_getElem _⟩
        obtain ⟨g1, g2, g3⟩ := h3.ea kk l hl
        have lotk : lo τ kk = τ[kk].2 := lo_at (List.getElem?_eq_getElem lk)
        have fok := fo _ (List.getElem_mem lk)
        rw [← lotk] at fok
        have ll : l.2.length ≤ 20 := by
          have := congrArg List.length g3
          rw [List.length_map] at this
          omega
        have mo : MulOk (Str.ofString " ") ((dp (prs τ) kk : Nat) : Int) := mul_ok (by rw [show (Str.ofString " ").length = 1 by decide +kernel]; omega) (by omega)
        refine ⟨_, rfl, .inl ⟨rfl, _, .inl (.inl hL6)⟩, _, rfl, _, _, rfl, rfl, mo, _, rfl, a, C, dx, _, _, rfl, s6 _ _ h1, T.cl, T.n2, rfl, _, rfl, r.lt, _, _, .ref l.1, rfl, rfl, SqT.of (s6 _ _ h3.tu), atI_nat (j := kk) (by rw [List.getElem?_map, hl]; rfl), ?_⟩
        refine ⟨l.1, l.2, rfl, s6 _ _ g1, fun x m => ⟨s6 _ _ (g2 x m), fok.2 _ (by rw [← g3]; exact List.mem_map_of_mem m)⟩, by omega, fun H7 s67 => ?_⟩
        rw [g3]
        have lenLot : (ltS (lo τ kk)).length ≤ 1200 := by
          rw [len_tl, tl_ltS]
          have := ltl_len fok.2
          omega
        refine ⟨_, _, rfl, rfl, ?_, ?_⟩
        · rw [mul_len, show (Str.ofString " ").length = 1 by decide +kernel, sizeLine_eq]
          omega
        have eLine : Txt.mul (Str.ofString " ") ((dp (prs τ) kk : Nat) : Int) ++ ltS (lo τ kk) = linS τ kk := by
          refine ext_tl ?_
          rw [tl_append, tl_mul, tl_ltS, tl_linS, show tl (Str.ofString " ") = [32] by decide +kernel, flat_one]
          rfl
        rw [eLine]
        have hL7 := s67 _ _ hL6
        have hW7 := s67 _ _ cW
        refine ⟨L, _, _, rfl, rfl, hL7, by rw [List.length_map, List.length_map, sizeLine_eq]; omega, ?_⟩
        have kL : ∀ b o, b ≠ L → H7 b = some o → (upd H7 L (.lst ((em.map (linS τ)).map V.str ++ [V.str (linS τ kk)]))) b = some o := fun b o ne e => by rw [upd_ne ne]; exact e
        have cL : (upd H7 L (.lst ((em.map (linS τ)).map V.str ++ [V.str (linS τ kk)]))) L = some (.lst (((em ++ [kk]).map (linS τ)).map V.str)) := by rw [upd_same]; simp
        generalize upd H7 L (.lst ((em.map (linS τ)).map V.str ++ [V.str (linS τ kk)])) = H8 at kL cL ⊢
        have nHL : H L = none := nL
        have s8 : Same H H8 := fun b o e => kL b o (fun z => by rw [z, nHL] at e; cases e) (s67 _ _ (s6 _ _ e))
        have hW8 := kL _ _ LW.symm hW7
        -- the children
        refine ⟨_, rfl, .inl ⟨rfl, _, .inl (.inl hW8)⟩, _, rfl, a, dx, _, rfl, s8 _ _ h1, rfl, _, rfl, a, τ, kk, rfl, qa.same s8, lk, fun u hu => ?_⟩
        refine ⟨u, _, rfl, .inr ⟨SqT.of hu, fun D nD => ?_⟩⟩
        have lki : (intsV (kids (prs τ) kk)).length = (kids (prs τ) kk).length := List.length_map _
        have lkk : (kids (prs τ) kk).length ≤ 100 := by
          unfold kids
          refine Nat.le_trans (List.length_filter_le _ _) ?_
          rw [List.length_range]
          omega
        refine lc_acc (walk_revT (K := K) (xs := intsV (kids (prs τ) kk))) (fun Hh i acc => ∃ ns : List Wt, acc = ns.map (fun x => V.ref x.1) ∧ ns.map (·.2) = ((kids (prs τ) kk).reverse).take i ∧ ∀ x ∈ ns, x.1 ≠ L ∧ x.1 ≠ W ∧ Hh x.1 = some (.tup [.int (x.2 : Nat), .int (dp (prs τ) kk + 1 : Nat)])) nD (by rw [lki]; omega) (fun H' s' => SqT.of (s' _ _ hu))
          (fun Hq Hr i acc s' h => by
            obtain ⟨ns, e1, e2, e3⟩ := h
            exact ⟨ns, e1, e2, fun x m => ⟨(e3 x m).1, (e3 x m).2.1, s' _ _ (e3 x m).2.2⟩⟩) ⟨[], rfl, rfl, fun _ m => (by cases m)⟩ (fun i x H9 H10 acc hi s9 hD r' la yy Yes No yes no => ?_) (fun H9 acc s9 hD la r' => ?_)
        · obtain ⟨rfl, hx⟩ := yy
          rw [lki] at hi hx
          have hx : (intsV (kids (prs τ) kk))[(kids (prs τ) kk).length - 1 - i]? = some x := hx
          rw [List.getElem?_map] at hx
          obtain ⟨c, hc, rfl⟩ := Option.map_eq_some_iff.mp hx
          have hc' : ((kids (prs τ) kk).reverse)[i]? = some c := by
            rw [List.getElem?_reverse hi]
            exact hc
          obtain ⟨ns, rfl, e2, e3⟩ := r'
          refine ⟨rfl, tyes_go ?_⟩
          refine ⟨_, rfl, _, rfl, _, _, rfl, rfl, (by show 2 ≤ sizeLine; decide), fun q nq => ?_⟩
          have ed : ((dp (prs τ) kk : Nat) : Int) + 1 = ((dp (prs τ) kk + 1 : Nat) : Int) := by omega
          dsimp only
          rw [ed]
          have s10 : Same H10 (upd H10 q (.tup [.int (c : Nat), .int (dp (prs τ) kk + 1 : Nat)])) := same_new nq
          have c10 : (upd H10 q (.tup [.int (c : Nat), .int (dp (prs τ) kk + 1 : Nat)])) q = some (.tup [.int (c : Nat), .int (dp (prs τ) kk + 1 : Nat)]) := upd_same
          have qD : q ≠ D := fun e => by rw [e, hD] at nq; cases nq
          have qL : q ≠ L := fun e => by rw [e, s9 _ _ cL] at nq; cases nq
          have qW : q ≠ W := fun e => by rw [e, s9 _ _ hW8] at nq; cases nq
          refine yes _ _ s10 ⟨ns ++ [(q, c)], by simp, ?_, fun x m => ?_⟩
          · rw [List.map_append, e2, take_snoc hc']
            rfl
          · rcases List.mem_append.mp m with m | m
            · exact ⟨(e3 x m).1, (e3 x m).2.1, wo_same s10 _ _ (e3 x m).2.2⟩
            · rw [List.mem_singleton.mp m]
              exact ⟨qL, qW, wo_new c10 qD⟩
        · obtain ⟨ns, rfl, e2, e3⟩ := r'
          rw [lki, ← List.length_reverse, List.take_length] at e2
          have lns : ns.length ≤ 100 := by
            have := congrArg List.length e2
            rw [List.length_map, List.length_reverse] at this
            omega
          have lws : ws'.length ≤ 100 := by
            have := congrArg List.length em2
            rw [List.length_append, List.reverse_append, List.flatMap_append, List.length_append] at this
            have key : ∀ zs : List Wt, zs.length ≤ (zs.flatMap fun x => ord (prs τ) x.2).length := by
              intro zs
              induction zs with
              | nil => simp
              | cons z zs ih =>
                rw [List.flatMap_cons, List.length_append, List.length_cons, ord_eq wf, List.length_cons]
                omega
            have k1 := key ws'.reverse
            rw [List.length_reverse] at k1
            omega
          have hW9 := s9 _ _ hW8
          refine ⟨W, D, _, _, rfl, rfl, hW9, hD, by rw [List.length_map, List.length_map, sizeLine_eq]; omega, ?_⟩
          have ordk := ord_eq wf kk
          have fl : (ws' ++ ns).reverse.flatMap (fun x => ord (prs τ) x.2) = (kids (prs τ) kk).flatMap (ord (prs τ)) ++ ws'.reverse.flatMap fun x => ord (prs τ) x.2 := by
            rw [List.reverse_append, List.flatMap_append]
            congr 1
            have : ns.reverse.map (·.2) = kids (prs τ) kk := by rw [List.map_reverse, e2, List.reverse_reverse]
            rw [← this, List.flatMap_map]
          rw [List.reverse_append, List.flatMap_append] at em1 em2
          have one : ([(t, kk)] : List Wt).reverse.flatMap (fun x => ord (prs τ) x.2) = ord (prs τ) kk := by simp
          rw [one, ordk] at em1 em2
          refine ⟨_, ?_, em ++ [kk], ws' ++ ns, _, _, _, rfl, rfl, ?_, ?_, by rw [upd_same]; simp, fun x m => ?_, ?_⟩
          · rw [fl, em1, List.length_append, List.length_append, List.length_cons]
            omega
          · rw [fl, ← em2]
            simp
          · rw [upd_ne LW]
            exact s9 _ _ cL
          · rcases List.mem_append.mp m with m | m
            · obtain ⟨f1, f2, f3, f4⟩ := hws x (List.mem_append_left _ m)
              refine ⟨f1, f2, f3, ?_⟩
              rw [upd_ne f3]
              exact s9 _ _ (kL _ _ f2 (s67 _ _ (kW _ _ f3 f4)))
            · obtain ⟨f2, f3, f4⟩ := e3 x m
              have xk : x.2 ∈ kids (prs τ) kk := by
                have : x.2 ∈ ns.map (·.2) := List.mem_map_of_mem m
                rw [e2] at this
                exact List.mem_reverse.mp this
              have px := kids_mem.mp xk
              refine ⟨by rw [← lps]; exact pa_lt px, f2, f3, ?_⟩
              rw [upd_ne f3, dp_step wf px]
              exact wo_le _ _ f4
          · intro b o e
            rw [upd_ne fun z => by rw [z, nHW] at e; cases e]
            exact s9 _ _ (s8 _ _ e)
end
end L2.LawH
set_option Elab.async false
set_option linter.all false
set_option maxRecDepth 100000
set_option maxHeartbeats 4000000
/-! The operators of an own class: a + b, a - b, x in a, len(a), and a walk by its own __iter__ that tells iter of a tuple. -/
namespace L2.OwnOp
open PySem PySem.Spec PyProof.Rows
section
variable {X : Cx} {n : Nat} {pins : List (Addr × Obj)} {σ : St} {H : Hp} {s : Shared} {CX : CXT} {f : Addr} {fd : FuncData} {ps : List Str} {sp : Sp} {E : XK}
/-- an own def's call somewhere below -/
theorem run_own (F : FnOk X.prog X.w X.K X.mg X.base CX n f fd ps sp) (hb : Binds X.K fd ps []) (hx : Passes CX X E) {A : Around} (sb : Sub X n A) (I : Inv X pins σ H s) {vs : List V} {us : List Value} {Q : VK} (rv : Vals vs us) (want : sp vs H Q E) :
    wpAny (model X.prog X.w) A (call (.ref f) us) (fun u s' => CE X.stack X.prog X.w H s Q u s') X.xe s := by
  have e0 : Env0 X.prog X.w X.K X.mg X.base A X.stack s H := by
    have e := I.env0
    have sf : A.frames = X.A.frames := sb.fr
    exact ⟨by rw [sf]; exact e.frames, e.mod, e.bs, e.bsz, e.funs, e.frf, e.hok, e.bare⟩
  have hl := F.len _ _ _ _ want
  refine wpAny_call (codeAny_mono (F.run A X.stack s H ⟨us, []⟩ us vs _ E sb.room e0 (by
    have := hb s us I.kIn (by rw [List.append_nil, ← rv.length]; exact hl)
    simpa using this) rv want) fun r s' hq => ?_)
  cases r with
  | error e => exact hx pins σ H s e s' I hq
  | ok fl =>
    cases fl with
    | ret z => exact hq
    | next => exact False.elim hq
    | brk => exact False.elim hq
    | cont => exact False.elim hq
/-- the class of what stands at the left, and its def of that name -/
structure OwnM (X : Cx) (C f : Addr) (nm : Str) : Prop where
  fi : PySem.W.findIn X.K (.ref C) nm = some (some (.ref f))
  fn : PySem.W.isFn X.K (.ref f) = true
/-- x in p, p an instance -/
def rInOwn (C : Addr) (sp : Sp) : R2 := fun x y H Q => ∃ p dx fs, y = .ref p ∧ H p = some (.ins C dx fs) ∧ sp [.ref p, x] H (fun v H' => ∃ b, v = .bl b ∧ Q (.bl b) H') E0
def rNotInOwn (C : Addr) (sp : Sp) : R2 := fun x y H Q => ∃ p dx fs, y = .ref p ∧ H p = some (.ins C dx fs) ∧ sp [.ref p, x] H (fun v H' => ∃ b, v = .bl b ∧ Q (.bl (!b)) H') E0
theorem op_inOwn {C : Addr} (F : FnOk X.prog X.w X.K X.mg X.base CX0 n f fd ps sp) (hb : Binds X.K fd ps []) (m : OwnM X C f "__contains__") (hr : Room n X.A) (hx : Passes CX0 X E0) : OpR X (compareOp .In) (rInOwn C sp) := by
  intro pins s σ H x y v u Q I rx ry hq
  obtain ⟨p, dx, fs, rfl, hp, want⟩ := hq
  cases ry
  obtain ⟨_, J, _⟩ := ins_get I.hok hp
  obtain ⟨od, J, _⟩ := J.look
  obtain ⟨_, fr⟩ := I.fr
  refine PySem.W.in_K fr I.mod.kin J m.fi m.fn (wpAny_mono (run_own (vs := [.ref p, x]) F hb hx ⟨hr, rfl⟩ I (.cons rfl (.cons rx .nil)) want) (fun r s' z => ?_) fun _ _ z => z)
  obtain ⟨v', H', I', rv, b, rfl, q⟩ := I.after z
  cases rv
  exact wpAny_truthy_bool ⟨.bl b, H', I', rfl, q⟩
theorem op_notInOwn {C : Addr} (F : FnOk X.prog X.w X.K X.mg X.base CX0 n f fd ps sp) (hb : Binds X.K fd ps []) (m : OwnM X C f "__contains__") (hr : Room n X.A) (hx : Passes CX0 X E0) : OpR X (compareOp .NotIn) (rNotInOwn C sp) := by
  intro pins s σ H x y v u Q I rx ry hq
  obtain ⟨p, dx, fs, rfl, hp, want⟩ := hq
  cases ry
  obtain ⟨_, J, _⟩ := ins_get I.hok hp
  obtain ⟨od, J, _⟩ := J.look
  obtain ⟨_, fr⟩ := I.fr
  refine PySem.W.notIn_K fr I.mod.kin J m.fi m.fn (wpAny_mono (run_own (vs := [.ref p, x]) F hb hx ⟨hr, rfl⟩ I (.cons rfl (.cons rx .nil)) want) (fun r s' z => ?_) fun _ _ z => z)
  obtain ⟨v', H', I', rv, b, rfl, q⟩ := I.after z
  cases rv
  exact wpAny_truthy_bool ⟨.bl (!b), H', I', rfl, q⟩
/-- a + b, a - b of two instances -/
def rBinOwn (C : Addr) (sp : Sp) : R2 := fun x y H Q => ∃ p dx fs q dy gs, x = .ref p ∧ y = .ref q ∧ H p = some (.ins C dx fs) ∧ H q = some (.ins C dy gs) ∧ sp [.ref p, .ref q] H (fun v H' => ∃ r, v = .ref r ∧ Q (.ref r) H') E0
theorem op_binOwn {C : Addr} {op : Operator} (F : FnOk X.prog X.w X.K X.mg X.base CX0 n f fd ps sp) (hb : Binds X.K fd ps []) (m : OwnM X C f (PySem.dunder op.info.2)) (hc : PySem.W.selfFirst X.K C = true) (hr : Room n X.A) (hx : Passes CX0 X E0) :
    OpR X (binaryOp op) (rBinOwn C sp) := by
  intro pins s σ H x y v u Q I rx ry hq
  obtain ⟨p, dx, fs, q, dy, gs, rfl, rfl, hp, hq, want⟩ := hq
  cases rx
  cases ry
  obtain ⟨_, J, _⟩ := ins_get I.hok hp
  obtain ⟨od, J, _⟩ := J.look
  obtain ⟨_, J2, _⟩ := ins_get I.hok hq
  obtain ⟨od2, J2, _⟩ := J2.look
  obtain ⟨_, fr⟩ := I.fr
  refine PySem.W.binop_K fr I.mod.kin J J2.type hc m.fi m.fn (wpAny_mono (run_own (vs := [.ref p, .ref q]) F hb hx ⟨hr, rfl⟩ I (.cons rfl (.cons rfl .nil)) want) (fun r s' z => ?_) fun _ _ z => z)
  obtain ⟨v', H', I', rv, b, rfl, q⟩ := I.after z
  cases rv
  exact ⟨.ref b, H', I', rfl, q⟩
/-- len(p) -/
def rLenOwn (C : Addr) (sp : Sp) : List V → Hp → VK → Prop := fun xs H Q => ∃ p dx fs, xs = [.ref p] ∧ H p = some (.ins C dx fs) ∧ sp [.ref p] H (fun v H' => ∃ k : Nat, v = .int k ∧ k < 1000000 ∧ Q (.int k) H') E0
theorem call_lenOwn {C : Addr} (F : FnOk X.prog X.w X.K X.mg X.base CX0 n f fd ps sp) (hb : Binds X.K fd ps []) (m : OwnM X C f "__len__") (hr : Room (n + 1) X.A) (hx : Passes CX0 X E0) : CallR X (.builtin "len") (rLenOwn C sp) := by
  intro pins s σ H xs us Q I rv hq
  obtain ⟨p, dx, fs, rfl, hp, want⟩ := hq
  obtain rfl := Vals.ref1 rv
  obtain ⟨_, J, _⟩ := ins_get I.hok hp
  obtain ⟨od, J, _⟩ := J.look
  obtain ⟨_, fr⟩ := I.fr
  refine PySem.W.len_K fr I.mod.kin J m.fi m.fn (wpAny_mono (run_own (vs := [.ref p]) F hb hx ⟨hr.in1, rfl⟩ I (.cons rfl .nil) want) (fun r s' z => ?_) fun _ _ z => z)
  obtain ⟨v', H', I', rv, k, rfl, lk, q⟩ := I.after z
  obtain ⟨t, rfl⟩ := rv
  refine ⟨⟨by omega, by omega⟩, .int k, H', I'.kept (t' := s'.toks + 1) fun b o e => e, ⟨_, rfl⟩, q⟩
end
/-! ### an iterator over a tuple, as a value -/
def ItTup (t it : Addr) (i : Nat) : HO := .ext fun h => h.IsTupleIter it t i
theorem itTup_ok {P : Program} {w : World} {H : Hp} {h : Heap} {t it : Addr} {i : Nat} (e : h.IsTupleIter it t i) : ObjOk P w H h it (ItTup t it i) := ⟨e, ⟨_, e.choose_spec.1⟩, fun h1 h2 q k => Heap.IsTupleIter.at q k⟩
def del (H : Hp) (a : Addr) : Hp := fun b => if b = a then none else H b
theorem del_same {H : Hp} {a : Addr} : del H a a = none := by unfold del; rw [if_pos rfl]
theorem del_ne {H : Hp} {a b : Addr} (h : b ≠ a) : del H a b = H b := by unfold del; rw [if_neg h]
theorem del_upd {H : Hp} {a : Addr} {o : HO} (h : H a = none) : del (upd H a o) a = H := by
  funext b
  by_cases e : b = a
  · rw [e, del_same, h]
  · rw [del_ne e, upd_ne e]
section
variable {X : Cx} {n : Nat} {pins : List (Addr × Obj)} {σ : St} {H : Hp} {s : Shared}
/-- a thing of that kind is forgotten -/
theorem forget {a : Addr} {φ : Heap → Prop} (I : Inv X pins σ H s) (h : H a = some (.ext φ)) : Inv X pins σ (del H a) s := by
  have ne : ∀ b o, H b = some o → (∀ φ, o ≠ .ext φ) → b ≠ a := fun b o e hne z => by
    rw [z, h] at e
    cases e
    exact hne _ rfl
  have dn : ∀ b, H b = none → del H a b = none := fun b e => by
    unfold del
    split
    · rfl
    · exact e
  refine ⟨I.ok, I.os, I.bare, ⟨I.base.keep, I.base.slot, fun b o e n hx => dn b (I.base.free b o e n hx), I.base.there, fun b xs e => ?_, fun b o x e => ?_, fun b ps e => ?_⟩, I.loc, I.cell, dn _ I.free, fun x c e => dn _ (I.freeC x c e), fun p hp => ?_, fun b o e => ?_, I.len⟩
  · have q := I.base.tups b xs e
    rw [del_ne (ne b _ q (fun _ z => nomatch z))]; exact q
  · have q := I.base.frzs b o x e
    rw [del_ne (ne b _ q (fun _ z => nomatch z))]; exact q
  · obtain ⟨m, q⟩ := I.base.tbls b ps e
    exact ⟨m, by rw [del_ne (ne b _ q (fun _ z => nomatch z))]; exact q⟩
  · obtain ⟨e, n, r⟩ := I.pin p hp
    exact ⟨e, dn _ n, r⟩
  · have hb : b ≠ a := fun z => by rw [z, del_same] at e; cases e
    rw [del_ne hb] at e
    exact (I.hok b o e).stay (fun c v _ q => q) (fun c q => by rw [del_ne (ne c _ q (fun _ z => nomatch z))]; exact q) fun c xs q => by rw [del_ne (ne c _ q (fun _ z => nomatch z))]; exact q
/-- iter(t), t a tuple -/
def rIterTup (K : PySem.W.Frag) (N : Nat) : List V → Hp → VK → Prop := fun xs H Q => ∃ (t : Addr) (zs : List V), xs = [.ref t] ∧ SqT K H t zs ∧ ∀ it, H it = none → N ≤ it → Q (.ref it) (upd H it (ItTup t it 0))
theorem call_iterTup : CallR X (.builtin "iter") (rIterTup X.K X.s_0.heap.objs.size) := by
  intro pins s σ H xs us Q I r h
  obtain ⟨l, zs, rfl, hq, q⟩ := h
  obtain rfl := Vals.ref1 r
  obtain ⟨its, rv, pl, hz⟩ := I.tuple hq
  refine Calls.call_function_entry (by decide +kernel) (by decide +kernel) PySem.W.kdk_entry_iter (PySem.W.kdk_args_iter _) ?_
  unfold Builtin.«iter»
  refine wpAny_bind (m := someArgs "iter" 1 2 _) (wpAny_of_eq (a := [Value.ref l]) (by first | rfl | kernel_rfl!) ?_)
  show wpAny _ _ (pyIter (.ref l) >>= _) _ _ _
  refine wpAny_bind (wpAny_pyIter_tuple (show s.heap.IsTuple l its.toArray from pl) ?_)
  refine wpAny_pure ⟨_, rfl, ?_⟩
  have new : Heap.IsTupleIter (s.heap.push { cls := .type "tuple_iterator", data := .fields #[.ref l, rawInt (0 : Nat)] }) s.heap.objs.size l 0 := ⟨_, Heap.get?_push_size _ rfl, rfl, rfl⟩
  exact ⟨.ref s.heap.objs.size, _, I.laid (t' := s.toks) (fun b u e => Heap.get?_push_of_some _ e) (Nat.le_refl _) (itTup_ok new), rfl, q _ (I.hok.fresh (Nat.le_refl _)) I.sz⟩
end
/-! ### an own __iter__ that tells iter of a tuple -/
/-- what it tells: an iterator that is made in the call -/
def spIt (C : Addr) (fl : Str) (K : PySem.W.Frag) (N : Nat) : Sp := fun vs H Q _ => ∃ p dx fs t zs, vs = [.ref p] ∧ H p = some (.ins C dx fs) ∧ fs.lookup fl = some (.ref t) ∧ SqT K H t zs ∧ ∀ it, H it = none → N ≤ it → Q (.ref it) (upd H it (ItTup t it 0))
structure FnIt (P : Program) (w : World) (K : PySem.W.Frag) (mg : Str → Option Value) (base : Heap) (k : Nat) (f : Addr) (fd : FuncData) (C : Addr) (fl : Str) : Prop where
  run : ∀ (A : Around) (outer : List Env) (s : Shared) (H : Hp) (args : Args) (us : List Value) (vs : List V) (Q : VK) (E : XK), Room k A → Env0 P w K mg base A outer s H → BindsTo s fd args (([("self" : Str)] : List Str).zip us) → Vals vs us → spIt C fl K s.heap.objs.size vs H Q E →
    codeAny (model P w) A (.call (.ref f) args) (CR CX0 outer P w H s Q E) s
theorem it_of {P : Program} {w : World} {K : PySem.W.Frag} {mg : Str → Option Value} {base : Heap} {x qual : Str} {st : Stmt} {f C : Addr} {fd : FuncData} {N : List Str} {k : Nat} {fl : Str} (F : Fun K x qual st f fd) (S : FnScope N ["self"] (defScope st))
    (hbody : ∀ (cdv : Value) (A : Around) (outer : List Env) (s : Shared) (H : Hp) (vs : List V) (Q : VK) (E : XK), Room k (A.deeper (envOfC qual (defScope st) s.heap.objs.size f cdv)) → spIt C fl K s.heap.objs.size vs H Q E →
      ∃ t, PSs (cxOf CX0 P w K mg base N qual (defScope st) f cdv A outer s H E).nox (defBody st) t ∧ t { nx := fun _ H' => Q .non H', rt := Q } (start N vs) H) : FnIt P w K mg base (k + 1) f fd C fl := by
  obtain ⟨oc, od, kV, doc, pm, an, cdv, ct, osl, rfl, lk, hcd⟩ := F.ex
  refine ⟨fun A outer s H args us vs Q E hr e0 hb r hsp => ?_⟩
  have hl : vs.length = ([("self" : Str)] : List Str).length := by
    obtain ⟨p, dx, fs, t, zs, rfl, _⟩ := hsp
    rfl
  have KX : K.In s.heap := e0.mod.kin.keeps fun b o e => (e0.bs b o e).1
  have lim : s.heap.NoLimit := e0.mod.nolimit.keeps fun b o e => (e0.bs b o e).1
  have hkind : ∀ y ∈ ([("self" : Str)] : List Str).zip us, (defScope st).names.lookup y.1 = some .local ∨ ((defScope st).names.lookup y.1 = some .cell ∧ ((cellsFrom (s.heap.objs.size + 1) (defScope st).names []).lookup y.1).isSome = true) := fun ⟨n, v⟩ hy => by
    rcases S.par n (List.of_mem_zip hy).1 with q | q
    · exact .inl q
    · exact .inr ⟨q, PySem.W.cellsFrom_some _ _ _ (.inl q)⟩
  refine codeAny_call_function hr.depth (KX _ _ lk) rfl S.co S.gen rfl (PySem.W.codeRec_of KX hcd) (hb _ _ _ _ ?_)
  refine wpAny_newFunctionEnv_cells S.kind hkind fun env he s1 x => ?_
  subst he
  refine ⟨lim.keeps x.toInCall.keep, codeAny_func ?_⟩
  obtain ⟨t, ht, hq⟩ := hbody cdv A outer s H vs Q E (hr.deeper _) hsp
  have I : Inv (cxOf CX0 P w K mg base N qual (defScope st) f cdv A outer s H E) [] (start N vs) H s1 := inv_start S hr.hd e0 hl r x
  refine wpAny_mono (ht.nox.run [] s1 (start N vs) H _ I hq) (fun fl s' hs => ?_) fun e s' hs => hs
  have fin : ∀ {σ' : St} {H' : Hp} {v : V} {u : Value}, Inv (cxOf CX0 P w K mg base N qual (defScope st) f cdv A outer s H E) [] σ' H' s' → RelV v u → Q v H' → CE outer P w H s Q u s' :=
    fun {σ' H' v u} J rv q => ⟨v, H', J.os, J.bare, J.base, J.hok, rv, q⟩
  cases fl with
  | ret u =>
    obtain ⟨v, σ', H', J, rv, q⟩ := hs
    exact fin J rv q
  | next =>
    obtain ⟨σ', H', J, q⟩ := hs
    exact fin (v := V.non) (u := Value.none) J rfl q
  | brk =>
    obtain ⟨_, _, _, q⟩ := hs
    exact False.elim q
  | cont =>
    obtain ⟨_, _, _, q⟩ := hs
    exact False.elim q
section
variable {X : Cx} {n : Nat}
/-- the walk of an own instance -/
def iOwn (K : PySem.W.Frag) (C : Addr) (fl : Str) (te : TE) : TI := fun σ H R => te σ H fun x H1 => ∃ p dx fs t zs, x = .ref p ∧ H1 p = some (.ins C dx fs) ∧ fs.lookup fl = some (.ref t) ∧ SqT K H1 t zs ∧ R (Itt K t) H1
theorem pi_own {f : Addr} {fd : FuncData} {fl : Str} {tg e : Expr} {te : TE} {C : Addr} (F : FnIt X.prog X.w X.K X.mg X.base n f fd C fl) (hb : Binds X.K fd ["self"] []) (m : OwnM X C f "__iter__") (hr : Room n X.A)
    (he : PE X e te) : PI X tg e (iOwn X.K C fl te) := by
  refine ⟨fun pins s σ H R I h => ?_⟩
  refine thn (he.run pins s σ H _ I h) fun v s1 ⟨x, H1, I1, r1, q1⟩ => ?_
  obtain ⟨p, dx, fs, t, zs, rfl, hp, lk, ht, q⟩ := q1
  cases r1
  obtain ⟨_, J, _⟩ := ins_get I1.hok hp
  obtain ⟨od, J, _⟩ := J.look
  obtain ⟨_, fr⟩ := I1.fr
  have want : spIt C fl X.K s1.heap.objs.size [.ref p] H1 (fun v H' => ∃ it, v = .ref it ∧ H1 it = none ∧ s1.heap.objs.size ≤ it ∧ H' = upd H1 it (ItTup t it 0)) E0 := ⟨p, dx, fs, t, zs, rfl, hp, lk, ht, fun it n1 n2 => ⟨it, rfl, n1, n2, rfl⟩⟩
  refine PySem.W.owit_iter fr I1.mod.kin J m.fi m.fn (wpAny_call (codeAny_mono (F.run X.A X.stack s1 H1 ⟨[.ref p], []⟩ [.ref p] [.ref p] _ E0 hr I1.env0 (by
    have := hb s1 [.ref p] I1.kIn (by rfl)
    simpa using this) (.cons rfl .nil) want) fun r s' hq => ?_))
  cases r with
  | error e => exact pass0 pins σ H1 s1 e s' I1 hq
  | ok fl =>
    cases fl with
    | ret z =>
      obtain ⟨v', H', I', rv, it, rfl, n1, n2, rfl⟩ := I1.after hq
      cases rv
      have st : s'.heap.IsTupleIter it t 0 := (I'.hok it _ upd_same).1
      have I3 := forget I' (φ := fun h => h.IsTupleIter it t 0) upd_same
      rw [del_upd n1] at I3
      refine wpAny_specialOf st.typeIs PySem.F.slot_tuple_iterator_next.lookup ?_
      refine ⟨it, [it], _, Itt X.K t, H1, rfl, I3, turn_tuple t it, st, fun b hb => ?_, q⟩
      have e : b = it := by simpa using hb
      subst e
      exact I1.fpOk n2 n1
    | next => exact False.elim hq
    | brk => exact False.elim hq
    | cont => exact False.elim hq
end
end L2.OwnOp
set_option Elab.async false
set_option linter.all false
set_option maxRecDepth 100000
set_option maxHeartbeats 4000000
/-! Nodes as data; Question's own ==. -/
namespace L2.LawH
open PySem PySem.Spec PyProof.Rows L2.TxtSet TL L2.NSet PySem.W L2.Cmp L2.Rws L2.ZipL L2.ExcN RT RZ
abbrev sEqQ : Stmt := inClass (top 30) 3
def optD : Option Nat → PyData
  | none => .none
  | some p => .int (p : Nat)
theorem dp_opt {K : PySem.W.Frag} {H : Hp} : ∀ p : Option Nat, Dp K H (pV p) (optD p)
  | none => .non
  | some p => .int _
theorem dp_opts {K : PySem.W.Frag} {H : Hp} : ∀ ps : List (Option Nat), DpAll K H (ps.map pV) (ps.map optD)
  | [] => .nil
  | p :: ps => .cons (dp_opt p) (dp_opts ps)
theorem eqv_opt (a b : Option Nat) : PyData.eqv (optD a) (optD b) = decide (a = b) := by
  cases a with
  | none =>
    cases b with
    | none => simp [optD, PyData.eqv]
    | some y => simp [optD, PyData.eqv]
  | some x =>
    cases b with
    | none => simp [optD, PyData.eqv]
    | some y =>
      by_cases h : x = y
      · simp [optD, PyData.eqv, h]
      · have : ¬ ((x : Nat) : Int) = ((y : Nat) : Int) := by omega
        simp [optD, PyData.eqv, h, this]
theorem eqv_opts : ∀ a b : List (Option Nat), PyData.eqvAll (a.map optD) (b.map optD) = decide (a = b)
  | [], [] => by simp [PyData.eqvAll]
  | [], _ :: _ => by simp [PyData.eqvAll]
  | _ :: _, [] => by simp [PyData.eqvAll]
  | x :: a, y :: b => by
    rw [List.map_cons, List.map_cons, PyData.eqvAll, eqv_opts a b, eqv_opt]
    by_cases h : x = y
    · by_cases h2 : a = b
      · simp [h, h2]
      · simp [h, h2]
    · simp [h]
theorem lay_opts : ∀ ps : List (Option Nat), PyData.canLayAll0 (ps.map optD) = true ∧ PyData.depthAll (ps.map optD) = 0
  | [] => by simp [PyData.canLayAll0, PyData.depthAll]
  | p :: ps => by
    obtain ⟨h1, h2⟩ := lay_opts ps
    rw [List.map_cons, PyData.canLayAll0, PyData.depthAll, h1, h2]
    cases p with
    | none => simp [optD, PyData.canLay0, PyData.depth]
    | some p => simp [optD, PyData.canLay0, PyData.depth]
def tupD (cs : List Fc) : PyData := .tuple (cs.map facD)
def lstD (cs : List Fc) : PyData := .list (cs.map facD)
theorem eqv_tups : ∀ a b : List (List Fc), PyData.eqvAll (a.map tupD) (b.map tupD) = decide (a = b)
  | [], [] => by simp [PyData.eqvAll]
  | [], _ :: _ => by simp [PyData.eqvAll]
  | _ :: _, [] => by simp [PyData.eqvAll]
  | x :: a, y :: b => by
    rw [List.map_cons, List.map_cons, PyData.eqvAll, eqv_tups a b]
    unfold tupD
    rw [eqv_tup]
    by_cases h : x = y
    · by_cases h2 : a = b
      · simp [h, h2]
      · simp [h, h2]
    · simp [h]
theorem depth_fl (cs : List Fc) : (tupD cs).depth ≤ 2 ∧ (lstD cs).depth ≤ 2 := by
  have := depth_facts cs
  unfold tupD lstD
  rw [PyData.depth, PyData.depth]
  omega
theorem lay_tups : ∀ {a : List (List Fc)}, (∀ cs ∈ a, ∀ c ∈ cs, Fct c) → PyData.canLayAll0 (a.map tupD) = true ∧ PyData.depthAll (a.map tupD) ≤ 2
  | [], _ => by simp [PyData.canLayAll0, PyData.depthAll]
  | cs :: a, h => by
    obtain ⟨h1, h2⟩ := lay_tups (a := a) fun x m => h x (List.mem_cons_of_mem _ m)
    have := (depth_fl cs).1
    rw [List.map_cons, PyData.canLayAll0, PyData.depthAll, h1]
    refine ⟨?_, by omega⟩
    unfold tupD
    rw [PyData.canLay0, lay_facts (h cs List.mem_cons_self)]
    rfl
/-- a node as data -/
def ndD (x : Nd) : PyData := .tuple [optD x.1, lstD x.2]
theorem eqv_nd (x y : Nd) : PyData.eqv (ndD x) (ndD y) = decide (x = y) := by
  unfold ndD lstD
  rw [PyData.eqv, PyData.eqvAll, PyData.eqvAll, PyData.eqvAll, eqv_opt, eqv_list]
  by_cases h : x.1 = y.1
  · by_cases h2 : x.2 = y.2
    · have : x = y := Prod.ext h h2
      simp [this]
    · have : x ≠ y := fun e => h2 (by rw [e])
      simp [h, h2, this]
  · have : x ≠ y := fun e => h (by rw [e])
    simp [h, this]
theorem eqv_nds : ∀ a b : List Nd, PyData.eqvAll (a.map ndD) (b.map ndD) = decide (a = b)
  | [], [] => by simp [PyData.eqvAll]
  | [], _ :: _ => by simp [PyData.eqvAll]
  | _ :: _, [] => by simp [PyData.eqvAll]
  | x :: a, y :: b => by
    rw [List.map_cons, List.map_cons, PyData.eqvAll, eqv_nds a b, eqv_nd]
    by_cases h : x = y
    · by_cases h2 : a = b
      · simp [h, h2]
      · simp [h, h2]
    · simp [h]
theorem lay_nds : ∀ {a : List Nd}, (∀ x ∈ a, ∀ c ∈ x.2, Fct c) → PyData.canLayAll0 (a.map ndD) = true ∧ PyData.depthAll (a.map ndD) ≤ 3
  | [], _ => by simp [PyData.canLayAll0, PyData.depthAll]
  | x :: a, h => by
    obtain ⟨h1, h2⟩ := lay_nds (a := a) fun x m => h x (List.mem_cons_of_mem _ m)
    have d := (depth_fl x.2).2
    have lo := lay_opts [x.1]
    rw [List.map_cons, List.map_nil, PyData.canLayAll0, PyData.canLayAll0, PyData.depthAll, PyData.depthAll] at lo
    rw [List.map_cons, PyData.canLayAll0, PyData.depthAll, h1]
    rw [show ndD x = .tuple [optD x.1, lstD x.2] from rfl]
    rw [PyData.canLay0, PyData.canLayAll0, PyData.canLayAll0, PyData.canLayAll0, PyData.depth, PyData.depthAll, PyData.depthAll, PyData.depthAll]
    have lo1 : (optD x.1).canLay0 = true := by
      have := lo.1
      simpa using this
    refine ⟨?_, ?_⟩
    · rw [lo1]
      unfold lstD
      rw [PyData.canLay0, lay_facts (h x List.mem_cons_self)]
      rfl
    · have := lo.2
      omega
theorem shaped_nds {a : List Nd} (h : ∀ x ∈ a, ∀ c ∈ x.2, Fct c) : SeqAt.shaped (.list (a.map ndD)) = true := by
  obtain ⟨h1, h2⟩ := lay_nds h
  unfold SeqAt.shaped
  rw [PyData.canLay0, h1, Bool.true_and, PyData.depth]
  exact decide_eq_true (by omega)
theorem dp_lotS {K : PySem.W.Frag} {H : Hp} {l : Addr} {ys : List Pt} (h : H l = some (.lst (ys.map fun y => V.ref y.1))) (e : ∀ y ∈ ys, H y.1 = some (.tup (ptV y))) : Dp K H (.ref l) (lstD (ys.map (·.2))) :=
  .lst (SqL.of h) (dp_facts e)
theorem dp_lotT {K : PySem.W.Frag} {H : Hp} {l : Addr} {ys : List Pt} (h : H l = some (.tup (ys.map fun y => V.ref y.1))) (e : ∀ y ∈ ys, H y.1 = some (.tup (ptV y))) : Dp K H (.ref l) (tupD (ys.map (·.2))) :=
  .tup (SqT.of h) (dp_facts e)
theorem dp_nl {K : PySem.W.Frag} {H : Hp} {x : Nl} (h : NlAt H x) : Dp K H (.ref x.t) (ndD x.nd) :=
  .tup (SqT.of h.tu) (.cons (dp_opt _) (.cons (dp_lotS h.li h.ea) .nil))
theorem dp_nls {K : PySem.W.Frag} {H : Hp} : ∀ {xs : List Nl}, (∀ x ∈ xs, NlAt H x) → DpAll K H (xs.map fun x => V.ref x.t) ((xs.map Nl.nd).map ndD)
  | [], _ => .nil
  | x :: xs, h => .cons (dp_nl (h x List.mem_cons_self)) (dp_nls fun y m => h y (List.mem_cons_of_mem _ m))
theorem dp_nodes {K : PySem.W.Frag} {H : Hp} {N : Addr} {xs : List Nl} (h : NlsAt H N xs) : Dp K H (.ref N) (.list ((xs.map Nl.nd).map ndD)) := .lst (SqL.of h.sq) (dp_nls h.ea)
theorem lots_eq {H : Hp} {lt : Addr} {τ : List Nd} {ls : List (Addr × List Pt)} (h : LotsAt H lt τ ls) : ls.map (fun l => l.2.map (·.2)) = τ.map (·.2) := by
  refine List.ext_getElem? fun k => ?_
  rw [List.getElem?_map, List.getElem?_map]
  by_cases hk : k < τ.length
  · have hk2 : k < ls.length := by rw [h.ln]; exact hk
    rw [List.getElem?_eq_getElem hk, List.getElem?_eq_getElem hk2]
    show some (ls[k].2.map (·.2)) = some τ[k].2
    rw [(h.ea k _ (List.getElem?_eq_getElem hk2)).2.2, lo_at (List.getElem?_eq_getElem hk)]
  · have := h.ln
    rw [List.getElem?_eq_none (by omega), List.getElem?_eq_none (by omega)]
    rfl
theorem dp_lots {K : PySem.W.Frag} {H : Hp} : ∀ {ls : List (Addr × List Pt)}, (∀ l ∈ ls, H l.1 = some (.tup (l.2.map fun x => V.ref x.1)) ∧ ∀ x ∈ l.2, H x.1 = some (.tup (ptV x))) → DpAll K H (ls.map fun l => V.ref l.1) ((ls.map fun l => l.2.map (·.2)).map tupD)
  | [], _ => .nil
  | l :: ls, h => .cons (dp_lotT (h l List.mem_cons_self).1 (h l List.mem_cons_self).2) (dp_lots fun y m => h y (List.mem_cons_of_mem _ m))
theorem nd_ext {a b : List Nd} (h1 : prs a = prs b) (h2 : a.map (·.2) = b.map (·.2)) : a = b := by
  refine List.ext_getElem? fun k => ?_
  have e1 := congrArg (fun z => z[k]?) h1
  have e2 := congrArg (fun z => z[k]?) h2
  simp only [prs, List.getElem?_map] at e1 e2
  cases ea : a[k]? with
  | none =>
    cases eb : b[k]? with
    | none => rfl
    | some y =>
      rw [ea, eb] at e1
      cases e1
  | some x =>
    cases eb : b[k]? with
    | none =>
      rw [ea, eb] at e1
      cases e1
    | some y =>
      rw [ea, eb] at e1 e2
      exact congrArg some (Prod.ext (Option.some.inj e1) (Option.some.inj e2))
theorem or_isi {X : Cx} {K : PySem.W.Frag} {C : Addr} (e : X.K = K) (c : C8.InsC K C) : CallR X (.builtin "isinstance") (fun xs H Q => (∃ a dx fs, xs = [.ref a, .ref C] ∧ H a = some (.ins C dx fs) ∧ Q (.bl true) H) ∨ rIsi K xs H Q) := by
  subst e
  intro pins s σ H xs us Q I rv h
  rcases h with h | h
  · exact C8.call_isC c pins s σ H xs us Q I rv h
  · exact call_isi pins s σ H xs us Q I rv h
def spEqQ (C : Addr) : Sp := fun vs H Q _ => ∃ (a b : Addr) (τ υ : List Nd), vs = [.ref a, .ref b] ∧ QAt C H a τ ∧ QAt C H b υ ∧ (∀ x ∈ τ, ∀ c ∈ x.2, Fct c) ∧ (∀ x ∈ υ, ∀ c ∈ x.2, Fct c) ∧ Q (.bl (decide (τ = υ))) H
section
variable {P : Program} {w : World} {K : PySem.W.Frag} {mg : Str → Option Value} {base : Heap}
theorem scEqQ : FnScope ["self", "other"] ["self", "other"] (defScope sEqQ) := ⟨rfl, rfl, rfl, by decide +kernel, rfl, by decide +kernel, by decide +kernel⟩
theorem ok_eqQ {f C : Addr} {fd : FuncData} (F : Fun K "__eq__" "Question.__eq__" sEqQ f fd) (T : ClQ K C) (c : C8.InsC K C) (mC : mg "Question" = some (.ref C)) (mi : mg "isinstance" = none) : FnOk P w K mg base CX0 1 f fd ["self", "other"] (spEqQ C) := by
  refine F.ok scEqQ (fun vs H Q E h => ?_) (fun cdv A outer s H vs Q E hr h => ?_)
  · obtain ⟨_, _, _, _, rfl, _⟩ := h
    rfl
  · obtain ⟨a, b, τ, υ, rfl, qa, qb, fa, fb, k⟩ := h
    have hu := hr.units
    obtain ⟨dx, r, ls, _, _, _, _, h1, h2, h3, _⟩ := qa.ex
    obtain ⟨dy, r', ls', _, _, _, _, g1, g2, g3, _⟩ := qb.ex
    refine ⟨_, pss_one (ps_ret (pe_and (pe_callB (or_isi (K := K) rfl c) (by rfl) mi (by decide +kernel) (pa_cons (pv 1) (pa_cons (pe_glob (v := .ref C) (by rfl) mC rfl) pa_nil)))
      (pe_and (pe_cmpR (op_eqD hu) (pe_fld (pv 0) rfl) (pe_fld (pv 1) rfl) (nomark _)) (pe_one (pe_cmpR (op_eqD hu) (pe_fld (pv 0) rfl) (pe_fld (pv 1) rfl) (nomark _)))))), ?_⟩
    refine ⟨_, rfl, .inl ⟨b, dy, _, rfl, g1, true, rfl, iteT ?_⟩⟩
    have sh1 : ∀ ps : List (Option Nat), SeqAt.shaped (.tuple (ps.map optD)) = true := fun ps => by
      obtain ⟨x1, x2⟩ := lay_opts ps
      unfold SeqAt.shaped
      rw [PyData.canLay0, x1, Bool.true_and, PyData.depth, x2]
      rfl
    have sh2 : ∀ {υ : List Nd}, (∀ x ∈ υ, ∀ c ∈ x.2, Fct c) → SeqAt.shaped (.tuple ((υ.map (·.2)).map tupD)) = true := fun {υ} hf => by
      obtain ⟨x1, x2⟩ := lay_tups (a := υ.map (·.2)) fun cs m c hc => by
        obtain ⟨x, hx, rfl⟩ := List.mem_map.mp m
        exact hf x hx c hc
      unfold SeqAt.shaped
      rw [PyData.canLay0, x1, Bool.true_and, PyData.depth]
      exact decide_eq_true (by omega)
    have dl : ∀ {lt : Addr} {υ : List Nd} {ls : List (Addr × List Pt)}, LotsAt H lt υ ls → Dp K H (.ref lt) (.tuple ((υ.map (·.2)).map tupD)) := fun {lt υ ls} h => by
      rw [← lots_eq h]
      exact .tup (SqT.of h.tu) (dp_lots fun l m => by
        obtain ⟨j, hj⟩ := List.mem_iff_getElem?.mp m
        exact ⟨(h.ea j l hj).1, (h.ea j l hj).2.1⟩)
    refine ⟨_, rfl, a, C, dx, _, .ref r.pt, rfl, h1, T.cl, T.n1, rfl, _, rfl, b, C, dy, _, .ref r'.pt, rfl, g1, T.cl, T.n1, rfl, ?_⟩
    refine ⟨.tuple ((prs τ).map optD), .tuple ((prs υ).map optD), .tup (SqT.of h2) (dp_opts _), .tup (SqT.of g2) (dp_opts _), sh1 _, sh1 _, _, rfl, ?_⟩
    rw [PyData.eqv, eqv_opts]
    refine ite2 (fun e1 => ?_) (fun e1 => ?_)
    · refine ⟨_, rfl, a, C, dx, _, .ref r.lt, rfl, h1, T.cl, T.n2, rfl, _, rfl, b, C, dy, _, .ref r'.lt, rfl, g1, T.cl, T.n2, rfl, ?_⟩
      refine ⟨_, _, dl h3, dl g3, sh2 fa, sh2 fb, ?_⟩
      rw [PyData.eqv, eqv_tups]
      have e1 := of_decide_eq_true e1
      rw [show decide (τ.map (·.2) = υ.map (·.2)) = decide (τ = υ) from decide_eq_decide.mpr ⟨fun e => nd_ext e1 e, fun e => by rw [e]⟩]
      exact k
    · have : decide (τ = υ) = false := decide_eq_false fun e => e1 (decide_eq_true (by rw [e]))
      rw [this] at k
      exact k
end
end L2.LawH
set_option Elab.async false
set_option linter.all false
set_option maxRecDepth 100000
set_option maxHeartbeats 4000000
/-! nodes_told. -/
namespace L2.LawH
open PySem PySem.Spec PyProof.Rows L2.TxtSet TL L2.NSet PySem.W L2.Cmp L2.Rws L2.ZipL L2.ExcN RT RZ
open PySem.Builtin.Str (strSub)
abbrev sNTld : Stmt := top 29
abbrev nlS : Str := Str.ofString "\n"
theorem tl_nl : tl nlS = [10] := by decide +kernel
theorem split_nl (z : Str) : (Txt.split z nlS).map tl = spl [10] 0 [] (tl z) := by
  have e := split_spl z nlS (by rw [tl_nl]; simp) (kind_ok (by decide +kernel))
  rwa [tl_nl] at e
theorem drop_while {α : Type} (p : α → Bool) : ∀ l : List α, l.drop (l.takeWhile p).length = l.dropWhile p
  | [] => rfl
  | x :: l => by
    by_cases h : p x = true
    · rw [List.takeWhile_cons_of_pos h, List.dropWhile_cons_of_pos h, List.length_cons, List.drop_succ_cons, drop_while p l]
    · rw [List.takeWhile_cons_of_neg h, List.dropWhile_cons_of_neg h]
      rfl
theorem tl_lstrip (z : Str) : tl (Txt.lstripChars z spS) = bd (tl z) := by
  have e : Txt.lstripChars z spS = strSub z (PySem.stripLo (spS.cps.contains) true z) z.length := by
    unfold Txt.lstripChars
    rw [PyProof.Rows.stripBy_eq]
    rfl
  rw [e]
  show (z.cps.extract _ z.length).toList = _
  rw [Array.toList_extract, List.extract_eq_drop_take]
  have l : z.length = z.cps.toList.length := (length_toList z).symm
  rw [List.take_of_length_le (by rw [List.length_drop, l]; exact Nat.le_refl _)]
  unfold PySem.stripLo
  rw [if_pos rfl, drop_while]
  unfold bd
  have : (spS.cps.contains : Nat → Bool) = fun c => c == 32 := by
    funext c
    show (#[32] : Array Nat).contains c = _
    by_cases h : c = 32
    · simp [h]
    · simp [h]
  rw [this]
theorem split_wds (z : Str) : Txt.split z spS = wds (tl z) := by
  have e := split_sp z
  unfold wds
  rw [← e, List.map_map]
  have : (Txt.split z spS).map ((fun x => (⟨x.toArray⟩ : Str)) ∘ tl) = (Txt.split z spS).map id := List.map_congr_left fun x _ => ext_tl (str_tl _)
  rw [this, List.map_id]
theorem wds_len (l : List Nat) : (wds l).length = l.count 32 + 1 := by
  unfold wds
  rw [List.length_map, spl_count]
theorem wds_mem {l : List Nat} {y : Str} (h : y ∈ wds l) : (tl y).length ≤ l.length ∧ ∀ c ∈ tl y, c ∈ l := by
  unfold wds at h
  obtain ⟨p, hp, rfl⟩ := List.mem_map.mp h
  rw [str_tl]
  have e := join_spl 32 l []
  rw [List.nil_append] at e
  refine ⟨?_, fun c hc => ?_⟩
  · have := part_le 32 _ _ hp
    rwa [e] at this
  · have := part_mem 32 _ _ _ hp hc
    rwa [e] at this
theorem bd_mem {l : List Nat} {c : Nat} (h : c ∈ bd l) : c ∈ l := (List.dropWhile_suffix _).mem h
theorem bd_len (l : List Nat) : (bd l).length ≤ l.length := (List.dropWhile_suffix _).length_le
theorem bd_count (l : List Nat) : (bd l).count 32 ≤ l.count 32 := (List.dropWhile_sublist _).count_le _
/-- x if c else y, told once -/
theorem tif_any {c : TT} {t u : TE} {σ : St} {H : Hp} {Q : VK} {Pr : V → Hp → Prop} (b0 : Bool) (hc : ∀ R : Bool → Hp → Prop, R b0 H → c σ H R) (ht : b0 = true → ∀ Q : VK, (∀ v H', Pr v H' → Q v H') → t σ H Q) (hu : b0 = false → ∀ Q : VK, (∀ v H', Pr v H' → Q v H') → u σ H Q)
    (h : ∀ v H', Pr v H' → Q v H') : tIf c t u σ H Q := by
  refine hc _ ?_
  cases b0 with
  | true => exact iteT (ht rfl Q h)
  | false => exact iteF (hu rfl Q h)
theorem ifs_any {c : TT} {t u : TS} {D : Ends} {σ : St} {H : Hp} (b0 : Bool) (hc : ∀ R : Bool → Hp → Prop, R b0 H → c σ H R) (ht : b0 = true → t D σ H) (hu : b0 = false → u D σ H) : tIfS c t u D σ H := by
  refine hc _ ?_
  cases b0 with
  | true => exact iteT (ht rfl)
  | false => exact iteF (hu rfl)
structure LnsOk (ls : List (List Nat)) : Prop where
  ne : ls ≠ []
  few : ls.length ≤ 16
  len : ∀ l ∈ ls, l.length ≤ 20000
  no : ∀ l ∈ ls, 10 ∉ l
  cod : ∀ l ∈ ls, ∀ c ∈ l, c < 0x110000
  spc : ∀ l ∈ ls, l.count 32 ≤ 18
def toO (x : Nx) : NdO := (x.p, x.os.map (Option.map (·.2)))
def spNTld (BT : Addr) : Sp := fun vs H Q E => ∃ (z : Str) (ls : List (List Nat)), vs = [.str z] ∧ LnsOk ls ∧ tl z = joinL [10] ls ∧
  (tld ([], []) ls = none → ∀ H', Same H H' → E (.ref BT) none H') ∧
  (∀ s, tld ([], []) ls = some s → ∀ (H' : Hp) (N : Addr) (xs : List Nx), Same H H' → H N = none → NodesAt H' N xs → H' N = some (.lst (xs.map fun x => V.ref x.t)) → xs.map toO = s.1 → (∀ x ∈ xs, x.os.length ≤ 19 ∧ ∀ y, some y ∈ x.os → Fct y.2) → Q (.ref N) H')
theorem joinL_le (X : List (List Nat)) (B : Nat) (h : ∀ p ∈ X, p.length ≤ B) : (joinL [10] X).length ≤ X.length * (B + 1) := by
  induction X with
  | nil => simp [joinL]
  | cons p X ih =>
    have hp := h p List.mem_cons_self
    have ih := ih fun q hq => h q (List.mem_cons_of_mem _ hq)
    cases X with
    | nil =>
      show p.length ≤ _
      simp
      omega
    | cons q r =>
      rw [joinL_cons _ _ (by simp), List.length_append, List.length_append]
      have e1 : ([10] : List Nat).length = 1 := rfl
      have e2 : (p :: q :: r).length = (q :: r).length + 1 := rfl
      rw [e2, Nat.add_mul]
      omega
section
variable {P : Program} {w : World} {K : PySem.W.Frag} {mg : Str → Option Value} {base : Heap}
abbrev nNTld : List Str := ["text", "nodes", "above", "line", "rest", "depth", "lot", "word"]
theorem scNTld : FnScope nNTld ["text"] (defScope sNTld) := ⟨rfl, rfl, rfl, by decide +kernel, rfl, by decide +kernel, by decide +kernel⟩
theorem ok_nTld {f fR BT : Addr} {fd fdR : FuncData} {bmB : List Value} (F : Fun K "nodes_told" "nodes_told" sNTld f fd)
    (GR : FnOk P w K mg base CX0 4 fR fdR ["text"] spRd) (kR : PySem.W.keepIn K (.ref fR) = true) (bR : Binds K fdR ["text"] []) (mR : mg "read_pattern" = some (.ref fR)) (ml : mg "len" = none)
    (FB : ExcBaseFacts "ValueError" "ValueError.__new__" "ValueError.__init__" bmB) (xB : PySem.W.excIn K BT bmB "ValueError.__new__" = true) (gB : mg "BadText" = some (.ref BT)) (kB : PySem.W.keepIn K (.ref BT) = true) (rB : ∀ {X : Cx}, X.K = K → Raises X (.ref BT)) :
    FnOk P w K mg base (L2N.CX P w) 5 f fd ["text"] (spNTld BT) := by
  refine okN F scNTld (fun vs H Q E h => ?_) (fun cdv A outer s H vs Q E hr h => ?_)
  · obtain ⟨_, _, rfl, _⟩ := h
    rfl
  · obtain ⟨z, ls, rfl, lok, ez, kE, kQ⟩ := h
    have hu := hr.units
    refine ⟨_, pss_cons (ps_set (i := 1) scNTld.nd rfl (Or.inl rfl) (pe_lst pa_nil))
      (pss_cons (ps_set (i := 2) scNTld.nd rfl (Or.inl rfl) (pe_lst pa_nil))
      (pss_cons (ps_for (passes_of rfl) rfl (pi_list (pe_split (pv 0) pe_str)) (pg_name (i := 3) scNTld.nd rfl (Or.inl rfl))
        (pss_cons (ps_set (i := 4) scNTld.nd rfl (Or.inl rfl) (pe_bm PySem.F.plainAttrs_str PySem.F.slot_str_lstrip PySem.F.type_str_lstrip mt_lstripChars (pv 3) (pa_cons pe_str pa_nil)))
        (pss_cons (ps_set (i := 5) scNTld.nd rfl (Or.inl rfl) (pe_op op_sub (pe_callB call_len_str (by rfl) ml (by decide +kernel) (pa_cons (pv 3) pa_nil)) (pe_callB call_len_str (by rfl) ml (by decide +kernel) (pa_cons (pv 4) pa_nil))))
        (pss_cons (ps_if (PW.pt (pw_or (pt_cmpR op_gt (pv 5) (pe_callB call_len_seq (by rfl) ml (by decide +kernel) (pa_cons (pv 2) pa_nil)) (nomark _)) (pw_or1 (PW.pt (pw_and (pt_truth (pv 1) (by intro _; rfl)) (pw_and1 (pt_not (pt_truth (pv 5) (by intro _; rfl)))))))))
          (pss_one (L2N.ps_raise rfl (L2N.takes_of rfl rfl rfl rfl) (pmk_own0N FB xB gB kB (rB rfl) (by rfl)))) pss_nil)
        (pss_cons (ps_set (i := 6) scNTld.nd rfl (Or.inl rfl) (pe_ifExp (pt_cmpR op_eq (pv 4) pe_str (nomark _)) (pe_lst pa_nil) (pe_lc (own := [("word", 7)]) (g := gName 7) (tt := tYes) rfl scNTld.nd (pi_list (pe_split (pv 4) pe_str))
          (blkOk_by (own := [("word", 7)]) (N := nNTld) (sc := defScope sNTld) (by decide +kernel)) (fun _ _ _ _ _ => pg_name (i := 7) scNTld.nd rfl (Or.inl rfl)) (fun _ _ _ _ _ => pts_nil)
          (fun _ _ _ _ _ => pe_call GR hr (by rfl) mR kR bR .nil pass0 (pa_cons (pv 7) pa_nil)))))
        (pss_cons (ps_expr (pe_bm PySem.F.plainAttrs_list PySem.F.slot_list_append PySem.F.type_list_append mt_append (pv 1) (pa_cons (pe_tup (pa_cons (pe_ifExp (pt_truth (pv 1) (by intro _; rfl)) (pe_ix ix_list (pv 2) (pe_op op_sub (pv 5) pe_int) (fun _ _ => rfl)) pe_non) (pa_cons (pv 6) pa_nil))) pa_nil)))
        (pss_one (ps_set (i := 2) scNTld.nd rfl (Or.inl rfl) (pe_lst (StX.pa_star (pe_slice sl_list (pv 2) po_none (po_some (pv 5))) (pa_cons (pe_op op_sub (pe_callB call_len_seq (by rfl) ml (by decide +kernel) (pa_cons (pv 1) pa_nil)) pe_int) pa_nil)))))))))))
      (pss_one (ps_ret (pv 1))))), ?_⟩
    have zl : z.length ≤ 400000 := by
      have := joinL_le ls 20000 lok.len
      have := lok.few
      rw [len_tl, ez]
      omega
    refine ⟨(by show 0 ≤ sizeLine; decide), fun N nN => ?_⟩
    have u1 : Same H (upd H N (.lst [])) := same_new nN
    have c1 : (upd H N (.lst [])) N = some (.lst []) := upd_same
    generalize upd H N (.lst []) = H1 at u1 c1 ⊢
    refine ⟨(by show 0 ≤ sizeLine; decide), fun A0 nA0 => ?_⟩
    have u2 : Same H1 (upd H1 A0 (.lst [])) := same_new nA0
    have c2 : (upd H1 A0 (.lst [])) A0 = some (.lst []) := upd_same
    have A0N : A0 ≠ N := fun e => by rw [e, c1] at nA0; cases nA0
    generalize upd H1 A0 (.lst []) = H2 at u2 c2 ⊢
    refine ⟨_, rfl, ⟨_, rfl⟩, z, nlS, rfl, rfl, by decide +kernel, by rw [sizeLine_eq]; omega, fun S nS => ?_⟩
    have esp : Txt.split z nlS = ls.map fun l => (⟨l.toArray⟩ : Str) := by
      have e := split_nl z
      rw [ez, spl_join lok.ne lok.no] at e
      rw [← e, List.map_map]
      have : (Txt.split z nlS).map ((fun x => (⟨x.toArray⟩ : Str)) ∘ tl) = (Txt.split z nlS).map id := List.map_congr_left fun x _ => ext_tl (str_tl _)
      rw [this, List.map_id]
    rw [esp]
    have u3 : Same H2 (upd H2 S (.lst ((ls.map fun l => (⟨l.toArray⟩ : Str)).map V.str))) := same_new nS
    have c3 : (upd H2 S (.lst ((ls.map fun l => (⟨l.toArray⟩ : Str)).map V.str))) S = some (.lst ((ls.map fun l => (⟨l.toArray⟩ : Str)).map V.str)) := upd_same
    have SN : S ≠ N := fun e => by rw [e, u2 _ _ c1] at nS; cases nS
    generalize upd H2 S (.lst ((ls.map fun l => (⟨l.toArray⟩ : Str)).map V.str)) = H3 at u3 c3 ⊢
    have sHN : ∀ {G : Hp}, Same (Wo N H3) (Wo N G) → Same H G := fun {G} s b o e => wo_le _ _ (s _ _ (wo_new (u3 _ _ (u2 _ _ (u1 _ _ e))) fun z => by rw [z, nN] at e; cases e))
    refine ⟨S, rfl, ⟨_, SqL.of c3⟩, for_it (L2.walk_list (K := K) (xs := (ls.map fun l => (⟨l.toArray⟩ : Str)).map V.str)) (fun i σ H5 => ∃ (s : Tst) (xs : List Nx) (A : Addr) (v3 v4 v5 v6 v7 : Option V), σ = [some (.str z), some (.ref N), some (.ref A), v3, v4, v5, v6, v7] ∧ tld ([], []) (ls.take i) = some s ∧ xs.map toO = s.1 ∧ (∀ x ∈ xs, NodeAt (Wo N H5) x ∧ x.os.length ≤ 19 ∧ ∀ y, some y ∈ x.os → Fct y.2) ∧
        H5 N = some (.lst (xs.map fun x => V.ref x.t)) ∧ Wo N H5 A = some (.lst (intsV s.2)) ∧ s.1.length ≤ i ∧ s.2.length ≤ i ∧ Same (Wo N H3) (Wo N H5))
      ⟨([], []), [], A0, none, none, none, none, none, rfl, rfl, rfl, fun x m => (by cases m), u3 _ _ (u2 _ _ c1), wo_new (u3 _ _ c2) A0N, Nat.le_refl _, Nat.le_refl _, Same.refl _⟩ (fun i σ H5 _ pp => let ⟨_, _, _, _, _, _, _, _, _, _, _, _, _, _, _, _, sw⟩ := pp; SqL.of (wo_le _ _ (sw _ _ (wo_new c3 SN)))) (fun i x σ H5 H6 hi pp yy => ?_) (fun σ H5 pp => ?_)⟩
    · obtain ⟨s, xs, A, v3, v4, v5, v6, v7, rfl, hs, hxs, hx, hN, hA, l1, l2, sw⟩ := pp
      obtain ⟨rfl, hy⟩ := yy
      rw [List.getElem?_map, List.getElem?_map, Option.map_map] at hy
      obtain ⟨l, hl, ex⟩ := Option.map_eq_some_iff.mp hy
      have ex : V.str ⟨l.toArray⟩ = x := ex
      subst ex
      have ml : l ∈ ls := List.mem_of_getElem? hl
      have li : i < 16 := by
        have := (List.getElem?_eq_some_iff.mp hl).1
        have := lok.few
        omega
      have ln := lok.len l ml
      have lz : (⟨l.toArray⟩ : Str).length = l.length := by rw [len_tl, str_tl]
      have bl := bd_len l
      have eR : tl (Txt.lstripChars (⟨l.toArray⟩ : Str) spS) = bd l := by rw [tl_lstrip, str_tl]
      refine ⟨_, rfl, rfl, ⟨l.toArray⟩, spS, rfl, rfl, by rw [lz, sizeLine_eq]; omega, ?_⟩
      generalize Txt.lstripChars (⟨l.toArray⟩ : Str) spS = R at eR ⊢
      have lR : R.length = (bd l).length := by rw [len_tl, eR]
      refine ⟨_, rfl, ⟨l.toArray⟩, rfl, by rw [lz, sizeLine_eq]; omega, _, rfl, R, rfl, by rw [lR, sizeLine_eq]; omega, _, _, rfl, rfl, ?_⟩
      rw [lz, lR]
      have ed : ((l.length : Nat) : Int) - ((bd l).length : Nat) = ((ld l : Nat) : Int) := by
        unfold ld
        omega
      dsimp only
      rw [ed]
      have hA6 := wo_le _ _ hA
      have step : tld ([], []) (ls.take (i + 1)) = tst s l := by
        rw [take_snoc hl, tld_app, hs]
        show tld s [l] = _
        rw [tld]
        cases tst s l with
        | none => rfl
        | some s' => rfl
      have nodes0 : (xs.map fun x => V.ref x.t).isEmpty = decide (s.1 = []) := by
        rw [← hxs]
        cases xs with
        | nil => rfl
        | cons x xs => simp
      have bad : tst s l = none → E (.ref BT) none H6 := fun e => kE (by
        have : ls = ls.take (i + 1) ++ ls.drop (i + 1) := (List.take_append_drop _ _).symm
        rw [this, tld_app, step, e]
        rfl) _ (sHN sw)
      -- the depth
      have goN : ∀ (d : Nat), d = ld l → tst s l ≠ none → True := fun _ _ _ => trivial
      have condF : ¬ (s.2.length < ld l ∨ (s.1 ≠ [] ∧ ld l = 0)) → tst s l = some (s.1 ++ [(if s.1 = [] then none else s.2[ld l - 1]?, lotO (bd l))], s.2.take (ld l) ++ [s.1.length]) := fun c => by
        unfold tst
        rw [if_neg c]
      have condT : (s.2.length < ld l ∨ (s.1 ≠ [] ∧ ld l = 0)) → tst s l = none := fun c => by
        unfold tst
        rw [if_pos c]
      dsimp only [gName, tSeq]
      refine ifs_any (decide (s.2.length < ld l ∨ (s.1 ≠ [] ∧ ld l = 0))) (fun Rr rr => ?_) (fun c => bad (condT (of_decide_eq_true c))) (fun c => ?_)
      · refine ⟨_, rfl, _, rfl, A, _, rfl, .inl (SqL.of hA6), _, _, rfl, rfl, _, rfl, ?_⟩
        have lA : (intsV s.2).length = s.2.length := List.length_map _
        rw [lA]
        refine ite2 (fun c1 => ?_) (fun c1 => ⟨_, rfl, !(xs.map fun x => V.ref x.t).isEmpty, .inl ⟨_, SqL.of hN, rfl⟩, ?_⟩)
        · rw [decide_eq_true (Or.inl (by have := of_decide_eq_true c1; omega))] at rr
          exact rr
        · have c1' : ¬ s.2.length < ld l := fun h => c1 (decide_eq_true (by omega))
          rw [nodes0]
          by_cases e0 : s.1 = []
          · rw [decide_eq_true e0]
            rw [decide_eq_false (fun h => h.elim c1' fun h => h.1 e0)] at rr
            exact iteF rr
          · rw [decide_eq_false e0]
            refine iteT ⟨_, rfl, _, rfl, ?_⟩
            by_cases d0 : ld l = 0
            · rw [decide_eq_true (Or.inr ⟨e0, d0⟩)] at rr
              rw [d0]
              exact rr
            · rw [decide_eq_false (fun h => h.elim c1' fun h => d0 h.2)] at rr
              have : (((ld l : Nat) : Int) != 0) = true := by
                rw [bne_iff_ne]
                omega
              rw [this]
              exact rr
      have hst := condF (of_decide_eq_false c)
      have c' := of_decide_eq_false c
      -- the lot
      dsimp only [gName, tSeq, tNext, tAsg]
      refine tif_any (Pr := fun v H' => ∃ (Lq : Addr) (os : List (Option Pt)), v = .ref Lq ∧ Same H6 H' ∧ H6 Lq = none ∧ H' Lq = some (.lst (os.map rvO)) ∧ os.map (Option.map (·.2)) = lotO (bd l) ∧ os.length ≤ 19 ∧ ∀ y, some y ∈ os → H' y.1 = some (.tup (ptV y)) ∧ Fct y.2)
        (decide (V.str R = V.str (Str.ofString "-"))) (fun Rr rr => ⟨_, rfl, rfl, _, rfl, rr⟩) (fun c4 Qq qq => ?_) (fun c4 Qq qq => ?_) (fun v H7 pr => ?_)
      · have : bd l = [45] := by
          have e := of_decide_eq_true c4
          injection e with e
          rw [← eR, e]
          decide +kernel
        refine ⟨(by show 0 ≤ sizeLine; decide), fun Lq nLq => qq _ _ ⟨Lq, [], rfl, same_new nLq, nLq, upd_same, ?_, by decide, fun y m => (by cases m)⟩⟩
        unfold lotO
        rw [if_pos this]
        rfl
      · have ne : bd l ≠ [45] := fun e => by
          refine of_decide_eq_false c4 (congrArg V.str (ext_tl ?_))
          rw [eR, e]
          decide +kernel
        have sp := lok.spc l ml
        have spb := bd_count l
        refine ⟨_, rfl, ⟨_, rfl⟩, R, spS, rfl, rfl, by decide +kernel, by rw [lR, sizeLine_eq]; omega, fun S2 nS2 => ?_⟩
        rw [split_wds, eR]
        have u7 : Same H6 (upd H6 S2 (.lst ((wds (bd l)).map V.str))) := same_new nS2
        have c7 : (upd H6 S2 (.lst ((wds (bd l)).map V.str))) S2 = some (.lst ((wds (bd l)).map V.str)) := upd_same
        generalize upd H6 S2 (.lst ((wds (bd l)).map V.str)) = H7 at u7 c7 ⊢
        have lw := wds_len (bd l)
        refine ⟨S2, rfl, ⟨_, SqL.of c7⟩, fun D nD => ?_⟩
        refine lc_acc (L2.walk_list (K := K) (xs := (wds (bd l)).map V.str)) (fun Hh i acc => ∃ os : List (Option Pt), acc = os.map rvO ∧ os.map (Option.map (·.2)) = ((wds (bd l)).take i).map rdOk ∧ ∀ y, some y ∈ os → Hh y.1 = some (.tup (ptV y)) ∧ Fct y.2) nD (by rw [List.length_map]; omega) (fun H' s' => SqL.of (s' _ _ c7))
          (fun Hq Hr i acc s' h => by
            obtain ⟨os, e1, e2, e3⟩ := h
            exact ⟨os, e1, e2, fun y m => ⟨s' _ _ (e3 y m).1, (e3 y m).2⟩⟩) ⟨[], rfl, rfl, fun y m => (by cases m)⟩ (fun j x H8 H9 acc hj s8 hD r' la yy Yes No yes no => ?_) (fun H8 acc s8 hD la r' => ?_)
        · obtain ⟨rfl, hx⟩ := yy
          rw [List.getElem?_map] at hx
          obtain ⟨wd, hwd, rfl⟩ := Option.map_eq_some_iff.mp hx
          obtain ⟨os, rfl, e2, e3⟩ := r'
          obtain ⟨m1, m2⟩ := wds_mem (List.mem_of_getElem? hwd)
          refine ⟨rfl, tyes_go ⟨_, rfl, wd, rfl, ?_, fun c hc => lok.cod l ml c (bd_mem (m2 c hc)), fun en H10 s10 => ?_, fun a ts ea q H10 s10 nq hq => ?_⟩⟩
          · rw [len_tl]
            omega
          · refine yes _ _ s10 ⟨os ++ [none], by simp [rvO], ?_, fun y m => ?_⟩
            · rw [List.map_append, e2, take_snoc hwd, List.map_append]
              show _ ++ [none] = _ ++ [rdOk wd]
              rw [en]
            · rcases List.mem_append.mp m with m | m
              · exact ⟨wo_same s10 _ _ (e3 y m).1, (e3 y m).2⟩
              · cases List.mem_singleton.mp m
          · have qD : q ≠ D := fun e => by rw [e, hD] at nq; cases nq
            refine yes _ _ s10 ⟨os ++ [some (q, a, ts)], by simp [rvO], ?_, fun y m => ?_⟩
            · rw [List.map_append, e2, take_snoc hwd, List.map_append]
              show _ ++ [some (a, ts)] = _ ++ [rdOk wd]
              rw [ea]
            · rcases List.mem_append.mp m with m | m
              · exact ⟨wo_same s10 _ _ (e3 y m).1, (e3 y m).2⟩
              · have : y = (q, a, ts) := Option.some.inj (List.mem_singleton.mp m)
                rw [this]
                exact ⟨wo_new hq qD, (rd_text (c := (a, ts)) ea).2⟩
        · obtain ⟨os, rfl, e2, e3⟩ := r'
          rw [List.length_map, List.take_length] at e2
          have los := congrArg List.length e2
          rw [List.length_map, List.length_map] at los
          refine qq _ _ ⟨D, os, rfl, u7.trans s8, none_of u7 nD, hD, ?_, by omega, fun y m => ⟨wo_le _ _ (e3 y m).1, (e3 y m).2⟩⟩
          unfold lotO
          rw [if_neg ne]
          exact e2
      obtain ⟨Lq, os, rfl, s67, nLq, hLq, eos, los, fos⟩ := pr
      have hN7 := s67 _ _ hN
      have hA7 := s67 _ _ hA6
      refine ⟨_, rfl, .inl ⟨rfl, _, .inl (.inl hN7)⟩, ?_⟩
      obtain ⟨p, hp⟩ : ∃ p : Option Nat, p = (if s.1 = [] then none else s.2[ld l - 1]?) := ⟨_, rfl⟩
      dsimp only [tCons, tTup]
      refine tif_any (Pr := fun v H' => v = pV p ∧ H' = H7) (!(xs.map fun x => V.ref x.t).isEmpty) (fun Rr rr => ⟨_, rfl, _, .inl ⟨_, SqL.of hN7, rfl⟩, rr⟩) (fun e Qq qq => ?_) (fun e Qq qq => ?_) (fun v H8 pr => ?_)
      · rw [nodes0] at e
        have e0 : s.1 ≠ [] := fun z => by
          rw [decide_eq_true z] at e
          cases e
        have d1 : 1 ≤ ld l := Nat.pos_of_ne_zero fun z => c' (.inr ⟨e0, z⟩)
        have dl : ld l - 1 < s.2.length := by
          have : ¬ s.2.length < ld l := fun z => c' (.inl z)
          omega
        have ei : ((ld l : Nat) : Int) - 1 = ((ld l - 1 : Nat) : Int) := by omega
        rw [if_neg e0, List.getElem?_eq_getElem dl] at hp
        refine ⟨_, rfl, _, rfl, _, _, rfl, rfl, A, _, _, pV p, rfl, rfl, SqL.of hA7, ?_, qq _ _ ⟨rfl, rfl⟩⟩
        rw [ei]
        refine atI_nat ?_
        rw [List.getElem?_map, List.getElem?_eq_getElem dl, hp]
        rfl
      · rw [nodes0] at e
        have e0 : s.1 = [] := by
          cases h : decide (s.1 = []) with
          | true => exact of_decide_eq_true h
          | false =>
            rw [h] at e
            cases e
        rw [if_pos e0] at hp
        exact qq _ _ ⟨by rw [hp]; rfl, rfl⟩
      obtain ⟨rfl, rfl⟩ := pr
      refine ⟨_, rfl, (by show 2 ≤ sizeLine; decide), fun t nt => ?_⟩
      have s8 : Same H8 (upd H8 t (.tup [pV p, .ref Lq])) := same_new nt
      have c8 : (upd H8 t (.tup [pV p, .ref Lq])) t = some (.tup [pV p, .ref Lq]) := upd_same
      have tN : t ≠ N := fun e => by rw [e, hN7] at nt; cases nt
      have LN : Lq ≠ N := fun e => by rw [e, hN] at nLq; cases nLq
      generalize upd H8 t (.tup [pV p, .ref Lq]) = H9 at s8 c8 ⊢
      have s69 := s67.trans s8
      have hN9 := s8 _ _ hN7
      have lxs : xs.length = s.1.length := by rw [← hxs, List.length_map]
      refine ⟨N, _, _, rfl, rfl, hN9, by rw [List.length_map, lxs, sizeLine_eq]; omega, ?_⟩
      have w9 : Same (Wo N H9) (Wo N (upd H9 N (.lst (xs.map (fun x => V.ref x.t) ++ [V.ref t])))) := wo_upd
      have hN10 : (upd H9 N (.lst (xs.map (fun x => V.ref x.t) ++ [V.ref t]))) N = some (.lst ((xs ++ [Nx.mk t p Lq os]).map fun x : Nx => V.ref x.t)) := by rw [upd_same]; simp
      generalize upd H9 N (.lst (xs.map (fun x => V.ref x.t) ++ [V.ref t])) = H10 at w9 hN10 ⊢
      have w610 : Same (Wo N H6) (Wo N H10) := (wo_same s69).trans w9
      have hA10 := wo_le _ _ (w610 _ _ hA)
      refine ⟨_, rfl, _, rfl, _, rfl, A, _, rfl, SqL.of hA10, fun B nB => ?_⟩
      rw [cutV_to]
      have u11 : Same H10 (upd H10 B (.lst ((intsV s.2).take (ld l)))) := same_new nB
      have c11 : (upd H10 B (.lst ((intsV s.2).take (ld l)))) B = some (.lst ((intsV s.2).take (ld l))) := upd_same
      generalize upd H10 B (.lst ((intsV s.2).take (ld l))) = H11 at u11 c11 ⊢
      refine ⟨B, _, rfl, .inr (SqL.of c11), _, rfl, N, _, rfl, .inl (SqL.of (u11 _ _ hN10)), _, _, rfl, rfl, ?_, fun A' nA' => ?_⟩
      · rw [List.length_append, List.length_take, sizeLine_eq]
        show min _ (intsV s.2).length + 1 ≤ _
        rw [List.length_map]
        omega
      have eA : (intsV s.2).take (ld l) ++ [V.int ((((xs ++ [Nx.mk t p Lq os]).map fun x : Nx => V.ref x.t).length : Nat) - 1)] = intsV (s.2.take (ld l) ++ [s.1.length]) := by
        rw [List.length_map, List.length_append, List.length_singleton, lxs]
        show _ = List.map _ _
        rw [List.map_append, List.map_take]
        show _ ++ [V.int _] = _ ++ [V.int _]
        congr 3
        omega
      dsimp only [List.append_eq]
      rw [eA]
      have u12 : Same H11 (upd H11 A' (.lst (intsV (s.2.take (ld l) ++ [s.1.length])))) := same_new nA'
      have c12 : (upd H11 A' (.lst (intsV (s.2.take (ld l) ++ [s.1.length])))) A' = some (.lst (intsV (s.2.take (ld l) ++ [s.1.length]))) := upd_same
      have AN : A' ≠ N := fun e => by rw [e, u11 _ _ hN10] at nA'; cases nA'
      generalize upd H11 A' (.lst (intsV (s.2.take (ld l) ++ [s.1.length]))) = H12 at u12 c12 ⊢
      have u1012 := u11.trans u12
      have w612 : Same (Wo N H6) (Wo N H12) := w610.trans (wo_same u1012)
      refine ⟨_, xs ++ [Nx.mk t p Lq os], A', _, _, _, _, _, rfl, step.trans hst, ?_, fun x m => ?_, u1012 _ _ hN10, wo_new c12 AN, ?_, ?_, sw.trans w612⟩
      · rw [List.map_append, hxs]
        show s.1 ++ [(p, os.map (Option.map (·.2)))] = _
        rw [eos, hp]
      · rcases List.mem_append.mp m with m | m
        · exact ⟨(hx x m).1.same w612, (hx x m).2⟩
        · rw [List.mem_singleton.mp m]
          refine ⟨⟨?_, .inl ?_, fun y hy => ?_⟩, los, fun y hy => (fos y hy).2⟩
          · exact (w9.trans (wo_same u1012)) _ _ (wo_new c8 tN)
          · exact ((wo_same s8).trans (w9.trans (wo_same u1012))) _ _ (wo_new hLq LN)
          · have g := (fos y hy).1
            exact ((wo_same s8).trans (w9.trans (wo_same u1012))) _ _ (wo_new g fun z => by rw [z, hN7] at g; cases g)
      · show (s.1 ++ [_]).length ≤ i + 1
        rw [List.length_append, List.length_singleton]
        omega
      · show (s.2.take (ld l) ++ [s.1.length]).length ≤ i + 1
        rw [List.length_append, List.length_take, List.length_singleton]
        omega
    · obtain ⟨s, xs, A, v3, v4, v5, v6, v7, rfl, hs, hxs, hx, hN, hA, l1, l2, sw⟩ := pp
      rw [List.length_map, List.length_map, List.take_length] at hs
      exact ⟨_, rfl, kQ s hs H5 N xs (sHN sw) nN ⟨.inl hN, fun x m => (hx x m).1.same wo_le⟩ hN hxs fun x m => (hx x m).2⟩
end
end L2.LawH
set_option Elab.async false
set_option linter.all false
set_option maxRecDepth 100000
set_option maxHeartbeats 4000000
/-! Question.read. -/
namespace L2.ClsCall
open PySem PySem.Spec PyProof.Rows ClX
section
variable {X : Cx} {CX : CXT} {k n : Nat} {C p g f : Addr} {sp : Sp} {E : St → XK} {o e : Expr} {es : List Expr} {m x : Str} {pos apos np : Pos} {ta : TE} {t tk : TA} {fd : FuncData} {ps ks : List Str}
theorem run_makeS {pins : List (Addr × Obj)} {σ : St} {H : Hp} {s : Shared} {Q : VK} {us : List Value} {vs : List V} (M : Mk X.K C f) (F : FnOk X.prog X.w X.K X.mg X.base CX k f fd ps sp) (hr : Room (k + 1) X.A) {dvs : List V} {ds : List Value} (hb : Binds X.K fd ps ds) (hd : Vals dvs ds)
    (hx : PassesAt CX X σ (E σ)) (I : Inv X pins σ H s) (r : Vals vs us)
    (h : ∀ x dx, H x = none → H dx = none → dx ≠ x → sp (.ref x :: (vs ++ dvs)) (upd (upd H dx (.own x)) x (.ins C dx [])) (fun v H2 => v = .non ∧ Q (.ref x) H2) (E σ)) :
    wpAny (model X.prog X.w) X.A (call (.ref C) us) (EP X pins σ Q) X.xe s := by
  have hq := h (s.heap.objs.size + 1) s.heap.objs.size (I.hok.fresh (Nat.le_succ _)) (I.hok.fresh (Nat.le_refl _)) (Nat.ne_of_lt (Nat.lt_succ_self _))
  have I2 := Inv.made (C := C) I
  have r2 : Vals (V.ref (s.heap.objs.size + 1) :: (vs ++ dvs)) (Value.ref (s.heap.objs.size + 1) :: (us ++ ds)) := .cons rfl (r.append hd)
  have hl : (Value.ref (s.heap.objs.size + 1) :: us ++ ds).length = ps.length := by
    have e := r2.length
    rw [F.len _ _ _ _ hq] at e
    exact e.symm
  refine wpAny_call (make_map (f := f) I.kIn M.makes M.init (beq_iff_eq.mp M.fn) (codeAny_mono (F.run _ X.stack _ _ ⟨Value.ref (s.heap.objs.size + 1) :: us, []⟩ (Value.ref (s.heap.objs.size + 1) :: (us ++ ds)) _ _ (E σ) (hr.make C us [])
    (I2.env0.make C us []) (hb _ (Value.ref (s.heap.objs.size + 1) :: us) I2.kIn hl) r2 hq) fun r s' hq' => ?_))
  cases r with
  | error e => exact hx pins _ _ e s' I2 hq'
  | ok fl =>
    cases fl with
    | ret u =>
      obtain ⟨v, H', I3, rv, ev, q3⟩ := I2.after hq'
      subst ev
      exact ⟨rv, ⟨V.ref (s.heap.objs.size + 1), H', I3, rfl, q3⟩⟩
    | next => exact False.elim hq'
    | brk => exact False.elim hq'
    | cont => exact False.elim hq'
def tMakeS (C : Addr) (sp : Sp) (dvs : List V) (E : St → XK) (t : TA) : TE := fun σ H Q => t σ H fun vs H1 => ∀ x dx, H1 x = none → H1 dx = none → dx ≠ x → sp (.ref x :: (vs ++ dvs)) (upd (upd H1 dx (.own x)) x (.ins C dx [])) (fun v H2 => v = .non ∧ Q (.ref x) H2) (E σ)
theorem pe_makeS (M : Mk X.K C f) (F : FnOk X.prog X.w X.K X.mg X.base CX k f fd ps sp) (hr : Room (k + 1) X.A) (hg : Gl X x) (hm : X.mg x = some (.ref C)) {dvs : List V} {ds : List Value} (hb : Binds X.K fd ps ds) (hd : Vals dvs ds) (hx : ∀ σ, PassesAt CX X σ (E σ))
    (ha : PA X (e :: es) t) (hdb : (x == ("__debug__" : Str)) = false := by decide) (he : starEach (e :: es) X.env = (false, eval e X.env) :: starEach es X.env := by rfl) (hpl : (backTo pos (starEach es X.env)).any (·.1) = false := by rfl) :
    PE X (.Call (.Name x np) (e :: es) [] pos) (tMakeS C sp dvs E t) := by
  refine ⟨fun pins s σ H Q I h => ?_⟩
  refine wpAny_Call_Name_kw (ld_glob I hg hm ?_ hdb)
  refine PySem.W.callWith_K (h₀ := X.base) I.ok.mod.kin M.kp (thn (ha.run pos pins s σ H _ I h) fun us s1 ⟨vs, H1, I1, r, q⟩ => ⟨I1.kIn, ?_⟩) he hpl
  exact run_makeS M F hr hb hd (hx σ) I1 r q
/-- a class in a slot is called, its __init__ may raise -/
def tMakeVS (i : Nat) (C : Addr) (sp : Sp) (E : St → XK) (t : TA) : TE := fun σ H Q => σ[i]? = some (some (.ref C)) ∧ tMakeS C sp [] E t σ H Q
theorem pe_makeVS {i : Nat} (hN : X.N[i]? = some x) (hv : Vis X.env.scope x) (M : Mk X.K C f) (F : FnOk X.prog X.w X.K X.mg X.base CX k f fd ps sp) (hr : Room (k + 1) X.A) (hb : Binds X.K fd ps []) (hx : ∀ σ, PassesAt CX X σ (E σ)) (ha : PA X (e :: es) t)
    (hd : (x == ("__debug__" : Str)) = false := by decide) (hcd : (x == ("__classdict__" : Str)) = false := by decide) (he : starEach (e :: es) X.env = (false, eval e X.env) :: starEach es X.env := by rfl) (hpl : (backTo pos (starEach es X.env)).any (·.1) = false := by rfl) :
    PE X (.Call (.Name x np) (e :: es) [] pos) (tMakeVS i C sp E t) := by
  refine ⟨fun pins s σ H Q I h => ?_⟩
  obtain ⟨at_i, h⟩ := h
  refine wpAny_Call_Name_kw (thn ((pe_var (pos := np) hN hv hd hcd).run pins s σ H (fun v H1 => v = .ref C ∧ H1 = H) I ⟨.ref C, at_i, rfl, rfl⟩) fun u s1 ⟨v, H1, I1, r1, q1⟩ => ?_)
  obtain ⟨rfl, rfl⟩ := q1
  cases r1
  refine PySem.W.callWith_K (h₀ := X.base) I.ok.mod.kin M.kp (thn (ha.run pos pins s1 σ _ _ I1 h) fun us s2 ⟨vs, H2, I2, r, q⟩ => ⟨I2.kIn, ?_⟩) he hpl
  exact run_makeS M F hr hb .nil (hx σ) I2 r q
end
end L2.ClsCall
namespace L2.LawH
open PySem PySem.Spec PyProof.Rows L2.TxtSet TL L2.NSet PySem.W L2.Cmp L2.Rws L2.ZipL L2.ExcN L2.ClsCall
abbrev sRdQ : Stmt := inClass (top 30) 36
/-- what is handed in, as it stands -/
def rawO (x : Nx) : Nd := (x.p, (x.os.filterMap id).map (·.2))
theorem tr_raw (x : Nx) : trO x = ((rawO x).1, nrm (rawO x).2) := rfl
theorem lo_raw (xs : List Nx) (k : Nat) : lo (xs.map trO) k = nrm (lo (xs.map rawO) k) := by
  unfold lo
  rw [List.getElem?_map, List.getElem?_map]
  cases xs[k]? with
  | none => rfl
  | some x => rfl
theorem prs_raw (xs : List Nx) : prs (xs.map rawO) = xs.map (·.p) := by
  unfold prs
  rw [List.map_map]
  rfl
theorem raw_told {xs : List Nx} (h : ∀ x ∈ xs, none ∉ x.os) : xs.map toO = (xs.map rawO).map fun x => ((x.1, x.2.map some) : NdO) := by
  rw [List.map_map]
  refine List.map_congr_left fun x hx => ?_
  obtain ⟨ys, e⟩ := none_free (h x hx)
  show (x.p, x.os.map (Option.map (·.2))) = (x.p, ((x.os.filterMap id).map (·.2)).map some)
  rw [e, some_filter, List.map_map, List.map_map]
  rfl
theorem raw_one {ls : List (List Nat)} {s : Tst} {τ : List Nd} {xs : List Nx} (e : tld ([], []) ls = some s) (ex : xs.map toO = s.1) (r : RdOk ls τ) : (∀ x ∈ xs, none ∉ x.os) ∧ τ = xs.map rawO := by
  obtain ⟨⟨ab, h⟩, _⟩ := r
  rw [e] at h
  have h := Option.some.inj h
  have h1 : s.1 = τ.map fun x => ((x.1, x.2.map some) : NdO) := by rw [h]
  have nn : ∀ x ∈ xs, none ∉ x.os := fun x hx hn => by
    have m : toO x ∈ τ.map fun x => ((x.1, x.2.map some) : NdO) := by
      rw [← h1, ← ex]
      exact List.mem_map_of_mem hx
    obtain ⟨y, _, ey⟩ := List.mem_map.mp m
    have : (none : Option Fc) ∈ (toO x).2 := List.mem_map.mpr ⟨none, hn, rfl⟩
    rw [← ey] at this
    obtain ⟨c, _, ec⟩ := List.mem_map.mp this
    cases ec
  refine ⟨nn, ?_⟩
  rw [raw_told nn, h1] at ex
  exact (somes_inj ex).symm
theorem asc_same {xs : List Nx} (h : ∀ x ∈ xs.map rawO, Asc x.2) : xs.map trO = xs.map rawO := List.map_congr_left fun x hx => by
  rw [tr_raw, nrm_self (h _ (List.mem_map_of_mem hx))]
def spReadQ (C BT : Addr) : Sp := fun vs H Q E => ∃ (z : Str) (ls : List (List Nat)), vs = [.ref C, .str z] ∧ LnsOk ls ∧ tl z = joinL [10] ls ∧
  ((∀ τ, ¬ RdOk ls τ) → ∀ H', Same H H' → E (.ref BT) none H') ∧
  (∀ τ, RdOk ls τ → ∀ (H' : Hp) (g : Addr), Same H H' → H g = none → QAt C H' g τ → Q (.ref g) H')
section
variable {P : Program} {w : World} {K : PySem.W.Frag} {mg : Str → Option Value} {base : Heap}
abbrev nRdQ : List Str := ["cls", "text", "nodes", "question"]
theorem scRdQ : FnScope nRdQ ["cls", "text"] (defScope sRdQ) := ⟨rfl, rfl, rfl, by decide +kernel, rfl, by decide +kernel, by decide +kernel⟩
theorem ok_rdQ {f fN fI fT C BT BP LO NN : Addr} {fd fdN fdI fdT : FuncData} {bmB : List Value} (F : Fun K "read" "Question.read" sRdQ f fd) (T : ClQ K C)
    (GN : FnOk P w K mg base (L2N.CX P w) 5 fN fdN ["text"] (spNTld BT)) (kN : PySem.W.keepIn K (.ref fN) = true) (bN : Binds K fdN ["text"] []) (mN : mg "nodes_told" = some (.ref fN))
    (M : Mk K C fI) (GI : FnOk P w K mg base (L2N.CX P w) 4 fI fdI ["self", "nodes"] (spInitQ C BP LO NN)) (bI : Binds K fdI ["self", "nodes"] [])
    (hT : Meth K C "text" fT) (GT : FnOk P w K mg base CX0 3 fT fdT ["self"] (spTxtQ C)) (bT : Binds K fdT ["self"] [])
    (mBP : mg "BadPattern" = some (.ref BP)) (mLO : mg "Loose" = some (.ref LO)) (mNN : mg "NothingNew" = some (.ref NN))
    (x1 : PySem.W.exmAny K (.ref BP) [.ref BP, .ref LO, .ref NN] = some true) (x2 : PySem.W.exmAny K (.ref LO) [.ref BP, .ref LO, .ref NN] = some true) (x3 : PySem.W.exmAny K (.ref NN) [.ref BP, .ref LO, .ref NN] = some true)
    (FB : ExcBaseFacts "ValueError" "ValueError.__new__" "ValueError.__init__" bmB) (xB : PySem.W.excIn K BT bmB "ValueError.__new__" = true) (gB : mg "BadText" = some (.ref BT)) (kB : PySem.W.keepIn K (.ref BT) = true) (rB : ∀ {X : Cx}, X.K = K → Raises X (.ref BT)) :
    FnOk P w K mg base (L2.CX P w) 6 f fd ["cls", "text"] (spReadQ C BT) := by
  refine F.okX scRdQ (fun vs H Q E h => ?_) (fun cdv A outer s H vs Q E hr h => ?_)
  · obtain ⟨_, _, rfl, _⟩ := h
    rfl
  · obtain ⟨z, ls, rfl, lok, ez, kE, kQ⟩ := h
    have hr3 : Room 3 _ := hr.mono (by decide)
    have tk0 := takes_of (E := E) (X := cxOf (L2.CX P w) P w K mg base nRdQ "Question.read" (defScope sRdQ) f cdv A outer s H E) rfl rfl rfl rfl
    refine ⟨_, pss_cons (ps_set (i := 2) scRdQ.nd rfl (Or.inl rfl) (pe_callS (fnN GN) hr (by rfl) mN kN bN (fun σ => L2.passAt tk0 σ) (pa_cons (pv 1) pa_nil)))
      (pss_cons (L2.TryTup.ps_try_tup3X rfl rfl ⟨rfl, by decide, .inl mBP⟩ ⟨rfl, by decide, .inl mLO⟩ ⟨rfl, by decide, .inl mNN⟩ (fun hd => L2H.passesAt_of rfl hd) tk0
          (fun W pn xe tk _ => pss_one (ps_set (i := 3) scRdQ.nd rfl (Or.inl rfl) (pe_makeVS (i := 0) rfl (Or.inl rfl) M GI hr bI (fun σ => L2N.passAt tk σ) (pa_cons (pv 2) pa_nil))))
          (fun a oe cls d pn hz hf tk hot => pss_one (L2H.ps_raiseHN hot tk (pmk5_own0 FB xB gB kB (rB rfl) (by rfl)))))
      (pss_cons (ps_if (pt_cmpR op_ne (pe_meth0 (pv 3) T.cl hT GT hr3 bT .nil pass0) (pv 1) (nomark _)) (pss_one (L2N.ps_raise rfl (takesN tk0) (pmk_own0N FB xB gB kB (rB rfl) (by rfl)))) pss_nil)
      (pss_one (ps_ret (pv 3))))), ?_⟩
    refine ⟨_, rfl, z, ls, rfl, lok, ez, fun en H' s' => kE (fun τ r => ?_) H' s', fun s es H1 N xs s1 nN hN cN ex fo => ?_⟩
    · obtain ⟨⟨ab, h⟩, _⟩ := r
      rw [en] at h
      cases h
    have ti := told_of es
    have e1 : s.1.map (·.1) = xs.map (·.p) := by
      rw [← ex, List.map_map]
      rfl
    have lx : xs.length = ls.length := by
      rw [← ti.len, ← ex, List.length_map]
    have lpos : 0 < ls.length := List.length_pos_iff.mpr lok.ne
    have wf := ti.wf
    rw [e1] at wf
    refine ⟨rfl, _, rfl, fun p dx np ndx dp => ?_⟩
    have s2 : Same H1 (upd (upd H1 dx (.own p)) p (.ins C dx [])) := fun b o e => by
      have b1 : b ≠ p := fun z => by rw [z, np] at e; cases e
      have b2 : b ≠ dx := fun z => by rw [z, ndx] at e; cases e
      rw [upd_ne b1, upd_ne b2]
      exact e
    have c2 : (upd (upd H1 dx (.own p)) p (.ins C dx [])) p = some (.ins C dx []) := upd_same
    generalize upd (upd H1 dx (.own p)) p (.ins C dx []) = H2 at s2 c2 ⊢
    have kp : ∀ {H'}, Keep p H2 H' → Same H H' := fun k b o e => k b o (s2 _ _ (s1 _ _ e)) fun z => by
      have := s1 _ _ e
      rw [z, np] at this
      cases this
    have np0 : H p = none := by
      cases e : H p with
      | none => rfl
      | some o =>
        rw [s1 _ _ e] at np
        cases np
    refine ⟨p, dx, N, xs, rfl, c2, hN.same s2, by omega, by have := lok.few; omega, wf, fun x m => ⟨by have := (fo x m).1; omega, (fo x m).2⟩, fun H' d c kk cc => ?_, fun nn gd H' kk qa => ⟨rfl, ?_⟩⟩
    · have no : ∀ τ, ¬ RdOk ls τ := fun τ r => by
        obtain ⟨nn, rfl⟩ := raw_one es ex r
        rcases cc with ⟨_, x, hx, hn⟩ | ⟨_, _, ng⟩
        · exact nn x hx hn
        · refine ng ?_
          have g := r.2.1
          rw [prs_raw] at g
          rw [asc_same r.2.2]
          exact g
      refine ⟨true, ?_, fun _ a na => kE no _ (kp kk), fun q => nomatch q⟩
      rcases cc with ⟨rfl, _⟩ | ⟨rfl | rfl, _⟩
      · exact x1
      · exact x2
      · exact x3
    · obtain ⟨dx', r', _, _, _, _, _, hp, _⟩ := id qa.ex
      refine ⟨_, rfl, _, _, _, rfl, hp, rfl, p, xs.map trO, rfl, qa, by rw [prs_tr]; exact wf, by rw [List.length_map]; omega, by rw [List.length_map]; have := lok.few; omega, fun x m => ?_, fun H3 s3 => ?_⟩
      · obtain ⟨y, hy, rfl⟩ := List.mem_map.mp m
        obtain ⟨k, hk, ek⟩ := List.mem_iff_getElem.mp m
        have := lo_ok (fun x m => ⟨by have := (fo x m).1; omega, (fo x m).2⟩ : ∀ x ∈ xs, x.os.length ≤ 20 ∧ ∀ y, some y ∈ x.os → Fct y.2) k
        rw [lo_at (x := trO y) (by rw [List.getElem?_eq_getElem hk, ek])] at this
        exact ⟨this.1, this.2.1⟩
      have ab : tld ([], []) ls = some ((xs.map rawO).map (fun x => ((x.1, x.2.map some) : NdO)), s.2) := by
        rw [es, ← raw_told nn, ex]
      have tt := told_text ab lok.ne
      have eT : tl (txS (xs.map trO)) = joinL [10] (tlin (prs (xs.map rawO)) fun k => nrm (lo (xs.map rawO) k)) := by
        rw [tl_txS, prs_tr, prs_raw]
        congr 2
        funext k
        exact lo_raw xs k
      refine ⟨_, rfl, rfl, _, rfl, ?_⟩
      by_cases a : ∀ x ∈ xs.map rawO, Asc x.2
      · have e0 : txS (xs.map trO) = z := ext_tl (by rw [eT, ez]; exact tt.mpr a)
        have d0 : (!decide (V.str (txS (xs.map trO)) = V.str z)) = false := by rw [e0]; simp
        rw [d0]
        refine iteF ⟨_, rfl, ?_⟩
        have e1 := asc_same a
        rw [e1] at qa
        exact kQ _ ⟨⟨s.2, ab⟩, by rw [prs_raw, ← e1]; exact gd, a⟩ H3 p ((kp kk).trans s3) np0 (qa.same s3)
      · have d0 : (!decide (V.str (txS (xs.map trO)) = V.str z)) = true := by
          have : txS (xs.map trO) ≠ z := fun e => a (tt.mp (by rw [← eT, e, ez]))
          simp [this]
        rw [d0]
        refine iteT (kE (fun τ r => ?_) _ ((kp kk).trans s3))
        obtain ⟨_, rfl⟩ := raw_one es ex r
        exact a r.2.2
end
end L2.LawH
set_option Elab.async false
set_option linter.all false
set_option maxRecDepth 100000
set_option maxHeartbeats 4000000
/-! _law_tied. -/
namespace L2.LawH
open PySem PySem.Spec PyProof.Rows L2.TxtSet TL L2.NSet PySem.W L2.Cmp L2.Rws L2.ZipL L2.ExcN L2.ClsCall
theorem ixN_of {n j : Nat} (h : j < n) : ixN n (j : Int) = some j := by
  unfold ixN
  rw [if_pos (by omega), if_pos (by omega)]
  simp
abbrev sTied : Stmt := top 38
def spTied : Sp := fun vs H Q _ => ∃ (a r p q : Addr) (m : Nat) (ω : Wld) (O : List Str) (f : Str), vs = [.ref a, .ref p, .ref q, .str f] ∧ DrwAt a r (m + 5) H ∧ WldAt (Off a r H) p ω ∧ WldOk ω ∧
  Off a r H q = some (.lst (O.map V.str)) ∧ 0 < O.length ∧ O.length ≤ 1000 ∧ (∀ z ∈ O, Vr z) ∧ f ∈ O ∧
  ∀ (t : Addr) (T : Str) (zs : List Str) (H' : Hp), Off a r H' t = some (.tup (.str T :: zs.map V.str)) → H t = none → PatG T zs → (∀ z ∈ zs, z ∈ O) → f ∈ zs → DrwAt a r m H' → Kp a r H H' → Q (.ref t) H'
section
variable {P : Program} {w : World} {K : PySem.W.Frag} {mg : Str → Option Value} {base : Heap}
abbrev pTied : List Str := ["_law_pool_here", "_law_world_here", "_law_own", "_law_fresh"]
abbrev nTied : List Str := ["_law_pool_here", "_law_world_here", "_law_own", "_law_fresh", "_law_table", "_law_size", "_law_k", "_law_terms"]
theorem scTied : FnScope nTied pTied (defScope sTied) := ⟨rfl, rfl, rfl, by decide +kernel, rfl, by decide +kernel, by decide +kernel⟩
theorem ok_tied {f fD : Addr} {fd fdD : FuncData} (F : Fun K "_law_tied" "_law_tied" sTied f fd)
    (GD : FnOk P w K mg base CX0 1 fD fdD ["_law_pool_here", "_law_limit"] spDraw3) (kD : PySem.W.keepIn K (.ref fD) = true) (bD : Binds K fdD ["_law_pool_here", "_law_limit"] []) (mD : mg "_law_draw" = some (.ref fD))
    (ml : mg "len" = none) (mr : mg "range" = none) (mt : mg "tuple" = none) : FnOk P w K mg base CX0 2 f fd pTied spTied := by
  refine F.ok scTied (fun vs H Q E h => ?_) (fun cdv A outer s H vs Q E hr h => ?_)
  · obtain ⟨_, _, _, _, _, _, _, _, rfl, _⟩ := h
    rfl
  · obtain ⟨a, r, p, q, m, ω, O, fr, rfl, hs, hw, ok, hO, lO0, lO, nO, fO, k⟩ := h
    have hr1 : Room 1 _ := hr.mono (by decide)
    have hu := hr.units
    refine ⟨_, pss_cons (ps_asg (pe_ix (ix_listK (K := K) rfl) (pe_lc (own := [("_law_k", 6)]) (g := gName 6) rfl scTied.nd (pi_range1 (by rfl) mr (pa_cons pe_int pa_nil))
            (blkOk_by (own := [("_law_k", 6)]) (N := nTied) (sc := defScope sTied) (by decide +kernel)) (fun _ _ _ _ _ => pg_name (i := 6) scTied.nd rfl (Or.inl rfl))
            (fun _ _ _ _ _ => pts_one (pt_cmpR op_gt (pe_ix (ix_tupK (K := K) rfl) (pe_ix (ix_listK (K := K) rfl) (pe_ix (ix_tupK (K := K) rfl) (pv 1) pe_int (fun _ _ => rfl)) (pv 6) (fun _ _ => rfl)) pe_int (fun _ _ => rfl)) pe_int (by rfl)))
            (fun _ _ _ _ _ => pe_ix (ix_listK (K := K) rfl) (pe_ix (ix_tupK (K := K) rfl) (pv 1) pe_int (fun _ _ => rfl)) (pv 6) (fun _ _ => rfl)))
          (pe_call GD hr1 (by rfl) mD kD bD .nil pass0 (pa_cons (pv 0) (pa_cons pe_int pa_nil))) (fun _ _ => rfl))
        (pg_tup (by rfl) (pgs_cons (pg_name (i := 4) scTied.nd rfl (Or.inl rfl)) (pgs_cons (pg_name (i := 5) scTied.nd rfl (Or.inl rfl)) pgs_nil))))
      (pss_cons (ps_setLc (i := 7) (own := [("_law_k", 6)]) (g := gName 6) (tt := tYes) rfl scTied.nd rfl rfl (sw_true rfl rfl rfl (by decide +kernel)) (pi_range1 (by rfl) mr (pa_cons (pv 5) pa_nil))
            (blkOk_by (own := [("_law_k", 6)]) (N := nTied) (sc := defScope sTied) (by decide +kernel)) (fun _ _ _ _ _ => pg_name (i := 6) scTied.nd rfl (Or.inl rfl)) (fun _ _ _ _ _ => pts_nil)
            (fun _ _ _ _ _ => pe_ix (ix_listK (K := K) rfl) (pv 2) (pe_call GD hr1 (by rfl) mD kD bD .nil pass0 (pa_cons (pv 0) (pa_cons (pe_callB (call_len_seqK (K := K) rfl) (by rfl) ml (by decide +kernel) (pa_cons (pv 2) pa_nil)) pa_nil))) (fun _ _ => rfl)))
      (pss_cons (ps_asg (pv 3) (pg_sub (pv 7) (pe_call GD hr1 (by rfl) mD kD bD .nil pass0 (pa_cons (pv 0) (pa_cons (pv 5) pa_nil))) set_list))
      (pss_one (ps_ret (pe_op op_catB (pe_tup (pa_cons (pv 4) pa_nil)) (pe_callTy call_tuple_of (by rfl) mt (by decide +kernel) (pa_cons (pv 7) pa_nil))))))), ?_⟩
    obtain ⟨t, c, v, h1, h2, h3, h4, h5⟩ := hw
    have hpp := off_le _ _ h1
    have hp2 := off_le _ _ h2
    refine ⟨_, rfl, (by decide), (by decide), fun D nD => ?_⟩
    have zD := hs.ne nD
    have pD : p ≠ D := ne_of_none hpp nD
    have tD : t ≠ D := ne_of_none hp2 nD
    have grow : ∀ {G H4 : Hp} {o : HO}, Same H H4 → Same H (upd H4 D o) := fun s b o e => by
      rw [upd_ne (ne_of_none e nD)]
      exact s _ _ e
    refine lc_range (lo := 0) (n := 5) (fun i H5 => H5 D = some (.lst (((ω.T.take i).filter fun x => decide (0 < x.2.2)).map fun x => V.ref x.1)) ∧ Same H H5) ⟨upd_same, same_new nD⟩ ?_ ?_
    · rintro i H5 hi ⟨hD, s5⟩
      have hi' : i < ω.T.length := by rw [ok.lT]; exact hi
      have hget := List.getElem?_eq_getElem hi'
      have ex : (ω.T.map fun x => V.ref x.1)[i]? = some (.ref ω.T[i].1) := by
        rw [List.getElem?_map, hget]
        rfl
      have hx := off_le _ _ (h5 _ (List.getElem_mem hi'))
      generalize ω.T[i] = y at ex hget hx
      have e0 : (0 : Int) + (i : Int) = (i : Nat) := by omega
      refine ⟨rfl, _, rfl, p, _, 0, _, rfl, rfl, SqT.of (s5 _ _ hpp), rfl, _, rfl, t, _, _, .ref y.1, rfl, rfl, SqL.of (s5 _ _ hp2), by rw [e0]; exact atI_nat ex, y.1, _, 1, _, rfl, rfl, SqT.of (s5 _ _ hx), rfl, _, _, rfl, rfl, _, rfl, ?_⟩
      have et : (ω.T.take (i + 1)).filter (fun x => decide (0 < x.2.2)) = (ω.T.take i).filter (fun x => decide (0 < x.2.2)) ++ (if 0 < y.2.2 then [y] else []) := by
        rw [take_snoc hget, List.filter_append]
        congr 1
        by_cases h : 0 < y.2.2 <;> simp [h]
      have e1 : decide ((((y.2.2 : Nat) : Int)) > 0) = decide (0 < y.2.2) := by
        by_cases h : 0 < y.2.2
        · rw [decide_eq_true h, decide_eq_true (show ((y.2.2 : Nat) : Int) > 0 by omega)]
        · rw [decide_eq_false h, decide_eq_false (show ¬ ((y.2.2 : Nat) : Int) > 0 by omega)]
      rw [e1]
      by_cases h : 0 < y.2.2
      · rw [decide_eq_true h]
        refine iteT ?_
        rw [if_pos h] at et
        refine ⟨_, rfl, p, _, 0, _, rfl, rfl, SqT.of (s5 _ _ hpp), rfl, _, rfl, t, _, _, .ref y.1, rfl, rfl, SqL.of (s5 _ _ hp2), by rw [e0]; exact atI_nat ex, _, hD, ?_, ?_, grow (G := H) s5⟩
        · rw [List.length_map, sizeLine_eq]
          have := List.length_filter_le (fun x : Addr × Str × Nat => decide (0 < x.2.2)) (ω.T.take i)
          rw [List.length_take] at this
          omega
        · rw [upd_same, et, List.map_append]
          rfl
      · rw [decide_eq_false h]
        refine iteF ⟨?_, s5⟩
        rw [hD, et, if_neg h, List.append_nil]
    · rintro H5 ⟨hD, s5⟩
      have pos := ok.pos
      rw [List.take_of_length_le (by rw [ok.lT]; exact Nat.le_refl _)] at hD
      have k5 : Kp a r H H5 := Kp.of s5
      refine ⟨_, rfl, a, r, m + 4, 4, rfl, hs.same s5, by decide, by decide, fun x H6 x0 x1 s6 k6 => ?_⟩
      obtain ⟨j, rfl⟩ : ∃ j : Nat, x = j := ⟨x.toNat, by omega⟩
      have hj : j < (ω.T.filter fun x => decide (0 < x.2.2)).length := by omega
      have ex : ((ω.T.filter fun x => decide (0 < x.2.2)).map fun x => V.ref x.1)[j]? = some (.ref (ω.T.filter fun x => decide (0 < x.2.2))[j].1) := by
        rw [List.getElem?_map, List.getElem?_eq_getElem hj]
        rfl
      have mx := List.getElem_mem hj
      generalize (ω.T.filter fun x => decide (0 < x.2.2))[j] = y at ex mx
      obtain ⟨mT, yp⟩ := List.mem_filter.mp mx
      have yp := of_decide_eq_true yp
      obtain ⟨nT, l3⟩ := ok.nT _ mT
      have hx := h5 _ mT
      have k06 := k5.trans k6
      refine ⟨D, _, _, _, rfl, rfl, SqL.of (kp_at k6 hD zD.1 zD.2), atI_nat ex, _, _, rfl, SqT.of (off_le _ _ (k06 _ _ hx)), rfl, _, _, rfl, _, _, rfl, rfl, ?_⟩
      refine ⟨_, rfl, _, rfl, by omega, by omega, fun B nB => ?_⟩
      rw [Int.toNat_natCast]
      have zB := s6.ne nB
      have hq6 := k06 _ _ hO
      refine lc_range (lo := 0) (n := y.2.2) (fun i H7 => ∃ zs : List Str, zs.length = i ∧ (∀ z ∈ zs, z ∈ O) ∧ H7 B = some (.lst (zs.map V.str)) ∧ DrwAt a r (m + 1 + (y.2.2 - i)) H7 ∧ Kp a r H6 H7)
        ⟨[], rfl, fun _ z => (by cases z), upd_same, (s6.same (same_new nB)).mono (by omega), Kp.of (same_new nB)⟩ ?_ ?_
      · rintro i H7 hi ⟨zs, lz, hz, hB, s7, k7⟩
        refine ⟨rfl, ?_⟩
        dsimp only [tYes]
        rw [if_pos rfl]
        have s7' : DrwAt a r (m + 1 + (y.2.2 - (i + 1)) + 1) H7 := s7.mono (by omega)
        have hq7 := off_le _ _ (k7 _ _ hq6)
        refine ⟨_, rfl, _, rfl, _, rfl, q, _, rfl, .inl (SqL.of hq7), a, r, m + 1 + (y.2.2 - (i + 1)), _, rfl, s7', by rw [List.length_map]; omega, by rw [List.length_map]; omega, fun x3 H8 x30 x31 s8 k8 => ?_⟩
        rw [List.length_map] at x31
        obtain ⟨j3, rfl⟩ : ∃ j : Nat, x3 = j := ⟨x3.toNat, by omega⟩
        have hj3 : j3 < O.length := by omega
        have k78 := k7.trans k8
        refine ⟨q, _, _, .str O[j3], rfl, rfl, SqL.of (off_le _ _ (k78 _ _ hq6)), atI_nat (strs_get hj3), _, kp_at k8 hB zB.1 zB.2, ?_, zs ++ [O[j3]], by simp [lz], fun z hzz => ?_, by rw [upd_same]; simp, s8.upd (H0 := H) zB.1 zB.2, kp_upd_new k78 nB⟩
        · rw [List.length_map, lz, sizeLine_eq]
          omega
        · rcases List.mem_append.mp hzz with hzz | hzz
          · exact hz z hzz
          · rw [List.mem_singleton.mp hzz]
            exact List.getElem_mem hj3
      · rintro H7 ⟨zs, lz, hz, hB, s7, k7⟩
        have k07 := k06.trans k7
        have s7' : DrwAt a r (m + 1) H7 := s7.mono (by omega)
        refine ⟨_, rfl, _, rfl, _, rfl, _, rfl, a, r, m, _, rfl, s7', by omega, by omega, fun x3 H8 x30 x31 s8 k8 => ?_⟩
        obtain ⟨j3, rfl⟩ : ∃ j : Nat, x3 = j := ⟨x3.toNat, by omega⟩
        have hB8 := kp_at k8 hB zB.1 zB.2
        have lj : j3 < (zs.map V.str).length := by rw [List.length_map, lz]; omega
        refine ⟨B, _, _, j3, rfl, rfl, hB8, ixN_of lj, ?_⟩
        have eS : (zs.map V.str).set j3 (.str fr) = (zs.set j3 fr).map V.str := (List.map_set (f := V.str)).symm
        rw [eS]
        have c9 : (upd H8 B (.lst ((zs.set j3 fr).map V.str))) B = some (.lst ((zs.set j3 fr).map V.str)) := upd_same
        have s9 : DrwAt a r m (upd H8 B (.lst ((zs.set j3 fr).map V.str))) := s8.upd (H0 := H) zB.1 zB.2
        have k9 : Kp a r H6 (upd H8 B (.lst ((zs.set j3 fr).map V.str))) := kp_upd_new (k7.trans k8) nB
        have hz9 : ∀ z ∈ zs.set j3 fr, z ∈ O := fun z hzz => by
          rcases List.mem_or_eq_of_mem_set hzz with h | rfl
          · exact hz z h
          · exact fO
        have mf : fr ∈ zs.set j3 fr := List.mem_set (by rw [List.length_map] at lj; exact lj) _
        have l9 : (zs.set j3 fr).length = y.2.2 := by rw [List.length_set, lz]
        generalize upd H8 B (.lst ((zs.set j3 fr).map V.str)) = H9 at c9 s9 k9 ⊢
        generalize zs.set j3 fr = ys at c9 hz9 mf l9 ⊢
        have k09 := k06.trans k9
        refine ⟨_, rfl, (by show 1 ≤ sizeLine; decide), fun p1 np1 => ?_⟩
        have u4 : Same H9 (upd H9 p1 (.tup [.str y.2.1])) := same_new np1
        have c4 : (upd H9 p1 (.tup [.str y.2.1])) p1 = some (.tup [.str y.2.1]) := upd_same
        generalize upd H9 p1 (.tup [.str y.2.1]) = H10 at u4 c4 ⊢
        refine ⟨_, rfl, B, _, rfl, .inl ⟨SqL.of (u4 _ _ c9), fun p2 np2 => ?_⟩⟩
        have u5 : Same H10 (upd H10 p2 (.tup (ys.map V.str))) := same_new np2
        have c5 : (upd H10 p2 (.tup (ys.map V.str))) p2 = some (.tup (ys.map V.str)) := upd_same
        generalize upd H10 p2 (.tup (ys.map V.str)) = H11 at u5 c5 ⊢
        refine ⟨p1, p2, _, _, rfl, rfl, u5 _ _ c4, c5, ?_, fun p3 H12 s12 c12 n3 => ?_⟩
        · rw [List.length_map, l9, sizeLine_eq]
          show 1 + _ ≤ _
          omega
        · have s10 := s9.same u4
          have s11 := s10.same u5
          have z3 : p3 ≠ a ∧ p3 ≠ r := by
            rcases n3 with rfl | rfl | n3
            · exact s9.ne np1
            · exact s10.ne np2
            · exact s11.ne n3
          have n3' : H9 p3 = none := by
            rcases n3 with rfl | rfl | n3
            · exact np1
            · exact none_of u4 np2
            · exact none_of (u4.trans u5) n3
          refine k p3 _ ys H12 (by rw [off_of z3.1 z3.2]; exact c12) (kp_none k09 n3' z3.1 z3.2) ⟨nT, by omega, fun z m => .inr (nO z (hz9 z m))⟩ hz9 mf (s11.same s12) (((k09.trans (Kp.of u4)).trans (Kp.of u5)).trans (Kp.of s12))
end
end L2.LawH
set_option Elab.async false
set_option linter.all false
set_option maxRecDepth 100000
set_option maxHeartbeats 4000000
/-! set(texts): a list of texts goes into a new set. -/
namespace L2.TxtSet
open PySem PySem.Spec PyProof.Rows L2.GSet L2.Cmp L2.NSet
section
variable {P : Program} {w : World} {A : Around} {E : Value → Shared → Prop} {s : Shared}
abbrev uq (zs : List Str) : List Str := L2.LawH.uniq zs
theorem uq_next {zs : List Str} {i : Nat} {z : Str} (h : zs[i]? = some z) : uq (zs.take (i + 1)) = if z ∈ uq (zs.take i) then uq (zs.take i) else uq (zs.take i) ++ [z] := by
  rw [L2.LawH.take_snoc h]
  exact L2.LawH.uniq_snoc _ _
/-- the loop of set.update -/
theorem loopT {I : Addr} {fp wr : List Addr} {G : Array GenState → Array GenState → Prop} {n : Nat} {Pv : Nat → Value → Prop} {St : Nat → Shared → Prop} {R : Result → Shared → Prop}
    (W : WalksS P w A.in1 I fp wr G n Pv St) (S : Addr) (nf : S ∉ fp) (ks : List Str) (hn : n = ks.length) (few : ks.length < 64) (val : ∀ i v, Pv i v → ∃ z u, ks[i]? = some z ∧ v = .str z u)
    (g0 : Heap) (s0 : g0.get? S = none) (w0 : ∀ b ∈ wr, g0.get? b = none) :
    ∀ (m i : Nat) (s : Shared), n - i = m → i ≤ n → St i s → (∀ b o, g0.get? b = some o → s.heap.get? b = some o) → GAt (PySem.strKind P w) keyT s.heap S (uq (ks.take i)) →
      (∀ s2, Moved (S :: wr) G s s2 → GAt (PySem.strKind P w) keyT s2.heap S (uq (ks.take n)) → (∀ b o, g0.get? b = some o → s2.heap.get? b = some o) → R (.ok (.ret .none)) s2) →
      codeAny (model P w) A (.builtin "set.update.loop" ⟨[.ref S, .ref I], []⟩) R s := by
  have nw : S ∉ wr := fun h => nf (W.sub _ h)
  have wider : ∀ b ∈ wr, b ∈ S :: wr := fun b m => List.mem_cons_of_mem _ m
  have hold : ∀ {s1 s2 : Shared}, Moved wr G s1 s2 → (∀ b o, g0.get? b = some o → s1.heap.get? b = some o) → ∀ b o, g0.get? b = some o → s2.heap.get? b = some o := fun mv k b o e =>
    mv.heap b o (fun m => by rw [w0 b m] at e; cases e) (k b o e)
  intro m
  induction m with
  | zero =>
    rintro i s hm hi hst kp R0 hR
    obtain rfl : i = n := by omega
    refine codeAny_builtin F.entry_set_update_loop ?_
    rw [Around.under_plainId F.plain_set_update_loop _] <;> show wpAny _ A.in1 (pyNext (.ref I) >>= _) _ _ s
    refine wpAny_bind (W.done s _ _ hst fun s2 mv => ?_)
    have kp2 := hold mv kp
    exact wpAny_pure (hR s2 (mv.mono wider) (R0.keep fun o e => mv.heap S o nw e) kp2)
  | succ m ih =>
    rintro i s hm hi hst kp R0 hR
    have lt : i < n := by omega
    refine codeAny_builtin F.entry_set_update_loop ?_
    rw [Around.under_plainId F.plain_set_update_loop _] <;> show wpAny _ A.in1 (pyNext (.ref I) >>= _) _ _ s
    refine wpAny_bind (W.item i s _ _ lt hst fun v s2 hv hst2 mv => ?_)
    obtain ⟨z, u, hp, rfl⟩ := val i v hv
    have kp2 := hold mv kp
    have R2 : GAt (PySem.strKind P w) keyT s2.heap S (uq (ks.take i)) := R0.keep fun o e => mv.heap S o nw e
    have hx : (PySem.strKind P w).is z (.str z u) = true := Froz.is_str z u
    show wpAny _ A.in1 (holding [Value.str z u] (setAdd S (.str z u)) >>= _) _ _ s2
    unfold setAdd
    refine wpAny_bind (wpAny_holding (wpAny_holding (wpAny_bind ((PySem.strKind P w).pyHash hx ?_))))
    have lu := L2.LawH.uniq_len (ks.take i)
    rw [List.length_take] at lu
    refine add_hashed (s := { s2 with toks := s2.toks + 1 }) (keyT_is P w) hx rfl R2 (by have : (64 : Nat) < scanBound := by decide
                                                                                         show (L2.LawH.uniq (ks.take i)).length + 1 < _
                                                                                         omega) fun b h3 sb R3 => ?_
    have kp3 : ∀ b o, g0.get? b = some o → h3.get? b = some o := fun b o e => (sb.2 b fun z => by rw [z, s0] at e; cases e).trans (kp2 b o e)
    rw [← uq_next hp] at R3
    refine wpAny_pure ⟨plainId_quiet F.plain_set_update_loop _, ih (i + 1) _ (by omega) lt (W.frame _ s2 _ _ hst2 (Nat.le_add_right _ _) fun b mb o e => ?_) kp3 R3
      fun s4 mv4 R4 kp4 => hR s4 (Moved.trans W.gtrans ((mv.mono wider).then_heap (Nat.le_add_right _ _) fun b o nb e => ?_) mv4) R4 kp4⟩
    · rw [sb.2 b fun z => nf (by rw [← z]; exact mb)]
      exact e
    · rw [sb.2 b fun z => nb (by rw [z]; exact List.mem_cons_self)]
      exact e

set_option maxHeartbeats 16000000 in
/-- set(a list of tuples) -/
theorem call_set_texts {l : Addr} {items : Array Value} (ks : List Str) {Q : Value → Shared → Prop} (hh : A.handled = none) (hl : s.heap.IsList l items) (it : ∀ (i : Nat) (v : Value), items[i]? = some v → ∃ z u, ks[i]? = some z ∧ v = .str z u) (isz : items.size = ks.length)
    (few : ks.length < 64)
    (h : ∀ (h2 : Heap) (tk : Nat), GAt (PySem.strKind P w) keyT h2 s.heap.objs.size (uq ks) → (∀ b o, s.heap.get? b = some o → h2.get? b = some o) → Q (.ref s.heap.objs.size) { s with heap := h2, toks := tk }) :
    wpAny (model P w) A (call (.type "set") [.ref l]) Q E s := by
  obtain ⟨mc, mt, mmro⟩ := F.called_set.mro
  have mmade := F.called_set.made
  have msub := F.called_set.sub
  refine wpAny_call (codeAny_of_tree ?_) <;> show wpAny _ _ (callAny (.type "set") _) _ _ _
  refine wpAny_pure ⟨Code.quiet_builtin _ (by decide +kernel), codeAny_builtin F.entry_type_call ?_⟩ <;> rw [Around.under_plain (weight_type_call_type "set" [.ref l] []) rfl]
  have m1 := F.called_set.notType
  have m2 := F.called_set.canCreate
  have m3 := F.typeCall_set_1 (.ref l)
  repeat (any_goals (first | assumption | wp_step))
  refine codeAny_mono (code_set_led1 (.ref l) (E := E) (Q₁ := fun obj s1 => obj = .ref s.heap.objs.size ∧ s1 = { s with heap := s.heap.push (newSet w) }) ⟨rfl, rfl⟩) fun r s1 hr => ?_
  match r, hr with
  | .error e, hr => exact hr
  | .ok (.ret obj), hr =>
    obtain ⟨rfl, rfl⟩ := hr
    have atS : (s.heap.push (newSet w)).get? s.heap.objs.size = some (newSet w) := Heap.get?_push_size _ rfl
    have tyS : Shared.TypeIs { s with heap := s.heap.push (newSet w) } (.ref s.heap.objs.size) "set" := ⟨_, atS, rfl⟩
    have m4 := F.called_set.init.lookup
    have m5 := F.called_set.init.bind (.ref s.heap.objs.size)
    repeat (any_goals (first | assumption | wp_step))
    refine codeAny_mono (codeAny_call_builtin (R := wants (fun r s2 => r = .none ∧ ∃ h2 tk, s2 = { s with heap := h2, toks := tk } ∧ GAt (PySem.strKind P w) keyT h2 s.heap.objs.size (uq ks) ∧
        (∀ b o, s.heap.get? b = some o → h2.get? b = some o)) E) F.called_set.init.plain F.entry_set_init (check_set_init_1 tyS ?_)) fun r2 s2 hr2 => ?_
    · obtain ⟨⟨_, odict, _, oslots⟩, hol, hcl, nl, hdl⟩ := hl
      simp only at hcl hdl
      subst hcl; subst hdl
      have hol2 : (s.heap.push (newSet w)).get? l = some { cls := .type "list", dict := odict, data := .seq items nl, slots := oslots } := Heap.get?_push_of_some _ hol
      have m6 := F.sub_list_set
      have m7 := F.sub_list_frozenset
      have m8 : (Value.type "list" == Value.type "dict") = false := by decide
      have hl1 : (s.heap.push (newSet w)).IsList l items := ⟨_, hol2, rfl, nl, rfl⟩
      unfold Builtin.«set.__init__» noKeywords Builtin.Frozenset.updateFrom
      generalize hPI : pyIter = PI
      wp_walk
      subst hPI
      refine wpAny_pyIter_list hl1 (wpAny_bind (wpAny_runValue ?_))
      have lS : l < s.heap.objs.size := Heap.lt_size hol
      have zS : (s.heap.push (newSet w)).objs.size = s.heap.objs.size + 1 := Heap.size_push ..
      have hh3 : A.in1.in1.in1.handled = none := by simp [hh]
      have nI : l ≠ (s.heap.push (newSet w)).objs.size := by rw [zS]; exact Nat.ne_of_lt (Nat.lt_succ_of_lt lS)
      have nf : s.heap.objs.size ∉ [(s.heap.push (newSet w)).objs.size, l] := by
        rw [zS]; simp only [List.mem_cons, List.not_mem_nil, or_false, not_or]
        exact ⟨Nat.ne_of_lt (Nat.lt_succ_self _), Nat.ne_of_gt lS⟩
      have out : ∀ b, s.heap.objs.size ≤ b → s.heap.get? b = none := fun b hb => by
        cases q : s.heap.get? b with
        | none => rfl
        | some o => exact absurd (Nat.lt_of_lt_of_le (Heap.lt_size q) hb) (Nat.lt_irrefl _)
      refine loopT ((Walks.list hh3 _ l nI items).toS) s.heap.objs.size nf ks isz few it s.heap (out _ (Nat.le_refl _)) (fun b mb => out b (by rw [List.mem_singleton.mp mb, zS]; exact Nat.le_succ _))
        (items.size - 0) 0 _ (by omega) (Nat.zero_le _) ⟨⟨_, Heap.get?_push_size _ rfl, rfl, rfl⟩, (hl1.push _)⟩ (fun b o e => Heap.get?_push_of_some _ (Heap.get?_push_of_some _ e)) ?first ?last
      case first => exact (GSet.fresh s.heap).keep fun o e => Heap.get?_push_of_some _ e
      case last =>
        rintro ⟨h2, g2, d2, tk2, os2⟩ mv R2 kp
        obtain rfl : g2 = s.gens := mv.gens
        obtain rfl : d2 = s.drawn := mv.drawn
        obtain rfl : os2 = s.os := mv.os
        rw [isz, List.take_length] at R2
        exact wpAny_pure (wpAny_pure ⟨rfl, h2, tk2, rfl, R2, kp⟩)
    · match r2, hr2 with
      | .error e, hr2 => exact hr2
      | .ok (.ret r), hr2 =>
        obtain ⟨rfl, h2, tk, rfl, R2, kp⟩ := hr2
        repeat (any_goals (first | assumption | wp_step))
        exact h _ _ R2 kp

end
section
variable {X : Cx} {pins : List (Addr × Obj)} {σ : L2.St} {H : Hp} {s : Shared}
theorem strs_vals : ∀ {zs : List Str} {us : List Value}, Vals (zs.map V.str) us → us.length = zs.length ∧ ∀ (i : Nat) (v : Value), us[i]? = some v → ∃ z u, zs[i]? = some z ∧ v = .str z u
  | [], _, .nil => ⟨rfl, fun i v h => by simp at h⟩
  | z :: zs, _, .cons r t => by
    obtain ⟨u, rfl⟩ := r
    obtain ⟨l, q⟩ := strs_vals t
    refine ⟨by simp [l], fun i v h => ?_⟩
    cases i with
    | zero => exact ⟨z, u, rfl, (Option.some.inj h).symm⟩
    | succ i => exact q i v (by simpa using h)
/-- set(a list of texts) -/
def rSetT (K : PySem.W.Frag) (P : Program) (w : World) : List V → Hp → VK → Prop := fun xs H Q => ∃ (l : Addr) (zs : List Str), xs = [V.ref l] ∧ SqL K H l (zs.map V.str) ∧ zs.length < 64 ∧ ∀ a, H a = none → Q (.ref a) (upd H a (SetT P w a (L2.LawH.uniq zs)))
theorem cr_setT (hc : X.calm = true) : CallR X (.type "set") (rSetT X.K X.prog X.w) := by
  intro pins s σ H xs us Q I r h
  obtain ⟨l, zs, rfl, hl, few, q⟩ := h
  rw [Vals.ref1 r]
  have hn : H s.heap.objs.size = none := I.hok.fresh (Nat.le_refl _)
  obtain ⟨its, rv, pl, hz⟩ := I.list hl
  obtain ⟨l1, l2⟩ := strs_vals rv
  exact call_set_texts (P := X.prog) (w := X.w) zs (I.ok.hd hc) pl.isList (fun i v h => l2 i v (by simpa using h)) (by simpa using l1) few fun h2 tk R k =>
    ⟨.ref s.heap.objs.size, _, I.laid (t' := tk) k (Nat.le_refl _) (setT_new R), rfl, q _ hn⟩
end
end L2.TxtSet
set_option Elab.async false
set_option linter.all false
set_option maxRecDepth 100000
set_option maxHeartbeats 4000000
/-! _law_variables. -/
namespace L2.LawH
open PySem PySem.Spec PyProof.Rows L2.TxtSet TL L2.NSet PySem.W L2.Cmp L2.Rws L2.ZipL L2.ExcN L2.ClsCall
abbrev sLVar : Stmt := top 40
def spLVar : Sp := fun vs H Q _ => ∃ (q : Addr) (xs : List Pt), vs = [.ref q] ∧ H q = some (.lst (xs.map fun x => V.ref x.1)) ∧ (∀ x ∈ xs, H x.1 = some (.tup (ptV x)) ∧ Fct x.2) ∧ xs.length ≤ 20 ∧
  ∀ (l : Addr) (H' : Hp), Same H H' → H l = none → H' l = some (.lst ((nms (xs.map (·.2))).map V.str)) → Q (.ref l) H'
section
variable {P : Program} {w : World} {K : PySem.W.Frag} {mg : Str → Option Value} {base : Heap}
abbrev nLVar : List Str := ["_law_lot", "_law_found", "_law_pattern_here", "_law_term"]
theorem scLVar : FnScope nLVar ["_law_lot"] (defScope sLVar) := ⟨rfl, rfl, rfl, by decide +kernel, rfl, by decide +kernel, by decide +kernel⟩
theorem ok_lvar {f : Addr} {fd : FuncData} (F : Fun K "_law_variables" "_law_variables" sLVar f fd) (ms : mg "sorted" = none) (mS : mg "set" = none) : FnOk P w K mg base CX0 1 f fd ["_law_lot"] spLVar := by
  refine F.ok scLVar (fun vs H Q E h => ?_) (fun cdv A outer s H vs Q E hr h => ?_)
  · obtain ⟨_, _, rfl, _⟩ := h
    rfl
  · obtain ⟨q, xs, rfl, hq, hx, lx, k⟩ := h
    refine ⟨_, pss_cons (ps_set (i := 1) scLVar.nd rfl (Or.inl rfl) (pe_lst pa_nil))
      (pss_cons (ps_for PassesOwn.never rfl (pi_list (pv 0)) (pg_name (i := 2) scLVar.nd rfl (Or.inl rfl))
        (pss_one (ps_set (i := 1) scLVar.nd rfl (Or.inl rfl) (pe_op op_cat (pv 1) (pe_lc (own := [("_law_term", 3)]) (g := gName 3) rfl scLVar.nd (pi_tup (pe_slice sl_tup (pv 2) (po_some pe_int) po_none))
            (blkOk_by (own := [("_law_term", 3)]) (N := nLVar) (sc := defScope sLVar) (by decide +kernel)) (fun _ _ _ _ _ => pg_name (i := 3) scLVar.nd rfl (Or.inl rfl))
            (fun _ _ _ _ _ => pts_one (pt_cmpR op_eq (pe_slice sl_str (pv 3) po_none (po_some pe_int)) pe_str (by rfl)))
            (fun _ _ _ _ _ => pv 3))))))
      (pss_one (ps_ret (pe_callB (L2.TxtSet.cr_sortT rfl) (by rfl) ms (by decide +kernel) (pa_cons (pe_callTy (cr_setT rfl) (by rfl) mS (by decide +kernel) (pa_cons (pv 1) pa_nil)) pa_nil))))), ?_⟩
    refine ⟨(by show 0 ≤ sizeLine; decide), fun A0 nA0 => ?_⟩
    have u1 : Same H (upd H A0 (.lst [])) := same_new nA0
    have c1 : (upd H A0 (.lst [])) A0 = some (.lst []) := upd_same
    generalize upd H A0 (.lst []) = H1 at u1 c1 ⊢
    refine ⟨_, rfl, q, rfl, ⟨_, SqL.of (u1 _ _ hq)⟩, for_it (L2.walk_list (K := K) (xs := xs.map fun x => V.ref x.1)) (fun i σ H5 => ∃ (A : Addr) (v2 v3 : Option V), σ = [some (.ref q), some (.ref A), v2, v3] ∧ H5 A = some (.lst ((vrs ((xs.take i).map (·.2))).map V.str)) ∧ Same H H5)
      ⟨A0, none, none, rfl, c1, u1⟩ (fun i σ H5 _ pp => let ⟨_, _, _, _, _, s5⟩ := pp; SqL.of (s5 _ _ hq)) (fun i x σ H5 H6 hi pp yy => ?_) (fun σ H5 pp => ?_)⟩
    · obtain ⟨A, v2, v3, rfl, hA, s5⟩ := pp
      obtain ⟨rfl, hy⟩ := yy
      rw [List.getElem?_map] at hy
      obtain ⟨y, hy0, ey⟩ := Option.map_eq_some_iff.mp hy
      have ey : V.ref y.1 = x := ey
      subst ey
      have hy := hy0
      obtain ⟨hy1, fy⟩ := hx y (List.mem_of_getElem? hy)
      have hq6 := s5 _ _ hy1
      have ft : frees (xs.take (i + 1)) = frees (xs.take i) ++ y.2.2.filter isV := frees_take hy
      rw [frees_vrs, frees_vrs] at ft
      have lv : (vrs ((xs.take i).map (·.2))).length ≤ 60 := by
        unfold vrs
        refine Nat.le_trans (List.length_filter_le _ _) (Nat.le_trans (flat_few (a := 3) fun c hc => ?_) ?_)
        · obtain ⟨x, mx, rfl⟩ := List.mem_map.mp hc
          exact (hx x (List.mem_of_mem_take mx)).2.l3
        · rw [List.length_map, List.length_take]
          omega
      have l3 := fy.l3
      refine ⟨_, rfl, _, rfl, ⟨1, rfl, y.1, _, rfl, SqT.of hq6, ?_⟩⟩
      refine ⟨cut_part _ _, fun t nt => ⟨t, rfl, ⟨_, SqT.of upd_same⟩, fun D nD => ?_⟩⟩
      have u7 : Same H6 (upd H6 t (.tup (cutV (ptV y) (some 1) none))) := same_new nt
      have c7 : (upd H6 t (.tup (cutV (ptV y) (some 1) none))) t = some (.tup (y.2.2.map V.str)) := by rw [upd_same]; exact congrArg _ (congrArg _ (cut_one _ _))
      generalize upd H6 t (.tup (cutV (ptV y) (some 1) none)) = H7 at u7 c7 nD ⊢
      refine lc_acc (L2.walk_tup (K := K) (xs := y.2.2.map V.str)) (fun Hh i acc => acc = ((y.2.2.take i).filter isV).map V.str) nD (by rw [List.length_map]; omega) (fun H' s' => SqT.of (s' _ _ c7)) (fun _ _ _ _ _ h => h) rfl (fun j x H8 H9 acc hj s8 hD r' la yy Yes No yes no => ?_) (fun H8 acc s8 hD la r' => ?_)
      · obtain ⟨rfl, hz⟩ := yy
        rw [List.getElem?_map] at hz
        obtain ⟨z, hz0, ez⟩ := Option.map_eq_some_iff.mp hz
        subst ez
        have hz := hz0
        have oz := fy.nz z (List.mem_of_getElem? hz)
        have tk : (y.2.2.take (j + 1)).filter isV = (y.2.2.take j).filter isV ++ (if isV z = true then [z] else []) := by
          rw [take_snoc hz, List.filter_append]
          congr 1
          by_cases h : isV z = true <;> simp [h]
        refine ⟨rfl, ⟨_, rfl, 1, rfl, z, rfl, by have := (tm_len oz).2; rw [sizeLine_eq]; omega, rfl, _, rfl, ?_⟩⟩
        rw [show decide (V.str (cutS z none (some 1)) = V.str (Str.ofString "?")) = isV z by
          rw [← first_sign z]
          by_cases h : cutS z none (some 1) = Str.ofString "?" <;> simp [h]]
        by_cases hv : isV z = true
        · rw [hv]
          rw [if_pos hv] at tk
          refine iteT ⟨_, rfl, yes _ _ (Same.refl _) ?_⟩
          rw [tk, List.map_append, r']
          rfl
        · have hv' : isV z = false := Bool.eq_false_iff.mpr hv
          rw [hv']
          rw [if_neg hv, List.append_nil] at tk
          refine iteF (no _ (Same.refl _) ?_)
          rw [tk]
          exact r'
      · rw [List.length_map, List.take_length] at r'
        subst r'
        have s58 := u7.trans s8
        have lf : (y.2.2.filter isV).length ≤ 3 := Nat.le_trans (List.length_filter_le _ _) l3
        refine ⟨A, D, _, _, rfl, rfl, s58 _ _ hA, hD, ?_, fun B nB => ⟨B, _, _, rfl, ?_, s5.trans (s58.trans (same_new nB))⟩⟩
        · rw [List.length_map, List.length_map, sizeLine_eq]
          omega
        · rw [upd_same, ft, List.map_append]
    · obtain ⟨A, v2, v3, rfl, hA, s5⟩ := pp
      rw [List.length_map, List.take_length] at hA
      have lv : (vrs (xs.map (·.2))).length ≤ 60 := by
        unfold vrs
        refine Nat.le_trans (List.length_filter_le _ _) (Nat.le_trans (flat_few (a := 3) fun c hc => ?_) ?_)
        · obtain ⟨x, mx, rfl⟩ := List.mem_map.mp hc
          exact (hx x mx).2.l3
        · rw [List.length_map]
          omega
      refine ⟨_, rfl, A, _, rfl, SqL.of hA, by omega, fun B nB => ?_⟩
      have lu := uniq_len (vrs (xs.map (·.2)))
      refine ⟨B, _, rfl, upd_same, by omega, fun ys p pm so np => ?_⟩
      have ns : Same H5 (upd H5 B (SetT P w B (uniq (vrs (xs.map (·.2)))))) := same_new nB
      rw [nms_of pm so]
      exact k _ _ (s5.trans (ns.trans (same_new np))) (none_of (s5.trans ns) np) upd_same
end
end L2.LawH
set_option Elab.async false
set_option linter.all false
set_option maxRecDepth 100000
set_option maxHeartbeats 4000000
/-! Trees that grow; heaps without some places. -/
namespace L2.LawH
open PySem PySem.Spec PyProof.Rows L2.TxtSet TL L2.NSet PySem.W L2.Cmp
/-- a tree that grows: its variables stand in used -/
structure Gu (τ : List Nd) (used : List Str) : Prop where
  wf : Wf (prs τ)
  us : ∀ k, ∀ z ∈ nms (lo τ k), z ∈ used
  gd : Good (prs τ) (lo τ)
theorem lo_none {τ : List Nd} {k : Nat} (h : τ.length ≤ k) : lo τ k = [] := by
  unfold lo
  rw [List.getElem?_eq_none h]
  rfl
theorem nms_nil : nms [] = [] := rfl
theorem gu_nil : Gu [] [] := by
  refine ⟨⟨rfl, fun k _ h => absurd h (Nat.not_lt_zero _)⟩, fun k z h => ?_, ⟨fun i j _ h => absurd h (Nat.not_lt_zero _), fun i _ h => absurd h (Nat.not_lt_zero _)⟩⟩
  rw [lo_none (Nat.zero_le _), nms_nil] at h
  cases h
section
variable {τ : List Nd} {x : Nd}
theorem lo_old {k : Nat} (h : k < τ.length) : lo (τ ++ [x]) k = lo τ k := by
  unfold lo
  rw [List.getElem?_append_left h]
theorem lo_end : lo (τ ++ [x]) τ.length = x.2 := lo_at (by simp)
theorem pa_old' {k : Nat} (h : k < τ.length) : pa (prs (τ ++ [x])) k = pa (prs τ) k := by
  unfold pa prs
  rw [List.map_append, List.getElem?_append_left (by rw [List.length_map]; exact h)]
theorem pa_end : pa (prs (τ ++ [x])) τ.length = x.1 := by
  unfold pa prs
  rw [List.getElem?_map]
  simp
theorem nw_old (w : Wf (prs τ)) {k : Nat} (h : k < τ.length) : nw (prs (τ ++ [x])) (lo (τ ++ [x])) k = nw (prs τ) (lo τ) k := by
  unfold nw
  rw [pa_old' h, lo_old h]
  cases e : pa (prs τ) k with
  | none => rfl
  | some p =>
    have := w.lt e
    dsimp only
    rw [lo_old (by have := this.1; omega)]
theorem nw_in {ps : List (Option Nat)} {l : Nat → List Fc} {k : Nat} {z : Str} : z ∈ nw ps l k ↔ z ∈ nms (l k) ∧ ∀ p, pa ps k = some p → z ∉ nms (l p) := by
  unfold nw
  cases pa ps k with
  | none => exact ⟨fun h => ⟨h, fun p e => nomatch e⟩, fun h => h.1⟩
  | some p =>
    dsimp only
    rw [List.mem_filter]
    refine ⟨fun h => ⟨h.1, fun q e => ?_⟩, fun h => ⟨h.1, ?_⟩⟩
    · cases e
      have := h.2
      simpa using this
    · have := h.2 p rfl
      simpa using this
theorem Gu.step {used fresh : List Str} (g : Gu τ used) (dj : ∀ z ∈ fresh, z ∉ used) (ep : x.1 = none ∧ τ = [] ∨ ∃ p, x.1 = some p ∧ p < τ.length) (sub : ∀ z ∈ nms x.2, z ∈ fresh ∨ ∃ p, x.1 = some p ∧ z ∈ nms (lo τ p)) (new : τ ≠ [] → ∃ z ∈ nms x.2, z ∈ fresh) : Gu (τ ++ [x]) (used ++ fresh) := by
  have hnew : ∀ z, z ∈ nw (prs (τ ++ [x])) (lo (τ ++ [x])) τ.length ↔ z ∈ nms x.2 ∧ ∀ p, x.1 = some p → z ∉ nms (lo τ p) := fun z => by
    rw [nw_in, lo_end, pa_end]
    refine ⟨fun h => ⟨h.1, fun p e => ?_⟩, fun h => ⟨h.1, fun p e => ?_⟩⟩
    · rcases ep with ⟨e0, _⟩ | ⟨q, e1, lq⟩
      · rw [e0] at e; cases e
      · have : q = p := by rw [e1] at e; exact Option.some.inj e
        subst this
        have := h.2 q e
        rwa [lo_old lq] at this
    · rcases ep with ⟨e0, _⟩ | ⟨q, e1, lq⟩
      · rw [e0] at e; cases e
      · have : q = p := by rw [e1] at e; exact Option.some.inj e
        subst this
        rw [lo_old lq]
        exact h.2 q e
  have nf : ∀ z ∈ nw (prs (τ ++ [x])) (lo (τ ++ [x])) τ.length, z ∈ fresh := fun z hz => by
    obtain ⟨h1, h2⟩ := (hnew z).mp hz
    rcases sub z h1 with h | ⟨p, e, h⟩
    · exact h
    · exact absurd h (h2 p e)
  have lp : (prs τ).length = τ.length := List.length_map _
  have ln : (prs (τ ++ [x])).length = τ.length + 1 := by simp [prs]
  refine ⟨⟨?_, fun k h0 hk => ?_⟩, fun k z hz => ?_, ⟨fun i j ne hi hj z zi zj => ?_, fun i h0 hi e => ?_⟩⟩
  · rcases ep with ⟨e0, rfl⟩ | ⟨q, e1, lq⟩
    · exact pa_end.trans e0
    · rw [pa_old' (by omega)]
      exact g.wf.rt
  · rw [ln] at hk
    by_cases e : k = τ.length
    · subst e
      rcases ep with ⟨e0, rfl⟩ | ⟨q, e1, lq⟩
      · exact absurd h0 (Nat.lt_irrefl _)
      · exact ⟨q, pa_end.trans e1, lq⟩
    · rw [pa_old' (by omega)]
      exact g.wf.up k h0 (by omega)
  · by_cases e : k < τ.length
    · rw [lo_old e] at hz
      exact List.mem_append_left _ (g.us k z hz)
    · by_cases e2 : k = τ.length
      · subst e2
        rw [lo_end] at hz
        rcases sub z hz with h | ⟨p, _, h⟩
        · exact List.mem_append_right _ h
        · exact List.mem_append_left _ (g.us p z h)
      · rw [lo_none (by simp; omega), nms_nil] at hz
        cases hz
  · rw [ln] at hi hj
    have old : ∀ {k}, k < τ.length → z ∈ nw (prs (τ ++ [x])) (lo (τ ++ [x])) k → z ∈ used := fun {k} hk h => by
      have := nw_sub h
      rw [lo_old hk] at this
      exact g.us k z this
    by_cases ei : i < τ.length
    · by_cases ej : j < τ.length
      · rw [nw_old g.wf ei] at zi
        rw [nw_old g.wf ej] at zj
        exact g.gd.one i j ne (by rw [lp]; exact ei) (by rw [lp]; exact ej) z zi zj
      · have : j = τ.length := by omega
        subst this
        exact dj z (nf z zj) (old ei zi)
    · have : i = τ.length := by omega
      subst this
      by_cases ej : j < τ.length
      · exact dj z (nf z zi) (old ej zj)
      · omega
  · rw [ln] at hi
    by_cases ei : i < τ.length
    · rw [nw_old g.wf ei] at e
      exact g.gd.new i h0 (by rw [lp]; exact ei) e
    · have : i = τ.length := by omega
      subst this
      obtain ⟨z, h1, h2⟩ := new (fun e => by rw [e] at h0; exact absurd h0 (Nat.lt_irrefl _))
      have : z ∈ nw (prs (τ ++ [x])) (lo (τ ++ [x])) τ.length := (hnew z).mpr ⟨h1, fun p ep' h => dj z h2 (g.us p z h)⟩
      rw [e] at this
      cases this
end
/-! ### the heap without some places -/
def OfS (S : List Addr) (H : Hp) : Hp := fun b => if b ∈ S then none else H b
section
variable {S : List Addr} {H H' : Hp} {b a r : Addr} {o : HO}
theorem ofs_of (n : b ∉ S) : OfS S H b = H b := if_neg n
theorem ofs_at (n : b ∉ S) (h : H b = some o) : OfS S H b = some o := (ofs_of n).trans h
theorem ofs_some (h : OfS S H b = some o) : H b = some o ∧ b ∉ S := by
  unfold OfS at h
  by_cases c : b ∈ S
  · rw [if_pos c] at h
    cases h
  · rw [if_neg c] at h
    exact ⟨h, c⟩
theorem ofs_le : Same (OfS S H) H := fun _ _ e => (ofs_some e).1
theorem ofs_same (s : Same H H') : Same (OfS S H) (OfS S H') := fun b o e => let ⟨h, n⟩ := ofs_some e; ofs_at n (s _ _ h)
theorem ofs_upd (m : b ∈ S) : Same (OfS S H) (OfS S (upd H b o)) := fun c p e => let ⟨h, n⟩ := ofs_some e; ofs_at n (by rw [upd_ne (fun z => n (by rw [z]; exact m))]; exact h)
theorem ofs_kp (ma : a ∈ S) (mr : r ∈ S) (k : Kp a r H H') : Same (OfS S H) (OfS S H') := fun c p e => by
  obtain ⟨h, n⟩ := ofs_some e
  exact ofs_at n (kp_at k h (fun z => n (by rw [z]; exact ma)) (fun z => n (by rw [z]; exact mr)))
theorem ofs_off (ma : a ∈ S) (mr : r ∈ S) : Same (OfS S H) (Off a r H) := fun c p e => by
  obtain ⟨h, n⟩ := ofs_some e
  rw [off_of (fun z => n (by rw [z]; exact ma)) (fun z => n (by rw [z]; exact mr))]
  exact h
/-- back to the pool alone: the other places were free -/
theorem kp_ofs (k : Same (OfS S H) (OfS S H')) (f : ∀ c ∈ S, c ≠ a → c ≠ r → H c = none) (na : a ∈ S) (nr : r ∈ S) : Kp a r H H' := fun c p e => by
  obtain ⟨h, n1, n2⟩ := off_some e
  have : c ∉ S := fun m => by
    rw [f c m n1 n2] at h
    cases h
  rw [off_of n1 n2]
  exact ofs_le _ _ (k _ _ (ofs_at this h))
theorem ofs_cons (ne : b ≠ a) (h : OfS S H b = some o) : OfS (a :: S) H b = some o := by
  obtain ⟨h, n⟩ := ofs_some h
  exact ofs_at (fun m => (List.mem_cons.mp m).elim ne n) h
end
end L2.LawH
set_option Elab.async false
set_option linter.all false
set_option maxRecDepth 100000
set_option maxHeartbeats 4000000
/-! _law_tree. -/
namespace L2.LawH
open PySem PySem.Spec PyProof.Rows L2.TxtSet TL L2.NSet PySem.W L2.Cmp L2.Rws L2.ZipL L2.ExcN L2.ClsCall
theorem pe_bmK {X : Cx} {K : PySem.W.Frag} (eK : X.K = K) {o e : Expr} {es : List Expr} {to : TE} {t : TA} {name : Str} {apos cpos : Pos} {T id : String} {r : V → List V → Hp → VK → Prop} (pa : PlainAttrs T) (slot : Slot T name id) (hty : typeOf (.builtin id) = pure (.type "method_descriptor")) (hm : MtR X id r) (ho : PE X o to) (ha : PA X (e :: es) t)
    (hbase : attributeBase o name X.env (eval o X.env) = eval o X.env := by rfl)
    (hfew : ((backTo cpos (starEach (e :: es) X.env)).all (fun x => !x.1) && (backToKw cpos (keywordEach [] X.env)).all (fun x => x.1.isSome)
      && decide ((e :: es).length + ([] : List Keyword).length + (if ([] : List Keyword).isEmpty then 0 else 1) < 30)) = true := by rfl)
    (hline : (apos.endLine == cpos.line) = true := by rfl) (hs : starEach (e :: es) X.env = (false, eval e X.env) :: starEach es X.env := by rfl) (hplain : (backTo cpos (starEach es X.env)).any (·.1) = false := by rfl) :
    PE X (.Call (.Attribute o name apos) (e :: es) [] cpos) (tBM K T r to t) := by
  subst eK
  exact pe_bm pa slot hty hm ho ha hbase hfew hline hs hplain
abbrev sTree : Stmt := top 39
/-- the lots as drawn -/
structure DrwN (x : Nx) (ys : List Pt) : Prop where
  os : x.os = ys.map some
  few : ys.length ≤ 2
  fct : ∀ y ∈ ys, Fct y.2
theorem vr_isV {z : Str} (h : Vr z) : isV z = true := by
  obtain ⟨y, _, rfl⟩ := h
  exact isV_q y
structure Dst (a r N O S : Addr) : Prop where
  na : N ≠ a
  nr : N ≠ r
  oa : O ≠ a
  or : O ≠ r
  sa : S ≠ a
  sr : S ≠ r
  on : O ≠ N
  sn : S ≠ N
  so : S ≠ O
/-- three lists and the pool, all else stays -/
structure Bd (a r N O S : Addr) (H5 H : Hp) (vn vo vs : List V) (m : Nat) : Prop where
  n : H N = some (.lst vn)
  o : H O = some (.lst vo)
  s : H S = some (.lst vs)
  dr : DrwAt a r m H
  sm : Same (OfS [a, r, N, O, S] H5) (OfS [a, r, N, O, S] H)
section
variable {a r N O S : Addr} {H5 H H' : Hp} {vn vo vs : List V} {m m' : Nat} (D : Dst a r N O S)
include D
theorem Bd.kp (b : Bd a r N O S H5 H vn vo vs m) (k : Kp a r H H') (d : DrwAt a r m' H') : Bd a r N O S H5 H' vn vo vs m' :=
  ⟨kp_at k b.n D.na D.nr, kp_at k b.o D.oa D.or, kp_at k b.s D.sa D.sr, d, b.sm.trans (ofs_kp (by simp) (by simp) k)⟩
theorem Bd.same (b : Bd a r N O S H5 H vn vo vs m) (k : Same H H') : Bd a r N O S H5 H' vn vo vs m := b.kp D (Kp.of k) (b.dr.same k)
theorem Bd.put {L : Addr} {x : HO} (b : Bd a r N O S H5 H vn vo vs m) (n5 : H5 L = none) (na : L ≠ a) (nr : L ≠ r) (nN : L ≠ N) (nO : L ≠ O) (nS : L ≠ S) : Bd a r N O S H5 (upd H L x) vn vo vs m := by
  refine ⟨by rw [upd_ne (Ne.symm nN)]; exact b.n, by rw [upd_ne (Ne.symm nO)]; exact b.o, by rw [upd_ne (Ne.symm nS)]; exact b.s, b.dr.upd (H0 := H5) na nr, fun c y e => ?_⟩
  obtain ⟨h, nm⟩ := ofs_some (b.sm _ _ e)
  have ne : c ≠ L := fun z => by
    have := (ofs_some e).1
    rw [z, n5] at this
    cases this
  exact ofs_at nm (by rw [upd_ne ne]; exact h)
theorem Bd.setN {ys : List V} (b : Bd a r N O S H5 H vn vo vs m) : Bd a r N O S H5 (upd H N (.lst ys)) ys vo vs m :=
  ⟨upd_same, by rw [upd_ne D.on]; exact b.o, by rw [upd_ne D.sn]; exact b.s, b.dr.upd (H0 := H5) D.na D.nr, b.sm.trans (ofs_upd (by simp))⟩
theorem Bd.setO {ys : List V} (b : Bd a r N O S H5 H vn vo vs m) : Bd a r N O S H5 (upd H O (.lst ys)) vn ys vs m :=
  ⟨by rw [upd_ne (Ne.symm D.on)]; exact b.n, upd_same, by rw [upd_ne D.so]; exact b.s, b.dr.upd (H0 := H5) D.oa D.or, b.sm.trans (ofs_upd (by simp))⟩
theorem Bd.setS {ys : List V} (b : Bd a r N O S H5 H vn vo vs m) : Bd a r N O S H5 (upd H S (.lst ys)) vn vo ys m :=
  ⟨by rw [upd_ne (Ne.symm D.sn)]; exact b.n, by rw [upd_ne (Ne.symm D.so)]; exact b.o, upd_same, b.dr.upd (H0 := H5) D.sa D.sr, b.sm.trans (ofs_upd (by simp))⟩
/-- a free place is none of them -/
theorem Bd.free {L : Addr} (b : Bd a r N O S H5 H vn vo vs m) (n : H L = none) : L ≠ a ∧ L ≠ r ∧ L ≠ N ∧ L ≠ O ∧ L ≠ S ∧ H5 L = none := by
  obtain ⟨h1, h2⟩ := b.dr.ne n
  have h3 : L ≠ N := fun z => by rw [z, b.n] at n; cases n
  have h4 : L ≠ O := fun z => by rw [z, b.o] at n; cases n
  have h5 : L ≠ S := fun z => by rw [z, b.s] at n; cases n
  refine ⟨h1, h2, h3, h4, h5, ?_⟩
  cases e : H5 L with
  | none => rfl
  | some x =>
    have := ofs_le _ _ (b.sm _ _ (ofs_at (by simp [h1, h2, h3, h4, h5]) e))
    rw [n] at this
    cases this
end
theorem Bd.mono {a r N O S : Addr} {H5 H : Hp} {vn vo vs : List V} {m m' : Nat} (b : Bd a r N O S H5 H vn vo vs m) (l : m' ≤ m) : Bd a r N O S H5 H vn vo vs m' := ⟨b.n, b.o, b.s, b.dr.mono l, b.sm⟩
/-- if, in whatever way it goes -/
theorem ifs_mid {c : TT} {t u : TS} {D : Ends} {σ : St} {H : Hp} (Pc : Bool → Hp → Prop) (Pr : St → Hp → Prop) (hc : ∀ R : Bool → Hp → Prop, (∀ b H', Pc b H' → R b H') → c σ H R) (ht : ∀ H', Pc true H' → ∀ D' : Ends, (∀ σ' H', Pr σ' H' → D'.nx σ' H') → t D' σ H')
    (hu : ∀ H', Pc false H' → ∀ D' : Ends, (∀ σ' H', Pr σ' H' → D'.nx σ' H') → u D' σ H') (h : ∀ σ' H', Pr σ' H' → D.nx σ' H') : tIfS c t u D σ H := by
  refine hc _ fun b H' pc => ?_
  cases b with
  | true => exact iteT (ht H' pc _ h)
  | false => exact iteF (hu H' pc _ h)
theorem and_mid {tb : TE} {σ : St} {H : Hp} {Q : VK} {c : Bool} (ht : ∀ R : VK, (∀ b, R (.bl b) H) → tb σ H R) (hq : ∀ b, Q (.bl b) H) : if c = true then tb σ H Q else Q (.bl false) H := by
  cases c with
  | true => exact iteT (ht _ hq)
  | false => exact iteF (hq _)
structure TrI (a r N O S : Addr) (ω : Wld) (H0 H5 : Hp) (m i : Nat) (xs : List Nx) (ws : List Addr) (u : Nat) : Prop where
  lx : xs.length = i
  lw : ws.length = i
  lu : u ≤ 2 * i
  bd : Bd a r N O S H0 H5 (xs.map fun x => V.ref x.t) (ws.map V.ref) ((ω.W.drop u).map V.str) (m + 17 * (6 - i))
  nd : ∀ x ∈ xs, NodeAt (OfS [a, r, N, O, S] H5) x ∧ ∃ ys, DrwN x ys
  ow : ∀ k q, ws[k]? = some q → OfS [a, r, N, O, S] H5 q = some (.lst ((nms (lo (xs.map rawO) k)).map V.str))
  gu : Gu (xs.map rawO) (ω.W.take u)
def spTree : Sp := fun vs H Q _ => ∃ (a r p : Addr) (m : Nat) (ω : Wld), vs = [.ref a, .ref p, .int 6, .int 1] ∧ DrwAt a r (m + 103) H ∧ WldAt (Off a r H) p ω ∧ WldOk ω ∧
  ∀ (N : Addr) (xs : List Nx) (H' : Hp), H N = none → Off a r H' N = some (.lst (xs.map fun x => V.ref x.t)) → (∀ x ∈ xs, NodeAt (Off a r H') x ∧ ∃ ys, DrwN x ys) → 0 < xs.length → xs.length ≤ 6 → Wf (prs (xs.map rawO)) → Good (prs (xs.map rawO)) (lo (xs.map rawO)) →
    DrwAt a r m H' → Kp a r H H' → Q (.ref N) H'
section
variable {P : Program} {w : World} {K : PySem.W.Frag} {mg : Str → Option Value} {base : Heap}
abbrev pTree : List Str := ["_law_pool_here", "_law_world_here", "_law_most", "_law_two"]
abbrev nTree : List Str := ["_law_pool_here", "_law_world_here", "_law_most", "_law_two", "_law_nodes", "_law_owned", "_law_spare", "_law_k", "_law_parent", "_law_above", "_law_fresh", "_law_j", "_law_own", "_law_lot"]
theorem scTree : FnScope nTree pTree (defScope sTree) := ⟨rfl, rfl, rfl, by decide +kernel, rfl, by decide +kernel, by decide +kernel⟩
theorem ok_tree {f fD fT fP fV : Addr} {fd fdD fdT fdP fdV : FuncData} (F : Fun K "_law_tree" "_law_tree" sTree f fd)
    (GD : FnOk P w K mg base CX0 1 fD fdD ["_law_pool_here", "_law_limit"] spDraw3) (kD : PySem.W.keepIn K (.ref fD) = true) (bD : Binds K fdD ["_law_pool_here", "_law_limit"] []) (mD : mg "_law_draw" = some (.ref fD))
    (GT : FnOk P w K mg base CX0 2 fT fdT pTied spTied) (kT : PySem.W.keepIn K (.ref fT) = true) (bT : Binds K fdT pTied []) (mT : mg "_law_tied" = some (.ref fT))
    (GP : FnOk P w K mg base CX0 2 fP fdP pPat3 (spPat3 K)) (kP : PySem.W.keepIn K (.ref fP) = true) (bP : Binds K fdP pPat3 []) (mP : mg "_law_pattern" = some (.ref fP))
    (GV : FnOk P w K mg base CX0 1 fV fdV ["_law_lot"] spLVar) (kV : PySem.W.keepIn K (.ref fV) = true) (bV : Binds K fdV ["_law_lot"] []) (mV : mg "_law_variables" = some (.ref fV))
    (ml : mg "len" = none) (mr : mg "range" = none) (mL : mg "list" = none) (mi : mg "int" = none) : FnOk P w K mg base CX0 3 f fd pTree spTree := by
  refine F.ok scTree (fun vs H Q E h => ?_) (fun cdv A outer s H vs Q E hr h => ?_)
  · obtain ⟨_, _, _, _, _, rfl, _⟩ := h
    rfl
  · obtain ⟨a, r, p, m, ω, rfl, hs, hw, ok, k⟩ := h
    have hr1 : Room 1 _ := hr.mono (by decide)
    have hr2 : Room 2 _ := hr.mono (by decide)
    refine ⟨_, pss_cons (ps_set (i := 4) scTree.nd rfl (Or.inl rfl) (pe_lst pa_nil))
      (pss_cons (ps_set (i := 5) scTree.nd rfl (Or.inl rfl) (pe_lst pa_nil))
      (pss_cons (ps_set (i := 6) scTree.nd rfl (Or.inr rfl) (pe_callTy (call_list_ofK (K := K) rfl) (by rfl) mL (by decide +kernel) (pa_cons (pe_ix (ix_tupK (K := K) rfl) (pv 1) pe_int (fun _ _ => rfl)) pa_nil)))
      (pss_cons (ps_for PassesOwn.never rfl (pi_range1 (by rfl) mr (pa_cons (pe_op op_add pe_int (pe_call GD hr1 (by rfl) mD kD bD .nil pass0 (pa_cons (pv 0) (pa_cons (pv 2) pa_nil)))) pa_nil)) (pg_name (i := 7) scTree.nd rfl (Or.inl rfl))
        (pss_cons (ps_set (i := 8) scTree.nd rfl (Or.inl rfl) pe_non)
        (pss_cons (ps_set (i := 9) scTree.nd rfl (Or.inl rfl) (pe_lst pa_nil))
        (pss_cons (ps_if (pt_cmpR op_gt (pv 7) pe_int (nomark _))
            (pss_cons (ps_set (i := 8) scTree.nd rfl (Or.inl rfl) (pe_call GD hr1 (by rfl) mD kD bD .nil pass0 (pa_cons (pv 0) (pa_cons (pv 7) pa_nil))))
            (pss_one (ps_set (i := 9) scTree.nd rfl (Or.inl rfl) (pe_ix ix_list (pv 5) (pv 8) (fun _ _ => rfl))))) pss_nil)
        (pss_cons (ps_setLc (i := 10) (own := [("_law_j", 11)]) (g := gName 11) (tt := tYes) rfl scTree.nd rfl rfl (sw_true rfl rfl rfl (by decide +kernel))
            (pi_range1 (by rfl) mr (pa_cons (pe_op op_add pe_int (pe_callTy call_int1 (by rfl) mi (by decide +kernel) (pa_cons (pe_and (pe_cmpR op_eq (pe_call GD hr1 (by rfl) mD kD bD .nil pass0 (pa_cons (pv 0) (pa_cons pe_int pa_nil))) pe_int (nomark _)) (pe_one (pe_cmpR op_gt (pe_callB (call_len_seqK (K := K) rfl) (by rfl) ml (by decide +kernel) (pa_cons (pv 6) pa_nil)) pe_int (nomark _)))) pa_nil))) pa_nil))
            (blkOk_by (own := [("_law_j", 11)]) (N := nTree) (sc := defScope sTree) (by decide +kernel)) (fun _ _ _ _ _ => pg_name (i := 11) scTree.nd rfl (Or.inl rfl)) (fun _ _ _ _ _ => pts_nil)
            (fun _ _ _ _ _ => pe_bmK (K := K) rfl PySem.F.plainAttrs_list PySem.F.slot_list_pop PySem.F.type_list_pop mt_popAt (pv 6) (pa_cons pe_int pa_nil)))
        (pss_cons (ps_set (i := 12) scTree.nd rfl (Or.inl rfl) (pe_op op_cat (pe_slice sl_list (pv 9) po_none (po_some (pe_op op_add pe_int (pe_call GD hr1 (by rfl) mD kD bD .nil pass0 (pa_cons (pv 0) (pa_cons pe_int pa_nil)))))) (pv 10)))
        (pss_cons (ps_set (i := 13) scTree.nd rfl (Or.inl rfl) (pe_lst (pa_cons (pe_call GT hr2 (by rfl) mT kT bT .nil pass0 (pa_cons (pv 0) (pa_cons (pv 1) (pa_cons (pv 12) (pa_cons (pe_ix ix_list (pv 10) pe_int (fun _ _ => rfl)) pa_nil))))) pa_nil)))
        (pss_cons (ps_for PassesOwn.never rfl (pi_range1 (by rfl) mr (pa_cons (pe_op op_mul (pe_call GD hr1 (by rfl) mD kD bD .nil pass0 (pa_cons (pv 0) (pa_cons pe_int pa_nil))) (pv 3)) pa_nil)) (pg_name (i := 11) scTree.nd rfl (Or.inl rfl))
            (pss_one (ps_expr (pe_bm PySem.F.plainAttrs_list PySem.F.slot_list_append PySem.F.type_list_append mt_append (pv 13) (pa_cons (pe_call GP hr2 (by rfl) mP kP bP .nil pass0 (pa_cons (pv 0) (pa_cons (pv 1) (pa_cons (pv 12) pa_nil)))) pa_nil)))))
        (pss_cons (ps_if (PW.pt (pw_and (pt_cmpR op_eq (pv 7) pe_int (nomark _)) (pw_and1 (pt_cmpR op_eq (pe_call GD hr1 (by rfl) mD kD bD .nil pass0 (pa_cons (pv 0) (pa_cons pe_int pa_nil))) pe_int (nomark _)))))
            (pss_one (ps_set (i := 13) scTree.nd rfl (Or.inl rfl) (pe_lst pa_nil))) pss_nil)
        (pss_cons (ps_expr (pe_bm PySem.F.plainAttrs_list PySem.F.slot_list_append PySem.F.type_list_append mt_append (pv 4) (pa_cons (pe_tup (pa_cons (pv 8) (pa_cons (pv 13) pa_nil))) pa_nil)))
        (pss_one (ps_expr (pe_bm PySem.F.plainAttrs_list PySem.F.slot_list_append PySem.F.type_list_append mt_append (pv 5) (pa_cons (pe_call GV hr1 (by rfl) mV kV bV .nil pass0 (pa_cons (pv 13) pa_nil)) pa_nil))))))))))))))
      (pss_one (ps_ret (pv 4)))))), ?_⟩
    obtain ⟨t, c, v, h1, h2, h3, h4, h5⟩ := id hw
    refine ⟨(by show 0 ≤ sizeLine; decide), fun N nN => ?_⟩
    have u1 : Same H (upd H N (.lst [])) := same_new nN
    have c1 : (upd H N (.lst [])) N = some (.lst []) := upd_same
    have zN := hs.ne nN
    generalize upd H N (.lst []) = H1 at u1 c1 ⊢
    refine ⟨(by show 0 ≤ sizeLine; decide), fun O nO => ?_⟩
    have u2 : Same H1 (upd H1 O (.lst [])) := same_new nO
    have c2 : (upd H1 O (.lst [])) O = some (.lst []) := upd_same
    have zO := (hs.same u1).ne nO
    have oN : O ≠ N := fun e => by rw [e, c1] at nO; cases nO
    have nO0 := none_of u1 nO
    generalize upd H1 O (.lst []) = H2 at u2 c2 ⊢
    have u02 := u1.trans u2
    refine ⟨_, rfl, p, _, 2, _, rfl, rfl, SqT.of (u02 _ _ (off_le _ _ h1)), rfl, v, _, rfl, .inl (SqL.of (u02 _ _ (off_le _ _ h4))), fun S nS => ?_⟩
    have u3 : Same H2 (upd H2 S (.lst (ω.W.map V.str))) := same_new nS
    have c3 : (upd H2 S (.lst (ω.W.map V.str))) S = some (.lst (ω.W.map V.str)) := upd_same
    have zS := (hs.same u02).ne nS
    have sO : S ≠ O := fun e => by rw [e, c2] at nS; cases nS
    have sN : S ≠ N := fun e => by rw [e, u2 _ _ c1] at nS; cases nS
    have nS0 := none_of u02 nS
    generalize upd H2 S (.lst (ω.W.map V.str)) = H3 at u3 c3 ⊢
    have u03 := u02.trans u3
    have Ds : Dst a r N O S := ⟨zN.1, zN.2, zO.1, zO.2, zS.1, zS.2, oN, sN, sO⟩
    refine ⟨_, rfl, _, rfl, a, r, m + 102, 6, rfl, hs.same u03, by decide, by decide, fun x H4 x0 x1 s4 k4 => ?_⟩
    obtain ⟨nn, rfl⟩ : ∃ j : Nat, x = j := ⟨x.toNat, by omega⟩
    have k04 : Kp a r H H4 := (Kp.of u03).trans k4
    have ofree : ∀ c ∈ [a, r, N, O, S], c ≠ a → c ≠ r → H c = none := fun c m n1 n2 => by
      rcases List.mem_cons.mp m with rfl | m
      · exact absurd rfl n1
      rcases List.mem_cons.mp m with rfl | m
      · exact absurd rfl n2
      rcases List.mem_cons.mp m with rfl | m
      · exact nN
      rcases List.mem_cons.mp m with rfl | m
      · exact nO0
      rw [List.mem_singleton.mp m]
      exact nS0
    refine ⟨_, _, rfl, rfl, _, rfl, by omega, by omega, for_range (lo := 0) (n := (1 + (nn : Int)).toNat) (fun i σ H5 => ∃ (xs : List Nx) (ws : List Addr) (uu : Nat) (v7 v8 v9 v10 v11 v12 v13 : Option V), σ = [some (.ref a), some (.ref p), some (.int 6), some (.int 1), some (.ref N), some (.ref O), some (.ref S), v7, v8, v9, v10, v11, v12, v13] ∧
        TrI a r N O S ω H H5 m i xs ws uu)
      ⟨[], [], 0, none, none, none, none, none, none, none, rfl, ⟨rfl, rfl, Nat.zero_le _, ⟨kp_at k4 (u3 _ _ (u2 _ _ c1)) zN.1 zN.2, kp_at k4 (u3 _ _ c2) zO.1 zO.2, kp_at k4 c3 zS.1 zS.2, s4, ofs_kp (by simp) (by simp) k04⟩, fun x m => (by cases m), fun k q h => (by simp at h), gu_nil⟩⟩ ?_ ?_⟩
    · rintro i σ H5 hi ⟨xs, ws, uu, v7, v8, v9, v10, v11, v12, v13, rfl, I⟩
      have i5 : i ≤ 5 := by omega
      have e0 : (0 : Int) + (i : Int) = (i : Nat) := by omega
      rw [e0]
      have b5 : Bd a r N O S H5 H5 (xs.map fun x => V.ref x.t) (ws.map V.ref) ((ω.W.drop uu).map V.str) (m + 17 * (6 - (i + 1)) + 17) := ⟨I.bd.n, I.bd.o, I.bd.s, I.bd.dr.mono (by omega), Same.refl _⟩
      have hwS : WldAt (OfS [a, r, N, O, S] H5) p ω := (hw.same (fun b o e => by
        obtain ⟨e1, n1, n2⟩ := off_some e
        exact ofs_at (fun mm => by rw [ofree b mm n1 n2] at e1; cases e1) e1)).same I.bd.sm
      have hwx : ∀ {G : Hp}, Same (OfS [a, r, N, O, S] H5) (OfS [a, r, N, O, S] G) → WldAt (Off a r G) p ω := fun s => (hwS.same s).same (ofs_off (by simp) (by simp))
      obtain ⟨τ, hτ⟩ : ∃ τ, τ = xs.map rawO := ⟨_, rfl⟩
      have lτ : τ.length = i := by rw [hτ, List.length_map, I.lx]
      have fτ : ∀ x ∈ τ, ∀ c ∈ x.2, Fct c := fun x hx c hc => by
        rw [hτ] at hx
        obtain ⟨y, hy, rfl⟩ := List.mem_map.mp hx
        obtain ⟨ys, dy⟩ := (I.nd y hy).2
        have : (rawO y).2 = ys.map (·.2) := by
          show (y.os.filterMap id).map (·.2) = _
          rw [dy.os, some_filter]
        rw [this] at hc
        obtain ⟨q, hq, rfl⟩ := List.mem_map.mp hc
        exact dy.fct q hq
      refine ⟨(by show 0 ≤ sizeLine; decide), fun A nA => ?_⟩
      have fA := b5.free Ds nA
      have b6 := b5.same Ds (same_new (o := .lst []) nA)
      have c6 : OfS [a, r, N, O, S] (upd H5 A (.lst [])) A = some (.lst (([] : List Str).map V.str)) := ofs_at (by simp [fA.1, fA.2.1, fA.2.2.1, fA.2.2.2.1, fA.2.2.2.2.1]) upd_same
      generalize upd H5 A (.lst []) = H6 at b6 c6 ⊢
      dsimp only [gName, tSeq, tNext, tAsg]
      refine ifs_mid (fun b H' => b = decide (0 < i) ∧ H' = H6) (fun σ' H' => ∃ (op : Option Nat) (Ab : Addr) (al : List Str), σ' = [some (.ref a), some (.ref p), some (.int 6), some (.int 1), some (.ref N), some (.ref O), some (.ref S), some (.int (i : Nat)), some (pV op), some (.ref Ab), v10, v11, v12, v13] ∧
          Bd a r N O S H5 H' (xs.map fun x => V.ref x.t) (ws.map V.ref) ((ω.W.drop uu).map V.str) (m + 17 * (6 - (i + 1)) + 16) ∧ OfS [a, r, N, O, S] H' Ab = some (.lst (al.map V.str)) ∧ ((op = none ∧ i = 0 ∧ al = []) ∨ ∃ pp, op = some pp ∧ pp < i ∧ al = nms (lo τ pp)))
        (fun R hR => ⟨_, rfl, _, _, rfl, rfl, _, rfl, hR _ _ ⟨?_, rfl⟩⟩) (fun H' pc D' hD => ?_) (fun H' pc D' hD => ?_) (fun σ' H7 pr => ?_)
      · by_cases h : 0 < i
        · rw [decide_eq_true h, decide_eq_true (show ((i : Nat) : Int) > 0 by omega)]
        · rw [decide_eq_false h, decide_eq_false (show ¬ ((i : Nat) : Int) > 0 by omega)]
      · obtain ⟨e, rfl⟩ := pc
        have hi0 : 0 < i := of_decide_eq_true e.symm
        refine ⟨_, rfl, _, rfl, a, r, m + 17 * (6 - (i + 1)) + 16, _, rfl, b6.dr, by omega, by omega, fun x H7 x0 x1 s7 k7 => ?_⟩
        obtain ⟨pp, rfl⟩ : ∃ j : Nat, x = j := ⟨x.toNat, by omega⟩
        have b7 := b6.kp Ds k7 s7
        have lp : pp < ws.length := by rw [I.lw]; omega
        have hq := I.ow pp _ (List.getElem?_eq_getElem lp)
        rw [← hτ] at hq
        refine ⟨_, rfl, _, rfl, O, _, _, .ref ws[pp], rfl, rfl, SqL.of b7.o, atI_nat (by rw [List.getElem?_map, List.getElem?_eq_getElem lp]; rfl), hD _ _ ⟨some pp, ws[pp], nms (lo τ pp), rfl, b7, b7.sm _ _ hq, .inr ⟨pp, rfl, by omega, rfl⟩⟩⟩
      · obtain ⟨e, rfl⟩ := pc
        have hi0 : i = 0 := by
          have := of_decide_eq_false e.symm
          omega
        exact hD _ _ ⟨none, A, [], rfl, b6.mono (by omega), c6, .inl ⟨rfl, hi0, rfl⟩⟩
      · obtain ⟨op, Ab, al, rfl, b7, hab, hop⟩ := pr
        have lWd : (ω.W.drop uu).length = 12 - uu := by rw [List.length_drop, ok.lW]
        have lu := I.lu
        refine ⟨_, rfl, a, r, m + 17 * (6 - (i + 1)) + 15, 4, rfl, b7.dr, by decide, by decide, fun x H8 x0 x1 s8 k8 => ?_⟩
        have b8 := b7.kp Ds k8 s8
        refine ⟨rfl, _, rfl, and_mid (fun R hR => ⟨_, rfl, S, _, rfl, .inl (SqL.of b8.s), _, _, rfl, rfl, hR _⟩) fun bb => ?_⟩
        refine .inr ⟨_, rfl, _, _, rfl, rfl, ?_⟩
        obtain ⟨cn, ecn, cn1, cn2⟩ : ∃ cn : Nat, (1 : Int) + (if bb = true then 1 else 0) = (cn : Nat) ∧ 1 ≤ cn ∧ cn ≤ 2 := by
          cases bb
          · exact ⟨1, rfl, by decide, by decide⟩
          · exact ⟨2, rfl, by decide, by decide⟩
        refine ⟨((cn : Nat) : Int), congrArg (fun z => [V.int z]) ecn, by omega, by omega, fun D nD => ?_⟩
        rw [Int.toNat_natCast]
        have g8 : Bd a r N O S H7 H8 (xs.map fun x => V.ref x.t) (ws.map V.ref) ((ω.W.drop uu).map V.str) (m + 17 * (6 - (i + 1)) + 15) :=
          (⟨b7.n, b7.o, b7.s, b7.dr, Same.refl _⟩ : Bd a r N O S H7 H7 (xs.map fun x => V.ref x.t) (ws.map V.ref) ((ω.W.drop uu).map V.str) (m + 17 * (6 - (i + 1)) + 15 + 1)).kp Ds k8 s8
        have fD := g8.free Ds nD
        refine lc_range (lo := 0) (n := cn) (fun j G => G D = some (.lst (((ω.W.drop uu).take j).map V.str)) ∧ Bd a r N O S H7 G (xs.map fun x => V.ref x.t) (ws.map V.ref) ((ω.W.drop (uu + j)).map V.str) (m + 17 * (6 - (i + 1)) + 15))
          ⟨upd_same, (g8.same Ds (same_new nD))⟩ ?_ ?_
        · rintro j G hj ⟨gD, gB⟩
          refine ⟨rfl, ?_⟩
          dsimp only [tYes]
          rw [if_pos rfl]
          have lj : uu + j < ω.W.length := by rw [ok.lW]; omega
          refine ⟨_, rfl, .inl ⟨rfl, _, SqL.of gB.s⟩, S, _, 0, 0, .str ω.W[uu + j], rfl, rfl, gB.s, by decide, by decide, ?_, ?_, ?_⟩
          · exact seqIndex_of (by decide) (by rw [List.length_map, List.length_drop]; omega)
          · rw [List.getElem?_map, List.getElem?_drop, Nat.add_zero, List.getElem?_eq_getElem lj]
            rfl
          · have eE : ((ω.W.drop (uu + j)).map V.str).eraseIdx 0 = (ω.W.drop (uu + (j + 1))).map V.str := by
              rw [List.eraseIdx_zero, ← List.map_tail, List.tail_drop]
              rfl
            rw [eE]
            have g2 := gB.setS Ds (ys := (ω.W.drop (uu + (j + 1))).map V.str)
            have gD2 : (upd G S (.lst ((ω.W.drop (uu + (j + 1))).map V.str))) D = some (.lst (((ω.W.drop uu).take j).map V.str)) := by
              rw [upd_ne fD.2.2.2.2.1]
              exact gD
            generalize upd G S (.lst ((ω.W.drop (uu + (j + 1))).map V.str)) = G2 at g2 gD2 ⊢
            have lt : ((ω.W.drop uu).take j).length = j := by rw [List.length_take, lWd]; omega
            refine ⟨_, gD2, by rw [List.length_map, lt, sizeLine_eq]; omega, ?_, g2.put Ds fD.2.2.2.2.2 fD.1 fD.2.1 fD.2.2.1 fD.2.2.2.1 fD.2.2.2.2.1⟩
            rw [upd_same, take_snoc (x := ω.W[uu + j]) (by rw [List.getElem?_drop, List.getElem?_eq_getElem lj]), List.map_append]
            rfl
        · rintro H9 ⟨hD9, g9⟩
          have hab9 := g9.sm _ _ hab
          have b9 : Bd a r N O S H5 H9 (xs.map fun x => V.ref x.t) (ws.map V.ref) ((ω.W.drop (uu + cn)).map V.str) (m + 17 * (6 - (i + 1)) + 15) := ⟨g9.n, g9.o, g9.s, g9.dr, b7.sm.trans g9.sm⟩
          have nDS : D ∉ [a, r, N, O, S] := by simp [fD.1, fD.2.1, fD.2.2.1, fD.2.2.2.1, fD.2.2.2.2.1]
          obtain ⟨fr, efr⟩ : ∃ fr, fr = (ω.W.drop uu).take cn := ⟨_, rfl⟩
          rw [← efr] at hD9
          have lfr : fr.length = cn := by rw [efr, List.length_take, lWd]; omega
          have vfr : ∀ z ∈ fr, Vr z := fun z hz => ok.nW _ (List.mem_of_mem_drop (List.mem_of_mem_take (by rw [← efr]; exact hz)))
          have hD9 : OfS [a, r, N, O, S] H9 D = some (.lst (fr.map V.str)) := ofs_at nDS hD9
          clear hab g9
          obtain ⟨M, eM⟩ : ∃ M, M = m + 17 * (6 - (i + 1)) := ⟨_, rfl⟩
          rw [← eM] at b9
          dsimp only [gName, tSeq, tNext, tAsg]
          refine ⟨_, rfl, _, rfl, a, r, M + 14, 3, rfl, b9.dr, by decide, by decide, fun x3 H10 x30 x31 s10 k10 => ?_⟩
          obtain ⟨j3, rfl⟩ : ∃ j : Nat, x3 = j := ⟨x3.toNat, by omega⟩
          have b10 := b9.kp Ds k10 s10
          have hab10 := ofs_kp (S := [a, r, N, O, S]) (by simp) (by simp) k10 _ _ hab9
          have hD10 := ofs_kp (S := [a, r, N, O, S]) (by simp) (by simp) k10 _ _ hD9
          have e2 : (2 : Int) + (j3 : Int) = ((2 + j3 : Nat) : Int) := by omega
          refine ⟨_, _, rfl, rfl, ?_⟩
          refine ⟨((2 + j3 : Nat) : Int), congrArg V.int e2, Ab, _, rfl, SqL.of (ofs_le _ _ hab10), fun B nB => ?_⟩
          rw [cutV_to, ← List.map_take]
          have b11 := b10.same Ds (same_new (o := .lst ((al.take (2 + j3)).map V.str)) nB)
          have hB11 : (upd H10 B (.lst ((al.take (2 + j3)).map V.str))) B = some (.lst ((al.take (2 + j3)).map V.str)) := upd_same
          have hD11 := ofs_same (S := [a, r, N, O, S]) (same_new (o := .lst ((al.take (2 + j3)).map V.str)) nB) _ _ hD10
          generalize upd H10 B (.lst ((al.take (2 + j3)).map V.str)) = H11 at b11 hB11 hD11 ⊢
          have lal : (al.take (2 + j3)).length ≤ 4 := by rw [List.length_take]; omega
          refine ⟨_, rfl, B, D, _, _, rfl, rfl, hB11, ofs_le _ _ hD11, by rw [List.length_map, List.length_map, sizeLine_eq]; omega, fun W nW => ?_⟩
          obtain ⟨own, eown⟩ : ∃ own, own = al.take (2 + j3) ++ fr := ⟨_, rfl⟩
          rw [← List.map_append, ← eown]
          have fW := b11.free Ds nW
          have b12 := b11.same Ds (same_new (o := .lst (own.map V.str)) nW)
          have hW12 : OfS [a, r, N, O, S] (upd H11 W (.lst (own.map V.str))) W = some (.lst (own.map V.str)) := ofs_at (by simp [fW.1, fW.2.1, fW.2.2.1, fW.2.2.2.1, fW.2.2.2.2.1]) upd_same
          have hD12 := ofs_same (S := [a, r, N, O, S]) (same_new (o := .lst (own.map V.str)) nW) _ _ hD11
          generalize upd H11 W (.lst (own.map V.str)) = H12 at b12 hW12 hD12 ⊢
          have val : ∀ z ∈ al, Vr z := fun z hz => by
            rcases hop with ⟨_, _, e⟩ | ⟨pp, _, _, e⟩
            · rw [e] at hz; cases hz
            · rw [e] at hz
              exact nms_vr (lo_fct fτ pp) hz
          have vown : ∀ z ∈ own, Vr z := fun z hz => by
            rw [eown] at hz
            rcases List.mem_append.mp hz with h | h
            · exact val z (List.mem_of_mem_take h)
            · exact vfr z h
          have lown : own.length ≤ 6 ∧ 0 < own.length := by
            rw [eown, List.length_append]
            omega
          have l0 : 0 < fr.length := by omega
          have m0 : fr[0] ∈ fr := List.getElem_mem l0
          have mo : fr[0] ∈ own := by rw [eown]; exact List.mem_append_right _ m0
          -- the first pattern
          refine ⟨_, rfl, _, rfl, _, rfl, _, rfl, D, _, _, .str fr[0], rfl, rfl, SqL.of (ofs_le _ _ hD12), atI_nat (j := 0) (strs_get l0), a, r, p, W, M + 9, ω, own, fr[0], rfl, b12.dr, hwx b12.sm, ok, ofs_off (by simp) (by simp) _ _ hW12, lown.2, by omega, vown, mo, fun t0 T0 zs0 H13 ht0 nt0 pg0 sub0 mem0 s13 k13 => ?_⟩
          have b13 := b12.kp Ds k13 s13
          have hW13 := ofs_kp (S := [a, r, N, O, S]) (by simp) (by simp) k13 _ _ hW12
          have ft0 := b12.free Ds nt0
          have ht13 : OfS [a, r, N, O, S] H13 t0 = some (.tup (.str T0 :: zs0.map V.str)) := ofs_at (by simp [ft0.1, ft0.2.1, ft0.2.2.1, ft0.2.2.2.1, ft0.2.2.2.2.1]) (off_le _ _ ht0)
          refine ⟨(by show 1 ≤ sizeLine; decide), fun L nL => ?_⟩
          have fL := b13.free Ds nL
          have nLS : L ∉ [a, r, N, O, S] := by simp [fL.1, fL.2.1, fL.2.2.1, fL.2.2.2.1, fL.2.2.2.2.1]
          have b14 := b13.same Ds (same_new (o := .lst [V.ref t0]) nL)
          have hL14 : (upd H13 L (.lst [V.ref t0])) L = some (.lst [V.ref t0]) := upd_same
          have hW14 := ofs_same (S := [a, r, N, O, S]) (same_new (o := .lst [V.ref t0]) nL) _ _ hW13
          have ht14 := ofs_same (S := [a, r, N, O, S]) (same_new (o := .lst [V.ref t0]) nL) _ _ ht13
          have t0L : t0 ≠ L := fun z => by
            have := ofs_le _ _ ht13
            rw [z, nL] at this
            cases this
          have WL : W ≠ L := fun z => by
            have := ofs_le _ _ hW13
            rw [z, nL] at this
            cases this
          generalize upd H13 L (.lst [V.ref t0]) = H14 at b14 hL14 hW14 ht14 ⊢
          refine ⟨_, rfl, a, r, M + 8, 2, rfl, b14.dr, by decide, by decide, fun x4 H15 x40 x41 s15 k15 => ?_⟩
          obtain ⟨j4, rfl⟩ : ∃ j : Nat, x4 = j := ⟨x4.toNat, by omega⟩
          have b15 := b14.kp Ds k15 s15
          have hL15 := kp_at k15 hL14 fL.1 fL.2.1
          have hW15 : OfS [L, a, r, N, O, S] H15 W = some (.lst (own.map V.str)) := ofs_cons WL (ofs_kp (by simp) (by simp) k15 _ _ hW14)
          have ht15 : OfS [L, a, r, N, O, S] H15 t0 = some (.tup (.str T0 :: zs0.map V.str)) := ofs_cons t0L (ofs_kp (by simp) (by simp) k15 _ _ ht14)
          refine ⟨_, rfl, _, _, rfl, rfl, .inr ⟨by decide, by decide⟩, _, rfl, by omega, by omega, ?_⟩
          have en : ((j4 : Int) * 1).toNat = j4 := by omega
          refine for_range (lo := 0) (n := ((j4 : Int) * 1).toNat) (fun j σ G => ∃ (ys : List Pt) (w11 : Option V), σ = [some (.ref a), some (.ref p), some (.int 6), some (.int 1), some (.ref N), some (.ref O), some (.ref S), some (.int (i : Nat)), some (pV op), some (.ref Ab), some (.ref D), w11, some (.ref W), some (.ref L)] ∧
              ys.length = 1 + j ∧ G L = some (.lst (ys.map fun x => V.ref x.1)) ∧ Bd a r N O S H5 G (xs.map fun x => V.ref x.t) (ws.map V.ref) ((ω.W.drop (uu + cn)).map V.str) (M + 1 + 7 * (1 - j)) ∧
              OfS [L, a, r, N, O, S] G W = some (.lst (own.map V.str)) ∧ (∀ y ∈ ys, OfS [L, a, r, N, O, S] G y.1 = some (.tup (ptV y)) ∧ Fct y.2 ∧ ∀ z ∈ y.2.2, Nm z ∨ z ∈ own) ∧ ∃ y ∈ ys, fr[0] ∈ y.2.2)
            ⟨[(t0, T0, zs0)], v11, rfl, rfl, hL15, b15.mono (by omega), hW15, fun y my => ?_, ⟨_, List.mem_cons_self, mem0⟩⟩ ?_ ?_
          · rw [List.mem_singleton.mp my]
            exact ⟨ht15, ⟨pg0.nT, pg0.few, pg0.each⟩, fun z hz => .inr (sub0 z hz)⟩
          · rintro j σ G hj ⟨ys, w11, rfl, ly, gL, gB, gW, gy, gm⟩
            rw [en] at hj
            have gB' := gB.mono (m' := M + 1 + 7 * (1 - (j + 1)) + 7) (by omega)
            refine ⟨_, rfl, .inl ⟨rfl, _, SqL.of gL⟩, _, rfl, _, rfl, _, rfl, a, r, p, W, M + 1 + 7 * (1 - (j + 1)), ω, own, rfl, gB'.dr, hwx gB'.sm, ok, ?_, by omega, vown, fun t T zs G2 ht nt pg sub s2 k2 => ?_⟩
            · obtain ⟨q1, q2⟩ := ofs_some gW
              rw [off_of (fun z => q2 (by simp [z])) (fun z => q2 (by simp [z]))]
              exact q1
            have ft := gB'.free Ds nt
            have tL : t ≠ L := fun z => by rw [z, gL] at nt; cases nt
            have gB2 := gB'.kp Ds k2 s2
            have gL2 := kp_at k2 gL fL.1 fL.2.1
            refine ⟨L, _, _, rfl, rfl, gL2, by rw [List.length_map, ly, sizeLine_eq]; omega, ys ++ [(t, T, zs)], _, rfl, by simp [ly]; omega, by rw [upd_same]; simp, gB2.put Ds fL.2.2.2.2.2 fL.1 fL.2.1 fL.2.2.1 fL.2.2.2.1 fL.2.2.2.2.1, ofs_upd (by simp) _ _ (ofs_kp (by simp) (by simp) k2 _ _ gW), fun y my => ?_, ?_⟩
            · rcases List.mem_append.mp my with my | my
              · obtain ⟨q1, q2⟩ := gy y my
                exact ⟨ofs_upd (by simp) _ _ (ofs_kp (by simp) (by simp) k2 _ _ q1), q2⟩
              · rw [List.mem_singleton.mp my]
                exact ⟨ofs_upd (by simp) _ _ (ofs_at (by simp [tL, ft.1, ft.2.1, ft.2.2.1, ft.2.2.2.1, ft.2.2.2.2.1]) (off_le _ _ ht)), ⟨pg.nT, pg.few, pg.each⟩, sub⟩
            · obtain ⟨y, my, e⟩ := gm
              exact ⟨y, List.mem_append_left _ my, e⟩
          · rintro σ G ⟨ys, w11, rfl, ly, gL, gB, gW, gy, gm⟩
            rw [en] at ly
            have gB' := gB.mono (m' := M + 1) (by omega)
            have cons_off : ∀ {G : Hp}, Same (OfS [L, a, r, N, O, S] G) (OfS [a, r, N, O, S] G) := fun b o e => by
              obtain ⟨q1, q2⟩ := ofs_some e
              exact ofs_at (fun m => q2 (List.mem_cons_of_mem _ m)) q1
            dsimp only [gName, tSeq, tNext, tAsg]
            refine ifs_mid (fun b G' => (b = true → i = 0) ∧ Bd a r N O S H5 G' (xs.map fun x => V.ref x.t) (ws.map V.ref) ((ω.W.drop (uu + cn)).map V.str) M ∧ Same (OfS [a, r, N, O, S] G) (OfS [a, r, N, O, S] G'))
              (fun σ' G' => ∃ (Lf : Addr) (ys' : List Pt), σ' = [some (.ref a), some (.ref p), some (.int 6), some (.int 1), some (.ref N), some (.ref O), some (.ref S), some (.int (i : Nat)), some (pV op), some (.ref Ab), some (.ref D), w11, some (.ref W), some (.ref Lf)] ∧
                Bd a r N O S H5 G' (xs.map fun x => V.ref x.t) (ws.map V.ref) ((ω.W.drop (uu + cn)).map V.str) M ∧ OfS [a, r, N, O, S] G' Lf = some (.lst (ys'.map fun x => V.ref x.1)) ∧ ys'.length ≤ 2 ∧ (∀ y ∈ ys', OfS [a, r, N, O, S] G' y.1 = some (.tup (ptV y)) ∧ Fct y.2 ∧ ∀ z ∈ y.2.2, Nm z ∨ z ∈ own) ∧ (0 < i → ∃ y ∈ ys', fr[0] ∈ y.2.2))
              (fun R hR => ?_) (fun G' pc D' hD' => ?_) (fun G' pc D' hD' => ?_) (fun σ' G' pr => ?_)
            · refine ⟨_, rfl, rfl, _, rfl, ?_⟩
              refine ite2 (fun c0 => ?_) (fun c0 => ?_)
              · have c0 := of_decide_eq_true c0
                have i0 : i = 0 := by
                  injection c0 with c0
                  omega
                refine ⟨_, rfl, a, r, M, 8, rfl, gB'.dr, by decide, by decide, fun x5 G2 x50 x51 s2 k2 => ⟨rfl, _, rfl, hR _ _ ⟨fun _ => i0, gB'.kp Ds k2 s2, ofs_kp (by simp) (by simp) k2⟩⟩⟩
              · exact hR _ _ ⟨fun e => absurd e (by decide), gB'.mono (by omega), Same.refl _⟩
            · obtain ⟨pc1, pc2, pc3⟩ := pc
              have i0 := pc1 rfl
              refine ⟨(by show 0 ≤ sizeLine; decide), fun L2 nL2 => hD' _ _ ⟨L2, [], rfl, pc2.same Ds (same_new nL2), ?_, by decide, fun y my => (by cases my), fun h => by omega⟩⟩
              have f2 := pc2.free Ds nL2
              exact ofs_at (by simp [f2.1, f2.2.1, f2.2.2.1, f2.2.2.2.1, f2.2.2.2.2.1]) upd_same
            · obtain ⟨pc1, pc2, pc3⟩ := pc
              exact hD' _ _ ⟨L, ys, rfl, pc2, pc3 _ _ (ofs_at nLS gL), by omega, fun y my => ⟨pc3 _ _ (cons_off _ _ (gy y my).1), (gy y my).2⟩, fun _ => gm⟩
            · obtain ⟨Lf, ys', rfl, b20, hLf, l20, gy', gm'⟩ := pr
              refine ⟨_, rfl, .inl ⟨rfl, _, SqL.of b20.n⟩, _, rfl, _, rfl, (by show 2 ≤ sizeLine; decide), fun T nT => ?_⟩
              have fT := b20.free Ds nT
              have b21 := b20.same Ds (same_new (o := .tup [pV op, .ref Lf]) nT)
              have s21 := same_new (o := .tup [pV op, .ref Lf]) nT
              have hT21 : OfS [a, r, N, O, S] (upd G' T (.tup [pV op, .ref Lf])) T = some (.tup [pV op, .ref Lf]) := ofs_at (by simp [fT.1, fT.2.1, fT.2.2.1, fT.2.2.2.1, fT.2.2.2.2.1]) upd_same
              have t21 := ofs_same (S := [a, r, N, O, S]) s21
              generalize upd G' T (.tup [pV op, .ref Lf]) = H21 at b21 hT21 t21 ⊢
              have lx := I.lx
              have lw := I.lw
              refine ⟨N, _, _, rfl, rfl, b21.n, by rw [List.length_map, lx, sizeLine_eq]; omega, ?_⟩
              obtain ⟨nx, enx⟩ : ∃ nx : Nx, nx = Nx.mk T op Lf (ys'.map some) := ⟨_, rfl⟩
              have eN : (xs.map fun x => V.ref x.t) ++ [V.ref T] = ((xs ++ [nx]).map fun x => V.ref x.t) := by rw [enx]; simp
              rw [eN]
              have b22 := b21.setN Ds (ys := ((xs ++ [nx]).map fun x => V.ref x.t))
              have t22 := (t21.trans (ofs_upd (S := [a, r, N, O, S]) (b := N) (o := .lst ((xs ++ [nx]).map fun x => V.ref x.t)) (by simp)))
              have hT22 := ofs_upd (S := [a, r, N, O, S]) (b := N) (o := .lst ((xs ++ [nx]).map fun x => V.ref x.t)) (by simp) _ _ hT21
              generalize upd H21 N (.lst ((xs ++ [nx]).map fun x => V.ref x.t)) = H22 at b22 hT22 t22 ⊢
              have hLf22 := t22 _ _ hLf
              have gy22 : ∀ y ∈ ys', OfS [a, r, N, O, S] H22 y.1 = some (.tup (ptV y)) := fun y my => t22 _ _ (gy' y my).1
              refine ⟨_, rfl, .inl ⟨rfl, _, SqL.of b22.o⟩, _, rfl, Lf, ys', rfl, ofs_le _ _ hLf22, fun y my => ⟨ofs_le _ _ (gy22 y my), (gy' y my).2.1⟩, by omega, fun l H23 s23 nl hl => ?_⟩
              have fl := b22.free Ds nl
              have b23 := b22.same Ds s23
              have t23 := t22.trans (ofs_same (S := [a, r, N, O, S]) s23)
              have hl23 : OfS [a, r, N, O, S] H23 l = some (.lst ((nms (ys'.map (·.2))).map V.str)) := ofs_at (by simp [fl.1, fl.2.1, fl.2.2.1, fl.2.2.2.1, fl.2.2.2.2.1]) hl
              have hT23 := ofs_same (S := [a, r, N, O, S]) s23 _ _ hT22
              have hLf23 := t23 _ _ hLf
              have gy23 : ∀ y ∈ ys', OfS [a, r, N, O, S] H23 y.1 = some (.tup (ptV y)) := fun y my => t23 _ _ (gy' y my).1
              refine ⟨O, _, _, rfl, rfl, b23.o, by rw [List.length_map, lw, sizeLine_eq]; omega, ?_⟩
              have eO : ws.map V.ref ++ [V.ref l] = (ws ++ [l]).map V.ref := by simp
              rw [eO]
              have b24 := b23.setO Ds (ys := (ws ++ [l]).map V.ref)
              have t24 := ofs_upd (S := [a, r, N, O, S]) (H := H23) (b := O) (o := .lst ((ws ++ [l]).map V.ref)) (by simp)
              generalize upd H23 O (.lst ((ws ++ [l]).map V.ref)) = H24 at b24 t24 ⊢
              have t5 : Same (OfS [a, r, N, O, S] H5) (OfS [a, r, N, O, S] H24) := b24.sm
              have eraw : rawO nx = (op, ys'.map (·.2)) := by
                rw [enx]
                show (op, ((ys'.map some).filterMap id).map (·.2)) = _
                rw [some_filter]
              have exs : (xs ++ [nx]).map rawO = τ ++ [(op, ys'.map (·.2))] := by rw [List.map_append, ← hτ, List.map_singleton, eraw]
              have gu := I.gu
              rw [← hτ] at gu
              have etk : ω.W.take (uu + cn) = ω.W.take uu ++ fr := by rw [efr, List.take_add]
              refine ⟨xs ++ [nx], ws ++ [l], uu + cn, _, _, _, _, _, _, _, rfl, ⟨by simp [lx], by simp [lw], by omega, ⟨b24.n, b24.o, b24.s, by rw [← eM]; exact b24.dr, I.bd.sm.trans t5⟩, fun x mx => ?_, fun k' q hq => ?_, ?_⟩⟩
              · rcases List.mem_append.mp mx with mx | mx
                · exact ⟨(I.nd x mx).1.same t5, (I.nd x mx).2⟩
                · rw [List.mem_singleton.mp mx, enx]
                  refine ⟨⟨t24 _ _ hT23, .inl ?_, fun y hy => ?_⟩, ys', ⟨rfl, l20, fun y my => (gy' y my).2.1⟩⟩
                  · show OfS _ _ Lf = some (.lst ((ys'.map some).map rvO))
                    rw [List.map_map]
                    exact t24 _ _ hLf23
                  · obtain ⟨y', hy', e⟩ := List.mem_map.mp hy
                    cases e
                    exact t24 _ _ (gy23 y hy')
              · rw [exs]
                by_cases ek : k' < ws.length
                · rw [List.getElem?_append_left ek] at hq
                  rw [lo_old (by omega)]
                  have := I.ow k' q hq
                  rw [← hτ] at this
                  exact t5 _ _ this
                · have ek2 : k' = ws.length := by
                    have := (List.getElem?_eq_some_iff.mp hq).1
                    rw [List.length_append, List.length_singleton] at this
                    omega
                  subst ek2
                  rw [List.getElem?_append_right (Nat.le_refl _)] at hq
                  have hq : l = q := by simpa using hq
                  subst hq
                  have e3 : lo (τ ++ [(op, ys'.map (·.2))]) ws.length = ys'.map (·.2) := by
                    rw [lw, ← lτ]
                    exact lo_end
                  rw [e3]
                  exact t24 _ _ hl23
              · rw [exs, etk]
                have nd : (ω.W.take uu ++ ω.W.drop uu).Nodup := by rw [List.take_append_drop]; exact ok.ndW
                refine gu.step (fun z hz hz' => ?_) ?_ (fun z hz => ?_) (fun ne => ?_)
                · rw [efr] at hz
                  exact (List.nodup_append.mp nd).2.2 z hz' z (List.mem_of_mem_take hz) rfl
                · rcases hop with ⟨e, e2, _⟩ | ⟨pp, e, l, _⟩
                  · exact .inl ⟨e, List.length_eq_zero_iff.mp (by omega)⟩
                  · exact .inr ⟨pp, e, by omega⟩
                · obtain ⟨c', hc', hz', vz⟩ := nms_mem.mp hz
                  obtain ⟨y, my, rfl⟩ := List.mem_map.mp hc'
                  rcases (gy' y my).2.2 z hz' with nz | oz
                  · have := nmB_var vz
                    rw [show nmB z.cps.toList = true from nz] at this
                    cases this
                  · rw [eown] at oz
                    rcases List.mem_append.mp oz with oz | oz
                    · right
                      rcases hop with ⟨_, _, e⟩ | ⟨pp, e, l, ea⟩
                      · rw [e] at oz
                        simp at oz
                      · exact ⟨pp, e, by rw [← ea]; exact List.mem_of_mem_take oz⟩
                    · exact .inl oz
                · have i0 : 0 < i := by
                    have := List.length_pos_iff.mpr ne
                    omega
                  obtain ⟨y, my, hy⟩ := gm' i0
                  exact ⟨fr[0], nms_mem.mpr ⟨y.2, List.mem_map_of_mem my, hy, vr_isV (vfr _ m0)⟩, m0⟩
    · rintro σ H5 ⟨xs, ws, uu, v7, v8, v9, v10, v11, v12, v13, rfl, I⟩
      have e1 : (1 + (nn : Int)).toNat = nn + 1 := by omega
      rw [e1] at I
      have kk := kp_ofs I.bd.sm ofree (by simp) (by simp)
      refine ⟨_, rfl, k N xs H5 nN (by rw [off_of zN.1 zN.2]; exact I.bd.n) (fun x m => ⟨(I.nd x m).1.same (ofs_off (by simp) (by simp)), (I.nd x m).2⟩) (by rw [I.lx]; omega) (by rw [I.lx]; omega) I.gu.wf I.gu.gd (I.bd.dr.mono (by omega)) kk⟩
end
end L2.LawH
set_option Elab.async false
set_option linter.all false
set_option maxRecDepth 100000
set_option maxHeartbeats 4000000
/-! _law_order, _law_depth. -/
namespace L2.LawH
open PySem PySem.Spec PyProof.Rows L2.TxtSet TL L2.NSet PySem.W L2.Cmp L2.Rws L2.ZipL L2.ExcN L2.ClsCall
abbrev sLOrd : Stmt := top 41
abbrev sLDep : Stmt := top 42
/-- the kids among the first nodes -/
def kidT (ps : List (Option Nat)) (k m : Nat) : List Nat := (List.range m).filter fun j => decide (pa ps j = some k)
theorem kidT_all (ps : List (Option Nat)) (k : Nat) : kidT ps k ps.length = kids ps k := rfl
theorem kidT_succ (ps : List (Option Nat)) (k m : Nat) : kidT ps k (m + 1) = kidT ps k m ++ (if pa ps m = some k then [m] else []) := by
  unfold kidT
  rw [List.range_succ, List.filter_append]
  congr 1
  by_cases h : pa ps m = some k <;> simp [h]
theorem kidT_low {ps : List (Option Nat)} (w : Wf ps) (k : Nat) : ∀ m, m ≤ k + 1 → kidT ps k m = []
  | 0, _ => rfl
  | m + 1, h => by
    rw [kidT_succ, kidT_low w k m (by omega), if_neg (fun e => by have := (w.lt e).1; omega)]
    rfl
theorem kidT_len (ps : List (Option Nat)) (k m : Nat) : (kidT ps k m).length ≤ m := by
  unfold kidT
  refine Nat.le_trans (List.length_filter_le _ _) ?_
  rw [List.length_range]
  exact Nat.le_refl _
theorem ord_len {ps : List (Option Nat)} (w : Wf ps) {k : Nat} (h : k < ps.length) : (ord ps k).length ≤ ps.length := by
  have := nodup_len (ord ps k) (List.range ps.length) (ord_nodup w k) fun j hj => List.mem_range.mpr (ord_lt w k h j hj)
  rwa [List.length_range] at this
theorem kidT_ord {ps : List (Option Nat)} (w : Wf ps) (k m : Nat) (h : m ≤ ps.length) : ((kidT ps k m).flatMap (ord ps)).length ≤ m * ps.length := by
  refine Nat.le_trans (flat_few (a := ps.length) fun x hx => ?_) (Nat.mul_le_mul_right _ (kidT_len ps k m))
  have := (List.mem_filter.mp hx).1
  exact ord_len w (by have := List.mem_range.mp this; omega)
/-- nodes written by the law -/
structure LwN (H : Hp) (N : Addr) (xs : List Nx) : Prop where
  li : H N = some (.lst (xs.map fun x => V.ref x.t))
  ea : ∀ x ∈ xs, NodeAt H x
theorem LwN.same {H H' : Hp} (s : Same H H') {N : Addr} {xs : List Nx} (h : LwN H N xs) : LwN H' N xs := ⟨s _ _ h.li, fun x m => (h.ea x m).same s⟩
theorem LwN.nodes {H : Hp} {N : Addr} {xs : List Nx} (h : LwN H N xs) : NodesAt H N xs := ⟨.inl h.li, h.ea⟩
def spLOrd (d : Nat) : Sp := fun vs H Q _ => ∃ (N : Addr) (xs : List Nx) (tp : Nat), vs = [.ref N, .int (tp : Nat)] ∧ LwN H N xs ∧ Wf (xs.map (·.p)) ∧ tp < xs.length ∧ xs.length < tp + 1 + d ∧ xs.length ≤ 16 ∧
  ∀ (l : Addr) (H' : Hp), Same H H' → H l = none → H' l = some (.lst (intsV (ord (xs.map (·.p)) tp))) → Q (.ref l) H'
def spLDep : Sp := fun vs H Q _ => ∃ (N : Addr) (xs : List Nx) (k : Nat), vs = [.ref N, .int (k : Nat)] ∧ LwN H N xs ∧ Wf (xs.map (·.p)) ∧ k < xs.length ∧ xs.length ≤ 16 ∧ Q (.int (dp (xs.map (·.p)) k : Nat)) H
theorem pa_get {xs : List Nx} {k : Nat} {x : Nx} (h : xs[k]? = some x) : pa (xs.map (·.p)) k = x.p := by
  unfold pa
  rw [List.getElem?_map, h]
  rfl
section
variable {P : Program} {w : World} {K : PySem.W.Frag} {mg : Str → Option Value} {base : Heap}
abbrev nLOrd : List Str := ["_law_nodes", "_law_top", "_law_found", "_law_k"]
abbrev pLOrd : List Str := ["_law_nodes", "_law_top"]
theorem scLOrd : FnScope nLOrd pLOrd (defScope sLOrd) := ⟨rfl, rfl, rfl, by decide +kernel, rfl, by decide +kernel, by decide +kernel⟩
theorem ok_lord {f : Addr} {fd : FuncData} (F : Fun K "_law_order" "_law_order" sLOrd f fd) (kF : PySem.W.keepIn K (.ref f) = true) (bF : Binds K fd pLOrd []) (mF : mg "_law_order" = some (.ref f))
    (mr : mg "range" = none) (ml : mg "len" = none) : ∀ d, FnOk P w K mg base CX0 d f fd pLOrd (spLOrd d)
  | 0 => ⟨fun vs H Q E h => by
      obtain ⟨_, _, _, _, _, _, h1, h2, _⟩ := h
      omega, fun A outer s H args us vs Q E hr he hb hv h => by
      obtain ⟨_, _, _, _, _, _, h1, h2, _⟩ := h
      omega⟩
  | d + 1 => by
    have GF := ok_lord F kF bF mF mr ml d
    refine F.ok scLOrd (fun vs H Q E h => ?_) (fun cdv A outer s H vs Q E hr h => ?_)
    · obtain ⟨_, _, _, rfl, _⟩ := h
      rfl
    · obtain ⟨N, xs, tp, rfl, hN, wf, h1, h2, h16, k⟩ := h
      refine ⟨_, pss_cons (ps_set (i := 2) scLOrd.nd rfl (Or.inl rfl) (pe_lst (pa_cons (pv 1) pa_nil)))
        (pss_cons (ps_for PassesOwn.never rfl (pi_range2 (by rfl) mr (pa_cons (pe_op op_add (pv 1) pe_int) (pa_cons (pe_callB (call_len_seqK (K := K) rfl) (by rfl) ml (by decide +kernel) (pa_cons (pv 0) pa_nil)) pa_nil))) (pg_name (i := 3) scLOrd.nd rfl (Or.inl rfl))
          (pss_one (ps_if (pt_cmpR op_eq (pe_ix ix_tup (pe_ix ix_list (pv 0) (pv 3) (fun _ _ => rfl)) pe_int (fun _ _ => rfl)) (pv 1) (nomark _))
            (pss_one (ps_set (i := 2) scLOrd.nd rfl (Or.inl rfl) (pe_op op_cat (pv 2) (pe_call GF hr (by rfl) mF kF bF .nil pass0 (pa_cons (pv 0) (pa_cons (pv 3) pa_nil)))))) pss_nil)))
        (pss_one (ps_ret (pv 2)))), ?_⟩
      have lps : (xs.map (·.p)).length = xs.length := List.length_map _
      refine ⟨_, rfl, (by show 1 ≤ sizeLine; decide), fun A0 nA0 => ?_⟩
      have u1 : Same H (upd H A0 (.lst [.int (tp : Nat)])) := same_new nA0
      have c1 : (upd H A0 (.lst [.int (tp : Nat)])) A0 = some (.lst [.int (tp : Nat)]) := upd_same
      generalize upd H A0 (.lst [.int (tp : Nat)]) = H1 at u1 c1 ⊢
      have et : ((tp : Int) + 1) = ((tp + 1 : Nat) : Int) := by omega
      refine ⟨_, rfl, _, _, rfl, rfl, _, rfl, N, _, rfl, .inl (SqL.of (u1 _ _ hN.li)), _, _, rfl, ⟨by omega, by omega, by omega, by rw [List.length_map]; omega⟩, for_range (lo := (tp : Int) + 1) (n := (((xs.map fun x => V.ref x.t).length : Nat) - ((tp : Int) + 1)).toNat) (fun i σ H5 => ∃ (B : Addr) (v3 : Option V), σ = [some (.ref N), some (.int (tp : Nat)), some (.ref B), v3] ∧
          H5 B = some (.lst (intsV (tp :: (kidT (xs.map (·.p)) tp (tp + 1 + i)).flatMap (ord (xs.map (·.p)))))) ∧ Same H H5 ∧ H B = none)
        ⟨A0, none, rfl, ?_, u1, nA0⟩ ?_ ?_⟩
      · rw [kidT_low wf tp _ (by omega)]
        exact c1
      · rintro i σ H5 hi ⟨B, v3, rfl, hB, s5, nB⟩
        rw [List.length_map] at hi
        have hk : tp + 1 + i < xs.length := by omega
        have hget := List.getElem?_eq_getElem hk
        have ex : (xs.map fun x => V.ref x.t)[tp + 1 + i]? = some (.ref xs[tp + 1 + i].t) := by rw [List.getElem?_map, hget]; rfl
        have hx := hN.ea _ (List.getElem_mem hk)
        have hpa := pa_get hget
        generalize xs[tp + 1 + i] = x at ex hx hpa
        have ek : ((tp : Int) + 1) + (i : Int) = ((tp + 1 + i : Nat) : Int) := by omega
        rw [ek]
        have lk := kidT_ord wf tp (tp + 1 + i) (by rw [lps]; omega)
        have lk2 : (tp + 1 + i) * (xs.map (·.p)).length ≤ 16 * 16 := by rw [lps]; exact Nat.mul_le_mul (by omega) h16
        refine ⟨_, rfl, _, rfl, N, _, _, .ref x.t, rfl, rfl, SqL.of (s5 _ _ hN.li), atI_nat ex, x.t, _, 0, _, rfl, rfl, SqT.of (s5 _ _ hx.tu), rfl, _, rfl, ?_, _, rfl, ?_⟩
        · cases x.p <;> rfl
        · have dec : decide (pV x.p = V.int (tp : Nat)) = decide (x.p = some tp) := by
            cases x.p with
            | none => rfl
            | some q =>
              show decide (V.int (q : Nat) = V.int (tp : Nat)) = _
              by_cases h : q = tp
              · subst h
                simp
              · have : (V.int (q : Nat) : V) ≠ V.int (tp : Nat) := fun e => by
                  injection e with e
                  exact h (by omega)
                simp [h, this]
          rw [dec]
          have ks := kidT_succ (xs.map (·.p)) tp (tp + 1 + i)
          rw [hpa] at ks
          refine ite2 (fun c => ?_) (fun c => ?_)
          · have c := of_decide_eq_true c
            rw [if_pos c] at ks
            refine ⟨_, rfl, _, rfl, _, rfl, N, xs, tp + 1 + i, rfl, hN.same s5, wf, hk, by omega, h16, fun l H6 s6 nl hl => ?_⟩
            have lo := ord_len wf (k := tp + 1 + i) (by rw [lps]; exact hk)
            refine ⟨B, l, _, _, rfl, rfl, s6 _ _ hB, hl, ?_, fun C nC => ?_⟩
            · rw [sizeLine_eq]
              show (List.map _ _).length + (List.map _ _).length ≤ _
              rw [List.length_map, List.length_map, List.length_cons]
              omega
            · refine ⟨C, _, rfl, ?_, s5.trans (s6.trans (same_new nC)), none_of (s5.trans s6) nC⟩
              rw [upd_same, show tp + 1 + (i + 1) = tp + 1 + i + 1 by omega, ks, List.flatMap_append]
              congr 2
              show List.map _ _ ++ List.map _ _ = List.map _ _
              rw [← List.map_append]
              simp
          · have c : ¬ x.p = some tp := fun e => c (decide_eq_true e)
            rw [if_neg c, List.append_nil] at ks
            refine ⟨B, _, rfl, ?_, s5, nB⟩
            rw [show tp + 1 + (i + 1) = tp + 1 + i + 1 by omega, ks]
            exact hB
      · rintro σ H5 ⟨B, v3, rfl, hB, s5, nB⟩
        refine ⟨_, rfl, k B H5 s5 nB ?_⟩
        rw [hB, ord_eq wf tp, ← kidT_all]
        have en : tp + 1 + (((xs.map fun x => V.ref x.t).length : Nat) - ((tp : Int) + 1)).toNat = (xs.map (·.p)).length := by
          rw [List.length_map, List.length_map]
          omega
        rw [en]
abbrev nLDep : List Str := ["_law_nodes", "_law_k", "_law_found"]
theorem scLDep : FnScope nLDep ["_law_nodes", "_law_k"] (defScope sLDep) := ⟨rfl, rfl, rfl, by decide +kernel, rfl, by decide +kernel, by decide +kernel⟩
theorem ok_ldep {f : Addr} {fd : FuncData} (F : Fun K "_law_depth" "_law_depth" sLDep f fd) : FnOk P w K mg base CX0 1 f fd ["_law_nodes", "_law_k"] spLDep := by
  refine F.ok scLDep (fun vs H Q E h => ?_) (fun cdv A outer s H vs Q E hr h => ?_)
  · obtain ⟨_, _, _, rfl, _⟩ := h
    rfl
  · obtain ⟨N, xs, k, rfl, hN, wf, hk, h16, q⟩ := h
    refine ⟨_, pss_cons (ps_set (i := 2) scLDep.nd rfl (Or.inl rfl) pe_int)
      (pss_cons (ps_while PassesOwn.never (pt_cmpR op_gt (pv 1) pe_int (nomark _))
        (pss_cons (ps_set (i := 1) scLDep.nd rfl (Or.inl rfl) (pe_ix ix_tup (pe_ix ix_list (pv 0) (pv 1) (fun _ _ => rfl)) pe_int (fun _ _ => rfl)))
        (pss_one (ps_set (i := 2) scLDep.nd rfl (Or.inl rfl) (pe_op op_add (pv 2) pe_int)))))
      (pss_one (ps_ret (pv 2)))), ?_⟩
    refine ⟨fun m σ H5 => ∃ k' cnt : Nat, σ = [some (.ref N), some (.int (k' : Nat)), some (.int (cnt : Nat))] ∧ m = k' ∧ k' < xs.length ∧ cnt + dp (xs.map (·.p)) k' = dp (xs.map (·.p)) k ∧ H5 = H, ⟨_, k, 0, rfl, rfl, hk, by omega, rfl⟩, fun m σ H5 inv => ?_⟩
    obtain ⟨k', cnt, rfl, em, hk', e, rfl⟩ := inv
    refine ⟨_, rfl, _, _, rfl, rfl, _, rfl, ite2 (fun c => ?_) (fun c => ?_)⟩
    · have k0 : 0 < k' := by
        have := of_decide_eq_true c
        omega
      obtain ⟨p, hp, lp⟩ := wf.up k' k0 (by rw [List.length_map]; exact hk')
      have hget := List.getElem?_eq_getElem hk'
      have ex : (xs.map fun x => V.ref x.t)[k']? = some (.ref xs[k'].t) := by rw [List.getElem?_map, hget]; rfl
      have hx := hN.ea _ (List.getElem_mem hk')
      have hpa := pa_get hget
      rw [hp] at hpa
      generalize xs[k'] = x at ex hx hpa
      refine ⟨_, fun σ' H' q => q, ?_⟩
      refine ⟨_, rfl, _, rfl, N, _, _, .ref x.t, rfl, rfl, SqL.of hN.li, atI_nat ex, x.t, _, 0, _, rfl, rfl, SqT.of hx.tu, rfl, ?_⟩
      have ds := dp_step wf hp
      refine ⟨_, rfl, _, _, rfl, rfl, _, by rw [em]; exact lp, p, cnt + 1, ?_, rfl, by omega, by omega, rfl⟩
      rw [← hpa]
      rfl
    · have k0 : k' = 0 := by
        have : ¬ ((k' : Nat) : Int) > 0 := fun h => c (decide_eq_true h)
        omega
      subst k0
      rw [dp_root wf.rt] at e
      have e : cnt = dp (xs.map (·.p)) k := by omega
      refine ⟨_, rfl, ?_⟩
      rw [e]
      exact q
end
end L2.LawH
set_option Elab.async false
set_option linter.all false
set_option maxRecDepth 100000
set_option maxHeartbeats 4000000
/-! _law_pattern_text, _law_lines. -/
namespace L2.LawH
open PySem PySem.Spec PyProof.Rows L2.TxtSet TL L2.NSet PySem.W L2.Cmp L2.Rws L2.ZipL L2.ExcN L2.ClsCall
abbrev sLPtx : Stmt := top 43
abbrev sLLin : Stmt := top 44
def spLPtx : Sp := fun vs H Q _ => ∃ (t : Addr) (T : Str) (zs : List Str), vs = [.ref t] ∧ H t = some (.tup (.str T :: zs.map V.str)) ∧ zs.length ≤ 100 ∧ T.length ≤ 1000 ∧ (∀ z ∈ zs, z.length ≤ 1000) ∧
  ∀ H', Same H H' → Q (.str (ptext T zs)) H'
/-- x if c else y, told once; c may make something -/
theorem tif_mid {c : TT} {t u : TE} {σ : St} {H : Hp} {Q : VK} (Pc : Bool → Hp → Prop) (Pr : V → Hp → Prop) (hc : ∀ R : Bool → Hp → Prop, (∀ b H', Pc b H' → R b H') → c σ H R) (ht : ∀ H', Pc true H' → ∀ Q : VK, (∀ v H', Pr v H' → Q v H') → t σ H' Q)
    (hu : ∀ H', Pc false H' → ∀ Q : VK, (∀ v H', Pr v H' → Q v H') → u σ H' Q) (h : ∀ v H', Pr v H' → Q v H') : tIf c t u σ H Q := by
  refine hc _ fun b H' pc => ?_
  cases b with
  | true => exact iteT (ht H' pc Q h)
  | false => exact iteF (hu H' pc Q h)
/-- nodes as drawn: each lot of patterns -/
def DrwAll (xs : List Nx) : Prop := ∀ x ∈ xs, ∃ ys, DrwN x ys
def spLLin : Sp := fun vs H Q _ => ∃ (N : Addr) (xs : List Nx), vs = [.ref N] ∧ LwN H N xs ∧ DrwAll xs ∧ Wf (xs.map (·.p)) ∧ 0 < xs.length ∧ xs.length ≤ 16 ∧
  ∀ (l : Addr) (H' : Hp), Same H H' → H l = none → H' l = some (.lst ((ord (xs.map (·.p)) 0).map fun k => V.str (linS (xs.map trO) k))) → Q (.ref l) H'
section
variable {P : Program} {w : World} {K : PySem.W.Frag} {mg : Str → Option Value} {base : Heap}
theorem scLPtx : FnScope ["_law_pattern_here"] ["_law_pattern_here"] (defScope sLPtx) := ⟨rfl, rfl, rfl, by decide +kernel, rfl, by decide +kernel, by decide +kernel⟩
theorem ok_lptx {f : Addr} {fd : FuncData} (F : Fun K "_law_pattern_text" "_law_pattern_text" sLPtx f fd) : FnOk P w K mg base CX0 1 f fd ["_law_pattern_here"] spLPtx := by
  refine F.ok scLPtx (fun vs H Q E h => ?_) (fun cdv A outer s H vs Q E hr h => ?_)
  · obtain ⟨t, T, zs, rfl, _⟩ := h
    rfl
  · obtain ⟨t, T, zs, rfl, ht, few, lT, lz, k⟩ := h
    refine ⟨_, pss_one (ps_ret (pe_op op_add_str (pe_op op_add_str (pe_op op_add_str (pe_ix ix_tup (pv 0) pe_int (fun _ _ => rfl)) pe_str) (pe_join pe_str (pe_slice sl_tup (pv 0) (po_some pe_int) po_none))) pe_str)), ?_⟩
    have s1 := sum_le 1000 zs lz
    have c1 : (("," : String) : Str).length = 1 := by decide +kernel
    have c2 : (("(" : String) : Str).length = 1 := by decide +kernel
    have c3 : (((")" : String)) : Str).length = 1 := by decide +kernel
    have jl : (Txt.join "," zs).length ≤ 110000 := by
      have q := join_len "," zs
      rw [c1] at q
      have e : Txt.join "," zs = Str.join "," zs := StrLaws.glued_eq_join _ _
      rw [e]
      refine Nat.le_trans q ?_
      have : zs.length * 1000 ≤ 100 * 1000 := Nat.mul_le_mul_right _ few
      omega
    refine ⟨_, rfl, t, _, 0, _, rfl, rfl, SqT.of ht, atI_nat (j := 0) rfl, T, _, rfl, rfl, by rw [c2, sizeLine_eq]; omega, ⟨_, rfl⟩, _, rfl, _, rfl, t, _, rfl, SqT.of ht, cut_part _ _, fun u nu => ?_⟩
    rw [cut_one]
    refine ⟨_, u, zs, rfl, rfl, .inr (SqT.of upd_same), ?_, ?_⟩
    · rw [c1]
      have : zs.length * 1000 ≤ 100 * 1000 := Nat.mul_le_mul_right _ few
      omega
    · refine ⟨_, _, rfl, rfl, by rw [len_app, c2, sizeLine_eq]; omega, _, _, rfl, rfl, by rw [len_app, len_app, c2, c3, sizeLine_eq]; omega, ?_⟩
      have e : ptext T zs = T ++ Str.ofString "(" ++ Txt.join (Str.ofString ",") zs ++ Str.ofString ")" := by
        show Str.empty ++ T ++ _ ++ _ ++ _ = _
        congr 3
        exact ext_tl (by rw [tl_append]; rfl)
      have := k _ (same_new (o := .tup (zs.map V.str)) nu)
      rw [e] at this
      exact this
abbrev nLLin : List Str := ["_law_nodes", "_law_found", "_law_k", "_law_words_here", "_law_pattern_here"]
theorem scLLin : FnScope nLLin ["_law_nodes"] (defScope sLLin) := ⟨rfl, rfl, rfl, by decide +kernel, rfl, by decide +kernel, by decide +kernel⟩
theorem ok_llin {f fO fD fT : Addr} {fd fdO fdD fdT : FuncData} (F : Fun K "_law_lines" "_law_lines" sLLin f fd)
    (GO : FnOk P w K mg base CX0 16 fO fdO pLOrd (spLOrd 16)) (kO : PySem.W.keepIn K (.ref fO) = true) (bO : Binds K fdO pLOrd []) (mO : mg "_law_order" = some (.ref fO))
    (GD : FnOk P w K mg base CX0 1 fD fdD ["_law_nodes", "_law_k"] spLDep) (kD : PySem.W.keepIn K (.ref fD) = true) (bD : Binds K fdD ["_law_nodes", "_law_k"] []) (mD : mg "_law_depth" = some (.ref fD))
    (GT : FnOk P w K mg base CX0 1 fT fdT ["_law_pattern_here"] spLPtx) (kT : PySem.W.keepIn K (.ref fT) = true) (bT : Binds K fdT ["_law_pattern_here"] []) (mT : mg "_law_pattern_text" = some (.ref fT))
    (ms : mg "sorted" = none) (mS : mg "set" = none) : FnOk P w K mg base CX0 17 f fd ["_law_nodes"] spLLin := by
  refine F.ok scLLin (fun vs H Q E h => ?_) (fun cdv A outer s H vs Q E hr h => ?_)
  · obtain ⟨_, _, rfl, _⟩ := h
    rfl
  · obtain ⟨N, xs, rfl, hN, dr, wf, l0, l16, k⟩ := h
    have hr1 : Room 1 _ := hr.mono (by decide)
    have hu := hr.units
    refine ⟨_, pss_cons (ps_set (i := 1) scLLin.nd rfl (Or.inl rfl) (pe_lst pa_nil))
      (pss_cons (ps_for PassesOwn.never rfl (pi_list (pe_call GO hr (by rfl) mO kO bO .nil pass0 (pa_cons (pv 0) (pa_cons pe_int pa_nil)))) (pg_name (i := 2) scLLin.nd rfl (Or.inl rfl))
        (pss_cons (ps_setLc (i := 3) (own := [("_law_pattern_here", 4)]) (g := gName 4) (tt := tYes) rfl scLLin.nd rfl rfl (sw_true rfl rfl rfl (by decide +kernel))
            (pi_list (pe_callB (cr_sortNK (K := K) (P := P) (w := w) rfl rfl rfl rfl hu) (by rfl) ms (by decide +kernel) (pa_cons (pe_callTy (cr_setNK (K := K) (P := P) (w := w) rfl rfl rfl rfl hu) (by rfl) mS (by decide +kernel) (pa_cons (pe_ix ix_tup (pe_ix ix_list (pv 0) (pv 2) (fun _ _ => rfl)) pe_int (fun _ _ => rfl)) pa_nil)) pa_nil)))
            (blkOk_by (own := [("_law_pattern_here", 4)]) (N := nLLin) (sc := defScope sLLin) (by decide +kernel)) (fun _ _ _ _ _ => pg_name (i := 4) scLLin.nd rfl (Or.inl rfl)) (fun _ _ _ _ _ => pts_nil)
            (fun _ _ _ _ _ => pe_call GT hr1 (by rfl) mT kT bT .nil pass0 (pa_cons (pv 4) pa_nil)))
        (pss_one (ps_expr (pe_bm PySem.F.plainAttrs_list PySem.F.slot_list_append PySem.F.type_list_append mt_append (pv 1) (pa_cons (pe_op op_add_str (pe_op op_mul_str pe_str (pe_call GD hr1 (by rfl) mD kD bD .nil pass0 (pa_cons (pv 0) (pa_cons (pv 2) pa_nil))))
            (pe_ifExp (pt_cmpR (op_neNilC (K := K) rfl hu) (pv 3) (pe_lst pa_nil) (nomark _)) (pe_join pe_str (pv 3)) pe_str)) pa_nil))))))
      (pss_one (ps_ret (pv 1)))), ?_⟩
    have lps : (xs.map (·.p)).length = xs.length := List.length_map _
    refine ⟨(by show 0 ≤ sizeLine; decide), fun L nL => ?_⟩
    have u1 : Same H (upd H L (.lst [])) := same_new nL
    have c1 : (upd H L (.lst [])) L = some (.lst []) := upd_same
    generalize upd H L (.lst []) = H1 at u1 c1 ⊢
    refine ⟨_, rfl, N, xs, 0, rfl, hN.same u1, wf, l0, by omega, l16, fun O H2 u2 nO hO => ?_⟩
    have OL : O ≠ L := fun e => by rw [e, c1] at nO; cases nO
    have lor := ord_len wf (k := 0) (by rw [lps]; exact l0)
    refine ⟨O, rfl, ⟨_, SqL.of hO⟩, for_it (L2.walk_list (K := K) (xs := intsV (ord (xs.map (·.p)) 0))) (fun i σ H5 => ∃ (v2 v3 v4 : Option V), σ = [some (.ref N), some (.ref L), v2, v3, v4] ∧ H5 L = some (.lst (((ord (xs.map (·.p)) 0).take i).map fun k => V.str (linS (xs.map trO) k))) ∧ Same (Wo L H2) (Wo L H5))
      ⟨none, none, none, rfl, u2 _ _ c1, Same.refl _⟩ (fun i σ H5 _ pp => let ⟨_, _, _, _, _, s5⟩ := pp; SqL.of (wo_le _ _ (s5 _ _ (wo_new hO OL)))) (fun i x σ H5 H6 hi pp yy => ?_) (fun σ H5 pp => ?_)⟩
    · obtain ⟨v2, v3, v4, rfl, hL, s5⟩ := pp
      obtain ⟨rfl, hy⟩ := yy
      rw [List.getElem?_map] at hy
      obtain ⟨kk, hk, ex⟩ := Option.map_eq_some_iff.mp hy
      subst ex
      have lk : kk < xs.length := by
        have := ord_lt wf 0 (by rw [lps]; exact l0) kk (List.mem_of_getElem? hk)
        rwa [lps] at this
      have li : i < (ord (xs.map (·.p)) 0).length := (List.getElem?_eq_some_iff.mp hk).1
      have s06 : Same H H6 := fun b o e => wo_le _ _ (s5 _ _ (wo_new (u2 _ _ (u1 _ _ e)) fun z => by rw [z, nL] at e; cases e))
      have hget := List.getElem?_eq_getElem lk
      have exx : (xs.map fun x => V.ref x.t)[kk]? = some (.ref xs[kk].t) := by rw [List.getElem?_map, hget]; rfl
      have hx := hN.ea _ (List.getElem_mem lk)
      obtain ⟨ys, dy⟩ := dr _ (List.getElem_mem lk)
      have elo := lo_tr hget
      generalize xs[kk] = x at hget exx hx dy elo
      rw [dy.os, some_filter] at elo
      have yx : x.os.map rvO = ys.map fun x => V.ref x.1 := by
        rw [dy.os, List.map_map]
        rfl
      have xli := hx.li
      rw [yx] at xli
      dsimp only [gName, tSeq, tAsg, tNext]
      refine ⟨_, rfl, _, rfl, N, _, _, .ref x.t, rfl, rfl, SqL.of (s06 _ _ hN.li), atI_nat exx, x.t, _, 1, _, rfl, rfl, SqT.of (s06 _ _ hx.tu), rfl, ?_⟩
      dsimp only [tNil, List.cons_append, List.nil_append]
      refine sorted_set (xs := ys) (xli.same s06).or (fun x m => s06 _ _ (hx.ea x (by rw [dy.os]; exact List.mem_map_of_mem m))) (by have := dy.few; omega) fun l M H7 s7 nl hl sub mem asc => ⟨l, rfl, ⟨_, SqL.of hl⟩, fun D nD => ?_⟩
      have eM : M.map (·.2) = nrm (ys.map (·.2)) := nrm_of asc mem
      have lM : M.length ≤ 2 := by
        have e := congrArg List.length eM
        have n1 := nrm_len (ys.map (·.2))
        have n2 := dy.few
        rw [List.length_map] at e
        rw [List.length_map] at n1
        omega
      have fM : ∀ x ∈ M, Fct x.2 ∧ H7 x.1 = some (.tup (ptV x)) := fun y my => ⟨dy.fct y (sub y my), s7 _ _ (s06 _ _ (hx.ea y (by rw [dy.os]; exact List.mem_map_of_mem (sub y my))))⟩
      have s5' := s5
      have nD5 : H6 L = some (.lst (((ord (xs.map (·.p)) 0).take i).map fun k => V.str (linS (xs.map trO) k))) := hL
      have lL : l ≠ L := fun e => by rw [e, hL] at nl; cases nl
      have DL : D ≠ L := fun e => by rw [e, s7 _ _ hL] at nD; cases nD
      refine lc_sift (ms := M) (val := fun x => V.ref x.1) (L2.walk_list (K := K)) (List.length_map _) (fun _ => true) (fun x => V.str (ptext x.2.1 x.2.2)) nD (by omega) (fun H' s' => SqL.of (s' _ _ hl)) (fun x hx H5 Yes No s5 yes no => ?_) (fun H8 s8 hD => ?_)
      · refine ⟨rfl, ?_⟩
        dsimp only [tYes]
        rw [if_pos rfl]
        obtain ⟨fx, ax⟩ := fM x hx
        refine ⟨_, rfl, x.1, x.2.1, x.2.2, rfl, s5 _ _ ax, Nat.le_trans fx.l3 (by decide), ?_, ?_, fun H6 s6 => yes H6 s6 rfl⟩
        · exact Nat.le_trans (tm_len (.inl fx.nT)).2 (by decide)
        · exact fun z hz => Nat.le_trans (tm_len (fx.nz z hz)).2 (by decide)
      · have hD' : H8 D = some (.lst (((M.map (·.2)).map fun c : Fc => ptext c.1 c.2).map V.str)) := by
          rw [hD, List.map_map, List.map_map]
          rw [List.filter_eq_self.mpr (fun _ _ => rfl)]
          rfl
        have s68 := s7.trans s8
        have hL8 := s68 _ _ hL
        have dk := dp_len wf kk
        have ldp : dp (xs.map (·.p)) kk ≤ 16 := by
          have := dp_le wf kk kk (Nat.le_refl _)
          omega
        have mo : MulOk (Str.ofString " ") ((dp (xs.map (·.p)) kk : Nat) : Int) := mul_ok (by rw [show (Str.ofString " ").length = 1 by decide +kernel]; omega) (by omega)
        refine ⟨_, rfl, .inl ⟨rfl, _, SqL.of hL8⟩, _, rfl, _, rfl, N, xs, kk, rfl, hN.same (s06.trans s68), wf, lk, l16, _, _, rfl, rfl, mo, ?_⟩
        have fl : ∀ c ∈ M.map (·.2), Fct c := fun c hc => by
          obtain ⟨y, my, rfl⟩ := List.mem_map.mp hc
          exact (fM y my).1
        refine tif_mid (fun b H9 => b = !M.isEmpty ∧ Same H8 H9) (fun v H9 => v = .str ⟨(ltl (M.map (·.2))).toArray⟩ ∧ Same H8 H9) (fun R rr => ?_) (fun H9 c Qq qq => ?_) (fun H9 c Qq qq => ?_) (fun v H9 pr => ?_)
        · refine ⟨_, rfl, (by show 0 ≤ sizeLine; decide), fun e ne => ⟨D, e, _, rfl, rfl, SqL.of (same_new ne _ _ hD'), SqL.of upd_same, _, rfl, rr _ _ ⟨?_, same_new ne⟩⟩⟩
          rw [List.isEmpty_map, List.isEmpty_map, List.isEmpty_map]
        · have jt := join_texts (M.map (·.2))
          have js : (((M.map (·.2)).map fun c : Fc => ptext c.1 c.2).map (·.length)).sum ≤ M.length * 57 := by
            have := sum_le 57 ((M.map (·.2)).map fun c : Fc => ptext c.1 c.2) fun y hy => by
              obtain ⟨c, hc, rfl⟩ := List.mem_map.mp hy
              exact (fl c hc).pg.codes.2
            rw [List.length_map, List.length_map] at this
            exact this
          obtain ⟨c, s89⟩ := c
          refine ⟨⟨_, rfl⟩, _, rfl, _, D, _, rfl, rfl, .inl (SqL.of (s89 _ _ hD')), ?_, ?_⟩
          · rw [show (Str.ofString " ").length = 1 by decide +kernel, List.length_map, List.length_map, Nat.mul_one]
            omega
          · have e : Txt.join (Str.ofString " ") ((M.map (·.2)).map fun c : Fc => ptext c.1 c.2) = ⟨(ltl (M.map (·.2))).toArray⟩ := by
              refine ext_tl ?_
              rw [jt, str_tl]
              unfold ltl
              rw [if_neg (fun e => by
                have e : M = [] := List.map_eq_nil_iff.mp e
                rw [e] at c
                cases c)]
            rw [e]
            exact qq _ _ ⟨rfl, s89⟩
        · obtain ⟨c, s89⟩ := c
          have e : M = [] := by
            cases M with
            | nil => rfl
            | cons x M => cases c
          subst e
          exact qq _ _ ⟨by decide +kernel, s89⟩
        · obtain ⟨rfl, s9⟩ := pr
          have lenLot : (⟨(ltl (M.map (·.2))).toArray⟩ : Str).length ≤ 200 := by
            rw [len_tl, str_tl]
            have := ltl_len fl
            rw [List.length_map] at this
            omega
          refine ⟨_, _, rfl, rfl, ?_, ?_⟩
          · rw [mul_len, show (Str.ofString " ").length = 1 by decide +kernel, sizeLine_eq]
            omega
          have eLine : Txt.mul (Str.ofString " ") ((dp (xs.map (·.p)) kk : Nat) : Int) ++ (⟨(ltl (M.map (·.2))).toArray⟩ : Str) = linS (xs.map trO) kk := by
            refine ext_tl ?_
            rw [tl_append, tl_mul, str_tl, tl_linS, prs_tr, elo, eM, show (Str.ofString " ").1.toList = [32] by decide +kernel, flat_one]
            rfl
          rw [eLine]
          have hL9 := s9 _ _ hL8
          refine ⟨L, _, _, rfl, rfl, hL9, by rw [List.length_map, List.length_take, sizeLine_eq]; omega, _, _, _, rfl, ?_, ?_⟩
          · rw [upd_same, take_snoc hk, List.map_append]
            rfl
          · exact s5'.trans ((wo_same (s68.trans s9)).trans wo_upd)
    · obtain ⟨v2, v3, v4, rfl, hL, s5⟩ := pp
      have el : (intsV (ord (xs.map (·.p)) 0)).length = (ord (xs.map (·.p)) 0).length := List.length_map _
      rw [el, List.take_length] at hL
      have s0 : Same H H5 := fun b o e => wo_le _ _ (s5 _ _ (wo_new (u2 _ _ (u1 _ _ e)) fun z => by rw [z, nL] at e; cases e))
      exact ⟨_, rfl, k L H5 s0 nL hL⟩
end
end L2.LawH
set_option Elab.async false
set_option linter.all false
set_option maxRecDepth 100000
set_option maxHeartbeats 4000000
/-! _law_name, _law_read_pattern. -/
namespace L2.LawH
open PySem PySem.Spec PyProof.Rows L2.TxtSet TL L2.NSet PySem.W L2.Cmp
abbrev sLNm : Stmt := top 45
abbrev sLRP : Stmt := top 46
def spLNm : Sp := fun vs H Q _ => ∃ z : Str, vs = [.str z] ∧ z.length ≤ 60000 ∧ (∀ c ∈ tl z, c < 0x110000) ∧ ∀ H', Same H H' → Q (.bl (nmB (tl z))) H'
theorem sg26 : cutS (Str.ofString "abcdefghijklmnopqrstuvwxyz0123456789") none (some 26) = letS8 := by decide +kernel
section
variable {P : Program} {w : World} {K : PySem.W.Frag} {mg : Str → Option Value} {base : Heap}
abbrev nLNm : List Str := ["_law_word_here", "_law_signs", "_law_sign"]
theorem scLNm : FnScope nLNm ["_law_word_here"] (defScope sLNm) := ⟨rfl, rfl, rfl, by decide +kernel, rfl, by decide +kernel, by decide +kernel⟩
theorem ok_lnm {f : Addr} {fd : FuncData} (F : Fun K "_law_name" "_law_name" sLNm f fd) (ml : mg "len" = none) : FnOk P w K mg base CX0 1 f fd ["_law_word_here"] spLNm := by
  refine F.ok scLNm (fun vs H Q E h => ?_) (fun cdv A outer s H vs Q E hr h => ?_)
  · obtain ⟨z, rfl, _⟩ := h
    rfl
  · obtain ⟨z, rfl, hz, hcs, k⟩ := h
    have hu := hr.units
    have szl : z.length ≤ sizeLine := by rw [sizeLine_eq]; omega
    have lz : z.cps.toList.length = z.length := length_toList z
    refine ⟨_, pss_cons (ps_set (i := 1) scLNm.nd rfl (Or.inr rfl) pe_str)
      (pss_cons (ps_if (PW.pt (pw_or (pt_cmpR op_lt (pe_callB call_len_str (by rfl) ml (by decide +kernel) (pa_cons (pv 0) pa_nil)) pe_int (nomark _))
          (pw_or (pt_cmpR op_gt (pe_callB call_len_str (by rfl) ml (by decide +kernel) (pa_cons (pv 0) pa_nil)) pe_int (nomark _))
            (pw_or1 (pt_cmpR op_notin_str (pe_ix ix_str (pv 0) pe_int (fun _ _ => rfl)) (pe_slice sl_str (pv 1) po_none (po_some pe_int)) (by rfl)))))) (pss_one (ps_ret pe_bl)) pss_nil)
      (pss_one (ps_ret (pe_cmpR (op_eqD hu) (pe_lc (own := [("_law_sign", 2)]) (g := gName 2) (tt := tTest (tOp (fun x y H Q => ∃ i j, x = .str i ∧ y = .str j ∧ Q (.bl (!(!(Builtin.Str.occurrences j i 0 j.length 1).isEmpty))) H) (tVar 2) (tVar 1))) rfl scLNm.nd (pi_str (pv 0))
          (blkOk_by (own := [("_law_sign", 2)]) (N := nLNm) (sc := defScope sLNm) (by decide +kernel)) (fun _ _ _ _ _ => pg_name (i := 2) scLNm.nd rfl (Or.inl rfl)) (fun _ _ _ _ _ => pts_one (pt_cmpR op_notin_str (pv 2) (pv 1) (by rfl)))
          (fun _ _ _ _ _ => pv 2)) (pe_lst pa_nil) (by rfl))))), ?_⟩
    have big : ¬ (1 ≤ z.length ∧ z.length ≤ 12) → Q (.bl false) H := fun no => by
      have q := k H fun _ _ e => e
      have e : nmB (tl z) = false := by
        show nmB z.cps.toList = false
        cases hc : z.cps.toList with
        | nil => rfl
        | cons c r =>
          rw [hc, List.length_cons] at lz
          show (isLet c && r.all isSgn && decide (r.length ≤ 11)) = false
          rw [decide_eq_false (by omega), Bool.and_false]
      rw [e] at q
      exact q
    refine ⟨_, rfl, z, rfl, szl, _, _, rfl, rfl, _, rfl, ?_⟩
    refine ite2 (fun l1 => big fun y => by have := of_decide_eq_true l1; omega) (fun l1 => ⟨_, rfl, z, rfl, szl, _, _, rfl, rfl, _, rfl, ?_⟩)
    have l1 : 1 ≤ z.length := by
      by_cases q : (z.length : Int) < 1
      · exact absurd (decide_eq_true q) l1
      · omega
    refine ite2 (fun l2 => big fun y => by have := of_decide_eq_true l2; omega) (fun l2 => ?_)
    have l2 : z.length ≤ 12 := by
      by_cases q : (12 : Int) < (z.length : Int)
      · exact absurd (decide_eq_true q) l2
      · omega
    have k : ∀ H', Same H H' → Q (.bl (nmB z.cps.toList)) H' := k
    cases hc : z.cps.toList with
    | nil =>
      rw [hc] at lz
      have : z.length = 0 := lz.symm
      omega
    | cons c r =>
      have lr : r.length ≤ 11 := by
        rw [hc, List.length_cons] at lz
        omega
      rw [hc, nmB_eq c r lr] at k
      refine ⟨_, rfl, z, 0, c, rfl, rfl, szl, by rw [hc]; exact atI_nat (j := 0) rfl, _, rfl, 26, rfl, _, rfl, (by decide +kernel), _, _, rfl, rfl, _, rfl, ?_⟩
      rw [sg26, in_let]
      cases el : isLet c with
      | false =>
        rw [el, Bool.false_and] at k
        exact iteT (k H fun _ _ e => e)
      | true =>
        rw [el, Bool.true_and] at k
        refine iteF ⟨_, rfl, z, rfl, fun D nD => ?_⟩
        refine ⟨fun i m H5 => m = z.cps.size - i ∧ i ≤ z.cps.size ∧ Same H H5 ∧ H5 D = some (.lst ((((z.cps.toList.take i).filter fun c => !isSgn c).map one).map V.str)), ⟨_, rfl, Nat.zero_le _, same_new nD, upd_same⟩, ?_⟩
        rintro i m H5 ⟨rfl, hi, s5, h5⟩
        have sz : z.cps.size = z.cps.toList.length := by rw [Array.length_toList]
        rcases Nat.lt_or_eq_of_le hi with lt | rfl
        · refine .inr ⟨lt, fun H6 => Same H H6 ∧ H6 D = some (.lst ((((z.cps.toList.take (i + 1)).filter fun c => !isSgn c).map one).map V.str)), fun H6 p => ⟨_, by omega, rfl, lt, p.1, p.2⟩, ?_⟩
          rintro _ _ ⟨rfl, c2, hc2, rfl⟩
          have hc3 : z.cps.toList[i]? = some c2 := by rw [Array.getElem?_toList]; exact hc2
          refine ⟨rfl, _, rfl, _, rfl, _, _, rfl, rfl, _, rfl, ?_⟩
          rw [show (Str.ofString "abcdefghijklmnopqrstuvwxyz0123456789") = sgnS8 from rfl, in_sgn]
          cases es : isSgn c2 with
          | false =>
            refine iteT ⟨_, rfl, _, h5, ?_, fun b o e => ?_, ?_⟩
            · rw [List.length_map, List.length_map]
              refine Nat.lt_of_le_of_lt (List.length_filter_le _ _) ?_
              rw [List.length_take, sizeLine_eq]
              omega
            · rw [upd_ne (ne_of_none e nD)]
              exact s5 b o e
            · rw [upd_same, List.take_add_one, hc3]
              simp [es, one]
          | true =>
            refine iteF ⟨s5, ?_⟩
            rw [List.take_add_one, hc3, List.filter_append]
            simp only [Option.toList_some, List.filter_cons, es, Bool.not_true, Bool.false_eq_true, if_false, List.filter_nil, List.append_nil]
            exact h5
        · rw [sz, List.take_length] at h5
          refine .inl ⟨Nat.le_refl _, ?_⟩
          refine ⟨by show 0 ≤ sizeLine; decide, fun p np => ?_⟩
          refine ⟨_, _, .lst (SqL.of ((same_new np) _ _ h5)) (dp_strs _), .lst (SqL.of upd_same) .nil, shaped_strs fun y hy => ?_, by decide, ?_⟩
          · obtain ⟨c3, m3, rfl⟩ := List.mem_map.mp hy
            refine ok_list fun c4 m4 => ?_
            have e4 : c4 = c3 := by simpa [one] using m4
            rw [e4]
            exact hcs c3 (List.mem_filter.mp m3).1
          · rw [eqv_nil]
            have q := k (upd H5 p (.lst [])) (s5.trans (same_new np))
            have e : decide (List.map one (List.filter (fun c => !isSgn c) z.cps.toList) = []) = (c :: r).all isSgn := by
              rw [hc, Bool.eq_iff_iff, decide_eq_true_iff, List.map_eq_nil_iff, List.filter_eq_nil_iff, List.all_eq_true]
              exact ⟨fun h x m => by simpa using h x m, fun h x m => by simp [h x m]⟩
            rw [e]
            exact q
end
end L2.LawH
set_option Elab.async false
set_option linter.all false
set_option maxRecDepth 100000
set_option maxHeartbeats 4000000
/-! _law_read_pattern. -/
namespace L2.LawH
open PySem PySem.Spec PyProof.Rows L2.TxtSet TL L2.NSet PySem.W L2.Cmp
def spLRP : Sp := fun vs H Q _ => ∃ z : Str, vs = [.str z] ∧ z.length ≤ 50000 ∧ (∀ c ∈ tl z, c < 0x110000) ∧ (rdOk z = none → ∀ H', Same H H' → Q .non H') ∧
  (∀ c, rdOk z = some c → ∀ (p : Addr) (H' : Hp), Same H H' → H p = none → H' p = some (.tup (.str c.1 :: c.2.map V.str)) → Q (.ref p) H')
theorem atI_last {l : List Nat} {c : Nat} (h : l.getLast? = some c) : atI l (-1) = some c := by
  have hl : l ≠ [] := fun e => by
    rw [e] at h
    cases h
  have pos : 0 < l.length := List.length_pos_iff.mpr hl
  rw [List.getLast?_eq_getElem?] at h
  unfold atI ixN
  rw [if_neg (by decide), if_pos (by omega)]
  show l[((-1 : Int) + (l.length : Int)).toNat]? = some c
  rw [show ((-1 : Int) + (l.length : Int)).toNat = l.length - 1 by omega]
  exact h
/-- a term's law, as the law asks it -/
def tmB (t : Str) : Bool := if isV t then nmB ((tl t).drop 1) else nmB (tl t)
theorem tmB_eq (t : Str) : tmB t = (vN (.str t) || vV (.str t)) := by
  unfold tmB
  show _ = (nmB (tl t) || varB t)
  unfold varB
  cases h : isV t with
  | true =>
    rw [if_pos rfl, show nmB (tl t) = false from nmB_var h]
    rfl
  | false => simp
theorem rd_of {z : Str} {a b : List Nat} (h : par [40] [] (tl z) = some (a, b)) : rdOk z = if b.getLast? = some 41 then (if patB (.str ⟨a.toArray⟩ :: (terms ⟨b.dropLast.toArray⟩).map V.str) = true then some (⟨a.toArray⟩, terms ⟨b.dropLast.toArray⟩) else none) else none := by
  unfold rdOk cutP
  rw [h]
  dsimp only
  by_cases e : b.getLast? = some 41
  · rw [if_pos e, if_pos e]
  · rw [if_neg e, if_neg e]
theorem patB_eq (a : Str) (ts : List Str) : patB (.str a :: ts.map V.str) = (decide (ts.length ≤ 3) && nmB (tl a) && ts.all tmB) := by
  show (decide ((ts.map V.str).length ≤ 3) && vN (.str a) && (ts.map V.str).all fun y => vN y || vV y) = _
  rw [List.length_map, List.all_map]
  congr 1
  refine List.all_congr rfl fun t => (tmB_eq t).symm
section
variable {P : Program} {w : World} {K : PySem.W.Frag} {mg : Str → Option Value} {base : Heap}
abbrev nLRP : List Str := ["_law_word_here", "_law_at", "_law_terms", "_law_term"]
theorem scLRP : FnScope nLRP ["_law_word_here"] (defScope sLRP) := ⟨rfl, rfl, rfl, by decide +kernel, rfl, by decide +kernel, by decide +kernel⟩
theorem ok_lrp {f fN : Addr} {fd fdN : FuncData} (F : Fun K "_law_read_pattern" "_law_read_pattern" sLRP f fd)
    (GN : FnOk P w K mg base CX0 1 fN fdN ["_law_word_here"] spLNm) (kN : PySem.W.keepIn K (.ref fN) = true) (bN : Binds K fdN ["_law_word_here"] []) (mN : mg "_law_name" = some (.ref fN))
    (mt : mg "tuple" = none) (ml : mg "len" = none) : FnOk P w K mg base CX0 2 f fd ["_law_word_here"] spLRP := by
  refine F.ok scLRP (fun vs H Q E h => ?_) (fun cdv A outer s H vs Q E hr h => ?_)
  · obtain ⟨z, rfl, _⟩ := h
    rfl
  · obtain ⟨z, rfl, lz, cz, kN', kS⟩ := h
    have hu := hr.units
    have szl : z.length ≤ sizeLine := by rw [sizeLine_eq]; omega
    refine ⟨_, pss_cons (ps_set (i := 1) scLRP.nd rfl (Or.inl rfl) (pe_m1 PySem.F.slot_str_find PySem.F.type_str_find mt_find (pv 0) pe_str))
      (pss_cons (ps_if (PW.pt (pw_or (pt_cmpR op_lt (pv 1) pe_int (nomark _)) (pw_or (pt_cmpR op_ne (pe_ix ix_str (pv 0) (pe_un un_neg pe_int) (fun _ _ => rfl)) pe_str (nomark _))
          (pw_or1 (pt_not (pt_val (pe_call GN hr (by rfl) mN kN bN .nil pass0 (pa_cons (pe_slice sl_str (pv 0) po_none (po_some (pv 1))) pa_nil)))))))) (pss_one (ps_ret pe_non)) pss_nil)
      (pss_cons (ps_set (i := 2) scLRP.nd rfl (Or.inl rfl) (pe_ifExp (pt_cmpR op_ne (pe_slice sl_str (pv 0) (po_some (pe_op op_add (pv 1) pe_int)) po_none) pe_str (nomark _))
          (pe_split (pe_slice sl_str (pv 0) (po_some (pe_op op_add (pv 1) pe_int)) (po_some (pe_un un_neg pe_int))) pe_str) (pe_lst pa_nil)))
      (pss_cons (ps_if (PW.pt (pw_or (pt_cmpR op_gt (pe_callB call_len_seq (by rfl) ml (by decide +kernel) (pa_cons (pv 2) pa_nil)) pe_int (nomark _))
          (pw_or1 (pt_cmpR (op_neNilC (K := K) rfl hu) (pe_lc (own := [("_law_term", 3)]) (g := gName 3) (tt := tNot (tB (tCall spLNm [] E0 (tCons (tIf (tTest (tOp rEq (tSl rSlS (tVar 3) tNoPart (tPart (tC (.int 1)))) (tC (.str (Str.ofString "?"))))) (tSl rSlS (tVar 3) (tPart (tC (.int 1))) tNoPart) (tVar 3)) tNil)))) rfl scLRP.nd (pi_list (pv 2))
              (blkOk_by (own := [("_law_term", 3)]) (N := nLRP) (sc := defScope sLRP) (by decide +kernel)) (fun _ _ _ _ _ => pg_name (i := 3) scLRP.nd rfl (Or.inl rfl))
              (fun _ _ _ _ _ => pts_one (pt_not (pt_val (pe_call GN hr (by rfl) mN kN bN .nil pass0 (pa_cons (pe_ifExp (pt_cmpR op_eq (pe_slice sl_str (pv 3) po_none (po_some pe_int)) pe_str (nomark _)) (pe_slice sl_str (pv 3) (po_some pe_int) po_none) (pv 3)) pa_nil)))))
              (fun _ _ _ _ _ => pv 3)) (pe_lst pa_nil) (nomark _))))) (pss_one (ps_ret pe_non)) pss_nil)
      (pss_one (ps_ret (pe_op op_catB (pe_tup (pa_cons (pe_slice sl_str (pv 0) po_none (po_some (pv 1))) pa_nil)) (pe_callTy call_tuple_of (by rfl) mt (by decide +kernel) (pa_cons (pv 2) pa_nil)))))))), ?_⟩
    refine ⟨_, rfl, ⟨_, rfl⟩, z, _, rfl, rfl, ?_⟩
    have ef : Txt.find z (Str.ofString "(") = match par [40] [] (tl z) with | none => -1 | some (a, _) => (a.length : Int) := find_eq z
    rw [ef]
    cases hp : par [40] [] (tl z) with
    | none =>
      have hn : rdOk z = none := by
        unfold rdOk cutP
        rw [hp]
      exact ⟨_, rfl, _, _, rfl, rfl, _, rfl, iteT (kN' hn H (Same.refl _))⟩
    | some ab =>
      obtain ⟨a, b⟩ := ab
      obtain ⟨m, e1, e2, n40⟩ := par_eq 40 _ _ _ _ hp
      rw [List.nil_append] at e1
      subst e1
      have rd := rd_of hp
      dsimp only
      refine ⟨_, rfl, _, _, rfl, rfl, _, rfl, ?_⟩
      by_cases a1 : (a.length : Int) < 1
      · rw [decide_eq_true a1]
        refine iteT (kN' ?_ H (Same.refl _))
        have ea : a = [] := List.length_eq_zero_iff.mp (by omega)
        rw [rd]
        by_cases hl : b.getLast? = some 41
        · rw [if_pos hl, patB_eq, str_tl, ea]
          rw [show nmB [] = false from rfl, Bool.and_false, Bool.false_and]
          rfl
        · rw [if_neg hl]
      rw [decide_eq_false a1]
      refine iteF ?_
      have hlast : ∃ c, (tl z).getLast? = some c ∧ (c = 41 ↔ b.getLast? = some 41) := by
        rw [e2]
        rcases last_cases b with rfl | ⟨m2, c2, rfl⟩
        · exact ⟨40, by simp, by simp⟩
        · exact ⟨c2, by rw [show a ++ 40 :: (m2 ++ [c2]) = (a ++ 40 :: m2) ++ [c2] by simp]; exact List.getLast?_concat, by simp⟩
      obtain ⟨c, hc, hc41⟩ := hlast
      have cc : decide (V.str (⟨#[c]⟩ : Str) = V.str (Str.ofString ")")) = decide (b.getLast? = some 41) := by
        refine decide_eq_decide.mpr ⟨fun e => hc41.mp ?_, fun e => ?_⟩
        · have := congrArg tl (V.str.inj e)
          rw [show tl (Str.ofString ")") = [41] by decide +kernel] at this
          have : [c] = [41] := this
          exact List.head_eq_of_cons_eq this
        · rw [hc41.mpr e]
          refine congrArg V.str (ext_tl ?_)
          rw [show tl (Str.ofString ")") = [41] by decide +kernel]
      refine ⟨_, rfl, _, rfl, z, -1, c, rfl, rfl, szl, atI_last hc, rfl, _, rfl, ?_⟩
      rw [cc]
      by_cases hl : b.getLast? = some 41
      case neg =>
        rw [decide_eq_false hl]
        refine iteT (kN' ?_ H (Same.refl _))
        rw [rd, if_neg hl]
      rw [decide_eq_true hl]
      rw [if_pos hl, patB_eq, str_tl] at rd
      have ea : cutS z none (some (a.length : Int)) = ⟨a.toArray⟩ := by
        refine ext_tl ?_
        rw [cut_to, e2, str_tl]
        exact List.take_left
      have ei : cutS z (some ((a.length : Int) + 1)) (some (-(1 : Int))) = ⟨b.dropLast.toArray⟩ := ext_tl (by rw [show (-(1 : Int)) = -1 from rfl, cut_in e2, str_tl])
      have eb : tl (cutS z (some ((a.length : Int) + 1)) none) = b := by
        have := cut_from z (a.length + 1)
        rw [show ((a.length + 1 : Nat) : Int) = (a.length : Int) + 1 by omega] at this
        rw [this, e2]
        rw [show a ++ 40 :: b = (a ++ [40]) ++ b by simp]
        exact List.drop_left' (by simp)
      have la : a.length ≤ 50000 ∧ b.length ≤ 50000 := by
        have := congrArg List.length e2
        rw [List.length_append, List.length_cons, ← len_tl] at this
        omega
      have ca : ∀ c ∈ a, c < 0x110000 := fun c m => cz c (by rw [e2]; exact List.mem_append_left _ m)
      have cb : ∀ c ∈ b, c < 0x110000 := fun c m => cz c (by rw [e2]; exact List.mem_append_right _ (List.mem_cons_of_mem _ m))
      refine iteF ⟨_, rfl, _, rfl, _, rfl, z, rfl, szl, ?_⟩
      dsimp only
      rw [ea]
      refine ⟨_, rfl, by rw [len_tl, str_tl]; omega, by rw [str_tl]; exact ca, fun H1 s1 => ⟨_, rfl, ?_⟩⟩
      rw [str_tl]
      cases hA : nmB a with
      | false =>
        refine iteT (kN' ?_ H1 s1)
        rw [rd, hA, Bool.and_false, Bool.false_and]
        rfl
      | true =>
        rw [hA, Bool.and_true] at rd
        refine iteF ?_
        generalize hI : (⟨b.dropLast.toArray⟩ : Str) = i at rd ei
        have ti : tl i = b.dropLast := by rw [← hI, str_tl]
        refine ⟨_, rfl, _, rfl, _, _, rfl, rfl, _, rfl, z, rfl, szl, rfl, _, rfl, ?_⟩
        have cb2 : decide (V.str (cutS z (some ((a.length : Int) + 1)) none) = V.str (Str.ofString ")")) = decide (b = [41]) := by
          refine decide_eq_decide.mpr ⟨fun e => ?_, fun e => ?_⟩
          · have := congrArg tl (V.str.inj e)
            rw [eb, show tl (Str.ofString ")") = [41] by decide +kernel] at this
            exact this
          · refine congrArg V.str (ext_tl ?_)
            rw [eb, e]
            decide +kernel
        dsimp only
        rw [cb2]
        have bb : b = b.dropLast ++ [41] := by
          rcases last_cases b with rfl | ⟨m2, c2, rfl⟩
          · cases hl
          · have : c2 = 41 := by simpa using hl
            rw [this]
            simp
        have li : i.length ≤ 50000 := by
          rw [len_tl, ti, List.length_dropLast]
          omega
        refine ite2 (fun h0 => ⟨_, rfl, _, rfl, _, _, rfl, rfl, _, rfl, _, rfl, _, rfl, z, rfl, szl, ⟨_, rfl⟩, i, _, ?ei, rfl, by decide +kernel, by rw [sizeLine_eq]; omega, fun l nl => ?wa⟩) (fun h0 => ⟨by show 0 ≤ sizeLine; decide, fun l nl => ?wb⟩)
        case ei => exact congrArg V.str ei
        case' wa =>
          have hne : i.length ≠ 0 := fun e => by
            have h0 : ¬ b = [41] := by simpa using h0
            refine h0 ?_
            rw [len_tl, ti] at e
            rw [bb, List.length_eq_zero_iff.mp e]
            rfl
          have es : Txt.split i (Str.ofString ",") = terms i := (if_neg hne).symm
          rw [es]
          have u2 : Same H1 (upd H1 l (.lst ((terms i).map V.str))) := same_new nl
          have c2 : (upd H1 l (.lst ((terms i).map V.str))) l = some (.lst ((terms i).map V.str)) := upd_same
          generalize upd H1 l (.lst ((terms i).map V.str)) = H2 at u2 c2 ⊢
        case' wb =>
          have h0 : b = [41] := by simpa using h0
          have hz : terms i = [] := if_pos (by rw [len_tl, ti, h0]; rfl)
          have e0 : (HO.lst []) = HO.lst ((terms i).map V.str) := by rw [hz]; rfl
          rw [e0]
          have u2 : Same H1 (upd H1 l (.lst ((terms i).map V.str))) := same_new nl
          have c2 : (upd H1 l (.lst ((terms i).map V.str))) l = some (.lst ((terms i).map V.str)) := upd_same
          generalize upd H1 l (.lst ((terms i).map V.str)) = H2 at u2 c2 ⊢
        all_goals
          have s2 := s1.trans u2
          have lt := terms_le i
          refine ⟨_, rfl, l, _, rfl, .inl (SqL.of c2), _, _, rfl, rfl, _, rfl, ?_⟩
          rw [List.length_map]
          refine ite2 (fun h3 => kN' ?_ H2 s2) (fun h3 => ?_)
          · have h3 := of_decide_eq_true h3
            rw [rd, decide_eq_false (by omega), Bool.false_and]
            rfl
          have l3 : (terms i).length ≤ 3 := by
            by_cases q : (3 : Int) < ((terms i).length : Int)
            · exact absurd (decide_eq_true q) h3
            · omega
          rw [decide_eq_true l3, Bool.true_and] at rd
          refine ⟨_, rfl, l, rfl, ⟨_, SqL.of c2⟩, fun D nD => ?_⟩
          refine lc_sift (ms := terms i) (val := V.str) (L2.walk_list (K := K)) (List.length_map _) (fun t => !tmB t) V.str nD (by omega) (fun H' s' => SqL.of (s' _ _ c2)) (fun t ht H5 Yes No s5 yes no => ?_) (fun H' s' hL => ?_)
          · refine ⟨rfl, ?_⟩
            have lt1 := term_le ht
            have ct : ∀ c ∈ tl t, c < 0x110000 := fun c hc => cb c ((List.dropLast_sublist b).subset (by rw [← ti]; exact term_mem ht hc))
            have szt : t.length ≤ sizeLine := by rw [sizeLine_eq]; omega
            have ot : tmB t = if isV t then nmB ((tl t).drop 1) else nmB (tl t) := rfl
            refine ⟨_, rfl, 1, rfl, t, rfl, szt, rfl, _, rfl, ?_⟩
            rw [show decide (V.str (cutS t none (some 1)) = V.str (Str.ofString "?")) = isV t by rw [← first_sign]; exact decide_eq_decide.mpr ⟨fun e => V.str.inj e, fun e => congrArg V.str e⟩]
            cases hv : isV t with
            | true =>
              rw [hv, if_pos rfl] at ot
              refine iteT ⟨_, rfl, 1, rfl, t, rfl, szt, _, rfl, Nat.le_trans (cutS_length t (some 1) none) (by omega), ?_, fun H6 s6 => ⟨_, rfl, ?_⟩⟩
              · intro c hc
                have e := cut_tail t
                exact ct c (List.mem_of_mem_drop (by rw [← e]; exact hc))
              · rw [show tl (cutS t (some 1) none) = (tl t).drop 1 from cut_tail t, ← ot]
                cases ho : tmB t with
                | false => exact iteT ⟨_, rfl, yes H6 s6 (by rw [ho]; rfl)⟩
                | true => exact iteF (no H6 s6 (by rw [ho]; rfl))
            | false =>
              rw [hv, if_neg Bool.false_ne_true] at ot
              refine iteF ⟨_, rfl, t, rfl, by omega, ct, fun H6 s6 => ⟨_, rfl, ?_⟩⟩
              rw [← ot]
              cases ho : tmB t with
              | false => exact iteT ⟨_, rfl, yes H6 s6 (by rw [ho]; rfl)⟩
              | true => exact iteF (no H6 s6 (by rw [ho]; rfl))
          · refine ⟨by show 0 ≤ sizeLine; decide, fun p np => ?_⟩
            have u6 : Same H' (upd H' p (.lst [])) := same_new np
            have c6 : (upd H' p (.lst [])) p = some (.lst []) := upd_same
            generalize upd H' p (.lst []) = H6 at u6 c6 ⊢
            refine ⟨D, p, _, rfl, rfl, SqL.of (u6 _ _ hL), SqL.of c6, _, rfl, ?_⟩
            have s6 := (s2.trans s').trans u6
            cases hall : (terms i).all tmB with
            | false =>
              have e : (!(((terms i).filter fun t => !tmB t).map V.str).isEmpty) = true := by
                rw [List.all_eq_false] at hall
                obtain ⟨t, mt, nt⟩ := hall
                have : t ∈ (terms i).filter fun t => !tmB t := List.mem_filter.mpr ⟨mt, by simp [nt]⟩
                cases hf : (terms i).filter fun t => !tmB t with
                | nil => rw [hf] at this; cases this
                | cons _ _ => rfl
              rw [e]
              refine iteT (kN' ?_ H6 s6)
              rw [rd, hall]
              rfl
            | true =>
              have e : (!(((terms i).filter fun t => !tmB t).map V.str).isEmpty) = false := by
                rw [List.filter_eq_nil_iff.mpr fun t ht => by
                  have := List.all_eq_true.mp hall t ht
                  simp [this]]
                rfl
              rw [e]
              refine iteF ?_
              rw [hall] at rd
              refine ⟨_, rfl, _, rfl, _, rfl, z, rfl, szl, (by show 1 ≤ sizeLine; decide), fun p1 np1 => ?_⟩
              dsimp only
              rw [ea]
              have u7 : Same H6 (upd H6 p1 (.tup [.str ⟨a.toArray⟩])) := same_new np1
              have c7 : (upd H6 p1 (.tup [.str ⟨a.toArray⟩])) p1 = some (.tup [.str ⟨a.toArray⟩]) := upd_same
              generalize upd H6 p1 (.tup [.str ⟨a.toArray⟩]) = H7 at u7 c7 ⊢
              have c2' := u7 _ _ (u6 _ _ (s' _ _ c2))
              refine ⟨_, rfl, l, _, rfl, .inl ⟨SqL.of c2', fun p2 np2 => ?_⟩⟩
              have u8 : Same H7 (upd H7 p2 (.tup ((terms i).map V.str))) := same_new np2
              have c8 : (upd H7 p2 (.tup ((terms i).map V.str))) p2 = some (.tup ((terms i).map V.str)) := upd_same
              generalize upd H7 p2 (.tup ((terms i).map V.str)) = H8 at u8 c8 ⊢
              refine ⟨p1, p2, _, _, rfl, rfl, u8 _ _ c7, c8, ?_, fun p3 H9 s9 c9 n3 => ?_⟩
              · rw [List.length_map, sizeLine_eq]
                show 1 + _ ≤ _
                omega
              · have s8 := (s6.trans u7).trans u8
                refine kS (⟨a.toArray⟩, terms i) rd p3 H9 (s8.trans s9) ?_ c9
                rcases n3 with rfl | rfl | n3
                · exact none_of s6 np1
                · exact none_of (s6.trans u7) np2
                · exact none_of s8 n3
end
end L2.LawH
set_option Elab.async false
set_option linter.all false
set_option maxRecDepth 100000
set_option maxHeartbeats 4000000
/-! What _law_parsed asks of lines. -/
namespace L2.LawH
open PySem PySem.Spec PyProof.Rows L2.TxtSet TL L2.NSet PySem.W L2.Cmp
theorem tst_app {s s' : Tst} {l : List Nat} (e : tst s l = some s') : ∃ p, s'.1 = s.1 ++ [(p, lotO (bd l))] := by
  unfold tst at e
  by_cases c : (s.2.length < ld l ∨ (s.1 ≠ [] ∧ ld l = 0))
  · rw [if_pos c] at e
    cases e
  · rw [if_neg c] at e
    rw [← Option.some.inj e]
    exact ⟨_, rfl⟩
theorem tld_more : ∀ {ls : List (List Nat)} {s s' : Tst}, tld s ls = some s' → ∃ t, s'.1 = s.1 ++ t
  | [], s, s', e => by
    rw [tld] at e
    rw [← Option.some.inj e]
    exact ⟨[], by simp⟩
  | l :: ls, s, s', e => by
    rw [tld] at e
    cases h : tst s l with
    | none =>
      rw [h] at e
      cases e
    | some s2 =>
      rw [h] at e
      obtain ⟨p, e1⟩ := tst_app h
      obtain ⟨t, e2⟩ := tld_more (ls := ls) (s := s2) (s' := s') e
      exact ⟨(p, lotO (bd l)) :: t, by rw [e2, e1]; simp⟩
abbrev smO (τ : List Nd) : List NdO := τ.map fun x => ((x.1, x.2.map some) : NdO)
theorem good_lot {τ : List Nd} (g : Good (prs τ) (lo τ)) {i : Nat} (h0 : 0 < i) (hi : i < τ.length) : lo τ i ≠ [] := fun e => by
  have := g.new i h0 (by rw [List.length_map]; exact hi)
  refine this ?_
  unfold nw
  rw [e]
  cases pa (prs τ) i with
  | none => rfl
  | some p => rfl
theorem rd_at {ls : List (List Nat)} {τ : List Nd} {i : Nat} {l : List Nat} {s : Tst} (r : RdOk ls τ) (hl : ls[i]? = some l) (hs : tld ([], []) (ls.take i) = some s) : ∃ (cs : List Fc) (s2 : Tst), tst s l = some s2 ∧ lotO (bd l) = cs.map some ∧ Asc cs ∧ (0 < i → cs ≠ []) := by
  obtain ⟨⟨ab, e⟩, g, as⟩ := r
  have il := (List.getElem?_eq_some_iff.mp hl).1
  have sp : ls = ls.take i ++ l :: ls.drop (i + 1) := by
    have := (List.take_append_drop i ls).symm
    rw [List.drop_eq_getElem_cons il] at this
    rw [(List.getElem?_eq_some_iff.mp hl).2] at this
    exact this
  have ti := told_of hs
  have ls1 : s.1.length = i := by
    rw [ti.len, List.length_take]
    omega
  have e2 : tld s (l :: ls.drop (i + 1)) = some (smO τ, ab) := by
    rw [sp, tld_app, hs] at e
    exact e
  rw [tld] at e2
  cases h : tst s l with
  | none =>
    rw [h] at e2
    cases e2
  | some s2 =>
    rw [h] at e2
    obtain ⟨p, e3⟩ := tst_app h
    obtain ⟨t, e4⟩ := tld_more (s := s2) e2
    have e5 : smO τ = s.1 ++ ((p, lotO (bd l)) :: t) := by
      rw [show smO τ = s2.1 ++ t from e4, e3]
      simp
    have e6 : (smO τ)[i]? = some (p, lotO (bd l)) := by
      rw [e5, List.getElem?_append_right (by omega), ls1, Nat.sub_self]
      rfl
    rw [List.getElem?_map] at e6
    obtain ⟨x, hx, ex⟩ := Option.map_eq_some_iff.mp e6
    have e7 : lotO (bd l) = x.2.map some := (congrArg Prod.snd ex).symm
    have mx := List.mem_of_getElem? hx
    refine ⟨x.2, s2, rfl, e7, as x mx, fun h0 => ?_⟩
    have := good_lot g h0 (List.getElem?_eq_some_iff.mp hx).1
    rwa [lo_at hx] at this
theorem wds_dash (r : List Nat) : decide (wds r = [Str.ofString "-"]) = decide (r = [45]) := by
  by_cases h : r = [45]
  · rw [h]
    decide +kernel
  · rw [decide_eq_false h]
    refine decide_eq_false fun e => h ?_
    have e1 : (spl [32] 0 [] r).map (fun x => (⟨x.toArray⟩ : Str)) = [Str.ofString "-"] := e
    have e2 := congrArg (List.map tl) e1
    rw [List.map_map] at e2
    have e3 : (spl [32] 0 [] r).map (tl ∘ fun x => (⟨x.toArray⟩ : Str)) = spl [32] 0 [] r := by
      have : ∀ L : List (List Nat), L.map (tl ∘ fun x => (⟨x.toArray⟩ : Str)) = L := fun L => by
        have : (tl ∘ fun x : List Nat => (⟨x.toArray⟩ : Str)) = id := by
          funext x
          exact str_tl x
        rw [this, List.map_id]
      exact this _
    rw [e3] at e2
    have e4 := join_spl 32 r []
    rw [List.nil_append, e2] at e4
    rw [← e4]
    decide +kernel
/-- the tops of a variable -/
def topsL (τ : List Nd) (z : Str) : List Nat := (List.range τ.length).filter fun j => decide (z ∈ nw (prs τ) (lo τ) j)
theorem two_len {l : List Nat} {i j : Nat} (hi : i ∈ l) (hj : j ∈ l) (ne : i ≠ j) : 1 < l.length := by
  match l, hi, hj with
  | [x], hi, hj =>
    rw [List.mem_singleton.mp hi, List.mem_singleton.mp hj] at ne
    exact absurd rfl ne
  | x :: y :: r, _, _ =>
    rw [List.length_cons, List.length_cons]
    omega
theorem nodup_two {l : List Nat} (nd : l.Nodup) (h : 1 < l.length) : ∃ i ∈ l, ∃ j ∈ l, i ≠ j := by
  match l, nd, h with
  | x :: y :: r, nd, _ => exact ⟨x, List.mem_cons_self, y, by simp, by
      have := (List.nodup_cons.mp nd).1
      intro e
      exact this (by rw [e]; exact List.mem_cons_self)⟩
theorem tops_good {τ : List Nd} (g : Good (prs τ) (lo τ)) (z : Str) : (topsL τ z).length ≤ 1 := by
  by_cases h : 1 < (topsL τ z).length
  · exfalso
    obtain ⟨i, hi, j, hj, ne⟩ := nodup_two (List.nodup_range.filter _) h
    obtain ⟨i1, i2⟩ := List.mem_filter.mp hi
    obtain ⟨j1, j2⟩ := List.mem_filter.mp hj
    exact g.one i j ne (by rw [List.length_map]; exact List.mem_range.mp i1) (by rw [List.length_map]; exact List.mem_range.mp j1) z (of_decide_eq_true i2) (of_decide_eq_true j2)
  · omega
theorem good_tops {τ : List Nd} (hn : ∀ k, 0 < k → k < τ.length → nw (prs τ) (lo τ) k ≠ []) (ht : ∀ k, k < τ.length → ∀ z ∈ nms (lo τ k), (topsL τ z).length ≤ 1) : Good (prs τ) (lo τ) := by
  have lp : (prs τ).length = τ.length := List.length_map _
  refine ⟨fun i j ne hi hj z zi zj => ?_, fun i h0 hi => hn i h0 (by omega)⟩
  have h := ht i (by omega) z (nw_sub zi)
  have : 1 < (topsL τ z).length := two_len (List.mem_filter.mpr ⟨List.mem_range.mpr (by omega), decide_eq_true zi⟩) (List.mem_filter.mpr ⟨List.mem_range.mpr (by omega), decide_eq_true zj⟩) ne
  omega
theorem roots_one {ps : List (Option Nat)} (w : Wf ps) (h : 0 < ps.length) : (List.range ps.length).filter (fun j => decide (pa ps j = none)) = [0] := by
  cases e : ps.length with
  | zero => omega
  | succ n =>
    rw [List.range_succ_eq_map, List.filter_cons, if_pos (decide_eq_true w.rt)]
    congr 1
    refine List.filter_eq_nil_iff.mpr fun x hx => ?_
    obtain ⟨j, hj, rfl⟩ := List.mem_map.mp hx
    obtain ⟨p, hp, _⟩ := w.up (j + 1) (Nat.succ_pos _) (by have := List.mem_range.mp hj; omega)
    rw [hp]
    simp
end L2.LawH
set_option Elab.async false
set_option linter.all false
set_option maxRecDepth 100000
set_option maxHeartbeats 4000000
/-! _law_parsed. -/
namespace L2.LawH
open PySem PySem.Spec PyProof.Rows L2.TxtSet TL L2.NSet PySem.W L2.Cmp L2.Rws L2.ZipL L2.ExcN L2.ClsCall
abbrev sLPar : Stmt := top 47
abbrev strsV (ls : List (List Nat)) : List V := (ls.map fun l => (⟨l.toArray⟩ : Str)).map V.str
def spLPar : Sp := fun vs H Q _ => ∃ (L : Addr) (ls : List (List Nat)), vs = [.ref L] ∧ H L = some (.lst (strsV ls)) ∧ LnsOk ls ∧
  ((∀ τ, ¬ RdOk ls τ) → ∀ H', Same H H' → Q .non H') ∧
  (∀ τ, RdOk ls τ → ∀ (H' : Hp) (N : Addr) (xs : List Nl), Same H H' → H N = none → NlsAt H' N xs → xs.map Nl.nd = τ → Q (.ref N) H')
theorem op_inK {X : Cx} {K : PySem.W.Frag} (e : X.K = K) : OpR X (compareOp .In) (rIn K false) := by
  subst e
  exact op_in_seq
theorem atI_end {α : Type} {l : List α} {c : α} (h : l.getLast? = some c) : atI l (-1) = some c := by
  have hl : l ≠ [] := fun e => by
    rw [e] at h
    cases h
  have pos : 0 < l.length := List.length_pos_iff.mpr hl
  rw [List.getLast?_eq_getElem?] at h
  unfold atI ixN
  rw [if_neg (by decide), if_pos (by omega)]
  show l[((-1 : Int) + (l.length : Int)).toNat]? = some c
  rw [show ((-1 : Int) + (l.length : Int)).toNat = l.length - 1 by omega]
  exact h
theorem drop_ld (l : List Nat) : l.drop (ld l) = bd l := by
  have h := lin_of l
  have : (List.replicate (ld l) 32 ++ bd l).drop (ld l) = bd l := List.drop_left' (List.length_replicate ..)
  rw [← h] at this
  exact this
/-- if c: return .. -/
theorem ifs_ret {c : TT} {t : TS} {D : Ends} {σ : St} {H : Hp} (Pc : Bool → Hp → Prop) (hc : ∀ R : Bool → Hp → Prop, (∀ b H', Pc b H' → R b H') → c σ H R) (ht : ∀ H', Pc true H' → t D σ H') (hf : ∀ H', Pc false H' → D.nx σ H') : tIfS c t tNext D σ H := by
  refine hc _ fun b H' pc => ?_
  cases b with
  | true => exact iteT (ht H' pc)
  | false => exact iteF (hf H' pc)
theorem walk_rangeY {n : Nat} : L2.Walk (Itr 0 n) n (fun _ => True) (YAt ((List.range n).map fun j => V.int (j : Nat))) :=
  ⟨fun _ _ hi _ => hi, fun _ _ => Nat.le_refl _, fun i H x H' hi _ y => ⟨y.1, by rw [List.getElem?_map, List.getElem?_range hi, y.2]; simp⟩⟩
theorem dash_no : rdOk (Str.ofString "-") = none := by decide +kernel
theorem wds_no : (wds [45]).map rdOk = [none] := by decide +kernel
section
variable {P : Program} {w : World} {K : PySem.W.Frag} {mg : Str → Option Value} {base : Heap}
abbrev nLPar : List Str := ["_law_lines_here", "_law_nodes", "_law_path", "_law_line", "_law_depth_here", "_law_words_here", "_law_lot", "_law_word_here", "_law_pattern_here", "_law_owned", "_law_row", "_law_k", "_law_tops", "_law_j", "_law_name_here"]
theorem scLPar : FnScope nLPar ["_law_lines_here"] (defScope sLPar) := ⟨rfl, rfl, rfl, by decide +kernel, rfl, by decide +kernel, by decide +kernel⟩
theorem ok_lpar {f fR fV : Addr} {fd fdR fdV : FuncData} (F : Fun K "_law_parsed" "_law_parsed" sLPar f fd)
    (GR : FnOk P w K mg base CX0 2 fR fdR ["_law_word_here"] spLRP) (kR : PySem.W.keepIn K (.ref fR) = true) (bR : Binds K fdR ["_law_word_here"] []) (mR : mg "_law_read_pattern" = some (.ref fR))
    (GV : FnOk P w K mg base CX0 1 fV fdV ["_law_lot"] spLVar) (kV : PySem.W.keepIn K (.ref fV) = true) (bV : Binds K fdV ["_law_lot"] []) (mV : mg "_law_variables" = some (.ref fV))
    (ms : mg "sorted" = none) (mS : mg "set" = none) (ml : mg "len" = none) (mr : mg "range" = none) : FnOk P w K mg base CX0 3 f fd ["_law_lines_here"] spLPar := by
  refine F.ok scLPar (fun vs H Q E h => ?_) (fun cdv A outer s H vs Q E hr h => ?_)
  · obtain ⟨_, _, rfl, _⟩ := h
    rfl
  · obtain ⟨L, ls, rfl, hL, lok, kN, kS⟩ := h
    have hu := hr.units
    have hu1 := un65 hr
    have hr1 : Room 1 _ := hr.mono (by decide)
    refine ⟨_, pss_cons (ps_set (i := 1) scLPar.nd rfl (Or.inr rfl) (pe_lst pa_nil))
      (pss_cons (ps_set (i := 2) scLPar.nd rfl (Or.inl rfl) (pe_lst pa_nil))
      (pss_cons (ps_for PassesOwn.never rfl (pi_list (pv 0)) (pg_name (i := 3) scLPar.nd rfl (Or.inl rfl))
        (pss_cons (ps_set (i := 4) scLPar.nd rfl (Or.inl rfl) (pe_op op_sub (pe_callB call_len_str (by rfl) ml (by decide +kernel) (pa_cons (pv 3) pa_nil)) (pe_callB call_len_str (by rfl) ml (by decide +kernel) (pa_cons (pe_bm PySem.F.plainAttrs_str PySem.F.slot_str_lstrip PySem.F.type_str_lstrip mt_lstripChars (pv 3) (pa_cons pe_str pa_nil)) pa_nil))))
        (pss_cons (ps_set (i := 5) scLPar.nd rfl (Or.inl rfl) (pe_split (pe_slice sl_str (pv 3) (po_some (pv 4)) po_none) pe_str))
        (pss_cons (ps_if (PW.pt (pw_or (pt_cmpR op_ne (pe_cmpR op_eq (pv 4) pe_int (nomark _)) (pe_cmpR (op_eqD hu) (pv 1) (pe_lst pa_nil) (nomark _)) (nomark _)) (pw_or1 (pt_cmpR op_gt (pv 4) (pe_callB (call_len_seqK (K := K) rfl) (by rfl) ml (by decide +kernel) (pa_cons (pv 2) pa_nil)) (nomark _)))))
            (pss_one (ps_ret pe_non)) pss_nil)
        (pss_cons (ps_set (i := 6) scLPar.nd rfl (Or.inl rfl) (pe_ifExp (PW.pt (pw_and (pt_cmpR (op_eqD hu) (pv 1) (pe_lst pa_nil) (nomark _)) (pw_and1 (pt_cmpR (op_eqD hu) (pv 5) (pe_lst (pa_cons pe_str pa_nil)) (nomark _))))) (pe_lst pa_nil)
            (pe_lc (own := [("_law_word_here", 7)]) (g := gName 7) (tt := tYes) rfl scLPar.nd (pi_list (pv 5))
              (blkOk_by (own := [("_law_word_here", 7)]) (N := nLPar) (sc := defScope sLPar) (by decide +kernel)) (fun _ _ _ _ _ => pg_name (i := 7) scLPar.nd rfl (Or.inl rfl)) (fun _ _ _ _ _ => pts_nil)
              (fun _ _ _ _ _ => pe_call GR hr (by rfl) mR kR bR .nil pass0 (pa_cons (pv 7) pa_nil)))))
        (pss_cons (ps_if (PW.pt (pw_or (pt_cmpR (op_inD hu1) pe_non (pv 6) (by rfl)) (pw_or1 (pt_cmpR (op_neD hu) (pv 6) (pe_callB (cr_sortNK (K := K) (P := P) (w := w) rfl rfl rfl rfl hu) (by rfl) ms (by decide +kernel) (pa_cons
              (pe_callTy (cr_setNK (K := K) (P := P) (w := w) rfl rfl rfl rfl hu) (by rfl) mS (by decide +kernel) (pa_cons (pe_lc (own := [("_law_pattern_here", 8)]) (g := gName 8) rfl scLPar.nd (pi_list (pv 6))
                (blkOk_by (own := [("_law_pattern_here", 8)]) (N := nLPar) (sc := defScope sLPar) (by decide +kernel)) (fun _ _ _ _ _ => pg_name (i := 8) scLPar.nd rfl (Or.inl rfl)) (fun _ _ _ _ _ => pts_one (pt_cmpR op_notN (pv 8) pe_non (nomark _)))
                (fun _ _ _ _ _ => pv 8)) pa_nil)) pa_nil)) (nomark _)))))
            (pss_one (ps_ret pe_non)) pss_nil)
        (pss_cons (ps_set (i := 2) scLPar.nd rfl (Or.inl rfl) (pe_slice sl_list (pv 2) po_none (po_some (pv 4))))
        (pss_cons (ps_expr (pe_bm PySem.F.plainAttrs_list PySem.F.slot_list_append PySem.F.type_list_append mt_append (pv 1) (pa_cons (pe_tup (pa_cons (pe_ifExp (pt_cmpR op_gt (pv 4) pe_int (nomark _)) (pe_ix ix_list (pv 2) (pe_un un_neg pe_int) (fun _ _ => rfl)) pe_non) (pa_cons (pv 6) pa_nil))) pa_nil)))
        (pss_one (ps_expr (pe_bm PySem.F.plainAttrs_list PySem.F.slot_list_append PySem.F.type_list_append mt_append (pv 2) (pa_cons (pe_op op_sub (pe_callB (call_len_seqK (K := K) rfl) (by rfl) ml (by decide +kernel) (pa_cons (pv 1) pa_nil)) pe_int) pa_nil))))))))))))
      (pss_cons (ps_set (i := 9) scLPar.nd rfl (Or.inr rfl) (pe_lc (own := [("_law_row", 10)]) (g := gName 10) (tt := tYes) rfl scLPar.nd (pi_list (pv 1))
          (blkOk_by (own := [("_law_row", 10)]) (N := nLPar) (sc := defScope sLPar) (by decide +kernel)) (fun _ _ _ _ _ => pg_name (i := 10) scLPar.nd rfl (Or.inl rfl)) (fun _ _ _ _ _ => pts_nil)
          (fun _ _ _ _ _ => pe_call GV hr1 (by rfl) mV kV bV .nil pass0 (pa_cons (pe_ix (ix_tupK (K := K) rfl) (pv 10) pe_int (fun _ _ => rfl)) pa_nil))))
      (pss_cons (ps_for PassesOwn.never rfl (pi_range1 (by rfl) mr (pa_cons (pe_callB (call_len_seqK (K := K) rfl) (by rfl) ml (by decide +kernel) (pa_cons (pv 1) pa_nil)) pa_nil)) (pg_name (i := 11) scLPar.nd rfl (Or.inr rfl))
        (pss_cons (ps_setLc (i := 12) (own := [("_law_j", 13)]) (g := gName 13) rfl scLPar.nd rfl rfl (sw_true rfl rfl rfl (by decide +kernel)) (pi_range1 (by rfl) mr (pa_cons (pe_callB (call_len_seqK (K := K) rfl) (by rfl) ml (by decide +kernel) (pa_cons (pv 1) pa_nil)) pa_nil))
            (blkOk_by (own := [("_law_j", 13)]) (N := nLPar) (sc := defScope sLPar) (by decide +kernel)) (fun _ _ _ _ _ => pg_name (i := 13) scLPar.nd rfl (Or.inl rfl))
            (fun _ _ _ _ _ => pts_one (pt_cmpR op_isN (pe_ix (ix_tupK (K := K) rfl) (pe_ix (ix_listK (K := K) rfl) (pv 1) (pv 13) (fun _ _ => rfl)) pe_int (fun _ _ => rfl)) pe_non (nomark _)))
            (fun _ _ _ _ _ => pv 13))
        (pss_cons (ps_if (PW.pt (pw_or (PW.pt (pw_and (pt_cmpR op_gt (pv 11) pe_int (nomark _)) (pw_and1 (pt_cmpR (op_eqD hu) (pe_lc (own := [("_law_name_here", 14)]) (g := gName 14) rfl scLPar.nd (pi_list (pe_ix ix_list (pv 9) (pv 11) (fun _ _ => rfl)))
                (blkOk_by (own := [("_law_name_here", 14)]) (N := nLPar) (sc := defScope sLPar) (by decide +kernel)) (fun _ _ _ _ _ => pg_name (i := 14) scLPar.nd rfl (Or.inl rfl))
                (fun _ _ _ _ _ => pts_one (pt_cmpR (op_notInK (K := K) rfl) (pv 14) (pe_ix (ix_listK (K := K) rfl) (pv 9) (pe_ix (ix_tupK (K := K) rfl) (pe_ix (ix_listK (K := K) rfl) (pv 1) (pv 11) (fun _ _ => rfl)) pe_int (fun _ _ => rfl)) (fun _ _ => rfl)) (by rfl)))
                (fun _ _ _ _ _ => pv 14)) (pe_lst pa_nil) (nomark _))))) (pw_or1 (pt_cmpR (op_neD hu) (pv 12) (pe_lst (pa_cons pe_int pa_nil)) (nomark _)))))
            (pss_one (ps_ret pe_non)) pss_nil)
        (pss_one (ps_for PassesOwn.never rfl (pi_list (pe_ix ix_list (pv 9) (pv 11) (fun _ _ => rfl))) (pg_name (i := 14) scLPar.nd rfl (Or.inr rfl))
          (pss_cons (ps_setLc (i := 12) (own := [("_law_j", 13)]) (g := gName 13) rfl scLPar.nd rfl rfl (sw_true rfl rfl rfl (by decide +kernel)) (pi_range1 (by rfl) mr (pa_cons (pe_callB (call_len_seqK (K := K) rfl) (by rfl) ml (by decide +kernel) (pa_cons (pv 1) pa_nil)) pa_nil))
            (blkOk_by (own := [("_law_j", 13)]) (N := nLPar) (sc := defScope sLPar) (by decide +kernel)) (fun _ _ _ _ _ => pg_name (i := 13) scLPar.nd rfl (Or.inl rfl))
            (fun _ _ _ _ _ => pts_one (PW.pt (pw_and (pt_cmpR (op_inK (K := K) rfl) (pv 14) (pe_ix (ix_listK (K := K) rfl) (pv 9) (pv 13) (fun _ _ => rfl)) (by rfl)) (pw_and1 (PW.pt (pw_or (pt_cmpR op_eq (pv 13) pe_int (nomark _))
              (pw_or1 (pt_cmpR (op_notInK (K := K) rfl) (pv 14) (pe_ix (ix_listK (K := K) rfl) (pv 9) (pe_ix (ix_tupK (K := K) rfl) (pe_ix (ix_listK (K := K) rfl) (pv 1) (pv 13) (fun _ _ => rfl)) pe_int (fun _ _ => rfl)) (fun _ _ => rfl)) (by rfl)))))))))
            (fun _ _ _ _ _ => pv 13))
          (pss_one (ps_if (pt_cmpR op_gt (pe_callB (call_len_seqK (K := K) rfl) (by rfl) ml (by decide +kernel) (pa_cons (pv 12) pa_nil)) pe_int (nomark _)) (pss_one (ps_ret pe_non)) pss_nil))))))))
      (pss_one (ps_ret (pv 1))))))), ?_⟩
    refine ⟨(by show 0 ≤ sizeLine; decide), fun N nN => ?_⟩
    have u1 : Same H (upd H N (.lst [])) := same_new nN
    have c1 : (upd H N (.lst [])) N = some (.lst []) := upd_same
    generalize upd H N (.lst []) = H1 at u1 c1 ⊢
    refine ⟨(by show 0 ≤ sizeLine; decide), fun A0 nA0 => ?_⟩
    have u2 : Same H1 (upd H1 A0 (.lst [])) := same_new nA0
    have c2 : (upd H1 A0 (.lst [])) A0 = some (.lst []) := upd_same
    have A0N : A0 ≠ N := fun e => by rw [e, c1] at nA0; cases nA0
    generalize upd H1 A0 (.lst []) = H2 at u2 c2 ⊢
    have sHN : ∀ {G : Hp}, Same (Wo N H2) (Wo N G) → Same H G := fun {G} s b o e => wo_le _ _ (s _ _ (wo_new (u2 _ _ (u1 _ _ e)) fun z => by rw [z, nN] at e; cases e))
    refine ⟨_, rfl, L, rfl, ⟨_, SqL.of (u2 _ _ (u1 _ _ hL))⟩, for_it (L2.walk_list (K := K) (xs := strsV ls)) (fun i σ H5 => ∃ (s : Tst) (xs : List Nl) (A : Addr) (v3 v4 v5 v6 v7 v8 : Option V), σ = [some (.ref L), some (.ref N), some (.ref A), v3, v4, v5, v6, v7, v8, none, none, none, none, none, none] ∧ tld ([], []) (ls.take i) = some s ∧ smO (xs.map Nl.nd) = s.1 ∧
        (∀ x ∈ xs, NlAt (Wo N H5) x ∧ Asc (x.ys.map (·.2)) ∧ x.ys.length ≤ 19 ∧ ∀ y ∈ x.ys, Fct y.2) ∧ H5 N = some (.lst (xs.map fun x => V.ref x.t)) ∧ Wo N H5 A = some (.lst (intsV s.2)) ∧ Same (Wo N H2) (Wo N H5))
      ⟨([], []), [], A0, none, none, none, none, none, none, rfl, rfl, rfl, fun x m => (by cases m), u2 _ _ c1, wo_new c2 A0N, Same.refl _⟩ (fun i σ H5 _ pp => let ⟨_, _, _, _, _, _, _, _, _, _, _, _, _, _, _, sw⟩ := pp; SqL.of (sHN sw _ _ hL)) (fun i x σ H5 H6 hi pp yy => ?_) (fun σ H5 pp => ?_)⟩
    · obtain ⟨s, xs, A, v3, v4, v5, v6, v7, v8, rfl, hs, hxs, hx, hN, hA, sw⟩ := pp
      obtain ⟨rfl, hy⟩ := yy
      rw [List.getElem?_map, List.getElem?_map, Option.map_map] at hy
      obtain ⟨l, hl, ex⟩ := Option.map_eq_some_iff.mp hy
      have ex : V.str ⟨l.toArray⟩ = x := ex
      subst ex
      have ml : l ∈ ls := List.mem_of_getElem? hl
      have li : i < 16 := by
        have := (List.getElem?_eq_some_iff.mp hl).1
        have := lok.few
        omega
      have ln := lok.len l ml
      have lz : (⟨l.toArray⟩ : Str).length = l.length := by rw [len_tl, str_tl]
      have szl : (⟨l.toArray⟩ : Str).length ≤ sizeLine := by rw [lz, sizeLine_eq]; omega
      have bl := bd_len l
      have ti := told_of hs
      have lsi : s.1.length = i := by
        rw [ti.len, List.length_take]
        have := (List.getElem?_eq_some_iff.mp hl).1
        omega
      have lxs : xs.length = s.1.length := by rw [← hxs]; simp
      have hA6 := wo_le _ _ hA
      have step : tld ([], []) (ls.take (i + 1)) = tst s l := by
        rw [take_snoc hl, tld_app, hs]
        show tld s [l] = _
        rw [tld]
        cases tst s l with
        | none => rfl
        | some s' => rfl
      have eR : tl (Txt.lstripChars (⟨l.toArray⟩ : Str) spS) = bd l := by rw [tl_lstrip, str_tl]
      have lR : (Txt.lstripChars (⟨l.toArray⟩ : Str) spS).length = (bd l).length := by rw [len_tl, eR]
      have ed : (((⟨l.toArray⟩ : Str).length : Nat) : Int) - ((Txt.lstripChars (⟨l.toArray⟩ : Str) spS).length : Nat) = ((ld l : Nat) : Int) := by
        rw [lR, lz]
        unfold ld
        omega
      refine ⟨_, rfl, ⟨l.toArray⟩, rfl, szl, _, rfl, rfl, ⟨l.toArray⟩, spS, rfl, rfl, szl, _, rfl, by rw [lR, sizeLine_eq]; omega, _, _, rfl, rfl, ?_⟩
      dsimp only
      rw [ed]
      refine ⟨_, rfl, _, rfl, _, rfl, ⟨l.toArray⟩, rfl, szl, ⟨_, rfl⟩, cutS ⟨l.toArray⟩ (some ((ld l : Nat) : Int)) none, spS, rfl, rfl, by decide +kernel, ?_, fun S nS => ?_⟩
      · rw [len_tl, cut_from, str_tl, drop_ld, sizeLine_eq]
        omega
      have eW : Txt.split (cutS ⟨l.toArray⟩ (some ((ld l : Nat) : Int)) none) spS = wds (bd l) := by rw [split_wds, cut_from, str_tl, drop_ld]
      rw [eW]
      have s7 : Same H6 (upd H6 S (.lst ((wds (bd l)).map V.str))) := same_new nS
      have cS : (upd H6 S (.lst ((wds (bd l)).map V.str))) S = some (.lst ((wds (bd l)).map V.str)) := upd_same
      generalize upd H6 S (.lst ((wds (bd l)).map V.str)) = H7 at s7 cS ⊢
      have hN7 := s7 _ _ hN
      have hA7 := s7 _ _ hA6
      have nl7 : ∀ x ∈ xs, NlAt H7 x := fun x m => ((hx x m).1.same wo_le).same s7
      have fct : ∀ x ∈ xs.map Nl.nd, ∀ c ∈ x.2, Fct c := fun x m c hc => by
        obtain ⟨y, my, rfl⟩ := List.mem_map.mp m
        obtain ⟨z, mz, rfl⟩ := List.mem_map.mp hc
        exact (hx y my).2.2.2 z mz
      have e1 : decide (xs.map Nl.nd = []) = decide (s.1 = []) := by
        rw [← hxs]
        cases xs <;> simp
      have bad : (∀ τ, ¬ RdOk ls τ) → ∀ H', Same H6 H' → Q .non H' := fun h H' s' => kN h H' ((sHN sw).trans s')
      dsimp only [gName, tSeq, tAsg, tNext]
      have nodesD : ∀ {G : Hp}, Same H7 G → G N = some (.lst (xs.map fun x => V.ref x.t)) → Dp K G (.ref N) (.list ((xs.map Nl.nd).map ndD)) := fun sg hg => dp_nodes ⟨hg, fun x m => (nl7 x m).same sg⟩
      have eqN : PyData.eqv (.list ((xs.map Nl.nd).map ndD)) (.list []) = decide (s.1 = []) := by
        rw [PyData.eqv, show ([] : List PyData) = (([] : List Nd).map ndD) from rfl, eqv_nds, e1]
      refine ifs_ret (fun b H' => b = decide (s.2.length < ld l ∨ (s.1 ≠ [] ∧ ld l = 0)) ∧ Same H7 H') (fun R hR => ?_) (fun H' pc => ?_) (fun H8 pc => ?_)
      · have d0 : decide (V.int (ld l : Nat) = V.int 0) = decide (ld l = 0) := by
          by_cases h : ld l = 0
          · simp [h]
          · have : (V.int (ld l : Nat) : V) ≠ V.int 0 := fun e => by
              injection e with e
              omega
            simp [h, this]
        refine ⟨_, rfl, rfl, _, rfl, (by show 0 ≤ sizeLine; decide), fun e ne => ?_⟩
        have ue := same_new (o := .lst []) ne
        refine ⟨_, _, nodesD ue (ue _ _ hN7), .lst (SqL.of upd_same) .nil, shaped_nds fct, by decide, rfl, _, rfl, ?_⟩
        rw [eqN, d0]
        have ab0 := ti.ab0
        refine ite2 (fun cc => hR _ _ ⟨?_, ue⟩) (fun cc => ⟨_, rfl, _, rfl, A, _, rfl, .inl (SqL.of (ue _ _ hA7)), _, _, rfl, rfl, _, rfl, hR _ _ ⟨?_, ue⟩⟩)
        · refine (decide_eq_true ?_).symm
          by_cases h1 : ld l = 0
          · by_cases h2 : s.1 = []
            · simp [h1, h2] at cc
            · exact .inr ⟨h2, h1⟩
          · by_cases h2 : s.1 = []
            · left
              rw [ab0 h2]
              exact Nat.pos_of_ne_zero h1
            · simp [h1, h2] at cc
        · have lA : (intsV s.2).length = s.2.length := List.length_map _
          rw [lA]
          by_cases h3 : s.2.length < ld l
          · rw [decide_eq_true (show ((s.2.length : Nat) : Int) < (ld l : Nat) by omega), decide_eq_true (.inl h3)]
          · rw [decide_eq_false (show ¬ ((s.2.length : Nat) : Int) < (ld l : Nat) by omega)]
            refine (decide_eq_false fun h => ?_).symm
            rcases h with h | ⟨h1, h2⟩
            · exact h3 h
            · simp [h1, h2] at cc
      · obtain ⟨pc, s8⟩ := pc
        have hbad := of_decide_eq_true pc.symm
        refine bad (fun τ r => ?_) _ (s7.trans s8)
        obtain ⟨cs, s2, e, _⟩ := rd_at r hl hs
        unfold tst at e
        rw [if_pos hbad] at e
        cases e
      · obtain ⟨pc, s78⟩ := pc
        have cgood := of_decide_eq_false pc.symm
        have hN8 := s78 _ _ hN7
        have hA8 := s78 _ _ hA7
        have cS8 := s78 _ _ cS
        have s68 := s7.trans s78
        have hst : tst s l = some (s.1 ++ [(if s.1 = [] then none else s.2[ld l - 1]?, lotO (bd l))], s.2.take (ld l) ++ [s.1.length]) := by
          unfold tst
          rw [if_neg cgood]
        -- the lot
        dsimp only [gName, tSeq, tAsg, tNext]
        refine tif_mid (fun b H' => b = decide (s.1 = [] ∧ bd l = [45]) ∧ Same H8 H') (fun v H' => ∃ (Lq : Addr) (os : List (Option Pt)), v = .ref Lq ∧ Same H8 H' ∧ H8 Lq = none ∧ H' Lq = some (.lst (os.map rvO)) ∧ os.map (Option.map (·.2)) = (if s.1 = [] ∧ bd l = [45] then [] else (wds (bd l)).map rdOk) ∧ os.length ≤ 19 ∧ ∀ y, some y ∈ os → H' y.1 = some (.tup (ptV y)) ∧ Fct y.2)
          (fun R hR => ?_) (fun H' pc Qq qq => ?_) (fun H' pc Qq qq => ?_) (fun v H9 pr => ?_)
        · have se := fun (e : Addr) (ne : H8 e = none) => same_new (o := .lst []) ne
          refine ⟨_, rfl, (by show 0 ≤ sizeLine; decide), fun e ne => ⟨_, _, nodesD (s78.trans (se e ne)) (se e ne _ _ hN8), .lst (SqL.of upd_same) .nil, shaped_nds fct, by decide, _, rfl, ?_⟩⟩
          rw [eqN]
          refine ite2 (fun c1 => ?_) (fun c1 => hR _ _ ⟨?_, se e ne⟩)
          · have c1 := of_decide_eq_true c1
            refine ⟨_, rfl, (by show 1 ≤ sizeLine; decide), fun e2 ne2 => ⟨_, _, .lst (SqL.of (same_new ne2 _ _ (se e ne _ _ cS8))) (dp_strs _), .lst (SqL.of upd_same) (dp_strs [Str.ofString "-"]), shaped_strs fun y hy => ?_, by decide +kernel, _, rfl, hR _ _ ⟨?_, (se e ne).trans (same_new ne2)⟩⟩⟩
            · obtain ⟨m1, m2⟩ := wds_mem hy
              exact ok_list fun c hc => lok.cod l ml c (bd_mem (m2 c hc))
            · rw [PyData.eqv, eqvAll_texts, wds_dash]
              by_cases h : bd l = [45] <;> simp [h, c1]
          · have c1 : ¬ s.1 = [] := fun h => c1 (decide_eq_true h)
            simp [c1]
        · obtain ⟨pc, s9⟩ := pc
          have hc := of_decide_eq_true pc.symm
          refine ⟨(by show 0 ≤ sizeLine; decide), fun Lq nLq => qq _ _ ⟨Lq, [], rfl, s9.trans (same_new nLq), none_of s9 nLq, upd_same, ?_, by decide, fun y m => (by cases m)⟩⟩
          rw [if_pos hc]
          rfl
        · obtain ⟨pc, s9⟩ := pc
          have hc := of_decide_eq_false pc.symm
          have sp := lok.spc l ml
          have spb := bd_count l
          have lw := wds_len (bd l)
          refine ⟨_, rfl, S, rfl, ⟨_, SqL.of (s9 _ _ cS8)⟩, fun D nD => ?_⟩
          refine lc_acc (L2.walk_list (K := K) (xs := (wds (bd l)).map V.str)) (fun Hh i acc => ∃ os : List (Option Pt), acc = os.map rvO ∧ os.map (Option.map (·.2)) = ((wds (bd l)).take i).map rdOk ∧ ∀ y, some y ∈ os → Hh y.1 = some (.tup (ptV y)) ∧ Fct y.2) nD (by rw [List.length_map]; omega) (fun H' s' => SqL.of (s' _ _ (s9 _ _ cS8)))
            (fun Hq Hr i acc s' h => by
              obtain ⟨os, e1, e2, e3⟩ := h
              exact ⟨os, e1, e2, fun y m => ⟨s' _ _ (e3 y m).1, (e3 y m).2⟩⟩) ⟨[], rfl, rfl, fun y m => (by cases m)⟩ (fun j x H8' H9 acc hj s8 hD r' la yy Yes No yes no => ?_) (fun H9 acc s8 hD la r' => ?_)
          · obtain ⟨rfl, hx⟩ := yy
            rw [List.getElem?_map] at hx
            obtain ⟨wd, hwd, rfl⟩ := Option.map_eq_some_iff.mp hx
            obtain ⟨os, rfl, e2, e3⟩ := r'
            obtain ⟨m1, m2⟩ := wds_mem (List.mem_of_getElem? hwd)
            refine ⟨rfl, ?_⟩
            dsimp only [tYes]
            rw [if_pos rfl]
            refine ⟨_, rfl, wd, rfl, ?_, fun c hc => lok.cod l ml c (bd_mem (m2 c hc)), fun en H10 s10 => ?_, fun c ec q H10 s10 nq hq => ?_⟩
            · rw [len_tl]
              omega
            · refine yes _ _ s10 ⟨os ++ [none], by simp [rvO], ?_, fun y m => ?_⟩
              · rw [List.map_append, e2, take_snoc hwd, List.map_append]
                show _ ++ [none] = _ ++ [rdOk wd]
                rw [en]
              · rcases List.mem_append.mp m with m | m
                · exact ⟨wo_same s10 _ _ (e3 y m).1, (e3 y m).2⟩
                · cases List.mem_singleton.mp m
            · have qD : q ≠ D := fun e => by rw [e, hD] at nq; cases nq
              refine yes _ _ s10 ⟨os ++ [some (q, c)], by simp [rvO], ?_, fun y m => ?_⟩
              · rw [List.map_append, e2, take_snoc hwd, List.map_append]
                show _ ++ [some c] = _ ++ [rdOk wd]
                rw [ec]
              · rcases List.mem_append.mp m with m | m
                · exact ⟨wo_same s10 _ _ (e3 y m).1, (e3 y m).2⟩
                · have : y = (q, c) := Option.some.inj (List.mem_singleton.mp m)
                  rw [this]
                  exact ⟨wo_new hq qD, (rd_text ec).2⟩
          · obtain ⟨os, rfl, e2, e3⟩ := r'
            rw [List.length_map, List.take_length] at e2
            have los := congrArg List.length e2
            rw [List.length_map, List.length_map] at los
            refine qq _ _ ⟨D, os, rfl, s9.trans s8, none_of s9 nD, hD, ?_, by omega, fun y m => ⟨wo_le _ _ (e3 y m).1, (e3 y m).2⟩⟩
            rw [if_neg hc]
            exact e2
        · obtain ⟨Lq, os, rfl, s89, nLq, hLq, eos, los, fos⟩ := pr
          have hX : ∀ τ, RdOk ls τ → ∃ cs, os.map (Option.map (·.2)) = cs.map some ∧ Asc cs := fun τ r => by
            obtain ⟨cs, s2, e, e2, as, ne⟩ := rd_at r hl hs
            refine ⟨cs, ?_, as⟩
            rw [eos]
            by_cases c : s.1 = [] ∧ bd l = [45]
            · rw [if_pos c]
              have : lotO (bd l) = [] := by
                unfold lotO
                rw [if_pos c.2]
              rw [← e2, this]
            · rw [if_neg c]
              have nd : bd l ≠ [45] := fun h => by
                have s1 : s.1 ≠ [] := fun z => c ⟨z, h⟩
                have i0 : 0 < i := by rw [← lsi]; exact List.length_pos_iff.mpr s1
                have : lotO (bd l) = [] := by
                  unfold lotO
                  rw [if_pos h]
                rw [this] at e2
                exact ne i0 (List.map_eq_nil_iff.mp e2.symm)
              rw [← e2]
              unfold lotO
              rw [if_neg nd]
          have hN9 := s89 _ _ hN8
          have hA9 := s89 _ _ hA8
          refine ifs_ret (fun b H' => Same H9 H' ∧ (b = true → ¬ ∃ cs, os.map (Option.map (·.2)) = cs.map some ∧ Asc cs) ∧ (b = false → ∃ ys : List Pt, os = ys.map some ∧ Asc (ys.map (·.2))))
            (fun R hR => ?_) (fun H' pc => bad (fun τ r => pc.2.1 rfl (hX τ r)) _ (s68.trans (s89.trans pc.1))) (fun H10 pr => ?_)
          · have fO : ∀ x, some x ∈ os → Fct x.2 := fun x m => (fos x m).2
            refine ⟨_, rfl, .none, os.map dvO, .non, .lst (SqL.of hLq) (dp_rvO fun x m => (fos x m).1), by decide, shaped_dvO fO, ?_⟩
            rw [any_dvO]
            refine ⟨_, rfl, ?_⟩
            cases hn : os.any fun o => o.isNone with
            | true =>
              refine iteT (hR _ _ ⟨Same.refl _, fun _ h => ?_, fun e => nomatch e⟩)
              obtain ⟨cs, ecs, _⟩ := h
              obtain ⟨o, mo, no⟩ := List.any_eq_true.mp hn
              have m2 : o.map (·.2) ∈ os.map (Option.map (·.2)) := List.mem_map_of_mem mo
              rw [ecs] at m2
              obtain ⟨c, mc, ec⟩ := List.mem_map.mp m2
              cases o with
              | none => cases ec
              | some x => cases no
            | false =>
              refine iteF ?_
              obtain ⟨ys, eys⟩ := all_some hn
              have hD' : H9 Lq = some (.lst (ys.map fun x => V.ref x.1)) := by
                rw [hLq, eys, List.map_map]
                rfl
              have each : ∀ x ∈ ys, H9 x.1 = some (.tup (ptV x)) := fun x m => (fos x (by rw [eys]; exact List.mem_map_of_mem m)).1
              have fx : ∀ c ∈ ys.map (·.2), Fct c := fun c hc => by
                obtain ⟨x, mx, rfl⟩ := List.mem_map.mp hc
                exact fO x (by rw [eys]; exact List.mem_map_of_mem mx)
              have lys : ys.length ≤ 19 := by
                have := congrArg List.length eys
                rw [List.length_map] at this
                omega
              refine ⟨_, rfl, _, rfl, Lq, rfl, ⟨_, SqL.of hD'⟩, fun D2 nD2 => ?_⟩
              refine lc_sift (ms := ys) (val := fun x => V.ref x.1) (L2.walk_list (K := K)) (List.length_map _) (fun _ => true) (fun x => V.ref x.1) nD2 (by omega) (fun H' s' => SqL.of (s' _ _ hD')) (fun t ht H5 Yes No s5 yes no => ⟨rfl, _, rfl, rfl, _, rfl, iteT ⟨_, rfl, yes H5 (Same.refl _) rfl⟩⟩) (fun H' s' hL' => ?_)
              rw [List.filter_eq_self.mpr (fun _ _ => rfl)] at hL'
              dsimp only [tNil, List.cons_append, List.nil_append]
              refine sorted_set (.inl (SqL.of hL')) (fun x m => s' _ _ (each x m)) (by omega) fun l2 Ms H8' s8 nl2 hl2 sub mem asc => ?_
              have s98 := s'.trans s8
              have fM : ∀ c ∈ Ms.map (·.2), Fct c := fun c hc => fx c ((mem c).mp hc)
              refine ⟨.list ((ys.map (·.2)).map facD), .list ((Ms.map (·.2)).map facD), .lst (SqL.of (s98 _ _ hD')) (dp_facts fun x m => s98 _ _ (each x m)), .lst (SqL.of hl2) (dp_facts fun x m => s98 _ _ (each x (sub x m))), shaped_facts fx, shaped_facts fM, ?_⟩
              rw [eqv_list]
              refine ⟨_, rfl, ?_⟩
              have ex2 : os.map (Option.map (·.2)) = (ys.map (·.2)).map some := by
                rw [eys, List.map_map, List.map_map]
                rfl
              by_cases hc : ys.map (·.2) = Ms.map (·.2)
              · rw [decide_eq_true hc]
                exact hR false _ ⟨s98, (fun e => nomatch e), fun _ => ⟨ys, eys, by rw [hc]; exact asc⟩⟩
              · rw [decide_eq_false hc]
                refine hR true _ ⟨s98, fun _ h => ?_, fun e => nomatch e⟩
                obtain ⟨cs, ecs, ax⟩ := h
                rw [ex2] at ecs
                have : ys.map (·.2) = cs := (List.map_inj_right (fun _ _ h => Option.some.inj h)).mp ecs
                rw [← this] at ax
                exact hc (asc_one ax asc fun c => (mem c).symm)
          · obtain ⟨s910, _, pr2⟩ := pr
            obtain ⟨ys, eys, as⟩ := pr2 rfl
            have elot : lotO (bd l) = (ys.map (·.2)).map some := by
              have ex2 : os.map (Option.map (·.2)) = (ys.map (·.2)).map some := by
                rw [eys, List.map_map, List.map_map]
                rfl
              rw [ex2] at eos
              unfold lotO
              by_cases h : bd l = [45]
              · rw [if_pos h]
                by_cases c : s.1 = [] ∧ bd l = [45]
                · rw [if_pos c] at eos
                  exact eos.symm
                · rw [if_neg c, h, wds_no] at eos
                  exfalso
                  have m : (none : Option Fc) ∈ (ys.map (·.2)).map some := by rw [eos]; exact List.mem_cons_self
                  obtain ⟨c, _, e⟩ := List.mem_map.mp m
                  cases e
              · rw [if_neg h]
                rw [if_neg (fun c => h c.2)] at eos
                exact eos.symm
            have hN10 := s910 _ _ hN9
            have hA10 := s910 _ _ hA9
            have hL10 : H10 Lq = some (.lst (ys.map fun x => V.ref x.1)) := by
              rw [s910 _ _ hLq, eys, List.map_map]
              rfl
            have fy : ∀ y ∈ ys, H10 y.1 = some (.tup (ptV y)) ∧ Fct y.2 := fun y m => by
              have := fos y (by rw [eys]; exact List.mem_map_of_mem m)
              exact ⟨s910 _ _ this.1, this.2⟩
            have lys : ys.length ≤ 19 := by
              have := congrArg List.length eys
              rw [List.length_map] at this
              omega
            have s610 := s68.trans (s89.trans s910)
            refine ⟨_, rfl, _, rfl, _, rfl, A, _, rfl, SqL.of hA10, fun B nB => ?_⟩
            rw [cutV_to]
            have s11 : Same H10 (upd H10 B (.lst ((intsV s.2).take (ld l)))) := same_new nB
            have c11 : (upd H10 B (.lst ((intsV s.2).take (ld l)))) B = some (.lst ((intsV s.2).take (ld l))) := upd_same
            have B6 : H6 B = none := none_of s610 nB
            generalize upd H10 B (.lst ((intsV s.2).take (ld l))) = H11 at s11 c11 ⊢
            have s611 := s610.trans s11
            have hN11 := s11 _ _ hN10
            have BN : B ≠ N := fun e => by rw [e, hN10] at nB; cases nB
            obtain ⟨p, hp⟩ : ∃ p : Option Nat, p = (if s.1 = [] then none else s.2[ld l - 1]?) := ⟨_, rfl⟩
            rw [← hp] at hst
            refine ⟨_, rfl, .inl ⟨rfl, _, SqL.of hN11⟩, ?_⟩
            dsimp only [tCons, tTup]
            refine tif_any (Pr := fun v H' => v = pV p ∧ H' = H11) (decide (0 < ld l)) (fun Rr rr => ⟨_, rfl, _, _, rfl, rfl, _, rfl, ?_⟩) (fun e Qq qq => ?_) (fun e Qq qq => ?_) (fun v H12 pr => ?_)
            · have : decide (((ld l : Nat) : Int) > 0) = decide (0 < ld l) := by
                by_cases h : 0 < ld l
                · rw [decide_eq_true h, decide_eq_true (show ((ld l : Nat) : Int) > 0 by omega)]
                · rw [decide_eq_false h, decide_eq_false (show ¬ ((ld l : Nat) : Int) > 0 by omega)]
              rw [this]
              exact rr
            · have d0 := of_decide_eq_true e
              have ab0 := ti.ab0
              have e0 : s.1 ≠ [] := fun z => cgood (.inl (by rw [ab0 z]; exact d0))
              have dl : ld l ≤ s.2.length := Nat.le_of_not_lt fun h => cgood (.inl h)
              rw [if_neg e0, List.getElem?_eq_getElem (by omega)] at hp
              refine ⟨_, rfl, _, rfl, B, _, _, pV p, rfl, rfl, SqL.of c11, atI_end ?_, qq _ _ ⟨rfl, rfl⟩⟩
              rw [List.getLast?_eq_getElem?, List.length_take]
              have lA : (intsV s.2).length = s.2.length := List.length_map _
              rw [lA, Nat.min_eq_left dl, List.getElem?_take_of_lt (by omega)]
              show (List.map _ s.2)[ld l - 1]? = _
              rw [List.getElem?_map, List.getElem?_eq_getElem (by omega), hp]
              rfl
            · have d0 := of_decide_eq_false e
              have e0 : s.1 = [] := Classical.byContradiction fun z => cgood (.inr ⟨z, by omega⟩)
              rw [if_pos e0] at hp
              exact qq _ _ ⟨by rw [hp]; rfl, rfl⟩
            · obtain ⟨rfl, rfl⟩ := pr
              refine ⟨_, rfl, (by show 2 ≤ sizeLine; decide), fun t nt => ?_⟩
              have s12 : Same H12 (upd H12 t (.tup [pV p, .ref Lq])) := same_new nt
              have c12 : (upd H12 t (.tup [pV p, .ref Lq])) t = some (.tup [pV p, .ref Lq]) := upd_same
              have tN : t ≠ N := fun e => by rw [e, hN11] at nt; cases nt
              have tB : t ≠ B := fun e => by rw [e, c11] at nt; cases nt
              have LB : Lq ≠ B := fun e => by rw [← e, hL10] at nB; cases nB
              have LN : Lq ≠ N := fun e => by rw [e, hN8] at nLq; cases nLq
              have yB : ∀ y ∈ ys, y.1 ≠ B := fun y m e => by
                have := (fy y m).1
                rw [e, nB] at this
                cases this
              have yN : ∀ y ∈ ys, y.1 ≠ N := fun y m e => by
                have := (fy y m).1
                rw [e, hN10] at this
                cases this
              generalize upd H12 t (.tup [pV p, .ref Lq]) = H13 at s12 c12 ⊢
              have s613 := s611.trans s12
              refine ⟨N, _, _, rfl, rfl, s12 _ _ hN11, by rw [List.length_map, lxs, sizeLine_eq]; omega, ?_⟩
              obtain ⟨nx, enx⟩ : ∃ nx : Nl, nx = Nl.mk t p Lq ys := ⟨_, rfl⟩
              have eN : xs.map (fun x => V.ref x.t) ++ [V.ref t] = (xs ++ [nx]).map fun x : Nl => V.ref x.t := by rw [enx]; simp
              rw [eN]
              have w14 : Same (Wo N H13) (Wo N (upd H13 N (.lst ((xs ++ [nx]).map fun x : Nl => V.ref x.t)))) := wo_upd
              have hN14 : (upd H13 N (.lst ((xs ++ [nx]).map fun x : Nl => V.ref x.t))) N = some (.lst ((xs ++ [nx]).map fun x : Nl => V.ref x.t)) := upd_same
              generalize upd H13 N (.lst ((xs ++ [nx]).map fun x : Nl => V.ref x.t)) = H14 at w14 hN14 ⊢
              have w614 : Same (Wo N H6) (Wo N H14) := (wo_same s613).trans w14
              have hB14 : H14 B = some (.lst ((intsV s.2).take (ld l))) := wo_le _ _ (w14 _ _ (wo_new (s12 _ _ c11) BN))
              refine ⟨_, rfl, .inl ⟨rfl, _, SqL.of hB14⟩, _, rfl, N, _, rfl, .inl (SqL.of hN14), _, _, rfl, rfl, B, _, _, rfl, rfl, hB14, ?_, ?_⟩
              · rw [List.length_take, sizeLine_eq]
                show min _ (List.map _ _).length < _
                rw [List.length_map]
                omega
              have eA : (intsV s.2).take (ld l) ++ [V.int ((((xs ++ [nx]).map fun x : Nl => V.ref x.t).length : Nat) - 1)] = intsV (s.2.take (ld l) ++ [s.1.length]) := by
                rw [List.length_map, List.length_append, List.length_singleton, lxs]
                show _ = List.map _ _
                rw [List.map_append, List.map_take]
                show _ ++ [V.int _] = _ ++ [V.int _]
                congr 3
                omega
              rw [eA]
              have k15 : ∀ {b : Addr} {o : HO}, b ≠ B → H14 b = some o → (upd H14 B (.lst (intsV (s.2.take (ld l) ++ [s.1.length])))) b = some o := fun ne e => by rw [upd_ne ne]; exact e
              have c15 : (upd H14 B (.lst (intsV (s.2.take (ld l) ++ [s.1.length])))) B = some (.lst (intsV (s.2.take (ld l) ++ [s.1.length]))) := upd_same
              generalize upd H14 B (.lst (intsV (s.2.take (ld l) ++ [s.1.length]))) = H15 at k15 c15 ⊢
              have w615 : Same (Wo N H6) (Wo N H15) := fun b o e => by
                have h1 := w614 _ _ e
                have bN : b ≠ N := fun z => by
                  unfold Wo at e
                  rw [if_pos z] at e
                  cases e
                have bB : b ≠ B := fun z => by
                  have := wo_le _ _ e
                  rw [z, B6] at this
                  cases this
                exact wo_new (k15 bB (wo_le _ _ h1)) bN
              have at15 : ∀ {b : Addr} {o : HO}, b ≠ B → b ≠ N → H13 b = some o → Wo N H15 b = some o := fun n1 n2 e => wo_new (k15 n1 (wo_le _ _ (w14 _ _ (wo_new e n2)))) n2
              refine ⟨_, xs ++ [nx], B, _, _, _, _, _, _, rfl, step.trans hst, ?_, fun x m => ?_, k15 (Ne.symm BN) hN14, wo_new c15 BN, sw.trans w615⟩
              · rw [List.map_append]
                unfold smO at hxs ⊢
                rw [List.map_append, hxs]
                show s.1 ++ [_] = s.1 ++ [_]
                rw [enx]
                show s.1 ++ [(p, (ys.map (·.2)).map some)] = _
                rw [elot]
              · rcases List.mem_append.mp m with m | m
                · exact ⟨(hx x m).1.same w615, (hx x m).2⟩
                · rw [List.mem_singleton.mp m, enx]
                  refine ⟨⟨at15 tB tN c12, at15 LB LN (s12 _ _ (s11 _ _ hL10)), fun y hy => at15 (yB y hy) (yN y hy) (s12 _ _ (s11 _ _ (fy y hy).1))⟩, as, lys, fun y hy => (fy y hy).2⟩
    · obtain ⟨s, xs, A, v3, v4, v5, v6, v7, v8, rfl, hs, hxs, hx, hN, hA, sw⟩ := pp
      rw [List.length_map, List.length_map, List.take_length] at hs
      obtain ⟨τ, hτ⟩ : ∃ τ, τ = xs.map Nl.nd := ⟨_, rfl⟩
      have ti := told_of hs
      have tiw := ti.wf
      have e1 : s.1.map (·.1) = prs τ := by rw [← hxs, ← hτ, told_prs]
      rw [e1] at tiw
      have lτ : τ.length = ls.length := by
        rw [← ti.len, ← hxs, ← hτ]
        simp
      have lx : xs.length = ls.length := by rw [← lτ, hτ, List.length_map]
      have lpos : 0 < ls.length := List.length_pos_iff.mpr lok.ne
      have l16 := lok.few
      have lps : (prs τ).length = τ.length := List.length_map _
      have hs' : tld ([], []) ls = some (smO τ, s.2) := by
        rw [hs, hτ, hxs]
      have asc : ∀ x ∈ τ, Asc x.2 := fun x m => by
        rw [hτ] at m
        obtain ⟨y, my, rfl⟩ := List.mem_map.mp m
        exact (hx y my).2.1
      have one : ∀ τ', RdOk ls τ' → τ' = τ := fun τ' r => by
        obtain ⟨⟨ab, h⟩, _⟩ := r
        rw [hs'] at h
        exact somes_inj (Prod.mk.inj (Option.some.inj h)).1.symm
      have hx5 : ∀ x ∈ xs, NlAt H5 x ∧ ∀ y ∈ x.ys, Fct y.2 := fun x m => ⟨(hx x m).1.same wo_le, (hx x m).2.2.2⟩
      have lys : ∀ x ∈ xs, x.ys.length ≤ 19 := fun x m => (hx x m).2.2.1
      have bad : ¬ Good (prs τ) (lo τ) → ∀ H', Same H5 H' → Q .non H' := fun ng H' s' => kN (fun τ' r => by
        have := one τ' r
        rw [this] at r
        exact ng r.2.1) H' ((sHN sw).trans s')
      have loK : ∀ {k : Nat} {x : Nl}, xs[k]? = some x → lo τ k = x.ys.map (·.2) := fun {k x} h => by
        rw [hτ, lo_at (x := x.nd) (by rw [List.getElem?_map, h]; rfl)]
        rfl
      have paK : ∀ {k : Nat} {x : Nl}, xs[k]? = some x → pa (prs τ) k = x.p := fun {k x} h => by
        unfold pa prs
        rw [hτ, List.getElem?_map, List.getElem?_map, h]
        rfl
      have fτ : ∀ x ∈ τ, ∀ c ∈ x.2, Fct c := fun x m c hc => by
        rw [hτ] at m
        obtain ⟨y, my, rfl⟩ := List.mem_map.mp m
        obtain ⟨z, mz, rfl⟩ := List.mem_map.mp hc
        exact (hx y my).2.2.2 z mz
      have nl60 : ∀ k, (nms (lo τ k)).length ≤ 60 := fun k => by
        refine Nat.le_trans (nms_len _) ?_
        unfold vrs
        refine Nat.le_trans (List.length_filter_le _ _) ?_
        by_cases hk : k < xs.length
        · have hg := List.getElem?_eq_getElem hk
          have mk := List.getElem_mem hk
          rw [loK hg]
          refine Nat.le_trans (flat_few (a := 3) fun c hc => ?_) ?_
          · obtain ⟨z, mz, rfl⟩ := List.mem_map.mp hc
            exact ((hx5 _ mk).2 z mz).l3
          · rw [List.length_map]
            have := lys _ mk
            omega
        · rw [lo_none (by omega)]
          simp
      have sH5 := sHN sw
      clear hx sw ti hs
      -- the variables of each node
      dsimp only [gName, tSeq, tAsg, tNext]
      refine ⟨_, rfl, N, rfl, ⟨_, SqL.of hN⟩, fun D nD => ?_⟩
      refine lc_acc (L2.walk_list (K := K) (xs := xs.map fun x => V.ref x.t)) (fun Hh i acc => ∃ ws : List Addr, acc = ws.map V.ref ∧ ws.length = i ∧ ∀ k q, ws[k]? = some q → Hh q = some (.lst ((nms (lo τ k)).map V.str))) nD (by rw [List.length_map]; omega) (fun H' s' => SqL.of (s' _ _ hN))
        (fun Hq Hr i acc s' h => by
          obtain ⟨ws, e1, e2, e3⟩ := h
          exact ⟨ws, e1, e2, fun k q e => s' _ _ (e3 k q e)⟩) ⟨[], rfl, rfl, fun k q h => (by simp at h)⟩ (fun j x H8 H9 acc hj s8 hD r' la yy Yes No yes no => ?_) (fun H8 acc s8 hD la r' => ?_)
      · obtain ⟨rfl, hy⟩ := yy
        rw [List.getElem?_map] at hy
        obtain ⟨y, hy0, ey⟩ := Option.map_eq_some_iff.mp hy
        have ey : V.ref y.t = x := ey
        subst ey
        have my := List.mem_of_getElem? hy0
        obtain ⟨n1, n2⟩ := hx5 y my
        obtain ⟨ws, rfl, lw, hw⟩ := r'
        refine ⟨rfl, ?_⟩
        dsimp only [tYes]
        rw [if_pos rfl]
        refine ⟨_, rfl, y.t, _, 1, _, rfl, rfl, SqT.of (s8 _ _ n1.tu), rfl, y.l, y.ys, rfl, s8 _ _ n1.li, fun z mz => ⟨s8 _ _ (n1.ea z mz), n2 z mz⟩, by have := lys y my; omega, fun q H10 s10 nq hq => yes _ _ s10 ⟨ws ++ [q], by simp, by simp [lw], fun k q' e => ?_⟩⟩
        have qD : q ≠ D := fun e => by rw [e, hD] at nq; cases nq
        by_cases ek : k < ws.length
        · rw [List.getElem?_append_left ek] at e
          exact wo_same s10 _ _ (hw k q' e)
        · have ek2 : k = ws.length := by
            have := (List.getElem?_eq_some_iff.mp e).1
            rw [List.length_append, List.length_singleton] at this
            omega
          subst ek2
          rw [List.getElem?_append_right (Nat.le_refl _)] at e
          have e : q = q' := by simpa using e
          subst e
          rw [lw, loK hy0]
          exact wo_new hq qD
      · obtain ⟨ws, rfl, lw, hw⟩ := r'
        have lw : ws.length = ls.length := by rw [lw, List.length_map, lx]
        have hw : ∀ k q, ws[k]? = some q → H8 q = some (.lst ((nms (lo τ k)).map V.str)) := fun k q e => wo_le _ _ (hw k q e)
        have hN8 := s8 _ _ hN
        have tu8 : ∀ {k : Nat} {x : Nl}, xs[k]? = some x → H8 x.t = some (.tup [pV x.p, .ref x.l]) := fun h => s8 _ _ (hx5 _ (List.mem_of_getElem? h)).1.tu
        have gN : ∀ {k : Nat} {x : Nl}, xs[k]? = some x → (xs.map fun x => V.ref x.t)[k]? = some (.ref x.t) := fun h => by rw [List.getElem?_map, h]; rfl
        have gW : ∀ {k : Nat}, k < ls.length → ∃ q, ws[k]? = some q ∧ (ws.map V.ref)[k]? = some (.ref q) ∧ H8 q = some (.lst ((nms (lo τ k)).map V.str)) := fun {k} h => by
          have hk : k < ws.length := by omega
          exact ⟨ws[k], List.getElem?_eq_getElem hk, by rw [List.getElem?_map, List.getElem?_eq_getElem hk]; rfl, hw k _ (List.getElem?_eq_getElem hk)⟩
        have bad8 : ¬ Good (prs τ) (lo τ) → ∀ H', Same H8 H' → Q .non H' := fun ng H' s' => bad ng H' (s8.trans s')
        have en : ((((xs.map (fun x : Nl => V.ref x.t)).length : Nat) : Int)).toNat = ls.length := by rw [List.length_map, lx]; omega
        refine ⟨_, rfl, N, _, rfl, .inl (SqL.of hN8), _, rfl, by omega, by rw [List.length_map, lx]; omega, for_range (lo := 0) (n := ((((xs.map (fun x : Nl => V.ref x.t)).length : Nat) : Int)).toNat) (fun k σ G => ∃ (v11 v12 v13 v14 : Option V), σ = [some (.ref L), some (.ref N), some (.ref A), v3, v4, v5, v6, v7, v8, some (.ref D), none, v11, v12, v13, v14] ∧ Same H8 G ∧
            (∀ k', k' < k → (0 < k' → nw (prs τ) (lo τ) k' ≠ []) ∧ ∀ z ∈ nms (lo τ k'), (topsL τ z).length ≤ 1)) ⟨none, none, none, none, rfl, Same.refl _, fun k' h => absurd h (Nat.not_lt_zero _)⟩ ?_ ?_⟩
        · rintro k σ G hk ⟨v11, v12, v13, v14, rfl, sG, ih⟩
          rw [en] at hk
          have e0 : (0 : Int) + (k : Int) = (k : Nat) := by omega
          rw [e0]
          have hNG := sG _ _ hN8
          have hDG := sG _ _ hD
          obtain ⟨xk, hxk⟩ : ∃ x, xs[k]? = some x := ⟨xs[k]'(by omega), List.getElem?_eq_getElem _⟩
          dsimp only [gName, tSeq, tAsg, tNext]
          refine ⟨_, rfl, N, _, rfl, .inl (SqL.of hNG), _, rfl, by omega, by rw [List.length_map, lx]; omega, fun D1 nD1 => ?_⟩
          refine lc_sift (ms := List.range ((((xs.map (fun x : Nl => V.ref x.t)).length : Nat) : Int)).toNat) (val := fun j => V.int (j : Nat)) walk_rangeY (by rw [List.length_range]) (fun j => decide (pa (prs τ) j = none)) (fun j => V.int (j : Nat)) nD1 (by rw [List.length_range, en]; omega) (fun _ _ => trivial) (fun j hj H6 Yes No s6 yes no => ?_) (fun G1 s1 hD1 => ?_)
          · rw [en] at hj
            have hj := List.mem_range.mp hj
            obtain ⟨xj, hxj⟩ : ∃ x, xs[j]? = some x := ⟨xs[j]'(by omega), List.getElem?_eq_getElem _⟩
            have sj := sG.trans s6
            refine ⟨rfl, _, rfl, _, rfl, N, _, _, .ref xj.t, rfl, rfl, SqL.of (sj _ _ hN8), atI_nat (gN hxj), xj.t, _, 0, _, rfl, rfl, SqT.of (sj _ _ (tu8 hxj)), rfl, rfl, _, rfl, ?_⟩
            have ep := paK hxj
            by_cases h : pa (prs τ) j = none
            · rw [ep] at h
              rw [h]
              exact iteT ⟨_, rfl, yes _ (Same.refl _) (by rw [ep, h]; rfl)⟩
            · rw [ep] at h
              obtain ⟨q, hq⟩ := Option.ne_none_iff_exists'.mp h
              rw [hq]
              exact iteF (no _ (Same.refl _) (by rw [ep, hq]; rfl))
          · rw [en, ← lτ, ← lps, roots_one tiw (by omega)] at hD1
            have s81 := sG.trans s1
            have hN1 := s81 _ _ hN8
            have hDo := s81 _ _ hD
            obtain ⟨qk, gk1, gk2, gk3⟩ := gW hk
            refine ifs_ret (fun b H' => Same G1 H' ∧ (b = true → 0 < k ∧ nw (prs τ) (lo τ) k = []) ∧ (b = false → 0 < k → nw (prs τ) (lo τ) k ≠ []))
              (fun R hR => ?_) (fun H' pc => bad8 (fun g => g.new k (pc.2.1 rfl).1 (by omega) (pc.2.1 rfl).2) _ (s81.trans pc.1)) (fun G2 pr => ?_)
            · have last : ∀ (H' : Hp), Same G1 H' → (0 < k → nw (prs τ) (lo τ) k ≠ []) → tTest (tOp (rNeD K) (tVar 12) (tLst (tCons (tC (V.int 0)) tNil))) ([some (.ref L), some (.ref N), some (.ref A), v3, v4, v5, v6, v7, v8, some (.ref D), none, some (.int (k : Nat)), some (.ref D1), v13, v14]) H' R := fun H' s' h => by
                refine ⟨_, rfl, (by show 1 ≤ sizeLine; decide), fun e ne => ⟨_, _, .lst (SqL.of (same_new ne _ _ (s' _ _ hD1))) (.cons (.int _) .nil), .lst (SqL.of upd_same) (.cons (.int _) .nil), by decide, by decide, _, rfl, ?_⟩⟩
                exact hR _ _ ⟨s'.trans (same_new ne), fun e => absurd e (by decide +kernel), fun _ => h⟩
              refine ⟨_, rfl, _, _, rfl, rfl, _, rfl, ite2 (fun c => ?_) (fun c => ?_)⟩
              · have k0 : 0 < k := by
                  have := of_decide_eq_true c
                  omega
                obtain ⟨pp, hpp, lpp⟩ := tiw.up k k0 (by omega)
                have xp : xk.p = some pp := by rw [← paK hxk]; exact hpp
                obtain ⟨qp, gp1, gp2, gp3⟩ := gW (k := pp) (by omega)
                refine ⟨_, rfl, _, rfl, D, _, _, .ref qk, rfl, rfl, SqL.of hDo, atI_nat gk2, qk, rfl, ⟨_, SqL.of (s81 _ _ gk3)⟩, fun D2 nD2 => ?_⟩
                refine lc_sift (ms := nms (lo τ k)) (val := V.str) (L2.walk_list (K := K)) (List.length_map _) (fun z => !decide (z ∈ nms (lo τ pp))) V.str nD2 (Nat.le_trans (nl60 k) (by decide)) (fun H' s' => SqL.of (s' _ _ (s81 _ _ gk3))) (fun z hz H6 Yes No s6 yes no => ?_) (fun G3 s3 hD3 => ?_)
                · have s86 := s81.trans s6
                  have hu' := tu8 hxk
                  rw [xp] at hu'
                  refine ⟨rfl, _, rfl, _, rfl, _, rfl, _, rfl, N, _, _, .ref xk.t, rfl, rfl, SqL.of (s86 _ _ hN8), atI_nat (gN hxk), xk.t, _, 0, .int (pp : Nat), rfl, rfl, SqT.of (s86 _ _ hu'), rfl, D, _, _, .ref qp, rfl, rfl, SqL.of (s86 _ _ hD), atI_nat gp2, qp, _, rfl, .inl (SqL.of (s86 _ _ gp3)), rfl, flat_strs _, _, rfl, ?_⟩
                  rw [if_pos rfl, inV_strs]
                  by_cases h : z ∈ nms (lo τ pp)
                  · rw [decide_eq_true h]
                    exact iteF (no _ (Same.refl _) (by rw [decide_eq_true h]; rfl))
                  · rw [decide_eq_false h]
                    exact iteT ⟨_, rfl, yes _ (Same.refl _) (by rw [decide_eq_false h]; rfl)⟩
                · have en : (nms (lo τ k)).filter (fun z => !decide (z ∈ nms (lo τ pp))) = nw (prs τ) (lo τ) k := by
                    unfold nw
                    rw [hpp]
                  rw [en] at hD3
                  refine ⟨(by show 0 ≤ sizeLine; decide), fun e ne => ⟨_, _, .lst (SqL.of (same_new ne _ _ hD3)) (dp_strs _), .lst (SqL.of upd_same) .nil, shaped_strs fun y hy => ?_, by decide, _, rfl, ?_⟩⟩
                  · have := nms_vr (lo_fct fτ k) (nw_sub hy)
                    exact this.strOk
                  · rw [eqv_nil]
                    have se := s3.trans (same_new (o := .lst []) ne)
                    refine ite2 (fun c3 => hR _ _ ⟨se, fun _ => ⟨k0, of_decide_eq_true c3⟩, fun e => nomatch e⟩) (fun c3 => last _ se fun _ e => c3 (decide_eq_true e))
              · exact last G1 (Same.refl _) fun k0 => absurd (decide_eq_true (show ((k : Nat) : Int) > 0 by omega)) c
            · obtain ⟨s12, _, hnew⟩ := pr
              have hnew := hnew rfl
              have s82 := s81.trans s12
              have hD2 := s82 _ _ hD
              refine ⟨_, rfl, _, rfl, D, _, _, .ref qk, rfl, rfl, SqL.of hD2, atI_nat gk2, qk, rfl, ⟨_, SqL.of (s82 _ _ gk3)⟩, for_it (L2.walk_list (K := K) (xs := (nms (lo τ k)).map V.str)) (fun i σ G => ∃ (w12 w13 w14 : Option V), σ = [some (.ref L), some (.ref N), some (.ref A), v3, v4, v5, v6, v7, v8, some (.ref D), none, some (.int (k : Nat)), w12, w13, w14] ∧ Same G2 G ∧ ∀ z ∈ (nms (lo τ k)).take i, (topsL τ z).length ≤ 1)
                ⟨_, _, _, rfl, Same.refl _, fun z h => by cases h⟩ (fun i σ G _ pp => let ⟨_, _, _, _, sg, _⟩ := pp; SqL.of (sg _ _ (s82 _ _ gk3))) (fun i x σ G3 G4 hi pp yy => ?_) (fun σ G3 pp => ?_)⟩
              · obtain ⟨w12, w13, w14, rfl, s23, ih2⟩ := pp
                obtain ⟨rfl, hz⟩ := yy
                rw [List.getElem?_map] at hz
                obtain ⟨z, hz0, ez⟩ := Option.map_eq_some_iff.mp hz
                subst ez
                have s83 := s82.trans s23
                dsimp only [gName, tSeq, tAsg, tNext]
                refine ⟨_, rfl, N, _, rfl, .inl (SqL.of (s83 _ _ hN8)), _, rfl, by omega, by rw [List.length_map, lx]; omega, fun D3 nD3 => ?_⟩
                refine lc_sift (ms := List.range ((((xs.map (fun x : Nl => V.ref x.t)).length : Nat) : Int)).toNat) (val := fun j => V.int (j : Nat)) walk_rangeY (by rw [List.length_range]) (fun j => decide (z ∈ nw (prs τ) (lo τ) j)) (fun j => V.int (j : Nat)) nD3 (by rw [List.length_range, en]; omega) (fun _ _ => trivial) (fun j hj H6 Yes No s6 yes no => ?_) (fun G5 s5 hD5 => ?_)
                · rw [en] at hj
                  have hj := List.mem_range.mp hj
                  obtain ⟨xj, hxj⟩ : ∃ x, xs[j]? = some x := ⟨xs[j]'(by omega), List.getElem?_eq_getElem _⟩
                  obtain ⟨qj, gj1, gj2, gj3⟩ := gW hj
                  have s86 := s83.trans s6
                  have yes' : z ∈ nw (prs τ) (lo τ) j → Yes (V.int (j : Nat)) H6 := fun h => yes _ (Same.refl _) (decide_eq_true h)
                  have no' : z ∉ nw (prs τ) (lo τ) j → No H6 := fun h => no _ (Same.refl _) (decide_eq_false h)
                  refine ⟨rfl, _, rfl, _, rfl, _, rfl, D, _, _, .ref qj, rfl, rfl, SqL.of (s86 _ _ hD), atI_nat gj2, qj, _, rfl, .inl (SqL.of (s86 _ _ gj3)), rfl, flat_strs _, _, rfl, ?_⟩
                  rw [if_neg (by decide), inV_strs]
                  by_cases h1 : z ∈ nms (lo τ j)
                  · rw [decide_eq_true h1]
                    refine iteT ⟨_, rfl, rfl, _, rfl, ?_⟩
                    by_cases j0 : j = 0
                    · subst j0
                      refine iteT (iteT ⟨_, rfl, yes' (nw_in.mpr ⟨h1, fun p e => ?_⟩)⟩)
                      rw [tiw.rt] at e
                      cases e
                    · have dj : decide (V.int (j : Nat) = V.int 0) = false := by
                        refine decide_eq_false fun e => ?_
                        injection e with e
                        omega
                      rw [dj]
                      obtain ⟨pp, hpp, lpp⟩ := tiw.up j (Nat.pos_of_ne_zero j0) (by omega)
                      have xp : xj.p = some pp := by rw [← paK hxj]; exact hpp
                      obtain ⟨qp, gp1, gp2, gp3⟩ := gW (k := pp) (by omega)
                      have hu' := tu8 hxj
                      rw [xp] at hu'
                      refine iteF ⟨_, rfl, _, rfl, _, rfl, _, rfl, N, _, _, .ref xj.t, rfl, rfl, SqL.of (s86 _ _ hN8), atI_nat (gN hxj), xj.t, _, 0, .int (pp : Nat), rfl, rfl, SqT.of (s86 _ _ hu'), rfl, D, _, _, .ref qp, rfl, rfl, SqL.of (s86 _ _ hD), atI_nat gp2, qp, _, rfl, .inl (SqL.of (s86 _ _ gp3)), rfl, flat_strs _, _, rfl, ?_⟩
                      rw [if_pos rfl, inV_strs]
                      by_cases h2 : z ∈ nms (lo τ pp)
                      · rw [decide_eq_true h2]
                        exact iteF (no' fun h => (nw_in.mp h).2 pp hpp h2)
                      · rw [decide_eq_false h2]
                        exact iteT ⟨_, rfl, yes' (nw_in.mpr ⟨h1, fun p e => by rw [hpp] at e; cases e; exact h2⟩)⟩
                  · rw [decide_eq_false h1]
                    exact iteF (iteF (no' fun h => h1 (nw_in.mp h).1))
                · rw [en, ← lτ] at hD5
                  have hD5 : G5 D3 = some (.lst (intsV (topsL τ z))) := hD5
                  refine ifs_ret (fun b H' => b = decide (1 < (topsL τ z).length) ∧ H' = G5) (fun R hR => ⟨_, rfl, D3, _, rfl, .inl (SqL.of hD5), _, _, rfl, rfl, _, rfl, hR _ _ ⟨?_, rfl⟩⟩) (fun H' pc => ?_) (fun H' pc => ?_)
                  · have : (intsV (topsL τ z)).length = (topsL τ z).length := List.length_map _
                    rw [this]
                    by_cases h : 1 < (topsL τ z).length
                    · rw [decide_eq_true h, decide_eq_true (show (((topsL τ z).length : Nat) : Int) > 1 by omega)]
                    · rw [decide_eq_false h, decide_eq_false (show ¬ (((topsL τ z).length : Nat) : Int) > 1 by omega)]
                  · obtain ⟨e, rfl⟩ := pc
                    have := of_decide_eq_true e.symm
                    exact bad8 (fun g => by have := tops_good g z; omega) _ (s83.trans s5)
                  · obtain ⟨e, rfl⟩ := pc
                    have := of_decide_eq_false e.symm
                    refine ⟨_, _, _, rfl, s23.trans s5, fun y hy => ?_⟩
                    rw [take_snoc hz0] at hy
                    rcases List.mem_append.mp hy with hy | hy
                    · exact ih2 y hy
                    · rw [List.mem_singleton.mp hy]
                      omega
              · obtain ⟨w12, w13, w14, rfl, s23, ih2⟩ := pp
                rw [List.length_map, List.take_length] at ih2
                refine ⟨_, _, _, _, rfl, s82.trans s23, fun k' hk' => ?_⟩
                by_cases e : k' = k
                · subst e
                  exact ⟨hnew, ih2⟩
                · exact ih k' (by omega)
        · rintro σ G ⟨v11, v12, v13, v14, rfl, sG, ih⟩
          rw [en] at ih
          refine ⟨_, rfl, kS τ ⟨⟨s.2, hs'⟩, good_tops (fun k h0 hk => (ih k (by omega)).1 h0) (fun k hk => (ih k (by omega)).2), asc⟩ G N xs (sH5.trans (s8.trans sG)) nN ⟨sG _ _ hN8, fun x m => ((hx5 x m).1.same s8).same sG⟩ hτ.symm⟩
end
end L2.LawH
set_option Elab.async false
set_option linter.all false
set_option maxRecDepth 100000
set_option maxHeartbeats 4000000
/-! _law_told. -/
namespace L2.LawH
open PySem PySem.Spec PyProof.Rows L2.TxtSet TL L2.NSet PySem.W L2.Cmp L2.Rws L2.ZipL L2.ExcN L2.ClsCall
abbrev sLTol : Stmt := top 48
def spLTol : Sp := fun vs H Q _ => ∃ (z : Str) (ls : List (List Nat)), vs = [.str z] ∧ LnsOk ls ∧ tl z = joinL [10] ls ∧
  ((∀ τ, ¬ RdOk ls τ) → ∀ H', Same H H' → Q .non H') ∧
  (∀ τ, RdOk ls τ → ∀ (H' : Hp) (N : Addr) (xs : List Nl), Same H H' → H N = none → NlsAt H' N xs → xs.map Nl.nd = τ → Q (.ref N) H')
theorem rd_len {ls : List (List Nat)} {τ : List Nd} (r : RdOk ls τ) : τ.length = ls.length := by
  obtain ⟨⟨ab, e⟩, _⟩ := r
  have := (told_of e).len
  simpa using this
section
variable {P : Program} {w : World} {K : PySem.W.Frag} {mg : Str → Option Value} {base : Heap}
theorem scLTol : FnScope ["_law_text"] ["_law_text"] (defScope sLTol) := ⟨rfl, rfl, rfl, by decide +kernel, rfl, by decide +kernel, by decide +kernel⟩
theorem ok_ltol {f fR pR fN pN C BT : Addr} {fd fdR fdN : FuncData} {mc : Value} (F : Fun K "_law_told" "_law_told" sLTol f fd) (T : ClQ K C)
    (GR : FnOk P w K mg base (L2.CX P w) 6 fR fdR ["cls", "text"] (spReadQ C BT)) (rR : ClX.CRead K C mc) (cR : ClX.CMet K C mc "read" pR fR) (bR : Binds K fdR ["cls", "text"] [])
    (PN : PropOf K C "nodes" pN fN) (GN : FnOk P w K mg base CX0 1 fN fdN ["self"] (spNodQ C)) (bN : Binds K fdN ["self"] [])
    (mC : mg "Question" = some (.ref C)) (mB : mg "BadText" = some (.ref BT)) (te : PySem.W.exmOne K (.ref BT) (.ref BT) = some true) : FnOk P w K mg base CX0 7 f fd ["_law_text"] spLTol := by
  refine F.ok scLTol (fun vs H Q E h => ?_) (fun cdv A outer s H vs Q E hr h => ?_)
  · obtain ⟨_, _, rfl, _⟩ := h
    rfl
  · obtain ⟨z, ls, rfl, lok, ez, kN, kS⟩ := h
    have hr2 : Room 2 _ := hr.mono (by decide)
    refine ⟨_, pss_one (ps_try_only rfl rfl ⟨rfl, by decide, .inl mB⟩ takes0 (fun W pn xe tk _ =>
        pss_one (ps_ret (pe_prop (pe_cmethS (pe_glob (v := .ref C) (by rfl) mC rfl) rR cR GR hr bR (fun σ => passAt tk σ) (pa_cons (pv 0) pa_nil)) T.cl PN GN hr2 bN .nil pass0 rfl)))
      (fun a oe cls d pn hz hf => pss_one (ps_ret pe_non))), ?_⟩
    refine ⟨rfl, _, rfl, z, ls, rfl, lok, ez, fun no H' s' => ⟨true, te, fun _ a na => kN no _ s', fun q => nomatch q⟩, fun τ r H' g s' ng qa => ?_⟩
    obtain ⟨dx, rr, _, _, _, _, _, hp, _⟩ := id qa.ex
    exact ⟨g, dx, _, rfl, hp, g, τ, rfl, qa, by rw [rd_len r]; have := lok.few; omega, fun H2 N xs s2 nN hN e => kS τ r H2 N xs (s'.trans s2) (none_of s' nN) hN e⟩
end
end L2.LawH
set_option Elab.async false
set_option linter.all false
set_option maxRecDepth 100000
set_option maxHeartbeats 4000000
/-! _law_bent. -/
namespace L2.LawH
open PySem PySem.Spec PyProof.Rows L2.TxtSet TL L2.NSet PySem.W L2.Cmp L2.Rws L2.ZipL L2.ExcN L2.ClsCall
abbrev sLBen : Stmt := top 49
/-- a line that was bent n times -/
structure Ln (n : Nat) (z : Str) : Prop where
  len : (tl z).length + 1 ≤ 126 * 2 ^ n
  chr : ∀ c ∈ tl z, c ≠ 10 ∧ c < 0x110000
  spc : (tl z).count 32 ≤ 6 + n
theorem Ln.of {n : Nat} {z y : Str} (h : Ln n z) (l : (tl y).length ≤ 2 * (tl z).length + 1) (c : ∀ c ∈ tl y, c ≠ 10 ∧ c < 0x110000) (s : (tl y).count 32 ≤ (tl z).count 32 + 1) : Ln (n + 1) y := by
  have h1 := h.len
  have h2 := h.spc
  refine ⟨?_, c, by omega⟩
  rw [Nat.pow_succ]
  omega
theorem Ln.up {n : Nat} {z : Str} (h : Ln n z) : Ln (n + 1) z := h.of (by omega) h.chr (by omega)
theorem Ln.le {n : Nat} {z : Str} (h : Ln n z) (hn : n ≤ 3) : (tl z).length ≤ 1007 := by
  have := h.len
  have e : 2 ^ n ≤ 2 ^ 3 := Nat.pow_le_pow_right (by decide) hn
  have e3 : (2 : Nat) ^ 3 = 8 := rfl
  rw [e3] at e
  omega
structure Bnt (n : Nat) (zs : List Str) : Prop where
  ne : zs ≠ []
  few : zs.length ≤ 6 + n
  ea : ∀ z ∈ zs, Ln n z
theorem Bnt.ok {n : Nat} {zs : List Str} (h : Bnt n zs) (hn : n ≤ 3) : LnsOk (zs.map tl) := by
  refine ⟨by simpa using h.ne, ?_, fun l m => ?_, fun l m => ?_, fun l m => ?_, fun l m => ?_⟩
  · rw [List.length_map]
    have := h.few
    omega
  all_goals
    obtain ⟨z, mz, rfl⟩ := List.mem_map.mp m
    have hz := h.ea z mz
  · have := hz.le hn
    omega
  · exact fun h10 => (hz.chr 10 h10).1 rfl
  · exact fun c hc => (hz.chr c hc).2
  · have := hz.spc
    omega
def spLBen : Sp := fun vs H Q _ => ∃ (a r q : Addr) (m n : Nat) (zs : List Str), vs = [.ref a, .ref q] ∧ DrwAt a r (m + 4) H ∧ Off a r H q = some (.lst (zs.map V.str)) ∧ Bnt n zs ∧ n ≤ 2 ∧
  ∀ (l : Addr) (ys : List Str) (H' : Hp), Off a r H' l = some (.lst (ys.map V.str)) → Bnt (n + 1) ys → DrwAt a r m H' → Kp a r H H' → Q (.ref l) H'
theorem sum_rev : ∀ l : List Nat, l.reverse.sum = l.sum
  | [] => rfl
  | x :: l => by
    rw [List.reverse_cons, List.sum_append, sum_rev l, List.sum_cons, List.sum_cons, List.sum_nil]
    omega
theorem joinL_mem {c : Nat} : ∀ {X : List (List Nat)}, c ∈ joinL [32] X → c = 32 ∨ ∃ p ∈ X, c ∈ p
  | [], h => by cases h
  | [p], h => .inr ⟨p, List.mem_cons_self, h⟩
  | p :: q :: X, h => by
    rw [joinL_cons _ _ (by simp)] at h
    rcases List.mem_append.mp h with h | h
    · exact .inr ⟨p, List.mem_cons_self, h⟩
    rcases List.mem_append.mp h with h | h
    · exact .inl (by simpa using h)
    rcases joinL_mem h with h | ⟨y, my, hy⟩
    · exact .inl h
    · exact .inr ⟨y, List.mem_cons_of_mem _ my, hy⟩
theorem wds_tl (l : List Nat) : (wds l).map tl = spl [32] 0 [] l := by
  unfold wds
  rw [List.map_map]
  have : (tl ∘ fun x : List Nat => (⟨x.toArray⟩ : Str)) = id := by
    funext x
    exact str_tl x
  rw [this, List.map_id]
theorem wds_sp {l : List Nat} {y : Str} (h : y ∈ wds l) : (tl y).count 32 = 0 := by
  have : tl y ∈ spl [32] 0 [] l := by
    rw [← wds_tl]
    exact List.mem_map_of_mem h
  exact List.count_eq_zero.mpr (spl_nosep l [] (by simp) _ this)
theorem wds_join (l : List Nat) : joinL [32] ((wds l).map tl) = l := by
  rw [wds_tl, join_spl]
  rfl
theorem sum_zero : ∀ {l : List Nat}, (∀ x ∈ l, x = 0) → l.sum = 0
  | [], _ => rfl
  | x :: l, h => by
    rw [List.sum_cons, h x List.mem_cons_self, sum_zero fun y m => h y (List.mem_cons_of_mem _ m)]
theorem ld_count (l : List Nat) : ld l ≤ l.count 32 := by
  have h := congrArg (List.count 32) (lin_of l)
  rw [List.count_append, List.count_replicate_self] at h
  omega
/-- other words of a line, put together -/
theorem words_of {l : List Nat} {W : List Str} (h : ∀ y ∈ W, y ∈ wds l) : (∀ c ∈ joinL [32] (W.map tl), c = 32 ∨ c ∈ l) ∧ (joinL [32] (W.map tl)).count 32 = W.length - 1 := by
  refine ⟨fun c hc => ?_, ?_⟩
  · rcases joinL_mem hc with h1 | ⟨p, mp, hp⟩
    · exact .inl h1
    · obtain ⟨y, my, rfl⟩ := List.mem_map.mp mp
      exact .inr ((wds_mem (h y my)).2 c hp)
  · rw [joinL_cnt, List.length_map, List.map_map, sum_zero fun x mx => ?_]
    · omega
    · obtain ⟨y, my, rfl⟩ := List.mem_map.mp mx
      exact wds_sp (h y my)
theorem sgnB_ok : (Str.ofString " (),?-ab019_A").cps.toList.all (fun c => decide (c ≠ 10) && decide (c < 0x110000)) = true := by decide +kernel
theorem sgnB_len : (Str.ofString " (),?-ab019_A").cps.toList.length = 13 := by decide +kernel
theorem rd_mid {K : PySem.W.Frag} {te ti : TE} {σ : St} {H : Hp} {Q : VK} {q : Addr} {zs : List Str} {a j : Nat} {Pz : Str → Prop} (h1 : σ[1]? = some (some (.ref q))) (h2 : σ[2]? = some (some (.int (a : Nat)))) (hq : H q = some (.lst (zs.map V.str))) (few : zs.length ≤ 100)
    (hE : ∀ (H2 : Hp), Same H H2 → ∀ R : VK, (∀ (H3 : Hp) (z : Str), Same H2 H3 → Pz z → R (.str z) H3) → te σ H2 R) (hI : ∀ (H2 : Hp) (R : VK), R (.int (j : Nat)) H2 → ti σ H2 R)
    (k : ∀ (l : Addr) (z : Str) (H' : Hp), Same H H' → H l = none → Pz z → H' l = some (.lst ((zs.take a ++ [z] ++ zs.drop j).map V.str)) → Q (.ref l) H') :
    tOp rCat (tOp rCat (tSl (rSlL K) (tVar 1) tNoPart (tPart (tVar 2))) (tLst (tCons te tNil))) (tSl (rSlL K) (tVar 1) (tPart ti) tNoPart) σ H Q := by
  refine ⟨_, h1, _, h2, _, rfl, q, _, rfl, SqL.of hq, fun A nA => ?_⟩
  rw [cutV_to, ← List.map_take]
  have u1 := same_new (o := .lst ((zs.take a).map V.str)) nA
  have c1 : (upd H A (.lst ((zs.take a).map V.str))) A = some (.lst ((zs.take a).map V.str)) := upd_same
  generalize upd H A (.lst ((zs.take a).map V.str)) = H1 at u1 c1 ⊢
  refine hE _ u1 _ fun H3 z s3 pz => ⟨(by show 1 ≤ sizeLine; decide), fun B nB => ?_⟩
  have u4 := same_new (o := .lst [V.str z]) nB
  refine ⟨A, B, _, _, rfl, rfl, u4 _ _ (s3 _ _ c1), upd_same, ?_, fun C nC => ?_⟩
  · rw [List.length_map, List.length_take, sizeLine_eq]
    show _ + 1 ≤ _
    omega
  have s4 := s3.trans u4
  generalize upd H3 B (.lst [V.str z]) = H4 at s4 nC ⊢
  have eC : (zs.take a).map V.str ++ [V.str z] = (zs.take a ++ [z]).map V.str := by simp
  rw [eC]
  have u5 := same_new (o := .lst ((zs.take a ++ [z]).map V.str)) nC
  have c5 : (upd H4 C (.lst ((zs.take a ++ [z]).map V.str))) C = some (.lst ((zs.take a ++ [z]).map V.str)) := upd_same
  generalize upd H4 C (.lst ((zs.take a ++ [z]).map V.str)) = H5 at u5 c5 ⊢
  have s15 := u1.trans (s4.trans u5)
  refine ⟨_, h1, hI _ _ ⟨_, rfl, q, _, rfl, SqL.of (s15 _ _ hq), fun D nD => ?_⟩⟩
  rw [cutV_from, ← List.map_drop]
  have u6 := same_new (o := .lst ((zs.drop j).map V.str)) nD
  refine ⟨C, D, _, _, rfl, rfl, u6 _ _ c5, upd_same, ?_, fun l nl => ?_⟩
  · rw [List.length_map, List.length_map, List.length_append, List.length_take, List.length_drop, List.length_singleton, sizeLine_eq]
    omega
  have s16 := s15.trans u6
  refine k l z _ (s16.trans (same_new nl)) (none_of s16 nl) pz ?_
  rw [upd_same, ← List.map_append]
section
variable {P : Program} {w : World} {K : PySem.W.Frag} {mg : Str → Option Value} {base : Heap}
abbrev pLBen : List Str := ["_law_pool_here", "_law_lines_here"]
abbrev nLBen : List Str := ["_law_pool_here", "_law_lines_here", "_law_at", "_law_line", "_law_what", "_law_depth_here", "_law_words_here", "_law_spot", "_law_place", "_law_sign"]
theorem scLBen : FnScope nLBen pLBen (defScope sLBen) := ⟨rfl, rfl, rfl, by decide +kernel, rfl, by decide +kernel, by decide +kernel⟩
theorem ok_lben {f fD : Addr} {fd fdD : FuncData} (F : Fun K "_law_bent" "_law_bent" sLBen f fd)
    (GD : FnOk P w K mg base CX0 1 fD fdD ["_law_pool_here", "_law_limit"] spDraw3) (kD : PySem.W.keepIn K (.ref fD) = true) (bD : Binds K fdD ["_law_pool_here", "_law_limit"] []) (mD : mg "_law_draw" = some (.ref fD))
    (ml : mg "len" = none) (mi : mg "int" = none) : FnOk P w K mg base CX0 2 f fd pLBen spLBen := by
  refine F.ok scLBen (fun vs H Q E h => ?_) (fun cdv A outer s H vs Q E hr h => ?_)
  · obtain ⟨_, _, _, _, _, _, rfl, _⟩ := h
    rfl
  · obtain ⟨a, r, q, m, n, zs, rfl, hs, hq, bt, n2, k⟩ := h
    have hr1 : Room 1 _ := hr.mono (by decide)
    refine ⟨_, pss_cons (ps_set (i := 2) scLBen.nd rfl (Or.inl rfl) (pe_call GD hr1 (by rfl) mD kD bD .nil pass0 (pa_cons (pv 0) (pa_cons (pe_callB (call_len_seqK (K := K) rfl) (by rfl) ml (by decide +kernel) (pa_cons (pv 1) pa_nil)) pa_nil))))
      (pss_cons (ps_set (i := 3) scLBen.nd rfl (Or.inl rfl) (pe_ix ix_list (pv 1) (pv 2) (fun _ _ => rfl)))
      (pss_cons (ps_set (i := 4) scLBen.nd rfl (Or.inl rfl) (pe_call GD hr1 (by rfl) mD kD bD .nil pass0 (pa_cons (pv 0) (pa_cons pe_int pa_nil))))
      (pss_cons (ps_if (PW.pt (pw_and (pt_cmpR op_eq (pv 4) pe_int (nomark _)) (pw_and1 (pt_cmpR op_gt (pe_callB (call_len_seqK (K := K) rfl) (by rfl) ml (by decide +kernel) (pa_cons (pv 1) pa_nil)) pe_int (nomark _)))))
        (pss_one (ps_ret (pe_op op_cat (pe_slice sl_list (pv 1) po_none (po_some (pv 2))) (pe_slice sl_list (pv 1) (po_some (pe_op op_add (pv 2) pe_int)) po_none)))) pss_nil)
      (pss_cons (ps_if (pt_cmpR op_eq (pv 4) pe_int (nomark _)) (pss_one (ps_ret (pe_op op_cat (pe_op op_cat (pe_slice sl_list (pv 1) po_none (po_some (pv 2))) (pe_lst (pa_cons (pv 3) pa_nil))) (pe_slice sl_list (pv 1) (po_some (pv 2)) po_none)))) pss_nil)
      (pss_cons (ps_if (pt_cmpR op_eq (pv 4) pe_int (nomark _)) (pss_one (ps_ret (pe_op op_cat (pe_op op_cat (pe_slice sl_list (pv 1) po_none (po_some (pv 2))) (pe_lst (pa_cons (pe_op op_add_str pe_str (pv 3)) pa_nil))) (pe_slice sl_list (pv 1) (po_some (pe_op op_add (pv 2) pe_int)) po_none)))) pss_nil)
      (pss_cons (ps_if (pt_cmpR op_eq (pv 4) pe_int (nomark _)) (pss_one (ps_ret (pe_op op_cat (pe_op op_cat (pe_slice sl_list (pv 1) po_none (po_some (pv 2))) (pe_lst (pa_cons (pe_slice sl_str (pv 3) (po_some pe_int) po_none) pa_nil))) (pe_slice sl_list (pv 1) (po_some (pe_op op_add (pv 2) pe_int)) po_none)))) pss_nil)
      (pss_cons (ps_if (pt_cmpR op_eq (pv 4) pe_int (nomark _)) (pss_one (ps_ret (pe_op op_cat (pe_op op_cat (pe_slice sl_list (pv 1) po_none (po_some (pv 2))) (pe_revL (pe_slice sl_list (pv 1) (po_some (pv 2)) (po_some (pe_op op_add (pv 2) pe_int))))) (pe_slice sl_list (pv 1) (po_some (pe_op op_add (pv 2) pe_int)) po_none)))) pss_nil)
      (pss_cons (ps_if (pt_cmpR op_eq (pv 4) pe_int (nomark _))
        (pss_cons (ps_set (i := 5) scLBen.nd rfl (Or.inl rfl) (pe_op op_sub (pe_callB call_len_str (by rfl) ml (by decide +kernel) (pa_cons (pv 3) pa_nil)) (pe_callB call_len_str (by rfl) ml (by decide +kernel) (pa_cons (pe_bm PySem.F.plainAttrs_str PySem.F.slot_str_lstrip PySem.F.type_str_lstrip mt_lstripChars (pv 3) (pa_cons pe_str pa_nil)) pa_nil))))
        (pss_one (ps_ret (pe_op op_cat (pe_op op_cat (pe_slice sl_list (pv 1) po_none (po_some (pv 2))) (pe_lst (pa_cons (pe_op op_add_str (pe_op op_mul_str pe_str (pv 5)) (pe_join pe_str (pe_revL (pe_split (pe_slice sl_str (pv 3) (po_some (pv 5)) po_none) pe_str)))) pa_nil))) (pe_slice sl_list (pv 1) (po_some (pe_op op_add (pv 2) pe_int)) po_none))))) pss_nil)
      (pss_cons (ps_if (pt_cmpR op_eq (pv 4) pe_int (nomark _)) (pss_one (ps_ret (pe_op op_cat (pv 1) (pe_lst (pa_cons pe_str pa_nil))))) pss_nil)
      (pss_cons (ps_if (pt_cmpR op_eq (pv 4) pe_int (nomark _))
        (pss_cons (ps_set (i := 6) scLBen.nd rfl (Or.inl rfl) (pe_split (pv 3) pe_str))
        (pss_cons (ps_set (i := 7) scLBen.nd rfl (Or.inl rfl) (pe_call GD hr1 (by rfl) mD kD bD .nil pass0 (pa_cons (pv 0) (pa_cons (pe_callB (call_len_seqK (K := K) rfl) (by rfl) ml (by decide +kernel) (pa_cons (pv 6) pa_nil)) pa_nil))))
        (pss_one (ps_ret (pe_op op_cat (pe_op op_cat (pe_slice sl_list (pv 1) po_none (po_some (pv 2))) (pe_lst (pa_cons (pe_join pe_str (pe_op op_cat (pe_slice sl_list (pv 6) po_none (po_some (pe_op op_add (pv 7) pe_int))) (pe_slice sl_list (pv 6) (po_some (pv 7)) po_none))) pa_nil))) (pe_slice sl_list (pv 1) (po_some (pe_op op_add (pv 2) pe_int)) po_none)))))) pss_nil)
      (pss_cons (ps_set (i := 8) scLBen.nd rfl (Or.inl rfl) (pe_call GD hr1 (by rfl) mD kD bD .nil pass0 (pa_cons (pv 0) (pa_cons (pe_op op_add (pe_callB call_len_str (by rfl) ml (by decide +kernel) (pa_cons (pv 3) pa_nil)) pe_int) pa_nil))))
      (pss_cons (ps_set (i := 9) scLBen.nd rfl (Or.inl rfl) (pe_ix ix_str pe_str (pe_call GD hr1 (by rfl) mD kD bD .nil pass0 (pa_cons (pv 0) (pa_cons pe_int pa_nil))) (fun _ _ => rfl)))
      (pss_one (ps_ret (pe_op op_cat (pe_op op_cat (pe_slice sl_list (pv 1) po_none (po_some (pv 2))) (pe_lst (pa_cons (pe_op op_add_str (pe_op op_add_str (pe_slice sl_str (pv 3) po_none (po_some (pv 8))) (pe_op op_mul_str (pv 9) (pe_callTy call_int1 (by rfl) mi (by decide +kernel) (pa_cons (pe_cmpR op_lt (pv 4) pe_int (nomark _)) pa_nil))))
          (pe_slice sl_str (pv 3) (po_some (pe_op op_add (pv 8) (pe_callTy call_int1 (by rfl) mi (by decide +kernel) (pa_cons (pe_cmpR op_gt (pv 4) pe_int (nomark _)) pa_nil)))) po_none)) pa_nil))) (pe_slice sl_list (pv 1) (po_some (pe_op op_add (pv 2) pe_int)) po_none)))))))))))))))), ?_⟩
    have few := bt.few
    have pos : 0 < zs.length := List.length_pos_iff.mpr bt.ne
    have hq0 := off_le _ _ hq
    refine ⟨_, rfl, _, rfl, q, _, rfl, .inl (SqL.of hq0), a, r, m + 3, _, rfl, hs, by rw [List.length_map]; omega, by rw [List.length_map]; omega, fun x H1 x0 x1 s1 k1 => ?_⟩
    rw [List.length_map] at x1
    obtain ⟨j, rfl⟩ : ∃ j : Nat, x = j := ⟨x.toNat, by omega⟩
    have hj : j < zs.length := by omega
    have hq1 := off_le _ _ (k1 _ _ hq)
    have ml0 := List.getElem_mem hj
    refine ⟨_, rfl, _, rfl, q, _, _, .str zs[j], rfl, rfl, SqL.of hq1, atI_nat (strs_get hj), ?_⟩
    generalize hline : zs[j] = line at ml0
    have L0 := bt.ea _ ml0
    have ll := L0.le (by omega)
    refine ⟨_, rfl, a, r, m + 2, 11, rfl, s1, by decide, by decide, fun x2 H2 x20 x21 s2 k2 => ?_⟩
    have k12 := k1.trans k2
    have hq2 := off_le _ _ (k12 _ _ hq)
    have up : ∀ z ∈ zs, Ln (n + 1) z := fun z hz => (bt.ea z hz).up
    -- what is told
    have tell : ∀ (G : Hp) (mm : Nat), DrwAt a r mm G → m ≤ mm → Kp a r H G → ∀ (l : Addr) (ys : List Str) (H' : Hp), Same G H' → G l = none → H' l = some (.lst (ys.map V.str)) → Bnt (n + 1) ys → Q (.ref l) H' := fun G mm dG lm kG l ys H' s' nl hl b => by
      obtain ⟨z1, z2⟩ := dG.ne nl
      exact k l ys H' (by rw [off_of z1 z2]; exact hl) b ((dG.same s').mono lm) (kG.trans (Kp.of s'))
    have midB : ∀ (z : Str) (j2 : Nat), Ln (n + 1) z → j ≤ j2 → Bnt (n + 1) (zs.take j ++ [z] ++ zs.drop j2) := fun z j2 hz h => by
      refine ⟨by simp, ?_, fun y hy => ?_⟩
      · rw [List.length_append, List.length_append, List.length_take, List.length_drop, List.length_singleton]
        omega
      · rcases List.mem_append.mp hy with hy | hy
        · rcases List.mem_append.mp hy with hy | hy
          · exact up y (List.mem_of_mem_take hy)
          · rw [List.mem_singleton.mp hy]
            exact hz
        · exact up y (List.mem_of_mem_drop hy)
    have ej : (j : Int) + 1 = ((j + 1 : Nat) : Int) := by omega
    have szl : line.length ≤ sizeLine := by rw [len_tl, sizeLine_eq]; omega
    have idx : ∀ (σ : St), σ[2]? = some (some (.int (j : Nat))) → ∀ (G : Hp) (R : VK), R (.int ((j + 1 : Nat) : Int)) G → tOp (rI0 fun i j => V.int (i + j)) (tVar 2) (tC (V.int 1)) σ G R := fun σ h2 G R hR => ⟨_, h2, _, _, rfl, rfl, by rw [← ej] at hR; exact hR⟩
    have sp1 : (Str.ofString " ").length = 1 := by decide +kernel
    have spt : tl (Str.ofString " ") = [32] := by decide +kernel
    dsimp only [gName]
    -- 0
    refine ifs_ret (fun b H' => H' = H2 ∧ (b = true → 1 < zs.length)) (fun R hR => ⟨_, rfl, rfl, _, rfl, ite2 (fun c0 => ⟨_, rfl, q, _, rfl, .inl (SqL.of hq2), _, _, rfl, rfl, _, rfl, hR _ _ ⟨rfl, fun c => ?_⟩⟩) (fun c0 => hR false _ ⟨rfl, fun e => nomatch e⟩)⟩) (fun H' pc => ?_) (fun H' pc => ?_)
    · have := of_decide_eq_true c
      rw [List.length_map] at this
      omega
    · obtain ⟨rfl, l1⟩ := pc
      have l1 := l1 rfl
      refine ⟨_, rfl, _, rfl, _, rfl, q, _, rfl, SqL.of hq2, fun A nA => ?_⟩
      rw [cutV_to, ← List.map_take]
      have u1 := same_new (o := .lst ((zs.take j).map V.str)) nA
      have cA : (upd H' A (.lst ((zs.take j).map V.str))) A = some (.lst ((zs.take j).map V.str)) := upd_same
      generalize upd H' A (.lst ((zs.take j).map V.str)) = H3 at u1 cA ⊢
      refine ⟨_, rfl, idx _ rfl _ _ ⟨_, rfl, q, _, rfl, SqL.of (u1 _ _ hq2), fun B nB => ?_⟩⟩
      rw [cutV_from, ← List.map_drop]
      have u2 := same_new (o := .lst ((zs.drop (j + 1)).map V.str)) nB
      refine ⟨A, B, _, _, rfl, rfl, u2 _ _ cA, upd_same, ?_, fun l nl => ?_⟩
      · rw [List.length_map, List.length_map, List.length_take, List.length_drop, sizeLine_eq]
        omega
      have s13 := u1.trans (u2.trans (same_new (o := .lst ((zs.take j).map V.str ++ (zs.drop (j + 1)).map V.str)) nl))
      refine tell H' (m + 2) s2 (by omega) k12 l (zs.take j ++ zs.drop (j + 1)) _ s13 (none_of (u1.trans u2) nl) (by rw [upd_same, List.map_append]) ⟨?_, ?_, fun y hy => ?_⟩
      · intro e
        have := congrArg List.length e
        rw [List.length_append, List.length_take, List.length_drop, List.length_nil] at this
        omega
      · rw [List.length_append, List.length_take, List.length_drop]
        omega
      · rcases List.mem_append.mp hy with hy | hy
        · exact up y (List.mem_of_mem_take hy)
        · exact up y (List.mem_of_mem_drop hy)
    obtain ⟨rfl, _⟩ := pc
    -- 1
    refine ⟨_, rfl, rfl, _, rfl, ite2 (fun c1 => ?_) (fun c1 => ?_)⟩
    · refine rd_mid (Pz := fun z => z = line) (a := j) (j := j) rfl rfl hq2 (by omega) (fun H3 s3 R hR => ⟨_, rfl, hR _ _ (Same.refl _) rfl⟩) (fun H3 R hR => ⟨_, rfl, hR⟩) (fun l z H5 s5 nl pz hl => ?_)
      subst pz
      exact tell _ _ s2 (by omega) k12 l _ H5 s5 nl hl (midB _ _ L0.up (Nat.le_refl _))
    -- 2
    refine ⟨_, rfl, rfl, _, rfl, ite2 (fun c1 => ?_) (fun c1 => ?_)⟩
    · refine rd_mid (Pz := fun z => z = Str.ofString " " ++ line) (a := j) (j := j + 1) rfl rfl hq2 (by omega) (fun H3 s3 R hR => ⟨_, rfl, _, _, rfl, rfl, by rw [sp1, len_tl, sizeLine_eq]; omega, hR _ _ (Same.refl _) rfl⟩) (idx _ rfl) (fun l z H5 s5 nl pz hl => ?_)
      refine tell _ _ s2 (by omega) k12 l _ H5 s5 nl hl (midB _ _ ?_ (by omega))
      have et : tl z = 32 :: tl line := by rw [pz, tl_append, spt]; rfl
      refine L0.of ?_ (fun c hc => ?_) ?_
      · rw [et, List.length_cons]
        omega
      · rw [et] at hc
        rcases List.mem_cons.mp hc with rfl | hc
        · decide
        · exact L0.chr c hc
      · rw [et, List.count_cons_self]
        exact Nat.le_refl _
    -- 3
    refine ⟨_, rfl, rfl, _, rfl, ite2 (fun c1 => ?_) (fun c1 => ?_)⟩
    · refine rd_mid (Pz := fun z => z = cutS line (some ((1 : Nat) : Int)) none) (a := j) (j := j + 1) rfl rfl hq2 (by omega) (fun H3 s3 R hR => ⟨_, rfl, 1, rfl, line, rfl, szl, hR _ _ (Same.refl _) rfl⟩) (idx _ rfl) (fun l z H5 s5 nl pz hl => ?_)
      refine tell _ _ s2 (by omega) k12 l _ H5 s5 nl hl (midB _ _ ?_ (by omega))
      have et : tl z = (tl line).drop 1 := by rw [pz, cut_from]
      refine L0.of ?_ (fun c hc => ?_) ?_
      · rw [et, List.length_drop]
        omega
      · rw [et] at hc
        exact L0.chr c (List.mem_of_mem_drop hc)
      · rw [et]
        have := (List.drop_sublist 1 (tl line)).count_le 32
        omega
    -- 4
    refine ⟨_, rfl, rfl, _, rfl, ite2 (fun c1 => ?_) (fun c1 => ?_)⟩
    · refine ⟨_, rfl, _, rfl, _, rfl, q, _, rfl, SqL.of hq2, fun A nA => ?_⟩
      rw [cutV_to, ← List.map_take]
      have u1 := same_new (o := .lst ((zs.take j).map V.str)) nA
      have cA : (upd H' A (.lst ((zs.take j).map V.str))) A = some (.lst ((zs.take j).map V.str)) := upd_same
      generalize upd H' A (.lst ((zs.take j).map V.str)) = H3 at u1 cA ⊢
      refine ⟨_, rfl, _, rfl, _, rfl, _, rfl, _, _, rfl, rfl, _, rfl, q, _, rfl, SqL.of (u1 _ _ hq2), fun B nB => ?_⟩
      dsimp only
      rw [cutV_pn _ j 2 ((j : Int) + 2) rfl, ← List.map_drop, ← List.map_take]
      have u2 := same_new (o := .lst (((zs.drop j).take 2).map V.str)) nB
      have cB : (upd H3 B (.lst (((zs.drop j).take 2).map V.str))) B = some (.lst (((zs.drop j).take 2).map V.str)) := upd_same
      generalize upd H3 B (.lst (((zs.drop j).take 2).map V.str)) = H4 at u2 cB ⊢
      refine ⟨B, _, rfl, SqL.of cB, fun B2 nB2 => ?_⟩
      rw [← List.map_reverse]
      have u3 := same_new (o := .lst (((zs.drop j).take 2).reverse.map V.str)) nB2
      have cB2 : (upd H4 B2 (.lst (((zs.drop j).take 2).reverse.map V.str))) B2 = some (.lst (((zs.drop j).take 2).reverse.map V.str)) := upd_same
      generalize upd H4 B2 (.lst (((zs.drop j).take 2).reverse.map V.str)) = H5 at u3 cB2 ⊢
      refine ⟨A, B2, _, _, rfl, rfl, u3 _ _ (u2 _ _ cA), cB2, ?_, fun C nC => ?_⟩
      · rw [List.length_map, List.length_map, List.length_reverse, List.length_take, List.length_take, sizeLine_eq]
        omega
      rw [← List.map_append]
      have u4 := same_new (o := .lst ((zs.take j ++ ((zs.drop j).take 2).reverse).map V.str)) nC
      have cC : (upd H5 C (.lst ((zs.take j ++ ((zs.drop j).take 2).reverse).map V.str))) C = some (.lst ((zs.take j ++ ((zs.drop j).take 2).reverse).map V.str)) := upd_same
      generalize upd H5 C (.lst ((zs.take j ++ ((zs.drop j).take 2).reverse).map V.str)) = H6 at u4 cC ⊢
      have s16 := u1.trans (u2.trans (u3.trans u4))
      refine ⟨_, rfl, _, rfl, _, _, rfl, rfl, _, rfl, q, _, rfl, SqL.of (s16 _ _ hq2), fun B3 nB3 => ?_⟩
      dsimp only
      rw [show ((j : Int) + 2) = ((j + 2 : Nat) : Int) by omega, cutV_from, ← List.map_drop]
      have u5 := same_new (o := .lst ((zs.drop (j + 2)).map V.str)) nB3
      refine ⟨C, B3, _, _, rfl, rfl, u5 _ _ cC, upd_same, ?_, fun l nl => ?_⟩
      · simp only [List.length_map, List.length_append, List.length_reverse, List.length_take, List.length_drop]
        rw [sizeLine_eq]
        omega
      have s17 := s16.trans u5
      refine tell _ _ s2 (by omega) k12 l (zs.take j ++ ((zs.drop j).take 2).reverse ++ zs.drop (j + 2)) _ (s17.trans (same_new nl)) (none_of s17 nl) (by rw [upd_same, ← List.map_append]) ⟨?_, ?_, fun y hy => ?_⟩
      · intro e
        have := congrArg List.length e
        rw [List.length_append, List.length_append, List.length_reverse, List.length_take, List.length_take, List.length_drop, List.length_drop, List.length_nil] at this
        omega
      · rw [List.length_append, List.length_append, List.length_reverse, List.length_take, List.length_take, List.length_drop, List.length_drop]
        omega
      · rcases List.mem_append.mp hy with hy | hy
        · rcases List.mem_append.mp hy with hy | hy
          · exact up y (List.mem_of_mem_take hy)
          · exact up y (List.mem_of_mem_drop (List.mem_of_mem_take (List.mem_reverse.mp hy)))
        · exact up y (List.mem_of_mem_drop hy)
    -- 5
    refine ⟨_, rfl, rfl, _, rfl, ite2 (fun c1 => ?_) (fun c1 => ?_)⟩
    · have d16 : ld (tl line) ≤ 8 := by
        have := ld_count (tl line)
        have := L0.spc
        omega
      have bl := bd_len (tl line)
      have lR : (Txt.lstripChars line spS).length = (bd (tl line)).length := by rw [len_tl, tl_lstrip]
      have ed : ((line.length : Nat) : Int) - ((Txt.lstripChars line spS).length : Nat) = ((ld (tl line) : Nat) : Int) := by
        rw [lR, len_tl]
        unfold ld
        omega
      refine ⟨_, rfl, line, rfl, szl, _, rfl, rfl, line, spS, rfl, rfl, szl, _, rfl, by rw [lR, sizeLine_eq]; omega, _, _, rfl, rfl, ?_⟩
      dsimp only
      rw [ed]
      have lw := wds_len (bd (tl line))
      have sumw := joinL_len ((wds (bd (tl line))).map tl)
      rw [wds_join, List.length_map] at sumw
      have wo := words_of (l := bd (tl line)) (W := (wds (bd (tl line))).reverse) fun y hy => List.mem_reverse.mp hy
      have lenR : (joinL [32] ((wds (bd (tl line))).reverse.map tl)).length = (bd (tl line)).length := by
        rw [joinL_len, List.length_map, List.length_reverse, List.map_map, List.map_reverse, sum_rev, ← List.map_map]
        exact sumw.symm
      refine rd_mid (Pz := fun z => tl z = List.replicate (ld (tl line)) 32 ++ joinL [32] ((wds (bd (tl line))).reverse.map tl)) (a := j) (j := j + 1) rfl rfl hq2 (by omega) (fun H3 s3 R hR => ?_) (idx _ rfl) (fun l z H5 s5 nl pz hl => ?_)
      · have mo : MulOk (Str.ofString " ") ((ld (tl line) : Nat) : Int) := mul_ok (by rw [sp1]; omega) (by omega)
        refine ⟨_, rfl, _, _, rfl, rfl, mo, ⟨_, rfl⟩, _, rfl, _, rfl, _, rfl, line, rfl, szl, ⟨_, rfl⟩, cutS line (some ((ld (tl line) : Nat) : Int)) none, spS, rfl, rfl, by decide +kernel, ?_, fun S nS => ?_⟩
        · rw [len_tl, cut_from, drop_ld, sizeLine_eq]
          omega
        have eW : Txt.split (cutS line (some ((ld (tl line) : Nat) : Int)) none) spS = wds (bd (tl line)) := by rw [split_wds, cut_from, drop_ld]
        rw [eW]
        refine ⟨S, _, rfl, SqL.of upd_same, fun T nT => ?_⟩
        rw [← List.map_reverse]
        refine ⟨_, T, _, rfl, rfl, .inl (SqL.of upd_same), ?_, ?_⟩
        · have := joinL_len ((wds (bd (tl line))).reverse.map tl)
          rw [lenR, List.length_map, List.map_map] at this
          rw [sp1, List.length_reverse]
          have e2 : (List.map (fun x : Str => x.length) (wds (bd (tl line))).reverse) = List.map ((fun x => x.length) ∘ tl) (wds (bd (tl line))).reverse := List.map_congr_left fun x _ => len_tl x
          rw [e2]
          omega
        · have lj : (Txt.join (Str.ofString " ") (wds (bd (tl line))).reverse).length ≤ 1007 := by
            rw [len_tl, join_sp, lenR]
            omega
          refine ⟨_, _, rfl, rfl, ?_, hR _ _ ((same_new nS).trans (same_new nT)) ?_⟩
          · rw [mul_len, sp1, sizeLine_eq]
            omega
          · rw [tl_append, tl_mul, join_sp, spt, flat_one]
      · refine tell _ _ s2 (by omega) k12 l _ H5 s5 nl hl (midB _ _ (L0.of ?_ (fun c hc => ?_) ?_) (by omega))
        · rw [pz, List.length_append, List.length_replicate, lenR]
          unfold ld
          omega
        · rw [pz] at hc
          rcases List.mem_append.mp hc with hc | hc
          · rw [List.eq_of_mem_replicate hc]
            decide
          · rcases wo.1 c hc with rfl | hc
            · decide
            · exact L0.chr c (bd_mem hc)
        · have h := congrArg (List.count 32) (lin_of (tl line))
          rw [List.count_append, List.count_replicate_self] at h
          rw [pz, List.count_append, List.count_replicate_self, wo.2, List.length_reverse]
          omega
    -- 6
    refine ⟨_, rfl, rfl, _, rfl, ite2 (fun c1 => ?_) (fun c1 => ?_)⟩
    · refine ⟨_, rfl, (by show 1 ≤ sizeLine; decide), fun A nA => ?_⟩
      have u1 := same_new (o := .lst [V.str (Str.ofString "")]) nA
      refine ⟨q, A, _, _, rfl, rfl, u1 _ _ hq2, upd_same, ?_, fun l nl => ?_⟩
      · rw [List.length_map, sizeLine_eq]
        show _ + 1 ≤ _
        omega
      refine tell _ _ s2 (by omega) k12 l (zs ++ [Str.ofString ""]) _ (u1.trans (same_new nl)) (none_of u1 nl) (by rw [upd_same, List.map_append]; rfl) ⟨by simp, ?_, fun y hy => ?_⟩
      · rw [List.length_append, List.length_singleton]
        omega
      · rcases List.mem_append.mp hy with hy | hy
        · exact up y hy
        · rw [List.mem_singleton.mp hy]
          have e0 : tl (Str.ofString "") = [] := by decide +kernel
          exact L0.of (by rw [e0]; simp) (fun c hc => by rw [e0] at hc; cases hc) (by rw [e0]; simp)
    -- 10
    refine ⟨_, rfl, rfl, _, rfl, ite2 (fun c1 => ?_) (fun c1 => ?_)⟩
    · refine ⟨_, rfl, ⟨_, rfl⟩, line, spS, rfl, rfl, by decide +kernel, by rw [len_tl, sizeLine_eq]; omega, fun S nS => ?_⟩
      rw [split_wds]
      have u1 := same_new (o := .lst ((wds (tl line)).map V.str)) nS
      have zS := s2.ne nS
      have cS : (upd _ S (.lst ((wds (tl line)).map V.str))) S = some (.lst ((wds (tl line)).map V.str)) := upd_same (H := H')
      have s3 := s2.same u1
      have k13 := k12.trans (Kp.of u1)
      generalize upd H' S (.lst ((wds (tl line)).map V.str)) = H3 at u1 cS s3 k13 ⊢
      have lw := wds_len (tl line)
      have cw : (tl line).count 32 ≤ 8 := by
        have := L0.spc
        omega
      refine ⟨_, rfl, _, rfl, S, _, rfl, .inl (SqL.of cS), a, r, m + 1, _, rfl, s3, by rw [List.length_map]; omega, by rw [List.length_map]; omega, fun x3 H4 x30 x31 s4 k4 => ?_⟩
      rw [List.length_map] at x31
      obtain ⟨j3, rfl⟩ : ∃ j : Nat, x3 = j := ⟨x3.toNat, by omega⟩
      have k14 := k13.trans k4
      have hq4 := off_le _ _ (k14 _ _ hq)
      have cS4 := kp_at k4 cS zS.1 zS.2
      have wo := words_of (l := tl line) (W := (wds (tl line)).take (j3 + 1) ++ (wds (tl line)).drop j3) fun y hy => by
        rcases List.mem_append.mp hy with hy | hy
        · exact List.mem_of_mem_take hy
        · exact List.mem_of_mem_drop hy
      have lW : ((wds (tl line)).take (j3 + 1) ++ (wds (tl line)).drop j3).length = (wds (tl line)).length + 1 := by
        rw [List.length_append, List.length_take, List.length_drop]
        omega
      have lenJ : (joinL [32] (((wds (tl line)).take (j3 + 1) ++ (wds (tl line)).drop j3).map tl)).length ≤ 2 * (tl line).length + 1 := by
        have sumw := joinL_len ((wds (tl line)).map tl)
        rw [wds_join, List.length_map, List.map_map] at sumw
        rw [joinL_len, List.length_map, lW, List.map_map]
        have hj3 : j3 < (wds (tl line)).length := by omega
        have e1 : (wds (tl line)).take (j3 + 1) = (wds (tl line)).take j3 ++ [(wds (tl line))[j3]] := (List.take_append_getElem hj3).symm
        have e2 := congrArg (fun l => (List.map ((fun x : List Nat => x.length) ∘ tl) l).sum) (List.take_append_drop j3 (wds (tl line)))
        rw [List.map_append, List.sum_append] at e2
        rw [e1, List.map_append, List.map_append, List.sum_append, List.sum_append]
        have e3 := (wds_mem (List.getElem_mem hj3)).1
        have e4 : (List.map ((fun x : List Nat => x.length) ∘ tl) [(wds (tl line))[j3]]).sum = (tl (wds (tl line))[j3]).length := by simp
        rw [e4]
        omega
      refine rd_mid (Pz := fun z => tl z = joinL [32] (((wds (tl line)).take (j3 + 1) ++ (wds (tl line)).drop j3).map tl)) (a := j) (j := j + 1) rfl rfl hq4 (by omega) (fun H5 s5 R hR => ?_) (idx _ rfl) (fun l z H5 s5 nl pz hl => ?_)
      · have cS5 := s5 _ _ cS4
        refine ⟨⟨_, rfl⟩, _, rfl, _, rfl, _, _, rfl, rfl, _, rfl, S, _, rfl, SqL.of cS5, fun A nA => ?_⟩
        rw [show ((j3 : Int) + 1) = ((j3 + 1 : Nat) : Int) by omega, cutV_to, ← List.map_take]
        have u6 := same_new (o := .lst (((wds (tl line)).take (j3 + 1)).map V.str)) nA
        have cA : (upd H5 A (.lst (((wds (tl line)).take (j3 + 1)).map V.str))) A = some (.lst (((wds (tl line)).take (j3 + 1)).map V.str)) := upd_same
        generalize upd H5 A (.lst (((wds (tl line)).take (j3 + 1)).map V.str)) = H6 at u6 cA ⊢
        refine ⟨_, rfl, _, rfl, _, rfl, S, _, rfl, SqL.of (u6 _ _ cS5), fun B nB => ?_⟩
        rw [cutV_from, ← List.map_drop]
        have u7 := same_new (o := .lst (((wds (tl line)).drop j3).map V.str)) nB
        refine ⟨A, B, _, _, rfl, rfl, u7 _ _ cA, upd_same, ?_, fun C nC => ?_⟩
        · rw [List.length_map, List.length_map, List.length_take, List.length_drop, sizeLine_eq]
          omega
        rw [← List.map_append]
        have jl := joinL_len (((wds (tl line)).take (j3 + 1) ++ (wds (tl line)).drop j3).map tl)
        rw [List.length_map, List.map_map, lW] at jl
        refine ⟨_, C, _, rfl, rfl, .inl (SqL.of upd_same), ?_, hR _ _ (u6.trans (u7.trans (same_new nC))) ?_⟩
        · have e2 : (List.map (fun x : Str => x.length) ((wds (tl line)).take (j3 + 1) ++ (wds (tl line)).drop j3)) = List.map ((fun x : List Nat => x.length) ∘ tl) ((wds (tl line)).take (j3 + 1) ++ (wds (tl line)).drop j3) := List.map_congr_left fun x _ => len_tl x
          rw [sp1, e2, lW]
          omega
        · exact join_sp _
      · refine tell _ _ s4 (by omega) k14 l _ H5 s5 nl hl (midB _ _ (L0.of ?_ (fun c hc => ?_) ?_) (by omega))
        · rw [pz]
          exact lenJ
        · rw [pz] at hc
          rcases wo.1 c hc with rfl | hc
          · decide
          · exact L0.chr c hc
        · rw [pz, wo.2, lW]
          omega
    -- a sign
    refine ⟨_, rfl, _, rfl, line, rfl, szl, _, _, rfl, rfl, a, r, m + 1, _, rfl, s2, by omega, by rw [len_tl]; omega, fun x3 H3 x30 x31 s3 k3 => ?_⟩
    obtain ⟨p8, rfl⟩ : ∃ j : Nat, x3 = j := ⟨x3.toNat, by omega⟩
    have k13 := k12.trans k3
    refine ⟨_, rfl, a, r, m, 13, rfl, s3, by decide, by decide, fun x4 H4 x40 x41 s4 k4 => ?_⟩
    have k14 := k13.trans k4
    have hq4 := off_le _ _ (k14 _ _ hq)
    obtain ⟨c, ec, pc⟩ := pick sgnB_ok sgnB_len x40 x41
    rw [Bool.and_eq_true, decide_eq_true_eq, decide_eq_true_eq] at pc
    refine ⟨_, _, _, rfl, rfl, (by decide +kernel), ec, ?_⟩
    have bit : ∀ b : Bool, ∃ e : Nat, (if b = true then (1 : Int) else 0) = (e : Nat) ∧ e ≤ 1 := fun b => by
      cases b
      · exact ⟨0, rfl, by decide⟩
      · exact ⟨1, rfl, by decide⟩
    obtain ⟨e1, h1, l1⟩ := bit (decide (x2 < 9))
    obtain ⟨e2, h2, l2⟩ := bit (decide (7 < x2))
    have sc : (⟨#[c]⟩ : Str).length = 1 := rfl
    refine rd_mid (Pz := fun z => tl z = (tl line).take p8 ++ List.replicate e1 c ++ (tl line).drop (p8 + e2)) (a := j) (j := j + 1) rfl rfl hq4 (by omega) (fun H5 s5 R hR => ?_) (idx _ rfl) (fun l z H5 s5 nl pz hl => ?_)
    · have mo : MulOk (⟨#[c]⟩ : Str) ((e1 : Nat) : Int) := mul_ok (by rw [sc]; omega) (by omega)
      refine ⟨_, rfl, _, rfl, _, rfl, line, rfl, szl, _, rfl, _, rfl, _, _, rfl, rfl, .inr ⟨_, rfl, ⟨#[c]⟩, ((e1 : Nat) : Int), rfl, congrArg V.int h1, mo, ?_⟩⟩
      have lc : (cutS line none (some ((p8 : Nat) : Int))).length ≤ 1007 := by
        rw [len_tl, cut_to, List.length_take]
        omega
      have lm : (Txt.mul (⟨#[c]⟩ : Str) ((e1 : Nat) : Int)).length ≤ 1 := by
        rw [mul_len, sc]
        omega
      have ld2 : (cutS line (some ((p8 + e2 : Nat) : Int)) none).length ≤ 1007 := by
        rw [len_tl, cut_from, List.length_drop]
        omega
      have e22 : ((p8 : Nat) : Int) + (if decide (7 < x2) = true then (1 : Int) else 0) = ((p8 + e2 : Nat) : Int) := by
        rw [h2]
        omega
      refine ⟨_, _, rfl, rfl, by rw [sizeLine_eq]; omega, _, rfl, _, rfl, _, rfl, _, _, rfl, rfl, .inr ⟨_, rfl, _, _, rfl, rfl, ?_⟩⟩
      refine ⟨((p8 + e2 : Nat) : Int), congrArg V.int e22, line, rfl, szl, _, _, rfl, rfl, by rw [len_app, sizeLine_eq]; omega, hR _ _ (Same.refl _) ?_⟩
      rw [tl_append, tl_append, cut_to, cut_from, tl_mul]
      have : tl (⟨#[c]⟩ : Str) = [c] := rfl
      rw [this, flat_one]
    · refine tell _ _ s4 (by omega) k14 l _ H5 s5 nl hl (midB _ _ (L0.of ?_ (fun c' hc => ?_) ?_) (by omega))
      · rw [pz, List.length_append, List.length_append, List.length_take, List.length_drop, List.length_replicate]
        omega
      · rw [pz] at hc
        rcases List.mem_append.mp hc with hc | hc
        · rcases List.mem_append.mp hc with hc | hc
          · exact L0.chr c' (List.mem_of_mem_take hc)
          · rw [List.eq_of_mem_replicate hc]
            exact pc
        · exact L0.chr c' (List.mem_of_mem_drop hc)
      · rw [pz, List.count_append, List.count_append]
        have h3 : ((tl line).take p8).count 32 + ((tl line).drop p8).count 32 = (tl line).count 32 := by
          rw [← List.count_append, List.take_append_drop]
        have h4 : ((tl line).drop (p8 + e2)).count 32 ≤ ((tl line).drop p8).count 32 := by
          rw [← List.drop_drop]
          exact (List.drop_sublist _ _).count_le 32
        have h5 : (List.replicate e1 c).count 32 ≤ e1 := by
          have := List.count_le_length (a := 32) (l := List.replicate e1 c)
          rwa [List.length_replicate] at this
        omega
end
end L2.LawH
set_option Elab.async false
set_option linter.all false
set_option maxRecDepth 100000
set_option maxHeartbeats 4000000
/-! == of an own class, decided; Store's own ==. -/
namespace L2.OwnOp
open PySem PySem.Spec PyProof.Rows
section
variable {X : Cx} {n : Nat} {f : Addr} {fd : FuncData} {ps : List Str} {sp : Sp}
theorem looks_at {M : Model} {h : Heap} {q : Addr} {o : Obj} {t : Value} (e : h.get? q = some o) (c : o.cls = t) : PySem.W.Looks M h (typeOf (.ref q)) t := c ▸ (PySem.W.Looks.ld e).andThen .now
/-- how the right side of own == may stand -/
def RightOk (K : PySem.W.Frag) (C : Addr) (H : Hp) (y : V) : Prop := ∃ q, y = .ref q ∧ ((∃ dy gs, H q = some (.ins C dy gs)) ∨ ((∃ xs, SqL K H q xs) ∧ PySem.W.subIn K (.type "list") (.ref C) = some false) ∨ ((∃ xs, SqT K H q xs) ∧ PySem.W.subIn K (.type "tuple") (.ref C) = some false))
def rEqOwn (K : PySem.W.Frag) (C : Addr) (sp : Sp) : R2 := fun x y H Q => ∃ p dx fs, x = .ref p ∧ H p = some (.ins C dx fs) ∧ RightOk K C H y ∧ sp [.ref p, y] H (fun v H' => ∃ b, v = .bl b ∧ Q (.bl b) H') E0
theorem op_eqOwn {C : Addr} (F : FnOk X.prog X.w X.K X.mg X.base CX0 n f fd ps sp) (hb : Binds X.K fd ps []) (m : OwnM X C f "__eq__") (hr : Room n X.A) (hx : Passes CX0 X E0) : OpR X (compareOp .Eq) (rEqOwn X.K C sp) := by
  intro pins s σ H x y v u Q I rx ry hq
  obtain ⟨p, dx, fs, rfl, hp, ⟨q, rfl, right⟩, want⟩ := hq
  cases rx
  cases ry
  obtain ⟨_, J, _⟩ := ins_get I.hok hp
  obtain ⟨od, J, _⟩ := J.look
  obtain ⟨_, fr⟩ := I.fr
  have go : ∀ tb, PySem.W.Looks (model X.prog X.w) s.heap (typeOf (.ref q)) tb → PySem.W.notFirst X.K C tb = true → wpAny (model X.prog X.w) X.A (richCompare .Eq (.ref p) (.ref q)) (EP X pins σ Q) X.xe s := fun tb lk nf => by
    refine PySem.W.cmp_K hr.units0 fr I.mod.kin J lk nf m.fi m.fn (wpAny_mono (run_own (vs := [.ref p, .ref q]) F hb hx ⟨hr, rfl⟩ I (.cons rfl (.cons rfl .nil)) want) (fun r s' z => ?_) fun _ _ z => z)
    obtain ⟨v', H', I', rv, b, rfl, q⟩ := I.after z
    cases rv
    exact ⟨.bl b, H', I', rfl, q⟩
  rcases right with ⟨dy, gs, h⟩ | ⟨⟨xs, h⟩, nl⟩ | ⟨⟨xs, h⟩, nl⟩
  · obtain ⟨_, J2, _⟩ := ins_get I.hok h
    obtain ⟨od2, J2, _⟩ := J2.look
    exact go (.ref C) J2.type (by unfold PySem.W.notFirst; simp)
  · obtain ⟨its, r, p, z⟩ := I.list h
    obtain ⟨o, n, e, c1, c2, c3⟩ := p
    exact go (.type "list") (looks_at e (by first | exact c1 | rfl)) (by unfold PySem.W.notFirst; rw [nl]; simp)
  · obtain ⟨its, r, p, z⟩ := I.tuple h
    obtain ⟨o, e, c1, c2⟩ := id p
    exact go (.type "tuple") (looks_at e (by first | exact c1 | rfl)) (by unfold PySem.W.notFirst; rw [nl]; simp)
end
end L2.OwnOp
set_option Elab.async false
set_option linter.all false
set_option maxRecDepth 100000
set_option maxHeartbeats 4000000
/-! What the law's tree has. -/
namespace L2.LawH
open PySem PySem.Spec PyProof.Rows L2.TxtSet TL L2.NSet PySem.W L2.Cmp
theorem pairs_ext {α β : Type} : ∀ {a b : List (α × β)}, a.map (·.1) = b.map (·.1) → a.map (·.2) = b.map (·.2) → a = b
  | [], [], _, _ => rfl
  | [], _ :: _, h, _ => by simp at h
  | _ :: _, [], h, _ => by simp at h
  | x :: a, y :: b, h1, h2 => by
    rw [List.map_cons, List.map_cons] at h1 h2
    injection h1 with e1 h1
    injection h2 with e2 h2
    rw [pairs_ext h1 h2, Prod.ext e1 e2]
section
variable {xs : List Nx}
theorem raw_fct (d : DrwAll xs) : ∀ x ∈ xs.map rawO, x.2.length ≤ 2 ∧ ∀ c ∈ x.2, Fct c := fun x m => by
  obtain ⟨y, my, rfl⟩ := List.mem_map.mp m
  obtain ⟨ys, dy⟩ := d y my
  have e : (rawO y).2 = ys.map (·.2) := by
    show (y.os.filterMap id).map (·.2) = _
    rw [dy.os, some_filter]
  rw [e]
  refine ⟨by rw [List.length_map]; exact dy.few, fun c hc => ?_⟩
  obtain ⟨z, mz, rfl⟩ := List.mem_map.mp hc
  exact dy.fct z mz
theorem lo_two {τ : List Nd} (h : ∀ x ∈ τ, x.2.length ≤ 2 ∧ ∀ c ∈ x.2, Fct c) (k : Nat) : (lo τ k).length ≤ 2 ∧ ∀ c ∈ lo τ k, Fct c := by
  by_cases hk : k < τ.length
  · have hg := List.getElem?_eq_getElem hk
    rw [lo_at hg]
    exact h _ (List.getElem_mem hk)
  · rw [lo_none (by omega)]
    exact ⟨by simp, fun c hc => by cases hc⟩
theorem tr_two (d : DrwAll xs) (k : Nat) : (lo (xs.map trO) k).length ≤ 2 ∧ ∀ c ∈ lo (xs.map trO) k, Fct c := by
  obtain ⟨h1, h2⟩ := lo_two (raw_fct d) k
  rw [lo_raw]
  exact ⟨Nat.le_trans (nrm_len _) h1, fun c hc => h2 c (nrm_mem.mp hc)⟩
theorem tr_fct (d : DrwAll xs) : ∀ x ∈ xs.map trO, x.2.length ≤ 20 ∧ ∀ c ∈ x.2, Fct c := fun x m => by
  obtain ⟨k, hk, e⟩ := List.mem_iff_getElem.mp m
  have := tr_two d k
  rw [lo_at (List.getElem?_eq_getElem hk), e] at this
  exact ⟨by omega, this.2⟩
theorem good_tr (g : Good (prs (xs.map rawO)) (lo (xs.map rawO))) : Good (xs.map (·.p)) (lo (xs.map trO)) := by
  rw [prs_raw] at g
  exact g.congr fun j => by rw [lo_raw, nms_nrm]
/-- the lines, as texts -/
def zsL (xs : List Nx) : List Str := (ord (xs.map (·.p)) 0).map (linS (xs.map trO))
theorem zsL_tl (xs : List Nx) : (zsL xs).map tl = tlin (prs (xs.map rawO)) fun k => nrm (lo (xs.map rawO) k) := by
  unfold zsL tlin
  rw [List.map_map, prs_raw]
  refine List.map_congr_left fun k _ => ?_
  show tl (linS _ k) = _
  rw [tl_linS, prs_tr, lo_raw]
theorem zsL_tx (xs : List Nx) : tl (txS (xs.map trO)) = joinL [10] ((zsL xs).map tl) := by
  rw [zsL_tl, tl_txS, prs_tr, prs_raw]
  congr 2
  funext k
  exact lo_raw xs k
theorem ltl_sp {cs : List Fc} (h : ∀ c ∈ cs, Fct c) : (ltl cs).count 32 ≤ cs.length - 1 := by
  unfold ltl
  by_cases e : cs = []
  · rw [if_pos e]
    simp
  · rw [if_neg e, joinL_cnt, List.length_map, List.map_map, sum_zero fun x mx => ?_]
    · omega
    · obtain ⟨c, mc, rfl⟩ := List.mem_map.mp mx
      refine List.count_eq_zero.mpr fun m => ?_
      have := ptl_pln (h c mc) 32 m
      unfold Pln at this
      omega
theorem zsL_ok (d : DrwAll xs) (w : Wf (xs.map (·.p))) (l0 : 0 < xs.length) (l6 : xs.length ≤ 6) : Bnt 0 (zsL xs) := by
  have lp : (xs.map (·.p)).length = xs.length := List.length_map _
  refine ⟨?_, ?_, fun z m => ?_⟩
  · unfold zsL
    rw [ord_eq w]
    simp
  · unfold zsL
    rw [List.length_map]
    have := ord_len w (k := 0) (by rw [lp]; exact l0)
    omega
  · obtain ⟨k, mk, rfl⟩ := List.mem_map.mp m
    have lk := ord_lt w 0 (by rw [lp]; exact l0) k mk
    have dk := dp_le w k k (Nat.le_refl _)
    obtain ⟨t1, t2⟩ := tr_two d k
    have h1 := ltl_len t2
    have h2 := ltl_sp t2
    refine ⟨?_, fun c hc => ?_, ?_⟩
    · rw [tl_linS, prs_tr]
      unfold lin
      rw [List.length_append, List.length_replicate]
      omega
    · rw [tl_linS] at hc
      unfold lin at hc
      rcases List.mem_append.mp hc with hc | hc
      · rw [List.eq_of_mem_replicate hc]
        decide
      · exact ltl_chr t2 c hc
    · rw [tl_linS, prs_tr]
      unfold lin
      rw [List.count_append, List.count_replicate_self]
      omega
theorem ren_tx (d : DrwAll xs) (w : Wf (prs (xs.map rawO))) (l0 : 0 < xs.length) (g : Good (prs (xs.map rawO)) (lo (xs.map rawO))) (ne : zsL xs ≠ []) : RdOk ((zsL xs).map tl) (ren (xs.map rawO)) ∧ txS (ren (xs.map rawO)) = txS (xs.map trO) := by
  have r : RdOk ((zsL xs).map tl) (ren (xs.map rawO)) := by
    rw [zsL_tl]
    exact ren_rd w (by rw [List.length_map]; exact l0) (fun x m => (raw_fct d x m).2) g
  refine ⟨r, ext_tl ?_⟩
  obtain ⟨⟨ab, e⟩, _⟩ := r
  have := (told_lines e (by simpa using ne)).1
  rw [tl_txS, ← this, zsL_tx]
theorem ren_tr (d : DrwAll xs) (w : Wf (prs (xs.map rawO))) (l0 : 0 < xs.length) : decide (ren (xs.map rawO) = xs.map trO) = decide (ord (xs.map (·.p)) 0 = List.range xs.length) := by
  have h := ren_same w (by rw [List.length_map]; exact l0) (fun x m => (raw_fct d x m).2)
  rw [List.length_map] at h
  have e2 : (xs.map trO).map (·.2) = (List.range xs.length).map (fun k => nrm (lo (xs.map rawO) k)) := by
    refine List.ext_getElem? fun k => ?_
    rw [List.getElem?_map, List.getElem?_map, List.getElem?_map]
    by_cases hk : k < xs.length
    · rw [List.getElem?_range hk, List.getElem?_eq_getElem hk]
      show some (trO xs[k]).2 = some (nrm (lo (xs.map rawO) k))
      rw [lo_at (x := rawO xs[k]) (by rw [List.getElem?_map, List.getElem?_eq_getElem hk]; rfl)]
      rfl
    · rw [List.getElem?_eq_none (by omega), List.getElem?_eq_none (by rw [List.length_range]; omega)]
      rfl
  rw [prs_raw] at h
  refine decide_eq_decide.mpr ⟨fun e => h.mp ?_, fun e => ?_⟩
  · rw [e]
    exact ⟨prs_tr xs, e2⟩
  · obtain ⟨h1, h2⟩ := h.mpr e
    exact pairs_ext (h1.trans (prs_tr xs).symm) (h2.trans e2.symm)
end
end L2.LawH
set_option Elab.async false
set_option linter.all false
set_option maxRecDepth 100000
set_option maxHeartbeats 4000000
/-! The law. -/
namespace L2.LawH
open PySem PySem.Spec PyProof.Rows L2.TxtSet TL L2.NSet PySem.W L2.Cmp L2.Rws L2.ZipL L2.ExcN L2.ClsCall
open Builtin.Int (intBits)
abbrev sLaw : Stmt := top 50
def spLaw (K : PySem.W.Frag) : Sp := fun vs H Q _ => ∃ (a : Addr) (ns : List Int), vs = [.ref a] ∧ SqL K H a (ns.map V.int) ∧ ns.length ≤ 63 ∧ (∀ z ∈ ns, intBits z ≤ 1048576) ∧ ∀ H', Q (.bl true) H'
theorem pass_none {X : Cx} (σ : St) : PassesAt (L2.CX X.prog X.w) X σ E0 := fun pins H s e s' _ c => by
  obtain ⟨_, _, _, _, _, _, _, _, _, _, _, _, h⟩ := c
  exact h.elim
theorem pass_noneN {X : Cx} (σ : St) : PassesAt (L2N.CX X.prog X.w) X σ E0 := fun pins H s e s' _ c => by
  obtain ⟨_, _, _, _, _, _, _, _, _, _, _, _, h⟩ := c
  exact h.elim
theorem join_nl (zs : List Str) : tl (Txt.join (Str.ofString "\n") zs) = joinL [10] (zs.map tl) := by
  rw [join_eq, tl_join, show tl (Str.ofString "\n") = [10] by decide +kernel]
theorem split_join {zs : List Str} {z : Str} (ok : LnsOk (zs.map tl)) (e : tl z = joinL [10] (zs.map tl)) : Txt.split z nlS = (zs.map tl).map fun l => (⟨l.toArray⟩ : Str) := by
  have e2 := split_nl z
  rw [e, spl_join ok.ne ok.no] at e2
  rw [← e2, List.map_map]
  have : (Txt.split z nlS).map ((fun x => (⟨x.toArray⟩ : Str)) ∘ tl) = (Txt.split z nlS).map id := List.map_congr_left fun x _ => ext_tl (str_tl _)
  rw [this, List.map_id]
theorem idx_first {p : Nat} : ∀ {l : List Nat} {m : Nat}, l[m]? = some p → l.idxOf p ≤ m
  | [], m, h => by simp at h
  | x :: l, 0, h => by
    have : x = p := by simpa using h
    subst this
    simp
  | x :: l, m + 1, h => by
    have h' : l[m]? = some p := by simpa using h
    have := idx_first h'
    by_cases e : x = p
    · subst e
      simp
    · rw [List.idxOf_cons, show (x == p) = false by simpa using e]
      show l.idxOf p + 1 ≤ m + 1
      omega
theorem dp_nats {K : PySem.W.Frag} {H : Hp} : ∀ l : List Nat, DpAll K H (intsV l) (l.map fun n => PyData.int (n : Nat))
  | [] => .nil
  | n :: l => .cons (.int _) (dp_nats l)
theorem eqv_nats : ∀ a b : List Nat, PyData.eqvAll (a.map fun n => PyData.int (n : Nat)) (b.map fun n => PyData.int (n : Nat)) = decide (a = b)
  | [], [] => by simp [PyData.eqvAll]
  | [], _ :: _ => by simp [PyData.eqvAll]
  | _ :: _, [] => by simp [PyData.eqvAll]
  | x :: a, y :: b => by
    rw [List.map_cons, List.map_cons, PyData.eqvAll, eqv_nats a b]
    by_cases h : x = y
    · by_cases h2 : a = b
      · simp [PyData.eqv, h, h2]
      · simp [PyData.eqv, h, h2]
    · have : ¬ ((x : Nat) : Int) = ((y : Nat) : Int) := by omega
      simp [PyData.eqv, h, this]
theorem shaped_nats (l : List Nat) : SeqAt.shaped (.list (l.map fun n => PyData.int (n : Nat))) = true := by
  have h : ∀ l : List Nat, PyData.canLayAll0 (l.map fun n => PyData.int (n : Nat)) = true ∧ PyData.depthAll (l.map fun n => PyData.int (n : Nat)) = 0 := fun l => by
    induction l with
    | nil => simp [PyData.canLayAll0, PyData.depthAll]
    | cons n l ih =>
      rw [List.map_cons, PyData.canLayAll0, PyData.depthAll, ih.1, ih.2]
      simp [PyData.canLay0, PyData.depth]
  unfold SeqAt.shaped
  rw [PyData.canLay0, (h l).1, Bool.true_and, PyData.depth, (h l).2]
  decide
theorem rg_nats (n : Nat) : rgV 0 ((n : Nat) : Int) = intsV (List.range n) := by
  unfold rgV
  have : (((n : Nat) : Int) - 0).toNat = n := by omega
  rw [this]
  refine List.map_congr_left fun i _ => ?_
  congr 1
  omega
theorem rd_fct {ls : List (List Nat)} {τ : List Nd} (r : RdOk ls τ) : ∀ x ∈ τ, ∀ c ∈ x.2, Fct c := by
  obtain ⟨⟨ab, e⟩, _⟩ := r
  exact told_fct e
theorem no_empty : ∀ τ, ¬ RdOk [[]] τ := fun τ r => by
  obtain ⟨cs, s2, _, e, _⟩ := rd_at (i := 0) (l := []) (s := ([], [])) r rfl rfl
  have : lotO (bd []) = [none] := by decide +kernel
  rw [this] at e
  cases cs with
  | nil => cases e
  | cons c cs => cases e
theorem no_dash : ∀ τ, ¬ RdOk [[45, 32]] τ := fun τ r => by
  obtain ⟨cs, s2, _, e, _⟩ := rd_at (i := 0) (l := [45, 32]) (s := ([], [])) r rfl rfl
  have : lotO (bd [45, 32]) = [none, none] := by decide +kernel
  rw [this] at e
  cases cs with
  | nil => cases e
  | cons c cs => cases e
theorem tld_dash : tld ([], []) [[45]] = some ([((none : Option Nat), ([] : List (Option Fc)))], [0]) := by
  have l0 : ld [45] = 0 := by decide +kernel
  have b0 : bd [45] = [45] := by decide +kernel
  rw [tld]
  have : tst ([], []) [45] = some ([((none : Option Nat), ([] : List (Option Fc)))], [0]) := by
    unfold tst
    rw [if_neg (by rw [l0]; simp), b0, l0]
    unfold lotO
    simp
  rw [this]
  rfl
theorem rd_dash : RdOk [[45]] [(none, [])] := by
  refine ⟨⟨[0], tld_dash⟩, ⟨fun i j ne hi hj => ?_, fun i h0 hi => ?_⟩, fun x m => ?_⟩
  · simp at hi hj
    omega
  · simp at hi
    omega
  · rw [List.mem_singleton.mp m]
    exact List.Pairwise.nil
theorem ln_ok1 {l : List Nat} (h : l.length ≤ 2) (c : ∀ x ∈ l, x = 45 ∨ x = 32) : LnsOk [l] := by
  refine ⟨by simp, by simp, fun x m => ?_, fun x m h10 => ?_, fun x m y my => ?_, fun x m => ?_⟩
  all_goals obtain rfl := List.mem_singleton.mp m
  · omega
  · rcases c _ h10 with e | e <;> omega
  · rcases c _ my with e | e <;> omega
  · have := List.count_le_length (a := 32) (l := x)
    omega
section
variable {P : Program} {w : World} {K : PySem.W.Frag} {mg : Str → Option Value} {base : Heap}
abbrev nLaw : List Str := ["_law_script", "_law_pool_here", "_law_world_here", "_law_nodes", "_law_lines_here", "_law_question", "_law_order_here", "_law_due", "_law_k", "_law_parent", "_law_read"]
theorem scLaw : FnScope nLaw ["_law_script"] (defScope sLaw) := ⟨rfl, rfl, rfl, by decide +kernel, rfl, by decide +kernel, by decide +kernel⟩
theorem ok_law {f fPo fW fTr fLi fOr fB fTo fPa fI fT fE fR pR fN pN C BT BP LO NN : Addr} {mc : Value} {fd fdPo fdW fdTr fdLi fdOr fdB fdTo fdPa fdI fdT fdE fdR fdN : FuncData} (F : Fun K "law" "law" sLaw f fd)
    (GPo : FnOk P w K mg base CX0 1 fPo fdPo ["_law_script"] (spPool3 K)) (kPo : PySem.W.keepIn K (.ref fPo) = true) (bPo : Binds K fdPo ["_law_script"] []) (mPo : mg "_law_pool" = some (.ref fPo))
    (GW : FnOk P w K mg base CX0 4 fW fdW ["_law_pool_here"] spWorld) (kW : PySem.W.keepIn K (.ref fW) = true) (bW : Binds K fdW ["_law_pool_here"] []) (mW : mg "_law_world" = some (.ref fW))
    (GTr : FnOk P w K mg base CX0 3 fTr fdTr pTree spTree) (kTr : PySem.W.keepIn K (.ref fTr) = true) (bTr : Binds K fdTr pTree []) (mTr : mg "_law_tree" = some (.ref fTr))
    (GLi : FnOk P w K mg base CX0 17 fLi fdLi ["_law_nodes"] spLLin) (kLi : PySem.W.keepIn K (.ref fLi) = true) (bLi : Binds K fdLi ["_law_nodes"] []) (mLi : mg "_law_lines" = some (.ref fLi))
    (GOr : FnOk P w K mg base CX0 16 fOr fdOr pLOrd (spLOrd 16)) (kOr : PySem.W.keepIn K (.ref fOr) = true) (bOr : Binds K fdOr pLOrd []) (mOr : mg "_law_order" = some (.ref fOr))
    (GB : FnOk P w K mg base CX0 2 fB fdB pLBen spLBen) (kB : PySem.W.keepIn K (.ref fB) = true) (bB : Binds K fdB pLBen []) (mB : mg "_law_bent" = some (.ref fB))
    (GTo : FnOk P w K mg base CX0 7 fTo fdTo ["_law_text"] spLTol) (kTo : PySem.W.keepIn K (.ref fTo) = true) (bTo : Binds K fdTo ["_law_text"] []) (mTo : mg "_law_told" = some (.ref fTo))
    (GPa : FnOk P w K mg base CX0 3 fPa fdPa ["_law_lines_here"] spLPar) (kPa : PySem.W.keepIn K (.ref fPa) = true) (bPa : Binds K fdPa ["_law_lines_here"] []) (mPa : mg "_law_parsed" = some (.ref fPa))
    (T : ClQ K C) (mC : mg "Question" = some (.ref C)) (M : Mk K C fI) (GI : FnOk P w K mg base (L2N.CX P w) 4 fI fdI ["self", "nodes"] (spInitQ C BP LO NN)) (bI : Binds K fdI ["self", "nodes"] [])
    (hT : Meth K C "text" fT) (GT : FnOk P w K mg base CX0 3 fT fdT ["self"] (spTxtQ C)) (bT : Binds K fdT ["self"] [])
    (hE : PySem.W.findIn K (.ref C) "__eq__" = some (some (.ref fE))) (iE : PySem.W.isFn K (.ref fE) = true) (GE : FnOk P w K mg base CX0 1 fE fdE ["self", "other"] (spEqQ C)) (bE : Binds K fdE ["self", "other"] [])
    (rR : ClX.CRead K C mc) (cR : ClX.CMet K C mc "read" pR fR) (GR : FnOk P w K mg base (L2.CX P w) 6 fR fdR ["cls", "text"] (spReadQ C BT))
    {g1 : List Value → List Value → List Value} (bRk : KBn K fdR ["cls", "text"] 1 ["text"] g1 (fun a b => a ++ b))
    (PN : PropOf K C "nodes" pN fN) (GN : FnOk P w K mg base CX0 1 fN fdN ["self"] (spNodQ C)) (bN : Binds K fdN ["self"] [])
    (ml : mg "len" = none) (mr : mg "range" = none) (mL : mg "list" = none) (ms : mg "sorted" = none) (mS : mg "set" = none) : FnOk P w K mg base CX0 18 f fd ["_law_script"] (spLaw K) := by
  refine F.ok scLaw (fun vs H Q E h => ?_) (fun cdv A outer s H vs Q E hr h => ?_)
  · obtain ⟨a, ns, rfl, _⟩ := h
    rfl
  · obtain ⟨q, ns, rfl, hS, hlen, hbits, k⟩ := h
    have hu := hr.units
    have hr1 : Room 1 _ := hr.mono (by decide)
    have hr2 : Room 2 _ := hr.mono (by decide)
    have hr3 : Room 3 _ := hr.mono (by decide)
    have hr4 : Room 4 _ := hr.mono (by decide)
    have hr5 : Room 5 _ := hr.mono (by decide)
    have hr6 : Room 6 _ := hr.mono (by decide)
    have hr7 : Room 7 _ := hr.mono (by decide)
    have hr16 : Room 16 _ := hr.mono (by decide)
    refine ⟨_, pss_cons (ps_set (i := 1) scLaw.nd rfl (Or.inl rfl) (pe_call GPo hr1 (by rfl) mPo kPo bPo .nil pass0 (pa_cons (pv 0) pa_nil)))
      (pss_cons (ps_set (i := 2) scLaw.nd rfl (Or.inl rfl) (pe_call GW hr4 (by rfl) mW kW bW .nil pass0 (pa_cons (pv 1) pa_nil)))
      (pss_cons (ps_set (i := 3) scLaw.nd rfl (Or.inl rfl) (pe_call GTr hr3 (by rfl) mTr kTr bTr .nil pass0 (pa_cons (pv 1) (pa_cons (pv 2) (pa_cons pe_int (pa_cons pe_int pa_nil))))))
      (pss_cons (ps_set (i := 4) scLaw.nd rfl (Or.inl rfl) (pe_call GLi hr (by rfl) mLi kLi bLi .nil pass0 (pa_cons (pv 3) pa_nil)))
      (pss_cons (ps_set (i := 5) scLaw.nd rfl (Or.inl rfl) (pe_makeS (E := fun _ => E0) M GI hr5 (by rfl) mC bI .nil (fun σ => pass_noneN σ) (pa_cons (pv 3) pa_nil)))
      (pss_cons (ps_if (pt_cmpR op_ne (pe_meth0 (pv 5) T.cl hT GT hr3 bT .nil pass0) (pe_join pe_str (pv 4)) (nomark _)) (pss_one (ps_ret pe_bl)) pss_nil)
      (pss_cons (ps_set (i := 6) scLaw.nd rfl (Or.inl rfl) (pe_call GOr hr16 (by rfl) mOr kOr bOr .nil pass0 (pa_cons (pv 3) (pa_cons pe_int pa_nil))))
      (pss_cons (ps_set (i := 7) scLaw.nd rfl (Or.inl rfl) (pe_lst pa_nil))
      (pss_cons (ps_for PassesOwn.never rfl (pi_list (pv 6)) (pg_name (i := 8) scLaw.nd rfl (Or.inl rfl))
        (pss_cons (ps_set (i := 9) scLaw.nd rfl (Or.inl rfl) (pe_ifExp (pt_cmpR op_eq (pv 8) pe_int (nomark _)) pe_non (pe_bm PySem.F.plainAttrs_list PySem.F.slot_list_index PySem.F.type_list_index mt_index (pv 6) (pa_cons (pe_ix ix_tup (pe_ix ix_list (pv 3) (pv 8) (fun _ _ => rfl)) pe_int (fun _ _ => rfl)) pa_nil))))
        (pss_one (ps_expr (pe_bm PySem.F.plainAttrs_list PySem.F.slot_list_append PySem.F.type_list_append mt_append (pv 7) (pa_cons (pe_tup (pa_cons (pv 9) (pa_cons
          (pe_callB (cr_sortNK (K := K) (P := P) (w := w) rfl rfl rfl rfl hu) (by rfl) ms (by decide +kernel) (pa_cons (pe_callTy (cr_setNK (K := K) (P := P) (w := w) rfl rfl rfl rfl hu) (by rfl) mS (by decide +kernel) (pa_cons (pe_ix ix_tup (pe_ix ix_list (pv 3) (pv 8) (fun _ _ => rfl)) pe_int (fun _ _ => rfl)) pa_nil)) pa_nil)) pa_nil))) pa_nil))))))
      (pss_cons (ps_set (i := 10) scLaw.nd rfl (Or.inl rfl) (pe_cmethK (E := fun _ => E0) (pe_glob (v := .ref C) (by rfl) mC rfl) rR cR GR hr6 bRk (fun σ => pass_none σ) (pk_cons (pe_meth0 (pv 5) T.cl hT GT hr3 bT .nil pass0) pk_nil)))
      (pss_cons (ps_if (PW.pt (pw_or (pt_cmpR (op_neD hu) (pe_prop (pv 10) T.cl PN GN hr2 bN .nil pass0 rfl) (pv 7) (nomark _))
          (pw_or (pt_cmpR op_ne (pe_meth0 (pv 10) T.cl hT GT hr3 bT .nil pass0) (pe_meth0 (pv 5) T.cl hT GT hr3 bT .nil pass0) (nomark _))
          (pw_or1 (pt_cmpR op_ne (pe_cmpR (L2.OwnOp.op_eqOwn (C := C) GE bE ⟨hE, iE⟩ hr1 pass0) (pv 10) (pv 5) (nomark _)) (pe_cmpR (op_eqD hu) (pv 6) (pe_listRg rfl (by rfl) mL (prg_1 (by rfl) mr (pe_callB (call_len_seqK (K := K) rfl) (by rfl) ml (by decide +kernel) (pa_cons (pv 3) pa_nil)))) (nomark _)) (nomark _)))))) (pss_one (ps_ret pe_bl)) pss_nil)
      (pss_cons (ps_for PassesOwn.never rfl (pi_range1 (by rfl) mr (pa_cons pe_int pa_nil)) (pg_name (i := 8) scLaw.nd rfl (Or.inl rfl))
        (pss_cons (ps_set (i := 4) scLaw.nd rfl (Or.inl rfl) (pe_call GB hr2 (by rfl) mB kB bB .nil pass0 (pa_cons (pv 1) (pa_cons (pv 4) pa_nil))))
        (pss_one (ps_if (pt_cmpR (op_neD hu) (pe_call GTo hr7 (by rfl) mTo kTo bTo .nil pass0 (pa_cons (pe_join pe_str (pv 4)) pa_nil)) (pe_call GPa hr3 (by rfl) mPa kPa bPa .nil pass0 (pa_cons (pe_split (pe_join pe_str (pv 4)) pe_str) pa_nil)) (nomark _)) (pss_one (ps_ret pe_bl)) pss_nil))))
      (pss_one (ps_ret (pe_and (pe_cmpR op_isN (pe_call GTo hr7 (by rfl) mTo kTo bTo .nil pass0 (pa_cons pe_str pa_nil)) pe_non (nomark _))
        (pe_and (pe_cmpR (op_eqD hu) (pe_call GTo hr7 (by rfl) mTo kTo bTo .nil pass0 (pa_cons pe_str pa_nil)) (pe_lst (pa_cons (pe_tup (pa_cons pe_non (pa_cons (pe_lst pa_nil) pa_nil))) pa_nil)) (nomark _))
          (pe_one (pe_cmpR op_isN (pe_call GTo hr7 (by rfl) mTo kTo bTo .nil pass0 (pa_cons pe_str pa_nil)) pe_non (nomark _)))))))))))))))))), ?_⟩
    refine ⟨_, rfl, q, ns, rfl, hS, hlen, hbits, fun p r H1 s1 np nr d1 => ?_⟩
    refine ⟨_, rfl, p, r, 999000, rfl, d1.mono (by decide), fun wd ω H2 hw2 okw d2 k2 => ?_⟩
    refine ⟨_, rfl, _, rfl, p, r, wd, 998000, ω, rfl, d2.mono (by decide), hw2, okw, fun N xs H3 nN hN hx l0 l6 wf gd d3 k3 => ?_⟩
    have dr : DrwAll xs := fun x m => (hx x m).2
    have LN3 : LwN H3 N xs := (⟨hN, fun x m => (hx x m).1⟩ : LwN (Off p r H3) N xs).same off_le
    have wf' : Wf (xs.map (·.p)) := by rw [← prs_raw]; exact wf
    have gtr := good_tr gd
    have bnt := zsL_ok dr wf' l0 l6
    have lps : (xs.map (·.p)).length = xs.length := List.length_map _
    refine ⟨_, rfl, N, xs, rfl, LN3, dr, wf', l0, by omega, fun L H4 s4 nL hL4 => ?_⟩
    have hL4 : H4 L = some (.lst ((zsL xs).map V.str)) := by
      rw [hL4]
      unfold zsL
      rw [List.map_map]
      rfl
    have LN4 := LN3.same s4
    refine ⟨_, rfl, fun g dx ng ndx dg => ?_⟩
    have s5 : Same H4 (upd (upd H4 dx (.own g)) g (.ins C dx [])) := fun b o e => by
      have b1 : b ≠ g := fun z => by rw [z, ng] at e; cases e
      have b2 : b ≠ dx := fun z => by rw [z, ndx] at e; cases e
      rw [upd_ne b1, upd_ne b2]
      exact e
    have c5 : (upd (upd H4 dx (.own g)) g (.ins C dx [])) g = some (.ins C dx []) := upd_same
    generalize upd (upd H4 dx (.own g)) g (.ins C dx []) = H5 at s5 c5 ⊢
    have nn : ∀ x ∈ xs, none ∉ x.os := fun x m h => by
      obtain ⟨ys, dy⟩ := dr x m
      rw [dy.os] at h
      obtain ⟨y, _, e⟩ := List.mem_map.mp h
      cases e
    refine ⟨g, dx, N, xs, rfl, c5, (LN4.same s5).nodes, l0, by omega, wf', fun x m => ?_, fun H' d c kk cc => ?_, fun _ _ H6 kk qa => ⟨rfl, ?_⟩⟩
    · obtain ⟨ys, dy⟩ := dr x m
      rw [dy.os]
      refine ⟨by rw [List.length_map]; have := dy.few; omega, fun y hy => ?_⟩
      obtain ⟨z, mz, e⟩ := List.mem_map.mp hy
      cases e
      exact dy.fct y mz
    · rcases cc with ⟨_, x, mx, hn⟩ | ⟨_, _, ng⟩
      · exact nn x mx hn
      · exact ng gtr
    have s46 : Same H4 H6 := fun b o e => kk b o (s5 _ _ e) fun z => by
      rw [z, ng] at e
      cases e
    have LN6 := LN4.same s46
    have hL6 := s46 _ _ hL4
    have ltr : (xs.map trO).length = xs.length := List.length_map _
    have wtr : Wf (prs (xs.map trO)) := by rw [prs_tr]; exact wf'
    have lok := bnt.ok (by decide)
    obtain ⟨dg2, rg, _, _, _, _, _, hg6, _⟩ := id qa.ex
    have ask : ∀ {G : Hp} {R : VK}, QAt C G g (xs.map trO) → (∀ G', Same G G' → R (.str (txS (xs.map trO))) G') → spTxtQ C [.ref g] G R E0 := fun qg hR => ⟨g, xs.map trO, rfl, qg, wtr, by omega, by omega, tr_fct dr, hR⟩
    refine ⟨_, rfl, g, dg2, _, rfl, hg6, rfl, ?_⟩
    dsimp only [tNil, List.cons_append, List.nil_append]
    refine ask qa fun H7 s7 => ?_
    have sumz : ((zsL xs).map (·.length)).sum ≤ (zsL xs).length * 1007 := sum_le 1007 _ fun z mz => by
      rw [len_tl]
      exact (bnt.ea z mz).le (by decide)
    have lenz : (zsL xs).length ≤ 6 := bnt.few
    refine ⟨⟨_, rfl⟩, _, rfl, _, L, zsL xs, rfl, rfl, .inl (SqL.of (s7 _ _ hL6)), ?_, rfl, _, rfl, ?_⟩
    · rw [show (Str.ofString "\n").length = 1 by decide +kernel]
      omega
    have eJ : txS (xs.map trO) = Txt.join (Str.ofString "\n") (zsL xs) := ext_tl (by rw [join_nl, zsL_tx])
    rw [show (!decide (V.str (txS (xs.map trO)) = V.str (Txt.join (Str.ofString "\n") (zsL xs)))) = false by rw [← eJ]; simp]
    refine iteF ?_
    have LN7 := LN6.same s7
    have qa7 := qa.same s7
    refine ⟨_, rfl, N, xs, 0, rfl, LN7, wf', l0, by omega, by omega, fun O H8 s8 nO hO => ?_⟩
    refine ⟨(by show 0 ≤ sizeLine; decide), fun D nD => ?_⟩
    have s9 : Same H8 (upd H8 D (.lst [])) := same_new nD
    have c9 : (upd H8 D (.lst [])) D = some (.lst []) := upd_same
    have DO : O ≠ D := fun e => by rw [← e, hO] at nD; cases nD
    have nD7 : H7 D = none := none_of s8 nD
    generalize upd H8 D (.lst []) = H9 at s9 c9 ⊢
    have s79 := s8.trans s9
    have sWo : ∀ {G : Hp}, Same (Wo D H9) (Wo D G) → Same H7 G := fun {G} s b o e => wo_le _ _ (s _ _ (wo_new (s79 _ _ e) fun z => by rw [z, nD7] at e; cases e))
    have hO9 := s9 _ _ hO
    have lor := ord_len wf' (k := 0) (by rw [lps]; exact l0)
    refine ⟨_, rfl, O, rfl, ⟨_, SqL.of hO9⟩, for_it (L2.walk_list (K := K) (xs := intsV (ord (xs.map (·.p)) 0))) (fun i σ G => ∃ (ds : List Nl) (v8 v9 : Option V), σ = [some (.ref q), some (.ref p), some (.ref wd), some (.ref N), some (.ref L), some (.ref g), some (.ref O), some (.ref D), v8, v9, none] ∧
        G D = some (.lst (ds.map fun x => V.ref x.t)) ∧ (∀ x ∈ ds, NlAt (Wo D G) x) ∧ ds.map Nl.nd = (ren (xs.map rawO)).take i ∧ Same (Wo D H9) (Wo D G))
      ⟨[], none, none, rfl, c9, fun x m => (by cases m), rfl, Same.refl _⟩ (fun i σ G _ pp => let ⟨_, _, _, _, _, _, _, sw⟩ := pp; SqL.of (wo_le _ _ (sw _ _ (wo_new hO9 DO)))) (fun i x σ G G2 hi pp yy => ?_) (fun σ G pp => ?_)⟩
    · obtain ⟨ds, v8, v9, rfl, hD, hds, eds, sw⟩ := pp
      obtain ⟨rfl, hy⟩ := yy
      rw [List.getElem?_map] at hy
      obtain ⟨kk0, hk, ex⟩ := Option.map_eq_some_iff.mp hy
      subst ex
      have mk0 := List.mem_of_getElem? hk
      have lk : kk0 < xs.length := by
        have := ord_lt wf' 0 (by rw [lps]; exact l0) kk0 mk0
        rwa [lps] at this
      have li : i < (ord (xs.map (·.p)) 0).length := (List.getElem?_eq_some_iff.mp hk).1
      have s7G := sWo sw
      have hOG := wo_le _ _ (sw _ _ (wo_new hO9 DO))
      have hget := List.getElem?_eq_getElem lk
      have exx : (xs.map fun x => V.ref x.t)[kk0]? = some (.ref xs[kk0].t) := by rw [List.getElem?_map, hget]; rfl
      have hxk := LN7.ea _ (List.getElem_mem lk)
      obtain ⟨ys, dy⟩ := dr _ (List.getElem_mem lk)
      have epa := pa_get hget
      have elo : lo (xs.map rawO) kk0 = (rawO xs[kk0]).2 := lo_at (by rw [List.getElem?_map, hget]; rfl)
      generalize xs[kk0] = x at hget exx hxk dy epa elo
      have elo : lo (xs.map rawO) kk0 = ys.map (·.2) := by
        rw [elo]
        show (x.os.filterMap id).map (·.2) = _
        rw [dy.os, some_filter]
      have yx : x.os.map rvO = ys.map fun x => V.ref x.1 := by
        rw [dy.os, List.map_map]
        rfl
      have xli := hxk.li
      rw [yx] at xli
      have eps : prs (xs.map rawO) = xs.map (·.p) := prs_raw xs
      dsimp only [gName, tSeq, tNext, tAsg]
      refine tif_any (Pr := fun v H' => v = pV ((pa (xs.map (·.p)) kk0).map fun p => (ord (xs.map (·.p)) 0).idxOf p) ∧ H' = G2) (decide (kk0 = 0)) (fun Rr rr => ⟨_, rfl, rfl, _, rfl, ?_⟩) (fun c Qq qq => ?_) (fun c Qq qq => ?_) (fun v G3 pr => ?_)
      · have : decide (V.int (kk0 : Nat) = V.int 0) = decide (kk0 = 0) := by
          by_cases h : kk0 = 0
          · simp [h]
          · have : (V.int (kk0 : Nat) : V) ≠ V.int 0 := fun e => by
              injection e with e
              omega
            simp [h, this]
        rw [this]
        exact rr
      · have c := of_decide_eq_true c
        subst c
        exact qq _ _ ⟨by rw [wf'.rt]; rfl, rfl⟩
      · have c := of_decide_eq_false c
        obtain ⟨pp, mp, hpp⟩ := ord_up wf' 0 kk0 mk0 c
        have xp : x.p = some pp := by rw [← epa]; exact hpp
        have xtu := hxk.tu
        rw [xp] at xtu
        refine ⟨_, rfl, .inl ⟨rfl, _, SqL.of hOG⟩, _, rfl, _, rfl, N, _, _, .ref x.t, rfl, rfl, SqL.of (s7G _ _ LN7.li), atI_nat exx, x.t, _, 0, .int (pp : Nat), rfl, rfl, SqT.of (s7G _ _ xtu), rfl, O, _, .int (pp : Nat), (ord (xs.map (·.p)) 0).idxOf pp, .int (pp : Nat), rfl, rfl, SqL.of hOG, rfl, ?_, ?_, ?_, fun m z' hm hz => ?_, qq _ _ ⟨by rw [hpp]; rfl, rfl⟩⟩
        · refine List.all_eq_true.mpr fun y my => ?_
          obtain ⟨n, _, rfl⟩ := List.mem_map.mp my
          rfl
        · show (List.map _ _)[_]? = _
          rw [List.getElem?_map, idx_get mp]
          rfl
        · simp [eqV]
        · have hz : (List.map (fun n : Nat => V.int (n : Nat)) (ord (xs.map (·.p)) 0))[m]? = some z' := hz
          rw [List.getElem?_map] at hz
          obtain ⟨n, hn, rfl⟩ := Option.map_eq_some_iff.mp hz
          by_cases e : n = pp
          · subst e
            have := idx_first hn
            omega
          · have : ¬ ((n : Nat) : Int) = ((pp : Nat) : Int) := by omega
            simp [eqV, this]
      · obtain ⟨rfl, rfl⟩ := pr
        refine ⟨_, rfl, .inl ⟨rfl, _, SqL.of hD⟩, _, rfl, _, rfl, _, rfl, N, _, _, .ref x.t, rfl, rfl, SqL.of (s7G _ _ LN7.li), atI_nat exx, x.t, _, 1, _, rfl, rfl, SqT.of (s7G _ _ hxk.tu), rfl, ?_⟩
        dsimp only [tNil, List.cons_append, List.nil_append]
        refine sorted_set (xs := ys) (xli.same s7G).or (fun y m => s7G _ _ (hxk.ea y (by rw [dy.os]; exact List.mem_map_of_mem m))) (by have := dy.few; omega) fun l Ms G4 s4' nl hl sub mem asc => ?_
        have eM : Ms.map (·.2) = nrm (ys.map (·.2)) := nrm_of asc mem
        refine ⟨(by show 2 ≤ sizeLine; decide), fun t nt => ?_⟩
        have hD4 := s4' _ _ hD
        have lD : l ≠ D := fun e => by rw [e, hD] at nl; cases nl
        have tD : t ≠ D := fun e => by rw [e, hD4] at nt; cases nt
        have yD : ∀ y ∈ Ms, y.1 ≠ D := fun y my e => by
          have := LN7.ea
          have h1 := hxk.ea y (by rw [dy.os]; exact List.mem_map_of_mem (sub y my))
          rw [e, nD7] at h1
          cases h1
        have u5 := same_new (o := .tup [pV ((pa (xs.map (·.p)) kk0).map fun p => (ord (xs.map (·.p)) 0).idxOf p), .ref l]) nt
        have c5' : (upd G4 t (.tup [pV ((pa (xs.map (·.p)) kk0).map fun p => (ord (xs.map (·.p)) 0).idxOf p), .ref l])) t = some (.tup [pV ((pa (xs.map (·.p)) kk0).map fun p => (ord (xs.map (·.p)) 0).idxOf p), .ref l]) := upd_same
        generalize upd G4 t (.tup [pV ((pa (xs.map (·.p)) kk0).map fun p => (ord (xs.map (·.p)) 0).idxOf p), .ref l]) = G5 at u5 c5' ⊢
        have s35 := s4'.trans u5
        have hD5 := u5 _ _ hD4
        have lds : ds.length ≤ i := by
          have := congrArg List.length eds
          rw [List.length_map, List.length_take] at this
          omega
        refine ⟨D, _, _, rfl, rfl, hD5, by rw [List.length_map, sizeLine_eq]; omega, ?_⟩
        obtain ⟨nx, enx⟩ : ∃ nx : Nl, nx = Nl.mk t ((pa (xs.map (·.p)) kk0).map fun p => (ord (xs.map (·.p)) 0).idxOf p) l Ms := ⟨_, rfl⟩
        have eN : ds.map (fun x => V.ref x.t) ++ [V.ref t] = (ds ++ [nx]).map fun x : Nl => V.ref x.t := by rw [enx]; simp
        rw [eN]
        have w6 : Same (Wo D G5) (Wo D (upd G5 D (.lst ((ds ++ [nx]).map fun x : Nl => V.ref x.t)))) := wo_upd
        have c6 : (upd G5 D (.lst ((ds ++ [nx]).map fun x : Nl => V.ref x.t))) D = some (.lst ((ds ++ [nx]).map fun x : Nl => V.ref x.t)) := upd_same
        generalize upd G5 D (.lst ((ds ++ [nx]).map fun x : Nl => V.ref x.t)) = G6 at w6 c6 ⊢
        refine ⟨ds ++ [nx], _, _, rfl, c6, fun y my => ?_, ?_, sw.trans ((wo_same s35).trans w6)⟩
        · rcases List.mem_append.mp my with my | my
          · exact (hds y my).same ((wo_same s35).trans w6)
          · rw [List.mem_singleton.mp my, enx]
            exact ⟨w6 _ _ (wo_new c5' tD), w6 _ _ (wo_new (u5 _ _ hl) lD), fun y my => w6 _ _ (wo_new (s35 _ _ (s7G _ _ (hxk.ea y (by rw [dy.os]; exact List.mem_map_of_mem (sub y my))))) (yD y my))⟩
        · have hr := ren_at (τ := xs.map rawO) (i := i) (j := kk0) (by rw [eps]; exact hk)
          rw [eps] at hr
          rw [take_snoc hr, List.map_append, eds, enx]
          show _ ++ [(_, Ms.map (·.2))] = _
          rw [eM, elo]
    · obtain ⟨ds, v8, v9, rfl, hD, hds, eds, sw⟩ := pp
      have lren : (ren (xs.map rawO)).length = (ord (xs.map (·.p)) 0).length := by
        unfold ren
        rw [List.length_map, prs_raw]
      rw [show (intsV (ord (xs.map (·.p)) 0)).length = (ren (xs.map rawO)).length by rw [lren]; exact List.length_map _, List.take_length] at eds
      have s7G := sWo sw
      have hOG := wo_le _ _ (sw _ _ (wo_new hO9 DO))
      have NLd : NlsAt G D ds := ⟨hD, fun x m => (hds x m).same wo_le⟩
      obtain ⟨rR0, eTx⟩ := ren_tx dr wf l0 gd bnt.ne
      obtain ⟨ρ, hρ⟩ : ∃ ρ, ρ = ren (xs.map rawO) := ⟨_, rfl⟩
      rw [← hρ] at rR0 eTx eds
      have fρ := rd_fct rR0
      have qaG := qa7.same s7G
      have LNG := LN7.same s7G
      obtain ⟨dg3, rg3, _, _, _, _, _, hgG, _⟩ := id qaG.ex
      refine ⟨rfl, _, rfl, g, dg3, _, rfl, hgG, rfl, ?_⟩
      dsimp only [tNil, List.cons_append, List.nil_append]
      refine ask qaG fun G2 s2G => ⟨rfl, txS (xs.map trO), (zsL xs).map tl, rfl, lok, zsL_tx xs, fun no => absurd rR0 (no _), fun ρ' rρ G3 g2 s3G ng2 qa2 => ?_⟩
      obtain rfl := rρ.one rR0
      have lρ := rd_len rR0
      have lρ16 : ρ'.length ≤ 16 := by rw [lρ]; exact lok.few
      have lρ0 : 0 < ρ'.length := by rw [lρ]; exact List.length_pos_iff.mpr lok.ne
      have s3 := s2G.trans s3G
      have wρ : Wf (prs ρ') := by
        obtain ⟨⟨ab, e⟩, _⟩ := rR0
        exact (told_lines e lok.ne).2.2.1
      have lotρ : ∀ x ∈ ρ', x.2.length ≤ 20 := fun x mx => by
        rw [hρ] at mx
        unfold ren at mx
        obtain ⟨j, _, rfl⟩ := List.mem_map.mp mx
        have h1 := (lo_two (raw_fct dr) j).1
        have h2 := nrm_len (lo (xs.map rawO) j)
        show (nrm _).length ≤ 20
        omega
      obtain ⟨dg4, rg4, _, _, _, _, _, hg2, _⟩ := id qa2.ex
      refine ifs_ret (fun b H' => b = false ∧ Same G3 H') (fun R hR => ?_) (fun H' pc => absurd pc.1 (by decide)) (fun G4 pc => ?_)
      · refine ⟨_, rfl, g2, dg4, _, rfl, hg2, g2, ρ', rfl, qa2, by omega, fun G5 N2 ns2 s5' nN2 hN2 e2 => ?_⟩
        have s35 := s3.trans s5'
        have fds : ∀ x ∈ ds.map Nl.nd, ∀ c ∈ x.2, Fct c := by rw [eds]; exact fρ
        refine ⟨_, rfl, _, _, dp_nodes hN2, dp_nodes (NLd.same s35), shaped_nds (by rw [e2]; exact fρ), shaped_nds fds, _, rfl, ?_⟩
        rw [show (!PyData.eqv (.list ((ns2.map Nl.nd).map ndD)) (.list ((ds.map Nl.nd).map ndD))) = false by rw [PyData.eqv, eqv_nds, e2, eds]; simp]
        refine iteF ?_
        have qa25 := qa2.same s5'
        obtain ⟨dg5, rg5, _, _, _, _, _, hg5, _⟩ := id qa25.ex
        refine ⟨_, rfl, g2, dg5, _, rfl, hg5, rfl, ?_⟩
        dsimp only [tNil, List.cons_append, List.nil_append]
        refine ⟨g2, ρ', rfl, qa25, wρ, lρ0, by omega, fun x mx => ⟨lotρ x mx, fρ x mx⟩, fun G6 s6 => ?_⟩
        have s36 := s35.trans s6
        have qaG6 := qaG.same s36
        obtain ⟨dg6, rg6, _, _, _, _, _, hg6', _⟩ := id qaG6.ex
        refine ⟨_, rfl, g, dg6, _, rfl, hg6', rfl, ?_⟩
        dsimp only [tNil, List.cons_append, List.nil_append]
        refine ask qaG6 fun G7 s7' => ⟨rfl, _, rfl, ?_⟩
        rw [eTx, show (!decide (V.str (txS (xs.map trO)) = V.str (txS (xs.map trO)))) = false by simp]
        refine iteF ?_
        have qa27 := qa25.same (s6.trans s7')
        have qaG7 := qaG6.same s7'
        obtain ⟨dg7, rg7, _, _, _, _, _, hg7, _⟩ := id qa27.ex
        obtain ⟨dg8, rg8, _, _, _, _, _, hg8, _⟩ := id qaG7.ex
        have sG7 := s36.trans s7'
        refine ⟨_, rfl, _, rfl, g2, dg7, _, rfl, hg7, ⟨g, rfl, .inl ⟨_, _, hg8⟩⟩, g2, g, ρ', xs.map trO, rfl, qa27, qaG7, fρ, fun x mx => (tr_fct dr x mx).2, _, rfl, ?_⟩
        have hOG7 := sG7 _ _ hOG
        refine ⟨_, rfl, _, rfl, N, _, rfl, .inl (SqL.of (sG7 _ _ LNG.li)), _, rfl, RgOk.of_le (by decide) (by rw [List.length_map]; omega) (by decide) (by omega), fun Rg nRg => ?_⟩
        have u8 := same_new (o := .lst (rgV 0 (((xs.map fun x => V.ref x.t).length : Nat) : Int))) nRg
        have cR : (upd G7 Rg (.lst (rgV 0 (((xs.map fun x => V.ref x.t).length : Nat) : Int)))) Rg = some (.lst (intsV (List.range xs.length))) := by rw [upd_same, List.length_map, rg_nats]
        refine ⟨_, _, .lst (SqL.of (u8 _ _ hOG7)) (dp_nats _), .lst (SqL.of cR) (dp_nats _), shaped_nats _, shaped_nats _, rfl, _, rfl, hR _ _ ⟨?_, s5'.trans (s6.trans (s7'.trans u8))⟩⟩
        rw [PyData.eqv, eqv_nats, ← ren_tr dr wf l0, ← hρ]
        simp
      · obtain ⟨_, s34⟩ := pc
        have sG4 := s3.trans s34
        have kG4 : Kp p r H3 G4 := Kp.of ((s4.trans s46).trans (s7.trans (s7G.trans sG4)))
        have d4 : DrwAt p r 998000 G4 := d3.same ((s4.trans s46).trans (s7.trans (s7G.trans sG4)))
        have hLG : G4 L = some (.lst ((zsL xs).map V.str)) := sG4 _ _ (s7G _ _ (s7 _ _ hL6))
        have Lpr := d3.ne nL
        refine ⟨_, rfl, by decide, by decide, for_range (lo := 0) (n := (3 : Int).toNat) (fun i σ H' => ∃ (L : Addr) (zs : List Str) (v8 v9 : Option V), σ = [some (.ref q), some (.ref p), some (.ref wd), some (.ref N), some (.ref L), some (.ref g), some (.ref O), some (.ref D), v8, v9, some (.ref g2)] ∧
            Bnt i zs ∧ Off p r H' L = some (.lst (zs.map V.str)) ∧ DrwAt p r (900000 - 4 * i) H')
          ⟨L, zsL xs, _, _, rfl, bnt, by rw [off_of Lpr.1 Lpr.2]; exact hLG, d4.mono (by decide)⟩ ?_ ?_⟩
        · rintro i σ H' hi ⟨Lc, zs, w8, w9, rfl, bz, hLc, dd⟩
          have hi3 : i < 3 := hi
          have dd' : DrwAt p r ((900000 - 4 * (i + 1)) + 4) H' := dd.mono (by omega)
          refine ⟨_, rfl, _, rfl, p, r, Lc, 900000 - 4 * (i + 1), i, zs, rfl, dd', hLc, bz, by omega, fun l ys G1 hl by1 d1' k1' => ?_⟩
          have okY := by1.ok (by omega)
          have hl1 := off_le _ _ hl
          have sumy : (ys.map (·.length)).sum ≤ ys.length * 1007 := sum_le 1007 _ fun z mz => by
            rw [len_tl]
            exact (by1.ea z mz).le (by omega)
          have leny := by1.few
          have sizeY : (ys.map (·.length)).sum + ys.length * (Str.ofString "\n").length ≤ 16777216 := by
            rw [show (Str.ofString "\n").length = 1 by decide +kernel]
            omega
          have lj : (Txt.join (Str.ofString "\n") ys).length ≤ 400000 := by
            have := joinL_le (ys.map tl) 20000 okY.len
            rw [List.length_map] at this
            rw [len_tl, join_nl]
            omega
          have keep : ∀ {G2 : Hp}, Same G1 G2 → ∃ (L : Addr) (zs : List Str) (v8 v9 : Option V), [some (V.ref q), some (.ref p), some (.ref wd), some (.ref N), some (.ref l), some (.ref g), some (.ref O), some (.ref D), some (.int (0 + (i : Int))), w9, some (.ref g2)] = [some (V.ref q), some (.ref p), some (.ref wd), some (.ref N), some (.ref L), some (.ref g), some (.ref O), some (.ref D), v8, v9, some (.ref g2)] ∧
              Bnt (i + 1) zs ∧ Off p r G2 L = some (.lst (zs.map V.str)) ∧ DrwAt p r (900000 - 4 * (i + 1)) G2 := fun s => ⟨l, ys, _, _, rfl, by1, Kp.of s _ _ hl, d1'.same s⟩
          have parse : ∀ (G2 : Hp) (Q2 : VK), Same G1 G2 → ((∀ τ, ¬ RdOk (ys.map tl) τ) → ∀ G3, Same G2 G3 → Q2 .non G3) → (∀ τ, RdOk (ys.map tl) τ → ∀ (G3 : Hp) (N : Addr) (xs : List Nl), Same G2 G3 → G2 N = none → NlsAt G3 N xs → xs.map Nl.nd = τ → Q2 (.ref N) G3) →
              ∀ S, G2 S = none → spLPar [.ref S] (upd G2 S (.lst ((Txt.split (Txt.join (Str.ofString "\n") ys) nlS).map V.str))) Q2 E0 := fun G2 Q2 s2 h1 h2 S nS => by
            have u := same_new (o := .lst ((Txt.split (Txt.join (Str.ofString "\n") ys) nlS).map V.str)) nS
            refine ⟨S, ys.map tl, rfl, by rw [upd_same, split_join okY (join_nl ys)], okY, fun no G3 s3 => h1 no G3 (u.trans s3), fun τ r G3 N2 xs2 s3 n2 hn e => h2 τ r G3 N2 xs2 (u.trans s3) (none_of u n2) hn e⟩
          dsimp only [gName, tSeq, tNext]
          refine ifs_ret (fun b H2 => b = false ∧ Same G1 H2) (fun R hR => ?_) (fun H2 pc => absurd pc.1 (by decide)) (fun H2 pc => ?_)
          refine ⟨⟨_, rfl⟩, _, rfl, _, l, ys, rfl, rfl, .inl (SqL.of hl1), sizeY, Txt.join (Str.ofString "\n") ys, ys.map tl, rfl, okY, join_nl ys, fun no G2 s2 => ?_, fun τ rτ G2 N1 xs1 s2 n1 hn1 e1 => ?_⟩
          · refine ⟨⟨_, rfl⟩, _, rfl, _, l, ys, rfl, rfl, .inl (SqL.of (s2 _ _ hl1)), sizeY, ⟨_, rfl⟩, _, nlS, rfl, rfl, by decide +kernel, by rw [sizeLine_eq]; omega, fun S nS => ?_⟩
            dsimp only [tNil, List.cons_append, List.nil_append]
            refine parse G2 _ s2 (fun _ G3 s3 => ⟨.none, .none, .non, .non, by decide, by decide, _, rfl, hR _ _ ⟨by decide +kernel, s2.trans s3⟩⟩) (fun τ rτ => absurd rτ (no τ)) S nS
          · refine ⟨⟨_, rfl⟩, _, rfl, _, l, ys, rfl, rfl, .inl (SqL.of (s2 _ _ hl1)), sizeY, ⟨_, rfl⟩, _, nlS, rfl, rfl, by decide +kernel, by rw [sizeLine_eq]; omega, fun S nS => ?_⟩
            dsimp only [tNil, List.cons_append, List.nil_append]
            refine parse G2 _ s2 (fun no => absurd rτ (no τ)) (fun τ' rτ' G3 N3 xs3 s3 n3 hn3 e3 => ?_) S nS
            obtain rfl := rτ'.one rτ
            have fτ := rd_fct rτ
            refine ⟨_, _, dp_nodes (hn1.same s3), dp_nodes hn3, shaped_nds (by rw [e1]; exact fτ), shaped_nds (by rw [e3]; exact fτ), _, rfl, hR _ _ ⟨?_, s2.trans s3⟩⟩
            rw [PyData.eqv, eqv_nds, e1, e3]
            simp
          · exact keep pc.2
        · rintro σ H' ⟨Lc, zs, w8, w9, rfl, _⟩
          refine ⟨Str.ofString "", [[]], rfl, ln_ok1 (by decide) (fun x h => by cases h), by decide +kernel, fun _ G1 t1 => ?_, fun τ rτ => absurd rτ (no_empty τ)⟩
          refine ⟨rfl, _, rfl, iteT ⟨Str.ofString "-", [[45]], rfl, ln_ok1 (by decide) (fun x h => .inl (List.mem_singleton.mp h)), by decide +kernel, fun no => absurd rd_dash (no _), fun τ rτ G2 N1 xs1 t2 n1 hn1 e1 => ?_⟩⟩
          obtain rfl := rτ.one rd_dash
          refine ⟨(by show 0 ≤ sizeLine; decide), fun a1 na1 => ⟨(by show 2 ≤ sizeLine; decide), fun a2 na2 => ⟨(by show 1 ≤ sizeLine; decide), fun a3 na3 => ?_⟩⟩⟩
          have v1 := same_new (o := .lst []) na1
          have v2 := same_new (o := .tup [.non, .ref a1]) na2
          have v3 := same_new (o := .lst [.ref a2]) na3
          refine ⟨_, .list (([((none : Option Nat), ([] : List Fc))] : List Nd).map ndD), dp_nodes (hn1.same (v1.trans (v2.trans v3))), .lst (SqL.of upd_same) (.cons (.tup (SqT.of (v3 _ _ upd_same)) (.cons .non (.cons (.lst (SqL.of (v3 _ _ (v2 _ _ upd_same))) .nil) .nil))) .nil), shaped_nds (by rw [e1]; exact rd_fct rd_dash), shaped_nds (rd_fct rd_dash), _, rfl, ?_⟩
          rw [PyData.eqv, eqv_nds, e1]
          refine iteT ?_
          refine ⟨Str.ofString "- ", [[45, 32]], rfl, ln_ok1 (by decide) (fun x h => ?_), by decide +kernel, fun _ G3 t3 => ⟨rfl, k G3⟩, fun τ' rτ' => absurd rτ' (no_dash τ')⟩
          rcases List.mem_cons.mp h with h | h
          · exact .inl h
          · exact .inr (List.mem_singleton.mp h)
end
end L2.LawH
set_option Elab.async false
set_option linter.all false
set_option maxRecDepth 100000
set_option maxHeartbeats 0
/-! The law on texts of questions: its end. -/
namespace L2.LawH
open PySem PySem.Spec PyProof.Rows L2.TxtSet TL L2.NSet PySem.W L2.OwnOp
open Builtin.Int (intBits)
abbrev veB10 : List Value := [.type "ValueError", .type "Exception", .type "BaseException", .type "object"]
theorem kbnA {K : PySem.W.Frag} {x qual : Str} {st : Stmt} {f : Addr} {fd : FuncData} (F : Fun K x qual st f fd) {ps ks : List Str}
    (h : ∀ (kV doc pm : Value) (an : Option Addr) (cdv ct : Value) (us ws : List Value), us.length = 1 → ws.length = ks.length → bindArgs (PySem.W.fnOf x qual (defArgs st) (defBody st) (defScope st) .none kV doc pm an cdv ct) ⟨us, ks.zip ws⟩ = pure (ps.zip (us ++ ws))) :
    KBn K fd ps 1 ks (fun a b => a ++ b) (fun a b => a ++ b) := by
  obtain ⟨oc, od, kV, doc, pm, an, cdv, ct, osl, rfl, lk, hcd⟩ := F.ex
  exact ⟨fun s us ws _ l1 l2 => .of_eq (h kV doc pm an cdv ct us ws l1 l2), fun r1 r2 => r1.append r2⟩
theorem exm_b {K : PySem.W.Frag} {D B : Addr} {b : Bool} (su : PySem.W.subIn K (.ref B) (.type "BaseException") = some true) (ic : PySem.W.isClsIn K B = true) (ty : PySem.W.typeIn K (.ref B) = some (.type "type")) (sB : PySem.W.subIn K (.ref D) (.ref B) = some b) :
    PySem.W.exmOne K (.ref D) (.ref B) = some b := by
  unfold PySem.W.exmOne
  rw [su, if_pos (by decide +kernel)]
  show (if ((PySem.W.clsIn K B).isSome && PySem.W.typeIn K (.ref B) == some (.type "type")) = true then PySem.W.subIn K (.ref D) (.ref B) else none) = _
  have ic' : (PySem.W.clsIn K B).isSome = true := ic
  rw [ic', ty, if_pos (by decide +kernel)]
  exact sB
theorem exm_3 {K : PySem.W.Frag} {c a1 a2 a3 : Value} {b1 b2 b3 : Bool} (h1 : PySem.W.exmOne K c a1 = some b1) (h2 : PySem.W.exmOne K c a2 = some b2) (h3 : PySem.W.exmOne K c a3 = some b3) (e : (b1 || (b2 || (b3 || false))) = true) : PySem.W.exmAny K c [a1, a2, a3] = some true := by
  simp only [PySem.W.exmAny, h1, h2, h3]
  rw [e]
theorem kit_self {K : PySem.W.Frag} {C : Addr} : PySem.W.kitOne K (.ref C) (.ref C) = some true := by
  show (if (Value.ref C == Value.ref C) = true then some true else PySem.W.kitCls K (.ref C) (.ref C)) = some true
  rw [if_pos (by simp)]
def Oex (K : PySem.W.Frag) (C : Addr) : Prop := ∃ nm q N bs bm sn sub ab col dd k0 k1 k2 k3 k5, K.lookup C = some (excClassObj nm q C N bs bm true sn sub ab col dd k0 k1 k2 k3 k5 "ValueError.__new__") ∧ PySem.HandSPX.refsVE bm = true
theorem all_mk {P : Program} {w : World} {K : PySem.W.Frag} {h : Heap} {mg : Str → Option Value} {fa fPo fD fWd fWs fW fPa fTd fTr fLv fOr fDp fLx fLi fNm fRP fPr fTo fBe fN fV fP fVs fX fR fIW fIL fIN fAN fNN fCO fFT fLT fNT fL fMI fME fMC fMT fMN fCR fBI fLI fNI pMN pCR cQ cB cP cL cN : Addr} {t3 t4 : Tok}
    (X : K.In h) (G : h.Ns mainGlobals mg) (hfa : mg "law" = some (.ref fa))
    (bPo : PySem.W.nsIn K mainGlobals "_law_pool" = some (some (.ref fPo)))
    (EPo : ∃ fd, Fun K "_law_pool" "_law_pool" sPool3 fPo fd)
    (bD : PySem.W.nsIn K mainGlobals "_law_draw" = some (some (.ref fD)))
    (ED : ∃ fd, Fun K "_law_draw" "_law_draw" sDraw3 fD fd)
    (bWd : PySem.W.nsIn K mainGlobals "_law_word" = some (some (.ref fWd)))
    (EWd : ∃ fd, Fun K "_law_word" "_law_word" sWord fWd fd)
    (bWs : PySem.W.nsIn K mainGlobals "_law_words" = some (some (.ref fWs)))
    (EWs : ∃ fd, Fun K "_law_words" "_law_words" sWords fWs fd)
    (bW : PySem.W.nsIn K mainGlobals "_law_world" = some (some (.ref fW)))
    (EW : ∃ fd, Fun K "_law_world" "_law_world" sWorld fW fd)
    (bPa : PySem.W.nsIn K mainGlobals "_law_pattern" = some (some (.ref fPa)))
    (EPa : ∃ fd, Fun K "_law_pattern" "_law_pattern" sPat3 fPa fd)
    (bTd : PySem.W.nsIn K mainGlobals "_law_tied" = some (some (.ref fTd)))
    (ETd : ∃ fd, Fun K "_law_tied" "_law_tied" sTied fTd fd)
    (bTr : PySem.W.nsIn K mainGlobals "_law_tree" = some (some (.ref fTr)))
    (ETr : ∃ fd, Fun K "_law_tree" "_law_tree" sTree fTr fd)
    (bLv : PySem.W.nsIn K mainGlobals "_law_variables" = some (some (.ref fLv)))
    (ELv : ∃ fd, Fun K "_law_variables" "_law_variables" sLVar fLv fd)
    (bOr : PySem.W.nsIn K mainGlobals "_law_order" = some (some (.ref fOr)))
    (EOr : ∃ fd, Fun K "_law_order" "_law_order" sLOrd fOr fd)
    (bDp : PySem.W.nsIn K mainGlobals "_law_depth" = some (some (.ref fDp)))
    (EDp : ∃ fd, Fun K "_law_depth" "_law_depth" sLDep fDp fd)
    (bLx : PySem.W.nsIn K mainGlobals "_law_pattern_text" = some (some (.ref fLx)))
    (ELx : ∃ fd, Fun K "_law_pattern_text" "_law_pattern_text" sLPtx fLx fd)
    (bLi : PySem.W.nsIn K mainGlobals "_law_lines" = some (some (.ref fLi)))
    (ELi : ∃ fd, Fun K "_law_lines" "_law_lines" sLLin fLi fd)
    (bNm : PySem.W.nsIn K mainGlobals "_law_name" = some (some (.ref fNm)))
    (ENm : ∃ fd, Fun K "_law_name" "_law_name" sLNm fNm fd)
    (bRP : PySem.W.nsIn K mainGlobals "_law_read_pattern" = some (some (.ref fRP)))
    (ERP : ∃ fd, Fun K "_law_read_pattern" "_law_read_pattern" sLRP fRP fd)
    (bPr : PySem.W.nsIn K mainGlobals "_law_parsed" = some (some (.ref fPr)))
    (EPr : ∃ fd, Fun K "_law_parsed" "_law_parsed" sLPar fPr fd)
    (bTo : PySem.W.nsIn K mainGlobals "_law_told" = some (some (.ref fTo)))
    (ETo : ∃ fd, Fun K "_law_told" "_law_told" sLTol fTo fd)
    (bBe : PySem.W.nsIn K mainGlobals "_law_bent" = some (some (.ref fBe)))
    (EBe : ∃ fd, Fun K "_law_bent" "_law_bent" sLBen fBe fd)
    (bN : PySem.W.nsIn K mainGlobals "is_name" = some (some (.ref fN)))
    (EN : ∃ fd, Fun K "is_name" "is_name" sIsN fN fd)
    (bV : PySem.W.nsIn K mainGlobals "is_variable" = some (some (.ref fV)))
    (EV : ∃ fd, Fun K "is_variable" "is_variable" sIsV9 fV fd)
    (bP : PySem.W.nsIn K mainGlobals "is_pattern" = some (some (.ref fP)))
    (EP : ∃ fd, Fun K "is_pattern" "is_pattern" sIsP9 fP fd)
    (bVs : PySem.W.nsIn K mainGlobals "variables_of" = some (some (.ref fVs)))
    (EVs : ∃ fd, Fun K "variables_of" "variables_of" sVars fVs fd)
    (bX : PySem.W.nsIn K mainGlobals "pattern_text" = some (some (.ref fX)))
    (EX : ∃ fd, Fun K "pattern_text" "pattern_text" sPt12 fX fd)
    (bR : PySem.W.nsIn K mainGlobals "read_pattern" = some (some (.ref fR)))
    (ER : ∃ fd, Fun K "read_pattern" "read_pattern" sRd18 fR fd)
    (bIW : PySem.W.nsIn K mainGlobals "is_whole" = some (some (.ref fIW)))
    (EIW : ∃ fd, Fun K "is_whole" "is_whole" sWhole fIW fd)
    (bIL : PySem.W.nsIn K mainGlobals "is_list" = some (some (.ref fIL)))
    (EIL : ∃ fd, Fun K "is_list" "is_list" sIsL fIL fd)
    (bIN : PySem.W.nsIn K mainGlobals "is_node" = some (some (.ref fIN)))
    (EIN : ∃ fd, Fun K "is_node" "is_node" sIsNd fIN fd)
    (bAN : PySem.W.nsIn K mainGlobals "are_nodes" = some (some (.ref fAN)))
    (EAN : ∃ fd, Fun K "are_nodes" "are_nodes" sAreN fAN fd)
    (bNN : PySem.W.nsIn K mainGlobals "new_names" = some (some (.ref fNN)))
    (ENN : ∃ fd, Fun K "new_names" "new_names" sNewN fNN fd)
    (bCO : PySem.W.nsIn K mainGlobals "children_of" = some (some (.ref fCO)))
    (ECO : ∃ fd, Fun K "children_of" "children_of" sChil fCO fd)
    (bFT : PySem.W.nsIn K mainGlobals "first_twice" = some (some (.ref fFT)))
    (EFT : ∃ fd, Fun K "first_twice" "first_twice" sFTw fFT fd)
    (bLT : PySem.W.nsIn K mainGlobals "lot_text" = some (some (.ref fLT)))
    (ELT : ∃ fd, Fun K "lot_text" "lot_text" sLotT fLT fd)
    (bNT : PySem.W.nsIn K mainGlobals "nodes_told" = some (some (.ref fNT)))
    (ENT : ∃ fd, Fun K "nodes_told" "nodes_told" sNTld fNT fd)
    (bL : PySem.W.nsIn K mainGlobals "law" = some (some (.ref fL)))
    (EL : ∃ fd, Fun K "law" "law" sLaw fL fd)
    (bC : PySem.W.nsIn K mainGlobals "Question" = some (some (.ref cQ)))
    (bB : PySem.W.nsIn K mainGlobals "BadText" = some (some (.ref cB)))
    (bMI : PySem.W.findIn K (.ref cQ) "__init__" = some (some (.ref fMI)))
    (EMI : ∃ fd, Fun K "__init__" "Question.__init__" sInitQ fMI fd)
    (iMI : PySem.W.isFn K (.ref fMI) = true)
    (bME : PySem.W.findIn K (.ref cQ) "__eq__" = some (some (.ref fME)))
    (EME : ∃ fd, Fun K "__eq__" "Question.__eq__" sEqQ fME fd)
    (iME : PySem.W.isFn K (.ref fME) = true)
    (bMC : PySem.W.findIn K (.ref cQ) "children" = some (some (.ref fMC)))
    (EMC : ∃ fd, Fun K "children" "Question.children" sChiQ fMC fd)
    (iMC : PySem.W.isFn K (.ref fMC) = true)
    (bMT : PySem.W.findIn K (.ref cQ) "text" = some (some (.ref fMT)))
    (EMT : ∃ fd, Fun K "text" "Question.text" sTxtQ fMT fd)
    (iMT : PySem.W.isFn K (.ref fMT) = true)
    (bMN : PySem.W.findIn K (.ref cQ) "nodes" = some (some (.ref pMN)))
    (gMN : PySem.W.specialIn K (.ref pMN) "__get__" = some (some (.builtin "property.__get__")))
    (tMN : PySem.W.takesIn K (.ref pMN) = some true)
    (XrMN : ∃ rest, PySem.W.recIn K pMN "property" = some (.ref fMN :: rest))
    (EMN : ∃ fd, Fun K "nodes" "Question.nodes" sNodQ fMN fd)
    (rd : PySem.W.readsIn K cQ (.type "type") = true)
    (rga : PySem.W.specialIn K (.ref cQ) "__getattribute__" = some (some (.builtin "type.__getattribute__")))
    (bCR : PySem.W.findCls K (.ref cQ) (.type "type") "read" = some (.get (.builtin "classmethod.__get__") (.ref pCR) .none (.ref cQ)))
    (XrCR : ∃ rest, PySem.W.recIn K pCR "classmethod" = some (.ref fCR :: rest))
    (iCR : PySem.W.fnIn K fCR = true)
    (ECR : ∃ fd, Fun K "read" "Question.read" sRdQ fCR fd)
    (pg : PySem.W.plainGet K cQ Str.empty = true)
    (hd : PySem.W.hasDictIn K cQ = true)
    (po : PySem.W.plainOver K cQ = true)
    (sa : PySem.W.findIn K (.ref cQ) "__setattr__" = some (some (.builtin "object.__setattr__")))
    (mk : PySem.W.makesIn K cQ = true)
    (kc : PySem.W.keepIn K (.ref cQ) = true)
    (nA0 : PySem.W.findIn K (.ref cQ) "_parents" = some none)
    (nA1 : PySem.W.findIn K (.ref cQ) "_lots" = some none)
    (nA2 : PySem.W.findIn K (.ref cQ) "_names" = some none)
    (nA3 : PySem.W.findIn K (.ref cQ) "_new" = some none)
    (nA4 : PySem.W.findIn K (.ref cQ) "_children" = some none)
    (nA5 : PySem.W.findIn K (.ref cQ) "_home" = some none)
    (nA6 : PySem.W.findIn K (.ref cQ) "_parts" = some none)
    (nA7 : PySem.W.findIn K (.ref cQ) "_constants" = some none)
    (nA8 : PySem.W.findIn K (.ref cQ) "_places" = some none)
    (nA9 : PySem.W.findIn K (.ref cQ) "_having" = some none)
    (nA10 : PySem.W.findIn K (.ref cQ) "_leads" = some none)
    (nA11 : PySem.W.findIn K (.ref cQ) "_aims" = some none)
    (nA12 : PySem.W.findIn K (.ref cQ) "_courses" = some none)
    (ha : PySem.W.findIn K (.ref cQ) "__class__" = some (some (.builtin "object.__class__")))
    (hn : PySem.W.specialIn K (.builtin "object.__class__") "__get__" = some (some (.builtin "getset_descriptor.__get__")))
    (htk : PySem.W.takesIn K (.builtin "object.__class__") = some true)
    (hm : PySem.W.mroIn K cQ (.type "object") = some true)
    (exB : PySem.W.subIn K (.ref cB) (.type "BaseException") = some true)
    (txB : PySem.W.typeIn K (.ref cB) = some (.type "type"))
    (kxB : PySem.W.keepIn K (.ref cB) = true)
    (ixB : PySem.W.isClsIn K cB = true)
    (sxB : PySem.W.subIn K (.ref cB) (.ref cB) = some true)
    (QB : PySem.W.excIn K cB veB10 "ValueError.__new__" = true)
    (bXP : PySem.W.nsIn K mainGlobals "BadPattern" = some (some (.ref cP)))
    (exP : PySem.W.subIn K (.ref cP) (.type "BaseException") = some true)
    (txP : PySem.W.typeIn K (.ref cP) = some (.type "type"))
    (kxP : PySem.W.keepIn K (.ref cP) = true)
    (ixP : PySem.W.isClsIn K cP = true)
    (OP : Oex K cP)
    (saP : PySem.W.findIn K (.ref cP) "__setattr__" = some (some (.builtin "object.__setattr__")))
    (nlP : PySem.W.findIn K (.ref cP) "value" = some none)
    (bBI : PySem.W.findIn K (.ref cP) "__init__" = some (some (.ref fBI)))
    (iBI : PySem.W.typeIn K (.ref fBI) = some (.type "function"))
    (EBI : ∃ fd, Fun K "__init__" "BadPattern.__init__" sBPi fBI fd)
    (bXL : PySem.W.nsIn K mainGlobals "Loose" = some (some (.ref cL)))
    (exL : PySem.W.subIn K (.ref cL) (.type "BaseException") = some true)
    (txL : PySem.W.typeIn K (.ref cL) = some (.type "type"))
    (kxL : PySem.W.keepIn K (.ref cL) = true)
    (ixL : PySem.W.isClsIn K cL = true)
    (OL : Oex K cL)
    (saL : PySem.W.findIn K (.ref cL) "__setattr__" = some (some (.builtin "object.__setattr__")))
    (nlL : PySem.W.findIn K (.ref cL) "variable" = some none)
    (bLI : PySem.W.findIn K (.ref cL) "__init__" = some (some (.ref fLI)))
    (iLI : PySem.W.typeIn K (.ref fLI) = some (.type "function"))
    (ELI : ∃ fd, Fun K "__init__" "Loose.__init__" sLOi fLI fd)
    (bXN : PySem.W.nsIn K mainGlobals "NothingNew" = some (some (.ref cN)))
    (exN : PySem.W.subIn K (.ref cN) (.type "BaseException") = some true)
    (txN : PySem.W.typeIn K (.ref cN) = some (.type "type"))
    (kxN : PySem.W.keepIn K (.ref cN) = true)
    (ixN : PySem.W.isClsIn K cN = true)
    (ON : Oex K cN)
    (saN : PySem.W.findIn K (.ref cN) "__setattr__" = some (some (.builtin "object.__setattr__")))
    (nlN : PySem.W.findIn K (.ref cN) "index" = some none)
    (bNI : PySem.W.findIn K (.ref cN) "__init__" = some (some (.ref fNI)))
    (iNI : PySem.W.typeIn K (.ref fNI) = some (.type "function"))
    (ENI : ∃ fd, Fun K "__init__" "NothingNew.__init__" sNNi fNI fd)
    (sPP : PySem.W.subIn K (.ref cP) (.ref cP) = some true)
    (sPL : PySem.W.subIn K (.ref cP) (.ref cL) = some false)
    (sPN : PySem.W.subIn K (.ref cP) (.ref cN) = some false)
    (sLP : PySem.W.subIn K (.ref cL) (.ref cP) = some false)
    (sLL : PySem.W.subIn K (.ref cL) (.ref cL) = some true)
    (sLN : PySem.W.subIn K (.ref cL) (.ref cN) = some false)
    (sNP : PySem.W.subIn K (.ref cN) (.ref cP) = some false)
    (sNL : PySem.W.subIn K (.ref cN) (.ref cL) = some false)
    (sNN : PySem.W.subIn K (.ref cN) (.ref cN) = some true)
    (z_int : PySem.W.nsIn K mainGlobals "int" = some none)
    (z_str : PySem.W.nsIn K mainGlobals "str" = some none)
    (z_len : PySem.W.nsIn K mainGlobals "len" = some none)
    (z_range : PySem.W.nsIn K mainGlobals "range" = some none)
    (z_tuple : PySem.W.nsIn K mainGlobals "tuple" = some none)
    (z_list : PySem.W.nsIn K mainGlobals "list" = some none)
    (z_sorted : PySem.W.nsIn K mainGlobals "sorted" = some none)
    (z_isinstance : PySem.W.nsIn K mainGlobals "isinstance" = some none)
    (z_set : PySem.W.nsIn K mainGlobals "set" = some none)
    (z_bool : PySem.W.nsIn K mainGlobals "bool" = some none)
    (z_all : PySem.W.nsIn K mainGlobals "all" = some none)
    (z_enumerate : PySem.W.nsIn K mainGlobals "enumerate" = some none)
    (z_zip : PySem.W.nsIn K mainGlobals "zip" = some none)
    (z_sum : PySem.W.nsIn K mainGlobals "sum" = some none)
    (z_reversed : PySem.W.nsIn K mainGlobals "reversed" = some none)
    (c0 : PySem.W.nsIn K mainGlobals "LONGEST_NAME" = some (some (.int 12 t3)))
    (c1 : PySem.W.nsIn K mainGlobals "MOST_TERMS" = some (some (.int 3 t4)))
    : ∃ fd : FuncData, (∀ (s : Shared) (v : Value), BindsTo s fd ⟨[v], []⟩ [("_law_script", v)]) ∧
      ∀ base : Heap, K.In base → base.Ns mainGlobals mg → FnOk P w K mg base CX0 18 fa fd ["_law_script"] (spLaw K) := by
  have e := hfa.symm.trans (PySem.W.mg_of X G bL)
  cases e
  obtain ⟨dPo, FPo⟩ := EPo
  obtain ⟨dD, FD⟩ := ED
  obtain ⟨dWd, FWd⟩ := EWd
  obtain ⟨dWs, FWs⟩ := EWs
  obtain ⟨dW, FW⟩ := EW
  obtain ⟨dPa, FPa⟩ := EPa
  obtain ⟨dTd, FTd⟩ := ETd
  obtain ⟨dTr, FTr⟩ := ETr
  obtain ⟨dLv, FLv⟩ := ELv
  obtain ⟨dOr, FOr⟩ := EOr
  obtain ⟨dDp, FDp⟩ := EDp
  obtain ⟨dLx, FLx⟩ := ELx
  obtain ⟨dLi, FLi⟩ := ELi
  obtain ⟨dNm, FNm⟩ := ENm
  obtain ⟨dRP, FRP⟩ := ERP
  obtain ⟨dPr, FPr⟩ := EPr
  obtain ⟨dTo, FTo⟩ := ETo
  obtain ⟨dBe, FBe⟩ := EBe
  obtain ⟨dN, FN⟩ := EN
  obtain ⟨dV, FV⟩ := EV
  obtain ⟨dP, FP⟩ := EP
  obtain ⟨dVs, FVs⟩ := EVs
  obtain ⟨dX, FX⟩ := EX
  obtain ⟨dR, FR⟩ := ER
  obtain ⟨dIW, FIW⟩ := EIW
  obtain ⟨dIL, FIL⟩ := EIL
  obtain ⟨dIN, FIN⟩ := EIN
  obtain ⟨dAN, FAN⟩ := EAN
  obtain ⟨dNN, FNN⟩ := ENN
  obtain ⟨dCO, FCO⟩ := ECO
  obtain ⟨dFT, FFT⟩ := EFT
  obtain ⟨dLT, FLT⟩ := ELT
  obtain ⟨dNT, FNT⟩ := ENT
  obtain ⟨dL, FL⟩ := EL
  obtain ⟨dMI, FMI⟩ := EMI
  obtain ⟨dME, FME⟩ := EME
  obtain ⟨dMC, FMC⟩ := EMC
  obtain ⟨dMT, FMT⟩ := EMT
  obtain ⟨dMN, FMN⟩ := EMN
  obtain ⟨dCR, FCR⟩ := ECR
  obtain ⟨dBI, FBI⟩ := EBI
  obtain ⟨dLI, FLI⟩ := ELI
  obtain ⟨dNI, FNI⟩ := ENI
  have mPo := PySem.W.mg_of X G bPo
  have mD := PySem.W.mg_of X G bD
  have mWd := PySem.W.mg_of X G bWd
  have mWs := PySem.W.mg_of X G bWs
  have mW := PySem.W.mg_of X G bW
  have mPa := PySem.W.mg_of X G bPa
  have mTd := PySem.W.mg_of X G bTd
  have mTr := PySem.W.mg_of X G bTr
  have mLv := PySem.W.mg_of X G bLv
  have mOr := PySem.W.mg_of X G bOr
  have mDp := PySem.W.mg_of X G bDp
  have mLx := PySem.W.mg_of X G bLx
  have mLi := PySem.W.mg_of X G bLi
  have mNm := PySem.W.mg_of X G bNm
  have mRP := PySem.W.mg_of X G bRP
  have mPr := PySem.W.mg_of X G bPr
  have mTo := PySem.W.mg_of X G bTo
  have mBe := PySem.W.mg_of X G bBe
  have mN := PySem.W.mg_of X G bN
  have mV := PySem.W.mg_of X G bV
  have mP := PySem.W.mg_of X G bP
  have mVs := PySem.W.mg_of X G bVs
  have mX := PySem.W.mg_of X G bX
  have mR := PySem.W.mg_of X G bR
  have mIW := PySem.W.mg_of X G bIW
  have mIL := PySem.W.mg_of X G bIL
  have mIN := PySem.W.mg_of X G bIN
  have mAN := PySem.W.mg_of X G bAN
  have mNN := PySem.W.mg_of X G bNN
  have mCO := PySem.W.mg_of X G bCO
  have mFT := PySem.W.mg_of X G bFT
  have mLT := PySem.W.mg_of X G bLT
  have mNT := PySem.W.mg_of X G bNT
  have mL := PySem.W.mg_of X G bL
  have qPo := FPo.binds (ps := ["_law_script"]) fun _ _ _ _ _ _ us hl => match us, hl with | [_], _ => rfl
  have qD := FD.binds (ps := ["_law_pool_here", "_law_limit"]) fun _ _ _ _ _ _ us hl => match us, hl with | [_, _], _ => rfl
  have qWd := FWd.binds (ps := ["_law_pool_here"]) fun _ _ _ _ _ _ us hl => match us, hl with | [_], _ => rfl
  have qWs := FWs.binds (ps := ["_law_pool_here", "_law_many"]) fun _ _ _ _ _ _ us hl => match us, hl with | [_, _], _ => rfl
  have qW := FW.binds (ps := ["_law_pool_here"]) fun _ _ _ _ _ _ us hl => match us, hl with | [_], _ => rfl
  have qPa := FPa.binds (ps := ["_law_pool_here", "_law_world_here", "_law_own"]) fun _ _ _ _ _ _ us hl => match us, hl with | [_, _, _], _ => rfl
  have qTd := FTd.binds (ps := ["_law_pool_here", "_law_world_here", "_law_own", "_law_fresh"]) fun _ _ _ _ _ _ us hl => match us, hl with | [_, _, _, _], _ => rfl
  have qTr := FTr.binds (ps := ["_law_pool_here", "_law_world_here", "_law_most", "_law_two"]) fun _ _ _ _ _ _ us hl => match us, hl with | [_, _, _, _], _ => rfl
  have qLv := FLv.binds (ps := ["_law_lot"]) fun _ _ _ _ _ _ us hl => match us, hl with | [_], _ => rfl
  have qOr := FOr.binds (ps := ["_law_nodes", "_law_top"]) fun _ _ _ _ _ _ us hl => match us, hl with | [_, _], _ => rfl
  have qDp := FDp.binds (ps := ["_law_nodes", "_law_k"]) fun _ _ _ _ _ _ us hl => match us, hl with | [_, _], _ => rfl
  have qLx := FLx.binds (ps := ["_law_pattern_here"]) fun _ _ _ _ _ _ us hl => match us, hl with | [_], _ => rfl
  have qLi := FLi.binds (ps := ["_law_nodes"]) fun _ _ _ _ _ _ us hl => match us, hl with | [_], _ => rfl
  have qNm := FNm.binds (ps := ["_law_word_here"]) fun _ _ _ _ _ _ us hl => match us, hl with | [_], _ => rfl
  have qRP := FRP.binds (ps := ["_law_word_here"]) fun _ _ _ _ _ _ us hl => match us, hl with | [_], _ => rfl
  have qPr := FPr.binds (ps := ["_law_lines_here"]) fun _ _ _ _ _ _ us hl => match us, hl with | [_], _ => rfl
  have qTo := FTo.binds (ps := ["_law_text"]) fun _ _ _ _ _ _ us hl => match us, hl with | [_], _ => rfl
  have qBe := FBe.binds (ps := ["_law_pool_here", "_law_lines_here"]) fun _ _ _ _ _ _ us hl => match us, hl with | [_, _], _ => rfl
  have qN := FN.binds (ps := ["value"]) fun _ _ _ _ _ _ us hl => match us, hl with | [_], _ => rfl
  have qV := FV.binds (ps := ["value"]) fun _ _ _ _ _ _ us hl => match us, hl with | [_], _ => rfl
  have qP := FP.binds (ps := ["value"]) fun _ _ _ _ _ _ us hl => match us, hl with | [_], _ => rfl
  have qVs := FVs.binds (ps := ["lot"]) fun _ _ _ _ _ _ us hl => match us, hl with | [_], _ => rfl
  have qX := FX.binds (ps := ["pattern"]) fun _ _ _ _ _ _ us hl => match us, hl with | [_], _ => rfl
  have qR := FR.binds (ps := ["text"]) fun _ _ _ _ _ _ us hl => match us, hl with | [_], _ => rfl
  have qIW := FIW.binds (ps := ["value"]) fun _ _ _ _ _ _ us hl => match us, hl with | [_], _ => rfl
  have qIL := FIL.binds (ps := ["value"]) fun _ _ _ _ _ _ us hl => match us, hl with | [_], _ => rfl
  have qIN := FIN.binds (ps := ["value", "index"]) fun _ _ _ _ _ _ us hl => match us, hl with | [_, _], _ => rfl
  have qAN := FAN.binds (ps := ["value"]) fun _ _ _ _ _ _ us hl => match us, hl with | [_], _ => rfl
  have qNN := FNN.binds (ps := ["parents", "names"]) fun _ _ _ _ _ _ us hl => match us, hl with | [_, _], _ => rfl
  have qCO := FCO.binds (ps := ["parents"]) fun _ _ _ _ _ _ us hl => match us, hl with | [_], _ => rfl
  have qFT := FFT.binds (ps := ["names"]) fun _ _ _ _ _ _ us hl => match us, hl with | [_], _ => rfl
  have qLT := FLT.binds (ps := ["lot"]) fun _ _ _ _ _ _ us hl => match us, hl with | [_], _ => rfl
  have qNT := FNT.binds (ps := ["text"]) fun _ _ _ _ _ _ us hl => match us, hl with | [_], _ => rfl
  have qMI := FMI.binds (ps := ["self", "nodes"]) fun _ _ _ _ _ _ us hl => match us, hl with | [_, _], _ => rfl
  have qME := FME.binds (ps := ["self", "other"]) fun _ _ _ _ _ _ us hl => match us, hl with | [_, _], _ => rfl
  have qMC := FMC.binds (ps := ["self", "node"]) fun _ _ _ _ _ _ us hl => match us, hl with | [_, _], _ => rfl
  have qMT := FMT.binds (ps := ["self"]) fun _ _ _ _ _ _ us hl => match us, hl with | [_], _ => rfl
  have qMN := FMN.binds (ps := ["self"]) fun _ _ _ _ _ _ us hl => match us, hl with | [_], _ => rfl
  have qCR := FCR.binds (ps := ["cls", "text"]) fun _ _ _ _ _ _ us hl => match us, hl with | [_, _], _ => rfl
  have qBI := FBI.binds (ps := ["self", "value"]) fun _ _ _ _ _ _ us hl => match us, hl with | [_, _], _ => rfl
  have qLI := FLI.binds (ps := ["self", "variable"]) fun _ _ _ _ _ _ us hl => match us, hl with | [_, _], _ => rfl
  have qNI := FNI.binds (ps := ["self", "index"]) fun _ _ _ _ _ _ us hl => match us, hl with | [_, _], _ => rfl
  have kCR := kbnA FCR (ps := ["cls", "text"]) (ks := ["text"]) fun _ _ _ _ _ _ us ws l1 l2 => match us, ws, l1, l2 with | [_], [_], _, _ => rfl
  have mQ := PySem.W.mg_of X G bC
  have mB := PySem.W.mg_of X G bB
  have mXP := PySem.W.mg_of X G bXP
  have mXL := PySem.W.mg_of X G bXL
  have mXN := PySem.W.mg_of X G bXN
  have y_int := PySem.W.mg_none_of X G z_int
  have y_str := PySem.W.mg_none_of X G z_str
  have y_len := PySem.W.mg_none_of X G z_len
  have y_range := PySem.W.mg_none_of X G z_range
  have y_tuple := PySem.W.mg_none_of X G z_tuple
  have y_list := PySem.W.mg_none_of X G z_list
  have y_sorted := PySem.W.mg_none_of X G z_sorted
  have y_isinstance := PySem.W.mg_none_of X G z_isinstance
  have y_set := PySem.W.mg_none_of X G z_set
  have y_bool := PySem.W.mg_none_of X G z_bool
  have y_all := PySem.W.mg_none_of X G z_all
  have y_enumerate := PySem.W.mg_none_of X G z_enumerate
  have y_zip := PySem.W.mg_none_of X G z_zip
  have y_sum := PySem.W.mg_none_of X G z_sum
  have y_reversed := PySem.W.mg_none_of X G z_reversed
  have g0 := PySem.W.mg_of X G c0
  have g1 := PySem.W.mg_of X G c1
  have cl : Cls K cQ := ⟨pg, hd, po, sa⟩
  have T : ClQ K cQ := ⟨cl, nA0, nA1, nA2, nA3, nA4, nA5, nA6, nA7, nA8, nA9, nA10, nA11, nA12⟩
  have M : Mk K cQ fMI := ⟨mk, bMI, iMI, kc⟩
  have IC : C8.InsC K cQ := ⟨cl, ha, hn, htk, hm, kit_self⟩
  have rB : ∀ {X : Cx}, X.K = K → Raises X (.ref cB) := fun e => raises_own (by rw [e]; exact exB) (by rw [e]; exact txB)
  have te := exm_b exB ixB txB sxB
  have x1 := exm_3 (exm_b exP ixP txP sPP) (exm_b exL ixL txL sPL) (exm_b exN ixN txN sPN) rfl
  have x2 := exm_3 (exm_b exP ixP txP sLP) (exm_b exL ixL txL sLL) (exm_b exN ixN txN sLN) rfl
  have x3 := exm_3 (exm_b exP ixP txP sNP) (exm_b exL ixL txL sNL) (exm_b exN ixN txN sNN) rfl
  have TP : OexC K cP := ⟨OP, saP, exP, txP, kxP⟩
  have TL : OexC K cL := ⟨OL, saL, exL, txL, kxL⟩
  have TN : OexC K cN := ⟨ON, saN, exN, txN, kxN⟩
  have RR : ClX.CRead K cQ (.type "type") := ⟨rd, rga⟩
  have CR : ClX.CMet K cQ (.type "type") "read" pCR fCR := ⟨bCR, XrCR, iCR⟩
  have PN : PropOf K cQ "nodes" pMN fMN := ⟨bMN, gMN, tMN, XrMN⟩
  have hT : Meth K cQ "text" fMT := ⟨bMT, iMT, FMT.kp⟩
  have hC : Meth K cQ "children" fMC := ⟨bMC, iMC, FMC.kp⟩
  have FL' := FL
  obtain ⟨oc, od, kV, doc, pm, an, cdv, ct, osl, ez, _, _⟩ := FL.ex
  subst ez
  refine ⟨PySem.W.fnOf "law" "law" (defArgs sLaw) (defBody sLaw) (defScope sLaw) .none kV doc pm an cdv ct, fun s v => .of_eq rfl, fun base _ _ => ?_⟩
  have GPo := ok_pool3 (P := P) (w := w) (mg := mg) (base := base) FPo y_int
  have GD := ok_draw3 (P := P) (w := w) (mg := mg) (base := base) FD y_int
  have GWd := ok_word (P := P) (w := w) (mg := mg) (base := base) FWd GD FD.kp qD mD y_range
  have GWs := ok_words (P := P) (w := w) (mg := mg) (base := base) FWs GWd FWd.kp qWd mWd y_range y_str
  have GW := ok_world (P := P) (w := w) (mg := mg) (base := base) FW GD FD.kp qD mD GWs FWs.kp qWs mWs
  have GPa := ok_pat3 (P := P) (w := w) (mg := mg) (base := base) FPa GD FD.kp qD mD y_len y_range y_tuple
  have GTd := ok_tied (P := P) (w := w) (mg := mg) (base := base) FTd GD FD.kp qD mD y_len y_range y_tuple
  have GLv := ok_lvar (P := P) (w := w) (mg := mg) (base := base) FLv y_sorted y_set
  have GTr := ok_tree (P := P) (w := w) (mg := mg) (base := base) FTr GD FD.kp qD mD GTd FTd.kp qTd mTd GPa FPa.kp qPa mPa GLv FLv.kp qLv mLv y_len y_range y_list y_int
  have GOr := ok_lord (P := P) (w := w) (mg := mg) (base := base) FOr FOr.kp qOr mOr y_range y_len 16
  have GDp := ok_ldep (P := P) (w := w) (mg := mg) (base := base) FDp
  have GLx := ok_lptx (P := P) (w := w) (mg := mg) (base := base) FLx
  have GLi := ok_llin (P := P) (w := w) (mg := mg) (base := base) FLi GOr FOr.kp qOr mOr GDp FDp.kp qDp mDp GLx FLx.kp qLx mLx y_sorted y_set
  have GN := ok_isN (P := P) (w := w) (mg := mg) (base := base) FN g0 y_isinstance y_str y_len
  have GV := ok_isV (P := P) (w := w) (mg := mg) (base := base) FV GN FN.kp qN mN y_isinstance y_str
  have GP := ok_isP (P := P) (w := w) (mg := mg) (base := base) FP GN FN.kp qN mN GV FV.kp qV mV g1 y_isinstance y_tuple y_len
  have GX := ok_ptx (P := P) (w := w) (mg := mg) (base := base) FX
  have GR := ok_rd (P := P) (w := w) (mg := mg) (base := base) FR GP FP.kp qP mP GX FX.kp qX mX
  have GVs := ok_vars (P := P) (w := w) (mg := mg) (base := base) FVs y_sorted
  have GIW := ok_whole (P := P) (w := w) (mg := mg) (base := base) FIW y_isinstance y_int y_bool
  have GIL := ok_isL (P := P) (w := w) (mg := mg) (base := base) FIL y_isinstance y_list y_tuple
  have GIN := ok_isNd (P := P) (w := w) (mg := mg) (base := base) FIN GIL FIL.kp qIL mIL GIW FIW.kp qIW mIW y_isinstance y_tuple y_len
  have GAN := ok_areN (P := P) (w := w) (mg := mg) (base := base) FAN GIL FIL.kp qIL mIL GIN FIN.kp qIN mIN y_all y_len y_enumerate
  have GNN := ok_newN (P := P) (w := w) (mg := mg) (base := base) FNN y_list y_zip y_tuple
  have GCO := ok_chil (P := P) (w := w) (mg := mg) (base := base) FCO y_enumerate y_tuple
  have GFT := ok_fTw (P := P) (w := w) (mg := mg) (base := base) FFT y_sorted y_zip
  have GLT := ok_lotT (P := P) (w := w) (mg := mg) (base := base) FLT GX FX.kp qX mX
  have GBI := ok_BPi (P := P) (w := w) (mg := mg) (base := base) FBI TP nlP
  have GLI := ok_LOi (P := P) (w := w) (mg := mg) (base := base) FLI TL nlL
  have GNI := ok_NNi (P := P) (w := w) (mg := mg) (base := base) FNI TN nlN
  have GMI := ok_initQ (P := P) (w := w) (mg := mg) (base := base) (BN := fMI) FMI T GAN FAN.kp qAN mAN GP FP.kp qP mP GVs FVs.kp qVs mVs GNN FNN.kp qNN mNN GCO FCO.kp qCO mCO GFT FFT.kp qFT mFT TP bBI iBI GBI qBI mXP TL bLI iLI GLI qLI mXL TN bNI iNI GNI qNI mXN y_enumerate y_tuple y_sorted y_set y_len y_sum
  have GMN := ok_nodQ (P := P) (w := w) (mg := mg) (base := base) FMN T y_zip y_list
  have GMC := ok_chiQ (P := P) (w := w) (mg := mg) (base := base) FMC T
  have GMT := ok_txtQ (P := P) (w := w) (mg := mg) (base := base) FMT T GLT FLT.kp qLT mLT GMC hC qMC y_reversed
  have GME := ok_eqQ (P := P) (w := w) (mg := mg) (base := base) FME T IC mQ y_isinstance
  have GNT := ok_nTld (P := P) (w := w) (mg := mg) (base := base) FNT GR FR.kp qR mR y_len PySem.F.excBase_ValueError QB mB kxB rB
  have GCR := ok_rdQ (P := P) (w := w) (mg := mg) (base := base) FCR T GNT FNT.kp qNT mNT M GMI qMI hT GMT qMT mXP mXL mXN x1 x2 x3 PySem.F.excBase_ValueError QB mB kxB rB
  have GNm := ok_lnm (P := P) (w := w) (mg := mg) (base := base) FNm y_len
  have GRP := ok_lrp (P := P) (w := w) (mg := mg) (base := base) FRP GNm FNm.kp qNm mNm y_tuple y_len
  have GPr := ok_lpar (P := P) (w := w) (mg := mg) (base := base) FPr GRP FRP.kp qRP mRP GLv FLv.kp qLv mLv y_sorted y_set y_len y_range
  have GTo := ok_ltol (P := P) (w := w) (mg := mg) (base := base) FTo T GCR RR CR qCR PN GMN qMN mQ mB te
  have GBe := ok_lben (P := P) (w := w) (mg := mg) (base := base) FBe GD FD.kp qD mD y_len y_int
  exact ok_law FL' GPo FPo.kp qPo mPo GW FW.kp qW mW GTr FTr.kp qTr mTr GLi FLi.kp qLi mLi GOr FOr.kp qOr mOr GBe FBe.kp qBe mBe GTo FTo.kp qTo mTo GPr FPr.kp qPr mPr T mQ M GMI qMI hT GMT qMT bME iME GME qME RR CR GCR kCR PN GMN qMN y_len y_range y_list y_sorted y_set
theorem walk {l : PySem.W.OpenLaw} {q : Program} {loose : List Str} {XP : (Str → Option Value) → Heap → Prop} {YP : World → Heap → Prop} {d : DefRec} {K : Params → PySem.W.Frag}
    (hn : l.most = some 63) (hdf : d.params.defaults = []) (hY : ∀ (w : World) (h : Heap), YP w h → (K w.params).In h)
    (F : ∀ (w : World) (mg : Str → Option Value) (fa : Addr) (h : Heap), (K w.params).In h → h.Ns mainGlobals mg → mg d.name = some (.ref fa) →
      ∃ fd : FuncData, (∀ (s : Shared) (u : Value), BindsTo s fd ⟨[u], []⟩ [("_law_script", u)]) ∧
        ∀ base : Heap, (K w.params).In base → base.Ns mainGlobals mg → FnOk l.prog w (K w.params) mg base CX0 18 fa fd ["_law_script"] (spLaw (K w.params))) :
    PySem.W.WalkO q loose XP YP l.row.toRowW d [] (fun f vs => PySem.call f vs) :=
  L2.walk_ofB (n := 63) (k := 18) (x := "_law_script") (CX := fun _ => CX0) (sp := fun w => spLaw (K w.params)) hn (by decide) hdf ⟨rfl, by decide, by decide⟩ hY F
    (fun _ _ a ns hl hb _ hS => ⟨a, ns, rfl, hS, hl, hb, fun _ => rfl⟩) fun _ _ _ _ _ z => z
end L2.LawH
set_option Elab.async false
open PySem PySem.W PyProof.Rows
set_option maxRecDepth 100000 in
set_option maxHeartbeats 0 in
theorem PySem.Challenge.cw_fullestrows_k22_texts_of_questions_holds : PySem.Challenge.rw_fullestrows_k22_texts_of_questions.Holds := by
  w_on; o_law; k_head; (case hw => w_witness2)
  k_fill
  refine L2.LawH.walk (l := PySem.Challenge.rw_fullestrows_k22_texts_of_questions) rfl rfl (fun w h Y => PySem.W.kIn_of Y) ?F
  case F =>
    intro w mg fa h KX G hmg
    refine' L2.LawH.all_mk KX G hmg ?bPo ?EPo ?bD ?ED ?bWd ?EWd ?bWs ?EWs ?bW ?EW ?bPa ?EPa ?bTd ?ETd ?bTr ?ETr ?bLv ?ELv ?bOr ?EOr ?bDp ?EDp ?bLx ?ELx ?bLi ?ELi ?bNm ?ENm ?bRP ?ERP ?bPr ?EPr ?bTo ?ETo ?bBe ?EBe ?bN ?EN ?bV ?EV ?bP ?EP ?bVs ?EVs ?bX ?EX ?bR ?ER ?bIW ?EIW ?bIL ?EIL ?bIN ?EIN ?bAN ?EAN ?bNN ?ENN ?bCO ?ECO ?bFT ?EFT ?bLT ?ELT ?bNT ?ENT ?bL ?EL ?bC ?bB ?bMI ?EMI ?iMI ?bME ?EME ?iME ?bMC ?EMC ?iMC ?bMT ?EMT ?iMT ?bMN ?gMN ?tMN ?XrMN ?EMN ?rd ?rga ?bCR ?XrCR ?iCR ?ECR ?pg ?hd ?po ?sa ?mk ?kc ?nA0 ?nA1 ?nA2 ?nA3 ?nA4 ?nA5 ?nA6 ?nA7 ?nA8 ?nA9 ?nA10 ?nA11 ?nA12 ?ha ?hn ?htk ?hm ?exB ?txB ?kxB ?ixB ?sxB ?QB ?bXP ?exP ?txP ?kxP ?ixP ?OP ?saP ?nlP ?bBI ?iBI ?EBI ?bXL ?exL ?txL ?kxL ?ixL ?OL ?saL ?nlL ?bLI ?iLI ?ELI ?bXN ?exN ?txN ?kxN ?ixN ?ON ?saN ?nlN ?bNI ?iNI ?ENI ?sPP ?sPL ?sPN ?sLP ?sLL ?sLN ?sNP ?sNL ?sNN ?z_int ?z_str ?z_len ?z_range ?z_tuple ?z_list ?z_sorted ?z_isinstance ?z_set ?z_bool ?z_all ?z_enumerate ?z_zip ?z_sum ?z_reversed ?c0 ?c1
    (case bPo => k_is)
    (case EPo => exact ⟨_, L2.fun_mk (by k_is) (by k_is) (by k_is)⟩)
    (case bD => k_is)
    (case ED => exact ⟨_, L2.fun_mk (by k_is) (by k_is) (by k_is)⟩)
    (case bWd => k_is)
    (case EWd => exact ⟨_, L2.fun_mk (by k_is) (by k_is) (by k_is)⟩)
    (case bWs => k_is)
    (case EWs => exact ⟨_, L2.fun_mk (by k_is) (by k_is) (by k_is)⟩)
    (case bW => k_is)
    (case EW => exact ⟨_, L2.fun_mk (by k_is) (by k_is) (by k_is)⟩)
    (case bPa => k_is)
    (case EPa => exact ⟨_, L2.fun_mk (by k_is) (by k_is) (by k_is)⟩)
    (case bTd => k_is)
    (case ETd => exact ⟨_, L2.fun_mk (by k_is) (by k_is) (by k_is)⟩)
    (case bTr => k_is)
    (case ETr => exact ⟨_, L2.fun_mk (by k_is) (by k_is) (by k_is)⟩)
    (case bLv => k_is)
    (case ELv => exact ⟨_, L2.fun_mk (by k_is) (by k_is) (by k_is)⟩)
    (case bOr => k_is)
    (case EOr => exact ⟨_, L2.fun_mk (by k_is) (by k_is) (by k_is)⟩)
    (case bDp => k_is)
    (case EDp => exact ⟨_, L2.fun_mk (by k_is) (by k_is) (by k_is)⟩)
    (case bLx => k_is)
    (case ELx => exact ⟨_, L2.fun_mk (by k_is) (by k_is) (by k_is)⟩)
    (case bLi => k_is)
    (case ELi => exact ⟨_, L2.fun_mk (by k_is) (by k_is) (by k_is)⟩)
    (case bNm => k_is)
    (case ENm => exact ⟨_, L2.fun_mk (by k_is) (by k_is) (by k_is)⟩)
    (case bRP => k_is)
    (case ERP => exact ⟨_, L2.fun_mk (by k_is) (by k_is) (by k_is)⟩)
    (case bPr => k_is)
    (case EPr => exact ⟨_, L2.fun_mk (by k_is) (by k_is) (by k_is)⟩)
    (case bTo => k_is)
    (case ETo => exact ⟨_, L2.fun_mk (by k_is) (by k_is) (by k_is)⟩)
    (case bBe => k_is)
    (case EBe => exact ⟨_, L2.fun_mk (by k_is) (by k_is) (by k_is)⟩)
    (case bN => k_is)
    (case EN => exact ⟨_, L2.fun_mk (by k_is) (by k_is) (by k_is)⟩)
    (case bV => k_is)
    (case EV => exact ⟨_, L2.fun_mk (by k_is) (by k_is) (by k_is)⟩)
    (case bP => k_is)
    (case EP => exact ⟨_, L2.fun_mk (by k_is) (by k_is) (by k_is)⟩)
    (case bVs => k_is)
    (case EVs => exact ⟨_, L2.fun_mk (by k_is) (by k_is) (by k_is)⟩)
    (case bX => k_is)
    (case EX => exact ⟨_, L2.fun_mk (by k_is) (by k_is) (by k_is)⟩)
    (case bR => k_is)
    (case ER => exact ⟨_, L2.fun_mk (by k_is) (by k_is) (by k_is)⟩)
    (case bIW => k_is)
    (case EIW => exact ⟨_, L2.fun_mk (by k_is) (by k_is) (by k_is)⟩)
    (case bIL => k_is)
    (case EIL => exact ⟨_, L2.fun_mk (by k_is) (by k_is) (by k_is)⟩)
    (case bIN => k_is)
    (case EIN => exact ⟨_, L2.fun_mk (by k_is) (by k_is) (by k_is)⟩)
    (case bAN => k_is)
    (case EAN => exact ⟨_, L2.fun_mk (by k_is) (by k_is) (by k_is)⟩)
    (case bNN => k_is)
    (case ENN => exact ⟨_, L2.fun_mk (by k_is) (by k_is) (by k_is)⟩)
    (case bCO => k_is)
    (case ECO => exact ⟨_, L2.fun_mk (by k_is) (by k_is) (by k_is)⟩)
    (case bFT => k_is)
    (case EFT => exact ⟨_, L2.fun_mk (by k_is) (by k_is) (by k_is)⟩)
    (case bLT => k_is)
    (case ELT => exact ⟨_, L2.fun_mk (by k_is) (by k_is) (by k_is)⟩)
    (case bNT => k_is)
    (case ENT => exact ⟨_, L2.fun_mk (by k_is) (by k_is) (by k_is)⟩)
    (case bL => k_is)
    (case EL => exact ⟨_, L2.fun_mk (by k_is) (by k_is) (by k_is)⟩)
    (case bC => k_is)
    (case bB => k_is)
    (case bMI => k_is)
    (case EMI => exact ⟨_, L2.fun_mk (by k_is) (by k_is) (by k_is)⟩)
    (case iMI => k_is)
    (case bME => k_is)
    (case EME => exact ⟨_, L2.fun_mk (by k_is) (by k_is) (by k_is)⟩)
    (case iME => k_is)
    (case bMC => k_is)
    (case EMC => exact ⟨_, L2.fun_mk (by k_is) (by k_is) (by k_is)⟩)
    (case iMC => k_is)
    (case bMT => k_is)
    (case EMT => exact ⟨_, L2.fun_mk (by k_is) (by k_is) (by k_is)⟩)
    (case iMT => k_is)
    (case bMN => k_is)
    (case gMN => k_is)
    (case tMN => k_is)
    (case XrMN => exact ⟨_, by k_is⟩)
    (case EMN => exact ⟨_, L2.fun_mk (by k_is) (by k_is) (by k_is)⟩)
    (case rd => k_is)
    (case rga => k_is)
    (case bCR => k_is)
    (case XrCR => exact ⟨_, by k_is⟩)
    (case iCR => k_is)
    (case ECR => exact ⟨_, L2.fun_mk (by k_is) (by k_is) (by k_is)⟩)
    (case pg => k_is)
    (case hd => k_is)
    (case po => k_is)
    (case sa => k_is)
    (case mk => k_is)
    (case kc => k_is)
    (case nA0 => k_is)
    (case nA1 => k_is)
    (case nA2 => k_is)
    (case nA3 => k_is)
    (case nA4 => k_is)
    (case nA5 => k_is)
    (case nA6 => k_is)
    (case nA7 => k_is)
    (case nA8 => k_is)
    (case nA9 => k_is)
    (case nA10 => k_is)
    (case nA11 => k_is)
    (case nA12 => k_is)
    (case ha => k_is)
    (case hn => k_is)
    (case htk => k_is)
    (case hm => k_is)
    (case exB => k_is)
    (case txB => k_is)
    (case kxB => k_is)
    (case ixB => k_is)
    (case sxB => k_is)
    (case QB => k_exc)
    (case bXP => k_is)
    (case exP => k_is)
    (case txP => k_is)
    (case kxP => k_is)
    (case ixP => k_is)
    (case OP => exact ⟨_, _, _, _, _, _, _, _, _, _, _, _, _, _, _, by k_is, by decide +kernel⟩)
    (case saP => k_is)
    (case nlP => k_is)
    (case bBI => k_is)
    (case iBI => k_is)
    (case EBI => exact ⟨_, L2.fun_mk (by k_is) (by k_is) (by k_is)⟩)
    (case bXL => k_is)
    (case exL => k_is)
    (case txL => k_is)
    (case kxL => k_is)
    (case ixL => k_is)
    (case OL => exact ⟨_, _, _, _, _, _, _, _, _, _, _, _, _, _, _, by k_is, by decide +kernel⟩)
    (case saL => k_is)
    (case nlL => k_is)
    (case bLI => k_is)
    (case iLI => k_is)
    (case ELI => exact ⟨_, L2.fun_mk (by k_is) (by k_is) (by k_is)⟩)
    (case bXN => k_is)
    (case exN => k_is)
    (case txN => k_is)
    (case kxN => k_is)
    (case ixN => k_is)
    (case ON => exact ⟨_, _, _, _, _, _, _, _, _, _, _, _, _, _, _, by k_is, by decide +kernel⟩)
    (case saN => k_is)
    (case nlN => k_is)
    (case bNI => k_is)
    (case iNI => k_is)
    (case ENI => exact ⟨_, L2.fun_mk (by k_is) (by k_is) (by k_is)⟩)
    (case sPP => k_is)
    (case sPL => k_is)
    (case sPN => k_is)
    (case sLP => k_is)
    (case sLL => k_is)
    (case sLN => k_is)
    (case sNP => k_is)
    (case sNL => k_is)
    (case sNN => k_is)
    (case z_int => k_is)
    (case z_str => k_is)
    (case z_len => k_is)
    (case z_range => k_is)
    (case z_tuple => k_is)
    (case z_list => k_is)
    (case z_sorted => k_is)
    (case z_isinstance => k_is)
    (case z_set => k_is)
    (case z_bool => k_is)
    (case z_all => k_is)
    (case z_enumerate => k_is)
    (case z_zip => k_is)
    (case z_sum => k_is)
    (case z_reversed => k_is)
    (case c0 => k_is)
    (case c1 => k_is)
