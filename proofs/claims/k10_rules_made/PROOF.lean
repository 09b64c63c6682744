import PyProof.Rows.All
import Wide.All
import OpenK.AllK
import Wide.FinOn
import HandS.ForExc
import HandS.ExcInit
import HandS.ExcValue
import HandS.ExcField
import HandS.ExcIs
import HandS.IsInst
import HandS.Defaults
import KE.KExcIs
import HandS.Dict
import HandS.EndBits
import PyProof.ReprRoads
import HandS.ForMost
import HandS.OwnEq
import KE.KOwnIter
import HandS.DeepEq
import HandS.Codes
import PyProof.NeKinds
import PyProof.InstNe
import HandS.Set
import HandS.SetKeys
import HandS.SetBool
import HandS.Comp
import HandS.DictComp
import HandS.Strs
import HandS.SetTxt0
import HandS.More
import HandS.StrMore
import HandS.FStr
import HandS.TupSets
import HandS.SortInts
import HandS.SortOrd
import HandS.Zip
import HandS.Walk
import HandS.Exc
import HandS.ExcOwn
import HandS.WordsExc
import HandS.RaiseMore
import HandS.Star
import PyProof.ListMulRoad
import PyProof.FactsAll.tuple_2
import HandS.TupAny
import HandS.TupMul
import HandS.Property
import HandS.TryOnly
import HandS.Deep
import HandS.ListEq
import HandS.TryMany
import KE.KIsAll
import HandS.MakeKwOnly
import HandS.Style
import HandS.MakeKw
import PyProof.ExcBaseAll.ValueError
import PySem.Challenge.RW_fullestrows_k10_rules_made
set_option Elab.async false
set_option linter.all false
set_option maxRecDepth 100000
set_option maxHeartbeats 4000000
/-! An own exception class over another own one, called with keywords: the steps of its making, with the keywords carried along. -/
namespace MadeKw
open PySem PySem.HandSPX PyProof.Rows PySem.Calls
section
variable {M : Model} {A : Around} {E : Value → Shared → Prop} {hp : Heap} {gn : Array GenState} {dn : Drawn} {tn : Nat} {on : OsState}
variable {nm q : Str} {C N : Addr} {bs bm bmB : List Value} {hdct : Bool} {sn : List Str} {sub : List Value} {ab : Bool}
variable {col : Option Bool} {dd : Option Addr} {k0 k1 k2 k3 k5 : Option Value} {B newId initId : String}

theorem check_new (F : ExcBaseFacts B newId initId bmB)
    (same : ∀ Y : String, bm.contains (.type Y) = bmB.contains (.type Y))
    {us : List Value} {kw : List (Str × Value)} {Q : Unit → Shared → Prop}
    (at_ : hp.get? C = some (excClassObj nm q C N bs bm hdct sn sub ab col dd k0 k1 k2 k3 k5 newId))
    (fin : Q () ⟨hp, gn, dn, tn, on⟩) :
    wpAny M A (checkBuiltinCall newId ⟨.ref C :: us, kw⟩) Q E ⟨hp, gn, dn, tn, on⟩ := by
  have base : (Value.ref C :: bm).contains (.type B) = true := by
    rw [List.contains_cons, same, F.hasB, Bool.or_true]
  have star := F.noStar
  simp only [checkBuiltinCall, F.newKind, F.newSplit, F.newRow]
  repeat
    first
    | refine wpAny_loadPart_at at_ ?_
    | (refine wpAny_isSubtype_exc at_ ?_
       rw [base])
    | refine wpAny_staticBase_exc at_ ?_
    | refine wpAny_madeBy_exc at_ ?_
    | simp only [bne_self_eq_false, Bool.false_eq_true, if_false]
    | wp_step
  exact fin
end
section
variable {prog : Program} {w : World} {A : Around} {E : Value → Shared → Prop} {R : Result → Shared → Prop}
variable {hp : Heap} {gn : Array GenState} {dn : Drawn} {tn : Nat} {on : OsState}
variable {nm q : Str} {C N : Addr} {bs bm bmB : List Value} {hdct : Bool} {sn : List Str} {sub : List Value} {ab : Bool}
variable {col : Option Bool} {dd : Option Addr} {k0 k1 k2 k3 k5 : Option Value} {B newId initId : String}

theorem new_made (F : ExcBaseFacts B newId initId bmB)
    (same : ∀ Y : String, bm.contains (.type Y) = bmB.contains (.type Y))
    {us : List Value} {kw : List (Str × Value)}
    (at_ : hp.get? C = some (excClassObj nm q C N bs bm hdct sn sub ab col dd k0 k1 k2 k3 k5 newId))
    (fin : R (.ok (.ret (.ref (hp.objs.size + 1)))) ⟨(hp.push (W.kdv_tup us)).push (excO C hp.objs.size), gn, dn, tn, on⟩)
    (few : us.length ≤ sizeLine) :
    codeAny (model prog w) A (.builtin newId ⟨.ref C :: us, kw⟩) R ⟨hp, gn, dn, tn, on⟩ := by
  have ends := F.ends
  have inB : (Value.ref C :: bm).contains (.type B) = true := by
    rw [List.contains_cons, same, F.hasB, Bool.or_true]
  have noA : (Value.ref C :: bm).contains (.type "AttributeError") = false := by
    rw [List.contains_cons, same, F.noAttr]
    rfl
  have noN : (Value.ref C :: bm).contains (.type "NameError") = false := by
    rw [List.contains_cons, same, F.noName]
    rfl
  refine codeAny_builtinAt F.entry ?_
  unfold Builtin.«BaseException.__new__»
  refine PySem.wpAt_bind ?_
  show PySem.wpAt _ _ _ (stack >>= _) _ _ _
  refine PySem.wpAt_bind (PySem.wpAt_stack fun p below => PySem.wpAt_of_wpAny ?_)
  wp_walk
  refine PySem.wpAt_of_wpAny ?_
  rw [F.owner]
  repeat
    first
    | with_reducible refine wpAny_madeHere_exc F.canon at_ ?_
    | with_reducible refine wpAny_loadPart_at at_ ?_
    | (with_reducible refine wpAny_isSubtype_exc at_ ?_
       first
       | rw [inB]
       | rw [noA]
       | rw [noN])
    | wp_step
  show R _ _
  rw [Heap.size_push]
  exact fin

theorem called_type (F : ExcBaseFacts B newId initId bmB)
    (same : ∀ Y : String, bm.contains (.type Y) = bmB.contains (.type Y))
    {us : List Value} {kw : List (Str × Value)} {fI : Addr} {Q : Fin → Shared → Prop}
    (at_ : hp.get? C = some (excClassObj nm q C N bs bm hdct sn sub ab col dd k0 k1 k2 k3 k5 newId))
    (li : W.Looks (model prog w) hp (typeLookup (.ref C) "__init__") (some (.ref fI)))
    (lb : ∀ self, W.Looks (model prog w) hp (bindSpecial (.ref fI) self) (.ref fI, [self]))
    (few : us.length ≤ sizeLine)
    (fin : codeAny (model prog w) A (.call (.ref fI) ⟨.ref (hp.objs.size + 1) :: us, kw⟩)
      (fun r s' => match r with
        | .ok (.ret v) => v = .none ∧ Q (.done (.ret (.ref (hp.objs.size + 1)))) s'
        | .ok _ => False
        | .error e => E e s')
      ⟨(hp.push (W.kdv_tup us)).push (excO C hp.objs.size), gn, dn, tn, on⟩) :
    wpAny (model prog w) A (Builtin.«type.__call__» ⟨.ref C :: us, kw⟩) Q E ⟨hp, gn, dn, tn, on⟩ := by
  repeat
    first
    | with_reducible refine wpAny_loadPart_at at_ ?_
    | with_reducible refine wpAny_madeBy_exc at_ ?_
    | wp_step
  refine codeAny_call_builtin_code (Code.quiet_builtin _ F.quiet) (check_new F same at_ ?_)
  refine new_made F same at_ ?_ few
  show wpAny _ _ _ _ _ _
  have old : ∀ b o, hp.get? b = some o → ((hp.push (W.kdv_tup us)).push (excO C hp.objs.size)).get? b = some o :=
    fun b o e => Heap.get?_push_of_some _ (Heap.get?_push_of_some _ e)
  have at1 := old _ _ at_
  have got : ((hp.push (W.kdv_tup us)).push (excO C hp.objs.size)).get? (hp.objs.size + 1) = some (excO C hp.objs.size) := by
    heap_get
  have self_ : (Value.ref C :: bm).contains (.ref C) = true := by simp
  have li1 := li.keeps old
  have lb1 := (lb (.ref (hp.objs.size + 1))).keeps old
  unfold isInstance
  repeat
    first
    | with_reducible refine wpAny_loadPart_at got ?_
    | (with_reducible refine wpAny_isSubtype_exc at1 ?_
       rw [self_])
    | wp_step
  show wpAny _ _ (typeLookup (.ref C) _) _ _ _
  refine li1.at ?_
  refine wpAny_holding (wpAny_bind (lb1.at ?_))
  refine wpAny_bind (wpAny_call (codeAny_mono fin fun r s' z => ?_))
  rcases r with e | (v | _ | _ | _) <;> first | exact z | exact z.elim | skip
  obtain ⟨rfl, z⟩ := z
  first
    | exact wpAny_pure (wpAny_pure z)
    | (wp_walk
       exact z)

theorem made (F : ExcBaseFacts B newId initId bmB)
    (same : ∀ Y : String, bm.contains (.type Y) = bmB.contains (.type Y))
    {us : List Value} {kw : List (Str × Value)} {fI : Addr}
    (at_ : hp.get? C = some (excClassObj nm q C N bs bm hdct sn sub ab col dd k0 k1 k2 k3 k5 newId))
    (li : W.Looks (model prog w) hp (typeLookup (.ref C) "__init__") (some (.ref fI)))
    (lb : ∀ self, W.Looks (model prog w) hp (bindSpecial (.ref fI) self) (.ref fI, [self]))
    (few : us.length ≤ sizeLine)
    (fin : codeAny (model prog w) (A.under (.builtin "type.__call__" ⟨.ref C :: us, kw⟩))
      (.call (.ref fI) ⟨.ref (hp.objs.size + 1) :: us, kw⟩) (W.InitBack (hp.objs.size + 1) R)
      ⟨(hp.push (W.kdv_tup us)).push (excO C hp.objs.size), gn, dn, tn, on⟩) :
    codeAny (model prog w) A (.call (.ref C) ⟨us, kw⟩) R ⟨hp, gn, dn, tn, on⟩ := by
  have f1 := tc_lookup
  have f2 := tc_bind (.ref C)
  have ty : (⟨hp, gn, dn, tn, on⟩ : Shared).TypeIs (.ref C) "type" := ⟨_, at_, rfl⟩
  refine codeAny_of_tree ?_
  show wpAny _ _ (callAny (.ref C) _) _ _ _
  repeat
    (any_goals
      (first
       | assumption
       | with_reducible refine wpAny_loadPart_at at_ ?_
       | wp_step))
  refine ⟨rfl, ?_⟩
  refine codeAny_call_builtin_at (Code.quiet_builtin _ (by decide +kernel)) entry_typeCall
    (wpAny_check_type_call_sub at_ (called_type F same at_ li lb few ?_))
  refine codeAny_mono fin fun r s' z => ?_
  rcases r with e | (v | _ | _ | _) <;> exact z
end
end MadeKw
set_option Elab.async false
set_option linter.all false
set_option maxRecDepth 100000
set_option maxHeartbeats 4000000
/-! Exceptions of own classes as plain values: made with and without arguments, their fields read, asked by isinstance. -/
namespace L2.XVal
open PySem PySem.Spec PyProof.Rows

theorem pe_imp {X : Cx} {e : Expr} {t t' : TE} (h : PE X e t) (w : ∀ σ H Q, t' σ H Q → t σ H Q) : PE X e t' :=
  ⟨fun pins s σ H Q I q => h.run pins s σ H Q I (w σ H Q q)⟩

/-- at a: an exception of the class at C whose fields are fs -/
def XAt (H : Hp) (a C : Addr) (fs : List (Str × V)) : Prop :=
  ∃ dx : Addr, H a = some (exo a C (some dx)) ∧ H dx = some (exd dx fs)
/-- at a: an exception of the class at C -/
def XIs (H : Hp) (a C : Addr) : Prop := H a = some (ExO (.ref C) a) ∨ ∃ fs, XAt H a C fs
theorem XAt.same {H H' : Hp} {a C : Addr} {fs : List (Str × V)} (x : XAt H a C fs) (s : Same H H') : XAt H' a C fs := by
  obtain ⟨dx, h1, h2⟩ := x
  exact ⟨dx, s _ _ h1, s _ _ h2⟩
theorem XIs.same {H H' : Hp} {a C : Addr} (x : XIs H a C) (s : Same H H') : XIs H' a C := by
  rcases x with x | ⟨fs, x⟩
  · exact .inl (s _ _ x)
  · exact .inr ⟨fs, x.same s⟩

/-! ### the making -/
/-- what the class's __init__ keeps: the fields are stored in a new dict, nothing else is touched -/
def spIni (K : PySem.W.Frag) (C : Addr) (m : Nat) (fl : List V → List (Str × V)) : Sp := fun vs H Q _ =>
  ∃ (a : Addr) (xs : List V), vs = .ref a :: xs ∧ xs.length = m ∧ H a = some (exo a C none) ∧
    ∀ dx H', H dx = none → dx ≠ a → (∀ b o, H b = some o → b ≠ a → H' b = some o) →
      H' a = some (exo a C (some dx)) → H' dx = some (exd dx (fl xs)) → Q .non H'

section
variable {X : Cx} {pins : List (Addr × Obj)} {σ : St} {H : Hp} {s : Shared} {CX : CXT} {k n : Nat} {C fI : Addr} {fd : FuncData}
variable {ps ks : List Str} {sp : Sp} {x : Str} {p pos : Pos} {e : Expr} {es : List Expr} {kws : List Keyword} {t tk : TA}
variable {g : List Value → List Value → List Value} {gV : List V → List V → List V}

theorem run_new {Q : VK} {us ws : List Value} {vs zs : List V} (T : OexC X.K C)
    (iC : PySem.W.findIn X.K (.ref C) "__init__" = some (some (.ref fI)))
    (tI : PySem.W.typeIn X.K (.ref fI) = some (.type "function"))
    (G : FnOk X.prog X.w X.K X.mg X.base CX k fI fd ps sp) (hr : Room (k + 1) X.A)
    (hb : KBn X.K fd ps (n + 1) ks g gV) (hx : Passes CX X fun _ _ _ => False) (few : n ≤ 1000)
    (I : Inv X pins σ H s) (r : Vals vs us) (rz : Vals zs ws) (l1 : vs.length = n) (l2 : zs.length = ks.length)
    (h : ∀ a, H a = none → sp (gV (.ref a :: vs) zs) (upd H a (exo a C none)) (fun v H2 => v = .non ∧ Q (.ref a) H2) fun _ _ _ => False) :
    wpAny (model X.prog X.w) X.A (call (.ref C) us (ks.zip ws)) (EP X pins σ Q) X.xe s := by
  obtain ⟨nm, q, N, bs, bm, sn, sub, ab, col, dd, k0, k1, k2, k3, k5, hC, hbm⟩ := T.cls
  obtain ⟨hp, gn, dr, tk', os⟩ := s
  have up : hp.objs.size ≤ hp.objs.size + 1 := Nat.le_succ _
  have hn : H (hp.objs.size + 1) = none := I.hok.fresh up
  have hq := h (hp.objs.size + 1) hn
  have keep : ∀ b o, hp.get? b = some o →
      ((hp.push (PySem.W.kdv_tup us)).push (PySem.HandSPX.excO C hp.objs.size)).get? b = some o :=
    fun b o e => Heap.get?_push_of_some _ (Heap.get?_push_of_some _ e)
  have got : ((hp.push (PySem.W.kdv_tup us)).push (PySem.HandSPX.excO C hp.objs.size)).get? (hp.objs.size + 1) =
      some (PySem.HandSPX.excO C hp.objs.size) := by heap_get
  have I2 : Inv X pins σ (upd H (hp.objs.size + 1) (exo (hp.objs.size + 1) C none))
      ⟨(hp.push (PySem.W.kdv_tup us)).push (PySem.HandSPX.excO C hp.objs.size), gn, dr, tk', os⟩ :=
    I.laid (t' := tk') keep up (exo_ok got)
  have r1 : Vals (V.ref (hp.objs.size + 1) :: vs) (Value.ref (hp.objs.size + 1) :: us) := .cons rfl r
  have r2 := hb.rel r1 rz
  have e1 : (Value.ref (hp.objs.size + 1) :: us).length = n + 1 := r1.length.symm.trans (congrArg Nat.succ l1)
  have e2 : ws.length = ks.length := rz.length.symm.trans l2
  have hus : us.length ≤ sizeLine := by
    have := r.length
    rw [sizeLine_eq]
    omega
  refine wpAny_call (MadeKw.made PySem.F.excBase_ValueError (fun Y => PySem.HandSPX.refsVE_contains Y bm hbm) (I.kIn _ _ hC)
    (PySem.W.looks_findIn I.kIn iC) (fun self => PySem.W.bind_fn I.kIn self tI) hus ?_)
  refine codeAny_mono (G.run _ X.stack _ _ ⟨Value.ref (hp.objs.size + 1) :: us, ks.zip ws⟩
    (g (Value.ref (hp.objs.size + 1) :: us) ws) _ _ (fun _ _ _ => False) (hr.make C us (ks.zip ws))
    (I2.env0.make C us (ks.zip ws)) (hb.to _ (Value.ref (hp.objs.size + 1) :: us) ws I2.kIn e1 e2) r2 hq) fun r s' hq' => ?_
  cases r with
  | error er => exact hx pins σ _ _ er s' I2 hq'
  | ok fl =>
    cases fl with
    | ret u =>
      obtain ⟨v, H', I3, rv, ev, q3⟩ := I2.after hq'
      subst ev
      exact ⟨rv, ⟨V.ref (hp.objs.size + 1), H', I3, rfl, q3⟩⟩
    | next => exact False.elim hq'
    | brk => exact False.elim hq'
    | cont => exact False.elim hq'

/-- C(e, .., k = v, ..): where __init__ keeps spIni -/
def tNew (C : Addr) (n m : Nat) (fl : List V → List (Str × V)) (gV : List V → List V → List V) (t tk : TA) : TE := fun σ H Q =>
  t σ H fun vs H1 => tk σ H1 fun zs H2 => vs.length = n ∧ zs.length = m ∧
    ∀ a H3, Same H2 H3 → XAt H3 a C (fl ((gV (.ref a :: vs) zs).tail)) → Q (.ref a) H3
theorem ini_of {K : PySem.W.Frag} {H : Hp} {Q : VK} {vs zs : List V} {j : Nat} {fl : List V → List (Str × V)} {gV : List V → List V → List V}
    (hg : ∀ a, ∃ xs, gV (.ref a :: vs) zs = .ref a :: xs ∧ xs.length = j)
    (h : ∀ a H3, Same H H3 → XAt H3 a C (fl ((gV (.ref a :: vs) zs).tail)) → Q (.ref a) H3) (a : Addr) (hn : H a = none) :
    spIni K C j fl (gV (.ref a :: vs) zs) (upd H a (exo a C none)) (fun v H2 => v = .non ∧ Q (.ref a) H2) fun _ _ _ => False := by
  obtain ⟨xs, e, l⟩ := hg a
  refine ⟨a, xs, e, l, upd_same, fun dx H' hd ne keep h1 h2 => ⟨rfl, h a H' (fun b o z => ?_) ⟨dx, h1, ?_⟩⟩⟩
  · have nb : b ≠ a := ne_of_none z hn
    exact keep b o (by rw [upd_ne nb]; exact z) nb
  · rw [e]
    exact h2

variable {fl : List V → List (Str × V)} {j : Nat}
theorem pe_newP (T : OexC X.K C) (iC : PySem.W.findIn X.K (.ref C) "__init__" = some (some (.ref fI)))
    (tI : PySem.W.typeIn X.K (.ref fI) = some (.type "function"))
    (G : FnOk X.prog X.w X.K X.mg X.base CX k fI fd ps (spIni X.K C j fl)) (hr : Room (k + 1) X.A)
    (hb : KBn X.K fd ps (n + 1) [] g gV) (hx : Passes CX X fun _ _ _ => False) (few : n ≤ 1000)
    (hg : ∀ a (vs zs : List V), vs.length = n → zs.length = 0 → ∃ xs, gV (.ref a :: vs) zs = .ref a :: xs ∧ xs.length = j)
    (gl : Gl X x) (hm : X.mg x = some (.ref C)) (ha : PA X (e :: es) t)
    (hdb : (x == ("__debug__" : Str)) = false := by decide)
    (he : starEach (e :: es) X.env = (false, eval e X.env) :: starEach es X.env := by rfl)
    (hpl : (backTo pos (starEach es X.env)).any (·.1) = false := by rfl) :
    PE X (.Call (.Name x p) (e :: es) [] pos) (tNew C n 0 fl gV t tNil) := by
  refine ⟨fun pins s σ H Q I h => ?_⟩
  refine wpAny_Call_Name_kw (ld_glob I gl hm ?_ hdb)
  refine PySem.W.callWith_K (h₀ := X.base) I.ok.mod.kin T.kC (thn (ha.run pos pins s σ H _ I h) fun us s1 ⟨vs, H1, I1, r, q⟩ => ⟨I1.kIn, ?_⟩) he hpl
  obtain ⟨l1, _, q⟩ := q
  exact run_new (ks := []) (ws := []) (zs := []) T iC tI G hr hb hx few I1 r .nil l1 rfl
    (ini_of (fun a => hg a vs [] l1 rfl) q)
theorem pe_newK (T : OexC X.K C) (iC : PySem.W.findIn X.K (.ref C) "__init__" = some (some (.ref fI)))
    (tI : PySem.W.typeIn X.K (.ref fI) = some (.type "function"))
    (G : FnOk X.prog X.w X.K X.mg X.base CX k fI fd ps (spIni X.K C j fl)) (hr : Room (k + 1) X.A)
    (hb : KBn X.K fd ps 1 ks g gV) (hx : Passes CX X fun _ _ _ => False)
    (hg : ∀ a (vs zs : List V), vs.length = 0 → zs.length = ks.length → ∃ xs, gV (.ref a :: vs) zs = .ref a :: xs ∧ xs.length = j)
    (gl : Gl X x) (hm : X.mg x = some (.ref C)) (hk : PK X kws tk)
    (hall : (backToKw pos (keywordEach kws X.env)).all (·.1.isSome) = true := by rfl)
    (hks : (backToKw pos (keywordEach kws X.env)).filterMap (·.1) = ks := by rfl)
    (hdb : (x == ("__debug__" : Str)) = false := by decide)
    (hpl : ((backTo pos (starEach [] X.env)).any (·.1) || (backToKw pos (keywordEach kws X.env)).any (·.1.isNone)) = false := by rfl) :
    PE X (.Call (.Name x p) [] kws pos) (tNew C 0 ks.length fl gV tNil tk) := by
  refine ⟨fun pins s σ H Q I h => ?_⟩
  refine wpAny_Call_Name_kw (ld_glob I gl hm ?_ hdb)
  refine PySem.W.callWith_KW0 (h₀ := X.base) I.ok.mod.kin T.kC hall ?_ hpl
  refine thn (hk.run pos pins s σ H _ I h) fun ws s2 ⟨zs, H2, I2, rz, l1, l2, q2⟩ => ⟨I2.kIn, ?_⟩
  rw [hks]
  exact run_new (us := []) (vs := []) T iC tI G hr hb hx (Nat.zero_le _) I2 .nil rz rfl l2 (ini_of (fun a => hg a [] zs rfl l2) q2)
end

/-! ### a class without an __init__ of its own -/
section
variable {X : Cx} {C : Addr} {bmB : List Value} {B newId initId : String} {x : Str} {p pos : Pos}
theorem pe_new0 (F : ExcBaseFacts B newId initId bmB) (q : PySem.W.excIn X.K C bmB newId = true) (gC : X.mg x = some (.ref C))
    (kC : PySem.W.keepIn X.K (.ref C) = true) (gl : Gl X x) (hdb : (x == ("__debug__" : Str)) = false := by decide) :
    PE X (.Call (.Name x p) [] [] pos) (fun _ H Q => ∀ a H3, Same H H3 → XIs H3 a C → Q (.ref a) H3) := by
  refine ⟨fun pins s σ H Q I h => ?_⟩
  refine wpAny_Call_Name_kw (ld_glob I gl gC ?_ hdb)
  refine PySem.W.callWith_K0 I.kIn kC ?_
  show wpAny _ _ (call (.ref C) []) _ _ _
  obtain ⟨bm, N, nm, qn, bs, hdct, sn, sub, ab, col, dd, k0, k1, k2, k3, k5, mN, hC, hN, hni, T⟩ := exc_obj I.kIn q
  refine wpAny_call_exc_subT F T hC hN hni (fun h' a hm => ?_) (by show 0 ≤ sizeLine; exact Nat.zero_le _)
  have hn : H a = none := I.hok.gone hm.new
  obtain ⟨t, ht, _, _⟩ := hm.there
  have J := I.laidN (t' := s.toks) hm.keeps hm.new hn (exO_ok (H := upd H a (ExO (.ref C) a)) ht ⟨rfl, rfl⟩ rfl rfl rfl (show 4 < 6 by decide))
  exact ⟨.ref a, _, J, rfl, h a _ (fun b o e => by rw [upd_ne (ne_of_none e hn)]; exact e) (.inl upd_same)⟩
end

/-! ### its fields, its class -/
section
variable {X : Cx} {pins : List (Addr × Obj)} {σ : St} {H : Hp} {s : Shared} {a C : Addr}
theorem XAt.inst {fs : List (Str × V)} (I : Inv X pins σ H s) (x : XAt H a C fs) :
    ∃ (oe od : Obj) (mA : Str → Option Value), PySem.W.InstAt s.heap a oe C (some od) ∧ (∀ f, PySem.W.lookIn f od = some (mA f)) ∧ ∀ f, RelO (fs.lookup f) (mA f) := by
  obtain ⟨dx, h1, h2⟩ := x
  obtain ⟨t1, ho⟩ := exo_at I.hok h1
  obtain ⟨mA, hns, hr⟩ := exd_at I.hok h2
  obtain ⟨od, hod, hl⟩ := lookIn_ns hns
  exact ⟨_, od, mA, ⟨ho, rfl, rfl, hod⟩, hl, hr⟩
theorem XIs.inst (I : Inv X pins σ H s) (x : XIs H a C) : ∃ oe od, PySem.W.InstAt s.heap a oe C od := by
  rcases x with x | ⟨fs, x⟩
  · obtain ⟨⟨oe, vs, he, hz, hd, _⟩, _, _⟩ := I.hok a _ x
    refine ⟨oe, none, ⟨he, hz.1, ?_, ?_⟩⟩
    · unfold PySem.W.notCls
      rw [hd]
    · rw [hz.2]
      trivial
  · obtain ⟨oe, od, _, J, _⟩ := x.inst I
    exact ⟨oe, some od, J⟩

/-- e.f of such an exception -/
def tXf (K : PySem.W.Frag) (f : Str) (te : TE) : TE := fun σ H Q => te σ H fun x H1 =>
  ∃ (a C : Addr) (fs : List (Str × V)) (v : V), x = .ref a ∧ XAt H1 a C fs ∧ XfC K C ∧ PySem.W.findIn K (.ref C) f = some none ∧ fs.lookup f = some v ∧ Q v H1
theorem pe_xf {e : Expr} {te : TE} {f : Str} {pos : Pos} (he : PE X e te)
    (hb : attributeBase e f X.env (eval e X.env) = eval e X.env := by rfl) : PE X (.Attribute e f pos) (tXf X.K f te) := by
  refine ⟨fun pins s σ H Q I h => ?_⟩
  refine attr_of hb (thn (he.run pins s σ H _ I h) fun u s1 ⟨x, H1, I1, rx, a, C, fs, v, ex, ea, T, hno, l, q⟩ => ?_)
  subst ex
  obtain rfl : u = Value.ref a := rx
  obtain ⟨oe, od, mA, J, hl, hr⟩ := ea.inst I1
  have z := hr f
  rw [l] at z
  obtain ⟨u, hu, ru⟩ := RelO.some_of z
  refine HandSPX.exc_get I1.kIn J T.ga T.gg T.exC (PySem.W.findObj_own T.hdC hno rfl ?_) (handed_of ru) ⟨v, H1, I1.tok _, ru, q⟩
  rw [hl, hu]

/-- isinstance(e, c) -/
def rXis (K : PySem.W.Frag) : List V → Hp → VK → Prop := fun xs H Q =>
  ∃ (a C : Addr) (c : V) (cv : Value) (b : Bool), xs = [.ref a, c] ∧ XIs H a C ∧ ExcC K C ∧ ClsV c cv ∧ PySem.W.kitOne K (.ref C) cv = some b ∧ Q (.bl b) H
theorem call_xis : CallR X (.builtin "isinstance") (rXis X.K) := by
  intro pins s σ H xs us Q I r h
  obtain ⟨a, C, c, cv, b, rfl, ea, T, kc, e, q⟩ := h
  obtain ⟨u1, u2, rfl, r1, r2⟩ := vals2 r
  have e2 := kc.eq r2
  subst e2
  obtain rfl : u1 = Value.ref a := r1
  obtain ⟨oe, od, J⟩ := ea.inst I
  have hcl : (PySem.W.clsIn X.K C).isSome = true := by
    obtain ⟨cd, hc, _⟩ := PySem.W.any_some T.hd
    rw [hc]
    rfl
  exact PySem.W.kia_one (PySem.W.kitx_exc hcl T.hg T.hk T.hs T.ha T.hn T.ht T.hm) I.kIn J e (fun z => nomatch z)
    fun tk => ⟨.bl b, H, I.tok tk, rfl, q⟩
end
end L2.XVal
set_option Elab.async false
set_option linter.all false
set_option maxRecDepth 100000
set_option maxHeartbeats 4000000
/-! The text of a value by repr; powers of great ints; defs that are called where no text is being made of anything. -/
namespace L2.XVal
open PySem PySem.Spec PyProof.Rows

/-! ### repr -/
theorem sameL {K : PySem.W.Frag} {H H' : Hp} {a : Addr} {xs : List V} (e : Same H H') (h : SqL K H a xs) : SqL K H' a xs := e.seq h
theorem sameT {K : PySem.W.Frag} {H H' : Hp} {a : Addr} {xs : List V} (e : Same H H') (h : SqT K H a xs) : SqT K H' a xs := by
  rcases h with (h | ⟨o, h⟩) | h
  · exact .inl (.inl (e _ _ h))
  · exact .inl (.inr ⟨o, e _ _ h⟩)
  · exact .inr h
mutual
theorem dpSame {K : PySem.W.Frag} {H H' : Hp} (e : Same H H') : ∀ (d : PyData) (v : V), Dp K H v d → Dp K H' v d
  | .none, _, h => by cases h; exact .non
  | .bool b, _, h => by cases h; exact .bl b
  | .int i, _, h => by cases h; exact .int i
  | .str x, _, h => by cases h; exact .str x
  | .list ds, _, h => by
    cases h with
    | lst hs ha => exact .lst (sameL e hs) (dpSameAll e ds _ ha)
  | .tuple ds, _, h => by
    cases h with
    | tup hs ha => exact .tup (sameT e hs) (dpSameAll e ds _ ha)
  | .dict _, _, h => by cases h
theorem dpSameAll {K : PySem.W.Frag} {H H' : Hp} (e : Same H H') : ∀ (ds : List PyData) (vs : List V), DpAll K H vs ds → DpAll K H' vs ds
  | [], _, h => by cases h; exact .nil
  | d :: ds, _, h => by
    cases h with
    | cons h1 h2 => exact .cons (dpSame e d _ h1) (dpSameAll e ds _ h2)
end
/-- a dict of one text by one text -/
def One (H : Hp) (x : V) (d : PyData) : Prop := ∃ (a : Addr) (k v : Str), x = .ref a ∧ H a = some (.dK [(Sum.inr k, .str v)]) ∧ d = .dict [(.str k, .str v)]
/-- repr of the value x is the text z -/
def Shw (K : PySem.W.Frag) (H : Hp) (x : V) (z : Str) : Prop :=
  ∃ d : PyData, d.shown = z ∧ d.showable = true ∧ d.shown.length ≤ 1000 ∧ d.depth ≤ 5 ∧ PyData.strOk z = true ∧ ((Dp K H x d ∧ d.hasDict = false) ∨ One H x d)
theorem Shw.same {K : PySem.W.Frag} {H H' : Hp} {x : V} {z : Str} (h : Shw K H x z) (e : Same H H') : Shw K H' x z := by
  obtain ⟨d, h1, h2, h3, h4, h0, h5⟩ := h
  refine ⟨d, h1, h2, h3, h4, h0, ?_⟩
  rcases h5 with ⟨h5, h6⟩ | ⟨a, k, v, ex, ha, ed⟩
  · exact .inl ⟨dpSame e d _ h5, h6⟩
  · exact .inr ⟨a, k, v, ex, e _ _ ha, ed⟩
section
variable {X : Cx} {pins : List (Addr × Obj)} {σ : St} {H : Hp} {s : Shared}
theorem one_reads {x : V} {d : PyData} {u : Value} (I : Inv X pins σ H s) (h : One H x d) (r : RelV x u) :
    ∃ as, Reads s.heap u d as ∧ sysModules ∉ as := by
  obtain ⟨a, k, v, rfl, ha, rfl⟩ := h
  obtain rfl : u = Value.ref a := r
  obtain ⟨_, hns, vs, rv, m⟩ : ([(Sum.inr k, V.str v)] : List (Key × V)).length ≤ sizeLine ∧ (a == sysModules) = false ∧
    ∃ vs, KV [((Sum.inr k : Key), V.str v)] vs ∧ s.heap.DictOf (mixKind X.prog X.w) a vs := I.hok a _ ha
  cases rv with
  | @cons _ b _ bs hb hn =>
    cases hn
    obtain ⟨bk, bv⟩ := b
    obtain ⟨e1, r2⟩ := hb
    dsimp only at e1 r2
    subst e1
    obtain ⟨t2, rfl⟩ := r2
    obtain ⟨o, es, ep, ho, hx, hd, hrest⟩ := m
    obtain ⟨_, hp, _⟩ := hrest
    obtain ⟨l⟩ := es
    cases hp with
    | @cons en _ l' _ hk hv hn =>
      cases hn
      have hk2 : keyIs (Sum.inr k) en.key = true := hk
      rcases keyIs_shape hk2 with ⟨i, t, z, _⟩ | ⟨y, t, z, ek⟩
      · cases z
      · cases z
        have rk : ReadsAll s.heap [en.key] [PyData.str k] ([] ++ []) := .cons (by rw [ek]; exact .str k t) .nil
        have rw2 : ReadsAll s.heap [en.val] [PyData.str v] ([] ++ []) := .cons (by rw [hv]; exact .str v t2) .nil
        refine ⟨_, Reads.dict (kvs := [(PyData.str k, PyData.str v)]) ho hx.1 hd rk rw2, ?_⟩
        intro z
        have z2 : sysModules = a := by simpa using z
        rw [z2] at hns
        simp at hns
theorem Shw.ok {K : PySem.W.Frag} {x : V} {z : Str} (h : Shw K H x z) : PyData.strOk z = true := by
  obtain ⟨_, _, _, _, _, q, _⟩ := h
  exact q
theorem shw_reads {x : V} {z : Str} {u : Value} (I : Inv X pins σ H s) (h : Shw X.K H x z) (r : RelV x u) :
    ∃ d as, Reads s.heap u d as ∧ d.shown = z ∧ d.showable = true ∧ d.shown.length ≤ 1000 ∧ d.depth ≤ 5 ∧ (d.hasDict = true → sysModules ∉ as) := by
  obtain ⟨d, h1, h2, h3, h4, h0, h5⟩ := h
  rcases h5 with ⟨h5, h6⟩ | h5
  · obtain ⟨as, q⟩ := Dp.reads I d x u h5 r
    exact ⟨d, as, q, h1, h2, h3, h4, fun z => by rw [h6] at z; cases z⟩
  · obtain ⟨as, q, no⟩ := one_reads I h5 r
    exact ⟨d, as, q, h1, h2, h3, h4, fun _ => no⟩
def rRepr (K : PySem.W.Frag) : List V → Hp → VK → Prop := fun xs H Q => ∃ (x : V) (z : Str), xs = [x] ∧ Shw K H x z ∧ Q (.str z) H
theorem call_repr (hg : X.A.guards = some []) (hu : X.A.units + 64 < cLine) : CallR X (.builtin "repr") (rRepr X.K) := by
  intro pins s σ H xs us Q I r h
  obtain ⟨x, z, rfl, hs, q⟩ := h
  obtain ⟨u, rfl, rx⟩ := vals1 r
  obtain ⟨d, as, hr, rfl, h2, h3, h4, h5⟩ := shw_reads I hs rx
  have sz : d.shown.length ≤ sizeLine := by rw [sizeLine_eq]; omega
  cases hr with
  | none => exact PySem.P.repr_of_none ⟨.str _, H, I.tok _, ⟨_, rfl⟩, q⟩
  | bool b => exact PySem.P.repr_of_bool ⟨.str _, H, I.tok _, ⟨_, rfl⟩, q⟩
  | int i t => exact PySem.P.repr_of_int (by simpa [PyData.showable] using h2) ⟨.str _, H, I.tok _, ⟨_, rfl⟩, q⟩
  | str y t => exact PySem.P.repr_of_str ⟨.str _, H, I.tok _, ⟨_, rfl⟩, q⟩ sz
  | list h1' h2' h3' h4' =>
    exact repr_of_reads' (Reads.list h1' h2' h3' h4') h2 h5 hg (by omega) (fun _ _ e => e)
      (fun h' u tk k => ⟨.str _, H, I.kept k, ⟨_, rfl⟩, q⟩) sz
  | tuple h1' h2' h3' h4' =>
    exact repr_of_reads' (Reads.tuple h1' h2' h3' h4') h2 h5 hg (by omega) (fun _ _ e => e)
      (fun h' u tk k => ⟨.str _, H, I.kept k, ⟨_, rfl⟩, q⟩) sz
  | dict h1' h2' h3' h4' h5' =>
    exact repr_of_reads' (Reads.dict h1' h2' h3' h4' h5') h2 h5 hg (by omega) (fun _ _ e => e)
      (fun h' u tk k => ⟨.str _, H, I.kept k, ⟨_, rfl⟩, q⟩) sz

/-! ### a great int's power -/
theorem op_powB : OpR X (binaryOp .Pow) (rI (fun i j => 0 ≤ j ∧ (Builtin.Int.intBits i : Int) * j ≤ 2 ^ 27) fun i j => .int (i ^ j.toNat)) :=
  opI fun _ _ _ _ _ _ _ hc q => pow_int hc.1 hc.2 q
end

/-! ### defs called where nothing is being shown -/
structure FnG (P : Program) (w : World) (K : PySem.W.Frag) (mg : Str → Option Value) (base : Heap) (CX : CXT) (k : Nat) (f : Addr)
    (fd : FuncData) (ps : List Str) (sp : Sp) : Prop where
  len : ∀ vs H Q E, sp vs H Q E → vs.length = ps.length
  run : ∀ (A : Around) (outer : List Env) (s : Shared) (H : Hp) (args : Args) (us : List Value) (vs : List V) (Q : VK) (E : XK),
    A.guards = some [] → Room k A → Env0 P w K mg base A outer s H → BindsTo s fd args (ps.zip us) → Vals vs us → sp vs H Q E →
    codeAny (model P w) A (.call (.ref f) args) (CR CX outer P w H s Q E) s
section
variable {P : Program} {w : World} {K : PySem.W.Frag} {mg : Str → Option Value} {base : Heap} {k : Nat} {f : Addr} {fd : FuncData}
variable {x qual : Str} {st : Stmt} {N ps : List Str} {sp : Sp}
theorem fnG_ok (F : Fun K x qual st f fd) (S : FnScope N ps (defScope st)) (len : ∀ vs H Q E, sp vs H Q E → vs.length = ps.length)
    (body : ∀ (cdv : Value) (A : Around) (outer : List Env) (s : Shared) (H : Hp) (vs : List V) (Q : VK) (E : XK), A.guards = some [] →
      Room k (A.deeper (envOfC qual (defScope st) s.heap.objs.size f cdv)) → sp vs H Q E →
      ∃ t, PSs (cxOf CX0 P w K mg base N qual (defScope st) f cdv A outer s H E).nox (defBody st) t ∧ t { nx := fun _ H' => Q .non H', rt := Q } (start N vs) H) :
    FnG P w K mg base CX0 (k + 1) f fd ps sp := by
  obtain ⟨oc, od, kV, doc, pm, an, cdv, ct, osl, rfl, lk, hcd⟩ := F.ex
  refine ⟨len, fun A outer s H args us vs Q E hg hr e0 hb r hsp => ?_⟩
  have nvs := len _ _ _ _ hsp
  have inK : K.In s.heap := e0.mod.kin.keeps fun b o e => (e0.bs b o e).1
  have nolim : s.heap.NoLimit := e0.mod.nolimit.keeps fun b o e => (e0.bs b o e).1
  have kinds : ∀ y ∈ ps.zip us, (defScope st).names.lookup y.1 = some .local ∨
      ((defScope st).names.lookup y.1 = some .cell ∧ ((cellsFrom (s.heap.objs.size + 1) (defScope st).names []).lookup y.1).isSome = true) := by
    rintro ⟨n, v⟩ hy
    rcases S.par n (List.of_mem_zip hy).1 with q | q
    · exact .inl q
    · exact .inr ⟨q, PySem.W.cellsFrom_some _ _ _ (.inl q)⟩
  refine codeAny_call_function hr.depth (inK _ _ lk) rfl S.co S.gen rfl (PySem.W.codeRec_of inK hcd) (hb _ _ _ _ ?_)
  refine wpAny_newFunctionEnv_cells S.kind kinds fun env he s1 ic => ?_
  subst he
  refine ⟨nolim.keeps ic.toInCall.keep, codeAny_func ?_⟩
  obtain ⟨t, ht, hq⟩ := body cdv A outer s H vs Q E hg (hr.deeper _) hsp
  have I : Inv (cxOf CX0 P w K mg base N qual (defScope st) f cdv A outer s H E) [] (start N vs) H s1 := inv_start S hr.hd e0 nvs r ic
  refine wpAny_mono (ht.nox.run [] s1 (start N vs) H _ I hq) (fun fl s' hs => ?_) fun e s' hs => hs
  cases fl with
  | ret u =>
    obtain ⟨v, σ', H', J, rv, q⟩ := hs
    exact ⟨v, H', J.os, J.bare, J.base, J.hok, rv, q⟩
  | next =>
    obtain ⟨σ', H', J, q⟩ := hs
    exact ⟨V.non, H', J.os, J.bare, J.base, J.hok, rfl, q⟩
  | brk =>
    obtain ⟨_, _, _, q⟩ := hs
    exact False.elim q
  | cont =>
    obtain ⟨_, _, _, q⟩ := hs
    exact False.elim q
end
section
variable {X : Cx} {CX : CXT} {k : Nat} {f : Addr} {fd : FuncData} {ps : List Str} {sp : Sp} {E : XK} {x : Str} {p pos : Pos} {e : Expr} {es : List Expr} {t : TA}
theorem pe_callG (F : FnG X.prog X.w X.K X.mg X.base CX k f fd ps sp) (hgd : X.A.guards = some []) (hr : Room k X.A) (gl : Gl X x)
    (hm : X.mg x = some (.ref f)) (hk : PySem.W.keepIn X.K (.ref f) = true) (hb : Binds X.K fd ps []) (hx : Passes CX X E)
    (ha : PA X (e :: es) t) (hdb : (x == ("__debug__" : Str)) = false := by decide)
    (he : starEach (e :: es) X.env = (false, eval e X.env) :: starEach es X.env := by rfl)
    (hpl : (backTo pos (starEach es X.env)).any (·.1) = false := by rfl) :
    PE X (.Call (.Name x p) (e :: es) [] pos) (tCall sp [] E t) := by
  refine ⟨fun pins s σ H Q I h => ?_⟩
  refine wpAny_Call_Name_kw (ld_glob I gl hm ?_ hdb)
  refine PySem.W.callWith_K (h₀ := X.base) I.ok.mod.kin hk (thn (ha.run pos pins s σ H _ I h) fun us s1 ⟨vs, H1, I1, r, q⟩ => ⟨I1.kIn, ?_⟩) he hpl
  have q' : sp (vs ++ []) H1 Q E := q
  rw [List.append_nil] at q'
  have hl : us.length = ps.length := by
    rw [← r.length]
    exact F.len _ _ _ _ q'
  have hbt := hb s1 us I1.kIn (by rw [List.append_nil]; exact hl)
  rw [List.append_nil] at hbt
  refine wpAny_call (codeAny_mono (F.run X.A X.stack s1 H1 ⟨us, []⟩ us vs Q E hgd hr I1.env0 hbt r q') fun r s' hq => ?_)
  cases r with
  | error er => exact hx pins σ H1 s1 er s' I1 hq
  | ok fl =>
    cases fl with
    | ret u => exact I1.after hq
    | next => exact False.elim hq
    | brk => exact False.elim hq
    | cont => exact False.elim hq
end
end L2.XVal
set_option Elab.async false
set_option linter.all false
set_option maxRecDepth 100000
set_option maxHeartbeats 4000000
/-! The law's end for a def whose promise asks that no text is being made of anything (callerA's guards are empty). -/
namespace L2.XVal
open PySem PySem.Spec PyProof.Rows
section
variable {P : Program} {w : World} {K : PySem.W.Frag} {mg mb : Str → Option Value} {k : Nat} {fa a : Addr} {fd : FuncData} {x : Str}
variable {sp : Sp} {s₁ : Shared} {vs : List Value} {ns : List Int}

/-- from one abstract heap that tracks the script at most -/
theorem law_from (inK : K.In s₁.heap) (glob : s₁.heap.Ns mainGlobals mg) (blt : s₁.heap.Ns builtinsNs mb)
    (boot : ∀ x : Str, x ≠ "__name__" → mb x = bootBuiltins x) (nolim : s₁.heap.NoLimit) (nogen : s₁.gens = #[])
    (script : s₁.heap.get? a = some { cls := .type "list", data := .seq vs.toArray }) (room : Room k callerA)
    (F : ∀ base : Heap, K.In base → base.Ns mainGlobals mg → FnG P w K mg base CX0 k fa fd [x] sp)
    (bind : ∀ (s : Shared) (u : Value), BindsTo s fd ⟨[u], []⟩ [(x, u)])
    (H : Hp) (only : Only H) (ok : HOk P w H s₁.heap) (alone : ∀ b, H b ≠ none → b = a) (out : H a ≠ none → K.lookup a = none)
    (promise : sp [.ref a] H (fun v _ => v = .bl true) fun _ _ _ => False) :
    codeAny (model P w) callerA (.call (.ref fa) ⟨[.ref a], []⟩)
      (fun r s' => r = .ok (.ret (.bool true)) ∧ OldK s₁.heap s'.heap ∧ s'.os = s₁.os ∧ AllBare s'.gens) s₁ := by
  have under : ∀ {b : Addr} {o : Obj}, s₁.heap.get? b = some o → H b = none → (hidT s₁.heap H).get? b = some o :=
    fun e n => hidT_get e n
  have untracked : ∀ {b : Addr} {o : Obj} {es : Array DictEntry} {ep : Nat}, s₁.heap.get? b = some o → o.data = .dict es ep → H b = none := by
    intro b o es ep e d
    cases q : H b with
    | none => rfl
    | some u =>
      have z : b = a := alone b (by rw [q]; simp)
      rw [z, script] at e
      have e2 := Option.some.inj e
      rw [← e2] at d
      cases d
  have names : ∀ {b : Addr} {m : Str → Option Value}, s₁.heap.Ns b m → (hidT s₁.heap H).Ns b m := by
    rintro b m ⟨o, es, ep, e, d, r⟩
    exact ⟨o, es, ep, under e (untracked e d), d, r⟩
  have inB : K.In (hidT s₁.heap H) := by
    intro b o e
    refine under (inK b o e) ?_
    cases q : H b with
    | none => rfl
    | some u =>
      have z : b = a := alone b (by rw [q]; simp)
      rw [z, out (by rw [← z, q]; simp)] at e
      cases e
  have md : Mod K mg (hidT s₁.heap H) := by
    obtain ⟨mc, h1, h2⟩ := nolim
    exact ⟨inB, names glob, ⟨mb, names blt, boot⟩, ⟨mc, names h1, h2⟩⟩
  have env0 : Env0 P w K mg (hidT s₁.heap H) callerA [] s₁ H :=
    ⟨rfl, md, fun b o e => of_hidT e, Nat.le_of_eq (hidT_size _ _), trivial, fun b hb => (by cases hb), ok, .of_eq nogen⟩
  refine codeAny_mono ((F _ inB (names glob)).run callerA [] s₁ H ⟨[.ref a], []⟩ [.ref a] [.ref a] _ _ rfl room env0
    (bind s₁ (.ref a)) (.cons rfl .nil) promise) fun r s' h => ?_
  cases r with
  | error e => exact (show False from h).elim
  | ok fl =>
    cases fl with
    | next => exact False.elim h
    | brk => exact False.elim h
    | cont => exact False.elim h
    | ret u =>
      obtain ⟨v, H', os, bare, un, ok', rv, q⟩ := h
      have q' : v = .bl true := q
      subst q'
      obtain rfl : u = Value.bool true := rv
      refine ⟨rfl, OldK.of_keep fun b o e => ?_, os, bare⟩
      cases q : H b with
      | none => exact un.keep b o e q (fun z => by cases z) (fun z => by cases z)
      | some u =>
        rcases only b with z | ⟨ob, xs, z⟩
        · rw [q] at z
          cases z
        · obtain ⟨e1, _⟩ := ok b _ z
          obtain ⟨e2, _⟩ := ok' b _ (un.frzs b ob _ z)
          rw [e] at e1
          cases e1
          exact e2

theorem law_callG (inK : K.In s₁.heap) (glob : s₁.heap.Ns mainGlobals mg) (blt : s₁.heap.Ns builtinsNs mb)
    (boot : ∀ x : Str, x ≠ "__name__" → mb x = bootBuiltins x) (nolim : s₁.heap.NoLimit) (nogen : s₁.gens = #[])
    (script : s₁.heap.get? a = some { cls := .type "list", data := .seq vs.toArray }) (hi : IntsAre vs ns) (few : ns.length ≤ sizeLine)
    (room : Room k callerA)
    (F : ∀ base : Heap, K.In base → base.Ns mainGlobals mg → FnG P w K mg base CX0 k fa fd [x] sp)
    (bind : ∀ (s : Shared) (u : Value), BindsTo s fd ⟨[u], []⟩ [(x, u)])
    (promise : ∀ H : Hp, Only H → SqL K H a (ns.map V.int) → sp [.ref a] H (fun v _ => v = .bl true) fun _ _ _ => False) :
    codeAny (model P w) callerA (.call (.ref fa) ⟨[.ref a], []⟩)
      (fun r s' => r = .ok (.ret (.bool true)) ∧ OldK s₁.heap s'.heap ∧ s'.os = s₁.os ∧ AllBare s'.gens) s₁ := by
  have rv := vals_ints hi
  have lens := hi.length
  cases hk : K.lookup a with
  | some o =>
    have e := inK a o hk
    rw [script] at e
    cases e
    have here : SqL K (fun _ => none) a (ns.map V.int) :=
      .inr ⟨_, vs.toArray, _, hk, rfl, rfl, rfl, by rw [List.size_toArray, lens]; exact few, by simpa using rv⟩
    have only : Only fun _ => none := fun _ => .inl rfl
    refine law_from inK glob blt boot nolim nogen script room F bind (fun _ => none) only (fun b u z => ?_) (fun b z => absurd rfl z)
      (fun z => absurd rfl z) (promise _ only here)
    have z' : (none : Option HO) = some u := z
    cases z'
  | none =>
    let H0 : Hp := fun b => if b = a then some (.frz { cls := .type "list", data := .seq vs.toArray } (.lst (ns.map V.int))) else none
    have at_ : H0 a = some (.frz { cls := .type "list", data := .seq vs.toArray } (.lst (ns.map V.int))) := if_pos rfl
    have off : ∀ b, b ≠ a → H0 b = none := fun b hb => if_neg hb
    have only : Only H0 := by
      intro b
      by_cases hb : b = a
      · exact .inr ⟨_, _, by rw [hb]; exact at_⟩
      · exact .inl (off b hb)
    refine law_from inK glob blt boot nolim nogen script room F bind H0 only (fun b u z => ?_) (fun b z => ?_) (fun _ => hk)
      (promise _ only (.inl (.inr ⟨_, at_⟩)))
    · by_cases hb : b = a
      · rw [hb, at_] at z
        cases z
        rw [hb]
        exact ⟨script, by rw [List.length_map]; exact few, vs, _, rv, script⟩
      · rw [off b hb] at z
        cases z
    · by_cases hb : b = a
      · exact hb
      · exact absurd (off b hb) z
end

theorem walkG {l : PySem.W.OpenLaw} {n k : Nat} {q : Program} {loose : List Str} {XP : (Str → Option Value) → Heap → Prop}
    {YP : World → Heap → Prop} {d : DefRec} {K : Params → PySem.W.Frag} {sp : World → Sp} {x : Str}
    (most : l.most = some n) (few : n ≤ sizeLine) (nodef : d.params.defaults = []) (room : Room k callerA)
    (inK : ∀ (w : World) (h : Heap), YP w h → (K w.params).In h)
    (F : ∀ (w : World) (mg : Str → Option Value) (fa : Addr) (h : Heap), (K w.params).In h → h.Ns mainGlobals mg → mg d.name = some (.ref fa) →
      ∃ fd : FuncData, (∀ (s : Shared) (u : Value), BindsTo s fd ⟨[u], []⟩ [(x, u)]) ∧
        ∀ base : Heap, (K w.params).In base → base.Ns mainGlobals mg → FnG l.prog w (K w.params) mg base CX0 k fa fd [x] (sp w))
    (promise : ∀ (w : World) (H : Hp) (a : Addr) (ns : List Int), ns.length ≤ n → (∀ z ∈ ns, Builtin.Int.intBits z ≤ 1048576) → Only H →
      SqL (K w.params) H a (ns.map V.int) → sp w [.ref a] H (fun v _ => v = .bl true) fun _ _ _ => False) :
    PySem.W.WalkO q loose XP YP l.row.toRowW d [] (fun f vs => PySem.call f vs) := by
  refine Att.attach_callB most nodef fun w s₀ s₁ mg mb fa o pm cd doc a vs ns G Y ho hd hcd hmg hobj hints hlen hbits hg => ?_
  have KX := inK w _ Y
  obtain ⟨fd, hb, hF⟩ := F w mg fa _ KX G.T.g hmg
  exact law_callG KX G.T.g G.T.b G.T.builtins G.T.nolimit hg hobj hints (Nat.le_trans hlen few) room hF hb
    fun H hO hS => promise w H a ns hlen hbits hO hS
end L2.XVal
set_option Elab.async false
set_option linter.all false
set_option maxRecDepth 100000
set_option maxHeartbeats 4000000
/-! The operators of an own class: a + b, a - b, x in a, len(a), and a walk by its own __iter__ that tells iter of a tuple. -/
namespace L2.OwnOp
open PySem PySem.Spec PyProof.Rows
section
variable {X : Cx} {n : Nat} {pins : List (Addr × Obj)} {σ : St} {H : Hp} {s : Shared} {CX : CXT} {f : Addr} {fd : FuncData} {ps : List Str} {sp : Sp} {E : XK}
/-- an own def's call somewhere below -/
theorem run_own (F : FnOk X.prog X.w X.K X.mg X.base CX n f fd ps sp) (hb : Binds X.K fd ps []) (hx : Passes CX X E) {A : Around} (sb : Sub X n A) (I : Inv X pins σ H s) {vs : List V} {us : List Value} {Q : VK} (rv : Vals vs us) (want : sp vs H Q E) :
    wpAny (model X.prog X.w) A (call (.ref f) us) (fun u s' => CE X.stack X.prog X.w H s Q u s') X.xe s := by
  have e0 : Env0 X.prog X.w X.K X.mg X.base A X.stack s H := by
    have e := I.env0
    have sf : A.frames = X.A.frames := sb.fr
    exact ⟨by rw [sf]; exact e.frames, e.mod, e.bs, e.bsz, e.funs, e.frf, e.hok, e.bare⟩
  have hl := F.len _ _ _ _ want
  refine wpAny_call (codeAny_mono (F.run A X.stack s H ⟨us, []⟩ us vs _ E sb.room e0 (by
    have := hb s us I.kIn (by rw [List.append_nil, ← rv.length]; exact hl)
    simpa using this) rv want) fun r s' hq => ?_)
  cases r with
  | error e => exact hx pins σ H s e s' I hq
  | ok fl =>
    cases fl with
    | ret z => exact hq
    | next => exact False.elim hq
    | brk => exact False.elim hq
    | cont => exact False.elim hq
/-- the class of what stands at the left, and its def of that name -/
structure OwnM (X : Cx) (C f : Addr) (nm : Str) : Prop where
  fi : PySem.W.findIn X.K (.ref C) nm = some (some (.ref f))
  fn : PySem.W.isFn X.K (.ref f) = true
/-- x in p, p an instance -/
def rInOwn (C : Addr) (sp : Sp) : R2 := fun x y H Q => ∃ p dx fs, y = .ref p ∧ H p = some (.ins C dx fs) ∧ sp [.ref p, x] H (fun v H' => ∃ b, v = .bl b ∧ Q (.bl b) H') E0
def rNotInOwn (C : Addr) (sp : Sp) : R2 := fun x y H Q => ∃ p dx fs, y = .ref p ∧ H p = some (.ins C dx fs) ∧ sp [.ref p, x] H (fun v H' => ∃ b, v = .bl b ∧ Q (.bl (!b)) H') E0
theorem op_inOwn {C : Addr} (F : FnOk X.prog X.w X.K X.mg X.base CX0 n f fd ps sp) (hb : Binds X.K fd ps []) (m : OwnM X C f "__contains__") (hr : Room n X.A) (hx : Passes CX0 X E0) : OpR X (compareOp .In) (rInOwn C sp) := by
  intro pins s σ H x y v u Q I rx ry hq
  obtain ⟨p, dx, fs, rfl, hp, want⟩ := hq
  cases ry
  obtain ⟨_, J, _⟩ := ins_get I.hok hp
  obtain ⟨od, J, _⟩ := J.look
  obtain ⟨_, fr⟩ := I.fr
  refine PySem.W.in_K fr I.mod.kin J m.fi m.fn (wpAny_mono (run_own (vs := [.ref p, x]) F hb hx ⟨hr, rfl⟩ I (.cons rfl (.cons rx .nil)) want) (fun r s' z => ?_) fun _ _ z => z)
  obtain ⟨v', H', I', rv, b, rfl, q⟩ := I.after z
  cases rv
  exact wpAny_truthy_bool ⟨.bl b, H', I', rfl, q⟩
theorem op_notInOwn {C : Addr} (F : FnOk X.prog X.w X.K X.mg X.base CX0 n f fd ps sp) (hb : Binds X.K fd ps []) (m : OwnM X C f "__contains__") (hr : Room n X.A) (hx : Passes CX0 X E0) : OpR X (compareOp .NotIn) (rNotInOwn C sp) := by
  intro pins s σ H x y v u Q I rx ry hq
  obtain ⟨p, dx, fs, rfl, hp, want⟩ := hq
  cases ry
  obtain ⟨_, J, _⟩ := ins_get I.hok hp
  obtain ⟨od, J, _⟩ := J.look
  obtain ⟨_, fr⟩ := I.fr
  refine PySem.W.notIn_K fr I.mod.kin J m.fi m.fn (wpAny_mono (run_own (vs := [.ref p, x]) F hb hx ⟨hr, rfl⟩ I (.cons rfl (.cons rx .nil)) want) (fun r s' z => ?_) fun _ _ z => z)
  obtain ⟨v', H', I', rv, b, rfl, q⟩ := I.after z
  cases rv
  exact wpAny_truthy_bool ⟨.bl (!b), H', I', rfl, q⟩
/-- a + b, a - b of two instances -/
def rBinOwn (C : Addr) (sp : Sp) : R2 := fun x y H Q => ∃ p dx fs q dy gs, x = .ref p ∧ y = .ref q ∧ H p = some (.ins C dx fs) ∧ H q = some (.ins C dy gs) ∧ sp [.ref p, .ref q] H (fun v H' => ∃ r, v = .ref r ∧ Q (.ref r) H') E0
theorem op_binOwn {C : Addr} {op : Operator} (F : FnOk X.prog X.w X.K X.mg X.base CX0 n f fd ps sp) (hb : Binds X.K fd ps []) (m : OwnM X C f (PySem.dunder op.info.2)) (hc : PySem.W.selfFirst X.K C = true) (hr : Room n X.A) (hx : Passes CX0 X E0) :
    OpR X (binaryOp op) (rBinOwn C sp) := by
  intro pins s σ H x y v u Q I rx ry hq
  obtain ⟨p, dx, fs, q, dy, gs, rfl, rfl, hp, hq, want⟩ := hq
  cases rx
  cases ry
  obtain ⟨_, J, _⟩ := ins_get I.hok hp
  obtain ⟨od, J, _⟩ := J.look
  obtain ⟨_, J2, _⟩ := ins_get I.hok hq
  obtain ⟨od2, J2, _⟩ := J2.look
  obtain ⟨_, fr⟩ := I.fr
  refine PySem.W.binop_K fr I.mod.kin J J2.type hc m.fi m.fn (wpAny_mono (run_own (vs := [.ref p, .ref q]) F hb hx ⟨hr, rfl⟩ I (.cons rfl (.cons rfl .nil)) want) (fun r s' z => ?_) fun _ _ z => z)
  obtain ⟨v', H', I', rv, b, rfl, q⟩ := I.after z
  cases rv
  exact ⟨.ref b, H', I', rfl, q⟩
/-- len(p) -/
def rLenOwn (C : Addr) (sp : Sp) : List V → Hp → VK → Prop := fun xs H Q => ∃ p dx fs, xs = [.ref p] ∧ H p = some (.ins C dx fs) ∧ sp [.ref p] H (fun v H' => ∃ k : Nat, v = .int k ∧ k < 1000000 ∧ Q (.int k) H') E0
theorem call_lenOwn {C : Addr} (F : FnOk X.prog X.w X.K X.mg X.base CX0 n f fd ps sp) (hb : Binds X.K fd ps []) (m : OwnM X C f "__len__") (hr : Room (n + 1) X.A) (hx : Passes CX0 X E0) : CallR X (.builtin "len") (rLenOwn C sp) := by
  intro pins s σ H xs us Q I rv hq
  obtain ⟨p, dx, fs, rfl, hp, want⟩ := hq
  obtain rfl := Vals.ref1 rv
  obtain ⟨_, J, _⟩ := ins_get I.hok hp
  obtain ⟨od, J, _⟩ := J.look
  obtain ⟨_, fr⟩ := I.fr
  refine PySem.W.len_K fr I.mod.kin J m.fi m.fn (wpAny_mono (run_own (vs := [.ref p]) F hb hx ⟨hr.in1, rfl⟩ I (.cons rfl .nil) want) (fun r s' z => ?_) fun _ _ z => z)
  obtain ⟨v', H', I', rv, k, rfl, lk, q⟩ := I.after z
  obtain ⟨t, rfl⟩ := rv
  refine ⟨⟨by omega, by omega⟩, .int k, H', I'.kept (t' := s'.toks + 1) fun b o e => e, ⟨_, rfl⟩, q⟩
end
/-! ### an iterator over a tuple, as a value -/
def ItTup (t it : Addr) (i : Nat) : HO := .ext fun h => h.IsTupleIter it t i
theorem itTup_ok {P : Program} {w : World} {H : Hp} {h : Heap} {t it : Addr} {i : Nat} (e : h.IsTupleIter it t i) : ObjOk P w H h it (ItTup t it i) := ⟨e, ⟨_, e.choose_spec.1⟩, fun h1 h2 q k => Heap.IsTupleIter.at q k⟩
def del (H : Hp) (a : Addr) : Hp := fun b => if b = a then none else H b
theorem del_same {H : Hp} {a : Addr} : del H a a = none := by unfold del; rw [if_pos rfl]
theorem del_ne {H : Hp} {a b : Addr} (h : b ≠ a) : del H a b = H b := by unfold del; rw [if_neg h]
theorem del_upd {H : Hp} {a : Addr} {o : HO} (h : H a = none) : del (upd H a o) a = H := by
  funext b
  by_cases e : b = a
  · rw [e, del_same, h]
  · rw [del_ne e, upd_ne e]
section
variable {X : Cx} {n : Nat} {pins : List (Addr × Obj)} {σ : St} {H : Hp} {s : Shared}
/-- a thing of that kind is forgotten -/
theorem forget {a : Addr} {φ : Heap → Prop} (I : Inv X pins σ H s) (h : H a = some (.ext φ)) : Inv X pins σ (del H a) s := by
  have ne : ∀ b o, H b = some o → (∀ φ, o ≠ .ext φ) → b ≠ a := fun b o e hne z => by
    rw [z, h] at e
    cases e
    exact hne _ rfl
  have dn : ∀ b, H b = none → del H a b = none := fun b e => by
    unfold del
    split
    · rfl
    · exact e
  refine ⟨I.ok, I.os, I.bare, ⟨I.base.keep, I.base.slot, fun b o e n hx => dn b (I.base.free b o e n hx), I.base.there, fun b xs e => ?_, fun b o x e => ?_, fun b ps e => ?_⟩, I.loc, I.cell, dn _ I.free, fun x c e => dn _ (I.freeC x c e), fun p hp => ?_, fun b o e => ?_, I.len⟩
  · have q := I.base.tups b xs e
    rw [del_ne (ne b _ q (fun _ z => nomatch z))]; exact q
  · have q := I.base.frzs b o x e
    rw [del_ne (ne b _ q (fun _ z => nomatch z))]; exact q
  · obtain ⟨m, q⟩ := I.base.tbls b ps e
    exact ⟨m, by rw [del_ne (ne b _ q (fun _ z => nomatch z))]; exact q⟩
  · obtain ⟨e, n, r⟩ := I.pin p hp
    exact ⟨e, dn _ n, r⟩
  · have hb : b ≠ a := fun z => by rw [z, del_same] at e; cases e
    rw [del_ne hb] at e
    exact (I.hok b o e).stay (fun c v _ q => q) (fun c q => by rw [del_ne (ne c _ q (fun _ z => nomatch z))]; exact q) fun c xs q => by rw [del_ne (ne c _ q (fun _ z => nomatch z))]; exact q
/-- iter(t), t a tuple -/
def rIterTup (K : PySem.W.Frag) (N : Nat) : List V → Hp → VK → Prop := fun xs H Q => ∃ (t : Addr) (zs : List V), xs = [.ref t] ∧ SqT K H t zs ∧ ∀ it, H it = none → N ≤ it → Q (.ref it) (upd H it (ItTup t it 0))
theorem call_iterTup : CallR X (.builtin "iter") (rIterTup X.K X.s_0.heap.objs.size) := by
  intro pins s σ H xs us Q I r h
  obtain ⟨l, zs, rfl, hq, q⟩ := h
  obtain rfl := Vals.ref1 r
  obtain ⟨its, rv, pl, hz⟩ := I.tuple hq
  refine Calls.call_function_entry (by decide +kernel) (by decide +kernel) PySem.W.kdk_entry_iter (PySem.W.kdk_args_iter _) ?_
  unfold Builtin.«iter»
  refine wpAny_bind (m := someArgs "iter" 1 2 _) (wpAny_of_eq (a := [Value.ref l]) (by first | rfl | kernel_rfl!) ?_)
  show wpAny _ _ (pyIter (.ref l) >>= _) _ _ _
  refine wpAny_bind (wpAny_pyIter_tuple (show s.heap.IsTuple l its.toArray from pl) ?_)
  refine wpAny_pure ⟨_, rfl, ?_⟩
  have new : Heap.IsTupleIter (s.heap.push { cls := .type "tuple_iterator", data := .fields #[.ref l, rawInt (0 : Nat)] }) s.heap.objs.size l 0 := ⟨_, Heap.get?_push_size _ rfl, rfl, rfl⟩
  exact ⟨.ref s.heap.objs.size, _, I.laid (t' := s.toks) (fun b u e => Heap.get?_push_of_some _ e) (Nat.le_refl _) (itTup_ok new), rfl, q _ (I.hok.fresh (Nat.le_refl _)) I.sz⟩
end
/-! ### an own __iter__ that tells iter of a tuple -/
/-- what it tells: an iterator that is made in the call -/
def spIt (C : Addr) (fl : Str) (K : PySem.W.Frag) (N : Nat) : Sp := fun vs H Q _ => ∃ p dx fs t zs, vs = [.ref p] ∧ H p = some (.ins C dx fs) ∧ fs.lookup fl = some (.ref t) ∧ SqT K H t zs ∧ ∀ it, H it = none → N ≤ it → Q (.ref it) (upd H it (ItTup t it 0))
structure FnIt (P : Program) (w : World) (K : PySem.W.Frag) (mg : Str → Option Value) (base : Heap) (k : Nat) (f : Addr) (fd : FuncData) (C : Addr) (fl : Str) : Prop where
  run : ∀ (A : Around) (outer : List Env) (s : Shared) (H : Hp) (args : Args) (us : List Value) (vs : List V) (Q : VK) (E : XK), Room k A → Env0 P w K mg base A outer s H → BindsTo s fd args (([("self" : Str)] : List Str).zip us) → Vals vs us → spIt C fl K s.heap.objs.size vs H Q E →
    codeAny (model P w) A (.call (.ref f) args) (CR CX0 outer P w H s Q E) s
theorem it_of {P : Program} {w : World} {K : PySem.W.Frag} {mg : Str → Option Value} {base : Heap} {x qual : Str} {st : Stmt} {f C : Addr} {fd : FuncData} {N : List Str} {k : Nat} {fl : Str} (F : Fun K x qual st f fd) (S : FnScope N ["self"] (defScope st))
    (hbody : ∀ (cdv : Value) (A : Around) (outer : List Env) (s : Shared) (H : Hp) (vs : List V) (Q : VK) (E : XK), Room k (A.deeper (envOfC qual (defScope st) s.heap.objs.size f cdv)) → spIt C fl K s.heap.objs.size vs H Q E →
      ∃ t, PSs (cxOf CX0 P w K mg base N qual (defScope st) f cdv A outer s H E).nox (defBody st) t ∧ t { nx := fun _ H' => Q .non H', rt := Q } (start N vs) H) : FnIt P w K mg base (k + 1) f fd C fl := by
  obtain ⟨oc, od, kV, doc, pm, an, cdv, ct, osl, rfl, lk, hcd⟩ := F.ex
  refine ⟨fun A outer s H args us vs Q E hr e0 hb r hsp => ?_⟩
  have hl : vs.length = ([("self" : Str)] : List Str).length := by
    obtain ⟨p, dx, fs, t, zs, rfl, _⟩ := hsp
    rfl
  have KX : K.In s.heap := e0.mod.kin.keeps fun b o e => (e0.bs b o e).1
  have lim : s.heap.NoLimit := e0.mod.nolimit.keeps fun b o e => (e0.bs b o e).1
  have hkind : ∀ y ∈ ([("self" : Str)] : List Str).zip us, (defScope st).names.lookup y.1 = some .local ∨ ((defScope st).names.lookup y.1 = some .cell ∧ ((cellsFrom (s.heap.objs.size + 1) (defScope st).names []).lookup y.1).isSome = true) := fun ⟨n, v⟩ hy => by
    rcases S.par n (List.of_mem_zip hy).1 with q | q
    · exact .inl q
    · exact .inr ⟨q, PySem.W.cellsFrom_some _ _ _ (.inl q)⟩
  refine codeAny_call_function hr.depth (KX _ _ lk) rfl S.co S.gen rfl (PySem.W.codeRec_of KX hcd) (hb _ _ _ _ ?_)
  refine wpAny_newFunctionEnv_cells S.kind hkind fun env he s1 x => ?_
  subst he
  refine ⟨lim.keeps x.toInCall.keep, codeAny_func ?_⟩
  obtain ⟨t, ht, hq⟩ := hbody cdv A outer s H vs Q E (hr.deeper _) hsp
  have I : Inv (cxOf CX0 P w K mg base N qual (defScope st) f cdv A outer s H E) [] (start N vs) H s1 := inv_start S hr.hd e0 hl r x
  refine wpAny_mono (ht.nox.run [] s1 (start N vs) H _ I hq) (fun fl s' hs => ?_) fun e s' hs => hs
  have fin : ∀ {σ' : St} {H' : Hp} {v : V} {u : Value}, Inv (cxOf CX0 P w K mg base N qual (defScope st) f cdv A outer s H E) [] σ' H' s' → RelV v u → Q v H' → CE outer P w H s Q u s' :=
    fun {σ' H' v u} J rv q => ⟨v, H', J.os, J.bare, J.base, J.hok, rv, q⟩
  cases fl with
  | ret u =>
    obtain ⟨v, σ', H', J, rv, q⟩ := hs
    exact fin J rv q
  | next =>
    obtain ⟨σ', H', J, q⟩ := hs
    exact fin (v := V.non) (u := Value.none) J rfl q
  | brk =>
    obtain ⟨_, _, _, q⟩ := hs
    exact False.elim q
  | cont =>
    obtain ⟨_, _, _, q⟩ := hs
    exact False.elim q
section
variable {X : Cx} {n : Nat}
/-- the walk of an own instance -/
def iOwn (K : PySem.W.Frag) (C : Addr) (fl : Str) (te : TE) : TI := fun σ H R => te σ H fun x H1 => ∃ p dx fs t zs, x = .ref p ∧ H1 p = some (.ins C dx fs) ∧ fs.lookup fl = some (.ref t) ∧ SqT K H1 t zs ∧ R (Itt K t) H1
theorem pi_own {f : Addr} {fd : FuncData} {fl : Str} {tg e : Expr} {te : TE} {C : Addr} (F : FnIt X.prog X.w X.K X.mg X.base n f fd C fl) (hb : Binds X.K fd ["self"] []) (m : OwnM X C f "__iter__") (hr : Room n X.A)
    (he : PE X e te) : PI X tg e (iOwn X.K C fl te) := by
  refine ⟨fun pins s σ H R I h => ?_⟩
  refine thn (he.run pins s σ H _ I h) fun v s1 ⟨x, H1, I1, r1, q1⟩ => ?_
  obtain ⟨p, dx, fs, t, zs, rfl, hp, lk, ht, q⟩ := q1
  cases r1
  obtain ⟨_, J, _⟩ := ins_get I1.hok hp
  obtain ⟨od, J, _⟩ := J.look
  obtain ⟨_, fr⟩ := I1.fr
  have want : spIt C fl X.K s1.heap.objs.size [.ref p] H1 (fun v H' => ∃ it, v = .ref it ∧ H1 it = none ∧ s1.heap.objs.size ≤ it ∧ H' = upd H1 it (ItTup t it 0)) E0 := ⟨p, dx, fs, t, zs, rfl, hp, lk, ht, fun it n1 n2 => ⟨it, rfl, n1, n2, rfl⟩⟩
  refine PySem.W.owit_iter fr I1.mod.kin J m.fi m.fn (wpAny_call (codeAny_mono (F.run X.A X.stack s1 H1 ⟨[.ref p], []⟩ [.ref p] [.ref p] _ E0 hr I1.env0 (by
    have := hb s1 [.ref p] I1.kIn (by rfl)
    simpa using this) (.cons rfl .nil) want) fun r s' hq => ?_))
  cases r with
  | error e => exact pass0 pins σ H1 s1 e s' I1 hq
  | ok fl =>
    cases fl with
    | ret z =>
      obtain ⟨v', H', I', rv, it, rfl, n1, n2, rfl⟩ := I1.after hq
      cases rv
      have st : s'.heap.IsTupleIter it t 0 := (I'.hok it _ upd_same).1
      have I3 := forget I' (φ := fun h => h.IsTupleIter it t 0) upd_same
      rw [del_upd n1] at I3
      refine wpAny_specialOf st.typeIs PySem.F.slot_tuple_iterator_next.lookup ?_
      refine ⟨it, [it], _, Itt X.K t, H1, rfl, I3, turn_tuple t it, st, fun b hb => ?_, q⟩
      have e : b = it := by simpa using hb
      subst e
      exact I1.fpOk n2 n1
    | next => exact False.elim hq
    | brk => exact False.elim hq
    | cont => exact False.elim hq
end
end L2.OwnOp
set_option Elab.async false
set_option linter.all false
set_option maxRecDepth 100000
set_option maxHeartbeats 4000000
/-! x != y of tuples and of instances that are equal by a class's own ==. -/
namespace L2.InsNe
open PySem PySem.Spec PyProof.Rows PySem.SeqAt AutoSeq1 MeetsSeq MeetsSeq2 MeetsSeq3 SeqRoads2 GQ
section
variable {P : Program} {w : World} {A : Around} {R : Result → Shared → Prop}
theorem tup_ne (a c : Addr) (us vs : Array Value) (n m : Nat) (d1 d2 : Option Addr) (s1 s2 : Array (Option Value)) (hz : us.size = vs.size) (J : Nat → Shared → Prop)
    (step : ∀ j (k1 : j < us.size) (k2 : j < vs.size) t, J j t → wpAny (model P w) A.in1 (eqBool us[j] vs[j]) (fun r t' => r = true ∧ J (j + 1) t') (fun e t' => R (.error e) t') t)
    (stop : ∀ t, J us.size t → R (.ok (.ret (.bool false))) t) {t : Shared} (ha : t.heap.get? a = some { cls := .type "tuple", dict := d1, data := .seq us n, slots := s1 }) (hc : t.heap.get? c = some { cls := .type "tuple", dict := d2, data := .seq vs m, slots := s2 }) (j0 : J 0 t) :
    wpAny (model P w) A.in1 (Builtin.«tuple.__ne__» ⟨[.ref a, .ref c], []⟩) (FinOf P w A R) (fun e t' => R (.error e) t') t := by
  have sub := AutoSeq1.sub_tuple_tuple
  have lz : (us.toList.zip vs.toList).length = us.size := by simp [hz]
  have keep := j0
  obtain ⟨hp, g, d, tk, os⟩ := t
  wp_walk using wpAny_loadPart' ha, wpAny_loadPart' hc, wpAny_forIn_list _ (fun left q t' => q.1 = none ∧ ∃ k, left = (us.toList.zip vs.toList).drop k ∧ k ≤ us.size ∧ J k t') _
  case turn =>
    rintro ⟨u, v⟩ left q t' ⟨_, k, e, _, hJ⟩
    have lt : k < (us.toList.zip vs.toList).length := Nat.lt_of_not_le fun ge => by
      rw [List.drop_of_length_le ge] at e
      cases e
    have k1 : k < us.size := lz ▸ lt
    have k2 : k < vs.size := hz ▸ k1
    rw [List.drop_eq_getElem_cons lt] at e
    injection e with e1 e2
    have eu : u = us[k] := by simpa using congrArg Prod.fst e1
    have ev : v = vs[k] := by simpa using congrArg Prod.snd e1
    subst eu ev
    refine wpAny_bind (wpAny_mono (step k k1 k2 t' hJ) (fun r t2 z => ?_) fun _ _ x => x)
    obtain ⟨rfl, z⟩ := z
    wp_walk
    exact ⟨rfl, k + 1, e2, k1, z⟩
  case fin =>
    rintro ⟨q1, q2⟩ t' ⟨e0, k, e, le, hJ⟩
    simp only at e0
    subst e0
    have ge : us.size ≤ k := Nat.le_of_not_lt fun lt => by
      rw [List.drop_eq_getElem_cons (by rw [lz]; exact lt)] at e
      cases e
    obtain rfl : k = us.size := Nat.le_antisymm le ge
    have fin := stop t' hJ
    wp_walk
    simpa [Builtin.Tuple.tupleCompareSizes, hz] using fin
  case h =>
    exact ⟨rfl, 0, rfl, Nat.zero_le _, keep⟩
end
section
variable {P : Program} {w : World} {A : Around} {E : Value → Shared → Prop} {t : Shared}
theorem rc_tup_ne {a c : Addr} {us vs : Array Value} {Q : Value → Shared → Prop} (hz : us.size = vs.size) (hu : A.units < cLine) (J : Nat → Shared → Prop) (ha : t.heap.IsTuple a us) (hc : t.heap.IsTuple c vs)
    (step : ∀ j (k1 : j < us.size) (k2 : j < vs.size) t, J j t → wpAny (model P w) A.in1 (eqBool us[j] vs[j]) (fun r t' => r = true ∧ J (j + 1) t') E t) (stop : ∀ t, J us.size t → Q (.bool false) t) (j0 : J 0 t) :
    wpAny (model P w) A (richCompare .NotEq (.ref a) (.ref c)) Q E t := by
  obtain ⟨⟨c1, d1, x1, s1⟩, o1, k1, n1, e1⟩ := id ha
  obtain ⟨⟨c2, d2, x2, s2⟩, o2, k2, n2, e2⟩ := id hc
  simp only at k1 e1 k2 e2
  subst k1 e1 k2 e2
  refine wpAny_richCompare_same_room (op := .NotEq) ⟨_, o1, rfl⟩ ⟨_, o2, rfl⟩ F.slot_tuple_ne (call_here F.slot_tuple_ne ⟨_, o1, rfl⟩ F.entry_tuple_ne (F.args_tuple_ne_2 _ _) ?_) hu
  exact tup_ne (R := wants (fun v t' => v ≠ .notImplemented ∧ Q v t') E) a c us vs n1 n2 d1 d2 s1 s2 hz J step (fun t' q => ⟨(fun x => nomatch x), stop t' q⟩) o1 o2 j0
end
section
variable {M : Model} {P : Program} {w : World} {A : Around} {E : Value → Shared → Prop} {s : Shared} {K : PySem.W.Frag} {x C f : Addr} {ox : Obj} {od : Option Obj}
theorem bound_ne {args : List Value} {Q : Option Value → Shared → Prop} (X : K.In s.heap) (I : PySem.W.InstAt s.heap x ox C od) (hs : PySem.W.findIn K (.ref C) "__ne__" = some (some (.builtin "object.__ne__")))
    (h : wpAny M A (call (.builtin "object.__ne__") (.ref x :: args)) (fun v => Q (some v)) E s) : wpAny M A (callSpecialIfBound? (.ref x) "__ne__" args) Q E s := by
  simp only [callSpecialIfBound?, bindSpecialIfBound?]
  refine wpAny_holding (wpAny_bind (wpAny_bind (wpAny_bind (I.type.here ((PySem.W.looks_findIn X hs).here ?_)))))
  refine wpAny_bind (wpAny_askSetting (wpAny_ite ?_))
  have last : wpAny M A (call (.builtin "object.__ne__") ([.ref x] ++ args) >>= fun v => pure (some v)) Q E s := wpAny_bind (wpAny_mono h (fun v s' z => wpAny_pure z) fun _ _ z => z)
  split
  · exact wpAny_bind (wpAny_of_eq (F.cmp_object.ne.bind _) (wpAny_pure (by exact last)))
  · exact wpAny_tryCatch (wpAny_bind (wpAny_of_eq (F.cmp_object.ne.bind _) (wpAny_pure (by exact last))))
theorem body_ne {y : Value} {Q : Fin → Shared → Prop} (X : K.In s.heap) (I : PySem.W.InstAt s.heap x ox C od) (hs : PySem.W.findIn K (.ref C) "__eq__" = some (some (.ref f))) (hf : PySem.W.isFn K (.ref f) = true) (hu : A.units < cLine)
    (h : wpAny (model P w) A (call (.ref f) [.ref x, y]) (fun v s' => ∃ b, v = .bool b ∧ Q (.done (.ret (.bool (!b)))) s') E s) : wpAny (model P w) A (Builtin.«object.__ne__» ⟨[.ref x, y], []⟩) Q E s := by
  unfold Builtin.«object.__ne__»
  repeat (first
    | with_reducible refine wpAny_cRoomFor hu ?_
    | (refine wpAny_bind (m := callSpecialIfBound? (.ref x) (Str.ofString "__eq__") [y]) (PySem.W.ifBound_K X I hs hf (wpAny_mono h (fun r s' z => by
        obtain ⟨b, rfl, z⟩ := z
        repeat (first | exact z | exact wpAny_pure z | exact wpAny_truthy_bool z | (refine wpAny_bind (m := truthy (.bool _)) (wpAny_truthy_bool ?_)) | wp_step)) fun _ _ z => z)))
    | wp_step)
theorem rc_ne {y : Addr} {oy : Obj} {oe : Option Obj} {Q : Value → Shared → Prop} (X : K.In s.heap) (I : PySem.W.InstAt s.heap x ox C od) (I2 : PySem.W.InstAt s.heap y oy C oe) (hm : PySem.W.mroIn K C (.type "object") = some true) (hn : PySem.W.findIn K (.ref C) "__ne__" = some (some (.builtin "object.__ne__"))) (hs : PySem.W.findIn K (.ref C) "__eq__" = some (some (.ref f))) (hf : PySem.W.isFn K (.ref f) = true) (hu : A.units + 1 < cLine)
    (h : wpAny (model P w) A.in1 (call (.ref f) [.ref x, .ref y]) (fun v s' => ∃ b, v = .bool b ∧ Q (.bool (!b)) s') E s) : wpAny (model P w) A (richCompare .NotEq (.ref x) (.ref y)) Q E s := by
  have one : wpAny (model P w) A (tryCompare (.ref x) "__ne__" (.ref y)) (fun r s' => ∃ v, r = some v ∧ Q v s') E s := by
    unfold tryCompare
    refine wpAny_bind (bound_ne X I hn (wpAny_call (codeAny_call_builtin F.cmp_object.ne.plain F.cmpEntry_ne (PySem.W.check_slot F.cmpKind_ne F.cmpSplit_ne (I.type.andThen (PySem.W.looks_mroIn X hm)) (F.cmpArgs_ne _ _)
      (body_ne (A := A.in1) X I hs hf hu (wpAny_mono h (fun v s' z => ?_) fun _ _ z => z))))))
    obtain ⟨b, rfl, z⟩ := z
    exact ⟨b, rfl, wpAny_pure ⟨_, rfl, z⟩⟩
  unfold richCompare
  simp only [oneThing_ref]
  refine wpAny_holding (wpAny_bind (wpAny_cRoomFor (Nat.lt_of_succ_lt hu) ?_))
  refine wpAny_bind (I.type.here (wpAny_bind (I2.type.here ?_)))
  split
  · rename_i q
    simp at q
  · refine wpAny_bind (wpAny_pure ?_)
    simp only [Bool.false_eq_true, if_false]
    refine wpAny_bind (wpAny_mono one (fun r s' z => ?_) fun _ _ e => e)
    obtain ⟨v, rfl, hq⟩ := z
    exact wpAny_pure hq
end
end L2.InsNe
namespace L2
open PySem PySem.Spec PyProof.Rows
/-- != gives False for what D says, and only makes objects -/
def NcG (X : Cx) (n : Nat) (D : Eqv) : Prop :=
  ∀ (A : Around) (pins : List (Addr × Obj)) (s : Shared) (σ : St) (H : Hp) (x y : V) (u v : Value), Sub X n A → Inv X pins σ H s → RelV x u → RelV y v → D x y H →
    wpAny (model X.prog X.w) A (richCompare .NotEq u v) (fun r s' => r = .bool false ∧ ∃ H', Inv X pins σ H' s' ∧ Ext H H') X.xe s
section
variable {X : Cx} {n m : Nat} {D D' : Eqv}
theorem ncG_tup (hD : Mon D) (h : EqG X n D) : NcG X (n + 1) (DTup X.K D) := by
  intro A pins s σ H x y u v sb I rx ry d
  obtain ⟨a, b, xs, ys, rfl, rfl, ha, hb, p⟩ := d
  cases rx
  cases ry
  obtain ⟨i1, r1, e1, _⟩ := I.tuple ha
  obtain ⟨i2, r2, e2, _⟩ := I.tuple hb
  have hz : i1.toArray.size = i2.toArray.size := by rw [List.size_toArray, List.size_toArray, ← r1.length, ← r2.length]; exact p.1
  exact InsNe.rc_tup_ne hz sb.room.units0 (fun _ t => LoopI X pins σ H t) e1 e2 (fun j k1 k2 t q => turnG hD h sb p r1 r2 j k1 k2 t q) (fun t q => ⟨rfl, q⟩) ⟨H, I, Ext.rfl'⟩
theorem ncG_ins {CX : CXT} {C f : Addr} {fd : FuncData} {ps : List Str} {R : Addr → Addr → Hp → Prop} {E : XK} (F : FnOk X.prog X.w X.K X.mg X.base CX n f fd ps (spEq R)) (hm : PySem.W.mroIn X.K C (.type "object") = some true) (hn : PySem.W.findIn X.K (.ref C) "__ne__" = some (some (.builtin "object.__ne__")))
    (hs : PySem.W.findIn X.K (.ref C) "__eq__" = some (some (.ref f))) (hf : PySem.W.isFn X.K (.ref f) = true) (hb : Binds X.K fd ps []) (hx : Passes CX X E) : NcG X (n + 1) (DIns C R) := by
  intro A pins s σ H x y u v sb I rx ry d
  obtain ⟨a, b, dx, dy, fs, gs, rfl, rfl, ha, hb', hr⟩ := d
  cases rx
  cases ry
  obtain ⟨mA, J, _⟩ := ins_get I.hok ha
  obtain ⟨mB, J', _⟩ := ins_get I.hok hb'
  obtain ⟨od, J, _⟩ := J.look
  obtain ⟨od', J', _⟩ := J'.look
  refine InsNe.rc_ne I.kIn J J' hm hn hs hf (by have := sb.room.un; omega) ?_
  have want : spEq R [.ref a, .ref b] H (fun v H' => v = .bl true ∧ Ext H H') E := ⟨a, b, rfl, hr, fun H' e => ⟨rfl, e⟩⟩
  have e0 : Env0 X.prog X.w X.K X.mg X.base A.in1 X.stack s H := by
    have e := I.env0
    have sf : A.in1.frames = X.A.frames := sb.in1.fr
    exact ⟨by rw [sf]; exact e.frames, e.mod, e.bs, e.bsz, e.funs, e.frf, e.hok, e.bare⟩
  have hl := F.len _ _ _ _ want
  refine wpAny_call (codeAny_mono (F.run A.in1 X.stack s H ⟨[.ref a, .ref b], []⟩ [.ref a, .ref b] [.ref a, .ref b] _ E sb.in1.room e0 (by
    have := hb s [.ref a, .ref b] I.kIn (by simpa using hl)
    simpa using this) (.cons rfl (.cons rfl .nil)) want) fun r s' hq => ?_)
  cases r with
  | error e => exact hx pins σ H s e s' I hq
  | ok fl =>
    cases fl with
    | ret z =>
      obtain ⟨_, H', I', rz, ez, ex⟩ := I.after hq
      subst ez
      cases rz
      exact ⟨true, rfl, rfl, H', I', ex⟩
    | next => exact False.elim hq
    | brk => exact False.elim hq
    | cont => exact False.elim hq
/-- x != y, which are equal -/
def rNeG (D : Eqv) : R2 := fun x y H Q => D x y H ∧ ∀ H', Ext H H' → Q (.bl false) H'
theorem op_neG (h : NcG X n D) (hr : Room n X.A) : OpR X (compareOp .NotEq) (rNeG D) := by
  intro pins s σ H x y v u Q I rx ry hq
  obtain ⟨d, q⟩ := hq
  show wpAny (model X.prog X.w) X.A (richCompare .NotEq v u) (EP X pins σ Q) X.xe s
  refine wpAny_mono (h X.A pins s σ H x y v u ⟨hr, rfl⟩ I rx ry d) (fun r t z => ?_) fun _ _ x => x
  obtain ⟨rfl, H', I', e⟩ := z
  exact ⟨.bl false, H', I', rfl, q H' e⟩
/-- two dicts of texts with the same pairs -/
def DDic : Eqv := fun x y H => ∃ a b ks, x = .ref a ∧ y = .ref b ∧ H a = some (.dK ks) ∧ H b = some (.dK ks) ∧ ∀ p ∈ ks, valV ks p.1 = some p.2 ∧ flatB p.2 = true
theorem mon_dic : Mon DDic := fun x y H H' e ⟨a, b, ks, hx, hy, h1, h2, k⟩ => ⟨a, b, ks, hx, hy, e _ _ h1, e _ _ h2, k⟩
theorem eqG_dic : EqG X 2 DDic := by
  intro A pins s σ H x y u v sb I rx ry d
  obtain ⟨a, b, ks, rfl, rfl, h1, h2, k⟩ := d
  refine eqV_run I 2 A (by have := sb.room.un; omega) (.ref a) (.ref b) u v (.inr (.inr (.inr ⟨a, b, ks, ks, rfl, rfl, h1, h2, rfl, fun p hp => ?_⟩))) rx ry _ _ ⟨rfl, H, I, Ext.rfl'⟩
  obtain ⟨e, f⟩ := k p hp
  exact ⟨p.2, e, .inl ⟨rfl, f⟩⟩
end
end L2
set_option Elab.async false
set_option linter.all false
set_option maxRecDepth 100000
set_option maxHeartbeats 4000000
/-! The helpers of the laws: draws and names. -/
namespace L2.LawH
open PySem PySem.Spec PyProof.Rows
open Builtin.Int (intBits)
def top (i : Nat) : Stmt := PySem.Challenge.pw_fullestrows_k10_rules_made.main.body.getD i (.Pass ⟨0, 0, 0, 0⟩)
abbrev sSource : Stmt := top 19
abbrev sDraw : Stmt := top 20
abbrev sName : Stmt := top 21

/-! ### numbers -/
theorem mod_pos {x y : Int} (h : 0 < y) : 0 ≤ x.fmod y ∧ x.fmod y < y := by
  rw [Int.fmod_eq_emod_of_nonneg x (Int.le_of_lt h)]
  exact ⟨Int.emod_nonneg x (by omega), Int.emod_lt_of_pos x h⟩
theorem small_bits {x : Int} (h0 : 0 ≤ x) (h : x < 1152921504606846976) : intBits x ≤ 60 := by
  refine PySem.intBits_le_iff.mpr ?_
  have e : (2 : Nat) ^ 60 = 1152921504606846976 := by decide
  rw [e]
  omega
theorem big_ok {c n m : Int} (hc : intBits c ≤ 1048576) (h0 : 0 ≤ n) (hn : n ≤ 1000000) (m0 : 0 ≤ m) (m1 : m ≤ 1000000) :
    (intBits (c * m + n * 40699 + 12011) : Int) * 3 ≤ 2 ^ 27 := by
  have h1 : intBits (c * m) ≤ 1048576 + 60 := PySem.intBits_mul_le hc (small_bits m0 (by omega))
  have h2 : intBits (n * 40699) ≤ 60 := small_bits (by omega) (by omega)
  have h3 : intBits (12011 : Int) ≤ 60 := small_bits (by omega) (by omega)
  have h5 := PySem.intBits_add_le (PySem.intBits_add_le h1 h2) h3
  have e : (2 : Int) ^ 27 = 134217728 := by decide
  rw [e]
  have h6 : max (max (1048576 + 60) 60 + 1) 60 + 1 = 1048638 := by decide
  rw [h6] at h5
  omega
theorem small_ok {x : Int} (h0 : 0 ≤ x) (h : x < 1152921504606846976) : (intBits x : Int) * 3 ≤ 2 ^ 27 := by
  have := small_bits h0 h
  have e : (2 : Int) ^ 27 = 134217728 := by decide
  rw [e]
  omega
theorem op_powB {X : Cx} : OpR X (binaryOp .Pow) (rI (fun i j => 0 ≤ j ∧ (Builtin.Int.intBits i : Int) * j ≤ 2 ^ 27) fun i j => .int (i ^ j.toNat)) :=
  opI fun _ _ _ _ _ _ _ hc q => pow_int hc.1 hc.2 q

/-! ### heaps -/
/-- all but a stands as it stood -/
def Keep (a : Addr) (H H' : Hp) : Prop := ∀ b o, H b = some o → b ≠ a → H' b = some o
theorem Keep.refl (a : Addr) (H : Hp) : Keep a H H := fun _ _ e _ => e
theorem Keep.trans {a : Addr} {H H1 H2 : Hp} (k : Keep a H H1) (l : Keep a H1 H2) : Keep a H H2 := fun b o e n => l b o (k b o e n) n
theorem Keep.of {a : Addr} {H H' : Hp} (s : Same H H') : Keep a H H' := fun b o e _ => s b o e
theorem same_new {H : Hp} {p : Addr} {o : HO} (n : H p = none) : Same H (upd H p o) := fun b u e => by
  rw [upd_ne (ne_of_none e n)]
  exact e
theorem Keep.free {a b : Addr} {H H' : Hp} (k : Keep a H H') (n : H' b = none) (ha : H' a ≠ none) : H b = none := by
  cases e : H b with
  | none => rfl
  | some o =>
    have nb : b ≠ a := fun z => ha (by rw [← z]; exact n)
    rw [k b o e nb] at n
    cases n

/-! ### the source of draws -/
/-- the source at a, of the cell c, with m draws still to be had -/
def SrcAt (H : Hp) (a : Addr) (c : Int) (m : Nat) : Prop := ∃ (d : Int) (n : Nat), H a = some (.lst [.int c, .int d, .int n]) ∧ n + m ≤ 1000000 ∧ intBits c ≤ 1048576
theorem SrcAt.mono {H : Hp} {a : Addr} {c : Int} {m m' : Nat} (h : SrcAt H a c m) (l : m' ≤ m) : SrcAt H a c m' := by
  obtain ⟨d, n, e, f, b⟩ := h
  exact ⟨d, n, e, by omega, b⟩
theorem SrcAt.some {H : Hp} {a : Addr} {c : Int} {m : Nat} (h : SrcAt H a c m) : H a ≠ none := by
  obtain ⟨d, n, e, _⟩ := h
  rw [e]
  exact fun z => by cases z
theorem SrcAt.same {H H' : Hp} {a : Addr} {c : Int} {m : Nat} (h : SrcAt H a c m) (s : Same H H') : SrcAt H' a c m := by
  obtain ⟨d, n, e, f, b⟩ := h
  exact ⟨d, n, s _ _ e, f, b⟩
theorem SrcAt.ne {H : Hp} {a p : Addr} {c : Int} {m : Nat} (h : SrcAt H a c m) (n : H p = none) : p ≠ a := by
  obtain ⟨d, k, e, _⟩ := h
  exact (ne_of_none e n).symm
def spSource : Sp := fun vs H Q _ => ∃ c : Int, vs = [.int c] ∧ intBits c ≤ 1048576 ∧ ∀ a H', Same H H' → H a = none → SrcAt H' a c 1000000 → Q (.ref a) H'
def spDraw : Sp := fun vs H Q _ => ∃ (a : Addr) (c : Int) (m : Nat) (k : Int), vs = [.ref a, .int k] ∧ SrcAt H a c (m + 1) ∧
  0 < k ∧ k ≤ 1000000 ∧ ∀ (r : Int) (H' : Hp), 0 ≤ r → r < k → SrcAt H' a c m → Keep a H H' → Q (.int r) H'

section
variable {P : Program} {w : World} {K : PySem.W.Frag} {mg : Str → Option Value} {base : Heap}
theorem scS : FnScope ["_law_cell"] ["_law_cell"] (defScope sSource) := ⟨rfl, rfl, rfl, by decide +kernel, rfl, by decide +kernel, by decide +kernel⟩
theorem ok_source {f : Addr} {fd : FuncData} (F : Fun K "_law_source" "_law_source" sSource f fd) : FnOk P w K mg base CX0 1 f fd ["_law_cell"] spSource := by
  refine F.ok scS (fun vs H Q E h => ?_) (fun cdv A outer s H vs Q E hr h => ?_)
  · obtain ⟨c, rfl, _⟩ := h
    rfl
  · obtain ⟨c, rfl, hb, k⟩ := h
    refine ⟨_, pss_one (ps_ret (pe_lst (pa_cons (pv 0) (pa_cons (pv 0) (pa_cons pe_int pa_nil))))), ?_⟩
    exact ⟨_, rfl, _, rfl, (by show 3 ≤ sizeLine; decide), fun a ha => k a _ (same_new ha) ha ⟨c, 0, upd_same, by decide, hb⟩⟩
theorem scD : FnScope ["_law_source_here", "_law_limit", "_law_digit", "_law_mixed"] ["_law_source_here", "_law_limit"] (defScope sDraw) :=
  ⟨rfl, rfl, rfl, by decide +kernel, rfl, by decide +kernel, by decide +kernel⟩
theorem ok_draw {f : Addr} {fd : FuncData} (F : Fun K "_law_draw" "_law_draw" sDraw f fd) (mi : mg "int" = none) :
    FnOk P w K mg base CX0 1 f fd ["_law_source_here", "_law_limit"] spDraw := by
  refine F.ok scD (fun vs H Q E h => ?_) (fun cdv A outer s H vs Q E hr h => ?_)
  · obtain ⟨a, c, n, m, rfl, _⟩ := h
    rfl
  · obtain ⟨a, c, fu, m, rfl, ⟨d, n, hs, hn, hc⟩, m0, m1, k⟩ := h
    refine ⟨_, pss_cons (ps_asg (pe_op op_add (pe_ix ix_list (pv 0) pe_int (fun _ _ => rfl)) pe_int) (pg_sub (pv 0) pe_int set_list))
      (pss_cons (ps_if (pt_cmpR op_ge (pe_ix ix_list (pv 0) pe_int (fun _ _ => rfl)) (pe_op op_pow pe_int pe_int) (nomark _))
        (pss_cons (ps_set (i := 2) scD.nd rfl (Or.inl rfl) (pe_op op_modN (pe_callTy call_int1 (by rfl) mi (by decide +kernel) (pa_cons (pe_ix ix_list (pv 0) pe_int (fun _ _ => rfl)) pa_nil)) (pv 1)))
        (pss_cons (ps_asg (pe_op op_fdivN (pe_ix ix_list (pv 0) pe_int (fun _ _ => rfl)) (pv 1)) (pg_sub (pv 0) pe_int set_list))
        (pss_one (ps_ret (pv 2))))) pss_nil)
      (pss_cons (ps_set (i := 3) scD.nd rfl (Or.inl rfl) (pe_op op_modN (pe_callTy call_int1 (by rfl) mi (by decide +kernel) (pa_cons (pe_op op_powB (pe_callTy call_int1 (by rfl) mi (by decide +kernel) (pa_cons (pe_op op_add (pe_op op_add (pe_op op_mul (pe_callTy call_int1 (by rfl) mi (by decide +kernel) (pa_cons (pe_ix ix_list (pv 0) pe_int (fun _ _ => rfl)) pa_nil)) pe_int) (pe_op op_mul (pe_ix ix_list (pv 0) pe_int (fun _ _ => rfl)) pe_int)) pe_int) pa_nil)) pe_int) pa_nil)) pe_int))
      (pss_cons (ps_set (i := 3) scD.nd rfl (Or.inl rfl) (pe_op op_modN (pe_callTy call_int1 (by rfl) mi (by decide +kernel) (pa_cons (pe_op op_powB (pe_callTy call_int1 (by rfl) mi (by decide +kernel) (pa_cons (pe_op op_add (pv 3) (pe_op op_mul (pe_op op_mul (pe_ix ix_list (pv 0) pe_int (fun _ _ => rfl)) (pe_ix ix_list (pv 0) pe_int (fun _ _ => rfl))) pe_int)) pa_nil)) pe_int) pa_nil)) pe_int))
      (pss_one (ps_ret (pe_op op_modN (pe_op op_fdivN (pv 3) pe_int) (pv 1))))))), ?_⟩
    -- src[2] = src[2] + 1
    refine ⟨_, rfl, a, _, _, _, rfl, rfl, SqL.of hs, rfl, _, _, rfl, rfl, _, rfl, a, _, _, _, rfl, rfl, hs, rfl, ?_⟩
    -- if src[0] >= 10 ** 18
    refine ⟨_, rfl, a, _, _, _, rfl, rfl, SqL.of upd_same, rfl, _, _, rfl, rfl, ⟨by decide, by decide, by decide⟩, _, _, rfl, rfl, _, rfl, ?_⟩
    refine ite2 (fun _ => ?_) (fun _ => ?_)
    · refine ⟨_, rfl, a, _, _, _, rfl, rfl, SqL.of upd_same, rfl, .inl ⟨_, rfl, ?_⟩⟩
      refine ⟨_, rfl, _, _, rfl, rfl, by omega, ?_⟩
      refine ⟨_, rfl, a, _, _, _, rfl, rfl, SqL.of upd_same, rfl, _, rfl, _, _, rfl, rfl, ⟨by omega, by omega⟩, _, rfl, a, _, _, _, rfl, rfl, upd_same, rfl, ?_⟩
      refine ⟨_, rfl, k _ _ (mod_pos m0).1 (mod_pos m0).2 ⟨_, n + 1, upd_same, by omega, hc⟩ fun b o e nb => ?_⟩
      rw [upd_ne nb, upd_ne nb]
      exact e
    · -- mixed
      refine ⟨_, rfl, a, _, _, _, rfl, rfl, SqL.of upd_same, rfl, .inl ⟨_, rfl, ?_⟩⟩
      refine ⟨_, _, rfl, rfl, .inr ⟨by decide, by decide⟩, _, rfl, a, _, _, _, rfl, rfl, SqL.of upd_same, rfl, _, _, rfl, rfl, .inr ⟨by decide, by decide⟩, _, _, rfl, rfl, _, _, rfl, rfl, .inl ⟨_, rfl, ?_⟩⟩
      refine ⟨_, _, rfl, rfl, ⟨by decide, big_ok hc (by omega) (by omega) (by decide) (by decide)⟩, .inl ⟨_, rfl, _, _, rfl, rfl, (by show (2147483647 : Int) ≠ 0; decide), ?_⟩⟩
      refine ⟨_, rfl, _, rfl, a, _, _, _, rfl, rfl, SqL.of upd_same, rfl, _, rfl, a, _, _, _, rfl, rfl, SqL.of upd_same, rfl, _, _, rfl, rfl, .inr ⟨by omega, by omega⟩, _, _, rfl, rfl, .inr ⟨by decide, by decide⟩, _, _, rfl, rfl, .inl ⟨_, rfl, ?_⟩⟩
      have sq0 : 0 ≤ ((n : Int) + 1) * ((n : Int) + 1) := Int.mul_nonneg (by omega) (by omega)
      have sq1 : ((n : Int) + 1) * ((n : Int) + 1) ≤ 1000001 * 1000001 := Int.mul_le_mul (by omega) (by omega) (by omega) (by omega)
      have b1 := fun x : Int => mod_pos (x := x) (y := 2147483647) (by decide)
      refine ⟨_, _, rfl, rfl, ⟨by decide, small_ok ?_ ?_⟩, .inl ⟨_, rfl, _, _, rfl, rfl, (by show (2147483629 : Int) ≠ 0; decide), ?_⟩⟩
      · exact Int.add_nonneg (b1 _).1 (by omega)
      · refine Int.lt_of_lt_of_le (Int.add_lt_add_right (b1 _).2 _) (by omega)
      -- return mixed // 64 % limit
      refine ⟨_, rfl, _, _, rfl, rfl, ⟨by decide, by decide⟩, _, rfl, _, _, rfl, rfl, (by show m ≠ 0; omega), ?_⟩
      refine k _ _ (mod_pos m0).1 (mod_pos m0).2 ⟨_, n + 1, upd_same, by omega, hc⟩ fun b o e nb => ?_
      rw [upd_ne nb]
      exact e

/-! ### names -/
def isLet (c : Nat) : Bool := decide (97 ≤ c) && decide (c ≤ 122)
def isSgn (c : Nat) : Bool := isLet c || (decide (48 ≤ c) && decide (c ≤ 57))
def nmB : List Nat → Bool
  | [] => false
  | c :: r => isLet c && r.all isSgn && decide (r.length ≤ 11)
/-- a name -/
def Nm (z : Str) : Prop := nmB z.cps.toList = true
theorem toList_append (a b : Str) : (a ++ b).cps.toList = a.cps.toList ++ b.cps.toList := by
  rw [Str.cps_append, Array.toList_append]
theorem length_toList (a : Str) : a.cps.toList.length = a.length := by
  show a.cps.toList.length = a.cps.size
  exact Array.length_toList
abbrev letS : Str := Str.ofString "abcdefghijklmnopqrstuvwxyz"
abbrev digS : Str := Str.ofString "0123456789"
theorem let_all : letS.cps.toList.all isLet = true := by decide +kernel
theorem sgn_all : (letS ++ digS).cps.toList.all isSgn = true := by decide +kernel
theorem let_len : letS.cps.toList.length = 26 := by decide +kernel
theorem sgn_len : (letS ++ digS).cps.toList.length = 36 := by decide +kernel
theorem pick {l : List Nat} {p : Nat → Bool} {n : Nat} (all : l.all p = true) (len : l.length = n) {r : Int} (h0 : 0 ≤ r) (h1 : r < n) :
    ∃ c, atI l r = some c ∧ p c = true := by
  obtain ⟨j, rfl⟩ : ∃ j : Nat, r = j := ⟨r.toNat, by omega⟩
  have hj : j < l.length := by omega
  refine ⟨l[j], atI_nat (List.getElem?_eq_getElem hj), ?_⟩
  exact List.all_eq_true.mp all _ (List.getElem_mem hj)
def spName : Sp := fun vs H Q _ => ∃ (a : Addr) (c : Int) (m : Nat), vs = [.ref a] ∧ SrcAt H a c (m + 14) ∧
  ∀ (z : Str) (H' : Hp), Nm z → SrcAt H' a c m → Keep a H H' → Q (.str z) H'
theorem scN : FnScope ["_law_source_here", "_law_letters", "_law_size", "_law_found", "_law_k"] ["_law_source_here"] (defScope sName) :=
  ⟨rfl, rfl, rfl, by decide +kernel, rfl, by decide +kernel, by decide +kernel⟩
theorem nm_one {c : Nat} (h : isLet c = true) : Nm ⟨#[c]⟩ := by
  show nmB [c] = true
  simp [nmB, h]
theorem sgn_of_let {c : Nat} (h : isLet c = true) : isSgn c = true := by simp [isSgn, h]
theorem nm_sgns {l : List Nat} (h : nmB l = true) : l.all isSgn = true ∧ l.length ≤ 12 ∧ 1 ≤ l.length := by
  cases l with
  | nil => cases h
  | cons c r =>
    simp only [nmB, Bool.and_eq_true, decide_eq_true_eq] at h
    refine ⟨?_, by simp; omega, by simp⟩
    simp only [List.all_cons, Bool.and_eq_true]
    exact ⟨sgn_of_let h.1.1, h.1.2⟩
theorem nm_tail {z : Str} (h : Nm z) : Nm (Str.ofString "m" ++ cutS z (some 1) none) := by
  obtain ⟨h1, h2, h3⟩ := nm_sgns h
  have e1 : (Str.ofString "m").cps.toList = [109] := by decide +kernel
  show nmB (Str.ofString "m" ++ cutS z (some 1) none).cps.toList = true
  rw [toList_append, e1]
  have e2 : (cutS z (some 1) none).cps.toList = (z.cps.toList.drop (min 1 z.length)).take (z.length - min 1 z.length) := by
    have e3 : HT.sIx z.length 0 (some 1) = min 1 z.length := HT.sIx_nat z.length 0 1
    unfold cutS
    rw [e3, HT.sIx_none]
  rw [e2]
  have l1 := length_toList z
  simp only [List.cons_append, List.nil_append, nmB, Bool.and_eq_true, decide_eq_true_eq]
  refine ⟨⟨by decide, ?_⟩, ?_⟩
  · rw [List.all_eq_true] at h1 ⊢
    exact fun x hx => h1 x (List.mem_of_mem_drop (List.mem_of_mem_take hx))
  · rw [List.length_take, List.length_drop]
    omega
theorem ok_name {f fD : Addr} {fd fdD : FuncData} (F : Fun K "_law_name" "_law_name" sName f fd) (FD : Fun K "_law_draw" "_law_draw" sDraw fD fdD)
    (bD : Binds K fdD ["_law_source_here", "_law_limit"] []) (mi : mg "int" = none) (mD : mg "_law_draw" = some (.ref fD)) (mr : mg "range" = none) :
    FnOk P w K mg base CX0 2 f fd ["_law_source_here"] spName := by
  have GD : FnOk P w K mg base CX0 1 fD fdD ["_law_source_here", "_law_limit"] spDraw := ok_draw FD mi
  refine F.ok scN (fun vs H Q E h => ?_) (fun cdv A outer s H vs Q E hr h => ?_)
  · obtain ⟨a, c, m, rfl, _⟩ := h
    rfl
  · obtain ⟨a, c, m, rfl, hs, k⟩ := h
    have hr1 : Room 1 _ := hr.mono (by decide)
    refine ⟨_, pss_cons (ps_set (i := 1) scN.nd rfl (Or.inl rfl) pe_str)
      (pss_cons (ps_set (i := 2) scN.nd rfl (Or.inl rfl) (pe_ix ix_list (pe_lst (pa_cons pe_int (pa_cons pe_int (pa_cons pe_int (pa_cons pe_int (pa_cons pe_int (pa_cons pe_int (pa_cons pe_int pa_nil)))))))) (pe_call GD hr1 (by rfl) mD FD.kp bD .nil pass0 (pa_cons (pv 0) (pa_cons pe_int pa_nil))) (fun _ _ => rfl)))
      (pss_cons (ps_set (i := 3) scN.nd rfl (Or.inl rfl) (pe_ix ix_str (pv 1) (pe_call GD hr1 (by rfl) mD FD.kp bD .nil pass0 (pa_cons (pv 0) (pa_cons pe_int pa_nil))) (fun _ _ => rfl)))
      (pss_cons (ps_for PassesOwn.never rfl (pi_range1 rfl mr (pa_cons (pv 2) pa_nil)) (pg_name (i := 4) scN.nd rfl (Or.inl rfl))
        (pss_one (ps_set (i := 3) scN.nd rfl (Or.inl rfl) (pe_op op_add_str (pv 3) (pe_ix ix_str (pe_op op_add_str (pv 1) pe_str) (pe_call GD hr1 (by rfl) mD FD.kp bD .nil pass0 (pa_cons (pv 0) (pa_cons pe_int pa_nil))) (fun _ _ => rfl))))))
      (pss_one (ps_ret (pe_ifExp (pt_cmpR op_ne (pe_slice sl_str (pv 3) po_none (po_some pe_int)) pe_str (nomark _)) (pv 3)
        (pe_op op_add_str pe_str (pe_slice sl_str (pv 3) (po_some pe_int) po_none)))))))), ?_⟩
    -- size
    refine ⟨(by show 7 ≤ sizeLine; decide), fun p1 n1 => ?_⟩
    have u1 := same_new (o := .lst [V.int 0, V.int 0, V.int 1, V.int 2, V.int 3, V.int 5, V.int 11]) n1
    have z1 := hs.ne n1
    refine ⟨_, rfl, a, c, m + 13, 7, rfl, hs.same u1, by decide, by decide, fun r1 H1 r10 r11 s1 k1 => ?_⟩
    have hl := k1 _ _ upd_same z1
    have size : ∃ sz : Nat, atI [V.int 0, V.int 0, V.int 1, V.int 2, V.int 3, V.int 5, V.int 11] r1 = some (.int sz) ∧ sz ≤ 11 := by
      obtain ⟨j, rfl⟩ : ∃ j : Nat, r1 = j := ⟨r1.toNat, by omega⟩
      have hj : j = 0 ∨ j = 1 ∨ j = 2 ∨ j = 3 ∨ j = 4 ∨ j = 5 ∨ j = 6 := by omega
      rcases hj with rfl | rfl | rfl | rfl | rfl | rfl | rfl
      · exact ⟨0, atI_nat (j := 0) rfl, by decide⟩
      · exact ⟨0, atI_nat (j := 1) rfl, by decide⟩
      · exact ⟨1, atI_nat (j := 2) rfl, by decide⟩
      · exact ⟨2, atI_nat (j := 3) rfl, by decide⟩
      · exact ⟨3, atI_nat (j := 4) rfl, by decide⟩
      · exact ⟨5, atI_nat (j := 5) rfl, by decide⟩
      · exact ⟨11, atI_nat (j := 6) rfl, by decide⟩
    obtain ⟨sz, esz, hsz⟩ := size
    refine ⟨p1, _, _, _, rfl, rfl, SqL.of hl, esz, ?_⟩
    -- found
    refine ⟨_, rfl, _, rfl, a, c, m + 12, 26, rfl, s1, by decide, by decide, fun r2 H2 r20 r21 s2 k2 => ?_⟩
    obtain ⟨c0, ec0, lc0⟩ := pick let_all let_len r20 r21
    refine ⟨_, _, _, rfl, rfl, (by decide +kernel), ec0, ?_⟩
    -- the loop
    refine ⟨_, rfl, _, rfl, by omega, by omega, for_range (lo := 0) (n := (sz : Int).toNat) (fun i σ H3 => ∃ (z : Str) (v : Option V), σ = [some (.ref a), some (.str letS), some (.int sz), some (.str z), v] ∧
      nmB z.cps.toList = true ∧ z.cps.toList.length = i + 1 ∧ SrcAt H3 a c (m + 12 - i) ∧ Keep a H H3) ⟨_, none, rfl, nm_one lc0, rfl, s2, ((Keep.of u1).trans k1).trans k2⟩ ?_ ?_⟩
    · rintro i σ H3 hi ⟨z, v, rfl, hz, lz, s3, k3⟩
      rw [Int.toNat_natCast] at hi
      have lz2 := length_toList z
      refine ⟨_, rfl, _, rfl, _, _, rfl, rfl, (by decide +kernel), ?_⟩
      have s3' : SrcAt H3 a c (m + 12 - (i + 1) + 1) := s3.mono (by omega)
      refine ⟨_, rfl, a, c, m + 12 - (i + 1), 36, rfl, s3', by decide, by decide, fun r4 H4 r40 r41 s4 k4 => ?_⟩
      obtain ⟨c4, ec4, lc4⟩ := pick sgn_all sgn_len r40 r41
      refine ⟨_, _, _, rfl, rfl, (by decide +kernel), ec4, ?_⟩
      refine ⟨_, _, rfl, rfl, ?_, ?_⟩
      · have e1 : (⟨#[c4]⟩ : Str).length = 1 := rfl
        rw [e1, sizeLine_eq]
        omega
      · refine ⟨_, _, rfl, ?_, ?_, s4, k3.trans k4⟩
        · rw [toList_append]
          cases hz2 : z.cps.toList with
          | nil =>
            rw [hz2] at hz
            cases hz
          | cons x xs =>
            rw [hz2] at hz lz
            simp only [nmB, Bool.and_eq_true, decide_eq_true_eq] at hz
            show nmB (x :: (xs ++ [c4])) = true
            simp only [List.length_cons] at lz
            simp only [nmB, List.all_append, List.length_append, Bool.and_eq_true, decide_eq_true_eq]
            refine ⟨⟨hz.1.1, hz.1.2, by simp [lc4]⟩, ?_⟩
            show xs.length + 1 ≤ 11
            omega
        · rw [toList_append, List.length_append, lz]
          rfl
    · rintro σ H3 ⟨z, v, rfl, hz, lz, s3, k3⟩
      rw [Int.toNat_natCast] at s3 lz
      have s3' : SrcAt H3 a c m := s3.mono (by omega)
      obtain ⟨_, l12, _⟩ := nm_sgns hz
      have lz2 := length_toList z
      have lzs : z.length ≤ sizeLine := by rw [sizeLine_eq]; omega
      refine ⟨_, rfl, 3, rfl, z, rfl, lzs, rfl, _, rfl, ?_⟩
      refine ite2 (fun _ => ?_) (fun _ => ?_)
      · exact ⟨_, rfl, k z H3 hz s3' k3⟩
      · refine ⟨_, rfl, 1, rfl, z, rfl, lzs, _, _, rfl, rfl, ?_, k _ H3 (nm_tail hz) s3' k3⟩
        have e1 : (Str.ofString "m").length = 1 := by decide +kernel
        have e2 : (cutS z (some 1) none).length ≤ z.length := by
          rw [← length_toList, ← length_toList]
          unfold cutS
          show ((z.cps.toList.drop _).take _).length ≤ _
          rw [List.length_take, List.length_drop]
          omega
        rw [e1, sizeLine_eq]
        omega
end
end L2.LawH
set_option Elab.async false
set_option linter.all false
set_option maxRecDepth 100000
set_option maxHeartbeats 4000000
/-! The helpers of the laws: lists of names. -/
namespace L2.LawH
open PySem PySem.Spec PyProof.Rows
open Builtin.Int (intBits)
abbrev sNames : Stmt := top 22
theorem nodup_len {α : Type} [DecidableEq α] : ∀ (l D : List α), l.Nodup → (∀ x ∈ l, x ∈ D) → l.length ≤ D.length
  | [], _, _, _ => Nat.zero_le _
  | x :: l, D, nd, h => by
    obtain ⟨n1, n2⟩ := List.nodup_cons.mp nd
    have hx := h x List.mem_cons_self
    have ih := nodup_len l (D.erase x) n2 fun y hy => by
      have ne : y ≠ x := fun z => n1 (by rw [← z]; exact hy)
      exact (List.mem_erase_of_ne ne).mpr (h y (List.mem_cons_of_mem _ hy))
    have e := List.length_erase_of_mem hx
    have pos : 0 < D.length := List.length_pos_of_mem hx
    rw [List.length_cons]
    omega
theorem op_notInK {X : Cx} {K : PySem.W.Frag} (e : X.K = K) : OpR X (compareOp .NotIn) (rIn K true) := by
  subst e
  exact op_notIn_seq
theorem inV_strs (q : Str) : ∀ L : List Str, inV (.str q) (L.map V.str) = decide (q ∈ L)
  | [] => by simp [inV]
  | x :: L => by
    have ih := inV_strs q L
    unfold inV at ih ⊢
    rw [List.map_cons, List.any_cons, ih]
    by_cases h : x = q
    · subst h
      simp [eqV]
    · have h' : ¬ q = x := fun z => h z.symm
      simp [eqV, h, h']
theorem flat_strs : ∀ L : List Str, (L.map V.str).all flatV = true
  | [] => rfl
  | _ :: L => by
    rw [List.map_cons, List.all_cons, flat_strs L]
    rfl
def qn (j : Nat) : Str := Str.ofString "q" ++ (toString (j : Int) : String)
theorem qn_ok : ((List.range 10).all fun j => nmB (qn j).cps.toList && decide ((qn j).length ≤ 3)) = true := by decide +kernel
theorem qn_nd : ((List.range 10).map qn).Nodup := by decide +kernel
def qs (n : Nat) : List Str := (List.range n).map qn
theorem qs_nd {n : Nat} (h : n ≤ 10) : (qs n).Nodup := by
  have e : qs n = ((List.range 10).map qn).take n := by
    unfold qs
    rw [← List.map_take, List.take_range, Nat.min_eq_left h]
  rw [e]
  exact qn_nd.sublist (List.take_sublist _ _)
theorem qs_len (n : Nat) : (qs n).length = n := by simp [qs]
theorem qs_get {n i : Nat} (h : i < n) : (qs n)[i]? = some (qn i) := by simp [qs, h]
theorem qs_nm {n : Nat} (h : n ≤ 10) {q : Str} (hq : q ∈ qs n) : Nm q := by
  obtain ⟨j, hj, rfl⟩ := List.mem_map.mp hq
  have h2 := List.all_eq_true.mp qn_ok j (List.mem_range.mpr (Nat.lt_of_lt_of_le (List.mem_range.mp hj) h))
  exact (Bool.and_eq_true_iff.mp h2).1
theorem qn_len {j : Nat} (h : j < 10) : (qn j).length ≤ 3 := by
  have h2 := List.all_eq_true.mp qn_ok j (List.mem_range.mpr h)
  exact of_decide_eq_true (Bool.and_eq_true_iff.mp h2).2
def free (L : List Str) (q : Str) : Bool := !decide (q ∈ L)
theorem some_free {L : List Str} {n : Nat} (h : n ≤ 10) (hl : L.length < n) : ∃ q r, (qs n).filter (free L) = q :: r ∧ Nm q ∧ q ∉ L := by
  cases e : (qs n).filter (free L) with
  | nil =>
    exfalso
    have all : ∀ q ∈ qs n, q ∈ L := by
      intro q hq
      have z := List.filter_eq_nil_iff.mp e q hq
      simpa [free] using z
    have := nodup_len _ _ (qs_nd h) all
    rw [qs_len] at this
    omega
  | cons q r =>
    have hm : q ∈ (qs n).filter (free L) := by
      rw [e]
      exact List.mem_cons_self
    obtain ⟨h1, h2⟩ := List.mem_filter.mp hm
    exact ⟨q, r, rfl, qs_nm h h1, by simpa [free] using h2⟩
theorem Keep.upd_new {a p : Addr} {H H' : Hp} {o : HO} (k : Keep a H H') (n : H p = none) : Keep a H (upd H' p o) := fun b u e nb => by
  rw [upd_ne (ne_of_none e n)]
  exact k b u e nb

def spNames : Sp := fun vs H Q _ => ∃ (a : Addr) (c : Int) (m cn : Nat), vs = [.ref a, .int cn] ∧ cn ≤ 9 ∧ SrcAt H a c (m + 14 * cn) ∧
  ∀ (p : Addr) (L : List Str) (H' : Hp), L.length = cn → (∀ z ∈ L, Nm z) → L.Nodup → H p = none → H' p = some (.lst (L.map V.str)) → SrcAt H' a c m → Keep a H H' → Q (.ref p) H'
section
variable {P : Program} {w : World} {K : PySem.W.Frag} {mg : Str → Option Value} {base : Heap}
abbrev nNames : List Str := ["_law_source_here", "_law_many", "_law_found", "_law_k", "_law_name_here", "_law_spare", "_law_one", "_law_j"]
theorem scNs : FnScope nNames ["_law_source_here", "_law_many"] (defScope sNames) := ⟨rfl, rfl, rfl, by decide +kernel, rfl, by decide +kernel, by decide +kernel⟩
theorem ok_names {f fN : Addr} {fd fdN : FuncData} (F : Fun K "_law_names" "_law_names" sNames f fd) (GN : FnOk P w K mg base CX0 2 fN fdN ["_law_source_here"] spName)
    (kN : PySem.W.keepIn K (.ref fN) = true) (bN : Binds K fdN ["_law_source_here"] []) (mN : mg "_law_name" = some (.ref fN)) (mr : mg "range" = none) (ms : mg "str" = none) :
    FnOk P w K mg base CX0 3 f fd ["_law_source_here", "_law_many"] spNames := by
  refine F.ok scNs (fun vs H Q E h => ?_) (fun cdv A outer s H vs Q E hr h => ?_)
  · obtain ⟨a, c, m, cn, rfl, _⟩ := h
    rfl
  · obtain ⟨a, c, m, cn, rfl, hcn, hs, k⟩ := h
    have hr2 : Room 2 _ := hr.mono (by decide)
    refine ⟨_, pss_cons (ps_set (i := 2) scNs.nd rfl (Or.inr rfl) (pe_lst pa_nil))
      (pss_cons (ps_for PassesOwn.never rfl (pi_range1 rfl mr (pa_cons (pv 1) pa_nil)) (pg_name (i := 3) scNs.nd rfl (Or.inl rfl))
        (pss_cons (ps_set (i := 4) scNs.nd rfl (Or.inl rfl) (pe_call GN hr2 (by rfl) mN kN bN .nil pass0 (pa_cons (pv 0) pa_nil)))
        (pss_cons (ps_setLc (i := 5) (own := [("_law_one", 6)]) (g := gName 6) (tt := tTest (tOp (rIn K true) (tVar 6) (tVar 2))) rfl scNs.nd rfl rfl (sw_true rfl rfl rfl (by decide +kernel))
            (pi_list (pe_lc (own := [("_law_j", 7)]) (g := gName 7) (tt := tYes) rfl scNs.nd (pi_range1 rfl mr (pa_cons (pe_op op_add (pv 1) pe_int) pa_nil))
              (blkOk_by (own := [("_law_j", 7)]) (N := nNames) (sc := defScope sNames) (by decide +kernel))
              (fun _ _ _ _ _ => pg_name (i := 7) scNs.nd rfl (Or.inl rfl)) (fun _ _ _ _ _ => pts_nil)
              (fun _ _ _ _ _ => pe_op op_add_str pe_str (pe_callTy call_str_int (by rfl) ms (by decide +kernel) (pa_cons (pv 7) pa_nil)))))
            (blkOk_by (own := [("_law_one", 6)]) (N := nNames) (sc := defScope sNames) (by decide +kernel))
            (fun _ _ _ _ _ => pg_name (i := 6) scNs.nd rfl (Or.inl rfl)) (fun _ _ _ _ _ => pts_one (pt_cmpR (op_notInK rfl) (pv 6) (pv 2) (by rfl))) (fun _ _ _ _ _ => pv 6))
        (pss_one (ps_expr (pe_bm PySem.F.plainAttrs_list PySem.F.slot_list_append PySem.F.type_list_append mt_append (pv 2)
          (pa_cons (pe_ifExp (pt_cmpR op_notIn_seq (pv 4) (pv 2) (by rfl)) (pv 4) (pe_ix ix_list (pv 5) pe_int (fun _ _ => rfl))) pa_nil)))))))
      (pss_one (ps_ret (pv 2)))), ?_⟩
    refine ⟨(by show 0 ≤ sizeLine; decide), fun p np => ?_⟩
    have pa := hs.ne np
    refine ⟨_, rfl, _, rfl, by omega, by omega, for_range (lo := 0) (n := (cn : Int).toNat) (fun i σ H3 => ∃ (L : List Str) (v3 v4 v5 v6 v7 : Option V), σ = [some (.ref a), some (.int cn), some (.ref p), v3, v4, v5, v6, v7] ∧
      L.length = i ∧ (∀ z ∈ L, Nm z) ∧ L.Nodup ∧ H3 p = some (.lst (L.map V.str)) ∧ SrcAt H3 a c (m + 14 * (cn - i)) ∧ Keep a H H3)
      ⟨[], none, none, none, none, none, rfl, rfl, fun _ z => (by cases z), List.nodup_nil, upd_same, (hs.same (same_new np)).mono (by omega), Keep.of (same_new np)⟩ ?_ ?_⟩
    · rintro i σ H3 hi ⟨L, v3, v4, v5, v6, v7, rfl, hl, hnm, hnd, h3, s3, k3⟩
      rw [Int.toNat_natCast] at hi
      -- name_here
      have s3' : SrcAt H3 a c (m + 14 * (cn - (i + 1)) + 14) := s3.mono (by omega)
      refine ⟨_, rfl, a, c, m + 14 * (cn - (i + 1)), rfl, s3', fun z H4 nz s4 k4 => ?_⟩
      have h4 := k4 _ _ h3 pa
      -- spare: the inner list
      refine ⟨_, rfl, _, _, rfl, rfl, _, rfl, by omega, by omega, fun D nD => ?_⟩
      have tn : ((cn : Int) + 1).toNat = cn + 1 := by omega
      rw [tn]
      refine lc_range (lo := 0) (n := cn + 1) (fun j H5 => Same H4 H5 ∧ H5 D = some (.lst (((qs (cn + 1)).take j).map V.str))) ⟨same_new nD, upd_same⟩ ?_ ?_
      · rintro j H5 hj ⟨s5, hD⟩
        refine ⟨rfl, ?_⟩
        dsimp only [tYes]
        rw [if_pos rfl]
        have e0 : (0 : Int) + (j : Int) = (j : Int) := by omega
        rw [e0]
        have sz : (toString (j : Int) : String) = toString (j : Int) := rfl
        have l3 : (Str.ofString "q" ++ ((toString (j : Int) : String) : Str)).length ≤ 3 := qn_len (j := j) (by omega)
        have lsum : (Str.ofString "q").length + ((toString (j : Int) : String) : Str).length ≤ sizeLine := by
          have e1 : (Str.ofString "q" ++ ((toString (j : Int) : String) : Str)).length = (Str.ofString "q").length + ((toString (j : Int) : String) : Str).length := by
            rw [← length_toList, toList_append, List.length_append, length_toList, length_toList]
          rw [e1] at l3
          rw [sizeLine_eq]
          omega
        have lg : ((j : Int)).natAbs.log2 < 1920 := by
          have : ((j : Int)).natAbs < 2 ^ 11 := by
            have e2 : (2 : Nat) ^ 11 = 2048 := by decide
            rw [e2]
            omega
          have h9 : ((j : Int)).natAbs.log2 ≤ 11 := by
            by_cases z : ((j : Int)).natAbs = 0
            · rw [z]
              decide
            · exact Nat.le_of_lt ((Nat.log2_lt z).mpr this)
          omega
        refine ⟨_, rfl, _, rfl, lg, _, _, rfl, rfl, lsum, _, hD, ?_, fun b o e => ?_, ?_⟩
        · rw [List.length_map, List.length_take, qs_len]
          refine Nat.lt_of_le_of_lt (Nat.min_le_right _ _) ?_
          rw [sizeLine_eq]
          omega
        · rw [upd_ne (ne_of_none e nD)]
          exact s5 b o e
        · rw [upd_same, List.take_add_one, qs_get hj]
          simp [qn]
      · rintro H5 ⟨s5, hD⟩
        have hD' : H5 D = some (.lst ((qs (cn + 1)).map V.str)) := by
          rw [hD, List.take_of_length_le (by rw [qs_len]; exact Nat.le_refl _)]
        have h5 := s5 _ _ h4
        -- spare: the outer list
        refine ⟨D, rfl, ⟨_, SqL.of hD'⟩, fun D2 nD2 => ?_⟩
        refine lc_list (K := K) (a := D) (xs := (qs (cn + 1)).map V.str) (fun j H6 => Same H5 H6 ∧ H6 D2 = some (.lst ((((qs (cn + 1)).take j).filter (free L)).map V.str)))
          ⟨same_new nD2, upd_same⟩ (fun j H6 _ h6 => h6.1.seq (SqL.of hD')) ?_ ?_
        · rintro j v H6 hj ⟨s6, hD2⟩
          rw [List.getElem?_map] at hj
          cases eb : (qs (cn + 1))[j]? with
          | none =>
            rw [eb] at hj
            cases hj
          | some q =>
            rw [eb] at hj
            cases hj
            have h6 := s6 _ _ h5
            refine ⟨rfl, _, rfl, _, rfl, p, _, rfl, .inl (SqL.of h6), rfl, flat_strs L, _, rfl, ?_⟩
            rw [List.take_add_one, eb, List.filter_append]
            have e2 : (if true = true then !inV (V.str q) (L.map V.str) else inV (V.str q) (L.map V.str)) = free L q := by
              rw [if_pos rfl, inV_strs]
              rfl
            rw [e2]
            cases ef : free L q with
            | true =>
              refine iteT ?_
              refine ⟨_, rfl, _, hD2, ?_, fun b o e => ?_, ?_⟩
              · rw [List.length_map]
                refine Nat.lt_of_le_of_lt (List.length_filter_le _ _) ?_
                rw [List.length_take, qs_len, sizeLine_eq]
                omega
              · rw [upd_ne (ne_of_none e nD2)]
                exact s6 b o e
              · rw [upd_same]
                simp [ef]
            | false =>
              refine iteF ?_
              refine ⟨s6, ?_⟩
              rw [hD2]
              simp [ef]
        · rintro H6 ⟨s6, hD2⟩
          have hD2' : H6 D2 = some (.lst (((qs (cn + 1)).filter (free L)).map V.str)) := by
            rw [hD2, List.length_map, List.take_of_length_le (Nat.le_refl _)]
          have h6 := s6 _ _ h5
          have s46 : Same H4 H6 := s5.trans s6
          -- found.append(..)
          obtain ⟨q, r, eq, nq, fq⟩ := some_free (L := L) (n := cn + 1) (by omega) (by omega)
          refine ⟨_, rfl, .inl ⟨rfl, _, .inl (.inl h6)⟩, ?_⟩
          refine ⟨_, rfl, _, rfl, p, _, rfl, .inl (SqL.of h6), rfl, flat_strs L, _, rfl, ?_⟩
          have e2 : (if true = true then !inV (V.str z) (L.map V.str) else inV (V.str z) (L.map V.str)) = free L z := by
            rw [if_pos rfl, inV_strs]
            rfl
          rw [e2]
          have few : (L.map V.str).length < sizeLine := by
            rw [List.length_map, sizeLine_eq]
            omega
          have fin : ∀ t : Str, Nm t → t ∉ L → ∃ (L' : List Str) (w3 w4 w5 w6 w7 : Option V), [some (.ref a), some (.int cn), some (.ref p), some (V.int (0 + (i : Int))), some (.str z), some (.ref D2), v6, v7] = [some (.ref a), some (.int cn), some (.ref p), w3, w4, w5, w6, w7] ∧
              L'.length = i + 1 ∧ (∀ z ∈ L', Nm z) ∧ L'.Nodup ∧ (upd H6 p (.lst (L.map V.str ++ [V.str t]))) p = some (.lst (L'.map V.str)) ∧ SrcAt (upd H6 p (.lst (L.map V.str ++ [V.str t]))) a c (m + 14 * (cn - (i + 1))) ∧ Keep a H (upd H6 p (.lst (L.map V.str ++ [V.str t]))) := by
            intro t nt ft
            refine ⟨L ++ [t], _, _, _, _, _, rfl, by simp [hl], fun y hy => ?_, ?_, by rw [upd_same]; simp, ?_, ?_⟩
            · rcases List.mem_append.mp hy with hy | hy
              · exact hnm y hy
              · have : y = t := by simpa using hy
                rw [this]
                exact nt
            · rw [List.nodup_append]
              refine ⟨hnd, by simp, fun x hx y hy e => ?_⟩
              have : y = t := by simpa using hy
              rw [e, this] at hx
              exact ft hx
            · obtain ⟨d, n, e, g⟩ := s4.same s46
              exact ⟨d, n, by rw [upd_ne pa.symm]; exact e, g⟩
            · exact ((k3.trans k4).trans (Keep.of s46)).upd_new np
          cases ef : free L z with
          | true =>
            refine iteT ?_
            refine ⟨_, rfl, p, _, _, rfl, rfl, h6, few, ?_⟩
            exact fin z nz (by simpa [free] using ef)
          | false =>
            refine iteF ?_
            refine ⟨_, rfl, D2, _, 0, .str q, rfl, rfl, SqL.of hD2', ?_, p, _, _, rfl, rfl, h6, few, ?_⟩
            · rw [eq]
              exact atI_nat (j := 0) rfl
            · exact fin q nq fq
    · rintro σ H3 ⟨L, v3, v4, v5, v6, v7, rfl, hl, hnm, hnd, h3, s3, k3⟩
      rw [Int.toNat_natCast] at hl
      exact ⟨_, rfl, k p L H3 hl hnm hnd np h3 (s3.mono (by omega)) k3⟩
end
end L2.LawH
set_option Elab.async false
set_option linter.all false
set_option maxRecDepth 100000
set_option maxHeartbeats 4000000
/-! The helpers of the laws: the pool of tables, constants and variables. -/
namespace L2.LawH
open PySem PySem.Spec PyProof.Rows
open Builtin.Int (intBits)
abbrev sPool : Stmt := top 23
theorem ix_listK {X : Cx} {K : PySem.W.Frag} (e : X.K = K) : IxR X (rIxL K) := by
  subst e
  exact ix_list
/-- a variable -/
def Vr (z : Str) : Prop := ∃ y : Str, Nm y ∧ z = Str.ofString "?" ++ y
structure Pool where
  (r cs vs : Addr)
  rows : List (Addr × Str × Nat)
  (C W : List Str)
structure PoolAt (a : Addr) (H : Hp) (p : Addr) (π : Pool) : Prop where
  hp : H p = some (.lst [.ref π.r, .ref π.cs, .ref π.vs])
  hr : H π.r = some (.lst (π.rows.map fun x => V.ref x.1))
  hrow : ∀ x ∈ π.rows, H x.1 = some (.tup [.str x.2.1, .int (x.2.2 : Nat)]) ∧ Nm x.2.1 ∧ x.2.2 ≤ 3 ∧ x.1 ≠ a
  rows1 : 1 ≤ π.rows.length
  rows9 : π.rows.length ≤ 9
  hc : H π.cs = some (.lst (π.C.map V.str))
  nC : ∀ z ∈ π.C, Nm z
  C2 : 2 ≤ π.C.length
  C9 : π.C.length ≤ 9
  hv : H π.vs = some (.lst (π.W.map V.str))
  nW : ∀ z ∈ π.W, Vr z
  W9 : π.W.length = 9
  np : p ≠ a
  nr : π.r ≠ a
  nc : π.cs ≠ a
  nv : π.vs ≠ a
theorem PoolAt.keep {a : Addr} {H H' : Hp} {p : Addr} {π : Pool} (h : PoolAt a H p π) (k : Keep a H H') : PoolAt a H' p π :=
  ⟨k _ _ h.hp h.np, k _ _ h.hr h.nr, fun x hx => let ⟨h1, h2, h3, h4⟩ := h.hrow x hx; ⟨k _ _ h1 h4, h2, h3, h4⟩, h.rows1, h.rows9, k _ _ h.hc h.nc, h.nC, h.C2, h.C9, k _ _ h.hv h.nv, h.nW, h.W9, h.np, h.nr, h.nc, h.nv⟩
def spPool : Sp := fun vs H Q _ => ∃ (a : Addr) (c : Int) (m : Nat), vs = [.ref a] ∧ SrcAt H a c (m + 300) ∧
  ∀ (p : Addr) (π : Pool) (H' : Hp), PoolAt a H' p π → SrcAt H' a c m → Keep a H H' → Q (.ref p) H'
section
variable {P : Program} {w : World} {K : PySem.W.Frag} {mg : Str → Option Value} {base : Heap}
abbrev nPool : List Str := ["_law_source_here", "_law_tables", "_law_sizes", "_law_constants", "_law_variables_here", "_law_rows", "_law_k", "_law_name_here"]
theorem scP : FnScope nPool ["_law_source_here"] (defScope sPool) := ⟨rfl, rfl, rfl, by decide +kernel, rfl, by decide +kernel, by decide +kernel⟩
theorem menu8 {r : Int} (h0 : 0 ≤ r) (h1 : r < 8) : ∃ n : Nat, atI [V.int 2, V.int 1, V.int 2, V.int 3, V.int 2, V.int 0, V.int 1, V.int 2] r = some (.int n) ∧ n ≤ 3 := by
  obtain ⟨j, rfl⟩ : ∃ j : Nat, r = j := ⟨r.toNat, by omega⟩
  have hj : j = 0 ∨ j = 1 ∨ j = 2 ∨ j = 3 ∨ j = 4 ∨ j = 5 ∨ j = 6 ∨ j = 7 := by omega
  rcases hj with rfl | rfl | rfl | rfl | rfl | rfl | rfl | rfl
  · exact ⟨2, atI_nat (j := 0) rfl, by decide⟩
  · exact ⟨1, atI_nat (j := 1) rfl, by decide⟩
  · exact ⟨2, atI_nat (j := 2) rfl, by decide⟩
  · exact ⟨3, atI_nat (j := 3) rfl, by decide⟩
  · exact ⟨2, atI_nat (j := 4) rfl, by decide⟩
  · exact ⟨0, atI_nat (j := 5) rfl, by decide⟩
  · exact ⟨1, atI_nat (j := 6) rfl, by decide⟩
  · exact ⟨2, atI_nat (j := 7) rfl, by decide⟩
theorem menu4 {r : Int} (h0 : 0 ≤ r) (h1 : r < 4) : ∃ n : Nat, atI [V.int 1, V.int 3, V.int 0, V.int 1] r = some (.int n) ∧ n ≤ 3 := by
  obtain ⟨j, rfl⟩ : ∃ j : Nat, r = j := ⟨r.toNat, by omega⟩
  have hj : j = 0 ∨ j = 1 ∨ j = 2 ∨ j = 3 := by omega
  rcases hj with rfl | rfl | rfl | rfl
  · exact ⟨1, atI_nat (j := 0) rfl, by decide⟩
  · exact ⟨3, atI_nat (j := 1) rfl, by decide⟩
  · exact ⟨0, atI_nat (j := 2) rfl, by decide⟩
  · exact ⟨1, atI_nat (j := 3) rfl, by decide⟩
theorem ints_get {Z : List Nat} {i : Nat} (h : i < Z.length) : (Z.map fun n : Nat => V.int (n : Int))[i]? = some (.int (Z[i] : Nat)) := by
  rw [List.getElem?_map, List.getElem?_eq_getElem h]
  rfl
theorem strs_get {L : List Str} {i : Nat} (h : i < L.length) : (L.map V.str)[i]? = some (.str L[i]) := by
  rw [List.getElem?_map, List.getElem?_eq_getElem h]
  rfl
theorem ok_pool {f fD fS : Addr} {fd fdD fdS : FuncData} (F : Fun K "_law_pool" "_law_pool" sPool f fd)
    (GD : FnOk P w K mg base CX0 1 fD fdD ["_law_source_here", "_law_limit"] spDraw) (kD : PySem.W.keepIn K (.ref fD) = true) (bD : Binds K fdD ["_law_source_here", "_law_limit"] []) (mD : mg "_law_draw" = some (.ref fD))
    (GS : FnOk P w K mg base CX0 3 fS fdS ["_law_source_here", "_law_many"] spNames) (kS : PySem.W.keepIn K (.ref fS) = true) (bS : Binds K fdS ["_law_source_here", "_law_many"] []) (mS : mg "_law_names" = some (.ref fS))
    (mr : mg "range" = none) (ml : mg "len" = none) :
    FnOk P w K mg base CX0 4 f fd ["_law_source_here"] spPool := by
  refine F.ok scP (fun vs H Q E h => ?_) (fun cdv A outer s H vs Q E hr h => ?_)
  · obtain ⟨a, c, m, rfl, _⟩ := h
    rfl
  · obtain ⟨a, c, m, rfl, hs, k⟩ := h
    have hr1 : Room 1 _ := hr.mono (by decide)
    refine ⟨_, pss_cons (ps_set (i := 1) scP.nd rfl (Or.inr rfl) (pe_call GS hr (by rfl) mS kS bS .nil pass0 (pa_cons (pv 0) (pa_cons (pe_op op_add pe_int (pe_call GD hr1 (by rfl) mD kD bD .nil pass0 (pa_cons (pv 0) (pa_cons pe_int pa_nil)))) pa_nil))))
      (pss_cons (ps_set (i := 2) scP.nd rfl (Or.inr rfl) (pe_op op_cat (pe_lst (pa_cons pe_int pa_nil))
        (pe_lc (own := [("_law_k", 6)]) (g := gName 6) (tt := tYes) rfl scP.nd (pi_range1 (by rfl) mr (pa_cons (pe_op op_sub (pe_callB call_len_seq (by rfl) ml (by decide +kernel) (pa_cons (pv 1) pa_nil)) pe_int) pa_nil))
          (blkOk_by (own := [("_law_k", 6)]) (N := nPool) (sc := defScope sPool) (by decide +kernel)) (fun _ _ _ _ _ => pg_name (i := 6) scP.nd rfl (Or.inl rfl)) (fun _ _ _ _ _ => pts_nil)
          (fun _ _ _ _ _ => pe_ix (ix_listK rfl) (pe_lst (pa_cons pe_int (pa_cons pe_int (pa_cons pe_int (pa_cons pe_int (pa_cons pe_int (pa_cons pe_int (pa_cons pe_int (pa_cons pe_int pa_nil))))))))) (pe_call GD hr1 (by rfl) mD kD bD .nil pass0 (pa_cons (pv 0) (pa_cons pe_int pa_nil))) (fun _ _ => rfl)))))
      (pss_cons (ps_set (i := 3) scP.nd rfl (Or.inl rfl) (pe_call GS hr (by rfl) mS kS bS .nil pass0 (pa_cons (pv 0) (pa_cons (pe_op op_add pe_int (pe_call GD hr1 (by rfl) mD kD bD .nil pass0 (pa_cons (pv 0) (pa_cons pe_int pa_nil)))) pa_nil))))
      (pss_cons (ps_setLc (i := 4) (own := [("_law_name_here", 7)]) (g := gName 7) (tt := tYes) rfl scP.nd rfl rfl (sw_true rfl rfl rfl (by decide +kernel))
          (pi_list (pe_call GS hr (by rfl) mS kS bS .nil pass0 (pa_cons (pv 0) (pa_cons pe_int pa_nil))))
          (blkOk_by (own := [("_law_name_here", 7)]) (N := nPool) (sc := defScope sPool) (by decide +kernel)) (fun _ _ _ _ _ => pg_name (i := 7) scP.nd rfl (Or.inl rfl)) (fun _ _ _ _ _ => pts_nil)
          (fun _ _ _ _ _ => pe_op op_add_str pe_str (pv 7)))
      (pss_cons (ps_setLc (i := 5) (own := [("_law_k", 6)]) (g := gName 6) (tt := tYes) rfl scP.nd rfl rfl (sw_true rfl rfl rfl (by decide +kernel))
          (pi_range1 (by rfl) mr (pa_cons (pe_callB call_len_seq (by rfl) ml (by decide +kernel) (pa_cons (pv 1) pa_nil)) pa_nil))
          (blkOk_by (own := [("_law_k", 6)]) (N := nPool) (sc := defScope sPool) (by decide +kernel)) (fun _ _ _ _ _ => pg_name (i := 6) scP.nd rfl (Or.inl rfl)) (fun _ _ _ _ _ => pts_nil)
          (fun _ _ _ _ _ => pe_tup (pa_cons (pe_ix (ix_listK rfl) (pv 1) (pv 6) (fun _ _ => rfl)) (pa_cons (pe_ix (ix_listK rfl) (pv 2) (pv 6) (fun _ _ => rfl)) pa_nil))))
      (pss_cons (ps_if (pt_cmpR op_eq (pe_call GD hr1 (by rfl) mD kD bD .nil pass0 (pa_cons (pv 0) (pa_cons pe_int pa_nil))) pe_int (nomark _))
        (pss_one (ps_expr (pe_bm PySem.F.plainAttrs_list PySem.F.slot_list_append PySem.F.type_list_append mt_append (pv 5)
          (pa_cons (pe_tup (pa_cons (pe_ix ix_list (pv 1) pe_int (fun _ _ => rfl)) (pa_cons (pe_ix ix_list (pe_lst (pa_cons pe_int (pa_cons pe_int (pa_cons pe_int (pa_cons pe_int pa_nil))))) (pe_call GD hr1 (by rfl) mD kD bD .nil pass0 (pa_cons (pv 0) (pa_cons pe_int pa_nil))) (fun _ _ => rfl)) pa_nil))) pa_nil)))) pss_nil)
      (pss_one (ps_ret (pe_lst (pa_cons (pv 5) (pa_cons (pv 3) (pa_cons (pv 4) pa_nil))))))))))), ?_⟩
    -- tables
    refine ⟨_, rfl, _, rfl, a, c, m + 299, 3, rfl, hs, by decide, by decide, fun r1 H1 r10 r11 s1 k1 => ⟨_, _, rfl, rfl, ?_⟩⟩
    obtain ⟨j1, rfl⟩ : ∃ j : Nat, r1 = j := ⟨r1.toNat, by omega⟩
    refine ⟨a, c, m + 240, 2 + j1, rfl, by omega, s1.mono (by omega), fun t L H2 lL nL ndL nt ht s2 k2 => ?_⟩
    have ta : t ≠ a := s1.ne nt
    have K2 := k1.trans k2
    -- sizes
    refine ⟨(by show 1 ≤ sizeLine; decide), fun pA nA => ?_⟩
    have uA := same_new (o := .lst [V.int 2]) nA
    have zA := s2.ne nA
    refine ⟨_, rfl, t, _, rfl, .inl (SqL.of (uA _ _ ht)), _, _, rfl, rfl, ?_⟩
    have lS : (L.map V.str).length = 2 + j1 := by rw [List.length_map, lL]
    refine ⟨_, rfl, by rw [lS]; omega, by rw [lS]; omega, fun D nD => ?_⟩
    have tn : (((L.map V.str).length : Int) - 1).toNat = 1 + j1 := by rw [lS]; omega
    rw [tn]
    have sA := s2.same uA
    have zD := sA.ne nD
    refine lc_range (lo := 0) (n := 1 + j1) (fun j H5 => ∃ Z : List Nat, Z.length = j ∧ (∀ n ∈ Z, n ≤ 3) ∧ H5 D = some (.lst (Z.map fun n : Nat => V.int (n : Int))) ∧ SrcAt H5 a c (m + 239 - j) ∧ Keep a H H5 ∧ H5 t = some (.lst (L.map V.str)) ∧ H5 pA = some (.lst [V.int 2]))
      ⟨[], rfl, fun _ z => (by cases z), upd_same, (sA.same (same_new nD)).mono (by omega), K2.trans (Keep.of (uA.trans (same_new nD))), (same_new nD) _ _ (uA _ _ ht), (same_new nD) _ _ upd_same⟩ ?_ ?_
    · rintro j H5 hj ⟨Z, lZ, Z3, hD, s5, k5, t5, a5⟩
      refine ⟨rfl, ?_⟩
      dsimp only [tYes]
      rw [if_pos rfl]
      refine ⟨(by show 8 ≤ sizeLine; decide), fun p8 n8 => ?_⟩
      have u8 := same_new (o := .lst [V.int 2, V.int 1, V.int 2, V.int 3, V.int 2, V.int 0, V.int 1, V.int 2]) n8
      have z8 := s5.ne n8
      refine ⟨_, rfl, a, c, m + 239 - (j + 1), 8, rfl, (s5.same u8).mono (by omega), by decide, by decide, fun r H6 r0 r1 s6 k6 => ?_⟩
      obtain ⟨n, en, n3⟩ := menu8 r0 r1
      refine ⟨p8, _, _, _, rfl, rfl, SqL.of (k6 _ _ upd_same z8), en, _, k6 _ _ (u8 _ _ hD) zD, ?_, Z ++ [n], ?_, ?_, ?_, ?_, ?_, ?_, ?_⟩
      · rw [List.length_map, lZ, sizeLine_eq]
        omega
      · simp [lZ]
      · intro x hx
        rcases List.mem_append.mp hx with hx | hx
        · exact Z3 x hx
        · have e : x = n := by simpa using hx
          rw [e]
          exact n3
      · rw [upd_same]
        simp
      · obtain ⟨d, nn, e, g⟩ := s6
        exact ⟨d, nn, by rw [upd_ne zD.symm]; exact e, g⟩
      · have kk : Keep a H H6 := (k5.trans (Keep.of u8)).trans k6
        intro b o e nb
        by_cases hb : b = D
        · exfalso
          subst hb
          have q := (K2.trans (Keep.of uA)) _ _ e nb
          rw [nD] at q
          cases q
        · rw [upd_ne hb]
          exact kk b o e nb
      · have tD : t ≠ D := ne_of_none (uA _ _ ht) nD
        rw [upd_ne tD]
        exact k6 _ _ (u8 _ _ t5) ta
      · have aD : pA ≠ D := ne_of_none (upd_same (H := H2) (o := .lst [V.int 2])) nD
        rw [upd_ne aD]
        exact k6 _ _ (u8 _ _ a5) zA
    · rintro H5 ⟨Z, lZ, Z3, hD, s5, k5, t5, a5⟩
      refine ⟨pA, D, _, _, rfl, rfl, a5, hD, ?_, fun pZ nZ => ?_⟩
      · rw [List.length_map, lZ, sizeLine_eq]
        show 1 + (1 + j1) ≤ _
        omega
      have uZ := same_new (o := .lst ([V.int 2] ++ Z.map fun n : Nat => V.int (n : Int))) nZ
      have zZ := s5.ne nZ
      have sZ : SrcAt _ a c (m + 235) := (s5.same uZ).mono (by omega)
      have hZ : (upd H5 pZ (.lst ([V.int 2] ++ Z.map fun n : Nat => V.int (n : Int)))) pZ = some (.lst ((2 :: Z).map fun n : Nat => V.int (n : Int))) := upd_same
      -- constants
      refine ⟨_, rfl, _, rfl, a, c, m + 234, 3, rfl, sZ, by decide, by decide, fun r2 H6 r20 r21 s6 k6 => ⟨_, _, rfl, rfl, ?_⟩⟩
      obtain ⟨j2, rfl⟩ : ∃ j : Nat, r2 = j := ⟨r2.toNat, by omega⟩
      refine ⟨a, c, m + 150, 2 + j2, rfl, by omega, s6.mono (by omega), fun pC C H7 lC nC ndC ntC hC s7 k7 => ?_⟩
      have zC := s6.ne ntC
      have t7 := k7 _ _ (k6 _ _ (uZ _ _ t5) ta) ta
      have z7 := k7 _ _ (k6 _ _ hZ zZ) zZ
      have kH7 := ((k5.trans (Keep.of uZ)).trans k6).trans k7
      -- variables
      refine ⟨_, rfl, a, c, m + 20, 9, rfl, by decide, s7.mono (by omega), fun pN N9 H8 lN nN ndN ntN hN s8 k8 => ?_⟩
      have t8 := k8 _ _ t7 ta
      have z8 := k8 _ _ z7 zZ
      have c8 := k8 _ _ hC zC
      have kH8 := kH7.trans k8
      refine ⟨pN, rfl, ⟨_, SqL.of hN⟩, fun DV nDV => ?_⟩
      have zV := s8.ne nDV
      refine lc_list (K := K) (a := pN) (xs := N9.map V.str) (fun j H9 => Same H8 H9 ∧ H9 DV = some (.lst (((N9.take j).map fun y => Str.ofString "?" ++ y).map V.str)))
        ⟨same_new nDV, upd_same⟩ (fun j H9 _ h9 => h9.1.seq (SqL.of hN)) ?_ ?_
      · rintro j v H9 hj ⟨s9, hDV⟩
        rw [List.getElem?_map] at hj
        cases eb : N9[j]? with
        | none =>
          rw [eb] at hj
          cases hj
        | some y =>
          rw [eb] at hj
          cases hj
          refine ⟨rfl, ?_⟩
          dsimp only [tYes]
          rw [if_pos rfl]
          have ny := nN y (List.mem_of_getElem? eb)
          obtain ⟨_, l12, _⟩ := nm_sgns ny
          have ly := length_toList y
          refine ⟨_, rfl, _, _, rfl, rfl, ?_, _, hDV, ?_, fun b o e => ?_, ?_⟩
          · have e1 : (Str.ofString "?").length = 1 := by decide +kernel
            rw [e1, sizeLine_eq]
            omega
          · rw [List.length_map, List.length_map, List.length_take, lN, sizeLine_eq]
            omega
          · rw [upd_ne (ne_of_none e nDV)]
            exact s9 b o e
          · rw [upd_same, List.take_add_one, eb]
            simp
      · rintro H9 ⟨s9, hDV⟩
        rw [List.length_map, List.take_of_length_le (Nat.le_refl _)] at hDV
        have t9 := s9 _ _ t8
        have z9 := s9 _ _ z8
        have c9 := s9 _ _ c8
        have sr9 := s8.same s9
        have kH9 := kH8.trans (Keep.of s9)
        -- rows
        refine ⟨_, rfl, t, _, rfl, .inl (SqL.of t9), _, rfl, by rw [lS]; omega, by rw [lS]; omega, fun DR nDR => ?_⟩
        have tn2 : (((L.map V.str).length : Int)).toNat = 2 + j1 := by rw [lS]; omega
        rw [tn2]
        have zR := sr9.ne nDR
        refine lc_range (lo := 0) (n := 2 + j1) (fun j H10 => ∃ rows : List (Addr × Str × Nat), rows.length = j ∧ Same H9 H10 ∧ H10 DR = some (.lst (rows.map fun x => V.ref x.1)) ∧
          ∀ x ∈ rows, H10 x.1 = some (.tup [.str x.2.1, .int (x.2.2 : Nat)]) ∧ Nm x.2.1 ∧ x.2.2 ≤ 3 ∧ x.1 ≠ a ∧ x.1 ≠ DR)
          ⟨[], rfl, same_new nDR, upd_same, fun _ z => by cases z⟩ ?_ ?_
        · rintro j H10 hj ⟨rows, lR, s10, hDR, all⟩
          refine ⟨rfl, ?_⟩
          dsimp only [tYes]
          rw [if_pos rfl]
          have e0 : (0 : Int) + (j : Int) = (j : Int) := by omega
          rw [e0]
          have jL : j < L.length := by omega
          have jZ : j < (2 :: Z).length := by simp; omega
          refine ⟨_, rfl, _, rfl, t, _, _, _, rfl, rfl, SqL.of (s10 _ _ t9), atI_nat (strs_get jL), _, rfl, _, rfl, pZ, _, _, _, rfl, rfl, SqL.of (s10 _ _ z9), atI_nat (ints_get jZ), (by show 2 ≤ sizeLine; decide), fun pt npt => ?_⟩
          have upt := same_new (o := .tup [V.str L[j], V.int (((2 :: Z)[j] : Nat) : Int)]) npt
          have zpt : pt ≠ a := (sr9.same s10).ne npt
          have zDR : pt ≠ DR := (ne_of_none hDR npt).symm
          have z3 : (2 :: Z)[j] ≤ 3 := by
            have hm : (2 :: Z)[j] ∈ (2 :: Z) := List.getElem_mem jZ
            rcases List.mem_cons.mp hm with e | e
            · rw [e]
              decide
            · exact Z3 _ e
          refine ⟨_, upt _ _ hDR, ?_, rows ++ [(pt, L[j], (2 :: Z)[j])], by simp [lR], fun b o e => ?_, by rw [upd_same]; simp, fun x hx => ?_⟩
          · rw [List.length_map, lR, sizeLine_eq]
            omega
          · rw [upd_ne (ne_of_none e nDR)]
            exact upt _ _ (s10 b o e)
          · rcases List.mem_append.mp hx with hx | hx
            · obtain ⟨h1, h2, h3, h4, h5⟩ := all x hx
              exact ⟨by rw [upd_ne h5]; exact upt _ _ h1, h2, h3, h4, h5⟩
            · have e : x = (pt, L[j], (2 :: Z)[j]) := by simpa using hx
              rw [e]
              exact ⟨by rw [upd_ne zDR]; exact upd_same, nL _ (List.getElem_mem jL), z3, zpt, zDR⟩
        · rintro H10 ⟨rows, lR, s10, hDR, all⟩
          have sr10 := sr9.same s10
          -- the return
          have fin : ∀ (H11 : Hp) (rows' : List (Addr × Str × Nat)), 1 ≤ rows'.length → rows'.length ≤ 9 → H11 DR = some (.lst (rows'.map fun x => V.ref x.1)) →
              (∀ x ∈ rows', H11 x.1 = some (.tup [.str x.2.1, .int (x.2.2 : Nat)]) ∧ Nm x.2.1 ∧ x.2.2 ≤ 3 ∧ x.1 ≠ a) → H11 pC = some (.lst (C.map V.str)) →
              H11 DV = some (.lst ((N9.map fun y => Str.ofString "?" ++ y).map V.str)) → SrcAt H11 a c m → Keep a H H11 →
              ∀ p, H11 p = none → Q (.ref p) (upd H11 p (.lst [.ref DR, .ref pC, .ref DV])) := by
            intro H11 rows' l1 l9 hR allR hC11 hV11 s11 k11 p np
            have up := same_new (o := .lst [V.ref DR, V.ref pC, V.ref DV]) np
            refine k p ⟨DR, pC, DV, rows', C, N9.map fun y => Str.ofString "?" ++ y⟩ _ ⟨upd_same, up _ _ hR, fun x hx => let ⟨h1, h2, h3, h4⟩ := allR x hx; ⟨up _ _ h1, h2, h3, h4⟩, l1, l9, up _ _ hC11, nC, by rw [lC]; omega, by rw [lC]; omega, up _ _ hV11, fun z hz => ?_, by simp [lN], s11.ne np, zR, zC, zV⟩ (s11.same up) (k11.trans (Keep.of up))
            obtain ⟨y, hy, rfl⟩ := List.mem_map.mp hz
            exact ⟨y, nN y hy, rfl⟩
          -- if draw(3) == 0
          refine ⟨_, rfl, a, c, m + 10, 3, rfl, sr10.mono (by omega), by decide, by decide, fun r5 H11 r50 r51 s11 k11 => ⟨rfl, _, rfl, ?_⟩⟩
          have hR11 := k11 _ _ hDR zR
          have c11 := k11 _ _ (s10 _ _ c9) zC
          have v11 := k11 _ _ (s10 _ _ hDV) zV
          have t11 := k11 _ _ (s10 _ _ t9) ta
          have kH11 := (kH9.trans (Keep.of s10)).trans k11
          refine ite2 (fun _ => ?_) (fun _ => ?_)
          · have L0 : 0 < L.length := by omega
            refine ⟨_, rfl, .inl ⟨rfl, _, .inl (.inl hR11)⟩, ?_⟩
            refine ⟨_, rfl, t, _, 0, _, rfl, rfl, SqL.of t11, atI_nat (j := 0) (strs_get L0), (by show 4 ≤ sizeLine; decide), fun p4 n4 => ?_⟩
            have u4 := same_new (o := .lst [V.int 1, V.int 3, V.int 0, V.int 1]) n4
            have z4 := s11.ne n4
            refine ⟨_, rfl, a, c, m + 5, 4, rfl, (s11.same u4).mono (by omega), by decide, by decide, fun r6 H12 r60 r61 s12 k12 => ?_⟩
            obtain ⟨n, en, n3⟩ := menu4 r60 r61
            refine ⟨p4, _, _, _, rfl, rfl, SqL.of (k12 _ _ upd_same z4), en, (by show 2 ≤ sizeLine; decide), fun pt npt => ?_⟩
            have upt := same_new (o := .tup [V.str L[0], V.int (n : Int)]) npt
            have zpt := s12.ne npt
            have hR12 := k12 _ _ (u4 _ _ hR11) zR
            have zDR : pt ≠ DR := (ne_of_none hR12 npt).symm
            refine ⟨DR, _, _, rfl, rfl, upt _ _ hR12, ?_, ?_⟩
            · rw [List.length_map, lR, sizeLine_eq]
              omega
            · have ks : Keep DR (upd H12 pt (.tup [V.str L[0], V.int (n : Int)])) (upd (upd H12 pt (.tup [V.str L[0], V.int (n : Int)])) DR (.lst (rows.map (fun x => V.ref x.1) ++ [V.ref pt]))) := fun b o e nb => by
                rw [upd_ne nb]
                exact e
              have aDR : a ≠ DR := zR.symm
              refine ⟨_, rfl, _, rfl, _, rfl, (by show 3 ≤ sizeLine; decide), fin _ (rows ++ [(pt, L[0], n)]) (by simp) (by simp [lR]; omega) (by rw [upd_same]; simp) (fun x hx => ?_) ?_ ?_ ?_ ?_⟩
              · rcases List.mem_append.mp hx with hx | hx
                · obtain ⟨h1, h2, h3, h4, h5⟩ := all x hx
                  exact ⟨ks _ _ (upt _ _ (k12 _ _ (u4 _ _ (k11 _ _ h1 h4)) h4)) h5, h2, h3, h4⟩
                · have e : x = (pt, L[0], n) := by simpa using hx
                  rw [e]
                  exact ⟨ks _ _ upd_same zDR, nL _ (List.getElem_mem L0), n3, zpt⟩
              · exact ks _ _ (upt _ _ (k12 _ _ (u4 _ _ c11) zC)) (ne_of_none (s10.trans (Same.refl _) |> fun _ => c9) nDR)
              · exact ks _ _ (upt _ _ (k12 _ _ (u4 _ _ v11) zV)) (ne_of_none hDV nDR)
              · obtain ⟨d, nn, e, g, bb⟩ := s12.same upt
                exact ⟨d, nn, ks _ _ e aDR, by omega, bb⟩
              · have k13 := (kH11.trans (Keep.of u4)).trans (k12.trans (Keep.of upt))
                intro b o e nb
                have nD' : b ≠ DR := ne_of_none (kH9 b o e nb) nDR
                exact ks _ _ (k13 b o e nb) nD'
          · refine ⟨_, rfl, _, rfl, _, rfl, (by show 3 ≤ sizeLine; decide), fin _ rows (by omega) (by omega) hR11 (fun x hx => ?_) c11 v11 (s11.mono (by omega)) kH11⟩
            obtain ⟨h1, h2, h3, h4, h5⟩ := all x hx
            exact ⟨k11 _ _ h1 h4, h2, h3, h4⟩
end
end L2.LawH
set_option Elab.async false
set_option linter.all false
set_option maxRecDepth 100000
set_option maxHeartbeats 4000000
/-! The helpers of the laws: terms, patterns, lots. -/
namespace L2.LawH
open PySem PySem.Spec PyProof.Rows
open Builtin.Int (intBits)
abbrev sTerm : Stmt := top 24
abbrev sPat : Stmt := top 25
abbrev sLot : Stmt := top 27
/-! ### texts that can be compared -/
theorem ok_list {z : Str} (h : ∀ c ∈ z.cps.toList, c < 0x110000) : PyData.strOk z = true := by
  unfold PyData.strOk
  rw [← Array.all_toList, List.all_eq_true]
  exact fun c hc => decide_eq_true (h c hc)
theorem sgn_small {c : Nat} (h : isSgn c = true) : c < 0x110000 := by
  simp only [isSgn, isLet, Bool.or_eq_true, Bool.and_eq_true, decide_eq_true_eq] at h
  omega
theorem Nm.strOk {z : Str} (h : Nm z) : PyData.strOk z = true := by
  obtain ⟨h1, _, _⟩ := nm_sgns h
  exact ok_list fun c hc => sgn_small (List.all_eq_true.mp h1 c hc)
theorem Vr.strOk {z : Str} (h : Vr z) : PyData.strOk z = true := by
  obtain ⟨y, ny, rfl⟩ := h
  obtain ⟨h1, _, _⟩ := nm_sgns ny
  refine ok_list fun c hc => ?_
  rw [toList_append] at hc
  rcases List.mem_append.mp hc with hc | hc
  · have e1 : (Str.ofString "?").cps.toList = [63] := by decide +kernel
    rw [e1] at hc
    have e : c = 63 := by simpa using hc
    omega
  · exact sgn_small (List.all_eq_true.mp h1 c hc)
theorem dp_strs {K : PySem.W.Frag} {H : Hp} : ∀ zs : List Str, DpAll K H (zs.map V.str) (zs.map PyData.str)
  | [] => .nil
  | z :: zs => .cons (.str z) (dp_strs zs)
theorem lay_strs : ∀ zs : List Str, (PyData.list (zs.map PyData.str)).canLay0 = (zs.all PyData.strOk)
  | [] => rfl
  | z :: zs => by
    have ih := lay_strs zs
    simp only [PyData.canLay0, PyData.canLayAll0, List.map_cons, List.all_cons] at ih ⊢
    rw [ih]
theorem depth_strs : ∀ zs : List Str, (PyData.list (zs.map PyData.str)).depth ≤ 2
  | [] => by decide
  | z :: zs => by
    have ih := depth_strs zs
    simp only [PyData.depth, PyData.depthAll, List.map_cons] at ih ⊢
    omega
theorem shaped_strs {zs : List Str} (h : ∀ z ∈ zs, PyData.strOk z = true) : SeqAt.shaped (.list (zs.map PyData.str)) = true := by
  unfold SeqAt.shaped
  rw [lay_strs, List.all_eq_true.mpr h, Bool.true_and]
  exact decide_eq_true (Nat.le_trans (depth_strs zs) (by decide))
theorem eqv_nil : ∀ zs : List Str, PyData.eqv (.list (zs.map PyData.str)) (.list []) = decide (zs = [])
  | [] => by decide
  | z :: zs => by simp [PyData.eqv, PyData.eqvAll]

/-- a list of variables at q -/
structure VarsAt (a : Addr) (H : Hp) (q : Addr) (W : List Str) : Prop where
  hq : H q = some (.lst (W.map V.str))
  all : ∀ z ∈ W, Vr z
  few : W.length ≤ 100
  nq : q ≠ a
theorem VarsAt.keep {a : Addr} {H H' : Hp} {q : Addr} {W : List Str} (h : VarsAt a H q W) (k : Keep a H H') : VarsAt a H' q W := ⟨k _ _ h.hq h.nq, h.all, h.few, h.nq⟩
def spTerm : Sp := fun vs H Q _ => ∃ (a p q : Addr) (c : Int) (m : Nat) (sh : Int) (π : Pool) (W : List Str), vs = [.ref a, .ref p, .ref q, .int sh] ∧ SrcAt H a c (m + 3) ∧ PoolAt a H p π ∧ VarsAt a H q W ∧
  ∀ (z : Str) (H' : Hp), (z ∈ π.C ∨ z ∈ W) → SrcAt H' a c m → Keep a H H' → Q (.str z) H'
/-- a pattern over a pool and variables -/
structure PatOf (π : Pool) (W : List Str) (T : Str) (zs : List Str) : Prop where
  tab : ∃ x ∈ π.rows, x.2.1 = T ∧ zs.length = x.2.2
  trm : ∀ z ∈ zs, z ∈ π.C ∨ z ∈ W
def spPat : Sp := fun vs H Q _ => ∃ (a p q : Addr) (c : Int) (m : Nat) (sh : Int) (π : Pool) (W : List Str), vs = [.ref a, .ref p, .ref q, .int sh] ∧ SrcAt H a c (m + 20) ∧ PoolAt a H p π ∧ VarsAt a H q W ∧
  ∀ (t : Addr) (T : Str) (zs : List Str) (H' : Hp), PatOf π W T zs → H' t = some (.tup (.str T :: zs.map V.str)) → t ≠ a → SrcAt H' a c m → Keep a H H' → Q (.ref t) H'
section
variable {P : Program} {w : World} {K : PySem.W.Frag} {mg : Str → Option Value} {base : Heap}
abbrev nTerm : List Str := ["_law_source_here", "_law_pool_here", "_law_variables_here", "_law_share"]
theorem scT : FnScope nTerm nTerm (defScope sTerm) := ⟨rfl, rfl, rfl, by decide +kernel, rfl, by decide +kernel, by decide +kernel⟩
theorem ok_term {f fD : Addr} {fd fdD : FuncData} (F : Fun K "_law_term" "_law_term" sTerm f fd)
    (GD : FnOk P w K mg base CX0 1 fD fdD ["_law_source_here", "_law_limit"] spDraw) (kD : PySem.W.keepIn K (.ref fD) = true) (bD : Binds K fdD ["_law_source_here", "_law_limit"] []) (mD : mg "_law_draw" = some (.ref fD))
    (ml : mg "len" = none) : FnOk P w K mg base CX0 2 f fd nTerm spTerm := by
  refine F.ok scT (fun vs H Q E h => ?_) (fun cdv A outer s H vs Q E hr h => ?_)
  · obtain ⟨a, p, q, c, m, sh, π, W, rfl, _⟩ := h
    rfl
  · obtain ⟨a, p, q, c, m, sh, π, W, rfl, hs, hp, hv, k⟩ := h
    have hr1 : Room 1 _ := hr.mono (by decide)
    have hu := hr.units
    refine ⟨_, pss_cons (ps_if (PW.pt (pw_and (pt_cmpR (op_neD hu) (pv 2) (pe_lst pa_nil) (nomark _)) (pw_and1 (pt_cmpR op_lt (pe_call GD hr1 (by rfl) mD kD bD .nil pass0 (pa_cons (pv 0) (pa_cons pe_int pa_nil))) (pv 3) (nomark _)))))
        (pss_one (ps_ret (pe_ix ix_list (pv 2) (pe_call GD hr1 (by rfl) mD kD bD .nil pass0 (pa_cons (pv 0) (pa_cons (pe_callB call_len_seq (by rfl) ml (by decide +kernel) (pa_cons (pv 2) pa_nil)) pa_nil))) (fun _ _ => rfl)))) pss_nil)
      (pss_one (ps_ret (pe_ix ix_list (pe_ix ix_list (pv 1) pe_int (fun _ _ => rfl)) (pe_call GD hr1 (by rfl) mD kD bD .nil pass0 (pa_cons (pv 0) (pa_cons (pe_callB call_len_seq (by rfl) ml (by decide +kernel) (pa_cons (pe_ix ix_list (pv 1) pe_int (fun _ _ => rfl)) pa_nil)) pa_nil))) (fun _ _ => rfl)))), ?_⟩
    -- the second way
    have snd : ∀ H1, SrcAt H1 a c (m + 1) → Keep a H H1 → ∀ σ : List (Option V), σ = [some (.ref a), some (.ref p), some (.ref q), some (.int sh)] →
        tRet (tOp (rIxL K) (tOp (rIxL K) (tVar 1) (tC (.int 1))) (tCall spDraw [] E0 (tCons (tVar 0) (tCons (tCB (fun xs H Q => ∃ p ys, xs = [.ref p] ∧ (SqL K H p ys ∨ SqT K H p ys) ∧ Q (.int ys.length) H) (tCons (tOp (rIxL K) (tVar 1) (tC (.int 1))) tNil)) tNil))))
          { nx := fun _ H' => Q .non H', rt := Q } σ H1 := by
      rintro H1 s1 k1 σ rfl
      have p1 := hp.keep k1
      have lC : (π.C.map V.str).length = π.C.length := List.length_map _
      have c2 := π.C.length
      refine ⟨_, rfl, p, _, 1, _, rfl, rfl, SqL.of p1.hp, rfl, _, rfl, _, rfl, p, _, 1, _, rfl, rfl, SqL.of p1.hp, rfl, π.cs, _, rfl, .inl (SqL.of p1.hc), ?_⟩
      refine ⟨a, c, m, _, rfl, s1, by rw [lC]; have := hp.C2; omega, by rw [lC]; have := hp.C9; omega, fun r H2 r0 r1 s2 k2 => ?_⟩
      obtain ⟨j, rfl⟩ : ∃ j : Nat, r = j := ⟨r.toNat, by omega⟩
      rw [lC] at r1
      have hj : j < π.C.length := by omega
      exact ⟨π.cs, _, _, _, rfl, rfl, SqL.of (k2 _ _ p1.hc p1.nc), atI_nat (strs_get hj), k _ H2 (.inl (List.getElem_mem hj)) s2 (k1.trans k2)⟩
    refine ⟨_, rfl, (by show 0 ≤ sizeLine; decide), fun p0 n0 => ?_⟩
    have u0 := same_new (o := .lst []) n0
    have s0 := hs.same u0
    have hv0 := hv.keep (Keep.of u0)
    refine ⟨_, _, .lst (SqL.of hv0.hq) (dp_strs W), .lst (SqL.of upd_same) .nil, shaped_strs fun z hz => (hv.all z hz).strOk, by decide, _, rfl, ?_⟩
    rw [eqv_nil]
    by_cases e : W = []
    · rw [decide_eq_true e]
      refine iteF ?_
      refine iteF ?_
      exact snd _ (s0.mono (by omega)) (Keep.of u0) _ rfl
    · rw [decide_eq_false e]
      refine iteT ?_
      refine ⟨_, rfl, a, c, m + 2, 6, rfl, s0, by decide, by decide, fun r H1 r0 r1 s1 k1 => ?_⟩
      have hv1 := hv0.keep k1
      refine ⟨_, rfl, _, _, rfl, rfl, _, rfl, ?_⟩
      refine ite2 (fun _ => ?_) (fun _ => ?_)
      · have lW : (W.map V.str).length = W.length := List.length_map _
        have W0 : 0 < W.length := List.length_pos_iff.mpr e
        refine ⟨_, rfl, _, rfl, _, rfl, q, _, rfl, .inl (SqL.of hv1.hq), ?_⟩
        refine ⟨a, c, m + 1, _, rfl, s1, by rw [lW]; omega, by rw [lW]; have := hv.few; omega, fun r2 H2 r20 r21 s2 k2 => ?_⟩
        obtain ⟨j, rfl⟩ : ∃ j : Nat, r2 = j := ⟨r2.toNat, by omega⟩
        rw [lW] at r21
        have hj : j < W.length := by omega
        exact ⟨q, _, _, _, rfl, rfl, SqL.of (k2 _ _ hv1.hq hv.nq), atI_nat (strs_get hj), k _ H2 (.inr (List.getElem_mem hj)) (s2.mono (by omega)) (((Keep.of u0).trans k1).trans k2)⟩
      · exact snd _ (s1.mono (by omega)) ((Keep.of u0).trans k1) _ rfl
abbrev nPat : List Str := ["_law_source_here", "_law_pool_here", "_law_variables_here", "_law_share", "_law_table", "_law_size", "_law_k"]
theorem scPt : FnScope nPat nTerm (defScope sPat) := ⟨rfl, rfl, rfl, by decide +kernel, rfl, by decide +kernel, by decide +kernel⟩
theorem ok_pat {f fD fT : Addr} {fd fdD fdT : FuncData} (F : Fun K "_law_pattern" "_law_pattern" sPat f fd)
    (GD : FnOk P w K mg base CX0 1 fD fdD ["_law_source_here", "_law_limit"] spDraw) (kD : PySem.W.keepIn K (.ref fD) = true) (bD : Binds K fdD ["_law_source_here", "_law_limit"] []) (mD : mg "_law_draw" = some (.ref fD))
    (GT : FnOk P w K mg base CX0 2 fT fdT nTerm spTerm) (kT : PySem.W.keepIn K (.ref fT) = true) (bT : Binds K fdT nTerm []) (mT : mg "_law_term" = some (.ref fT))
    (ml : mg "len" = none) (mr : mg "range" = none) (mt : mg "tuple" = none) : FnOk P w K mg base CX0 3 f fd nTerm spPat := by
  refine F.ok scPt (fun vs H Q E h => ?_) (fun cdv A outer s H vs Q E hr h => ?_)
  · obtain ⟨a, p, q, c, m, sh, π, W, rfl, _⟩ := h
    rfl
  · obtain ⟨a, p, q, c, m, sh, π, W, rfl, hs, hp, hv, k⟩ := h
    have hr1 : Room 1 _ := hr.mono (by decide)
    refine ⟨_, pss_cons (ps_asg (pe_ix ix_list (pe_ix ix_list (pv 1) pe_int (fun _ _ => rfl)) (pe_call GD hr1 (by rfl) mD kD bD .nil pass0 (pa_cons (pv 0) (pa_cons (pe_callB call_len_seq (by rfl) ml (by decide +kernel) (pa_cons (pe_ix ix_list (pv 1) pe_int (fun _ _ => rfl)) pa_nil)) pa_nil))) (fun _ _ => rfl))
        (pg_tup (by rfl) (pgs_cons (pg_name (i := 4) scPt.nd rfl (Or.inl rfl)) (pgs_cons (pg_name (i := 5) scPt.nd rfl (Or.inl rfl)) pgs_nil))))
      (pss_one (ps_ret (pe_callTy call_tuple_of (by rfl) mt (by decide +kernel) (pa_cons (pe_op op_cat (pe_lst (pa_cons (pv 4) pa_nil))
        (pe_lc (own := [("_law_k", 6)]) (g := gName 6) (tt := tYes) rfl scPt.nd (pi_range1 (by rfl) mr (pa_cons (pv 5) pa_nil))
          (blkOk_by (own := [("_law_k", 6)]) (N := nPat) (sc := defScope sPat) (by decide +kernel)) (fun _ _ _ _ _ => pg_name (i := 6) scPt.nd rfl (Or.inl rfl)) (fun _ _ _ _ _ => pts_nil)
          (fun _ _ _ _ _ => pe_call GT hr (by rfl) mT kT bT .nil pass0 (pa_cons (pv 0) (pa_cons (pv 1) (pa_cons (pv 2) (pa_cons (pv 3) pa_nil))))))) pa_nil)))), ?_⟩
    have lR : (π.rows.map fun x => V.ref x.1).length = π.rows.length := List.length_map _
    refine ⟨_, rfl, p, _, 0, _, rfl, rfl, SqL.of hp.hp, rfl, _, rfl, _, rfl, p, _, 0, _, rfl, rfl, SqL.of hp.hp, rfl, π.r, _, rfl, .inl (SqL.of hp.hr), ?_⟩
    refine ⟨a, c, m + 19, _, rfl, hs, by rw [lR]; have := hp.rows1; omega, by rw [lR]; have := hp.rows9; omega, fun r H1 r0 r1 s1 k1 => ?_⟩
    obtain ⟨j, rfl⟩ : ∃ j : Nat, r = j := ⟨r.toNat, by omega⟩
    rw [lR] at r1
    have hj : j < π.rows.length := by omega
    have hp1 := hp.keep k1
    have hv1 := hv.keep k1
    have hx : (π.rows.map fun x => V.ref x.1)[j]? = some (.ref π.rows[j].1) := by
      rw [List.getElem?_map, List.getElem?_eq_getElem hj]
      rfl
    have mx : π.rows[j] ∈ π.rows := List.getElem_mem hj
    obtain ⟨t1, nT, n3, nx⟩ := hp1.hrow _ mx
    refine ⟨π.r, _, _, _, rfl, rfl, SqL.of hp1.hr, atI_nat hx, _, _, rfl, SqT.of t1, rfl, _, _, rfl, _, _, rfl, rfl, ?_⟩
    -- tuple([table] + [..])
    refine ⟨_, rfl, (by show 1 ≤ sizeLine; decide), fun pA nA => ?_⟩
    have uA := same_new (o := .lst [V.str π.rows[j].2.1]) nA
    have zA := s1.ne nA
    refine ⟨_, rfl, _, rfl, by omega, by omega, fun D nD => ?_⟩
    have sA := s1.same uA
    have zD := sA.ne nD
    rw [Int.toNat_natCast]
    refine lc_range (lo := 0) (n := π.rows[j].2.2) (fun i H5 => ∃ zs : List Str, zs.length = i ∧ (∀ z ∈ zs, z ∈ π.C ∨ z ∈ W) ∧ H5 D = some (.lst (zs.map V.str)) ∧ SrcAt H5 a c (m + 19 - 3 * i) ∧ Keep a H H5 ∧ H5 pA = some (.lst [V.str π.rows[j].2.1]))
      ⟨[], rfl, fun _ z => (by cases z), upd_same, sA.same (same_new nD), (k1.trans (Keep.of uA)).trans (Keep.of (same_new nD)), (same_new nD) _ _ upd_same⟩ ?_ ?_
    · rintro i H5 hi ⟨zs, lz, hz, hD, s5, k5, a5⟩
      refine ⟨rfl, ?_⟩
      dsimp only [tYes]
      rw [if_pos rfl]
      have s5' : SrcAt H5 a c (m + 19 - 3 * (i + 1) + 3) := s5.mono (by omega)
      refine ⟨_, rfl, _, rfl, _, rfl, _, rfl, a, p, q, c, m + 19 - 3 * (i + 1), sh, π, W, rfl, s5', hp.keep k5, hv.keep k5, fun z H6 hz6 s6 k6 => ?_⟩
      refine ⟨_, k6 _ _ hD zD, ?_, zs ++ [z], by simp [lz], fun y hy => ?_, by rw [upd_same]; simp, ?_, ?_, ?_⟩
      · rw [List.length_map, lz, sizeLine_eq]
        omega
      · rcases List.mem_append.mp hy with hy | hy
        · exact hz y hy
        · have e : y = z := by simpa using hy
          rw [e]
          exact hz6
      · obtain ⟨d, nn, e, g⟩ := s6
        exact ⟨d, nn, by rw [upd_ne zD.symm]; exact e, g⟩
      · intro b o e nb
        have hb : b ≠ D := ne_of_none ((k1.trans (Keep.of uA)) b o e nb) nD
        rw [upd_ne hb]
        exact (k5.trans k6) b o e nb
      · have aD : pA ≠ D := ne_of_none (upd_same (H := H1) (o := .lst [V.str π.rows[j].2.1])) nD
        rw [upd_ne aD]
        exact k6 _ _ a5 zA
    · rintro H5 ⟨zs, lz, hz, hD, s5, k5, a5⟩
      refine ⟨pA, D, _, _, rfl, rfl, a5, hD, ?_, fun pL nL => ?_⟩
      · rw [List.length_map, lz, sizeLine_eq]
        show 1 + _ ≤ _
        omega
      have uL := same_new (o := .lst ([V.str π.rows[j].2.1] ++ zs.map V.str)) nL
      refine ⟨pL, _, rfl, .inl ⟨SqL.of upd_same, fun pt npt => ?_⟩⟩
      have ut := same_new (o := .tup ([V.str π.rows[j].2.1] ++ zs.map V.str)) npt
      have s6 := (s5.same uL).same ut
      exact k pt _ zs _ ⟨⟨_, mx, rfl, lz⟩, hz⟩ upd_same ((s5.same uL).ne npt) (s6.mono (by omega)) ((k5.trans (Keep.of uL)).trans (Keep.of ut))
end
end L2.LawH
set_option Elab.async false
set_option linter.all false
set_option maxRecDepth 100000
set_option maxHeartbeats 4000000
/-! Sets whose members have a key (texts, numbers): what they hold, in any order; adding; walking them; sorting sets of texts. -/
namespace L2.GSet
open PySem PySem.Spec PyProof.Rows
section
variable {P : Program} {w : World} {κ : Type} [DecidableEq κ]
/-- a set's payload holds the keys ks, and its table can be walked -/
structure Pay (kd : PySem.KeyKind P w κ) (key : Value → κ) (es : Array (Int × Value)) (t : SetTable) (ks : List κ) : Prop where
  el : ElemsOf kd es.toList
  pm : (es.toList.map fun e => key e.2).Perm ks
  few : es.size < scanBound
  fit : t.fits es.size = true
  ris : Ris t.place.toList
  led : w.params.followText "set-order" = true ∨ t.led = true
def GAt (kd : PySem.KeyKind P w κ) (key : Value → κ) (h : Heap) (a : Addr) (ks : List κ) : Prop :=
  ∃ o es ep t, h.get? a = some o ∧ o.ExactSet ∧ o.data = .set es ep t ∧ Pay kd key es t ks
variable {kd : PySem.KeyKind P w κ} {key : Value → κ} {es : Array (Int × Value)} {t : SetTable} {ks : List κ} {h h' : Heap} {a : Addr}
theorem GAt.keep (R : GAt kd key h a ks) (k : ∀ o, h.get? a = some o → h'.get? a = some o) : GAt kd key h' a ks :=
  let ⟨o, es, ep, t, ho, r⟩ := R
  ⟨o, es, ep, t, k o ho, r⟩
theorem GAt.some (R : GAt kd key h a ks) : ∃ o, h.get? a = some o := let ⟨o, _, _, _, ho, _⟩ := R; ⟨o, ho⟩
theorem Pay.size (p : Pay kd key es t ks) : es.size = ks.length := by
  have q := p.pm.length_eq
  rwa [List.length_map, Array.length_toList] at q
theorem Pay.is (hk : ∀ k v, kd.is k v = true → key v = k) (p : Pay kd key es t ks) {e : Int × Value} (he : e ∈ es.toList) (k : κ) : kd.is k e.2 = true ↔ key e.2 = k := by
  obtain ⟨⟨k', i, _⟩, _⟩ := p.el e he
  refine ⟨hk k _, fun z => ?_⟩
  rw [← z, hk k' _ i]
  exact i
theorem Pay.mem (hk : ∀ k v, kd.is k v = true → key v = k) (p : Pay kd key es t ks) (k : κ) : k ∈ ks ↔ ∃ e ∈ es.toList, kd.is k e.2 = true := by
  rw [← p.pm.mem_iff, List.mem_map]
  exact ⟨fun ⟨e, m, q⟩ => ⟨e, m, (p.is hk m k).2 q⟩, fun ⟨e, m, q⟩ => ⟨e, m, (p.is hk m k).1 q⟩⟩
end
section
variable {P : Program} {w : World} {κ : Type} [DecidableEq κ] {kd : PySem.KeyKind P w κ} {key : Value → κ} {A : Around} {E : Value → Shared → Prop} {s : Shared} {a : Addr} {ks : List κ}
/-- laying the payload down, with the growing behind it -/
theorem lay_down {grow : Bool → Sem Unit} (hgrow : ∀ (b : Bool) (s1 : Shared) (C : Unit → Shared → Prop), C () s1 → wpAny (model P w) A (grow b) C E s1)
    {o : Obj} {es0 es : Array (Int × Value)} {ep : Nat} {t0 t : SetTable} (ho : s.heap.get? a = some o) (ox : o.ExactSet) (od : o.data = .set es0 ep t0) (p : Pay kd key es t ks) {wd : Bool} {R : Option Bool → Shared → Prop}
    (hR : ∀ h', Heap.SameBut a s.heap h' → GAt kd key h' a ks → R (some true) { s with heap := h' }) :
    wpAny (model P w) A (do
        storeSet a es t
        if (!wd && t.tooFull) = true then do
            grow (relayAll t es (SetTable.grown es.size)).2.2
            storeSet a (relayAll t es (SetTable.grown es.size)).1 (relayAll t es (SetTable.grown es.size)).2.1
            pure (some true)
          else pure (some true)) R E s := by
  have b1 := Heap.SameBut.update s.heap a (Obj.putSet es t)
  have o1 := PpSet.storeB_at (es' := es) (t' := t) ho od
  refine wpAny_bind (wpAny_storeSet_of ho od ?_ (fits_of_scanBound p.few))
  split
  · have q1 := relayAll_perm t es (SetTable.grown es.size)
    have q2 := relayAll_fits t es (SetTable.grown es.size)
    have q3 := relayAll_ris t es (SetTable.grown es.size)
    have q4 := relayAll_led t es (SetTable.grown es.size)
    cases e : relayAll t es (SetTable.grown es.size) with
    | mk es2 rest =>
      obtain ⟨t2, gw⟩ := rest
      rw [e] at q1 q2 q3 q4
      have zz : es2.size = es.size := by
        have := q1.length_eq
        rwa [Array.length_toList, Array.length_toList] at this
      have p2 : Pay kd key es2 t2 ks := ⟨p.el.perm q1, (q1.map _).trans p.pm, by rw [zz]; exact p.few, q2, q3, p.led.imp id fun z => q4.trans z⟩
      have o2 := PpSet.storeB_at (es' := es2) (t' := t2) o1 rfl
      refine wpAny_bind (hgrow _ _ _ (wpAny_bind (wpAny_storeSet_of o1 rfl (wpAny_pure (hR _ (b1.trans (Heap.SameBut.update _ a _)) ⟨_, es2, _, t2, o2, ox, rfl, p2⟩)) (fits_of_scanBound p2.few))))
  · exact wpAny_pure (hR _ b1 ⟨_, es, _, t, o1, ox, rfl, p⟩)
theorem add_hashed (hk : ∀ k v, kd.is k v = true → key v = k) {k : κ} {x : Value} {Q : Bool → Shared → Prop} (hx : kd.is k x = true) (hsc : x.scannable = true) (R : GAt kd key s.heap a ks) (room : ks.length + 1 < scanBound)
    (hQ : ∀ b h', Heap.SameBut a s.heap h' → GAt kd key h' a (if k ∈ ks then ks else ks ++ [k]) → Q b { s with heap := h' }) :
    wpAny (model P w) A (setAddHashed a x (kd.hash k)) Q E s := by
  obtain ⟨o, es, ep, t, ho, ox, od, p⟩ := R
  unfold setAddHashed setAddHashedIn
  refine wpAny_holding (wpAny_bind (wpAny_setState_of ho od p.fit ?_))
  dsimp only
  rw [byScan_of hsc p.few p.el, if_pos rfl]
  unfold setAddByScan
  refine wpAny_bind (wpAny_bind (wpAny_rule (wpAny_bind (wpAny_setScan_of hx ho od p.fit p.el ?_))))
  cases fi : List.findIdx? (fun e => kd.is k e.2) es.toList with
  | some j =>
    obtain ⟨lj, ij, _⟩ := List.findIdx?_eq_some_iff_getElem.mp fi
    have mk : k ∈ ks := (p.mem hk k).2 ⟨_, List.getElem_mem lj, ij⟩
    have q := hQ false s.heap (Heap.SameBut.refl a s.heap) ⟨o, es, ep, t, ho, ox, od, by rw [if_pos mk]; exact p⟩
    exact wpAny_pure (wpAny_pure q)
  | none =>
    have mk : k ∉ ks := fun z => by
      obtain ⟨e, he, i⟩ := (p.mem hk k).1 z
      have c := List.findIdx?_eq_none_iff.mp fi e he
      rw [i] at c
      exact Bool.noConfusion c
    dsimp only
    have q1 := layNew_perm t es (kd.hash k) x
    have q2 := layNew_fits t es (kd.hash k) x
    have q3 := layNew_ris t es (kd.hash k) x p.ris
    have q4 := layNew_led t es (kd.hash k) x
    generalize layNew t es (kd.hash k) x = Z at q1 q2 q3 q4 ⊢
    obtain ⟨es1, t1, wd, gw⟩ := Z
    dsimp only at q1 q2 q3 q4 ⊢
    rw [Array.toList_push] at q1
    have zz : es1.size = ks.length + 1 := by
      have z := q1.length_eq
      rw [List.length_append, Array.length_toList, Array.length_toList, p.size] at z
      exact z
    have pay : ∀ t' : SetTable, t'.fits es1.size = true → Ris t'.place.toList → t'.led = t.led → Pay kd key es1 t' (ks ++ [k]) := fun t' f r l =>
      ⟨(p.el.push hx hsc).perm q1, by
        have z := q1.map fun e => key e.2
        rw [List.map_append, List.map_cons, List.map_nil, hk k x hx] at z
        exact z.trans (p.pm.append_right _), by rw [zz]; exact room, f, r, p.led.imp id fun z => l.trans z⟩
    have fin : ∀ h', Heap.SameBut a s.heap h' → GAt kd key h' a (ks ++ [k]) → Q true { s with heap := h' } := fun h' sb g => hQ true h' sb (by rw [if_neg mk]; exact g)
    have gives : ∀ (b : Bool) (s1 : Shared) (C : Unit → Shared → Prop), C () s1 → wpAny (model P w) A (match b with | true => rule "set.scan.the-table-gave-way" | false => pure ()) C E s1 := fun b s1 C q => by
      cases b
      · exact wpAny_pure q
      · exact wpAny_rule q
    refine wpAny_bind (gives _ _ _ ?_)
    split
    · refine wpAny_bind ?_
      rw [hashByValue_scannable 8 hsc]
      refine wpAny_pure (lay_down gives ho ox od (pay _ ?_ ?_ ?_) fun h' sb g => wpAny_pure (fin h' sb g))
      · split
        · exact q2
        · exact SetTable.fits_plain_off q2
      · split <;> exact q3
      · split <;> exact q4
    · refine wpAny_bind (wpAny_pure ?_)
      simp only [↓reduceIte]
      exact lay_down gives ho ox od (pay _ q2 q3 q4) fun h' sb g => wpAny_pure (fin h' sb g)
/-- a.add(x) -/
theorem add_call (hk : ∀ k v, kd.is k v = true → key v = k) {k : κ} {x : Value} {Q : Value → Shared → Prop} (hx : kd.is k x = true) (hsc : x.scannable = true) (R : GAt kd key s.heap a ks) (room : ks.length + 1 < scanBound)
    (hQ : ∀ h', Heap.SameBut a s.heap h' → GAt kd key h' a (if k ∈ ks then ks else ks ++ [k]) → Q .none { s with heap := h', toks := s.toks + 1 }) :
    wpAny (model P w) A (call (.builtin "set.add") [.ref a, x]) Q E s := by
  have ty : s.TypeIs (.ref a) "set" := by
    obtain ⟨o, es, ep, t, ho, ox, _⟩ := R
    exact ⟨o, ho, ox.1⟩
  refine wpAny_call_entry F.slot_set_add ty F.entry_set_add ?_ (F.args_set_add_2 _ _)
  unfold Builtin.«set.add» Builtin.Frozenset.oneOther Builtin.Frozenset.addrOf setAdd
  simp only [List.isEmpty_nil, bind_assoc]
  refine wpAny_bind (wpAny_pure (wpAny_bind (wpAny_pure (wpAny_bind (wpAny_holding (wpAny_bind (kd.pyHash hx ?_)))))))
  exact add_hashed (s := { s with toks := s.toks + 1 }) hk hx hsc R room fun b h' sb g => wpAny_pure ⟨_, rfl, hQ h' sb g⟩
theorem fresh (h : Heap) : GAt kd key (h.push { cls := .type "set", dict := none, data := .set #[] 0 (.fresh 0 0 (!w.params.followText "set-order")) }) h.objs.size [] := by
  refine ⟨_, #[], 0, _, Heap.get?_push_size _ rfl, ⟨rfl, rfl, rfl⟩, rfl, ⟨fun e z => by simp at z, .nil, by decide, rfl, List.Pairwise.nil, ?_⟩⟩
  show _ ∨ (!w.params.followText "set-order") = true
  cases w.params.followText "set-order"
  · exact .inr rfl
  · exact .inl rfl
end
end L2.GSet
set_option Elab.async false
set_option linter.all false
set_option maxRecDepth 100000
set_option maxHeartbeats 4000000
/-! Comprehensions of any kind with one or two `for`s, by what is laid ahead of them and what a turn's end does. -/
namespace L2.Cmp
open PySem PySem.Spec PyProof.Rows
/-- a turn's shape -/
def turnOf (tg : Expr) (ifs : List Expr) (p : Pos) (it : Value) (env : Env) (tail : Bool → Sem PySem.Fin) : Sem PySem.Fin := do
  standAt p
  match ← pyNext it with
  | none => pure (.done .next)
  | some v =>
    letOwnedTupleGo tg it v
    assign tg env v
    let ok ← forIn ifs true fun c r => if r = true then do let ok ← isTrue c env (eval c env); pure (ForInStep.yield ok) else pure (ForInStep.yield r)
    tail ok
/-- the innermost turn's end -/
def tailIn (em : Sem Unit) (cd : Code) : Bool → Sem PySem.Fin := fun ok => if ok = true then em >>= fun _ => again cd else again cd
/-- the outer one's: the second source is walked -/
def tailOut (node i1 : Expr) (acc : Value) (env : Env) (cd : Code) : Bool → Sem PySem.Fin := fun ok => if ok = true then do
    let x ← eval i1 env
    standAt i1.pos
    let x ← foldedSetIterable i1 env x
    let _ ← runOwn (.compStart node 1 (← holding [x] (pyIter x)) acc env) env
    again cd
  else again cd
/-- a set's, a list's or a dict's comprehension -/
def IsC (node : Expr) : Prop := (∃ e gs sc p, node = .SetComp e gs sc p) ∨ (∃ e gs sc p, node = .ListComp e gs sc p) ∨ ∃ k v gs sc p, node = .DictComp k v gs sc p
theorem IsC.den {prog : Program} {w : World} {node : Expr} (c : IsC node) (lvl : Nat) (it acc : Value) (env : Env) (A : Around) :
    (A.under (.compLoop node lvl it acc env) = A ∧ (model prog w).den (.compLoop node lvl it acc env) = (compTurn node lvl it acc env).onRaise (fun x => do noteFrame x env; theTreesLotGoes x) ∧ (Code.compLoop node lvl it acc env).quiet = true) ∧
    (A.under (.compStart node lvl it acc env) = A ∧ (model prog w).den (.compStart node lvl it acc env) = (compStart node lvl it acc env).onRaise (fun x => do noteFrame x env; standAt theWindowsPlace)) := by
  rcases c with ⟨e, gs, sc, p, rfl⟩ | ⟨e, gs, sc, p, rfl⟩ | ⟨k, v, gs, sc, p, rfl⟩ <;> exact ⟨⟨rfl, rfl, rfl⟩, rfl, rfl⟩
abbrev nil2 : Value → Shared → Prop := fun _ _ => False
theorem loop_any {prog : Program} {w : World} {A : Around} {R : Result → Shared → Prop} {s : Shared} {node : Expr} {lvl : Nat} {it acc : Value} {env : Env} (ic : IsC node) (Iv : Nat → Shared → Prop)
    (turn : ∀ n s, Iv n s → wpAny (model prog w) A (compTurn node lvl it acc env) (fun fin s' => match fin with | .done f => R (.ok f) s' | .again c' => c' = Code.compLoop node lvl it acc env ∧ ∃ m, m < n ∧ Iv m s') nil2 s)
    (n : Nat) (h : Iv n s) : codeAny (model prog w) A (.compLoop node lvl it acc env) R s := by
  obtain ⟨d1, d2, d3⟩ := (ic.den (prog := prog) (w := w) lvl it acc env A).1
  refine codeAny_loop d3 Iv (fun n s hI => ?_) n h
  rw [d1, d2]
  exact wpAny_noted (wpAny_mono (turn n s hI) (fun _ _ z => z) fun _ _ z => z.elim)
theorem start_any {prog : Program} {w : World} {A : Around} {R : Result → Shared → Prop} {s : Shared} {node tg iter : Expr} {ifs : List Expr} {lvl : Nat} {it acc : Value} {env : Env} (ic : IsC node) (hcl : (clausesOf node)[lvl]? = some ⟨tg, iter, ifs, 0⟩)
    (h0 : codeAny (model prog w) A (.compLoop node lvl it acc env) R s)
    (h : wpAny (model prog w) A (pyIter it) (fun it' s' => codeAny (model prog w) A (.compLoop node lvl it' acc env) R s') nil2 s) :
    codeAny (model prog w) A (.compStart node lvl it acc env) R s := by
  obtain ⟨d1, d2⟩ := (ic.den (prog := prog) (w := w) lvl it acc env A).2
  have qu : ∀ it', (Code.compLoop node lvl it' acc env).quiet = true := fun it' => (ic.den (prog := prog) (w := w) lvl it' acc env A).1.2.2
  refine codeAny_of_tree ?_
  rw [d1, d2]
  refine wpAny_notedAt ?_
  unfold compStart
  rw [hcl]
  show wpAny _ _ (ask >>= _) _ _ s
  refine wpAny_bind (wpAny_askSetting (wpAny_ite ?_))
  split
  · first
      | exact wpAny_bind (wpAny_pure (wpAny_pure (And.intro (qu _) h0)))
      | exact wpAny_pure (And.intro (qu _) h0)
  · refine wpAny_bind (wpAny_rule ?_)
    show wpAny _ _ (standAt iter.pos >>= _) _ _ s
    exact wpAny_bind (wpAny_standAt (wpAny_bind (wpAny_mono h (fun it' s' h' => wpAny_pure (And.intro (qu _) h')) fun _ _ z => z.elim)))
/-- what the end of a turn reaches from the slots σ: it forgets at most vs -/
def Past (B : Cx) (pins : List (Addr × Obj)) (vs : List Nat) (σ : List (Option V)) (C : Hp → Prop) (s' : Shared) : Prop :=
  ∃ σ' H', Inv B pins σ' H' s' ∧ σ'.length = σ.length ∧ (∀ (j : Nat) v, j ∉ vs → σ[j]? = some (some v) → σ'[j]? = some (some v)) ∧ C H'
abbrev TAc := List (Option V) → Hp → (Hp → Prop) → Prop
/-- the walk of one clause, as it is read -/
def Walk (J : It) (g : TG) (tt : TT) (ta : TAc) (vs : List Nat) (σ : List (Option V)) (Done : Hp → Prop) (H0 : Hp) : Prop :=
  ∃ W : Nat → Nat → Hp → Prop, (∃ m, W 0 m H0) ∧ ∀ i m H, W i m H → (J.stop i H ∧ Done H) ∨ (J.go i H ∧ ∃ Nx : Hp → Prop, (∀ H', Nx H' → ∃ m', m' < m ∧ W (i + 1) m' H') ∧
    ∀ x H', J.yld i H x H' → g x (wipe σ vs) H' fun σ2 H2 => wipe σ2 vs = wipe σ vs ∧ tt σ2 H2 fun b H3 => if b = true then ta σ2 H3 Nx else Nx H3)
section
variable {B : Cx} {pins : List (Addr × Obj)} {it : Addr} {fp : List Addr} {tn : Nat → Heap → Prop} {J : It} {vs : List Nat} {σ : List (Option V)} {tg : Expr} {ifs : List Expr} {g : TG} {tt : TT} {ta : TAc} {p : Pos} {tail : Bool → Sem PySem.Fin} {cd : Code}
theorem turn_ok (hx : B.xe = nil2) (hc : B.calm = true) (T : Turn B.prog B.w B.K tg J fp it tn) (pg : PG B tg g) (pt : PTs B ifs tt) (stat : ∀ H', (∀ b ∈ fp, H' b = none) → ∀ b ∈ fp, FpOk B pins H' b)
    (act : ∀ (pl : List (Addr × Obj)) s σ H C, Inv B pl σ H s → ta σ H C → wpAny (model B.prog B.w) B.A (tail true) (fun fin s' => fin = .again cd ∧ Past B pl vs σ C s') nil2 s) (no : tail false = again cd)
    {R : Result → Shared → Prop} {W : Nat → Nat → Hp → Prop} {Done : Hp → Prop} (hd : ∀ s' H', Inv B pins (wipe σ vs) H' s' → Done H' → R (.ok .next) s')
    (turn : ∀ i m H, W i m H → (J.stop i H ∧ Done H) ∨ (J.go i H ∧ ∃ Nx : Hp → Prop, (∀ H', Nx H' → ∃ m', m' < m ∧ W (i + 1) m' H') ∧
      ∀ x H', J.yld i H x H' → g x (wipe σ vs) H' fun σ2 H2 => wipe σ2 vs = wipe σ vs ∧ tt σ2 H2 fun b H3 => if b = true then ta σ2 H3 Nx else Nx H3)) (n : Nat) (s : Shared)
    (start : ∃ i H', Inv B pins (wipe σ vs) H' s ∧ tn i s.heap ∧ (∀ b ∈ fp, H' b = none) ∧ W i n H') :
    wpAny (model B.prog B.w) B.A (turnOf tg ifs p (.ref it) B.env tail) (fun fin s' => match fin with | .done f => R (.ok f) s' | .again c' => c' = cd ∧ ∃ m, m < n ∧ ∃ i H', Inv B pins (wipe σ vs) H' s' ∧ tn i s'.heap ∧ (∀ b ∈ fp, H' b = none) ∧ W i m H') nil2 s := by
  obtain ⟨i, H5, I5, st5, n5, w5⟩ := start
  unfold turnOf
  refine wpAny_bind (wpAny_standAt (wpAny_bind ?_))
  rcases turn i n H5 w5 with ⟨stop, dn⟩ | ⟨go, Nx, hNx, step⟩
  · refine thnF (T.done B rfl rfl rfl hc i pins s _ H5 nil2 I5 (stat _ n5) st5 stop) fun r s6 ⟨hr, I6⟩ => ?_
    subst hr
    exact wpAny_pure (hd _ _ I6 dn)
  · refine thnF (T.item B rfl rfl rfl hc i pins s _ H5 nil2 I5 (stat _ n5) st5 go) fun r s6 ⟨u, hr, h6⟩ => ?_
    subst hr
    refine wpAny_bind (thnF h6 fun _ s7 ⟨x, H7, I7, r7, y7, st7, n7⟩ => ?_)
    have a1 := pg.run _ s7 _ H7 x u _ (I7.pinned (stat _ n7) (T.obj _ _ st7)) r7 (step x H7 y7)
    rw [hx] at a1
    refine wpAny_bind (thnF a1 fun _ s8 ⟨σ8, H8, I8, hw8, q8⟩ => ?_)
    have a2 := pt.run _ s8 σ8 H8 _ I8 q8
    rw [hx] at a2
    refine wpAny_bind (thnF a2 fun b s9 ⟨H9, I9, q9⟩ => ?_)
    have fin : ∀ s', Past B (pins ++ pinsAt fp s7.heap) vs σ8 Nx s' → ∃ m, m < n ∧ ∃ i H', Inv B pins (wipe σ vs) H' s' ∧ tn i s'.heap ∧ (∀ b ∈ fp, H' b = none) ∧ W i m H' := by
      rintro s' ⟨σ', H', I', hl, hk, nx⟩
      obtain ⟨m, lt, wm⟩ := hNx H' nx
      have there : ∀ b ∈ fp, ∀ o, s7.heap.get? b = some o → s'.heap.get? b = some o ∧ H' b = none := fun b hb o e =>
        let z := I'.pin (b, o) (List.mem_append_right _ (List.mem_append_right _ (mem_pinsAt hb e)))
        ⟨z.1, z.2.1⟩
      refine ⟨m, lt, i + 1, H', I'.unpinned.weak ?_ ?_, T.keep _ _ _ st7 fun b hb o e => (there b hb o e).1, fun b hb => ?_, wm⟩
      · rw [hl, ← hw8, wipe_length]
      · intro j v e
        rw [← hw8] at e
        exact hk j v (wipe_some e).2 (wipe_some e).1
      · obtain ⟨o, e, _⟩ := T.obj _ _ st7 b hb
        exact (there b hb o e).2
    cases b with
    | false =>
      rw [no]
      exact wpAny_pure ⟨rfl, fin _ ⟨σ8, H9, I9, rfl, fun _ _ _ e => e, q9⟩⟩
    | true =>
      refine wpAny_mono (act _ s9 σ8 H9 _ I9 q9) (fun f s' z => ?_) fun _ _ z => z.elim
      obtain ⟨rfl, pa⟩ := z
      exact ⟨rfl, fin _ pa⟩
/-- the whole loop of a clause -/
theorem clause_ok {node : Expr} {lvl : Nat} {acc : Value} (ic : IsC node) (ht : compTurn node lvl (.ref it) acc B.env = turnOf tg ifs p (.ref it) B.env tail) (hcd : cd = .compLoop node lvl (.ref it) acc B.env)
    (hx : B.xe = nil2) (hc : B.calm = true) (T : Turn B.prog B.w B.K tg J fp it tn) (pg : PG B tg g) (pt : PTs B ifs tt) (stat : ∀ H', (∀ b ∈ fp, H' b = none) → ∀ b ∈ fp, FpOk B pins H' b)
    (act : ∀ (pl : List (Addr × Obj)) s σ H C, Inv B pl σ H s → ta σ H C → wpAny (model B.prog B.w) B.A (tail true) (fun fin s' => fin = .again cd ∧ Past B pl vs σ C s') nil2 s) (no : tail false = again cd)
    {R : Result → Shared → Prop} {Done : Hp → Prop} (hd : ∀ s' H', Inv B pins (wipe σ vs) H' s' → Done H' → R (.ok .next) s')
    {H0 : Hp} (wk : Walk J g tt ta vs σ Done H0) {s : Shared} (I : Inv B pins (wipe σ vs) H0 s) (st : tn 0 s.heap) (n0 : ∀ b ∈ fp, H0 b = none) :
    codeAny (model B.prog B.w) B.A (.compLoop node lvl (.ref it) acc B.env) R s := by
  obtain ⟨W, ⟨m0, w0⟩, turn⟩ := wk
  subst hcd
  refine loop_any ic (fun n s' => ∃ i H', Inv B pins (wipe σ vs) H' s' ∧ tn i s'.heap ∧ (∀ b ∈ fp, H' b = none) ∧ W i n H') (fun n s' z => ?_) m0 ⟨0, H0, I, st, n0, w0⟩
  rw [ht]
  exact turn_ok hx hc T pg pt stat act no hd turn n s' z
/-- the end of an innermost turn, by what the code em does -/
theorem act_in {em : Sem Unit} (h : ∀ (pl : List (Addr × Obj)) s σ H C, Inv B pl σ H s → ta σ H C → wpAny (model B.prog B.w) B.A em (fun _ s' => ∃ H', Inv B pl σ H' s' ∧ C H') nil2 s) :
    ∀ (pl : List (Addr × Obj)) s σ H C, Inv B pl σ H s → ta σ H C → wpAny (model B.prog B.w) B.A (tailIn em cd true) (fun fin s' => fin = .again cd ∧ Past B pl vs σ C s') nil2 s := by
  intro pl s σ H C I q
  show wpAny _ _ (em >>= fun _ => again cd) _ _ s
  exact wpAny_bind (wpAny_mono (h pl s σ H C I q) (fun _ s' ⟨H', I', c⟩ => wpAny_pure ⟨rfl, σ, H', I', rfl, fun _ _ _ e => e, c⟩) fun _ _ z => z)
/-- the end of an outer turn -/
theorem act_out {node i1 t1 : Expr} {ifs1 : List Expr} {acc : Value} {wi1 : TI} {g1 : TG} {tt1 : TT} {vs1 : List Nat} {em : Sem Unit} {p1 : Pos} (ic : IsC node) (hcl : (clausesOf node)[1]? = some ⟨t1, i1, ifs1, 0⟩)
    (ht : ∀ it1, compTurn node 1 (.ref it1) acc B.env = turnOf t1 ifs1 p1 (.ref it1) B.env (tailIn em (.compLoop node 1 (.ref it1) acc B.env)))
    (hx : B.xe = nil2) (hc : B.calm = true) (hv : ∀ i ∈ vs1, i ∈ vs) (hs : ∀ x, foldedSetIterable i1 B.env x = pure x) (hi1 : PI B t1 i1 wi1) (pg1 : PG B t1 g1) (pt1 : PTs B ifs1 tt1)
    (h : ∀ (pl : List (Addr × Obj)) s σ H C, Inv B pl σ H s → ta σ H C → wpAny (model B.prog B.w) B.A em (fun _ s' => ∃ H', Inv B pl σ H' s' ∧ C H') nil2 s) :
    ∀ (pl : List (Addr × Obj)) s σ H C, Inv B pl σ H s → (wi1 σ H fun J1 H1 => Walk J1 g1 tt1 ta vs1 σ C H1) →
      wpAny (model B.prog B.w) B.A (tailOut node i1 acc B.env cd true) (fun fin s' => fin = .again cd ∧ Past B pl vs σ C s') nil2 s := by
  intro pl s σ H C I q
  unfold tailOut
  rw [if_pos rfl]
  have a1 := hi1.run pl s σ H _ I q
  rw [hx] at a1
  refine wpAny_bind (thnF a1 fun xv s1 a2 => ?_)
  refine wpAny_bind (wpAny_standAt (wpAny_bind (wpAny_of_eq (hs xv) (wpAny_bind (wpAny_holding (thnF a2 fun itv s2 z => ?_))))))
  obtain ⟨it1, fp1, tn1, J1, H2, rfl, I2, T1, st2, f2, wk⟩ := z
  refine wpAny_bind (wpAny_runOwn ?_)
  have stat1 : ∀ H', (∀ b ∈ fp1, H' b = none) → ∀ b ∈ fp1, FpOk B pl H' b := fun H' hn b hb => ⟨hn b hb, (f2 b hb).2⟩
  have lp : codeAny (model B.prog B.w) B.A (.compLoop node 1 (.ref it1) acc B.env) (fun r s' => match r with | .ok _ => Past B pl vs σ C s' | .error _ => False) s2 :=
    clause_ok (cd := .compLoop node 1 (.ref it1) acc B.env) ic (ht it1) rfl hx hc T1 pg1 pt1 stat1 (act_in h) rfl
      (fun s' H' I' c => ⟨wipe σ vs1, H', I', wipe_length _ _, fun j v nj e => by rw [wipe_out fun m => nj (hv j m)]; exact e, c⟩) wk (I2.weak (wipe_length _ _) fun j v e => (wipe_some e).1) st2 fun b hb => (f2 b hb).1
  rw [Around.mark_none]
  refine codeAny_mono (start_any ic hcl lp (T1.self B.A 0 _ _ _ st2 lp)) fun r s' hr => ?_
  cases r with
  | error e => exact hr.elim
  | ok f => first
    | exact wpAny_pure ⟨rfl, hr⟩
    | exact wpAny_bind (wpAny_pure (wpAny_pure ⟨rfl, hr⟩))
end
end L2.Cmp
set_option Elab.async false
set_option linter.all false
set_option maxRecDepth 100000
set_option maxHeartbeats 4000000
/-! Set comprehensions with one or two `for`s. -/
namespace L2.Cmp
open PySem PySem.Spec PyProof.Rows
section
variable {X : Cx}
/-- from the comprehension to its first clause's loop -/
theorem block_any {pins : List (Addr × Obj)} {s : Shared} {σ : L2.St} {H : Hp} {Q : VK} {node tg iter : Expr} {ifs : List Expr} {rest : List Comprehension} {scope : Scope} {own : List (PySem.Str × Nat)} {pos' : Pos} {wi : TI} {use : Option (Value → Sem Unit)} {Qf : Value → Shared → Prop}
    {newAcc : Sem Value} {O : Obj} {emp : Addr → HO} {Rd : It → Addr → Hp → Prop} (ic : IsC node) (hcl : clausesOf node = ⟨tg, iter, ifs, 0⟩ :: rest)
    (hnew : ∀ {s : Shared} {Q E : Value → Shared → Prop}, Q (.ref s.heap.objs.size) { s with heap := s.heap.push O } → wpAny (model X.prog X.w) X.A newAcc Q E s)
    (hemp : ∀ {pins : List (Addr × Obj)} {σ : L2.St} {H : Hp} {s : Shared}, Inv X pins σ H s → ∀ H' : Hp, ObjOk X.prog X.w H' (s.heap.push O) s.heap.objs.size (emp s.heap.objs.size))
    (hc : X.calm = true) (hN : X.N.Nodup) (I : Inv X pins σ H s) (hi : PI X tg iter wi) (ok : BlkOk X.N X.env.scope scope own) (hs : ∀ x, foldedSetIterable iter X.env x = pure x)
    (h : wi σ H fun J H1 => ∀ D, H1 D = none → Rd J D (upd H1 D (emp D)))
    (loop : ∀ (s3 : Shared) (H3 : Hp) (C : Addr) (cl : List (PySem.Str × Addr)) (fp : List Addr) (it : Addr) (tn : Nat → Heap → Prop) (J : It) (D : Addr) (s4 : Shared), Turn X.prog X.w X.K tg J fp it tn →
      (∀ H', (∀ b ∈ fp, H' b = none) → ∀ b ∈ fp, FpOk (X.blk s3 H3 scope (compEnvC scope cl C X.env) fp) [] H' b) → Inv (X.blk s3 H3 scope (compEnvC scope cl C X.env) fp) [] (wipe σ (own.map (·.2))) H3 s4 → tn 0 s4.heap → (∀ b ∈ fp, H3 b = none) → Rd J D H3 →
      codeAny (model X.prog X.w) X.A (.compLoop node 0 (.ref it) (.ref D) (compEnvC scope cl C X.env)) (fun r s' => match r with
        | .ok _ => ∃ H', Inv (X.blk s3 H3 scope (compEnvC scope cl C X.env) fp) [] (wipe σ (own.map (·.2))) H' s' ∧ Q (.ref D) H'
        | .error _ => False) s4)
    (hRR : ∀ D C s' m H', Inv X pins σ H' s' → Q (.ref D) H' → s'.heap.Ns C m → FpOk X pins H' C → compPost (model X.prog X.w) X.A X.xe use Qf (.ref D) C (.ok .next) s') :
    wpAny (model X.prog X.w) X.A (comprehension node scope X.env pos' newAcc false (eval iter X.env) use) Qf X.xe s := by
  have frees : ∀ y ∈ scope.names, y.2 = .free → ∃ c, X.env.cells.lookup y.1 = some c := fun y hy e => (ok.free y hy e).elim (fun k => I.ok.has _ (.inl k)) fun k => I.ok.has _ (.inr k)
  refine wpAny_comprehension_free (use := use) hcl hs (closure_ok frees) ok.kind (fun y hy e => by rw [ok.uniq y hy, e]) (thn (hi.run pins s σ H _ I h) fun xv s1 hx => thn hx fun itv s2 z => ?_)
  obtain ⟨it, fp, tn, J, H2, rfl, I2, T, st2, f2, q⟩ := z
  refine hnew (newEnv_comp ?_)
  obtain ⟨D, hD⟩ : ∃ D, s2.heap.objs.size = D := ⟨_, rfl⟩
  have rd := q D (I2.hok.fresh (Nat.le_of_eq hD))
  obtain ⟨s3, hs3⟩ : ∃ s3 : Shared, ({ s2 with heap := s2.heap.push O } : Shared) = s3 := ⟨_, rfl⟩
  have push3 : s3.heap = s2.heap.push O := by rw [← hs3]
  have I3 : Inv X pins σ (upd H2 D (emp D)) s3 := by
    rw [← hs3, ← hD]
    exact I2.laid (t' := s2.toks) (fun b o e => Heap.get?_push_of_some _ e) (Nat.le_refl _) (hemp I2 _)
  have f3 : ∀ b ∈ fp, FpOk X pins (upd H2 D (emp D)) b ∧ b < s3.heap.objs.size := fun b hb => by
    obtain ⟨o, e, _⟩ := T.obj _ _ st2 b hb
    have lt := Heap.lt_size e
    refine ⟨⟨?_, (f2 b hb).2⟩, by rw [push3, Heap.size_push]; exact Nat.lt_succ_of_lt lt⟩
    rw [upd_ne (Nat.ne_of_lt (hD ▸ lt))]
    exact (f2 b hb).1
  have st3 : tn 0 s3.heap := T.keep _ _ _ st2 fun b _ o e => by rw [push3]; exact Heap.get?_push_of_some _ e
  rw [hD, hs3]
  generalize hH3 : upd H2 D (emp D) = H3 at I3 f3 rd
  have I4 := block_start I3 ok hN f3
  generalize hcl' : cellsFrom (s3.heap.objs.size + 1) scope.names (cloFrom X.env.cells scope.names []) = cl at I4 ⊢
  obtain ⟨s4, hs4⟩ : ∃ s4 : Shared, ({ s3 with heap := pushCells (s3.heap.push { cls := .type "dict", data := .dict #[] }) scope.names } : Shared) = s4 := ⟨_, rfl⟩
  rw [hs4] at I4
  have st4 : tn 0 s4.heap := T.keep _ _ _ st3 fun b _ o e => by rw [← hs4]; exact pushCells_keeps _ _ _ _ (Heap.get?_push_of_some _ e)
  have nfp : ∀ b ∈ fp, H3 b = none := fun b hb => (f3 b hb).1.1
  have stat : ∀ H', (∀ b ∈ fp, H' b = none) → ∀ b ∈ fp, FpOk (X.blk s3 H3 scope (compEnvC scope cl s3.heap.objs.size X.env) fp) [] H' b := fun H' hn b hb =>
    ⟨hn b hb, (I4.ok.exf b hb).1, I4.ok.exfs b hb, .inl hb, fun x c e => (I4.ok.exf b hb).2 x c e, fun p hp => absurd (show p ∈ ([] : List (Addr × Obj)) ++ [] from hp) (by simp)⟩
  show codeAny _ _ (.compStart node 0 (.ref it) (.ref D) (compEnvC scope cl s3.heap.objs.size X.env)) (compPost (model X.prog X.w) X.A X.xe use Qf (.ref D) s3.heap.objs.size) _
  rw [hs4]
  have lp := codeAny_mono (loop s3 H3 s3.heap.objs.size cl fp it tn J D s4 T stat I4 st4 nfp rd) (R' := compPost (model X.prog X.w) X.A X.xe use Qf (.ref D) s3.heap.objs.size) fun r s' z => by
    cases r with
    | error e => exact z.elim
    | ok f =>
      obtain ⟨H', I', qq⟩ := z
      have I7 : Inv X pins σ H' s' := I3.call' (ch := fp) I'.os I'.base I'.hok I'.bare fun b hb => ⟨(f3 b hb).1.2.2.2.1, (f3 b hb).1.2.1, (f3 b hb).1.2.2.2.2.1, (f3 b hb).1.2.2.2.2.2⟩
      have nC : H' s3.heap.objs.size = none := I'.free
      obtain ⟨m, hn, _⟩ := I'.loc
      have cp := hRR D s3.heap.objs.size s' m H' I7 qq hn (I3.fpOk (Nat.le_refl _) nC)
      cases use <;> exact cp
  exact start_any ic (by rw [hcl]; rfl) lp (T.self X.A 0 _ _ _ st4 lp)
end
/-- how values go into a new set -/
structure Adder (P : Program) (w : World) where
  emp : Addr → HO
  ad : Addr → V → Hp → (Hp → Prop) → Prop
  fresh : ∀ (H : Hp) (h : Heap), ObjOk P w H (h.push { cls := .type "set", dict := none, data := .set #[] 0 (.fresh 0 0 (!w.params.followText "set-order")) }) h.objs.size (emp h.objs.size)
  add : ∀ {X : Cx}, X.prog = P → X.w = w → ∀ {pins : List (Addr × Obj)} {σ : L2.St} {H : Hp} {s : Shared} {E : Value → Shared → Prop} {D : Addr} {y : V} {v : Value} {C : Hp → Prop}, Inv X pins σ H s → RelV y v → ad D y H C →
    wpAny (model P w) X.A (call (.builtin "set.add") [.ref D, v]) (fun _ s' => ∃ H', Inv X pins σ H' s' ∧ C H') E s
/-- an item into the set at D -/
def tAd {P : Program} {w : World} (M : Adder P w) (te : TE) (D : Addr) : TAc := fun σ H C => te σ H fun y H' => M.ad D y H' C
def tSet1 {P : Program} {w : World} (M : Adder P w) (wi : TI) (g : TG) (tt : TT) (te : TE) (vs : List Nat) : TE := fun σ H Q => wi σ H fun J H1 => ∀ D, H1 D = none → Walk J g tt (tAd M te D) vs σ (fun H => Q (.ref D) H) (upd H1 D (M.emp D))
def tSet2 {P : Program} {w : World} (M : Adder P w) (wi : TI) (g : TG) (tt : TT) (wi1 : TI) (g1 : TG) (tt1 : TT) (te : TE) (vs vs1 : List Nat) : TE := fun σ H Q => wi σ H fun J H1 => ∀ D, H1 D = none →
  Walk J g tt (fun σ2 H2 C => wi1 σ2 H2 fun J1 H3 => Walk J1 g1 tt1 (tAd M te D) vs1 σ2 C H3) vs σ (fun H => Q (.ref D) H) (upd H1 D (M.emp D))
section
variable {X : Cx} {elt tg iter : Expr} {ifs : List Expr} {scope : Scope} {own : List (PySem.Str × Nat)} {pos : Pos} {wi : TI} {g : TG} {tt : TT} {te : TE}
theorem emit_ok {B : Cx} (M : Adder B.prog B.w) (hx : B.xe = nil2) (he : PE B elt te) {D : Addr} : ∀ (pl : List (Addr × Obj)) s σ H C, Inv B pl σ H s → tAd M te D σ H C →
    wpAny (model B.prog B.w) B.A (do let v ← eval elt B.env; standAt elt.pos; let _ ← call (.builtin "set.add") [.ref D, v]) (fun _ s' => ∃ H', Inv B pl σ H' s' ∧ C H') nil2 s := by
  intro pl s σ H C I q
  have a1 := he.run pl s σ H _ I q
  rw [hx] at a1
  exact wpAny_bind (thnF a1 fun v s1 ⟨y, H1, I1, r1, q1⟩ => wpAny_bind (wpAny_standAt (wpAny_bind (thnF (M.add rfl rfl I1 r1 q1) fun _ s2 z => wpAny_pure z))))
theorem pe_set1 (M : Adder X.prog X.w) (hc : X.calm = true) (hN : X.N.Nodup) (hi : PI X tg iter wi) (ok : BlkOk X.N X.env.scope scope own)
    (hg : ∀ (s : Shared) (H : Hp) (C : Addr) (cl : List (PySem.Str × Addr)) (fp : List Addr), PG (X.blk s H scope (compEnvC scope cl C X.env) fp) tg g) (ht : ∀ (s : Shared) (H : Hp) (C : Addr) (cl : List (PySem.Str × Addr)) (fp : List Addr), PTs (X.blk s H scope (compEnvC scope cl C X.env) fp) ifs tt)
    (he : ∀ (s : Shared) (H : Hp) (C : Addr) (cl : List (PySem.Str × Addr)) (fp : List Addr), PE (X.blk s H scope (compEnvC scope cl C X.env) fp) elt te) (hs : ∀ x, foldedSetIterable iter X.env x = pure x := by intro _; rfl) :
    PE X (.SetComp elt [⟨tg, iter, ifs, 0⟩] scope pos) (tSet1 M wi g tt te (own.map (·.2))) := by
  refine ⟨fun pins s σ H Q I h => ?_⟩
  rw [PpSet.eval_SetComp]
  refine block_any (Q := Q) (Rd := fun J D H1 => Walk J g tt (tAd M te D) (own.map fun z : PySem.Str × Nat => z.2) σ (fun H => Q (.ref D) H) H1) (.inl ⟨_, _, _, _, rfl⟩) rfl (fun q => PpSet.newSet_ok q) (fun _ _ => M.fresh _ _) hc hN I hi ok hs h
    (fun s3 H3 C cl fp it tn J D s4 T stat I4 st4 nfp rd => ?_) fun D C s' m H' I' q hn f => ⟨m, hn, fun h'' sb => ?_⟩
  · exact clause_ok (B := X.blk s3 H3 scope (compEnvC scope cl C X.env) fp) (tail := tailIn _ _) (p := iter.pos) (.inl ⟨_, _, _, _, rfl⟩) rfl rfl rfl hc T (hg s3 H3 C cl fp) (ht s3 H3 C cl fp) stat (act_in (emit_ok (B := X.blk s3 H3 scope (compEnvC scope cl C X.env) fp) M rfl (he s3 H3 C cl fp))) rfl
      (fun s' H' I' d => ⟨H', I', d⟩) rd I4 st4 nfp
  · obtain ⟨f0, f1, f2, f3, f4, f5⟩ := f
    exact ⟨.ref D, H', I'.turned (t' := s'.toks) (fun b o hb e => (sb.2 b hb).trans e) f0 f1 f3 f4 f5, rfl, q⟩
theorem pe_set2 (M : Adder X.prog X.w) {tg1 iter1 : Expr} {ifs1 : List Expr} {wi1 : TI} {g1 : TG} {tt1 : TT} {vs1 : List Nat} (hc : X.calm = true) (hN : X.N.Nodup) (hi : PI X tg iter wi) (ok : BlkOk X.N X.env.scope scope own) (hv : ∀ i ∈ vs1, i ∈ own.map (·.2))
    (hg : ∀ (s : Shared) (H : Hp) (C : Addr) (cl : List (PySem.Str × Addr)) (fp : List Addr), PG (X.blk s H scope (compEnvC scope cl C X.env) fp) tg g) (ht : ∀ (s : Shared) (H : Hp) (C : Addr) (cl : List (PySem.Str × Addr)) (fp : List Addr), PTs (X.blk s H scope (compEnvC scope cl C X.env) fp) ifs tt)
    (hi1 : ∀ (s : Shared) (H : Hp) (C : Addr) (cl : List (PySem.Str × Addr)) (fp : List Addr), PI (X.blk s H scope (compEnvC scope cl C X.env) fp) tg1 iter1 wi1)
    (hg1 : ∀ (s : Shared) (H : Hp) (C : Addr) (cl : List (PySem.Str × Addr)) (fp : List Addr), PG (X.blk s H scope (compEnvC scope cl C X.env) fp) tg1 g1) (ht1 : ∀ (s : Shared) (H : Hp) (C : Addr) (cl : List (PySem.Str × Addr)) (fp : List Addr), PTs (X.blk s H scope (compEnvC scope cl C X.env) fp) ifs1 tt1)
    (he : ∀ (s : Shared) (H : Hp) (C : Addr) (cl : List (PySem.Str × Addr)) (fp : List Addr), PE (X.blk s H scope (compEnvC scope cl C X.env) fp) elt te)
    (hs : ∀ x, foldedSetIterable iter X.env x = pure x := by intro _; rfl) (hs1 : ∀ env x, foldedSetIterable iter1 env x = pure x := by intro _ _; rfl) :
    PE X (.SetComp elt [⟨tg, iter, ifs, 0⟩, ⟨tg1, iter1, ifs1, 0⟩] scope pos) (tSet2 M wi g tt wi1 g1 tt1 te (own.map (·.2)) vs1) := by
  refine ⟨fun pins s σ H Q I h => ?_⟩
  rw [PpSet.eval_SetComp]
  refine block_any (Q := Q) (Rd := fun J D H1 => Walk J g tt (fun σ2 H2 C => wi1 σ2 H2 fun J1 H3 => Walk J1 g1 tt1 (tAd M te D) vs1 σ2 C H3) (own.map fun z : PySem.Str × Nat => z.2) σ (fun H => Q (.ref D) H) H1) (.inl ⟨_, _, _, _, rfl⟩) rfl (fun q => PpSet.newSet_ok q) (fun _ _ => M.fresh _ _) hc hN I hi ok hs h
    (fun s3 H3 C cl fp it tn J D s4 T stat I4 st4 nfp rd => ?_) fun D C s' m H' I' q hn f => ⟨m, hn, fun h'' sb => ?_⟩
  · exact clause_ok (B := X.blk s3 H3 scope (compEnvC scope cl C X.env) fp) (tail := tailOut _ iter1 (.ref D) _ _) (p := iter.pos) (.inl ⟨_, _, _, _, rfl⟩) rfl rfl rfl hc T (hg s3 H3 C cl fp) (ht s3 H3 C cl fp) stat
      (act_out (p1 := iter1.pos) (.inl ⟨_, _, _, _, rfl⟩) rfl (fun it1 => rfl) rfl hc hv (hs1 _) (hi1 s3 H3 C cl fp) (hg1 s3 H3 C cl fp) (ht1 s3 H3 C cl fp) (emit_ok (B := X.blk s3 H3 scope (compEnvC scope cl C X.env) fp) M rfl (he s3 H3 C cl fp))) rfl
      (fun s' H' I' d => ⟨H', I', d⟩) rd I4 st4 nfp
  · obtain ⟨f0, f1, f2, f3, f4, f5⟩ := f
    exact ⟨.ref D, H', I'.turned (t' := s'.toks) (fun b o hb e => (sb.2 b hb).trans e) f0 f1 f3 f4 f5, rfl, q⟩
end
/-- a key and a value into the dict at D -/
def tPut (tk tv : TE) (D : Addr) : TAc := fun σ H C => tk σ H fun y H1 => tv σ H1 fun x H2 => ∃ (kvs : List (Key × V)) (k : Key), y = kV k ∧ H2 D = some (.dK kvs) ∧ kvs.length < sizeLine ∧ C (upd H2 D (.dK (putK kvs k x)))
def tDict2 (wi : TI) (g : TG) (tt : TT) (wi1 : TI) (g1 : TG) (tt1 : TT) (tk tv : TE) (vs vs1 : List Nat) : TE := fun σ H Q => wi σ H fun J H1 => ∀ D, H1 D = none →
  Walk J g tt (fun σ2 H2 C => wi1 σ2 H2 fun J1 H3 => Walk J1 g1 tt1 (tPut tk tv D) vs1 σ2 C H3) vs σ (fun H => Q (.ref D) H) (upd H1 D (.dK []))
section
variable {X : Cx} {kx vx tg iter : Expr} {ifs : List Expr} {scope : Scope} {own : List (PySem.Str × Nat)} {pos : Pos} {wi : TI} {g : TG} {tt : TT} {tk tv : TE}
theorem emit_put {B : Cx} (hx : B.xe = nil2) (hk : PE B kx tk) (hv : PE B vx tv) {D : Addr} {p : Pos} : ∀ (pl : List (Addr × Obj)) s σ H C, Inv B pl σ H s → tPut tk tv D σ H C →
    wpAny (model B.prog B.w) B.A (do let kv ← eval kx B.env; let vv ← holding [kv] (eval vx B.env); standAt p; holding [kv, vv] (dictSet D kv vv)) (fun _ s' => ∃ H', Inv B pl σ H' s' ∧ C H') nil2 s := by
  intro pl s σ H C I q
  have a1 := hk.run pl s σ H _ I q
  rw [hx] at a1
  refine wpAny_bind (thnF a1 fun kv s1 ⟨y, H1, I1, r1, q1⟩ => ?_)
  have a2 := hv.run pl s1 σ H1 _ I1 q1
  rw [hx] at a2
  refine wpAny_bind (wpAny_holding (thnF a2 fun vv s2 ⟨x, H2, I2, r2, kvs, k, ey, hD, few, c⟩ => ?_))
  subst ey
  exact wpAny_bind (wpAny_standAt (wpAny_holding (d_dictSet I2 hD few r1 r2 fun s3 I3 => ⟨_, I3, c⟩)))
theorem pe_dict2 {tg1 iter1 : Expr} {ifs1 : List Expr} {wi1 : TI} {g1 : TG} {tt1 : TT} {vs1 : List Nat} (hc : X.calm = true) (hN : X.N.Nodup) (hi : PI X tg iter wi) (ok : BlkOk X.N X.env.scope scope own) (hv : ∀ i ∈ vs1, i ∈ own.map (·.2))
    (hg : ∀ (s : Shared) (H : Hp) (C : Addr) (cl : List (PySem.Str × Addr)) (fp : List Addr), PG (X.blk s H scope (compEnvC scope cl C X.env) fp) tg g) (ht : ∀ (s : Shared) (H : Hp) (C : Addr) (cl : List (PySem.Str × Addr)) (fp : List Addr), PTs (X.blk s H scope (compEnvC scope cl C X.env) fp) ifs tt)
    (hi1 : ∀ (s : Shared) (H : Hp) (C : Addr) (cl : List (PySem.Str × Addr)) (fp : List Addr), PI (X.blk s H scope (compEnvC scope cl C X.env) fp) tg1 iter1 wi1)
    (hg1 : ∀ (s : Shared) (H : Hp) (C : Addr) (cl : List (PySem.Str × Addr)) (fp : List Addr), PG (X.blk s H scope (compEnvC scope cl C X.env) fp) tg1 g1) (ht1 : ∀ (s : Shared) (H : Hp) (C : Addr) (cl : List (PySem.Str × Addr)) (fp : List Addr), PTs (X.blk s H scope (compEnvC scope cl C X.env) fp) ifs1 tt1)
    (hk : ∀ (s : Shared) (H : Hp) (C : Addr) (cl : List (PySem.Str × Addr)) (fp : List Addr), PE (X.blk s H scope (compEnvC scope cl C X.env) fp) kx tk) (he : ∀ (s : Shared) (H : Hp) (C : Addr) (cl : List (PySem.Str × Addr)) (fp : List Addr), PE (X.blk s H scope (compEnvC scope cl C X.env) fp) vx tv)
    (hs : ∀ x, foldedSetIterable iter X.env x = pure x := by intro _; rfl) (hs1 : ∀ env x, foldedSetIterable iter1 env x = pure x := by intro _ _; rfl) :
    PE X (.DictComp kx vx [⟨tg, iter, ifs, 0⟩, ⟨tg1, iter1, ifs1, 0⟩] scope pos) (tDict2 wi g tt wi1 g1 tt1 tk tv (own.map (·.2)) vs1) := by
  refine ⟨fun pins s σ H Q I h => ?_⟩
  rw [arm_eval_DictComp]
  refine block_any (Q := Q) (Rd := fun J D H1 => Walk J g tt (fun σ2 H2 C => wi1 σ2 H2 fun J1 H3 => Walk J1 g1 tt1 (tPut tk tv D) vs1 σ2 C H3) (own.map fun z : PySem.Str × Nat => z.2) σ (fun H => Q (.ref D) H) H1) (emp := fun _ => .dK []) (.inr (.inr ⟨_, _, _, _, _, rfl⟩)) rfl
    (fun q => wpAny_newObj_type q) (fun I' H' => dk_empty _ I'.big) hc hN I hi ok hs h
    (fun s3 H3 C cl fp it tn J D s4 T stat I4 st4 nfp rd => ?_) fun D C s' m H' I' q hn f => ⟨m, hn, fun h'' sb => ?_⟩
  · exact clause_ok (B := X.blk s3 H3 scope (compEnvC scope cl C X.env) fp) (tail := tailOut _ iter1 (.ref D) _ _) (p := iter.pos) (.inr (.inr ⟨_, _, _, _, _, rfl⟩)) rfl rfl rfl hc T (hg s3 H3 C cl fp) (ht s3 H3 C cl fp) stat
      (act_out (p1 := iter1.pos) (.inr (.inr ⟨_, _, _, _, _, rfl⟩)) rfl (fun it1 => rfl) rfl hc hv (hs1 _) (hi1 s3 H3 C cl fp) (hg1 s3 H3 C cl fp) (ht1 s3 H3 C cl fp) (emit_put (B := X.blk s3 H3 scope (compEnvC scope cl C X.env) fp) rfl (hk s3 H3 C cl fp) (he s3 H3 C cl fp))) rfl
      (fun s' H' I' d => ⟨H', I', d⟩) rd I4 st4 nfp
  · obtain ⟨f0, f1, f2, f3, f4, f5⟩ := f
    exact ⟨.ref D, H', I'.turned (t' := s'.toks) (fun b o hb e => (sb.2 b hb).trans e) f0 f1 f3 f4 f5, rfl, q⟩
end
end L2.Cmp
set_option Elab.async false
set_option linter.all false
set_option maxRecDepth 100000
set_option maxHeartbeats 4000000
/-! Sets of texts: as tracked things, by comprehension, sorted. -/
namespace L2.TxtSet
open PySem PySem.Spec PyProof.Rows L2.GSet L2.Cmp
def keyT : Value → Str
  | .str x _ => x
  | _ => ⟨#[]⟩
theorem keyT_is (P : Program) (w : World) : ∀ k v, (PySem.strKind P w).is k v = true → keyT v = k := fun k v h => by
  obtain ⟨t, rfl⟩ := Value.isStrOf_shape h
  rfl
/-- the set of texts at a: ks, in some order -/
def SetT (P : Program) (w : World) (a : Addr) (ks : List Str) : HO := .ext fun h => GAt (PySem.strKind P w) keyT h a ks
theorem setT_new {P : Program} {w : World} {H : Hp} {h : Heap} {a : Addr} {ks : List Str} (R : GAt (PySem.strKind P w) keyT h a ks) : ObjOk P w H h a (SetT P w a ks) := ⟨R, R.some, fun h1 h2 p k => GAt.keep p k⟩
section
variable {X : Cx} {pins : List (Addr × Obj)} {σ : L2.St} {H : Hp} {s : Shared}
theorem setT_get {a : Addr} {ks : List Str} (I : Inv X pins σ H s) (ha : H a = some (SetT X.prog X.w a ks)) : GAt (PySem.strKind X.prog X.w) keyT s.heap a ks := (I.hok a _ ha).1
end
/-- texts into a set of texts -/
def addT (P : Program) (w : World) : Adder P w where
  emp := fun D => SetT P w D []
  ad := fun D y H C => ∃ (z : Str) (ks : List Str), y = .str z ∧ H D = some (SetT P w D ks) ∧ ks.length + 1 < scanBound ∧ C (upd H D (SetT P w D (if z ∈ ks then ks else ks ++ [z])))
  fresh := fun H h => setT_new (GSet.fresh h)
  add := fun {X} hP hw {pins σ H s E D y v C} I r q => by
    subst hP
    subst hw
    obtain ⟨z, ks, rfl, hD, room, c⟩ := q
    obtain ⟨u, rfl⟩ := r
    refine add_call (keyT_is X.prog X.w) (k := z) (Froz.is_str z u) rfl (setT_get I hD) room fun h' sb new => ⟨_, ?_, c⟩
    exact I.write (e := D) (t' := s.toks + 1) (by rw [hD]; trivial) (.inl rfl) (fun b o hb ho => (sb.2 b hb).trans ho) new.some (setT_new new)
/-- sorted(a set of texts) -/
def rSortT (P : Program) (w : World) : List V → Hp → VK → Prop := fun vs H Q => ∃ (a : Addr) (ks : List Str), vs = [V.ref a] ∧ H a = some (SetT P w a ks) ∧ ks.length < 64 ∧
  ∀ (ys : List Str) (p : Addr), ys.Perm ks → sortedS ys = true → H p = none → Q (.ref p) (upd H p (.lst (ys.map V.str)))
theorem strs_out : ∀ {vs : List Value}, (∀ v ∈ vs, ∃ x u, v = Value.str x u) → StrsAre vs (vs.map keyT)
  | [], _ => .nil
  | v :: vs, h => by
    obtain ⟨x, u, rfl⟩ := h v List.mem_cons_self
    exact .cons x u (strs_out fun y m => h y (List.mem_cons_of_mem _ m))
theorem sort_tree {P : Program} {w : World} {A : Around} {E : Value → Shared → Prop} {s : Shared} {a : Addr} {ks : List Str} {Q : Value → Shared → Prop} (R : GAt (PySem.strKind P w) keyT s.heap a ks) (hh : A.handled = none) (h64 : ks.length < 64)
    (hQ : ∀ s' p (out : Array Value) (c : Nat) (ys : List Str), (∀ b o, s.heap.get? b = some o → s'.heap.get? b = some o) → s'.gens = s.gens → s'.os = s.os → s.heap.objs.size ≤ p → s'.heap.get? p = some (seqObj "list" out c) →
      StrsAre out.toList ys → ys.Perm ks → sortedS ys = true → Q (.ref p) s') : wpAny (model P w) A (call (.builtin "sorted") [.ref a]) Q E s := by
  obtain ⟨o, es, ep, t, ho, ox, od, p⟩ := R
  refine Calls.call_function_entry kind_sorted plain_sorted entry_sorted (args_sorted1 _) ?_
  unfold Builtin.«sorted»
  refine wpAny_bind (m := checkCount "sorted" 1 1 _) (wpAny_pure (wpAny_bind (collect_set (A := A.in1) hh ⟨o, ho, ox.1, od⟩ p.fit p.few p.ris p.led fun s1 vs k1 z1 g1 o1 pm => ?_)))
  have lv : vs.length = ks.length := by rw [pm.length_eq, List.length_map, Array.length_toList, p.size]
  have tx : StrsAre vs (vs.map keyT) := strs_out fun v m => by
    obtain ⟨e, he, rfl⟩ := List.mem_map.mp (pm.mem_iff.mp m)
    obtain ⟨⟨k, i, _⟩, _⟩ := p.el e he
    obtain ⟨u, q⟩ := Value.isStrOf_shape i
    exact ⟨k, u, q⟩
  have pk : (vs.map keyT).Perm ks := by
    have z := pm.map keyT
    rw [List.map_map] at z
    exact z.trans p.pm
  refine wpAny_bind (wpAny_newList ?_ (by rw [lv, sizeLine_eq]; omega))
  have at1 : (s1.heap.push (seqObj "list" vs.toArray 0)).get? s1.heap.objs.size = some (seqObj "list" vs.toArray 0) := Heap.get?_push_size _ rfl
  refine wpAny_bind (wpAny_holding (wpAny_call_entry slot_list_sort ⟨_, at1, rfl⟩ entry_list_sort (list_sort_treeK strKind_oneLt at1 tx.keysOf (fun v₁ v₂ rest e => keyKind_strs (by rw [← e]; exact tx)) (by rw [lv]; exact h64) fun st' hp' hs' => ?_) (args_list_sort _)))
  obtain ⟨ys, a1, a2, a3⟩ := sorted_out_str tx hp' hs'
  refine ⟨_, rfl, ?_⟩
  generalize ho' : (arrOf st').map (·.2) = out at a1
  obtain ⟨c, hc⟩ := sortedHeap_at (vs := vs) (out := out) at1
  refine wpAny_pure ⟨_, rfl, hQ _ s1.heap.objs.size out c ys (fun b u e => ?_) g1 o1 z1 hc a1 (a2.trans pk) a3⟩
  have q := k1 b u e
  have lt := Heap.lt_size q
  exact (sortedHeap_old (Nat.ne_of_lt lt) (by rw [size_push']; exact Nat.lt_succ_of_lt lt)).trans (Heap.get?_push_of_some _ q)
section
variable {X : Cx}
theorem cr_sortT (hc : X.calm = true) : CallR X (.builtin "sorted") (rSortT X.prog X.w) := by
  intro pins s σ H vs us Q I r h
  obtain ⟨a, ks, rfl, ha, h64, q⟩ := h
  rw [Vals.ref1 r]
  refine sort_tree (setT_get I ha) (I.ok.hd hc) h64 fun s' p out c ys k g o hp at2 tx pm so => ?_
  have hn : H p = none := I.hok.fresh hp
  have fits : (ys.map V.str).length ≤ sizeLine := by rw [List.length_map, pm.length_eq, sizeLine_eq]; omega
  have J : Inv X pins σ (upd H p (.lst (ys.map V.str))) { s with heap := s'.heap, gens := s'.gens, drawn := s'.drawn, toks := s'.toks } :=
    I.call (ch := []) (Un.laid k hp hn) (I.hok.laid k hp ⟨fits, out.toList, c, vals_of_strs tx, at2⟩) (by rw [g]; exact I.bare) fun _ z => nomatch z
  have e : s' = { s with heap := s'.heap, gens := s'.gens, drawn := s'.drawn, toks := s'.toks } := by
    cases s'
    cases s
    cases o
    rfl
  rw [e]
  exact ⟨.ref p, _, J, rfl, q ys p pm so hn⟩
end
end L2.TxtSet
set_option Elab.async false
set_option linter.all false
set_option maxRecDepth 100000
set_option maxHeartbeats 4000000
/-! is_free, variables_of. -/
namespace L2.LawH
open PySem PySem.Spec PyProof.Rows L2.Cmp L2.TxtSet
abbrev sVars : Stmt := top 13
/-! ### walks of a list or a tuple -/
def iSeq (K : PySem.W.Frag) (tl : TE) : TI := fun σ H R => tl σ H fun x H1 => ∃ a, x = .ref a ∧ (((∃ xs, SqL K H1 a xs) ∧ R (Itl K a) H1) ∨ ((∃ xs, SqT K H1 a xs) ∧ R (Itt K a) H1))
theorem pi_seq {X : Cx} {tg l : Expr} {tl : TE} (hl : PE X l tl) : PI X tg l (iSeq X.K tl) := by
  refine ⟨fun pins s σ H R I h => thn (hl.run pins s σ H _ I h) fun v s1 ⟨x, H1, I1, r1, q1⟩ => ?_⟩
  obtain ⟨a, rfl, q⟩ := q1
  cases r1
  have frs : ∀ b ∈ [s1.heap.objs.size], FpOk X pins H1 b := fun b hb => by
    obtain rfl : b = s1.heap.objs.size := by simpa using hb
    exact I1.fpOk (Nat.le_refl _) (I1.hok.fresh (Nat.le_refl _))
  rcases q with ⟨⟨xs, hq⟩, q⟩ | ⟨⟨xs, hq⟩, q⟩
  · obtain ⟨its, _, p, _⟩ := I1.list hq
    exact wpAny_pyIter_list p.isList ⟨_, _, _, _, H1, rfl, I1.kept (t' := s1.toks) fun b o e => Heap.get?_push_of_some _ e, turn_list a _, ⟨_, Heap.get?_push_size _ rfl, rfl, rfl⟩, frs, q⟩
  · obtain ⟨its, _, p, _⟩ := I1.tuple hq
    exact wpAny_pyIter_tuple (show s1.heap.IsTuple a its.toArray from p) ⟨_, _, _, _, H1, rfl, I1.kept (t' := s1.toks) fun b o e => Heap.get?_push_of_some _ e, turn_tuple a _, ⟨_, Heap.get?_push_size _ rfl, rfl, rfl⟩, frs, q⟩
theorem pi_tupK {X : Cx} {K : PySem.W.Frag} (e : X.K = K) {tg l : Expr} {tl : TE} (hl : PE X l tl) : PI X tg l (iTup K tl) := by
  subst e
  exact pi_tup hl
theorem sl_tupK {X : Cx} {K : PySem.W.Frag} (e : X.K = K) : SlR X (rSlT K) := by
  subst e
  exact sl_tup
/-- how a clause over xs is walked, where Sq says that they stand there -/
def WalkR (J : It) (Sq : Hp → Prop) (xs : List V) : Prop := ∀ (g : TG) (tt : TT) (ta : TAc) (vs : List Nat) (σ : List (Option V)) (H0 : Hp) (Done : Hp → Prop) (Pv : Nat → Hp → Prop), Pv 0 H0 → (∀ i H, i ≤ xs.length → Pv i H → Sq H) →
  (∀ i x H, xs[i]? = some x → Pv i H → g x (wipe σ vs) H fun σ2 H2 => wipe σ2 vs = wipe σ vs ∧ tt σ2 H2 fun b H3 => if b = true then ta σ2 H3 (Pv (i + 1)) else Pv (i + 1) H3) → (∀ H, Pv xs.length H → Done H) → L2.Cmp.Walk J g tt ta vs σ Done H0
theorem walk_list {K : PySem.W.Frag} {a : Addr} {xs : List V} : WalkR (Itl K a) (fun H => SqL K H a xs) xs := by
  intro g tt ta vs σ H0 Done Pv h0 hl hs hd
  refine ⟨fun i m H => m = xs.length - i ∧ i ≤ xs.length ∧ Pv i H, ⟨xs.length, rfl, Nat.zero_le _, h0⟩, ?_⟩
  rintro i m H ⟨rfl, hi, p⟩
  rcases Nat.lt_or_eq_of_le hi with lt | rfl
  · refine .inr ⟨⟨xs, xs[i], hl i H hi p, by simp [lt]⟩, Pv (i + 1), fun H' p' => ⟨xs.length - (i + 1), by omega, rfl, lt, p'⟩, ?_⟩
    rintro x _ ⟨rfl, y⟩
    exact hs i x _ (y xs (hl i _ hi p)) p
  · exact .inl ⟨⟨xs, hl _ H hi p, Nat.le_refl _⟩, hd H p⟩
theorem walk_tup {K : PySem.W.Frag} {a : Addr} {xs : List V} : WalkR (Itt K a) (fun H => SqT K H a xs) xs := by
  intro g tt ta vs σ H0 Done Pv h0 hl hs hd
  refine ⟨fun i m H => m = xs.length - i ∧ i ≤ xs.length ∧ Pv i H, ⟨xs.length, rfl, Nat.zero_le _, h0⟩, ?_⟩
  rintro i m H ⟨rfl, hi, p⟩
  rcases Nat.lt_or_eq_of_le hi with lt | rfl
  · refine .inr ⟨⟨xs, xs[i], hl i H hi p, by simp [lt]⟩, Pv (i + 1), fun H' p' => ⟨xs.length - (i + 1), by omega, rfl, lt, p'⟩, ?_⟩
    rintro x _ ⟨rfl, y⟩
    exact hs i x _ (y xs (hl i _ hi p)) p
  · exact .inl ⟨⟨xs, hl _ H hi p, Nat.le_refl _⟩, hd H p⟩
/-! ### each once -/
def put1 (ks : List Str) (z : Str) : List Str := if z ∈ ks then ks else ks ++ [z]
def uniq (l : List Str) : List Str := l.foldl put1 []
theorem uniq_snoc (l : List Str) (z : Str) : uniq (l ++ [z]) = put1 (uniq l) z := by
  unfold uniq
  rw [List.foldl_append]
  rfl
theorem fold_len : ∀ (l acc : List Str), (l.foldl put1 acc).length ≤ acc.length + l.length
  | [], acc => Nat.le_refl _
  | z :: l, acc => by
    have ih := fold_len l (put1 acc z)
    have : (put1 acc z).length ≤ acc.length + 1 := by
      unfold put1
      split
      · omega
      · simp
    rw [List.foldl_cons, List.length_cons]
    omega
theorem uniq_len (l : List Str) : (uniq l).length ≤ l.length := by
  have h := fold_len l []
  rw [List.length_nil, Nat.zero_add] at h
  exact h
theorem fold_mem {y : Str} : ∀ (l acc : List Str), y ∈ l.foldl put1 acc ↔ y ∈ acc ∨ y ∈ l
  | [], acc => by simp
  | z :: l, acc => by
    rw [List.foldl_cons, fold_mem l (put1 acc z), List.mem_cons]
    unfold put1
    split
    · rename_i m
      constructor
      · rintro (h | h)
        · exact .inl h
        · exact .inr (.inr h)
      · rintro (h | rfl | h)
        · exact .inl h
        · exact .inl m
        · exact .inr h
    · rw [List.mem_append, List.mem_singleton, or_assoc]
theorem uniq_mem {y : Str} {l : List Str} : y ∈ uniq l ↔ y ∈ l := by
  unfold uniq
  rw [fold_mem]
  simp
theorem fold_nodup : ∀ (l acc : List Str), acc.Nodup → (l.foldl put1 acc).Nodup
  | [], acc, h => h
  | z :: l, acc, h => by
    rw [List.foldl_cons]
    refine fold_nodup l _ ?_
    unfold put1
    split
    · exact h
    · rename_i m
      rw [List.nodup_append]
      exact ⟨h, by simp, fun a ha b hb e => by
        rw [List.mem_singleton.mp hb] at e
        exact m (e ▸ ha)⟩
theorem uniq_nodup (l : List Str) : (uniq l).Nodup := fold_nodup l [] List.nodup_nil
/-! ### lots of patterns, as they stand -/
abbrev Pt : Type := Addr × Str × List Str
def isV (z : Str) : Bool := Txt.startswith z (Str.ofString "?")
def frees (xs : List Pt) : List Str := (xs.flatMap fun x => x.2.2).filter isV
theorem frees_snoc (xs : List Pt) (x : Pt) : frees (xs ++ [x]) = frees xs ++ x.2.2.filter isV := by
  unfold frees
  rw [List.flatMap_append, List.filter_append]
  simp
theorem frees_take {xs : List Pt} {i : Nat} {x : Pt} (h : xs[i]? = some x) : frees (xs.take (i + 1)) = frees (xs.take i) ++ x.2.2.filter isV := by
  rw [List.take_succ, h]
  exact frees_snoc _ _
theorem frees_le (xs : List Pt) (i : Nat) : (frees (xs.take i)).length ≤ (frees xs).length := by
  have e : frees xs = frees (xs.take i) ++ frees (xs.drop i) := by
    unfold frees
    rw [← List.filter_append, ← List.flatMap_append, List.take_append_drop]
  rw [e, List.length_append]
  omega
/-- the lot xs at q, a list or a tuple -/
structure LotAt (H : Hp) (q : Addr) (xs : List Pt) : Prop where
  sq : H q = some (.lst (xs.map fun x => V.ref x.1)) ∨ H q = some (.tup (xs.map fun x => V.ref x.1))
  each : ∀ x ∈ xs, H x.1 = some (.tup (.str x.2.1 :: x.2.2.map V.str))
theorem cut_one (v : V) (l : List V) : cutV (v :: l) (some 1) none = l := by
  have e : HT.sIx (v :: l).length 0 (some 1) = 1 := by
    have z := HT.sIx_nat (v :: l).length 0 1
    rw [List.length_cons] at z ⊢
    exact z.trans (by omega)
  unfold cutV
  rw [e, HT.sIx_none]
  simp
theorem cut_part (v : V) (l : List V) : ¬ (HT.sIx (v :: l).length 0 (some 1) = 0 ∧ HT.sIx (v :: l).length (v :: l).length none = (v :: l).length) := by
  rintro ⟨e, _⟩
  have z := HT.sIx_nat (v :: l).length 0 1
  rw [List.length_cons] at z e
  have z' := z.symm.trans e
  omega
theorem LotAt.same {H H' : Hp} {q : Addr} {xs : List Pt} (h : LotAt H q xs) (s : Same H H') : LotAt H' q xs := ⟨h.sq.imp (s _ _) (s _ _), fun x m => s _ _ (h.each x m)⟩
theorem first_one {z : Str} {c : Nat} {r : List Nat} (h : z.cps.toList = c :: r) : decide (V.str ⟨#[c]⟩ = V.str (Str.ofString "?")) = isV z := by
  have q1 : (Str.ofString "?").cps = #[63] := by decide +kernel
  have q2 : (Str.ofString "?").length = 1 := by decide +kernel
  have es : Str.ofString "?" = ⟨#[63]⟩ := by
    cases h : Str.ofString "?" with
    | mk c => rw [h] at q1; exact congrArg Str.mk q1
  have l := length_toList z
  rw [h, List.length_cons] at l
  have hz : z.cps = (c :: r).toArray := by rw [← h]
  have z0 : z.cps[0]? = some c := by
    rw [← Array.getElem?_toList, h]
    rfl
  unfold isV Txt.startswith Builtin.Str.subAt
  rw [q1, q2, es, Bool.eq_iff_iff, decide_eq_true_iff, hz]
  have l0 : z.length = r.length + 1 := l.symm
  rw [l0]
  simp
def spVars : Sp := fun vs H Q _ => ∃ (q : Addr) (xs : List Pt), vs = [.ref q] ∧ LotAt H q xs ∧ (∀ x ∈ xs, ∀ z ∈ x.2.2, 1 ≤ z.length ∧ z.length ≤ 100) ∧ (frees xs).length ≤ 60 ∧
  ∀ (p : Addr) (ys : List Str) (H' : Hp), Same H H' → H p = none → ys.Perm (uniq (frees xs)) → sortedS ys = true → H' p = some (.lst (ys.map V.str)) → Q (.ref p) H'
section
variable {P : Program} {w : World} {K : PySem.W.Frag} {mg : Str → Option Value} {base : Heap}
abbrev nVars : List Str := ["lot", "pattern", "term"]
theorem scVs : FnScope nVars ["lot"] (defScope sVars) := ⟨rfl, rfl, rfl, by decide +kernel, rfl, by decide +kernel, by decide +kernel⟩
theorem ok_vars {f : Addr} {fd : FuncData} (F : Fun K "variables_of" "variables_of" sVars f fd) (ms : mg "sorted" = none) :
    FnOk P w K mg base CX0 2 f fd ["lot"] spVars := by
  refine F.ok scVs (fun vs H Q E h => ?_) (fun cdv A outer s H vs Q E hr h => ?_)
  · obtain ⟨q, xs, rfl, _⟩ := h
    rfl
  · obtain ⟨q, xs, rfl, lot, shape, few, k⟩ := h
    refine ⟨_, pss_one (ps_ret (pe_callB (L2.TxtSet.cr_sortT rfl) (by rfl) ms (by decide +kernel) (pa_cons
      (pe_set2 (own := [("pattern", 1), ("term", 2)]) (vs1 := [2]) (g := gName 1) (g1 := gName 2) (tt := tYes) (addT P w) rfl scVs.nd (pi_seq (pv 0))
        (blkOk_by (own := [("pattern", 1), ("term", 2)]) (N := nVars) (sc := defScope sVars) (by decide +kernel)) (by decide)
        (fun _ _ _ _ _ => pg_name (i := 1) scVs.nd rfl (Or.inl rfl)) (fun _ _ _ _ _ => pts_nil)
        (fun _ _ _ _ _ => pi_tupK (K := K) rfl (pe_slice (sl_tupK (K := K) rfl) (pv 1) (po_some pe_int) po_none))
        (fun _ _ _ _ _ => pg_name (i := 2) scVs.nd rfl (Or.inl rfl))
        (fun _ _ _ _ _ => pts_one (pt_cmpR op_eq (pe_ix ix_str (pv 2) pe_int (fun _ _ => rfl)) pe_str (nomark _)))
        (fun _ _ _ _ _ => pv 2)) pa_nil))), ?_⟩
    have main : ∀ (J : It) (Sq : Hp → Prop), WalkR J Sq (xs.map fun x => V.ref x.1) → (∀ H', Same H H' → Sq H') → ∀ (Qd : Hp → Prop) (D : Addr), H D = none → (∀ H', Same H H' → H' D = some (SetT P w D (uniq (frees xs))) → Qd H') →
        L2.Cmp.Walk J (gName 1) tYes (fun σ2 H2 C => iTup K (tSl (rSlT K) (tVar 1) (tPart (tC (.int 1))) tNoPart) σ2 H2 fun J1 H3 => L2.Cmp.Walk J1 (gName 2) (tTest (tOp rEq (tOp rIxS (tVar 2) (tC (.int 0))) (tC (.str (Str.ofString "?"))))) (tAd (addT P w) (tVar 2) D) [2] σ2 C H3) [1, 2] [some (.ref q), none, none] Qd (upd H D (SetT P w D [])) := by
      intro J Sq wr st Qd D nD hd
      refine wr _ _ _ _ _ _ _ (fun i H5 => H5 D = some (SetT P w D (uniq (frees (xs.take i)))) ∧ Same H H5) ⟨upd_same, same_new nD⟩ (fun i H5 hi p => st _ p.2) (fun i x H5 hx p => ?_) fun H5 p => hd H5 p.2 ?_
      · obtain ⟨p1, p2⟩ := p
        rw [List.getElem?_map] at hx
        obtain ⟨y, hy, rfl⟩ := Option.map_eq_some_iff.mp hx
        have my : y ∈ xs := List.mem_of_getElem? hy
        have ty := lot.each y my
        refine ⟨rfl, ?_⟩
        dsimp only [tYes]
        rw [if_pos rfl]
        refine ⟨_, rfl, _, rfl, y.1, _, rfl, SqT.of (p2 _ _ ty), cut_part _ _, fun t nt => ⟨t, rfl, ⟨_, SqT.of upd_same⟩, ?_⟩⟩
        rw [cut_one]
        have tD : t ≠ D := fun e => by
          rw [e, p1] at nt
          cases nt
        refine walk_tup (xs := y.2.2.map V.str) _ _ _ _ _ _ _ (fun j H6 => H6 D = some (SetT P w D (uniq (frees (xs.take i) ++ (y.2.2.take j).filter isV))) ∧ Same H H6 ∧ H6 t = some (.tup (y.2.2.map V.str))) ?_ (fun j H6 hj p => SqT.of p.2.2) (fun j x H6 hx p => ?_) (fun H6 p => ?_)
        · refine ⟨?_, fun b o e => ?_, upd_same⟩
          · rw [upd_ne (Ne.symm tD), p1]
            simp
          · have q5 := p2 b o e
            rw [upd_ne (ne_of_none q5 nt)]
            exact q5
        · obtain ⟨p3, p4, p5⟩ := p
          rw [List.getElem?_map] at hx
          obtain ⟨z, hz, rfl⟩ := Option.map_eq_some_iff.mp hx
          have tk : (y.2.2.take (j + 1)) = y.2.2.take j ++ [z] := by
            rw [List.take_succ, hz]
            rfl
          have sh := shape y my z (List.mem_of_getElem? hz)
          obtain ⟨c, r, hc⟩ : ∃ c r, z.cps.toList = c :: r := by
            cases e : z.cps.toList with
            | nil =>
              have l := length_toList z
              rw [e] at l
              have l0 : z.length = 0 := l.symm
              omega
            | cons c r => exact ⟨c, r, rfl⟩
          refine ⟨rfl, _, rfl, z, 0, c, rfl, rfl, by rw [sizeLine_eq]; omega, by rw [hc]; exact atI_nat (j := 0) rfl, rfl, _, rfl, ?_⟩
          rw [first_one hc]
          by_cases hv : isV z = true
          · rw [hv]
            dsimp only
            rw [if_pos rfl]
            have room : (uniq (frees (xs.take i) ++ (y.2.2.take j).filter isV)).length ≤ 60 := by
              have u1 := uniq_len (frees (xs.take i) ++ (y.2.2.take j).filter isV)
              have u2 := frees_le xs (i + 1)
              rw [frees_take hy, List.length_append] at u2
              have u3 : ((y.2.2.take j).filter isV).length ≤ (y.2.2.filter isV).length := ((List.take_sublist _ _).filter _).length_le
              rw [List.length_append] at u1
              omega
            refine ⟨_, rfl, z, _, rfl, p3, Nat.lt_of_le_of_lt (Nat.succ_le_succ room) (by decide), ?_, fun b o e => ?_, ?_⟩
            · rw [upd_same, tk, List.filter_append, List.filter_cons_of_pos hv, List.filter_nil, ← List.append_assoc, uniq_snoc]
              rfl
            · have hb : b ≠ D := ne_of_none e nD
              rw [upd_ne hb]
              exact p4 b o e
            · rw [upd_ne tD]
              exact p5
          · have hv' : isV z = false := by simpa using hv
            rw [hv']
            dsimp only
            rw [if_neg Bool.false_ne_true]
            refine ⟨?_, p4, p5⟩
            rw [tk, List.filter_append, List.filter_cons_of_neg hv, List.filter_nil, List.append_nil]
            exact p3
        · rw [List.length_map, List.take_length] at p
          exact ⟨by rw [frees_take hy]; exact p.1, p.2.1⟩
      · have e := p.1
        rw [List.length_map, List.take_length] at e
        exact e
    have fin : ∀ (D : Addr), H D = none → ∀ H', Same H H' → H' D = some (SetT P w D (uniq (frees xs))) → L2.TxtSet.rSortT P w [.ref D] H' Q := fun D nD H' sm hD =>
      ⟨D, _, rfl, hD, Nat.lt_of_le_of_lt (Nat.le_trans (uniq_len _) few) (by decide), fun ys p pm so np => k p ys _ (fun b o e => by
        have e' := sm b o e
        rw [upd_ne (ne_of_none e' np)]
        exact e') (by
        cases e : H p with
        | none => rfl
        | some o =>
          rw [sm p o e] at np
          cases np) pm so upd_same⟩
    refine ⟨_, rfl, q, rfl, ?_⟩
    rcases lot.sq with hq | hq
    · exact .inl ⟨⟨_, SqL.of hq⟩, fun D nD => main _ _ walk_list (fun H' sm => SqL.of (sm _ _ hq)) _ D nD (fin D nD)⟩
    · exact .inr ⟨⟨_, SqT.of hq⟩, fun D nD => main _ _ walk_tup (fun H' sm => SqT.of (sm _ _ hq)) _ D nD (fin D nD)⟩
end
end L2.LawH
set_option Elab.async false
set_option linter.all false
set_option maxRecDepth 100000
set_option maxHeartbeats 4000000
/-! _law_variables. -/
namespace L2.LawH
open PySem PySem.Spec PyProof.Rows L2.Cmp L2.TxtSet
abbrev sLVars : Stmt := top 28
theorem first_sign (z : Str) : decide (cutS z none (some 1) = Str.ofString "?") = isV z := by
  have q1 : (Str.ofString "?").cps = #[63] := by decide +kernel
  have q2 : (Str.ofString "?").length = 1 := by decide +kernel
  have e2 : HT.sIx z.length z.length (some 1) = min 1 z.length := HT.sIx_nat z.length z.length 1
  have l : z.cps.toList.length = z.length := length_toList z
  have es : Str.ofString "?" = ⟨#[63]⟩ := by
    cases h : Str.ofString "?" with
    | mk c => rw [h] at q1; exact congrArg Str.mk q1
  unfold isV Txt.startswith cutS Builtin.Str.subAt
  rw [HT.sIx_none, e2, q1, q2, es, Bool.eq_iff_iff, decide_eq_true_iff]
  cases hz : z.cps.toList with
  | nil =>
    rw [hz] at l
    have l0 : z.length = 0 := l.symm
    rw [l0]
    simp
  | cons x r =>
    rw [hz] at l
    have l0 : z.length = r.length + 1 := l.symm
    have ez : z.cps = (x :: r).toArray := by rw [← hz]
    rw [l0, ez]
    have m : min 1 (r.length + 1) = 1 := by omega
    rw [m]
    simp
def spLVars : Sp := fun vs H Q _ => ∃ (q : Addr) (xs : List Pt), vs = [.ref q] ∧ H q = some (.lst (xs.map fun x => V.ref x.1)) ∧ LotAt H q xs ∧ (∀ x ∈ xs, ∀ z ∈ x.2.2, z.length ≤ 100) ∧ (frees xs).length ≤ 60 ∧
  ∀ (p : Addr) (ys : List Str) (H' : Hp), Same H H' → H p = none → ys.Perm (uniq (frees xs)) → sortedS ys = true → H' p = some (.lst (ys.map V.str)) → Q (.ref p) H'
section
variable {P : Program} {w : World} {K : PySem.W.Frag} {mg : Str → Option Value} {base : Heap}
abbrev nLVars : List Str := ["_law_lot_here", "_law_found", "_law_pattern_here", "_law_term_here"]
theorem scLV : FnScope nLVars ["_law_lot_here"] (defScope sLVars) := ⟨rfl, rfl, rfl, by decide +kernel, rfl, by decide +kernel, by decide +kernel⟩
theorem ok_lvars {f : Addr} {fd : FuncData} (F : Fun K "_law_variables" "_law_variables" sLVars f fd) (ms : mg "sorted" = none) :
    FnOk P w K mg base CX0 2 f fd ["_law_lot_here"] spLVars := by
  refine F.ok scLV (fun vs H Q E h => ?_) (fun cdv A outer s H vs Q E hr h => ?_)
  · obtain ⟨q, xs, rfl, _⟩ := h
    rfl
  · obtain ⟨q, xs, rfl, hq, lot, short, few, k⟩ := h
    refine ⟨_, pss_cons (ps_set (i := 1) scLV.nd rfl (Or.inl rfl) (pe_lst pa_nil))
      (pss_cons (ps_for PassesOwn.never rfl (pi_list (pv 0)) (pg_name (i := 2) scLV.nd rfl (Or.inl rfl))
        (pss_one (ps_for PassesOwn.never rfl (pi_tup (pe_slice sl_tup (pv 2) (po_some pe_int) po_none)) (pg_name (i := 3) scLV.nd rfl (Or.inl rfl))
          (pss_one (ps_if (PW.pt (pw_and (pt_cmpR op_eq (pe_slice sl_str (pv 3) po_none (po_some pe_int)) pe_str (nomark _)) (pw_and1 (pt_cmpR op_notIn_seq (pv 3) (pv 1) (by rfl)))))
            (pss_one (ps_expr (pe_bm PySem.F.plainAttrs_list PySem.F.slot_list_append PySem.F.type_list_append mt_append (pv 1) (pa_cons (pv 3) pa_nil)))) pss_nil)))))
      (pss_one (ps_ret (pe_callB cr_sortedS (by rfl) ms (by decide +kernel) (pa_cons (pv 1) pa_nil))))), ?_⟩
    refine ⟨(by show 0 ≤ sizeLine; decide), fun D nD => ?_⟩
    refine ⟨_, rfl, q, rfl, ⟨_, SqL.of ((same_new nD) _ _ hq)⟩, for_list (xs := xs.map fun x => V.ref x.1) (fun i σ H5 => ∃ v2 v3, σ = [some (.ref q), some (.ref D), v2, v3] ∧ H5 D = some (.lst ((uniq (frees (xs.take i))).map V.str)) ∧ Same H H5)
      ⟨none, none, rfl, upd_same, same_new nD⟩ (fun i σ H5 hi p => ?_) (fun i x σ H5 hx p => ?_) (fun σ H5 p => ?_)⟩
    · obtain ⟨_, _, _, _, s5⟩ := p
      exact SqL.of (s5 _ _ hq)
    · obtain ⟨v2, v3, rfl, p1, p2⟩ := p
      rw [List.getElem?_map] at hx
      obtain ⟨y, hy, rfl⟩ := Option.map_eq_some_iff.mp hx
      have my : y ∈ xs := List.mem_of_getElem? hy
      have ty := lot.each y my
      refine ⟨_, rfl, _, rfl, y.1, _, rfl, SqT.of (p2 _ _ ty), cut_part _ _, fun t nt => ⟨t, rfl, ⟨_, SqT.of upd_same⟩, ?_⟩⟩
      rw [cut_one]
      have tD : t ≠ D := fun e => by
        rw [e, p1] at nt
        cases nt
      refine for_tup (xs := y.2.2.map V.str) (fun j σ H6 => ∃ v3, σ = [some (.ref q), some (.ref D), some (.ref y.1), v3] ∧ H6 D = some (.lst ((uniq (frees (xs.take i) ++ (y.2.2.take j).filter isV)).map V.str)) ∧ Same H H6 ∧ H6 t = some (.tup (y.2.2.map V.str)))
        ?_ (fun j σ H6 hj p => ?_) (fun j x σ H6 hx p => ?_) (fun σ H6 p => ?_)
      · refine ⟨_, rfl, ?_, fun b o e => ?_, upd_same⟩
        · rw [upd_ne (Ne.symm tD), p1]
          simp
        · have q5 := p2 b o e
          rw [upd_ne (ne_of_none q5 nt)]
          exact q5
      · obtain ⟨_, _, _, _, p5⟩ := p
        exact SqT.of p5
      · obtain ⟨v3', rfl, p3, p4, p5⟩ := p
        rw [List.getElem?_map] at hx
        obtain ⟨z, hz, rfl⟩ := Option.map_eq_some_iff.mp hx
        have mz : z ∈ y.2.2 := List.mem_of_getElem? hz
        have tk : (y.2.2.take (j + 1)) = y.2.2.take j ++ [z] := by
          rw [List.take_succ, hz]
          rfl
        have u1 : (uniq (frees (xs.take i) ++ (y.2.2.take j).filter isV)).length ≤ 60 := by
          have u1 := uniq_len (frees (xs.take i) ++ (y.2.2.take j).filter isV)
          have u2 := frees_le xs (i + 1)
          rw [frees_take hy, List.length_append] at u2
          have u3 : ((y.2.2.take j).filter isV).length ≤ (y.2.2.filter isV).length := ((List.take_sublist _ _).filter _).length_le
          rw [List.length_append] at u1
          omega
        refine ⟨_, rfl, _, rfl, z, rfl, ?_, rfl, _, rfl, ?_⟩
        · have := short y my z mz
          rw [sizeLine_eq]
          omega
        have ed : decide (V.str (cutS z none (some 1)) = V.str (Str.ofString "?")) = isV z := by
          rw [← first_sign]
          exact decide_eq_decide.mpr ⟨fun e => V.str.inj e, fun e => by rw [e]⟩
        rw [ed]
        by_cases hv : isV z = true
        · rw [hv]
          refine iteT ?_
          refine ⟨_, rfl, _, rfl, D, _, rfl, .inl (SqL.of p3), rfl, flat_strs _, _, rfl, ?_⟩
          rw [if_pos rfl, inV_strs]
          by_cases hm : z ∈ uniq (frees (xs.take i) ++ (y.2.2.take j).filter isV)
          · rw [decide_eq_true hm]
            refine iteF ?_
            refine ⟨_, rfl, ?_, p4, p5⟩
            rw [tk, List.filter_append, List.filter_cons_of_pos hv, List.filter_nil, ← List.append_assoc, uniq_snoc]
            unfold put1
            rw [if_pos hm]
            exact p3
          · rw [decide_eq_false hm]
            refine iteT ?_
            refine ⟨_, rfl, .inl ⟨rfl, _, SqL.of p3⟩, _, rfl, D, _, _, rfl, rfl, p3, ?_, ?_⟩
            · rw [List.length_map, sizeLine_eq]
              omega
            · refine ⟨_, rfl, ?_, fun b o e => ?_, ?_⟩
              · rw [upd_same, tk, List.filter_append, List.filter_cons_of_pos hv, List.filter_nil, ← List.append_assoc, uniq_snoc]
                unfold put1
                rw [if_neg hm, List.map_append]
                rfl
              · rw [upd_ne (ne_of_none e nD)]
                exact p4 b o e
              · rw [upd_ne tD]
                exact p5
        · have hv' : isV z = false := by simpa using hv
          rw [hv']
          refine iteF ?_
          refine iteF ?_
          refine ⟨_, rfl, ?_, p4, p5⟩
          rw [tk, List.filter_append, List.filter_cons_of_neg hv, List.filter_nil, List.append_nil]
          exact p3
      · rw [List.length_map, List.take_length] at p
        obtain ⟨v3', rfl, p3, p4, _⟩ := p
        exact ⟨_, _, rfl, by rw [frees_take hy]; exact p3, p4⟩
    · obtain ⟨v2, v3, rfl, p1, p2⟩ := p
      rw [List.length_map, List.take_length] at p1
      refine ⟨_, rfl, D, _, rfl, SqL.of p1, Nat.lt_of_le_of_lt (Nat.le_trans (uniq_len _) few) (by decide), fun ys p pm so np => ?_⟩
      refine k p ys _ (fun b o e => ?_) ?_ pm so upd_same
      · have e' := p2 b o e
        rw [upd_ne (ne_of_none e' np)]
        exact e'
      · cases e : H p with
        | none => rfl
        | some o =>
          rw [p2 p o e] at np
          cases np
end
end L2.LawH
set_option Elab.async false
set_option linter.all false
set_option maxRecDepth 100000
set_option maxHeartbeats 4000000
/-! _law_lot; two ascending lists of the same texts. -/
namespace L2.LawH
open PySem PySem.Spec PyProof.Rows L2.Cmp L2.TxtSet
theorem asc_pw : ∀ (l : List Str) (p : Str), risingS p l = true → (p :: l).Pairwise fun a b => a.cps.toList ≤ b.cps.toList
  | [], p, _ => List.pairwise_singleton _ _
  | x :: r, p, h => by
    simp only [risingS, Bool.and_eq_true, Bool.not_eq_true', ltCps_eq, decide_eq_false_iff_not, List.not_lt] at h
    have ih := asc_pw r x h.2
    refine List.pairwise_cons.mpr ⟨fun y hy => ?_, ih⟩
    rcases List.mem_cons.mp hy with rfl | hy
    · exact h.1
    · exact List.le_trans h.1 ((List.pairwise_cons.mp ih).1 y hy)
theorem asc_all {l : List Str} (h : sortedS l = true) : l.Pairwise fun a b => a.cps.toList ≤ b.cps.toList := by
  cases l with
  | nil => exact List.Pairwise.nil
  | cons x r => exact asc_pw r x h
theorem asc_eq {l l' u : List Str} (h : sortedS l = true) (h' : sortedS l' = true) (p : l.Perm u) (p' : l'.Perm u) : l = l' := by
  refine List.Perm.eq_of_pairwise (fun a b _ _ x y => ?_) (asc_all h) (asc_all h') (p.trans p'.symm)
  have e : a.cps.toList = b.cps.toList := List.le_antisymm x y
  cases a
  cases b
  exact congrArg Str.mk (Array.toList_inj.mp e)
abbrev sLot7 : Stmt := top 27
/-- a lot xs at q, drawn over a pool and variables, outside the source -/
structure LotOf (a : Addr) (π : Pool) (W : List Str) (H : Hp) (q : Addr) (xs : List Pt) : Prop where
  sq : H q = some (.lst (xs.map fun x => V.ref x.1))
  each : ∀ x ∈ xs, H x.1 = some (.tup (.str x.2.1 :: x.2.2.map V.str))
  pat : ∀ x ∈ xs, PatOf π W x.2.1 x.2.2
  nq : q ≠ a
  nx : ∀ x ∈ xs, x.1 ≠ a
theorem LotOf.at {a : Addr} {π : Pool} {W : List Str} {H : Hp} {q : Addr} {xs : List Pt} (h : LotOf a π W H q xs) : LotAt H q xs := ⟨.inl h.sq, h.each⟩
theorem LotOf.keep {a : Addr} {π : Pool} {W : List Str} {H H' : Hp} {q : Addr} {xs : List Pt} (h : LotOf a π W H q xs) (k : Keep a H H') : LotOf a π W H' q xs :=
  ⟨k _ _ h.sq h.nq, fun x m => k _ _ (h.each x m) (h.nx x m), h.pat, h.nq, h.nx⟩
def spLot : Sp := fun vs H Q _ => ∃ (a p q : Addr) (c : Int) (m n : Nat) (π : Pool) (W : List Str), vs = [.ref a, .ref p, .ref q, .int n] ∧ n ≤ 100 ∧ SrcAt H a c (m + 20 * n + 1) ∧ PoolAt a H p π ∧ VarsAt a H q W ∧
  ∀ (t : Addr) (xs : List Pt) (H' : Hp), LotOf a π W H' t xs → xs.length ≤ n → SrcAt H' a c m → Keep a H H' → Q (.ref t) H'
section
variable {P : Program} {w : World} {K : PySem.W.Frag} {mg : Str → Option Value} {base : Heap}
abbrev nLot : List Str := ["_law_source_here", "_law_pool_here", "_law_variables_here", "_law_most", "_law_k"]
abbrev pLot : List Str := ["_law_source_here", "_law_pool_here", "_law_variables_here", "_law_most"]
theorem scLt : FnScope nLot pLot (defScope sLot7) := ⟨rfl, rfl, rfl, by decide +kernel, rfl, by decide +kernel, by decide +kernel⟩
theorem ok_lot {f fD fP : Addr} {fd fdD fdP : FuncData} (F : Fun K "_law_lot" "_law_lot" sLot7 f fd)
    (GD : FnOk P w K mg base CX0 1 fD fdD ["_law_source_here", "_law_limit"] spDraw) (kD : PySem.W.keepIn K (.ref fD) = true) (bD : Binds K fdD ["_law_source_here", "_law_limit"] []) (mD : mg "_law_draw" = some (.ref fD))
    (GP : FnOk P w K mg base CX0 3 fP fdP nTerm spPat) (kP : PySem.W.keepIn K (.ref fP) = true) (bP : Binds K fdP nTerm []) (mP : mg "_law_pattern" = some (.ref fP)) (mr : mg "range" = none) :
    FnOk P w K mg base CX0 4 f fd pLot spLot := by
  refine F.ok scLt (fun vs H Q E h => ?_) (fun cdv A outer s H vs Q E hr h => ?_)
  · obtain ⟨a, p, q, c, m, n, π, W, rfl, _⟩ := h
    rfl
  · obtain ⟨a, p, q, c, m, n, π, W, rfl, hn, hs, hp, hv, k⟩ := h
    have hr1 : Room 1 _ := hr.mono (by decide)
    have hr3 : Room 3 _ := hr.mono (by decide)
    refine ⟨_, pss_one (ps_ret (pe_lc (own := [("_law_k", 4)]) (g := gName 4) (tt := tYes) rfl scLt.nd (pi_range1 (by rfl) mr (pa_cons (pe_call GD hr1 (by rfl) mD kD bD .nil pass0 (pa_cons (pv 0) (pa_cons (pe_op op_add (pv 3) pe_int) pa_nil))) pa_nil))
      (blkOk_by (own := [("_law_k", 4)]) (N := nLot) (sc := defScope sLot7) (by decide +kernel)) (fun _ _ _ _ _ => pg_name (i := 4) scLt.nd rfl (Or.inl rfl)) (fun _ _ _ _ _ => pts_nil)
      (fun _ _ _ _ _ => pe_call GP hr3 (by rfl) mP kP bP .nil pass0 (pa_cons (pv 0) (pa_cons (pv 1) (pa_cons (pv 2) (pa_cons pe_int pa_nil))))))), ?_⟩
    refine ⟨_, rfl, _, rfl, _, _, rfl, rfl, a, c, m + 20 * n, _, rfl, hs, by omega, by omega, fun r H1 r0 r1 s1 k1 => ?_⟩
    obtain ⟨j, rfl⟩ : ∃ j : Nat, r = j := ⟨r.toNat, by omega⟩
    refine ⟨_, rfl, by omega, by omega, fun D nD => ?_⟩
    rw [Int.toNat_natCast]
    have hj : j ≤ n := by omega
    have zD := s1.ne nD
    refine lc_range (lo := 0) (n := j) (fun i H5 => ∃ xs : List Pt, xs.length = i ∧ H5 D = some (.lst (xs.map fun x => V.ref x.1)) ∧ (∀ x ∈ xs, H5 x.1 = some (.tup (.str x.2.1 :: x.2.2.map V.str)) ∧ PatOf π W x.2.1 x.2.2 ∧ x.1 ≠ a ∧ x.1 ≠ D) ∧ SrcAt H5 a c (m + 20 * (n - i)) ∧ Keep a H H5)
      ⟨[], rfl, upd_same, fun _ z => (by cases z), (s1.same (same_new nD)).mono (by omega), k1.trans (Keep.of (same_new nD))⟩ ?_ ?_
    · rintro i H5 hi ⟨xs, lx, hD, hx, s5, k5⟩
      refine ⟨rfl, ?_⟩
      dsimp only [tYes]
      rw [if_pos rfl]
      have s5' : SrcAt H5 a c (m + 20 * (n - (i + 1)) + 20) := s5.mono (by omega)
      refine ⟨_, rfl, _, rfl, _, rfl, a, p, q, c, m + 20 * (n - (i + 1)), 4, π, W, rfl, s5', hp.keep k5, hv.keep k5, fun t T zs H6 pt ht ta s6 k6 => ?_⟩
      have hD6 := k6 _ _ hD zD
      have tD : t ≠ D := fun e => by
        rw [e, hD6] at ht
        cases ht
      refine ⟨_, hD6, ?_, xs ++ [(t, T, zs)], by simp [lx], by rw [upd_same]; simp, fun y hy => ?_, ?_, ?_⟩
      · rw [List.length_map, lx, sizeLine_eq]
        omega
      · rcases List.mem_append.mp hy with hy | hy
        · obtain ⟨h1, h2, h3, h4⟩ := hx y hy
          exact ⟨by rw [upd_ne h4]; exact k6 _ _ h1 h3, h2, h3, h4⟩
        · have e : y = (t, T, zs) := by simpa using hy
          rw [e]
          exact ⟨by rw [upd_ne tD]; exact ht, pt, ta, tD⟩
      · obtain ⟨d, nn, e, g⟩ := s6
        exact ⟨d, nn, by rw [upd_ne zD.symm]; exact e, g⟩
      · intro b o e nb
        have hb : b ≠ D := ne_of_none (k1 b o e nb) nD
        rw [upd_ne hb]
        exact (k5.trans k6) b o e nb
    · rintro H5 ⟨xs, lx, hD, hx, s5, k5⟩
      exact k D xs H5 ⟨hD, fun x m => (hx x m).1, fun x m => (hx x m).2.1, zD, fun x m => (hx x m).2.2.1⟩ (by omega) (s5.mono (by omega)) k5
end
end L2.LawH
set_option Elab.async false
set_option linter.all false
set_option maxRecDepth 100000
set_option maxHeartbeats 4000000
/-! is_name, is_variable. -/
namespace L2.LawH
open PySem PySem.Spec PyProof.Rows L2.Cmp L2.TxtSet
abbrev sIsN : Stmt := top 10
abbrev sIsV : Stmt := top 11
/-- a value of a kind that is no text -/
def NotS (K : PySem.W.Frag) (H : Hp) (x : V) : Prop := ∃ n : String, TyX K H x (.type n) ∧ kitB n "str" = some false
abbrev letS8 : Str := "abcdefghijklmnopqrstuvwxyz"
abbrev sgnS8 : Str := "abcdefghijklmnopqrstuvwxyz0123456789"
def spIsN (K : PySem.W.Frag) : Sp := fun vs H Q _ => ∃ x : V, vs = [x] ∧ ((∃ z : Str, x = .str z ∧ z.length ≤ 100000 ∧ ∀ H', Same H H' → Q (.bl (nmB z.cps.toList)) H') ∨ (NotS K H x ∧ Q (.bl false) H))
theorem in_let (c : Nat) : (!(Builtin.Str.occurrences letS8 ⟨#[c]⟩ 0 letS8.length 1).isEmpty) = isLet c := by
  rw [empty_one, Bool.not_not]
  have e : letS8.cps.toList = [97,98,99,100,101,102,103,104,105,106,107,108,109,110,111,112,113,114,115,116,117,118,119,120,121,122] := by decide +kernel
  rw [e]
  unfold isLet
  rw [Bool.eq_iff_iff]
  simp only [decide_eq_true_eq, Bool.and_eq_true, List.mem_cons, List.not_mem_nil, or_false]
  omega
theorem in_sgn (c : Nat) : (!(Builtin.Str.occurrences sgnS8 ⟨#[c]⟩ 0 sgnS8.length 1).isEmpty) = isSgn c := by
  rw [empty_one, Bool.not_not]
  have e : sgnS8.cps.toList = [97,98,99,100,101,102,103,104,105,106,107,108,109,110,111,112,113,114,115,116,117,118,119,120,121,122,48,49,50,51,52,53,54,55,56,57] := by decide +kernel
  rw [e]
  unfold isSgn isLet
  rw [Bool.eq_iff_iff]
  simp only [decide_eq_true_eq, Bool.and_eq_true, Bool.or_eq_true, List.mem_cons, List.not_mem_nil, or_false]
  omega
theorem nmB_eq (c : Nat) (r : List Nat) (h : r.length ≤ 11) : nmB (c :: r) = (isLet c && ((c :: r).all isSgn)) := by
  show (isLet c && r.all isSgn && decide (r.length ≤ 11)) = _
  rw [decide_eq_true h, Bool.and_true, List.all_cons]
  cases hl : isLet c with
  | false => rfl
  | true =>
    have : isSgn c = true := by
      unfold isSgn
      rw [hl]
      rfl
    rw [this]
    rfl
theorem asc_tab : ((List.range 128).all fun c => (Unicode.isAlnum c == (isSgn c || (decide (65 ≤ c) && decide (c ≤ 90)))) && (Unicode.isLower c == isLet c) &&
    ((Unicode.isUpper c || Unicode.isTitle c) == (decide (65 ≤ c) && decide (c ≤ 90))) && (Unicode.isAlpha c == (isLet c || (decide (65 ≤ c) && decide (c ≤ 90))))) = true := by decide +kernel
theorem asc_at {c : Nat} (h : c < 128) : Unicode.isAlnum c = (isSgn c || (decide (65 ≤ c) && decide (c ≤ 90))) ∧ Unicode.isLower c = isLet c ∧
    (Unicode.isUpper c || Unicode.isTitle c) = (decide (65 ≤ c) && decide (c ≤ 90)) ∧ Unicode.isAlpha c = (isLet c || (decide (65 ≤ c) && decide (c ≤ 90))) := by
  have q := List.all_eq_true.mp asc_tab c (List.mem_range.mpr h)
  simp only [Bool.and_eq_true, beq_iff_eq] at q
  exact ⟨q.1.1.1, q.1.1.2, q.1.2, q.2⟩
theorem all_cps (z : Str) (p : Nat → Bool) : z.cps.all p = z.cps.toList.all p := by rw [Array.all_toList]
theorem any_cps (z : Str) (p : Nat → Bool) : z.cps.any p = z.cps.toList.any p := by rw [Array.any_toList]
theorem sgn_asc {c : Nat} (h : isSgn c = true) : c < 128 := by
  unfold isSgn isLet at h
  simp only [Bool.or_eq_true, Bool.and_eq_true, decide_eq_true_eq] at h
  omega
/-- what the name test asks before the first sign -/
def pre8 (l : List Nat) : Bool := l.all (fun c => decide (c < 128)) && (decide (l.length > 0) && l.all Unicode.isAlnum) && (l.any Unicode.isLower && !l.any fun c => Unicode.isUpper c || Unicode.isTitle c)
theorem pre8_sgn {l : List Nat} (h : pre8 l = true) : l.all isSgn = true := by
  unfold pre8 at h
  simp only [Bool.and_eq_true, decide_eq_true_eq, Bool.not_eq_true'] at h
  obtain ⟨⟨h1, h2, h3⟩, h4, h5⟩ := h
  refine List.all_eq_true.mpr fun c m => ?_
  have a := of_decide_eq_true (List.all_eq_true.mp h1 c m)
  have b := List.all_eq_true.mp h3 c m
  have d := List.any_eq_false.mp h5 c m
  obtain ⟨q1, q2, q3, q4⟩ := asc_at a
  rw [q1] at b
  rw [q3] at d
  simpa [d] using b
theorem pre8_of {c : Nat} {r : List Nat} (hc : isLet c = true) (h : (c :: r).all isSgn = true) : pre8 (c :: r) = true := by
  have asc : ∀ d ∈ c :: r, d < 128 := fun d m => sgn_asc (List.all_eq_true.mp h d m)
  unfold pre8
  simp only [Bool.and_eq_true, decide_eq_true_eq, Bool.not_eq_true']
  refine ⟨⟨List.all_eq_true.mpr fun d m => decide_eq_true (asc d m), Nat.succ_pos _, List.all_eq_true.mpr fun d m => ?_⟩, List.any_eq_true.mpr ⟨c, List.mem_cons_self, ?_⟩, List.any_eq_false.mpr fun d m => ?_⟩
  · rw [(asc_at (asc d m)).1, List.all_eq_true.mp h d m, Bool.true_or]
  · rw [(asc_at (asc c List.mem_cons_self)).2.1, hc]
  · rw [(asc_at (asc d m)).2.2.1]
    have q := List.all_eq_true.mp h d m
    unfold isSgn isLet at q
    simp only [Bool.or_eq_true, Bool.and_eq_true, decide_eq_true_eq] at q
    simp only [Bool.and_eq_true, decide_eq_true_eq]
    omega
theorem nmB_pre {c : Nat} {r : List Nat} (h : pre8 (c :: r) = true) : nmB (c :: r) = (Unicode.isAlpha c && decide ((c :: r).length ≤ 12)) := by
  have sg := pre8_sgn h
  rw [List.all_cons, Bool.and_eq_true] at sg
  have asc := sgn_asc sg.1
  obtain ⟨q1, q2, q3, q4⟩ := asc_at asc
  have al : Unicode.isAlpha c = isLet c := by
    have s := sg.1
    unfold isSgn at s
    rw [q4]
    unfold isLet at s ⊢
    rw [Bool.eq_iff_iff]
    simp only [Bool.or_eq_true, Bool.and_eq_true, decide_eq_true_eq] at s ⊢
    omega
  show (isLet c && r.all isSgn && decide (r.length ≤ 11)) = _
  rw [sg.2, al, Bool.and_true, List.length_cons]
  congr 1
  exact decide_eq_decide.mpr ⟨fun h => by omega, fun h => by omega⟩
theorem pre8_eq (z : Str) : (Txt.isascii z && Txt.isalnum z && Txt.islower z) = pre8 z.cps.toList := by
  unfold Txt.isascii Txt.isalnum Txt.islower pre8
  rw [all_cps, all_cps, any_cps, any_cps, length_toList]
theorem nmB_no {l : List Nat} (h : pre8 l = false) : nmB l = false := by
  cases l with
  | nil => rfl
  | cons c r =>
    cases e : nmB (c :: r) with
    | false => rfl
    | true =>
      have e : (isLet c && r.all isSgn && decide (r.length ≤ 11)) = true := e
      simp only [Bool.and_eq_true] at e
      have sg : isSgn c = true := by
        unfold isSgn
        rw [e.1.1, Bool.true_or]
      rw [pre8_of e.1.1 (by rw [List.all_cons, sg, e.1.2, Bool.and_self])] at h
      cases h
section
variable {P : Program} {w : World} {K : PySem.W.Frag} {mg : Str → Option Value} {base : Heap}
theorem scIN : FnScope ["value"] ["value"] (defScope sIsN) := ⟨rfl, rfl, rfl, by decide +kernel, rfl, by decide +kernel, by decide +kernel⟩
theorem ok_isN {f : Addr} {fd : FuncData} (F : Fun K "is_name" "is_name" sIsN f fd) {t3 : Tok} (mM : mg "LONGEST_NAME" = some (.int 12 t3))
    (mi : mg "isinstance" = none) (mst : mg "str" = none) (ml : mg "len" = none) :
    FnOk P w K mg base CX0 1 f fd ["value"] (spIsN K) := by
  refine F.ok scIN (fun vs H Q E h => ?_) (fun cdv A outer s H vs Q E hr h => ?_)
  · obtain ⟨x, rfl, _⟩ := h
    rfl
  · obtain ⟨x, rfl, h⟩ := h
    refine ⟨_, pss_one (ps_ret (pe_and (pe_callB call_isi (by rfl) mi (by decide +kernel) (pa_cons (pv 0) (pa_cons (pe_bltn (v := .ty "str") (by rfl) mst (by decide +kernel) rfl) pa_nil)))
      (pe_and (pe_m0 PySem.F.slot_str_isascii PySem.F.type_str_isascii mt_isascii (pv 0))
      (pe_and (pe_m0 PySem.F.slot_str_isalnum PySem.F.type_str_isalnum mt_isalnum (pv 0))
      (pe_and (pe_m0 PySem.F.slot_str_islower PySem.F.type_str_islower mt_islower (pv 0))
      (pe_and (pe_m0 PySem.F.slot_str_isalpha PySem.F.type_str_isalpha mt_isalpha (pe_ix ix_str (pv 0) pe_int (fun _ _ => rfl)))
        (pe_one (pe_cmpR op_le (pe_callB call_len_str (by rfl) ml (by decide +kernel) (pa_cons (pv 0) pa_nil)) (pe_glob (v := .int 12) (by rfl) mM ⟨_, rfl⟩) (by rfl))))))))), ?_⟩
    rcases h with ⟨z, rfl, hz, k⟩ | ⟨⟨n, ty, kb⟩, k⟩
    · have szl : z.length ≤ sizeLine := by rw [sizeLine_eq]; omega
      have no : pre8 z.cps.toList = false → Q (.bl false) H := fun e => by
        have q := k H fun _ _ e => e
        rw [nmB_no e] at q
        exact q
      have pe := pre8_eq z
      refine ⟨_, rfl, _, .ty "str", _, _, true, rfl, .ty "str", .base (.str z), kit_ty (by decide +kernel), _, rfl, ?_⟩
      refine iteT ?_
      refine ⟨_, rfl, ⟨_, rfl⟩, _, rfl, rfl, trivial, _, rfl, ?_⟩
      cases eA : Txt.isascii z with
      | false => exact iteF (no (by rw [← pe, eA, Bool.false_and, Bool.false_and]))
      | true =>
        refine iteT ⟨_, rfl, ⟨_, rfl⟩, _, rfl, rfl, trivial, _, rfl, ?_⟩
        cases eB : Txt.isalnum z with
        | false => exact iteF (no (by rw [← pe, eB, Bool.and_false, Bool.false_and]))
        | true =>
          refine iteT ⟨_, rfl, ⟨_, rfl⟩, _, rfl, rfl, trivial, _, rfl, ?_⟩
          cases eC : Txt.islower z with
          | false => exact iteF (no (by rw [← pe, eC, Bool.and_false]))
          | true =>
            have p8 : pre8 z.cps.toList = true := by rw [← pe, eA, eB, eC]; rfl
            have lz : z.cps.toList.length = z.length := length_toList z
            have k' := k H fun _ _ e => e
            cases hc : z.cps.toList with
            | nil =>
              rw [hc] at p8
              cases p8
            | cons c r =>
              rw [hc] at p8 k' lz
              rw [nmB_pre p8] at k'
              refine iteT ⟨_, rfl, z, 0, c, rfl, rfl, szl, by rw [hc]; exact atI_nat (j := 0) rfl, ⟨_, rfl⟩, _, rfl, rfl, trivial, _, rfl, ?_⟩
              have ea : Txt.isalpha ⟨#[c]⟩ = Unicode.isAlpha c := by
                unfold Txt.isalpha
                simp [Str.length]
              rw [ea]
              cases eD : Unicode.isAlpha c with
              | false =>
                rw [eD, Bool.false_and] at k'
                exact iteF k'
              | true =>
                rw [eD, Bool.true_and] at k'
                refine iteT ⟨_, rfl, z, rfl, szl, _, _, rfl, rfl, ?_⟩
                have e : decide ((z.length : Int) ≤ 12) = decide ((c :: r).length ≤ 12) := decide_eq_decide.mpr ⟨fun h => by omega, fun h => by omega⟩
                rw [← e] at k'
                exact k'
    · refine ⟨_, rfl, _, .ty "str", _, _, false, rfl, .ty "str", ty, kit_ty kb, _, rfl, ?_⟩
      exact iteF k
end
end L2.LawH
set_option Elab.async false
set_option linter.all false
set_option maxRecDepth 100000
set_option maxHeartbeats 4000000
/-! is_variable, is_pattern, is_fact. -/
namespace L2.LawH
open PySem PySem.Spec PyProof.Rows L2.Cmp L2.TxtSet
abbrev sIsV9 : Stmt := top 11
abbrev sIsP9 : Stmt := top 12
abbrev sIsF9 : Stmt := top 6
def varB (z : Str) : Bool := isV z && nmB (z.cps.toList.drop 1)
theorem cut_tail (z : Str) : (cutS z (some 1) none).cps.toList = z.cps.toList.drop 1 := by
  have l : z.cps.toList.length = z.length := length_toList z
  have e1 : HT.sIx z.length 0 (some 1) = min 1 z.length := HT.sIx_nat z.length 0 1
  unfold cutS
  rw [e1, HT.sIx_none]
  show (z.cps.toList.drop (min 1 z.length)).take (z.length - min 1 z.length) = _
  cases hc : z.cps.toList with
  | nil => simp
  | cons c r =>
    rw [hc, List.length_cons] at l
    have m : min 1 z.length = 1 := by omega
    rw [m]
    have e : z.length - 1 = r.length := by omega
    rw [e]
    simp
/-- names and variables among values -/
def vN : V → Bool
  | .str z => nmB z.cps.toList
  | _ => false
def vV : V → Bool
  | .str z => varB z
  | _ => false
/-- a value that may be asked -/
def Okv (K : PySem.W.Frag) (H : Hp) (x : V) : Prop := (∃ z : Str, x = .str z ∧ z.length ≤ 100000) ∨ (NotS K H x ∧ ∀ z, x ≠ .str z)
theorem tyx_same {K : PySem.W.Frag} {H H' : Hp} (s : Same H H') {x : V} {t : Value} (h : TyX K H x t) : TyX K H' x t := by
  cases h with
  | base b =>
    refine .base ?_
    cases b with
    | non => exact .non
    | bl x => exact .bl x
    | int i => exact .int i
    | str x => exact .str x
    | flt x => exact .flt x
    | lst e => exact .lst (s _ _ e)
    | frz e => exact .frz (s _ _ e)
    | tup e => exact .tup (s _ _ e)
    | dK e => exact .dK (s _ _ e)
    | dT e => exact .dT (s _ _ e)
    | ins e cl ha hn htk hm => exact .ins (s _ _ e) cl ha hn htk hm
  | byt b => exact .byt b
  | set e => exact .set (s _ _ e)
  | kList e c => exact .kList e c
  | kTuple e c => exact .kTuple e c
  | kDict e c => exact .kDict e c
  | fTuple e => exact .fTuple (s _ _ e)
  | fDict e => exact .fDict (s _ _ e)
theorem Okv.same {K : PySem.W.Frag} {H H' : Hp} (s : Same H H') {x : V} (h : Okv K H x) : Okv K H' x := by
  rcases h with h | ⟨⟨n, ty, kb⟩, no⟩
  · exact .inl h
  · exact .inr ⟨⟨n, tyx_same s ty, kb⟩, no⟩
def NotT (K : PySem.W.Frag) (H : Hp) (x : V) : Prop := ∃ n : String, TyX K H x (.type n) ∧ kitB n "tuple" = some false
def patB (xs : List V) : Bool := match xs with
  | [] => false
  | x :: r => decide (r.length ≤ 3) && vN x && r.all fun y => vN y || vV y
def factB (xs : List V) : Bool := patB xs && xs.all vN
def spIsVr (K : PySem.W.Frag) : Sp := fun vs H Q _ => ∃ x : V, vs = [x] ∧ Okv K H x ∧ ∀ H', Same H H' → Q (.bl (vV x)) H'
def spIsP (K : PySem.W.Frag) (f : List V → Bool) : Sp := fun vs H Q _ => ∃ x : V, vs = [x] ∧
  ((∃ (t : Addr) (xs : List V), x = .ref t ∧ H t = some (.tup xs) ∧ xs.length ≤ 100000 ∧ (∀ y ∈ xs, Okv K H y) ∧ ∀ H', Same H H' → Q (.bl (f xs)) H') ∨ (NotT K H x ∧ ∀ H', Same H H' → Q (.bl false) H'))
theorem isN_of {K : PySem.W.Frag} {H : Hp} {x : V} {Q : VK} {E : XK} (o : Okv K H x) (k : ∀ H', Same H H' → Q (.bl (vN x)) H') : spIsN K [x] H Q E := by
  refine ⟨x, rfl, ?_⟩
  rcases o with ⟨z, rfl, l⟩ | ⟨n, no⟩
  · exact .inl ⟨z, rfl, l, k⟩
  · refine .inr ⟨n, ?_⟩
    have e : vN x = false := by
      cases x with
      | str z => exact absurd rfl (no z)
      | _ => rfl
    have q := k H fun _ _ e => e
    rw [e] at q
    exact q
section
variable {P : Program} {w : World} {K : PySem.W.Frag} {mg : Str → Option Value} {base : Heap}
theorem scIV : FnScope ["value"] ["value"] (defScope sIsV9) := ⟨rfl, rfl, rfl, by decide +kernel, rfl, by decide +kernel, by decide +kernel⟩
theorem ok_isV {f fN : Addr} {fd fdN : FuncData} (F : Fun K "is_variable" "is_variable" sIsV9 f fd)
    (GN : FnOk P w K mg base CX0 1 fN fdN ["value"] (spIsN K)) (kN : PySem.W.keepIn K (.ref fN) = true) (bN : Binds K fdN ["value"] []) (mN : mg "is_name" = some (.ref fN))
    (mi : mg "isinstance" = none) (mst : mg "str" = none) :
    FnOk P w K mg base CX0 2 f fd ["value"] (spIsVr K) := by
  refine F.ok scIV (fun vs H Q E h => ?_) (fun cdv A outer s H vs Q E hr h => ?_)
  · obtain ⟨x, rfl, _⟩ := h
    rfl
  · obtain ⟨x, rfl, o, k⟩ := h
    have hr1 : Room 1 _ := hr.mono (by decide)
    refine ⟨_, pss_one (ps_ret (pe_and (pe_callB call_isi (by rfl) mi (by decide +kernel) (pa_cons (pv 0) (pa_cons (pe_bltn (v := .ty "str") (by rfl) mst (by decide +kernel) rfl) pa_nil)))
      (pe_and (pe_m1 PySem.F.slot_str_startswith PySem.F.type_str_startswith mt_startswith (pv 0) pe_str)
        (pe_one (pe_call GN hr1 (by rfl) mN kN bN .nil pass0 (pa_cons (pe_slice sl_str (pv 0) (po_some pe_int) po_none) pa_nil)))))), ?_⟩
    rcases o with ⟨z, rfl, l⟩ | ⟨⟨n, ty, kb⟩, no⟩
    · have kv : ∀ H', Same H H' → Q (.bl (varB z)) H' := k
      refine ⟨_, rfl, _, .ty "str", _, _, true, rfl, .ty "str", .base (.str z), kit_ty (by decide +kernel), _, rfl, ?_⟩
      refine iteT ?_
      refine ⟨_, rfl, ⟨_, rfl⟩, _, _, rfl, rfl, _, rfl, ?_⟩
      refine ite2 (fun h1 => ?_) (fun h1 => ?_)
      · have h1 : isV z = true := h1
        refine ⟨_, rfl, _, rfl, z, rfl, by rw [sizeLine_eq]; omega, ?_⟩
        refine isN_of (E := E0) (.inl ⟨_, rfl, Nat.le_trans (cutS_length z (some 1) none) l⟩) fun H' s => ?_
        have q := kv H' s
        unfold varB at q
        rw [h1, Bool.true_and, ← cut_tail] at q
        exact q
      · have h1 : isV z = false := by
          cases e : isV z with
          | false => rfl
          | true => exact absurd e h1
        have q := kv H fun _ _ e => e
        unfold varB at q
        rw [h1, Bool.false_and] at q
        exact q
    · refine ⟨_, rfl, _, .ty "str", _, _, false, rfl, .ty "str", ty, kit_ty kb, _, rfl, ?_⟩
      refine iteF ?_
      have q := k H fun _ _ e => e
      have e : vV x = false := by
        cases x with
        | str z => exact absurd rfl (no z)
        | _ => rfl
      rw [e] at q
      exact q
theorem scIP : FnScope ["value", "term"] ["value"] (defScope sIsP9) := ⟨rfl, rfl, rfl, by decide +kernel, rfl, by decide +kernel, by decide +kernel⟩
theorem ok_isP {f fN fV : Addr} {fd fdN fdV : FuncData} (F : Fun K "is_pattern" "is_pattern" sIsP9 f fd)
    (GN : FnOk P w K mg base CX0 1 fN fdN ["value"] (spIsN K)) (kN : PySem.W.keepIn K (.ref fN) = true) (bN : Binds K fdN ["value"] []) (mN : mg "is_name" = some (.ref fN))
    (GV : FnOk P w K mg base CX0 2 fV fdV ["value"] (spIsVr K)) (kV : PySem.W.keepIn K (.ref fV) = true) (bV : Binds K fdV ["value"] []) (mV : mg "is_variable" = some (.ref fV))
    {t3 : Tok} (mM : mg "MOST_TERMS" = some (.int 3 t3)) (mi : mg "isinstance" = none) (mtp : mg "tuple" = none) (ml : mg "len" = none) :
    FnOk P w K mg base CX0 3 f fd ["value"] (spIsP K patB) := by
  refine F.ok scIP (fun vs H Q E h => ?_) (fun cdv A outer s H vs Q E hr h => ?_)
  · obtain ⟨x, rfl, _⟩ := h
    rfl
  · obtain ⟨x, rfl, h⟩ := h
    have hr1 : Room 1 _ := hr.mono (by decide)
    have hr2 : Room 2 _ := hr.mono (by decide)
    refine ⟨_, pss_cons (ps_if (PW.pt (pw_or (pt_not (pt_val (pe_callB call_isi (by rfl) mi (by decide +kernel) (pa_cons (pv 0) (pa_cons (pe_bltn (v := .ty "tuple") (by rfl) mtp (by decide +kernel) rfl) pa_nil)))))
          (pw_or1 (pt_not (pt_chain op_le op_le pe_int (pe_callB call_len_seq (by rfl) ml (by decide +kernel) (pa_cons (pv 0) pa_nil)) (pe_op op_add pe_int (pe_glob (v := .int 3) (by rfl) mM ⟨_, rfl⟩))))))) (pss_one (ps_ret pe_bl)) pss_nil)
      (pss_cons (ps_for PassesOwn.never rfl (pi_tup (pe_slice sl_tup (pv 0) (po_some pe_int) po_none)) (pg_name (i := 1) scIP.nd rfl (Or.inl rfl))
        (pss_one (ps_if (PW.pt (pw_and (pt_not (pt_val (pe_call GN hr1 (by rfl) mN kN bN .nil pass0 (pa_cons (pv 1) pa_nil)))) (pw_and1 (pt_not (pt_val (pe_call GV hr2 (by rfl) mV kV bV .nil pass0 (pa_cons (pv 1) pa_nil)))))))
          (pss_one (ps_ret pe_bl)) pss_nil)))
      (pss_one (ps_ret (pe_call GN hr1 (by rfl) mN kN bN .nil pass0 (pa_cons (pe_ix ix_tup (pv 0) pe_int (fun _ _ => rfl)) pa_nil))))), ?_⟩
    rcases h with ⟨t, xs, rfl, ht, lx, okx, k⟩ | ⟨⟨n, ty, kb⟩, k⟩
    · have big : ¬ (1 ≤ xs.length ∧ xs.length ≤ 4) → Q (.bl false) H := fun no => by
        have q := k H fun _ _ e => e
        have e : patB xs = false := by
          cases xs with
          | nil => rfl
          | cons x r =>
            rw [List.length_cons] at no
            show (decide (r.length ≤ 3) && vN x && r.all fun y => vN y || vV y) = false
            rw [decide_eq_false (by omega), Bool.false_and, Bool.false_and]
        rw [e] at q
        exact q
      refine ⟨_, rfl, _, .ty "tuple", _, _, true, rfl, .ty "tuple", .base (.tup ht), kit_ty (by decide +kernel), _, rfl, ?_⟩
      refine iteF ?_
      refine ⟨_, rfl, t, _, rfl, .inr (SqT.of ht), _, _, rfl, rfl, _, rfl, ?_⟩
      refine ite2 (fun l1 => ⟨_, _, rfl, rfl, _, _, rfl, rfl, _, rfl, ?_⟩) (fun l1 => ⟨_, rfl, iteT (big fun y => l1 (decide_eq_true (by omega)))⟩)
      have l1 : (1 : Int) ≤ xs.length := of_decide_eq_true l1
      refine ite2 (fun l2 => ?_) (fun l2 => ?_)
      · have l2' : ¬ ((xs.length : Int) ≤ 1 + 3) := fun y => by
          rw [decide_eq_true y] at l2
          cases l2
        exact big fun y => l2' (by omega)
      · have l2' : (xs.length : Int) ≤ 1 + 3 := by
          by_cases y : (xs.length : Int) ≤ 1 + 3
          · exact y
          · rw [decide_eq_false y] at l2
            exact absurd rfl l2
        cases xs with
        | nil =>
          rw [List.length_nil] at l1
          omega
        | cons y r =>
          have lr : r.length ≤ 3 := by
            rw [List.length_cons] at l2'
            omega
          have k : ∀ H', Same H H' → Q (.bl (vN y && r.all fun y => vN y || vV y)) H' := fun H' s => by
            have q := k H' s
            have e : patB (y :: r) = (vN y && r.all fun y => vN y || vV y) := by
              show (decide (r.length ≤ 3) && vN y && r.all fun y => vN y || vV y) = _
              rw [decide_eq_true lr, Bool.true_and]
            rw [e] at q
            exact q
          refine ⟨_, rfl, _, rfl, t, _, rfl, SqT.of ht, cut_part _ _, fun u nu => ⟨u, rfl, ⟨_, SqT.of upd_same⟩, ?_⟩⟩
          rw [cut_one]
          refine for_tup (xs := r) (fun i σ H5 => ∃ v1, σ = [some (.ref t), v1] ∧ Same H H5 ∧ H5 u = some (.tup r) ∧ ((r.take i).all fun y => vN y || vV y) = true)
            ⟨none, rfl, same_new nu, upd_same, rfl⟩ (fun i σ H5 _ p => ?_) (fun i x σ H5 hx p => ?_) (fun σ H5 p => ?_)
          · obtain ⟨_, _, _, p2, _⟩ := p
            exact SqT.of p2
          · obtain ⟨v1, rfl, p1, p2, p3⟩ := p
            have ox : Okv K H x := okx x (List.mem_cons_of_mem _ (List.mem_of_getElem? hx))
            have more : (vN x || vV x) = true → ((r.take (i + 1)).all fun y => vN y || vV y) = true := fun e => by
              rw [List.take_add_one, hx, List.all_append, p3]
              simpa using e
            have less : (vN x || vV x) = false → ∀ H', Same H H' → Q (.bl false) H' := fun e H' s => by
              have q := k H' s
              have n : (r.all fun y => vN y || vV y) = false := by
                rw [List.all_eq_false]
                exact ⟨x, List.mem_of_getElem? hx, by rw [e]; decide⟩
              rw [n, Bool.and_false] at q
              exact q
            refine ⟨_, rfl, ?_⟩
            dsimp only [tNil, List.cons_append, List.nil_append]
            refine isN_of (K := K) (E := E0) (ox.same p1) fun H6 s6 => ⟨_, rfl, ?_⟩
            cases en : vN x with
            | true =>
              refine iteF ⟨_, rfl, p1.trans s6, s6 _ _ p2, more (by rw [en]; rfl)⟩
            | false =>
              refine iteT ⟨_, rfl, x, rfl, ox.same (p1.trans s6), fun H7 s7 => ⟨_, rfl, ?_⟩⟩
              cases ev : vV x with
              | true => exact iteF ⟨_, rfl, (p1.trans s6).trans s7, s7 _ _ (s6 _ _ p2), more (by rw [ev, Bool.or_true])⟩
              | false => exact iteT (less (by rw [en, ev]; rfl) _ ((p1.trans s6).trans s7))
          · obtain ⟨v1, rfl, p1, p2, p3⟩ := p
            rw [List.take_length] at p3
            refine ⟨_, rfl, t, _, 0, y, rfl, rfl, SqT.of (p1 _ _ ht), atI_nat (j := 0) rfl, ?_⟩
            dsimp only [tNil, List.cons_append, List.nil_append]
            refine isN_of (K := K) (E := E0) ((okx y List.mem_cons_self).same p1) fun H1 s1 => ?_
            have q := k H1 (p1.trans s1)
            rw [p3, Bool.and_true] at q
            exact q
    · refine ⟨_, rfl, _, .ty "tuple", _, _, false, rfl, .ty "tuple", ty, kit_ty kb, _, rfl, ?_⟩
      exact iteT (k H fun _ _ e => e)
end
end L2.LawH
set_option Elab.async false
set_option linter.all false
set_option maxRecDepth 100000
set_option maxHeartbeats 4000000
/-! is_fact. -/
namespace L2.LawH
open PySem PySem.Spec PyProof.Rows L2.Cmp L2.TxtSet
abbrev sIsF10 : Stmt := top 6
section
variable {P : Program} {w : World} {K : PySem.W.Frag} {mg : Str → Option Value} {base : Heap}
theorem factB_eq {xs : List V} (h0 : 1 ≤ xs.length) (h : xs.length ≤ 4) : factB xs = xs.all vN := by
  cases xs with
  | nil => cases h0
  | cons y r =>
    rw [List.length_cons] at h
    show ((decide (r.length ≤ 3) && vN y && (r.all fun y => vN y || vV y)) && (vN y && r.all vN)) = (vN y && r.all vN)
    rw [decide_eq_true (by omega), Bool.true_and]
    cases e : r.all vN with
    | false => simp
    | true =>
      have e2 : (r.all fun y => vN y || vV y) = true := List.all_eq_true.mpr fun x m => by rw [List.all_eq_true.mp e x m, Bool.true_or]
      rw [e2]
      simp
theorem factB_no {xs : List V} (h : ¬ (1 ≤ xs.length ∧ xs.length ≤ 4)) : factB xs = false := by
  cases xs with
  | nil => rfl
  | cons y r =>
    rw [List.length_cons] at h
    show ((decide (r.length ≤ 3) && vN y && (r.all fun y => vN y || vV y)) && (vN y && r.all vN)) = false
    rw [decide_eq_false (by omega), Bool.false_and, Bool.false_and, Bool.false_and]
end
end L2.LawH
set_option Elab.async false
set_option linter.all false
set_option maxRecDepth 100000
set_option maxHeartbeats 4000000
/-! filled. -/
namespace L2.LawH
open PySem PySem.Spec PyProof.Rows L2.Cmp L2.TxtSet
abbrev sFil : Stmt := top 8
/-- what a term is replaced by -/
def fillV (kvs : List (Key × V)) (z : Str) : V := (valV kvs (Sum.inr z)).getD (.str z)
def spFil : Sp := fun vs H Q _ => ∃ (t d : Addr) (zs : List Str) (kvs : List (Key × V)), vs = [.ref t, .ref d] ∧ H t = some (.tup (zs.map V.str)) ∧ H d = some (.dK kvs) ∧ zs.length ≤ 1000 ∧
  ∀ (u : Addr) (H' : Hp), Same H H' → H u = none → H' u = some (.tup (zs.map (fillV kvs))) → Q (.ref u) H'
section
variable {P : Program} {w : World} {K : PySem.W.Frag} {mg : Str → Option Value} {base : Heap}
end
end L2.LawH
set_option Elab.async false
set_option linter.all false
set_option maxRecDepth 100000
set_option maxHeartbeats 4000000
/-! pattern_text. -/
namespace L2.LawH
open PySem PySem.Spec PyProof.Rows L2.Cmp L2.TxtSet
abbrev sPt12 : Stmt := top 9
theorem len_app (a b : Str) : (a ++ b).length = a.length + b.length := by
  rw [← length_toList, toList_append, List.length_append, length_toList, length_toList]
theorem join_len (sep : Str) : ∀ ys : List Str, (Str.join sep ys).length ≤ (ys.map (·.length)).sum + ys.length * sep.length
  | [] => Nat.zero_le _
  | [x] => by
    show x.length ≤ _
    simp
  | x :: y :: r => by
    have ih := join_len sep (y :: r)
    show (x ++ sep ++ Str.join sep (y :: r)).length ≤ _
    rw [len_app, len_app, List.map_cons, List.sum_cons, List.length_cons, Nat.succ_mul]
    omega
theorem sum_le (B : Nat) : ∀ ys : List Str, (∀ y ∈ ys, y.length ≤ B) → (ys.map (·.length)).sum ≤ ys.length * B
  | [], _ => Nat.zero_le _
  | x :: r, h => by
    have ih := sum_le B r fun y m => h y (List.mem_cons_of_mem _ m)
    have hx := h x List.mem_cons_self
    rw [List.map_cons, List.sum_cons, List.length_cons, Nat.succ_mul]
    omega
/-- the text of a pattern, as it is put together -/
def ptext (T : Str) (zs : List Str) : Str := Str.empty ++ T ++ "(" ++ Txt.join "," zs ++ ")"
def spPtx : Sp := fun vs H Q _ => ∃ (t : Addr) (T : Str) (zs : List Str), vs = [.ref t] ∧ H t = some (.tup (.str T :: zs.map V.str)) ∧ zs.length ≤ 100 ∧ T.length ≤ 1000 ∧ (∀ z ∈ zs, z.length ≤ 1000) ∧
  ∀ H', Same H H' → Q (.str (ptext T zs)) H'
section
variable {P : Program} {w : World} {K : PySem.W.Frag} {mg : Str → Option Value} {base : Heap}
end
end L2.LawH
set_option Elab.async false
set_option linter.all false
set_option maxRecDepth 100000
set_option maxHeartbeats 4000000
/-! _law_is_name. -/
namespace L2.LawH
open PySem PySem.Spec PyProof.Rows L2.Cmp L2.TxtSet
abbrev sLIN : Stmt := top 29
def spLIN (K : PySem.W.Frag) : Sp := fun vs H Q _ => ∃ x : V, vs = [x] ∧ ((∃ z : Str, x = .str z ∧ z.length ≤ 100000 ∧ (∀ c ∈ z.cps.toList, c < 0x110000) ∧ ∀ H', Same H H' → Q (.bl (nmB z.cps.toList)) H') ∨ (NotS K H x ∧ Q (.bl false) H))
def one (c : Nat) : Str := ⟨#[c]⟩
section
variable {P : Program} {w : World} {K : PySem.W.Frag} {mg : Str → Option Value} {base : Heap}
theorem scLIN : FnScope ["_law_value", "_law_sign"] ["_law_value"] (defScope sLIN) := ⟨rfl, rfl, rfl, by decide +kernel, rfl, by decide +kernel, by decide +kernel⟩
theorem ok_LIN {f : Addr} {fd : FuncData} (F : Fun K "_law_is_name" "_law_is_name" sLIN f fd) (mi : mg "isinstance" = none) (mst : mg "str" = none) (ml : mg "len" = none) :
    FnOk P w K mg base CX0 1 f fd ["_law_value"] (spLIN K) := by
  refine F.ok scLIN (fun vs H Q E h => ?_) (fun cdv A outer s H vs Q E hr h => ?_)
  · obtain ⟨x, rfl, _⟩ := h
    rfl
  · obtain ⟨x, rfl, h⟩ := h
    have hu := hr.units
    refine ⟨_, pss_cons (ps_if (PW.pt (pw_or (pt_not (pt_val (pe_callB call_isi (by rfl) mi (by decide +kernel) (pa_cons (pv 0) (pa_cons (pe_bltn (v := .ty "str") (by rfl) mst (by decide +kernel) rfl) pa_nil)))))
          (pw_or (pt_not (pt_chain op_le op_le pe_int (pe_callB call_len_str (by rfl) ml (by decide +kernel) (pa_cons (pv 0) pa_nil)) pe_int))
            (pw_or1 (pt_cmpR op_notin_str (pe_ix ix_str (pv 0) pe_int (fun _ _ => rfl)) pe_str (by rfl)))))) (pss_one (ps_ret pe_bl)) pss_nil)
      (pss_one (ps_ret (pe_cmpR (op_eqD hu) (pe_lc (own := [("_law_sign", 1)]) (g := gName 1) (tt := tTest (tOp (fun x y H Q => ∃ i j, x = .str i ∧ y = .str j ∧ Q (.bl (!(!(Builtin.Str.occurrences j i 0 j.length 1).isEmpty))) H) (tVar 1) (tC (.str sgnS8)))) rfl scLIN.nd (pi_str (pv 0))
          (blkOk_by (own := [("_law_sign", 1)]) (N := ["_law_value", "_law_sign"]) (sc := defScope sLIN) (by decide +kernel)) (fun _ _ _ _ _ => pg_name (i := 1) scLIN.nd rfl (Or.inl rfl)) (fun _ _ _ _ _ => pts_one (pt_cmpR op_notin_str (pv 1) pe_str (by rfl)))
          (fun _ _ _ _ _ => pv 1)) (pe_lst pa_nil) (by rfl)))), ?_⟩
    rcases h with ⟨z, rfl, hz, hcs, k⟩ | ⟨⟨n, ty, kb⟩, k⟩
    · have szl : z.length ≤ sizeLine := by rw [sizeLine_eq]; omega
      have lz : z.cps.toList.length = z.length := length_toList z
      have big : ¬ (1 ≤ z.length ∧ z.length ≤ 12) → Q (.bl false) H := fun no => by
        have q := k H fun _ _ e => e
        have e : nmB z.cps.toList = false := by
          cases hc : z.cps.toList with
          | nil => rfl
          | cons c r =>
            rw [hc, List.length_cons] at lz
            show (isLet c && r.all isSgn && decide (r.length ≤ 11)) = false
            rw [decide_eq_false (by omega), Bool.and_false]
        rw [e] at q
        exact q
      refine ⟨_, rfl, _, .ty "str", _, _, true, rfl, .ty "str", .base (.str z), kit_ty (by decide +kernel), _, rfl, ?_⟩
      refine iteF ?_
      refine ⟨_, rfl, z, rfl, szl, _, _, rfl, rfl, _, rfl, ?_⟩
      refine ite2 (fun l1 => ⟨_, _, rfl, rfl, _, rfl, ?_⟩) (fun l1 => ⟨_, rfl, iteT (big fun y => l1 (decide_eq_true (by omega)))⟩)
      have l1 : (1 : Int) ≤ z.length := of_decide_eq_true l1
      refine ite2 (fun l2 => ?_) (fun l2 => ?_)
      · have l2' : ¬ ((z.length : Int) ≤ 12) := fun y => by
          rw [decide_eq_true y] at l2
          cases l2
        exact big fun y => l2' (by omega)
      · have l2' : (z.length : Int) ≤ 12 := by
          by_cases y : (z.length : Int) ≤ 12
          · exact y
          · rw [decide_eq_false y] at l2
            exact absurd rfl l2
        cases hc : z.cps.toList with
        | nil =>
          rw [hc] at lz
          have : z.length = 0 := lz.symm
          omega
        | cons c r =>
          have lr : r.length ≤ 11 := by
            rw [hc, List.length_cons] at lz
            omega
          rw [hc, nmB_eq c r lr] at k
          refine ⟨_, rfl, z, 0, c, rfl, rfl, szl, by rw [hc]; exact atI_nat (j := 0) rfl, _, _, rfl, rfl, _, rfl, ?_⟩
          rw [in_let]
          cases el : isLet c with
          | false =>
            rw [el, Bool.false_and] at k
            exact iteT (k H fun _ _ e => e)
          | true =>
            rw [el, Bool.true_and] at k
            refine iteF ⟨_, rfl, z, rfl, fun D nD => ?_⟩
            refine ⟨fun i m H5 => m = z.cps.size - i ∧ i ≤ z.cps.size ∧ Same H H5 ∧ H5 D = some (.lst ((((z.cps.toList.take i).filter fun c => !isSgn c).map one).map V.str)), ⟨_, rfl, Nat.zero_le _, same_new nD, upd_same⟩, ?_⟩
            rintro i m H5 ⟨rfl, hi, s5, h5⟩
            have sz : z.cps.size = z.cps.toList.length := by rw [Array.length_toList]
            rcases Nat.lt_or_eq_of_le hi with lt | rfl
            · refine .inr ⟨lt, fun H6 => Same H H6 ∧ H6 D = some (.lst ((((z.cps.toList.take (i + 1)).filter fun c => !isSgn c).map one).map V.str)), fun H6 p => ⟨_, by omega, rfl, lt, p.1, p.2⟩, ?_⟩
              rintro _ _ ⟨rfl, c2, hc2, rfl⟩
              have hc3 : z.cps.toList[i]? = some c2 := by rw [Array.getElem?_toList]; exact hc2
              refine ⟨rfl, _, rfl, _, _, rfl, rfl, _, rfl, ?_⟩
              rw [in_sgn]
              cases es : isSgn c2 with
              | false =>
                refine iteT ⟨_, rfl, _, h5, ?_, fun b o e => ?_, ?_⟩
                · rw [List.length_map, List.length_map]
                  refine Nat.lt_of_le_of_lt (List.length_filter_le _ _) ?_
                  rw [List.length_take, sizeLine_eq]
                  omega
                · rw [upd_ne (ne_of_none e nD)]
                  exact s5 b o e
                · rw [upd_same, List.take_add_one, hc3]
                  simp [es, one]
              | true =>
                refine iteF ⟨s5, ?_⟩
                rw [List.take_add_one, hc3, List.filter_append]
                simp only [Option.toList_some, List.filter_cons, es, Bool.not_true, Bool.false_eq_true, if_false, List.filter_nil, List.append_nil]
                exact h5
            · rw [sz, List.take_length] at h5
              refine .inl ⟨Nat.le_refl _, ?_⟩
              refine ⟨by show 0 ≤ sizeLine; decide, fun p np => ?_⟩
              have np' : p ≠ D := fun e => by
                rw [e, h5] at np
                cases np
              refine ⟨_, _, .lst (SqL.of ((same_new np) _ _ h5)) (dp_strs _), .lst (SqL.of upd_same) .nil, shaped_strs fun y hy => ?_, by decide, ?_⟩
              · obtain ⟨c3, m3, rfl⟩ := List.mem_map.mp hy
                refine ok_list fun c4 m4 => ?_
                have e4 : c4 = c3 := by simpa [one] using m4
                rw [e4]
                exact hcs c3 (List.mem_filter.mp m3).1
              · rw [eqv_nil]
                have q := k (upd H5 p (.lst [])) (s5.trans (same_new np))
                have e : decide (List.map one (List.filter (fun c => !isSgn c) z.cps.toList) = []) = (c :: r).all isSgn := by
                  rw [hc, Bool.eq_iff_iff, decide_eq_true_iff, List.map_eq_nil_iff, List.filter_eq_nil_iff, List.all_eq_true]
                  exact ⟨fun h x m => by simpa using h x m, fun h x m => by simp [h x m]⟩
                rw [e]
                exact q
    · refine ⟨_, rfl, _, .ty "str", _, _, false, rfl, .ty "str", ty, kit_ty kb, _, rfl, ?_⟩
      exact iteT k
end
end L2.LawH
set_option Elab.async false
set_option linter.all false
set_option maxRecDepth 100000
set_option maxHeartbeats 4000000
/-! _law_is_term. -/
namespace L2.LawH
open PySem PySem.Spec PyProof.Rows L2.Cmp L2.TxtSet
abbrev sLIT : Stmt := top 30
/-- a value that the law may ask: its signs are signs -/
def Okl (K : PySem.W.Frag) (H : Hp) (x : V) : Prop := (∃ z : Str, x = .str z ∧ z.length ≤ 100000 ∧ ∀ c ∈ z.cps.toList, c < 0x110000) ∨ (NotS K H x ∧ ∀ z, x ≠ .str z)
theorem Okl.okv {K : PySem.W.Frag} {H : Hp} {x : V} (h : Okl K H x) : Okv K H x := h.imp (fun ⟨z, e, l, _⟩ => ⟨z, e, l⟩) id
theorem Okl.same {K : PySem.W.Frag} {H H' : Hp} (s : Same H H') {x : V} (h : Okl K H x) : Okl K H' x := h.imp id fun ⟨⟨n, ty, kb⟩, no⟩ => ⟨⟨n, tyx_same s ty, kb⟩, no⟩
theorem lin_of {K : PySem.W.Frag} {H : Hp} {x : V} {Q : VK} {E : XK} (o : Okl K H x) (k : ∀ H', Same H H' → Q (.bl (vN x)) H') : spLIN K [x] H Q E := by
  refine ⟨x, rfl, ?_⟩
  rcases o with ⟨z, rfl, l, cs⟩ | ⟨n, no⟩
  · exact .inl ⟨z, rfl, l, cs, k⟩
  · refine .inr ⟨n, ?_⟩
    have e : vN x = false := by
      cases x with
      | str z => exact absurd rfl (no z)
      | _ => rfl
    have q := k H fun _ _ e => e
    rw [e] at q
    exact q
theorem isV_head {z : Str} (h : isV z = true) : ∃ r, z.cps.toList = 63 :: r := by
  rw [← first_sign] at h
  have e : cutS z none (some 1) = Str.ofString "?" := of_decide_eq_true h
  have q1 : (Str.ofString "?").cps.toList = [63] := by decide +kernel
  have e2 : HT.sIx z.length z.length (some 1) = min 1 z.length := HT.sIx_nat z.length z.length 1
  have e3 := congrArg (fun y : Str => y.cps.toList) e
  unfold cutS at e3
  rw [HT.sIx_none, e2] at e3
  simp only [q1] at e3
  have l : z.cps.toList.length = z.length := length_toList z
  cases hc : z.cps.toList with
  | nil =>
    rw [hc] at e3
    simp at e3
  | cons c r =>
    rw [hc] at e3 l
    rw [List.length_cons] at l
    have m : min 1 z.length = 1 := by omega
    rw [m] at e3
    simp at e3
    exact ⟨r, by rw [e3]⟩
theorem nmB_var {z : Str} (h : isV z = true) : nmB z.cps.toList = false := by
  obtain ⟨r, e⟩ := isV_head h
  rw [e]
  show (isLet 63 && r.all isSgn && decide (r.length ≤ 11)) = false
  have : isLet 63 = false := by decide
  rw [this, Bool.false_and, Bool.false_and]
def spLIT (K : PySem.W.Frag) : Sp := fun vs H Q _ => ∃ (x : V) (o : Bool), vs = [x, .bl o] ∧ Okl K H x ∧ ∀ H', Same H H' → Q (.bl (vN x || (o && vV x))) H'
section
variable {P : Program} {w : World} {K : PySem.W.Frag} {mg : Str → Option Value} {base : Heap}
abbrev nLIT : List Str := ["_law_value", "_law_open_too"]
theorem scLIT : FnScope nLIT nLIT (defScope sLIT) := ⟨rfl, rfl, rfl, by decide +kernel, rfl, by decide +kernel, by decide +kernel⟩
theorem ok_LIT {f fN : Addr} {fd fdN : FuncData} (F : Fun K "_law_is_term" "_law_is_term" sLIT f fd)
    (GN : FnOk P w K mg base CX0 1 fN fdN ["_law_value"] (spLIN K)) (kN : PySem.W.keepIn K (.ref fN) = true) (bN : Binds K fdN ["_law_value"] []) (mN : mg "_law_is_name" = some (.ref fN))
    (mi : mg "isinstance" = none) (mst : mg "str" = none) : FnOk P w K mg base CX0 2 f fd nLIT (spLIT K) := by
  refine F.ok scLIT (fun vs H Q E h => ?_) (fun cdv A outer s H vs Q E hr h => ?_)
  · obtain ⟨x, o, rfl, _⟩ := h
    rfl
  · obtain ⟨x, o, rfl, ox, k⟩ := h
    have hr1 : Room 1 _ := hr.mono (by decide)
    refine ⟨_, pss_cons (ps_if (PW.pt (pw_and (pt_val (pv 1)) (pw_and (pt_val (pe_callB call_isi (by rfl) mi (by decide +kernel) (pa_cons (pv 0) (pa_cons (pe_bltn (v := .ty "str") (by rfl) mst (by decide +kernel) rfl) pa_nil))))
          (pw_and1 (pt_cmpR op_eq (pe_slice sl_str (pv 0) po_none (po_some pe_int)) pe_str (nomark _))))))
        (pss_one (ps_ret (pe_call GN hr1 (by rfl) mN kN bN .nil pass0 (pa_cons (pe_slice sl_str (pv 0) (po_some pe_int) po_none) pa_nil)))) pss_nil)
      (pss_one (ps_ret (pe_call GN hr1 (by rfl) mN kN bN .nil pass0 (pa_cons (pv 0) pa_nil)))), ?_⟩
    -- the last row
    have last : (o && vV x) = false → spLIN K [x] H Q E0 := fun e => lin_of (E := E0) ox fun H' s => by
      have q := k H' s
      rw [e, Bool.or_false] at q
      exact q
    refine ⟨_, rfl, _, rfl, ?_⟩
    cases o with
    | false => exact iteF (iteF ⟨_, rfl, last rfl⟩)
    | true =>
      refine iteT ?_
      rcases ox with ⟨z, rfl, lz, cs⟩ | ⟨⟨n, ty, kb⟩, no⟩
      · refine ⟨_, rfl, _, .ty "str", _, _, true, rfl, .ty "str", .base (.str z), kit_ty (by decide +kernel), _, rfl, ?_⟩
        refine iteT ⟨_, rfl, _, rfl, z, rfl, by rw [sizeLine_eq]; omega, rfl, _, rfl, ?_⟩
        have ed : decide (V.str (cutS z none (some 1)) = V.str (Str.ofString "?")) = isV z := by
          rw [← first_sign]
          exact decide_eq_decide.mpr ⟨fun e => V.str.inj e, fun e => by rw [e]⟩
        rw [ed]
        cases hv : isV z with
        | true =>
          refine iteT ⟨_, rfl, _, rfl, z, rfl, by rw [sizeLine_eq]; omega, ?_⟩
          dsimp only [tNil, List.cons_append, List.nil_append]
          refine lin_of (K := K) (E := E0) (.inl ⟨_, rfl, Nat.le_trans (cutS_length z (some 1) none) lz, fun c m => ?_⟩) fun H' s => ?_
          · rw [cut_tail] at m
            exact cs c (List.mem_of_mem_drop m)
          · have q := k H' s
            have e : (vN (.str z) || (true && vV (.str z))) = vN (.str (cutS z (some 1) none)) := by
              show (nmB z.cps.toList || (true && (isV z && nmB (z.cps.toList.drop 1)))) = nmB (cutS z (some 1) none).cps.toList
              rw [nmB_var hv, hv, cut_tail, Bool.false_or, Bool.true_and, Bool.true_and]
            rw [e] at q
            exact q
        | false =>
          refine iteF ⟨_, rfl, last ?_⟩
          show (true && (isV z && nmB (z.cps.toList.drop 1))) = false
          rw [hv]
          rfl
      · refine ⟨_, rfl, _, .ty "str", _, _, false, rfl, .ty "str", ty, kit_ty kb, _, rfl, ?_⟩
        refine iteF (iteF ⟨_, rfl, last ?_⟩)
        have e : vV x = false := by
          cases x with
          | str z => exact absurd rfl (no z)
          | _ => rfl
        rw [e]
        rfl
end
end L2.LawH
set_option Elab.async false
set_option linter.all false
set_option maxRecDepth 100000
set_option maxHeartbeats 4000000
/-! _law_text. -/
namespace L2.LawH
open PySem PySem.Spec PyProof.Rows L2.Cmp L2.TxtSet
abbrev sLTx : Stmt := top 28
theorem empty_app (T : Str) : Str.empty ++ T = T := by
  have h : (Str.empty ++ T).cps.toList = T.cps.toList := by
    rw [toList_append]
    rfl
  have h2 := Array.toList_inj.mp h
  cases hx : Str.empty ++ T with
  | mk a =>
    rw [hx] at h2
    cases T
    exact congrArg Str.mk h2
section
variable {P : Program} {w : World} {K : PySem.W.Frag} {mg : Str → Option Value} {base : Heap}
end
end L2.LawH
set_option Elab.async false
set_option linter.all false
set_option maxRecDepth 100000
set_option maxHeartbeats 4000000
/-! _law_is_pattern; values that are asked. -/
namespace L2.LawH
open PySem PySem.Spec PyProof.Rows L2.Cmp L2.TxtSet
abbrev sLIP : Stmt := top 31
theorem Same.seqT {K : PySem.W.Frag} {H H' : Hp} {a : Addr} {xs : List V} (e : Same H H') (h : SqT K H a xs) : SqT K H' a xs := by
  rcases h with h | h
  · rcases h with h | ⟨o, h⟩
    · exact .inl (.inl (e _ _ h))
    · exact .inl (.inr ⟨o, e _ _ h⟩)
  · exact .inr h
mutual
theorem dp_same {K : PySem.W.Frag} {H H' : Hp} (s : Same H H') : ∀ (d : PyData) (v : V), Dp K H v d → Dp K H' v d
  | .none, _, h => by
    cases h
    exact .non
  | .bool b, _, h => by
    cases h
    exact .bl b
  | .int i, _, h => by
    cases h
    exact .int i
  | .str x, _, h => by
    cases h
    exact .str x
  | .list ds, _, h => by
    cases h with
    | lst hs ha => exact .lst (Same.seq s hs) (dpAll_same s ds _ ha)
  | .tuple ds, _, h => by
    cases h with
    | tup hs ha => exact .tup (Same.seqT s hs) (dpAll_same s ds _ ha)
  | .dict _, _, h => by cases h
theorem dpAll_same {K : PySem.W.Frag} {H H' : Hp} (s : Same H H') : ∀ (ds : List PyData) (vs : List V), DpAll K H vs ds → DpAll K H' vs ds
  | [], _, h => by
    cases h
    exact .nil
  | d :: ds, _, h => by
    cases h with
    | cons h1 h2 => exact .cons (dp_same s d _ h1) (dpAll_same s ds _ h2)
end
/-- an item of a tuple that is asked -/
def Itm (K : PySem.W.Frag) (H : Hp) (y : V) : Prop := Okl K H y ∧ ∃ d, Dp K H y d ∧ d.canLay0 = true ∧ d.depth ≤ 2
theorem Itm.same {K : PySem.W.Frag} {H H' : Hp} (s : Same H H') {y : V} (h : Itm K H y) : Itm K H' y :=
  let ⟨o, d, p, l⟩ := h
  ⟨o.same s, d, dp_same s d _ p, l⟩
/-- data of a list of items -/
theorem itms_data {K : PySem.W.Frag} {H : Hp} : ∀ (ys : List V), (∀ y ∈ ys, Itm K H y) → ∃ ds, DpAll K H ys ds ∧ ds.length = ys.length ∧ PyData.canLayAll0 ds = true ∧ PyData.depthAll ds ≤ 2
  | [], _ => ⟨[], .nil, rfl, by simp [PyData.canLayAll0], by simp [PyData.depthAll]⟩
  | y :: ys, h => by
    obtain ⟨ds, p, l, c, e⟩ := itms_data ys fun z m => h z (List.mem_cons_of_mem _ m)
    obtain ⟨_, d, q, c1, e1⟩ := h y List.mem_cons_self
    refine ⟨d :: ds, .cons q p, by simp [l], by simp [PyData.canLayAll0, c, c1], ?_⟩
    simp only [PyData.depthAll]
    omega
theorem shaped_list {ds : List PyData} (h : PyData.canLayAll0 ds = true) (e : PyData.depthAll ds ≤ 20) : SeqAt.shaped (.list ds) = true := by
  have h2 : PyData.depth (.list ds) ≤ 64 := by
    simp only [PyData.depth]
    omega
  show (PyData.canLay0 (.list ds) && decide (PyData.depth (.list ds) ≤ 64)) = true
  rw [Bool.and_eq_true]
  exact ⟨by simp only [PyData.canLay0]; exact h, decide_eq_true h2⟩
theorem eqv_nilD : ∀ ds : List PyData, PyData.eqv (.list ds) (.list []) = decide (ds.length = 0)
  | [] => by simp [PyData.eqv, PyData.eqvAll]
  | d :: ds => by simp [PyData.eqv, PyData.eqvAll]
/-- a value that is asked: a tuple of items, or no tuple -/
def Ask (K : PySem.W.Frag) (H : Hp) (x : V) : Option (List V) → Prop
  | none => Okl K H x ∧ NotT K H x
  | some xs => ∃ t, x = .ref t ∧ H t = some (.tup xs) ∧ xs.length ≤ 100 ∧ ∀ y ∈ xs, Itm K H y
theorem NotT.same {K : PySem.W.Frag} {H H' : Hp} (s : Same H H') {x : V} (h : NotT K H x) : NotT K H' x := let ⟨n, ty, kb⟩ := h; ⟨n, tyx_same s ty, kb⟩
theorem Ask.same {K : PySem.W.Frag} {H H' : Hp} (s : Same H H') {x : V} {o : Option (List V)} (h : Ask K H x o) : Ask K H' x o := by
  cases o with
  | none => exact ⟨h.1.same s, h.2.same s⟩
  | some xs =>
    obtain ⟨t, e, ht, l, i⟩ := h
    exact ⟨t, e, s _ _ ht, l, fun y m => (i y m).same s⟩
theorem Ask.okl {K : PySem.W.Frag} {H : Hp} {x : V} {o : Option (List V)} (h : Ask K H x o) : Okl K H x := by
  cases o with
  | none => exact h.1
  | some xs =>
    obtain ⟨t, rfl, ht, l, i⟩ := h
    exact .inr ⟨⟨"tuple", .base (.tup ht), by decide +kernel⟩, fun z e => by cases e⟩
def pAns : Option (List V) → Bool
  | none => false
  | some xs => patB xs
def fAns : Option (List V) → Bool
  | none => false
  | some xs => factB xs
def spLIP (K : PySem.W.Frag) : Sp := fun vs H Q _ => ∃ (x : V) (o : Bool) (a : Option (List V)), vs = [x, .bl o] ∧ Ask K H x a ∧ ∀ H', Same H H' → Q (.bl (if o = true then pAns a else fAns a)) H'
theorem fact_eq (y : V) (r : List V) (lr : r.length ≤ 3) : factB (y :: r) = (vN y && r.all vN) := by
  show ((decide (r.length ≤ 3) && vN y && r.all fun y => vN y || vV y) && (vN y && r.all vN)) = _
  rw [decide_eq_true lr, Bool.true_and]
  cases h1 : vN y with
  | false => rfl
  | true =>
    cases h2 : r.all vN with
    | false => simp
    | true =>
      have : (r.all fun y => vN y || vV y) = true := List.all_eq_true.mpr fun x m => by rw [List.all_eq_true.mp h2 x m]; rfl
      rw [this]
      rfl
section
variable {P : Program} {w : World} {K : PySem.W.Frag} {mg : Str → Option Value} {base : Heap}
abbrev nLIP : List Str := ["_law_value", "_law_open_too", "_law_term_here"]
theorem scLIP : FnScope nLIP ["_law_value", "_law_open_too"] (defScope sLIP) := ⟨rfl, rfl, rfl, by decide +kernel, rfl, by decide +kernel, by decide +kernel⟩
theorem ok_LIP {f fN fT : Addr} {fd fdN fdT : FuncData} (F : Fun K "_law_is_pattern" "_law_is_pattern" sLIP f fd)
    (GN : FnOk P w K mg base CX0 1 fN fdN ["_law_value"] (spLIN K)) (kN : PySem.W.keepIn K (.ref fN) = true) (bN : Binds K fdN ["_law_value"] []) (mN : mg "_law_is_name" = some (.ref fN))
    (GT : FnOk P w K mg base CX0 2 fT fdT nLIT (spLIT K)) (kT : PySem.W.keepIn K (.ref fT) = true) (bT : Binds K fdT nLIT []) (mT : mg "_law_is_term" = some (.ref fT))
    (mi : mg "isinstance" = none) (mtp : mg "tuple" = none) (ml : mg "len" = none) :
    FnOk P w K mg base CX0 3 f fd ["_law_value", "_law_open_too"] (spLIP K) := by
  refine F.ok scLIP (fun vs H Q E h => ?_) (fun cdv A outer s H vs Q E hr h => ?_)
  · obtain ⟨x, o, a, rfl, _⟩ := h
    rfl
  · obtain ⟨x, o, a, rfl, h, k⟩ := h
    have hu := hr.units
    have hr1 : Room 1 _ := hr.mono (by decide)
    have hr2 : Room 2 _ := hr.mono (by decide)
    refine ⟨_, pss_cons (ps_if (PW.pt (pw_or (pt_not (pt_val (pe_callB call_isi (by rfl) mi (by decide +kernel) (pa_cons (pv 0) (pa_cons (pe_bltn (v := .ty "tuple") (by rfl) mtp (by decide +kernel) rfl) pa_nil)))))
          (pw_or (pt_not (pt_chain op_le op_le pe_int (pe_callB call_len_seq (by rfl) ml (by decide +kernel) (pa_cons (pv 0) pa_nil)) pe_int))
            (pw_or1 (pt_not (pt_val (pe_call GN hr1 (by rfl) mN kN bN .nil pass0 (pa_cons (pe_ix ix_tup (pv 0) pe_int (fun _ _ => rfl)) pa_nil)))))))) (pss_one (ps_ret pe_bl)) pss_nil)
      (pss_one (ps_ret (pe_cmpR (op_eqD hu) (pe_lc (own := [("_law_term_here", 2)]) (g := gName 2) (tt := tNot (tB (tCall (spLIT K) [] E0 (tCons (tVar 2) (tCons (tVar 1) tNil))))) rfl scLIP.nd (pi_tup (pe_slice sl_tup (pv 0) (po_some pe_int) po_none))
          (blkOk_by (own := [("_law_term_here", 2)]) (N := nLIP) (sc := defScope sLIP) (by decide +kernel)) (fun _ _ _ _ _ => pg_name (i := 2) scLIP.nd rfl (Or.inl rfl))
          (fun _ _ _ _ _ => pts_one (pt_not (pt_val (pe_call GT hr2 (by rfl) mT kT bT .nil pass0 (pa_cons (pv 2) (pa_cons (pv 1) pa_nil))))))
          (fun _ _ _ _ _ => pv 2)) (pe_lst pa_nil) (by rfl)))), ?_⟩
    cases a with
    | none =>
      obtain ⟨_, n, ty, kb⟩ := h
      refine ⟨_, rfl, _, .ty "tuple", _, _, false, rfl, .ty "tuple", ty, kit_ty kb, _, rfl, ?_⟩
      have q := k H fun _ _ e => e
      have e : (if o = true then pAns none else fAns none) = false := by
        cases o <;> rfl
      rw [e] at q
      exact iteT q
    | some xs =>
      obtain ⟨t, rfl, ht, lx, ix⟩ := h
      have big : ¬ (1 ≤ xs.length ∧ xs.length ≤ 4) → Q (.bl false) H := fun no => by
        have q := k H fun _ _ e => e
        have e : patB xs = false := by
          cases xs with
          | nil => rfl
          | cons x r =>
            rw [List.length_cons] at no
            show (decide (r.length ≤ 3) && vN x && r.all fun y => vN y || vV y) = false
            rw [decide_eq_false (by omega), Bool.false_and, Bool.false_and]
        have e2 : (if o = true then pAns (some xs) else fAns (some xs)) = false := by
          show (if o = true then patB xs else (patB xs && xs.all vN)) = false
          rw [e]
          cases o <;> rfl
        rw [e2] at q
        exact q
      refine ⟨_, rfl, _, .ty "tuple", _, _, true, rfl, .ty "tuple", .base (.tup ht), kit_ty (by decide +kernel), _, rfl, ?_⟩
      refine iteF ?_
      refine ⟨_, rfl, t, _, rfl, .inr (SqT.of ht), _, _, rfl, rfl, _, rfl, ?_⟩
      refine ite2 (fun l1 => ⟨_, _, rfl, rfl, _, rfl, ?_⟩) (fun l1 => ⟨_, rfl, iteT (big fun y => l1 (decide_eq_true (by omega)))⟩)
      have l1 : (1 : Int) ≤ xs.length := of_decide_eq_true l1
      refine ite2 (fun l2 => ?_) (fun l2 => ?_)
      · have l2' : ¬ ((xs.length : Int) ≤ 4) := fun y => by
          rw [decide_eq_true y] at l2
          cases l2
        exact big fun y => l2' (by omega)
      · have l2' : (xs.length : Int) ≤ 4 := by
          by_cases y : (xs.length : Int) ≤ 4
          · exact y
          · rw [decide_eq_false y] at l2
            exact absurd rfl l2
        cases xs with
        | nil =>
          rw [List.length_nil] at l1
          omega
        | cons y r =>
          have lr : r.length ≤ 3 := by
            rw [List.length_cons] at l2'
            omega
          have k : ∀ H', Same H H' → Q (.bl (vN y && r.all fun y => vN y || (o && vV y))) H' := fun H' s => by
            have q := k H' s
            have e : (if o = true then pAns (some (y :: r)) else fAns (some (y :: r))) = (vN y && r.all fun y => vN y || (o && vV y)) := by
              cases o with
              | true =>
                show (decide (r.length ≤ 3) && vN y && r.all fun y => vN y || vV y) = _
                rw [decide_eq_true lr, Bool.true_and]
                simp
              | false =>
                show factB (y :: r) = _
                rw [fact_eq y r lr]
                simp
            rw [e] at q
            exact q
          refine ⟨_, rfl, t, _, 0, y, rfl, rfl, SqT.of ht, atI_nat (j := 0) rfl, ?_⟩
          dsimp only [tNil, List.cons_append, List.nil_append]
          refine lin_of (K := K) (E := E0) (ix y List.mem_cons_self).1 fun H1 s1 => ⟨_, rfl, ?_⟩
          cases hy : vN y with
          | false =>
            rw [hy] at k
            exact iteT (k H1 s1)
          | true =>
            rw [hy] at k
            refine iteF ?_
            refine ⟨_, rfl, _, rfl, t, _, rfl, SqT.of (s1 _ _ ht), cut_part _ _, fun u nu => ⟨u, rfl, ⟨_, SqT.of upd_same⟩, fun D nD => ?_⟩⟩
            rw [cut_one] at nD ⊢
            have su : Same H (upd H1 u (.tup r)) := s1.trans (same_new nu)
            have uD : u ≠ D := fun e => by
              rw [e] at nD
              rw [upd_same] at nD
              cases nD
            have nDH : H D = none := by
              cases e : H D with
              | none => rfl
              | some o =>
                rw [su D o e] at nD
                cases nD
            refine lc_tup (K := K) (a := u) (xs := r) (fun i H5 => Same H H5 ∧ H5 u = some (.tup r) ∧ H5 D = some (.lst ((r.take i).filter fun y => !(vN y || (o && vV y)))))
              ⟨su.trans (same_new nD), (same_new nD) _ _ upd_same, upd_same⟩ (fun i H5 _ p => SqT.of p.2.1) (fun i x H5 hx p => ?_) (fun H5 p => ?_)
            · obtain ⟨p1, p2, p3⟩ := p
              have ox : Okl K H x := (ix x (List.mem_cons_of_mem _ (List.mem_of_getElem? hx))).1
              refine ⟨rfl, ?_⟩
              refine ⟨_, rfl, _, rfl, x, o, rfl, ox.same p1, fun H6 s6 => ⟨_, rfl, ?_⟩⟩
              cases hb : (vN x || (o && vV x)) with
              | true =>
                refine iteF ⟨p1.trans s6, s6 _ _ p2, ?_⟩
                rw [List.take_add_one, hx, List.filter_append]
                have e : (Option.toList (some x)).filter (fun y => !(vN y || (o && vV y))) = [] := List.filter_cons_of_neg (by rw [hb]; exact Bool.false_ne_true)
                rw [e, List.append_nil]
                exact s6 _ _ p3
              | false =>
                refine iteT ⟨_, rfl, _, s6 _ _ p3, ?_, fun b o e => ?_, ?_, ?_⟩
                · refine Nat.lt_of_le_of_lt (List.length_filter_le _ _) ?_
                  rw [List.length_take, sizeLine_eq]
                  omega
                · rw [upd_ne (ne_of_none e nDH)]
                  exact s6 _ _ (p1 b o e)
                · rw [upd_ne uD]
                  exact s6 _ _ p2
                · rw [upd_same, List.take_add_one, hx, List.filter_append]
                  have e : (Option.toList (some x)).filter (fun y => !(vN y || (o && vV y))) = [x] := List.filter_cons_of_pos (by rw [hb]; rfl)
                  rw [e]
            · obtain ⟨p1, p2, p3⟩ := p
              rw [List.take_length] at p3
              refine ⟨by show 0 ≤ sizeLine; decide, fun p np => ?_⟩
              obtain ⟨ds, hd, ld, cd, dd⟩ := itms_data (K := K) (H := upd H5 p (.lst [])) (r.filter fun y => !(vN y || (o && vV y))) fun z m =>
                (ix z (List.mem_cons_of_mem _ (List.mem_filter.mp m).1)).same (p1.trans (same_new np))
              refine ⟨_, _, .lst (SqL.of ((same_new np) _ _ p3)) hd, .lst (SqL.of upd_same) .nil, shaped_list cd (by omega), by decide, ?_⟩
              have q := k (upd H5 p (.lst [])) (p1.trans (same_new np))
              rw [eqv_nilD, ld]
              have e : decide ((r.filter fun y => !(vN y || (o && vV y))).length = 0) = (true && r.all fun y => vN y || (o && vV y)) := by
                rw [Bool.true_and, Bool.eq_iff_iff, decide_eq_true_iff, List.length_eq_zero_iff, List.filter_eq_nil_iff, List.all_eq_true]
                refine ⟨fun h x m => ?_, fun h x m => ?_⟩
                · have z := h x m
                  cases hz : (vN x || (o && vV x)) with
                  | true => rfl
                  | false =>
                    rw [hz] at z
                    exact absurd rfl z
                · rw [h x m]
                  exact Bool.false_ne_true
              rw [e]
              exact q
end
end L2.LawH
set_option Elab.async false
set_option linter.all false
set_option maxRecDepth 100000
set_option maxHeartbeats 4000000
/-! len(set(..)), sorted(..) of a tuple of ints. -/
namespace L2.NumSeq
open PySem PySem.Spec PyProof.Rows
section
variable {P : Program} {w : World} {A : Around} {E : Value → Shared → Prop} {s : Shared}
abbrev setN (w : World) : Obj := { cls := .type "set", dict := none, data := .set #[] 0 (.fresh 0 0 (!w.params.followText "set-order")) }
abbrev met (ns : List Int) (m : Nat) : List Int := firstMet (fun i => ns.getD i 0) m
set_option maxHeartbeats 16000000 in
/-- set(a tuple of ints) -/
theorem call_set_ints {l : Addr} {items : Array Value} {ns : List Int} {Q : Value → Shared → Prop} (hh : A.handled = none) (hl : s.heap.IsTuple l items) (hi : IntsAre items.toList ns) (few : items.size + 1 < scanBound)
    (h : ∀ (h2 : Heap) (tk : Nat), h2.SetOf (intKind P w) s.heap.objs.size (fun k => (met ns items.size).any (· == k)) (met ns items.size).length →
      (∀ b o, b < s.heap.objs.size → s.heap.get? b = some o → h2.get? b = some o) → Q (.ref s.heap.objs.size) { s with heap := h2, toks := tk }) :
    wpAny (model P w) A (call (.type "set") [.ref l]) Q E s := by
  obtain ⟨mc, mt, mmro⟩ := F.called_set.mro
  have mmade := F.called_set.made
  have msub := F.called_set.sub
  refine wpAny_call (codeAny_of_tree ?_) <;> show wpAny _ _ (callAny (.type "set") _) _ _ _
  refine wpAny_pure ⟨Code.quiet_builtin _ (by decide +kernel), codeAny_builtin F.entry_type_call ?_⟩ <;> rw [Around.under_plain (weight_type_call_type "set" [.ref l] []) rfl]
  have m1 := F.called_set.notType
  have m2 := F.called_set.canCreate
  have m3 := F.typeCall_set_1 (.ref l)
  repeat (any_goals (first | assumption | wp_step))
  refine codeAny_mono (code_set_new_1 (.ref l) (E := E) (Q₁ := fun obj s1 => ∃ led : Bool, obj = .ref s.heap.objs.size ∧ s1 = { s with heap := s.heap.push { cls := .type "set", dict := none, data := .set #[] 0 (.fresh 0 0 led) } }) fun led => ⟨led, rfl, rfl⟩) fun r s1 hr => ?_
  match r, hr with
  | .error e, hr => exact hr
  | .ok (.ret obj), hr =>
    obtain ⟨led, rfl, rfl⟩ := hr
    have atS : (s.heap.push { cls := .type "set", dict := none, data := .set #[] 0 (.fresh 0 0 led) }).get? s.heap.objs.size = some { cls := .type "set", dict := none, data := .set #[] 0 (.fresh 0 0 led) } := Heap.get?_push_size _ rfl
    have tyS : Shared.TypeIs { s with heap := s.heap.push { cls := .type "set", dict := none, data := .set #[] 0 (.fresh 0 0 led) } } (.ref s.heap.objs.size) "set" := ⟨_, atS, rfl⟩
    have m4 := F.called_set.init.lookup
    have m5 := F.called_set.init.bind (.ref s.heap.objs.size)
    repeat (any_goals (first | assumption | wp_step))
    refine codeAny_mono (codeAny_call_builtin (R := wants (fun r s2 => r = .none ∧ ∃ h2 tk, s2 = { s with heap := h2, toks := tk } ∧
        h2.SetOf (intKind P w) s.heap.objs.size (fun k => (met ns items.size).any (· == k)) (met ns items.size).length ∧
        (∀ b o, b < s.heap.objs.size → s.heap.get? b = some o → h2.get? b = some o)) E) F.called_set.init.plain F.entry_set_init (check_set_init_1 tyS ?_)) fun r2 s2 hr2 => ?_
    · obtain ⟨⟨_, odict, _, oslots⟩, hol, hcl, nl, hdl⟩ := hl
      simp only at hcl hdl
      subst hcl; subst hdl
      have hol2 : (s.heap.push { cls := .type "set", dict := none, data := .set #[] 0 (.fresh 0 0 led) }).get? l = some { cls := .type "tuple", dict := odict, data := .seq items nl, slots := oslots } := Heap.get?_push_of_some _ hol
      have m6 := F.sub_tuple_set
      have m7 := F.sub_tuple_frozenset
      have m8 : (Value.type "tuple" == Value.type "dict") = false := by decide
      have hl1 : (s.heap.push { cls := .type "set", dict := none, data := .set #[] 0 (.fresh 0 0 led) }).IsTuple l items := ⟨_, hol2, rfl, nl, rfl⟩
      unfold Builtin.«set.__init__» noKeywords Builtin.Frozenset.updateFrom
      generalize hPI : pyIter = PI
      wp_walk
      subst hPI
      refine wpAny_pyIter_tuple hl1 (wpAny_bind (wpAny_runValue ?_))
      have lS : l < s.heap.objs.size := Heap.lt_size hol
      have zS : (s.heap.push { cls := .type "set", dict := none, data := .set #[] 0 (.fresh 0 0 led) }).objs.size = s.heap.objs.size + 1 := Heap.size_push ..
      have hh3 : A.in1.in1.in1.handled = none := by simp [hh]
      have nI : l ≠ (s.heap.push { cls := .type "set", dict := none, data := .set #[] 0 (.fresh 0 0 led) }).objs.size := by rw [zS]; exact Nat.ne_of_lt (Nat.lt_succ_of_lt lS)
      have nf : s.heap.objs.size ∉ [(s.heap.push { cls := .type "set", dict := none, data := .set #[] 0 (.fresh 0 0 led) }).objs.size, l] := by
        rw [zS]; simp only [List.mem_cons, List.not_mem_nil, or_false, not_or]
        exact ⟨Nat.ne_of_lt (Nat.lt_succ_self _), Nat.ne_of_gt lS⟩
      have val : ∀ (i : Nat) (v : Value), items[i]? = some v → ∃ t, v = .int ((fun i => ns.getD i 0) i) t := fun i v hv => IntsAre.int_at hi i v (by rw [Array.getElem?_toList]; exact hv)
      refine codeAny_set_update_loopS ((Walks.tuple hh3 _ l nI items).toS) s.heap.objs.size nf (fun i => ns.getD i 0) val few (items.size - 0) 0 _ (by omega) (Nat.zero_le _)
        ⟨⟨_, Heap.get?_push_size _ rfl, rfl, rfl⟩, (hl1.push _)⟩ ?first ?last
      case first => exact SetOf_congr ((setObjOf_fresh (knd := intKind P w) led).setOf (Heap.get?_push_of_some _ atS) (by unfold scanBound; omega)) (fun _ => rfl) rfl
      case last =>
        rintro ⟨h2, g2, d2, tk2, os2⟩ mv R2
        obtain rfl : g2 = s.gens := mv.gens
        obtain rfl : d2 = s.drawn := mv.drawn
        obtain rfl : os2 = s.os := mv.os
        refine wpAny_pure (wpAny_pure ⟨rfl, h2, tk2, rfl, R2, fun b o hb e => ?_⟩)
        exact mv.heap b o (by rw [zS]; simp only [List.mem_cons, List.not_mem_nil, or_false, not_or]; exact ⟨Nat.ne_of_lt hb, Nat.ne_of_lt (Nat.lt_succ_of_lt hb)⟩) (Heap.get?_push_of_some _ (Heap.get?_push_of_some _ e))
    · match r2, hr2 with
      | .error e, hr2 => exact hr2
      | .ok (.ret r), hr2 =>
        obtain ⟨rfl, h2, tk, rfl, R2, kp⟩ := hr2
        repeat (any_goals (first | assumption | wp_step))
        exact h _ _ R2 kp
end
end L2.NumSeq
set_option Elab.async false
set_option linter.all false
set_option maxRecDepth 100000
set_option maxHeartbeats 4000000
/-! sorted of a list or a tuple of ints, len(set(..)). -/
namespace L2.NumSeq
open PySem PySem.Spec PyProof.Rows
section
open SrtO Srt
variable {prog : Program} {w : World} {A : Around} {E : Value → Shared → Prop} {s : Shared}
theorem collect_tup {l : Addr} {vs : List Value} {Q : List Value → Shared → Prop} (hl : s.heap.IsTuple l vs.toArray) (hsz : vs.length ≤ sizeLine)
    (h : Q vs { s with heap := (s.heap.push (seqObj "list" #[] 0)).update s.heap.objs.size (Obj.mapSeq (· ++ vs.toArray)) }) :
    wpAny (model prog w) A (collect (.ref l)) Q E s := by
  obtain ⟨o, ho, hc, n, hd⟩ := id hl
  unfold collect
  refine wpAny_bind (wpAny_runValue (codeAny_builtin entry_proto_collect' ?_)) <;> show wpAny _ _ (do again (.builtin "list.__iadd__" ⟨[← newList [], .ref l], []⟩)) _ _ s
  refine wpAny_bind (wpAny_newList (wpAny_pure ⟨Code.quiet_builtin _ (by decide +kernel), codeAny_builtin entry_list_iadd' ?_⟩)) <;> show wpAny _ _ (Builtin.List.listExtendWith (.ref s.heap.objs.size) (.ref l) (.ref s.heap.objs.size)) _ _ { s with heap := s.heap.push (seqObj "list" #[] 0) }
  unfold Builtin.List.listExtendWith
  have here : (s.heap.push (seqObj "list" #[] 0)).get? l = some o := Heap.get?_push_of_some _ ho
  refine wpAny_bind (wpAny_typeOf (T := "tuple") ⟨o, here, hc⟩ ?_)
  have kind : (Value.type "tuple" == Value.type "tuple") = true := by rfl
  rw [if_pos (by rw [kind]; simp)]
  refine wpAny_bind (listItems_at here hd ?_)
  refine wpAny_bind (listItems_at (xs := #[]) (n := 0) (Heap.get?_push_size _ rfl) rfl ?_)
  rw [if_neg (by simp)]
  refine wpAny_bind (listUpdate_at (xs := #[]) (n := 0) (Heap.get?_push_size _ rfl) rfl ?_ (Nat.zero_le _) (by show (#[] ++ vs.toArray).size ≤ sizeLine + 1; simp only [Array.size_append, List.size_toArray, List.length_nil]; omega))
  refine wpAny_pure ?_
  show wpAny (model prog w) A (do
      let o ← load s.heap.objs.size
      match o.data with
      | .seq xs _ => pure xs.toList
      | _ => unsupported "internal:collect") Q E { s with heap := (s.heap.push (seqObj "list" #[] 0)).update s.heap.objs.size (Obj.mapSeq (· ++ vs.toArray)) }
  refine wpAny_bind (wpAny_load (get?_update_seq (Heap.get?_push_size _ rfl) _) ?_)
  show wpAny _ _ (pure ((#[] : Array Value) ++ vs.toArray).toList) Q E _
  rw [show ((#[] : Array Value) ++ vs.toArray).toList = vs by simp]
  exact wpAny_pure h
/-- sorted(t): the new list stands at size + 1 (the collected one at size) -/
theorem sorted_tup {l : Addr} {vs : List Value} {ltv : Value → Value → Bool} {Q : Value → Shared → Prop} (O : Swo ltv) (hl : s.heap.IsTuple l vs.toArray) (hz : vs.length ≤ sizeLine)
    (hS : 2 ≤ vs.length → ∀ (h₁ : Heap) (a : Addr), h₁.get? a = some (seqObj "list" vs.toArray 0) → (∀ b o, s.heap.get? b = some o → b ≠ a ∧ h₁.get? b = some o) → SortableO prog w A.in1.in1 { s with heap := h₁ } a vs ltv)
    (h : ∀ out : List Value, Srtd ltv out → Stb ltv out vs → Q (.ref (s.heap.objs.size + 1)) { s with heap := sortedAll s.heap vs out.toArray }) :
    wpAny (model prog w) A (call (.builtin "sorted") [.ref l]) Q E s := by
  refine Calls.call_function_entry kind_sorted plain_sorted entry_sorted (args_sorted1 _) ?_
  unfold Builtin.«sorted»
  refine wpAny_bind (m := checkCount "sorted" 1 1 _) (wpAny_pure ?_)
  refine wpAny_bind (collect_tup hl hz ?_)
  refine wpAny_bind (wpAny_newList ?_ hz)
  have z : ((s.heap.push (seqObj "list" #[] 0)).update s.heap.objs.size (Obj.mapSeq (· ++ vs.toArray))).objs.size = s.heap.objs.size + 1 := by
    rw [Heap.size_update, size_push']
  have at1 : (((s.heap.push (seqObj "list" #[] 0)).update s.heap.objs.size (Obj.mapSeq (· ++ vs.toArray))).push (seqObj "list" vs.toArray 0)).get? (s.heap.objs.size + 1) = some (seqObj "list" vs.toArray 0) := by
    rw [← z]; exact Heap.get?_push_size _ rfl
  have keep : ∀ b o, s.heap.get? b = some o → b ≠ s.heap.objs.size + 1 ∧ (((s.heap.push (seqObj "list" #[] 0)).update s.heap.objs.size (Obj.mapSeq (· ++ vs.toArray))).push (seqObj "list" vs.toArray 0)).get? b = some o := fun b o q => by
    have lt : b < s.heap.objs.size := Heap.lt_size q
    refine ⟨Nat.ne_of_lt (Nat.lt_succ_of_lt lt), Heap.get?_push_of_some _ ?_⟩
    rw [Heap.get?_update_ne _ _ _ _ (Nat.ne_of_lt lt)]
    exact Heap.get?_push_of_some _ q
  show wpAny _ _ _ _ _ { s with heap := ((s.heap.push (seqObj "list" #[] 0)).update s.heap.objs.size (Obj.mapSeq (· ++ vs.toArray))).push (seqObj "list" vs.toArray 0) }
  rw [z]
  refine wpAny_bind (wpAny_holding (wpAny_call_entry slot_list_sort ⟨_, at1, rfl⟩ entry_list_sort (list_sort_ord O at1 hz (fun h2 => hS h2 _ _ at1 keep) fun out hs hb => ⟨_, rfl, ?_⟩) (args_list_sort _)))
  exact wpAny_pure ⟨_, rfl, h out hs hb⟩
end
section
variable {X : Cx}
/-- sorted of a list or a tuple of ints -/
def rSortN (K : PySem.W.Frag) : List V → Hp → VK → Prop := fun vs H Q => ∃ (a : Addr) (ns : List Int), vs = [V.ref a] ∧ (SqL K H a (ns.map V.int) ∨ SqT K H a (ns.map V.int)) ∧
  ∀ (ns' : List Int) (p : Addr), ns'.Perm ns → ns'.Pairwise (· ≤ ·) → H p = none → Q (.ref p) (upd H p (.lst (ns'.map V.int)))
theorem cr_sortN : CallR X (.builtin "sorted") (rSortN X.K) := by
  intro pins s σ H vs us Q I r h
  obtain ⟨a, ns, rfl, hs | hs, q⟩ := h
  · exact cr_sortedI pins s σ H _ us Q I r ⟨a, ns, rfl, hs, q⟩
  · obtain ⟨its, rv, hl, hz⟩ := I.tuple hs
    rw [Vals.ref1 r]
    have hi := rv.ints
    refine sorted_tup SrtO.swo_int hl (by rw [← rv.length]; exact hz) (fun h2 h₁ a' _ _ => SrtO.ints_sortable hi h2) fun out h1 h2 => ?_
    obtain ⟨k1, k2, k3⟩ := SrtO.ints_out hi h1 h2
    obtain ⟨ep, he'⟩ := PyProof.Rows.sortedAll_at s.heap its out.toArray
    have hlen : ((out.map SrtO.iv).map V.int).length ≤ sizeLine := by
      rw [List.length_map, k2.length_eq]
      rw [List.length_map] at hz
      exact hz
    exact ⟨.ref _, upd H (s.heap.objs.size + 1) (.lst ((out.map SrtO.iv).map V.int)), I.laid (t' := s.toks) (fun _ _ => PyProof.Rows.sortedAll_old) (Nat.le_succ _) ⟨hlen, out, ep, vals_of_ints k1, he'⟩, rfl, q _ _ k2 k3 (I.hok.fresh (Nat.le_succ _))⟩
/-- len(set(x)), x a list or a tuple of ints -/
def tLenN (K : PySem.W.Frag) (ta : TE) : TE := fun σ H Q => ta σ H fun x H1 => ∃ (l : Addr) (ns : List Int), x = V.ref l ∧ (SqL K H1 l (ns.map V.int) ∨ SqT K H1 l (ns.map V.int)) ∧ ns.length ≤ 60 ∧ Q (.int (met ns ns.length).length) H1
theorem pe_lenN {a : Expr} {ta : TE} {p p2 q pos : Pos} (hg : Gl X "len") (hm : X.mg "len" = none) (hg2 : Gl X "set") (hm2 : X.mg "set" = none) (ha : PE X a ta) (hc : X.calm = true := by rfl)
    (na : starEach [a] X.env = (false, eval a X.env) :: starEach [] X.env := by rfl) : PE X (.Call (.Name "len" p) [.Call (.Name "set" p2) [a] [] q] [] pos) (tLenN X.K ta) := by
  refine ⟨fun pins s σ H Q I h => ?_⟩
  refine Call_ (ld_blt I hg hm boot_len ?_)
  refine callWith_builtin1 (args_cons ?_ rfl) rfl rfl
  refine Call_ (ld_blt I hg2 hm2 boot_set ?_)
  refine callWith_type1 (args_cons (thn (ha.run pins s σ H _ I h) fun v s1 ⟨x, H1, I1, r1, q1⟩ => args_nil ?_) na) na rfl
  obtain ⟨l, ns, rfl, hq, hl, q1⟩ := q1
  cases r1
  have few : (met ns ns.length).length ≤ 60 := Nat.le_trans (firstMet_length_le _ _) hl
  have fin : ∀ (h2 : Heap) (tk : Nat), h2.SetOf (intKind X.prog X.w) s1.heap.objs.size (fun k => (met ns ns.length).any (· == k)) (met ns ns.length).length →
      (∀ b o, b < s1.heap.objs.size → s1.heap.get? b = some o → h2.get? b = some o) → wpAny (model X.prog X.w) X.A (call (.builtin "len") [.ref s1.heap.objs.size]) (EP X pins σ Q) X.xe { s1 with heap := h2, toks := tk } := fun h2 tk hS hk => by
    obtain ⟨o, es, ep, t, ho, hex, hd, _, _, _, hf, hn⟩ := hS
    have I2 : Inv X pins σ H1 { s1 with heap := h2, toks := tk } := I1.kept fun b o e => hk b o (Heap.lt_size e) e
    exact call_len_set ho hex hd hf (by rw [hn] <;> omega) ⟨.int (met ns ns.length).length, H1, I2.tok _, ⟨_, by rw [hn]⟩, q1⟩
  rcases hq with hq | hq
  · obtain ⟨its, r, pl, hz⟩ := I1.list hq
    have hlen : its.toArray.size = ns.length := by rw [List.size_toArray, ← r.length, List.length_map]
    refine call_set_list (I1.ok.hd hc) pl.isList (by simpa using RZ.intsAre_vals r) (by rw [hlen]; unfold scanBound; omega) fun h' tk hS hk => ?_
    rw [hlen] at hS
    exact args_nil (fin h' tk hS hk)
  · obtain ⟨its, r, pl, hz⟩ := I1.tuple hq
    have hlen : its.toArray.size = ns.length := by rw [List.size_toArray, ← r.length, List.length_map]
    refine call_set_ints (I1.ok.hd hc) pl (by simpa using RZ.intsAre_vals r) (by rw [hlen]; unfold scanBound; omega) fun h' tk hS hk => ?_
    rw [hlen] at hS
    exact args_nil (fin h' tk hS hk)
end
end L2.NumSeq
set_option Elab.async false
set_option linter.all false
set_option maxRecDepth 100000
set_option maxHeartbeats 4000000
/-! is_whole, are_places. -/
namespace L2.LawH
open PySem PySem.Spec PyProof.Rows L2.TxtSet TL L2.NumSeq
abbrev sWhole : Stmt := top 9
abbrev sPlaces : Stmt := top 15
abbrev sLWhole : Stmt := top 33
/-- [out x for x in .. if p x], the heap only grows -/
theorem lc_sift {α : Type} {J : It} {n : Nat} {G : Hp → Prop} {ms : List α} {val : α → V} (w : L2.Walk J n G (YAt (ms.map val))) (en : n = ms.length) {g : TG} {tt : TT} {te : TE} {vs : List Nat} {σ : St} {H1 : Hp} {D : Addr} {Qd : Hp → Prop} (p : α → Bool) (out : α → V)
    (nD : H1 D = none) (few : ms.length ≤ 1000) (hG : ∀ H, Same H1 H → G H)
    (hs : ∀ x ∈ ms, ∀ (H5 : Hp) (Yes : V → Hp → Prop) (No : Hp → Prop), Same H1 H5 → (∀ H4, Same H5 H4 → p x = true → Yes (out x) H4) → (∀ H4, Same H5 H4 → p x = false → No H4) →
      g (val x) (wipe σ vs) H5 fun σ2 H2 => wipe σ2 vs = wipe σ vs ∧ tt σ2 H2 fun b H3 => if b = true then te σ2 H3 Yes else No H3)
    (hd : ∀ H', Same H1 H' → H' D = some (.lst ((ms.filter p).map out)) → Qd H') :
    ∃ W : Nat → Nat → Hp → Prop, (∃ m, W 0 m (upd H1 D (.lst []))) ∧ ∀ i m H, W i m H →
      (J.stop i H ∧ Qd H) ∨ (J.go i H ∧ ∃ Nx : Hp → Prop, (∀ H', Nx H' → ∃ m', m' < m ∧ W (i + 1) m' H') ∧ ∀ x H', J.yld i H x H' → g x (wipe σ vs) H' fun σ2 H2 => wipe σ2 vs = wipe σ vs ∧ tt σ2 H2 fun b H3 =>
        if b = true then te σ2 H3 fun y H4 => ∃ acc, H4 D = some (.lst acc) ∧ acc.length < sizeLine ∧ Nx (upd H4 D (.lst (acc ++ [y]))) else Nx H3) := by
  subst en
  refine lc_it w (fun i H5 => Same H1 H5 ∧ H5 D = some (.lst (((ms.take i).filter p).map out))) ⟨same_new nD, upd_same⟩ (fun i H5 _ q => hG H5 q.1) (fun i z H5 H6 hi q y => ?_) (fun H5 q => ?_)
  · obtain ⟨rfl, hz⟩ := y
    obtain ⟨q1, q2⟩ := q
    rw [List.getElem?_map] at hz
    obtain ⟨x, hx, rfl⟩ := Option.map_eq_some_iff.mp hz
    have tk : ms.take (i + 1) = ms.take i ++ [x] := by
      rw [List.take_succ, hx]
      rfl
    refine hs x (List.mem_of_getElem? hx) H6 _ _ q1 (fun H4 s4 hp => ⟨_, s4 _ _ q2, ?_, ?_, ?_⟩) fun H4 s4 hp => ⟨?_, ?_⟩
    · rw [List.length_map, sizeLine_eq]
      have := List.length_filter_le p (ms.take i)
      rw [List.length_take] at this
      omega
    · intro b o h
      rw [upd_ne (ne_of_none h nD)]
      exact s4 _ _ (q1 _ _ h)
    · rw [upd_same, tk, List.filter_append, List.filter_cons_of_pos hp, List.filter_nil, List.map_append]
      rfl
    · intro b o h
      exact s4 _ _ (q1 _ _ h)
    · rw [tk, List.filter_append, List.filter_cons_of_neg (by rw [hp]; exact Bool.false_ne_true), List.filter_nil, List.append_nil]
      exact s4 _ _ q2
  · obtain ⟨q1, q2⟩ := q
    rw [List.take_length] at q2
    exact hd H5 q1 q2

def isI : V → Bool
  | .int _ => true
  | _ => false
/-- a value of which it is known whether it is an integer, and no bool -/
def WhlAt (K : PySem.W.Frag) (H : Hp) (x : V) : Prop := ∃ (n : String) (i o : Bool), TyX K H x (.type n) ∧ kitB n "int" = some i ∧ kitB n "bool" = some o ∧ isI x = (i && !o)
theorem WhlAt.same {K : PySem.W.Frag} {H H' : Hp} (s : Same H H') {x : V} (h : WhlAt K H x) : WhlAt K H' x := let ⟨n, i, o, h1, h2, h3, h4⟩ := h; ⟨n, i, o, tyx_same s h1, h2, h3, h4⟩
section
variable {K : PySem.W.Frag} {H : Hp}
theorem whl_int (i : Int) : WhlAt K H (.int i) := ⟨"int", true, false, .base (.int i), by decide +kernel, by decide +kernel, rfl⟩
theorem whl_bl (b : Bool) : WhlAt K H (.bl b) := ⟨"bool", true, true, .base (.bl b), by decide +kernel, by decide +kernel, rfl⟩
theorem whl_non : WhlAt K H .non := ⟨"NoneType", false, false, .base .non, by decide +kernel, by decide +kernel, rfl⟩
theorem whl_str (z : Str) : WhlAt K H (.str z) := ⟨"str", false, false, .base (.str z), by decide +kernel, by decide +kernel, rfl⟩
theorem whl_lst {a : Addr} {xs : List V} (h : H a = some (.lst xs)) : WhlAt K H (.ref a) := ⟨"list", false, false, .base (.lst h), by decide +kernel, by decide +kernel, rfl⟩
end
def spWhole (K : PySem.W.Frag) : Sp := fun vs H Q _ => ∃ x : V, vs = [x] ∧ WhlAt K H x ∧ Q (.bl (isI x)) H
/-- places as they stand, or what is no list and no tuple -/
def PlsAt (K : PySem.W.Frag) (H : Hp) (x : V) : Option (List V) → Prop
  | some ys => (∃ a, x = .ref a ∧ ((SqL K H a ys ∧ TyX K H x (.type "list")) ∨ (SqT K H a ys ∧ TyX K H x (.type "tuple")))) ∧ ys.length ≤ 8 ∧ ∀ y ∈ ys, WhlAt K H y
  | none => ∃ n : String, TyX K H x (.type n) ∧ kitB n "list" = some false ∧ kitB n "tuple" = some false
theorem PlsAt.same {K : PySem.W.Frag} {H H' : Hp} (s : Same H H') {x : V} : ∀ {o : Option (List V)}, PlsAt K H x o → PlsAt K H' x o
  | some ys, ⟨⟨a, e, h⟩, l, w⟩ => ⟨⟨a, e, h.elim (fun h => .inl ⟨s.seq h.1, tyx_same s h.2⟩) fun h => .inr ⟨L2.LawH.Same.seqT s h.1, tyx_same s h.2⟩⟩, l, fun y m => (w y m).same s⟩
  | none, ⟨n, h, a, b⟩ => ⟨n, tyx_same s h, a, b⟩
def okI (n : Int) : V → Bool
  | .int i => decide (0 ≤ i) && decide (i < n)
  | _ => false
def nums (ys : List V) : List Int := ys.filterMap fun y => match y with
  | .int i => some i
  | _ => none
def plB (n : Int) : Option (List V) → Bool
  | some ys => ys.all (okI n) && decide (nums ys).Nodup
  | none => false
theorem nums_of {n : Int} : ∀ {ys : List V}, ys.all (okI n) = true → ys = (nums ys).map V.int
  | [], _ => rfl
  | y :: ys, h => by
    rw [List.all_cons, Bool.and_eq_true] at h
    have ih := nums_of h.2
    cases y with
    | int i =>
      show V.int i :: ys = V.int i :: (nums ys).map V.int
      rw [← ih]
    | _ => exact absurd h.1 (by simp [okI])
theorem fold_dedup : ∀ (l acc : List Int), (l.foldl step_dedup acc).length ≤ acc.length + l.length ∧ ((l.foldl step_dedup acc).length = acc.length + l.length ↔ l.Nodup ∧ ∀ x ∈ l, x ∉ acc)
  | [], acc => ⟨Nat.le_refl _, by simp⟩
  | v :: l, acc => by
    obtain ⟨h1, h2⟩ := fold_dedup l (step_dedup acc v)
    have e : (step_dedup acc v).length = if acc.any (· == v) then acc.length else acc.length + 1 := step_length acc v
    by_cases c : v ∈ acc
    · have ca : acc.any (· == v) = true := List.any_eq_true.mpr ⟨v, c, by simp⟩
      rw [ca, if_pos rfl] at e
      rw [List.foldl_cons, List.length_cons]
      refine ⟨by omega, ⟨fun h => by omega, fun h => absurd c (h.2 v List.mem_cons_self)⟩⟩
    · have ca : acc.any (· == v) = false := by
        rw [List.any_eq_false]
        intro x hx e
        rw [beq_iff_eq] at e
        exact c (e ▸ hx)
      have es : step_dedup acc v = acc ++ [v] := by
        unfold step_dedup
        rw [if_neg (by rw [ca]; exact Bool.false_ne_true)]
      rw [ca, if_neg Bool.false_ne_true] at e
      rw [List.foldl_cons, List.length_cons]
      refine ⟨by omega, ⟨fun h => ?_, fun h => ?_⟩⟩
      · obtain ⟨a, b⟩ := h2.mp (by omega)
        refine ⟨List.nodup_cons.mpr ⟨fun m => b v m (by rw [es]; simp), a⟩, fun x hx => ?_⟩
        rcases List.mem_cons.mp hx with rfl | hx
        · exact c
        · exact fun m => b x hx (by rw [es]; exact List.mem_append_left _ m)
      · obtain ⟨a, b⟩ := h
        obtain ⟨a1, a2⟩ := List.nodup_cons.mp a
        have := h2.mpr ⟨a2, fun x hx m => by
          rw [es] at m
          rcases List.mem_append.mp m with m | m
          · exact b x (List.mem_cons_of_mem _ hx) m
          · rw [List.mem_singleton.mp m] at hx
            exact a1 hx⟩
        omega
theorem range_getD : ∀ ns : List Int, (List.range ns.length).map (fun i => ns.getD i 0) = ns := fun ns => by
  refine List.ext_getElem (by simp) fun i h1 h2 => ?_
  rw [List.getElem_map, List.getElem_range, List.getD_eq_getElem?_getD, List.getElem?_eq_getElem h2]
  rfl
theorem met_len (ns : List Int) : (met ns ns.length).length = ns.length ↔ ns.Nodup := by
  have e : met ns ns.length = ns.foldl step_dedup [] := by
    show ((List.range ns.length).map (fun i => ns.getD i 0)).foldl step_dedup [] = _
    rw [range_getD]
  have := (fold_dedup ns []).2
  rw [← e, List.length_nil, Nat.zero_add] at this
  rw [this]
  exact ⟨fun h => h.1, fun h => ⟨h, fun _ _ => by simp⟩⟩
def spPlaces (K : PySem.W.Frag) : Sp := fun vs H Q _ => ∃ (x : V) (n : Int) (o : Option (List V)), vs = [x, .int n] ∧ PlsAt K H x o ∧ ∀ H', Same H H' → Q (.bl (plB n o)) H'
section
variable {P : Program} {w : World} {K : PySem.W.Frag} {mg : Str → Option Value} {base : Heap}
theorem scWhole : FnScope ["value"] ["value"] (defScope sWhole) := ⟨rfl, rfl, rfl, by decide +kernel, rfl, by decide +kernel, by decide +kernel⟩
theorem ok_whole {f : Addr} {fd : FuncData} (F : Fun K "is_whole" "is_whole" sWhole f fd) (mi : mg "isinstance" = none) (mt : mg "int" = none) (mb : mg "bool" = none) : FnOk P w K mg base CX0 1 f fd ["value"] (spWhole K) := by
  refine F.ok scWhole (fun vs H Q E h => ?_) (fun cdv A outer s H vs Q E hr h => ?_)
  · obtain ⟨x, rfl, _⟩ := h
    rfl
  · obtain ⟨x, rfl, ⟨n, i, o, ty, k1, k2, e⟩, q⟩ := h
    refine ⟨_, pss_one (ps_ret (pe_and (pe_callB call_isi (by rfl) mi (by decide +kernel) (pa_cons (pv 0) (pa_cons (pe_bltn (v := .ty "int") (by rfl) mt (by decide +kernel) rfl) pa_nil)))
      (pe_one (pe_not (pe_callB call_isi (by rfl) mi (by decide +kernel) (pa_cons (pv 0) (pa_cons (pe_bltn (v := .ty "bool") (by rfl) mb (by decide +kernel) rfl) pa_nil))))))), ?_⟩
    refine ⟨_, rfl, _, .ty "int", _, _, i, rfl, .ty "int", ty, kit_ty k1, _, rfl, ?_⟩
    rw [e] at q
    cases i with
    | false => exact iteF q
    | true => exact iteT ⟨_, rfl, _, .ty "bool", _, _, o, rfl, .ty "bool", ty, kit_ty k2, _, rfl, q⟩
theorem scLWhole : FnScope ["_law_value"] ["_law_value"] (defScope sLWhole) := ⟨rfl, rfl, rfl, by decide +kernel, rfl, by decide +kernel, by decide +kernel⟩
theorem ok_Lwhole {f : Addr} {fd : FuncData} (F : Fun K "_law_whole" "_law_whole" sLWhole f fd) (mi : mg "isinstance" = none) (mt : mg "int" = none) (mb : mg "bool" = none) : FnOk P w K mg base CX0 1 f fd ["_law_value"] (spWhole K) := by
  refine F.ok scLWhole (fun vs H Q E h => ?_) (fun cdv A outer s H vs Q E hr h => ?_)
  · obtain ⟨x, rfl, _⟩ := h
    rfl
  · obtain ⟨x, rfl, ⟨n, i, o, ty, k1, k2, e⟩, q⟩ := h
    refine ⟨_, pss_one (ps_ret (pe_and (pe_callB call_isi (by rfl) mi (by decide +kernel) (pa_cons (pv 0) (pa_cons (pe_bltn (v := .ty "int") (by rfl) mt (by decide +kernel) rfl) pa_nil)))
      (pe_one (pe_not (pe_callB call_isi (by rfl) mi (by decide +kernel) (pa_cons (pv 0) (pa_cons (pe_bltn (v := .ty "bool") (by rfl) mb (by decide +kernel) rfl) pa_nil))))))), ?_⟩
    refine ⟨_, rfl, _, .ty "int", _, _, i, rfl, .ty "int", ty, kit_ty k1, _, rfl, ?_⟩
    rw [e] at q
    cases i with
    | false => exact iteF q
    | true => exact iteT ⟨_, rfl, _, .ty "bool", _, _, o, rfl, .ty "bool", ty, kit_ty k2, _, rfl, q⟩
abbrev nPlaces : List Str := ["places", "size", "place"]
theorem scPlaces : FnScope nPlaces ["places", "size"] (defScope sPlaces) := ⟨rfl, rfl, rfl, by decide +kernel, rfl, by decide +kernel, by decide +kernel⟩
theorem ok_places {f fW : Addr} {fd fdW : FuncData} (F : Fun K "are_places" "are_places" sPlaces f fd)
    (GW : FnOk P w K mg base CX0 1 fW fdW ["value"] (spWhole K)) (kW : PySem.W.keepIn K (.ref fW) = true) (bW : Binds K fdW ["value"] []) (mW : mg "is_whole" = some (.ref fW))
    (mi : mg "isinstance" = none) (mL : mg "list" = none) (mT : mg "tuple" = none) (ma : mg "all" = none) (ml : mg "len" = none) (mS : mg "set" = none) : FnOk P w K mg base CX0 2 f fd ["places", "size"] (spPlaces K) := by
  refine F.ok scPlaces (fun vs H Q E h => ?_) (fun cdv A outer s H vs Q E hr h => ?_)
  · obtain ⟨x, n, o, rfl, _⟩ := h
    rfl
  · obtain ⟨x, n, o, rfl, hx, k⟩ := h
    have hr1 : Room 1 _ := hr.mono (by decide)
    refine ⟨_, pss_one (ps_ret (pe_and (pe_callB call_isiT (by rfl) mi (by decide +kernel) (pa_cons (pv 0) (pa_cons (pe_tup (pa_cons (pe_bltn (v := .ty "list") (by rfl) mL (by decide +kernel) rfl) (pa_cons (pe_bltn (v := .ty "tuple") (by rfl) mT (by decide +kernel) rfl) pa_nil))) pa_nil)))
      (pe_and (pe_callB (cr_all rfl) (by rfl) ma (by decide +kernel) (pa_cons (pe_lc (own := [("place", 2)]) (g := gName 2) (tt := tYes) rfl scPlaces.nd (pi_seq (pv 0))
        (blkOk_by (own := [("place", 2)]) (N := nPlaces) (sc := defScope sPlaces) (by decide +kernel)) (fun _ _ _ _ _ => pg_name (i := 2) scPlaces.nd rfl (Or.inl rfl)) (fun _ _ _ _ _ => pts_nil)
        (fun _ _ _ _ _ => pe_and (pe_call GW hr1 (by rfl) mW kW bW .nil pass0 (pa_cons (pv 2) pa_nil)) (pe_one (pe_chain op_le op_lt pe_int (pv 2) (pv 1))))) pa_nil))
      (pe_one (pe_cmpR op_eq (pe_lenN (by rfl) ml (by rfl) mS (pv 0)) (pe_callB call_len_seq (by rfl) ml (by decide +kernel) (pa_cons (pv 0) pa_nil)) (nomark _)))))), ?_⟩
    have kit : ∀ {t : String} {b : Bool}, (match kitB t "list" with | some true => some true | some false => kitB t "tuple" | none => none) = some b → PySem.W.kitAny K (.type t) [.type "list", .type "tuple"] = some b := fun {t b} h => by
      cases e : kitB t "list" with
      | none => rw [e] at h; cases h
      | some c =>
        rw [e] at h
        cases c with
        | true =>
          cases h
          exact kitAny_cons (kit_ty e) (fun z => by cases z) (fun _ => rfl)
        | false =>
          dsimp only at h
          exact kitAny_cons (kit_ty e) (fun _ => kitAny_cons (kit_ty h) (fun z => by rw [z]; rfl) (fun z => z)) (fun z => by cases z)
    refine ⟨_, rfl, by show 2 ≤ sizeLine; decide, fun p np => ?_⟩
    have s1 : Same H (upd H p (.tup [.ty "list", .ty "tuple"])) := same_new np
    have h1 : (upd H p (.tup [.ty "list", .ty "tuple"])) p = some (.tup [.ty "list", .ty "tuple"]) := upd_same
    generalize upd H p (.tup [.ty "list", .ty "tuple"]) = H1 at s1 h1 ⊢
    have pr : Paired ClsV [V.ty "list", V.ty "tuple"] [Value.type "list", Value.type "tuple"] := .cons (.ty "list") (.cons (.ty "tuple") .nil)
    cases o with
    | none =>
      obtain ⟨t, ty, kl, kt⟩ := hx
      exact ⟨x, p, _, _, _, false, rfl, h1, pr, tyx_same s1 ty, kit (by rw [kl]; exact kt), ⟨false, rfl, iteF (k _ s1)⟩⟩
    | some ys =>
      have hx1 := hx.same s1
      obtain ⟨⟨a, rfl, hs⟩, few, wh⟩ := hx1
      rcases hs with ⟨hs, ty⟩ | ⟨hs, ty⟩
      · refine ⟨.ref a, p, _, _, _, true, rfl, h1, pr, ty, kit (by rw [show kitB "list" "list" = some true by decide +kernel] <;> first | rfl | decide +kernel), ⟨true, rfl, iteT ?_⟩⟩
        refine ⟨_, rfl, a, rfl, .inl ⟨⟨_, hs⟩, fun L nL => ?_⟩⟩
        refine lc_sift (ms := ys) (val := fun y => y) (L2.walk_list (K := K)) (by rw [List.map_id']) (fun _ => true) (fun y => V.bl (okI n y)) nL (by omega) (fun H' s' => by rw [List.map_id']; exact s'.seq hs) (fun y hy H5 Yes No s5 yes no => ?_) (fun H' s' hL => ?_)
        · refine ⟨rfl, _, rfl, y, rfl, (wh y hy).same s5, isI y, rfl, ?_⟩
          have q := yes H5 (Same.refl _) rfl
          cases y with
          | int i =>
            refine iteT ⟨_, rfl, 0, i, rfl, rfl, _, rfl, ?_⟩
            dsimp only [okI] at q
            refine ite2 (fun e => ?_) (fun e => ?_)
            · refine ⟨_, rfl, i, n, rfl, rfl, ?_⟩
              rw [e, Bool.true_and] at q
              exact q
            · rw [Bool.eq_false_iff.mpr e, Bool.false_and] at q
              exact q
          | _ => exact iteF q
        · rw [List.filter_eq_self.mpr (fun _ _ => rfl)] at hL
          have s2 := s1.trans s'
          refine ⟨L, ys.map (okI n), rfl, SqL.of (by rw [hL, List.map_map] <;> rfl), _, rfl, ?_⟩
          have kk : Q (V.bl (ys.all (okI n) && decide (nums ys).Nodup)) H' := k H' s2
          rw [show (ys.map (okI n)).all id = ys.all (okI n) by rw [List.all_map] <;> rfl]
          refine ite2 (fun e => ?_) (fun e => ?_)
          · rw [e, Bool.true_and] at kk
            have en := nums_of e
            have sq := s'.seq hs
            have ln : (nums ys).length = ys.length := by
              have := congrArg List.length en
              rw [List.length_map] at this
              exact this.symm
            refine ⟨_, rfl, a, nums ys, rfl, .inl (by rw [← en]; exact sq), by omega, _, rfl, a, ys, rfl, .inl sq, ?_⟩
            refine ⟨rfl, ?_⟩
            rw [show decide (V.int ((met (nums ys) (nums ys).length).length : Nat) = V.int (ys.length : Nat)) = decide (nums ys).Nodup from decide_eq_decide.mpr ⟨fun h => (met_len _).mp (by injection h; omega), fun h => by rw [(met_len _).mpr h, ln]⟩]
            exact kk
          · rw [Bool.eq_false_iff.mpr e, Bool.false_and] at kk
            exact kk
      · refine ⟨.ref a, p, _, _, _, true, rfl, h1, pr, ty, kit (by rw [show kitB "tuple" "list" = some false by decide +kernel] <;> first | rfl | decide +kernel), ⟨true, rfl, iteT ?_⟩⟩
        refine ⟨_, rfl, a, rfl, .inr ⟨⟨_, hs⟩, fun L nL => ?_⟩⟩
        refine lc_sift (ms := ys) (val := fun y => y) (L2.walk_tup (K := K)) (by rw [List.map_id']) (fun _ => true) (fun y => V.bl (okI n y)) nL (by omega) (fun H' s' => by rw [List.map_id']; exact L2.LawH.Same.seqT s' hs) (fun y hy H5 Yes No s5 yes no => ?_) (fun H' s' hL => ?_)
        · refine ⟨rfl, _, rfl, y, rfl, (wh y hy).same s5, isI y, rfl, ?_⟩
          have q := yes H5 (Same.refl _) rfl
          cases y with
          | int i =>
            refine iteT ⟨_, rfl, 0, i, rfl, rfl, _, rfl, ?_⟩
            dsimp only [okI] at q
            refine ite2 (fun e => ?_) (fun e => ?_)
            · refine ⟨_, rfl, i, n, rfl, rfl, ?_⟩
              rw [e, Bool.true_and] at q
              exact q
            · rw [Bool.eq_false_iff.mpr e, Bool.false_and] at q
              exact q
          | _ => exact iteF q
        · rw [List.filter_eq_self.mpr (fun _ _ => rfl)] at hL
          have s2 := s1.trans s'
          refine ⟨L, ys.map (okI n), rfl, SqL.of (by rw [hL, List.map_map] <;> rfl), _, rfl, ?_⟩
          have kk : Q (V.bl (ys.all (okI n) && decide (nums ys).Nodup)) H' := k H' s2
          rw [show (ys.map (okI n)).all id = ys.all (okI n) by rw [List.all_map] <;> rfl]
          refine ite2 (fun e => ?_) (fun e => ?_)
          · rw [e, Bool.true_and] at kk
            have en := nums_of e
            have sq := L2.LawH.Same.seqT s' hs
            have ln : (nums ys).length = ys.length := by
              have := congrArg List.length en
              rw [List.length_map] at this
              exact this.symm
            refine ⟨_, rfl, a, nums ys, rfl, .inr (by rw [← en]; exact sq), by omega, _, rfl, a, ys, rfl, .inr sq, ?_⟩
            refine ⟨rfl, ?_⟩
            rw [show decide (V.int ((met (nums ys) (nums ys).length).length : Nat) = V.int (ys.length : Nat)) = decide (nums ys).Nodup from decide_eq_decide.mpr ⟨fun h => (met_len _).mp (by injection h; omega), fun h => by rw [(met_len _).mpr h, ln]⟩]
            exact kk
          · rw [Bool.eq_false_iff.mpr e, Bool.false_and] at kk
            exact kk
end
end L2.LawH
set_option Elab.async false
set_option linter.all false
set_option maxRecDepth 100000
set_option maxHeartbeats 4000000
/-! Key(..). -/
namespace L2.LawH
open PySem PySem.Spec PyProof.Rows L2.TxtSet TL L2.NumSeq
abbrev sInitK : Stmt := inClass (top 16) 0
section
variable {X : Cx}
/-- C(), an own exception class without __init__ -/
theorem pmk_own0 {C : Addr} {bmB : List Value} {B newId initId : String} {x : Str} {p pos : Pos} (F : ExcBaseFacts B newId initId bmB) (q : PySem.W.excIn X.K C bmB newId = true) (gC : X.mg x = some (.ref C)) (kC : PySem.W.keepIn X.K (.ref C) = true) (r : Raises X (.ref C)) (hg : Gl X x)
    (hdb : (x == ("__debug__" : Str)) = false := by decide) : PMk X (.Call (.Name x p) [] [] pos) (fun σ H Q => Q (.ref C) none H) := by
  intro pins s σ H Q I h
  refine wpAny_Call_Name_kw (ld_glob I hg gC ?_ hdb)
  refine PySem.W.callWith_K0 I.kIn kC ?_
  show wpAny _ _ (call (.ref C) []) _ _ _
  obtain ⟨bm, N, nm, qn, bs, hdct, sn, sub, ab, col, dd, k0, k1, k2, k3, k5, mN, hC, hN, hni, T⟩ := exc_obj I.kIn q
  refine wpAny_call_exc_subT F T hC hN hni (fun h' e hm => ?_) (Nat.zero_le _)
  exact mk_of I hm r h (I.hok.gone hm.new)
end
def fsK (T : Str) (n : Int) (t sp : V) : List (Str × V) := [("_table", .str T), ("_size", .int n), ("_places", t), ("_spots", sp)]
/-- a Key as it stands -/
def KeyAt (C : Addr) (H : Hp) (a : Addr) (T : Str) (n : Int) (ns : List Int) : Prop := ∃ dx t u : Addr, H a = some (.ins C dx (fsK T n (.ref t) (.ref u))) ∧ H t = some (.tup (ns.map V.int))
theorem KeyAt.same {C : Addr} {H H' : Hp} {a : Addr} {T : Str} {n : Int} {ns : List Int} (h : KeyAt C H a T n ns) (s : Same H H') : KeyAt C H' a T n ns := let ⟨dx, t, u, h1, h2⟩ := h; ⟨dx, t, u, s _ _ h1, s _ _ h2⟩
/-- what the three together tell -/
def keyB (T n : V) (o : Option (List V)) : Bool := vN T && (match n with
  | .int i => decide (1 ≤ i) && decide (i ≤ 3) && plB i o
  | _ => false)
structure ClsK (K : PySem.W.Frag) (mg : Str → Option Value) (C : Addr) : Prop where
  cl : Cls K C
  nT : PySem.W.findIn K (.ref C) "_table" = some none
  nS : PySem.W.findIn K (.ref C) "_size" = some none
  nP : PySem.W.findIn K (.ref C) "_places" = some none
  nO : PySem.W.findIn K (.ref C) "_spots" = some none
def spInitK (C B : Addr) (K : PySem.W.Frag) : Sp := fun vs H Q E => ∃ (p dx : Addr) (T n x : V) (o : Option (List V)), vs = [.ref p, T, n, x] ∧ H p = some (.ins C dx []) ∧ Okv K H T ∧ WhlAt K H n ∧ PlsAt K H x o ∧
  (keyB T n o = false → ∀ H', Same H H' → E (.ref B) none H') ∧
  (keyB T n o = true → ∀ (z : Str) (i : Int) (ns ms : List Int) (H' : Hp), T = .str z → n = .int i → o = some (ns.map V.int) → ms.Perm ns → ms.Pairwise (· ≤ ·) → KeyAt C H' p z i ms → (∀ b o, b ≠ p → H b = some o → H' b = some o) → Q .non H')
theorem ne_ins {H : Hp} {p b C dx : Addr} {fs : List (Str × V)} {o : HO} (hp : H p = some (.ins C dx fs)) (hb : H b = some o) (n : ∀ C dx fs, o ≠ .ins C dx fs) : b ≠ p := fun e => by
  rw [e, hp] at hb
  exact n _ _ _ (Option.some.inj hb).symm
theorem sqL_put {K : PySem.W.Frag} {H : Hp} {p a C dx : Addr} {fs : List (Str × V)} {ys : List V} {o : HO} (hp : H p = some (.ins C dx fs)) (h : SqL K H a ys) : SqL K (upd H p o) a ys := by
  rcases h with (h | ⟨f, h⟩) | h
  · exact .inl (.inl (by rw [upd_ne (ne_ins hp h fun _ _ _ e => by cases e)]; exact h))
  · exact .inl (.inr ⟨f, by rw [upd_ne (ne_ins hp h fun _ _ _ e => by cases e)]; exact h⟩)
  · exact .inr h
theorem sqT_put {K : PySem.W.Frag} {H : Hp} {p a C dx : Addr} {fs : List (Str × V)} {ys : List V} {o : HO} (hp : H p = some (.ins C dx fs)) (h : SqT K H a ys) : SqT K (upd H p o) a ys := by
  rcases h with (h | ⟨f, h⟩) | h
  · exact .inl (.inl (by rw [upd_ne (ne_ins hp h fun _ _ _ e => by cases e)]; exact h))
  · exact .inl (.inr ⟨f, by rw [upd_ne (ne_ins hp h fun _ _ _ e => by cases e)]; exact h⟩)
  · exact .inr h
section
variable {P : Program} {w : World} {K : PySem.W.Frag} {mg : Str → Option Value} {base : Heap}
abbrev nIK : List Str := ["self", "table", "size", "places", "place"]
theorem scIK : FnScope nIK ["self", "table", "size", "places"] (defScope sInitK) := ⟨rfl, rfl, rfl, by decide +kernel, rfl, by decide +kernel, by decide +kernel⟩
theorem ok_initK {f fN fW fP C B : Addr} {fd fdN fdW fdP : FuncData} {t3 : Tok} {bmB : List Value} (F : Fun K "__init__" "Key.__init__" sInitK f fd) (T : ClsK K mg C)
    (GN : FnOk P w K mg base CX0 1 fN fdN ["value"] (spIsN K)) (kN : PySem.W.keepIn K (.ref fN) = true) (bN : Binds K fdN ["value"] []) (mN : mg "is_name" = some (.ref fN))
    (GW : FnOk P w K mg base CX0 1 fW fdW ["value"] (spWhole K)) (kW : PySem.W.keepIn K (.ref fW) = true) (bW : Binds K fdW ["value"] []) (mW : mg "is_whole" = some (.ref fW))
    (GP : FnOk P w K mg base CX0 2 fP fdP ["places", "size"] (spPlaces K)) (kP : PySem.W.keepIn K (.ref fP) = true) (bP : Binds K fdP ["places", "size"] []) (mP : mg "are_places" = some (.ref fP))
    (mM : mg "MOST_TERMS" = some (.int 3 t3)) (FB : ExcBaseFacts "ValueError" "ValueError.__new__" "ValueError.__init__" bmB) (xB : PySem.W.excIn K B bmB "ValueError.__new__" = true) (gB : mg "BadKey" = some (.ref B)) (kB : PySem.W.keepIn K (.ref B) = true) (rB : ∀ {X : Cx}, X.K = K → Raises X (.ref B))
    (ms : mg "sorted" = none) (mt : mg "tuple" = none) : FnOk P w K mg base (L2.CX P w) 3 f fd ["self", "table", "size", "places"] (spInitK C B K) := by
  refine F.okX scIK (fun vs H Q E h => ?_) (fun cdv A outer s H vs Q E hr h => ?_)
  · obtain ⟨p, dx, T, n, x, o, rfl, _⟩ := h
    rfl
  · obtain ⟨p, dx, Tv, nv, x, o, rfl, hp, oT, wn, px, bad, good⟩ := h
    have hr1 : Room 1 _ := hr.mono (by decide)
    have hr2 : Room 2 _ := hr.mono (by decide)
    refine ⟨_, pss_cons (ps_if (PW.pt (pw_or (pt_not (pt_val (pe_call GN hr1 (by rfl) mN kN bN .nil pass0 (pa_cons (pv 1) pa_nil)))) (pw_or (pt_not (pt_val (pe_call GW hr1 (by rfl) mW kW bW .nil pass0 (pa_cons (pv 2) pa_nil))))
        (pw_or1 (pt_not (pt_chain op_le op_le pe_int (pv 2) (pe_glob (v := .int 3) (by rfl) mM ⟨_, rfl⟩))))))) (pss_one (ps_raise rfl (takes_of rfl rfl rfl rfl) (pmk_own0 FB xB gB kB (rB rfl) (by rfl)))) pss_nil)
      (pss_cons (ps_if (pt_not (pt_val (pe_call GP hr2 (by rfl) mP kP bP .nil pass0 (pa_cons (pv 3) (pa_cons (pv 2) pa_nil))))) (pss_one (ps_raise rfl (takes_of rfl rfl rfl rfl) (pmk_own0 FB xB gB kB (rB rfl) (by rfl)))) pss_nil)
      (pss_cons (ps_fld (pv 0) (pv 1) rfl)
      (pss_cons (ps_fld (pv 0) (pv 2) rfl)
      (pss_cons (ps_fld (pv 0) (pe_callTy call_tuple_of (by rfl) mt (by decide +kernel) (pa_cons (pe_callB cr_sortN (by rfl) ms (by decide +kernel) (pa_cons (pv 3) pa_nil)) pa_nil)) rfl)
      (pss_one (ps_fld (pv 0) (pe_callTy call_tuple_of (by rfl) mt (by decide +kernel) (pa_cons (pe_lc (own := [("place", 4)]) (g := gName 4) (tt := tYes) rfl scIK.nd (pi_seq (pe_fld (pv 0) rfl))
        (blkOk_by (own := [("place", 4)]) (N := nIK) (sc := defScope sInitK) (by decide +kernel)) (fun _ _ _ _ _ => pg_name (i := 4) scIK.nd rfl (Or.inl rfl)) (fun _ _ _ _ _ => pts_nil)
        (fun _ _ _ _ _ => pe_op op_add pe_int (pv 4))) pa_nil)) rfl)))))), ?_⟩
    refine ⟨_, rfl, ?_⟩
    dsimp only [tNil, List.cons_append, List.nil_append]
    refine isN_of oT fun H1 s1 => ⟨vN Tv, rfl, ?_⟩
    have badT : vN Tv = false → E (.ref B) none H1 := fun e => bad (by unfold keyB; rw [e, Bool.false_and]) _ s1
    refine ite2 (fun e1 => badT (by simpa using e1)) (fun e1 => ?_)
    have e1 : vN Tv = true := by simpa using e1
    refine ⟨_, rfl, nv, rfl, wn.same s1, isI nv, rfl, ?_⟩
    refine ite2 (fun e2 => bad ?_ _ s1) (fun e2 => ?_)
    · have e2 : isI nv = false := by simpa using e2
      unfold keyB
      cases nv with
      | int i => cases e2
      | _ => rw [Bool.and_false]
    have e2 : isI nv = true := by simpa using e2
    obtain ⟨n, rfl⟩ : ∃ n, nv = .int n := by
      cases nv with
      | int i => exact ⟨i, rfl⟩
      | _ => cases e2
    have kb : keyB Tv (.int n) o = (decide (1 ≤ n) && decide (n ≤ 3) && plB n o) := by
      show (vN Tv && _) = _
      rw [e1, Bool.true_and]
    rw [kb] at bad good
    refine ⟨_, rfl, 1, n, rfl, rfl, _, rfl, ?_⟩
    refine ite2 (fun e3 => ⟨_, _, rfl, rfl, _, rfl, ?_⟩) (fun e3 => ⟨_, rfl, iteT (bad (by rw [Bool.eq_false_iff.mpr e3, Bool.false_and, Bool.false_and]) _ s1)⟩)
    refine ite2 (fun e4 => bad (by rw [show decide (n ≤ 3) = false by simpa using e4, Bool.and_false, Bool.false_and]) _ s1) (fun e4 => ?_)
    have e4 : decide (n ≤ 3) = true := by simpa using e4
    rw [e3, e4, Bool.true_and, Bool.true_and] at bad good
    refine ⟨_, rfl, _, rfl, x, n, o, rfl, px.same s1, fun H2 s2 => ⟨_, rfl, ?_⟩⟩
    have s12 := s1.trans s2
    refine ite2 (fun e5 => bad (by simpa using e5) _ s12) (fun e5 => ?_)
    have e5 : plB n o = true := by simpa using e5
    have good := good e5
    cases o with
    | none => cases e5
    | some ys =>
      have px2 := px.same s12
      obtain ⟨⟨a, rfl, hs⟩, few, _⟩ := px2
      have en : ys = (nums ys).map V.int := nums_of ((Bool.and_eq_true _ _ ▸ e5 : (_ ∧ _)).1)
      obtain ⟨z, rfl⟩ : ∃ z, Tv = .str z := by
        cases Tv with
        | str z => exact ⟨z, rfl⟩
        | _ => cases e1
      have hp2 := s12 _ _ hp
      refine ⟨_, rfl, _, rfl, p, C, dx, [], rfl, hp2, T.cl, T.nT, (by show 0 < 1000; decide), ?_⟩
      have hs3 : SqL K (upd H2 p (.ins C dx (putF "_table" (.str z) []))) a ys ∨ SqT K (upd H2 p (.ins C dx (putF "_table" (.str z) []))) a ys := hs.elim (fun h => .inl (sqL_put hp2 h.1)) fun h => .inr (sqT_put hp2 h.1)
      have hp3 : (upd H2 p (.ins C dx (putF "_table" (.str z) []))) p = some (.ins C dx [("_table", .str z)]) := upd_same
      have k3 : ∀ b o, b ≠ p → H2 b = some o → (upd H2 p (.ins C dx (putF "_table" (.str z) []))) b = some o := fun b o n h => by
        rw [upd_ne n]
        exact h
      generalize upd H2 p (.ins C dx (putF "_table" (.str z) [])) = H3 at hs3 hp3 k3 ⊢
      refine ⟨_, rfl, _, rfl, p, C, dx, _, rfl, hp3, T.cl, T.nS, (by show 1 < 1000; decide), ?_⟩
      have hs4 : SqL K (upd H3 p (.ins C dx (putF "_size" (.int n) [("_table", .str z)]))) a ys ∨ SqT K (upd H3 p (.ins C dx (putF "_size" (.int n) [("_table", .str z)]))) a ys := hs3.elim (fun h => .inl (sqL_put hp3 h)) fun h => .inr (sqT_put hp3 h)
      have hp4 : (upd H3 p (.ins C dx (putF "_size" (.int n) [("_table", .str z)]))) p = some (.ins C dx [("_table", .str z), ("_size", .int n)]) := upd_same
      have k4 : ∀ b o, b ≠ p → H2 b = some o → (upd H3 p (.ins C dx (putF "_size" (.int n) [("_table", .str z)]))) b = some o := fun b o n h => by
        rw [upd_ne n]
        exact k3 b o n h
      generalize upd H3 p (.ins C dx (putF "_size" (.int n) [("_table", .str z)])) = H4 at hs4 hp4 k4 ⊢
      refine ⟨_, rfl, a, nums ys, rfl, hs4.imp (fun h => by rw [← en]; exact h) (fun h => by rw [← en]; exact h), fun ms l pm so nl => ?_⟩
      refine ⟨l, _, rfl, .inl ⟨SqL.of upd_same, fun t nt => ?_⟩⟩
      have s5 : Same H4 (upd (upd H4 l (.lst (ms.map V.int))) t (.tup (ms.map V.int))) := (same_new nl).trans (same_new nt)
      have h5 : (upd (upd H4 l (.lst (ms.map V.int))) t (.tup (ms.map V.int))) t = some (.tup (ms.map V.int)) := upd_same
      generalize upd (upd H4 l (.lst (ms.map V.int))) t (.tup (ms.map V.int)) = H5 at s5 h5 ⊢
      have hp5 := s5 _ _ hp4
      refine ⟨_, rfl, p, C, dx, _, rfl, hp5, T.cl, T.nP, (by show 2 < 1000; decide), ?_⟩
      have pt : t ≠ p := ne_ins hp5 h5 fun _ _ _ e => by cases e
      have hp6 : (upd H5 p (.ins C dx (putF "_places" (.ref t) [("_table", .str z), ("_size", .int n)]))) p = some (.ins C dx [("_table", .str z), ("_size", .int n), ("_places", .ref t)]) := upd_same
      have k6 : ∀ b o, b ≠ p → H5 b = some o → (upd H5 p (.ins C dx (putF "_places" (.ref t) [("_table", .str z), ("_size", .int n)]))) b = some o := fun b o n h => by
        rw [upd_ne n]
        exact h
      generalize upd H5 p (.ins C dx (putF "_places" (.ref t) [("_table", .str z), ("_size", .int n)])) = H6 at hp6 k6 ⊢
      have h6 := k6 _ _ pt h5
      refine ⟨_, rfl, p, C, dx, _, .ref t, rfl, hp6, T.cl, T.nP, rfl, t, rfl, .inr ⟨⟨_, SqT.of h6⟩, fun D nD => ?_⟩⟩
      have lm : ms.length ≤ 8 := by
        have e : ys.length = ((nums ys).map V.int).length := by rw [← en]
        rw [List.length_map] at e
        rw [pm.length_eq]
        omega
      refine lc_sift (ms := ms) (val := V.int) (L2.walk_tup (K := K)) (List.length_map _) (fun _ => true) (fun i => V.int (1 + i)) nD (by omega) (fun H' s' => SqT.of (s' _ _ h6)) (fun i hi H7 Yes No s7 yes no => ?_) (fun H' s' hL => ?_)
      · exact ⟨rfl, _, rfl, 1, i, rfl, rfl, yes _ (Same.refl _) rfl⟩
      · refine ⟨D, _, rfl, .inl ⟨SqL.of hL, fun u nu => ?_⟩⟩
        have s8 : Same H6 (upd H' u (.tup ((ms.filter fun _ => true).map fun i => V.int (1 + i)))) := s'.trans (same_new nu)
        generalize upd H' u (.tup ((ms.filter fun _ => true).map fun i => V.int (1 + i))) = H8 at s8 ⊢
        refine ⟨_, rfl, p, C, dx, _, rfl, s8 _ _ hp6, T.cl, T.nO, (by show 3 < 1000; decide), ?_⟩
        refine good z n (nums ys) ms _ rfl rfl (by rw [← en]) pm so ⟨dx, t, u, upd_same, ?_⟩ fun b o nb h => ?_
        · rw [upd_ne pt]
          exact s8 _ _ h6
        · rw [upd_ne nb]
          exact s8 _ _ (k6 _ _ nb (s5 _ _ (k4 _ _ nb (s12 _ _ h))))
end
end L2.LawH
set_option Elab.async false
set_option linter.all false
set_option maxRecDepth 100000
set_option maxHeartbeats 4000000
/-! Store(..) of what is no fact: BadFact. -/
namespace L2.OwnOp
open PySem PySem.Spec PyProof.Rows
section
variable {X : Cx} {CX : CXT} {k : Nat} {f C : Addr} {fd : FuncData} {ps : List Str} {sp : Sp} {E : St → XK} {x : Str} {p pos : Pos} {e : Expr} {es : List Expr} {t : TA}
theorem run_makeS {pins : List (Addr × Obj)} {σ : St} {H : Hp} {s : Shared} {Q : VK} {us : List Value} {vs : List V} (M : Mk X.K C f) (F : FnOk X.prog X.w X.K X.mg X.base CX k f fd ps sp) (hr : Room (k + 1) X.A) {dvs : List V} {ds : List Value} (hb : Binds X.K fd ps ds) (hd : Vals dvs ds)
    (hx : PassesAt CX X σ (E σ)) (I : Inv X pins σ H s) (r : Vals vs us)
    (h : ∀ x dx, H x = none → H dx = none → dx ≠ x → sp (.ref x :: (vs ++ dvs)) (upd (upd H dx (.own x)) x (.ins C dx [])) (fun v H2 => v = .non ∧ Q (.ref x) H2) (E σ)) :
    wpAny (model X.prog X.w) X.A (call (.ref C) us) (EP X pins σ Q) X.xe s := by
  have hq := h (s.heap.objs.size + 1) s.heap.objs.size (I.hok.fresh (Nat.le_succ _)) (I.hok.fresh (Nat.le_refl _)) (Nat.ne_of_lt (Nat.lt_succ_self _))
  have I2 := Inv.made (C := C) I
  have r2 : Vals (V.ref (s.heap.objs.size + 1) :: (vs ++ dvs)) (Value.ref (s.heap.objs.size + 1) :: (us ++ ds)) := .cons rfl (r.append hd)
  have hl : (Value.ref (s.heap.objs.size + 1) :: us ++ ds).length = ps.length := by
    have e := r2.length
    rw [F.len _ _ _ _ hq] at e
    exact e.symm
  refine wpAny_call (make_map (f := f) I.kIn M.makes M.init (beq_iff_eq.mp M.fn) (codeAny_mono (F.run _ X.stack _ _ ⟨Value.ref (s.heap.objs.size + 1) :: us, []⟩ (Value.ref (s.heap.objs.size + 1) :: (us ++ ds)) _ _ (E σ) (hr.make C us [])
    (I2.env0.make C us []) (hb _ (Value.ref (s.heap.objs.size + 1) :: us) I2.kIn hl) r2 hq) fun r s' hq' => ?_))
  cases r with
  | error e => exact hx pins _ _ e s' I2 hq'
  | ok fl =>
    cases fl with
    | ret u =>
      obtain ⟨v, H', I3, rv, ev, q3⟩ := I2.after hq'
      subst ev
      exact ⟨rv, ⟨V.ref (s.heap.objs.size + 1), H', I3, rfl, q3⟩⟩
    | next => exact False.elim hq'
    | brk => exact False.elim hq'
    | cont => exact False.elim hq'
def tMakeS (C : Addr) (sp : Sp) (dvs : List V) (E : St → XK) (t : TA) : TE := fun σ H Q => t σ H fun vs H1 => ∀ x dx, H1 x = none → H1 dx = none → dx ≠ x → sp (.ref x :: (vs ++ dvs)) (upd (upd H1 dx (.own x)) x (.ins C dx [])) (fun v H2 => v = .non ∧ Q (.ref x) H2) (E σ)
theorem pe_makeS (M : Mk X.K C f) (F : FnOk X.prog X.w X.K X.mg X.base CX k f fd ps sp) (hr : Room (k + 1) X.A) (hg : Gl X x) (hm : X.mg x = some (.ref C)) {dvs : List V} {ds : List Value} (hb : Binds X.K fd ps ds) (hd : Vals dvs ds) (hx : ∀ σ, PassesAt CX X σ (E σ))
    (ha : PA X (e :: es) t) (hdb : (x == ("__debug__" : Str)) = false := by decide) (he : starEach (e :: es) X.env = (false, eval e X.env) :: starEach es X.env := by rfl) (hpl : (backTo pos (starEach es X.env)).any (·.1) = false := by rfl) :
    PE X (.Call (.Name x p) (e :: es) [] pos) (tMakeS C sp dvs E t) := by
  refine ⟨fun pins s σ H Q I h => ?_⟩
  refine wpAny_Call_Name_kw (ld_glob I hg hm ?_ hdb)
  refine PySem.W.callWith_K (h₀ := X.base) I.ok.mod.kin M.kp (thn (ha.run pos pins s σ H _ I h) fun us s1 ⟨vs, H1, I1, r, q⟩ => ⟨I1.kIn, ?_⟩) he hpl
  exact run_makeS M F hr hb hd (hx σ) I1 r q
end
end L2.OwnOp
set_option Elab.async false
set_option linter.all false
set_option maxRecDepth 100000
set_option maxHeartbeats 4000000
/-! Texts of patterns read: the mathematics. -/
namespace L2.LawH
open PySem PySem.Spec PyProof.Rows L2.Cmp L2.TxtSet TL
abbrev opnS : Str := "("
abbrev clsS : Str := ")"
abbrev comS : Str := ","
theorem tl_opn : tl opnS = [40] := by decide +kernel
theorem tl_cls : tl clsS = [41] := by decide +kernel
theorem tl_com : tl comS = [44] := by decide +kernel
/-- table and inside of a text that is cut rightly -/
def cutP (z : Str) : Option (Str × Str) := match par [40] [] (tl z) with
  | none => none
  | some (a, b) => if b.getLast? = some 41 then some (⟨a.toArray⟩, ⟨b.dropLast.toArray⟩) else none
def terms (i : Str) : List Str := if i.length = 0 then [] else Txt.split i comS
def rdOk (z : Str) : Option (Str × List Str) := match cutP z with
  | none => none
  | some (a, i) => if patB (.str a :: (terms i).map V.str) = true then some (a, terms i) else none
/-! ### par and spl for one sign -/
theorem pre_one (s c : Nat) (r : List Nat) : pre [s] (c :: r) = decide (c = s) := by
  show ((c :: r).take 1 == [s]) = _
  rw [Bool.eq_iff_iff, beq_iff_eq, decide_eq_true_iff]
  simp
theorem par_eq (s : Nat) : ∀ (l acc : List Nat) (a b : List Nat), par [s] acc l = some (a, b) → ∃ m, a = acc ++ m ∧ l = m ++ s :: b ∧ s ∉ m
  | [], acc, a, b, h => by cases h
  | c :: r, acc, a, b, h => by
    by_cases hc : c = s
    · rw [par_hit (by rw [pre_one, decide_eq_true hc])] at h
      have h2 := Option.some.inj h
      have e1 : acc = a := congrArg Prod.fst h2
      have e2 : (c :: r).drop [s].length = b := congrArg Prod.snd h2
      refine ⟨[], by rw [List.append_nil]; exact e1.symm, ?_, by simp⟩
      rw [← e2, hc]
      rfl
    · rw [par_miss (by rw [pre_one, decide_eq_false hc])] at h
      obtain ⟨m, e1, e2, e3⟩ := par_eq s r (acc ++ [c]) a b h
      refine ⟨c :: m, by rw [e1, List.append_assoc]; rfl, by rw [e2]; rfl, ?_⟩
      intro hm
      rcases List.mem_cons.mp hm with h | h
      · exact hc h.symm
      · exact e3 h
theorem par_no (s : Nat) : ∀ (l acc : List Nat), par [s] acc l = none → s ∉ l
  | [], _, _ => by simp
  | c :: r, acc, h => by
    by_cases hc : c = s
    · rw [par_hit (by rw [pre_one, decide_eq_true hc])] at h
      cases h
    · rw [par_miss (by rw [pre_one, decide_eq_false hc])] at h
      intro hm
      rcases List.mem_cons.mp hm with h' | h'
      · exact hc h'.symm
      · exact par_no s r _ h h'
theorem spl_ne (S : List Nat) : ∀ (l : List Nat) (acc : List Nat), spl S 0 acc l ≠ [] := by
  intro l
  induction l with
  | nil => intro acc; rw [spl_nil]; simp
  | cons c r ih =>
    intro acc
    cases h : pre S (c :: r) with
    | true => rw [spl_hit h]; simp
    | false => rw [spl_miss h]; exact ih _
theorem joinL_cons (S p : List Nat) {X : List (List Nat)} (h : X ≠ []) : joinL S (p :: X) = p ++ (S ++ joinL S X) := by
  cases X with
  | nil => exact absurd rfl h
  | cons q r => rfl
theorem join_spl (s : Nat) : ∀ (l acc : List Nat), joinL [s] (spl [s] 0 acc l) = acc ++ l
  | [], acc => by
    rw [spl_nil]
    show acc = _
    rw [List.append_nil]
  | c :: r, acc => by
    by_cases hc : c = s
    · rw [spl_hit (by rw [pre_one, decide_eq_true hc])]
      show joinL [s] (acc :: spl [s] 0 [] r) = _
      rw [joinL_cons _ _ (spl_ne _ _ _), join_spl s r [], hc]
      rfl
    · rw [spl_miss (by rw [pre_one, decide_eq_false hc]), join_spl s r (acc ++ [c]), List.append_assoc]
      rfl
theorem part_le (s : Nat) : ∀ (X : List (List Nat)) (p : List Nat), p ∈ X → p.length ≤ (joinL [s] X).length
  | [], p, h => by cases h
  | [q], p, h => by
    rw [List.mem_singleton.mp h]
    exact Nat.le_refl _
  | q :: y :: r, p, h => by
    show p.length ≤ (q ++ ([s] ++ joinL [s] (y :: r))).length
    rw [List.length_append, List.length_append]
    rcases List.mem_cons.mp h with rfl | h
    · omega
    · have := part_le s (y :: r) p h
      omega
theorem parts_le (s : Nat) : ∀ (X : List (List Nat)), X.length ≤ (joinL [s] X).length + 1
  | [] => Nat.zero_le _
  | [q] => by simp
  | q :: y :: r => by
    have := parts_le s (y :: r)
    show (q :: y :: r).length ≤ (q ++ ([s] ++ joinL [s] (y :: r))).length + 1
    rw [List.length_append, List.length_append, List.length_cons]
    simp only [List.length_singleton]
    omega
theorem part_mem (s : Nat) : ∀ (X : List (List Nat)) (p : List Nat) (c : Nat), p ∈ X → c ∈ p → c ∈ joinL [s] X
  | [], p, c, h, _ => by cases h
  | [q], p, c, h, hc => by
    rw [List.mem_singleton.mp h] at hc
    exact hc
  | q :: y :: r, p, c, h, hc => by
    show c ∈ q ++ ([s] ++ joinL [s] (y :: r))
    rw [List.mem_append, List.mem_append]
    rcases List.mem_cons.mp h with rfl | h
    · exact .inl hc
    · exact .inr (.inr (part_mem s (y :: r) p c h hc))
/-! ### the terms -/
theorem com_kind (i : Str) : ¬ Builtin.Str.strKind i < Builtin.Str.strKind comS := kind_ok (by decide +kernel)
theorem split_tl (i : Str) : (Txt.split i comS).map tl = spl [44] 0 [] (tl i) := by
  have h := split_spl i comS (by rw [tl_com]; simp) (com_kind i)
  rw [tl_com] at h
  exact h
theorem join_terms (i : Str) : Txt.join comS (terms i) = i := by
  unfold terms
  by_cases h : i.length = 0
  · rw [if_pos h]
    refine ext_tl ?_
    rw [join_eq]
    have e : tl i = [] := by
      rw [len_tl] at h
      exact List.length_eq_zero_iff.mp h
    rw [e]
    rfl
  · rw [if_neg h]
    refine ext_tl ?_
    rw [join_eq, tl_join, tl_com, split_tl, join_spl]
    rfl
theorem terms_join (i : Str) (h : i.length ≠ 0) : joinL [44] ((terms i).map tl) = tl i := by
  unfold terms
  rw [if_neg h, split_tl, join_spl]
  rfl
theorem term_le {i y : Str} (h : y ∈ terms i) : y.length ≤ i.length := by
  by_cases h0 : i.length = 0
  · unfold terms at h
    rw [if_pos h0] at h
    cases h
  · have := part_le 44 ((terms i).map tl) (tl y) (List.mem_map_of_mem h)
    rw [terms_join i h0] at this
    rw [len_tl, len_tl]
    exact this
theorem terms_le (i : Str) : (terms i).length ≤ i.length + 1 := by
  by_cases h0 : i.length = 0
  · unfold terms
    rw [if_pos h0]
    exact Nat.zero_le _
  · have := parts_le 44 ((terms i).map tl)
    rw [terms_join i h0, List.length_map] at this
    rw [len_tl]
    exact this
theorem term_mem {i y : Str} (h : y ∈ terms i) {c : Nat} (hc : c ∈ tl y) : c ∈ tl i := by
  by_cases h0 : i.length = 0
  · unfold terms at h
    rw [if_pos h0] at h
    cases h
  · have := part_mem 44 ((terms i).map tl) (tl y) c (List.mem_map_of_mem h) hc
    rw [terms_join i h0] at this
    exact this
/-! ### the cuts -/
theorem last_cases (l : List Nat) : l = [] ∨ ∃ m c, l = m ++ [c] := by
  rcases List.eq_nil_or_concat l with h | ⟨m, c, h⟩
  · exact .inl h
  · exact .inr ⟨m, c, by rw [h, List.concat_eq_append]⟩
theorem suffix_eq (b : Str) : Txt.removesuffix b clsS = if (tl b).getLast? = some 41 then ⟨(tl b).dropLast.toArray⟩ else b := by
  have l1 : clsS.length = 1 := by decide +kernel
  have lb := len_tl b
  rw [StrLaws.removesuffix_eq, StrLaws.subAt_eq, l1, show clsS.cps.toList = [41] from tl_cls]
  rcases last_cases (tl b) with h | ⟨m, c, h⟩
  · rw [h] at lb
    have e : b.cps.toList = [] := h
    rw [h]
    simp [lb]
  · have e : b.cps.toList = m ++ [c] := h
    have l2 : b.length = m.length + 1 := by
      rw [lb, h, List.length_append]
      rfl
    rw [h, e, l2]
    have d1 : decide (0 + 1 ≤ m.length + 1) = true := decide_eq_true (by omega)
    have d2 : (m ++ [c]).drop (m.length + 1 - 1) = [c] := by
      rw [Nat.add_sub_cancel]
      exact List.drop_left
    have d3 : ((m ++ [c]).drop 0).take (m.length + 1 - 1 - 0) = m := by
      rw [List.drop_zero, Nat.sub_zero, Nat.add_sub_cancel]
      exact List.take_left
    rw [d1, d2, d3, Bool.true_and]
    by_cases hc : c = 41
    · rw [hc]
      simp
    · simp [hc]
theorem find_eq (z : Str) : Txt.find z opnS = match par [40] [] (tl z) with | none => -1 | some (a, _) => (a.length : Int) := by
  have hy : tl opnS ≠ [] := by rw [tl_opn]; simp
  have l1 : opnS.length = 1 := by decide +kernel
  have hx := len_tl z
  unfold Txt.find
  rcases StrLaws.occ_head z opnS 1 (Nat.le_refl 1) with ⟨h0, hn⟩ | ⟨i, r, h0, hi, hn⟩
  · have run := par_run (tl opnS) (tl z) (tl z).length 0 [] (by omega) (fun k _ _ => no_at hy (hn k))
    rw [List.drop_zero, Nat.zero_add, List.drop_length] at run
    rw [tl_opn] at run
    rw [h0, run]
    rfl
  · have hb : i + opnS.length ≤ z.length := hi.1
    have run := par_run (tl opnS) (tl z) i 0 [] (by omega) (fun k _ k2 => no_at hy (hn k (by omega)))
    rw [List.drop_zero, Nat.zero_add, List.nil_append, par_at hy ((at_iff hy i).mp hi)] at run
    rw [tl_opn] at run
    rw [h0, run]
    show (i : Int) = (((tl z).take i).length : Int)
    rw [List.length_take]
    omega
theorem part_eq (z : Str) : Txt.partition z opnS = (match par [40] [] (tl z) with | some (a, b) => (⟨a.toArray⟩, opnS, ⟨b.toArray⟩) | none => (z, Str.empty, Str.empty)) := by
  have h := partition_par z opnS (by rw [tl_opn]; simp)
  rw [tl_opn] at h
  exact h
/-! ### a text and its pattern's -/
theorem ptext_tl (T : Str) (i : Str) : tl (ptext T (terms i)) = tl T ++ 40 :: (tl i ++ [41]) := by
  unfold ptext
  rw [empty_app, tl_append, tl_append, tl_append, show tl (("(" : String) : Str) = [40] from tl_opn, show tl ((")" : String) : Str) = [41] from tl_cls, show Txt.join ((("," : String)) : Str) (terms i) = i from join_terms i]
  simp
theorem nm_len {l : List Nat} (h : nmB l = true) : l.length ≤ 12 := (nm_sgns h).2.1
theorem var_len {z : Str} (h : varB z = true) : z.length ≤ 13 := by
  unfold varB at h
  rw [Bool.and_eq_true] at h
  have := nm_len h.2
  rw [List.length_drop] at this
  rw [len_tl]
  show z.cps.toList.length ≤ 13
  omega
theorem pat_bd {a : Str} {ts : List Str} (h : patB (.str a :: ts.map V.str) = true) : a.length ≤ 12 ∧ ts.length ≤ 3 ∧ ∀ y ∈ ts, y.length ≤ 13 := by
  have h : (decide ((ts.map V.str).length ≤ 3) && vN (.str a) && (ts.map V.str).all fun y => vN y || vV y) = true := h
  rw [Bool.and_eq_true, Bool.and_eq_true, decide_eq_true_iff, List.length_map, List.all_eq_true] at h
  obtain ⟨⟨h1, h2⟩, h3⟩ := h
  refine ⟨?_, h1, fun y hy => ?_⟩
  · have := nm_len (show nmB a.cps.toList = true from h2)
    rw [len_tl]
    exact this
  · have := h3 (.str y) (List.mem_map_of_mem hy)
    rw [Bool.or_eq_true] at this
    rcases this with h | h
    · have := nm_len (show nmB y.cps.toList = true from h)
      rw [len_tl]
      exact Nat.le_trans this (by decide)
    · exact var_len (show varB y = true from h)
/-- the reading of the program: where its own test of the text holds -/
theorem read_same {z a b : Str} (h : par [40] [] (tl z) = some (tl a, tl b)) :
    (decide (V.str (ptext a (terms (Txt.removesuffix b clsS))) = V.str z)) = decide ((tl b).getLast? = some 41) := by
  obtain ⟨m, e1, e2, _⟩ := par_eq 40 _ _ _ _ h
  rw [List.nil_append] at e1
  rw [← e1] at e2
  have key : (ptext a (terms (Txt.removesuffix b clsS)) = z) ↔ tl (Txt.removesuffix b clsS) ++ [41] = tl b := by
    constructor
    · intro e
      have e3 := congrArg tl e
      rw [ptext_tl, e2] at e3
      have e4 := List.append_cancel_left e3
      injection e4
    · intro e
      refine ext_tl ?_
      rw [ptext_tl, e2, e]
  refine decide_eq_decide.mpr ⟨fun e => ?_, fun e => ?_⟩
  · have e5 := key.mp (V.str.inj e)
    rw [← e5]
    simp
  · refine congrArg V.str (key.mpr ?_)
    rw [suffix_eq, if_pos e]
    show (tl b).dropLast ++ [41] = tl b
    rcases last_cases (tl b) with h | ⟨m, c, h⟩
    · rw [h] at e
      cases e
    · rw [h] at e ⊢
      have : c = 41 := by simpa using e
      rw [this]
      simp
theorem read_none {z : Str} (h : par [40] [] (tl z) = none) : (decide (V.str (ptext z (terms (Txt.removesuffix Str.empty clsS))) = V.str z)) = false := by
  refine decide_eq_false fun e => ?_
  have e3 := congrArg (fun y => (tl y).length) (V.str.inj e)
  simp only [ptext_tl, List.length_append, List.length_cons] at e3
  omega
end L2.LawH
set_option Elab.async false
set_option linter.all false
set_option maxRecDepth 100000
set_option maxHeartbeats 4000000
/-! read_pattern. -/
namespace L2.LawH
open PySem PySem.Spec PyProof.Rows L2.Cmp L2.TxtSet TL
abbrev sRd18 : Stmt := top 10
def spRd : Sp := fun vs H Q _ => ∃ z : Str, vs = [.str z] ∧ z.length ≤ 1000 ∧ (∀ c ∈ tl z, c < 0x110000) ∧ (rdOk z = none → ∀ H', Same H H' → Q .non H') ∧
  (∀ a ts, rdOk z = some (a, ts) → ∀ (p : Addr) (H' : Hp), Same H H' → H p = none → H' p = some (.tup (.str a :: ts.map V.str)) → Q (.ref p) H')
theorem cut_le {z a i : Str} (h : cutP z = some (a, i)) : a.length ≤ z.length ∧ i.length ≤ z.length ∧ (∀ c ∈ tl a, c ∈ tl z) ∧ ∀ c ∈ tl i, c ∈ tl z := by
  unfold cutP at h
  cases hp : par [40] [] (tl z) with
  | none => rw [hp] at h; cases h
  | some ab =>
    obtain ⟨a', b'⟩ := ab
    obtain ⟨m, e1, e2, _⟩ := par_eq 40 _ _ _ _ hp
    rw [List.nil_append] at e1
    rw [hp] at h
    dsimp only at h
    by_cases hl : b'.getLast? = some 41
    · rw [if_pos hl] at h
      have h2 := Option.some.inj h
      have e3 : a = ⟨a'.toArray⟩ := (congrArg Prod.fst h2).symm
      have e4 : i = ⟨b'.dropLast.toArray⟩ := (congrArg Prod.snd h2).symm
      have t1 : tl a = m := by rw [e3, ← e1]
      have t2 : tl i = b'.dropLast := by rw [e4]
      have lz := congrArg List.length e2
      rw [List.length_append, List.length_cons] at lz
      have lb : b'.dropLast.length ≤ b'.length := by rw [List.length_dropLast]; omega
      refine ⟨?_, ?_, fun c hc => ?_, fun c hc => ?_⟩
      · rw [len_tl, len_tl, t1]
        omega
      · rw [len_tl, len_tl z, t2]
        omega
      · rw [e2]
        rw [t1] at hc
        exact List.mem_append_left _ hc
      · rw [e2]
        rw [t2] at hc
        exact List.mem_append_right _ (List.mem_cons_of_mem _ ((List.dropLast_sublist _).subset hc))
    · rw [if_neg hl] at h
      cases h
section
variable {P : Program} {w : World} {K : PySem.W.Frag} {mg : Str → Option Value} {base : Heap}
abbrev nRd : List Str := ["text", "table", "_", "rest", "inner", "terms", "pattern"]
end
end L2.LawH
set_option Elab.async false
set_option linter.all false
set_option maxRecDepth 100000
set_option maxHeartbeats 4000000
/-! _law_of_text. -/
namespace L2.LawH
open PySem PySem.Spec PyProof.Rows L2.Cmp L2.TxtSet TL
abbrev sLOT : Stmt := top 29
def spLOT : Sp := fun vs H Q _ => ∃ z : Str, vs = [.str z] ∧ z.length ≤ 90 ∧ (∀ c ∈ tl z, c < 0x110000) ∧ (rdOk z = none → ∀ H', Same H H' → Q .non H') ∧
  (∀ a ts, rdOk z = some (a, ts) → ∀ (p : Addr) (H' : Hp), Same H H' → H p = none → H' p = some (.tup (.str a :: ts.map V.str)) → Q (.ref p) H')
theorem sIx_m1 (n d : Nat) : HT.sIx n d (some (-1)) = n - 1 := by
  show (if (-1 : Int) < 0 then ((-1 : Int) + (n : Int)).toNat else min (-1 : Int).toNat n) = n - 1
  rw [if_pos (by decide)]
  omega
theorem cut_last (z : Str) : tl (cutS z (some (-1)) none) = (tl z).drop (z.length - 1) := by
  show ((tl z).drop (HT.sIx z.length 0 (some (-1)))).take (HT.sIx z.length z.length none - HT.sIx z.length 0 (some (-1))) = _
  rw [sIx_m1, HT.sIx_none]
  refine List.take_of_length_le ?_
  rw [List.length_drop, ← len_tl]
  omega
theorem cut_to (z : Str) (k : Nat) : tl (cutS z none (some (k : Int))) = (tl z).take k := by
  show ((tl z).drop (HT.sIx z.length 0 none)).take (HT.sIx z.length z.length (some (k : Int)) - HT.sIx z.length 0 none) = _
  rw [HT.sIx_nat, HT.sIx_none, List.drop_zero, Nat.sub_zero, len_tl z]
  rcases Nat.le_total k (tl z).length with h | h
  · rw [Nat.min_eq_left h]
  · rw [Nat.min_eq_right h, List.take_of_length_le (Nat.le_refl _), List.take_of_length_le h]
theorem cut_in {z : Str} {m b : List Nat} (h : tl z = m ++ 40 :: b) : tl (cutS z (some ((m.length : Int) + 1)) (some (-1))) = b.dropLast := by
  have hz : z.length = m.length + 1 + b.length := by
    rw [len_tl, h, List.length_append, List.length_cons]
    omega
  have e1 : HT.sIx z.length 0 (some ((m.length : Int) + 1)) = m.length + 1 := by
    have e := HT.sIx_nat z.length 0 (m.length + 1)
    rw [show ((m.length + 1 : Nat) : Int) = (m.length : Int) + 1 by omega] at e
    rw [e]
    omega
  show ((tl z).drop (HT.sIx z.length 0 (some ((m.length : Int) + 1)))).take (HT.sIx z.length z.length (some (-1)) - HT.sIx z.length 0 (some ((m.length : Int) + 1))) = _
  rw [sIx_m1, e1, h, hz]
  have e2 : (m ++ 40 :: b).drop (m.length + 1) = b := by
    rw [show m ++ 40 :: b = (m ++ [40]) ++ b by simp]
    have e3 : (m ++ [40]).length = m.length + 1 := by simp
    rw [← e3]
    exact List.drop_left
  rw [e2, List.dropLast_eq_take]
  congr 1
  omega
/-- the last sign of a text that is cut -/
theorem last_sign {z : Str} {m b : List Nat} (h : tl z = m ++ 40 :: b) : decide (V.str (cutS z (some (-1)) none) = V.str clsS) = decide (b.getLast? = some 41) := by
  refine decide_eq_decide.mpr ⟨fun e => ?_, fun e => ?_⟩
  · have e1 := congrArg tl (V.str.inj e)
    rw [cut_last, tl_cls, h, len_tl, h] at e1
    rcases last_cases b with hb | ⟨k, c, hb⟩
    · subst hb
      rw [List.length_append] at e1
      have e2 : (m ++ [40]).drop (m.length + 1 - 1) = [40] := by
        rw [Nat.add_sub_cancel]
        exact List.drop_left
      have e3 : (m ++ [40]).drop (m.length + [40].length - 1) = [40] := e2
      rw [e3] at e1
      cases e1
    · subst hb
      have e4 : m ++ 40 :: (k ++ [c]) = (m ++ 40 :: k) ++ [c] := by simp
      rw [e4, List.length_append] at e1
      have e5 : ((m ++ 40 :: k) ++ [c]).drop ((m ++ 40 :: k).length + 1 - 1) = [c] := by
        rw [Nat.add_sub_cancel]
        exact List.drop_left
      have e6 : ((m ++ 40 :: k) ++ [c]).drop ((m ++ 40 :: k).length + [c].length - 1) = [c] := e5
      rw [e6] at e1
      have : c = 41 := by simpa using e1
      rw [this]
      simp
  · refine congrArg V.str (ext_tl ?_)
    rw [cut_last, tl_cls, h, len_tl, h]
    rcases last_cases b with hb | ⟨k, c, hb⟩
    · subst hb
      cases e
    · subst hb
      have hc : c = 41 := by simpa using e
      subst hc
      have e4 : m ++ 40 :: (k ++ [41]) = (m ++ 40 :: k) ++ [41] := by simp
      rw [e4, List.length_append]
      have e5 : ((m ++ 40 :: k) ++ [41]).drop ((m ++ 40 :: k).length + 1 - 1) = [41] := by
        rw [Nat.add_sub_cancel]
        exact List.drop_left
      exact e5
theorem itm_str {K : PySem.W.Frag} {H : Hp} {y : Str} (l : y.length ≤ 100000) (h : ∀ c ∈ tl y, c < 0x110000) : Itm K H (.str y) :=
  ⟨.inl ⟨y, rfl, l, h⟩, .str y, .str y, by
    show (PyData.str y).canLay0 = true
    simp only [PyData.canLay0]
    exact ok_list h, by simp [PyData.depth]⟩
section
variable {P : Program} {w : World} {K : PySem.W.Frag} {mg : Str → Option Value} {base : Heap}
abbrev nLOT : List Str := ["_law_text_here", "_law_place", "_law_inside", "_law_pattern_here"]
end
end L2.LawH
set_option Elab.async false
set_option linter.all false
set_option maxRecDepth 100000
set_option maxHeartbeats 4000000
/-! Texts of right patterns; _law_texts. -/
namespace L2.LawH
open PySem PySem.Spec PyProof.Rows L2.Cmp L2.TxtSet TL
/-- a right pattern -/
structure PatG (T : Str) (zs : List Str) : Prop where
  nT : Nm T
  few : zs.length ≤ 3
  each : ∀ z ∈ zs, Nm z ∨ Vr z
theorem sgn_ne21 {c : Nat} (h : isSgn c = true) : c ≠ 40 ∧ c ≠ 44 ∧ c ≠ 63 ∧ c < 128 := by
  unfold isSgn isLet at h
  simp only [Bool.or_eq_true, Bool.and_eq_true, decide_eq_true_eq] at h
  omega
theorem chr_nm21 {z : Str} (h : Nm z) : ∀ c ∈ tl z, isSgn c = true := fun c hc => List.all_eq_true.mp (nm_sgns h).1 c hc
theorem tl_q : tl (Str.ofString "?") = [63] := by decide +kernel
theorem chr_tm {z : Str} (h : Nm z ∨ Vr z) : ∀ c ∈ tl z, c ≠ 40 ∧ c ≠ 44 ∧ c < 128 := by
  intro c hc
  rcases h with h | ⟨y, ny, rfl⟩
  · have := sgn_ne21 (chr_nm21 h c hc)
    exact ⟨this.1, this.2.1, this.2.2.2⟩
  · rw [tl_append, tl_q] at hc
    rcases List.mem_append.mp hc with hc | hc
    · rw [List.mem_singleton.mp hc]
      decide
    · have := sgn_ne21 (chr_nm21 ny c hc)
      exact ⟨this.1, this.2.1, this.2.2.2⟩
theorem isV_q (y : Str) : isV (Str.ofString "?" ++ y) = true := by
  rw [← first_sign, decide_eq_true_iff]
  refine ext_tl ?_
  have e := cut_to (Str.ofString "?" ++ y) 1
  rw [show (some ((1 : Nat) : Int)) = some (1 : Int) from rfl] at e
  rw [e, tl_append, tl_q]
  rfl
theorem varB_vr {z : Str} (h : Vr z) : varB z = true := by
  obtain ⟨y, ny, rfl⟩ := h
  unfold varB
  rw [isV_q, Bool.true_and]
  have e : (Str.ofString "?" ++ y).cps.toList.drop 1 = tl y := by
    rw [show (Str.ofString "?" ++ y).cps.toList = tl (Str.ofString "?" ++ y) from rfl, tl_append, tl_q]
    rfl
  rw [e]
  exact ny
theorem tm_ok {z : Str} (h : Nm z ∨ Vr z) : (vN (.str z) || vV (.str z)) = true := by
  rcases h with h | h
  · have : vN (.str z) = true := h
    rw [this]
    rfl
  · have : vV (.str z) = true := varB_vr h
    rw [this, Bool.or_true]
theorem tm_len {z : Str} (h : Nm z ∨ Vr z) : 1 ≤ z.length ∧ z.length ≤ 13 := by
  rcases h with h | ⟨y, ny, rfl⟩
  · have := nm_sgns h
    rw [len_tl]
    exact ⟨this.2.2, Nat.le_trans this.2.1 (by decide)⟩
  · have := nm_sgns ny
    rw [len_tl, tl_append, tl_q, List.length_append]
    have e : (tl y).length = y.cps.toList.length := rfl
    simp only [List.length_singleton]
    omega
theorem PatG.pat {T : Str} {zs : List Str} (h : PatG T zs) : patB (.str T :: zs.map V.str) = true := by
  show (decide ((zs.map V.str).length ≤ 3) && vN (.str T) && (zs.map V.str).all fun y => vN y || vV y) = true
  rw [List.length_map, decide_eq_true h.few, show vN (.str T) = true from h.nT, Bool.true_and, Bool.true_and, List.all_map, List.all_eq_true]
  exact fun z m => tm_ok (h.each z m)
theorem PatG.strs {T : Str} {zs : List Str} (h : PatG T zs) : T.length ≤ 12 ∧ (∀ z ∈ zs, z.length ≤ 13) := ⟨by
  have := nm_len h.nT
  rw [len_tl]
  exact this, fun z m => (tm_len (h.each z m)).2⟩
theorem terms_text {zs : List Str} (h : ∀ z ∈ zs, Nm z ∨ Vr z) : terms (Txt.join comS zs) = zs := by
  unfold terms
  cases zs with
  | nil => rfl
  | cons z r =>
    have hl : (Txt.join comS (z :: r)).length ≠ 0 := by
      rw [join_eq, len_tl, tl_join, tl_com]
      have h1 := (tm_len (h z List.mem_cons_self)).1
      have h2 := part_le 44 ((z :: r).map tl) (tl z) (List.mem_map_of_mem List.mem_cons_self)
      rw [len_tl] at h1
      omega
    rw [if_neg hl]
    exact split_join (s := 44) (S := []) tl_com (by decide +kernel) (by simp) fun p m hc => (chr_tm (h p m) 44 hc).2.1 rfl
theorem ptext_tl21 (T : Str) (zs : List Str) : tl (ptext T zs) = tl T ++ 40 :: (tl (Txt.join comS zs) ++ [41]) := by
  unfold ptext
  rw [empty_app, tl_append, tl_append, tl_append, show tl (("(" : String) : Str) = [40] from tl_opn, show tl ((")" : String) : Str) = [41] from tl_cls]
  simp
theorem par_app21 {m b : List Nat} (h : 40 ∉ m) : par [40] [] (m ++ 40 :: b) = some (m, b) := by
  have e := par_part1 (s := 40) (S := []) (p := m) (rest := b) (acc := []) h
  rw [List.nil_append] at e
  exact e
theorem PatG.read {T : Str} {zs : List Str} (h : PatG T zs) : rdOk (ptext T zs) = some (T, zs) := by
  have nT : 40 ∉ tl T := fun hc => (sgn_ne21 (chr_nm21 h.nT 40 hc)).1 rfl
  unfold rdOk cutP
  rw [ptext_tl21, par_app21 nT]
  dsimp only
  rw [if_pos (by simp)]
  dsimp only
  have e1 : (⟨(tl T).toArray⟩ : Str) = T := mk_tl T
  have e2 : (⟨(tl (Txt.join comS zs) ++ [41]).dropLast.toArray⟩ : Str) = Txt.join comS zs := by
    rw [List.dropLast_concat]
  rw [e1, e2, terms_text h.each, if_pos h.pat]
theorem PatG.read_sp {T : Str} {zs : List Str} (h : PatG T zs) : rdOk (ptext T zs ++ Str.ofString " ") = none := by
  have nT : 40 ∉ tl T := fun hc => (sgn_ne21 (chr_nm21 h.nT 40 hc)).1 rfl
  have e : tl (ptext T zs ++ Str.ofString " ") = tl T ++ 40 :: ((tl (Txt.join comS zs) ++ [41]) ++ [32]) := by
    rw [tl_append, ptext_tl21, show tl (Str.ofString " ") = [32] by decide +kernel]
    simp
  unfold rdOk cutP
  rw [e, par_app21 nT]
  dsimp only
  rw [if_neg (by simp)]
theorem read_empty : rdOk (Str.ofString "") = none := by
  unfold rdOk cutP
  rw [show tl (Str.ofString "") = [] by decide +kernel]
  rfl
theorem PatG.codes {T : Str} {zs : List Str} (h : PatG T zs) : (∀ c ∈ tl (ptext T zs), c < 0x110000) ∧ (ptext T zs).length ≤ 57 := by
  have hj : ∀ c ∈ tl (Txt.join comS zs), c < 128 := by
    rw [join_eq, tl_join, tl_com]
    intro c hc
    -- signs of a joined text
    have key : ∀ X : List (List Nat), (∀ p ∈ X, ∀ c ∈ p, c < 128) → ∀ c ∈ joinL [44] X, c < 128 := by
      intro X
      induction X with
      | nil => intro _ c hc; cases hc
      | cons p r ih =>
        intro hX c hc
        cases r with
        | nil => exact hX p List.mem_cons_self c hc
        | cons q r =>
          rw [joinL_cons _ _ (by simp), List.mem_append, List.mem_append] at hc
          rcases hc with hc | hc | hc
          · exact hX p List.mem_cons_self c hc
          · rw [List.mem_singleton.mp hc]
            decide
          · exact ih (fun p m => hX p (List.mem_cons_of_mem _ m)) c hc
    refine key _ (fun p m c hc => ?_) c hc
    obtain ⟨z, mz, rfl⟩ := List.mem_map.mp m
    exact (chr_tm (h.each z mz) c hc).2.2
  refine ⟨fun c hc => ?_, ?_⟩
  · rw [ptext_tl21] at hc
    rcases List.mem_append.mp hc with hc | hc
    · exact Nat.lt_trans (sgn_ne21 (chr_nm21 h.nT c hc)).2.2.2 (by decide)
    · rcases List.mem_cons.mp hc with rfl | hc
      · decide
      · rcases List.mem_append.mp hc with hc | hc
        · exact Nat.lt_trans (hj c hc) (by decide)
        · rw [List.mem_singleton.mp hc]
          decide
  · rw [len_tl, ptext_tl21, List.length_append, List.length_cons, List.length_append]
    have l1 := h.strs.1
    rw [len_tl] at l1
    have l2 : (tl (Txt.join comS zs)).length ≤ 3 * 14 := by
      rw [← len_tl, join_eq]
      have q := join_len comS zs
      have s1 := sum_le 13 zs h.strs.2
      have c1 : comS.length = 1 := by decide +kernel
      have few := h.few
      rw [c1] at q
      omega
    simp only [List.length_singleton]
    omega
/-! ### compared -/
theorem strs_lay : ∀ zs : List Str, (∀ z ∈ zs, ∀ c ∈ tl z, c < 0x110000) → PyData.canLayAll0 (zs.map PyData.str) = true
  | [], _ => by simp [PyData.canLayAll0]
  | z :: zs, h => by
    have h1 : PyData.strOk z = true := ok_list (h z List.mem_cons_self)
    simp [PyData.canLayAll0, PyData.canLay0, h1, strs_lay zs fun y m => h y (List.mem_cons_of_mem _ m)]
theorem strs_dep : ∀ zs : List Str, PyData.depthAll (zs.map PyData.str) ≤ 2
  | [] => by simp [PyData.depthAll]
  | z :: zs => by
    have h1 := strs_dep zs
    simp only [List.map_cons, PyData.depthAll, PyData.depth]
    omega
theorem shaped_tupS {zs : List Str} (h : ∀ z ∈ zs, ∀ c ∈ tl z, c < 0x110000) : SeqAt.shaped (.tuple (zs.map PyData.str)) = true := by
  have h1 := strs_dep zs
  have h2 : PyData.depth (.tuple (zs.map PyData.str)) ≤ 64 := by
    simp only [PyData.depth]
    omega
  show (PyData.canLay0 (.tuple (zs.map PyData.str)) && decide (PyData.depth (.tuple (zs.map PyData.str)) ≤ 64)) = true
  rw [Bool.and_eq_true]
  exact ⟨by simp only [PyData.canLay0]; exact strs_lay zs h, decide_eq_true h2⟩
theorem eqv_tupS {zs : List Str} (h : ∀ z ∈ zs, ∀ c ∈ tl z, c < 0x110000) : PyData.eqv (.tuple (zs.map PyData.str)) (.tuple (zs.map PyData.str)) = true :=
  SeqAt.eqv_refl _ (SeqAt.canLay_of_shaped (shaped_tupS h))
theorem dp_pat {K : PySem.W.Frag} {H : Hp} {t : Addr} {T : Str} {zs : List Str} (h : H t = some (.tup (.str T :: zs.map V.str))) : Dp K H (.ref t) (.tuple ((T :: zs).map PyData.str)) :=
  .tup (SqT.of h) (dp_strs (T :: zs))
theorem PatG.all {T : Str} {zs : List Str} (h : PatG T zs) : ∀ z ∈ T :: zs, ∀ c ∈ tl z, c < 0x110000 := by
  intro z m c hc
  rcases List.mem_cons.mp m with rfl | m
  · exact Nat.lt_trans (sgn_ne21 (chr_nm21 h.nT c hc)).2.2.2 (by decide)
  · exact Nat.lt_trans (chr_tm (h.each z m) c hc).2.2 (by decide)
theorem rd_codes {z a : Str} {ts : List Str} (h : rdOk z = some (a, ts)) (cz : ∀ c ∈ tl z, c < 0x110000) : ∀ y ∈ a :: ts, ∀ c ∈ tl y, c < 0x110000 := by
  unfold rdOk at h
  cases hc : cutP z with
  | none => rw [hc] at h; cases h
  | some ai =>
    obtain ⟨a', i⟩ := ai
    rw [hc] at h
    dsimp only at h
    obtain ⟨_, _, c1, c2⟩ := cut_le hc
    by_cases hp : patB (.str a' :: (terms i).map V.str) = true
    · rw [if_pos hp] at h
      have h2 := Option.some.inj h
      have e1 : a' = a := congrArg Prod.fst h2
      have e2 : terms i = ts := congrArg Prod.snd h2
      subst e1
      subst e2
      intro y m c hy
      rcases List.mem_cons.mp m with rfl | m
      · exact cz c (c1 c hy)
      · exact cz c (c2 c (term_mem m hy))
    · rw [if_neg hp] at h
      cases h
end L2.LawH
set_option Elab.async false
set_option linter.all false
set_option maxRecDepth 100000
set_option maxHeartbeats 4000000
/-! Tuples put together and repeated, whatever their length. -/
namespace L2.LawH
open PySem PySem.Spec PyProof.Rows L2.Cmp L2.TxtSet TL
def rCatB : R2 := fun x y H Q => ∃ a b xs ys, x = .ref a ∧ y = .ref b ∧ H a = some (.tup xs) ∧ H b = some (.tup ys) ∧ xs.length + ys.length ≤ sizeLine ∧
  ∀ (p : Addr) (H' : Hp), Same H H' → H' p = some (.tup (xs ++ ys)) → (p = a ∨ p = b ∨ H p = none) → Q (.ref p) H'
theorem op_catB {X : Cx} : OpR X (binaryOp .Add) rCatB := by
  intro pins s σ H x y v u Q I rx ry h
  obtain ⟨a, b, xs, ys, rfl, rfl, ha, hb, hz, q⟩ := h
  refine op_catA pins s σ H _ _ v u Q I rx ry ⟨a, b, xs, ys, rfl, rfl, SqT.of ha, SqT.of hb, hz, fun e => ?_, fun _ e => ?_, fun _ _ p np => ?_⟩
  · subst e
    exact q b H (Same.refl H) hb (.inr (.inl rfl))
  · subst e
    exact q a H (Same.refl H) (by rw [List.append_nil]; exact ha) (.inl rfl)
  · exact q p _ (same_new np) upd_same (.inr (.inr np))
open AutoSeq1 (wpAny_loadPart')
theorem tuple_mul1 (l : Addr) (items : Array Value) (n : Nat) (dd : Option Addr) (sl : Array (Option Value)) (u : Tok) :
    Meets (Builtin.«tuple.__mul__» ⟨[.ref l, .int 1 u], []⟩) (fun _ R s => s.heap.get? l = some { cls := .type "tuple", dict := dd, data := .seq items n, slots := sl } ∧ R (.ok (.ret (Value.ref l))) s) :=
  .of_wp fun prog w A R s h => by
    obtain ⟨hp, g, d, tk, os⟩ := s
    obtain ⟨hl, h⟩ := h
    have f1 := AutoSeq1.idx_int
    wp_walk using wpAny_loadPart' hl
    exact ⟨_, rfl, h⟩
theorem tuple_mul0 (l : Addr) (items : Array Value) (n : Nat) (dd : Option Addr) (sl : Array (Option Value)) (u : Tok) (hi : items.isEmpty = false) :
    Meets (Builtin.«tuple.__mul__» ⟨[.ref l, .int 0 u], []⟩) (fun _ R s => s.heap.get? l = some { cls := .type "tuple", dict := dd, data := .seq items n, slots := sl } ∧
      R (.ok (.ret (Value.ref s.heap.objs.size))) { s with heap := s.heap.push { cls := Value.type "tuple", data := Data.seq #[] }, toks := s.toks }) :=
  .of_wp fun prog w A R s h => by
    obtain ⟨hp, g, d, tk, os⟩ := s
    obtain ⟨hl, h⟩ := h
    have f1 := AutoSeq1.idx_int
    wp_walk using wpAny_loadPart' hl
    repeat (first
      | (refine wpAny_ite_false (decide_eq_false (by rw [hi]; decide)) ?_; wp_walk using wpAny_loadPart' hl)
      | (refine wpAny_ite_true (decide_eq_true (by decide)) ?_; wp_walk using wpAny_loadPart' hl))
    exact ⟨_, rfl, h⟩
/-- t * k, t not empty -/
def rRepB : R2 := fun x y H Q => ∃ l k xs, x = .ref l ∧ y = .int k ∧ H l = some (.tup xs) ∧ xs ≠ [] ∧ 0 ≤ k ∧ k ≤ 1000 ∧ xs.length ≤ 1000 ∧
  ∀ (p : Addr) (H' : Hp), Same H H' → H' p = some (.tup (List.replicate k.toNat xs).flatten) → (p = l ∨ H p = none) → Q (.ref p) H'
theorem op_repB {X : Cx} : OpR X (binaryOp .Mult) rRepB := by
  intro pins s σ H x y v u Q I rx ry h
  obtain ⟨l, k, xs, rfl, rfl, hl, hne, h0, h1, hz, q⟩ := h
  by_cases h2 : 2 ≤ k
  · exact op_repT pins s σ H _ _ v u Q I rx ry ⟨l, k, xs, rfl, rfl, SqT.of hl, hne, h2, h1, hz, fun p np => q p _ (same_new np) upd_same (.inr np)⟩
  cases rx
  obtain ⟨t, rfl⟩ := ry
  obtain ⟨its, r, ⟨⟨cls, dd, data, sl⟩, ho, hc, n, hd⟩, hs⟩ := I.tuple (SqT.of hl)
  simp only at hc hd
  subst hc hd
  have hi : its.toArray.isEmpty = false := by
    cases its with
    | nil =>
      cases r
      exact absurd rfl hne
    | cons a b => rfl
  by_cases hk : k = 0
  · subst hk
    refine wpAny_binaryOp_repeat_ref (T := "tuple") (U := "int") (by decide) ⟨_, ho, rfl⟩ (fun s' => typeIs_int s' 0 t) noFill_tuple_mul F.fills_int_mul F.slot_int_rmul repeat_tuple F.slot_int_index.lookup
      (call_meets F.slot_int_rmul (typeIs_int s 0 t) F.entry_int_rmul (F.args_int_rmul_2 _ _) (int_rmul_tuple 0 t l its.toArray n dd sl)
        ⟨ho, rfl, ⟨_, ho, rfl⟩, call_meets F.slot_tuple_mul ⟨_, ho, rfl⟩ F.entry_tuple_mul (F.args_tuple_mul_2 _ _) (tuple_mul0 l its.toArray n dd sl t hi) ⟨ho, ?_⟩⟩)
    have np := I.hok.fresh (Nat.le_refl s.heap.objs.size)
    refine ⟨.ref s.heap.objs.size, _, I.laid (t' := s.toks) (o := .tup []) (fun b ob q => Heap.get?_push_of_some _ q) (Nat.le_refl _) ?_, rfl, q _ _ (same_new np) upd_same (.inr np)⟩
    exact ⟨Nat.zero_le _, [], .nil, IsTup.new _ _⟩
  · have : k = 1 := by omega
    subst this
    refine wpAny_binaryOp_repeat_ref (T := "tuple") (U := "int") (by decide) ⟨_, ho, rfl⟩ (fun s' => typeIs_int s' 1 t) noFill_tuple_mul F.fills_int_mul F.slot_int_rmul repeat_tuple F.slot_int_index.lookup
      (call_meets F.slot_int_rmul (typeIs_int s 1 t) F.entry_int_rmul (F.args_int_rmul_2 _ _) (int_rmul_tuple 1 t l its.toArray n dd sl)
        ⟨ho, rfl, ⟨_, ho, rfl⟩, call_meets F.slot_tuple_mul ⟨_, ho, rfl⟩ F.entry_tuple_mul (F.args_tuple_mul_2 _ _) (tuple_mul1 l its.toArray n dd sl t) ⟨ho, ?_⟩⟩)
    refine ⟨.ref l, H, I, rfl, q l H (Same.refl H) ?_ (.inl rfl)⟩
    have e : (List.replicate (1 : Int).toNat xs).flatten = xs := by
      show (List.replicate 1 xs).flatten = xs
      simp
    rw [e]
    exact hl
end L2.LawH
set_option Elab.async false
set_option linter.all false
set_option maxRecDepth 100000
set_option maxHeartbeats 4000000
/-! Values of all kinds, away from the source. -/
namespace L2.LawH
open PySem PySem.Spec PyProof.Rows L2.Cmp L2.TxtSet TL
open Classical in
/-- a heap without what stands where p holds -/
noncomputable def Ex (p : Addr → Prop) (H : Hp) : Hp := fun b => if p b then none else H b
theorem ex_at {p : Addr → Prop} {b : Addr} {H : Hp} (n : ¬ p b) : Ex p H b = H b := by
  unfold Ex
  exact if_neg n
theorem ex_some {p : Addr → Prop} {b : Addr} {H : Hp} {o : HO} (e : Ex p H b = some o) : ¬ p b ∧ H b = some o := by
  unfold Ex at e
  by_cases n : p b
  · rw [if_pos n] at e
    cases e
  · rw [if_neg n] at e
    exact ⟨n, e⟩
/-- changes at places that are left out -/
theorem ex_same {p q : Addr → Prop} {H H' : Hp} (i : ∀ b, q b → p b) (k : ∀ b o, H b = some o → ¬ q b → H' b = some o) : Same (Ex p H) (Ex q H') := fun b o e => by
  obtain ⟨n, e⟩ := ex_some e
  have nq : ¬ q b := fun z => n (i b z)
  rw [ex_at nq]
  exact k b o e nq
theorem ex_keep {p : Addr → Prop} {a : Addr} {H H' : Hp} (k : Keep a H H') (pa : p a) : Same (Ex p H) (Ex p H') :=
  ex_same (fun _ z => z) fun b o e n => k b o e fun z => n (z ▸ pa)
/-- what stood before, but for the pattern -/
def Pr (H0 : Hp) (t : Addr) : Addr → Prop := fun b => H0 b ≠ none ∧ b ≠ t
theorem pr_new {H0 : Hp} {t b : Addr} (h : b = t ∨ H0 b = none) : ¬ Pr H0 t b := fun ⟨x, y⟩ => h.elim y x
theorem src_tup {H : Hp} {a p : Addr} {c : Int} {m : Nat} {xs : List V} (h : SrcAt H a c m) (e : H p = some (HO.tup xs)) : p ≠ a := fun z => by
  obtain ⟨d, n, e2, _⟩ := h
  rw [z, e2] at e
  cases e
/-- a value of any kind, as an item and by itself -/
def Smp (x : V) : Prop := (∃ p, x = .ref p) ∨ (flatV x = true ∧ eqV x x = true)
def AskS (K : PySem.W.Frag) (H : Hp) (x : V) (o : Option (List V)) : Prop := Ask K H x o ∧ Smp x
theorem AskS.same {K : PySem.W.Frag} {H H' : Hp} (s : Same H H') {x : V} {o : Option (List V)} (h : AskS K H x o) : AskS K H' x o := ⟨h.1.same s, h.2⟩
def Any (K : PySem.W.Frag) (H : Hp) (x : V) : Prop := Itm K H x ∧ ∃ o, AskS K H x o
theorem Any.same {K : PySem.W.Frag} {H H' : Hp} (s : Same H H') {x : V} (h : Any K H x) : Any K H' x := ⟨h.1.same s, let ⟨o, q⟩ := h.2; ⟨o, q.same s⟩⟩
section
variable {K : PySem.W.Frag} {H : Hp}
theorem any_str {y : Str} (l : y.length ≤ 1000) (h : ∀ c ∈ tl y, c < 0x110000) : Any K H (.str y) := by
  have i := itm_str (K := K) (H := H) (y := y) (by omega) h
  exact ⟨i, none, ⟨i.1, "str", .base (.str y), by decide +kernel⟩, .inr ⟨rfl, by simp [eqV]⟩⟩
theorem any_non : Any K H .non := by
  have o : Okl K H .non := .inr ⟨⟨"NoneType", .base .non, by decide +kernel⟩, fun z e => by cases e⟩
  exact ⟨⟨o, .none, .non, by simp [PyData.canLay0], by simp [PyData.depth]⟩, none, ⟨o, "NoneType", .base .non, by decide +kernel⟩, .inr ⟨rfl, by simp [eqV]⟩⟩
theorem any_int (i : Int) : Any K H (.int i) := by
  have o : Okl K H (.int i) := .inr ⟨⟨"int", .base (.int i), by decide +kernel⟩, fun z e => by cases e⟩
  exact ⟨⟨o, .int i, .int i, by simp [PyData.canLay0], by simp [PyData.depth]⟩, none, ⟨o, "int", .base (.int i), by decide +kernel⟩, .inr ⟨rfl, by simp [eqV]⟩⟩
theorem any_bl (b : Bool) : Any K H (.bl b) := by
  have o : Okl K H (.bl b) := .inr ⟨⟨"bool", .base (.bl b), by decide +kernel⟩, fun z e => by cases e⟩
  exact ⟨⟨o, .bool b, .bl b, by simp [PyData.canLay0], by simp [PyData.depth]⟩, none, ⟨o, "bool", .base (.bl b), by decide +kernel⟩, .inr ⟨rfl, by simp [eqV]⟩⟩
theorem any_tup {p : Addr} {y : Str} (e : H p = some (.tup [.str y])) (l : y.length ≤ 1000) (h : ∀ c ∈ tl y, c < 0x110000) : Any K H (.ref p) := by
  have o : Okl K H (.ref p) := .inr ⟨⟨"tuple", .base (.tup e), by decide +kernel⟩, fun z e => by cases e⟩
  have hs : PyData.strOk y = true := ok_list h
  exact ⟨⟨o, .tuple [.str y], .tup (SqT.of e) (.cons (.str y) .nil), by simp [PyData.canLay0, PyData.canLayAll0, hs], by simp [PyData.depth, PyData.depthAll]⟩, some [.str y], ⟨p, rfl, e, by simp, fun z m => by
    rw [List.mem_singleton.mp m]
    exact itm_str (by omega) h⟩, .inl ⟨p, rfl⟩⟩
theorem any_lst {p : Addr} {y : Str} (e : H p = some (.lst [.str y])) (l : y.length ≤ 1000) (h : ∀ c ∈ tl y, c < 0x110000) : Any K H (.ref p) := by
  have o : Okl K H (.ref p) := .inr ⟨⟨"list", .base (.lst e), by decide +kernel⟩, fun z e => by cases e⟩
  have hs : PyData.strOk y = true := ok_list h
  exact ⟨⟨o, .list [.str y], .lst (SqL.of e) (.cons (.str y) .nil), by simp [PyData.canLay0, PyData.canLayAll0, hs], by simp [PyData.depth, PyData.depthAll]⟩, none, ⟨o, "list", .base (.lst e), by decide +kernel⟩, .inl ⟨p, rfl⟩⟩
theorem ask_lst {p : Addr} {xs : List V} (e : H p = some (.lst xs)) : AskS K H (.ref p) none :=
  ⟨⟨.inr ⟨⟨"list", .base (.lst e), by decide +kernel⟩, fun z e => by cases e⟩, "list", .base (.lst e), by decide +kernel⟩, .inl ⟨p, rfl⟩⟩
theorem ask_dic {p : Addr} {xs : List (Key × V)} (e : H p = some (.dK xs)) : AskS K H (.ref p) none :=
  ⟨⟨.inr ⟨⟨"dict", .base (.dK e), by decide +kernel⟩, fun z e => by cases e⟩, "dict", .base (.dK e), by decide +kernel⟩, .inl ⟨p, rfl⟩⟩
end
def oddA : List Str := ["", "A", "1a", "?", "??a", "a b", "a,", "?1", "abcdefghijklm", "?abcdefghijklm", "a\n"]
def oddB : List Str := ["abcdefghijkl", "?abcdefghijkl", "?a9"]
theorem odd_ok : ((oddA ++ oddB).all fun s => decide (s.length ≤ 1000) && (tl s).all fun c => decide (c < 128)) = true := by decide +kernel
def oddW (p q : Addr) : List V := oddA.map V.str ++ ([.non, .int 3, .bl true, .ref p, .ref q] ++ oddB.map V.str)
theorem odd_any {K : PySem.W.Frag} {H : Hp} {p q : Addr} (hp : H p = some (.tup [.str "a"])) (hq : H q = some (.lst [.str "a"])) : ∀ x ∈ oddW p q, Any K H x := by
  intro x m
  have st : ∀ s ∈ oddA ++ oddB, Any K H (.str s) := fun s ms => by
    have := List.all_eq_true.mp odd_ok s ms
    rw [Bool.and_eq_true, decide_eq_true_iff, List.all_eq_true] at this
    exact any_str this.1 fun c hc => Nat.lt_trans (of_decide_eq_true (this.2 c hc)) (by decide)
  have la : (("a" : String) : Str).length ≤ 1000 := by decide +kernel
  have ca : ∀ c ∈ tl (("a" : String) : Str), c < 0x110000 := by decide +kernel
  unfold oddW at m
  rcases List.mem_append.mp m with m | m
  · obtain ⟨s, ms, rfl⟩ := List.mem_map.mp m
    exact st s (List.mem_append_left _ ms)
  · rcases List.mem_append.mp m with m | m
    · simp only [List.mem_cons, List.not_mem_nil, or_false] at m
      rcases m with rfl | rfl | rfl | rfl | rfl
      · exact any_non
      · exact any_int 3
      · exact any_bl true
      · exact any_tup hp la ca
      · exact any_lst hq la ca
    · obtain ⟨s, ms, rfl⟩ := List.mem_map.mp m
      exact st s (List.mem_append_right _ ms)
theorem odd_len (p q : Addr) : (oddW p q).length = 19 := rfl
end L2.LawH
set_option Elab.async false
set_option linter.all false
set_option maxRecDepth 100000
set_option maxHeartbeats 4000000
/-! Key: table, size, places; _law_key_told. -/
namespace L2.LawH
open PySem PySem.Spec PyProof.Rows L2.TxtSet TL L2.NumSeq
abbrev sTabK : Stmt := inClass (top 16) 1
abbrev sSizK : Stmt := inClass (top 16) 2
abbrev sPlaK : Stmt := inClass (top 16) 3
abbrev sKTold : Stmt := top 36
/-- what the law is told of a key -/
def spKTold (K : PySem.W.Frag) : Sp := fun vs H Q _ => ∃ (T n x : V) (o : Option (List V)), vs = [T, n, x] ∧ Okv K H T ∧ WhlAt K H n ∧ PlsAt K H x o ∧
  (keyB T n o = false → ∀ (H' : Hp) (r : Addr), Same H H' → H r = none → H' r = some (.tup [.str (Str.ofString "bad")]) → Q (.ref r) H') ∧
  (keyB T n o = true → ∀ (z : Str) (i : Int) (ns ms : List Int) (H' : Hp) (r t : Addr), T = .str z → n = .int i → o = some (ns.map V.int) → ms.Perm ns → ms.Pairwise (· ≤ ·) → Same H H' → H r = none → H' r = some (.tup [.str z, .int i, .ref t]) → H' t = some (.tup (ms.map V.int)) → Q (.ref r) H')
section
variable {P : Program} {w : World} {K : PySem.W.Frag} {mg : Str → Option Value} {base : Heap}
theorem scTabK : FnScope ["self"] ["self"] (defScope sTabK) := ⟨rfl, rfl, rfl, by decide +kernel, rfl, by decide +kernel, by decide +kernel⟩
theorem scSizK : FnScope ["self"] ["self"] (defScope sSizK) := ⟨rfl, rfl, rfl, by decide +kernel, rfl, by decide +kernel, by decide +kernel⟩
theorem scPlaK : FnScope ["self"] ["self"] (defScope sPlaK) := ⟨rfl, rfl, rfl, by decide +kernel, rfl, by decide +kernel, by decide +kernel⟩
theorem ok_tabK {f C : Addr} {fd : FuncData} (F : Fun K "table" "Key.table" sTabK f fd) (T : ClsK K mg C) : FnOk P w K mg base CX0 1 f fd ["self"] (getSp C "_table") := by
  refine F.ok scTabK (fun vs H Q E h => ?_) (fun cdv A outer s H vs Q E hr h => ?_)
  · obtain ⟨a, dx, fs, v, rfl, _⟩ := h
    rfl
  · obtain ⟨a, dx, fs, v, rfl, ea, l, q⟩ := h
    exact ⟨_, pss_one (ps_ret (pe_fld (pv 0) rfl)), .ref a, rfl, a, C, dx, fs, v, rfl, ea, T.cl, T.nT, l, q⟩
theorem ok_sizK {f C : Addr} {fd : FuncData} (F : Fun K "size" "Key.size" sSizK f fd) (T : ClsK K mg C) : FnOk P w K mg base CX0 1 f fd ["self"] (getSp C "_size") := by
  refine F.ok scSizK (fun vs H Q E h => ?_) (fun cdv A outer s H vs Q E hr h => ?_)
  · obtain ⟨a, dx, fs, v, rfl, _⟩ := h
    rfl
  · obtain ⟨a, dx, fs, v, rfl, ea, l, q⟩ := h
    exact ⟨_, pss_one (ps_ret (pe_fld (pv 0) rfl)), .ref a, rfl, a, C, dx, fs, v, rfl, ea, T.cl, T.nS, l, q⟩
theorem ok_plaK {f C : Addr} {fd : FuncData} (F : Fun K "places" "Key.places" sPlaK f fd) (T : ClsK K mg C) : FnOk P w K mg base CX0 1 f fd ["self"] (getSp C "_places") := by
  refine F.ok scPlaK (fun vs H Q E h => ?_) (fun cdv A outer s H vs Q E hr h => ?_)
  · obtain ⟨a, dx, fs, v, rfl, _⟩ := h
    rfl
  · obtain ⟨a, dx, fs, v, rfl, ea, l, q⟩ := h
    exact ⟨_, pss_one (ps_ret (pe_fld (pv 0) rfl)), .ref a, rfl, a, C, dx, fs, v, rfl, ea, T.cl, T.nP, l, q⟩
/-- Key's own defs, as they stand -/
structure KeyF (P : Program) (w : World) (K : PySem.W.Frag) (mg : Str → Option Value) (base : Heap) (C B : Addr) : Prop where
  T : ClsK K mg C
  mC : mg "Key" = some (.ref C)
  mB : mg "BadKey" = some (.ref B)
  I : ∃ f fd, Mk K C f ∧ FnOk P w K mg base (L2.CX P w) 3 f fd ["self", "table", "size", "places"] (spInitK C B K) ∧ Binds K fd ["self", "table", "size", "places"] []
  tab : ∃ p g fd, PropOf K C "table" p g ∧ FnOk P w K mg base CX0 1 g fd ["self"] (getSp C "_table") ∧ Binds K fd ["self"] []
  siz : ∃ p g fd, PropOf K C "size" p g ∧ FnOk P w K mg base CX0 1 g fd ["self"] (getSp C "_size") ∧ Binds K fd ["self"] []
  pla : ∃ p g fd, PropOf K C "places" p g ∧ FnOk P w K mg base CX0 1 g fd ["self"] (getSp C "_places") ∧ Binds K fd ["self"] []
  te : PySem.W.exmOne K (.ref B) (.ref B) = some true
abbrev nKTold : List Str := ["_law_table", "_law_size", "_law_places", "_law_key"]
theorem scKTold : FnScope nKTold ["_law_table", "_law_size", "_law_places"] (defScope sKTold) := ⟨rfl, rfl, rfl, by decide +kernel, rfl, by decide +kernel, by decide +kernel⟩
theorem ok_ktold {f C B : Addr} {fd : FuncData} (F : Fun K "_law_key_told" "_law_key_told" sKTold f fd) (Z : KeyF P w K mg base C B) : FnOk P w K mg base CX0 5 f fd ["_law_table", "_law_size", "_law_places"] (spKTold K) := by
  obtain ⟨T, mC, mB, ⟨fI, fdI, M, GI, bI⟩, ⟨p1, g1, fd1, P1, G1, b1⟩, ⟨p2, g2, fd2, P2, G2, b2⟩, ⟨p3, g3, fd3, P3, G3, b3⟩, te⟩ := Z
  refine F.ok scKTold (fun vs H Q E h => ?_) (fun cdv A outer s H vs Q E hr h => ?_)
  · obtain ⟨Tv, n, x, o, rfl, _⟩ := h
    rfl
  · obtain ⟨Tv, n, x, o, rfl, oT, wn, px, bad, good⟩ := h
    have hr2 : Room 2 _ := hr.mono (by decide)
    refine ⟨_, pss_cons (ps_try_only rfl rfl ⟨rfl, by decide, .inl mB⟩ takes0 (fun W pn xe tk _ =>
        pss_one (ps_set (i := 3) scKTold.nd rfl (Or.inl rfl) (L2.OwnOp.pe_makeS M GI hr (by rfl) mC bI .nil (fun σ => passAt tk σ) (pa_cons (pv 0) (pa_cons (pv 1) (pa_cons (pv 2) pa_nil))))))
      (fun a oe cls d pn hz hf => pss_one (ps_ret (pe_tup (pa_cons pe_str pa_nil)))))
      (pss_one (ps_ret (pe_tup (pa_cons (pe_prop (pv 3) T.cl P1 G1 hr2 b1 .nil pass0 rfl) (pa_cons (pe_prop (pv 3) T.cl P2 G2 hr2 b2 .nil pass0 rfl) (pa_cons (pe_prop (pv 3) T.cl P3 G3 hr2 b3 .nil pass0 rfl) pa_nil)))))), ?_⟩
    refine ⟨_, rfl, _, rfl, _, rfl, fun y dy ny ndy ne => ?_⟩
    have sU : Same H (upd (upd H dy (.own y)) y (.ins C dy [])) := fun b o h => by
      rw [upd_ne (ne_of_none h ny), upd_ne (ne_of_none h ndy)]
      exact h
    refine ⟨y, dy, Tv, n, x, o, rfl, upd_same, L2.LawH.Okv.same sU oT, wn.same sU, px.same sU, fun e H' s' => ?_, fun e z i ns ms H' e1 e2 e3 pm so ka keep => ⟨rfl, ?_⟩⟩
    · have s2 := sU.trans s'
      refine ⟨true, te, fun _ a na => ?_, fun q => nomatch q⟩
      exact ⟨by show 1 ≤ sizeLine; decide, fun r nr => bad e _ r (s2.trans (same_new nr)) (s2.free nr) upd_same⟩
    · obtain ⟨dz, t, u, h1, h2⟩ := ka
      have s2 : Same H H' := fun b o h => keep b o (ne_of_none h ny) (sU _ _ h)
      refine ⟨_, rfl, y, dz, _, rfl, h1, ⟨_, _, _, _, rfl, h1, rfl, ?_⟩⟩
      refine ⟨_, rfl, y, dz, _, rfl, h1, ⟨_, _, _, _, rfl, h1, rfl, ?_⟩⟩
      refine ⟨_, rfl, y, dz, _, rfl, h1, ⟨_, _, _, _, rfl, h1, rfl, ?_⟩⟩
      refine ⟨by show 3 ≤ sizeLine; decide, fun r nr => ?_⟩
      exact good e z i ns ms _ r t e1 e2 e3 pm so (s2.trans (same_new nr)) (s2.free nr) upd_same ((same_new nr) _ _ h2)
end
end L2.LawH
set_option Elab.async false
set_option linter.all false
set_option maxRecDepth 100000
set_option maxHeartbeats 4000000
/-! _law_once of ints, _law_key_fine. -/
namespace L2.LawH
open PySem PySem.Spec PyProof.Rows L2.TxtSet TL L2.NumSeq
abbrev sLOnceN : Stmt := top 35
abbrev sKFine : Stmt := top 34
def spOnceN : Sp := fun vs H Q _ => ∃ (q : Addr) (ns : List Int), vs = [.ref q] ∧ H q = some (.lst (ns.map V.int)) ∧ ns.length ≤ 60 ∧
  ∀ (H' : Hp) (t : Addr), Same H H' → H t = none → H' t = some (.lst ((met ns ns.length).map V.int)) → Q (.ref t) H'
theorem inV_nums (q : Int) : ∀ L : List Int, inV (.int q) (L.map V.int) = decide (q ∈ L)
  | [] => by simp [inV]
  | x :: L => by
    have ih := inV_nums q L
    unfold inV at ih ⊢
    rw [List.map_cons, List.any_cons, ih]
    by_cases h : x = q
    · subst h
      simp [eqV]
    · have h' : ¬ q = x := fun z => h z.symm
      simp [eqV, h, h']
theorem flat_nums : ∀ L : List Int, (L.map V.int).all flatV = true
  | [] => rfl
  | _ :: L => by
    rw [List.map_cons, List.all_cons, flat_nums L]
    rfl
theorem met_any {ns : List Int} {i : Nat} (h : i ≤ ns.length) (k : Int) : (met ns i).any (· == k) = decide (k ∈ ns.take i) := by
  show (firstMet (fun i => ns.getD i 0) i).any (· == k) = _
  rw [firstMet_any]
  have e : (List.range i).map (fun i => ns.getD i 0) = ns.take i := by
    refine List.ext_getElem (by simp [h]) fun j h1 h2 => ?_
    have hj : j < ns.length := by
      rw [List.length_take] at h2
      omega
    rw [List.getElem_map, List.getElem_range, List.getD_eq_getElem?_getD, List.getElem?_eq_getElem hj, List.getElem_take]
    rfl
  rw [e]
  by_cases m : k ∈ ns.take i
  · rw [decide_eq_true m]
    exact List.any_eq_true.mpr ⟨k, m, by simp⟩
  · rw [decide_eq_false m, List.any_eq_false]
    intro x hx e
    rw [beq_iff_eq] at e
    exact m (e ▸ hx)
theorem cutV_top (xs : List V) (k : Nat) : cutV xs none (some (k : Int)) = xs.take k := by
  unfold cutV
  rw [HT.sIx_nat, HT.sIx_none, List.drop_zero, Nat.sub_zero]
  rcases Nat.le_total k xs.length with h | h
  · rw [Nat.min_eq_left h]
  · rw [Nat.min_eq_right h, List.take_of_length_le (Nat.le_refl _), List.take_of_length_le h]
section
variable {P : Program} {w : World} {K : PySem.W.Frag} {mg : Str → Option Value} {base : Heap}
theorem op_notInNK {X : Cx} {K : PySem.W.Frag} (e : X.K = K) : OpR X (compareOp .NotIn) (rIn K true) := by
  subst e
  exact op_notIn_seq
theorem sl_listNK {X : Cx} {K : PySem.W.Frag} (e : X.K = K) : SlR X (rSlL K) := by
  subst e
  exact sl_list
theorem ix_listNK {X : Cx} {K : PySem.W.Frag} (e : X.K = K) : IxR X (rIxL K) := by
  subst e
  exact ix_list
abbrev nOnceN : List Str := ["_law_items", "_law_k"]
theorem scOnceN : FnScope nOnceN ["_law_items"] (defScope sLOnceN) := ⟨rfl, rfl, rfl, by decide +kernel, rfl, by decide +kernel, by decide +kernel⟩
theorem ok_onceN {f : Addr} {fd : FuncData} (F : Fun K "_law_once" "_law_once" sLOnceN f fd) (mr : mg "range" = none) (ml : mg "len" = none) : FnOk P w K mg base CX0 1 f fd ["_law_items"] spOnceN := by
  refine F.ok scOnceN (fun vs H Q E h => ?_) (fun cdv A outer s H vs Q E hr h => ?_)
  · obtain ⟨q, ws, rfl, _⟩ := h
    rfl
  · obtain ⟨q, ws, rfl, hq, few, k⟩ := h
    refine ⟨_, pss_one (ps_ret (pe_lc (own := [("_law_k", 1)]) (g := gName 1) (tt := tB (tOp (rIn K true) (tOp (rIxL K) (tVar 0) (tVar 1)) (tSl (rSlL K) (tVar 0) tNoPart (tPart (tVar 1))))) rfl scOnceN.nd (pi_range1 (by rfl) mr (pa_cons (pe_callB call_len_seq (by rfl) ml (by decide +kernel) (pa_cons (pv 0) pa_nil)) pa_nil))
          (blkOk_by (own := [("_law_k", 1)]) (N := nOnceN) (sc := defScope sLOnceN) (by decide +kernel)) (fun _ _ _ _ _ => pg_name (i := 1) scOnceN.nd rfl (Or.inl rfl)) (fun _ _ _ _ _ => pts_one (pt_cmpR (op_notInNK (K := K) rfl) (pe_ix (ix_listNK (K := K) rfl) (pv 0) (pv 1) (fun _ _ => rfl)) (pe_slice (sl_listNK (K := K) rfl) (pv 0) po_none (po_some (pv 1))) (by rfl)))
          (fun _ _ _ _ _ => pe_ix (ix_listNK (K := K) rfl) (pv 0) (pv 1) (fun _ _ => rfl)))), ?_⟩
    refine ⟨_, rfl, q, _, rfl, .inl (SqL.of hq), _, rfl, by rw [List.length_map]; omega, by rw [List.length_map]; omega, fun L nL => ?_⟩
    rw [List.length_map, Int.toNat_natCast]
    refine lc_it (L2.walk_range (lo := 0) (n := ws.length)) (fun i H5 => Same H H5 ∧ H5 L = some (.lst ((met ws i).map V.int))) ⟨same_new nL, upd_same⟩ (fun _ _ _ _ => trivial) (fun i z H5 H6 hi pp y => ?_) (fun H5 pp => ?_)
    · obtain ⟨rfl, rfl⟩ := y
      obtain ⟨p1, p2⟩ := pp
      obtain ⟨w0, hw0⟩ : ∃ w0, ws[i]? = some w0 := ⟨_, List.getElem?_eq_getElem hi⟩
      have gd : ws.getD i 0 = w0 := by
        rw [List.getD_eq_getElem?_getD, hw0]
        rfl
      have at0 : ∀ {z : Int}, z = i → atI (ws.map V.int) z = some (V.int w0) := fun {z} e => by
        rw [e]
        refine atI_nat ?_
        rw [List.getElem?_map, hw0]
        rfl
      have sc : met ws (i + 1) = if (met ws i).any (· == w0) then met ws i else met ws i ++ [w0] := by
        show firstMet _ (i + 1) = _
        rw [firstMet_succ]
        unfold step_dedup
        rw [gd]
      rw [met_any (Nat.le_of_lt hi)] at sc
      refine ⟨rfl, ?_⟩
      refine ⟨_, rfl, _, rfl, q, _, _, _, rfl, rfl, SqL.of (p1 _ _ hq), at0 (by omega), _, rfl, _, rfl, _, rfl, q, _, rfl, SqL.of (p1 _ _ hq), fun l nl => ?_⟩
      have sl : Same H6 (upd H6 l (.lst (cutV (ws.map V.int) none (some (0 + (i : Int)))))) := same_new nl
      have hl : (upd H6 l (.lst (cutV (ws.map V.int) none (some (0 + (i : Int)))))) l = some (.lst ((ws.take i).map V.int)) := by
        rw [upd_same, Int.zero_add, cutV_top, List.map_take]
      generalize upd H6 l (.lst (cutV (ws.map V.int) none (some (0 + (i : Int))))) = H7 at sl hl ⊢
      refine ⟨l, _, rfl, .inl (SqL.of hl), rfl, flat_nums _, _, rfl, ?_⟩
      rw [if_pos rfl, inV_nums]
      have p1' := p1.trans sl
      have p2' := sl _ _ p2
      refine ite2 (fun e => ?_) (fun e => ?_)
      · have out : w0 ∉ ws.take i := fun h => by simp [h] at e
        refine ⟨_, rfl, _, rfl, q, _, _, _, rfl, rfl, SqL.of (p1' _ _ hq), at0 (by omega), _, p2', ?_, ?_, ?_⟩
        · have : (met ws i).length ≤ i := firstMet_length_le _ _
          rw [List.length_map, sizeLine_eq]
          omega
        · intro b o h
          rw [upd_ne (ne_of_none h nL)]
          exact p1' _ _ h
        · rw [upd_same, sc, if_neg (by simpa using out), List.map_append]
          rfl
      · have inn : w0 ∈ ws.take i := by simpa using e
        refine ⟨p1', ?_⟩
        rw [sc, if_pos (by simpa using inn)]
        exact p2'
    · obtain ⟨p1, p2⟩ := pp
      exact k H5 L p1 nL p2
end
end L2.LawH
set_option Elab.async false
set_option linter.all false
set_option maxRecDepth 100000
set_option maxHeartbeats 4000000
/-! _law_key_fine. -/
namespace L2.LawH
open PySem PySem.Spec PyProof.Rows L2.TxtSet TL L2.NumSeq
def spKFine (K : PySem.W.Frag) : Sp := fun vs H Q _ => ∃ (T n x : V) (o : Option (List V)), vs = [T, n, x] ∧ Okl K H T ∧ WhlAt K H n ∧ PlsAt K H x o ∧ (∀ ys, o = some ys → ∀ y ∈ ys, Itm K H y) ∧ ∀ H', Same H H' → Q (.bl (keyB T n o)) H'
section
variable {P : Program} {w : World} {K : PySem.W.Frag} {mg : Str → Option Value} {base : Heap}
abbrev nKFine : List Str := ["_law_table", "_law_size", "_law_places", "_law_place"]
theorem scKFine : FnScope nKFine ["_law_table", "_law_size", "_law_places"] (defScope sKFine) := ⟨rfl, rfl, rfl, by decide +kernel, rfl, by decide +kernel, by decide +kernel⟩
theorem ok_kfine {f fN fW fO : Addr} {fd fdN fdW fdO : FuncData} (F : Fun K "_law_key_fine" "_law_key_fine" sKFine f fd)
    (GN : FnOk P w K mg base CX0 1 fN fdN ["_law_value"] (spLIN K)) (kN : PySem.W.keepIn K (.ref fN) = true) (bN : Binds K fdN ["_law_value"] []) (mN : mg "_law_is_name" = some (.ref fN))
    (GW : FnOk P w K mg base CX0 1 fW fdW ["_law_value"] (spWhole K)) (kW : PySem.W.keepIn K (.ref fW) = true) (bW : Binds K fdW ["_law_value"] []) (mW : mg "_law_whole" = some (.ref fW))
    (GO : FnOk P w K mg base CX0 1 fO fdO ["_law_items"] spOnceN) (kO : PySem.W.keepIn K (.ref fO) = true) (bO : Binds K fdO ["_law_items"] []) (mO : mg "_law_once" = some (.ref fO))
    (mi : mg "isinstance" = none) (mL : mg "list" = none) (mT : mg "tuple" = none) (ml : mg "len" = none) : FnOk P w K mg base CX0 2 f fd ["_law_table", "_law_size", "_law_places"] (spKFine K) := by
  refine F.ok scKFine (fun vs H Q E h => ?_) (fun cdv A outer s H vs Q E hr h => ?_)
  · obtain ⟨T, n, x, o, rfl, _⟩ := h
    rfl
  · obtain ⟨Tv, nv, x, o, rfl, oT, wn, px, it, k⟩ := h
    have hu := hr.units
    have hr1 : Room 1 _ := hr.mono (by decide)
    refine ⟨_, pss_cons (ps_if (PW.pt (pw_or (pt_not (pt_val (pe_call GN hr1 (by rfl) mN kN bN .nil pass0 (pa_cons (pv 0) pa_nil)))) (pw_or (pt_not (pt_val (pe_call GW hr1 (by rfl) mW kW bW .nil pass0 (pa_cons (pv 1) pa_nil))))
        (pw_or1 (pt_not (pt_chain op_le op_le pe_int (pv 1) pe_int)))))) (pss_one (ps_ret pe_bl)) pss_nil)
      (pss_cons (ps_if (PW.pt (pw_and (pt_not (pt_val (pe_callB call_isi (by rfl) mi (by decide +kernel) (pa_cons (pv 2) (pa_cons (pe_bltn (v := .ty "list") (by rfl) mL (by decide +kernel) rfl) pa_nil)))))
        (pw_and1 (pt_not (pt_val (pe_callB call_isi (by rfl) mi (by decide +kernel) (pa_cons (pv 2) (pa_cons (pe_bltn (v := .ty "tuple") (by rfl) mT (by decide +kernel) rfl) pa_nil)))))))) (pss_one (ps_ret pe_bl)) pss_nil)
      (pss_cons (ps_if (pt_cmpR (op_neD hu) (pe_lc (own := [("_law_place", 3)]) (g := gName 3) (tt := tOr (tNot (tB (tCall (spWhole K) [] E0 (tCons (tVar 3) tNil)))) (tNot (tTest (tChain (rI0 fun i j => V.bl (decide (i ≤ j))) (rI0 fun i j => V.bl (decide (i < j))) (tC (.int 0)) (tVar 3) (tVar 1))))) rfl scKFine.nd (pi_seq (pv 2))
          (blkOk_by (own := [("_law_place", 3)]) (N := nKFine) (sc := defScope sKFine) (by decide +kernel)) (fun _ _ _ _ _ => pg_name (i := 3) scKFine.nd rfl (Or.inl rfl))
          (fun _ _ _ _ _ => pts_one (PW.pt (pw_or (pt_not (pt_val (pe_call GW hr1 (by rfl) mW kW bW .nil pass0 (pa_cons (pv 3) pa_nil)))) (pw_or1 (pt_not (pt_chain op_le op_lt pe_int (pv 3) (pv 1)))))))
          (fun _ _ _ _ _ => pv 3)) (pe_lst pa_nil) (by rfl)) (pss_one (ps_ret pe_bl)) pss_nil)
      (pss_one (ps_ret (pe_cmpR op_eq (pe_callB call_len_seq (by rfl) ml (by decide +kernel) (pa_cons (pe_call GO hr1 (by rfl) mO kO bO .nil pass0 (pa_cons (pe_callTy call_list_of (by rfl) mL (by decide +kernel) (pa_cons (pv 2) pa_nil)) pa_nil)) pa_nil)) (pe_callB call_len_seq (by rfl) ml (by decide +kernel) (pa_cons (pv 2) pa_nil)) (nomark _)))))), ?_⟩
    refine ⟨_, rfl, ?_⟩
    dsimp only [tNil, List.cons_append, List.nil_append]
    refine lin_of (E := E0) oT fun H1 s1 => ⟨vN Tv, rfl, ?_⟩
    have badT : keyB Tv nv o = false → Q (.bl false) H1 := fun e => by
      have q := k H1 s1
      rw [e] at q
      exact q
    refine ite2 (fun e1 => badT (by unfold keyB; rw [show vN Tv = false by simpa using e1, Bool.false_and])) (fun e1 => ?_)
    have e1 : vN Tv = true := by simpa using e1
    refine ⟨_, rfl, nv, rfl, wn.same s1, isI nv, rfl, ?_⟩
    refine ite2 (fun e2 => badT ?_) (fun e2 => ?_)
    · have e2 : isI nv = false := by simpa using e2
      unfold keyB
      cases nv with
      | int i => cases e2
      | _ => rw [Bool.and_false]
    have e2 : isI nv = true := by simpa using e2
    obtain ⟨n, rfl⟩ : ∃ n, nv = .int n := by
      cases nv with
      | int i => exact ⟨i, rfl⟩
      | _ => cases e2
    have kb : keyB Tv (.int n) o = (decide (1 ≤ n) && decide (n ≤ 3) && plB n o) := by
      show (vN Tv && _) = _
      rw [e1, Bool.true_and]
    rw [kb] at badT k
    refine ⟨_, rfl, 1, n, rfl, rfl, _, rfl, ?_⟩
    refine ite2 (fun e3 => ⟨_, _, rfl, rfl, _, rfl, ?_⟩) (fun e3 => ⟨_, rfl, iteT (badT (by rw [Bool.eq_false_iff.mpr e3, Bool.false_and, Bool.false_and]))⟩)
    refine ite2 (fun e4 => badT (by rw [show decide (n ≤ 3) = false by simpa using e4, Bool.and_false, Bool.false_and])) (fun e4 => ?_)
    have e4 : decide (n ≤ 3) = true := by simpa using e4
    rw [e3, e4, Bool.true_and, Bool.true_and] at badT k
    have px1 := px.same s1
    cases o with
    | none =>
      obtain ⟨t, ty, kl, kt⟩ := px1
      refine ⟨_, rfl, _, .ty "list", _, _, false, rfl, .ty "list", ty, kit_ty kl, _, rfl, iteT ?_⟩
      exact ⟨_, rfl, _, .ty "tuple", _, _, false, rfl, .ty "tuple", ty, kit_ty kt, _, rfl, iteT (badT rfl)⟩
    | some ys =>
      obtain ⟨⟨a, rfl, hs⟩, few, wh⟩ := px1
      have s2 := s1
      have wh2 := wh
      rcases hs with ⟨hs2, ty2⟩ | ⟨hs2, ty2⟩
      · refine ⟨_, rfl, _, .ty "list", _, _, true, rfl, .ty "list", ty2, kit_ty (by decide +kernel), _, rfl, iteF ?_⟩
        refine ⟨_, rfl, a, rfl, .inl ⟨⟨_, hs2⟩, fun L nL => ?_⟩⟩
        refine lc_sift (ms := ys) (val := fun y => y) (L2.walk_list (K := K)) (by rw [List.map_id']) (fun y => !okI n y) (fun y => y) nL (by omega) (fun H' s' => by rw [List.map_id']; exact s'.seq hs2) (fun y hy H5 Yes No s5 yes no => ?_) (fun H' s' hL => ?_)
        · refine ⟨rfl, _, rfl, y, rfl, (wh2 y hy).same s5, isI y, rfl, ?_⟩
          have yes := yes H5 (Same.refl _)
          have no := no H5 (Same.refl _)
          cases y with
          | int i =>
            refine iteF ?_
            refine ⟨_, rfl, 0, i, rfl, rfl, _, rfl, ?_⟩
            dsimp only [okI] at yes no
            refine ite2 (fun e => ?_) (fun e => ?_)
            · refine ⟨_, rfl, i, n, rfl, rfl, _, rfl, ?_⟩
              rw [e, Bool.true_and] at yes no
              refine ite2 (fun e6 => ⟨_, rfl, yes e6⟩) (fun e6 => no (by simpa using e6))
            · refine ⟨_, rfl, iteT ⟨_, rfl, yes (by rw [Bool.eq_false_iff.mpr e]; rfl)⟩⟩
          | _ => exact iteT ⟨_, rfl, yes rfl⟩
        · rw [List.map_id'] at hL
          have s3 := s2.trans s'
          refine ⟨by show 0 ≤ sizeLine; decide, fun p np => ?_⟩
          have sp := same_new (o := HO.lst []) np
          have s4 := s3.trans sp
          obtain ⟨ds, hd, ld, cd, dd⟩ := itms_data (K := K) (H := upd H' p (.lst [])) (ys.filter fun y => !okI n y) fun z m => (it ys rfl z (List.mem_filter.mp m).1).same s4
          refine ⟨_, _, .lst (SqL.of (sp _ _ hL)) hd, .lst (SqL.of upd_same) .nil, shaped_list cd (by omega), by decide, _, rfl, ?_⟩
          rw [eqv_nilD, ld]
          generalize upd H' p (.lst []) = H4 at s4 sp ⊢
          have kk : Q (.bl (ys.all (okI n) && decide (nums ys).Nodup)) H4 → Q (.bl (ys.all (okI n) && decide (nums ys).Nodup)) H4 := id
          refine ite2 (fun e => ?_) (fun e => ?_)
          · have e6 : ys.all (okI n) = false := by
              rw [Bool.eq_false_iff]
              intro h
              have : (ys.filter fun y => !okI n y) = [] := List.filter_eq_nil_iff.mpr fun y m => by
                rw [List.all_eq_true.mp h y m]
                exact Bool.false_ne_true
              rw [this] at e
              simp at e
            have q := k H4 s4
            rw [show plB n (some ys) = false by show (ys.all (okI n) && _) = false; rw [e6, Bool.false_and]] at q
            exact q
          · have e6 : ys.all (okI n) = true := by
              rw [List.all_eq_true]
              intro y m
              have z : (ys.filter fun y => !okI n y).length = 0 := by simpa using e
              have := List.filter_eq_nil_iff.mp (List.length_eq_zero_iff.mp z) y m
              simpa using this
            have en := nums_of e6
            have ln : (nums ys).length = ys.length := by
              have := congrArg List.length en
              rw [List.length_map] at this
              exact this.symm
            have hs4 := (s'.trans sp).seq hs2
            refine ⟨_, rfl, a, ys, rfl, .inl hs4, fun l nl => ?_⟩
            have sl : Same H4 (upd H4 l (.lst ys)) := same_new nl
            have hl : (upd H4 l (.lst ys)) l = some (.lst ((nums ys).map V.int)) := by rw [upd_same, ← en]
            generalize upd H4 l (.lst ys) = H6 at sl hl ⊢
            refine ⟨l, nums ys, rfl, hl, by omega, fun H7 t s7 nt ht => ?_⟩
            have s8 := (s4.trans sl).trans s7
            refine ⟨t, _, rfl, .inl (SqL.of ht), _, rfl, a, ys, rfl, .inl ((((s'.trans sp).trans sl).trans s7).seq hs2), rfl, ?_⟩
            have q := k H7 s8
            rw [show plB n (some ys) = decide (nums ys).Nodup by show (ys.all (okI n) && _) = _; rw [e6, Bool.true_and]] at q
            rw [List.length_map, show decide (V.int ((met (nums ys) (nums ys).length).length : Nat) = V.int (ys.length : Nat)) = decide (nums ys).Nodup from decide_eq_decide.mpr ⟨fun h => (met_len _).mp (by injection h; omega), fun h => by rw [(met_len _).mpr h, ln]⟩]
            exact q
      · refine ⟨_, rfl, _, .ty "list", _, _, false, rfl, .ty "list", ty2, kit_ty (by decide +kernel), _, rfl, iteT ⟨_, rfl, _, .ty "tuple", _, _, true, rfl, .ty "tuple", ty2, kit_ty (by decide +kernel), _, rfl, iteF ?_⟩⟩
        refine ⟨_, rfl, a, rfl, .inr ⟨⟨_, hs2⟩, fun L nL => ?_⟩⟩
        refine lc_sift (ms := ys) (val := fun y => y) (L2.walk_tup (K := K)) (by rw [List.map_id']) (fun y => !okI n y) (fun y => y) nL (by omega) (fun H' s' => by rw [List.map_id']; exact L2.LawH.Same.seqT s' hs2) (fun y hy H5 Yes No s5 yes no => ?_) (fun H' s' hL => ?_)
        · refine ⟨rfl, _, rfl, y, rfl, (wh2 y hy).same s5, isI y, rfl, ?_⟩
          have yes := yes H5 (Same.refl _)
          have no := no H5 (Same.refl _)
          cases y with
          | int i =>
            refine iteF ?_
            refine ⟨_, rfl, 0, i, rfl, rfl, _, rfl, ?_⟩
            dsimp only [okI] at yes no
            refine ite2 (fun e => ?_) (fun e => ?_)
            · refine ⟨_, rfl, i, n, rfl, rfl, _, rfl, ?_⟩
              rw [e, Bool.true_and] at yes no
              refine ite2 (fun e6 => ⟨_, rfl, yes e6⟩) (fun e6 => no (by simpa using e6))
            · refine ⟨_, rfl, iteT ⟨_, rfl, yes (by rw [Bool.eq_false_iff.mpr e]; rfl)⟩⟩
          | _ => exact iteT ⟨_, rfl, yes rfl⟩
        · rw [List.map_id'] at hL
          have s3 := s2.trans s'
          refine ⟨by show 0 ≤ sizeLine; decide, fun p np => ?_⟩
          have sp := same_new (o := HO.lst []) np
          have s4 := s3.trans sp
          obtain ⟨ds, hd, ld, cd, dd⟩ := itms_data (K := K) (H := upd H' p (.lst [])) (ys.filter fun y => !okI n y) fun z m => (it ys rfl z (List.mem_filter.mp m).1).same s4
          refine ⟨_, _, .lst (SqL.of (sp _ _ hL)) hd, .lst (SqL.of upd_same) .nil, shaped_list cd (by omega), by decide, _, rfl, ?_⟩
          rw [eqv_nilD, ld]
          generalize upd H' p (.lst []) = H4 at s4 sp ⊢
          have kk : Q (.bl (ys.all (okI n) && decide (nums ys).Nodup)) H4 → Q (.bl (ys.all (okI n) && decide (nums ys).Nodup)) H4 := id
          refine ite2 (fun e => ?_) (fun e => ?_)
          · have e6 : ys.all (okI n) = false := by
              rw [Bool.eq_false_iff]
              intro h
              have : (ys.filter fun y => !okI n y) = [] := List.filter_eq_nil_iff.mpr fun y m => by
                rw [List.all_eq_true.mp h y m]
                exact Bool.false_ne_true
              rw [this] at e
              simp at e
            have q := k H4 s4
            rw [show plB n (some ys) = false by show (ys.all (okI n) && _) = false; rw [e6, Bool.false_and]] at q
            exact q
          · have e6 : ys.all (okI n) = true := by
              rw [List.all_eq_true]
              intro y m
              have z : (ys.filter fun y => !okI n y).length = 0 := by simpa using e
              have := List.filter_eq_nil_iff.mp (List.length_eq_zero_iff.mp z) y m
              simpa using this
            have en := nums_of e6
            have ln : (nums ys).length = ys.length := by
              have := congrArg List.length en
              rw [List.length_map] at this
              exact this.symm
            have hs4 := L2.LawH.Same.seqT (s'.trans sp) hs2
            refine ⟨_, rfl, a, ys, rfl, .inr hs4, fun l nl => ?_⟩
            have sl : Same H4 (upd H4 l (.lst ys)) := same_new nl
            have hl : (upd H4 l (.lst ys)) l = some (.lst ((nums ys).map V.int)) := by rw [upd_same, ← en]
            generalize upd H4 l (.lst ys) = H6 at sl hl ⊢
            refine ⟨l, nums ys, rfl, hl, by omega, fun H7 t s7 nt ht => ?_⟩
            have s8 := (s4.trans sl).trans s7
            refine ⟨t, _, rfl, .inl (SqL.of ht), _, rfl, a, ys, rfl, .inr (L2.LawH.Same.seqT (((s'.trans sp).trans sl).trans s7) hs2), rfl, ?_⟩
            have q := k H7 s8
            rw [show plB n (some ys) = decide (nums ys).Nodup by show (ys.all (okI n) && _) = _; rw [e6, Bool.true_and]] at q
            rw [List.length_map, show decide (V.int ((met (nums ys) (nums ys).length).length : Nat) = V.int (ys.length : Nat)) = decide (nums ys).Nodup from decide_eq_decide.mpr ⟨fun h => (met_len _).mp (by injection h; omega), fun h => by rw [(met_len _).mpr h, ln]⟩]
            exact q
end
end L2.LawH
set_option Elab.async false
set_option linter.all false
set_option maxRecDepth 100000
set_option maxHeartbeats 4000000
/-! _law_keys: what is handed to Key. -/
namespace L2.LawH
open PySem PySem.Spec PyProof.Rows L2.TxtSet TL L2.NumSeq
abbrev sKeys : Stmt := top 37
def spKeys : Sp := fun vs H Q _ => ∃ (a p : Addr) (c : Int) (m : Nat) (π : Pool), vs = [.ref a, .ref p] ∧ SrcAt H a c (m + 60) ∧ PoolAt a H p π ∧
  ∀ H', SrcAt H' a c m → Keep a H H' → Q (.bl true) H'
def tabW (T : Str) (q : Addr) : List V := [.str T, .str "a", .str "A", .str "", .int 3, .non, .str "?x", .ref q]
def sizW : List V := [.int 1, .int 2, .int 3, .int 2, .int 3, .int 0, .int 4, .int (-1), .bl true, .non, .str "2"]
theorem nm_bds10 {z : Str} (h : Nm z) : 1 ≤ z.length ∧ z.length ≤ 12 := by
  have := nm_sgns h
  rw [len_tl]
  exact ⟨this.2.2, this.2.1⟩
section
variable {K : PySem.W.Frag} {H : Hp}
theorem itm_int (i : Int) : Itm K H (.int i) := (any_int i).1
theorem itm_bl (b : Bool) : Itm K H (.bl b) := (any_bl b).1
theorem itm_non : Itm K H .non := any_non.1
theorem itm_lst0 {p : Addr} (e : H p = some (.lst [.int 0])) : Itm K H (.ref p) := by
  have o : Okl K H (.ref p) := .inr ⟨⟨"list", .base (.lst e), by decide +kernel⟩, fun z e => by cases e⟩
  exact ⟨o, .list [.int 0], .lst (SqL.of e) (.cons (.int 0) .nil), by simp [PyData.canLay0, PyData.canLayAll0], by simp [PyData.depth, PyData.depthAll]⟩
def PlK (K : PySem.W.Frag) (H : Hp) (x : V) : Prop := ∃ o, PlsAt K H x o ∧ ∀ ys, o = some ys → ∀ y ∈ ys, Itm K H y
theorem plk_lst {a : Addr} {ys : List V} (h : H a = some (.lst ys)) (l : ys.length ≤ 8) (w : ∀ y ∈ ys, WhlAt K H y ∧ Itm K H y) : PlK K H (.ref a) :=
  ⟨some ys, ⟨⟨a, rfl, .inl ⟨SqL.of h, .base (.lst h)⟩⟩, l, fun y m => (w y m).1⟩, fun _ e y m => (w y (by cases e; exact m)).2⟩
theorem plk_tup {a : Addr} {ys : List V} (h : H a = some (.tup ys)) (l : ys.length ≤ 8) (w : ∀ y ∈ ys, WhlAt K H y ∧ Itm K H y) : PlK K H (.ref a) :=
  ⟨some ys, ⟨⟨a, rfl, .inr ⟨SqT.of h, .base (.tup h)⟩⟩, l, fun y m => (w y m).1⟩, fun _ e y m => (w y (by cases e; exact m)).2⟩
theorem plk_no {x : V} {n : String} (t : TyX K H x (.type n)) (a : kitB n "list" = some false) (b : kitB n "tuple" = some false) : PlK K H x := ⟨none, ⟨n, t, a, b⟩, fun _ e => by cases e⟩
theorem w_ints (ps : List Int) : ∀ y ∈ ps.map V.int, WhlAt K H y ∧ Itm K H y := fun y m => by
  obtain ⟨i, _, rfl⟩ := List.mem_map.mp m
  exact ⟨whl_int i, itm_int i⟩
theorem w_more {ps : List Int} {z : V} (h : WhlAt K H z ∧ Itm K H z) : ∀ y ∈ ps.map V.int ++ [z], WhlAt K H y ∧ Itm K H y := fun y m => by
  rcases List.mem_append.mp m with m | m
  · exact w_ints ps y m
  · rw [List.mem_singleton.mp m]
    exact h
def oddP (t1 e1 e2 d y2 y3 : Addr) : List V := [.ref t1, .ref e1, .ref e2, .non, .int 1, .str (Str.ofString "01"), .ref d, .ref y2, .ref y3]
theorem plk_odd {ps : List Int} {t1 e1 e2 d y1 y2 y3 : Addr} {kvs : List (Key × V)} (lp : ps.length ≤ 3) (h1 : H t1 = some (.tup (ps.map V.int))) (h2 : H e1 = some (.lst (ps.map V.int ++ [.bl false]))) (h3 : H e2 = some (.lst (ps.map V.int ++ [.str (Str.ofString "0")])))
    (h4 : H d = some (.dK kvs)) (h5 : H y1 = some (.lst [.int 0])) (h6 : H y2 = some (.lst [.ref y1])) (h7 : H y3 = some (.lst [.non])) : ∀ x ∈ oddP t1 e1 e2 d y2 y3, PlK K H x := fun x m => by
  unfold oddP at m
  simp only [List.mem_cons, List.not_mem_nil, or_false] at m
  rcases m with rfl | rfl | rfl | rfl | rfl | rfl | rfl | rfl | rfl
  · exact plk_tup h1 (by rw [List.length_map]; omega) (w_ints ps)
  · exact plk_lst h2 (by rw [List.length_append, List.length_map]; show ps.length + 1 ≤ 8; omega) (w_more ⟨whl_bl false, itm_bl false⟩)
  · exact plk_lst h3 (by rw [List.length_append, List.length_map]; show ps.length + 1 ≤ 8; omega) (w_more ⟨whl_str _, (any_str (by decide +kernel) (by decide +kernel)).1⟩)
  · exact plk_no (n := "NoneType") (.base .non) (by decide +kernel) (by decide +kernel)
  · exact plk_no (n := "int") (.base (.int 1)) (by decide +kernel) (by decide +kernel)
  · exact plk_no (n := "str") (.base (.str _)) (by decide +kernel) (by decide +kernel)
  · exact plk_no (n := "dict") (.base (.dK h4)) (by decide +kernel) (by decide +kernel)
  · exact plk_lst h6 (by show 1 ≤ 8; decide) fun y m => by rw [List.mem_singleton.mp m]; exact ⟨whl_lst h5, itm_lst0 h5⟩
  · exact plk_lst h7 (by show 1 ≤ 8; decide) fun y m => by rw [List.mem_singleton.mp m]; exact ⟨whl_non, itm_non⟩
theorem whl_siz : ∀ x ∈ sizW, WhlAt K H x := fun x m => by
  unfold sizW at m
  simp only [List.mem_cons, List.not_mem_nil, or_false] at m
  rcases m with rfl | rfl | rfl | rfl | rfl | rfl | rfl | rfl | rfl | rfl | rfl <;> first | exact whl_int _ | exact whl_bl _ | exact whl_non | exact whl_str _
theorem okl_tab {T : Str} {q : Addr} (n : Nm T) (h : H q = some (.tup [.str (Str.ofString "a")])) : ∀ x ∈ tabW T q, Okl K H x := fun x m => by
  unfold tabW at m
  simp only [List.mem_cons, List.not_mem_nil, or_false] at m
  rcases m with rfl | rfl | rfl | rfl | rfl | rfl | rfl | rfl
  · exact (any_str (Nat.le_trans (nm_bds10 n).2 (by decide)) fun c hc => Nat.lt_trans (sgn_ne21 (chr_nm21 n c hc)).2.2.2 (by decide)).1.1
  · exact (any_str (by decide +kernel) (by decide +kernel)).1.1
  · exact (any_str (by decide +kernel) (by decide +kernel)).1.1
  · exact (any_str (by decide +kernel) (by decide +kernel)).1.1
  · exact (any_int 3).1.1
  · exact any_non.1.1
  · exact (any_str (by decide +kernel) (by decide +kernel)).1.1
  · exact (any_tup h (by decide +kernel) (by decide +kernel)).1.1
theorem dps_ints : ∀ ns : List Int, DpAll K H (ns.map V.int) (ns.map PyData.int)
  | [] => .nil
  | i :: ns => .cons (.int i) (dps_ints ns)
end
theorem ints_lay : ∀ ns : List Int, PyData.canLayAll0 (ns.map PyData.int) = true ∧ PyData.depthAll (ns.map PyData.int) ≤ 1
  | [] => by simp [PyData.canLayAll0, PyData.depthAll]
  | i :: ns => by
    obtain ⟨h1, h2⟩ := ints_lay ns
    rw [List.map_cons]
    refine ⟨by simp [PyData.canLayAll0, PyData.canLay0, h1], ?_⟩
    simp only [PyData.depthAll, PyData.depth]
    omega
def keyD (z : Str) (i : Int) (ns : List Int) : PyData := .tuple [.str z, .int i, .tuple (ns.map PyData.int)]
theorem keyD_shaped {z : Str} (h : PyData.strOk z = true) (i : Int) (ns : List Int) : SeqAt.shaped (keyD z i ns) = true := by
  obtain ⟨h1, h2⟩ := ints_lay ns
  unfold keyD
  show (PyData.canLay0 (.tuple _) && decide (PyData.depth (.tuple _) ≤ 64)) = true
  rw [Bool.and_eq_true]
  refine ⟨by simp [PyData.canLay0, PyData.canLayAll0, h, h1], decide_eq_true ?_⟩
  simp only [PyData.depth, PyData.depthAll]
  omega
def badD : PyData := .tuple [.str (Str.ofString "bad")]
theorem badD_shaped : SeqAt.shaped badD = true := by decide +kernel
theorem sorted_one {ms ns : List Int} (p : ms.Perm ns) (h : ms.Pairwise (· ≤ ·)) (g : ns.Pairwise (· ≤ ·)) : ms = ns := List.Perm.eq_of_pairwise (fun a b _ _ x y => Int.le_antisymm x y) h g p
end L2.LawH
set_option Elab.async false
set_option linter.all false
set_option maxRecDepth 100000
set_option maxHeartbeats 4000000
/-! _law_keys. -/
namespace L2.LawH
open PySem PySem.Spec PyProof.Rows L2.TxtSet TL L2.NumSeq
section
variable {P : Program} {w : World} {K : PySem.W.Frag} {mg : Str → Option Value} {base : Heap}
abbrev nKeys : List Str := ["_law_source_here", "_law_pool_here", "_law_k", "_law_table", "_law_size", "_law_places", "_law_way", "_law_odd_here", "_law_told", "_law_due", "_law_j"]
theorem scKeys : FnScope nKeys ["_law_source_here", "_law_pool_here"] (defScope sKeys) := ⟨rfl, rfl, rfl, by decide +kernel, rfl, by decide +kernel, by decide +kernel⟩
theorem ok_keys {f fD fT fF : Addr} {fd fdD fdT fdF : FuncData} (F : Fun K "_law_keys" "_law_keys" sKeys f fd)
    (GD : FnOk P w K mg base CX0 1 fD fdD ["_law_source_here", "_law_limit"] spDraw) (kD : PySem.W.keepIn K (.ref fD) = true) (bD : Binds K fdD ["_law_source_here", "_law_limit"] []) (mD : mg "_law_draw" = some (.ref fD))
    (GT : FnOk P w K mg base CX0 5 fT fdT ["_law_table", "_law_size", "_law_places"] (spKTold K)) (kT : PySem.W.keepIn K (.ref fT) = true) (bT : Binds K fdT ["_law_table", "_law_size", "_law_places"] []) (mT : mg "_law_key_told" = some (.ref fT))
    (GF : FnOk P w K mg base CX0 2 fF fdF ["_law_table", "_law_size", "_law_places"] (spKFine K)) (kF : PySem.W.keepIn K (.ref fF) = true) (bF : Binds K fdF ["_law_table", "_law_size", "_law_places"] []) (mF : mg "_law_key_fine" = some (.ref fF))
    (mr : mg "range" = none) (mm : mg "min" = none) (mi : mg "int" = none) (mt : mg "tuple" = none) (ms : mg "sorted" = none) (mL : mg "list" = none) : FnOk P w K mg base CX0 6 f fd ["_law_source_here", "_law_pool_here"] spKeys := by
  refine F.ok scKeys (fun vs H Q E h => ?_) (fun cdv A outer s H vs Q E hr h => ?_)
  · obtain ⟨a, p, c, m, π, rfl, _⟩ := h
    rfl
  · obtain ⟨a, p, c, m, π, rfl, hs, hp, k⟩ := h
    have hu := hr.units
    have hr1 : Room 1 _ := hr.mono (by decide)
    have hr2 : Room 2 _ := hr.mono (by decide)
    refine ⟨_, pss_cons (ps_for PassesOwn.never rfl (pi_range1 rfl mr (pa_cons pe_int pa_nil)) (pg_name (i := 2) scKeys.nd rfl (Or.inl rfl))
        (pss_cons (ps_set (i := 3) scKeys.nd rfl (Or.inl rfl) (pe_ix ix_list (pe_lst (pa_cons (pe_ix ix_tup (pe_ix ix_list (pe_ix ix_list (pv 1) pe_int (fun _ _ => rfl)) pe_int (fun _ _ => rfl)) pe_int (fun _ _ => rfl))
            (pa_cons pe_str (pa_cons pe_str (pa_cons pe_str (pa_cons pe_int (pa_cons pe_non (pa_cons pe_str (pa_cons (pe_tup (pa_cons pe_str pa_nil)) pa_nil)))))))))
            (pe_callB (call_min2 rfl) (by rfl) mm (by decide +kernel) (pa_cons pe_int (pa_cons (pe_op op_fdiv (pe_call GD hr1 (by rfl) mD kD bD .nil pass0 (pa_cons (pv 0) (pa_cons pe_int pa_nil))) pe_int) pa_nil))) (fun _ _ => rfl)))
        (pss_cons (ps_set (i := 4) scKeys.nd rfl (Or.inl rfl) (pe_ix ix_list (pe_lst (pa_cons pe_int (pa_cons pe_int (pa_cons pe_int (pa_cons pe_int (pa_cons pe_int (pa_cons pe_int (pa_cons pe_int (pa_cons (pe_un un_neg pe_int) (pa_cons pe_bl (pa_cons pe_non (pa_cons pe_str pa_nil))))))))))))
            (pe_call GD hr1 (by rfl) mD kD bD .nil pass0 (pa_cons (pv 0) (pa_cons pe_int pa_nil))) (fun _ _ => rfl)))
        (pss_cons (ps_setLc (i := 5) (own := [("_law_j", 10)]) (g := gName 10) (tt := tYes) rfl scKeys.nd rfl rfl (sw_true rfl rfl rfl (by decide +kernel))
            (pi_range1 rfl mr (pa_cons (pe_call GD hr1 (by rfl) mD kD bD .nil pass0 (pa_cons (pv 0) (pa_cons pe_int pa_nil))) pa_nil))
            (blkOk_by (own := [("_law_j", 10)]) (N := nKeys) (sc := defScope sKeys) (by decide +kernel)) (fun _ _ _ _ _ => pg_name (i := 10) scKeys.nd rfl (Or.inl rfl)) (fun _ _ _ _ _ => pts_nil)
            (fun _ _ _ _ _ => pe_op op_sub (pe_call GD hr1 (by rfl) mD kD bD .nil pass0 (pa_cons (pv 0) (pa_cons pe_int pa_nil)))
              (pe_callTy call_int1 (by rfl) mi (by decide +kernel) (pa_cons (pe_cmpR op_eq (pe_call GD hr1 (by rfl) mD kD bD .nil pass0 (pa_cons (pv 0) (pa_cons pe_int pa_nil))) pe_int (nomark _)) pa_nil))))
        (pss_cons (ps_set (i := 6) scKeys.nd rfl (Or.inl rfl) (pe_call GD hr1 (by rfl) mD kD bD .nil pass0 (pa_cons (pv 0) (pa_cons pe_int pa_nil))))
        (pss_cons (ps_set (i := 7) scKeys.nd rfl (Or.inl rfl) (pe_lst (pa_cons (pe_callTy call_tuple_of (by rfl) mt (by decide +kernel) (pa_cons (pv 5) pa_nil)) (pa_cons (pe_op op_cat (pv 5) (pe_lst (pa_cons pe_bl pa_nil))) (pa_cons (pe_op op_cat (pv 5) (pe_lst (pa_cons pe_str pa_nil)))
            (pa_cons pe_non (pa_cons pe_int (pa_cons pe_str (pa_cons (pe_disp (pps_cons pe_int pe_bl pps_nil) rfl rfl (by simp) (by decide)) (pa_cons (pe_lst (pa_cons (pe_lst (pa_cons pe_int pa_nil)) pa_nil)) (pa_cons (pe_lst (pa_cons pe_non pa_nil)) pa_nil)))))))))))
        (pss_cons (ps_set (i := 5) scKeys.nd rfl (Or.inl rfl) (pe_ifExp (pt_cmpR op_gt (pv 6) pe_int (nomark _)) (pe_ix ix_list (pv 7) (pe_op op_sub (pv 6) pe_int) (fun _ _ => rfl)) (pv 5)))
        (pss_cons (ps_set (i := 8) scKeys.nd rfl (Or.inl rfl) (pe_call GT hr (by rfl) mT kT bT .nil pass0 (pa_cons (pv 3) (pa_cons (pv 4) (pa_cons (pv 5) pa_nil)))))
        (pss_cons (ps_set (i := 9) scKeys.nd rfl (Or.inl rfl) (pe_tup (pa_cons pe_str pa_nil)))
        (pss_cons (ps_if (pt_val (pe_call GF hr2 (by rfl) mF kF bF .nil pass0 (pa_cons (pv 3) (pa_cons (pv 4) (pa_cons (pv 5) pa_nil))))) (pss_one (ps_set (i := 9) scKeys.nd rfl (Or.inl rfl) (pe_tup (pa_cons (pv 3) (pa_cons (pv 4) (pa_cons (pe_callTy call_tuple_of (by rfl) mt (by decide +kernel) (pa_cons (pe_callB cr_sortN (by rfl) ms (by decide +kernel) (pa_cons (pe_callTy call_list_of (by rfl) mL (by decide +kernel) (pa_cons (pv 5) pa_nil)) pa_nil)) pa_nil)) pa_nil)))))) pss_nil)
        (pss_one (ps_if (pt_cmpR (op_neD hu) (pv 8) (pv 9) (by rfl)) (pss_one (ps_ret pe_bl)) pss_nil))))))))))))
      (pss_one (ps_ret pe_bl)), ?_⟩
    refine ⟨_, rfl, by decide, by decide, for_range (lo := 0) (n := 6) (fun i σ H3 => ∃ (v2 v3 v4 v5 v6 v7 v8 v9 v10 : Option V), σ = [some (.ref a), some (.ref p), v2, v3, v4, v5, v6, v7, v8, v9, v10] ∧ SrcAt H3 a c (m + 10 * (6 - i)) ∧ Keep a H H3)
      ⟨none, none, none, none, none, none, none, none, none, rfl, hs, Keep.refl _ _⟩ ?_ ?_⟩
    · rintro i σ H3 hi ⟨v2, v3, v4, v5, v6, v7, v8, v9, v10, rfl, s3, k3⟩
      have hp3 := hp.keep k3
      obtain ⟨x0, r0, er⟩ : ∃ x0 r0, π.rows = x0 :: r0 := by
        cases e : π.rows with
        | nil =>
          have := hp.rows1
          rw [e] at this
          exact absurd this (by decide)
        | cons x r => exact ⟨x, r, rfl⟩
      obtain ⟨ht0, nT0, _, _⟩ := hp3.hrow x0 (by rw [er]; exact List.mem_cons_self)
      -- table
      refine ⟨_, rfl, p, _, 0, _, rfl, rfl, SqL.of hp3.hp, rfl, π.r, _, 0, _, rfl, rfl, SqL.of hp3.hr, by rw [er]; exact atI_nat (j := 0) rfl, x0.1, _, 0, _, rfl, rfl, SqT.of ht0, rfl, ?_⟩
      refine ⟨by show 1 ≤ sizeLine; decide, fun q1 n1 => ?_⟩
      have z1 := s3.ne n1
      have s4 : Same H3 (upd H3 q1 (.tup [.str (Str.ofString "a")])) := same_new n1
      have c4 : (upd H3 q1 (.tup [.str (Str.ofString "a")])) q1 = some (.tup [.str (Str.ofString "a")]) := upd_same
      generalize upd H3 q1 (.tup [.str (Str.ofString "a")]) = H4 at s4 c4 ⊢
      refine ⟨by show 8 ≤ sizeLine; decide, fun l1 m1 => ?_⟩
      have zl1 := (s3.same s4).ne m1
      have m1 : H4 l1 = none := m1
      generalize hG5 : upd H4 l1 _ = H5
      have c5 : H5 l1 = some (.lst (tabW x0.2.1 q1)) := by
        rw [← hG5]
        exact upd_same
      have s5 : Same H4 H5 := by
        rw [← hG5]
        exact same_new m1
      clear hG5
      have src5 := (s3.same s4).same s5
      have K5 := (k3.trans (Keep.of s4)).trans (Keep.of s5)
      refine ⟨_, rfl, a, c, m + 10 * (6 - (i + 1)) + 9, 16, rfl, src5.mono (by omega), by decide, by decide, fun r1 H6 r10 r11 s6 k6 => ⟨r1, 2, rfl, rfl, ⟨by decide, by decide⟩, 7, r1 / 2, rfl, ?_⟩⟩
      obtain ⟨j1, hj1, ej⟩ : ∃ j1 : Nat, j1 < 8 ∧ (if r1 / 2 < 7 then r1 / 2 else 7) = (j1 : Int) := ⟨(if r1 / 2 < 7 then r1 / 2 else 7).toNat, by split <;> omega, by split <;> omega⟩
      rw [ej]
      have hj1' : j1 < (tabW x0.2.1 q1).length := hj1
      refine ⟨l1, _, _, _, rfl, rfl, SqL.of (k6 _ _ c5 zl1), atI_nat (List.getElem?_eq_getElem hj1'), ?_⟩
      have mt1 : (tabW x0.2.1 q1)[j1] ∈ tabW x0.2.1 q1 := List.getElem_mem hj1'
      generalize (tabW x0.2.1 q1)[j1] = tv at mt1 ⊢
      have K6 := K5.trans k6
      have c6 := k6 _ _ (s5 _ _ c4) z1
      -- size
      refine ⟨1, rfl, by show 11 ≤ sizeLine; decide, fun l2 m2 => ?_⟩
      have src6 : SrcAt H6 a c (m + 10 * (6 - (i + 1)) + 9) := s6
      have zl2 := src6.ne m2
      have m2 : H6 l2 = none := m2
      generalize hG7 : upd H6 l2 _ = H7
      have c7 : H7 l2 = some (.lst sizW) := by
        rw [← hG7]
        exact upd_same
      have s7 : Same H6 H7 := by
        rw [← hG7]
        exact same_new m2
      clear hG7
      refine ⟨_, rfl, a, c, m + 10 * (6 - (i + 1)) + 8, 11, rfl, src6.same s7, by decide, by decide, fun r2 H8 r20 r21 s8 k8 => ?_⟩
      obtain ⟨j2, rfl⟩ : ∃ j : Nat, r2 = j := ⟨r2.toNat, by omega⟩
      have hj2 : j2 < sizW.length := by
        show j2 < 11
        omega
      refine ⟨l2, _, _, _, rfl, rfl, SqL.of (k8 _ _ c7 zl2), atI_nat (List.getElem?_eq_getElem hj2), ?_⟩
      have mt2 : sizW[j2] ∈ sizW := List.getElem_mem hj2
      generalize sizW[j2] = nv at mt2 ⊢
      have K8 := (K6.trans (Keep.of s7)).trans k8
      have c8 := k8 _ _ (s7 _ _ c6) z1
      -- places
      refine ⟨_, rfl, a, c, m + 10 * (6 - (i + 1)) + 7, 4, rfl, s8, by decide, by decide, fun r3 H9 r30 r31 s9 k9 => ⟨_, rfl, by omega, by omega, fun D nD => ?_⟩⟩
      have zD := s9.ne nD
      refine lc_range (lo := 0) (n := r3.toNat) (fun t H10 => ∃ ps : List Int, ps.length = t ∧ H10 D = some (.lst (ps.map V.int)) ∧ SrcAt H10 a c (m + 10 * (6 - (i + 1)) + 7 - 2 * t) ∧ Keep a H9 H10)
        ⟨[], rfl, upd_same, s9.same (same_new nD), Keep.of (same_new nD)⟩ ?_ ?_
      · rintro t H10 ht ⟨ps, lp, hD, s10, k10⟩
        refine ⟨rfl, ?_⟩
        dsimp only [tYes]
        rw [if_pos rfl]
        refine ⟨_, rfl, a, c, m + 10 * (6 - (i + 1)) + 7 - 2 * t - 1, 4, rfl, s10.mono (by omega), by decide, by decide, fun r4 H11 r40 r41 s11 k11 => ?_⟩
        refine ⟨_, rfl, a, c, m + 10 * (6 - (i + 1)) + 7 - 2 * t - 2, 9, rfl, s11.mono (by omega), by decide, by decide, fun r5 H12 r50 r51 s12 k12 => ?_⟩
        refine ⟨rfl, .inr ⟨_, rfl, _, _, rfl, rfl, _, k12 _ _ (k11 _ _ hD zD) zD, by rw [List.length_map, sizeLine_eq]; omega, ps ++ [_], by rw [List.length_append, lp]; rfl, by rw [upd_same, List.map_append]; rfl, ?_, ?_⟩⟩
        · obtain ⟨d, nn, e, g⟩ := s12
          exact ⟨d, nn, by rw [upd_ne zD.symm]; exact e, by omega⟩
        · intro b o e nb
          rw [upd_ne (ne_of_none e nD)]
          exact k12 _ _ (k11 _ _ (k10 _ _ e nb) nb) nb
      · rintro H10 ⟨ps, lp, hD, s10, k10⟩
        refine ⟨_, rfl, a, c, m + 10 * (6 - (i + 1)), 11, rfl, s10.mono (by omega), by decide, by decide, fun r6 H11 r60 r61 s11 k11 => ?_⟩
        obtain ⟨j6, rfl⟩ : ∃ j : Nat, r6 = j := ⟨r6.toNat, by omega⟩
        have hD11 := k11 _ _ hD zD
        have c11 := k11 _ _ (k10 _ _ (k9 _ _ c8 z1) z1) z1
        have K11 := ((K8.trans k9).trans k10).trans k11
        have lp8 : ps.length ≤ 3 := by omega
        -- the odd ones
        refine ⟨_, rfl, D, _, rfl, .inl ⟨SqL.of hD11, fun t1 nt1 => ?_⟩⟩
        have s12 : Same H11 (upd H11 t1 (.tup (ps.map V.int))) := same_new nt1
        have c12 : (upd H11 t1 (.tup (ps.map V.int))) t1 = some (.tup (ps.map V.int)) := upd_same
        generalize upd H11 t1 (.tup (ps.map V.int)) = H12 at s12 c12 ⊢
        refine ⟨_, rfl, by show 1 ≤ sizeLine; decide, fun x1 nx1 => ?_⟩
        have s13 : Same H12 (upd H12 x1 (.lst [.bl false])) := same_new nx1
        have c13 : (upd H12 x1 (.lst [.bl false])) x1 = some (.lst [.bl false]) := upd_same
        generalize upd H12 x1 (.lst [.bl false]) = H13 at s13 c13 ⊢
        refine ⟨D, x1, _, _, rfl, rfl, s13 _ _ (s12 _ _ hD11), c13, by rw [List.length_map, sizeLine_eq]; show ps.length + 1 ≤ _; omega, fun e1 ne1 => ?_⟩
        have s14 : Same H13 (upd H13 e1 (.lst (ps.map V.int ++ [.bl false]))) := same_new ne1
        have c14 : (upd H13 e1 (.lst (ps.map V.int ++ [.bl false]))) e1 = some (.lst (ps.map V.int ++ [.bl false])) := upd_same
        generalize upd H13 e1 (.lst (ps.map V.int ++ [.bl false])) = H14 at s14 c14 ⊢
        refine ⟨_, rfl, by show 1 ≤ sizeLine; decide, fun x2 nx2 => ?_⟩
        have s15 : Same H14 (upd H14 x2 (.lst [.str (Str.ofString "0")])) := same_new nx2
        have c15 : (upd H14 x2 (.lst [.str (Str.ofString "0")])) x2 = some (.lst [.str (Str.ofString "0")]) := upd_same
        generalize upd H14 x2 (.lst [.str (Str.ofString "0")]) = H15 at s15 c15 ⊢
        refine ⟨D, x2, _, _, rfl, rfl, s15 _ _ (s14 _ _ (s13 _ _ (s12 _ _ hD11))), c15, by rw [List.length_map, sizeLine_eq]; show ps.length + 1 ≤ _; omega, fun e2 ne2 => ?_⟩
        have s16 : Same H15 (upd H15 e2 (.lst (ps.map V.int ++ [.str (Str.ofString "0")]))) := same_new ne2
        have c16 : (upd H15 e2 (.lst (ps.map V.int ++ [.str (Str.ofString "0")]))) e2 = some (.lst (ps.map V.int ++ [.str (Str.ofString "0")])) := upd_same
        generalize upd H15 e2 (.lst (ps.map V.int ++ [.str (Str.ofString "0")])) = H16 at s16 c16 ⊢
        refine fun d nd => ⟨upd_same, [(Sum.inl 0, .bl true)], rfl, by simp, ?_⟩
        have s17 : Same H16 (upd (upd H16 d (.dK [])) d (.dK (mergeK [] [(Sum.inl 0, .bl true)]))) := fun b u e => by
          rw [upd_ne (ne_of_none e nd), upd_ne (ne_of_none e nd)]
          exact e
        have c17 : (upd (upd H16 d (.dK [])) d (.dK (mergeK [] [(Sum.inl 0, .bl true)]))) d = some (.dK (mergeK [] [(Sum.inl 0, .bl true)])) := upd_same
        generalize upd (upd H16 d (.dK [])) d (.dK (mergeK [] [(Sum.inl 0, .bl true)])) = H17 at s17 c17 ⊢
        refine ⟨by show 1 ≤ sizeLine; decide, fun y1 ny1 => ?_⟩
        have s18 : Same H17 (upd H17 y1 (.lst [.int 0])) := same_new ny1
        have c18 : (upd H17 y1 (.lst [.int 0])) y1 = some (.lst [.int 0]) := upd_same
        generalize upd H17 y1 (.lst [.int 0]) = H18 at s18 c18 ⊢
        refine ⟨by show 1 ≤ sizeLine; decide, fun y2 ny2 => ?_⟩
        have s19 : Same H18 (upd H18 y2 (.lst [.ref y1])) := same_new ny2
        have c19 : (upd H18 y2 (.lst [.ref y1])) y2 = some (.lst [.ref y1]) := upd_same
        generalize upd H18 y2 (.lst [.ref y1]) = H19 at s19 c19 ⊢
        refine ⟨by show 1 ≤ sizeLine; decide, fun y3 ny3 => ?_⟩
        have s20 : Same H19 (upd H19 y3 (.lst [.non])) := same_new ny3
        have c20 : (upd H19 y3 (.lst [.non])) y3 = some (.lst [.non]) := upd_same
        generalize upd H19 y3 (.lst [.non]) = H20 at s20 c20 ⊢
        refine ⟨by show 9 ≤ sizeLine; decide, fun O nO => ?_⟩
        have nO : H20 O = none := nO
        generalize hG21 : upd H20 O _ = H21
        have c21 : H21 O = some (.lst [.ref t1, .ref e1, .ref e2, .non, .int 1, .str (Str.ofString "01"), .ref d, .ref y2, .ref y3]) := by
          rw [← hG21]
          exact upd_same
        have s21 : Same H20 H21 := by
          rw [← hG21]
          exact same_new nO
        clear hG21
        have S20 := s20.trans s21
        have S19 := s19.trans S20
        have S18 := s18.trans S19
        have S17 := s17.trans S18
        have S16 := s16.trans S17
        have S15 := s15.trans S16
        have S14 := s14.trans S15
        have S13 := s13.trans S14
        have S12 := s12.trans S13
        have plO : ∀ x ∈ oddP t1 e1 e2 d y2 y3, PlK K H21 x := plk_odd lp8 (S13 _ _ c12) (S15 _ _ c14) (S17 _ _ c16) (S18 _ _ c17) (S19 _ _ c18) (S20 _ _ c19) (s21 _ _ c20)
        have cq := S12 _ _ c11
        have oT := okl_tab (K := K) nT0 cq tv mt1
        have wn : WhlAt K H21 nv := whl_siz nv mt2
        obtain ⟨x, o, px, ix, hx⟩ : ∃ x o, PlsAt K H21 x o ∧ (∀ ys, o = some ys → ∀ y ∈ ys, Itm K H21 y) ∧ ((1 < (j6 : Int) ∧ atI (oddP t1 e1 e2 d y2 y3) ((j6 : Int) - 2) = some x) ∨ (¬ 1 < (j6 : Int) ∧ x = .ref D)) := by
          by_cases lt : 1 < (j6 : Int)
          · have hj : j6 - 2 < (oddP t1 e1 e2 d y2 y3).length := by
              show j6 - 2 < 9
              omega
            obtain ⟨o, h1, h2⟩ := plO _ (List.getElem_mem hj)
            exact ⟨_, o, h1, h2, .inl ⟨lt, by rw [show (j6 : Int) - 2 = ((j6 - 2 : Nat) : Int) by omega]; exact atI_nat (List.getElem?_eq_getElem hj)⟩⟩
          · obtain ⟨o, h1, h2⟩ := plk_lst (K := K) (S12 _ _ hD11) (by rw [List.length_map]; omega) (w_ints ps)
            exact ⟨_, o, h1, h2, .inr ⟨lt, rfl⟩⟩
        have src21 := s11.same S12
        have K21 := K11.trans (Keep.of S12)
        clear plO S13 S14 S15 S16 S17 S18 S19 S20
        rcases hx with ⟨lt, hat⟩ | ⟨ge, rfl⟩
        · refine ⟨_, rfl, _, _, rfl, rfl, _, rfl, ite2 (fun _ => ⟨_, rfl, _, rfl, _, _, rfl, rfl, O, _, _, _, rfl, rfl, SqL.of c21, hat, ?_⟩) (fun n => absurd (decide_eq_true lt) n)⟩
          refine ⟨_, rfl, _, rfl, _, rfl, tv, nv, _, o, rfl, oT.okv, wn, px, fun e H22 r s22 nr hr => ?_, fun e z ii ns ms H22 r t f1 f2 f3 pm so s22 nr hr ht => ?_⟩
          · refine ⟨by show 1 ≤ sizeLine; decide, fun u nu => ?_⟩
            have s23 : Same H22 (upd H22 u (.tup [.str (Str.ofString "bad")])) := same_new nu
            have c23 : (upd H22 u (.tup [.str (Str.ofString "bad")])) u = some (.tup [.str (Str.ofString "bad")]) := upd_same
            generalize upd H22 u (.tup [.str (Str.ofString "bad")]) = H23 at s23 c23 ⊢
            have T23 := s22.trans s23
            refine ⟨_, rfl, _, rfl, _, rfl, tv, nv, _, o, rfl, oT.same T23, wn.same T23, px.same T23, fun ys ey y my => (ix ys ey y my).same T23, fun H24 s24 => ⟨_, rfl, ?_⟩⟩
            rw [e]
            refine iteF ?_
            refine ⟨_, rfl, _, rfl, badD, badD, .tup (SqT.of (s24 _ _ (s23 _ _ hr))) (.cons (.str _) .nil), .tup (SqT.of (s24 _ _ c23)) (.cons (.str _) .nil), badD_shaped, badD_shaped, _, rfl, ?_⟩
            rw [show PyData.eqv badD badD = true from SeqAt.eqv_refl _ (SeqAt.canLay_of_shaped badD_shaped)]
            exact iteF ⟨_, _, _, _, _, _, _, _, _, rfl, src21.same (T23.trans s24), K21.trans (Keep.of (T23.trans s24))⟩
          · subst f1 f2 f3
            refine ⟨by show 1 ≤ sizeLine; decide, fun u nu => ?_⟩
            have s23 : Same H22 (upd H22 u (.tup [.str (Str.ofString "bad")])) := same_new nu
            generalize upd H22 u (.tup [.str (Str.ofString "bad")]) = H23 at s23 ⊢
            have T23 := s22.trans s23
            refine ⟨_, rfl, _, rfl, _, rfl, V.str z, V.int ii, _, some (ns.map V.int), rfl, oT.same T23, wn.same T23, px.same T23, fun ys ey y my => (ix ys ey y my).same T23, fun H24 s24 => ⟨_, rfl, ?_⟩⟩
            rw [e]
            refine iteT ?_
            have T24 := T23.trans s24
            obtain ⟨⟨ax, ex, hsx⟩, few, _⟩ := px.same T24
            refine ⟨_, rfl, _, rfl, _, rfl, ax, _, by rw [ex], hsx.imp (fun h => h.1) (fun h => h.1), fun l nl => ?_⟩
            have s25 : Same H24 (upd H24 l (.lst (ns.map V.int))) := same_new nl
            have c25 : (upd H24 l (.lst (ns.map V.int))) l = some (.lst (ns.map V.int)) := upd_same
            generalize upd H24 l (.lst (ns.map V.int)) = H25 at s25 c25 ⊢
            refine ⟨l, ns, rfl, .inl (SqL.of c25), fun ms2 l2 pm2 so2 nl2 => ?_⟩
            obtain rfl : ms = ms2 := sorted_one (pm.trans pm2.symm) so so2
            have s26 : Same H25 (upd H25 l2 (.lst (ms.map V.int))) := same_new nl2
            have c26 : (upd H25 l2 (.lst (ms.map V.int))) l2 = some (.lst (ms.map V.int)) := upd_same
            generalize upd H25 l2 (.lst (ms.map V.int)) = H26 at s26 c26 ⊢
            refine ⟨l2, _, rfl, .inl ⟨SqL.of c26, fun t2 nt2 => ?_⟩⟩
            have s27 : Same H26 (upd H26 t2 (.tup (ms.map V.int))) := same_new nt2
            have c27 : (upd H26 t2 (.tup (ms.map V.int))) t2 = some (.tup (ms.map V.int)) := upd_same
            generalize upd H26 t2 (.tup (ms.map V.int)) = H27 at s27 c27 ⊢
            refine ⟨by show 3 ≤ sizeLine; decide, fun u2 nu2 => ?_⟩
            have s28 : Same H27 (upd H27 u2 (.tup [.str z, .int ii, .ref t2])) := same_new nu2
            have c28 : (upd H27 u2 (.tup [.str z, .int ii, .ref t2])) u2 = some (.tup [.str z, .int ii, .ref t2]) := upd_same
            generalize upd H27 u2 (.tup [.str z, .int ii, .ref t2]) = H28 at s28 c28 ⊢
            have U : Same H22 H28 := ((((s23.trans s24).trans s25).trans s26).trans s27).trans s28
            have nz : Nm z := by
              have q := e
              unfold keyB at q
              rw [Bool.and_eq_true] at q
              exact q.1
            have okz : PyData.strOk z = true := ok_list fun c hc => Nat.lt_trans (sgn_ne21 (chr_nm21 nz c hc)).2.2.2 (by decide)
            have sh := keyD_shaped okz ii ms
            refine ⟨_, rfl, _, rfl, keyD z ii ms, keyD z ii ms, .tup (SqT.of (U _ _ hr)) (.cons (.str z) (.cons (.int ii) (.cons (.tup (SqT.of (U _ _ ht)) (dps_ints ms)) .nil))), .tup (SqT.of c28) (.cons (.str z) (.cons (.int ii) (.cons (.tup (SqT.of (s28 _ _ c27)) (dps_ints ms)) .nil))), sh, sh, _, rfl, ?_⟩
            rw [show PyData.eqv (keyD z ii ms) (keyD z ii ms) = true from SeqAt.eqv_refl _ (SeqAt.canLay_of_shaped sh)]
            exact iteF ⟨_, _, _, _, _, _, _, _, _, rfl, src21.same (s22.trans U), K21.trans (Keep.of (s22.trans U))⟩
        · refine ⟨_, rfl, _, _, rfl, rfl, _, rfl, ite2 (fun n => absurd (of_decide_eq_true n) ge) (fun _ => ⟨_, rfl, ?_⟩)⟩
          refine ⟨_, rfl, _, rfl, _, rfl, tv, nv, _, o, rfl, oT.okv, wn, px, fun e H22 r s22 nr hr => ?_, fun e z ii ns ms H22 r t f1 f2 f3 pm so s22 nr hr ht => ?_⟩
          · refine ⟨by show 1 ≤ sizeLine; decide, fun u nu => ?_⟩
            have s23 : Same H22 (upd H22 u (.tup [.str (Str.ofString "bad")])) := same_new nu
            have c23 : (upd H22 u (.tup [.str (Str.ofString "bad")])) u = some (.tup [.str (Str.ofString "bad")]) := upd_same
            generalize upd H22 u (.tup [.str (Str.ofString "bad")]) = H23 at s23 c23 ⊢
            have T23 := s22.trans s23
            refine ⟨_, rfl, _, rfl, _, rfl, tv, nv, _, o, rfl, oT.same T23, wn.same T23, px.same T23, fun ys ey y my => (ix ys ey y my).same T23, fun H24 s24 => ⟨_, rfl, ?_⟩⟩
            rw [e]
            refine iteF ?_
            refine ⟨_, rfl, _, rfl, badD, badD, .tup (SqT.of (s24 _ _ (s23 _ _ hr))) (.cons (.str _) .nil), .tup (SqT.of (s24 _ _ c23)) (.cons (.str _) .nil), badD_shaped, badD_shaped, _, rfl, ?_⟩
            rw [show PyData.eqv badD badD = true from SeqAt.eqv_refl _ (SeqAt.canLay_of_shaped badD_shaped)]
            exact iteF ⟨_, _, _, _, _, _, _, _, _, rfl, src21.same (T23.trans s24), K21.trans (Keep.of (T23.trans s24))⟩
          · subst f1 f2 f3
            refine ⟨by show 1 ≤ sizeLine; decide, fun u nu => ?_⟩
            have s23 : Same H22 (upd H22 u (.tup [.str (Str.ofString "bad")])) := same_new nu
            generalize upd H22 u (.tup [.str (Str.ofString "bad")]) = H23 at s23 ⊢
            have T23 := s22.trans s23
            refine ⟨_, rfl, _, rfl, _, rfl, V.str z, V.int ii, _, some (ns.map V.int), rfl, oT.same T23, wn.same T23, px.same T23, fun ys ey y my => (ix ys ey y my).same T23, fun H24 s24 => ⟨_, rfl, ?_⟩⟩
            rw [e]
            refine iteT ?_
            have T24 := T23.trans s24
            obtain ⟨⟨ax, ex, hsx⟩, few, _⟩ := px.same T24
            refine ⟨_, rfl, _, rfl, _, rfl, ax, _, by rw [ex], hsx.imp (fun h => h.1) (fun h => h.1), fun l nl => ?_⟩
            have s25 : Same H24 (upd H24 l (.lst (ns.map V.int))) := same_new nl
            have c25 : (upd H24 l (.lst (ns.map V.int))) l = some (.lst (ns.map V.int)) := upd_same
            generalize upd H24 l (.lst (ns.map V.int)) = H25 at s25 c25 ⊢
            refine ⟨l, ns, rfl, .inl (SqL.of c25), fun ms2 l2 pm2 so2 nl2 => ?_⟩
            obtain rfl : ms = ms2 := sorted_one (pm.trans pm2.symm) so so2
            have s26 : Same H25 (upd H25 l2 (.lst (ms.map V.int))) := same_new nl2
            have c26 : (upd H25 l2 (.lst (ms.map V.int))) l2 = some (.lst (ms.map V.int)) := upd_same
            generalize upd H25 l2 (.lst (ms.map V.int)) = H26 at s26 c26 ⊢
            refine ⟨l2, _, rfl, .inl ⟨SqL.of c26, fun t2 nt2 => ?_⟩⟩
            have s27 : Same H26 (upd H26 t2 (.tup (ms.map V.int))) := same_new nt2
            have c27 : (upd H26 t2 (.tup (ms.map V.int))) t2 = some (.tup (ms.map V.int)) := upd_same
            generalize upd H26 t2 (.tup (ms.map V.int)) = H27 at s27 c27 ⊢
            refine ⟨by show 3 ≤ sizeLine; decide, fun u2 nu2 => ?_⟩
            have s28 : Same H27 (upd H27 u2 (.tup [.str z, .int ii, .ref t2])) := same_new nu2
            have c28 : (upd H27 u2 (.tup [.str z, .int ii, .ref t2])) u2 = some (.tup [.str z, .int ii, .ref t2]) := upd_same
            generalize upd H27 u2 (.tup [.str z, .int ii, .ref t2]) = H28 at s28 c28 ⊢
            have U : Same H22 H28 := ((((s23.trans s24).trans s25).trans s26).trans s27).trans s28
            have nz : Nm z := by
              have q := e
              unfold keyB at q
              rw [Bool.and_eq_true] at q
              exact q.1
            have okz : PyData.strOk z = true := ok_list fun c hc => Nat.lt_trans (sgn_ne21 (chr_nm21 nz c hc)).2.2.2 (by decide)
            have sh := keyD_shaped okz ii ms
            refine ⟨_, rfl, _, rfl, keyD z ii ms, keyD z ii ms, .tup (SqT.of (U _ _ hr)) (.cons (.str z) (.cons (.int ii) (.cons (.tup (SqT.of (U _ _ ht)) (dps_ints ms)) .nil))), .tup (SqT.of c28) (.cons (.str z) (.cons (.int ii) (.cons (.tup (SqT.of (s28 _ _ c27)) (dps_ints ms)) .nil))), sh, sh, _, rfl, ?_⟩
            rw [show PyData.eqv (keyD z ii ms) (keyD z ii ms) = true from SeqAt.eqv_refl _ (SeqAt.canLay_of_shaped sh)]
            exact iteF ⟨_, _, _, _, _, _, _, _, _, rfl, src21.same (s22.trans U), K21.trans (Keep.of (s22.trans U))⟩
    · rintro σ H3 ⟨v2, v3, v4, v5, v6, v7, v8, v9, v10, rfl, s3, k3⟩
      exact k H3 (s3.mono (by omega)) k3
end
end L2.LawH
set_option Elab.async false
set_option linter.all false
set_option maxRecDepth 100000
set_option maxHeartbeats 4000000
/-! What repr tells of plain data: its signs and its length. -/
namespace L2.LawH
open PySem PySem.Spec PyProof.Rows L2.TxtSet TL
def Asc (z : Str) : Prop := ∀ c ∈ tl z, c < 128
theorem rep_chars : (List.range 128).all (fun c => [34, 39].all fun q => decide ((Builtin.Str.reprChar q c).length ≤ 4) && (Builtin.Str.reprChar q c).all fun x => decide (x < 128)) = true := by decide +kernel
theorem rep_char {q c : Nat} (hq : q = 34 ∨ q = 39) (hc : c < 128) : (Builtin.Str.reprChar q c).length ≤ 4 ∧ ∀ x ∈ Builtin.Str.reprChar q c, x < 128 := by
  have h := List.all_eq_true.mp rep_chars c (List.mem_range.mpr hc)
  have h := List.all_eq_true.mp h q (by rcases hq with rfl | rfl <;> simp)
  rw [Bool.and_eq_true, decide_eq_true_iff, List.all_eq_true] at h
  exact ⟨h.1, fun x m => of_decide_eq_true (h.2 x m)⟩
theorem asc_repr {z : Str} (h : Asc z) : Asc (reprText z) ∧ (reprText z).length ≤ 4 * z.length + 2 := by
  have hq : reprQuote z = 34 ∨ reprQuote z = 39 := by
    unfold reprQuote
    split
    · exact .inl rfl
    · exact .inr rfl
  have go : ∀ (l : List Nat) (acc : Array Nat), (∀ c ∈ l, c < 128) → (∀ c ∈ acc.toList, c < 128) → (∀ c ∈ (l.foldl (fun out c => out ++ (Builtin.Str.reprChar (reprQuote z) c).toArray) acc).toList, c < 128) ∧ (l.foldl (fun out c => out ++ (Builtin.Str.reprChar (reprQuote z) c).toArray) acc).size ≤ acc.size + 4 * l.length := by
    intro l
    induction l with
    | nil => exact fun acc _ ha => ⟨ha, by simp⟩
    | cons c l ih =>
      intro acc hl ha
      obtain ⟨g1, g2⟩ := rep_char hq (hl c List.mem_cons_self)
      obtain ⟨h1, h2⟩ := ih (acc ++ (Builtin.Str.reprChar (reprQuote z) c).toArray) (fun x m => hl x (List.mem_cons_of_mem _ m)) fun x m => by
        rw [Array.toList_append] at m
        rcases List.mem_append.mp m with m | m
        · exact ha x m
        · exact g2 x (by simpa using m)
      rw [List.foldl_cons]
      refine ⟨h1, ?_⟩
      have es : (acc ++ (Builtin.Str.reprChar (reprQuote z) c).toArray).size = acc.size + (Builtin.Str.reprChar (reprQuote z) c).length := by simp [Array.size_append]
      rw [List.length_cons]
      omega
  have q128 : reprQuote z < 128 := by rcases hq with e | e <;> rw [e] <;> decide
  obtain ⟨h1, h2⟩ := go z.cps.toList #[reprQuote z] h (by simpa using q128)
  have e : reprText z = ⟨(z.cps.toList.foldl (fun out c => out ++ (Builtin.Str.reprChar (reprQuote z) c).toArray) #[reprQuote z]).push (reprQuote z)⟩ := by
    unfold reprText
    rw [Array.foldl_toList]
  refine ⟨fun c hc => ?_, ?_⟩
  · rw [e] at hc
    have hc : c ∈ ((z.cps.toList.foldl (fun out c => out ++ (Builtin.Str.reprChar (reprQuote z) c).toArray) #[reprQuote z]).push (reprQuote z)).toList := hc
    rw [Array.toList_push] at hc
    rcases List.mem_append.mp hc with hc | hc
    · exact h1 c hc
    · rw [List.mem_singleton.mp hc]
      exact q128
  · rw [e]
    show ((z.cps.toList.foldl (fun out c => out ++ (Builtin.Str.reprChar (reprQuote z) c).toArray) #[reprQuote z]).push (reprQuote z)).size ≤ _
    rw [Array.size_push]
    have : z.cps.toList.length = z.length := length_toList z
    have : (#[reprQuote z] : Array Nat).size = 1 := rfl
    omega
theorem asc_app {a b : Str} (ha : Asc a) (hb : Asc b) : Asc (a ++ b) := fun c hc => by
  rw [tl_append] at hc
  exact (List.mem_append.mp hc).elim (ha c) (hb c)
theorem asc_join {sep : Str} (hs : Asc sep) : ∀ ys : List Str, (∀ y ∈ ys, Asc y) → Asc (Str.join sep ys)
  | [], _ => by
    show Asc Str.empty
    exact fun c hc => by cases hc
  | [x], h => h x List.mem_cons_self
  | x :: y :: r, h => asc_app (asc_app (h x List.mem_cons_self) hs) (asc_join hs (y :: r) fun z m => h z (List.mem_cons_of_mem _ m))
theorem asc_from : ∀ (ts : List Str) (k : Nat) (acc : Str) (B : Nat), Asc acc → (∀ t ∈ ts, Asc t ∧ t.length ≤ B) → Asc (textFrom k acc ts) ∧ (textFrom k acc ts).length ≤ acc.length + ts.length * (B + 2)
  | [], k, acc, B, ha, _ => ⟨ha, by show acc.length ≤ _; omega⟩
  | t :: ts, k, acc, B, ha, h => by
    have sep : Asc (Str.ofString (if k > 0 then ", " else "" : String)) ∧ (Str.ofString (if k > 0 then ", " else "" : String)).length ≤ 2 := by
      split
      · exact ⟨by unfold Asc; decide +kernel, by decide +kernel⟩
      · exact ⟨by unfold Asc; decide +kernel, by decide +kernel⟩
    obtain ⟨h1, h2⟩ := h t List.mem_cons_self
    obtain ⟨g1, g2⟩ := asc_from ts (k + 1) (acc ++ (if k > 0 then ", " else "" : String) ++ t) B (asc_app (asc_app ha sep.1) h1) fun z m => h z (List.mem_cons_of_mem _ m)
    refine ⟨g1, ?_⟩
    have e : (acc ++ (if k > 0 then ", " else "" : String) ++ t).length = acc.length + (Str.ofString (if k > 0 then ", " else "" : String)).length + t.length := by rw [len_app, len_app]
    rw [e] at g2
    have := sep.2
    rw [List.length_cons, Nat.succ_mul]
    show (textFrom (k + 1) _ ts).length ≤ _
    omega
theorem asc_lit {z : Str} (h : ((tl z).all fun c => decide (c < 128)) = true) : Asc z := fun c hc => of_decide_eq_true (List.all_eq_true.mp h c hc)
/-- data whose text is short and of plain signs -/
structure Shn (d : PyData) (B : Nat) : Prop where
  ok : d.showable = true
  nd : d.hasDict = false
  asc : Asc d.shown
  len : d.shown.length ≤ B
theorem Shn.mono {d : PyData} {B B' : Nat} (h : Shn d B) (l : B ≤ B') : Shn d B' := ⟨h.ok, h.nd, h.asc, Nat.le_trans h.len l⟩
theorem shn_str {z : Str} (h : Asc z) : Shn (.str z) (4 * z.length + 2) := ⟨by simp [PyData.showable], by simp [PyData.hasDict], by simp only [PyData.shown]; exact (asc_repr h).1, by simp only [PyData.shown]; exact (asc_repr h).2⟩
theorem shn_all {B : Nat} : ∀ ds : List PyData, (∀ d ∈ ds, Shn d B) → PyData.showableAll ds = true ∧ PyData.hasDictAll ds = false ∧ (PyData.shownAll ds).length = ds.length ∧ ∀ t ∈ PyData.shownAll ds, Asc t ∧ t.length ≤ B
  | [], _ => ⟨by simp [PyData.showableAll], by simp [PyData.hasDictAll], by simp [PyData.shownAll], fun t m => by simp [PyData.shownAll] at m⟩
  | d :: ds, h => by
    obtain ⟨h1, h2, h3, h4⟩ := shn_all ds fun e m => h e (List.mem_cons_of_mem _ m)
    have q := h d List.mem_cons_self
    refine ⟨by simp [PyData.showableAll, q.ok, h1], by simp [PyData.hasDictAll, q.nd, h2], by simp [PyData.shownAll, h3], fun t m => ?_⟩
    simp only [PyData.shownAll] at m
    rcases List.mem_cons.mp m with rfl | m
    · exact ⟨q.asc, q.len⟩
    · exact h4 t m
theorem shn_list {B : Nat} {ds : List PyData} (h : ∀ d ∈ ds, Shn d B) : Shn (.list ds) (ds.length * (B + 2) + 2) := by
  obtain ⟨h1, h2, h3, h4⟩ := shn_all ds h
  obtain ⟨g1, g2⟩ := asc_from (PyData.shownAll ds) 0 "[" B (asc_lit (by decide +kernel)) h4
  refine ⟨by simp only [PyData.showable]; exact h1, by simp only [PyData.hasDict]; exact h2, ?_, ?_⟩
  · simp only [PyData.shown]
    exact asc_app g1 (asc_lit (by decide +kernel))
  · simp only [PyData.shown]
    show (textFrom 0 "[" _ ++ "]").length ≤ _
    rw [len_app, h3] at *
    have : (("[" : String) : Str).length = 1 := by decide +kernel
    have : (("]" : String) : Str).length = 1 := by decide +kernel
    omega
theorem shn_tup {B : Nat} {ds : List PyData} (h : ∀ d ∈ ds, Shn d B) : Shn (.tuple ds) (ds.length * (B + 2) + 3) := by
  obtain ⟨h1, h2, h3, h4⟩ := shn_all ds h
  have j1 := asc_join (sep := ", ") (asc_lit (by decide +kernel)) (PyData.shownAll ds) fun y m => (h4 y m).1
  have j2 := join_len ", " (PyData.shownAll ds)
  have j3 := sum_le B (PyData.shownAll ds) fun y m => (h4 y m).2
  refine ⟨by simp only [PyData.showable]; exact h1, by simp only [PyData.hasDict]; exact h2, ?_, ?_⟩
  · simp only [PyData.shown, tupleText]
    refine asc_app (asc_app (asc_lit (by decide +kernel)) j1) ?_
    split <;> exact asc_lit (by decide +kernel)
  · simp only [PyData.shown, tupleText]
    have e1 : (("(" : String) : Str).length = 1 := by decide +kernel
    have e2 : ((", " : String) : Str).length = 2 := by decide +kernel
    have e3 : (Str.ofString (if (PyData.shownAll ds).length == 1 then ",)" else ")" : String)).length ≤ 2 := by split <;> decide +kernel
    rw [len_app, len_app]
    rw [h3, e2] at j2
    rw [h3] at j3
    rw [Nat.mul_add]
    omega
end L2.LawH
set_option Elab.async false
set_option linter.all false
set_option maxRecDepth 100000
set_option maxHeartbeats 4000000
/-! repr of plain data, and of a dict of one text by one int. -/
namespace L2.LawH
open PySem PySem.Spec PyProof.Rows L2.TxtSet TL L2.XVal
/-- a dict of one text by one int -/
def OneI (H : Hp) (x : V) (d : PyData) : Prop := ∃ (a : Addr) (k : Str) (v : Int), x = .ref a ∧ H a = some (.dK [(Sum.inr k, .int v)]) ∧ d = .dict [(.str k, .int v)]
/-- the text of the value x is that of the data d -/
def Shr (K : PySem.W.Frag) (H : Hp) (x : V) (d : PyData) : Prop := d.showable = true ∧ d.shown.length ≤ 5000 ∧ d.depth ≤ 8 ∧ Asc d.shown ∧ ((Dp K H x d ∧ d.hasDict = false) ∨ OneI H x d)
theorem Shr.same {K : PySem.W.Frag} {H H' : Hp} {x : V} {d : PyData} (e : Same H H') (h : Shr K H x d) : Shr K H' x d := by
  obtain ⟨h1, h2, h3, h4, h5⟩ := h
  refine ⟨h1, h2, h3, h4, h5.imp (fun ⟨a, b⟩ => ⟨dp_same e d _ a, b⟩) ?_⟩
  rintro ⟨a, k, v, e1, e2, e3⟩
  exact ⟨a, k, v, e1, e _ _ e2, e3⟩
section
variable {X : Cx} {pins : List (Addr × Obj)} {σ : St} {H : Hp} {s : Shared}
theorem oneI_reads {x : V} {d : PyData} {u : Value} (I : Inv X pins σ H s) (h : OneI H x d) (r : RelV x u) :
    ∃ as, Reads s.heap u d as ∧ sysModules ∉ as := by
  obtain ⟨a, k, v, rfl, ha, rfl⟩ := h
  obtain rfl : u = Value.ref a := r
  obtain ⟨_, hns, vs, rv, m⟩ : ([(Sum.inr k, V.int v)] : List (Key × V)).length ≤ sizeLine ∧ (a == sysModules) = false ∧
    ∃ vs, KV [((Sum.inr k : Key), V.int v)] vs ∧ s.heap.DictOf (mixKind X.prog X.w) a vs := I.hok a _ ha
  cases rv with
  | @cons _ b _ bs hb hn =>
    cases hn
    obtain ⟨bk, bv⟩ := b
    obtain ⟨e1, r2⟩ := hb
    dsimp only at e1 r2
    subst e1
    obtain ⟨t2, rfl⟩ := r2
    obtain ⟨o, es, ep, ho, hx, hd, hrest⟩ := m
    obtain ⟨_, hp, _⟩ := hrest
    obtain ⟨l⟩ := es
    cases hp with
    | @cons en _ l' _ hk hv hn =>
      cases hn
      have hk2 : keyIs (Sum.inr k) en.key = true := hk
      rcases keyIs_shape hk2 with ⟨i, t, z, _⟩ | ⟨y, t, z, ek⟩
      · cases z
      · cases z
        have rk : ReadsAll s.heap [en.key] [PyData.str k] ([] ++ []) := .cons (by rw [ek]; exact .str k t) .nil
        have rw2 : ReadsAll s.heap [en.val] [PyData.int v] ([] ++ []) := .cons (by rw [hv]; exact .int v t2) .nil
        refine ⟨_, Reads.dict (kvs := [(PyData.str k, PyData.int v)]) ho hx.1 hd rk rw2, ?_⟩
        intro z
        have z2 : sysModules = a := by simpa using z
        rw [z2] at hns
        simp at hns
def rReprD (K : PySem.W.Frag) : List V → Hp → VK → Prop := fun xs H Q => ∃ (x : V) (d : PyData), xs = [x] ∧ Shr K H x d ∧ Q (.str d.shown) H
theorem call_reprD (hg : X.A.guards = some []) (hu : X.A.units + 64 < cLine) : CallR X (.builtin "repr") (rReprD X.K) := by
  intro pins s σ H xs us Q I r h
  obtain ⟨x, d, rfl, ⟨h2, h3, h4, _, h5⟩, q⟩ := h
  obtain ⟨u, rfl, rx⟩ := vals1 r
  obtain ⟨as, hr, h5⟩ : ∃ as, Reads s.heap u d as ∧ (d.hasDict = true → sysModules ∉ as) := by
    rcases h5 with ⟨h5, h6⟩ | h5
    · obtain ⟨as, q⟩ := Dp.reads I d x u h5 rx
      exact ⟨as, q, fun z => by rw [h6] at z; cases z⟩
    · obtain ⟨as, q, no⟩ := oneI_reads I h5 rx
      exact ⟨as, q, fun _ => no⟩
  have sz : d.shown.length ≤ sizeLine := by rw [sizeLine_eq]; omega
  cases hr with
  | none => exact PySem.P.repr_of_none ⟨.str _, H, I.tok _, ⟨_, rfl⟩, q⟩
  | bool b => exact PySem.P.repr_of_bool ⟨.str _, H, I.tok _, ⟨_, rfl⟩, q⟩
  | int i t => exact PySem.P.repr_of_int (by simpa [PyData.showable] using h2) ⟨.str _, H, I.tok _, ⟨_, rfl⟩, q⟩
  | str y t => exact PySem.P.repr_of_str ⟨.str _, H, I.tok _, ⟨_, rfl⟩, q⟩ sz
  | list h1' h2' h3' h4' =>
    exact repr_of_reads' (Reads.list h1' h2' h3' h4') h2 h5 hg (by omega) (fun _ _ e => e)
      (fun h' u tk k => ⟨.str _, H, I.kept k, ⟨_, rfl⟩, q⟩) sz
  | tuple h1' h2' h3' h4' =>
    exact repr_of_reads' (Reads.tuple h1' h2' h3' h4') h2 h5 hg (by omega) (fun _ _ e => e)
      (fun h' u tk k => ⟨.str _, H, I.kept k, ⟨_, rfl⟩, q⟩) sz
  | dict h1' h2' h3' h4' h5' =>
    exact repr_of_reads' (Reads.dict h1' h2' h3' h4' h5') h2 h5 hg (by omega) (fun _ _ e => e)
      (fun h' u tk k => ⟨.str _, H, I.kept k, ⟨_, rfl⟩, q⟩) sz
end
end L2.LawH
set_option Elab.async false
set_option linter.all false
set_option maxRecDepth 100000
set_option maxHeartbeats 4000000
/-! _law_odd, with the text of what it tells. -/
namespace L2.LawR
open PySem PySem.Spec PyProof.Rows L2.Cmp L2.TxtSet TL L2.LawH
abbrev sOdd : Stmt := top 32
/-- an item whose text is short -/
def ItmR (K : PySem.W.Frag) (H : Hp) (y : V) : Prop := Itm K H y ∧ ∃ d, Dp K H y d ∧ Shn d 70 ∧ d.depth ≤ 2
theorem ItmR.same {K : PySem.W.Frag} {H H' : Hp} (s : Same H H') {y : V} (h : ItmR K H y) : ItmR K H' y := ⟨h.1.same s, let ⟨d, a, b, c⟩ := h.2; ⟨d, dp_same s d _ a, b, c⟩⟩
def AskR (K : PySem.W.Frag) (H : Hp) (x : V) (o : Option (List V)) : Prop := Ask K H x o ∧ ∃ d, Shr K H x d
theorem AskR.same {K : PySem.W.Frag} {H H' : Hp} (s : Same H H') {x : V} {o : Option (List V)} (h : AskR K H x o) : AskR K H' x o := ⟨h.1.same s, let ⟨d, a⟩ := h.2; ⟨d, a.same s⟩⟩
def Any (K : PySem.W.Frag) (H : Hp) (x : V) : Prop := ItmR K H x ∧ ∃ o, AskR K H x o
theorem Any.same {K : PySem.W.Frag} {H H' : Hp} (s : Same H H') {x : V} (h : Any K H x) : Any K H' x := ⟨h.1.same s, let ⟨o, q⟩ := h.2; ⟨o, q.same s⟩⟩
theorem asc_cod {z : Str} (h : Asc z) : ∀ c ∈ tl z, c < 0x110000 := fun c hc => Nat.lt_trans (h c hc) (by decide)
section
variable {K : PySem.W.Frag} {H : Hp}
theorem itmsR : ∀ ys : List V, (∀ y ∈ ys, ItmR K H y) → ∃ ds, DpAll K H ys ds ∧ ds.length = ys.length ∧ (∀ d ∈ ds, Shn d 70) ∧ PyData.depthAll ds ≤ 2
  | [], _ => ⟨[], .nil, rfl, (fun d m => nomatch m), by simp [PyData.depthAll]⟩
  | y :: ys, h => by
    obtain ⟨ds, p, l, c, e⟩ := itmsR ys fun z m => h z (List.mem_cons_of_mem _ m)
    obtain ⟨_, d, q, c1, e1⟩ := h y List.mem_cons_self
    refine ⟨d :: ds, .cons q p, by simp [l], fun x m => (List.mem_cons.mp m).elim (fun e => e ▸ c1) (c x), ?_⟩
    simp only [PyData.depthAll]
    omega
theorem shr_of {x : V} {d : PyData} {B : Nat} (p : Dp K H x d) (h : Shn d B) (l : B ≤ 5000) (e : d.depth ≤ 8) : Shr K H x d := ⟨h.ok, Nat.le_trans h.len l, e, h.asc, .inl ⟨p, h.nd⟩⟩
theorem shr_tup {u : Addr} {ys : List V} (h : H u = some (.tup ys)) (l : ys.length ≤ 20) (it : ∀ y ∈ ys, ItmR K H y) : ∃ d, Shr K H (.ref u) d := by
  obtain ⟨ds, p, e, sh, dd⟩ := itmsR ys it
  exact ⟨.tuple ds, shr_of (.tup (SqT.of h) p) (shn_tup sh) (by rw [e]; omega) (by simp only [PyData.depth]; omega)⟩
theorem shr_lst {u : Addr} {ys : List V} (h : H u = some (.lst ys)) (l : ys.length ≤ 20) (it : ∀ y ∈ ys, ItmR K H y) : ∃ d, Shr K H (.ref u) d := by
  obtain ⟨ds, p, e, sh, dd⟩ := itmsR ys it
  exact ⟨.list ds, shr_of (.lst (SqL.of h) p) (shn_list sh) (by rw [e]; omega) (by simp only [PyData.depth]; omega)⟩
theorem itmR_of {x : V} {d : PyData} (o : Okl K H x) (p : Dp K H x d) (sh : Shn d 70) (c : d.canLay0 = true) (e : d.depth ≤ 2) : ItmR K H x := ⟨⟨o, d, p, c, e⟩, d, p, sh, e⟩
theorem itmR_str {y : Str} (l : y.length ≤ 15) (h : Asc y) : ItmR K H (.str y) := by
  obtain ⟨o, _⟩ := itm_str (K := K) (H := H) (y := y) (by omega) (asc_cod h)
  exact itmR_of o (.str y) ((shn_str h).mono (by omega)) (by simp [PyData.canLay0, ok_list (asc_cod h)]) (by simp [PyData.depth])
theorem any_str {y : Str} (l : y.length ≤ 15) (h : Asc y) : Any K H (.str y) := by
  have i := itmR_str (K := K) (H := H) l h
  exact ⟨i, none, ⟨i.1.1, "str", .base (.str y), by decide +kernel⟩, _, shr_of (.str y) (shn_str h) (by omega) (by simp [PyData.depth])⟩
theorem shn_non : Shn .none 70 := ⟨by simp [PyData.showable], by simp [PyData.hasDict], by simp only [PyData.shown]; exact asc_lit (by decide +kernel), by simp only [PyData.shown]; decide +kernel⟩
theorem shn_bl (b : Bool) : Shn (.bool b) 70 := by
  cases b <;> exact ⟨by simp [PyData.showable], by simp [PyData.hasDict], by simp only [PyData.shown]; exact asc_lit (by decide +kernel), by simp only [PyData.shown]; decide +kernel⟩
theorem any_non : Any K H .non := by
  have o : Okl K H .non := .inr ⟨⟨"NoneType", .base .non, by decide +kernel⟩, fun z e => by cases e⟩
  exact ⟨itmR_of o .non shn_non (by simp [PyData.canLay0]) (by simp [PyData.depth]), none, ⟨o, "NoneType", .base .non, by decide +kernel⟩, _, shr_of .non shn_non (by omega) (by simp [PyData.depth])⟩
theorem any_int {i : Int} (sh : Shn (.int i) 70) : Any K H (.int i) := by
  have o : Okl K H (.int i) := .inr ⟨⟨"int", .base (.int i), by decide +kernel⟩, fun z e => by cases e⟩
  exact ⟨itmR_of o (.int i) sh (by simp [PyData.canLay0]) (by simp [PyData.depth]), none, ⟨o, "int", .base (.int i), by decide +kernel⟩, _, shr_of (.int i) sh (by omega) (by simp [PyData.depth])⟩
theorem shn_3 : Shn (.int 3) 70 := ⟨by decide +kernel, by simp [PyData.hasDict], by simp only [PyData.shown]; exact asc_lit (by decide +kernel), by simp only [PyData.shown]; decide +kernel⟩
theorem shn_7 : Shn (.int 7) 70 := ⟨by decide +kernel, by simp [PyData.hasDict], by simp only [PyData.shown]; exact asc_lit (by decide +kernel), by simp only [PyData.shown]; decide +kernel⟩
theorem any_bl (b : Bool) : Any K H (.bl b) := by
  have o : Okl K H (.bl b) := .inr ⟨⟨"bool", .base (.bl b), by decide +kernel⟩, fun z e => by cases e⟩
  exact ⟨itmR_of o (.bl b) (shn_bl b) (by simp [PyData.canLay0]) (by simp [PyData.depth]), none, ⟨o, "bool", .base (.bl b), by decide +kernel⟩, _, shr_of (.bl b) (shn_bl b) (by omega) (by simp [PyData.depth])⟩
theorem shn_one {y : Str} (h : Asc y) (l : y.length ≤ 10) : ∀ d ∈ [PyData.str y], Shn d 50 := fun d m => by
  rw [List.mem_singleton.mp m]
  exact (shn_str h).mono (by omega)
theorem any_tup {p : Addr} {y : Str} (e : H p = some (.tup [.str y])) (l : y.length ≤ 10) (h : Asc y) : Any K H (.ref p) := by
  have o : Okl K H (.ref p) := .inr ⟨⟨"tuple", .base (.tup e), by decide +kernel⟩, fun z e => by cases e⟩
  have hs : PyData.strOk y = true := ok_list (asc_cod h)
  have sh : Shn (.tuple [.str y]) 70 := (shn_tup (shn_one h l)).mono (by show 1 * 52 + 3 ≤ 70; decide)
  have dp : Dp K H (.ref p) (.tuple [.str y]) := .tup (SqT.of e) (.cons (.str y) .nil)
  exact ⟨itmR_of o dp sh (by simp [PyData.canLay0, PyData.canLayAll0, hs]) (by simp [PyData.depth, PyData.depthAll]), some [.str y], ⟨p, rfl, e, by simp, fun z m => by
    rw [List.mem_singleton.mp m]
    exact (itmR_str (by omega) h).1⟩, _, shr_of dp sh (by omega) (by simp [PyData.depth, PyData.depthAll])⟩
theorem any_lst {p : Addr} {y : Str} (e : H p = some (.lst [.str y])) (l : y.length ≤ 10) (h : Asc y) : Any K H (.ref p) := by
  have o : Okl K H (.ref p) := .inr ⟨⟨"list", .base (.lst e), by decide +kernel⟩, fun z e => by cases e⟩
  have hs : PyData.strOk y = true := ok_list (asc_cod h)
  have sh : Shn (.list [.str y]) 70 := (shn_list (shn_one h l)).mono (by show 1 * 52 + 2 ≤ 70; decide)
  have dp : Dp K H (.ref p) (.list [.str y]) := .lst (SqL.of e) (.cons (.str y) .nil)
  exact ⟨itmR_of o dp sh (by simp [PyData.canLay0, PyData.canLayAll0, hs]) (by simp [PyData.depth, PyData.depthAll]), none, ⟨o, "list", .base (.lst e), by decide +kernel⟩, _, shr_of dp sh (by omega) (by simp [PyData.depth, PyData.depthAll])⟩
theorem askR_lst {p : Addr} {xs : List V} (e : H p = some (.lst xs)) (l : xs.length ≤ 20) (it : ∀ y ∈ xs, ItmR K H y) : AskR K H (.ref p) none :=
  ⟨⟨.inr ⟨⟨"list", .base (.lst e), by decide +kernel⟩, fun z e => by cases e⟩, "list", .base (.lst e), by decide +kernel⟩, shr_lst e l it⟩
theorem askR_tup {p : Addr} {xs : List V} (e : H p = some (.tup xs)) (l : xs.length ≤ 20) (it : ∀ y ∈ xs, ItmR K H y) : AskR K H (.ref p) (some xs) :=
  ⟨⟨p, rfl, e, by omega, fun y m => (it y m).1⟩, shr_tup e l it⟩
theorem askR_dic {p : Addr} (e : H p = some (.dK [(Sum.inr (Str.ofString "a"), .int 1)])) : AskR K H (.ref p) none := by
  have sh : (PyData.dict [(.str (Str.ofString "a"), .int 1)]).showable = true ∧ (PyData.dict [(.str (Str.ofString "a"), .int 1)]).shown.length ≤ 5000 ∧ (PyData.dict [(.str (Str.ofString "a"), .int 1)]).depth ≤ 8 ∧ ((tl (PyData.dict [(.str (Str.ofString "a"), .int 1)]).shown).all fun c => decide (c < 128)) = true := by decide +kernel
  exact ⟨⟨.inr ⟨⟨"dict", .base (.dK e), by decide +kernel⟩, fun z e => by cases e⟩, "dict", .base (.dK e), by decide +kernel⟩, _, sh.1, sh.2.1, sh.2.2.1, asc_lit sh.2.2.2, .inr ⟨p, _, _, rfl, e, rfl⟩⟩
end
theorem odd_ok2 : ((oddA ++ oddB).all fun s => decide (s.length ≤ 15) && (tl s).all fun c => decide (c < 128)) = true := by decide +kernel
theorem odd_any {K : PySem.W.Frag} {H : Hp} {p q : Addr} (hp : H p = some (.tup [.str "a"])) (hq : H q = some (.lst [.str "a"])) : ∀ x ∈ oddW p q, Any K H x := by
  intro x m
  have st : ∀ s ∈ oddA ++ oddB, Any K H (.str s) := fun s ms => by
    have := List.all_eq_true.mp odd_ok2 s ms
    rw [Bool.and_eq_true, decide_eq_true_iff] at this
    exact any_str this.1 (asc_lit this.2)
  have la : (("a" : String) : Str).length ≤ 10 := by decide +kernel
  have ca : Asc (("a" : String) : Str) := asc_lit (by decide +kernel)
  unfold oddW at m
  rcases List.mem_append.mp m with m | m
  · obtain ⟨s, ms, rfl⟩ := List.mem_map.mp m
    exact st s (List.mem_append_left _ ms)
  · rcases List.mem_append.mp m with m | m
    · simp only [List.mem_cons, List.not_mem_nil, or_false] at m
      rcases m with rfl | rfl | rfl | rfl | rfl
      · exact any_non
      · exact any_int shn_3
      · exact any_bl true
      · exact any_tup hp la ca
      · exact any_lst hq la ca
    · obtain ⟨s, ms, rfl⟩ := List.mem_map.mp m
      exact st s (List.mem_append_right _ ms)
theorem same_two {H : Hp} {p : Addr} {o o' : HO} (n : H p = none) : Same H (upd (upd H p o) p o') := fun b u e => by
  rw [upd_ne (ne_of_none e n), upd_ne (ne_of_none e n)]
  exact e
theorem patG_asc {T : Str} {zs : List Str} (h : PatG T zs) : ∀ z ∈ T :: zs, Asc z := fun z m => by
  rcases List.mem_cons.mp m with rfl | m
  · exact fun c hc => (sgn_ne21 (chr_nm21 h.nT c hc)).2.2.2
  · exact fun c hc => (chr_tm (h.each z m) c hc).2.2
def spOdd (K : PySem.W.Frag) : Sp := fun vs H Q _ => ∃ (a t : Addr) (c : Int) (m : Nat) (T : Str) (zs : List Str), vs = [.ref a, .ref t] ∧ SrcAt H a c (m + 4) ∧ H t = some (.tup (.str T :: zs.map V.str)) ∧ PatG T zs ∧
  ∀ (x : V) (o : Option (List V)) (H' : Hp), AskR K (Ex (Pr H t) H') x o → SrcAt H' a c m → Keep a H H' → Q x H'
theorem cutV_to (xs : List V) (k : Nat) : cutV xs none (some (k : Int)) = xs.take k := by
  unfold cutV
  rw [HT.sIx_nat, HT.sIx_none, List.drop_zero, Nat.sub_zero]
  rcases Nat.le_total k xs.length with h | h
  · rw [Nat.min_eq_left h]
  · rw [Nat.min_eq_right h, List.take_of_length_le (Nat.le_refl _), List.take_of_length_le h]
theorem cutV_from (xs : List V) (k : Nat) : cutV xs (some (k : Int)) none = xs.drop k := by
  unfold cutV
  rw [HT.sIx_nat, HT.sIx_none]
  rcases Nat.le_total k xs.length with h | h
  · rw [Nat.min_eq_left h]
    refine List.take_of_length_le ?_
    rw [List.length_drop]
    omega
  · rw [Nat.min_eq_right h, List.drop_of_length_le h, List.drop_of_length_le (Nat.le_refl _), List.take_nil]
section
variable {P : Program} {w : World} {K : PySem.W.Frag} {mg : Str → Option Value} {base : Heap}
abbrev nOdd : List Str := ["_law_source_here", "_law_pattern_here", "_law_wrong", "_law_strange", "_law_place", "_law_way"]
theorem scOdd : FnScope nOdd ["_law_source_here", "_law_pattern_here"] (defScope sOdd) := ⟨rfl, rfl, rfl, by decide +kernel, rfl, by decide +kernel, by decide +kernel⟩
theorem ok_odd {f fD : Addr} {fd fdD : FuncData} (F : Fun K "_law_odd" "_law_odd" sOdd f fd)
    (GD : FnOk P w K mg base CX0 1 fD fdD ["_law_source_here", "_law_limit"] spDraw) (kD : PySem.W.keepIn K (.ref fD) = true) (bD : Binds K fdD ["_law_source_here", "_law_limit"] []) (mD : mg "_law_draw" = some (.ref fD))
    (ml : mg "len" = none) (mL : mg "list" = none) :
    FnOk P w K mg base CX0 2 f fd ["_law_source_here", "_law_pattern_here"] (spOdd K) := by
  refine F.ok scOdd (fun vs H Q E h => ?_) (fun cdv A outer s H vs Q E hr h => ?_)
  · obtain ⟨a, t, c, m, T, zs, rfl, _⟩ := h
    rfl
  · obtain ⟨a, t, c, m, T, zs, rfl, hs, ht, pt, k⟩ := h
    have hr1 : Room 1 _ := hr.mono (by decide)
    refine ⟨_, pss_cons (ps_set (i := 2) scOdd.nd rfl (Or.inl rfl) (pe_lst (pa_cons pe_str (pa_cons pe_str (pa_cons pe_str (pa_cons pe_str (pa_cons pe_str (pa_cons pe_str (pa_cons pe_str (pa_cons pe_str (pa_cons pe_str (pa_cons pe_str (pa_cons pe_str pa_nil)))))))))))))
      (pss_cons (ps_set (i := 2) scOdd.nd rfl (Or.inl rfl) (pe_op op_cat (pv 2) (pe_lst (pa_cons pe_non (pa_cons pe_int (pa_cons pe_bl (pa_cons (pe_tup (pa_cons pe_str pa_nil)) (pa_cons (pe_lst (pa_cons pe_str pa_nil)) (pa_cons pe_str (pa_cons pe_str (pa_cons pe_str pa_nil)))))))))))
      (pss_cons (ps_set (i := 3) scOdd.nd rfl (Or.inl rfl) (pe_ix ix_list (pv 2) (pe_call GD hr1 (by rfl) mD kD bD .nil pass0 (pa_cons (pv 0) (pa_cons (pe_callB call_len_seq (by rfl) ml (by decide +kernel) (pa_cons (pv 2) pa_nil)) pa_nil))) (fun _ _ => rfl)))
      (pss_cons (ps_set (i := 4) scOdd.nd rfl (Or.inl rfl) (pe_call GD hr1 (by rfl) mD kD bD .nil pass0 (pa_cons (pv 0) (pa_cons (pe_callB call_len_seq (by rfl) ml (by decide +kernel) (pa_cons (pv 1) pa_nil)) pa_nil))))
      (pss_cons (ps_set (i := 5) scOdd.nd rfl (Or.inl rfl) (pe_call GD hr1 (by rfl) mD kD bD .nil pass0 (pa_cons (pv 0) (pa_cons pe_int pa_nil))))
      (pss_cons (ps_if (pt_cmpR op_eq (pv 5) pe_int (nomark _)) (pss_one (ps_ret (pe_callTy call_list_of (by rfl) mL (by decide +kernel) (pa_cons (pv 1) pa_nil)))) pss_nil)
      (pss_cons (ps_if (pt_cmpR op_eq (pv 5) pe_int (nomark _)) (pss_one (ps_ret (pe_op op_catB (pe_op op_catB (pv 1) (pe_op op_repB (pe_tup (pa_cons pe_str pa_nil)) (pe_op op_sub pe_int (pe_callB call_len_seq (by rfl) ml (by decide +kernel) (pa_cons (pv 1) pa_nil))))) (pe_tup (pa_cons (pv 3) pa_nil))))) pss_nil)
      (pss_cons (ps_if (pt_cmpR op_eq (pv 5) pe_int (nomark _)) (pss_one (ps_ret (pe_ix ix_list (pe_lst (pa_cons (pv 3) (pa_cons pe_non (pa_cons (pe_tup pa_nil) (pa_cons pe_str (pa_cons (pe_disp (pps_cons pe_str pe_int pps_nil) rfl rfl (by simp) (by decide)) (pa_cons pe_int (pa_cons pe_bl pa_nil))))))))
          (pe_call GD hr1 (by rfl) mD kD bD .nil pass0 (pa_cons (pv 0) (pa_cons pe_int pa_nil))) (fun _ _ => rfl)))) pss_nil)
      (pss_cons (ps_if (pt_cmpR op_eq (pv 5) pe_int (nomark _)) (pss_one (ps_ret (pe_op op_catB (pe_op op_catB (pe_slice sl_tup (pv 1) po_none (po_some (pv 4))) (pe_tup (pa_cons (pe_op op_add_str pe_str (pe_ix ix_tup (pv 1) pe_int (fun _ _ => rfl))) pa_nil))) (pe_slice sl_tup (pv 1) (po_some (pe_op op_add (pv 4) pe_int)) po_none)))) pss_nil)
      (pss_one (ps_ret (pe_op op_catB (pe_op op_catB (pe_slice sl_tup (pv 1) po_none (po_some (pv 4))) (pe_tup (pa_cons (pv 3) pa_nil))) (pe_slice sl_tup (pv 1) (po_some (pe_op op_add (pv 4) pe_int)) po_none)))))))))))), ?_⟩
    have few := pt.few
    have ta := src_tup hs ht
    have pa : Pr H t a := ⟨hs.some, fun z => ta z.symm⟩
    have lx : (V.str T :: zs.map V.str).length = zs.length + 1 := by rw [List.length_cons, List.length_map]
    -- the wrong ones
    refine ⟨by show 11 ≤ sizeLine; decide, fun l1 n1 => ?_⟩
    have sA : Same H (upd H l1 (.lst (oddA.map V.str))) := same_new n1
    have cA : (upd H l1 (.lst (oddA.map V.str))) l1 = some (.lst (oddA.map V.str)) := upd_same
    refine ⟨_, rfl, by show 1 ≤ sizeLine; decide, fun q1 m1 => ?_⟩
    have m1 : (upd H l1 (.lst (oddA.map V.str))) q1 = none := m1
    refine ⟨by show 1 ≤ sizeLine; decide, fun q2 m2 => ?_⟩
    have m2 : upd (upd H l1 (.lst (oddA.map V.str))) q1 (.tup [.str "a"]) q2 = none := m2
    refine ⟨by show 8 ≤ sizeLine; decide, fun l2 n2 => ?_⟩
    have n2 : upd (upd (upd H l1 (.lst (oddA.map V.str))) q1 (.tup [.str "a"])) q2 (.lst [.str "a"]) l2 = none := n2
    have h2 : ∀ {y : HO}, (upd (upd (upd (upd H l1 (.lst (oddA.map V.str))) q1 (.tup [.str "a"])) q2 (.lst [.str "a"])) l2 y) l1 = some (.lst (oddA.map V.str)) := fun {y} =>
      (same_new n2) _ _ ((same_new m2) _ _ ((same_new m1) _ _ cA))
    refine ⟨l1, l2, _, _, rfl, rfl, h2, upd_same, by show 11 + 8 ≤ sizeLine; decide, fun l3 n3 => ?_⟩
    have zq1 : ¬ Pr H t q1 := pr_new (.inr (sA.free m1))
    have zq2 : ¬ Pr H t q2 := pr_new (.inr ((sA.trans (same_new m1)).free m2))
    generalize hHE : upd _ l3 _ = HE
    have cE : HE l3 = some (.lst (oddW q1 q2)) := by
      rw [← hHE]
      exact upd_same
    have sE : Same H HE := by
      rw [← hHE]
      exact (((sA.trans (same_new m1)).trans (same_new m2)).trans (same_new n2)).trans (same_new n3)
    have e1 : HE q1 = some (.tup [.str "a"]) := by
      rw [← hHE]
      exact (((same_new m2).trans (same_new n2)).trans (same_new n3)) _ _ upd_same
    have e2 : HE q2 = some (.lst [.str "a"]) := by
      rw [← hHE]
      exact ((same_new n2).trans (same_new n3)) _ _ upd_same
    have zl3 : l3 ≠ a := fun z => by
      obtain ⟨d, n, e, _⟩ := hs.same sE
      rw [z, e] at cE
      cases cE
    clear hHE n3 h2 n2 m2 m1 cA sA n1
    have anyE : ∀ x ∈ oddW q1 q2, Any K (Ex (Pr H t) HE) x := odd_any (by rw [ex_at zq1]; exact e1) (by rw [ex_at zq2]; exact e2)
    -- the strange one
    refine ⟨_, rfl, _, rfl, _, rfl, l3, _, rfl, .inl (SqL.of cE), a, c, m + 3, _, rfl, hs.same sE, by rw [odd_len]; decide, by rw [odd_len]; decide, fun r1 H1 r10 r11 s1 k1 => ?_⟩
    rw [odd_len] at r11
    obtain ⟨j1, rfl⟩ : ∃ j : Nat, r1 = j := ⟨r1.toNat, by omega⟩
    have hj1 : j1 < (oddW q1 q2).length := by rw [odd_len]; omega
    have c1 := k1 _ _ cE zl3
    refine ⟨l3, _, _, _, rfl, rfl, SqL.of c1, atI_nat (List.getElem?_eq_getElem hj1), ?_⟩
    have any1 := anyE _ (List.getElem_mem hj1)
    generalize (oddW q1 q2)[j1] = st at any1 ⊢
    have K1 : Keep a H H1 := (Keep.of sE).trans k1
    have any1 := any1.same (ex_keep k1 pa)
    have ht1 := K1 _ _ ht ta
    refine ⟨_, rfl, _, rfl, t, _, rfl, .inr (SqT.of ht1), a, c, m + 2, _, rfl, s1, by rw [lx]; omega, by rw [lx]; omega, fun r2 H2 r20 r21 s2 k2 => ?_⟩
    rw [lx] at r21
    obtain ⟨j, rfl⟩ : ∃ j : Nat, r2 = j := ⟨r2.toNat, by omega⟩
    have hj : j < zs.length + 1 := by omega
    refine ⟨_, rfl, a, c, m + 1, 6, rfl, s2, by decide, by decide, fun r3 H3 r30 r31 s3 k3 => ?_⟩
    have any3 := (any1.same (ex_keep k2 pa)).same (ex_keep k3 pa)
    have K3 : Keep a H H3 := (K1.trans k2).trans k3
    have ht3 := K3 _ _ ht ta
    have s3m : SrcAt H3 a c m := s3.mono (by omega)
    have itx : ∀ y ∈ (V.str T :: zs.map V.str), ∀ H' : Hp, ItmR K H' y := fun y my H' => by
      rcases List.mem_cons.mp my with rfl | my
      · exact itmR_str (Nat.le_trans pt.strs.1 (by decide)) (patG_asc pt T List.mem_cons_self)
      · obtain ⟨z, mz, rfl⟩ := List.mem_map.mp my
        exact itmR_str (Nat.le_trans (pt.strs.2 z mz) (by decide)) (patG_asc pt z (List.mem_cons_of_mem _ mz))
    -- new places
    have new3 : ∀ (b : Addr) (H' : Hp), Same H3 H' → H' b = none → H b = none := fun b H' sm n => K3.free (sm.free n) s3.some
    -- a tuple of items told
    have told : ∀ (u : Addr) (H' : Hp) (ys : List V), Same H3 H' → (u = t ∨ H u = none) → H' u = some (.tup ys) → ys.length ≤ 20 → (∀ y ∈ ys, y ∈ (V.str T :: zs.map V.str) ∨ ItmR K (Ex (Pr H t) H3) y) → Q (.ref u) H' := fun u H' ys sm nu hu ly hy =>
      k (.ref u) (some ys) H' (askR_tup (by rw [ex_at (pr_new nu)]; exact hu) ly fun y my => (hy y my).elim (fun q => itx y q _) fun q => q.same (ex_keep (Keep.of sm) pa)) (s3m.same sm) (K3.trans (Keep.of sm))
    refine ⟨_, rfl, rfl, _, rfl, ?_⟩
    refine ite2 (fun _ => ?_) (fun _ => ?_)
    · refine ⟨_, rfl, t, _, rfl, .inr (SqT.of ht3), fun l nl => ?_⟩
      have sm : Same H3 (upd H3 l (.lst (.str T :: zs.map V.str))) := same_new nl
      exact k (.ref l) none _ (askR_lst (by rw [ex_at (pr_new (.inr (new3 l _ (Same.refl _) nl)))]; exact upd_same) (by rw [lx]; omega) fun y my => itx y my _) (s3m.same sm) (K3.trans (Keep.of sm))
    refine ⟨_, rfl, rfl, _, rfl, ?_⟩
    refine ite2 (fun _ => ?_) (fun _ => ?_)
    · refine ⟨_, rfl, by show 1 ≤ sizeLine; decide, fun q nq => ?_⟩
      have sq : Same H3 (upd H3 q (.tup [.str "x"])) := same_new nq
      refine ⟨_, rfl, t, _, rfl, .inr (SqT.of (sq _ _ ht3)), _, _, rfl, rfl, q, _, [.str "x"], rfl, rfl, upd_same, by simp, by rw [lx]; omega, by rw [lx]; omega, by simp, fun r H4 s4 hr4 fr => ?_⟩
      have nr : H r = none := fr.elim (fun z => z ▸ new3 q _ (Same.refl _) nq) (new3 r _ sq)
      have s4' := sq.trans s4
      generalize hR : (List.replicate _ [V.str (Str.ofString "x")]).flatten = R at hr4 ⊢
      have lr : R.length ≤ 4 := by
        rw [← hR, PyProof.Rows.lm_len_rep_flat, lx, List.length_singleton]
        omega
      have mR : ∀ y ∈ R, y = V.str (Str.ofString "x") := fun y my => by
        rw [← hR] at my
        obtain ⟨l, ml, hl⟩ := List.mem_flatten.mp my
        rw [List.eq_of_mem_replicate ml] at hl
        exact List.mem_singleton.mp hl
      refine ⟨t, r, _, _, rfl, rfl, s4' _ _ ht3, hr4, by rw [lx, sizeLine_eq]; omega, fun u H5 s5 hu fu => ?_⟩
      have nu : u = t ∨ H u = none := fu.elim .inl fun z => .inr (z.elim (fun z => z ▸ nr) (new3 u _ s4'))
      have s5' := s4'.trans s5
      refine ⟨_, rfl, by show 1 ≤ sizeLine; decide, fun v nv => ?_⟩
      have sv : Same H5 (upd H5 v (.tup [st])) := same_new nv
      refine ⟨u, v, _, _, rfl, rfl, sv _ _ hu, upd_same, by rw [List.length_append, lx, List.length_singleton, sizeLine_eq]; omega, fun x H6 s6 hx fx => ?_⟩
      have nx : x = t ∨ H x = none := fx.elim (fun z => z ▸ nu) fun z => .inr (z.elim (fun z => z ▸ new3 v _ s5' nv) (new3 x _ (s5'.trans sv)))
      refine told x H6 _ ((s5'.trans sv).trans s6) nx hx (by rw [List.length_append, List.length_append, lx, List.length_singleton]; omega) fun y my => ?_
      rcases List.mem_append.mp my with my | my
      · rcases List.mem_append.mp my with my | my
        · exact .inl my
        · rw [mR y my]
          exact .inr (itmR_str (by decide +kernel) (asc_lit (by decide +kernel)))
      · rw [List.mem_singleton.mp my]
        exact .inr any3.1
    refine ⟨_, rfl, rfl, _, rfl, ?_⟩
    refine ite2 (fun _ => ?_) (fun _ => ?_)
    · refine ⟨_, rfl, by show 0 ≤ sizeLine; decide, fun q nq => ?_⟩
      have sq : Same H3 (upd H3 q (.tup [])) := same_new nq
      have cq : (upd H3 q (.tup [])) q = some (.tup []) := upd_same
      have zq := s3.ne nq
      have fq : ¬ Pr H t q := pr_new (.inr (new3 q _ (Same.refl _) nq))
      generalize upd H3 q (.tup []) = H4 at sq cq ⊢
      refine fun d nd => ⟨upd_same, [(Sum.inr (Str.ofString "a"), .int 1)], rfl, by simp, ?_⟩
      have sd : Same H4 (upd (upd H4 d (.dK [])) d (.dK (mergeK [] [(Sum.inr (Str.ofString "a"), .int 1)]))) := same_two nd
      have cd : (upd (upd H4 d (.dK [])) d (.dK (mergeK [] [(Sum.inr (Str.ofString "a"), .int 1)]))) d = some (.dK (mergeK [] [(Sum.inr (Str.ofString "a"), .int 1)])) := upd_same
      have zd := (s3.same sq).ne nd
      have fd' : ¬ Pr H t d := pr_new (.inr (new3 d _ sq nd))
      generalize upd (upd H4 d (.dK [])) d (.dK (mergeK [] [(Sum.inr (Str.ofString "a"), .int 1)])) = H5 at sd cd ⊢
      refine ⟨by show 7 ≤ sizeLine; decide, fun l nl => ?_⟩
      have s5 := s3.same (sq.trans sd)
      have zl := s5.ne nl
      have sl : Same H5 (upd H5 l (.lst [st, .non, .ref q, .str "a", .ref d, .int 7, .bl false])) := same_new nl
      have cl : (upd H5 l (.lst [st, .non, .ref q, .str "a", .ref d, .int 7, .bl false])) l = some (.lst [st, .non, .ref q, .str "a", .ref d, .int 7, .bl false]) := upd_same
      refine ⟨_, rfl, a, c, m, 7, rfl, s5.same sl, by decide, by decide, fun r6 H6 r60 r61 s6 k6 => ?_⟩
      obtain ⟨j6, rfl⟩ : ∃ j : Nat, r6 = j := ⟨r6.toNat, by omega⟩
      have hj6 : j6 < [st, .non, .ref q, .str "a", .ref d, .int 7, .bl false].length := by
        show j6 < 7
        omega
      refine ⟨l, _, _, _, rfl, rfl, SqL.of (k6 _ _ cl zl), atI_nat (List.getElem?_eq_getElem hj6), ?_⟩
      have K36 : Keep a H3 H6 := ((Keep.of (sq.trans sd)).trans (Keep.of sl)).trans k6
      have any6 := any3.same (ex_keep K36 pa)
      have cq6 : Ex (Pr H t) H6 q = some (.tup []) := by
        rw [ex_at fq]
        exact k6 _ _ (sl _ _ (sd _ _ cq)) zq
      have cd6 : Ex (Pr H t) H6 d = some (.dK (mergeK [] [(Sum.inr (Str.ofString "a"), .int 1)])) := by
        rw [ex_at fd']
        exact k6 _ _ (sl _ _ cd) zd
      have fin : ∀ x o, AskR K (Ex (Pr H t) H6) x o → Q x H6 := fun x o ask => k x o H6 ask s6 (K3.trans K36)
      have hmem := List.getElem_mem hj6
      generalize ([st, .non, .ref q, .str "a", .ref d, .int 7, .bl false] : List V)[j6] = x at hmem ⊢
      simp only [List.mem_cons, List.not_mem_nil, or_false] at hmem
      rcases hmem with rfl | rfl | rfl | rfl | rfl | rfl | rfl
      · obtain ⟨o, q⟩ := any6.2
        exact fin _ o q
      · obtain ⟨o, q⟩ := (any_non (K := K) (H := Ex (Pr H t) H6)).2
        exact fin _ o q
      · exact fin _ (some []) (askR_tup cq6 (by simp) fun y my => by cases my)
      · obtain ⟨o, q⟩ := (any_str (K := K) (H := Ex (Pr H t) H6) (y := "a") (by decide +kernel) (asc_lit (by decide +kernel))).2
        exact fin _ o q
      · exact fin _ none (askR_dic cd6)
      · obtain ⟨o, q⟩ := (any_int (K := K) (H := Ex (Pr H t) H6) shn_7).2
        exact fin _ o q
      · obtain ⟨o, q⟩ := (any_bl (K := K) (H := Ex (Pr H t) H6) false).2
        exact fin _ o q
    have np1 : ¬ (HT.sIx (V.str T :: zs.map V.str).length 0 none = 0 ∧ HT.sIx (V.str T :: zs.map V.str).length (V.str T :: zs.map V.str).length (some (j : Int)) = (V.str T :: zs.map V.str).length) := by
      rintro ⟨_, e⟩
      rw [HT.sIx_nat, lx] at e
      omega
    have ej : ((j : Int) + 1) = ((j + 1 : Nat) : Int) := by omega
    have np2 : ¬ (HT.sIx (V.str T :: zs.map V.str).length 0 (some ((j : Int) + 1)) = 0 ∧ HT.sIx (V.str T :: zs.map V.str).length (V.str T :: zs.map V.str).length none = (V.str T :: zs.map V.str).length) := by
      rintro ⟨e, _⟩
      rw [ej, HT.sIx_nat, lx] at e
      omega
    -- the pattern with another item in a place
    refine ⟨_, rfl, rfl, _, rfl, ?_⟩
    refine ite2 (fun _ => ?_) (fun _ => ?_)
    · refine ⟨_, rfl, _, rfl, _, rfl, t, _, rfl, SqT.of ht3, np1, fun p np => ?_⟩
      have s4 : Same H3 (upd H3 p (.tup (cutV (.str T :: zs.map V.str) none (some (j : Int))))) := same_new np
      refine ⟨_, rfl, t, _, 0, _, rfl, rfl, SqT.of (s4 _ _ ht3), atI_nat (j := 0) rfl, _, _, rfl, rfl, ?_, by show 1 ≤ sizeLine; decide, fun q nq => ?_⟩
      · have e1 : (Str.ofString "?").length = 1 := by decide +kernel
        have := pt.strs.1
        rw [e1, sizeLine_eq]
        omega
      have s5 : Same (upd H3 p (.tup (cutV (.str T :: zs.map V.str) none (some (j : Int))))) (upd (upd H3 p (.tup (cutV (.str T :: zs.map V.str) none (some (j : Int))))) q (.tup [.str (Str.ofString "?" ++ T)])) := same_new nq
      refine ⟨p, q, _, _, rfl, rfl, s5 _ _ upd_same, upd_same, ?_, fun u H6 s6 hu fu => ?_⟩
      · have := cutV_length (.str T :: zs.map V.str) none (some (j : Int))
        rw [List.length_singleton, sizeLine_eq]
        rw [lx] at this
        omega
      have nu : H u = none := fu.elim (fun z => z ▸ new3 p _ (Same.refl _) np) fun z => z.elim (fun z => z ▸ new3 q _ s4 nq) (new3 u _ (s4.trans s5))
      have s6' := (s4.trans s5).trans s6
      refine ⟨_, rfl, _, rfl, _, _, rfl, rfl, _, rfl, t, _, rfl, SqT.of (s6' _ _ ht3), np2, fun r nr => ?_⟩
      have s7 : Same H6 (upd H6 r (.tup (cutV (.str T :: zs.map V.str) (some ((j : Int) + 1)) none))) := same_new nr
      have b1 := cutV_length (.str T :: zs.map V.str) none (some (j : Int))
      have b2 := cutV_length (.str T :: zs.map V.str) (some ((j : Int) + 1)) none
      rw [lx] at b1 b2
      refine ⟨u, r, _, _, rfl, rfl, s7 _ _ hu, upd_same, by rw [List.length_append, List.length_singleton, sizeLine_eq]; omega, fun x H8 s8 hx fx => ?_⟩
      have nx : H x = none := fx.elim (fun z => z ▸ nu) fun z => z.elim (fun z => z ▸ new3 r _ s6' nr) (new3 x _ (s6'.trans s7))
      refine told x H8 _ ((s6'.trans s7).trans s8) (.inr nx) hx (by rw [List.length_append, List.length_append, List.length_singleton]; omega) fun y my => ?_
      rw [cutV_to, ej, cutV_from] at my
      rcases List.mem_append.mp my with my | my
      · rcases List.mem_append.mp my with my | my
        · exact .inl (List.mem_of_mem_take my)
        · rw [List.mem_singleton.mp my]
          refine .inr (itmR_str ?_ fun x hx => ?_)
          · have e1 : (Str.ofString "?").length = 1 := by decide +kernel
            have := pt.strs.1
            rw [len_app, e1]
            omega
          · rw [tl_append, tl_q] at hx
            rcases List.mem_append.mp hx with hx | hx
            · rw [List.mem_singleton.mp hx]
              decide
            · exact patG_asc pt T List.mem_cons_self x hx
      · exact .inl (List.mem_of_mem_drop my)
    · refine ⟨_, rfl, _, rfl, _, rfl, t, _, rfl, SqT.of ht3, np1, fun p np => ?_⟩
      have s4 : Same H3 (upd H3 p (.tup (cutV (.str T :: zs.map V.str) none (some (j : Int))))) := same_new np
      refine ⟨_, rfl, by show 1 ≤ sizeLine; decide, fun q nq => ?_⟩
      have s5 : Same (upd H3 p (.tup (cutV (.str T :: zs.map V.str) none (some (j : Int))))) (upd (upd H3 p (.tup (cutV (.str T :: zs.map V.str) none (some (j : Int))))) q (.tup [st])) := same_new nq
      refine ⟨p, q, _, _, rfl, rfl, s5 _ _ upd_same, upd_same, ?_, fun u H6 s6 hu fu => ?_⟩
      · have := cutV_length (.str T :: zs.map V.str) none (some (j : Int))
        rw [List.length_singleton, sizeLine_eq]
        rw [lx] at this
        omega
      have nu : H u = none := fu.elim (fun z => z ▸ new3 p _ (Same.refl _) np) fun z => z.elim (fun z => z ▸ new3 q _ s4 nq) (new3 u _ (s4.trans s5))
      have s6' := (s4.trans s5).trans s6
      refine ⟨_, rfl, _, rfl, _, _, rfl, rfl, _, rfl, t, _, rfl, SqT.of (s6' _ _ ht3), np2, fun r nr => ?_⟩
      have s7 : Same H6 (upd H6 r (.tup (cutV (.str T :: zs.map V.str) (some ((j : Int) + 1)) none))) := same_new nr
      have b1 := cutV_length (.str T :: zs.map V.str) none (some (j : Int))
      have b2 := cutV_length (.str T :: zs.map V.str) (some ((j : Int) + 1)) none
      rw [lx] at b1 b2
      refine ⟨u, r, _, _, rfl, rfl, s7 _ _ hu, upd_same, by rw [List.length_append, List.length_singleton, sizeLine_eq]; omega, fun x H8 s8 hx fx => ?_⟩
      have nx : H x = none := fx.elim (fun z => z ▸ nu) fun z => z.elim (fun z => z ▸ new3 r _ s6' nr) (new3 x _ (s6'.trans s7))
      refine told x H8 _ ((s6'.trans s7).trans s8) (.inr nx) hx (by rw [List.length_append, List.length_append, List.length_singleton]; omega) fun y my => ?_
      rw [cutV_to, ej, cutV_from] at my
      rcases List.mem_append.mp my with my | my
      · rcases List.mem_append.mp my with my | my
        · exact .inl (List.mem_of_mem_take my)
        · rw [List.mem_singleton.mp my]
          exact .inr any3.1
      · exact .inl (List.mem_of_mem_drop my)
end
end L2.LawR
set_option Elab.async false
set_option linter.all false
set_option maxRecDepth 100000
set_option maxHeartbeats 4000000
/-! Rule(..). -/
namespace L2.LawH
open PySem PySem.Spec PyProof.Rows L2.TxtSet TL L2.NumSeq
abbrev sInitR : Stmt := inClass (top 17) 0
/-- what a pattern tells of its items -/
theorem vr_of {z : Str} (h : varB z = true) : Vr z := by
  unfold varB at h
  rw [Bool.and_eq_true] at h
  obtain ⟨h1, h2⟩ := h
  refine ⟨⟨(z.cps.toList.drop 1).toArray⟩, h2, ?_⟩
  have q : cutS z none (some 1) = Str.ofString "?" := by
    rw [← first_sign, decide_eq_true_iff] at h1
    exact h1
  have e := cut_to z 1
  rw [show (some ((1 : Nat) : Int)) = some (1 : Int) from rfl, q, tl_q] at e
  refine ext_tl ?_
  rw [tl_append, tl_q, e]
  show tl z = (tl z).take 1 ++ (z.cps.toList.drop 1)
  exact (List.take_append_drop 1 (tl z)).symm
theorem pat_of {ys : List V} (h : patB ys = true) : ∃ (T : Str) (zs : List Str), ys = .str T :: zs.map V.str ∧ PatG T zs := by
  cases ys with
  | nil => cases h
  | cons y r =>
    have h : (decide (r.length ≤ 3) && vN y && r.all fun y => vN y || vV y) = true := h
    rw [Bool.and_eq_true, Bool.and_eq_true, decide_eq_true_iff, List.all_eq_true] at h
    obtain ⟨⟨h1, h2⟩, h3⟩ := h
    obtain ⟨T, rfl⟩ : ∃ T, y = .str T := by
      cases y with
      | str z => exact ⟨z, rfl⟩
      | _ => cases h2
    have go : ∀ r : List V, (∀ y ∈ r, (vN y || vV y) = true) → ∃ zs : List Str, r = zs.map V.str ∧ ∀ z ∈ zs, Nm z ∨ Vr z := by
      intro r
      induction r with
      | nil => exact fun _ => ⟨[], rfl, fun z m => nomatch m⟩
      | cons x r ih =>
        intro hr
        obtain ⟨zs, e, hz⟩ := ih fun y m => hr y (List.mem_cons_of_mem _ m)
        have hx := hr x List.mem_cons_self
        cases x with
        | str z =>
          refine ⟨z :: zs, by rw [e]; rfl, fun u m => ?_⟩
          rcases List.mem_cons.mp m with rfl | m
          · rw [Bool.or_eq_true] at hx
            exact hx.imp (fun h => h) vr_of
          · exact hz u m
        | _ => exact absurd hx (by simp [vN, vV])
    obtain ⟨zs, e, hz⟩ := go r h3
    exact ⟨T, zs, by rw [e], h2, by rw [e, List.length_map] at h1; exact h1, hz⟩
/-- the first of some items that is no pattern -/
def firstOdd : List (V × Option (List V)) → Option V
  | [] => none
  | x :: xs => if pAns x.2 = true then firstOdd xs else some x.1
/-- items asked for patterns -/
def AsksAt (K : PySem.W.Frag) (H : Hp) (xs : List (V × Option (List V))) : Prop := ∀ x ∈ xs, Ask K H x.1 x.2
theorem AsksAt.same {K : PySem.W.Frag} {H H' : Hp} {xs : List (V × Option (List V))} (s : Same H H') (h : AsksAt K H xs) : AsksAt K H' xs := fun x m => (h x m).same s
def ptX (x : Pt) : List V := .str x.2.1 :: x.2.2.map V.str
/-- where all are patterns, they stand as such -/
theorem pats_of {K : PySem.W.Frag} {H : Hp} : ∀ xs : List (V × Option (List V)), AsksAt K H xs → firstOdd xs = none → ∃ ps : List Pt, xs.map (·.1) = ps.map (fun x => V.ref x.1) ∧ xs.map (·.2) = ps.map (fun x => some (ptX x)) ∧ (∀ x ∈ ps, H x.1 = some (.tup (ptX x))) ∧ ∀ x ∈ ps, PatG x.2.1 x.2.2
  | [], _, _ => ⟨[], rfl, rfl, (fun x m => nomatch m), fun x m => nomatch m⟩
  | x :: xs, h, e => by
    obtain ⟨v, o⟩ := x
    have hx := h (v, o) List.mem_cons_self
    unfold firstOdd at e
    by_cases c : pAns o = true
    · rw [if_pos c] at e
      obtain ⟨ps, e1, e2, h1, h2⟩ := pats_of xs (fun y m => h y (List.mem_cons_of_mem _ m)) e
      cases o with
      | none => cases c
      | some ys =>
        obtain ⟨T, zs, ey, g⟩ := pat_of (ys := ys) c
        obtain ⟨t, ev, ht, _, _⟩ := hx
        dsimp only at ev ht
        subst ev ey
        refine ⟨(t, T, zs) :: ps, by rw [List.map_cons, e1]; rfl, by rw [List.map_cons, e2]; rfl, fun y m => ?_, fun y m => ?_⟩
        · rcases List.mem_cons.mp m with rfl | m
          · exact ht
          · exact h1 y m
        · rcases List.mem_cons.mp m with rfl | m
          · exact g
          · exact h2 y m
    · rw [if_neg c] at e
      cases e
end L2.LawH
set_option Elab.async false
set_option linter.all false
set_option maxRecDepth 100000
set_option maxHeartbeats 4000000
/-! Rule(..), or BadPattern, or BadRule. -/
namespace L2.LawH
open PySem PySem.Spec PyProof.Rows L2.TxtSet TL L2.NumSeq
abbrev sBPi : Stmt := inClass (top 3) 0
def spBP (C : Addr) : Sp := fun vs H Q _ => ∃ (e : Addr) (y : V), vs = [.ref e, y] ∧ H e = some (exo e C none) ∧ ∀ dx, H dx = none → dx ≠ e → Q .non (upd (upd H dx (exd dx [("value", y)])) e (exo e C (some dx)))
theorem mk_value {C : Addr} {H H1 : Hp} {Q : XK} {y : V} (s : Same H H1) (k : ∀ (H' : Hp) (d : Addr), Same H H' → H d = none → H' d = some (.xd [("value", y)]) → Q (.ref C) (some d) H') : ∀ a, H1 a = none →
    spBP C [.ref a, y] (upd H1 a (exo a C none)) (fun v H2 => v = .non ∧ ∃ (d : Addr) (fs : List (Str × V)), H2 a = some (exo a C (some d)) ∧ H2 d = some (exd d fs) ∧ H1 d = none ∧ Q (.ref C) (some d) (upd (del H2 a) d (.xd fs))) (fun _ _ _ => False) := fun a na => by
  refine ⟨a, y, rfl, upd_same, fun dx nd ne => ⟨rfl, dx, [("value", y)], upd_same, ?_, ?_, ?_⟩⟩
  · rw [upd_ne ne, upd_same]
  · rw [upd_ne ne] at nd
    exact nd
  · rw [upd_ne ne] at nd
    have old : ∀ b o, H b = some o → b ≠ a ∧ b ≠ dx := fun b o h => by
      have h1 := s _ _ h
      refine ⟨fun e => ?_, fun e => ?_⟩
      · rw [e, na] at h1
        cases h1
      · rw [e, nd] at h1
        cases h1
    refine k _ dx (fun b o h => ?_) ?_ upd_same
    · obtain ⟨n1, n2⟩ := old b o h
      rw [upd_ne n2, del_ne n1, upd_ne n1, upd_ne n2, upd_ne n1]
      exact s _ _ h
    · cases e : H dx with
      | none => rfl
      | some o =>
        rw [s _ _ e] at nd
        cases nd
theorem isP_ask {K : PySem.W.Frag} {H : Hp} {x : V} {o : Option (List V)} {Q : VK} {E : XK} (h : Ask K H x o) (k : ∀ H', Same H H' → Q (.bl (pAns o)) H') : spIsP K patB [x] H Q E := by
  refine ⟨x, rfl, ?_⟩
  cases o with
  | none => exact .inr ⟨h.2, k⟩
  | some ys =>
    obtain ⟨t, e, ht, l, it⟩ := h
    exact .inl ⟨t, ys, e, ht, by omega, fun y m => (it y m).1.okv, k⟩
theorem first_at : ∀ (l : List (V × Option (List V))) (i : Nat) (x : V × Option (List V)), l[i]? = some x → ((l.take i).all fun x => pAns x.2) = true → pAns x.2 = false → firstOdd l = some x.1
  | [], i, x, h, _, _ => by simp at h
  | y :: l, 0, x, h, _, no => by
    simp only [List.getElem?_cons_zero, Option.some.injEq] at h
    subst h
    unfold firstOdd
    rw [if_neg (by rw [no]; exact Bool.false_ne_true)]
  | y :: l, i + 1, x, h, al, no => by
    rw [List.take_succ_cons, List.all_cons, Bool.and_eq_true] at al
    unfold firstOdd
    rw [if_pos al.1]
    exact first_at l i x (by simpa using h) al.2 no
theorem first_none : ∀ (l : List (V × Option (List V))), (l.all fun x => pAns x.2) = true → firstOdd l = none
  | [], _ => rfl
  | y :: l, al => by
    rw [List.all_cons, Bool.and_eq_true] at al
    unfold firstOdd
    rw [if_pos al.1]
    exact first_none l al.2
theorem frees_le3 {xs : List Pt} (h : ∀ x ∈ xs, x.2.2.length ≤ 3) : (frees xs).length ≤ 3 * xs.length := by
  unfold frees
  refine Nat.le_trans (List.length_filter_le _ _) ?_
  induction xs with
  | nil => simp
  | cons x r ih =>
    have h1 := h x List.mem_cons_self
    have h2 := ih fun y m => h y (List.mem_cons_of_mem _ m)
    rw [List.flatMap_cons, List.length_append, List.length_cons]
    omega
structure ClsR (K : PySem.W.Frag) (mg : Str → Option Value) (C : Addr) : Prop where
  cl : Cls K C
  nB : PySem.W.findIn K (.ref C) "_body" = some none
  nH : PySem.W.findIn K (.ref C) "_head" = some none
  nR : PySem.W.findIn K (.ref C) "_ready" = some none
def fsR (t h : V) : List (Str × V) := [("_body", t), ("_head", h), ("_ready", .non)]
/-- the variables of the head are among those of the body -/
def headIn (ps : List Pt) (pt : Pt) : Bool := (frees [pt]).all fun z => decide (z ∈ frees ps)
def spInitR (C B D : Addr) (K : PySem.W.Frag) : Sp := fun vs H Q E => ∃ (p b dx : Addr) (xs : List (V × Option (List V))) (hd : V × Option (List V)), vs = [.ref p, .ref b, hd.1] ∧ H p = some (.ins C dx []) ∧
  (H b = some (.lst (xs.map (·.1))) ∨ H b = some (.tup (xs.map (·.1)))) ∧ AsksAt K H (xs ++ [hd]) ∧ xs.length ≤ 8 ∧
  (∀ y, firstOdd (xs ++ [hd]) = some y → ∀ (H' : Hp) (d : Addr), Same H H' → H d = none → H' d = some (.xd [("value", y)]) → E (.ref B) (some d) H') ∧
  (firstOdd (xs ++ [hd]) = none → ∀ (ps : List Pt) (pt : Pt), xs.map (·.1) = ps.map (fun x => V.ref x.1) → hd.1 = .ref pt.1 → (∀ x ∈ ps ++ [pt], H x.1 = some (.tup (ptX x)) ∧ PatG x.2.1 x.2.2) →
    (headIn ps pt = false → ∀ H', Same H H' → E (.ref D) none H') ∧
    (headIn ps pt = true → ∀ (H' : Hp) (t : Addr), (∀ b o, b ≠ p → H b = some o → H' b = some o) → H' p = some (.ins C dx (fsR (.ref t) hd.1)) → H' t = some (.tup (xs.map (·.1))) → Q .non H'))
section
variable {P : Program} {w : World} {K : PySem.W.Frag} {mg : Str → Option Value} {base : Heap}
theorem scBP : FnScope ["self", "value"] ["self", "value"] (defScope sBPi) := ⟨rfl, rfl, rfl, by decide +kernel, rfl, by decide +kernel, by decide +kernel⟩
theorem ok_BP {f C : Addr} {fd : FuncData} (F : Fun K "__init__" "BadPattern.__init__" sBPi f fd) (T : OexC K C) (nl : PySem.W.findIn K (.ref C) "value" = some none) : FnOk P w K mg base CX0 1 f fd ["self", "value"] (spBP C) := by
  refine F.ok scBP (fun vs H Q E h => ?_) (fun cdv A outer s H vs Q E hr h => ?_)
  · obtain ⟨e, n, rfl, _⟩ := h
    rfl
  · obtain ⟨e, n, rfl, he, k⟩ := h
    refine ⟨_, pss_one (ps_ost (pv 0) (pv 1)), ?_⟩
    exact ⟨_, rfl, _, rfl, e, C, rfl, T, nl, .inl ⟨he, fun dx h1 h2 => k dx h1 h2⟩⟩
theorem op_inRK {X : Cx} {K : PySem.W.Frag} (e : X.K = K) : OpR X (compareOp .In) (rIn K false) := by
  subst e
  exact op_in_seq
abbrev nIR : List Str := ["self", "body", "head", "value", "held", "name"]
theorem scIR : FnScope nIR ["self", "body", "head"] (defScope sInitR) := ⟨rfl, rfl, rfl, by decide +kernel, rfl, by decide +kernel, by decide +kernel⟩
theorem ok_initR {f fP fV fI C B D : Addr} {fd fdP fdV fdI : FuncData} {bmB : List Value} (F : Fun K "__init__" "Rule.__init__" sInitR f fd) (T : ClsR K mg C)
    (GP : FnOk P w K mg base CX0 3 fP fdP ["value"] (spIsP K patB)) (kP : PySem.W.keepIn K (.ref fP) = true) (bP : Binds K fdP ["value"] []) (mP : mg "is_pattern" = some (.ref fP))
    (GV : FnOk P w K mg base CX0 2 fV fdV ["lot"] spVars) (kV : PySem.W.keepIn K (.ref fV) = true) (bV : Binds K fdV ["lot"] []) (mV : mg "variables_of" = some (.ref fV))
    (TB : OexC K B) (iB : PySem.W.findIn K (.ref B) "__init__" = some (some (.ref fI))) (tI : PySem.W.typeIn K (.ref fI) = some (.type "function")) (GI : FnOk P w K mg base CX0 1 fI fdI ["self", "value"] (spBP B)) (bI : Binds K fdI ["self", "value"] []) (mB : mg "BadPattern" = some (.ref B))
    (FB : ExcBaseFacts "ValueError" "ValueError.__new__" "ValueError.__init__" bmB) (xD : PySem.W.excIn K D bmB "ValueError.__new__" = true) (gD : mg "BadRule" = some (.ref D)) (kD : PySem.W.keepIn K (.ref D) = true) (rD : ∀ {X : Cx}, X.K = K → Raises X (.ref D))
    (ma : mg "all" = none) (mt : mg "tuple" = none) : FnOk P w K mg base (L2.CX P w) 4 f fd ["self", "body", "head"] (spInitR C B D K) := by
  refine F.okX scIR (fun vs H Q E h => ?_) (fun cdv A outer s H vs Q E hr h => ?_)
  · obtain ⟨p, b, dx, xs, hd, rfl, _⟩ := h
    rfl
  · obtain ⟨p, b, dx, xs, hd, rfl, hp, hb, ask, few, bad, good⟩ := h
    have hr1 : Room 1 _ := hr.mono (by decide)
    have hr2 : Room 2 _ := hr.mono (by decide)
    have hr3 : Room 3 _ := hr.mono (by decide)
    refine ⟨_, pss_cons (ps_for (passes_of rfl) rfl (pi_list (pe_lst (StX.pa_star (pv 1) (pa_cons (pv 2) pa_nil)))) (pg_name (i := 3) scIR.nd rfl (Or.inl rfl))
        (pss_one (ps_if (pt_not (pt_val (pe_call GP hr3 (by rfl) mP kP bP .nil pass0 (pa_cons (pv 3) pa_nil)))) (pss_one (ps_raise rfl (takes_of rfl rfl rfl rfl) (pmk_oex TB iB tI GI hr2 bI .nil pass0 (by rfl) mB (pa_cons (pv 3) pa_nil)))) pss_nil)))
      (pss_cons (ps_set (i := 4) scIR.nd rfl (Or.inr rfl) (pe_call GV hr2 (by rfl) mV kV bV .nil pass0 (pa_cons (pv 1) pa_nil)))
      (pss_cons (ps_if (pt_not (pt_val (pe_callB (cr_all rfl) (by rfl) ma (by decide +kernel) (pa_cons (pe_lc (own := [("name", 5)]) (g := gName 5) (tt := tYes) rfl scIR.nd (pi_list (pe_call GV hr2 (by rfl) mV kV bV .nil pass0 (pa_cons (pe_lst (pa_cons (pv 2) pa_nil)) pa_nil)))
          (blkOk_by (own := [("name", 5)]) (N := nIR) (sc := defScope sInitR) (by decide +kernel)) (fun _ _ _ _ _ => pg_name (i := 5) scIR.nd rfl (Or.inl rfl)) (fun _ _ _ _ _ => pts_nil)
          (fun _ _ _ _ _ => pe_cmpR (op_inRK (K := K) rfl) (pv 5) (pv 4) (by rfl))) pa_nil)))) (pss_one (ps_raise rfl (takes_of rfl rfl rfl rfl) (pmk_own0 FB xD gD kD (rD rfl) (by rfl)))) pss_nil)
      (pss_cons (ps_fld (pv 0) (pe_callTy call_tuple_of (by rfl) mt (by decide +kernel) (pa_cons (pv 1) pa_nil)) rfl)
      (pss_cons (ps_fld (pv 0) (pv 2) rfl)
      (pss_one (ps_fld (pv 0) pe_non rfl)))))), ?_⟩
    have pb : b ≠ p := fun e => by
      rcases hb with h | h <;> rw [e, hp] at h <;> cases h
    have sqb : SqT K H b (xs.map (·.1)) ∨ SqL K H b (xs.map (·.1)) := hb.elim (fun h => .inr (SqL.of h)) fun h => .inl (SqT.of h)
    refine ⟨_, rfl, b, _, rfl, sqb, _, rfl, by rw [List.length_append, List.length_map, sizeLine_eq]; show xs.length + 1 ≤ _; omega, fun q nq => ?_⟩
    have s1 : Same H (upd H q (.lst (xs.map (·.1) ++ [hd.1]))) := same_new nq
    have c1 : (upd H q (.lst (xs.map (·.1) ++ [hd.1]))) q = some (.lst ((xs ++ [hd]).map (·.1))) := by
      rw [upd_same, List.map_append]
      rfl
    generalize upd H q (.lst (xs.map (·.1) ++ [hd.1])) = H1 at s1 c1 ⊢
    refine ⟨q, rfl, ⟨_, SqL.of c1⟩, for_it (L2.walk_list (K := K)) (fun i σ H5 => ∃ v3 : Option V, σ = [some (.ref p), some (.ref b), some hd.1, v3, none, none] ∧ Same H1 H5 ∧ (((xs ++ [hd]).take i).all fun x => pAns x.2) = true) ⟨none, rfl, Same.refl _, rfl⟩ (fun i σ H5 _ pp => let ⟨_, _, s5, _⟩ := pp; SqL.of (s5 _ _ c1)) (fun i z σ H5 H6 hi pp yy => ?_) (fun σ H5 pp => ?_)⟩
    · obtain ⟨v3, rfl, s5, al⟩ := pp
      obtain ⟨rfl, hz⟩ := yy
      rw [List.getElem?_map] at hz
      obtain ⟨x, hx, rfl⟩ := Option.map_eq_some_iff.mp hz
      have ax := (ask x (List.mem_of_getElem? hx)).same (s1.trans s5)
      refine ⟨_, rfl, ?_⟩
      dsimp only [tNil, List.cons_append, List.nil_append]
      refine isP_ask (E := E0) ax fun H7 s7 => ⟨_, rfl, ?_⟩
      refine ite2 (fun e => ?_) (fun e => ?_)
      · have e : pAns x.2 = false := by simpa using e
        refine ⟨_, rfl, (by show 1 ≤ 1000; decide), ?_⟩
        exact mk_value ((s1.trans s5).trans s7) fun H' d s' nd hd' => bad x.1 (first_at _ i x hx al e) H' d s' nd hd'
      · have e : pAns x.2 = true := by simpa using e
        refine ⟨_, rfl, s5.trans s7, ?_⟩
        rw [List.take_succ, hx, List.all_append, al, Bool.true_and]
        show ([x].all fun x => pAns x.2) = true
        rw [List.all_cons, e]
        rfl
    · obtain ⟨v3, rfl, s5, al⟩ := pp
      rw [List.length_map, List.take_length] at al
      have fn := first_none _ al
      obtain ⟨ps', e1, e2, h1, h2⟩ := pats_of (xs ++ [hd]) ask fn
      obtain ⟨ps, pt, rfl⟩ : ∃ ps pt, ps' = ps ++ [pt] := by
        rcases List.eq_nil_or_concat ps' with rfl | ⟨l, y, e⟩
        · simp at e1
        · exact ⟨l, y, by rw [e, List.concat_eq_append]⟩
      rw [List.map_append, List.map_append] at e1
      obtain ⟨ea, eb⟩ := List.append_inj' e1 rfl
      have eb : hd.1 = .ref pt.1 := by simpa using eb
      have good := good fn ps pt ea eb fun x m => ⟨h1 x m, h2 x m⟩
      have s15 := s1.trans s5
      have lps : ps.length ≤ 8 := by
        have := congrArg List.length ea
        rw [List.length_map, List.length_map] at this
        omega
      have bd : ∀ x ∈ ps ++ [pt], ∀ z ∈ x.2.2, 1 ≤ z.length ∧ z.length ≤ 100 := fun x m z mz => by
        have := tm_len ((h2 x m).each z mz)
        omega
      have f1 : (frees ps).length ≤ 60 := by
        have := frees_le3 fun x (m : x ∈ ps) => (h2 x (List.mem_append_left _ m)).few
        omega
      have f2 : (frees [pt]).length ≤ 60 := by
        have := frees_le3 (xs := [pt]) fun x (m : x ∈ [pt]) => (h2 x (List.mem_append_right _ m)).few
        have : [pt].length = 1 := rfl
        omega
      refine ⟨_, rfl, b, ps, rfl, ⟨?_, fun x m => s15 _ _ (h1 x (List.mem_append_left _ m))⟩, fun x m => bd x (List.mem_append_left _ m), f1, fun wd ws H6 s6 nw pm so hw => ?_⟩
      · rw [← ea]
        exact hb.imp (fun h => s15 _ _ h) fun h => s15 _ _ h
      have s16 := s15.trans s6
      refine ⟨_, rfl, by show 1 ≤ sizeLine; decide, fun l nl => ?_⟩
      have s7 : Same H6 (upd H6 l (.lst [hd.1])) := same_new nl
      have c7 : (upd H6 l (.lst [hd.1])) l = some (.lst ([pt].map fun x => V.ref x.1)) := by
        rw [upd_same, eb]
        rfl
      generalize upd H6 l (.lst [hd.1]) = H7 at s7 c7 ⊢
      have s17 := s16.trans s7
      refine ⟨l, [pt], rfl, ⟨.inl c7, fun x m => s17 _ _ (h1 x (List.mem_append_right _ m))⟩, fun x m => bd x (List.mem_append_right _ m), f2, fun w2 ws2 H8 s8 nw2 pm2 so2 hw2 => ?_⟩
      have hw8 := s8 _ _ (s7 _ _ hw)
      refine ⟨w2, rfl, ⟨_, SqL.of hw2⟩, fun L nL => ?_⟩
      have lw2 : ws2.length ≤ 60 := by
        rw [pm2.length_eq]
        exact Nat.le_trans (uniq_len _) f2
      refine lc_sift (ms := ws2) (val := V.str) (L2.walk_list (K := K)) (List.length_map _) (fun _ => true) (fun z => V.bl (decide (z ∈ ws))) nL (by omega) (fun H' s' => SqL.of (s' _ _ hw2)) (fun z hz H9 Yes No s9 yes no => ?_) (fun H9 s9 hL => ?_)
      · refine ⟨rfl, _, rfl, _, rfl, wd, ws.map V.str, rfl, .inl (SqL.of (s9 _ _ hw8)), rfl, flat_strs ws, ?_⟩
        rw [if_neg Bool.false_ne_true, inV_strs]
        exact yes _ (Same.refl _) rfl
      rw [List.filter_eq_self.mpr (fun _ _ => rfl)] at hL
      have s19 := (s17.trans s8).trans s9
      refine ⟨L, ws2.map fun z => decide (z ∈ ws), rfl, SqL.of (by rw [hL, List.map_map] <;> rfl), _, rfl, ?_⟩
      have eh : (ws2.map fun z => decide (z ∈ ws)).all id = headIn ps pt := by
        unfold headIn
        rw [List.all_map, Bool.eq_iff_iff, List.all_eq_true, List.all_eq_true]
        have mw : ∀ z, z ∈ ws ↔ z ∈ frees ps := fun z => by rw [pm.mem_iff, uniq_mem]
        refine ⟨fun h z m => ?_, fun h z m => ?_⟩
        · have := h z (pm2.mem_iff.mpr (uniq_mem.mpr m))
          exact decide_eq_true ((mw z).mp (of_decide_eq_true this))
        · have := h z (uniq_mem.mp (pm2.mem_iff.mp m))
          exact decide_eq_true ((mw z).mpr (of_decide_eq_true this))
      rw [eh]
      refine ite2 (fun e => good.1 (by simpa using e) _ s19) (fun e => ?_)
      have e : headIn ps pt = true := by simpa using e
      rcases hb with hb | hb
      · refine ⟨_, rfl, b, _, rfl, .inl ⟨SqL.of (s19 _ _ hb), fun t nt => ?_⟩⟩
        have s20 : Same H9 (upd H9 t (.tup (xs.map (·.1)))) := same_new nt
        have c20 : (upd H9 t (.tup (xs.map (·.1)))) t = some (.tup (xs.map (·.1))) := upd_same
        generalize upd H9 t (.tup (xs.map (·.1))) = H10 at s20 c20 ⊢
        have s1X := s19.trans s20
        have tp : t ≠ p := ne_ins (s1X _ _ hp) c20 fun _ _ _ e => by cases e
        refine ⟨_, rfl, p, C, dx, [], rfl, s1X _ _ hp, T.cl, T.nB, (by show 0 < 1000; decide), ?_⟩
        have g1 : (upd H10 p (.ins C dx (putF "_body" (.ref t) []))) p = some (.ins C dx [("_body", .ref t)]) := upd_same
        have k1 : ∀ b o, b ≠ p → H10 b = some o → (upd H10 p (.ins C dx (putF "_body" (.ref t) []))) b = some o := fun b o n h => by
          rw [upd_ne n]
          exact h
        generalize upd H10 p (.ins C dx (putF "_body" (.ref t) [])) = G1 at g1 k1 ⊢
        refine ⟨_, rfl, _, rfl, p, C, dx, _, rfl, g1, T.cl, T.nH, (by show 1 < 1000; decide), ?_⟩
        have g2 : (upd G1 p (.ins C dx (putF "_head" hd.1 [("_body", .ref t)]))) p = some (.ins C dx [("_body", .ref t), ("_head", hd.1)]) := upd_same
        have k2 : ∀ b o, b ≠ p → H10 b = some o → (upd G1 p (.ins C dx (putF "_head" hd.1 [("_body", .ref t)]))) b = some o := fun b o n h => by
          rw [upd_ne n]
          exact k1 b o n h
        generalize upd G1 p (.ins C dx (putF "_head" hd.1 [("_body", .ref t)])) = G2 at g2 k2 ⊢
        refine ⟨_, rfl, p, C, dx, _, rfl, g2, T.cl, T.nR, (by show 2 < 1000; decide), ?_⟩
        refine good.2 e _ t (fun b o n h => ?_) upd_same ?_
        · rw [upd_ne n]
          exact k2 b o n (s1X _ _ h)
        · rw [upd_ne tp]
          exact k2 _ _ tp c20
      · refine ⟨_, rfl, b, _, rfl, .inr ⟨SqT.of (s19 _ _ hb), ?_⟩⟩
        refine ⟨_, rfl, p, C, dx, [], rfl, s19 _ _ hp, T.cl, T.nB, (by show 0 < 1000; decide), ?_⟩
        have g1 : (upd H9 p (.ins C dx (putF "_body" (.ref b) []))) p = some (.ins C dx [("_body", .ref b)]) := upd_same
        have k1 : ∀ y o, y ≠ p → H9 y = some o → (upd H9 p (.ins C dx (putF "_body" (.ref b) []))) y = some o := fun y o n h => by
          rw [upd_ne n]
          exact h
        generalize upd H9 p (.ins C dx (putF "_body" (.ref b) [])) = G1 at g1 k1 ⊢
        refine ⟨_, rfl, _, rfl, p, C, dx, _, rfl, g1, T.cl, T.nH, (by show 1 < 1000; decide), ?_⟩
        have g2 : (upd G1 p (.ins C dx (putF "_head" hd.1 [("_body", .ref b)]))) p = some (.ins C dx [("_body", .ref b), ("_head", hd.1)]) := upd_same
        have k2 : ∀ y o, y ≠ p → H9 y = some o → (upd G1 p (.ins C dx (putF "_head" hd.1 [("_body", .ref b)]))) y = some o := fun y o n h => by
          rw [upd_ne n]
          exact k1 y o n h
        generalize upd G1 p (.ins C dx (putF "_head" hd.1 [("_body", .ref b)])) = G2 at g2 k2 ⊢
        refine ⟨_, rfl, p, C, dx, _, rfl, g2, T.cl, T.nR, (by show 2 < 1000; decide), ?_⟩
        refine good.2 e _ b (fun y o n h => ?_) upd_same ?_
        · rw [upd_ne n]
          exact k2 y o n (s19 _ _ h)
        · rw [upd_ne pb]
          exact k2 _ _ pb (s19 _ _ hb)
end
end L2.LawH
set_option Elab.async false
set_option linter.all false
set_option maxRecDepth 100000
set_option maxHeartbeats 4000000
/-! xs != [] of any list. -/
namespace L2.LstNo
open PySem PySem.Spec PyProof.Rows PySem.SeqAt AutoSeq1 MeetsSeq MeetsSeq2 MeetsSeq3
section
variable {P : Program} {w : World} {A : Around} {s : Shared}
theorem ne_sizes {l b : Addr} {xs ys : Array Value} (h1 : s.heap.IsList l xs) (h2 : s.heap.IsList b ys) (hz : xs.size ≠ ys.size) (hu : A.units + 8 < cLine)
    (E : Value → Shared → Prop) (Q : Value → Shared → Prop) (h : Q (.bool true) s) : wpAny (model P w) A (compareOp .NotEq (.ref l) (.ref b)) Q E s := by
  obtain ⟨⟨c1, d1, e1, s1⟩, ho1, hc1, n1, hd1⟩ := h1
  obtain ⟨⟨c2, d2, e2, s2⟩, ho2, hc2, n2, hd2⟩ := h2
  simp only at hc1 hd1 hc2 hd2
  subst hc1 hd1 hc2 hd2
  have ta : s.TypeIs (.ref l) "list" := ⟨_, ho1, rfl⟩
  have tb : s.TypeIs (.ref b) "list" := ⟨_, ho2, rfl⟩
  have whole : MeetsIn P w (Builtin.«list.__ne__» ⟨[.ref l, .ref b], []⟩) (fun A R s => s.heap.get? l = some { cls := .type "list", dict := d1, data := .seq xs n1, slots := s1 } ∧ s.heap.get? b = some { cls := .type "list", dict := d2, data := .seq ys n2, slots := s2 } ∧ R (.ok (.ret (.bool true))) s) := by
    rintro A R ⟨hp, g, d, tk, os⟩ ⟨hl, hb, h⟩
    have f3 := AutoSeq1.sub_list_list
    have hne : (xs.size != ys.size) = true := by simp [hz]
    wp_walk using wpAny_loadPart' hl, wpAny_loadPart' hb
    exact h
  exact wpAny_richCompare_same_room (op := .NotEq) ta tb F.slot_list_ne (call_meetsIn F.slot_list_ne ta F.entry_list_ne (F.args_list_ne_2 _ _) whole ⟨ho1, ho2, show Value.bool true ≠ Value.notImplemented ∧ Q (.bool true) s from ⟨(fun x => nomatch x), h⟩⟩) (by omega)
end
section
variable {X : Cx}
def rNeNil (K : PySem.W.Frag) : R2 := fun x y H Q => ∃ a b xs, x = .ref a ∧ y = .ref b ∧ SqL K H a xs ∧ SqL K H b [] ∧ Q (.bl (!xs.isEmpty)) H
theorem op_neNil (hu : X.A.units + 64 < cLine) : OpR X (compareOp .NotEq) (rNeNil X.K) := by
  intro pins s σ H x y v u Q I rx ry h
  obtain ⟨a, b, xs, rfl, rfl, ha, hb, q⟩ := h
  cases xs with
  | nil => exact op_neD hu pins s σ H _ _ v u Q I rx ry ⟨.list [], .list [], .lst ha .nil, .lst hb .nil, by decide, by decide, q⟩
  | cons x0 xs =>
    cases (show v = Value.ref a from rx)
    cases (show u = Value.ref b from ry)
    obtain ⟨us, r1, p1, _⟩ := I.list ha
    obtain ⟨ws, r2, p2, _⟩ := I.list hb
    refine ne_sizes (A := X.A) p1.isList p2.isList ?_ (by omega) X.xe (EP X pins σ Q) ⟨.bl true, H, I, rfl, q⟩
    rw [List.size_toArray, List.size_toArray, ← r1.length, ← r2.length]
    simp
end
end L2.LstNo
set_option Elab.async false
set_option linter.all false
set_option maxRecDepth 100000
set_option maxHeartbeats 4000000
/-! _law_rule_due. -/
namespace L2.LawH
open PySem PySem.Spec PyProof.Rows L2.TxtSet TL L2.NumSeq L2.XVal L2.LstNo
abbrev sRDue : Stmt := top 39
abbrev It3 := V × Option (List V) × PyData
def AskD (K : PySem.W.Frag) (H : Hp) (x : It3) : Prop := Ask K H x.1 x.2.1 ∧ Shr K H x.1 x.2.2
theorem AskD.same {K : PySem.W.Frag} {H H' : Hp} (s : Same H H') {x : It3} (h : AskD K H x) : AskD K H' x := ⟨h.1.same s, h.2.same s⟩
def oddI (x : It3) : Bool := !pAns x.2.1
def patD10 (x : Pt) : PyData := .tuple ((x.2.1 :: x.2.2).map PyData.str)
def fineD (ps : List Pt) (pt : Pt) : PyData := .tuple [.tuple (ps.map patD10), patD10 pt]
theorem shn_pat {x : Pt} (h : PatG x.2.1 x.2.2) : Shn (patD10 x) 240 := by
  have q : ∀ d ∈ (x.2.1 :: x.2.2).map PyData.str, Shn d 54 := fun d m => by
    obtain ⟨z, mz, rfl⟩ := List.mem_map.mp m
    have l : z.length ≤ 13 := by
      rcases List.mem_cons.mp mz with rfl | mz
      · exact Nat.le_trans h.strs.1 (by decide)
      · exact h.strs.2 z mz
    exact (shn_str (LawR.patG_asc h z mz)).mono (by omega)
  refine (shn_tup q).mono ?_
  rw [List.length_map, List.length_cons]
  have := h.few
  omega
theorem depth_strs10 : ∀ zs : List Str, PyData.depthAll (zs.map PyData.str) ≤ 1
  | [] => by simp [PyData.depthAll]
  | z :: zs => by
    have := depth_strs10 zs
    rw [List.map_cons]
    simp only [PyData.depthAll, PyData.depth]
    omega
theorem depth_pats : ∀ ps : List Pt, PyData.depthAll (ps.map patD10) ≤ 2
  | [] => by simp [PyData.depthAll]
  | x :: ps => by
    have := depth_pats ps
    have := depth_strs10 (x.2.1 :: x.2.2)
    rw [List.map_cons]
    simp only [PyData.depthAll, patD10, PyData.depth]
    omega
theorem dps_pats {K : PySem.W.Frag} {H : Hp} : ∀ ps : List Pt, (∀ x ∈ ps, H x.1 = some (.tup (ptX x))) → DpAll K H (ps.map fun x => V.ref x.1) (ps.map patD10)
  | [], _ => .nil
  | x :: ps, h => .cons (dp_pat (h x List.mem_cons_self)) (dps_pats ps fun y m => h y (List.mem_cons_of_mem _ m))
theorem fine_shr {K : PySem.W.Frag} {H : Hp} {u t : Addr} {ps : List Pt} {pt : Pt} (l : ps.length ≤ 8) (hu : H u = some (.tup [.ref t, .ref pt.1])) (ht : H t = some (.tup (ps.map fun x => V.ref x.1))) (h : ∀ x ∈ ps ++ [pt], H x.1 = some (.tup (ptX x)) ∧ PatG x.2.1 x.2.2) : Shr K H (.ref u) (fineD ps pt) := by
  have q1 : ∀ d ∈ ps.map patD10, Shn d 240 := fun d m => by
    obtain ⟨x, mx, rfl⟩ := List.mem_map.mp m
    exact shn_pat (h x (List.mem_append_left _ mx)).2
  have q2 := shn_pat (h pt (List.mem_append_right _ List.mem_cons_self)).2
  have q3 : Shn (.tuple (ps.map patD10)) 2000 := (shn_tup q1).mono (by rw [List.length_map]; omega)
  have q4 : Shn (fineD ps pt) 5000 := (shn_tup (B := 2000) (ds := [.tuple (ps.map patD10), patD10 pt]) fun d m => by
    simp only [List.mem_cons, List.not_mem_nil, or_false] at m
    rcases m with rfl | rfl
    · exact q3
    · exact q2.mono (by omega)).mono (by show 2 * 2002 + 3 ≤ 5000; decide)
  refine ⟨q4.ok, q4.len, ?_, q4.asc, .inl ⟨.tup (SqT.of hu) (.cons (.tup (SqT.of ht) (dps_pats ps fun x m => (h x (List.mem_append_left _ m)).1)) (.cons (dp_pat (h pt (List.mem_append_right _ List.mem_cons_self)).1) .nil)), q4.nd⟩⟩
  have := depth_pats ps
  have := depth_strs10 (pt.2.1 :: pt.2.2)
  simp only [fineD, patD10, PyData.depth, PyData.depthAll]
  omega
/-- what the law says of a rule -/
def outL (ps : List Pt) (pt : Pt) : List V := if headIn ps pt = true then [.str (Str.ofString "fine"), .str (fineD ps pt).shown] else [.str (Str.ofString "rule"), .str (Str.ofString "")]
/-- what both of the law's functions ask, and tell -/
def RuleAlt (H : Hp) (xs : List It3) (hd : It3) (Q : VK) : Prop :=
  (∃ y, (xs ++ [hd]).find? oddI = some y ∧ ∀ (H' : Hp) (r : Addr), Same H H' → H r = none → H' r = some (.tup [.str (Str.ofString "pattern"), .str y.2.2.shown]) → Q (.ref r) H') ∨
   ((xs ++ [hd]).find? oddI = none ∧ ∃ (ps : List Pt) (pt : Pt), xs.map (·.1) = ps.map (fun x => V.ref x.1) ∧ hd.1 = .ref pt.1 ∧ (∀ x ∈ ps ++ [pt], H x.1 = some (.tup (ptX x)) ∧ PatG x.2.1 x.2.2) ∧
     ∀ (H' : Hp) (r : Addr), Same H H' → H r = none → H' r = some (.tup (outL ps pt)) → Q (.ref r) H')
def spRDue (K : PySem.W.Frag) : Sp := fun vs H Q _ => ∃ (b : Addr) (xs : List It3) (hd : It3), vs = [.ref b, hd.1] ∧ H b = some (.lst (xs.map (·.1))) ∧ xs.length ≤ 8 ∧ (∀ x ∈ xs ++ [hd], AskD K H x) ∧
  RuleAlt H xs hd Q
section
variable {P : Program} {w : World} {K : PySem.W.Frag} {mg : Str → Option Value} {base : Heap}
abbrev nRDue : List Str := ["_law_body", "_law_head", "_law_odd_here", "_law_value", "_law_variable"]
theorem scRDue : FnScope nRDue ["_law_body", "_law_head"] (defScope sRDue) := ⟨rfl, rfl, rfl, by decide +kernel, rfl, by decide +kernel, by decide +kernel⟩
theorem ok_rdue {f fP fV : Addr} {fd fdP fdV : FuncData} (F : Fun K "_law_rule_due" "_law_rule_due" sRDue f fd)
    (GP : FnOk P w K mg base CX0 3 fP fdP ["_law_value", "_law_open_too"] (spLIP K)) (kP : PySem.W.keepIn K (.ref fP) = true) (bP : Binds K fdP ["_law_value", "_law_open_too"] []) (mP : mg "_law_is_pattern" = some (.ref fP))
    (GV : FnOk P w K mg base CX0 2 fV fdV ["_law_lot_here"] spLVars) (kV : PySem.W.keepIn K (.ref fV) = true) (bV : Binds K fdV ["_law_lot_here"] []) (mV : mg "_law_variables" = some (.ref fV))
    (mL : mg "list" = none) (mt : mg "tuple" = none) (mr : mg "repr" = none) : FnG P w K mg base CX0 4 f fd ["_law_body", "_law_head"] (spRDue K) := by
  refine fnG_ok F scRDue (fun vs H Q E h => ?_) (fun cdv A outer s H vs Q E hgd hr h => ?_)
  · obtain ⟨b, xs, hd, rfl, _⟩ := h
    rfl
  · obtain ⟨b, xs, hd, rfl, hb, few, ask, cs⟩ := h
    have hu := hr.units
    have hr2 : Room 2 _ := hr.mono (by decide)
    refine ⟨_, pss_cons (ps_setLc (i := 2) (own := [("_law_value", 3)]) (g := gName 3) (tt := tNot (tB (tCall (spLIP K) [] E0 (tCons (tVar 3) (tCons (tC (.bl true)) tNil))))) rfl scRDue.nd rfl rfl (sw_true rfl rfl rfl (by decide +kernel))
          (pi_list (pe_op op_cat (pe_callTy call_list_of (by rfl) mL (by decide +kernel) (pa_cons (pv 0) pa_nil)) (pe_lst (pa_cons (pv 1) pa_nil))))
          (blkOk_by (own := [("_law_value", 3)]) (N := nRDue) (sc := defScope sRDue) (by decide +kernel)) (fun _ _ _ _ _ => pg_name (i := 3) scRDue.nd rfl (Or.inl rfl))
          (fun _ _ _ _ _ => pts_one (pt_not (pt_val (pe_call GP hr (by rfl) mP kP bP .nil pass0 (pa_cons (pv 3) (pa_cons pe_bl pa_nil)))))) (fun _ _ _ _ _ => pv 3))
      (pss_cons (ps_if (pt_cmpR (op_neNil hu) (pv 2) (pe_lst pa_nil) (by rfl)) (pss_one (ps_ret (pe_tup (pa_cons pe_str (pa_cons (pe_callB (call_reprD hgd hu) (by rfl) mr (by decide +kernel) (pa_cons (pe_ix ix_list (pv 2) pe_int (fun _ _ => rfl)) pa_nil)) pa_nil))))) pss_nil)
      (pss_cons (ps_if (pt_cmpR (op_neNil hu) (pe_lc (own := [("_law_variable", 4)]) (g := gName 4) (tt := tB (tOp (rIn K true) (tVar 4) (tCall spLVars [] E0 (tCons (tVar 0) tNil)))) rfl scRDue.nd (pi_list (pe_call GV hr2 (by rfl) mV kV bV .nil pass0 (pa_cons (pe_lst (pa_cons (pv 1) pa_nil)) pa_nil)))
          (blkOk_by (own := [("_law_variable", 4)]) (N := nRDue) (sc := defScope sRDue) (by decide +kernel)) (fun _ _ _ _ _ => pg_name (i := 4) scRDue.nd rfl (Or.inl rfl))
          (fun _ _ _ _ _ => pts_one (pt_cmpR (op_notInNK (K := K) rfl) (pv 4) (pe_call GV hr2 (by rfl) mV kV bV .nil pass0 (pa_cons (pv 0) pa_nil)) (by rfl))) (fun _ _ _ _ _ => pv 4)) (pe_lst pa_nil) (by rfl)) (pss_one (ps_ret (pe_tup (pa_cons pe_str (pa_cons pe_str pa_nil))))) pss_nil)
      (pss_one (ps_ret (pe_tup (pa_cons pe_str (pa_cons (pe_callB (call_reprD hgd hu) (by rfl) mr (by decide +kernel) (pa_cons (pe_tup (pa_cons (pe_callTy call_tuple_of (by rfl) mt (by decide +kernel) (pa_cons (pv 0) pa_nil)) (pa_cons (pv 1) pa_nil))) pa_nil)) pa_nil))))))), ?_⟩
    have emp : ∀ {α : Type} (l : List α), (!l.isEmpty) = true ∨ l = [] := fun l => by cases l <;> simp
    refine ⟨_, rfl, b, _, rfl, .inl (SqL.of hb), fun l0 nl0 => ?_⟩
    have s1 : Same H (upd H l0 (.lst (xs.map (·.1)))) := same_new nl0
    have c1 : (upd H l0 (.lst (xs.map (·.1)))) l0 = some (.lst (xs.map (·.1))) := upd_same
    generalize upd H l0 (.lst (xs.map (·.1))) = H1 at s1 c1 ⊢
    refine ⟨_, rfl, by show 1 ≤ sizeLine; decide, fun l1 nl1 => ?_⟩
    have s2 : Same H1 (upd H1 l1 (.lst [hd.1])) := same_new nl1
    have c2 : (upd H1 l1 (.lst [hd.1])) l1 = some (.lst [hd.1]) := upd_same
    generalize upd H1 l1 (.lst [hd.1]) = H2 at s2 c2 ⊢
    refine ⟨l0, l1, _, _, rfl, rfl, s2 _ _ c1, c2, by rw [List.length_map, sizeLine_eq]; show xs.length + 1 ≤ _; omega, fun l2 nl2 => ?_⟩
    have s3 : Same H2 (upd H2 l2 (.lst (xs.map (·.1) ++ [hd.1]))) := same_new nl2
    have c3 : (upd H2 l2 (.lst (xs.map (·.1) ++ [hd.1]))) l2 = some (.lst ((xs ++ [hd]).map (·.1))) := by
      rw [upd_same, List.map_append]
      rfl
    generalize upd H2 l2 (.lst (xs.map (·.1) ++ [hd.1])) = H3 at s3 c3 ⊢
    have s13 := (s1.trans s2).trans s3
    refine ⟨l2, rfl, ⟨_, SqL.of c3⟩, fun D nD => ?_⟩
    refine lc_sift (ms := xs ++ [hd]) (val := fun x => x.1) (L2.walk_list (K := K)) (List.length_map _) oddI (fun x => x.1) nD (by rw [List.length_append]; show xs.length + 1 ≤ _; omega) (fun H' s' => SqL.of (s' _ _ c3)) (fun x hx H5 Yes No s5 yes no => ?_) (fun H4 s4 hD => ?_)
    · refine ⟨rfl, _, rfl, x.1, true, x.2.1, rfl, (ask x hx).1.same (s13.trans s5), fun H6 s6 => ⟨_, rfl, ?_⟩⟩
      rw [if_pos rfl]
      refine ite2 (fun e => ⟨_, rfl, yes H6 s6 e⟩) (fun e => no H6 s6 (by simpa [oddI] using e))
    have s14 := s13.trans s4
    refine ⟨_, rfl, by show 0 ≤ sizeLine; decide, fun p0 np0 => ?_⟩
    have s5 : Same H4 (upd H4 p0 (.lst [])) := same_new np0
    have c5 : (upd H4 p0 (.lst [])) p0 = some (.lst []) := upd_same
    generalize upd H4 p0 (.lst []) = H5 at s5 c5 ⊢
    have s15 := s14.trans s5
    refine ⟨D, p0, _, rfl, rfl, SqL.of (s5 _ _ hD), SqL.of c5, _, rfl, ?_⟩
    rcases cs with ⟨y, hy, k⟩ | ⟨no, ps, pt, ea, eb, all, k⟩
    · obtain ⟨r, er⟩ : ∃ r, (xs ++ [hd]).filter oddI = y :: r := by
        have q : ((xs ++ [hd]).filter oddI).head? = some y := by rw [List.head?_filter]; exact hy
        cases e : (xs ++ [hd]).filter oddI with
        | nil =>
          rw [e] at q
          cases q
        | cons z r =>
          rw [e] at q
          exact ⟨r, by rw [Option.some.inj q]⟩
      rw [er]
      refine iteT ?_
      have hD5 := s5 _ _ hD
      rw [er] at hD5
      refine ⟨_, rfl, D, _, 0, _, rfl, rfl, SqL.of hD5, atI_nat (j := 0) rfl, y.1, y.2.2, rfl, (ask y (List.mem_of_find?_eq_some hy)).2.same s15, by show 2 ≤ sizeLine; decide, fun u nu => ?_⟩
      exact k _ u (s15.trans (same_new nu)) (s15.free nu) upd_same
    · have er : (xs ++ [hd]).filter oddI = [] := by
        rw [List.filter_eq_nil_iff]
        intro x m h
        have := List.find?_eq_none.mp no x m
        exact this h
      rw [er]
      refine iteF ?_
      have lps : ps.length ≤ 8 := by
        have := congrArg List.length ea
        rw [List.length_map, List.length_map] at this
        omega
      have bd : ∀ x ∈ ps ++ [pt], ∀ z ∈ x.2.2, z.length ≤ 100 := fun x m z mz => by
        have := tm_len ((all x m).2.each z mz)
        omega
      have f1 : (frees ps).length ≤ 60 := by
        have := frees_le3 fun x (m : x ∈ ps) => (all x (List.mem_append_left _ m)).2.few
        omega
      have f2 : (frees [pt]).length ≤ 60 := by
        have := frees_le3 (xs := [pt]) fun x (m : x ∈ [pt]) => (all x (List.mem_append_right _ m)).2.few
        have : [pt].length = 1 := rfl
        omega
      refine ⟨_, rfl, by show 1 ≤ sizeLine; decide, fun l nl => ?_⟩
      have s7 : Same H5 (upd H5 l (.lst [hd.1])) := same_new nl
      have c7 : (upd H5 l (.lst [hd.1])) l = some (.lst ([pt].map fun x => V.ref x.1)) := by
        rw [upd_same, eb]
        rfl
      generalize upd H5 l (.lst [hd.1]) = H7 at s7 c7 ⊢
      have s17 := s15.trans s7
      refine ⟨l, [pt], rfl, c7, ⟨.inl c7, fun x m => s17 _ _ (all x (List.mem_append_right _ m)).1⟩, fun x m => bd x (List.mem_append_right _ m), f2, fun w2 ws2 H8 s8 nw2 pm2 so2 hw2 => ?_⟩
      have s18 := s17.trans s8
      have lw2 : ws2.length ≤ 60 := by
        rw [pm2.length_eq]
        exact Nat.le_trans (uniq_len _) f2
      refine ⟨w2, rfl, ⟨_, SqL.of hw2⟩, fun L nL => ?_⟩
      refine lc_sift (ms := ws2) (val := V.str) (L2.walk_list (K := K)) (List.length_map _) (fun z => !decide (z ∈ frees ps)) V.str nL (by omega) (fun H' s' => SqL.of (s' _ _ hw2)) (fun z hz H9 Yes No s9 yes no => ?_) (fun H9 s9 hL => ?_)
      · have sx := s18.trans s9
        have hbx : H9 b = some (.lst (ps.map fun x => V.ref x.1)) := by
          rw [← ea]
          exact sx _ _ hb
        refine ⟨rfl, _, rfl, _, rfl, b, ps, rfl, hbx, ⟨.inl hbx, fun x m => sx _ _ (all x (List.mem_append_left _ m)).1⟩, fun x m => bd x (List.mem_append_left _ m), f1, fun wd ws H10 s10 nw pm so hw => ?_⟩
        refine ⟨wd, ws.map V.str, rfl, .inl (SqL.of hw), rfl, flat_strs ws, _, rfl, ?_⟩
        rw [if_pos rfl, inV_strs, show decide (z ∈ ws) = decide (z ∈ frees ps) from decide_eq_decide.mpr (by rw [pm.mem_iff, uniq_mem])]
        exact ite2 (fun e => ⟨_, rfl, yes H10 s10 e⟩) (fun e => no H10 s10 (by simpa using e))
      have s19 := s18.trans s9
      refine ⟨by show 0 ≤ sizeLine; decide, fun p1 np1 => ?_⟩
      have s20 : Same H9 (upd H9 p1 (.lst [])) := same_new np1
      have c20 : (upd H9 p1 (.lst [])) p1 = some (.lst []) := upd_same
      generalize upd H9 p1 (.lst []) = H20 at s20 c20 ⊢
      have s21 := s19.trans s20
      refine ⟨L, p1, _, rfl, rfl, SqL.of (s20 _ _ hL), SqL.of c20, _, rfl, ?_⟩
      have eh : (!((ws2.filter fun z => !decide (z ∈ frees ps)).map V.str).isEmpty) = !headIn ps pt := by
        congr 1
        unfold headIn
        rw [Bool.eq_iff_iff, List.all_eq_true, List.isEmpty_iff, List.map_eq_nil_iff, List.filter_eq_nil_iff]
        refine ⟨fun h z m => ?_, fun h z m => ?_⟩
        · have := h z (pm2.mem_iff.mpr (uniq_mem.mpr m))
          simpa using this
        · have := h z (uniq_mem.mp (pm2.mem_iff.mp m))
          simpa using this
      rw [eh]
      unfold outL at k
      refine ite2 (fun e => ?_) (fun e => ?_)
      · rw [if_neg (by rw [show headIn ps pt = false by simpa using e]; exact Bool.false_ne_true)] at k
        exact ⟨by show 2 ≤ sizeLine; decide, fun u nu => k _ u (s21.trans (same_new nu)) (s21.free nu) upd_same⟩
      · rw [if_pos (by simpa using e)] at k
        refine ⟨_, rfl, b, _, rfl, .inl ⟨SqL.of (s21 _ _ hb), fun t nt => ?_⟩⟩
        have s22 : Same H20 (upd H20 t (.tup (xs.map (·.1)))) := same_new nt
        have c22 : (upd H20 t (.tup (xs.map (·.1)))) t = some (.tup (ps.map fun x => V.ref x.1)) := by rw [upd_same, ← ea]
        generalize upd H20 t (.tup (xs.map (·.1))) = H22 at s22 c22 ⊢
        refine ⟨_, rfl, by show 2 ≤ sizeLine; decide, fun u nu => ?_⟩
        have s23 : Same H22 (upd H22 u (.tup [.ref t, hd.1])) := same_new nu
        have c23 : (upd H22 u (.tup [.ref t, hd.1])) u = some (.tup [.ref t, .ref pt.1]) := by rw [upd_same, eb]
        generalize upd H22 u (.tup [.ref t, hd.1]) = H23 at s23 c23 ⊢
        have s33 := (s21.trans s22).trans s23
        refine ⟨.ref u, fineD ps pt, rfl, fine_shr lps c23 (s23 _ _ c22) (fun x m => ⟨s33 _ _ (all x m).1, (all x m).2⟩), by show 2 ≤ sizeLine; decide, fun v nv => ?_⟩
        exact k _ v (s33.trans (same_new nv)) (s33.free nv) upd_same
end
end L2.LawH
set_option Elab.async false
set_option linter.all false
set_option maxRecDepth 100000
set_option maxHeartbeats 4000000
/-! try: .. except x as n: .. and plain clauses behind it. -/
namespace L2.TryTwo
open PySem PySem.Spec PyProof.Rows L2
section
variable {X : Cx} {x n : Str} {c : Value} {i : Nat} {body suite : List Stmt} {b₀ : Stmt} {np pos pos' : Pos} {tb : WX → TS} {ts : Addr → Value → Option Addr → TS} {Wout : WX} {hds : List ExceptHandler} {l : List (Value × (Addr → Value → Option Addr → TS))}
/-- a suite's end that keeps the slots, told outside of it -/
theorem out_of {pins : List (Addr × Obj)} {a : Addr} {oe : Obj} {D D' : Ends} {f : Flow} {s6 : Shared} {Q : Flow → Shared → Prop}
    (h : SP (X.suite a ((a, oe) :: (X.pn ++ pins))) [] D' f s6)
    (nx : ∀ σ H, Inv (X.suite a ((a, oe) :: (X.pn ++ pins))) [] σ H s6 → D'.nx σ H → Q .next s6) (bk : ∀ σ H, Inv (X.suite a ((a, oe) :: (X.pn ++ pins))) [] σ H s6 → D'.bk σ H → Q .brk s6)
    (ct : ∀ σ H, Inv (X.suite a ((a, oe) :: (X.pn ++ pins))) [] σ H s6 → D'.ct σ H → Q .cont s6)
    (rt : ∀ u v σ H, Inv (X.suite a ((a, oe) :: (X.pn ++ pins))) [] σ H s6 → RelV v u → D'.rt v H → Q (.ret u) s6) : Q f s6 := by
  cases f with
  | next => exact let ⟨σ, H, S, q⟩ := h; nx σ H S q
  | brk => exact let ⟨σ, H, S, q⟩ := h; bk σ H S q
  | cont => exact let ⟨σ, H, S, q⟩ := h; ct σ H S q
  | ret u => exact let ⟨v, σ, H, S, r, q⟩ := h; rt u v σ H S r q
theorem ps_try_asMany (hs : X.stack = X.env :: X.outer) (hf : X.env.frame = some X.env.locals) (hN : X.N.Nodup) (hi : X.N[i]? = some n) (hln : X.env.kindOf n = some .local) (hc : Names X x c) (tk : Takes X Wout)
    (hb : ∀ (W : WX) (pn : List (Addr × Obj)) (xe : Value → Shared → Prop), Takes (X.tr pn xe) W → PassesOwn (model X.prog X.w) X.A X.env xe → PSs (X.tr pn xe) body (tb W))
    (hsu : ∀ (a : Addr) (oe : Obj) (cls : Value) (d : Option Addr) (pn : List (Addr × Obj)), Zc cls d oe → (∃ vs, oe.data = .fields vs) → PSs (X.suite a ((a, oe) :: pn)) (b₀ :: suite) (ts a cls d)) (hh : HdsOk X hds l) :
    PS X (.Try body (.ExceptHandler (some (.Name x np)) (some n) (b₀ :: suite) pos' :: hds) [] [] pos) (fun D σ H => tb (wAs X.K c i ts (wMany X.K Wout D l) D) D σ H) := by
  refine ⟨fun pins s σ H D I h => ?_⟩
  have ok := I.ok
  have frames : X.A.frames = some (X.env :: X.outer) := by rw [ok.frames, hs]
  refine wpAny_Try_except (wpAny_mono ((hb (wAs X.K c i ts (wMany X.K Wout D l) D) (X.pn ++ pins) (fun e s₁ => wpAny (model X.prog X.w) X.A (noteFrame e X.env) (fun _ s₂ => wpAny (model X.prog X.w) X.A (setFlight e none) (fun _ s₃ =>
    wpAny (model X.prog X.w) X.A (handleBy e X.env (.ExceptHandler (some (.Name x np)) (some n) (b₀ :: suite) pos' :: hds)) (SP X pins D) X.xe s₃) X.xe s₂) X.xe s₁) (fun u s' caught => ?_) PassesOwn.looking).run [] s σ H D (I.toTry _) h) (fun f s1 ends => ?_) (fun e s1 he => he))
  · obtain ⟨a, B, sI, _, σ', H', cls, d, rfl, J', nb, up, sky, na, os, ag, w⟩ := caught
    have J : Inv X pins σ' H' sI := J'.ofTry ok
    show wpAny (model X.prog X.w) X.A (noteFrame (.ref a) X.env) _ _ _
    refine Sky.land Zc.steady frames hf (hs ▸ sky) fun h3 fl3 up3 => ?_
    have J3 : Inv X pins σ' H' { s' with heap := h3 } := J.landed nb fl3.1 (up.trans up3) os ag
    obtain ⟨oe3, vs3, he3, hz3, hd3⟩ := fl3.there
    have out : a ∉ frs (X.env :: X.outer) := fun m => by
      obtain ⟨_, o', e', no⟩ := fl3.2.2.1.mem m
      rw [he3] at e'
      cases e'
      exact no _ hd3
    have nL : a ≠ X.env.locals := fun z => out (List.mem_filterMap.mpr ⟨X.env, List.mem_cons_self, by rw [hf, z]⟩)
    have nF : a ∉ X.fs := fun m => by
      obtain ⟨e, he, q⟩ := List.mem_filterMap.mp m
      exact out (List.mem_filterMap.mpr ⟨e, List.mem_cons_of_mem _ he, q⟩)
    have S3 := J3.suite he3 hd3 na nL nF
    have isC : PySem.W.Looks (model X.prog X.w) h3 (typeOf (.ref a)) cls := fun A Q E s k q => wpAny_typeOf_ref (k _ _ he3) (by rw [hz3.1]; exact q)
    have named : ∀ {y : Str} {cv : Value} {yp : Pos} {Q : Value → Shared → Prop} {E : Value → Shared → Prop}, Names X y cv → Q cv { s' with heap := h3 } → wpAny (model X.prog X.w) (X.A.mark (some (.ref a))) (eval (.Name y yp) X.env) Q E { s' with heap := h3 } := fun {y cv yp Q E} hy q => by
      obtain ⟨g, dbg, m | ⟨m, v, nn⟩⟩ := hy
      · exact ld_glob (X := X.suite a ((a, oe3) :: (X.pn ++ pins))) S3 g m q dbg
      · exact ld_blt (X := X.suite a ((a, oe3) :: (X.pn ++ pins))) S3 g m v q nn dbg
    -- the plain clauses
    have rest : ∀ {hds' : List ExceptHandler} {l' : List (Value × (Addr → Value → Option Addr → TS))}, HdsOk X hds' l' → wMany X.K Wout D l' cls d σ' H' →
        wpAny (model X.prog X.w) X.A (handleBy (.ref a) X.env hds') (SP X pins D) X.xe { s' with heap := h3 } := by
      intro hds' l' hk
      induction hk with
      | nil =>
        intro w
        refine wpAny_handleBy_nil ?_
        obtain ⟨_, _, _, oe, vs, T, oT, ts', he, hz, hd, h1, hr⟩ := id fl3
        unfold PySem.passOn
        refine wpAny_bind (wpAny_field he hd h1 ?_)
        rw [if_neg (show ¬ ((Value.ref T == Value.none) = true) from by simp)]
        have on : wpAny (model X.prog X.w) X.A (setFlight (.ref a) X.env.frame) (fun _ s4 => wpAny (model X.prog X.w) X.A (throw (.ref a) : Sem Flow) (SP X pins D) X.xe s4) X.xe { s' with heap := h3 } := by
          rw [hf]
          exact HandSPX.setFlight_upZ fl3 fun h4 hh4 up4 => wpAny_throw (tk _ _ ⟨a, B, sI, pins, σ', H', cls, d, rfl, J, nb, (up.trans up3).trans up4, .inr (.inr (by rw [hs]; exact hh4)), na, os, ag, w⟩)
        first
          | exact wpAny_bind (wpAny_pure (wpAny_bind on))
          | exact wpAny_bind on
      | @cons y cv ts2 b2 suite2 yp pos2 hds2 l2 hy hsu2 r ih =>
        rintro ⟨b, hb1, yes, no⟩
        refine wpAny_handleBy_cons (codeAny_handlers_test (named hy ((PySem.W.exm_one (M := model X.prog X.w) J3.kIn isC hb1).here ?_))) (by intro q; cases q)
        cases b with
        | true =>
          refine codeAny_handlers_suite (HandSPX.lands_againZ fl3 fun h4 fl4 up4 => ?_)
          have J4 : Inv X pins σ' H' { s' with heap := h4 } := J.landed nb fl4.1 ((up.trans up3).trans up4) os ag
          obtain ⟨oe4, vs4, he4, hz4, hd4⟩ := fl4.there
          exact wpAny_mono ((hsu2 a oe4 cls d (X.pn ++ pins) hz4 ⟨_, hd4⟩).run [] _ _ H' _ (J4.suite he4 hd4 na nL nF) (yes rfl a na)) (fun f s6 e6 => out_of (Q := SP X pins D) (D := D) e6 (fun _ _ S q => ⟨_, _, S.unsuite ok, q⟩) (fun _ _ S q => ⟨_, _, S.unsuite ok, q⟩)
            (fun _ _ S q => ⟨_, _, S.unsuite ok, q⟩) fun _ _ _ _ S r q => ⟨_, _, _, S.unsuite ok, r, q⟩) (fun _ _ z => False.elim z)
        | false =>
          show wpAny _ X.A (handleBy (.ref a) X.env hds2) _ _ _
          exact ih (no rfl)
    -- the clause with a name
    obtain ⟨b, hb1, yes, no⟩ := w
    refine wpAny_handleBy_cons (codeAny_handlers_test (named hc ((PySem.W.exm_one (M := model X.prog X.w) J3.kIn isC hb1).here ?_))) (by intro q; cases q)
    cases b with
    | true =>
      refine codeAny_handlers_suite_as (HandSPX.lands_againZ fl3 fun h4 fl4 up4 => ?_)
      have J4 : Inv X pins σ' H' { s' with heap := h4 } := J.landed nb fl4.1 ((up.trans up3).trans up4) os ag
      obtain ⟨oe4, vs4, he4, hz4, hd4⟩ := fl4.there
      refine store_ok (X := X.suite a ((a, oe4) :: (X.pn ++ pins))) (v := .ref a) (J4.suite he4 hd4 na nL nF) hN hi (show Loc X.env.scope n from .inl hln) rfl (fun s5 S5 => ?_) (.inr hln)
      refine wpAny_mono ((hsu a oe4 cls d (X.pn ++ pins) hz4 ⟨_, hd4⟩).run [] s5 _ H' _ S5 (yes rfl a na)) (fun f s6 e6 => ?_) (fun _ _ z => False.elim z)
      have go : ∀ {σ6 : St} {H6 : Hp} {Q : Shared → Prop}, Inv (X.suite a ((a, oe4) :: (X.pn ++ pins))) [] σ6 H6 s6 → (∀ s7, Inv X pins (σ6.set i none) H6 s7 → Q s7) →
          wpAny (model X.prog X.w) X.A (do bindName X.env n .none; unbindBehindTheSuite X.env n pos') (fun _ s7 => Q s7) X.xe s6 := fun {σ6 H6 Q} S6 hq => gone_ok (S6.unsuite ok) hN hi hln hq
      cases f with
      | next => exact let ⟨_, _, S, q⟩ := e6; go S fun s7 J7 => ⟨_, _, J7, q⟩
      | brk => exact let ⟨_, _, S, q⟩ := e6; go S fun s7 J7 => ⟨_, _, J7, q⟩
      | cont => exact let ⟨_, _, S, q⟩ := e6; go S fun s7 J7 => ⟨_, _, J7, q⟩
      | ret u => exact let ⟨_, _, _, S, r, q⟩ := e6; go S fun s7 J7 => ⟨_, _, _, J7, r, q⟩
    | false =>
      show wpAny _ X.A (handleBy (.ref a) X.env hds) _ _ _
      exact rest hh (no rfl)
  · cases f with
    | next => exact let ⟨σ', H', J', q⟩ := ends; wpAny_execs_nil ⟨σ', H', J'.ofTry ok, q⟩
    | brk => exact let ⟨σ', H', J', q⟩ := ends; ⟨σ', H', J'.ofTry ok, q⟩
    | cont => exact let ⟨σ', H', J', q⟩ := ends; ⟨σ', H', J'.ofTry ok, q⟩
    | ret u => exact let ⟨v, σ', H', J', r, q⟩ := ends; ⟨v, σ', H', J'.ofTry ok, r, q⟩
end
end L2.TryTwo
set_option Elab.async false
set_option linter.all false
set_option maxRecDepth 100000
set_option maxHeartbeats 4000000
/-! Rule: body, head; _law_rule_told. -/
namespace L2.LawH
open PySem PySem.Spec PyProof.Rows L2.TxtSet TL L2.NumSeq L2.XVal
abbrev sBodR : Stmt := inClass (top 17) 1
abbrev sHeaR : Stmt := inClass (top 17) 2
abbrev sRTold : Stmt := top 38
theorem first_find : ∀ l : List It3, firstOdd (l.map fun x => (x.1, x.2.1)) = (l.find? oddI).map (·.1)
  | [] => rfl
  | x :: l => by
    rw [List.map_cons]
    unfold firstOdd
    rw [first_find l, List.find?_cons]
    unfold oddI
    cases e : pAns x.2.1 <;> simp [e]
theorem call_reprDK {X : Cx} {K : PySem.W.Frag} (e : X.K = K) (hg : X.A.guards = some []) (hu : X.A.units + 64 < cLine) : CallR X (.builtin "repr") (rReprD K) := by
  subst e
  exact call_reprD hg hu
theorem pts_inj {G : Hp} : ∀ {l l' : List Pt}, l.map (fun x => V.ref x.1) = l'.map (fun x => V.ref x.1) → (∀ x ∈ l, G x.1 = some (.tup (ptX x))) → (∀ x ∈ l', G x.1 = some (.tup (ptX x))) → l = l'
  | [], [], _, _, _ => rfl
  | [], x :: r, e, _, _ => by cases e
  | x :: r, [], e, _, _ => by cases e
  | x :: l, x' :: l', e, h1, h2 => by
    rw [List.map_cons, List.map_cons] at e
    injection e with e1 e2
    have a1 : x.1 = x'.1 := by injection e1
    have q1 := h1 x List.mem_cons_self
    have q2 := h2 x' List.mem_cons_self
    rw [a1, q2] at q1
    have q3 : ptX x' = ptX x := by injection (Option.some.inj q1)
    unfold ptX at q3
    injection q3 with q4 q5
    have q4 : x'.2.1 = x.2.1 := by injection q4
    have q5 : x'.2.2 = x.2.2 := (List.map_inj_right (fun a b e => by injection e)).mp q5
    rw [pts_inj e2 (fun y m => h1 y (List.mem_cons_of_mem _ m)) fun y m => h2 y (List.mem_cons_of_mem _ m), show x = x' from Prod.ext a1 (Prod.ext q4.symm q5.symm)]
def spRTold (K : PySem.W.Frag) : Sp := fun vs H Q _ => ∃ (b : Addr) (xs : List It3) (hd : It3), vs = [.ref b, hd.1] ∧ (H b = some (.lst (xs.map (·.1))) ∨ H b = some (.tup (xs.map (·.1)))) ∧ xs.length ≤ 8 ∧ (∀ x ∈ xs ++ [hd], AskD K H x) ∧
  RuleAlt H xs hd Q
section
variable {P : Program} {w : World} {K : PySem.W.Frag} {mg : Str → Option Value} {base : Heap}
theorem scBodR : FnScope ["self"] ["self"] (defScope sBodR) := ⟨rfl, rfl, rfl, by decide +kernel, rfl, by decide +kernel, by decide +kernel⟩
theorem scHeaR : FnScope ["self"] ["self"] (defScope sHeaR) := ⟨rfl, rfl, rfl, by decide +kernel, rfl, by decide +kernel, by decide +kernel⟩
theorem ok_bodR {f C : Addr} {fd : FuncData} (F : Fun K "body" "Rule.body" sBodR f fd) (T : ClsR K mg C) : FnOk P w K mg base CX0 1 f fd ["self"] (getSp C "_body") := by
  refine F.ok scBodR (fun vs H Q E h => ?_) (fun cdv A outer s H vs Q E hr h => ?_)
  · obtain ⟨a, dx, fs, v, rfl, _⟩ := h
    rfl
  · obtain ⟨a, dx, fs, v, rfl, ea, l, q⟩ := h
    exact ⟨_, pss_one (ps_ret (pe_fld (pv 0) rfl)), .ref a, rfl, a, C, dx, fs, v, rfl, ea, T.cl, T.nB, l, q⟩
theorem ok_heaR {f C : Addr} {fd : FuncData} (F : Fun K "head" "Rule.head" sHeaR f fd) (T : ClsR K mg C) : FnOk P w K mg base CX0 1 f fd ["self"] (getSp C "_head") := by
  refine F.ok scHeaR (fun vs H Q E h => ?_) (fun cdv A outer s H vs Q E hr h => ?_)
  · obtain ⟨a, dx, fs, v, rfl, _⟩ := h
    rfl
  · obtain ⟨a, dx, fs, v, rfl, ea, l, q⟩ := h
    exact ⟨_, pss_one (ps_ret (pe_fld (pv 0) rfl)), .ref a, rfl, a, C, dx, fs, v, rfl, ea, T.cl, T.nH, l, q⟩
/-- Rule's own defs, as they stand -/
structure RulF (P : Program) (w : World) (K : PySem.W.Frag) (mg : Str → Option Value) (base : Heap) (C B D : Addr) : Prop where
  T : ClsR K mg C
  mC : mg "Rule" = some (.ref C)
  mB : mg "BadPattern" = some (.ref B)
  mD : mg "BadRule" = some (.ref D)
  I : ∃ f fd, Mk K C f ∧ FnOk P w K mg base (L2.CX P w) 4 f fd ["self", "body", "head"] (spInitR C B D K) ∧ Binds K fd ["self", "body", "head"] []
  bod : ∃ p g fd, PropOf K C "body" p g ∧ FnOk P w K mg base CX0 1 g fd ["self"] (getSp C "_body") ∧ Binds K fd ["self"] []
  hea : ∃ p g fd, PropOf K C "head" p g ∧ FnOk P w K mg base CX0 1 g fd ["self"] (getSp C "_head") ∧ Binds K fd ["self"] []
  X : XfC K B
  no : PySem.W.findIn K (.ref B) "value" = some none
  tB : PySem.W.exmOne K (.ref B) (.ref B) = some true
  tDB : PySem.W.exmOne K (.ref D) (.ref B) = some false
  tD : PySem.W.exmOne K (.ref D) (.ref D) = some true
abbrev nRTold : List Str := ["_law_body", "_law_head", "_law_rule", "e"]
theorem scRTold : FnScope nRTold ["_law_body", "_law_head"] (defScope sRTold) := ⟨rfl, rfl, rfl, by decide +kernel, rfl, by decide +kernel, by decide +kernel⟩
theorem ok_rtold {f C B D : Addr} {fd : FuncData} (F : Fun K "_law_rule_told" "_law_rule_told" sRTold f fd) (Z : RulF P w K mg base C B D) (mr : mg "repr" = none) : FnG P w K mg base CX0 6 f fd ["_law_body", "_law_head"] (spRTold K) := by
  obtain ⟨T, mC, mB, mD, ⟨fI, fdI, M, GI, bI⟩, ⟨p1, g1, fd1, P1, G1, b1⟩, ⟨p2, g2, fd2, P2, G2, b2⟩, XB, no, tB, tDB, tD⟩ := Z
  refine fnG_ok F scRTold (fun vs H Q E h => ?_) (fun cdv A outer s H vs Q E hgd hr h => ?_)
  · obtain ⟨b, xs, hd, rfl, _⟩ := h
    rfl
  · obtain ⟨b, xs, hd, rfl, hb, few, ask, cs⟩ := h
    have hu := hr.units
    have hr2 : Room 2 _ := hr.mono (by decide)
    refine ⟨_, pss_cons (L2.TryTwo.ps_try_asMany (i := 3) rfl rfl scRTold.nd rfl rfl ⟨rfl, by decide, .inl mB⟩ takes0 (fun W pn xe tk _ =>
        pss_one (ps_set (i := 2) scRTold.nd rfl (Or.inl rfl) (L2.OwnOp.pe_makeS M GI hr (by rfl) mC bI .nil (fun σ => passAt tk σ) (pa_cons (pv 0) (pa_cons (pv 1) pa_nil)))))
      (fun a oe cls d pn hz hf => pss_one (ps_ret (pe_tup (pa_cons pe_str (pa_cons (pe_callB (call_reprDK (K := K) rfl (by exact hgd) (by exact hu)) (by rfl) mr (by decide +kernel) (pa_cons (pe_xf XB no hz hf (pv 3)) pa_nil)) pa_nil)))))
      (.cons ⟨rfl, by decide, .inl mD⟩ (fun a oe cls d pn hz hf => pss_one (ps_ret (pe_tup (pa_cons pe_str (pa_cons pe_str pa_nil))))) .nil))
      (pss_one (ps_ret (pe_tup (pa_cons pe_str (pa_cons (pe_callB (call_reprD hgd hu) (by rfl) mr (by decide +kernel) (pa_cons (pe_tup (pa_cons (pe_prop (pv 2) T.cl P1 G1 hr2 b1 .nil pass0 rfl) (pa_cons (pe_prop (pv 2) T.cl P2 G2 hr2 b2 .nil pass0 rfl) pa_nil))) pa_nil)) pa_nil))))), ?_⟩
    have em : (xs.map fun x => (x.1, x.2.1)).map (·.1) = xs.map (·.1) := by
      rw [List.map_map]
      rfl
    have ff : firstOdd ((xs.map fun x => (x.1, x.2.1)) ++ [(hd.1, hd.2.1)]) = ((xs ++ [hd]).find? oddI).map (·.1) := by
      rw [← first_find, List.map_append]
      rfl
    refine ⟨_, rfl, _, rfl, fun y dy ny ndy ne => ?_⟩
    have sU : Same H (upd (upd H dy (.own y)) y (.ins C dy [])) := fun b o h => by
      rw [upd_ne (ne_of_none h ny), upd_ne (ne_of_none h ndy)]
      exact h
    refine ⟨y, b, dy, xs.map fun x => (x.1, x.2.1), (hd.1, hd.2.1), rfl, upd_same, ?_, ?_, by rw [List.length_map]; exact few, fun z hz H' d s' nd hd' => ?_, fun hn ps pt ea eb all => ?_⟩
    · rw [em]
      exact hb.imp (fun h => sU _ _ h) fun h => sU _ _ h
    · intro x m
      rcases List.mem_append.mp m with m | m
      · obtain ⟨x0, m0, rfl⟩ := List.mem_map.mp m
        exact (ask x0 (List.mem_append_left _ m0)).1.same sU
      · rw [List.mem_singleton.mp m]
        exact (ask hd (List.mem_append_right _ List.mem_cons_self)).1.same sU
    · rw [ff] at hz
      have s2 := sU.trans s'
      rcases cs with ⟨u, hu2, k⟩ | ⟨hn, _⟩
      · rw [hu2] at hz
        have ez : u.1 = z := by simpa using hz
        subst ez
        refine ⟨true, tB, fun _ a na => ?_, fun q => nomatch q⟩
        refine ⟨_, rfl, rfl, rfl, d, _, _, rfl, hd', rfl, u.1, u.2.2, rfl, (ask u (List.mem_of_find?_eq_some hu2)).2.same s2, by show 2 ≤ sizeLine; decide, fun r nr => ?_⟩
        exact k _ r (s2.trans (same_new nr)) (s2.free nr) upd_same
      · rw [hn] at hz
        cases hz
    · rw [em] at ea
      rw [ff] at hn
      rcases cs with ⟨u, hu2, k⟩ | ⟨_, ps', pt', ea', eb', all', k⟩
      · rw [hu2] at hn
        cases hn
      · have e1 : ps = ps' := pts_inj (ea.symm.trans ea') (fun x m => (all x (List.mem_append_left _ m)).1) fun x m => sU _ _ (all' x (List.mem_append_left _ m)).1
        have e2 : [pt] = [pt'] := pts_inj (by rw [List.map_cons, List.map_cons, ← eb, ← eb'] <;> rfl) (fun x m => (all x (List.mem_append_right _ m)).1) fun x m => sU _ _ (all' x (List.mem_append_right _ m)).1
        have e2 : pt = pt' := by injection e2
        subst e1 e2
        have lps : ps.length ≤ 8 := by
          have := congrArg List.length ea
          rw [List.length_map, List.length_map] at this
          omega
        unfold outL at k
        refine ⟨fun e H' s' => ?_, fun e H' t keep hp' ht => ⟨rfl, ?_⟩⟩
        · have s2 := sU.trans s'
          rw [if_neg (by rw [e]; exact Bool.false_ne_true)] at k
          refine ⟨false, tDB, (fun q => nomatch q), fun _ => ⟨true, tD, fun _ a na => ?_, fun q => nomatch q⟩⟩
          exact ⟨by show 2 ≤ sizeLine; decide, fun r nr => k _ r (s2.trans (same_new nr)) (s2.free nr) upd_same⟩
        · rw [if_pos e] at k
          have s2 : Same H H' := fun b o h => keep b o (ne_of_none h ny) (sU _ _ h)
          have ht' : H' t = some (.tup (ps.map fun x => V.ref x.1)) := by
            rw [ht, em, ea]
          refine ⟨_, rfl, y, dy, _, rfl, hp', ⟨_, _, _, _, rfl, hp', rfl, ?_⟩⟩
          refine ⟨_, rfl, y, dy, _, rfl, hp', ⟨_, _, _, _, rfl, hp', rfl, ?_⟩⟩
          refine ⟨by show 2 ≤ sizeLine; decide, fun u nu => ?_⟩
          have s3 : Same H' (upd H' u (.tup [.ref t, hd.1])) := same_new nu
          have c3 : (upd H' u (.tup [.ref t, hd.1])) u = some (.tup [.ref t, .ref pt.1]) := by rw [upd_same, ← eb]
          generalize upd H' u (.tup [.ref t, hd.1]) = H3 at s3 c3 ⊢
          refine ⟨.ref u, fineD ps pt, rfl, fine_shr lps c3 (s3 _ _ ht') (fun x m => ⟨(s2.trans s3) _ _ (all' x m).1, (all' x m).2⟩), by show 2 ≤ sizeLine; decide, fun v nv => ?_⟩
          exact k _ v ((s2.trans s3).trans (same_new nv)) ((s2.trans s3).free nv) upd_same
end
end L2.LawH
set_option Elab.async false
set_option linter.all false
set_option maxRecDepth 100000
set_option maxHeartbeats 4000000
/-! _law_implications. -/
namespace L2.LawH
open PySem PySem.Spec PyProof.Rows L2.TxtSet TL L2.NumSeq L2.XVal L2.LstNo
abbrev sImpl : Stmt := top 40
/-- an item that stays asked, whatever is drawn -/
def Dur (K : PySem.W.Frag) (a : Addr) (H : Hp) (x : It3) : Prop := ∀ H', Keep a H H' → AskD K H' x
theorem Dur.keep {K : PySem.W.Frag} {a : Addr} {H H' : Hp} {x : It3} (h : Dur K a H x) (k : Keep a H H') : Dur K a H' x := fun H2 k2 => h H2 (k.trans k2)
def ptI (x : Pt) : It3 := (.ref x.1, some (ptX x), patD10 x)
theorem dur_pat {K : PySem.W.Frag} {a : Addr} {H : Hp} {x : Pt} (h : H x.1 = some (.tup (ptX x))) (n : x.1 ≠ a) (g : PatG x.2.1 x.2.2) : Dur K a H (ptI x) := fun H' k => by
  have h' := k _ _ h n
  have it : ∀ y ∈ ptX x, LawR.ItmR K H' y := fun y m => by
    unfold ptX at m
    rcases List.mem_cons.mp m with rfl | m
    · exact LawR.itmR_str (Nat.le_trans g.strs.1 (by decide)) (LawR.patG_asc g _ List.mem_cons_self)
    · obtain ⟨z, mz, rfl⟩ := List.mem_map.mp m
      exact LawR.itmR_str (Nat.le_trans (g.strs.2 z mz) (by decide)) (LawR.patG_asc g z (List.mem_cons_of_mem _ mz))
  have l : (ptX x).length ≤ 100 := by
    have := g.few
    unfold ptX
    rw [List.length_cons, List.length_map]
    omega
  have sh := shn_pat g
  refine ⟨⟨x.1, rfl, h', l, fun y m => (it y m).1⟩, sh.ok, Nat.le_trans sh.len (by decide), ?_, sh.asc, .inl ⟨dp_pat h', sh.nd⟩⟩
  have := depth_strs10 (x.2.1 :: x.2.2)
  simp only [ptI, patD10, PyData.depth]
  omega
theorem ex_le10 {p : Addr → Prop} {H : Hp} : Same (Ex p H) H := fun _ _ e => (ex_some e).2
theorem dur_odd {K : PySem.W.Frag} {a t : Addr} {H H' : Hp} {x : V} {o : Option (List V)} (pa : Pr H t a) (h : LawR.AskR K (Ex (Pr H t) H') x o) : ∃ d, Dur K a H' (x, o, d) := by
  obtain ⟨h1, d, h2⟩ := h
  refine ⟨d, fun H2 k => ?_⟩
  have s : Same (Ex (Pr H t) H') H2 := (ex_keep k pa).trans ex_le10
  exact ⟨h1.same s, h2.same s⟩
theorem patG_of10 {a : Addr} {H : Hp} {p : Addr} {π : Pool} {W : List Str} (hp : PoolAt a H p π) (hW : ∀ z ∈ W, Vr z) {T : Str} {zs : List Str} (h : PatOf π W T zs) : PatG T zs := by
  obtain ⟨⟨x, mx, e1, e2⟩, tr⟩ := h
  obtain ⟨_, nT, l3, _⟩ := hp.hrow x mx
  exact ⟨e1 ▸ nT, by omega, fun z m => (tr z m).imp (hp.nC z) (hW z)⟩
theorem fine_asc {ps : List Pt} {pt : Pt} (l : ps.length ≤ 8) (h : ∀ x ∈ ps ++ [pt], PatG x.2.1 x.2.2) : Asc (fineD ps pt).shown := by
  have q1 : ∀ d ∈ ps.map patD10, Shn d 240 := fun d m => by
    obtain ⟨x, mx, rfl⟩ := List.mem_map.mp m
    exact shn_pat (h x (List.mem_append_left _ mx))
  have q2 := shn_pat (h pt (List.mem_append_right _ List.mem_cons_self))
  have q3 : Shn (.tuple (ps.map patD10)) 2000 := (shn_tup q1).mono (by rw [List.length_map]; omega)
  exact (shn_tup (B := 2000) (ds := [.tuple (ps.map patD10), patD10 pt]) fun d m => by
    simp only [List.mem_cons, List.not_mem_nil, or_false] at m
    rcases m with rfl | rfl
    · exact q3
    · exact q2.mono (by omega)).asc
theorem rule_out {K : PySem.W.Frag} {H : Hp} {xs : List It3} {hd : It3} (few : xs.length ≤ 8) (ask : ∀ x ∈ xs ++ [hd], AskD K H x) :
    ∃ A Z : Str, Asc A ∧ Asc Z ∧ ∀ (G : Hp) (Q : VK), Same H G → (∀ (H' : Hp) (r : Addr), Same G H' → G r = none → H' r = some (.tup [.str A, .str Z]) → Q (.ref r) H') → RuleAlt G xs hd Q := by
  cases e : (xs ++ [hd]).find? oddI with
  | some y =>
    exact ⟨_, _, asc_lit (by decide +kernel), (ask y (List.mem_of_find?_eq_some e)).2.2.2.2.1, fun G Q s k => .inl ⟨y, e, k⟩⟩
  | none =>
    have fn : firstOdd ((xs ++ [hd]).map fun x => (x.1, x.2.1)) = none := by
      rw [first_find, e]
      rfl
    obtain ⟨ps', e1, e2, h1, h2⟩ := pats_of (K := K) (H := H) ((xs ++ [hd]).map fun x => (x.1, x.2.1)) (fun x m => by
      obtain ⟨x0, m0, rfl⟩ := List.mem_map.mp m
      exact (ask x0 m0).1) fn
    rw [List.map_map] at e1
    obtain ⟨ps, pt, rfl⟩ : ∃ ps pt, ps' = ps ++ [pt] := by
      rcases List.eq_nil_or_concat ps' with rfl | ⟨l, y, e⟩
      · simp at e1
      · exact ⟨l, y, by rw [e, List.concat_eq_append]⟩
    rw [List.map_append, List.map_append] at e1
    obtain ⟨ea, eb⟩ := List.append_inj' e1 rfl
    have ea : xs.map (·.1) = ps.map (fun x => V.ref x.1) := ea
    have eb : hd.1 = .ref pt.1 := by simpa using eb
    have lps : ps.length ≤ 8 := by
      have := congrArg List.length ea
      rw [List.length_map, List.length_map] at this
      omega
    cases eh : headIn ps pt with
    | true =>
      refine ⟨Str.ofString "fine", (fineD ps pt).shown, asc_lit (by decide +kernel), fine_asc lps h2, fun G Q s k => .inr ⟨e, ps, pt, ea, eb, fun x m => ⟨s _ _ (h1 x m), h2 x m⟩, fun H' r a b c => k H' r a b ?_⟩⟩
      unfold outL at c
      rw [if_pos eh] at c
      exact c
    | false =>
      refine ⟨Str.ofString "rule", Str.ofString "", asc_lit (by decide +kernel), asc_lit (by decide +kernel), fun G Q s k => .inr ⟨e, ps, pt, ea, eb, fun x m => ⟨s _ _ (h1 x m), h2 x m⟩, fun H' r a b c => k H' r a b ?_⟩⟩
      unfold outL at c
      rw [if_neg (by rw [eh]; exact Bool.false_ne_true)] at c
      exact c
def twoD (A Z : Str) : PyData := .tuple [.str A, .str Z]
theorem twoD_shaped {A Z : Str} (a : Asc A) (z : Asc Z) : SeqAt.shaped (twoD A Z) = true := by
  have h1 : PyData.strOk A = true := ok_list (LawR.asc_cod a)
  have h2 : PyData.strOk Z = true := ok_list (LawR.asc_cod z)
  unfold twoD
  show (PyData.canLay0 (.tuple _) && decide (PyData.depth (.tuple _) ≤ 64)) = true
  rw [Bool.and_eq_true]
  exact ⟨by simp [PyData.canLay0, PyData.canLayAll0, h1, h2], by simp [PyData.depth, PyData.depthAll]⟩
def spImpl : Sp := fun vs H Q _ => ∃ (a p : Addr) (c : Int) (m : Nat) (π : Pool), vs = [.ref a, .ref p] ∧ SrcAt H a c (m + 600) ∧ PoolAt a H p π ∧
  ∀ H', SrcAt H' a c m → Keep a H H' → Q (.bl true) H'
section
variable {P : Program} {w : World} {K : PySem.W.Frag} {mg : Str → Option Value} {base : Heap}
abbrev nImpl : List Str := ["_law_source_here", "_law_pool_here", "_law_k", "_law_body", "_law_head", "_law_place"]
theorem scImpl : FnScope nImpl ["_law_source_here", "_law_pool_here"] (defScope sImpl) := ⟨rfl, rfl, rfl, by decide +kernel, rfl, by decide +kernel, by decide +kernel⟩
theorem ok_impl {f fD fL fP fO fT fU : Addr} {fd fdD fdL fdP fdO fdT fdU : FuncData} (F : Fun K "_law_implications" "_law_implications" sImpl f fd)
    (GD : FnOk P w K mg base CX0 1 fD fdD ["_law_source_here", "_law_limit"] spDraw) (kD : PySem.W.keepIn K (.ref fD) = true) (bD : Binds K fdD ["_law_source_here", "_law_limit"] []) (mD : mg "_law_draw" = some (.ref fD))
    (GL : FnOk P w K mg base CX0 4 fL fdL pLot spLot) (kL : PySem.W.keepIn K (.ref fL) = true) (bL : Binds K fdL pLot []) (mL : mg "_law_lot" = some (.ref fL))
    (GP : FnOk P w K mg base CX0 3 fP fdP nTerm spPat) (kP : PySem.W.keepIn K (.ref fP) = true) (bP : Binds K fdP nTerm []) (mP : mg "_law_pattern" = some (.ref fP))
    (GO : FnOk P w K mg base CX0 2 fO fdO ["_law_source_here", "_law_pattern_here"] (LawR.spOdd K)) (kO : PySem.W.keepIn K (.ref fO) = true) (bO : Binds K fdO ["_law_source_here", "_law_pattern_here"] []) (mO : mg "_law_odd" = some (.ref fO))
    (GT : FnG P w K mg base CX0 6 fT fdT ["_law_body", "_law_head"] (spRTold K)) (kT : PySem.W.keepIn K (.ref fT) = true) (bT : Binds K fdT ["_law_body", "_law_head"] []) (mT : mg "_law_rule_told" = some (.ref fT))
    (GU : FnG P w K mg base CX0 4 fU fdU ["_law_body", "_law_head"] (spRDue K)) (kU : PySem.W.keepIn K (.ref fU) = true) (bU : Binds K fdU ["_law_body", "_law_head"] []) (mU : mg "_law_rule_due" = some (.ref fU))
    (mr : mg "range" = none) (ml : mg "len" = none) (mt : mg "tuple" = none) : FnG P w K mg base CX0 7 f fd ["_law_source_here", "_law_pool_here"] spImpl := by
  refine fnG_ok F scImpl (fun vs H Q E h => ?_) (fun cdv A outer s H vs Q E hgd hr h => ?_)
  · obtain ⟨a, p, c, m, π, rfl, _⟩ := h
    rfl
  · obtain ⟨a, p, c, m, π, rfl, hs, hp, k⟩ := h
    have hu := hr.units
    have hr1 : Room 1 _ := hr.mono (by decide)
    have hr2 : Room 2 _ := hr.mono (by decide)
    have hr3 : Room 3 _ := hr.mono (by decide)
    have hr4 : Room 4 _ := hr.mono (by decide)
    refine ⟨_, pss_cons (ps_for PassesOwn.never rfl (pi_range1 rfl mr (pa_cons pe_int pa_nil)) (pg_name (i := 2) scImpl.nd rfl (Or.inl rfl))
        (pss_cons (ps_set (i := 3) scImpl.nd rfl (Or.inl rfl) (pe_call GL hr4 (by rfl) mL kL bL .nil pass0 (pa_cons (pv 0) (pa_cons (pv 1) (pa_cons (pe_slice sl_list (pe_ix ix_list (pv 1) pe_int (fun _ _ => rfl)) po_none (po_some pe_int)) (pa_cons pe_int pa_nil))))))
        (pss_cons (ps_set (i := 4) scImpl.nd rfl (Or.inl rfl) (pe_call GP hr3 (by rfl) mP kP bP .nil pass0 (pa_cons (pv 0) (pa_cons (pv 1) (pa_cons (pe_slice sl_list (pe_ix ix_list (pv 1) pe_int (fun _ _ => rfl)) po_none (po_some pe_int)) (pa_cons pe_int pa_nil))))))
        (pss_cons (ps_if (pt_cmpR op_eq (pe_call GD hr1 (by rfl) mD kD bD .nil pass0 (pa_cons (pv 0) (pa_cons pe_int pa_nil))) pe_int (nomark _)) (pss_one (ps_set (i := 4) scImpl.nd rfl (Or.inl rfl) (pe_call GO hr2 (by rfl) mO kO bO .nil pass0 (pa_cons (pv 0) (pa_cons (pv 4) pa_nil))))) pss_nil)
        (pss_cons (ps_if (PW.pt (pw_and (pt_cmpR (op_neNil hu) (pv 3) (pe_lst pa_nil) (by rfl)) (pw_and1 (pt_cmpR op_eq (pe_call GD hr1 (by rfl) mD kD bD .nil pass0 (pa_cons (pv 0) (pa_cons pe_int pa_nil))) pe_int (nomark _)))))
          (pss_cons (ps_set (i := 5) scImpl.nd rfl (Or.inl rfl) (pe_call GD hr1 (by rfl) mD kD bD .nil pass0 (pa_cons (pv 0) (pa_cons (pe_callB call_len_seq (by rfl) ml (by decide +kernel) (pa_cons (pv 3) pa_nil)) pa_nil))))
          (pss_one (ps_set (i := 3) scImpl.nd rfl (Or.inl rfl) (pe_op op_cat (pe_op op_cat (pe_slice sl_list (pv 3) po_none (po_some (pv 5))) (pe_lst (pa_cons (pe_call GO hr2 (by rfl) mO kO bO .nil pass0 (pa_cons (pv 0) (pa_cons (pe_ix ix_list (pv 3) (pv 5) (fun _ _ => rfl)) pa_nil))) pa_nil)))
            (pe_slice sl_list (pv 3) (po_some (pe_op op_add (pv 5) pe_int)) po_none))))) pss_nil)
        (pss_cons (ps_if (pt_cmpR (op_neD hu) (pe_callG GT hgd hr (by rfl) mT kT bT pass0 (pa_cons (pv 3) (pa_cons (pv 4) pa_nil))) (pe_callG GU hgd hr4 (by rfl) mU kU bU pass0 (pa_cons (pv 3) (pa_cons (pv 4) pa_nil))) (by rfl)) (pss_one (ps_ret pe_bl)) pss_nil)
        (pss_one (ps_if (pt_cmpR (op_neD hu) (pe_callG GT hgd hr (by rfl) mT kT bT pass0 (pa_cons (pe_callTy call_tuple_of (by rfl) mt (by decide +kernel) (pa_cons (pv 3) pa_nil)) (pa_cons (pv 4) pa_nil))) (pe_callG GU hgd hr4 (by rfl) mU kU bU pass0 (pa_cons (pv 3) (pa_cons (pv 4) pa_nil))) (by rfl)) (pss_one (ps_ret pe_bl)) pss_nil))))))))
      (pss_one (ps_ret pe_bl)), ?_⟩
    refine ⟨_, rfl, by decide, by decide, for_range (lo := 0) (n := 6) (fun i σ H3 => ∃ (v2 v3 v4 v5 : Option V), σ = [some (.ref a), some (.ref p), v2, v3, v4, v5] ∧ SrcAt H3 a c (m + 100 * (6 - i)) ∧ Keep a H H3)
      ⟨none, none, none, none, rfl, hs, Keep.refl _ _⟩ ?_ ?_⟩
    · rintro i σ H3 hi ⟨v2, v3, v4, v5, rfl, s3, k3⟩
      have hp3 := hp.keep k3
      generalize eM : m + 100 * (6 - (i + 1)) = M
      have s3 : SrcAt H3 a c (M + 100) := s3.mono (by omega)
      -- the body
      refine ⟨_, rfl, _, rfl, _, rfl, p, _, 2, _, rfl, rfl, SqL.of hp3.hp, rfl, _, rfl, π.vs, _, rfl, SqL.of hp3.hv, fun q nq => ?_⟩
      have sq : Same H3 (upd H3 q (.lst (cutV (π.W.map V.str) none (some 3)))) := same_new nq
      have cq : (upd H3 q (.lst (cutV (π.W.map V.str) none (some 3)))) q = some (.lst ((π.W.take 3).map V.str)) := by
        rw [upd_same, show (some (3 : Int)) = some ((3 : Nat) : Int) from rfl, cutV_top, List.map_take]
      have nqa := s3.ne nq
      generalize upd H3 q (.lst (cutV (π.W.map V.str) none (some 3))) = H4 at sq cq ⊢
      have W3 : ∀ z ∈ π.W.take 3, Vr z := fun z m => hp3.nW z (List.mem_of_mem_take m)
      have l3 : (π.W.take 3).length ≤ 100 := by rw [List.length_take]; omega
      have hp4 := hp3.keep (Keep.of sq)
      refine ⟨a, p, q, c, M + 39, 3, π, π.W.take 3, rfl, by decide, s3.same sq, hp4, ⟨cq, W3, l3, nqa⟩, fun b xs H5 lot few s5 k5 => ?_⟩
      have pts : ∀ x ∈ xs, PatG x.2.1 x.2.2 := fun x m => patG_of10 hp4 W3 (lot.pat x m)
      have hp5 := hp4.keep k5
      have K5 := (k3.trans (Keep.of sq)).trans k5
      -- the head
      refine ⟨_, rfl, _, rfl, _, rfl, p, _, 2, _, rfl, rfl, SqL.of hp5.hp, rfl, _, rfl, π.vs, _, rfl, SqL.of hp5.hv, fun q2 nq2 => ?_⟩
      have sq2 : Same H5 (upd H5 q2 (.lst (cutV (π.W.map V.str) none (some 3)))) := same_new nq2
      have cq2 : (upd H5 q2 (.lst (cutV (π.W.map V.str) none (some 3)))) q2 = some (.lst ((π.W.take 3).map V.str)) := by
        rw [upd_same, show (some (3 : Int)) = some ((3 : Nat) : Int) from rfl, cutV_top, List.map_take]
      have nqa2 := s5.ne nq2
      generalize upd H5 q2 (.lst (cutV (π.W.map V.str) none (some 3))) = H6 at sq2 cq2 ⊢
      have hp6 := hp5.keep (Keep.of sq2)
      refine ⟨a, p, q2, c, M + 19, 4, π, π.W.take 3, rfl, (s5.same sq2).mono (by omega), hp6, ⟨cq2, W3, l3, nqa2⟩, fun t T zs H7 po ht nt s7 k7 => ?_⟩
      have pg : PatG T zs := patG_of10 hp6 W3 po
      have k57 : Keep a H5 H7 := (Keep.of sq2).trans k7
      refine ⟨_, rfl, a, c, M + 18, 3, rfl, s7, by decide, by decide, fun r1 H8 r10 r11 s8 k8 => ⟨rfl, _, rfl, ?_⟩⟩
      have ht8 := k8 _ _ ht nt
      have k58 := k57.trans k8
      have pa : Pr H8 t a := ⟨s8.some, fun z => nt z.symm⟩
      have afterHead : ∀ (hdI : It3) (H9 : Hp), Dur K a H9 hdI → SrcAt H9 a c (M + 14) → Keep a H5 H9 → True := fun _ _ _ _ _ => trivial
      refine ite2 (fun _ => ?_) (fun _ => ?_)
      · refine ⟨_, rfl, _, rfl, a, t, c, M + 14, T, zs, rfl, s8, ht8, pg, fun x o H9 ask s9 k9 => ?_⟩
        obtain ⟨d, dI⟩ := dur_odd pa ask
        obtain ⟨hdI, eI⟩ : ∃ hdI : It3, hdI = (x, o, d) := ⟨_, rfl⟩
        rw [← eI] at dI
        rw [show x = hdI.1 by rw [eI]]
        have k59 := k58.trans k9
        have hb9 := k59 _ _ lot.sq lot.nq
        have di9 : ∀ x ∈ xs.map ptI, Dur K a H9 x := fun x m => by
          obtain ⟨y, my, rfl⟩ := List.mem_map.mp m
          exact (dur_pat (lot.each y my) (lot.nx y my) (pts y my)).keep k59
        have em : (xs.map ptI).map (·.1) = xs.map (fun x => V.ref x.1) := by
          rw [List.map_map]
          rfl
        have K9 := K5.trans k59
        refine ⟨_, rfl, by show 0 ≤ sizeLine; decide, fun p0 np0 => ?_⟩
        have s0 : Same H9 (upd H9 p0 (.lst [])) := same_new np0
        have c0 : (upd H9 p0 (.lst [])) p0 = some (.lst []) := upd_same
        generalize upd H9 p0 (.lst []) = G0 at s0 c0 ⊢
        have hb0 := s0 _ _ hb9
        have k0 : Keep a H9 G0 := Keep.of s0
        have same : ∀ (GG : Hp), Keep a H9 GG → SrcAt GG a c M → ∃ (bI : Addr) (itsI : List It3), b = bI ∧ GG bI = some (.lst (itsI.map (·.1))) ∧ itsI.length ≤ 8 ∧ ∀ x ∈ itsI ++ [hdI], AskD K GG x := fun GG kk sk => by
          refine ⟨b, xs.map ptI, rfl, ?_, by rw [List.length_map]; omega, fun x m => ?_⟩
          · rw [em]
            exact kk _ _ hb9 lot.nq
          · rcases List.mem_append.mp m with m | m
            · exact di9 x m _ kk
            · rw [List.mem_singleton.mp m]
              exact dI _ kk
        refine ⟨b, p0, _, rfl, rfl, SqL.of hb0, SqL.of c0, _, rfl, ?_⟩
        refine ite2 (fun ne => ?_) (fun _ => iteF ?_)
        · have xpos : 0 < xs.length := by
            cases xs with
            | nil => simp at ne
            | cons x r => simp
          refine ⟨_, rfl, a, c, M + 13, 4, rfl, s9.same s0, by decide, by decide, fun rr G1 r20 r21 sG1 kG1 => ⟨rfl, _, rfl, ?_⟩⟩
          have hb1 := kG1 _ _ hb0 lot.nq
          have k1 := k0.trans kG1
          refine ite2 (fun _ => ?_) (fun _ => ?_)
          · refine ⟨_, rfl, _, rfl, b, _, rfl, .inl (SqL.of hb1), a, c, M + 12, _, rfl, sG1, by rw [List.length_map]; omega, by rw [List.length_map]; omega, fun r3 G2 r30 r31 sG2 kG2 => ?_⟩
            rw [List.length_map] at r31
            obtain ⟨j, rfl⟩ : ∃ j : Nat, r3 = j := ⟨r3.toNat, by omega⟩
            have hj : j < xs.length := by omega
            have hb2 := kG2 _ _ hb1 lot.nq
            have k2 := k1.trans kG2
            refine ⟨_, rfl, _, rfl, _, rfl, b, _, rfl, SqL.of hb2, fun e1 ne1 => ?_⟩
            have z1 := sG2.ne ne1
            have w1 : Same G2 (upd G2 e1 (.lst (cutV (xs.map fun x => V.ref x.1) none (some (j : Int))))) := same_new ne1
            have g1 : (upd G2 e1 (.lst (cutV (xs.map fun x => V.ref x.1) none (some (j : Int))))) e1 = some (.lst (((xs.map ptI).take j).map (·.1))) := by
              rw [upd_same, cutV_top, List.map_take, em]
            generalize upd G2 e1 (.lst (cutV (xs.map fun x => V.ref x.1) none (some (j : Int)))) = G3 at w1 g1 ⊢
            have hb3 := w1 _ _ hb2
            have k3' := k2.trans (Keep.of w1)
            have mx : xs[j] ∈ xs := List.getElem_mem hj
            have ht3 := (k59.trans k3') _ _ (lot.each _ mx) (lot.nx _ mx)
            have pa3 : Pr G3 xs[j].1 a := ⟨(sG2.same w1).some, fun z => lot.nx _ mx z.symm⟩
            refine ⟨_, rfl, _, rfl, _, rfl, b, _, _, _, rfl, rfl, SqL.of hb3, atI_nat (j := j) (by rw [List.getElem?_map, List.getElem?_eq_getElem hj] <;> rfl), a, xs[j].1, c, M + 8, xs[j].2.1, xs[j].2.2, rfl, sG2.same w1, ht3, pts _ mx, fun ox oo G4 ask4 s4' k4' => ?_⟩
            obtain ⟨od, dO⟩ := dur_odd pa3 ask4
            have k4 := k3'.trans k4'
            have hb4 := k4' _ _ hb3 lot.nq
            refine ⟨by show 1 ≤ sizeLine; decide, fun e2 ne2 => ?_⟩
            have w2 : Same G4 (upd G4 e2 (.lst [ox])) := same_new ne2
            have g2 : (upd G4 e2 (.lst [ox])) e2 = some (.lst [ox]) := upd_same
            generalize upd G4 e2 (.lst [ox]) = Ga at w2 g2 ⊢
            refine ⟨e1, e2, _, _, rfl, rfl, w2 _ _ (k4' _ _ g1 z1), g2, by rw [List.length_map, List.length_take, List.length_map, sizeLine_eq]; show _ + 1 ≤ _; omega, fun e3 ne3 => ?_⟩
            have w3 : Same Ga (upd Ga e3 (.lst (((xs.map ptI).take j).map (·.1) ++ [ox]))) := same_new ne3
            have g3 : (upd Ga e3 (.lst (((xs.map ptI).take j).map (·.1) ++ [ox]))) e3 = some (.lst (((xs.map ptI).take j).map (·.1) ++ [ox])) := upd_same
            generalize upd Ga e3 (.lst (((xs.map ptI).take j).map (·.1) ++ [ox])) = Gb at w3 g3 ⊢
            have wb := w2.trans w3
            refine ⟨_, rfl, _, rfl, _, _, rfl, rfl, _, rfl, b, _, rfl, SqL.of (wb _ _ hb4), fun e4 ne4 => ?_⟩
            have ej : ((j : Int) + 1) = ((j + 1 : Nat) : Int) := by omega
            have w4 : Same Gb (upd Gb e4 (.lst (cutV (xs.map fun x => V.ref x.1) (some ((j : Int) + 1)) none))) := same_new ne4
            have g4 : (upd Gb e4 (.lst (cutV (xs.map fun x => V.ref x.1) (some ((j : Int) + 1)) none))) e4 = some (.lst (((xs.map ptI).drop (j + 1)).map (·.1))) := by
              rw [upd_same, ej, LawR.cutV_from, List.map_drop, em]
            generalize upd Gb e4 (.lst (cutV (xs.map fun x => V.ref x.1) (some ((j : Int) + 1)) none)) = Gc at w4 g4 ⊢
            refine ⟨e3, e4, _, _, rfl, rfl, w4 _ _ g3, g4, by rw [List.length_append, List.length_map, List.length_map, List.length_take, List.length_drop, List.length_map, sizeLine_eq]; show _ + 1 + _ ≤ _; omega, fun bI nbI => ?_⟩
            have w5 : Same Gc (upd Gc bI (.lst (((xs.map ptI).take j).map (·.1) ++ [ox] ++ ((xs.map ptI).drop (j + 1)).map (·.1)))) := same_new nbI
            obtain ⟨itsI, eIts⟩ : ∃ itsI : List It3, itsI = (xs.map ptI).take j ++ [(ox, oo, od)] ++ (xs.map ptI).drop (j + 1) := ⟨_, rfl⟩
            have hbI : (upd Gc bI (.lst (((xs.map ptI).take j).map (·.1) ++ [ox] ++ ((xs.map ptI).drop (j + 1)).map (·.1)))) bI = some (.lst (itsI.map (·.1))) := by
              rw [upd_same, eIts, List.map_append, List.map_append]
              rfl
            generalize upd Gc bI (.lst (((xs.map ptI).take j).map (·.1) ++ [ox] ++ ((xs.map ptI).drop (j + 1)).map (·.1))) = Gd at w5 hbI ⊢
            have wd := (wb.trans w4).trans w5
            have srcI : SrcAt Gd a c M := (s4'.same wd).mono (by omega)
            have kd := k4.trans (Keep.of wd)
            have kI := K9.trans kd
            have fewI : itsI.length ≤ 8 := by
              rw [eIts, List.length_append, List.length_append, List.length_take, List.length_drop, List.length_map]
              show _ + 1 + _ ≤ 8
              omega
            have askI : ∀ x ∈ itsI ++ [hdI], AskD K Gd x := fun x m => by
              rw [eIts] at m
              rcases List.mem_append.mp m with m | m
              · rcases List.mem_append.mp m with m | m
                · rcases List.mem_append.mp m with m | m
                  · exact di9 x (List.mem_of_mem_take m) _ kd
                  · rw [List.mem_singleton.mp m]
                    exact dO _ (Keep.of wd)
                · exact di9 x (List.mem_of_mem_drop m) _ kd
              · rw [List.mem_singleton.mp m]
                exact dI _ kd
            obtain ⟨A, Z, ha, hz, alt⟩ := rule_out fewI askI
            have sh := twoD_shaped ha hz
            refine ⟨_, rfl, _, rfl, bI, itsI, hdI, rfl, .inl hbI, fewI, askI, alt _ _ (Same.refl _) fun G1 r1 t1 n1 h1 => ?_⟩
            refine ⟨_, rfl, _, rfl, bI, itsI, hdI, rfl, t1 _ _ hbI, fewI, fun x m => (askI x m).same t1, alt _ _ t1 fun G2 r2 t2 n2 h2 => ?_⟩
            refine ⟨twoD A Z, twoD A Z, .tup (SqT.of (t2 _ _ h1)) (.cons (.str A) (.cons (.str Z) .nil)), .tup (SqT.of h2) (.cons (.str A) (.cons (.str Z) .nil)), sh, sh, _, rfl, ?_⟩
            rw [show PyData.eqv (twoD A Z) (twoD A Z) = true from SeqAt.eqv_refl _ (SeqAt.canLay_of_shaped sh)]
            have u2 := t1.trans t2
            refine iteF ⟨_, rfl, bI, _, rfl, .inl ⟨SqL.of (u2 _ _ hbI), fun tb nb => ?_⟩⟩
            have u3 : Same G2 (upd G2 tb (.tup (itsI.map (·.1)))) := same_new nb
            have ctb : (upd G2 tb (.tup (itsI.map (·.1)))) tb = some (.tup (itsI.map (·.1))) := upd_same
            generalize upd G2 tb (.tup (itsI.map (·.1))) = G3 at u3 ctb ⊢
            have u13 := u2.trans u3
            refine ⟨_, rfl, tb, itsI, hdI, rfl, .inr ctb, fewI, fun x m => (askI x m).same u13, alt _ _ u13 fun G4 r4 t4 n4 h4 => ?_⟩
            have u14 := u13.trans t4
            refine ⟨_, rfl, _, rfl, bI, itsI, hdI, rfl, u14 _ _ hbI, fewI, fun x m => (askI x m).same u14, alt _ _ u14 fun G5 r5 t5 n5 h5 => ?_⟩
            refine ⟨twoD A Z, twoD A Z, .tup (SqT.of (t5 _ _ h4)) (.cons (.str A) (.cons (.str Z) .nil)), .tup (SqT.of h5) (.cons (.str A) (.cons (.str Z) .nil)), sh, sh, _, rfl, ?_⟩
            rw [show PyData.eqv (twoD A Z) (twoD A Z) = true from SeqAt.eqv_refl _ (SeqAt.canLay_of_shaped sh)]
            have u15 := u14.trans t5
            exact iteF ⟨_, _, _, _, rfl, srcI.same u15, kI.trans (Keep.of u15)⟩
          · obtain ⟨bI, itsI, eb, hbI, fewI, askI⟩ := same G1 k1 (sG1.mono (by omega))
            have srcI : SrcAt G1 a c M := sG1.mono (by omega)
            have kI := K9.trans k1
            rw [eb]
            obtain ⟨A, Z, ha, hz, alt⟩ := rule_out fewI askI
            have sh := twoD_shaped ha hz
            refine ⟨_, rfl, _, rfl, bI, itsI, hdI, rfl, .inl hbI, fewI, askI, alt _ _ (Same.refl _) fun G1 r1 t1 n1 h1 => ?_⟩
            refine ⟨_, rfl, _, rfl, bI, itsI, hdI, rfl, t1 _ _ hbI, fewI, fun x m => (askI x m).same t1, alt _ _ t1 fun G2 r2 t2 n2 h2 => ?_⟩
            refine ⟨twoD A Z, twoD A Z, .tup (SqT.of (t2 _ _ h1)) (.cons (.str A) (.cons (.str Z) .nil)), .tup (SqT.of h2) (.cons (.str A) (.cons (.str Z) .nil)), sh, sh, _, rfl, ?_⟩
            rw [show PyData.eqv (twoD A Z) (twoD A Z) = true from SeqAt.eqv_refl _ (SeqAt.canLay_of_shaped sh)]
            have u2 := t1.trans t2
            refine iteF ⟨_, rfl, bI, _, rfl, .inl ⟨SqL.of (u2 _ _ hbI), fun tb nb => ?_⟩⟩
            have u3 : Same G2 (upd G2 tb (.tup (itsI.map (·.1)))) := same_new nb
            have ctb : (upd G2 tb (.tup (itsI.map (·.1)))) tb = some (.tup (itsI.map (·.1))) := upd_same
            generalize upd G2 tb (.tup (itsI.map (·.1))) = G3 at u3 ctb ⊢
            have u13 := u2.trans u3
            refine ⟨_, rfl, tb, itsI, hdI, rfl, .inr ctb, fewI, fun x m => (askI x m).same u13, alt _ _ u13 fun G4 r4 t4 n4 h4 => ?_⟩
            have u14 := u13.trans t4
            refine ⟨_, rfl, _, rfl, bI, itsI, hdI, rfl, u14 _ _ hbI, fewI, fun x m => (askI x m).same u14, alt _ _ u14 fun G5 r5 t5 n5 h5 => ?_⟩
            refine ⟨twoD A Z, twoD A Z, .tup (SqT.of (t5 _ _ h4)) (.cons (.str A) (.cons (.str Z) .nil)), .tup (SqT.of h5) (.cons (.str A) (.cons (.str Z) .nil)), sh, sh, _, rfl, ?_⟩
            rw [show PyData.eqv (twoD A Z) (twoD A Z) = true from SeqAt.eqv_refl _ (SeqAt.canLay_of_shaped sh)]
            have u15 := u14.trans t5
            exact iteF ⟨_, _, _, _, rfl, srcI.same u15, kI.trans (Keep.of u15)⟩
        · obtain ⟨bI, itsI, eb, hbI, fewI, askI⟩ := same G0 k0 ((s9.same s0).mono (by omega))
          have srcI : SrcAt G0 a c M := (s9.same s0).mono (by omega)
          have kI := K9.trans k0
          rw [eb]
          obtain ⟨A, Z, ha, hz, alt⟩ := rule_out fewI askI
          have sh := twoD_shaped ha hz
          refine ⟨_, rfl, _, rfl, bI, itsI, hdI, rfl, .inl hbI, fewI, askI, alt _ _ (Same.refl _) fun G1 r1 t1 n1 h1 => ?_⟩
          refine ⟨_, rfl, _, rfl, bI, itsI, hdI, rfl, t1 _ _ hbI, fewI, fun x m => (askI x m).same t1, alt _ _ t1 fun G2 r2 t2 n2 h2 => ?_⟩
          refine ⟨twoD A Z, twoD A Z, .tup (SqT.of (t2 _ _ h1)) (.cons (.str A) (.cons (.str Z) .nil)), .tup (SqT.of h2) (.cons (.str A) (.cons (.str Z) .nil)), sh, sh, _, rfl, ?_⟩
          rw [show PyData.eqv (twoD A Z) (twoD A Z) = true from SeqAt.eqv_refl _ (SeqAt.canLay_of_shaped sh)]
          have u2 := t1.trans t2
          refine iteF ⟨_, rfl, bI, _, rfl, .inl ⟨SqL.of (u2 _ _ hbI), fun tb nb => ?_⟩⟩
          have u3 : Same G2 (upd G2 tb (.tup (itsI.map (·.1)))) := same_new nb
          have ctb : (upd G2 tb (.tup (itsI.map (·.1)))) tb = some (.tup (itsI.map (·.1))) := upd_same
          generalize upd G2 tb (.tup (itsI.map (·.1))) = G3 at u3 ctb ⊢
          have u13 := u2.trans u3
          refine ⟨_, rfl, tb, itsI, hdI, rfl, .inr ctb, fewI, fun x m => (askI x m).same u13, alt _ _ u13 fun G4 r4 t4 n4 h4 => ?_⟩
          have u14 := u13.trans t4
          refine ⟨_, rfl, _, rfl, bI, itsI, hdI, rfl, u14 _ _ hbI, fewI, fun x m => (askI x m).same u14, alt _ _ u14 fun G5 r5 t5 n5 h5 => ?_⟩
          refine ⟨twoD A Z, twoD A Z, .tup (SqT.of (t5 _ _ h4)) (.cons (.str A) (.cons (.str Z) .nil)), .tup (SqT.of h5) (.cons (.str A) (.cons (.str Z) .nil)), sh, sh, _, rfl, ?_⟩
          rw [show PyData.eqv (twoD A Z) (twoD A Z) = true from SeqAt.eqv_refl _ (SeqAt.canLay_of_shaped sh)]
          have u15 := u14.trans t5
          exact iteF ⟨_, _, _, _, rfl, srcI.same u15, kI.trans (Keep.of u15)⟩
      · obtain ⟨hdI, eI⟩ : ∃ hdI : It3, hdI = ptI (t, T, zs) := ⟨_, rfl⟩
        have dI : Dur K a H8 hdI := by
          rw [eI]
          exact dur_pat (x := (t, T, zs)) ht8 nt pg
        have s9 : SrcAt H8 a c (M + 14) := s8.mono (by omega)
        have k59 := k58
        have e1 : V.ref t = hdI.1 := by
          rw [eI]
          rfl
        rw [e1]
        have hb9 := k59 _ _ lot.sq lot.nq
        have di9 : ∀ x ∈ xs.map ptI, Dur K a H8 x := fun x m => by
          obtain ⟨y, my, rfl⟩ := List.mem_map.mp m
          exact (dur_pat (lot.each y my) (lot.nx y my) (pts y my)).keep k59
        have em : (xs.map ptI).map (·.1) = xs.map (fun x => V.ref x.1) := by
          rw [List.map_map]
          rfl
        have K9 := K5.trans k59
        refine ⟨_, rfl, by show 0 ≤ sizeLine; decide, fun p0 np0 => ?_⟩
        have s0 : Same H8 (upd H8 p0 (.lst [])) := same_new np0
        have c0 : (upd H8 p0 (.lst [])) p0 = some (.lst []) := upd_same
        generalize upd H8 p0 (.lst []) = G0 at s0 c0 ⊢
        have hb0 := s0 _ _ hb9
        have k0 : Keep a H8 G0 := Keep.of s0
        have same : ∀ (GG : Hp), Keep a H8 GG → SrcAt GG a c M → ∃ (bI : Addr) (itsI : List It3), b = bI ∧ GG bI = some (.lst (itsI.map (·.1))) ∧ itsI.length ≤ 8 ∧ ∀ x ∈ itsI ++ [hdI], AskD K GG x := fun GG kk sk => by
          refine ⟨b, xs.map ptI, rfl, ?_, by rw [List.length_map]; omega, fun x m => ?_⟩
          · rw [em]
            exact kk _ _ hb9 lot.nq
          · rcases List.mem_append.mp m with m | m
            · exact di9 x m _ kk
            · rw [List.mem_singleton.mp m]
              exact dI _ kk
        refine ⟨b, p0, _, rfl, rfl, SqL.of hb0, SqL.of c0, _, rfl, ?_⟩
        refine ite2 (fun ne => ?_) (fun _ => iteF ?_)
        · have xpos : 0 < xs.length := by
            cases xs with
            | nil => simp at ne
            | cons x r => simp
          refine ⟨_, rfl, a, c, M + 13, 4, rfl, s9.same s0, by decide, by decide, fun rr G1 r20 r21 sG1 kG1 => ⟨rfl, _, rfl, ?_⟩⟩
          have hb1 := kG1 _ _ hb0 lot.nq
          have k1 := k0.trans kG1
          refine ite2 (fun _ => ?_) (fun _ => ?_)
          · refine ⟨_, rfl, _, rfl, b, _, rfl, .inl (SqL.of hb1), a, c, M + 12, _, rfl, sG1, by rw [List.length_map]; omega, by rw [List.length_map]; omega, fun r3 G2 r30 r31 sG2 kG2 => ?_⟩
            rw [List.length_map] at r31
            obtain ⟨j, rfl⟩ : ∃ j : Nat, r3 = j := ⟨r3.toNat, by omega⟩
            have hj : j < xs.length := by omega
            have hb2 := kG2 _ _ hb1 lot.nq
            have k2 := k1.trans kG2
            refine ⟨_, rfl, _, rfl, _, rfl, b, _, rfl, SqL.of hb2, fun e1 ne1 => ?_⟩
            have z1 := sG2.ne ne1
            have w1 : Same G2 (upd G2 e1 (.lst (cutV (xs.map fun x => V.ref x.1) none (some (j : Int))))) := same_new ne1
            have g1 : (upd G2 e1 (.lst (cutV (xs.map fun x => V.ref x.1) none (some (j : Int))))) e1 = some (.lst (((xs.map ptI).take j).map (·.1))) := by
              rw [upd_same, cutV_top, List.map_take, em]
            generalize upd G2 e1 (.lst (cutV (xs.map fun x => V.ref x.1) none (some (j : Int)))) = G3 at w1 g1 ⊢
            have hb3 := w1 _ _ hb2
            have k3' := k2.trans (Keep.of w1)
            have mx : xs[j] ∈ xs := List.getElem_mem hj
            have ht3 := (k59.trans k3') _ _ (lot.each _ mx) (lot.nx _ mx)
            have pa3 : Pr G3 xs[j].1 a := ⟨(sG2.same w1).some, fun z => lot.nx _ mx z.symm⟩
            refine ⟨_, rfl, _, rfl, _, rfl, b, _, _, _, rfl, rfl, SqL.of hb3, atI_nat (j := j) (by rw [List.getElem?_map, List.getElem?_eq_getElem hj] <;> rfl), a, xs[j].1, c, M + 8, xs[j].2.1, xs[j].2.2, rfl, sG2.same w1, ht3, pts _ mx, fun ox oo G4 ask4 s4' k4' => ?_⟩
            obtain ⟨od, dO⟩ := dur_odd pa3 ask4
            have k4 := k3'.trans k4'
            have hb4 := k4' _ _ hb3 lot.nq
            refine ⟨by show 1 ≤ sizeLine; decide, fun e2 ne2 => ?_⟩
            have w2 : Same G4 (upd G4 e2 (.lst [ox])) := same_new ne2
            have g2 : (upd G4 e2 (.lst [ox])) e2 = some (.lst [ox]) := upd_same
            generalize upd G4 e2 (.lst [ox]) = Ga at w2 g2 ⊢
            refine ⟨e1, e2, _, _, rfl, rfl, w2 _ _ (k4' _ _ g1 z1), g2, by rw [List.length_map, List.length_take, List.length_map, sizeLine_eq]; show _ + 1 ≤ _; omega, fun e3 ne3 => ?_⟩
            have w3 : Same Ga (upd Ga e3 (.lst (((xs.map ptI).take j).map (·.1) ++ [ox]))) := same_new ne3
            have g3 : (upd Ga e3 (.lst (((xs.map ptI).take j).map (·.1) ++ [ox]))) e3 = some (.lst (((xs.map ptI).take j).map (·.1) ++ [ox])) := upd_same
            generalize upd Ga e3 (.lst (((xs.map ptI).take j).map (·.1) ++ [ox])) = Gb at w3 g3 ⊢
            have wb := w2.trans w3
            refine ⟨_, rfl, _, rfl, _, _, rfl, rfl, _, rfl, b, _, rfl, SqL.of (wb _ _ hb4), fun e4 ne4 => ?_⟩
            have ej : ((j : Int) + 1) = ((j + 1 : Nat) : Int) := by omega
            have w4 : Same Gb (upd Gb e4 (.lst (cutV (xs.map fun x => V.ref x.1) (some ((j : Int) + 1)) none))) := same_new ne4
            have g4 : (upd Gb e4 (.lst (cutV (xs.map fun x => V.ref x.1) (some ((j : Int) + 1)) none))) e4 = some (.lst (((xs.map ptI).drop (j + 1)).map (·.1))) := by
              rw [upd_same, ej, LawR.cutV_from, List.map_drop, em]
            generalize upd Gb e4 (.lst (cutV (xs.map fun x => V.ref x.1) (some ((j : Int) + 1)) none)) = Gc at w4 g4 ⊢
            refine ⟨e3, e4, _, _, rfl, rfl, w4 _ _ g3, g4, by rw [List.length_append, List.length_map, List.length_map, List.length_take, List.length_drop, List.length_map, sizeLine_eq]; show _ + 1 + _ ≤ _; omega, fun bI nbI => ?_⟩
            have w5 : Same Gc (upd Gc bI (.lst (((xs.map ptI).take j).map (·.1) ++ [ox] ++ ((xs.map ptI).drop (j + 1)).map (·.1)))) := same_new nbI
            obtain ⟨itsI, eIts⟩ : ∃ itsI : List It3, itsI = (xs.map ptI).take j ++ [(ox, oo, od)] ++ (xs.map ptI).drop (j + 1) := ⟨_, rfl⟩
            have hbI : (upd Gc bI (.lst (((xs.map ptI).take j).map (·.1) ++ [ox] ++ ((xs.map ptI).drop (j + 1)).map (·.1)))) bI = some (.lst (itsI.map (·.1))) := by
              rw [upd_same, eIts, List.map_append, List.map_append]
              rfl
            generalize upd Gc bI (.lst (((xs.map ptI).take j).map (·.1) ++ [ox] ++ ((xs.map ptI).drop (j + 1)).map (·.1))) = Gd at w5 hbI ⊢
            have wd := (wb.trans w4).trans w5
            have srcI : SrcAt Gd a c M := (s4'.same wd).mono (by omega)
            have kd := k4.trans (Keep.of wd)
            have kI := K9.trans kd
            have fewI : itsI.length ≤ 8 := by
              rw [eIts, List.length_append, List.length_append, List.length_take, List.length_drop, List.length_map]
              show _ + 1 + _ ≤ 8
              omega
            have askI : ∀ x ∈ itsI ++ [hdI], AskD K Gd x := fun x m => by
              rw [eIts] at m
              rcases List.mem_append.mp m with m | m
              · rcases List.mem_append.mp m with m | m
                · rcases List.mem_append.mp m with m | m
                  · exact di9 x (List.mem_of_mem_take m) _ kd
                  · rw [List.mem_singleton.mp m]
                    exact dO _ (Keep.of wd)
                · exact di9 x (List.mem_of_mem_drop m) _ kd
              · rw [List.mem_singleton.mp m]
                exact dI _ kd
            obtain ⟨A, Z, ha, hz, alt⟩ := rule_out fewI askI
            have sh := twoD_shaped ha hz
            refine ⟨_, rfl, _, rfl, bI, itsI, hdI, rfl, .inl hbI, fewI, askI, alt _ _ (Same.refl _) fun G1 r1 t1 n1 h1 => ?_⟩
            refine ⟨_, rfl, _, rfl, bI, itsI, hdI, rfl, t1 _ _ hbI, fewI, fun x m => (askI x m).same t1, alt _ _ t1 fun G2 r2 t2 n2 h2 => ?_⟩
            refine ⟨twoD A Z, twoD A Z, .tup (SqT.of (t2 _ _ h1)) (.cons (.str A) (.cons (.str Z) .nil)), .tup (SqT.of h2) (.cons (.str A) (.cons (.str Z) .nil)), sh, sh, _, rfl, ?_⟩
            rw [show PyData.eqv (twoD A Z) (twoD A Z) = true from SeqAt.eqv_refl _ (SeqAt.canLay_of_shaped sh)]
            have u2 := t1.trans t2
            refine iteF ⟨_, rfl, bI, _, rfl, .inl ⟨SqL.of (u2 _ _ hbI), fun tb nb => ?_⟩⟩
            have u3 : Same G2 (upd G2 tb (.tup (itsI.map (·.1)))) := same_new nb
            have ctb : (upd G2 tb (.tup (itsI.map (·.1)))) tb = some (.tup (itsI.map (·.1))) := upd_same
            generalize upd G2 tb (.tup (itsI.map (·.1))) = G3 at u3 ctb ⊢
            have u13 := u2.trans u3
            refine ⟨_, rfl, tb, itsI, hdI, rfl, .inr ctb, fewI, fun x m => (askI x m).same u13, alt _ _ u13 fun G4 r4 t4 n4 h4 => ?_⟩
            have u14 := u13.trans t4
            refine ⟨_, rfl, _, rfl, bI, itsI, hdI, rfl, u14 _ _ hbI, fewI, fun x m => (askI x m).same u14, alt _ _ u14 fun G5 r5 t5 n5 h5 => ?_⟩
            refine ⟨twoD A Z, twoD A Z, .tup (SqT.of (t5 _ _ h4)) (.cons (.str A) (.cons (.str Z) .nil)), .tup (SqT.of h5) (.cons (.str A) (.cons (.str Z) .nil)), sh, sh, _, rfl, ?_⟩
            rw [show PyData.eqv (twoD A Z) (twoD A Z) = true from SeqAt.eqv_refl _ (SeqAt.canLay_of_shaped sh)]
            have u15 := u14.trans t5
            exact iteF ⟨_, _, _, _, rfl, srcI.same u15, kI.trans (Keep.of u15)⟩
          · obtain ⟨bI, itsI, eb, hbI, fewI, askI⟩ := same G1 k1 (sG1.mono (by omega))
            have srcI : SrcAt G1 a c M := sG1.mono (by omega)
            have kI := K9.trans k1
            rw [eb]
            obtain ⟨A, Z, ha, hz, alt⟩ := rule_out fewI askI
            have sh := twoD_shaped ha hz
            refine ⟨_, rfl, _, rfl, bI, itsI, hdI, rfl, .inl hbI, fewI, askI, alt _ _ (Same.refl _) fun G1 r1 t1 n1 h1 => ?_⟩
            refine ⟨_, rfl, _, rfl, bI, itsI, hdI, rfl, t1 _ _ hbI, fewI, fun x m => (askI x m).same t1, alt _ _ t1 fun G2 r2 t2 n2 h2 => ?_⟩
            refine ⟨twoD A Z, twoD A Z, .tup (SqT.of (t2 _ _ h1)) (.cons (.str A) (.cons (.str Z) .nil)), .tup (SqT.of h2) (.cons (.str A) (.cons (.str Z) .nil)), sh, sh, _, rfl, ?_⟩
            rw [show PyData.eqv (twoD A Z) (twoD A Z) = true from SeqAt.eqv_refl _ (SeqAt.canLay_of_shaped sh)]
            have u2 := t1.trans t2
            refine iteF ⟨_, rfl, bI, _, rfl, .inl ⟨SqL.of (u2 _ _ hbI), fun tb nb => ?_⟩⟩
            have u3 : Same G2 (upd G2 tb (.tup (itsI.map (·.1)))) := same_new nb
            have ctb : (upd G2 tb (.tup (itsI.map (·.1)))) tb = some (.tup (itsI.map (·.1))) := upd_same
            generalize upd G2 tb (.tup (itsI.map (·.1))) = G3 at u3 ctb ⊢
            have u13 := u2.trans u3
            refine ⟨_, rfl, tb, itsI, hdI, rfl, .inr ctb, fewI, fun x m => (askI x m).same u13, alt _ _ u13 fun G4 r4 t4 n4 h4 => ?_⟩
            have u14 := u13.trans t4
            refine ⟨_, rfl, _, rfl, bI, itsI, hdI, rfl, u14 _ _ hbI, fewI, fun x m => (askI x m).same u14, alt _ _ u14 fun G5 r5 t5 n5 h5 => ?_⟩
            refine ⟨twoD A Z, twoD A Z, .tup (SqT.of (t5 _ _ h4)) (.cons (.str A) (.cons (.str Z) .nil)), .tup (SqT.of h5) (.cons (.str A) (.cons (.str Z) .nil)), sh, sh, _, rfl, ?_⟩
            rw [show PyData.eqv (twoD A Z) (twoD A Z) = true from SeqAt.eqv_refl _ (SeqAt.canLay_of_shaped sh)]
            have u15 := u14.trans t5
            exact iteF ⟨_, _, _, _, rfl, srcI.same u15, kI.trans (Keep.of u15)⟩
        · obtain ⟨bI, itsI, eb, hbI, fewI, askI⟩ := same G0 k0 ((s9.same s0).mono (by omega))
          have srcI : SrcAt G0 a c M := (s9.same s0).mono (by omega)
          have kI := K9.trans k0
          rw [eb]
          obtain ⟨A, Z, ha, hz, alt⟩ := rule_out fewI askI
          have sh := twoD_shaped ha hz
          refine ⟨_, rfl, _, rfl, bI, itsI, hdI, rfl, .inl hbI, fewI, askI, alt _ _ (Same.refl _) fun G1 r1 t1 n1 h1 => ?_⟩
          refine ⟨_, rfl, _, rfl, bI, itsI, hdI, rfl, t1 _ _ hbI, fewI, fun x m => (askI x m).same t1, alt _ _ t1 fun G2 r2 t2 n2 h2 => ?_⟩
          refine ⟨twoD A Z, twoD A Z, .tup (SqT.of (t2 _ _ h1)) (.cons (.str A) (.cons (.str Z) .nil)), .tup (SqT.of h2) (.cons (.str A) (.cons (.str Z) .nil)), sh, sh, _, rfl, ?_⟩
          rw [show PyData.eqv (twoD A Z) (twoD A Z) = true from SeqAt.eqv_refl _ (SeqAt.canLay_of_shaped sh)]
          have u2 := t1.trans t2
          refine iteF ⟨_, rfl, bI, _, rfl, .inl ⟨SqL.of (u2 _ _ hbI), fun tb nb => ?_⟩⟩
          have u3 : Same G2 (upd G2 tb (.tup (itsI.map (·.1)))) := same_new nb
          have ctb : (upd G2 tb (.tup (itsI.map (·.1)))) tb = some (.tup (itsI.map (·.1))) := upd_same
          generalize upd G2 tb (.tup (itsI.map (·.1))) = G3 at u3 ctb ⊢
          have u13 := u2.trans u3
          refine ⟨_, rfl, tb, itsI, hdI, rfl, .inr ctb, fewI, fun x m => (askI x m).same u13, alt _ _ u13 fun G4 r4 t4 n4 h4 => ?_⟩
          have u14 := u13.trans t4
          refine ⟨_, rfl, _, rfl, bI, itsI, hdI, rfl, u14 _ _ hbI, fewI, fun x m => (askI x m).same u14, alt _ _ u14 fun G5 r5 t5 n5 h5 => ?_⟩
          refine ⟨twoD A Z, twoD A Z, .tup (SqT.of (t5 _ _ h4)) (.cons (.str A) (.cons (.str Z) .nil)), .tup (SqT.of h5) (.cons (.str A) (.cons (.str Z) .nil)), sh, sh, _, rfl, ?_⟩
          rw [show PyData.eqv (twoD A Z) (twoD A Z) = true from SeqAt.eqv_refl _ (SeqAt.canLay_of_shaped sh)]
          have u15 := u14.trans t5
          exact iteF ⟨_, _, _, _, rfl, srcI.same u15, kI.trans (Keep.of u15)⟩
    · rintro σ H3 ⟨v2, v3, v4, v5, rfl, s3, k3⟩
      exact k H3 (s3.mono (by omega)) k3
end
end L2.LawH
set_option Elab.async false
set_option linter.all false
set_option maxRecDepth 100000
set_option maxHeartbeats 4000000
/-! == of an own class, decided; Store's own ==. -/
namespace L2.OwnOp
open PySem PySem.Spec PyProof.Rows
section
variable {X : Cx} {n : Nat} {f : Addr} {fd : FuncData} {ps : List Str} {sp : Sp}
theorem looks_at {M : Model} {h : Heap} {q : Addr} {o : Obj} {t : Value} (e : h.get? q = some o) (c : o.cls = t) : PySem.W.Looks M h (typeOf (.ref q)) t := c ▸ (PySem.W.Looks.ld e).andThen .now
/-- how the right side of own == may stand -/
def RightOk (K : PySem.W.Frag) (C : Addr) (H : Hp) (y : V) : Prop := ∃ q, y = .ref q ∧ ((∃ dy gs, H q = some (.ins C dy gs)) ∨ ((∃ xs, SqL K H q xs) ∧ PySem.W.subIn K (.type "list") (.ref C) = some false) ∨ ((∃ xs, SqT K H q xs) ∧ PySem.W.subIn K (.type "tuple") (.ref C) = some false))
def rEqOwn (K : PySem.W.Frag) (C : Addr) (sp : Sp) : R2 := fun x y H Q => ∃ p dx fs, x = .ref p ∧ H p = some (.ins C dx fs) ∧ RightOk K C H y ∧ sp [.ref p, y] H (fun v H' => ∃ b, v = .bl b ∧ Q (.bl b) H') E0
theorem op_eqOwn {C : Addr} (F : FnOk X.prog X.w X.K X.mg X.base CX0 n f fd ps sp) (hb : Binds X.K fd ps []) (m : OwnM X C f "__eq__") (hr : Room n X.A) (hx : Passes CX0 X E0) : OpR X (compareOp .Eq) (rEqOwn X.K C sp) := by
  intro pins s σ H x y v u Q I rx ry hq
  obtain ⟨p, dx, fs, rfl, hp, ⟨q, rfl, right⟩, want⟩ := hq
  cases rx
  cases ry
  obtain ⟨_, J, _⟩ := ins_get I.hok hp
  obtain ⟨od, J, _⟩ := J.look
  obtain ⟨_, fr⟩ := I.fr
  have go : ∀ tb, PySem.W.Looks (model X.prog X.w) s.heap (typeOf (.ref q)) tb → PySem.W.notFirst X.K C tb = true → wpAny (model X.prog X.w) X.A (richCompare .Eq (.ref p) (.ref q)) (EP X pins σ Q) X.xe s := fun tb lk nf => by
    refine PySem.W.cmp_K hr.units0 fr I.mod.kin J lk nf m.fi m.fn (wpAny_mono (run_own (vs := [.ref p, .ref q]) F hb hx ⟨hr, rfl⟩ I (.cons rfl (.cons rfl .nil)) want) (fun r s' z => ?_) fun _ _ z => z)
    obtain ⟨v', H', I', rv, b, rfl, q⟩ := I.after z
    cases rv
    exact ⟨.bl b, H', I', rfl, q⟩
  rcases right with ⟨dy, gs, h⟩ | ⟨⟨xs, h⟩, nl⟩ | ⟨⟨xs, h⟩, nl⟩
  · obtain ⟨_, J2, _⟩ := ins_get I.hok h
    obtain ⟨od2, J2, _⟩ := J2.look
    exact go (.ref C) J2.type (by unfold PySem.W.notFirst; simp)
  · obtain ⟨its, r, p, z⟩ := I.list h
    obtain ⟨o, n, e, c1, c2, c3⟩ := p
    exact go (.type "list") (looks_at e (by first | exact c1 | rfl)) (by unfold PySem.W.notFirst; rw [nl]; simp)
  · obtain ⟨its, r, p, z⟩ := I.tuple h
    obtain ⟨o, e, c1, c2⟩ := id p
    exact go (.type "tuple") (looks_at e (by first | exact c1 | rfl)) (by unfold PySem.W.notFirst; rw [nl]; simp)
end
end L2.OwnOp
namespace L2.LawH
open PySem PySem.Spec PyProof.Rows L2.TxtSet TL PySem.W L2.OwnOp
section
variable {P : Program} {w : World} {K : PySem.W.Frag} {mg : Str → Option Value} {base : Heap}
theorem call_isiK {X : Cx} {K : PySem.W.Frag} (e : X.K = K) : CallR X (.builtin "isinstance") (rIsi K) := by
  subst e
  exact call_isi
theorem or_isi {X : Cx} {K : PySem.W.Frag} {C : Addr} (e : X.K = K) (c : C8.InsC K C) : CallR X (.builtin "isinstance") (fun xs H Q => (∃ a dx fs, xs = [.ref a, .ref C] ∧ H a = some (.ins C dx fs) ∧ Q (.bl true) H) ∨ rIsi K xs H Q) := by
  subst e
  intro pins s σ H xs us Q I rv h
  rcases h with h | h
  · exact C8.call_isC c pins s σ H xs us Q I rv h
  · exact call_isi pins s σ H xs us Q I rv h
end
end L2.LawH
set_option Elab.async false
set_option linter.all false
set_option maxRecDepth 100000
set_option maxHeartbeats 4000000
/-! Key's and Rule's own ==. -/
namespace L2.LawH
open PySem PySem.Spec PyProof.Rows L2.TxtSet TL L2.NumSeq
abbrev sEqK : Stmt := inClass (top 16) 5
abbrev sEqR : Stmt := inClass (top 17) 4
/-- a value of which it is known that it is no instance of a class -/
def NotI (K : PySem.W.Frag) (H : Hp) (C : Addr) (y : V) : Prop := ∃ t, TyX K H y t ∧ PySem.W.kitOne K t (.ref C) = some false
def spEqK (C : Addr) (K : PySem.W.Frag) : Sp := fun vs H Q _ => ∃ (a : Addr) (T : Str) (n : Int) (ns : List Int), KeyAt C H a T n ns ∧
  ((∃ (b : Addr) (T' : Str) (n' : Int) (ns' : List Int), vs = [.ref a, .ref b] ∧ KeyAt C H b T' n' ns' ∧ Q (.bl (decide (T = T') && (decide (n = n') && decide (ns = ns')))) H) ∨
   ∃ y, vs = [.ref a, y] ∧ NotI K H C y ∧ Q (.bl false) H)
theorem eqv_ints : ∀ a b : List Int, PyData.eqvAll (a.map PyData.int) (b.map PyData.int) = decide (a = b)
  | [], [] => by simp [PyData.eqvAll]
  | [], _ :: _ => by simp [PyData.eqvAll]
  | _ :: _, [] => by simp [PyData.eqvAll]
  | x :: a, y :: b => by
    rw [List.map_cons, List.map_cons, PyData.eqvAll, eqv_ints a b]
    by_cases h : x = y
    · subst h
      simp [PyData.eqv]
    · simp [PyData.eqv, h]
theorem ints_shaped (ns : List Int) : SeqAt.shaped (.tuple (ns.map PyData.int)) = true := by
  obtain ⟨h1, h2⟩ := ints_lay ns
  show (PyData.canLay0 (.tuple _) && decide (PyData.depth (.tuple _) ≤ 64)) = true
  rw [Bool.and_eq_true]
  refine ⟨by simp [PyData.canLay0, h1], decide_eq_true ?_⟩
  simp only [PyData.depth]
  omega
section
variable {P : Program} {w : World} {K : PySem.W.Frag} {mg : Str → Option Value} {base : Heap}
theorem scEqK : FnScope ["self", "other"] ["self", "other"] (defScope sEqK) := ⟨rfl, rfl, rfl, by decide +kernel, rfl, by decide +kernel, by decide +kernel⟩
theorem ok_eqK {f C : Addr} {fd : FuncData} (F : Fun K "__eq__" "Key.__eq__" sEqK f fd) (T : ClsK K mg C) (c : C8.InsC K C) (mC : mg "Key" = some (.ref C)) (mi : mg "isinstance" = none) : FnOk P w K mg base CX0 1 f fd ["self", "other"] (spEqK C K) := by
  refine F.ok scEqK (fun vs H Q E h => ?_) (fun cdv A outer s H vs Q E hr h => ?_)
  · obtain ⟨a, _, _, _, _, ⟨b, _, _, _, rfl, _⟩ | ⟨y, rfl, _⟩⟩ := h
    · rfl
    · rfl
  · obtain ⟨a, T1, n1, ns1, ⟨dx, t, u, h1, h2⟩, h⟩ := h
    have hu := hr.units
    refine ⟨_, pss_one (ps_ret (pe_and (pe_callB (or_isi (K := K) rfl c) (by rfl) mi (by decide +kernel) (pa_cons (pv 1) (pa_cons (pe_glob (v := .ref C) (by rfl) mC rfl) pa_nil)))
      (pe_and (pe_cmpR op_eq (pe_fld (pv 0) rfl) (pe_fld (pv 1) rfl) (nomark _)) (pe_and (pe_cmpR op_eq (pe_fld (pv 0) rfl) (pe_fld (pv 1) rfl) (nomark _)) (pe_one (pe_cmpR (op_eqD hu) (pe_fld (pv 0) rfl) (pe_fld (pv 1) rfl) (nomark _))))))), ?_⟩
    rcases h with ⟨b, T2, n2, ns2, rfl, ⟨dy, t', u', g1, g2⟩, k⟩ | ⟨y, rfl, ⟨ty, hty, kit⟩, k⟩
    · refine ⟨_, rfl, .inl ⟨b, dy, _, rfl, g1, true, rfl, iteT ?_⟩⟩
      refine ⟨_, rfl, a, C, dx, _, .str T1, rfl, h1, T.cl, T.nT, rfl, _, rfl, b, C, dy, _, .str T2, rfl, g1, T.cl, T.nT, rfl, rfl, _, rfl, ?_⟩
      rw [show decide (V.str T1 = V.str T2) = decide (T1 = T2) from decide_eq_decide.mpr ⟨fun e => by injection e, fun e => by rw [e]⟩]
      refine ite2 (fun e1 => ?_) (fun e1 => ?_)
      · rw [e1, Bool.true_and] at k
        refine ⟨_, rfl, a, C, dx, _, .int n1, rfl, h1, T.cl, T.nS, rfl, _, rfl, b, C, dy, _, .int n2, rfl, g1, T.cl, T.nS, rfl, rfl, _, rfl, ?_⟩
        rw [show decide (V.int n1 = V.int n2) = decide (n1 = n2) from decide_eq_decide.mpr ⟨fun e => by injection e, fun e => by rw [e]⟩]
        refine ite2 (fun e2 => ?_) (fun e2 => ?_)
        · rw [e2, Bool.true_and] at k
          refine ⟨_, rfl, a, C, dx, _, .ref t, rfl, h1, T.cl, T.nP, rfl, _, rfl, b, C, dy, _, .ref t', rfl, g1, T.cl, T.nP, rfl, ?_⟩
          refine ⟨.tuple (ns1.map PyData.int), .tuple (ns2.map PyData.int), .tup (SqT.of h2) (dps_ints ns1), .tup (SqT.of g2) (dps_ints ns2), ints_shaped _, ints_shaped _, ?_⟩
          rw [PyData.eqv, eqv_ints]
          exact k
        · rw [Bool.eq_false_iff.mpr e2, Bool.false_and] at k
          exact k
      · rw [Bool.eq_false_iff.mpr e1, Bool.false_and] at k
        exact k
    · exact ⟨_, rfl, .inr ⟨y, .ref C, ty, .ref C, false, rfl, .own C, hty, kit, false, rfl, iteF k⟩⟩
end
end L2.LawH
set_option Elab.async false
set_option linter.all false
set_option maxRecDepth 100000
set_option maxHeartbeats 4000000
/-! Rule's own ==. -/
namespace L2.LawH
open PySem PySem.Spec PyProof.Rows L2.TxtSet TL L2.NumSeq
/-- a Rule as it stands -/
structure RulAt (C : Addr) (H : Hp) (a : Addr) (ps : List Pt) (pt : Pt) : Prop where
  ex : ∃ dx t : Addr, H a = some (.ins C dx (fsR (.ref t) (.ref pt.1))) ∧ H t = some (.tup (ps.map fun x => V.ref x.1))
  each : ∀ x ∈ ps ++ [pt], H x.1 = some (.tup (ptX x)) ∧ PatG x.2.1 x.2.2
theorem RulAt.same {C : Addr} {H H' : Hp} {a : Addr} {ps : List Pt} {pt : Pt} (h : RulAt C H a ps pt) (s : Same H H') : RulAt C H' a ps pt := by
  obtain ⟨⟨dx, t, h1, h2⟩, h3⟩ := h
  exact ⟨⟨dx, t, s _ _ h1, s _ _ h2⟩, fun x m => ⟨s _ _ (h3 x m).1, (h3 x m).2⟩⟩
def spEqR (C : Addr) (K : PySem.W.Frag) : Sp := fun vs H Q _ => ∃ (a : Addr) (ps : List Pt) (pt : Pt), RulAt C H a ps pt ∧
  ((∃ (b : Addr) (ps' : List Pt) (pt' : Pt), vs = [.ref a, .ref b] ∧ RulAt C H b ps' pt' ∧ Q (.bl (decide (ps.map (·.2) = ps'.map (·.2)) && decide (pt.2 = pt'.2))) H) ∨
   ∃ y, vs = [.ref a, y] ∧ NotI K H C y ∧ Q (.bl false) H)
theorem eqv_strs : ∀ a b : List Str, PyData.eqvAll (a.map PyData.str) (b.map PyData.str) = decide (a = b)
  | [], [] => by simp [PyData.eqvAll]
  | [], _ :: _ => by simp [PyData.eqvAll]
  | _ :: _, [] => by simp [PyData.eqvAll]
  | x :: a, y :: b => by
    rw [List.map_cons, List.map_cons, PyData.eqvAll, eqv_strs a b]
    by_cases h : x = y
    · subst h
      simp [PyData.eqv]
    · simp [PyData.eqv, h]
theorem eqv_patD (x y : Pt) : PyData.eqv (patD10 x) (patD10 y) = decide (x.2 = y.2) := by
  unfold patD10
  rw [PyData.eqv, eqv_strs]
  refine decide_eq_decide.mpr ⟨fun h => ?_, fun h => by rw [h]⟩
  injection h with h1 h2
  exact Prod.ext h1 h2
theorem eqv_pats : ∀ a b : List Pt, PyData.eqvAll (a.map patD10) (b.map patD10) = decide (a.map (·.2) = b.map (·.2))
  | [], [] => by simp [PyData.eqvAll]
  | [], _ :: _ => by simp [PyData.eqvAll]
  | _ :: _, [] => by simp [PyData.eqvAll]
  | x :: a, y :: b => by
    rw [List.map_cons, List.map_cons, PyData.eqvAll, eqv_pats a b, eqv_patD]
    by_cases h : x.2 = y.2
    · simp [h]
    · simp [h]
theorem lay_strs10 : ∀ zs : List Str, (∀ z ∈ zs, Asc z) → PyData.canLayAll0 (zs.map PyData.str) = true
  | [], _ => by simp [PyData.canLayAll0]
  | z :: zs, h => by
    rw [List.map_cons]
    simp [PyData.canLayAll0, PyData.canLay0, ok_list (LawR.asc_cod (h z List.mem_cons_self)), lay_strs10 zs fun y m => h y (List.mem_cons_of_mem _ m)]
theorem lay_pat {x : Pt} (g : PatG x.2.1 x.2.2) : (patD10 x).canLay0 = true := by
  unfold patD10
  rw [PyData.canLay0]
  exact lay_strs10 _ (LawR.patG_asc g)
theorem lay_pats : ∀ ps : List Pt, (∀ x ∈ ps, PatG x.2.1 x.2.2) → PyData.canLayAll0 (ps.map patD10) = true
  | [], _ => by simp [PyData.canLayAll0]
  | x :: ps, h => by
    rw [List.map_cons]
    simp [PyData.canLayAll0, lay_pat (h x List.mem_cons_self), lay_pats ps fun y m => h y (List.mem_cons_of_mem _ m)]
theorem pat_shaped {x : Pt} (g : PatG x.2.1 x.2.2) : SeqAt.shaped (patD10 x) = true := by
  show ((patD10 x).canLay0 && decide ((patD10 x).depth ≤ 64)) = true
  rw [Bool.and_eq_true]
  refine ⟨lay_pat g, decide_eq_true ?_⟩
  have := depth_strs10 (x.2.1 :: x.2.2)
  simp only [patD10, PyData.depth]
  omega
theorem pats_shaped {ps : List Pt} (h : ∀ x ∈ ps, PatG x.2.1 x.2.2) : SeqAt.shaped (.tuple (ps.map patD10)) = true := by
  show (PyData.canLay0 (.tuple _) && decide (PyData.depth (.tuple _) ≤ 64)) = true
  rw [Bool.and_eq_true]
  refine ⟨by rw [PyData.canLay0]; exact lay_pats ps h, decide_eq_true ?_⟩
  have := depth_pats ps
  simp only [PyData.depth]
  omega
section
variable {P : Program} {w : World} {K : PySem.W.Frag} {mg : Str → Option Value} {base : Heap}
theorem scEqR : FnScope ["self", "other"] ["self", "other"] (defScope sEqR) := ⟨rfl, rfl, rfl, by decide +kernel, rfl, by decide +kernel, by decide +kernel⟩
theorem ok_eqR {f C : Addr} {fd : FuncData} (F : Fun K "__eq__" "Rule.__eq__" sEqR f fd) (T : ClsR K mg C) (c : C8.InsC K C) (mC : mg "Rule" = some (.ref C)) (mi : mg "isinstance" = none) : FnOk P w K mg base CX0 1 f fd ["self", "other"] (spEqR C K) := by
  refine F.ok scEqR (fun vs H Q E h => ?_) (fun cdv A outer s H vs Q E hr h => ?_)
  · obtain ⟨a, _, _, _, ⟨b, _, _, rfl, _⟩ | ⟨y, rfl, _⟩⟩ := h
    · rfl
    · rfl
  · obtain ⟨a, ps1, pt1, ⟨⟨dx, t, h1, h2⟩, h3⟩, h⟩ := h
    have hu := hr.units
    refine ⟨_, pss_one (ps_ret (pe_and (pe_callB (or_isi (K := K) rfl c) (by rfl) mi (by decide +kernel) (pa_cons (pv 1) (pa_cons (pe_glob (v := .ref C) (by rfl) mC rfl) pa_nil)))
      (pe_and (pe_cmpR (op_eqD hu) (pe_fld (pv 0) rfl) (pe_fld (pv 1) rfl) (nomark _)) (pe_one (pe_cmpR (op_eqD hu) (pe_fld (pv 0) rfl) (pe_fld (pv 1) rfl) (nomark _)))))), ?_⟩
    rcases h with ⟨b, ps2, pt2, rfl, ⟨⟨dy, t', g1, g2⟩, g3⟩, k⟩ | ⟨y, rfl, ⟨ty, hty, kit⟩, k⟩
    · refine ⟨_, rfl, .inl ⟨b, dy, _, rfl, g1, true, rfl, iteT ?_⟩⟩
      refine ⟨_, rfl, a, C, dx, _, .ref t, rfl, h1, T.cl, T.nB, rfl, _, rfl, b, C, dy, _, .ref t', rfl, g1, T.cl, T.nB, rfl, ?_⟩
      refine ⟨.tuple (ps1.map patD10), .tuple (ps2.map patD10), .tup (SqT.of h2) (dps_pats ps1 fun x m => (h3 x (List.mem_append_left _ m)).1), .tup (SqT.of g2) (dps_pats ps2 fun x m => (g3 x (List.mem_append_left _ m)).1),
        pats_shaped fun x m => (h3 x (List.mem_append_left _ m)).2, pats_shaped fun x m => (g3 x (List.mem_append_left _ m)).2, _, rfl, ?_⟩
      rw [PyData.eqv, eqv_pats]
      refine ite2 (fun e1 => ?_) (fun e1 => ?_)
      · rw [e1, Bool.true_and] at k
        refine ⟨_, rfl, a, C, dx, _, .ref pt1.1, rfl, h1, T.cl, T.nH, rfl, _, rfl, b, C, dy, _, .ref pt2.1, rfl, g1, T.cl, T.nH, rfl, ?_⟩
        have p1 := h3 pt1 (List.mem_append_right _ List.mem_cons_self)
        have p2 := g3 pt2 (List.mem_append_right _ List.mem_cons_self)
        refine ⟨patD10 pt1, patD10 pt2, dp_pat p1.1, dp_pat p2.1, pat_shaped p1.2, pat_shaped p2.2, ?_⟩
        rw [eqv_patD]
        exact k
      · rw [Bool.eq_false_iff.mpr e1, Bool.false_and] at k
        exact k
    · exact ⟨_, rfl, .inr ⟨y, .ref C, ty, .ref C, false, rfl, .own C, hty, kit, false, rfl, iteF k⟩⟩
end
end L2.LawH
set_option Elab.async false
set_option linter.all false
set_option maxRecDepth 100000
set_option maxHeartbeats 4000000
/-! == of an own class with an instance of another one; != of two instances of one class, decided. -/
namespace L2.OwnOp
open PySem PySem.Spec PyProof.Rows
section
variable {X : Cx} {n : Nat} {f : Addr} {fd : FuncData} {ps : List Str} {sp : Sp}
def rEqOth (K : PySem.W.Frag) (C : Addr) (sp : Sp) : R2 := fun x y H Q => ∃ p dx fs q C2 dy gs, x = .ref p ∧ H p = some (.ins C dx fs) ∧ y = .ref q ∧ H q = some (.ins C2 dy gs) ∧ PySem.W.notFirst K C (.ref C2) = true ∧ sp [.ref p, .ref q] H (fun v H' => ∃ b, v = .bl b ∧ Q (.bl b) H') E0
theorem op_eqOth {C : Addr} (F : FnOk X.prog X.w X.K X.mg X.base CX0 n f fd ps sp) (hb : Binds X.K fd ps []) (m : OwnM X C f "__eq__") (hr : Room n X.A) (hx : Passes CX0 X E0) : OpR X (compareOp .Eq) (rEqOth X.K C sp) := by
  intro pins s σ H x y v u Q I rx ry hq
  obtain ⟨p, dx, fs, q, C2, dy, gs, rfl, hp, rfl, hq', nf, want⟩ := hq
  cases rx
  cases ry
  obtain ⟨_, J, _⟩ := ins_get I.hok hp
  obtain ⟨od, J, _⟩ := J.look
  obtain ⟨_, J2, _⟩ := ins_get I.hok hq'
  obtain ⟨od2, J2, _⟩ := J2.look
  obtain ⟨_, fr⟩ := I.fr
  show wpAny (model X.prog X.w) X.A (richCompare .Eq (.ref p) (.ref q)) (EP X pins σ Q) X.xe s
  refine PySem.W.cmp_K hr.units0 fr I.mod.kin J J2.type nf m.fi m.fn (wpAny_mono (run_own (vs := [.ref p, .ref q]) F hb hx ⟨hr, rfl⟩ I (.cons rfl (.cons rfl .nil)) want) (fun r s' z => ?_) fun _ _ z => z)
  obtain ⟨v', H', I', rv, b, rfl, q⟩ := I.after z
  cases rv
  exact ⟨.bl b, H', I', rfl, q⟩
def rNeOwn (C : Addr) (sp : Sp) : R2 := fun x y H Q => ∃ p dx fs q dy gs, x = .ref p ∧ H p = some (.ins C dx fs) ∧ y = .ref q ∧ H q = some (.ins C dy gs) ∧ sp [.ref p, .ref q] H (fun v H' => ∃ b, v = .bl b ∧ Q (.bl (!b)) H') E0
theorem op_neOwn {C : Addr} (F : FnOk X.prog X.w X.K X.mg X.base CX0 n f fd ps sp) (hb : Binds X.K fd ps []) (m : OwnM X C f "__eq__") (hm : PySem.W.mroIn X.K C (.type "object") = some true) (hn : PySem.W.findIn X.K (.ref C) "__ne__" = some (some (.builtin "object.__ne__")))
    (hr : Room (n + 1) X.A) (hx : Passes CX0 X E0) : OpR X (compareOp .NotEq) (rNeOwn C sp) := by
  intro pins s σ H x y v u Q I rx ry hq
  obtain ⟨p, dx, fs, q, dy, gs, rfl, hp, rfl, hq', want⟩ := hq
  cases rx
  cases ry
  obtain ⟨_, J, _⟩ := ins_get I.hok hp
  obtain ⟨od, J, _⟩ := J.look
  obtain ⟨_, J2, _⟩ := ins_get I.hok hq'
  obtain ⟨od2, J2, _⟩ := J2.look
  have sb : Sub X (n + 1) X.A := ⟨hr, rfl⟩
  show wpAny (model X.prog X.w) X.A (richCompare .NotEq (.ref p) (.ref q)) (EP X pins σ Q) X.xe s
  refine InsNe.rc_ne I.kIn J J2 hm hn m.fi m.fn (by have := sb.room.un; omega) ?_
  refine wpAny_mono (run_own (vs := [.ref p, .ref q]) F hb hx sb.in1 I (.cons rfl (.cons rfl .nil)) want) (fun r s' z => ?_) fun _ _ z => z
  obtain ⟨v', H', I', rv, b, rfl, q⟩ := I.after z
  cases rv
  exact ⟨b, rfl, .bl (!b), H', I', rfl, q⟩
end
end L2.OwnOp
set_option Elab.async false
set_option linter.all false
set_option maxRecDepth 100000
set_option maxHeartbeats 4000000
/-! Key(..), Rule(..) where nothing is raised. -/
namespace L2.LawH
open PySem PySem.Spec PyProof.Rows L2.TxtSet TL L2.NumSeq
theorem passX0 {X : Cx} {P : Program} {w : World} : Passes (L2.CX P w) X E0 := fun pins σ H s er s' I h => by
  obtain ⟨a, B, H', cls, d, e1, h1, h2, h3, h4, h5, h6, q⟩ := h
  exact (show False from q).elim
/-- Key(..) of what tells a key -/
theorem key_made {K : PySem.W.Frag} {C B : Addr} {H1 : Hp} {T : Str} {n : Int} {q : V} {ns : List Int} {Q : Addr → Hp → Prop} (nT : Nm T) (oT : Okv K H1 (.str T)) (n1 : 1 ≤ n) (n3 : n ≤ 3) (px : PlsAt K H1 q (some (ns.map V.int))) (ok : plB n (some (ns.map V.int)) = true)
    (k : ∀ (H' : Hp) (x : Addr) (ms : List Int), Same H1 H' → H1 x = none → KeyAt C H' x T n ms → ms.Perm ns → ms.Pairwise (· ≤ ·) → Q x H') (x dx : Addr) (nx : H1 x = none) (ndx : H1 dx = none) (ne : dx ≠ x) :
    spInitK C B K [.ref x, .str T, .int n, q] (upd (upd H1 dx (.own x)) x (.ins C dx [])) (fun v H2 => v = .non ∧ Q x H2) E0 := by
  have sU : Same H1 (upd (upd H1 dx (.own x)) x (.ins C dx [])) := fun b o h => by
    rw [upd_ne (ne_of_none h nx), upd_ne (ne_of_none h ndx)]
    exact h
  have kb : keyB (.str T) (.int n) (some (ns.map V.int)) = true := by
    show (vN (.str T) && (decide (1 ≤ n) && decide (n ≤ 3) && plB n (some (ns.map V.int)))) = true
    rw [ok, decide_eq_true n1, decide_eq_true n3, show vN (.str T) = true from nT]
    rfl
  refine ⟨x, dx, .str T, .int n, q, some (ns.map V.int), rfl, upd_same, L2.LawH.Okv.same sU oT, whl_int n, px.same sU, fun e => ?_, fun _ z i ns' ms H' e1 e2 e3 pm so ka keep => ⟨rfl, ?_⟩⟩
  · rw [kb] at e
    cases e
  · have e1 : T = z := by injection e1
    have e2 : n = i := by injection e2
    subst e1 e2
    have e3 : ns.map V.int = ns'.map V.int := Option.some.inj e3
    have e4 : ns = ns' := (List.map_inj_right (fun a b e => by injection e)).mp e3
    subst e4
    exact k H' x ms (fun b o h => keep b o (ne_of_none h nx) (sU _ _ h)) nx ka pm so
/-- Rule(..) of patterns, the head's variables in the body -/
theorem rule_made {K : PySem.W.Frag} {C B D : Addr} {H1 : Hp} {b : Addr} {ps : List Pt} {pt : Pt} {Q : Addr → Hp → Prop} (hb : H1 b = some (.lst (ps.map fun x => V.ref x.1)) ∨ H1 b = some (.tup (ps.map fun x => V.ref x.1))) (few : ps.length ≤ 8)
    (all : ∀ x ∈ ps ++ [pt], H1 x.1 = some (.tup (ptX x)) ∧ PatG x.2.1 x.2.2) (hin : headIn ps pt = true)
    (k : ∀ (H' : Hp) (x : Addr), Same H1 H' → H1 x = none → RulAt C H' x ps pt → Q x H') (x dx : Addr) (nx : H1 x = none) (ndx : H1 dx = none) (ne : dx ≠ x) :
    spInitR C B D K [.ref x, .ref b, .ref pt.1] (upd (upd H1 dx (.own x)) x (.ins C dx [])) (fun v H2 => v = .non ∧ Q x H2) E0 := by
  have sU : Same H1 (upd (upd H1 dx (.own x)) x (.ins C dx [])) := fun b o h => by
    rw [upd_ne (ne_of_none h nx), upd_ne (ne_of_none h ndx)]
    exact h
  have em : (ps.map fun x : Pt => ((V.ref x.1, some (ptX x)) : V × Option (List V))).map (·.1) = ps.map fun x => V.ref x.1 := by
    rw [List.map_map]
    rfl
  have asks : ∀ y ∈ ps ++ [pt], Ask K (upd (upd H1 dx (.own x)) x (.ins C dx [])) (V.ref y.1) (some (ptX y)) := fun y m => by
    obtain ⟨h1, g⟩ := all y m
    refine ⟨y.1, rfl, sU _ _ h1, ?_, fun z mz => ?_⟩
    · have := g.few
      unfold ptX
      rw [List.length_cons, List.length_map]
      omega
    · unfold ptX at mz
      rcases List.mem_cons.mp mz with rfl | mz
      · exact (LawR.itmR_str (Nat.le_trans g.strs.1 (by decide)) (LawR.patG_asc g _ List.mem_cons_self)).1
      · obtain ⟨u, mu, rfl⟩ := List.mem_map.mp mz
        exact (LawR.itmR_str (Nat.le_trans (g.strs.2 u mu) (by decide)) (LawR.patG_asc g u (List.mem_cons_of_mem _ mu))).1
  have pa : ∀ y ∈ ps ++ [pt], pAns (some (ptX y)) = true := fun y m => (all y m).2.pat
  have fn : firstOdd ((ps.map fun x : Pt => ((V.ref x.1, some (ptX x)) : V × Option (List V))) ++ [(V.ref pt.1, some (ptX pt))]) = none := by
    refine first_none _ (List.all_eq_true.mpr fun y m => ?_)
    rcases List.mem_append.mp m with m | m
    · obtain ⟨u, mu, rfl⟩ := List.mem_map.mp m
      exact pa u (List.mem_append_left _ mu)
    · rw [List.mem_singleton.mp m]
      exact pa pt (List.mem_append_right _ List.mem_cons_self)
  refine ⟨x, b, dx, ps.map fun x => (V.ref x.1, some (ptX x)), (V.ref pt.1, some (ptX pt)), rfl, upd_same, ?_, ?_, by rw [List.length_map]; exact few, fun y hy => ?_, fun _ ps' pt' ea eb all' => ?_⟩
  · rw [em]
    exact hb.imp (fun h => sU _ _ h) fun h => sU _ _ h
  · intro y m
    rcases List.mem_append.mp m with m | m
    · obtain ⟨u, mu, rfl⟩ := List.mem_map.mp m
      exact asks u (List.mem_append_left _ mu)
    · rw [List.mem_singleton.mp m]
      exact asks pt (List.mem_append_right _ List.mem_cons_self)
  · rw [fn] at hy
    cases hy
  · rw [em] at ea
    have e1 : ps = ps' := pts_inj ea (fun x m => sU _ _ (all x (List.mem_append_left _ m)).1) fun x m => (all' x (List.mem_append_left _ m)).1
    have e2 : [pt] = [pt'] := pts_inj (by rw [List.map_cons, List.map_cons, ← eb] <;> rfl) (fun x m => sU _ _ (all x (List.mem_append_right _ m)).1) fun x m => (all' x (List.mem_append_right _ m)).1
    have e2 : pt = pt' := by injection e2
    subst e1 e2
    refine ⟨fun e => ?_, fun _ H' t keep hp' ht => ⟨rfl, ?_⟩⟩
    · rw [hin] at e
      cases e
    · have s2 : Same H1 H' := fun b o h => keep b o (ne_of_none h nx) (sU _ _ h)
      exact k H' x s2 nx ⟨⟨dx, t, hp', by rw [ht, em]⟩, fun y m => ⟨s2 _ _ (all y m).1, (all y m).2⟩⟩
end L2.LawH
set_option Elab.async false
set_option linter.all false
set_option maxRecDepth 100000
set_option maxHeartbeats 4000000
/-! Keys and rules compared, as the law asks. -/
namespace L2.LawH
open PySem PySem.Spec PyProof.Rows L2.TxtSet TL L2.NumSeq L2.OwnOp
theorem eqK_read {K : PySem.W.Frag} {C : Addr} {H : Hp} {one two : Addr} {T T' : Str} {n n' : Int} {ps ps' : List Int} {Q : VK} (k1 : KeyAt C H one T n ps) (k2 : KeyAt C H two T' n' ps')
    (h : Q (.bl (decide (T = T') && (decide (n = n') && decide (ps = ps')))) H) : rEqOwn K C (spEqK C K) (.ref one) (.ref two) H Q := by
  obtain ⟨d1, t1, u1, a1, b1⟩ := id k1
  obtain ⟨d2, t2, u2, a2, b2⟩ := id k2
  exact ⟨one, _, _, rfl, a1, ⟨two, rfl, .inl ⟨_, _, a2⟩⟩, ⟨one, T, n, ps, k1, .inl ⟨two, T', n', ps', rfl, k2, _, rfl, h⟩⟩⟩
theorem neK_read {K : PySem.W.Frag} {C : Addr} {H : Hp} {one two : Addr} {T T' : Str} {n n' : Int} {ps ps' : List Int} {Q : VK} (k1 : KeyAt C H one T n ps) (k2 : KeyAt C H two T' n' ps')
    (h : Q (.bl (!(decide (T = T') && (decide (n = n') && decide (ps = ps'))))) H) : rNeOwn C (spEqK C K) (.ref one) (.ref two) H Q := by
  obtain ⟨d1, t1, u1, a1, b1⟩ := id k1
  obtain ⟨d2, t2, u2, a2, b2⟩ := id k2
  exact ⟨one, _, _, two, _, _, rfl, a1, rfl, a2, ⟨one, T, n, ps, k1, .inl ⟨two, T', n', ps', rfl, k2, _, rfl, h⟩⟩⟩
theorem eqK_tup {K : PySem.W.Frag} {C : Addr} {H : Hp} {one q : Addr} {xs : List V} {T : Str} {n : Int} {ps : List Int} {Q : VK} (k1 : KeyAt C H one T n ps) (c : H q = some (.tup xs)) (nt : PySem.W.subIn K (.type "tuple") (.ref C) = some false) (kt : PySem.W.kitOne K (.type "tuple") (.ref C) = some false)
    (h : Q (.bl false) H) : rEqOwn K C (spEqK C K) (.ref one) (.ref q) H Q := by
  obtain ⟨d1, t1, u1, a1, b1⟩ := id k1
  exact ⟨one, _, _, rfl, a1, ⟨q, rfl, .inr (.inr ⟨⟨_, SqT.of c⟩, nt⟩)⟩, ⟨one, T, n, ps, k1, .inr ⟨_, rfl, ⟨_, .base (.tup c), kt⟩, _, rfl, h⟩⟩⟩
theorem eqK_lst {K : PySem.W.Frag} {C : Addr} {H : Hp} {one q : Addr} {xs : List V} {T : Str} {n : Int} {ps : List Int} {Q : VK} (k1 : KeyAt C H one T n ps) (c : H q = some (.lst xs)) (nt : PySem.W.subIn K (.type "list") (.ref C) = some false) (kt : PySem.W.kitOne K (.type "list") (.ref C) = some false)
    (h : Q (.bl false) H) : rEqOwn K C (spEqK C K) (.ref one) (.ref q) H Q := by
  obtain ⟨d1, t1, u1, a1, b1⟩ := id k1
  exact ⟨one, _, _, rfl, a1, ⟨q, rfl, .inr (.inl ⟨⟨_, SqL.of c⟩, nt⟩)⟩, ⟨one, T, n, ps, k1, .inr ⟨_, rfl, ⟨_, .base (.lst c), kt⟩, _, rfl, h⟩⟩⟩
theorem eqR_read {K : PySem.W.Frag} {C : Addr} {H : Hp} {one two : Addr} {ps ps' : List Pt} {pt pt' : Pt} {Q : VK} (k1 : RulAt C H one ps pt) (k2 : RulAt C H two ps' pt')
    (h : Q (.bl (decide (ps.map (·.2) = ps'.map (·.2)) && decide (pt.2 = pt'.2))) H) : rEqOwn K C (spEqR C K) (.ref one) (.ref two) H Q := by
  obtain ⟨d1, t1, a1, b1⟩ := k1.ex
  obtain ⟨d2, t2, a2, b2⟩ := k2.ex
  exact ⟨one, _, _, rfl, a1, ⟨two, rfl, .inl ⟨_, _, a2⟩⟩, ⟨one, ps, pt, k1, .inl ⟨two, ps', pt', rfl, k2, _, rfl, h⟩⟩⟩
theorem neR_read {K : PySem.W.Frag} {C : Addr} {H : Hp} {one two : Addr} {ps ps' : List Pt} {pt pt' : Pt} {Q : VK} (k1 : RulAt C H one ps pt) (k2 : RulAt C H two ps' pt')
    (h : Q (.bl (!(decide (ps.map (·.2) = ps'.map (·.2)) && decide (pt.2 = pt'.2)))) H) : rNeOwn C (spEqR C K) (.ref one) (.ref two) H Q := by
  obtain ⟨d1, t1, a1, b1⟩ := k1.ex
  obtain ⟨d2, t2, a2, b2⟩ := k2.ex
  exact ⟨one, _, _, two, _, _, rfl, a1, rfl, a2, ⟨one, ps, pt, k1, .inl ⟨two, ps', pt', rfl, k2, _, rfl, h⟩⟩⟩
theorem eqR_key {K : PySem.W.Frag} {C CK : Addr} {H : Hp} {one q : Addr} {ps : List Pt} {pt : Pt} {T : Str} {n : Int} {ns : List Int} {Q : VK} (k1 : RulAt C H one ps pt) (k2 : KeyAt CK H q T n ns) (ic : C8.InsC K CK) (nf : PySem.W.notFirst K C (.ref CK) = true) (kt : PySem.W.kitOne K (.ref CK) (.ref C) = some false)
    (h : Q (.bl false) H) : rEqOth K C (spEqR C K) (.ref one) (.ref q) H Q := by
  obtain ⟨d1, t1, a1, b1⟩ := k1.ex
  obtain ⟨d2, t2, u2, a2, b2⟩ := id k2
  exact ⟨one, _, _, q, CK, _, _, rfl, a1, rfl, a2, nf, ⟨one, ps, pt, k1, .inr ⟨_, rfl, ⟨_, .base (TyOf.ins a2 ic.cl ic.ha ic.hn ic.htk ic.hm), kt⟩, _, rfl, h⟩⟩⟩
theorem eqK_rule {K : PySem.W.Frag} {C CR : Addr} {H : Hp} {one q : Addr} {ps : List Pt} {pt : Pt} {T : Str} {n : Int} {ns : List Int} {Q : VK} (k2 : KeyAt C H one T n ns) (k1 : RulAt CR H q ps pt) (ic : C8.InsC K CR) (nf : PySem.W.notFirst K C (.ref CR) = true) (kt : PySem.W.kitOne K (.ref CR) (.ref C) = some false)
    (h : Q (.bl false) H) : rEqOth K C (spEqK C K) (.ref one) (.ref q) H Q := by
  obtain ⟨d1, t1, a1, b1⟩ := k1.ex
  obtain ⟨d2, t2, u2, a2, b2⟩ := id k2
  exact ⟨one, _, _, q, CR, _, _, rfl, a2, rfl, a1, nf, ⟨one, T, n, ns, k2, .inr ⟨_, rfl, ⟨_, .base (TyOf.ins a1 ic.cl ic.ha ic.hn ic.htk ic.hm), kt⟩, _, rfl, h⟩⟩⟩
theorem KeyAt.keep {C a : Addr} {c : Int} {m : Nat} {H H' : Hp} {one : Addr} {T : Str} {n : Int} {ns : List Int} (h : KeyAt C H one T n ns) (s : SrcAt H a c m) (k : Keep a H H') : KeyAt C H' one T n ns := by
  obtain ⟨dx, t, u, h1, h2⟩ := h
  obtain ⟨d, nn, e, _⟩ := s
  refine ⟨dx, t, u, k _ _ h1 fun z => ?_, k _ _ h2 fun z => ?_⟩
  · rw [z, e] at h1
    cases h1
  · rw [z, e] at h2
    cases h2
/-- a text chosen -/
theorem tif_join {c : Prop} [Decidable c] {σ : St} {H : Hp} {Q : VK} {x y : Str} (h : Q (.str (if c then x else y)) H) : if c then tC (.str x) σ H Q else tC (.str y) σ H Q := by
  by_cases e : c
  · rw [if_pos e] at h ⊢
    exact h
  · rw [if_neg e] at h ⊢
    exact h
theorem lints_shaped (ns : List Int) : SeqAt.shaped (.list (ns.map PyData.int)) = true := by
  obtain ⟨h1, h2⟩ := ints_lay ns
  show (PyData.canLay0 (.list _) && decide (PyData.depth (.list _) ≤ 64)) = true
  rw [Bool.and_eq_true]
  refine ⟨by simp [PyData.canLay0, h1], decide_eq_true ?_⟩
  simp only [PyData.depth]
  omega
theorem lpats_shaped {ps : List Pt} (h : ∀ x ∈ ps, PatG x.2.1 x.2.2) : SeqAt.shaped (.list (ps.map patD10)) = true := by
  show (PyData.canLay0 (.list _) && decide (PyData.depth (.list _) ≤ 64)) = true
  rw [Bool.and_eq_true]
  refine ⟨by rw [PyData.canLay0]; exact lay_pats ps h, decide_eq_true ?_⟩
  have := depth_pats ps
  simp only [PyData.depth]
  omega
/-- a variable of patterns is one -/
theorem frees_vr {ps : List Pt} (h : ∀ x ∈ ps, PatG x.2.1 x.2.2) : ∀ z ∈ frees ps, Vr z := fun z m => by
  unfold frees at m
  obtain ⟨m, e⟩ := List.mem_filter.mp m
  obtain ⟨x, mx, mz⟩ := List.mem_flatMap.mp m
  rcases (h x mx).each z mz with hz | hz
  · have e2 : nmB z.cps.toList = true := hz
    rw [nmB_var e] at e2
    cases e2
  · exact hz
theorem ifF {b : Bool} {A B : Prop} (e : b = false) (h : B) : if b = true then A else B := by
  rw [e]
  exact iteF h
theorem ifT {b : Bool} {A B : Prop} (e : b = true) (h : A) : if b = true then A else B := by
  rw [e]
  exact iteT h
theorem plb_of {n : Int} {ns : List Int} (hb : ∀ x ∈ ns, 0 ≤ x ∧ x < n) (hn : ns.Nodup) : plB n (some (ns.map V.int)) = true := by
  show ((ns.map V.int).all (okI n) && decide (nums (ns.map V.int)).Nodup) = true
  rw [Bool.and_eq_true]
  have e : nums (ns.map V.int) = ns := by
    unfold nums
    rw [List.filterMap_map]
    exact List.filterMap_some
  refine ⟨List.all_eq_true.mpr fun v hv => ?_, by rw [e]; exact decide_eq_true hn⟩
  obtain ⟨i, hi, rfl⟩ := List.mem_map.mp hv
  have := hb i hi
  show (decide (0 ≤ i) && decide (i < n)) = true
  rw [decide_eq_true this.1, decide_eq_true this.2]
  rfl
theorem one23 {i : Nat} {z : V} (h : [V.int 1, V.int 2, V.int 3][i]? = some z) : ∃ o : Int, z = .int o ∧ 1 ≤ o ∧ o ≤ 3 := by
  match i, h with
  | 0, h => exact ⟨1, by simpa using h.symm, by decide, by decide⟩
  | 1, h => exact ⟨2, by simpa using h.symm, by decide, by decide⟩
  | 2, h => exact ⟨3, by simpa using h.symm, by decide, by decide⟩
  | k + 3, h => simp at h
def PtsAt (H : Hp) (ps : List Pt) : Prop := ∀ x ∈ ps, H x.1 = some (.tup (ptX x)) ∧ PatG x.2.1 x.2.2
theorem PtsAt.same {H H' : Hp} {ps : List Pt} (h : PtsAt H ps) (s : Same H H') : PtsAt H' ps := fun x m => ⟨s _ _ (h x m).1, (h x m).2⟩
theorem PtsAt.snoc {H : Hp} {ps : List Pt} {y : Pt} (h : PtsAt H ps) (h1 : H y.1 = some (.tup (ptX y))) (h2 : PatG y.2.1 y.2.2) : PtsAt H (ps ++ [y]) := fun x m => by
  rcases List.mem_append.mp m with m | m
  · exact h x m
  · rw [List.mem_singleton.mp m]
    exact ⟨h1, h2⟩
theorem PtsAt.rev {H : Hp} {ps : List Pt} (h : PtsAt H ps) : PtsAt H ps.reverse := fun x m => h x (List.mem_reverse.mp m)
theorem PtsAt.at {H : Hp} {ps : List Pt} (h : PtsAt H ps) : ∀ x ∈ ps, H x.1 = some (.tup (ptX x)) := fun x m => (h x m).1
theorem PtsAt.ok {H : Hp} {ps : List Pt} (h : PtsAt H ps) : ∀ x ∈ ps, PatG x.2.1 x.2.2 := fun x m => (h x m).2
theorem frees_mem {ps : List Pt} {z : Str} : z ∈ frees ps ↔ (∃ x ∈ ps, z ∈ x.2.2) ∧ isV z = true := by
  unfold frees
  rw [List.mem_filter, List.mem_flatMap]
theorem headIn_iff {ps : List Pt} {pt : Pt} : headIn ps pt = true ↔ ∀ z ∈ pt.2.2, isV z = true → ∃ x ∈ ps, z ∈ x.2.2 := by
  unfold headIn
  rw [List.all_eq_true]
  refine ⟨fun h z m e => ?_, fun h z m => ?_⟩
  · exact (frees_mem.mp (of_decide_eq_true (h z (frees_mem.mpr ⟨⟨pt, List.mem_cons_self, m⟩, e⟩)))).1
  · obtain ⟨⟨x, mx, mz⟩, e⟩ := frees_mem.mp m
    rw [List.mem_singleton.mp mx] at mz
    exact decide_eq_true (frees_mem.mpr ⟨h z mz e, e⟩)
theorem headIn_sub {ps qs : List Pt} {pt : Pt} (h : headIn ps pt = true) (s : ∀ x ∈ ps, x ∈ qs) : headIn qs pt = true := headIn_iff.mpr fun z m e => by
  obtain ⟨x, mx, mz⟩ := headIn_iff.mp h z m e
  exact ⟨x, s x mx, mz⟩
theorem headIn_nil {ps : List Pt} {t : Addr} {T : Str} : headIn ps (t, T, []) = true := headIn_iff.mpr fun z m _ => nomatch m
theorem nm_open {z : Str} (h : Nm z) : isV z = false := by
  cases e : isV z with
  | false => rfl
  | true =>
    have e2 : nmB z.cps.toList = true := h
    rw [nmB_var e] at e2
    cases e2
abbrev pP : Str := Str.ofString "p"
abbrev pX : Str := Str.ofString "?x"
theorem vr_x : Vr pX := ⟨Str.ofString "x", (by show nmB _ = true; decide +kernel), by decide +kernel⟩
theorem pat_px : PatG pP [pX] := ⟨(by show nmB _ = true; decide +kernel), by decide, fun z m => by
  rw [List.mem_singleton.mp m]
  exact .inr vr_x⟩
theorem pat_one {s : Str} (h : Nm s) : PatG s [] := ⟨h, by decide, fun z m => nomatch m⟩
theorem nm_zz : Nm (Str.ofString "zz") := by show nmB _ = true; decide +kernel
theorem nm_a10 : Nm (Str.ofString "a") := by show nmB _ = true; decide +kernel
theorem KeyAt.keepL {C L : Addr} {xs : List V} {H H' : Hp} {one : Addr} {T : Str} {n : Int} {ns : List Int} (h : KeyAt C H one T n ns) (e : H L = some (.lst xs)) (k : Keep L H H') : KeyAt C H' one T n ns := by
  obtain ⟨dx, t, u, h1, h2⟩ := h
  refine ⟨dx, t, u, k _ _ h1 fun z => ?_, k _ _ h2 fun z => ?_⟩
  · rw [z, e] at h1
    cases h1
  · rw [z, e] at h2
    cases h2
theorem PtsAt.keepL {L : Addr} {xs : List V} {H H' : Hp} {ps : List Pt} (h : PtsAt H ps) (e : H L = some (.lst xs)) (k : Keep L H H') : PtsAt H' ps := fun x m => by
  obtain ⟨h1, h2⟩ := h x m
  refine ⟨k _ _ h1 fun z => ?_, h2⟩
  rw [z, e] at h1
  cases h1
theorem RulAt.keepL {C L : Addr} {xs : List V} {H H' : Hp} {one : Addr} {ps : List Pt} {pt : Pt} (h : RulAt C H one ps pt) (e : H L = some (.lst xs)) (k : Keep L H H') : RulAt C H' one ps pt := by
  obtain ⟨⟨dx, t, h1, h2⟩, h3⟩ := h
  refine ⟨⟨dx, t, k _ _ h1 fun z => ?_, k _ _ h2 fun z => ?_⟩, PtsAt.keepL h3 e k⟩
  · rw [z, e] at h1
    cases h1
  · rw [z, e] at h2
    cases h2
theorem keep_upd {L : Addr} {H : Hp} {o : HO} : Keep L H (upd H L o) := fun b u e nb => by
  rw [upd_ne nb]
  exact e
end L2.LawH
set_option Elab.async false
set_option linter.all false
set_option maxRecDepth 100000
set_option maxHeartbeats 4000000
/-! _law_alike. -/
namespace L2.LawH
open PySem PySem.Spec PyProof.Rows L2.TxtSet TL L2.NumSeq L2.OwnOp L2.LstNo
abbrev sAlike : Stmt := top 41
abbrev nAlike : List Str := ["_law_source_here", "_law_pool_here", "_law_size", "_law_places", "_law_table", "_law_passed", "_law_one", "_law_near", "_law_other", "_law_body", "_law_head", "_law_rule", "_law_place"]
theorem scAlike : FnScope nAlike ["_law_source_here", "_law_pool_here"] (defScope sAlike) := ⟨rfl, rfl, rfl, by decide +kernel, rfl, by decide +kernel, by decide +kernel⟩
/-- own == and != of a class, as they stand -/
structure EqF (P : Program) (w : World) (K : PySem.W.Frag) (mg : Str → Option Value) (base : Heap) (C : Addr) (sp : Sp) : Prop where
  ex : ∃ f fd, FnOk P w K mg base CX0 1 f fd ["self", "other"] sp ∧ Binds K fd ["self", "other"] [] ∧ PySem.W.findIn K (.ref C) "__eq__" = some (some (.ref f)) ∧ PySem.W.isFn K (.ref f) = true
  mr : PySem.W.mroIn K C (.type "object") = some true
  ne : PySem.W.findIn K (.ref C) "__ne__" = some (some (.builtin "object.__ne__"))
  nl : PySem.W.subIn K (.type "list") (.ref C) = some false
  nt : PySem.W.subIn K (.type "tuple") (.ref C) = some false
def spAlike : Sp := fun vs H Q _ => ∃ (a p : Addr) (c : Int) (m : Nat) (π : Pool), vs = [.ref a, .ref p] ∧ SrcAt H a c (m + 200) ∧ PoolAt a H p π ∧
  ∀ H', SrcAt H' a c m → Keep a H H' → Q (.bl true) H'
abbrev gApp : List Value → List Value → List Value := fun us ws => us ++ ws
abbrev vApp : List V → List V → List V := fun vs zs => vs ++ zs
section
variable {P : Program} {w : World} {K : PySem.W.Frag} {mg : Str → Option Value} {base : Heap}
theorem ok_alike {f fD fI CK BK : Addr} {fd fdD fdI : FuncData} (F : Fun K "_law_alike" "_law_alike" sAlike f fd)
    (GD : FnOk P w K mg base CX0 1 fD fdD ["_law_source_here", "_law_limit"] spDraw) (kD : PySem.W.keepIn K (.ref fD) = true) (bD : Binds K fdD ["_law_source_here", "_law_limit"] []) (mD : mg "_law_draw" = some (.ref fD))
    (T : ClsK K mg CK) (mC : mg "Key" = some (.ref CK)) (M : Mk K CK fI) (GI : FnOk P w K mg base (L2.CX P w) 3 fI fdI ["self", "table", "size", "places"] (spInitK CK BK K)) (bI : Binds K fdI ["self", "table", "size", "places"] [])
    (kI : KBn K fdI ["self", "table", "size", "places"] 1 ["table", "size", "places"] gApp vApp) (EK : EqF P w K mg base CK (spEqK CK K))
    (pla : ∃ p g fd, PropOf K CK "places" p g ∧ FnOk P w K mg base CX0 1 g fd ["self"] (getSp CK "_places") ∧ Binds K fd ["self"] [])
    {fL fP fV fR CR BR DR : Addr} {fdL fdP fdV fdR : FuncData}
    (GL : FnOk P w K mg base CX0 4 fL fdL pLot spLot) (kL : PySem.W.keepIn K (.ref fL) = true) (bL : Binds K fdL pLot []) (mLo : mg "_law_lot" = some (.ref fL))
    (GP : FnOk P w K mg base CX0 3 fP fdP nTerm spPat) (kP : PySem.W.keepIn K (.ref fP) = true) (bP : Binds K fdP nTerm []) (mP : mg "_law_pattern" = some (.ref fP))
    (GV : FnOk P w K mg base CX0 2 fV fdV ["_law_lot_here"] spLVars) (kV : PySem.W.keepIn K (.ref fV) = true) (bV : Binds K fdV ["_law_lot_here"] []) (mV : mg "_law_variables" = some (.ref fV))
    (TR : ClsR K mg CR) (mR : mg "Rule" = some (.ref CR)) (MR : Mk K CR fR) (GR : FnOk P w K mg base (L2.CX P w) 4 fR fdR ["self", "body", "head"] (spInitR CR BR DR K)) (bR : Binds K fdR ["self", "body", "head"] [])
    (kR : KBn K fdR ["self", "body", "head"] 1 ["body", "head"] gApp vApp) (ER : EqF P w K mg base CR (spEqR CR K))
    (bod : ∃ p g fd, PropOf K CR "body" p g ∧ FnOk P w K mg base CX0 1 g fd ["self"] (getSp CR "_body") ∧ Binds K fd ["self"] [])
    (hea : ∃ p g fd, PropOf K CR "head" p g ∧ FnOk P w K mg base CX0 1 g fd ["self"] (getSp CR "_head") ∧ Binds K fd ["self"] [])
    (nKR : PySem.W.notFirst K CK (.ref CR) = true) (nRK : PySem.W.notFirst K CR (.ref CK) = true) (ICK : C8.InsC K CK) (ICR : C8.InsC K CR)
    (qlK : PySem.W.kitOne K (.type "list") (.ref CK) = some false) (qtK : PySem.W.kitOne K (.type "tuple") (.ref CK) = some false) (qRK : PySem.W.kitOne K (.ref CR) (.ref CK) = some false) (qKR : PySem.W.kitOne K (.ref CK) (.ref CR) = some false)
    (mr : mg "range" = none) (mL : mg "list" = none) (mt : mg "tuple" = none) : FnOk P w K mg base CX0 8 f fd ["_law_source_here", "_law_pool_here"] spAlike := by
  obtain ⟨⟨fE, fdE, GE, bE, iE, nE⟩, hmr, hne, hnl, hnt⟩ := EK
  obtain ⟨p3, g3, fd3, P3, G3, b3⟩ := pla
  obtain ⟨⟨fER, fdER, GER, bER, iER, nER⟩, hmrR, hneR, hnlR, hntR⟩ := ER
  obtain ⟨pB, gB, fdB, PB, GB, bB⟩ := bod
  obtain ⟨pH, gH, fdH, PH, GH, bH⟩ := hea
  refine F.ok scAlike (fun vs H Q E h => ?_) (fun cdv A outer s H vs Q E hr h => ?_)
  · obtain ⟨a, p, c, m, π, rfl, _⟩ := h
    rfl
  · obtain ⟨a, p, c, m, π, rfl, hs, hp, k⟩ := h
    have hu := hr.units
    have hr1 : Room 1 _ := hr.mono (by decide)
    have hr2 : Room 2 _ := hr.mono (by decide)
    have hr4 : Room 4 _ := hr.mono (by decide)
    have hr3 : Room 3 _ := hr.mono (by decide)
    have hr5 : Room 5 _ := hr.mono (by decide)
    refine ⟨_, pss_cons (ps_set (i := 2) scAlike.nd rfl (Or.inr rfl) (pe_op op_add pe_int (pe_call GD hr1 (by rfl) mD kD bD .nil pass0 (pa_cons (pv 0) (pa_cons pe_int pa_nil)))))
      (pss_cons (ps_set (i := 3) scAlike.nd rfl (Or.inr rfl) (pe_lc (own := [("_law_place", 12)]) (g := gName 12) (tt := tB (tOp rEq (tCall spDraw [] E0 (tCons (tVar 0) (tCons (tC (.int 2)) tNil))) (tC (.int 0)))) rfl scAlike.nd
          (pi_range1 rfl mr (pa_cons (pv 2) pa_nil)) (blkOk_by (own := [("_law_place", 12)]) (N := nAlike) (sc := defScope sAlike) (by decide +kernel)) (fun _ _ _ _ _ => pg_name (i := 12) scAlike.nd rfl (Or.inl rfl))
          (fun _ _ _ _ _ => pts_one (pt_cmpR op_eq (pe_call GD hr1 (by rfl) mD kD bD .nil pass0 (pa_cons (pv 0) (pa_cons pe_int pa_nil))) pe_int (nomark _))) (fun _ _ _ _ _ => pv 12)))
      (pss_cons (ps_set (i := 4) scAlike.nd rfl (Or.inl rfl) (pe_ix ix_tup (pe_ix ix_list (pe_ix ix_list (pv 1) pe_int (fun _ _ => rfl)) pe_int (fun _ _ => rfl)) pe_int (fun _ _ => rfl)))
      (pss_cons (ps_set (i := 5) scAlike.nd rfl (Or.inl rfl) (pe_callTy call_list_of (by rfl) mL (by decide +kernel) (pa_cons (pv 3) pa_nil)))
      (pss_cons (ps_set (i := 6) scAlike.nd rfl (Or.inl rfl) (pe_makeK0 M GI hr4 (by rfl) mC kI passX0 (pk_cons (pv 4) (pk_cons (pv 2) (pk_cons (pv 5) pk_nil)))))
      (pss_cons (ps_expr (pe_bm PySem.F.plainAttrs_list PySem.F.slot_list_append PySem.F.type_list_append mt_append (pv 5) (pa_cons pe_int pa_nil)))
      (pss_cons (ps_if (PW.pt (pw_or (pt_cmpR (op_neOwn (C := CK) GE bE ⟨iE, nE⟩ hmr hne hr2 pass0) (pv 6) (pe_make M GI hr4 (by rfl) mC bI .nil passX0 (pa_cons (pv 4) (pa_cons (pv 2) (pa_cons (pe_callTy call_tuple_of (by rfl) mt (by decide +kernel) (pa_cons (pe_revL (pv 3)) pa_nil)) pa_nil)))) (by rfl))
          (pw_or1 (pt_cmpR (op_eqOwn (C := CK) GE bE ⟨iE, nE⟩ hr1 pass0) (pv 6) (pe_make M GI hr4 (by rfl) mC bI .nil passX0 (pa_cons (pe_ifExp (pt_cmpR op_ne (pv 4) pe_str (nomark _)) pe_str pe_str) (pa_cons (pv 2) (pa_cons (pv 3) pa_nil)))) (by rfl))))) (pss_one (ps_ret pe_bl)) pss_nil)
      (pss_cons (ps_if (PW.pt (pw_or (pt_cmpR (op_eqOwn (C := CK) GE bE ⟨iE, nE⟩ hr1 pass0) (pv 6) (pe_tup (pa_cons (pv 4) (pa_cons (pv 2) (pa_cons (pe_prop (pv 6) T.cl P3 G3 hr2 b3 .nil pass0 rfl) pa_nil)))) (by rfl))
          (pw_or1 (pt_cmpR (op_eqOwn (C := CK) GE bE ⟨iE, nE⟩ hr1 pass0) (pv 6) (pe_lst (pa_cons (pv 4) (pa_cons (pv 2) (pa_cons (pv 3) pa_nil)))) (by rfl))))) (pss_one (ps_ret pe_bl)) pss_nil)
      (pss_cons (ps_setLc (i := 7) (own := [("_law_place", 12)]) (g := gName 12) (tt := tB (tOp rNe (tOp (rIn K false) (tVar 12) (tVar 3)) (tOp rEq (tVar 12) (tCall spDraw [] E0 (tCons (tVar 0) (tCons (tVar 2) tNil)))))) rfl scAlike.nd rfl rfl (sw_true rfl rfl rfl (by decide +kernel))
          (pi_range1 rfl mr (pa_cons (pv 2) pa_nil)) (blkOk_by (own := [("_law_place", 12)]) (N := nAlike) (sc := defScope sAlike) (by decide +kernel)) (fun _ _ _ _ _ => pg_name (i := 12) scAlike.nd rfl (Or.inl rfl))
          (fun _ _ _ _ _ => pts_one (pt_cmpR op_ne (pe_cmpR (op_inRK (K := K) rfl) (pv 12) (pv 3) (by rfl)) (pe_cmpR op_eq (pv 12) (pe_call GD hr1 (by rfl) mD kD bD .nil pass0 (pa_cons (pv 0) (pa_cons (pv 2) pa_nil))) (nomark _)) (nomark _))) (fun _ _ _ _ _ => pv 12))
      (pss_cons (ps_if (PW.pt (pw_or (pt_cmpR op_ne (pe_cmpR (op_eqOwn (C := CK) GE bE ⟨iE, nE⟩ hr1 pass0) (pv 6) (pe_make M GI hr4 (by rfl) mC bI .nil passX0 (pa_cons (pv 4) (pa_cons (pv 2) (pa_cons (pv 7) pa_nil)))) (by rfl)) (pe_cmpR (op_eqD hu) (pv 7) (pv 3) (by rfl)) (nomark _))
          (pw_or1 (pt_cmpR (op_neD hu) (pe_prop (pv 6) T.cl P3 G3 hr2 b3 .nil pass0 rfl) (pe_callTy call_tuple_of (by rfl) mt (by decide +kernel) (pa_cons (pv 3) pa_nil)) (by rfl))))) (pss_one (ps_ret pe_bl)) pss_nil)
      (pss_cons (ps_for PassesOwn.never rfl (pi_list (pe_lst (pa_cons pe_int (pa_cons pe_int (pa_cons pe_int pa_nil))))) (pg_name (i := 8) scAlike.nd rfl (Or.inr rfl))
          (pss_one (ps_if (PW.pt (pw_and (pt_cmpR op_ne (pv 8) (pv 2) (nomark _)) (pw_and1 (pt_cmpR (op_eqOwn (C := CK) GE bE ⟨iE, nE⟩ hr1 pass0) (pv 6) (pe_make M GI hr4 (by rfl) mC bI .nil passX0 (pa_cons (pv 4) (pa_cons (pv 8) (pa_cons (pe_lc (own := [("_law_place", 12)]) (g := gName 12) (tt := tB (tOp (rI0 fun i j => V.bl (decide (i < j))) (tVar 12) (tVar 8))) rfl scAlike.nd (pi_list (pv 3)) (blkOk_by (own := [("_law_place", 12)]) (N := nAlike) (sc := defScope sAlike) (by decide +kernel)) (fun _ _ _ _ _ => pg_name (i := 12) scAlike.nd rfl (Or.inl rfl)) (fun _ _ _ _ _ => pts_one (pt_cmpR op_lt (pv 12) (pv 8) (nomark _))) (fun _ _ _ _ _ => pv 12)) pa_nil)))) (by rfl))))) (pss_one (ps_ret pe_bl)) pss_nil)))
      (pss_cons (ps_set (i := 9) scAlike.nd rfl (Or.inl rfl) (pe_op op_cat (pe_call GL hr4 (by rfl) mLo kL bL .nil pass0 (pa_cons (pv 0) (pa_cons (pv 1) (pa_cons (pe_slice sl_list (pe_ix ix_list (pv 1) pe_int (fun _ _ => rfl)) po_none (po_some pe_int)) (pa_cons pe_int pa_nil))))) (pe_lst (pa_cons (pe_tup (pa_cons pe_str (pa_cons pe_str pa_nil))) pa_nil))))
      (pss_cons (ps_set (i := 10) scAlike.nd rfl (Or.inl rfl) (pe_call GP hr3 (by rfl) mP kP bP .nil pass0 (pa_cons (pv 0) (pa_cons (pv 1) (pa_cons (pe_call GV hr2 (by rfl) mV kV bV .nil pass0 (pa_cons (pv 9) pa_nil)) (pa_cons pe_int pa_nil))))))
      (pss_cons (ps_set (i := 5) scAlike.nd rfl (Or.inl rfl) (pe_callTy call_list_of (by rfl) mL (by decide +kernel) (pa_cons (pv 9) pa_nil)))
      (pss_cons (ps_set (i := 11) scAlike.nd rfl (Or.inl rfl) (pe_makeK0 MR GR hr5 (by rfl) mR kR passX0 (pk_cons (pv 5) (pk_cons (pv 10) pk_nil))))
      (pss_cons (ps_expr (pe_bm0 PySem.F.plainAttrs_list PySem.F.slot_list_clear PySem.F.type_list_clear mt_clear (pv 5)))
      (pss_cons (ps_if (PW.pt (pw_or (pt_cmpR (op_neOwn (C := CR) GER bER ⟨iER, nER⟩ hmrR hneR hr2 pass0) (pv 11) (pe_make MR GR hr5 (by rfl) mR bR .nil passX0 (pa_cons (pe_callTy call_tuple_of (by rfl) mt (by decide +kernel) (pa_cons (pv 9) pa_nil)) (pa_cons (pv 10) pa_nil))) (by rfl))
          (pw_or (pt_cmpR (op_eqOth (C := CR) GER bER ⟨iER, nER⟩ hr1 pass0) (pv 11) (pv 6) (by rfl)) (pw_or1 (pt_cmpR (op_eqOth (C := CK) GE bE ⟨iE, nE⟩ hr1 pass0) (pv 6) (pv 11) (by rfl)))))) (pss_one (ps_ret pe_bl)) pss_nil)
      (pss_cons (ps_if (PW.pt (pw_or (pt_cmpR (op_neD hu) (pe_prop (pv 11) TR.cl PB GB hr2 bB .nil pass0 rfl) (pe_callTy call_tuple_of (by rfl) mt (by decide +kernel) (pa_cons (pv 9) pa_nil)) (by rfl))
          (pw_or1 (pt_cmpR (op_neD hu) (pe_prop (pv 11) TR.cl PH GH hr2 bH .nil pass0 rfl) (pv 10) (by rfl))))) (pss_one (ps_ret pe_bl)) pss_nil)
      (pss_cons (ps_if (pt_cmpR op_ne (pe_cmpR (op_eqOwn (C := CR) GER bER ⟨iER, nER⟩ hr1 pass0) (pv 11) (pe_make MR GR hr5 (by rfl) mR bR .nil passX0 (pa_cons (pe_revL (pv 9)) (pa_cons (pv 10) pa_nil))) (by rfl)) (pe_cmpR (op_eqD hu) (pv 9) (pe_revL (pv 9)) (by rfl)) (nomark _)) (pss_one (ps_ret pe_bl)) pss_nil)
      (pss_cons (ps_if (PW.pt (pw_or (pt_cmpR op_ne (pe_cmpR (op_eqOwn (C := CR) GER bER ⟨iER, nER⟩ hr1 pass0) (pv 11) (pe_make MR GR hr5 (by rfl) mR bR .nil passX0 (pa_cons (pv 9) (pa_cons (pe_tup (pa_cons pe_str pa_nil)) pa_nil))) (by rfl)) (pe_cmpR (op_eqD hu) (pv 10) (pe_tup (pa_cons pe_str pa_nil)) (by rfl)) (nomark _))
          (pw_or1 (pt_cmpR op_ne (pe_cmpR (op_eqOwn (C := CR) GER bER ⟨iER, nER⟩ hr1 pass0) (pv 11) (pe_make MR GR hr5 (by rfl) mR bR .nil passX0 (pa_cons (pv 9) (pa_cons (pe_tup (pa_cons pe_str (pa_cons pe_str pa_nil))) pa_nil))) (by rfl)) (pe_cmpR (op_eqD hu) (pv 10) (pe_tup (pa_cons pe_str (pa_cons pe_str pa_nil))) (by rfl)) (nomark _))))) (pss_one (ps_ret pe_bl)) pss_nil)
      (pss_one (ps_ret (pe_and (pe_cmpR (op_neOwn (C := CR) GER bER ⟨iER, nER⟩ hmrR hneR hr2 pass0) (pv 11) (pe_make MR GR hr5 (by rfl) mR bR .nil passX0 (pa_cons (pe_op op_cat (pv 9) (pe_lst (pa_cons (pe_tup (pa_cons pe_str (pa_cons pe_str pa_nil))) pa_nil))) (pa_cons (pv 10) pa_nil))) (by rfl))
          (pe_one (pe_cmpR (op_eqD hu) (pe_prop (pe_make MR GR hr5 (by rfl) mR bR .nil passX0 (pa_cons (pe_lst pa_nil) (pa_cons (pe_tup (pa_cons pe_str pa_nil)) pa_nil))) TR.cl PB GB hr2 bB .nil pass0 rfl) (pe_tup pa_nil) (by rfl))))))))))))))))))))))))), ?_⟩
    have hu0 := hu
    refine ⟨_, rfl, a, c, m + 190, 3, rfl, hs.mono (by omega), by decide, by decide, fun r1 H1 r10 r11 s1 k1 => ⟨1, r1, rfl, rfl, ?_⟩⟩
    obtain ⟨n, en⟩ : ∃ n : Int, n = 1 + r1 := ⟨_, rfl⟩
    change gName 2 (V.int (1 + r1)) _ H1 _
    rw [← en]
    have n1 : 1 ≤ n := by omega
    have n3 : n ≤ 3 := by omega
    have hp1 := hp.keep k1
    refine ⟨_, rfl, _, rfl, by omega, by omega, fun D nD => ?_⟩
    have zD := s1.ne nD
    refine lc_range (lo := 0) (n := n.toNat) (fun t H5 => ∃ ps : List Int, H5 D = some (.lst (ps.map V.int)) ∧ ps.length ≤ t ∧ (∀ x ∈ ps, 0 ≤ x ∧ x < t) ∧ ps.Pairwise (· < ·) ∧ SrcAt H5 a c (m + 190 - t) ∧ Keep a H1 H5)
      ⟨[], upd_same, Nat.le_refl _, (fun x h => nomatch h), List.Pairwise.nil, s1.same (same_new nD), Keep.of (same_new nD)⟩ ?_ ?_
    · rintro t H5 ht ⟨ps, hD, lp, bd, srt, s5, k5⟩
      refine ⟨rfl, _, rfl, a, c, m + 190 - (t + 1), 2, rfl, s5.mono (by omega), by decide, by decide, fun r2 H6 r20 r21 s6 k6 => ⟨rfl, _, rfl, ?_⟩⟩
      have hD6 := k6 _ _ hD zD
      refine ite2 (fun _ => ?_) (fun _ => ?_)
      · refine ⟨_, rfl, _, hD6, by rw [List.length_map, sizeLine_eq]; omega, ps ++ [0 + (t : Int)], by rw [upd_same, List.map_append]; rfl, by rw [List.length_append]; show ps.length + 1 ≤ t + 1; omega, fun x h => ?_, ?_, ?_, ?_⟩
        · rcases List.mem_append.mp h with h | h
          · have := bd x h
            omega
          · rw [List.mem_singleton.mp h]
            omega
        · refine List.pairwise_append.mpr ⟨srt, List.pairwise_singleton _ _, fun x hx y hy => ?_⟩
          rw [List.mem_singleton.mp hy]
          have := bd x hx
          omega
        · obtain ⟨d, nn, e, g⟩ := s6
          exact ⟨d, nn, by rw [upd_ne zD.symm]; exact e, g⟩
        · intro b o e nb
          rw [upd_ne (ne_of_none e nD)]
          exact k6 _ _ (k5 _ _ e nb) nb
      · exact ⟨ps, hD6, by omega, fun x h => (by have := bd x h; omega), srt, s6, k5.trans k6⟩
    · rintro H5 ⟨ps, hD, lp, bd, srt, s5, k5⟩
      have hp5 := hp1.keep k5
      obtain ⟨x0, r0, er⟩ : ∃ x0 r0, π.rows = x0 :: r0 := by
        cases e : π.rows with
        | nil =>
          have := hp.rows1
          rw [e] at this
          exact absurd this (by decide)
        | cons x r => exact ⟨x, r, rfl⟩
      obtain ⟨ht0, nT, _, _⟩ := hp5.hrow x0 (by rw [er]; exact List.mem_cons_self)
      have lp3 : ps.length ≤ 3 := by omega
      have bd3 : ∀ x ∈ ps, 0 ≤ x ∧ x < n := fun x hx => by have := bd x hx; omega
      refine ⟨_, rfl, p, _, 0, _, rfl, rfl, SqL.of hp5.hp, rfl, π.r, _, 0, _, rfl, rfl, SqL.of hp5.hr, by rw [er]; exact atI_nat (j := 0) rfl, x0.1, _, 0, _, rfl, rfl, SqT.of ht0, rfl, ?_⟩
      have nd : ps.Nodup := srt.imp fun h e => by omega
      have plb : plB n (some (ps.map V.int)) = true := by
        show ((ps.map V.int).all (okI n) && decide (nums (ps.map V.int)).Nodup) = true
        rw [Bool.and_eq_true]
        have e : nums (ps.map V.int) = ps := by
          unfold nums
          rw [List.filterMap_map]
          exact List.filterMap_some
        refine ⟨List.all_eq_true.mpr fun v hv => ?_, by rw [e]; exact decide_eq_true nd⟩
        obtain ⟨i, hi, rfl⟩ := List.mem_map.mp hv
        have := bd3 i hi
        show (decide (0 ≤ i) && decide (i < n)) = true
        rw [decide_eq_true this.1, decide_eq_true this.2]
        rfl
      have okT : ∀ G : Hp, Okv K G (.str x0.2.1) := fun G => .inl ⟨_, rfl, Nat.le_trans (nm_bds10 nT).2 (by decide)⟩
      -- passed
      refine ⟨_, rfl, D, _, rfl, .inl (SqL.of hD), fun L nL => ?_⟩
      have s6 : Same H5 (upd H5 L (.lst (ps.map V.int))) := same_new nL
      have c6 : (upd H5 L (.lst (ps.map V.int))) L = some (.lst (ps.map V.int)) := upd_same
      have zL := s5.ne nL
      generalize upd H5 L (.lst (ps.map V.int)) = H6 at s6 c6 ⊢
      refine ⟨_, rfl, _, rfl, _, rfl, rfl, rfl, ?_⟩
      refine key_made nT (okT _) n1 n3 ⟨⟨L, rfl, .inl ⟨SqL.of c6, .base (.lst c6)⟩⟩, by rw [List.length_map]; omega, fun y hy => (w_ints ps y hy).1⟩ plb fun H7 one ms s7 nOne kOne pm so => ?_
      obtain rfl : ps = ms := (sorted_one pm so (srt.imp fun h => Int.le_of_lt h)).symm
      have k17 : Keep a H1 H7 := (k5.trans (Keep.of s6)).trans (Keep.of s7)
      have c7 := s7 _ _ c6
      refine ⟨_, rfl, .inl ⟨rfl, _, SqL.of c7⟩, ?_⟩
      refine ⟨L, _, _, rfl, rfl, c7, by rw [List.length_map, sizeLine_eq]; omega, ?_⟩
      have hD7 := (s6.trans s7) _ _ hD
      obtain ⟨dxo, to, uo, ko, kt⟩ := kOne
      have n1L : one ≠ L := fun e => by
        rw [e, c7] at ko
        cases ko
      have n2L : to ≠ L := fun e => by
        rw [e, c7] at kt
        cases kt
      have n3L : D ≠ L := ne_of_none hD nL
      have kOne8 : KeyAt CK (upd H7 L (.lst (ps.map V.int ++ [.int 7]))) one x0.2.1 n ps := ⟨dxo, to, uo, by rw [upd_ne n1L]; exact ko, by rw [upd_ne n2L]; exact kt⟩
      have hD8 : (upd H7 L (.lst (ps.map V.int ++ [.int 7]))) D = some (.lst (ps.map V.int)) := by
        rw [upd_ne n3L]
        exact hD7
      have k18 : Keep a H1 (upd H7 L (.lst (ps.map V.int ++ [.int 7]))) := fun b o e nb => by
        have bL : b ≠ L := ne_of_none (k5 _ _ e nb) nL
        rw [upd_ne bL]
        exact k17 _ _ e nb
      have s8 : SrcAt (upd H7 L (.lst (ps.map V.int ++ [.int 7]))) a c (m + 180) := by
        obtain ⟨d, nn, e, g⟩ := s5.same (s6.trans s7)
        exact ⟨d, nn, by rw [upd_ne (fun z => zL z.symm)]; exact e, by omega⟩
      generalize upd H7 L (.lst (ps.map V.int ++ [.int 7])) = H8 at kOne8 hD8 k18 s8 ⊢
      have plbOf : ∀ ns : List Int, (∀ x ∈ ns, 0 ≤ x ∧ x < n) → ns.Nodup → plB n (some (ns.map V.int)) = true := fun ns hb hn => by
        show ((ns.map V.int).all (okI n) && decide (nums (ns.map V.int)).Nodup) = true
        rw [Bool.and_eq_true]
        have e : nums (ns.map V.int) = ns := by
          unfold nums
          rw [List.filterMap_map]
          exact List.filterMap_some
        refine ⟨List.all_eq_true.mpr fun v hv => ?_, by rw [e]; exact decide_eq_true hn⟩
        obtain ⟨i, hi, rfl⟩ := List.mem_map.mp hv
        have := hb i hi
        show (decide (0 ≤ i) && decide (i < n)) = true
        rw [decide_eq_true this.1, decide_eq_true this.2]
        rfl
      -- the same key, with its places turned about
      refine ⟨_, rfl, _, rfl, _, rfl, _, rfl, D, _, rfl, SqL.of hD8, fun rv nrv => ?_⟩
      have s9 : Same H8 (upd H8 rv (.lst (ps.map V.int).reverse)) := same_new nrv
      have c9 : (upd H8 rv (.lst (ps.map V.int).reverse)) rv = some (.lst (ps.reverse.map V.int)) := by rw [upd_same, List.map_reverse]
      generalize upd H8 rv (.lst (ps.map V.int).reverse) = H9 at s9 c9 ⊢
      refine ⟨rv, _, rfl, .inl ⟨SqL.of c9, fun tv ntv => ?_⟩⟩
      have s10 : Same H9 (upd H9 tv (.tup (ps.reverse.map V.int))) := same_new ntv
      have c10 : (upd H9 tv (.tup (ps.reverse.map V.int))) tv = some (.tup (ps.reverse.map V.int)) := upd_same
      generalize upd H9 tv (.tup (ps.reverse.map V.int)) = H10 at s10 c10 ⊢
      refine key_made nT (okT _) n1 n3 ⟨⟨tv, rfl, .inr ⟨SqT.of c10, .base (.tup c10)⟩⟩, by rw [List.length_map, List.length_reverse]; omega, fun y hy => (w_ints ps.reverse y hy).1⟩ (plbOf _ (fun x hx => bd3 x (List.mem_reverse.mp hx)) (((List.reverse_perm ps).nodup_iff).mpr nd)) fun H11 two ms s11 nTwo kTwo pm2 so2 => ?_
      obtain rfl : ps = ms := (sorted_one (pm2.trans (List.reverse_perm ps)) so2 (srt.imp fun h => Int.le_of_lt h)).symm
      have kOne11 := kOne8.same ((s9.trans s10).trans s11)
      refine neK_read kOne11 kTwo ⟨_, rfl, ifF (by simp) ?_⟩
      refine ⟨_, rfl, _, rfl, rfl, _, rfl, tif_join ?_⟩
      obtain ⟨T2, e2⟩ : ∃ T2, T2 = (if (!decide (V.str x0.2.1 = V.str (Str.ofString "x"))) = true then Str.ofString "x" else Str.ofString "y") := ⟨_, rfl⟩
      rw [← e2]
      have nT2 : Nm T2 := by
        rw [e2]
        split <;> (show nmB _ = true; decide +kernel)
      have neT2 : x0.2.1 ≠ T2 := fun e => by
        rw [← e] at e2
        by_cases h : x0.2.1 = Str.ofString "x"
        · rw [h] at e2
          revert e2
          decide +kernel
        · rw [if_pos (by simpa using h)] at e2
          exact h e2
      have hD11 := ((s9.trans s10).trans s11) _ _ hD8
      refine ⟨_, rfl, _, rfl, ?_⟩
      refine key_made nT2 (.inl ⟨_, rfl, Nat.le_trans (nm_bds10 nT2).2 (by decide)⟩) n1 n3 ⟨⟨D, rfl, .inl ⟨SqL.of hD11, .base (.lst hD11)⟩⟩, by rw [List.length_map]; omega, fun y hy => (w_ints ps y hy).1⟩ (plb_of bd3 nd) fun H12 three ms3 s12 nThree kThree pm3 so3 => ?_
      have kOne12 := kOne11.same s12
      refine eqK_read kOne12 kThree ⟨_, rfl, ifF (by simp [neT2]) ?_⟩
      -- no tuple, no list is a key
      obtain ⟨dx1, t1, u1, ko1, kt1⟩ := id kOne12
      refine ⟨_, rfl, _, rfl, _, rfl, _, rfl, one, dx1, _, rfl, ko1, one, dx1, _, _, rfl, ko1, rfl, by show 3 ≤ sizeLine; decide, fun tp ntp => ?_⟩
      have s13 : Same H12 (upd H12 tp (.tup [.str x0.2.1, .int n, .ref t1])) := same_new ntp
      have c13 : (upd H12 tp (.tup [.str x0.2.1, .int n, .ref t1])) tp = some (.tup [.str x0.2.1, .int n, .ref t1]) := upd_same
      generalize upd H12 tp (.tup [.str x0.2.1, .int n, .ref t1]) = H13 at s13 c13 ⊢
      have kOne13 := kOne12.same s13
      refine eqK_tup kOne13 c13 hnt qtK ⟨_, rfl, iteF ?_⟩
      refine ⟨_, rfl, _, rfl, _, rfl, _, rfl, by show 3 ≤ sizeLine; decide, fun lp nlp => ?_⟩
      have s14 : Same H13 (upd H13 lp (.lst [.str x0.2.1, .int n, .ref D])) := same_new nlp
      have c14 : (upd H13 lp (.lst [.str x0.2.1, .int n, .ref D])) lp = some (.lst [.str x0.2.1, .int n, .ref D]) := upd_same
      generalize upd H13 lp (.lst [.str x0.2.1, .int n, .ref D]) = H14 at s14 c14 ⊢
      have kOne14 := kOne13.same s14
      refine eqK_lst kOne14 c14 hnl qlK ⟨_, rfl, iteF ?_⟩
      -- near
      have hD14 := (s12.trans (s13.trans s14)) _ _ hD11
      have s8e := (s9.trans s10).trans (s11.trans (s12.trans (s13.trans s14)))
      have src14 := s8.same s8e
      have k114 := k18.trans (Keep.of s8e)
      refine ⟨_, rfl, _, rfl, by omega, by omega, fun D2 nD2 => ?_⟩
      have zD2 := src14.ne nD2
      refine lc_range (lo := 0) (n := n.toNat) (fun t H5 => ∃ qs : List Int, H5 D2 = some (.lst (qs.map V.int)) ∧ qs.length ≤ t ∧ (∀ x ∈ qs, 0 ≤ x ∧ x < t) ∧ qs.Pairwise (· < ·) ∧ SrcAt H5 a c (m + 180 - t) ∧ Keep a H14 H5)
        ⟨[], upd_same, Nat.le_refl _, (fun x h => nomatch h), List.Pairwise.nil, src14.same (same_new nD2), Keep.of (same_new nD2)⟩ ?_ ?_
      · rintro t H5 ht ⟨qs, hQ, lq, bq, srq, sq5, kq5⟩
        have hDq := kq5 _ _ hD14 zD
        refine ⟨rfl, _, rfl, _, rfl, D, _, rfl, .inl (SqL.of hDq), rfl, by simp [flatV], _, rfl, _, rfl, _, rfl, a, c, m + 180 - (t + 1), _, rfl, sq5.mono (by omega), by omega, by omega, fun r2 H6 r20 r21 s6 k6 => ⟨rfl, rfl, _, rfl, ?_⟩⟩
        have hQ6 := k6 _ _ hQ zD2
        refine ite2 (fun _ => ?_) (fun _ => ?_)
        · refine ⟨_, rfl, _, hQ6, by rw [List.length_map, sizeLine_eq]; omega, qs ++ [0 + (t : Int)], by rw [upd_same, List.map_append]; rfl, by rw [List.length_append]; show qs.length + 1 ≤ t + 1; omega, fun x h => ?_, ?_, ?_, ?_⟩
          · rcases List.mem_append.mp h with h | h
            · have := bq x h
              omega
            · rw [List.mem_singleton.mp h]
              omega
          · refine List.pairwise_append.mpr ⟨srq, List.pairwise_singleton _ _, fun x hx y hy => ?_⟩
            rw [List.mem_singleton.mp hy]
            have := bq x hx
            omega
          · obtain ⟨d, nn, e, g⟩ := s6
            exact ⟨d, nn, by rw [upd_ne zD2.symm]; exact e, g⟩
          · intro b o e nb
            rw [upd_ne (ne_of_none e nD2)]
            exact k6 _ _ (kq5 _ _ e nb) nb
        · exact ⟨qs, hQ6, by omega, fun x h => (by have := bq x h; omega), srq, s6, kq5.trans k6⟩
      rintro H15 ⟨qs, hQ, lq, bq, srq, src15, k1415⟩
      have kOne15 := kOne14.keep src14 k1415
      have hD15 := k1415 _ _ hD14 zD
      have ndq : qs.Nodup := srq.imp fun h e => by omega
      have bq3 : ∀ x ∈ qs, 0 ≤ x ∧ x < n := fun x hx => by have := bq x hx; omega
      have k115 := k114.trans k1415
      refine ⟨_, rfl, _, rfl, _, rfl, _, rfl, ?_⟩
      refine key_made nT (okT _) n1 n3 ⟨⟨D2, rfl, .inl ⟨SqL.of hQ, .base (.lst hQ)⟩⟩, by rw [List.length_map]; omega, fun y hy => (w_ints qs y hy).1⟩ (plb_of bq3 ndq) fun H16 four ms4 s16 nFour kFour pm4 so4 => ?_
      obtain rfl : qs = ms4 := (sorted_one pm4 so4 (srq.imp fun h => Int.le_of_lt h)).symm
      have kOne16 := kOne15.same s16
      have hD16 := s16 _ _ hD15
      have hQ16 := s16 _ _ hQ
      refine eqK_read kOne16 kFour ⟨_, rfl, _, rfl, .list (qs.map .int), .list (ps.map .int), .lst (SqL.of hQ16) (dps_ints qs), .lst (SqL.of hD16) (dps_ints ps), lints_shaped _, lints_shaped _, rfl, _, rfl, ifF ?_ ?_⟩
      · rw [PyData.eqv, eqv_ints]
        simp [eq_comm]
      obtain ⟨dx2, t2, u2, ko2, kt2⟩ := id kOne16
      refine ⟨_, rfl, one, dx2, _, rfl, ko2, one, dx2, _, _, rfl, ko2, rfl, _, rfl, D, _, rfl, .inl ⟨SqL.of hD16, fun tv ntv => ?_⟩⟩
      have s17 : Same H16 (upd H16 tv (.tup (ps.map V.int))) := same_new ntv
      have c17 : (upd H16 tv (.tup (ps.map V.int))) tv = some (.tup (ps.map V.int)) := upd_same
      generalize upd H16 tv (.tup (ps.map V.int)) = H17 at s17 c17 ⊢
      refine ⟨.tuple (ps.map .int), .tuple (ps.map .int), .tup (SqT.of (s17 _ _ kt2)) (dps_ints ps), .tup (SqT.of c17) (dps_ints ps), ints_shaped _, ints_shaped _, _, rfl, ifF ?_ ?_⟩
      · rw [PyData.eqv, eqv_ints]
        simp
      have kOne17 := kOne16.same s17
      have hD17 := s17 _ _ hD16
      -- other sizes
      refine ⟨by show 3 ≤ sizeLine; decide, fun lo nlo => ?_⟩
      have s18 : Same H17 (upd H17 lo (.lst [.int 1, .int 2, .int 3])) := same_new nlo
      have c18 : (upd H17 lo (.lst [.int 1, .int 2, .int 3])) lo = some (.lst [.int 1, .int 2, .int 3]) := upd_same
      generalize upd H17 lo (.lst [.int 1, .int 2, .int 3]) = H18 at s18 c18 ⊢
      have kOne18 := kOne17.same s18
      have hD18 := s18 _ _ hD17
      refine ⟨lo, rfl, ⟨_, SqL.of c18⟩, for_it (L2.walk_list (K := K)) (fun i σ H5 => ∃ v8 : Option V, σ = [some (.ref a), some (.ref p), some (.int n), some (.ref D), some (.str x0.2.1), some (.ref L), some (.ref one), some (.ref D2), v8, none, none, none, none] ∧ Same H18 H5) ⟨none, rfl, Same.refl _⟩ (fun i σ H5 _ pp => let ⟨_, _, s5⟩ := pp; SqL.of (s5 _ _ c18)) (fun i z σ H5 H6 hi pp yy => ?_) (fun σ H5 pp => ?_)⟩
      · obtain ⟨v8, rfl, s5⟩ := pp
        obtain ⟨rfl, hz⟩ := yy
        obtain ⟨o, rfl, o1, o3⟩ := one23 hz
        refine ⟨_, rfl, _, rfl, rfl, _, rfl, ?_⟩
        refine ite2 (fun ne => ?_) (fun _ => iteF ⟨_, rfl, s5⟩)
        have ne : n ≠ o := fun e => by simp [e] at ne
        have hD5 := s5 _ _ hD18
        refine ⟨_, rfl, _, rfl, _, rfl, _, rfl, D, rfl, ⟨_, SqL.of hD5⟩, fun D3 nD3 => ?_⟩
        refine lc_sift (ms := ps) (val := V.int) (L2.walk_list (K := K)) (List.length_map _) (fun x => decide (x < o)) V.int nD3 (by omega) (fun H' s' => SqL.of (s' _ _ hD5)) (fun x hx H7 Yes No s7 yes no => ?_) (fun H7 s7 hL => ?_)
        · refine ⟨rfl, _, rfl, _, rfl, x, o, rfl, rfl, _, rfl, ?_⟩
          exact ite2 (fun e => ⟨_, rfl, yes _ (Same.refl _) e⟩) (fun e => no _ (Same.refl _) (by simpa using e))
        have kx : ∀ x ∈ ps.filter (fun x => decide (x < o)), 0 ≤ x ∧ x < o := fun x hx => by
          obtain ⟨h1, h2⟩ := List.mem_filter.mp hx
          exact ⟨(bd3 x h1).1, of_decide_eq_true h2⟩
        refine key_made nT (okT _) o1 o3 ⟨⟨D3, rfl, .inl ⟨SqL.of hL, .base (.lst hL)⟩⟩, by rw [List.length_map]; exact Nat.le_trans (List.length_filter_le _ _) (by omega), fun y hy => (w_ints _ y hy).1⟩ (plb_of kx (nd.filter _)) fun H8 five ms5 s8 nFive kFive pm5 so5 => ?_
        exact eqK_read (kOne18.same (s5.trans (s7.trans s8))) kFive ⟨_, rfl, ifF (by simp [ne]) ⟨_, rfl, s5.trans (s7.trans s8)⟩⟩
      obtain ⟨v8, rfl, s1819⟩ := pp
      have kOne19 := kOne18.same s1819
      have s1519 := s16.trans (s17.trans (s18.trans s1819))
      have src19 := src15.same s1519
      have k119 := k115.trans (Keep.of s1519)
      have hp19 := hp1.keep k119
      -- the body
      refine ⟨_, rfl, _, rfl, _, rfl, p, _, 2, _, rfl, rfl, SqL.of hp19.hp, rfl, _, rfl, π.vs, _, rfl, SqL.of hp19.hv, fun q nq => ?_⟩
      have sq : Same H5 (upd H5 q (.lst (cutV (π.W.map V.str) none (some 3)))) := same_new nq
      have cq : (upd H5 q (.lst (cutV (π.W.map V.str) none (some 3)))) q = some (.lst ((π.W.take 3).map V.str)) := by (rw [upd_same, show (some (3 : Int)) = some ((3 : Nat) : Int) from rfl, cutV_top, List.map_take])
      generalize upd H5 q (.lst (cutV (π.W.map V.str) none (some 3))) = H20 at sq cq ⊢
      have W3 : ∀ z ∈ π.W.take 3, Vr z := fun z m => hp19.nW z (List.mem_of_mem_take m)
      have l3 : (π.W.take 3).length ≤ 100 := by rw [List.length_take]; omega
      have hp20 := hp19.keep (Keep.of sq)
      have src20 := src19.same sq
      refine ⟨a, p, q, c, m + 100, 2, π, π.W.take 3, rfl, by decide, src20.mono (by omega), hp20, ⟨cq, W3, l3, src19.ne nq⟩, fun b xs H21 lot few s21 k21 => ?_⟩
      have kOne21 := (kOne19.same sq).keep src20 k21
      have pts : ∀ x ∈ xs, PatG x.2.1 x.2.2 := fun x m => patG_of10 hp20 W3 (lot.pat x m)
      have k121 := (k119.trans (Keep.of sq)).trans k21
      refine ⟨by show 2 ≤ sizeLine; decide, fun tx ntx => ?_⟩
      have s22 : Same H21 (upd H21 tx (.tup [.str pP, .str pX])) := same_new ntx
      have c22 : (upd H21 tx (.tup [.str pP, .str pX])) tx = some (.tup [.str pP, .str pX]) := upd_same
      generalize upd H21 tx (.tup [.str pP, .str pX]) = H22 at s22 c22 ⊢
      refine ⟨by show 1 ≤ sizeLine; decide, fun lx nlx => ?_⟩
      have s23 : Same H22 (upd H22 lx (.lst [.ref tx])) := same_new nlx
      have c23 : (upd H22 lx (.lst [.ref tx])) lx = some (.lst [.ref tx]) := upd_same
      generalize upd H22 lx (.lst [.ref tx]) = H23 at s23 c23 ⊢
      refine ⟨b, lx, _, _, rfl, rfl, (s22.trans s23) _ _ lot.sq, c23, by rw [List.length_map, sizeLine_eq]; show xs.length + 1 ≤ _; omega, fun bl nbl => ?_⟩
      obtain ⟨ys, eys⟩ : ∃ ys : List Pt, ys = xs ++ [(tx, pP, [pX])] := ⟨_, rfl⟩
      have s24 : Same H23 (upd H23 bl (.lst (xs.map (fun x => V.ref x.1) ++ [.ref tx]))) := same_new nbl
      have c24 : (upd H23 bl (.lst (xs.map (fun x => V.ref x.1) ++ [.ref tx]))) bl = some (.lst (ys.map fun x => V.ref x.1)) := by (rw [upd_same, eys, List.map_append]; rfl)
      generalize upd H23 bl (.lst (xs.map (fun x => V.ref x.1) ++ [.ref tx])) = H24 at s24 c24 ⊢
      have s2124 := s22.trans (s23.trans s24)
      have ysA : PtsAt H24 ys := by
        rw [eys]
        exact PtsAt.snoc (fun x m => ⟨s2124 _ _ (lot.each x m), pts x m⟩) ((s23.trans s24) _ _ c22) pat_px
      have nya : ∀ x ∈ ys, x.1 ≠ a := fun x m => by
        rw [eys] at m
        rcases List.mem_append.mp m with m | m
        · exact lot.nx x m
        · rw [List.mem_singleton.mp m]
          exact s21.ne ntx
      have lys : ys.length ≤ 3 := by
        rw [eys, List.length_append]
        show xs.length + 1 ≤ 3
        omega
      have src24 := s21.same s2124
      have nbla : bl ≠ a := (s21.same (s22.trans s23)).ne nbl
      -- the head
      have bd : ∀ x ∈ ys, ∀ z ∈ x.2.2, z.length ≤ 100 := fun x m z mz => by
        have := tm_len ((ysA.ok x m).each z mz)
        omega
      have f1 : (frees ys).length ≤ 60 := by
        have := frees_le3 fun x (m : x ∈ ys) => (ysA.ok x m).few
        omega
      refine ⟨_, rfl, _, rfl, _, rfl, bl, ys, rfl, c24, ⟨.inl c24, ysA.at⟩, bd, f1, fun wd ws H25 s25 nw pm so hw => ?_⟩
      have vr : ∀ z ∈ ws, Vr z := fun z mz => frees_vr ysA.ok z (uniq_mem.mp (pm.mem_iff.mp mz))
      have lws : ws.length ≤ 100 := by
        rw [pm.length_eq]
        exact Nat.le_trans (uniq_len _) (by omega)
      have hp25 := hp1.keep (k121.trans (Keep.of (s2124.trans s25)))
      refine ⟨a, p, wd, c, m + 70, 4, π, ws, rfl, (src24.same s25).mono (by omega), hp25, ⟨hw, vr, lws, src24.ne nw⟩, fun t T zs H26 po ht nt s26 k26 => ?_⟩
      have pgh : PatG T zs := patG_of10 hp25 vr po
      have hin : headIn ys (t, T, zs) = true := headIn_iff.mpr fun z m e => by
        rcases po.trm z m with h | h
        · rw [nm_open (hp25.nC z h)] at e
          cases e
        · exact (frees_mem.mp (uniq_mem.mp (pm.mem_iff.mp h))).1
      have k2426 : Keep a H24 H26 := (Keep.of s25).trans k26
      have hb26 := k2426 _ _ c24 nbla
      have ys26 : PtsAt H26 ys := fun x m => ⟨k2426 _ _ (ysA x m).1 (nya x m), (ysA x m).2⟩
      have kOne26 := (kOne21.same s2124).keep src24 k2426
      have k126 := (k121.trans (Keep.of s2124)).trans k2426
      -- the rule
      refine ⟨_, rfl, bl, _, rfl, .inl (SqL.of hb26), fun L2 nL2 => ?_⟩
      have s27 : Same H26 (upd H26 L2 (.lst (ys.map fun x => V.ref x.1))) := same_new nL2
      have c27 : (upd H26 L2 (.lst (ys.map fun x => V.ref x.1))) L2 = some (.lst (ys.map fun x => V.ref x.1)) := upd_same
      generalize upd H26 L2 (.lst (ys.map fun x => V.ref x.1)) = H27 at s27 c27 ⊢
      refine ⟨_, rfl, _, rfl, rfl, rfl, ?_⟩
      refine rule_made (pt := (t, T, zs)) (.inl c27) (by omega) ((ys26.same s27).snoc (s27 _ _ ht) pgh) hin fun H28 rl s28 nRl kRl => ?_
      have c28 := s28 _ _ c27
      refine ⟨_, rfl, .inl ⟨rfl, _, SqL.of c28⟩, L2, _, rfl, rfl, c28, ?_⟩
      have kL : Keep L2 H28 (upd H28 L2 (.lst [])) := keep_upd
      have s2628 := s27.trans s28
      have old : ∀ b o, H26 b = some o → (upd H28 L2 (.lst [])) b = some o := fun b o e => kL _ _ (s2628 _ _ e) (ne_of_none e nL2)
      generalize upd H28 L2 (.lst []) = H29 at kL old ⊢
      have kRl29 := kRl.keepL c28 kL
      have kOne29 := (kOne26.same s2628).keepL c28 kL
      have hb29 := old _ _ hb26
      have ht29 := old _ _ ht
      have ys29 : PtsAt H29 ys := fun x m => ⟨old _ _ (ys26 x m).1, (ys26 x m).2⟩
      have all29 : PtsAt H29 (ys ++ [(t, T, zs)]) := ys29.snoc ht29 pgh
      have src29 : SrcAt H29 a c m := by
        obtain ⟨d, nn, e, g⟩ := s26
        exact ⟨d, nn, old _ _ e, by omega⟩
      have k129 : Keep a H1 H29 := fun b o e nb => old _ _ (k126 _ _ e nb)
      -- the same rule
      refine ⟨_, rfl, _, rfl, bl, _, rfl, .inl ⟨SqL.of hb29, fun tb ntb => ?_⟩⟩
      have s30 : Same H29 (upd H29 tb (.tup (ys.map fun x => V.ref x.1))) := same_new ntb
      have c30 : (upd H29 tb (.tup (ys.map fun x => V.ref x.1))) tb = some (.tup (ys.map fun x => V.ref x.1)) := upd_same
      generalize upd H29 tb (.tup (ys.map fun x => V.ref x.1)) = H30 at s30 c30 ⊢
      refine ⟨_, rfl, ?_⟩
      refine rule_made (pt := (t, T, zs)) (.inr c30) (by omega) (all29.same s30) hin fun H31 r2 s31 nR2 kR2 => ?_
      have S31 := s30.trans s31
      refine neR_read (kRl29.same S31) kR2 ⟨_, rfl, ifF (by simp) ?_⟩
      refine ⟨_, rfl, _, rfl, eqR_key (kRl29.same S31) (kOne29.same S31) ICK nRK qKR ⟨_, rfl, iteF ?_⟩⟩
      refine ⟨_, rfl, _, rfl, eqK_rule (kOne29.same S31) (kRl29.same S31) ICR nKR qRK ⟨_, rfl, iteF ?_⟩⟩
      -- body, head
      obtain ⟨dxr, tr, hr1', hr2'⟩ := id (kRl29.same S31).ex
      refine ⟨_, rfl, rl, dxr, _, rfl, hr1', rl, dxr, _, _, rfl, hr1', rfl, _, rfl, bl, _, rfl, .inl ⟨SqL.of (S31 _ _ hb29), fun tc ntc => ?_⟩⟩
      have s32 : Same H31 (upd H31 tc (.tup (ys.map fun x => V.ref x.1))) := same_new ntc
      have c32 : (upd H31 tc (.tup (ys.map fun x => V.ref x.1))) tc = some (.tup (ys.map fun x => V.ref x.1)) := upd_same
      generalize upd H31 tc (.tup (ys.map fun x => V.ref x.1)) = H32 at s32 c32 ⊢
      have S32 := S31.trans s32
      refine ⟨.tuple (ys.map patD10), .tuple (ys.map patD10), .tup (SqT.of (s32 _ _ hr2')) (dps_pats ys (ys29.same S32).at), .tup (SqT.of c32) (dps_pats ys (ys29.same S32).at), pats_shaped ysA.ok, pats_shaped ysA.ok, _, rfl, ifF ?_ ?_⟩
      · rw [PyData.eqv, eqv_pats]
        simp
      refine ⟨_, rfl, rl, dxr, _, rfl, s32 _ _ hr1', rl, dxr, _, _, rfl, s32 _ _ hr1', rfl, _, rfl, patD10 (t, T, zs), patD10 (t, T, zs), dp_pat (S32 _ _ ht29), dp_pat (S32 _ _ ht29), pat_shaped pgh, pat_shaped pgh, _, rfl, ifF ?_ ?_⟩
      · rw [eqv_patD]
        simp
      -- turned about
      refine ⟨_, rfl, _, rfl, bl, _, rfl, SqL.of (S32 _ _ hb29), fun br nbr => ?_⟩
      have s33 : Same H32 (upd H32 br (.lst (ys.map fun x => V.ref x.1).reverse)) := same_new nbr
      have c33 : (upd H32 br (.lst (ys.map fun x => V.ref x.1).reverse)) br = some (.lst (ys.reverse.map fun x => V.ref x.1)) := by (rw [upd_same, List.map_reverse])
      generalize upd H32 br (.lst (ys.map fun x => V.ref x.1).reverse) = H33 at s33 c33 ⊢
      refine ⟨_, rfl, ?_⟩
      have S33 := S32.trans s33
      refine rule_made (pt := (t, T, zs)) (.inl c33) (by rw [List.length_reverse]; omega) ((ys29.same S33).rev.snoc (S33 _ _ ht29) pgh) (headIn_sub hin fun x m => List.mem_reverse.mpr m) fun H34 r3 s34 nR3 kR3 => ?_
      have S34 := S33.trans s34
      refine eqR_read (kRl29.same S34) kR3 ⟨_, rfl, _, rfl, bl, _, rfl, SqL.of (S34 _ _ hb29), fun br2 nbr2 => ?_⟩
      have s35 : Same H34 (upd H34 br2 (.lst (ys.map fun x => V.ref x.1).reverse)) := same_new nbr2
      have c35 : (upd H34 br2 (.lst (ys.map fun x => V.ref x.1).reverse)) br2 = some (.lst (ys.reverse.map fun x => V.ref x.1)) := by (rw [upd_same, List.map_reverse])
      generalize upd H34 br2 (.lst (ys.map fun x => V.ref x.1).reverse) = H35 at s35 c35 ⊢
      have S35 := S34.trans s35
      refine ⟨.list (ys.map patD10), .list (ys.reverse.map patD10), .lst (SqL.of (S35 _ _ hb29)) (dps_pats ys (ys29.same S35).at), .lst (SqL.of c35) (dps_pats _ (ys29.same S35).rev.at), lpats_shaped ysA.ok, lpats_shaped ysA.rev.ok, rfl, _, rfl, ifF ?_ ?_⟩
      · rw [PyData.eqv, eqv_pats]
        simp
      -- other heads
      refine ⟨_, rfl, _, rfl, by show 1 ≤ sizeLine; decide, fun tz ntz => ?_⟩
      have s36 : Same H35 (upd H35 tz (.tup [.str (Str.ofString "zz")])) := same_new ntz
      have c36 : (upd H35 tz (.tup [.str (Str.ofString "zz")])) tz = some (.tup [.str (Str.ofString "zz")]) := upd_same
      generalize upd H35 tz (.tup [.str (Str.ofString "zz")]) = H36 at s36 c36 ⊢
      have S36 := S35.trans s36
      refine rule_made (pt := (tz, Str.ofString "zz", [])) (.inl (S36 _ _ hb29)) (by omega) ((ys29.same S36).snoc c36 (pat_one nm_zz)) headIn_nil fun H37 r4 s37 nR4 kR4 => ?_
      have S37 := S36.trans s37
      refine eqR_read (kRl29.same S37) kR4 ⟨_, rfl, by show 1 ≤ sizeLine; decide, fun tz2 ntz2 => ?_⟩
      have s38 : Same H37 (upd H37 tz2 (.tup [.str (Str.ofString "zz")])) := same_new ntz2
      have c38 : (upd H37 tz2 (.tup [.str (Str.ofString "zz")])) tz2 = some (.tup [.str (Str.ofString "zz")]) := upd_same
      generalize upd H37 tz2 (.tup [.str (Str.ofString "zz")]) = H38 at s38 c38 ⊢
      have S38 := S37.trans s38
      refine ⟨patD10 (t, T, zs), patD10 (tz2, Str.ofString "zz", []), dp_pat (S38 _ _ ht29), dp_pat (t := tz2) (T := Str.ofString "zz") (zs := []) c38, pat_shaped pgh, pat_shaped (x := (tz2, Str.ofString "zz", [])) (pat_one nm_zz), rfl, _, rfl, ifF ?_ ?_⟩
      · rw [eqv_patD]
        simp
      refine ⟨_, rfl, _, rfl, by show 2 ≤ sizeLine; decide, fun tw ntw => ?_⟩
      have s39 : Same H38 (upd H38 tw (.tup [.str pP, .str pX])) := same_new ntw
      have c39 : (upd H38 tw (.tup [.str pP, .str pX])) tw = some (.tup [.str pP, .str pX]) := upd_same
      generalize upd H38 tw (.tup [.str pP, .str pX]) = H39 at s39 c39 ⊢
      have S39 := S38.trans s39
      refine rule_made (pt := (tw, pP, [pX])) (.inl (S39 _ _ hb29)) (by omega) ((ys29.same S39).snoc c39 pat_px) (headIn_iff.mpr fun z m _ => ⟨(tx, pP, [pX]), by rw [eys]; exact List.mem_append_right _ List.mem_cons_self, m⟩) fun H40 r5 s40 nR5 kR5 => ?_
      have S40 := S39.trans s40
      refine eqR_read (kRl29.same S40) kR5 ⟨_, rfl, by show 2 ≤ sizeLine; decide, fun tw2 ntw2 => ?_⟩
      have s41 : Same H40 (upd H40 tw2 (.tup [.str pP, .str pX])) := same_new ntw2
      have c41 : (upd H40 tw2 (.tup [.str pP, .str pX])) tw2 = some (.tup [.str pP, .str pX]) := upd_same
      generalize upd H40 tw2 (.tup [.str pP, .str pX]) = H41 at s41 c41 ⊢
      have S41 := S40.trans s41
      refine ⟨patD10 (t, T, zs), patD10 (tw2, pP, [pX]), dp_pat (S41 _ _ ht29), dp_pat (t := tw2) (T := pP) (zs := [pX]) c41, pat_shaped pgh, pat_shaped (x := (tw2, pP, [pX])) pat_px, rfl, _, rfl, ifF ?_ ?_⟩
      · rw [eqv_patD]
        simp
      -- a longer body; no body
      refine ⟨_, rfl, _, rfl, by show 2 ≤ sizeLine; decide, fun ty nty => ?_⟩
      have s42 : Same H41 (upd H41 ty (.tup [.str pP, .str pX])) := same_new nty
      have c42 : (upd H41 ty (.tup [.str pP, .str pX])) ty = some (.tup [.str pP, .str pX]) := upd_same
      generalize upd H41 ty (.tup [.str pP, .str pX]) = H42 at s42 c42 ⊢
      refine ⟨by show 1 ≤ sizeLine; decide, fun ly nly => ?_⟩
      have s43 : Same H42 (upd H42 ly (.lst [.ref ty])) := same_new nly
      have c43 : (upd H42 ly (.lst [.ref ty])) ly = some (.lst [.ref ty]) := upd_same
      generalize upd H42 ly (.lst [.ref ty]) = H43 at s43 c43 ⊢
      have S43 := S41.trans (s42.trans s43)
      refine ⟨bl, ly, _, _, rfl, rfl, S43 _ _ hb29, c43, by rw [List.length_map, sizeLine_eq]; show ys.length + 1 ≤ _; omega, fun bm nbm => ?_⟩
      have s44 : Same H43 (upd H43 bm (.lst (ys.map (fun x => V.ref x.1) ++ [.ref ty]))) := same_new nbm
      have c44 : (upd H43 bm (.lst (ys.map (fun x => V.ref x.1) ++ [.ref ty]))) bm = some (.lst ((ys ++ [(ty, pP, [pX])]).map fun x => V.ref x.1)) := by (rw [upd_same, List.map_append]; rfl)
      generalize upd H43 bm (.lst (ys.map (fun x => V.ref x.1) ++ [.ref ty])) = H44 at s44 c44 ⊢
      have S44 := S43.trans s44
      refine ⟨_, rfl, ?_⟩
      refine rule_made (pt := (t, T, zs)) (.inl c44) (by rw [List.length_append]; show ys.length + 1 ≤ 8; omega) (((ys29.same S44).snoc (y := (ty, pP, [pX])) ((s43.trans s44) _ _ c42) pat_px).snoc (S44 _ _ ht29) pgh) (headIn_sub hin fun x m => List.mem_append_left _ m) fun H45 r6 s45 nR6 kR6 => ?_
      have S45 := S44.trans s45
      refine neR_read (kRl29.same S45) kR6 ⟨_, rfl, ifT ?_ ?_⟩
      · have ne : ys.map (·.2) ≠ (ys ++ [(ty, pP, [pX])]).map (·.2) := fun e => by
          have := congrArg List.length e
          rw [List.length_map, List.length_map, List.length_append] at this
          have e1 : [(ty, pP, [pX])].length = 1 := rfl
          omega
        rw [decide_eq_false ne]
        rfl
      refine ⟨by show 0 ≤ sizeLine; decide, fun le nle => ?_⟩
      have s46 : Same H45 (upd H45 le (.lst [])) := same_new nle
      have c46 : (upd H45 le (.lst [])) le = some (.lst []) := upd_same
      generalize upd H45 le (.lst []) = H46 at s46 c46 ⊢
      refine ⟨by show 1 ≤ sizeLine; decide, fun ta nta => ?_⟩
      have s47 : Same H46 (upd H46 ta (.tup [.str (Str.ofString "a")])) := same_new nta
      have c47 : (upd H46 ta (.tup [.str (Str.ofString "a")])) ta = some (.tup [.str (Str.ofString "a")]) := upd_same
      generalize upd H46 ta (.tup [.str (Str.ofString "a")]) = H47 at s47 c47 ⊢
      refine rule_made (ps := []) (pt := (ta, Str.ofString "a", [])) (.inl (s47 _ _ c46)) (by decide) (PtsAt.snoc (fun x m => nomatch m) c47 (pat_one nm_a10)) headIn_nil fun H48 r7 s48 nR7 kR7 => ?_
      obtain ⟨dx7, t7, h71, h72⟩ := id kR7.ex
      refine ⟨r7, dx7, _, rfl, h71, r7, dx7, _, _, rfl, h71, rfl, by show 0 ≤ sizeLine; decide, fun te nte => ?_⟩
      have s49 : Same H48 (upd H48 te (.tup [])) := same_new nte
      have c49 : (upd H48 te (.tup [])) te = some (.tup []) := upd_same
      generalize upd H48 te (.tup []) = H49 at s49 c49 ⊢
      refine ⟨.tuple [], .tuple [], .tup (SqT.of (s49 _ _ h72)) .nil, .tup (SqT.of c49) .nil, ints_shaped [], ints_shaped [], ?_⟩
      rw [show PyData.eqv (.tuple []) (.tuple []) = true from by rw [PyData.eqv, PyData.eqvAll]]
      have S49 := S45.trans (s46.trans (s47.trans (s48.trans s49)))
      exact k _ (src29.same S49) ((k1.trans k129).trans (Keep.of S49))
end
end L2.LawH
set_option Elab.async false
set_option linter.all false
set_option maxRecDepth 100000
set_option maxHeartbeats 4000000
/-! The law on rules made: its rows. -/
namespace L2.LawH
open PySem PySem.Spec PyProof.Rows L2.TxtSet TL L2.NumSeq L2.XVal
open Builtin.Int (intBits)
abbrev sLaw : Stmt := top 42
def spLaw (K : PySem.W.Frag) : Sp := fun vs H Q _ => ∃ (a : Addr) (ns : List Int), vs = [.ref a] ∧ SqL K H a (ns.map V.int) ∧ ns.length ≤ 63 ∧
  (∀ n ∈ ns, intBits n ≤ 1048576) ∧ ∀ H', Q (.bl true) H'
abbrev nLaw : List Str := ["_law_script", "_law_cell", "_law_source_here", "_law_pool_here"]
theorem scLaw : FnScope nLaw ["_law_script"] (defScope sLaw) := ⟨rfl, rfl, rfl, by decide +kernel, rfl, by decide +kernel, by decide +kernel⟩
theorem cut_ints {ns : List Int} (hb : ∀ z ∈ ns, intBits z ≤ 1048576) {i : Nat} {v : V} (lo hi : Option Int)
    (h : (cutV (ns.map V.int) lo hi ++ [V.int 0])[i]? = some v) : ∃ z, v = .int z ∧ intBits z ≤ 1048576 := by
  have hm := List.mem_of_getElem? h
  rcases List.mem_append.mp hm with q | q
  · have q2 : v ∈ ns.map V.int := List.mem_of_mem_drop (List.mem_of_mem_take q)
    obtain ⟨z, hz, rfl⟩ := List.mem_map.mp q2
    exact ⟨z, rfl, hb z hz⟩
  · have q2 : v = .int 0 := by simpa using q
    exact ⟨0, q2, by decide⟩
def kyD (z : Str) (i : Int) (ms : List Int) : PyData := .tuple [.str z, .int i, .tuple (ms.map PyData.int)]
theorem key_dp {K : PySem.W.Frag} {H : Hp} {r t : Addr} {z : Str} {i : Int} {ms : List Int} (h : H r = some (.tup [.str z, .int i, .ref t])) (h2 : H t = some (.tup (ms.map V.int))) : Dp K H (.ref r) (kyD z i ms) :=
  .tup (SqT.of h) (.cons (.str z) (.cons (.int i) (.cons (.tup (SqT.of h2) (dps_ints ms)) .nil)))
theorem key_shaped {z : Str} {i : Int} {ms : List Int} (hz : PyData.strOk z = true) : SeqAt.shaped (kyD z i ms) = true := by
  obtain ⟨h1, h2⟩ := ints_lay ms
  show (PyData.canLay0 (.tuple _) && decide (PyData.depth (.tuple _) ≤ 64)) = true
  rw [Bool.and_eq_true]
  refine ⟨by simp [PyData.canLay0, PyData.canLayAll0, hz, h1], decide_eq_true ?_⟩
  simp only [PyData.depth, PyData.depthAll]
  omega
theorem key_eqv {z : Str} {i : Int} {ms : List Int} : PyData.eqv (kyD z i ms) (kyD z i ms) = true := by
  unfold kyD
  simp only [PyData.eqv, PyData.eqvAll, eqv_ints]
  simp
section
variable {P : Program} {w : World} {K : PySem.W.Frag} {mg : Str → Option Value} {base : Heap}
theorem ok_law {f fS fPo fK fI fA fT : Addr} {fd fdS fdPo fdK fdI fdA fdT : FuncData} (F : Fun K "law" "law" sLaw f fd)
    (GS : FnOk P w K mg base CX0 1 fS fdS ["_law_cell"] spSource) (kS : PySem.W.keepIn K (.ref fS) = true) (bS : Binds K fdS ["_law_cell"] []) (mS : mg "_law_source" = some (.ref fS))
    (GPo : FnOk P w K mg base CX0 4 fPo fdPo ["_law_source_here"] spPool) (kPo : PySem.W.keepIn K (.ref fPo) = true) (bPo : Binds K fdPo ["_law_source_here"] []) (mPo : mg "_law_pool" = some (.ref fPo))
    (GK : FnOk P w K mg base CX0 6 fK fdK ["_law_source_here", "_law_pool_here"] spKeys) (kK : PySem.W.keepIn K (.ref fK) = true) (bK : Binds K fdK ["_law_source_here", "_law_pool_here"] []) (mK : mg "_law_keys" = some (.ref fK))
    (GI : FnG P w K mg base CX0 7 fI fdI ["_law_source_here", "_law_pool_here"] spImpl) (kI : PySem.W.keepIn K (.ref fI) = true) (bI : Binds K fdI ["_law_source_here", "_law_pool_here"] []) (mI : mg "_law_implications" = some (.ref fI))
    (GA : FnOk P w K mg base CX0 8 fA fdA ["_law_source_here", "_law_pool_here"] spAlike) (kA : PySem.W.keepIn K (.ref fA) = true) (bA : Binds K fdA ["_law_source_here", "_law_pool_here"] []) (mA : mg "_law_alike" = some (.ref fA))
    (GT : FnOk P w K mg base CX0 5 fT fdT ["_law_table", "_law_size", "_law_places"] (spKTold K)) (kT : PySem.W.keepIn K (.ref fT) = true) (bT : Binds K fdT ["_law_table", "_law_size", "_law_places"] []) (mT : mg "_law_key_told" = some (.ref fT)) :
    FnG P w K mg base CX0 9 f fd ["_law_script"] (spLaw K) := by
  refine fnG_ok F scLaw (fun vs H Q E h => ?_) (fun cdv A outer s H vs Q E hgd hr h => ?_)
  · obtain ⟨a, ns, rfl, _⟩ := h
    rfl
  · obtain ⟨a, ns, rfl, hS, hlen, hbits, k⟩ := h
    have hr1 : Room 1 _ := hr.mono (by decide)
    have hr4 : Room 4 _ := hr.mono (by decide)
    have hr5 : Room 5 _ := hr.mono (by decide)
    have hr6 : Room 6 _ := hr.mono (by decide)
    have hr7 : Room 7 _ := hr.mono (by decide)
    have hu := hr.units
    refine ⟨_, pss_cons (ps_for PassesOwn.never rfl (pi_list (pe_op op_cat (pe_slice sl_list (pv 0) po_none (po_some pe_int)) (pe_lst (pa_cons pe_int pa_nil)))) (pg_name (i := 1) scLaw.nd rfl (Or.inl rfl))
      (pss_cons (ps_set (i := 2) scLaw.nd rfl (Or.inl rfl) (pe_call GS hr1 (by rfl) mS kS bS .nil pass0 (pa_cons (pv 1) pa_nil)))
      (pss_cons (ps_set (i := 3) scLaw.nd rfl (Or.inl rfl) (pe_call GPo hr4 (by rfl) mPo kPo bPo .nil pass0 (pa_cons (pv 2) pa_nil)))
      (pss_one (ps_if (PW.pt (pw_or (pt_not (pt_val (pe_call GK hr6 (by rfl) mK kK bK .nil pass0 (pa_cons (pv 2) (pa_cons (pv 3) pa_nil)))))
        (pw_or (pt_not (pt_val (pe_callG GI hgd hr7 (by rfl) mI kI bI pass0 (pa_cons (pv 2) (pa_cons (pv 3) pa_nil)))))
        (pw_or1 (pt_not (pt_val (pe_call GA hr (by rfl) mA kA bA .nil pass0 (pa_cons (pv 2) (pa_cons (pv 3) pa_nil))))))))) (pss_one (ps_ret pe_bl)) pss_nil)))))
      (pss_one (ps_ret (pe_and (pe_cmpR (op_eqD hu) (pe_call GT hr5 (by rfl) mT kT bT .nil pass0 (pa_cons pe_str (pa_cons pe_int (pa_cons (pe_lst pa_nil) pa_nil)))) (pe_tup (pa_cons pe_str (pa_cons pe_int (pa_cons (pe_tup pa_nil) pa_nil)))) (by rfl))
        (pe_one (pe_cmpR (op_eqD hu) (pe_call GT hr5 (by rfl) mT kT bT .nil pass0 (pa_cons pe_str (pa_cons pe_int (pa_cons (pe_lst (pa_cons pe_int pa_nil)) pa_nil)))) (pe_tup (pa_cons pe_str (pa_cons pe_int (pa_cons (pe_tup (pa_cons pe_int pa_nil)) pa_nil)))) (by rfl)))))), ?_⟩
    refine ⟨_, rfl, 4, rfl, a, _, rfl, hS, fun p1 n1 => ⟨(by show 1 ≤ sizeLine; decide), fun p2 n2 => ?_⟩⟩
    have u1 := same_new (o := .lst (cutV (ns.map V.int) none (some 4))) n1
    have u2 := same_new (o := .lst [V.int 0]) n2
    have few : (cutV (ns.map V.int) none (some 4)).length ≤ 63 := by
      refine Nat.le_trans (cutV_length _ _ _) ?_
      rw [List.length_map]
      exact hlen
    refine ⟨p1, p2, _, _, rfl, rfl, u2 _ _ upd_same, upd_same, (by rw [sizeLine_eq]; show _ + 1 ≤ _; omega), fun p3 n3 => ?_⟩
    refine ⟨p3, rfl, ⟨_, SqL.of upd_same⟩, for_list (K := K) (a := p3) (xs := cutV (ns.map V.int) none (some 4) ++ [V.int 0])
      (fun i σ H5 => (∃ v1 v2 v3 : Option V, σ = [some (.ref a), v1, v2, v3]) ∧ H5 p3 = some (.lst (cutV (ns.map V.int) none (some 4) ++ [V.int 0])))
      ⟨⟨none, none, none, rfl⟩, upd_same⟩ (fun i σ H5 _ h5 => SqL.of h5.2) ?_ ?_⟩
    · rintro i v σ H0 hi ⟨⟨v1, v2, v3, rfl⟩, h3⟩
      obtain ⟨c, rfl, hc⟩ := cut_ints hbits none (some 4) hi
      refine ⟨_, rfl, c, rfl, hc, fun pS H1 s1 nS src1 => ?_⟩
      have zS : p3 ≠ pS := ne_of_none h3 nS
      refine ⟨_, rfl, pS, c, 999700, rfl, src1, fun p π H2 hp src2 k2 => ?_⟩
      refine ⟨_, rfl, _, rfl, pS, p, c, 10000, π, rfl, src2.mono (by decide), hp, fun H3 src3 k3 => ⟨_, rfl, iteF ?_⟩⟩
      have hp3 := hp.keep k3
      refine ⟨_, rfl, _, rfl, pS, p, c, 1000, π, rfl, src3.mono (by decide), hp3, fun H4 src4 k4 => ⟨_, rfl, iteF ?_⟩⟩
      have hp4 := hp3.keep k4
      refine ⟨_, rfl, _, rfl, pS, p, c, 100, π, rfl, src4.mono (by decide), hp4, fun H5 src5 k5 => ⟨_, rfl, iteF ?_⟩⟩
      exact ⟨⟨_, _, _, rfl⟩, k5 _ _ (k4 _ _ (k3 _ _ (k2 _ _ (s1 _ _ h3) zS) zS) zS) zS⟩
    · rintro σ H0 ⟨⟨v1, v2, v3, rfl⟩, _⟩
      have okA : PyData.strOk (Str.ofString "a") = true := by decide +kernel
      refine ⟨by show 0 ≤ sizeLine; decide, fun l1 nl1 => ?_⟩
      have s1 : Same H0 (upd H0 l1 (.lst [])) := same_new nl1
      have c1 : (upd H0 l1 (.lst [])) l1 = some (.lst []) := upd_same
      generalize upd H0 l1 (.lst []) = H1 at s1 c1 ⊢
      refine ⟨.str (Str.ofString "a"), .int 2, .ref l1, some (([] : List Int).map V.int), rfl, .inl ⟨_, rfl, by decide +kernel⟩, whl_int 2, ⟨⟨l1, rfl, .inl ⟨SqL.of c1, .base (.lst c1)⟩⟩, by decide, fun y m => nomatch m⟩, fun e => ?_, fun _ z i ns1 ms H2 r t e1 e2 e3 pm so s2 nr hr2 ht2 => ?_⟩
      · rw [show keyB (.str (Str.ofString "a")) (.int 2) (some (([] : List Int).map V.int)) = true from by decide +kernel] at e
        cases e
      have e1 : Str.ofString "a" = z := by injection e1
      have e2 : (2 : Int) = i := by injection e2
      subst e1 e2
      have e3 : ([] : List Int) = ns1 := (List.map_inj_right (fun a b e => by injection e)).mp (Option.some.inj e3)
      subst e3
      obtain rfl : ms = [] := List.length_eq_zero_iff.mp pm.length_eq
      refine ⟨by show 0 ≤ sizeLine; decide, fun t1 nt1 => ?_⟩
      have s3 : Same H2 (upd H2 t1 (.tup [])) := same_new nt1
      have c3 : (upd H2 t1 (.tup [])) t1 = some (.tup []) := upd_same
      generalize upd H2 t1 (.tup []) = H3 at s3 c3 ⊢
      refine ⟨by show 3 ≤ sizeLine; decide, fun t2 nt2 => ?_⟩
      have s4 : Same H3 (upd H3 t2 (.tup [.str (Str.ofString "a"), .int 2, .ref t1])) := same_new nt2
      have c4 : (upd H3 t2 (.tup [.str (Str.ofString "a"), .int 2, .ref t1])) t2 = some (.tup [.str (Str.ofString "a"), .int 2, .ref t1]) := upd_same
      generalize upd H3 t2 (.tup [.str (Str.ofString "a"), .int 2, .ref t1]) = H4 at s4 c4 ⊢
      have s24 := s3.trans s4
      refine ⟨kyD (Str.ofString "a") 2 [], kyD (Str.ofString "a") 2 [], key_dp (s24 _ _ hr2) (s24 _ _ ht2), key_dp c4 (s4 _ _ c3), key_shaped okA, key_shaped okA, _, rfl, ifT key_eqv ?_⟩
      refine ⟨by show 1 ≤ sizeLine; decide, fun l5 nl5 => ?_⟩
      have s5 : Same H4 (upd H4 l5 (.lst [.int 0])) := same_new nl5
      have c5 : (upd H4 l5 (.lst [.int 0])) l5 = some (.lst [.int 0]) := upd_same
      generalize upd H4 l5 (.lst [.int 0]) = H5 at s5 c5 ⊢
      refine ⟨.str (Str.ofString "a"), .int 1, .ref l5, some (([0] : List Int).map V.int), rfl, .inl ⟨_, rfl, by decide +kernel⟩, whl_int 1, ⟨⟨l5, rfl, .inl ⟨SqL.of c5, .base (.lst c5)⟩⟩, by decide, fun y hy => (w_ints [0] y hy).1⟩, fun e => ?_, fun _ z i ns1 ms H6 r6 t6 e1 e2 e3 pm so s6 nr hr6 ht6 => ?_⟩
      · rw [show keyB (.str (Str.ofString "a")) (.int 1) (some (([0] : List Int).map V.int)) = true from by decide +kernel] at e
        cases e
      have e1 : Str.ofString "a" = z := by injection e1
      have e2 : (1 : Int) = i := by injection e2
      subst e1 e2
      have e3 : ([0] : List Int) = ns1 := (List.map_inj_right (fun a b e => by injection e)).mp (Option.some.inj e3)
      subst e3
      obtain rfl : ms = [0] := List.perm_singleton.mp pm
      refine ⟨by show 1 ≤ sizeLine; decide, fun t7 nt7 => ?_⟩
      have s7 : Same H6 (upd H6 t7 (.tup [.int 0])) := same_new nt7
      have c7 : (upd H6 t7 (.tup [.int 0])) t7 = some (.tup [.int 0]) := upd_same
      generalize upd H6 t7 (.tup [.int 0]) = H7 at s7 c7 ⊢
      refine ⟨by show 3 ≤ sizeLine; decide, fun t8 nt8 => ?_⟩
      have s8 : Same H7 (upd H7 t8 (.tup [.str (Str.ofString "a"), .int 1, .ref t7])) := same_new nt8
      have c8 : (upd H7 t8 (.tup [.str (Str.ofString "a"), .int 1, .ref t7])) t8 = some (.tup [.str (Str.ofString "a"), .int 1, .ref t7]) := upd_same
      generalize upd H7 t8 (.tup [.str (Str.ofString "a"), .int 1, .ref t7]) = H8 at s8 c8 ⊢
      have s68 := s7.trans s8
      refine ⟨kyD (Str.ofString "a") 1 [0], kyD (Str.ofString "a") 1 [0], key_dp (s68 _ _ hr6) (s68 _ _ ht6), key_dp c8 (s8 _ _ c7), key_shaped okA, key_shaped okA, ?_⟩
      rw [key_eqv]
      exact k _
end
end L2.LawH
set_option Elab.async false
set_option linter.all false
set_option maxRecDepth 100000
set_option maxHeartbeats 0
/-! The law on rules made: its end. -/
namespace L2.LawH
open PySem PySem.Spec PyProof.Rows L2.TxtSet TL L2.NumSeq L2.XVal PySem.W L2.OwnOp
open Builtin.Int (intBits)
abbrev veB10 : List Value := [.type "ValueError", .type "Exception", .type "BaseException", .type "object"]
theorem kbnA {K : PySem.W.Frag} {x qual : Str} {st : Stmt} {f : Addr} {fd : FuncData} (F : Fun K x qual st f fd) {ps ks : List Str}
    (h : ∀ (kV doc pm : Value) (an : Option Addr) (cdv ct : Value) (us ws : List Value), us.length = 1 → ws.length = ks.length → bindArgs (PySem.W.fnOf x qual (defArgs st) (defBody st) (defScope st) .none kV doc pm an cdv ct) ⟨us, ks.zip ws⟩ = pure (ps.zip (us ++ ws))) :
    KBn K fd ps 1 ks gApp vApp := by
  obtain ⟨oc, od, kV, doc, pm, an, cdv, ct, osl, rfl, lk, hcd⟩ := F.ex
  exact ⟨fun s us ws _ l1 l2 => .of_eq (h kV doc pm an cdv ct us ws l1 l2), fun r1 r2 => r1.append r2⟩
theorem exm_b {K : PySem.W.Frag} {D B : Addr} {b : Bool} (su : PySem.W.subIn K (.ref B) (.type "BaseException") = some true) (ic : PySem.W.isClsIn K B = true) (ty : PySem.W.typeIn K (.ref B) = some (.type "type")) (sB : PySem.W.subIn K (.ref D) (.ref B) = some b) :
    PySem.W.exmOne K (.ref D) (.ref B) = some b := by
  unfold PySem.W.exmOne
  rw [su, if_pos (by decide +kernel)]
  show (if ((PySem.W.clsIn K B).isSome && PySem.W.typeIn K (.ref B) == some (.type "type")) = true then PySem.W.subIn K (.ref D) (.ref B) else none) = _
  have ic' : (PySem.W.clsIn K B).isSome = true := ic
  rw [ic', ty, if_pos (by decide +kernel)]
  exact sB
theorem kit_not {K : PySem.W.Frag} {C : Addr} {t : Value} (n : (t == Value.ref C) = false) (ic : PySem.W.isClsIn K C = true) (ty : PySem.W.typeIn K (.ref C) = some (.type "type")) (s : PySem.W.subIn K t (.ref C) = some false) : PySem.W.kitOne K t (.ref C) = some false := by
  show (if (t == Value.ref C) = true then some true else PySem.W.kitCls K t (.ref C)) = some false
  rw [n, if_neg (by simp)]
  show (if ((PySem.W.clsIn K C).isSome && PySem.W.typeIn K (.ref C) == some (.type "type")) = true then PySem.W.subIn K t (.ref C) else none) = _
  have ic' : (PySem.W.clsIn K C).isSome = true := ic
  rw [ic', ty, if_pos (by decide +kernel)]
  exact s
theorem kit_self {K : PySem.W.Frag} {C : Addr} : PySem.W.kitOne K (.ref C) (.ref C) = some true := by
  show (if (Value.ref C == Value.ref C) = true then some true else PySem.W.kitCls K (.ref C) (.ref C)) = some true
  rw [if_pos (by simp)]
theorem ref_ne {a b : Addr} (h : a ≠ b) : (Value.ref a == Value.ref b) = false := by
  rw [beq_eq_false_iff_ne]
  intro e
  injection e with e
  exact h e
def Oex (K : PySem.W.Frag) (C : Addr) : Prop := ∃ nm q N bs bm sn sub ab col dd k0 k1 k2 k3 k5, K.lookup C = some (excClassObj nm q C N bs bm true sn sub ab col dd k0 k1 k2 k3 k5 "ValueError.__new__") ∧ PySem.HandSPX.refsVE bm = true
theorem all_mk {P : Program} {w : World} {K : PySem.W.Frag} {h : Heap} {mg : Str → Option Value} {fa fS fD fNm fNs fPo fTm fPt fLo fLv fLN fLT fLP fOd fLw fKf fOn fKt fKs fRt fRu fIm fAl fWh fN fV fP fVs fPl fL fKI fKE fRI fRE fPI fTa fSi fPa fBo fHe pTa pSi pPa pBo pHe cK cR cB cD cP : Addr} {t3 t4 : Tok}
    (X : K.In h) (G : h.Ns mainGlobals mg) (hfa : mg "law" = some (.ref fa))
    (bS : PySem.W.nsIn K mainGlobals "_law_source" = some (some (.ref fS)))
    (ES : ∃ fd, Fun K "_law_source" "_law_source" sSource fS fd)
    (bD : PySem.W.nsIn K mainGlobals "_law_draw" = some (some (.ref fD)))
    (ED : ∃ fd, Fun K "_law_draw" "_law_draw" sDraw fD fd)
    (bNm : PySem.W.nsIn K mainGlobals "_law_name" = some (some (.ref fNm)))
    (ENm : ∃ fd, Fun K "_law_name" "_law_name" sName fNm fd)
    (bNs : PySem.W.nsIn K mainGlobals "_law_names" = some (some (.ref fNs)))
    (ENs : ∃ fd, Fun K "_law_names" "_law_names" sNames fNs fd)
    (bPo : PySem.W.nsIn K mainGlobals "_law_pool" = some (some (.ref fPo)))
    (EPo : ∃ fd, Fun K "_law_pool" "_law_pool" sPool fPo fd)
    (bTm : PySem.W.nsIn K mainGlobals "_law_term" = some (some (.ref fTm)))
    (ETm : ∃ fd, Fun K "_law_term" "_law_term" sTerm fTm fd)
    (bPt : PySem.W.nsIn K mainGlobals "_law_pattern" = some (some (.ref fPt)))
    (EPt : ∃ fd, Fun K "_law_pattern" "_law_pattern" sPat fPt fd)
    (bLo : PySem.W.nsIn K mainGlobals "_law_lot" = some (some (.ref fLo)))
    (ELo : ∃ fd, Fun K "_law_lot" "_law_lot" sLot7 fLo fd)
    (bLv : PySem.W.nsIn K mainGlobals "_law_variables" = some (some (.ref fLv)))
    (ELv : ∃ fd, Fun K "_law_variables" "_law_variables" sLVars fLv fd)
    (bLN : PySem.W.nsIn K mainGlobals "_law_is_name" = some (some (.ref fLN)))
    (ELN : ∃ fd, Fun K "_law_is_name" "_law_is_name" sLIN fLN fd)
    (bLT : PySem.W.nsIn K mainGlobals "_law_is_term" = some (some (.ref fLT)))
    (ELT : ∃ fd, Fun K "_law_is_term" "_law_is_term" sLIT fLT fd)
    (bLP : PySem.W.nsIn K mainGlobals "_law_is_pattern" = some (some (.ref fLP)))
    (ELP : ∃ fd, Fun K "_law_is_pattern" "_law_is_pattern" sLIP fLP fd)
    (bOd : PySem.W.nsIn K mainGlobals "_law_odd" = some (some (.ref fOd)))
    (EOd : ∃ fd, Fun K "_law_odd" "_law_odd" LawR.sOdd fOd fd)
    (bLw : PySem.W.nsIn K mainGlobals "_law_whole" = some (some (.ref fLw)))
    (ELw : ∃ fd, Fun K "_law_whole" "_law_whole" sLWhole fLw fd)
    (bKf : PySem.W.nsIn K mainGlobals "_law_key_fine" = some (some (.ref fKf)))
    (EKf : ∃ fd, Fun K "_law_key_fine" "_law_key_fine" sKFine fKf fd)
    (bOn : PySem.W.nsIn K mainGlobals "_law_once" = some (some (.ref fOn)))
    (EOn : ∃ fd, Fun K "_law_once" "_law_once" sLOnceN fOn fd)
    (bKt : PySem.W.nsIn K mainGlobals "_law_key_told" = some (some (.ref fKt)))
    (EKt : ∃ fd, Fun K "_law_key_told" "_law_key_told" sKTold fKt fd)
    (bKs : PySem.W.nsIn K mainGlobals "_law_keys" = some (some (.ref fKs)))
    (EKs : ∃ fd, Fun K "_law_keys" "_law_keys" sKeys fKs fd)
    (bRt : PySem.W.nsIn K mainGlobals "_law_rule_told" = some (some (.ref fRt)))
    (ERt : ∃ fd, Fun K "_law_rule_told" "_law_rule_told" sRTold fRt fd)
    (bRu : PySem.W.nsIn K mainGlobals "_law_rule_due" = some (some (.ref fRu)))
    (ERu : ∃ fd, Fun K "_law_rule_due" "_law_rule_due" sRDue fRu fd)
    (bIm : PySem.W.nsIn K mainGlobals "_law_implications" = some (some (.ref fIm)))
    (EIm : ∃ fd, Fun K "_law_implications" "_law_implications" sImpl fIm fd)
    (bAl : PySem.W.nsIn K mainGlobals "_law_alike" = some (some (.ref fAl)))
    (EAl : ∃ fd, Fun K "_law_alike" "_law_alike" sAlike fAl fd)
    (bWh : PySem.W.nsIn K mainGlobals "is_whole" = some (some (.ref fWh)))
    (EWh : ∃ fd, Fun K "is_whole" "is_whole" sWhole fWh fd)
    (bN : PySem.W.nsIn K mainGlobals "is_name" = some (some (.ref fN)))
    (EN : ∃ fd, Fun K "is_name" "is_name" sIsN fN fd)
    (bV : PySem.W.nsIn K mainGlobals "is_variable" = some (some (.ref fV)))
    (EV : ∃ fd, Fun K "is_variable" "is_variable" sIsV9 fV fd)
    (bP : PySem.W.nsIn K mainGlobals "is_pattern" = some (some (.ref fP)))
    (EP : ∃ fd, Fun K "is_pattern" "is_pattern" sIsP9 fP fd)
    (bVs : PySem.W.nsIn K mainGlobals "variables_of" = some (some (.ref fVs)))
    (EVs : ∃ fd, Fun K "variables_of" "variables_of" sVars fVs fd)
    (bPl : PySem.W.nsIn K mainGlobals "are_places" = some (some (.ref fPl)))
    (EPl : ∃ fd, Fun K "are_places" "are_places" sPlaces fPl fd)
    (bL : PySem.W.nsIn K mainGlobals "law" = some (some (.ref fL)))
    (EL : ∃ fd, Fun K "law" "law" sLaw fL fd)
    (bCK : PySem.W.nsIn K mainGlobals "Key" = some (some (.ref cK)))
    (bCR : PySem.W.nsIn K mainGlobals "Rule" = some (some (.ref cR)))
    (bXB : PySem.W.nsIn K mainGlobals "BadKey" = some (some (.ref cB)))
    (bXD : PySem.W.nsIn K mainGlobals "BadRule" = some (some (.ref cD)))
    (bXP : PySem.W.nsIn K mainGlobals "BadPattern" = some (some (.ref cP)))
    (bKI : PySem.W.findIn K (.ref cK) "__init__" = some (some (.ref fKI)))
    (EKI : ∃ fd, Fun K "__init__" "Key.__init__" sInitK fKI fd)
    (iKI : PySem.W.isFn K (.ref fKI) = true)
    (bKE : PySem.W.findIn K (.ref cK) "__eq__" = some (some (.ref fKE)))
    (EKE : ∃ fd, Fun K "__eq__" "Key.__eq__" sEqK fKE fd)
    (iKE : PySem.W.isFn K (.ref fKE) = true)
    (bRI : PySem.W.findIn K (.ref cR) "__init__" = some (some (.ref fRI)))
    (ERI : ∃ fd, Fun K "__init__" "Rule.__init__" sInitR fRI fd)
    (iRI : PySem.W.isFn K (.ref fRI) = true)
    (bRE : PySem.W.findIn K (.ref cR) "__eq__" = some (some (.ref fRE)))
    (ERE : ∃ fd, Fun K "__eq__" "Rule.__eq__" sEqR fRE fd)
    (iRE : PySem.W.isFn K (.ref fRE) = true)
    (bPI : PySem.W.findIn K (.ref cP) "__init__" = some (some (.ref fPI)))
    (EPI : ∃ fd, Fun K "__init__" "BadPattern.__init__" sBPi fPI fd)
    (iPI : PySem.W.typeIn K (.ref fPI) = some (.type "function"))
    (bTa : PySem.W.findIn K (.ref cK) "table" = some (some (.ref pTa)))
    (gTa : PySem.W.specialIn K (.ref pTa) "__get__" = some (some (.builtin "property.__get__")))
    (tTa : PySem.W.takesIn K (.ref pTa) = some true)
    (XrTa : ∃ rest, PySem.W.recIn K pTa "property" = some (.ref fTa :: rest))
    (ETa : ∃ fd, Fun K "table" "Key.table" sTabK fTa fd)
    (bSi : PySem.W.findIn K (.ref cK) "size" = some (some (.ref pSi)))
    (gSi : PySem.W.specialIn K (.ref pSi) "__get__" = some (some (.builtin "property.__get__")))
    (tSi : PySem.W.takesIn K (.ref pSi) = some true)
    (XrSi : ∃ rest, PySem.W.recIn K pSi "property" = some (.ref fSi :: rest))
    (ESi : ∃ fd, Fun K "size" "Key.size" sSizK fSi fd)
    (bPa : PySem.W.findIn K (.ref cK) "places" = some (some (.ref pPa)))
    (gPa : PySem.W.specialIn K (.ref pPa) "__get__" = some (some (.builtin "property.__get__")))
    (tPa : PySem.W.takesIn K (.ref pPa) = some true)
    (XrPa : ∃ rest, PySem.W.recIn K pPa "property" = some (.ref fPa :: rest))
    (EPa : ∃ fd, Fun K "places" "Key.places" sPlaK fPa fd)
    (bBo : PySem.W.findIn K (.ref cR) "body" = some (some (.ref pBo)))
    (gBo : PySem.W.specialIn K (.ref pBo) "__get__" = some (some (.builtin "property.__get__")))
    (tBo : PySem.W.takesIn K (.ref pBo) = some true)
    (XrBo : ∃ rest, PySem.W.recIn K pBo "property" = some (.ref fBo :: rest))
    (EBo : ∃ fd, Fun K "body" "Rule.body" sBodR fBo fd)
    (bHe : PySem.W.findIn K (.ref cR) "head" = some (some (.ref pHe)))
    (gHe : PySem.W.specialIn K (.ref pHe) "__get__" = some (some (.builtin "property.__get__")))
    (tHe : PySem.W.takesIn K (.ref pHe) = some true)
    (XrHe : ∃ rest, PySem.W.recIn K pHe "property" = some (.ref fHe :: rest))
    (EHe : ∃ fd, Fun K "head" "Rule.head" sHeaR fHe fd)
    (hn : PySem.W.specialIn K (.builtin "object.__class__") "__get__" = some (some (.builtin "getset_descriptor.__get__")))
    (htk : PySem.W.takesIn K (.builtin "object.__class__") = some true)
    (pgK : PySem.W.plainGet K cK Str.empty = true)
    (hdK : PySem.W.hasDictIn K cK = true)
    (poK : PySem.W.plainOver K cK = true)
    (saK : PySem.W.findIn K (.ref cK) "__setattr__" = some (some (.builtin "object.__setattr__")))
    (mkK : PySem.W.makesIn K cK = true)
    (kcK : PySem.W.keepIn K (.ref cK) = true)
    (haK : PySem.W.findIn K (.ref cK) "__class__" = some (some (.builtin "object.__class__")))
    (hmK : PySem.W.mroIn K cK (.type "object") = some true)
    (neK : PySem.W.findIn K (.ref cK) "__ne__" = some (some (.builtin "object.__ne__")))
    (icK : PySem.W.isClsIn K cK = true)
    (tyK : PySem.W.typeIn K (.ref cK) = some (.type "type"))
    (slK : PySem.W.subIn K (.type "list") (.ref cK) = some false)
    (stK : PySem.W.subIn K (.type "tuple") (.ref cK) = some false)
    (nK0 : PySem.W.findIn K (.ref cK) "_table" = some none)
    (nK1 : PySem.W.findIn K (.ref cK) "_size" = some none)
    (nK2 : PySem.W.findIn K (.ref cK) "_places" = some none)
    (nK3 : PySem.W.findIn K (.ref cK) "_spots" = some none)
    (pgR : PySem.W.plainGet K cR Str.empty = true)
    (hdR : PySem.W.hasDictIn K cR = true)
    (poR : PySem.W.plainOver K cR = true)
    (saR : PySem.W.findIn K (.ref cR) "__setattr__" = some (some (.builtin "object.__setattr__")))
    (mkR : PySem.W.makesIn K cR = true)
    (kcR : PySem.W.keepIn K (.ref cR) = true)
    (haR : PySem.W.findIn K (.ref cR) "__class__" = some (some (.builtin "object.__class__")))
    (hmR : PySem.W.mroIn K cR (.type "object") = some true)
    (neR : PySem.W.findIn K (.ref cR) "__ne__" = some (some (.builtin "object.__ne__")))
    (icR : PySem.W.isClsIn K cR = true)
    (tyR : PySem.W.typeIn K (.ref cR) = some (.type "type"))
    (slR : PySem.W.subIn K (.type "list") (.ref cR) = some false)
    (stR : PySem.W.subIn K (.type "tuple") (.ref cR) = some false)
    (nR0 : PySem.W.findIn K (.ref cR) "_body" = some none)
    (nR1 : PySem.W.findIn K (.ref cR) "_head" = some none)
    (nR2 : PySem.W.findIn K (.ref cR) "_ready" = some none)
    (sKR : PySem.W.subIn K (.ref cK) (.ref cR) = some false)
    (sRK : PySem.W.subIn K (.ref cR) (.ref cK) = some false)
    (nd : cK ≠ cR)
    (exB : PySem.W.subIn K (.ref cB) (.type "BaseException") = some true)
    (txB : PySem.W.typeIn K (.ref cB) = some (.type "type"))
    (kxB : PySem.W.keepIn K (.ref cB) = true)
    (ixB : PySem.W.isClsIn K cB = true)
    (sxB : PySem.W.subIn K (.ref cB) (.ref cB) = some true)
    (QB : PySem.W.excIn K cB veB10 "ValueError.__new__" = true)
    (exD : PySem.W.subIn K (.ref cD) (.type "BaseException") = some true)
    (txD : PySem.W.typeIn K (.ref cD) = some (.type "type"))
    (kxD : PySem.W.keepIn K (.ref cD) = true)
    (ixD : PySem.W.isClsIn K cD = true)
    (sxD : PySem.W.subIn K (.ref cD) (.ref cD) = some true)
    (QD : PySem.W.excIn K cD veB10 "ValueError.__new__" = true)
    (exP : PySem.W.subIn K (.ref cP) (.type "BaseException") = some true)
    (txP : PySem.W.typeIn K (.ref cP) = some (.type "type"))
    (kxP : PySem.W.keepIn K (.ref cP) = true)
    (ixP : PySem.W.isClsIn K cP = true)
    (sxP : PySem.W.subIn K (.ref cP) (.ref cP) = some true)
    (sDP : PySem.W.subIn K (.ref cD) (.ref cP) = some false)
    (OP : Oex K cP)
    (saP : PySem.W.findIn K (.ref cP) "__setattr__" = some (some (.builtin "object.__setattr__")))
    (nlP : PySem.W.findIn K (.ref cP) "value" = some none)
    (gaP : PySem.W.findIn K (.ref cP) "__getattribute__" = some (some (.builtin "BaseException.__getattribute__")))
    (ggP : PySem.W.findIn K (.ref cP) "__getattr__" = some none)
    (hdP : PySem.W.hasDictIn K cP = true)
    (z_int : PySem.W.nsIn K mainGlobals "int" = some none)
    (z_str : PySem.W.nsIn K mainGlobals "str" = some none)
    (z_bool : PySem.W.nsIn K mainGlobals "bool" = some none)
    (z_len : PySem.W.nsIn K mainGlobals "len" = some none)
    (z_range : PySem.W.nsIn K mainGlobals "range" = some none)
    (z_tuple : PySem.W.nsIn K mainGlobals "tuple" = some none)
    (z_list : PySem.W.nsIn K mainGlobals "list" = some none)
    (z_sorted : PySem.W.nsIn K mainGlobals "sorted" = some none)
    (z_isinstance : PySem.W.nsIn K mainGlobals "isinstance" = some none)
    (z_set : PySem.W.nsIn K mainGlobals "set" = some none)
    (z_all : PySem.W.nsIn K mainGlobals "all" = some none)
    (z_min : PySem.W.nsIn K mainGlobals "min" = some none)
    (z_repr : PySem.W.nsIn K mainGlobals "repr" = some none)
    (c0 : PySem.W.nsIn K mainGlobals "LONGEST_NAME" = some (some (.int 12 t3)))
    (c1 : PySem.W.nsIn K mainGlobals "MOST_TERMS" = some (some (.int 3 t4)))
    : ∃ fd : FuncData, (∀ (s : Shared) (v : Value), BindsTo s fd ⟨[v], []⟩ [("_law_script", v)]) ∧
      ∀ base : Heap, K.In base → base.Ns mainGlobals mg → FnG P w K mg base CX0 9 fa fd ["_law_script"] (spLaw K) := by
  have e := hfa.symm.trans (PySem.W.mg_of X G bL)
  cases e
  obtain ⟨dS, FS⟩ := ES
  obtain ⟨dD, FD⟩ := ED
  obtain ⟨dNm, FNm⟩ := ENm
  obtain ⟨dNs, FNs⟩ := ENs
  obtain ⟨dPo, FPo⟩ := EPo
  obtain ⟨dTm, FTm⟩ := ETm
  obtain ⟨dPt, FPt⟩ := EPt
  obtain ⟨dLo, FLo⟩ := ELo
  obtain ⟨dLv, FLv⟩ := ELv
  obtain ⟨dLN, FLN⟩ := ELN
  obtain ⟨dLT, FLT⟩ := ELT
  obtain ⟨dLP, FLP⟩ := ELP
  obtain ⟨dOd, FOd⟩ := EOd
  obtain ⟨dLw, FLw⟩ := ELw
  obtain ⟨dKf, FKf⟩ := EKf
  obtain ⟨dOn, FOn⟩ := EOn
  obtain ⟨dKt, FKt⟩ := EKt
  obtain ⟨dKs, FKs⟩ := EKs
  obtain ⟨dRt, FRt⟩ := ERt
  obtain ⟨dRu, FRu⟩ := ERu
  obtain ⟨dIm, FIm⟩ := EIm
  obtain ⟨dAl, FAl⟩ := EAl
  obtain ⟨dWh, FWh⟩ := EWh
  obtain ⟨dN, FN⟩ := EN
  obtain ⟨dV, FV⟩ := EV
  obtain ⟨dP, FP⟩ := EP
  obtain ⟨dVs, FVs⟩ := EVs
  obtain ⟨dPl, FPl⟩ := EPl
  obtain ⟨dL, FL⟩ := EL
  obtain ⟨dKI, FKI⟩ := EKI
  obtain ⟨dKE, FKE⟩ := EKE
  obtain ⟨dRI, FRI⟩ := ERI
  obtain ⟨dRE, FRE⟩ := ERE
  obtain ⟨dPI, FPI⟩ := EPI
  obtain ⟨dTa, FTa⟩ := ETa
  obtain ⟨dSi, FSi⟩ := ESi
  obtain ⟨dPa, FPa⟩ := EPa
  obtain ⟨dBo, FBo⟩ := EBo
  obtain ⟨dHe, FHe⟩ := EHe
  have mS := PySem.W.mg_of X G bS
  have mD := PySem.W.mg_of X G bD
  have mNm := PySem.W.mg_of X G bNm
  have mNs := PySem.W.mg_of X G bNs
  have mPo := PySem.W.mg_of X G bPo
  have mTm := PySem.W.mg_of X G bTm
  have mPt := PySem.W.mg_of X G bPt
  have mLo := PySem.W.mg_of X G bLo
  have mLv := PySem.W.mg_of X G bLv
  have mLN := PySem.W.mg_of X G bLN
  have mLT := PySem.W.mg_of X G bLT
  have mLP := PySem.W.mg_of X G bLP
  have mOd := PySem.W.mg_of X G bOd
  have mLw := PySem.W.mg_of X G bLw
  have mKf := PySem.W.mg_of X G bKf
  have mOn := PySem.W.mg_of X G bOn
  have mKt := PySem.W.mg_of X G bKt
  have mKs := PySem.W.mg_of X G bKs
  have mRt := PySem.W.mg_of X G bRt
  have mRu := PySem.W.mg_of X G bRu
  have mIm := PySem.W.mg_of X G bIm
  have mAl := PySem.W.mg_of X G bAl
  have mWh := PySem.W.mg_of X G bWh
  have mN := PySem.W.mg_of X G bN
  have mV := PySem.W.mg_of X G bV
  have mP := PySem.W.mg_of X G bP
  have mVs := PySem.W.mg_of X G bVs
  have mPl := PySem.W.mg_of X G bPl
  have mL := PySem.W.mg_of X G bL
  have qS := FS.binds (ps := ["_law_cell"]) fun _ _ _ _ _ _ us hl => match us, hl with | [_], _ => rfl
  have qD := FD.binds (ps := ["_law_source_here", "_law_limit"]) fun _ _ _ _ _ _ us hl => match us, hl with | [_, _], _ => rfl
  have qNm := FNm.binds (ps := ["_law_source_here"]) fun _ _ _ _ _ _ us hl => match us, hl with | [_], _ => rfl
  have qNs := FNs.binds (ps := ["_law_source_here", "_law_many"]) fun _ _ _ _ _ _ us hl => match us, hl with | [_, _], _ => rfl
  have qPo := FPo.binds (ps := ["_law_source_here"]) fun _ _ _ _ _ _ us hl => match us, hl with | [_], _ => rfl
  have qTm := FTm.binds (ps := ["_law_source_here", "_law_pool_here", "_law_variables_here", "_law_share"]) fun _ _ _ _ _ _ us hl => match us, hl with | [_, _, _, _], _ => rfl
  have qPt := FPt.binds (ps := ["_law_source_here", "_law_pool_here", "_law_variables_here", "_law_share"]) fun _ _ _ _ _ _ us hl => match us, hl with | [_, _, _, _], _ => rfl
  have qLo := FLo.binds (ps := ["_law_source_here", "_law_pool_here", "_law_variables_here", "_law_most"]) fun _ _ _ _ _ _ us hl => match us, hl with | [_, _, _, _], _ => rfl
  have qLv := FLv.binds (ps := ["_law_lot_here"]) fun _ _ _ _ _ _ us hl => match us, hl with | [_], _ => rfl
  have qLN := FLN.binds (ps := ["_law_value"]) fun _ _ _ _ _ _ us hl => match us, hl with | [_], _ => rfl
  have qLT := FLT.binds (ps := ["_law_value", "_law_open_too"]) fun _ _ _ _ _ _ us hl => match us, hl with | [_, _], _ => rfl
  have qLP := FLP.binds (ps := ["_law_value", "_law_open_too"]) fun _ _ _ _ _ _ us hl => match us, hl with | [_, _], _ => rfl
  have qOd := FOd.binds (ps := ["_law_source_here", "_law_pattern_here"]) fun _ _ _ _ _ _ us hl => match us, hl with | [_, _], _ => rfl
  have qLw := FLw.binds (ps := ["_law_value"]) fun _ _ _ _ _ _ us hl => match us, hl with | [_], _ => rfl
  have qKf := FKf.binds (ps := ["_law_table", "_law_size", "_law_places"]) fun _ _ _ _ _ _ us hl => match us, hl with | [_, _, _], _ => rfl
  have qOn := FOn.binds (ps := ["_law_items"]) fun _ _ _ _ _ _ us hl => match us, hl with | [_], _ => rfl
  have qKt := FKt.binds (ps := ["_law_table", "_law_size", "_law_places"]) fun _ _ _ _ _ _ us hl => match us, hl with | [_, _, _], _ => rfl
  have qKs := FKs.binds (ps := ["_law_source_here", "_law_pool_here"]) fun _ _ _ _ _ _ us hl => match us, hl with | [_, _], _ => rfl
  have qRt := FRt.binds (ps := ["_law_body", "_law_head"]) fun _ _ _ _ _ _ us hl => match us, hl with | [_, _], _ => rfl
  have qRu := FRu.binds (ps := ["_law_body", "_law_head"]) fun _ _ _ _ _ _ us hl => match us, hl with | [_, _], _ => rfl
  have qIm := FIm.binds (ps := ["_law_source_here", "_law_pool_here"]) fun _ _ _ _ _ _ us hl => match us, hl with | [_, _], _ => rfl
  have qAl := FAl.binds (ps := ["_law_source_here", "_law_pool_here"]) fun _ _ _ _ _ _ us hl => match us, hl with | [_, _], _ => rfl
  have qWh := FWh.binds (ps := ["value"]) fun _ _ _ _ _ _ us hl => match us, hl with | [_], _ => rfl
  have qN := FN.binds (ps := ["value"]) fun _ _ _ _ _ _ us hl => match us, hl with | [_], _ => rfl
  have qV := FV.binds (ps := ["value"]) fun _ _ _ _ _ _ us hl => match us, hl with | [_], _ => rfl
  have qP := FP.binds (ps := ["value"]) fun _ _ _ _ _ _ us hl => match us, hl with | [_], _ => rfl
  have qVs := FVs.binds (ps := ["lot"]) fun _ _ _ _ _ _ us hl => match us, hl with | [_], _ => rfl
  have qPl := FPl.binds (ps := ["places", "size"]) fun _ _ _ _ _ _ us hl => match us, hl with | [_, _], _ => rfl
  have qKI := FKI.binds (ps := ["self", "table", "size", "places"]) fun _ _ _ _ _ _ us hl => match us, hl with | [_, _, _, _], _ => rfl
  have qKE := FKE.binds (ps := ["self", "other"]) fun _ _ _ _ _ _ us hl => match us, hl with | [_, _], _ => rfl
  have qRI := FRI.binds (ps := ["self", "body", "head"]) fun _ _ _ _ _ _ us hl => match us, hl with | [_, _, _], _ => rfl
  have qRE := FRE.binds (ps := ["self", "other"]) fun _ _ _ _ _ _ us hl => match us, hl with | [_, _], _ => rfl
  have qPI := FPI.binds (ps := ["self", "value"]) fun _ _ _ _ _ _ us hl => match us, hl with | [_, _], _ => rfl
  have qTa := FTa.binds (ps := ["self"]) fun _ _ _ _ _ _ us hl => match us, hl with | [_], _ => rfl
  have qSi := FSi.binds (ps := ["self"]) fun _ _ _ _ _ _ us hl => match us, hl with | [_], _ => rfl
  have qPa := FPa.binds (ps := ["self"]) fun _ _ _ _ _ _ us hl => match us, hl with | [_], _ => rfl
  have qBo := FBo.binds (ps := ["self"]) fun _ _ _ _ _ _ us hl => match us, hl with | [_], _ => rfl
  have qHe := FHe.binds (ps := ["self"]) fun _ _ _ _ _ _ us hl => match us, hl with | [_], _ => rfl
  have kKI := kbnA FKI (ps := ["self", "table", "size", "places"]) (ks := ["table", "size", "places"]) fun _ _ _ _ _ _ us ws l1 l2 => match us, ws, l1, l2 with | [_], [_, _, _], _, _ => rfl
  have kRI := kbnA FRI (ps := ["self", "body", "head"]) (ks := ["body", "head"]) fun _ _ _ _ _ _ us ws l1 l2 => match us, ws, l1, l2 with | [_], [_, _], _, _ => rfl
  have mCK := PySem.W.mg_of X G bCK
  have mCR := PySem.W.mg_of X G bCR
  have mXB := PySem.W.mg_of X G bXB
  have mXD := PySem.W.mg_of X G bXD
  have mXP := PySem.W.mg_of X G bXP
  have y_int := PySem.W.mg_none_of X G z_int
  have y_str := PySem.W.mg_none_of X G z_str
  have y_bool := PySem.W.mg_none_of X G z_bool
  have y_len := PySem.W.mg_none_of X G z_len
  have y_range := PySem.W.mg_none_of X G z_range
  have y_tuple := PySem.W.mg_none_of X G z_tuple
  have y_list := PySem.W.mg_none_of X G z_list
  have y_sorted := PySem.W.mg_none_of X G z_sorted
  have y_isinstance := PySem.W.mg_none_of X G z_isinstance
  have y_set := PySem.W.mg_none_of X G z_set
  have y_all := PySem.W.mg_none_of X G z_all
  have y_min := PySem.W.mg_none_of X G z_min
  have y_repr := PySem.W.mg_none_of X G z_repr
  have g0 := PySem.W.mg_of X G c0
  have g1 := PySem.W.mg_of X G c1
  have clK : Cls K cK := ⟨pgK, hdK, poK, saK⟩
  have clR : Cls K cR := ⟨pgR, hdR, poR, saR⟩
  have TK : ClsK K mg cK := ⟨clK, nK0, nK1, nK2, nK3⟩
  have TR : ClsR K mg cR := ⟨clR, nR0, nR1, nR2⟩
  have MK : Mk K cK fKI := ⟨mkK, bKI, iKI, kcK⟩
  have MR : Mk K cR fRI := ⟨mkR, bRI, iRI, kcR⟩
  have ICK : C8.InsC K cK := ⟨clK, haK, hn, htk, hmK, kit_self⟩
  have ICR : C8.InsC K cR := ⟨clR, haR, hn, htk, hmR, kit_self⟩
  have TP : OexC K cP := ⟨OP, saP, exP, txP, kxP⟩
  have XP : XfC K cP := ⟨gaP, ggP, exP, hdP⟩
  have rB : ∀ {X : Cx}, X.K = K → Raises X (.ref cB) := fun e => raises_own (by rw [e]; exact exB) (by rw [e]; exact txB)
  have rD : ∀ {X : Cx}, X.K = K → Raises X (.ref cD) := fun e => raises_own (by rw [e]; exact exD) (by rw [e]; exact txD)
  have nKR : PySem.W.notFirst K cK (.ref cR) = true := by unfold PySem.W.notFirst; rw [sRK]; simp
  have nRK : PySem.W.notFirst K cR (.ref cK) = true := by unfold PySem.W.notFirst; rw [sKR]; simp
  have PTa : PropOf K cK "table" pTa fTa := ⟨bTa, gTa, tTa, XrTa⟩
  have PSi : PropOf K cK "size" pSi fSi := ⟨bSi, gSi, tSi, XrSi⟩
  have PPa : PropOf K cK "places" pPa fPa := ⟨bPa, gPa, tPa, XrPa⟩
  have PBo : PropOf K cR "body" pBo fBo := ⟨bBo, gBo, tBo, XrBo⟩
  have PHe : PropOf K cR "head" pHe fHe := ⟨bHe, gHe, tHe, XrHe⟩
  have FL' := FL
  obtain ⟨oc, od, kV, doc, pm, an, cdv, ct, osl, ez, _, _⟩ := FL.ex
  subst ez
  refine ⟨PySem.W.fnOf "law" "law" (defArgs sLaw) (defBody sLaw) (defScope sLaw) .none kV doc pm an cdv ct, fun s v => .of_eq rfl, fun base _ _ => ?_⟩
  have GS := ok_source (P := P) (w := w) (mg := mg) (base := base) FS
  have GD := ok_draw (P := P) (w := w) (mg := mg) (base := base) FD y_int
  have GNm := ok_name (P := P) (w := w) (mg := mg) (base := base) FNm FD qD y_int mD y_range
  have GNs := ok_names (P := P) (w := w) (mg := mg) (base := base) FNs GNm FNm.kp qNm mNm y_range y_str
  have GPo := ok_pool (P := P) (w := w) (mg := mg) (base := base) FPo GD FD.kp qD mD GNs FNs.kp qNs mNs y_range y_len
  have GTm := ok_term (P := P) (w := w) (mg := mg) (base := base) FTm GD FD.kp qD mD y_len
  have GPt := ok_pat (P := P) (w := w) (mg := mg) (base := base) FPt GD FD.kp qD mD GTm FTm.kp qTm mTm y_len y_range y_tuple
  have GLo := ok_lot (P := P) (w := w) (mg := mg) (base := base) FLo GD FD.kp qD mD GPt FPt.kp qPt mPt y_range
  have GLv := ok_lvars (P := P) (w := w) (mg := mg) (base := base) FLv y_sorted
  have GN := ok_isN (P := P) (w := w) (mg := mg) (base := base) FN g0 y_isinstance y_str y_len
  have GV := ok_isV (P := P) (w := w) (mg := mg) (base := base) FV GN FN.kp qN mN y_isinstance y_str
  have GP := ok_isP (P := P) (w := w) (mg := mg) (base := base) FP GN FN.kp qN mN GV FV.kp qV mV g1 y_isinstance y_tuple y_len
  have GVs := ok_vars (P := P) (w := w) (mg := mg) (base := base) FVs y_sorted
  have GLN := ok_LIN (P := P) (w := w) (mg := mg) (base := base) FLN y_isinstance y_str y_len
  have GLT := ok_LIT (P := P) (w := w) (mg := mg) (base := base) FLT GLN FLN.kp qLN mLN y_isinstance y_str
  have GLP := ok_LIP (P := P) (w := w) (mg := mg) (base := base) FLP GLN FLN.kp qLN mLN GLT FLT.kp qLT mLT y_isinstance y_tuple y_len
  have GWh := ok_whole (P := P) (w := w) (mg := mg) (base := base) FWh y_isinstance y_int y_bool
  have GLw := ok_Lwhole (P := P) (w := w) (mg := mg) (base := base) FLw y_isinstance y_int y_bool
  have GPl := ok_places (P := P) (w := w) (mg := mg) (base := base) FPl GWh FWh.kp qWh mWh y_isinstance y_list y_tuple y_all y_len y_set
  have GKI := ok_initK (P := P) (w := w) (mg := mg) (base := base) (B := cB) FKI TK GN FN.kp qN mN GWh FWh.kp qWh mWh GPl FPl.kp qPl mPl g1 PySem.F.excBase_ValueError QB mXB kxB rB y_sorted y_tuple
  have GPI := ok_BP (P := P) (w := w) (mg := mg) (base := base) FPI TP nlP
  have GRI := ok_initR (P := P) (w := w) (mg := mg) (base := base) (D := cD) FRI TR GP FP.kp qP mP GVs FVs.kp qVs mVs TP bPI iPI GPI qPI mXP PySem.F.excBase_ValueError QD mXD kxD rD y_all y_tuple
  have GTa := ok_tabK (P := P) (w := w) (mg := mg) (base := base) FTa TK
  have GSi := ok_sizK (P := P) (w := w) (mg := mg) (base := base) FSi TK
  have GPa := ok_plaK (P := P) (w := w) (mg := mg) (base := base) FPa TK
  have GBo := ok_bodR (P := P) (w := w) (mg := mg) (base := base) FBo TR
  have GHe := ok_heaR (P := P) (w := w) (mg := mg) (base := base) FHe TR
  have GKt := ok_ktold (P := P) (w := w) (mg := mg) (base := base) FKt (C := cK) (B := cB) ⟨TK, mCK, mXB, ⟨_, _, MK, GKI, qKI⟩, ⟨_, _, _, PTa, GTa, qTa⟩, ⟨_, _, _, PSi, GSi, qSi⟩, ⟨_, _, _, PPa, GPa, qPa⟩, exm_b exB ixB txB sxB⟩
  have GRt := ok_rtold (P := P) (w := w) (mg := mg) (base := base) FRt (C := cR) (B := cP) (D := cD) ⟨TR, mCR, mXP, mXD, ⟨_, _, MR, GRI, qRI⟩, ⟨_, _, _, PBo, GBo, qBo⟩, ⟨_, _, _, PHe, GHe, qHe⟩, XP, nlP, exm_b exP ixP txP sxP, exm_b exP ixP txP sDP, exm_b exD ixD txD sxD⟩ y_repr
  have GOn := ok_onceN (P := P) (w := w) (mg := mg) (base := base) FOn y_range y_len
  have GKf := ok_kfine (P := P) (w := w) (mg := mg) (base := base) FKf GLN FLN.kp qLN mLN GLw FLw.kp qLw mLw GOn FOn.kp qOn mOn y_isinstance y_list y_tuple y_len
  have GKs := ok_keys (P := P) (w := w) (mg := mg) (base := base) FKs GD FD.kp qD mD GKt FKt.kp qKt mKt GKf FKf.kp qKf mKf y_range y_min y_int y_tuple y_sorted y_list
  have GOd := LawR.ok_odd (P := P) (w := w) (mg := mg) (base := base) FOd GD FD.kp qD mD y_len y_list
  have GRu := ok_rdue (P := P) (w := w) (mg := mg) (base := base) FRu GLP FLP.kp qLP mLP GLv FLv.kp qLv mLv y_list y_tuple y_repr
  have GIm := ok_impl (P := P) (w := w) (mg := mg) (base := base) FIm GD FD.kp qD mD GLo FLo.kp qLo mLo GPt FPt.kp qPt mPt GOd FOd.kp qOd mOd GRt FRt.kp qRt mRt GRu FRu.kp qRu mRu y_range y_len y_tuple
  have GKE := ok_eqK (P := P) (w := w) (mg := mg) (base := base) FKE TK ICK mCK y_isinstance
  have GRE := ok_eqR (P := P) (w := w) (mg := mg) (base := base) FRE TR ICR mCR y_isinstance
  have GAl := ok_alike (P := P) (w := w) (mg := mg) (base := base) FAl GD FD.kp qD mD TK mCK MK GKI qKI kKI ⟨⟨_, _, GKE, qKE, bKE, iKE⟩, hmK, neK, slK, stK⟩ ⟨_, _, _, PPa, GPa, qPa⟩ GLo FLo.kp qLo mLo GPt FPt.kp qPt mPt GLv FLv.kp qLv mLv TR mCR MR GRI qRI kRI ⟨⟨_, _, GRE, qRE, bRE, iRE⟩, hmR, neR, slR, stR⟩ ⟨_, _, _, PBo, GBo, qBo⟩ ⟨_, _, _, PHe, GHe, qHe⟩ nKR nRK ICK ICR (kit_not rfl icK tyK slK) (kit_not rfl icK tyK stK) (kit_not (ref_ne nd.symm) icK tyK sRK) (kit_not (ref_ne nd) icR tyR sKR) y_range y_list y_tuple
  exact ok_law FL' GS FS.kp qS mS GPo FPo.kp qPo mPo GKs FKs.kp qKs mKs GIm FIm.kp qIm mIm GAl FAl.kp qAl mAl GKt FKt.kp qKt mKt
theorem walk {l : PySem.W.OpenLaw} {q : Program} {loose : List Str} {XP : (Str → Option Value) → Heap → Prop} {YP : World → Heap → Prop} {d : DefRec} {K : Params → PySem.W.Frag}
    (hn : l.most = some 63) (hdf : d.params.defaults = []) (hY : ∀ (w : World) (h : Heap), YP w h → (K w.params).In h)
    (F : ∀ (w : World) (mg : Str → Option Value) (fa : Addr) (h : Heap), (K w.params).In h → h.Ns mainGlobals mg → mg d.name = some (.ref fa) →
      ∃ fd : FuncData, (∀ (s : Shared) (u : Value), BindsTo s fd ⟨[u], []⟩ [("_law_script", u)]) ∧
        ∀ base : Heap, (K w.params).In base → base.Ns mainGlobals mg → FnG l.prog w (K w.params) mg base CX0 9 fa fd ["_law_script"] (spLaw (K w.params))) :
    PySem.W.WalkO q loose XP YP l.row.toRowW d [] (fun f vs => PySem.call f vs) :=
  L2.XVal.walkG (n := 63) (k := 9) (x := "_law_script") (sp := fun w => spLaw (K w.params)) hn (by decide) hdf ⟨rfl, by decide, by decide⟩ hY F
    fun _ _ a ns hl hb _ hS => ⟨a, ns, rfl, hS, hl, hb, fun _ => rfl⟩
end L2.LawH
set_option Elab.async false
open PySem PySem.W PyProof.Rows
set_option maxRecDepth 100000 in
set_option maxHeartbeats 0 in
theorem PySem.Challenge.cw_fullestrows_k10_rules_made_holds : PySem.Challenge.rw_fullestrows_k10_rules_made.Holds := by
  w_on; o_law; k_head; (case hw => w_witness2)
  k_fill
  refine L2.LawH.walk (l := PySem.Challenge.rw_fullestrows_k10_rules_made) rfl rfl (fun w h Y => PySem.W.kIn_of Y) ?F
  case F =>
    intro w mg fa h KX G hmg
    refine' L2.LawH.all_mk KX G hmg ?bS ?ES ?bD ?ED ?bNm ?ENm ?bNs ?ENs ?bPo ?EPo ?bTm ?ETm ?bPt ?EPt ?bLo ?ELo ?bLv ?ELv ?bLN ?ELN ?bLT ?ELT ?bLP ?ELP ?bOd ?EOd ?bLw ?ELw ?bKf ?EKf ?bOn ?EOn ?bKt ?EKt ?bKs ?EKs ?bRt ?ERt ?bRu ?ERu ?bIm ?EIm ?bAl ?EAl ?bWh ?EWh ?bN ?EN ?bV ?EV ?bP ?EP ?bVs ?EVs ?bPl ?EPl ?bL ?EL ?bCK ?bCR ?bXB ?bXD ?bXP ?bKI ?EKI ?iKI ?bKE ?EKE ?iKE ?bRI ?ERI ?iRI ?bRE ?ERE ?iRE ?bPI ?EPI ?iPI ?bTa ?gTa ?tTa ?XrTa ?ETa ?bSi ?gSi ?tSi ?XrSi ?ESi ?bPa ?gPa ?tPa ?XrPa ?EPa ?bBo ?gBo ?tBo ?XrBo ?EBo ?bHe ?gHe ?tHe ?XrHe ?EHe ?hn ?htk ?pgK ?hdK ?poK ?saK ?mkK ?kcK ?haK ?hmK ?neK ?icK ?tyK ?slK ?stK ?nK0 ?nK1 ?nK2 ?nK3 ?pgR ?hdR ?poR ?saR ?mkR ?kcR ?haR ?hmR ?neR ?icR ?tyR ?slR ?stR ?nR0 ?nR1 ?nR2 ?sKR ?sRK ?nd ?exB ?txB ?kxB ?ixB ?sxB ?QB ?exD ?txD ?kxD ?ixD ?sxD ?QD ?exP ?txP ?kxP ?ixP ?sxP ?sDP ?OP ?saP ?nlP ?gaP ?ggP ?hdP ?z_int ?z_str ?z_bool ?z_len ?z_range ?z_tuple ?z_list ?z_sorted ?z_isinstance ?z_set ?z_all ?z_min ?z_repr ?c0 ?c1
    (case bS => k_is)
    (case ES => exact ⟨_, L2.fun_mk (by k_is) (by k_is) (by k_is)⟩)
    (case bD => k_is)
    (case ED => exact ⟨_, L2.fun_mk (by k_is) (by k_is) (by k_is)⟩)
    (case bNm => k_is)
    (case ENm => exact ⟨_, L2.fun_mk (by k_is) (by k_is) (by k_is)⟩)
    (case bNs => k_is)
    (case ENs => exact ⟨_, L2.fun_mk (by k_is) (by k_is) (by k_is)⟩)
    (case bPo => k_is)
    (case EPo => exact ⟨_, L2.fun_mk (by k_is) (by k_is) (by k_is)⟩)
    (case bTm => k_is)
    (case ETm => exact ⟨_, L2.fun_mk (by k_is) (by k_is) (by k_is)⟩)
    (case bPt => k_is)
    (case EPt => exact ⟨_, L2.fun_mk (by k_is) (by k_is) (by k_is)⟩)
    (case bLo => k_is)
    (case ELo => exact ⟨_, L2.fun_mk (by k_is) (by k_is) (by k_is)⟩)
    (case bLv => k_is)
    (case ELv => exact ⟨_, L2.fun_mk (by k_is) (by k_is) (by k_is)⟩)
    (case bLN => k_is)
    (case ELN => exact ⟨_, L2.fun_mk (by k_is) (by k_is) (by k_is)⟩)
    (case bLT => k_is)
    (case ELT => exact ⟨_, L2.fun_mk (by k_is) (by k_is) (by k_is)⟩)
    (case bLP => k_is)
    (case ELP => exact ⟨_, L2.fun_mk (by k_is) (by k_is) (by k_is)⟩)
    (case bOd => k_is)
    (case EOd => exact ⟨_, L2.fun_mk (by k_is) (by k_is) (by k_is)⟩)
    (case bLw => k_is)
    (case ELw => exact ⟨_, L2.fun_mk (by k_is) (by k_is) (by k_is)⟩)
    (case bKf => k_is)
    (case EKf => exact ⟨_, L2.fun_mk (by k_is) (by k_is) (by k_is)⟩)
    (case bOn => k_is)
    (case EOn => exact ⟨_, L2.fun_mk (by k_is) (by k_is) (by k_is)⟩)
    (case bKt => k_is)
    (case EKt => exact ⟨_, L2.fun_mk (by k_is) (by k_is) (by k_is)⟩)
    (case bKs => k_is)
    (case EKs => exact ⟨_, L2.fun_mk (by k_is) (by k_is) (by k_is)⟩)
    (case bRt => k_is)
    (case ERt => exact ⟨_, L2.fun_mk (by k_is) (by k_is) (by k_is)⟩)
    (case bRu => k_is)
    (case ERu => exact ⟨_, L2.fun_mk (by k_is) (by k_is) (by k_is)⟩)
    (case bIm => k_is)
    (case EIm => exact ⟨_, L2.fun_mk (by k_is) (by k_is) (by k_is)⟩)
    (case bAl => k_is)
    (case EAl => exact ⟨_, L2.fun_mk (by k_is) (by k_is) (by k_is)⟩)
    (case bWh => k_is)
    (case EWh => exact ⟨_, L2.fun_mk (by k_is) (by k_is) (by k_is)⟩)
    (case bN => k_is)
    (case EN => exact ⟨_, L2.fun_mk (by k_is) (by k_is) (by k_is)⟩)
    (case bV => k_is)
    (case EV => exact ⟨_, L2.fun_mk (by k_is) (by k_is) (by k_is)⟩)
    (case bP => k_is)
    (case EP => exact ⟨_, L2.fun_mk (by k_is) (by k_is) (by k_is)⟩)
    (case bVs => k_is)
    (case EVs => exact ⟨_, L2.fun_mk (by k_is) (by k_is) (by k_is)⟩)
    (case bPl => k_is)
    (case EPl => exact ⟨_, L2.fun_mk (by k_is) (by k_is) (by k_is)⟩)
    (case bL => k_is)
    (case EL => exact ⟨_, L2.fun_mk (by k_is) (by k_is) (by k_is)⟩)
    (case bCK => k_is)
    (case bCR => k_is)
    (case bXB => k_is)
    (case bXD => k_is)
    (case bXP => k_is)
    (case bKI => k_is)
    (case EKI => exact ⟨_, L2.fun_mk (by k_is) (by k_is) (by k_is)⟩)
    (case iKI => k_is)
    (case bKE => k_is)
    (case EKE => exact ⟨_, L2.fun_mk (by k_is) (by k_is) (by k_is)⟩)
    (case iKE => k_is)
    (case bRI => k_is)
    (case ERI => exact ⟨_, L2.fun_mk (by k_is) (by k_is) (by k_is)⟩)
    (case iRI => k_is)
    (case bRE => k_is)
    (case ERE => exact ⟨_, L2.fun_mk (by k_is) (by k_is) (by k_is)⟩)
    (case iRE => k_is)
    (case bPI => k_is)
    (case EPI => exact ⟨_, L2.fun_mk (by k_is) (by k_is) (by k_is)⟩)
    (case iPI => k_is)
    (case bTa => k_is)
    (case gTa => k_is)
    (case tTa => k_is)
    (case XrTa => exact ⟨_, by k_is⟩)
    (case ETa => exact ⟨_, L2.fun_mk (by k_is) (by k_is) (by k_is)⟩)
    (case bSi => k_is)
    (case gSi => k_is)
    (case tSi => k_is)
    (case XrSi => exact ⟨_, by k_is⟩)
    (case ESi => exact ⟨_, L2.fun_mk (by k_is) (by k_is) (by k_is)⟩)
    (case bPa => k_is)
    (case gPa => k_is)
    (case tPa => k_is)
    (case XrPa => exact ⟨_, by k_is⟩)
    (case EPa => exact ⟨_, L2.fun_mk (by k_is) (by k_is) (by k_is)⟩)
    (case bBo => k_is)
    (case gBo => k_is)
    (case tBo => k_is)
    (case XrBo => exact ⟨_, by k_is⟩)
    (case EBo => exact ⟨_, L2.fun_mk (by k_is) (by k_is) (by k_is)⟩)
    (case bHe => k_is)
    (case gHe => k_is)
    (case tHe => k_is)
    (case XrHe => exact ⟨_, by k_is⟩)
    (case EHe => exact ⟨_, L2.fun_mk (by k_is) (by k_is) (by k_is)⟩)
    (case hn => k_is)
    (case htk => k_is)
    (case pgK => k_is)
    (case hdK => k_is)
    (case poK => k_is)
    (case saK => k_is)
    (case mkK => k_is)
    (case kcK => k_is)
    (case haK => k_is)
    (case hmK => k_is)
    (case neK => k_is)
    (case icK => k_is)
    (case tyK => k_is)
    (case slK => k_is)
    (case stK => k_is)
    (case nK0 => k_is)
    (case nK1 => k_is)
    (case nK2 => k_is)
    (case nK3 => k_is)
    (case pgR => k_is)
    (case hdR => k_is)
    (case poR => k_is)
    (case saR => k_is)
    (case mkR => k_is)
    (case kcR => k_is)
    (case haR => k_is)
    (case hmR => k_is)
    (case neR => k_is)
    (case icR => k_is)
    (case tyR => k_is)
    (case slR => k_is)
    (case stR => k_is)
    (case nR0 => k_is)
    (case nR1 => k_is)
    (case nR2 => k_is)
    (case sKR => k_is)
    (case sRK => k_is)
    (case nd => decide)
    (case exB => k_is)
    (case txB => k_is)
    (case kxB => k_is)
    (case ixB => k_is)
    (case sxB => k_is)
    (case QB => k_exc)
    (case exD => k_is)
    (case txD => k_is)
    (case kxD => k_is)
    (case ixD => k_is)
    (case sxD => k_is)
    (case QD => k_exc)
    (case exP => k_is)
    (case txP => k_is)
    (case kxP => k_is)
    (case ixP => k_is)
    (case sxP => k_is)
    (case sDP => k_is)
    (case OP => exact ⟨_, _, _, _, _, _, _, _, _, _, _, _, _, _, _, by k_is, by decide +kernel⟩)
    (case saP => k_is)
    (case nlP => k_is)
    (case gaP => k_is)
    (case ggP => k_is)
    (case hdP => k_is)
    (case z_int => k_is)
    (case z_str => k_is)
    (case z_bool => k_is)
    (case z_len => k_is)
    (case z_range => k_is)
    (case z_tuple => k_is)
    (case z_list => k_is)
    (case z_sorted => k_is)
    (case z_isinstance => k_is)
    (case z_set => k_is)
    (case z_all => k_is)
    (case z_min => k_is)
    (case z_repr => k_is)
    (case c0 => k_is)
    (case c1 => k_is)
