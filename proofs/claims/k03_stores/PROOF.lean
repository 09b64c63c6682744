import PyProof.Rows.All
import Wide.All
import OpenK.AllK
import Wide.FinOn
import HandS.ForMost
import HandS.OwnEq
import KE.KOwnIter
import HandS.EndBits
import HandS.Set
import HandS.SetKeys
import HandS.SetBool
import HandS.Comp
import HandS.DictComp
import HandS.Strs
import HandS.SetTxt0
import HandS.More
import HandS.IsInst
import HandS.StrMore
import HandS.TupSets
import KE.KeyNested
import KE.KDictKeyed
import KE.SortData
import KE.SortCalls
import PyProof.FactsAll.tuple_2
import HandS.Deep
import PyProof.DictFindH
import HandS.ForExc
import HandS.Walk
import HandS.Defaults
import HandS.FStr
import HandS.Star
import HandS.ExcInit
import HandS.WordsExc
import HandS.TupLe
import KE.DataCmp
import HandS.Iter
import KE.GoesEnumKw
import HandS.DeepEq
import HandS.Codes
import PyProof.NeKinds
import PyProof.InstNe
import HandS.ExcOwn
import HandS.ClsMeth
import HandS.Property
import HandS.Exc
import HandS.ExcField
import PyProof.FactsAll.list_3
import KE.KIsAll
import HandS.Style
import PyProof.ListMulRoad
import HandS.TupAny
import HandS.TupMul
import HandS.MakeKwOnly
import HandS.MakeKw
import PySem.Challenge.RW_fullestrows_k03_stores
set_option Elab.async false
set_option linter.all false
set_option maxRecDepth 100000
set_option maxHeartbeats 4000000
/-! The operators of an own class: a + b, a - b, x in a, len(a), and a walk by its own __iter__ that tells iter of a tuple. -/
namespace L2.OwnOp
open PySem PySem.Spec PyProof.Rows
section
variable {X : Cx} {n : Nat} {pins : List (Addr × Obj)} {σ : St} {H : Hp} {s : Shared} {CX : CXT} {f : Addr} {fd : FuncData} {ps : List Str} {sp : Sp} {E : XK}
/-- an own def's call somewhere below -/
theorem run_own (F : FnOk X.prog X.w X.K X.mg X.base CX n f fd ps sp) (hb : Binds X.K fd ps []) (hx : Passes CX X E) {A : Around} (sb : Sub X n A) (I : Inv X pins σ H s) {vs : List V} {us : List Value} {Q : VK} (rv : Vals vs us) (want : sp vs H Q E) :
    wpAny (model X.prog X.w) A (call (.ref f) us) (fun u s' => CE X.stack X.prog X.w H s Q u s') X.xe s := by
  have e0 : Env0 X.prog X.w X.K X.mg X.base A X.stack s H := by
    have e := I.env0
    have sf : A.frames = X.A.frames := sb.fr
    exact ⟨by rw [sf]; exact e.frames, e.mod, e.bs, e.bsz, e.funs, e.frf, e.hok, e.bare⟩
  have hl := F.len _ _ _ _ want
  refine wpAny_call (codeAny_mono (F.run A X.stack s H ⟨us, []⟩ us vs _ E sb.room e0 (by
    have := hb s us I.kIn (by rw [List.append_nil, ← rv.length]; exact hl)
    simpa using this) rv want) fun r s' hq => ?_)
  cases r with
  | error e => exact hx pins σ H s e s' I hq
  | ok fl =>
    cases fl with
    | ret z => exact hq
    | next => exact False.elim hq
    | brk => exact False.elim hq
    | cont => exact False.elim hq
/-- the class of what stands at the left, and its def of that name -/
structure OwnM (X : Cx) (C f : Addr) (nm : Str) : Prop where
  fi : PySem.W.findIn X.K (.ref C) nm = some (some (.ref f))
  fn : PySem.W.isFn X.K (.ref f) = true
/-- x in p, p an instance -/
def rInOwn (C : Addr) (sp : Sp) : R2 := fun x y H Q => ∃ p dx fs, y = .ref p ∧ H p = some (.ins C dx fs) ∧ sp [.ref p, x] H (fun v H' => ∃ b, v = .bl b ∧ Q (.bl b) H') E0
def rNotInOwn (C : Addr) (sp : Sp) : R2 := fun x y H Q => ∃ p dx fs, y = .ref p ∧ H p = some (.ins C dx fs) ∧ sp [.ref p, x] H (fun v H' => ∃ b, v = .bl b ∧ Q (.bl (!b)) H') E0
theorem op_inOwn {C : Addr} (F : FnOk X.prog X.w X.K X.mg X.base CX0 n f fd ps sp) (hb : Binds X.K fd ps []) (m : OwnM X C f "__contains__") (hr : Room n X.A) (hx : Passes CX0 X E0) : OpR X (compareOp .In) (rInOwn C sp) := by
  intro pins s σ H x y v u Q I rx ry hq
  obtain ⟨p, dx, fs, rfl, hp, want⟩ := hq
  cases ry
  obtain ⟨_, J, _⟩ := ins_get I.hok hp
  obtain ⟨od, J, _⟩ := J.look
  obtain ⟨_, fr⟩ := I.fr
  refine PySem.W.in_K fr I.mod.kin J m.fi m.fn (wpAny_mono (run_own (vs := [.ref p, x]) F hb hx ⟨hr, rfl⟩ I (.cons rfl (.cons rx .nil)) want) (fun r s' z => ?_) fun _ _ z => z)
  obtain ⟨v', H', I', rv, b, rfl, q⟩ := I.after z
  cases rv
  exact wpAny_truthy_bool ⟨.bl b, H', I', rfl, q⟩
theorem op_notInOwn {C : Addr} (F : FnOk X.prog X.w X.K X.mg X.base CX0 n f fd ps sp) (hb : Binds X.K fd ps []) (m : OwnM X C f "__contains__") (hr : Room n X.A) (hx : Passes CX0 X E0) : OpR X (compareOp .NotIn) (rNotInOwn C sp) := by
  intro pins s σ H x y v u Q I rx ry hq
  obtain ⟨p, dx, fs, rfl, hp, want⟩ := hq
  cases ry
  obtain ⟨_, J, _⟩ := ins_get I.hok hp
  obtain ⟨od, J, _⟩ := J.look
  obtain ⟨_, fr⟩ := I.fr
  refine PySem.W.notIn_K fr I.mod.kin J m.fi m.fn (wpAny_mono (run_own (vs := [.ref p, x]) F hb hx ⟨hr, rfl⟩ I (.cons rfl (.cons rx .nil)) want) (fun r s' z => ?_) fun _ _ z => z)
  obtain ⟨v', H', I', rv, b, rfl, q⟩ := I.after z
  cases rv
  exact wpAny_truthy_bool ⟨.bl (!b), H', I', rfl, q⟩
/-- a + b, a - b of two instances -/
def rBinOwn (C : Addr) (sp : Sp) : R2 := fun x y H Q => ∃ p dx fs q dy gs, x = .ref p ∧ y = .ref q ∧ H p = some (.ins C dx fs) ∧ H q = some (.ins C dy gs) ∧ sp [.ref p, .ref q] H (fun v H' => ∃ r, v = .ref r ∧ Q (.ref r) H') E0
theorem op_binOwn {C : Addr} {op : Operator} (F : FnOk X.prog X.w X.K X.mg X.base CX0 n f fd ps sp) (hb : Binds X.K fd ps []) (m : OwnM X C f (PySem.dunder op.info.2)) (hc : PySem.W.selfFirst X.K C = true) (hr : Room n X.A) (hx : Passes CX0 X E0) :
    OpR X (binaryOp op) (rBinOwn C sp) := by
  intro pins s σ H x y v u Q I rx ry hq
  obtain ⟨p, dx, fs, q, dy, gs, rfl, rfl, hp, hq, want⟩ := hq
  cases rx
  cases ry
  obtain ⟨_, J, _⟩ := ins_get I.hok hp
  obtain ⟨od, J, _⟩ := J.look
  obtain ⟨_, J2, _⟩ := ins_get I.hok hq
  obtain ⟨od2, J2, _⟩ := J2.look
  obtain ⟨_, fr⟩ := I.fr
  refine PySem.W.binop_K fr I.mod.kin J J2.type hc m.fi m.fn (wpAny_mono (run_own (vs := [.ref p, .ref q]) F hb hx ⟨hr, rfl⟩ I (.cons rfl (.cons rfl .nil)) want) (fun r s' z => ?_) fun _ _ z => z)
  obtain ⟨v', H', I', rv, b, rfl, q⟩ := I.after z
  cases rv
  exact ⟨.ref b, H', I', rfl, q⟩
/-- len(p) -/
def rLenOwn (C : Addr) (sp : Sp) : List V → Hp → VK → Prop := fun xs H Q => ∃ p dx fs, xs = [.ref p] ∧ H p = some (.ins C dx fs) ∧ sp [.ref p] H (fun v H' => ∃ k : Nat, v = .int k ∧ k < 1000000 ∧ Q (.int k) H') E0
theorem call_lenOwn {C : Addr} (F : FnOk X.prog X.w X.K X.mg X.base CX0 n f fd ps sp) (hb : Binds X.K fd ps []) (m : OwnM X C f "__len__") (hr : Room (n + 1) X.A) (hx : Passes CX0 X E0) : CallR X (.builtin "len") (rLenOwn C sp) := by
  intro pins s σ H xs us Q I rv hq
  obtain ⟨p, dx, fs, rfl, hp, want⟩ := hq
  obtain rfl := Vals.ref1 rv
  obtain ⟨_, J, _⟩ := ins_get I.hok hp
  obtain ⟨od, J, _⟩ := J.look
  obtain ⟨_, fr⟩ := I.fr
  refine PySem.W.len_K fr I.mod.kin J m.fi m.fn (wpAny_mono (run_own (vs := [.ref p]) F hb hx ⟨hr.in1, rfl⟩ I (.cons rfl .nil) want) (fun r s' z => ?_) fun _ _ z => z)
  obtain ⟨v', H', I', rv, k, rfl, lk, q⟩ := I.after z
  obtain ⟨t, rfl⟩ := rv
  refine ⟨⟨by omega, by omega⟩, .int k, H', I'.kept (t' := s'.toks + 1) fun b o e => e, ⟨_, rfl⟩, q⟩
end
/-! ### an iterator over a tuple, as a value -/
def ItTup (t it : Addr) (i : Nat) : HO := .ext fun h => h.IsTupleIter it t i
theorem itTup_ok {P : Program} {w : World} {H : Hp} {h : Heap} {t it : Addr} {i : Nat} (e : h.IsTupleIter it t i) : ObjOk P w H h it (ItTup t it i) := ⟨e, ⟨_, e.choose_spec.1⟩, fun h1 h2 q k => Heap.IsTupleIter.at q k⟩
def del (H : Hp) (a : Addr) : Hp := fun b => if b = a then none else H b
theorem del_same {H : Hp} {a : Addr} : del H a a = none := by unfold del; rw [if_pos rfl]
theorem del_ne {H : Hp} {a b : Addr} (h : b ≠ a) : del H a b = H b := by unfold del; rw [if_neg h]
theorem del_upd {H : Hp} {a : Addr} {o : HO} (h : H a = none) : del (upd H a o) a = H := by
  funext b
  by_cases e : b = a
  · rw [e, del_same, h]
  · rw [del_ne e, upd_ne e]
section
variable {X : Cx} {n : Nat} {pins : List (Addr × Obj)} {σ : St} {H : Hp} {s : Shared}
/-- a thing of that kind is forgotten -/
theorem forget {a : Addr} {φ : Heap → Prop} (I : Inv X pins σ H s) (h : H a = some (.ext φ)) : Inv X pins σ (del H a) s := by
  have ne : ∀ b o, H b = some o → (∀ φ, o ≠ .ext φ) → b ≠ a := fun b o e hne z => by
    rw [z, h] at e
    cases e
    exact hne _ rfl
  have dn : ∀ b, H b = none → del H a b = none := fun b e => by
    unfold del
    split
    · rfl
    · exact e
  refine ⟨I.ok, I.os, I.bare, ⟨I.base.keep, I.base.slot, fun b o e n hx => dn b (I.base.free b o e n hx), I.base.there, fun b xs e => ?_, fun b o x e => ?_, fun b ps e => ?_⟩, I.loc, I.cell, dn _ I.free, fun x c e => dn _ (I.freeC x c e), fun p hp => ?_, fun b o e => ?_, I.len⟩
  · have q := I.base.tups b xs e
    rw [del_ne (ne b _ q (fun _ z => nomatch z))]; exact q
  · have q := I.base.frzs b o x e
    rw [del_ne (ne b _ q (fun _ z => nomatch z))]; exact q
  · obtain ⟨m, q⟩ := I.base.tbls b ps e
    exact ⟨m, by rw [del_ne (ne b _ q (fun _ z => nomatch z))]; exact q⟩
  · obtain ⟨e, n, r⟩ := I.pin p hp
    exact ⟨e, dn _ n, r⟩
  · have hb : b ≠ a := fun z => by rw [z, del_same] at e; cases e
    rw [del_ne hb] at e
    exact (I.hok b o e).stay (fun c v _ q => q) (fun c q => by rw [del_ne (ne c _ q (fun _ z => nomatch z))]; exact q) fun c xs q => by rw [del_ne (ne c _ q (fun _ z => nomatch z))]; exact q
/-- iter(t), t a tuple -/
def rIterTup (K : PySem.W.Frag) (N : Nat) : List V → Hp → VK → Prop := fun xs H Q => ∃ (t : Addr) (zs : List V), xs = [.ref t] ∧ SqT K H t zs ∧ ∀ it, H it = none → N ≤ it → Q (.ref it) (upd H it (ItTup t it 0))
theorem call_iterTup : CallR X (.builtin "iter") (rIterTup X.K X.s_0.heap.objs.size) := by
  intro pins s σ H xs us Q I r h
  obtain ⟨l, zs, rfl, hq, q⟩ := h
  obtain rfl := Vals.ref1 r
  obtain ⟨its, rv, pl, hz⟩ := I.tuple hq
  refine Calls.call_function_entry (by decide +kernel) (by decide +kernel) PySem.W.kdk_entry_iter (PySem.W.kdk_args_iter _) ?_
  unfold Builtin.«iter»
  refine wpAny_bind (m := someArgs "iter" 1 2 _) (wpAny_of_eq (a := [Value.ref l]) (by first | rfl | kernel_rfl!) ?_)
  show wpAny _ _ (pyIter (.ref l) >>= _) _ _ _
  refine wpAny_bind (wpAny_pyIter_tuple (show s.heap.IsTuple l its.toArray from pl) ?_)
  refine wpAny_pure ⟨_, rfl, ?_⟩
  have new : Heap.IsTupleIter (s.heap.push { cls := .type "tuple_iterator", data := .fields #[.ref l, rawInt (0 : Nat)] }) s.heap.objs.size l 0 := ⟨_, Heap.get?_push_size _ rfl, rfl, rfl⟩
  exact ⟨.ref s.heap.objs.size, _, I.laid (t' := s.toks) (fun b u e => Heap.get?_push_of_some _ e) (Nat.le_refl _) (itTup_ok new), rfl, q _ (I.hok.fresh (Nat.le_refl _)) I.sz⟩
end
/-! ### an own __iter__ that tells iter of a tuple -/
/-- what it tells: an iterator that is made in the call -/
def spIt (C : Addr) (fl : Str) (K : PySem.W.Frag) (N : Nat) : Sp := fun vs H Q _ => ∃ p dx fs t zs, vs = [.ref p] ∧ H p = some (.ins C dx fs) ∧ fs.lookup fl = some (.ref t) ∧ SqT K H t zs ∧ ∀ it, H it = none → N ≤ it → Q (.ref it) (upd H it (ItTup t it 0))
structure FnIt (P : Program) (w : World) (K : PySem.W.Frag) (mg : Str → Option Value) (base : Heap) (k : Nat) (f : Addr) (fd : FuncData) (C : Addr) (fl : Str) : Prop where
  run : ∀ (A : Around) (outer : List Env) (s : Shared) (H : Hp) (args : Args) (us : List Value) (vs : List V) (Q : VK) (E : XK), Room k A → Env0 P w K mg base A outer s H → BindsTo s fd args (([("self" : Str)] : List Str).zip us) → Vals vs us → spIt C fl K s.heap.objs.size vs H Q E →
    codeAny (model P w) A (.call (.ref f) args) (CR CX0 outer P w H s Q E) s
theorem it_of {P : Program} {w : World} {K : PySem.W.Frag} {mg : Str → Option Value} {base : Heap} {x qual : Str} {st : Stmt} {f C : Addr} {fd : FuncData} {N : List Str} {k : Nat} {fl : Str} (F : Fun K x qual st f fd) (S : FnScope N ["self"] (defScope st))
    (hbody : ∀ (cdv : Value) (A : Around) (outer : List Env) (s : Shared) (H : Hp) (vs : List V) (Q : VK) (E : XK), Room k (A.deeper (envOfC qual (defScope st) s.heap.objs.size f cdv)) → spIt C fl K s.heap.objs.size vs H Q E →
      ∃ t, PSs (cxOf CX0 P w K mg base N qual (defScope st) f cdv A outer s H E).nox (defBody st) t ∧ t { nx := fun _ H' => Q .non H', rt := Q } (start N vs) H) : FnIt P w K mg base (k + 1) f fd C fl := by
  obtain ⟨oc, od, kV, doc, pm, an, cdv, ct, osl, rfl, lk, hcd⟩ := F.ex
  refine ⟨fun A outer s H args us vs Q E hr e0 hb r hsp => ?_⟩
  have hl : vs.length = ([("self" : Str)] : List Str).length := by
    obtain ⟨p, dx, fs, t, zs, rfl, _⟩ := hsp
    rfl
  have KX : K.In s.heap := e0.mod.kin.keeps fun b o e => (e0.bs b o e).1
  have lim : s.heap.NoLimit := e0.mod.nolimit.keeps fun b o e => (e0.bs b o e).1
  have hkind : ∀ y ∈ ([("self" : Str)] : List Str).zip us, (defScope st).names.lookup y.1 = some .local ∨ ((defScope st).names.lookup y.1 = some .cell ∧ ((cellsFrom (s.heap.objs.size + 1) (defScope st).names []).lookup y.1).isSome = true) := fun ⟨n, v⟩ hy => by
    rcases S.par n (List.of_mem_zip hy).1 with q | q
    · exact .inl q
    · exact .inr ⟨q, PySem.W.cellsFrom_some _ _ _ (.inl q)⟩
  refine codeAny_call_function hr.depth (KX _ _ lk) rfl S.co S.gen rfl (PySem.W.codeRec_of KX hcd) (hb _ _ _ _ ?_)
  refine wpAny_newFunctionEnv_cells S.kind hkind fun env he s1 x => ?_
  subst he
  refine ⟨lim.keeps x.toInCall.keep, codeAny_func ?_⟩
  obtain ⟨t, ht, hq⟩ := hbody cdv A outer s H vs Q E (hr.deeper _) hsp
  have I : Inv (cxOf CX0 P w K mg base N qual (defScope st) f cdv A outer s H E) [] (start N vs) H s1 := inv_start S hr.hd e0 hl r x
  refine wpAny_mono (ht.nox.run [] s1 (start N vs) H _ I hq) (fun fl s' hs => ?_) fun e s' hs => hs
  have fin : ∀ {σ' : St} {H' : Hp} {v : V} {u : Value}, Inv (cxOf CX0 P w K mg base N qual (defScope st) f cdv A outer s H E) [] σ' H' s' → RelV v u → Q v H' → CE outer P w H s Q u s' :=
    fun {σ' H' v u} J rv q => ⟨v, H', J.os, J.bare, J.base, J.hok, rv, q⟩
  cases fl with
  | ret u =>
    obtain ⟨v, σ', H', J, rv, q⟩ := hs
    exact fin J rv q
  | next =>
    obtain ⟨σ', H', J, q⟩ := hs
    exact fin (v := V.non) (u := Value.none) J rfl q
  | brk =>
    obtain ⟨_, _, _, q⟩ := hs
    exact False.elim q
  | cont =>
    obtain ⟨_, _, _, q⟩ := hs
    exact False.elim q
section
variable {X : Cx} {n : Nat}
/-- the walk of an own instance -/
def iOwn (K : PySem.W.Frag) (C : Addr) (fl : Str) (te : TE) : TI := fun σ H R => te σ H fun x H1 => ∃ p dx fs t zs, x = .ref p ∧ H1 p = some (.ins C dx fs) ∧ fs.lookup fl = some (.ref t) ∧ SqT K H1 t zs ∧ R (Itt K t) H1
theorem pi_own {f : Addr} {fd : FuncData} {fl : Str} {tg e : Expr} {te : TE} {C : Addr} (F : FnIt X.prog X.w X.K X.mg X.base n f fd C fl) (hb : Binds X.K fd ["self"] []) (m : OwnM X C f "__iter__") (hr : Room n X.A)
    (he : PE X e te) : PI X tg e (iOwn X.K C fl te) := by
  refine ⟨fun pins s σ H R I h => ?_⟩
  refine thn (he.run pins s σ H _ I h) fun v s1 ⟨x, H1, I1, r1, q1⟩ => ?_
  obtain ⟨p, dx, fs, t, zs, rfl, hp, lk, ht, q⟩ := q1
  cases r1
  obtain ⟨_, J, _⟩ := ins_get I1.hok hp
  obtain ⟨od, J, _⟩ := J.look
  obtain ⟨_, fr⟩ := I1.fr
  have want : spIt C fl X.K s1.heap.objs.size [.ref p] H1 (fun v H' => ∃ it, v = .ref it ∧ H1 it = none ∧ s1.heap.objs.size ≤ it ∧ H' = upd H1 it (ItTup t it 0)) E0 := ⟨p, dx, fs, t, zs, rfl, hp, lk, ht, fun it n1 n2 => ⟨it, rfl, n1, n2, rfl⟩⟩
  refine PySem.W.owit_iter fr I1.mod.kin J m.fi m.fn (wpAny_call (codeAny_mono (F.run X.A X.stack s1 H1 ⟨[.ref p], []⟩ [.ref p] [.ref p] _ E0 hr I1.env0 (by
    have := hb s1 [.ref p] I1.kIn (by rfl)
    simpa using this) (.cons rfl .nil) want) fun r s' hq => ?_))
  cases r with
  | error e => exact pass0 pins σ H1 s1 e s' I1 hq
  | ok fl =>
    cases fl with
    | ret z =>
      obtain ⟨v', H', I', rv, it, rfl, n1, n2, rfl⟩ := I1.after hq
      cases rv
      have st : s'.heap.IsTupleIter it t 0 := (I'.hok it _ upd_same).1
      have I3 := forget I' (φ := fun h => h.IsTupleIter it t 0) upd_same
      rw [del_upd n1] at I3
      refine wpAny_specialOf st.typeIs PySem.F.slot_tuple_iterator_next.lookup ?_
      refine ⟨it, [it], _, Itt X.K t, H1, rfl, I3, turn_tuple t it, st, fun b hb => ?_, q⟩
      have e : b = it := by simpa using hb
      subst e
      exact I1.fpOk n2 n1
    | next => exact False.elim hq
    | brk => exact False.elim hq
    | cont => exact False.elim hq
end
end L2.OwnOp
set_option Elab.async false
set_option linter.all false
set_option maxRecDepth 100000
set_option maxHeartbeats 4000000
/-! The helpers of the laws: draws and names. -/
namespace L2.LawH
open PySem PySem.Spec PyProof.Rows
open Builtin.Int (intBits)
def top (i : Nat) : Stmt := PySem.Challenge.pw_fullestrows_k03_stores.main.body.getD i (.Pass ⟨0, 0, 0, 0⟩)
abbrev sSource : Stmt := top 18
abbrev sDraw : Stmt := top 19
abbrev sName : Stmt := top 20

/-! ### numbers -/
theorem mod_pos {x y : Int} (h : 0 < y) : 0 ≤ x.fmod y ∧ x.fmod y < y := by
  rw [Int.fmod_eq_emod_of_nonneg x (Int.le_of_lt h)]
  exact ⟨Int.emod_nonneg x (by omega), Int.emod_lt_of_pos x h⟩
theorem small_bits {x : Int} (h0 : 0 ≤ x) (h : x < 1152921504606846976) : intBits x ≤ 60 := by
  refine PySem.intBits_le_iff.mpr ?_
  have e : (2 : Nat) ^ 60 = 1152921504606846976 := by decide
  rw [e]
  omega
theorem big_ok {c n m : Int} (hc : intBits c ≤ 1048576) (h0 : 0 ≤ n) (hn : n ≤ 1000000) (m0 : 0 ≤ m) (m1 : m ≤ 1000000) :
    (intBits (c * m + n * 40699 + 12011) : Int) * 3 ≤ 2 ^ 27 := by
  have h1 : intBits (c * m) ≤ 1048576 + 60 := PySem.intBits_mul_le hc (small_bits m0 (by omega))
  have h2 : intBits (n * 40699) ≤ 60 := small_bits (by omega) (by omega)
  have h3 : intBits (12011 : Int) ≤ 60 := small_bits (by omega) (by omega)
  have h5 := PySem.intBits_add_le (PySem.intBits_add_le h1 h2) h3
  have e : (2 : Int) ^ 27 = 134217728 := by decide
  rw [e]
  have h6 : max (max (1048576 + 60) 60 + 1) 60 + 1 = 1048638 := by decide
  rw [h6] at h5
  omega
theorem small_ok {x : Int} (h0 : 0 ≤ x) (h : x < 1152921504606846976) : (intBits x : Int) * 3 ≤ 2 ^ 27 := by
  have := small_bits h0 h
  have e : (2 : Int) ^ 27 = 134217728 := by decide
  rw [e]
  omega
theorem op_powB {X : Cx} : OpR X (binaryOp .Pow) (rI (fun i j => 0 ≤ j ∧ (Builtin.Int.intBits i : Int) * j ≤ 2 ^ 27) fun i j => .int (i ^ j.toNat)) :=
  opI fun _ _ _ _ _ _ _ hc q => pow_int hc.1 hc.2 q

/-! ### heaps -/
/-- all but a stands as it stood -/
def Keep (a : Addr) (H H' : Hp) : Prop := ∀ b o, H b = some o → b ≠ a → H' b = some o
theorem Keep.refl (a : Addr) (H : Hp) : Keep a H H := fun _ _ e _ => e
theorem Keep.trans {a : Addr} {H H1 H2 : Hp} (k : Keep a H H1) (l : Keep a H1 H2) : Keep a H H2 := fun b o e n => l b o (k b o e n) n
theorem Keep.of {a : Addr} {H H' : Hp} (s : Same H H') : Keep a H H' := fun b o e _ => s b o e
theorem same_new {H : Hp} {p : Addr} {o : HO} (n : H p = none) : Same H (upd H p o) := fun b u e => by
  rw [upd_ne (ne_of_none e n)]
  exact e
theorem Keep.free {a b : Addr} {H H' : Hp} (k : Keep a H H') (n : H' b = none) (ha : H' a ≠ none) : H b = none := by
  cases e : H b with
  | none => rfl
  | some o =>
    have nb : b ≠ a := fun z => ha (by rw [← z]; exact n)
    rw [k b o e nb] at n
    cases n

/-! ### the source of draws -/
/-- the source at a, of the cell c, with m draws still to be had -/
def SrcAt (H : Hp) (a : Addr) (c : Int) (m : Nat) : Prop := ∃ (d : Int) (n : Nat), H a = some (.lst [.int c, .int d, .int n]) ∧ n + m ≤ 1000000 ∧ intBits c ≤ 1048576
theorem SrcAt.mono {H : Hp} {a : Addr} {c : Int} {m m' : Nat} (h : SrcAt H a c m) (l : m' ≤ m) : SrcAt H a c m' := by
  obtain ⟨d, n, e, f, b⟩ := h
  exact ⟨d, n, e, by omega, b⟩
theorem SrcAt.some {H : Hp} {a : Addr} {c : Int} {m : Nat} (h : SrcAt H a c m) : H a ≠ none := by
  obtain ⟨d, n, e, _⟩ := h
  rw [e]
  exact fun z => by cases z
theorem SrcAt.same {H H' : Hp} {a : Addr} {c : Int} {m : Nat} (h : SrcAt H a c m) (s : Same H H') : SrcAt H' a c m := by
  obtain ⟨d, n, e, f, b⟩ := h
  exact ⟨d, n, s _ _ e, f, b⟩
theorem SrcAt.ne {H : Hp} {a p : Addr} {c : Int} {m : Nat} (h : SrcAt H a c m) (n : H p = none) : p ≠ a := by
  obtain ⟨d, k, e, _⟩ := h
  exact (ne_of_none e n).symm
def spSource : Sp := fun vs H Q _ => ∃ c : Int, vs = [.int c] ∧ intBits c ≤ 1048576 ∧ ∀ a H', Same H H' → H a = none → SrcAt H' a c 1000000 → Q (.ref a) H'
def spDraw : Sp := fun vs H Q _ => ∃ (a : Addr) (c : Int) (m : Nat) (k : Int), vs = [.ref a, .int k] ∧ SrcAt H a c (m + 1) ∧
  0 < k ∧ k ≤ 1000000 ∧ ∀ (r : Int) (H' : Hp), 0 ≤ r → r < k → SrcAt H' a c m → Keep a H H' → Q (.int r) H'

section
variable {P : Program} {w : World} {K : PySem.W.Frag} {mg : Str → Option Value} {base : Heap}
theorem scS : FnScope ["_law_cell"] ["_law_cell"] (defScope sSource) := ⟨rfl, rfl, rfl, by decide +kernel, rfl, by decide +kernel, by decide +kernel⟩
theorem ok_source {f : Addr} {fd : FuncData} (F : Fun K "_law_source" "_law_source" sSource f fd) : FnOk P w K mg base CX0 1 f fd ["_law_cell"] spSource := by
  refine F.ok scS (fun vs H Q E h => ?_) (fun cdv A outer s H vs Q E hr h => ?_)
  · obtain ⟨c, rfl, _⟩ := h
    rfl
  · obtain ⟨c, rfl, hb, k⟩ := h
    refine ⟨_, pss_one (ps_ret (pe_lst (pa_cons (pv 0) (pa_cons (pv 0) (pa_cons pe_int pa_nil))))), ?_⟩
    exact ⟨_, rfl, _, rfl, (by show 3 ≤ sizeLine; decide), fun a ha => k a _ (same_new ha) ha ⟨c, 0, upd_same, by decide, hb⟩⟩
theorem scD : FnScope ["_law_source_here", "_law_limit", "_law_digit", "_law_mixed"] ["_law_source_here", "_law_limit"] (defScope sDraw) :=
  ⟨rfl, rfl, rfl, by decide +kernel, rfl, by decide +kernel, by decide +kernel⟩
theorem ok_draw {f : Addr} {fd : FuncData} (F : Fun K "_law_draw" "_law_draw" sDraw f fd) (mi : mg "int" = none) :
    FnOk P w K mg base CX0 1 f fd ["_law_source_here", "_law_limit"] spDraw := by
  refine F.ok scD (fun vs H Q E h => ?_) (fun cdv A outer s H vs Q E hr h => ?_)
  · obtain ⟨a, c, n, m, rfl, _⟩ := h
    rfl
  · obtain ⟨a, c, fu, m, rfl, ⟨d, n, hs, hn, hc⟩, m0, m1, k⟩ := h
    refine ⟨_, pss_cons (ps_asg (pe_op op_add (pe_ix ix_list (pv 0) pe_int (fun _ _ => rfl)) pe_int) (pg_sub (pv 0) pe_int set_list))
      (pss_cons (ps_if (pt_cmpR op_ge (pe_ix ix_list (pv 0) pe_int (fun _ _ => rfl)) (pe_op op_pow pe_int pe_int) (nomark _))
        (pss_cons (ps_set (i := 2) scD.nd rfl (Or.inl rfl) (pe_op op_modN (pe_callTy call_int1 (by rfl) mi (by decide +kernel) (pa_cons (pe_ix ix_list (pv 0) pe_int (fun _ _ => rfl)) pa_nil)) (pv 1)))
        (pss_cons (ps_asg (pe_op op_fdivN (pe_ix ix_list (pv 0) pe_int (fun _ _ => rfl)) (pv 1)) (pg_sub (pv 0) pe_int set_list))
        (pss_one (ps_ret (pv 2))))) pss_nil)
      (pss_cons (ps_set (i := 3) scD.nd rfl (Or.inl rfl) (pe_op op_modN (pe_callTy call_int1 (by rfl) mi (by decide +kernel) (pa_cons (pe_op op_powB (pe_callTy call_int1 (by rfl) mi (by decide +kernel) (pa_cons (pe_op op_add (pe_op op_add (pe_op op_mul (pe_callTy call_int1 (by rfl) mi (by decide +kernel) (pa_cons (pe_ix ix_list (pv 0) pe_int (fun _ _ => rfl)) pa_nil)) pe_int) (pe_op op_mul (pe_ix ix_list (pv 0) pe_int (fun _ _ => rfl)) pe_int)) pe_int) pa_nil)) pe_int) pa_nil)) pe_int))
      (pss_cons (ps_set (i := 3) scD.nd rfl (Or.inl rfl) (pe_op op_modN (pe_callTy call_int1 (by rfl) mi (by decide +kernel) (pa_cons (pe_op op_powB (pe_callTy call_int1 (by rfl) mi (by decide +kernel) (pa_cons (pe_op op_add (pv 3) (pe_op op_mul (pe_op op_mul (pe_ix ix_list (pv 0) pe_int (fun _ _ => rfl)) (pe_ix ix_list (pv 0) pe_int (fun _ _ => rfl))) pe_int)) pa_nil)) pe_int) pa_nil)) pe_int))
      (pss_one (ps_ret (pe_op op_modN (pe_op op_fdivN (pv 3) pe_int) (pv 1))))))), ?_⟩
    -- src[2] = src[2] + 1
    refine ⟨_, rfl, a, _, _, _, rfl, rfl, SqL.of hs, rfl, _, _, rfl, rfl, _, rfl, a, _, _, _, rfl, rfl, hs, rfl, ?_⟩
    -- if src[0] >= 10 ** 18
    refine ⟨_, rfl, a, _, _, _, rfl, rfl, SqL.of upd_same, rfl, _, _, rfl, rfl, ⟨by decide, by decide, by decide⟩, _, _, rfl, rfl, _, rfl, ?_⟩
    refine ite2 (fun _ => ?_) (fun _ => ?_)
    · refine ⟨_, rfl, a, _, _, _, rfl, rfl, SqL.of upd_same, rfl, .inl ⟨_, rfl, ?_⟩⟩
      refine ⟨_, rfl, _, _, rfl, rfl, by omega, ?_⟩
      refine ⟨_, rfl, a, _, _, _, rfl, rfl, SqL.of upd_same, rfl, _, rfl, _, _, rfl, rfl, ⟨by omega, by omega⟩, _, rfl, a, _, _, _, rfl, rfl, upd_same, rfl, ?_⟩
      refine ⟨_, rfl, k _ _ (mod_pos m0).1 (mod_pos m0).2 ⟨_, n + 1, upd_same, by omega, hc⟩ fun b o e nb => ?_⟩
      rw [upd_ne nb, upd_ne nb]
      exact e
    · -- mixed
      refine ⟨_, rfl, a, _, _, _, rfl, rfl, SqL.of upd_same, rfl, .inl ⟨_, rfl, ?_⟩⟩
      refine ⟨_, _, rfl, rfl, .inr ⟨by decide, by decide⟩, _, rfl, a, _, _, _, rfl, rfl, SqL.of upd_same, rfl, _, _, rfl, rfl, .inr ⟨by decide, by decide⟩, _, _, rfl, rfl, _, _, rfl, rfl, .inl ⟨_, rfl, ?_⟩⟩
      refine ⟨_, _, rfl, rfl, ⟨by decide, big_ok hc (by omega) (by omega) (by decide) (by decide)⟩, .inl ⟨_, rfl, _, _, rfl, rfl, (by show (2147483647 : Int) ≠ 0; decide), ?_⟩⟩
      refine ⟨_, rfl, _, rfl, a, _, _, _, rfl, rfl, SqL.of upd_same, rfl, _, rfl, a, _, _, _, rfl, rfl, SqL.of upd_same, rfl, _, _, rfl, rfl, .inr ⟨by omega, by omega⟩, _, _, rfl, rfl, .inr ⟨by decide, by decide⟩, _, _, rfl, rfl, .inl ⟨_, rfl, ?_⟩⟩
      have sq0 : 0 ≤ ((n : Int) + 1) * ((n : Int) + 1) := Int.mul_nonneg (by omega) (by omega)
      have sq1 : ((n : Int) + 1) * ((n : Int) + 1) ≤ 1000001 * 1000001 := Int.mul_le_mul (by omega) (by omega) (by omega) (by omega)
      have b1 := fun x : Int => mod_pos (x := x) (y := 2147483647) (by decide)
      refine ⟨_, _, rfl, rfl, ⟨by decide, small_ok ?_ ?_⟩, .inl ⟨_, rfl, _, _, rfl, rfl, (by show (2147483629 : Int) ≠ 0; decide), ?_⟩⟩
      · exact Int.add_nonneg (b1 _).1 (by omega)
      · refine Int.lt_of_lt_of_le (Int.add_lt_add_right (b1 _).2 _) (by omega)
      -- return mixed // 64 % limit
      refine ⟨_, rfl, _, _, rfl, rfl, ⟨by decide, by decide⟩, _, rfl, _, _, rfl, rfl, (by show m ≠ 0; omega), ?_⟩
      refine k _ _ (mod_pos m0).1 (mod_pos m0).2 ⟨_, n + 1, upd_same, by omega, hc⟩ fun b o e nb => ?_
      rw [upd_ne nb]
      exact e

/-! ### names -/
def isLet (c : Nat) : Bool := decide (97 ≤ c) && decide (c ≤ 122)
def isSgn (c : Nat) : Bool := isLet c || (decide (48 ≤ c) && decide (c ≤ 57))
def nmB : List Nat → Bool
  | [] => false
  | c :: r => isLet c && r.all isSgn && decide (r.length ≤ 11)
/-- a name -/
def Nm (z : Str) : Prop := nmB z.cps.toList = true
theorem toList_append (a b : Str) : (a ++ b).cps.toList = a.cps.toList ++ b.cps.toList := by
  rw [Str.cps_append, Array.toList_append]
theorem length_toList (a : Str) : a.cps.toList.length = a.length := by
  show a.cps.toList.length = a.cps.size
  exact Array.length_toList
abbrev letS : Str := Str.ofString "abcdefghijklmnopqrstuvwxyz"
abbrev digS : Str := Str.ofString "0123456789"
theorem let_all : letS.cps.toList.all isLet = true := by decide +kernel
theorem sgn_all : (letS ++ digS).cps.toList.all isSgn = true := by decide +kernel
theorem let_len : letS.cps.toList.length = 26 := by decide +kernel
theorem sgn_len : (letS ++ digS).cps.toList.length = 36 := by decide +kernel
theorem pick {l : List Nat} {p : Nat → Bool} {n : Nat} (all : l.all p = true) (len : l.length = n) {r : Int} (h0 : 0 ≤ r) (h1 : r < n) :
    ∃ c, atI l r = some c ∧ p c = true := by
  obtain ⟨j, rfl⟩ : ∃ j : Nat, r = j := ⟨r.toNat, by omega⟩
  have hj : j < l.length := by omega
  refine ⟨l[j], atI_nat (List.getElem?_eq_getElem hj), ?_⟩
  exact List.all_eq_true.mp all _ (List.getElem_mem hj)
def spName : Sp := fun vs H Q _ => ∃ (a : Addr) (c : Int) (m : Nat), vs = [.ref a] ∧ SrcAt H a c (m + 14) ∧
  ∀ (z : Str) (H' : Hp), Nm z → SrcAt H' a c m → Keep a H H' → Q (.str z) H'
theorem scN : FnScope ["_law_source_here", "_law_letters", "_law_size", "_law_found", "_law_k"] ["_law_source_here"] (defScope sName) :=
  ⟨rfl, rfl, rfl, by decide +kernel, rfl, by decide +kernel, by decide +kernel⟩
theorem nm_one {c : Nat} (h : isLet c = true) : Nm ⟨#[c]⟩ := by
  show nmB [c] = true
  simp [nmB, h]
theorem sgn_of_let {c : Nat} (h : isLet c = true) : isSgn c = true := by simp [isSgn, h]
theorem nm_sgns {l : List Nat} (h : nmB l = true) : l.all isSgn = true ∧ l.length ≤ 12 ∧ 1 ≤ l.length := by
  cases l with
  | nil => cases h
  | cons c r =>
    simp only [nmB, Bool.and_eq_true, decide_eq_true_eq] at h
    refine ⟨?_, by simp; omega, by simp⟩
    simp only [List.all_cons, Bool.and_eq_true]
    exact ⟨sgn_of_let h.1.1, h.1.2⟩
theorem nm_tail {z : Str} (h : Nm z) : Nm (Str.ofString "m" ++ cutS z (some 1) none) := by
  obtain ⟨h1, h2, h3⟩ := nm_sgns h
  have e1 : (Str.ofString "m").cps.toList = [109] := by decide +kernel
  show nmB (Str.ofString "m" ++ cutS z (some 1) none).cps.toList = true
  rw [toList_append, e1]
  have e2 : (cutS z (some 1) none).cps.toList = (z.cps.toList.drop (min 1 z.length)).take (z.length - min 1 z.length) := by
    have e3 : HT.sIx z.length 0 (some 1) = min 1 z.length := HT.sIx_nat z.length 0 1
    unfold cutS
    rw [e3, HT.sIx_none]
  rw [e2]
  have l1 := length_toList z
  simp only [List.cons_append, List.nil_append, nmB, Bool.and_eq_true, decide_eq_true_eq]
  refine ⟨⟨by decide, ?_⟩, ?_⟩
  · rw [List.all_eq_true] at h1 ⊢
    exact fun x hx => h1 x (List.mem_of_mem_drop (List.mem_of_mem_take hx))
  · rw [List.length_take, List.length_drop]
    omega
theorem ok_name {f fD : Addr} {fd fdD : FuncData} (F : Fun K "_law_name" "_law_name" sName f fd) (FD : Fun K "_law_draw" "_law_draw" sDraw fD fdD)
    (bD : Binds K fdD ["_law_source_here", "_law_limit"] []) (mi : mg "int" = none) (mD : mg "_law_draw" = some (.ref fD)) (mr : mg "range" = none) :
    FnOk P w K mg base CX0 2 f fd ["_law_source_here"] spName := by
  have GD : FnOk P w K mg base CX0 1 fD fdD ["_law_source_here", "_law_limit"] spDraw := ok_draw FD mi
  refine F.ok scN (fun vs H Q E h => ?_) (fun cdv A outer s H vs Q E hr h => ?_)
  · obtain ⟨a, c, m, rfl, _⟩ := h
    rfl
  · obtain ⟨a, c, m, rfl, hs, k⟩ := h
    have hr1 : Room 1 _ := hr.mono (by decide)
    refine ⟨_, pss_cons (ps_set (i := 1) scN.nd rfl (Or.inl rfl) pe_str)
      (pss_cons (ps_set (i := 2) scN.nd rfl (Or.inl rfl) (pe_ix ix_list (pe_lst (pa_cons pe_int (pa_cons pe_int (pa_cons pe_int (pa_cons pe_int (pa_cons pe_int (pa_cons pe_int (pa_cons pe_int pa_nil)))))))) (pe_call GD hr1 (by rfl) mD FD.kp bD .nil pass0 (pa_cons (pv 0) (pa_cons pe_int pa_nil))) (fun _ _ => rfl)))
      (pss_cons (ps_set (i := 3) scN.nd rfl (Or.inl rfl) (pe_ix ix_str (pv 1) (pe_call GD hr1 (by rfl) mD FD.kp bD .nil pass0 (pa_cons (pv 0) (pa_cons pe_int pa_nil))) (fun _ _ => rfl)))
      (pss_cons (ps_for PassesOwn.never rfl (pi_range1 rfl mr (pa_cons (pv 2) pa_nil)) (pg_name (i := 4) scN.nd rfl (Or.inl rfl))
        (pss_one (ps_set (i := 3) scN.nd rfl (Or.inl rfl) (pe_op op_add_str (pv 3) (pe_ix ix_str (pe_op op_add_str (pv 1) pe_str) (pe_call GD hr1 (by rfl) mD FD.kp bD .nil pass0 (pa_cons (pv 0) (pa_cons pe_int pa_nil))) (fun _ _ => rfl))))))
      (pss_one (ps_ret (pe_ifExp (pt_cmpR op_ne (pe_slice sl_str (pv 3) po_none (po_some pe_int)) pe_str (nomark _)) (pv 3)
        (pe_op op_add_str pe_str (pe_slice sl_str (pv 3) (po_some pe_int) po_none)))))))), ?_⟩
    -- size
    refine ⟨(by show 7 ≤ sizeLine; decide), fun p1 n1 => ?_⟩
    have u1 := same_new (o := .lst [V.int 0, V.int 0, V.int 1, V.int 2, V.int 3, V.int 5, V.int 11]) n1
    have z1 := hs.ne n1
    refine ⟨_, rfl, a, c, m + 13, 7, rfl, hs.same u1, by decide, by decide, fun r1 H1 r10 r11 s1 k1 => ?_⟩
    have hl := k1 _ _ upd_same z1
    have size : ∃ sz : Nat, atI [V.int 0, V.int 0, V.int 1, V.int 2, V.int 3, V.int 5, V.int 11] r1 = some (.int sz) ∧ sz ≤ 11 := by
      obtain ⟨j, rfl⟩ : ∃ j : Nat, r1 = j := ⟨r1.toNat, by omega⟩
      have hj : j = 0 ∨ j = 1 ∨ j = 2 ∨ j = 3 ∨ j = 4 ∨ j = 5 ∨ j = 6 := by omega
      rcases hj with rfl | rfl | rfl | rfl | rfl | rfl | rfl
      · exact ⟨0, atI_nat (j := 0) rfl, by decide⟩
      · exact ⟨0, atI_nat (j := 1) rfl, by decide⟩
      · exact ⟨1, atI_nat (j := 2) rfl, by decide⟩
      · exact ⟨2, atI_nat (j := 3) rfl, by decide⟩
      · exact ⟨3, atI_nat (j := 4) rfl, by decide⟩
      · exact ⟨5, atI_nat (j := 5) rfl, by decide⟩
      · exact ⟨11, atI_nat (j := 6) rfl, by decide⟩
    obtain ⟨sz, esz, hsz⟩ := size
    refine ⟨p1, _, _, _, rfl, rfl, SqL.of hl, esz, ?_⟩
    -- found
    refine ⟨_, rfl, _, rfl, a, c, m + 12, 26, rfl, s1, by decide, by decide, fun r2 H2 r20 r21 s2 k2 => ?_⟩
    obtain ⟨c0, ec0, lc0⟩ := pick let_all let_len r20 r21
    refine ⟨_, _, _, rfl, rfl, (by decide +kernel), ec0, ?_⟩
    -- the loop
    refine ⟨_, rfl, _, rfl, by omega, by omega, for_range (lo := 0) (n := (sz : Int).toNat) (fun i σ H3 => ∃ (z : Str) (v : Option V), σ = [some (.ref a), some (.str letS), some (.int sz), some (.str z), v] ∧
      nmB z.cps.toList = true ∧ z.cps.toList.length = i + 1 ∧ SrcAt H3 a c (m + 12 - i) ∧ Keep a H H3) ⟨_, none, rfl, nm_one lc0, rfl, s2, ((Keep.of u1).trans k1).trans k2⟩ ?_ ?_⟩
    · rintro i σ H3 hi ⟨z, v, rfl, hz, lz, s3, k3⟩
      rw [Int.toNat_natCast] at hi
      have lz2 := length_toList z
      refine ⟨_, rfl, _, rfl, _, _, rfl, rfl, (by decide +kernel), ?_⟩
      have s3' : SrcAt H3 a c (m + 12 - (i + 1) + 1) := s3.mono (by omega)
      refine ⟨_, rfl, a, c, m + 12 - (i + 1), 36, rfl, s3', by decide, by decide, fun r4 H4 r40 r41 s4 k4 => ?_⟩
      obtain ⟨c4, ec4, lc4⟩ := pick sgn_all sgn_len r40 r41
      refine ⟨_, _, _, rfl, rfl, (by decide +kernel), ec4, ?_⟩
      refine ⟨_, _, rfl, rfl, ?_, ?_⟩
      · have e1 : (⟨#[c4]⟩ : Str).length = 1 := rfl
        rw [e1, sizeLine_eq]
        omega
      · refine ⟨_, _, rfl, ?_, ?_, s4, k3.trans k4⟩
        · rw [toList_append]
          cases hz2 : z.cps.toList with
          | nil =>
            rw [hz2] at hz
            cases hz
          | cons x xs =>
            rw [hz2] at hz lz
            simp only [nmB, Bool.and_eq_true, decide_eq_true_eq] at hz
            show nmB (x :: (xs ++ [c4])) = true
            simp only [List.length_cons] at lz
            simp only [nmB, List.all_append, List.length_append, Bool.and_eq_true, decide_eq_true_eq]
            refine ⟨⟨hz.1.1, hz.1.2, by simp [lc4]⟩, ?_⟩
            show xs.length + 1 ≤ 11
            omega
        · rw [toList_append, List.length_append, lz]
          rfl
    · rintro σ H3 ⟨z, v, rfl, hz, lz, s3, k3⟩
      rw [Int.toNat_natCast] at s3 lz
      have s3' : SrcAt H3 a c m := s3.mono (by omega)
      obtain ⟨_, l12, _⟩ := nm_sgns hz
      have lz2 := length_toList z
      have lzs : z.length ≤ sizeLine := by rw [sizeLine_eq]; omega
      refine ⟨_, rfl, 3, rfl, z, rfl, lzs, rfl, _, rfl, ?_⟩
      refine ite2 (fun _ => ?_) (fun _ => ?_)
      · exact ⟨_, rfl, k z H3 hz s3' k3⟩
      · refine ⟨_, rfl, 1, rfl, z, rfl, lzs, _, _, rfl, rfl, ?_, k _ H3 (nm_tail hz) s3' k3⟩
        have e1 : (Str.ofString "m").length = 1 := by decide +kernel
        have e2 : (cutS z (some 1) none).length ≤ z.length := by
          rw [← length_toList, ← length_toList]
          unfold cutS
          show ((z.cps.toList.drop _).take _).length ≤ _
          rw [List.length_take, List.length_drop]
          omega
        rw [e1, sizeLine_eq]
        omega
end
end L2.LawH
set_option Elab.async false
set_option linter.all false
set_option maxRecDepth 100000
set_option maxHeartbeats 4000000
/-! The helpers of the laws: lists of names. -/
namespace L2.LawH
open PySem PySem.Spec PyProof.Rows
open Builtin.Int (intBits)
abbrev sNames : Stmt := top 21
theorem nodup_len {α : Type} [DecidableEq α] : ∀ (l D : List α), l.Nodup → (∀ x ∈ l, x ∈ D) → l.length ≤ D.length
  | [], _, _, _ => Nat.zero_le _
  | x :: l, D, nd, h => by
    obtain ⟨n1, n2⟩ := List.nodup_cons.mp nd
    have hx := h x List.mem_cons_self
    have ih := nodup_len l (D.erase x) n2 fun y hy => by
      have ne : y ≠ x := fun z => n1 (by rw [← z]; exact hy)
      exact (List.mem_erase_of_ne ne).mpr (h y (List.mem_cons_of_mem _ hy))
    have e := List.length_erase_of_mem hx
    have pos : 0 < D.length := List.length_pos_of_mem hx
    rw [List.length_cons]
    omega
theorem op_notInK {X : Cx} {K : PySem.W.Frag} (e : X.K = K) : OpR X (compareOp .NotIn) (rIn K true) := by
  subst e
  exact op_notIn_seq
theorem inV_strs (q : Str) : ∀ L : List Str, inV (.str q) (L.map V.str) = decide (q ∈ L)
  | [] => by simp [inV]
  | x :: L => by
    have ih := inV_strs q L
    unfold inV at ih ⊢
    rw [List.map_cons, List.any_cons, ih]
    by_cases h : x = q
    · subst h
      simp [eqV]
    · have h' : ¬ q = x := fun z => h z.symm
      simp [eqV, h, h']
theorem flat_strs : ∀ L : List Str, (L.map V.str).all flatV = true
  | [] => rfl
  | _ :: L => by
    rw [List.map_cons, List.all_cons, flat_strs L]
    rfl
def qn (j : Nat) : Str := Str.ofString "q" ++ (toString (j : Int) : String)
theorem qn_ok : ((List.range 10).all fun j => nmB (qn j).cps.toList && decide ((qn j).length ≤ 3)) = true := by decide +kernel
theorem qn_nd : ((List.range 10).map qn).Nodup := by decide +kernel
def qs (n : Nat) : List Str := (List.range n).map qn
theorem qs_nd {n : Nat} (h : n ≤ 10) : (qs n).Nodup := by
  have e : qs n = ((List.range 10).map qn).take n := by
    unfold qs
    rw [← List.map_take, List.take_range, Nat.min_eq_left h]
  rw [e]
  exact qn_nd.sublist (List.take_sublist _ _)
theorem qs_len (n : Nat) : (qs n).length = n := by simp [qs]
theorem qs_get {n i : Nat} (h : i < n) : (qs n)[i]? = some (qn i) := by simp [qs, h]
theorem qs_nm {n : Nat} (h : n ≤ 10) {q : Str} (hq : q ∈ qs n) : Nm q := by
  obtain ⟨j, hj, rfl⟩ := List.mem_map.mp hq
  have h2 := List.all_eq_true.mp qn_ok j (List.mem_range.mpr (Nat.lt_of_lt_of_le (List.mem_range.mp hj) h))
  exact (Bool.and_eq_true_iff.mp h2).1
theorem qn_len {j : Nat} (h : j < 10) : (qn j).length ≤ 3 := by
  have h2 := List.all_eq_true.mp qn_ok j (List.mem_range.mpr h)
  exact of_decide_eq_true (Bool.and_eq_true_iff.mp h2).2
def free (L : List Str) (q : Str) : Bool := !decide (q ∈ L)
theorem some_free {L : List Str} {n : Nat} (h : n ≤ 10) (hl : L.length < n) : ∃ q r, (qs n).filter (free L) = q :: r ∧ Nm q ∧ q ∉ L := by
  cases e : (qs n).filter (free L) with
  | nil =>
    exfalso
    have all : ∀ q ∈ qs n, q ∈ L := by
      intro q hq
      have z := List.filter_eq_nil_iff.mp e q hq
      simpa [free] using z
    have := nodup_len _ _ (qs_nd h) all
    rw [qs_len] at this
    omega
  | cons q r =>
    have hm : q ∈ (qs n).filter (free L) := by
      rw [e]
      exact List.mem_cons_self
    obtain ⟨h1, h2⟩ := List.mem_filter.mp hm
    exact ⟨q, r, rfl, qs_nm h h1, by simpa [free] using h2⟩
theorem Keep.upd_new {a p : Addr} {H H' : Hp} {o : HO} (k : Keep a H H') (n : H p = none) : Keep a H (upd H' p o) := fun b u e nb => by
  rw [upd_ne (ne_of_none e n)]
  exact k b u e nb

def spNames : Sp := fun vs H Q _ => ∃ (a : Addr) (c : Int) (m cn : Nat), vs = [.ref a, .int cn] ∧ cn ≤ 9 ∧ SrcAt H a c (m + 14 * cn) ∧
  ∀ (p : Addr) (L : List Str) (H' : Hp), L.length = cn → (∀ z ∈ L, Nm z) → L.Nodup → H p = none → H' p = some (.lst (L.map V.str)) → SrcAt H' a c m → Keep a H H' → Q (.ref p) H'
section
variable {P : Program} {w : World} {K : PySem.W.Frag} {mg : Str → Option Value} {base : Heap}
abbrev nNames : List Str := ["_law_source_here", "_law_many", "_law_found", "_law_k", "_law_name_here", "_law_spare", "_law_one", "_law_j"]
theorem scNs : FnScope nNames ["_law_source_here", "_law_many"] (defScope sNames) := ⟨rfl, rfl, rfl, by decide +kernel, rfl, by decide +kernel, by decide +kernel⟩
theorem ok_names {f fN : Addr} {fd fdN : FuncData} (F : Fun K "_law_names" "_law_names" sNames f fd) (GN : FnOk P w K mg base CX0 2 fN fdN ["_law_source_here"] spName)
    (kN : PySem.W.keepIn K (.ref fN) = true) (bN : Binds K fdN ["_law_source_here"] []) (mN : mg "_law_name" = some (.ref fN)) (mr : mg "range" = none) (ms : mg "str" = none) :
    FnOk P w K mg base CX0 3 f fd ["_law_source_here", "_law_many"] spNames := by
  refine F.ok scNs (fun vs H Q E h => ?_) (fun cdv A outer s H vs Q E hr h => ?_)
  · obtain ⟨a, c, m, cn, rfl, _⟩ := h
    rfl
  · obtain ⟨a, c, m, cn, rfl, hcn, hs, k⟩ := h
    have hr2 : Room 2 _ := hr.mono (by decide)
    refine ⟨_, pss_cons (ps_set (i := 2) scNs.nd rfl (Or.inr rfl) (pe_lst pa_nil))
      (pss_cons (ps_for PassesOwn.never rfl (pi_range1 rfl mr (pa_cons (pv 1) pa_nil)) (pg_name (i := 3) scNs.nd rfl (Or.inl rfl))
        (pss_cons (ps_set (i := 4) scNs.nd rfl (Or.inl rfl) (pe_call GN hr2 (by rfl) mN kN bN .nil pass0 (pa_cons (pv 0) pa_nil)))
        (pss_cons (ps_setLc (i := 5) (own := [("_law_one", 6)]) (g := gName 6) (tt := tTest (tOp (rIn K true) (tVar 6) (tVar 2))) rfl scNs.nd rfl rfl (sw_true rfl rfl rfl (by decide +kernel))
            (pi_list (pe_lc (own := [("_law_j", 7)]) (g := gName 7) (tt := tYes) rfl scNs.nd (pi_range1 rfl mr (pa_cons (pe_op op_add (pv 1) pe_int) pa_nil))
              (blkOk_by (own := [("_law_j", 7)]) (N := nNames) (sc := defScope sNames) (by decide +kernel))
              (fun _ _ _ _ _ => pg_name (i := 7) scNs.nd rfl (Or.inl rfl)) (fun _ _ _ _ _ => pts_nil)
              (fun _ _ _ _ _ => pe_op op_add_str pe_str (pe_callTy call_str_int (by rfl) ms (by decide +kernel) (pa_cons (pv 7) pa_nil)))))
            (blkOk_by (own := [("_law_one", 6)]) (N := nNames) (sc := defScope sNames) (by decide +kernel))
            (fun _ _ _ _ _ => pg_name (i := 6) scNs.nd rfl (Or.inl rfl)) (fun _ _ _ _ _ => pts_one (pt_cmpR (op_notInK rfl) (pv 6) (pv 2) (by rfl))) (fun _ _ _ _ _ => pv 6))
        (pss_one (ps_expr (pe_bm PySem.F.plainAttrs_list PySem.F.slot_list_append PySem.F.type_list_append mt_append (pv 2)
          (pa_cons (pe_ifExp (pt_cmpR op_notIn_seq (pv 4) (pv 2) (by rfl)) (pv 4) (pe_ix ix_list (pv 5) pe_int (fun _ _ => rfl))) pa_nil)))))))
      (pss_one (ps_ret (pv 2)))), ?_⟩
    refine ⟨(by show 0 ≤ sizeLine; decide), fun p np => ?_⟩
    have pa := hs.ne np
    refine ⟨_, rfl, _, rfl, by omega, by omega, for_range (lo := 0) (n := (cn : Int).toNat) (fun i σ H3 => ∃ (L : List Str) (v3 v4 v5 v6 v7 : Option V), σ = [some (.ref a), some (.int cn), some (.ref p), v3, v4, v5, v6, v7] ∧
      L.length = i ∧ (∀ z ∈ L, Nm z) ∧ L.Nodup ∧ H3 p = some (.lst (L.map V.str)) ∧ SrcAt H3 a c (m + 14 * (cn - i)) ∧ Keep a H H3)
      ⟨[], none, none, none, none, none, rfl, rfl, fun _ z => (by cases z), List.nodup_nil, upd_same, (hs.same (same_new np)).mono (by omega), Keep.of (same_new np)⟩ ?_ ?_⟩
    · rintro i σ H3 hi ⟨L, v3, v4, v5, v6, v7, rfl, hl, hnm, hnd, h3, s3, k3⟩
      rw [Int.toNat_natCast] at hi
      -- name_here
      have s3' : SrcAt H3 a c (m + 14 * (cn - (i + 1)) + 14) := s3.mono (by omega)
      refine ⟨_, rfl, a, c, m + 14 * (cn - (i + 1)), rfl, s3', fun z H4 nz s4 k4 => ?_⟩
      have h4 := k4 _ _ h3 pa
      -- spare: the inner list
      refine ⟨_, rfl, _, _, rfl, rfl, _, rfl, by omega, by omega, fun D nD => ?_⟩
      have tn : ((cn : Int) + 1).toNat = cn + 1 := by omega
      rw [tn]
      refine lc_range (lo := 0) (n := cn + 1) (fun j H5 => Same H4 H5 ∧ H5 D = some (.lst (((qs (cn + 1)).take j).map V.str))) ⟨same_new nD, upd_same⟩ ?_ ?_
      · rintro j H5 hj ⟨s5, hD⟩
        refine ⟨rfl, ?_⟩
        dsimp only [tYes]
        rw [if_pos rfl]
        have e0 : (0 : Int) + (j : Int) = (j : Int) := by omega
        rw [e0]
        have sz : (toString (j : Int) : String) = toString (j : Int) := rfl
        have l3 : (Str.ofString "q" ++ ((toString (j : Int) : String) : Str)).length ≤ 3 := qn_len (j := j) (by omega)
        have lsum : (Str.ofString "q").length + ((toString (j : Int) : String) : Str).length ≤ sizeLine := by
          have e1 : (Str.ofString "q" ++ ((toString (j : Int) : String) : Str)).length = (Str.ofString "q").length + ((toString (j : Int) : String) : Str).length := by
            rw [← length_toList, toList_append, List.length_append, length_toList, length_toList]
          rw [e1] at l3
          rw [sizeLine_eq]
          omega
        have lg : ((j : Int)).natAbs.log2 < 1920 := by
          have : ((j : Int)).natAbs < 2 ^ 11 := by
            have e2 : (2 : Nat) ^ 11 = 2048 := by decide
            rw [e2]
            omega
          have h9 : ((j : Int)).natAbs.log2 ≤ 11 := by
            by_cases z : ((j : Int)).natAbs = 0
            · rw [z]
              decide
            · exact Nat.le_of_lt ((Nat.log2_lt z).mpr this)
          omega
        refine ⟨_, rfl, _, rfl, lg, _, _, rfl, rfl, lsum, _, hD, ?_, fun b o e => ?_, ?_⟩
        · rw [List.length_map, List.length_take, qs_len]
          refine Nat.lt_of_le_of_lt (Nat.min_le_right _ _) ?_
          rw [sizeLine_eq]
          omega
        · rw [upd_ne (ne_of_none e nD)]
          exact s5 b o e
        · rw [upd_same, List.take_add_one, qs_get hj]
          simp [qn]
      · rintro H5 ⟨s5, hD⟩
        have hD' : H5 D = some (.lst ((qs (cn + 1)).map V.str)) := by
          rw [hD, List.take_of_length_le (by rw [qs_len]; exact Nat.le_refl _)]
        have h5 := s5 _ _ h4
        -- spare: the outer list
        refine ⟨D, rfl, ⟨_, SqL.of hD'⟩, fun D2 nD2 => ?_⟩
        refine lc_list (K := K) (a := D) (xs := (qs (cn + 1)).map V.str) (fun j H6 => Same H5 H6 ∧ H6 D2 = some (.lst ((((qs (cn + 1)).take j).filter (free L)).map V.str)))
          ⟨same_new nD2, upd_same⟩ (fun j H6 _ h6 => h6.1.seq (SqL.of hD')) ?_ ?_
        · rintro j v H6 hj ⟨s6, hD2⟩
          rw [List.getElem?_map] at hj
          cases eb : (qs (cn + 1))[j]? with
          | none =>
            rw [eb] at hj
            cases hj
          | some q =>
            rw [eb] at hj
            cases hj
            have h6 := s6 _ _ h5
            refine ⟨rfl, _, rfl, _, rfl, p, _, rfl, .inl (SqL.of h6), rfl, flat_strs L, _, rfl, ?_⟩
            rw [List.take_add_one, eb, List.filter_append]
            have e2 : (if true = true then !inV (V.str q) (L.map V.str) else inV (V.str q) (L.map V.str)) = free L q := by
              rw [if_pos rfl, inV_strs]
              rfl
            rw [e2]
            cases ef : free L q with
            | true =>
              refine iteT ?_
              refine ⟨_, rfl, _, hD2, ?_, fun b o e => ?_, ?_⟩
              · rw [List.length_map]
                refine Nat.lt_of_le_of_lt (List.length_filter_le _ _) ?_
                rw [List.length_take, qs_len, sizeLine_eq]
                omega
              · rw [upd_ne (ne_of_none e nD2)]
                exact s6 b o e
              · rw [upd_same]
                simp [ef]
            | false =>
              refine iteF ?_
              refine ⟨s6, ?_⟩
              rw [hD2]
              simp [ef]
        · rintro H6 ⟨s6, hD2⟩
          have hD2' : H6 D2 = some (.lst (((qs (cn + 1)).filter (free L)).map V.str)) := by
            rw [hD2, List.length_map, List.take_of_length_le (Nat.le_refl _)]
          have h6 := s6 _ _ h5
          have s46 : Same H4 H6 := s5.trans s6
          -- found.append(..)
          obtain ⟨q, r, eq, nq, fq⟩ := some_free (L := L) (n := cn + 1) (by omega) (by omega)
          refine ⟨_, rfl, .inl ⟨rfl, _, .inl (.inl h6)⟩, ?_⟩
          refine ⟨_, rfl, _, rfl, p, _, rfl, .inl (SqL.of h6), rfl, flat_strs L, _, rfl, ?_⟩
          have e2 : (if true = true then !inV (V.str z) (L.map V.str) else inV (V.str z) (L.map V.str)) = free L z := by
            rw [if_pos rfl, inV_strs]
            rfl
          rw [e2]
          have few : (L.map V.str).length < sizeLine := by
            rw [List.length_map, sizeLine_eq]
            omega
          have fin : ∀ t : Str, Nm t → t ∉ L → ∃ (L' : List Str) (w3 w4 w5 w6 w7 : Option V), [some (.ref a), some (.int cn), some (.ref p), some (V.int (0 + (i : Int))), some (.str z), some (.ref D2), v6, v7] = [some (.ref a), some (.int cn), some (.ref p), w3, w4, w5, w6, w7] ∧
              L'.length = i + 1 ∧ (∀ z ∈ L', Nm z) ∧ L'.Nodup ∧ (upd H6 p (.lst (L.map V.str ++ [V.str t]))) p = some (.lst (L'.map V.str)) ∧ SrcAt (upd H6 p (.lst (L.map V.str ++ [V.str t]))) a c (m + 14 * (cn - (i + 1))) ∧ Keep a H (upd H6 p (.lst (L.map V.str ++ [V.str t]))) := by
            intro t nt ft
            refine ⟨L ++ [t], _, _, _, _, _, rfl, by simp [hl], fun y hy => ?_, ?_, by rw [upd_same]; simp, ?_, ?_⟩
            · rcases List.mem_append.mp hy with hy | hy
              · exact hnm y hy
              · have : y = t := by simpa using hy
                rw [this]
                exact nt
            · rw [List.nodup_append]
              refine ⟨hnd, by simp, fun x hx y hy e => ?_⟩
              have : y = t := by simpa using hy
              rw [e, this] at hx
              exact ft hx
            · obtain ⟨d, n, e, g⟩ := s4.same s46
              exact ⟨d, n, by rw [upd_ne pa.symm]; exact e, g⟩
            · exact ((k3.trans k4).trans (Keep.of s46)).upd_new np
          cases ef : free L z with
          | true =>
            refine iteT ?_
            refine ⟨_, rfl, p, _, _, rfl, rfl, h6, few, ?_⟩
            exact fin z nz (by simpa [free] using ef)
          | false =>
            refine iteF ?_
            refine ⟨_, rfl, D2, _, 0, .str q, rfl, rfl, SqL.of hD2', ?_, p, _, _, rfl, rfl, h6, few, ?_⟩
            · rw [eq]
              exact atI_nat (j := 0) rfl
            · exact fin q nq fq
    · rintro σ H3 ⟨L, v3, v4, v5, v6, v7, rfl, hl, hnm, hnd, h3, s3, k3⟩
      rw [Int.toNat_natCast] at hl
      exact ⟨_, rfl, k p L H3 hl hnm hnd np h3 (s3.mono (by omega)) k3⟩
end
end L2.LawH
set_option Elab.async false
set_option linter.all false
set_option maxRecDepth 100000
set_option maxHeartbeats 4000000
/-! The helpers of the laws: the pool of tables, constants and variables. -/
namespace L2.LawH
open PySem PySem.Spec PyProof.Rows
open Builtin.Int (intBits)
abbrev sPool : Stmt := top 22
theorem ix_listK {X : Cx} {K : PySem.W.Frag} (e : X.K = K) : IxR X (rIxL K) := by
  subst e
  exact ix_list
/-- a variable -/
def Vr (z : Str) : Prop := ∃ y : Str, Nm y ∧ z = Str.ofString "?" ++ y
structure Pool where
  (r cs vs : Addr)
  rows : List (Addr × Str × Nat)
  (C W : List Str)
structure PoolAt (a : Addr) (H : Hp) (p : Addr) (π : Pool) : Prop where
  hp : H p = some (.lst [.ref π.r, .ref π.cs, .ref π.vs])
  hr : H π.r = some (.lst (π.rows.map fun x => V.ref x.1))
  hrow : ∀ x ∈ π.rows, H x.1 = some (.tup [.str x.2.1, .int (x.2.2 : Nat)]) ∧ Nm x.2.1 ∧ x.2.2 ≤ 3 ∧ x.1 ≠ a
  rows1 : 1 ≤ π.rows.length
  rows9 : π.rows.length ≤ 9
  hc : H π.cs = some (.lst (π.C.map V.str))
  nC : ∀ z ∈ π.C, Nm z
  C2 : 2 ≤ π.C.length
  C9 : π.C.length ≤ 9
  hv : H π.vs = some (.lst (π.W.map V.str))
  nW : ∀ z ∈ π.W, Vr z
  W9 : π.W.length = 9
  np : p ≠ a
  nr : π.r ≠ a
  nc : π.cs ≠ a
  nv : π.vs ≠ a
theorem PoolAt.keep {a : Addr} {H H' : Hp} {p : Addr} {π : Pool} (h : PoolAt a H p π) (k : Keep a H H') : PoolAt a H' p π :=
  ⟨k _ _ h.hp h.np, k _ _ h.hr h.nr, fun x hx => let ⟨h1, h2, h3, h4⟩ := h.hrow x hx; ⟨k _ _ h1 h4, h2, h3, h4⟩, h.rows1, h.rows9, k _ _ h.hc h.nc, h.nC, h.C2, h.C9, k _ _ h.hv h.nv, h.nW, h.W9, h.np, h.nr, h.nc, h.nv⟩
def spPool : Sp := fun vs H Q _ => ∃ (a : Addr) (c : Int) (m : Nat), vs = [.ref a] ∧ SrcAt H a c (m + 300) ∧
  ∀ (p : Addr) (π : Pool) (H' : Hp), PoolAt a H' p π → SrcAt H' a c m → Keep a H H' → Q (.ref p) H'
section
variable {P : Program} {w : World} {K : PySem.W.Frag} {mg : Str → Option Value} {base : Heap}
abbrev nPool : List Str := ["_law_source_here", "_law_tables", "_law_sizes", "_law_constants_here", "_law_variables", "_law_rows", "_law_k", "_law_name_here"]
theorem scP : FnScope nPool ["_law_source_here"] (defScope sPool) := ⟨rfl, rfl, rfl, by decide +kernel, rfl, by decide +kernel, by decide +kernel⟩
theorem menu8 {r : Int} (h0 : 0 ≤ r) (h1 : r < 8) : ∃ n : Nat, atI [V.int 2, V.int 1, V.int 2, V.int 3, V.int 2, V.int 0, V.int 1, V.int 2] r = some (.int n) ∧ n ≤ 3 := by
  obtain ⟨j, rfl⟩ : ∃ j : Nat, r = j := ⟨r.toNat, by omega⟩
  have hj : j = 0 ∨ j = 1 ∨ j = 2 ∨ j = 3 ∨ j = 4 ∨ j = 5 ∨ j = 6 ∨ j = 7 := by omega
  rcases hj with rfl | rfl | rfl | rfl | rfl | rfl | rfl | rfl
  · exact ⟨2, atI_nat (j := 0) rfl, by decide⟩
  · exact ⟨1, atI_nat (j := 1) rfl, by decide⟩
  · exact ⟨2, atI_nat (j := 2) rfl, by decide⟩
  · exact ⟨3, atI_nat (j := 3) rfl, by decide⟩
  · exact ⟨2, atI_nat (j := 4) rfl, by decide⟩
  · exact ⟨0, atI_nat (j := 5) rfl, by decide⟩
  · exact ⟨1, atI_nat (j := 6) rfl, by decide⟩
  · exact ⟨2, atI_nat (j := 7) rfl, by decide⟩
theorem menu4 {r : Int} (h0 : 0 ≤ r) (h1 : r < 4) : ∃ n : Nat, atI [V.int 1, V.int 3, V.int 0, V.int 1] r = some (.int n) ∧ n ≤ 3 := by
  obtain ⟨j, rfl⟩ : ∃ j : Nat, r = j := ⟨r.toNat, by omega⟩
  have hj : j = 0 ∨ j = 1 ∨ j = 2 ∨ j = 3 := by omega
  rcases hj with rfl | rfl | rfl | rfl
  · exact ⟨1, atI_nat (j := 0) rfl, by decide⟩
  · exact ⟨3, atI_nat (j := 1) rfl, by decide⟩
  · exact ⟨0, atI_nat (j := 2) rfl, by decide⟩
  · exact ⟨1, atI_nat (j := 3) rfl, by decide⟩
theorem ints_get {Z : List Nat} {i : Nat} (h : i < Z.length) : (Z.map fun n : Nat => V.int (n : Int))[i]? = some (.int (Z[i] : Nat)) := by
  rw [List.getElem?_map, List.getElem?_eq_getElem h]
  rfl
theorem strs_get {L : List Str} {i : Nat} (h : i < L.length) : (L.map V.str)[i]? = some (.str L[i]) := by
  rw [List.getElem?_map, List.getElem?_eq_getElem h]
  rfl
theorem ok_pool {f fD fS : Addr} {fd fdD fdS : FuncData} (F : Fun K "_law_pool" "_law_pool" sPool f fd)
    (GD : FnOk P w K mg base CX0 1 fD fdD ["_law_source_here", "_law_limit"] spDraw) (kD : PySem.W.keepIn K (.ref fD) = true) (bD : Binds K fdD ["_law_source_here", "_law_limit"] []) (mD : mg "_law_draw" = some (.ref fD))
    (GS : FnOk P w K mg base CX0 3 fS fdS ["_law_source_here", "_law_many"] spNames) (kS : PySem.W.keepIn K (.ref fS) = true) (bS : Binds K fdS ["_law_source_here", "_law_many"] []) (mS : mg "_law_names" = some (.ref fS))
    (mr : mg "range" = none) (ml : mg "len" = none) :
    FnOk P w K mg base CX0 4 f fd ["_law_source_here"] spPool := by
  refine F.ok scP (fun vs H Q E h => ?_) (fun cdv A outer s H vs Q E hr h => ?_)
  · obtain ⟨a, c, m, rfl, _⟩ := h
    rfl
  · obtain ⟨a, c, m, rfl, hs, k⟩ := h
    have hr1 : Room 1 _ := hr.mono (by decide)
    refine ⟨_, pss_cons (ps_set (i := 1) scP.nd rfl (Or.inr rfl) (pe_call GS hr (by rfl) mS kS bS .nil pass0 (pa_cons (pv 0) (pa_cons (pe_op op_add pe_int (pe_call GD hr1 (by rfl) mD kD bD .nil pass0 (pa_cons (pv 0) (pa_cons pe_int pa_nil)))) pa_nil))))
      (pss_cons (ps_set (i := 2) scP.nd rfl (Or.inr rfl) (pe_op op_cat (pe_lst (pa_cons pe_int pa_nil))
        (pe_lc (own := [("_law_k", 6)]) (g := gName 6) (tt := tYes) rfl scP.nd (pi_range1 (by rfl) mr (pa_cons (pe_op op_sub (pe_callB call_len_seq (by rfl) ml (by decide +kernel) (pa_cons (pv 1) pa_nil)) pe_int) pa_nil))
          (blkOk_by (own := [("_law_k", 6)]) (N := nPool) (sc := defScope sPool) (by decide +kernel)) (fun _ _ _ _ _ => pg_name (i := 6) scP.nd rfl (Or.inl rfl)) (fun _ _ _ _ _ => pts_nil)
          (fun _ _ _ _ _ => pe_ix (ix_listK rfl) (pe_lst (pa_cons pe_int (pa_cons pe_int (pa_cons pe_int (pa_cons pe_int (pa_cons pe_int (pa_cons pe_int (pa_cons pe_int (pa_cons pe_int pa_nil))))))))) (pe_call GD hr1 (by rfl) mD kD bD .nil pass0 (pa_cons (pv 0) (pa_cons pe_int pa_nil))) (fun _ _ => rfl)))))
      (pss_cons (ps_set (i := 3) scP.nd rfl (Or.inl rfl) (pe_call GS hr (by rfl) mS kS bS .nil pass0 (pa_cons (pv 0) (pa_cons (pe_op op_add pe_int (pe_call GD hr1 (by rfl) mD kD bD .nil pass0 (pa_cons (pv 0) (pa_cons pe_int pa_nil)))) pa_nil))))
      (pss_cons (ps_setLc (i := 4) (own := [("_law_name_here", 7)]) (g := gName 7) (tt := tYes) rfl scP.nd rfl rfl (sw_true rfl rfl rfl (by decide +kernel))
          (pi_list (pe_call GS hr (by rfl) mS kS bS .nil pass0 (pa_cons (pv 0) (pa_cons pe_int pa_nil))))
          (blkOk_by (own := [("_law_name_here", 7)]) (N := nPool) (sc := defScope sPool) (by decide +kernel)) (fun _ _ _ _ _ => pg_name (i := 7) scP.nd rfl (Or.inl rfl)) (fun _ _ _ _ _ => pts_nil)
          (fun _ _ _ _ _ => pe_op op_add_str pe_str (pv 7)))
      (pss_cons (ps_setLc (i := 5) (own := [("_law_k", 6)]) (g := gName 6) (tt := tYes) rfl scP.nd rfl rfl (sw_true rfl rfl rfl (by decide +kernel))
          (pi_range1 (by rfl) mr (pa_cons (pe_callB call_len_seq (by rfl) ml (by decide +kernel) (pa_cons (pv 1) pa_nil)) pa_nil))
          (blkOk_by (own := [("_law_k", 6)]) (N := nPool) (sc := defScope sPool) (by decide +kernel)) (fun _ _ _ _ _ => pg_name (i := 6) scP.nd rfl (Or.inl rfl)) (fun _ _ _ _ _ => pts_nil)
          (fun _ _ _ _ _ => pe_tup (pa_cons (pe_ix (ix_listK rfl) (pv 1) (pv 6) (fun _ _ => rfl)) (pa_cons (pe_ix (ix_listK rfl) (pv 2) (pv 6) (fun _ _ => rfl)) pa_nil))))
      (pss_cons (ps_if (pt_cmpR op_eq (pe_call GD hr1 (by rfl) mD kD bD .nil pass0 (pa_cons (pv 0) (pa_cons pe_int pa_nil))) pe_int (nomark _))
        (pss_one (ps_expr (pe_bm PySem.F.plainAttrs_list PySem.F.slot_list_append PySem.F.type_list_append mt_append (pv 5)
          (pa_cons (pe_tup (pa_cons (pe_ix ix_list (pv 1) pe_int (fun _ _ => rfl)) (pa_cons (pe_ix ix_list (pe_lst (pa_cons pe_int (pa_cons pe_int (pa_cons pe_int (pa_cons pe_int pa_nil))))) (pe_call GD hr1 (by rfl) mD kD bD .nil pass0 (pa_cons (pv 0) (pa_cons pe_int pa_nil))) (fun _ _ => rfl)) pa_nil))) pa_nil)))) pss_nil)
      (pss_one (ps_ret (pe_lst (pa_cons (pv 5) (pa_cons (pv 3) (pa_cons (pv 4) pa_nil))))))))))), ?_⟩
    -- tables
    refine ⟨_, rfl, _, rfl, a, c, m + 299, 3, rfl, hs, by decide, by decide, fun r1 H1 r10 r11 s1 k1 => ⟨_, _, rfl, rfl, ?_⟩⟩
    obtain ⟨j1, rfl⟩ : ∃ j : Nat, r1 = j := ⟨r1.toNat, by omega⟩
    refine ⟨a, c, m + 240, 2 + j1, rfl, by omega, s1.mono (by omega), fun t L H2 lL nL ndL nt ht s2 k2 => ?_⟩
    have ta : t ≠ a := s1.ne nt
    have K2 := k1.trans k2
    -- sizes
    refine ⟨(by show 1 ≤ sizeLine; decide), fun pA nA => ?_⟩
    have uA := same_new (o := .lst [V.int 2]) nA
    have zA := s2.ne nA
    refine ⟨_, rfl, t, _, rfl, .inl (SqL.of (uA _ _ ht)), _, _, rfl, rfl, ?_⟩
    have lS : (L.map V.str).length = 2 + j1 := by rw [List.length_map, lL]
    refine ⟨_, rfl, by rw [lS]; omega, by rw [lS]; omega, fun D nD => ?_⟩
    have tn : (((L.map V.str).length : Int) - 1).toNat = 1 + j1 := by rw [lS]; omega
    rw [tn]
    have sA := s2.same uA
    have zD := sA.ne nD
    refine lc_range (lo := 0) (n := 1 + j1) (fun j H5 => ∃ Z : List Nat, Z.length = j ∧ (∀ n ∈ Z, n ≤ 3) ∧ H5 D = some (.lst (Z.map fun n : Nat => V.int (n : Int))) ∧ SrcAt H5 a c (m + 239 - j) ∧ Keep a H H5 ∧ H5 t = some (.lst (L.map V.str)) ∧ H5 pA = some (.lst [V.int 2]))
      ⟨[], rfl, fun _ z => (by cases z), upd_same, (sA.same (same_new nD)).mono (by omega), K2.trans (Keep.of (uA.trans (same_new nD))), (same_new nD) _ _ (uA _ _ ht), (same_new nD) _ _ upd_same⟩ ?_ ?_
    · rintro j H5 hj ⟨Z, lZ, Z3, hD, s5, k5, t5, a5⟩
      refine ⟨rfl, ?_⟩
      dsimp only [tYes]
      rw [if_pos rfl]
      refine ⟨(by show 8 ≤ sizeLine; decide), fun p8 n8 => ?_⟩
      have u8 := same_new (o := .lst [V.int 2, V.int 1, V.int 2, V.int 3, V.int 2, V.int 0, V.int 1, V.int 2]) n8
      have z8 := s5.ne n8
      refine ⟨_, rfl, a, c, m + 239 - (j + 1), 8, rfl, (s5.same u8).mono (by omega), by decide, by decide, fun r H6 r0 r1 s6 k6 => ?_⟩
      obtain ⟨n, en, n3⟩ := menu8 r0 r1
      refine ⟨p8, _, _, _, rfl, rfl, SqL.of (k6 _ _ upd_same z8), en, _, k6 _ _ (u8 _ _ hD) zD, ?_, Z ++ [n], ?_, ?_, ?_, ?_, ?_, ?_, ?_⟩
      · rw [List.length_map, lZ, sizeLine_eq]
        omega
      · simp [lZ]
      · intro x hx
        rcases List.mem_append.mp hx with hx | hx
        · exact Z3 x hx
        · have e : x = n := by simpa using hx
          rw [e]
          exact n3
      · rw [upd_same]
        simp
      · obtain ⟨d, nn, e, g⟩ := s6
        exact ⟨d, nn, by rw [upd_ne zD.symm]; exact e, g⟩
      · have kk : Keep a H H6 := (k5.trans (Keep.of u8)).trans k6
        intro b o e nb
        by_cases hb : b = D
        · exfalso
          subst hb
          have q := (K2.trans (Keep.of uA)) _ _ e nb
          rw [nD] at q
          cases q
        · rw [upd_ne hb]
          exact kk b o e nb
      · have tD : t ≠ D := ne_of_none (uA _ _ ht) nD
        rw [upd_ne tD]
        exact k6 _ _ (u8 _ _ t5) ta
      · have aD : pA ≠ D := ne_of_none (upd_same (H := H2) (o := .lst [V.int 2])) nD
        rw [upd_ne aD]
        exact k6 _ _ (u8 _ _ a5) zA
    · rintro H5 ⟨Z, lZ, Z3, hD, s5, k5, t5, a5⟩
      refine ⟨pA, D, _, _, rfl, rfl, a5, hD, ?_, fun pZ nZ => ?_⟩
      · rw [List.length_map, lZ, sizeLine_eq]
        show 1 + (1 + j1) ≤ _
        omega
      have uZ := same_new (o := .lst ([V.int 2] ++ Z.map fun n : Nat => V.int (n : Int))) nZ
      have zZ := s5.ne nZ
      have sZ : SrcAt _ a c (m + 235) := (s5.same uZ).mono (by omega)
      have hZ : (upd H5 pZ (.lst ([V.int 2] ++ Z.map fun n : Nat => V.int (n : Int)))) pZ = some (.lst ((2 :: Z).map fun n : Nat => V.int (n : Int))) := upd_same
      -- constants
      refine ⟨_, rfl, _, rfl, a, c, m + 234, 3, rfl, sZ, by decide, by decide, fun r2 H6 r20 r21 s6 k6 => ⟨_, _, rfl, rfl, ?_⟩⟩
      obtain ⟨j2, rfl⟩ : ∃ j : Nat, r2 = j := ⟨r2.toNat, by omega⟩
      refine ⟨a, c, m + 150, 2 + j2, rfl, by omega, s6.mono (by omega), fun pC C H7 lC nC ndC ntC hC s7 k7 => ?_⟩
      have zC := s6.ne ntC
      have t7 := k7 _ _ (k6 _ _ (uZ _ _ t5) ta) ta
      have z7 := k7 _ _ (k6 _ _ hZ zZ) zZ
      have kH7 := ((k5.trans (Keep.of uZ)).trans k6).trans k7
      -- variables
      refine ⟨_, rfl, a, c, m + 20, 9, rfl, by decide, s7.mono (by omega), fun pN N9 H8 lN nN ndN ntN hN s8 k8 => ?_⟩
      have t8 := k8 _ _ t7 ta
      have z8 := k8 _ _ z7 zZ
      have c8 := k8 _ _ hC zC
      have kH8 := kH7.trans k8
      refine ⟨pN, rfl, ⟨_, SqL.of hN⟩, fun DV nDV => ?_⟩
      have zV := s8.ne nDV
      refine lc_list (K := K) (a := pN) (xs := N9.map V.str) (fun j H9 => Same H8 H9 ∧ H9 DV = some (.lst (((N9.take j).map fun y => Str.ofString "?" ++ y).map V.str)))
        ⟨same_new nDV, upd_same⟩ (fun j H9 _ h9 => h9.1.seq (SqL.of hN)) ?_ ?_
      · rintro j v H9 hj ⟨s9, hDV⟩
        rw [List.getElem?_map] at hj
        cases eb : N9[j]? with
        | none =>
          rw [eb] at hj
          cases hj
        | some y =>
          rw [eb] at hj
          cases hj
          refine ⟨rfl, ?_⟩
          dsimp only [tYes]
          rw [if_pos rfl]
          have ny := nN y (List.mem_of_getElem? eb)
          obtain ⟨_, l12, _⟩ := nm_sgns ny
          have ly := length_toList y
          refine ⟨_, rfl, _, _, rfl, rfl, ?_, _, hDV, ?_, fun b o e => ?_, ?_⟩
          · have e1 : (Str.ofString "?").length = 1 := by decide +kernel
            rw [e1, sizeLine_eq]
            omega
          · rw [List.length_map, List.length_map, List.length_take, lN, sizeLine_eq]
            omega
          · rw [upd_ne (ne_of_none e nDV)]
            exact s9 b o e
          · rw [upd_same, List.take_add_one, eb]
            simp
      · rintro H9 ⟨s9, hDV⟩
        rw [List.length_map, List.take_of_length_le (Nat.le_refl _)] at hDV
        have t9 := s9 _ _ t8
        have z9 := s9 _ _ z8
        have c9 := s9 _ _ c8
        have sr9 := s8.same s9
        have kH9 := kH8.trans (Keep.of s9)
        -- rows
        refine ⟨_, rfl, t, _, rfl, .inl (SqL.of t9), _, rfl, by rw [lS]; omega, by rw [lS]; omega, fun DR nDR => ?_⟩
        have tn2 : (((L.map V.str).length : Int)).toNat = 2 + j1 := by rw [lS]; omega
        rw [tn2]
        have zR := sr9.ne nDR
        refine lc_range (lo := 0) (n := 2 + j1) (fun j H10 => ∃ rows : List (Addr × Str × Nat), rows.length = j ∧ Same H9 H10 ∧ H10 DR = some (.lst (rows.map fun x => V.ref x.1)) ∧
          ∀ x ∈ rows, H10 x.1 = some (.tup [.str x.2.1, .int (x.2.2 : Nat)]) ∧ Nm x.2.1 ∧ x.2.2 ≤ 3 ∧ x.1 ≠ a ∧ x.1 ≠ DR)
          ⟨[], rfl, same_new nDR, upd_same, fun _ z => by cases z⟩ ?_ ?_
        · rintro j H10 hj ⟨rows, lR, s10, hDR, all⟩
          refine ⟨rfl, ?_⟩
          dsimp only [tYes]
          rw [if_pos rfl]
          have e0 : (0 : Int) + (j : Int) = (j : Int) := by omega
          rw [e0]
          have jL : j < L.length := by omega
          have jZ : j < (2 :: Z).length := by simp; omega
          refine ⟨_, rfl, _, rfl, t, _, _, _, rfl, rfl, SqL.of (s10 _ _ t9), atI_nat (strs_get jL), _, rfl, _, rfl, pZ, _, _, _, rfl, rfl, SqL.of (s10 _ _ z9), atI_nat (ints_get jZ), (by show 2 ≤ sizeLine; decide), fun pt npt => ?_⟩
          have upt := same_new (o := .tup [V.str L[j], V.int (((2 :: Z)[j] : Nat) : Int)]) npt
          have zpt : pt ≠ a := (sr9.same s10).ne npt
          have zDR : pt ≠ DR := (ne_of_none hDR npt).symm
          have z3 : (2 :: Z)[j] ≤ 3 := by
            have hm : (2 :: Z)[j] ∈ (2 :: Z) := List.getElem_mem jZ
            rcases List.mem_cons.mp hm with e | e
            · rw [e]
              decide
            · exact Z3 _ e
          refine ⟨_, upt _ _ hDR, ?_, rows ++ [(pt, L[j], (2 :: Z)[j])], by simp [lR], fun b o e => ?_, by rw [upd_same]; simp, fun x hx => ?_⟩
          · rw [List.length_map, lR, sizeLine_eq]
            omega
          · rw [upd_ne (ne_of_none e nDR)]
            exact upt _ _ (s10 b o e)
          · rcases List.mem_append.mp hx with hx | hx
            · obtain ⟨h1, h2, h3, h4, h5⟩ := all x hx
              exact ⟨by rw [upd_ne h5]; exact upt _ _ h1, h2, h3, h4, h5⟩
            · have e : x = (pt, L[j], (2 :: Z)[j]) := by simpa using hx
              rw [e]
              exact ⟨by rw [upd_ne zDR]; exact upd_same, nL _ (List.getElem_mem jL), z3, zpt, zDR⟩
        · rintro H10 ⟨rows, lR, s10, hDR, all⟩
          have sr10 := sr9.same s10
          -- the return
          have fin : ∀ (H11 : Hp) (rows' : List (Addr × Str × Nat)), 1 ≤ rows'.length → rows'.length ≤ 9 → H11 DR = some (.lst (rows'.map fun x => V.ref x.1)) →
              (∀ x ∈ rows', H11 x.1 = some (.tup [.str x.2.1, .int (x.2.2 : Nat)]) ∧ Nm x.2.1 ∧ x.2.2 ≤ 3 ∧ x.1 ≠ a) → H11 pC = some (.lst (C.map V.str)) →
              H11 DV = some (.lst ((N9.map fun y => Str.ofString "?" ++ y).map V.str)) → SrcAt H11 a c m → Keep a H H11 →
              ∀ p, H11 p = none → Q (.ref p) (upd H11 p (.lst [.ref DR, .ref pC, .ref DV])) := by
            intro H11 rows' l1 l9 hR allR hC11 hV11 s11 k11 p np
            have up := same_new (o := .lst [V.ref DR, V.ref pC, V.ref DV]) np
            refine k p ⟨DR, pC, DV, rows', C, N9.map fun y => Str.ofString "?" ++ y⟩ _ ⟨upd_same, up _ _ hR, fun x hx => let ⟨h1, h2, h3, h4⟩ := allR x hx; ⟨up _ _ h1, h2, h3, h4⟩, l1, l9, up _ _ hC11, nC, by rw [lC]; omega, by rw [lC]; omega, up _ _ hV11, fun z hz => ?_, by simp [lN], s11.ne np, zR, zC, zV⟩ (s11.same up) (k11.trans (Keep.of up))
            obtain ⟨y, hy, rfl⟩ := List.mem_map.mp hz
            exact ⟨y, nN y hy, rfl⟩
          -- if draw(3) == 0
          refine ⟨_, rfl, a, c, m + 10, 3, rfl, sr10.mono (by omega), by decide, by decide, fun r5 H11 r50 r51 s11 k11 => ⟨rfl, _, rfl, ?_⟩⟩
          have hR11 := k11 _ _ hDR zR
          have c11 := k11 _ _ (s10 _ _ c9) zC
          have v11 := k11 _ _ (s10 _ _ hDV) zV
          have t11 := k11 _ _ (s10 _ _ t9) ta
          have kH11 := (kH9.trans (Keep.of s10)).trans k11
          refine ite2 (fun _ => ?_) (fun _ => ?_)
          · have L0 : 0 < L.length := by omega
            refine ⟨_, rfl, .inl ⟨rfl, _, .inl (.inl hR11)⟩, ?_⟩
            refine ⟨_, rfl, t, _, 0, _, rfl, rfl, SqL.of t11, atI_nat (j := 0) (strs_get L0), (by show 4 ≤ sizeLine; decide), fun p4 n4 => ?_⟩
            have u4 := same_new (o := .lst [V.int 1, V.int 3, V.int 0, V.int 1]) n4
            have z4 := s11.ne n4
            refine ⟨_, rfl, a, c, m + 5, 4, rfl, (s11.same u4).mono (by omega), by decide, by decide, fun r6 H12 r60 r61 s12 k12 => ?_⟩
            obtain ⟨n, en, n3⟩ := menu4 r60 r61
            refine ⟨p4, _, _, _, rfl, rfl, SqL.of (k12 _ _ upd_same z4), en, (by show 2 ≤ sizeLine; decide), fun pt npt => ?_⟩
            have upt := same_new (o := .tup [V.str L[0], V.int (n : Int)]) npt
            have zpt := s12.ne npt
            have hR12 := k12 _ _ (u4 _ _ hR11) zR
            have zDR : pt ≠ DR := (ne_of_none hR12 npt).symm
            refine ⟨DR, _, _, rfl, rfl, upt _ _ hR12, ?_, ?_⟩
            · rw [List.length_map, lR, sizeLine_eq]
              omega
            · have ks : Keep DR (upd H12 pt (.tup [V.str L[0], V.int (n : Int)])) (upd (upd H12 pt (.tup [V.str L[0], V.int (n : Int)])) DR (.lst (rows.map (fun x => V.ref x.1) ++ [V.ref pt]))) := fun b o e nb => by
                rw [upd_ne nb]
                exact e
              have aDR : a ≠ DR := zR.symm
              refine ⟨_, rfl, _, rfl, _, rfl, (by show 3 ≤ sizeLine; decide), fin _ (rows ++ [(pt, L[0], n)]) (by simp) (by simp [lR]; omega) (by rw [upd_same]; simp) (fun x hx => ?_) ?_ ?_ ?_ ?_⟩
              · rcases List.mem_append.mp hx with hx | hx
                · obtain ⟨h1, h2, h3, h4, h5⟩ := all x hx
                  exact ⟨ks _ _ (upt _ _ (k12 _ _ (u4 _ _ (k11 _ _ h1 h4)) h4)) h5, h2, h3, h4⟩
                · have e : x = (pt, L[0], n) := by simpa using hx
                  rw [e]
                  exact ⟨ks _ _ upd_same zDR, nL _ (List.getElem_mem L0), n3, zpt⟩
              · exact ks _ _ (upt _ _ (k12 _ _ (u4 _ _ c11) zC)) (ne_of_none (s10.trans (Same.refl _) |> fun _ => c9) nDR)
              · exact ks _ _ (upt _ _ (k12 _ _ (u4 _ _ v11) zV)) (ne_of_none hDV nDR)
              · obtain ⟨d, nn, e, g, bb⟩ := s12.same upt
                exact ⟨d, nn, ks _ _ e aDR, by omega, bb⟩
              · have k13 := (kH11.trans (Keep.of u4)).trans (k12.trans (Keep.of upt))
                intro b o e nb
                have nD' : b ≠ DR := ne_of_none (kH9 b o e nb) nDR
                exact ks _ _ (k13 b o e nb) nD'
          · refine ⟨_, rfl, _, rfl, _, rfl, (by show 3 ≤ sizeLine; decide), fin _ rows (by omega) (by omega) hR11 (fun x hx => ?_) c11 v11 (s11.mono (by omega)) kH11⟩
            obtain ⟨h1, h2, h3, h4, h5⟩ := all x hx
            exact ⟨k11 _ _ h1 h4, h2, h3, h4⟩
end
end L2.LawH
set_option Elab.async false
set_option linter.all false
set_option maxRecDepth 100000
set_option maxHeartbeats 4000000
/-! The helpers of the laws: terms, patterns, lots. -/
namespace L2.LawH
open PySem PySem.Spec PyProof.Rows
open Builtin.Int (intBits)
abbrev sTerm : Stmt := top 23
abbrev sPat : Stmt := top 24
abbrev sLot : Stmt := top 25
/-! ### texts that can be compared -/
theorem ok_list {z : Str} (h : ∀ c ∈ z.cps.toList, c < 0x110000) : PyData.strOk z = true := by
  unfold PyData.strOk
  rw [← Array.all_toList, List.all_eq_true]
  exact fun c hc => decide_eq_true (h c hc)
theorem sgn_small {c : Nat} (h : isSgn c = true) : c < 0x110000 := by
  simp only [isSgn, isLet, Bool.or_eq_true, Bool.and_eq_true, decide_eq_true_eq] at h
  omega
theorem Nm.strOk {z : Str} (h : Nm z) : PyData.strOk z = true := by
  obtain ⟨h1, _, _⟩ := nm_sgns h
  exact ok_list fun c hc => sgn_small (List.all_eq_true.mp h1 c hc)
theorem Vr.strOk {z : Str} (h : Vr z) : PyData.strOk z = true := by
  obtain ⟨y, ny, rfl⟩ := h
  obtain ⟨h1, _, _⟩ := nm_sgns ny
  refine ok_list fun c hc => ?_
  rw [toList_append] at hc
  rcases List.mem_append.mp hc with hc | hc
  · have e1 : (Str.ofString "?").cps.toList = [63] := by decide +kernel
    rw [e1] at hc
    have e : c = 63 := by simpa using hc
    omega
  · exact sgn_small (List.all_eq_true.mp h1 c hc)
theorem dp_strs {K : PySem.W.Frag} {H : Hp} : ∀ zs : List Str, DpAll K H (zs.map V.str) (zs.map PyData.str)
  | [] => .nil
  | z :: zs => .cons (.str z) (dp_strs zs)
theorem lay_strs : ∀ zs : List Str, (PyData.list (zs.map PyData.str)).canLay0 = (zs.all PyData.strOk)
  | [] => rfl
  | z :: zs => by
    have ih := lay_strs zs
    simp only [PyData.canLay0, PyData.canLayAll0, List.map_cons, List.all_cons] at ih ⊢
    rw [ih]
theorem depth_strs : ∀ zs : List Str, (PyData.list (zs.map PyData.str)).depth ≤ 2
  | [] => by decide
  | z :: zs => by
    have ih := depth_strs zs
    simp only [PyData.depth, PyData.depthAll, List.map_cons] at ih ⊢
    omega
theorem shaped_strs {zs : List Str} (h : ∀ z ∈ zs, PyData.strOk z = true) : SeqAt.shaped (.list (zs.map PyData.str)) = true := by
  unfold SeqAt.shaped
  rw [lay_strs, List.all_eq_true.mpr h, Bool.true_and]
  exact decide_eq_true (Nat.le_trans (depth_strs zs) (by decide))
theorem eqv_nil : ∀ zs : List Str, PyData.eqv (.list (zs.map PyData.str)) (.list []) = decide (zs = [])
  | [] => by decide
  | z :: zs => by simp [PyData.eqv, PyData.eqvAll]

/-- a list of variables at q -/
structure VarsAt (a : Addr) (H : Hp) (q : Addr) (W : List Str) : Prop where
  hq : H q = some (.lst (W.map V.str))
  all : ∀ z ∈ W, Vr z
  few : W.length ≤ 100
  nq : q ≠ a
theorem VarsAt.keep {a : Addr} {H H' : Hp} {q : Addr} {W : List Str} (h : VarsAt a H q W) (k : Keep a H H') : VarsAt a H' q W := ⟨k _ _ h.hq h.nq, h.all, h.few, h.nq⟩
def spTerm : Sp := fun vs H Q _ => ∃ (a p q : Addr) (c : Int) (m : Nat) (sh : Int) (π : Pool) (W : List Str), vs = [.ref a, .ref p, .ref q, .int sh] ∧ SrcAt H a c (m + 3) ∧ PoolAt a H p π ∧ VarsAt a H q W ∧
  ∀ (z : Str) (H' : Hp), (z ∈ π.C ∨ z ∈ W) → SrcAt H' a c m → Keep a H H' → Q (.str z) H'
/-- a pattern over a pool and variables -/
structure PatOf (π : Pool) (W : List Str) (T : Str) (zs : List Str) : Prop where
  tab : ∃ x ∈ π.rows, x.2.1 = T ∧ zs.length = x.2.2
  trm : ∀ z ∈ zs, z ∈ π.C ∨ z ∈ W
def spPat : Sp := fun vs H Q _ => ∃ (a p q : Addr) (c : Int) (m : Nat) (sh : Int) (π : Pool) (W : List Str), vs = [.ref a, .ref p, .ref q, .int sh] ∧ SrcAt H a c (m + 20) ∧ PoolAt a H p π ∧ VarsAt a H q W ∧
  ∀ (t : Addr) (T : Str) (zs : List Str) (H' : Hp), PatOf π W T zs → H' t = some (.tup (.str T :: zs.map V.str)) → t ≠ a → SrcAt H' a c m → Keep a H H' → Q (.ref t) H'
section
variable {P : Program} {w : World} {K : PySem.W.Frag} {mg : Str → Option Value} {base : Heap}
abbrev nTerm : List Str := ["_law_source_here", "_law_pool_here", "_law_variables", "_law_share"]
theorem scT : FnScope nTerm nTerm (defScope sTerm) := ⟨rfl, rfl, rfl, by decide +kernel, rfl, by decide +kernel, by decide +kernel⟩
theorem ok_term {f fD : Addr} {fd fdD : FuncData} (F : Fun K "_law_term" "_law_term" sTerm f fd)
    (GD : FnOk P w K mg base CX0 1 fD fdD ["_law_source_here", "_law_limit"] spDraw) (kD : PySem.W.keepIn K (.ref fD) = true) (bD : Binds K fdD ["_law_source_here", "_law_limit"] []) (mD : mg "_law_draw" = some (.ref fD))
    (ml : mg "len" = none) : FnOk P w K mg base CX0 2 f fd nTerm spTerm := by
  refine F.ok scT (fun vs H Q E h => ?_) (fun cdv A outer s H vs Q E hr h => ?_)
  · obtain ⟨a, p, q, c, m, sh, π, W, rfl, _⟩ := h
    rfl
  · obtain ⟨a, p, q, c, m, sh, π, W, rfl, hs, hp, hv, k⟩ := h
    have hr1 : Room 1 _ := hr.mono (by decide)
    have hu := hr.units
    refine ⟨_, pss_cons (ps_if (PW.pt (pw_and (pt_cmpR (op_neD hu) (pv 2) (pe_lst pa_nil) (nomark _)) (pw_and1 (pt_cmpR op_lt (pe_call GD hr1 (by rfl) mD kD bD .nil pass0 (pa_cons (pv 0) (pa_cons pe_int pa_nil))) (pv 3) (nomark _)))))
        (pss_one (ps_ret (pe_ix ix_list (pv 2) (pe_call GD hr1 (by rfl) mD kD bD .nil pass0 (pa_cons (pv 0) (pa_cons (pe_callB call_len_seq (by rfl) ml (by decide +kernel) (pa_cons (pv 2) pa_nil)) pa_nil))) (fun _ _ => rfl)))) pss_nil)
      (pss_one (ps_ret (pe_ix ix_list (pe_ix ix_list (pv 1) pe_int (fun _ _ => rfl)) (pe_call GD hr1 (by rfl) mD kD bD .nil pass0 (pa_cons (pv 0) (pa_cons (pe_callB call_len_seq (by rfl) ml (by decide +kernel) (pa_cons (pe_ix ix_list (pv 1) pe_int (fun _ _ => rfl)) pa_nil)) pa_nil))) (fun _ _ => rfl)))), ?_⟩
    -- the second way
    have snd : ∀ H1, SrcAt H1 a c (m + 1) → Keep a H H1 → ∀ σ : List (Option V), σ = [some (.ref a), some (.ref p), some (.ref q), some (.int sh)] →
        tRet (tOp (rIxL K) (tOp (rIxL K) (tVar 1) (tC (.int 1))) (tCall spDraw [] E0 (tCons (tVar 0) (tCons (tCB (fun xs H Q => ∃ p ys, xs = [.ref p] ∧ (SqL K H p ys ∨ SqT K H p ys) ∧ Q (.int ys.length) H) (tCons (tOp (rIxL K) (tVar 1) (tC (.int 1))) tNil)) tNil))))
          { nx := fun _ H' => Q .non H', rt := Q } σ H1 := by
      rintro H1 s1 k1 σ rfl
      have p1 := hp.keep k1
      have lC : (π.C.map V.str).length = π.C.length := List.length_map _
      have c2 := π.C.length
      refine ⟨_, rfl, p, _, 1, _, rfl, rfl, SqL.of p1.hp, rfl, _, rfl, _, rfl, p, _, 1, _, rfl, rfl, SqL.of p1.hp, rfl, π.cs, _, rfl, .inl (SqL.of p1.hc), ?_⟩
      refine ⟨a, c, m, _, rfl, s1, by rw [lC]; have := hp.C2; omega, by rw [lC]; have := hp.C9; omega, fun r H2 r0 r1 s2 k2 => ?_⟩
      obtain ⟨j, rfl⟩ : ∃ j : Nat, r = j := ⟨r.toNat, by omega⟩
      rw [lC] at r1
      have hj : j < π.C.length := by omega
      exact ⟨π.cs, _, _, _, rfl, rfl, SqL.of (k2 _ _ p1.hc p1.nc), atI_nat (strs_get hj), k _ H2 (.inl (List.getElem_mem hj)) s2 (k1.trans k2)⟩
    refine ⟨_, rfl, (by show 0 ≤ sizeLine; decide), fun p0 n0 => ?_⟩
    have u0 := same_new (o := .lst []) n0
    have s0 := hs.same u0
    have hv0 := hv.keep (Keep.of u0)
    refine ⟨_, _, .lst (SqL.of hv0.hq) (dp_strs W), .lst (SqL.of upd_same) .nil, shaped_strs fun z hz => (hv.all z hz).strOk, by decide, _, rfl, ?_⟩
    rw [eqv_nil]
    by_cases e : W = []
    · rw [decide_eq_true e]
      refine iteF ?_
      refine iteF ?_
      exact snd _ (s0.mono (by omega)) (Keep.of u0) _ rfl
    · rw [decide_eq_false e]
      refine iteT ?_
      refine ⟨_, rfl, a, c, m + 2, 6, rfl, s0, by decide, by decide, fun r H1 r0 r1 s1 k1 => ?_⟩
      have hv1 := hv0.keep k1
      refine ⟨_, rfl, _, _, rfl, rfl, _, rfl, ?_⟩
      refine ite2 (fun _ => ?_) (fun _ => ?_)
      · have lW : (W.map V.str).length = W.length := List.length_map _
        have W0 : 0 < W.length := List.length_pos_iff.mpr e
        refine ⟨_, rfl, _, rfl, _, rfl, q, _, rfl, .inl (SqL.of hv1.hq), ?_⟩
        refine ⟨a, c, m + 1, _, rfl, s1, by rw [lW]; omega, by rw [lW]; have := hv.few; omega, fun r2 H2 r20 r21 s2 k2 => ?_⟩
        obtain ⟨j, rfl⟩ : ∃ j : Nat, r2 = j := ⟨r2.toNat, by omega⟩
        rw [lW] at r21
        have hj : j < W.length := by omega
        exact ⟨q, _, _, _, rfl, rfl, SqL.of (k2 _ _ hv1.hq hv.nq), atI_nat (strs_get hj), k _ H2 (.inr (List.getElem_mem hj)) (s2.mono (by omega)) (((Keep.of u0).trans k1).trans k2)⟩
      · exact snd _ (s1.mono (by omega)) ((Keep.of u0).trans k1) _ rfl
abbrev nPat : List Str := ["_law_source_here", "_law_pool_here", "_law_variables", "_law_share", "_law_table", "_law_size", "_law_k"]
theorem scPt : FnScope nPat nTerm (defScope sPat) := ⟨rfl, rfl, rfl, by decide +kernel, rfl, by decide +kernel, by decide +kernel⟩
theorem ok_pat {f fD fT : Addr} {fd fdD fdT : FuncData} (F : Fun K "_law_pattern" "_law_pattern" sPat f fd)
    (GD : FnOk P w K mg base CX0 1 fD fdD ["_law_source_here", "_law_limit"] spDraw) (kD : PySem.W.keepIn K (.ref fD) = true) (bD : Binds K fdD ["_law_source_here", "_law_limit"] []) (mD : mg "_law_draw" = some (.ref fD))
    (GT : FnOk P w K mg base CX0 2 fT fdT nTerm spTerm) (kT : PySem.W.keepIn K (.ref fT) = true) (bT : Binds K fdT nTerm []) (mT : mg "_law_term" = some (.ref fT))
    (ml : mg "len" = none) (mr : mg "range" = none) (mt : mg "tuple" = none) : FnOk P w K mg base CX0 3 f fd nTerm spPat := by
  refine F.ok scPt (fun vs H Q E h => ?_) (fun cdv A outer s H vs Q E hr h => ?_)
  · obtain ⟨a, p, q, c, m, sh, π, W, rfl, _⟩ := h
    rfl
  · obtain ⟨a, p, q, c, m, sh, π, W, rfl, hs, hp, hv, k⟩ := h
    have hr1 : Room 1 _ := hr.mono (by decide)
    refine ⟨_, pss_cons (ps_asg (pe_ix ix_list (pe_ix ix_list (pv 1) pe_int (fun _ _ => rfl)) (pe_call GD hr1 (by rfl) mD kD bD .nil pass0 (pa_cons (pv 0) (pa_cons (pe_callB call_len_seq (by rfl) ml (by decide +kernel) (pa_cons (pe_ix ix_list (pv 1) pe_int (fun _ _ => rfl)) pa_nil)) pa_nil))) (fun _ _ => rfl))
        (pg_tup (by rfl) (pgs_cons (pg_name (i := 4) scPt.nd rfl (Or.inl rfl)) (pgs_cons (pg_name (i := 5) scPt.nd rfl (Or.inl rfl)) pgs_nil))))
      (pss_one (ps_ret (pe_callTy call_tuple_of (by rfl) mt (by decide +kernel) (pa_cons (pe_op op_cat (pe_lst (pa_cons (pv 4) pa_nil))
        (pe_lc (own := [("_law_k", 6)]) (g := gName 6) (tt := tYes) rfl scPt.nd (pi_range1 (by rfl) mr (pa_cons (pv 5) pa_nil))
          (blkOk_by (own := [("_law_k", 6)]) (N := nPat) (sc := defScope sPat) (by decide +kernel)) (fun _ _ _ _ _ => pg_name (i := 6) scPt.nd rfl (Or.inl rfl)) (fun _ _ _ _ _ => pts_nil)
          (fun _ _ _ _ _ => pe_call GT hr (by rfl) mT kT bT .nil pass0 (pa_cons (pv 0) (pa_cons (pv 1) (pa_cons (pv 2) (pa_cons (pv 3) pa_nil))))))) pa_nil)))), ?_⟩
    have lR : (π.rows.map fun x => V.ref x.1).length = π.rows.length := List.length_map _
    refine ⟨_, rfl, p, _, 0, _, rfl, rfl, SqL.of hp.hp, rfl, _, rfl, _, rfl, p, _, 0, _, rfl, rfl, SqL.of hp.hp, rfl, π.r, _, rfl, .inl (SqL.of hp.hr), ?_⟩
    refine ⟨a, c, m + 19, _, rfl, hs, by rw [lR]; have := hp.rows1; omega, by rw [lR]; have := hp.rows9; omega, fun r H1 r0 r1 s1 k1 => ?_⟩
    obtain ⟨j, rfl⟩ : ∃ j : Nat, r = j := ⟨r.toNat, by omega⟩
    rw [lR] at r1
    have hj : j < π.rows.length := by omega
    have hp1 := hp.keep k1
    have hv1 := hv.keep k1
    have hx : (π.rows.map fun x => V.ref x.1)[j]? = some (.ref π.rows[j].1) := by
      rw [List.getElem?_map, List.getElem?_eq_getElem hj]
      rfl
    have mx : π.rows[j] ∈ π.rows := List.getElem_mem hj
    obtain ⟨t1, nT, n3, nx⟩ := hp1.hrow _ mx
    refine ⟨π.r, _, _, _, rfl, rfl, SqL.of hp1.hr, atI_nat hx, _, _, rfl, SqT.of t1, rfl, _, _, rfl, _, _, rfl, rfl, ?_⟩
    -- tuple([table] + [..])
    refine ⟨_, rfl, (by show 1 ≤ sizeLine; decide), fun pA nA => ?_⟩
    have uA := same_new (o := .lst [V.str π.rows[j].2.1]) nA
    have zA := s1.ne nA
    refine ⟨_, rfl, _, rfl, by omega, by omega, fun D nD => ?_⟩
    have sA := s1.same uA
    have zD := sA.ne nD
    rw [Int.toNat_natCast]
    refine lc_range (lo := 0) (n := π.rows[j].2.2) (fun i H5 => ∃ zs : List Str, zs.length = i ∧ (∀ z ∈ zs, z ∈ π.C ∨ z ∈ W) ∧ H5 D = some (.lst (zs.map V.str)) ∧ SrcAt H5 a c (m + 19 - 3 * i) ∧ Keep a H H5 ∧ H5 pA = some (.lst [V.str π.rows[j].2.1]))
      ⟨[], rfl, fun _ z => (by cases z), upd_same, sA.same (same_new nD), (k1.trans (Keep.of uA)).trans (Keep.of (same_new nD)), (same_new nD) _ _ upd_same⟩ ?_ ?_
    · rintro i H5 hi ⟨zs, lz, hz, hD, s5, k5, a5⟩
      refine ⟨rfl, ?_⟩
      dsimp only [tYes]
      rw [if_pos rfl]
      have s5' : SrcAt H5 a c (m + 19 - 3 * (i + 1) + 3) := s5.mono (by omega)
      refine ⟨_, rfl, _, rfl, _, rfl, _, rfl, a, p, q, c, m + 19 - 3 * (i + 1), sh, π, W, rfl, s5', hp.keep k5, hv.keep k5, fun z H6 hz6 s6 k6 => ?_⟩
      refine ⟨_, k6 _ _ hD zD, ?_, zs ++ [z], by simp [lz], fun y hy => ?_, by rw [upd_same]; simp, ?_, ?_, ?_⟩
      · rw [List.length_map, lz, sizeLine_eq]
        omega
      · rcases List.mem_append.mp hy with hy | hy
        · exact hz y hy
        · have e : y = z := by simpa using hy
          rw [e]
          exact hz6
      · obtain ⟨d, nn, e, g⟩ := s6
        exact ⟨d, nn, by rw [upd_ne zD.symm]; exact e, g⟩
      · intro b o e nb
        have hb : b ≠ D := ne_of_none ((k1.trans (Keep.of uA)) b o e nb) nD
        rw [upd_ne hb]
        exact (k5.trans k6) b o e nb
      · have aD : pA ≠ D := ne_of_none (upd_same (H := H1) (o := .lst [V.str π.rows[j].2.1])) nD
        rw [upd_ne aD]
        exact k6 _ _ a5 zA
    · rintro H5 ⟨zs, lz, hz, hD, s5, k5, a5⟩
      refine ⟨pA, D, _, _, rfl, rfl, a5, hD, ?_, fun pL nL => ?_⟩
      · rw [List.length_map, lz, sizeLine_eq]
        show 1 + _ ≤ _
        omega
      have uL := same_new (o := .lst ([V.str π.rows[j].2.1] ++ zs.map V.str)) nL
      refine ⟨pL, _, rfl, .inl ⟨SqL.of upd_same, fun pt npt => ?_⟩⟩
      have ut := same_new (o := .tup ([V.str π.rows[j].2.1] ++ zs.map V.str)) npt
      have s6 := (s5.same uL).same ut
      exact k pt _ zs _ ⟨⟨_, mx, rfl, lz⟩, hz⟩ upd_same ((s5.same uL).ne npt) (s6.mono (by omega)) ((k5.trans (Keep.of uL)).trans (Keep.of ut))
end
end L2.LawH
set_option Elab.async false
set_option linter.all false
set_option maxRecDepth 100000
set_option maxHeartbeats 4000000
/-! Sets whose members have a key (texts, numbers): what they hold, in any order; adding; walking them; sorting sets of texts. -/
namespace L2.GSet
open PySem PySem.Spec PyProof.Rows
section
variable {P : Program} {w : World} {κ : Type} [DecidableEq κ]
/-- a set's payload holds the keys ks, and its table can be walked -/
structure Pay (kd : PySem.KeyKind P w κ) (key : Value → κ) (es : Array (Int × Value)) (t : SetTable) (ks : List κ) : Prop where
  el : ElemsOf kd es.toList
  pm : (es.toList.map fun e => key e.2).Perm ks
  few : es.size < scanBound
  fit : t.fits es.size = true
  ris : Ris t.place.toList
  led : w.params.followText "set-order" = true ∨ t.led = true
def GAt (kd : PySem.KeyKind P w κ) (key : Value → κ) (h : Heap) (a : Addr) (ks : List κ) : Prop :=
  ∃ o es ep t, h.get? a = some o ∧ o.ExactSet ∧ o.data = .set es ep t ∧ Pay kd key es t ks
variable {kd : PySem.KeyKind P w κ} {key : Value → κ} {es : Array (Int × Value)} {t : SetTable} {ks : List κ} {h h' : Heap} {a : Addr}
theorem GAt.keep (R : GAt kd key h a ks) (k : ∀ o, h.get? a = some o → h'.get? a = some o) : GAt kd key h' a ks :=
  let ⟨o, es, ep, t, ho, r⟩ := R
  ⟨o, es, ep, t, k o ho, r⟩
theorem GAt.some (R : GAt kd key h a ks) : ∃ o, h.get? a = some o := let ⟨o, _, _, _, ho, _⟩ := R; ⟨o, ho⟩
theorem Pay.size (p : Pay kd key es t ks) : es.size = ks.length := by
  have q := p.pm.length_eq
  rwa [List.length_map, Array.length_toList] at q
theorem Pay.is (hk : ∀ k v, kd.is k v = true → key v = k) (p : Pay kd key es t ks) {e : Int × Value} (he : e ∈ es.toList) (k : κ) : kd.is k e.2 = true ↔ key e.2 = k := by
  obtain ⟨⟨k', i, _⟩, _⟩ := p.el e he
  refine ⟨hk k _, fun z => ?_⟩
  rw [← z, hk k' _ i]
  exact i
theorem Pay.mem (hk : ∀ k v, kd.is k v = true → key v = k) (p : Pay kd key es t ks) (k : κ) : k ∈ ks ↔ ∃ e ∈ es.toList, kd.is k e.2 = true := by
  rw [← p.pm.mem_iff, List.mem_map]
  exact ⟨fun ⟨e, m, q⟩ => ⟨e, m, (p.is hk m k).2 q⟩, fun ⟨e, m, q⟩ => ⟨e, m, (p.is hk m k).1 q⟩⟩
end
section
variable {P : Program} {w : World} {κ : Type} [DecidableEq κ] {kd : PySem.KeyKind P w κ} {key : Value → κ} {A : Around} {E : Value → Shared → Prop} {s : Shared} {a : Addr} {ks : List κ}
/-- laying the payload down, with the growing behind it -/
theorem lay_down {grow : Bool → Sem Unit} (hgrow : ∀ (b : Bool) (s1 : Shared) (C : Unit → Shared → Prop), C () s1 → wpAny (model P w) A (grow b) C E s1)
    {o : Obj} {es0 es : Array (Int × Value)} {ep : Nat} {t0 t : SetTable} (ho : s.heap.get? a = some o) (ox : o.ExactSet) (od : o.data = .set es0 ep t0) (p : Pay kd key es t ks) {wd : Bool} {R : Option Bool → Shared → Prop}
    (hR : ∀ h', Heap.SameBut a s.heap h' → GAt kd key h' a ks → R (some true) { s with heap := h' }) :
    wpAny (model P w) A (do
        storeSet a es t
        if (!wd && t.tooFull) = true then do
            grow (relayAll t es (SetTable.grown es.size)).2.2
            storeSet a (relayAll t es (SetTable.grown es.size)).1 (relayAll t es (SetTable.grown es.size)).2.1
            pure (some true)
          else pure (some true)) R E s := by
  have b1 := Heap.SameBut.update s.heap a (Obj.putSet es t)
  have o1 := PpSet.storeB_at (es' := es) (t' := t) ho od
  refine wpAny_bind (wpAny_storeSet_of ho od ?_ (fits_of_scanBound p.few))
  split
  · have q1 := relayAll_perm t es (SetTable.grown es.size)
    have q2 := relayAll_fits t es (SetTable.grown es.size)
    have q3 := relayAll_ris t es (SetTable.grown es.size)
    have q4 := relayAll_led t es (SetTable.grown es.size)
    cases e : relayAll t es (SetTable.grown es.size) with
    | mk es2 rest =>
      obtain ⟨t2, gw⟩ := rest
      rw [e] at q1 q2 q3 q4
      have zz : es2.size = es.size := by
        have := q1.length_eq
        rwa [Array.length_toList, Array.length_toList] at this
      have p2 : Pay kd key es2 t2 ks := ⟨p.el.perm q1, (q1.map _).trans p.pm, by rw [zz]; exact p.few, q2, q3, p.led.imp id fun z => q4.trans z⟩
      have o2 := PpSet.storeB_at (es' := es2) (t' := t2) o1 rfl
      refine wpAny_bind (hgrow _ _ _ (wpAny_bind (wpAny_storeSet_of o1 rfl (wpAny_pure (hR _ (b1.trans (Heap.SameBut.update _ a _)) ⟨_, es2, _, t2, o2, ox, rfl, p2⟩)) (fits_of_scanBound p2.few))))
  · exact wpAny_pure (hR _ b1 ⟨_, es, _, t, o1, ox, rfl, p⟩)
theorem add_hashed (hk : ∀ k v, kd.is k v = true → key v = k) {k : κ} {x : Value} {Q : Bool → Shared → Prop} (hx : kd.is k x = true) (hsc : x.scannable = true) (R : GAt kd key s.heap a ks) (room : ks.length + 1 < scanBound)
    (hQ : ∀ b h', Heap.SameBut a s.heap h' → GAt kd key h' a (if k ∈ ks then ks else ks ++ [k]) → Q b { s with heap := h' }) :
    wpAny (model P w) A (setAddHashed a x (kd.hash k)) Q E s := by
  obtain ⟨o, es, ep, t, ho, ox, od, p⟩ := R
  unfold setAddHashed setAddHashedIn
  refine wpAny_holding (wpAny_bind (wpAny_setState_of ho od p.fit ?_))
  dsimp only
  rw [byScan_of hsc p.few p.el, if_pos rfl]
  unfold setAddByScan
  refine wpAny_bind (wpAny_bind (wpAny_rule (wpAny_bind (wpAny_setScan_of hx ho od p.fit p.el ?_))))
  cases fi : List.findIdx? (fun e => kd.is k e.2) es.toList with
  | some j =>
    obtain ⟨lj, ij, _⟩ := List.findIdx?_eq_some_iff_getElem.mp fi
    have mk : k ∈ ks := (p.mem hk k).2 ⟨_, List.getElem_mem lj, ij⟩
    have q := hQ false s.heap (Heap.SameBut.refl a s.heap) ⟨o, es, ep, t, ho, ox, od, by rw [if_pos mk]; exact p⟩
    exact wpAny_pure (wpAny_pure q)
  | none =>
    have mk : k ∉ ks := fun z => by
      obtain ⟨e, he, i⟩ := (p.mem hk k).1 z
      have c := List.findIdx?_eq_none_iff.mp fi e he
      rw [i] at c
      exact Bool.noConfusion c
    dsimp only
    have q1 := layNew_perm t es (kd.hash k) x
    have q2 := layNew_fits t es (kd.hash k) x
    have q3 := layNew_ris t es (kd.hash k) x p.ris
    have q4 := layNew_led t es (kd.hash k) x
    generalize layNew t es (kd.hash k) x = Z at q1 q2 q3 q4 ⊢
    obtain ⟨es1, t1, wd, gw⟩ := Z
    dsimp only at q1 q2 q3 q4 ⊢
    rw [Array.toList_push] at q1
    have zz : es1.size = ks.length + 1 := by
      have z := q1.length_eq
      rw [List.length_append, Array.length_toList, Array.length_toList, p.size] at z
      exact z
    have pay : ∀ t' : SetTable, t'.fits es1.size = true → Ris t'.place.toList → t'.led = t.led → Pay kd key es1 t' (ks ++ [k]) := fun t' f r l =>
      ⟨(p.el.push hx hsc).perm q1, by
        have z := q1.map fun e => key e.2
        rw [List.map_append, List.map_cons, List.map_nil, hk k x hx] at z
        exact z.trans (p.pm.append_right _), by rw [zz]; exact room, f, r, p.led.imp id fun z => l.trans z⟩
    have fin : ∀ h', Heap.SameBut a s.heap h' → GAt kd key h' a (ks ++ [k]) → Q true { s with heap := h' } := fun h' sb g => hQ true h' sb (by rw [if_neg mk]; exact g)
    have gives : ∀ (b : Bool) (s1 : Shared) (C : Unit → Shared → Prop), C () s1 → wpAny (model P w) A (match b with | true => rule "set.scan.the-table-gave-way" | false => pure ()) C E s1 := fun b s1 C q => by
      cases b
      · exact wpAny_pure q
      · exact wpAny_rule q
    refine wpAny_bind (gives _ _ _ ?_)
    split
    · refine wpAny_bind ?_
      rw [hashByValue_scannable 8 hsc]
      refine wpAny_pure (lay_down gives ho ox od (pay _ ?_ ?_ ?_) fun h' sb g => wpAny_pure (fin h' sb g))
      · split
        · exact q2
        · exact SetTable.fits_plain_off q2
      · split <;> exact q3
      · split <;> exact q4
    · refine wpAny_bind (wpAny_pure ?_)
      simp only [↓reduceIte]
      exact lay_down gives ho ox od (pay _ q2 q3 q4) fun h' sb g => wpAny_pure (fin h' sb g)
/-- a.add(x) -/
theorem add_call (hk : ∀ k v, kd.is k v = true → key v = k) {k : κ} {x : Value} {Q : Value → Shared → Prop} (hx : kd.is k x = true) (hsc : x.scannable = true) (R : GAt kd key s.heap a ks) (room : ks.length + 1 < scanBound)
    (hQ : ∀ h', Heap.SameBut a s.heap h' → GAt kd key h' a (if k ∈ ks then ks else ks ++ [k]) → Q .none { s with heap := h', toks := s.toks + 1 }) :
    wpAny (model P w) A (call (.builtin "set.add") [.ref a, x]) Q E s := by
  have ty : s.TypeIs (.ref a) "set" := by
    obtain ⟨o, es, ep, t, ho, ox, _⟩ := R
    exact ⟨o, ho, ox.1⟩
  refine wpAny_call_entry F.slot_set_add ty F.entry_set_add ?_ (F.args_set_add_2 _ _)
  unfold Builtin.«set.add» Builtin.Frozenset.oneOther Builtin.Frozenset.addrOf setAdd
  simp only [List.isEmpty_nil, bind_assoc]
  refine wpAny_bind (wpAny_pure (wpAny_bind (wpAny_pure (wpAny_bind (wpAny_holding (wpAny_bind (kd.pyHash hx ?_)))))))
  exact add_hashed (s := { s with toks := s.toks + 1 }) hk hx hsc R room fun b h' sb g => wpAny_pure ⟨_, rfl, hQ h' sb g⟩
theorem fresh (h : Heap) : GAt kd key (h.push { cls := .type "set", dict := none, data := .set #[] 0 (.fresh 0 0 (!w.params.followText "set-order")) }) h.objs.size [] := by
  refine ⟨_, #[], 0, _, Heap.get?_push_size _ rfl, ⟨rfl, rfl, rfl⟩, rfl, ⟨fun e z => by simp at z, .nil, by decide, rfl, List.Pairwise.nil, ?_⟩⟩
  show _ ∨ (!w.params.followText "set-order") = true
  cases w.params.followText "set-order"
  · exact .inr rfl
  · exact .inl rfl
end
end L2.GSet
set_option Elab.async false
set_option linter.all false
set_option maxRecDepth 100000
set_option maxHeartbeats 4000000
/-! Comprehensions of any kind with one or two `for`s, by what is laid ahead of them and what a turn's end does. -/
namespace L2.Cmp
open PySem PySem.Spec PyProof.Rows
/-- a turn's shape -/
def turnOf (tg : Expr) (ifs : List Expr) (p : Pos) (it : Value) (env : Env) (tail : Bool → Sem PySem.Fin) : Sem PySem.Fin := do
  standAt p
  match ← pyNext it with
  | none => pure (.done .next)
  | some v =>
    letOwnedTupleGo tg it v
    assign tg env v
    let ok ← forIn ifs true fun c r => if r = true then do let ok ← isTrue c env (eval c env); pure (ForInStep.yield ok) else pure (ForInStep.yield r)
    tail ok
/-- the innermost turn's end -/
def tailIn (em : Sem Unit) (cd : Code) : Bool → Sem PySem.Fin := fun ok => if ok = true then em >>= fun _ => again cd else again cd
/-- the outer one's: the second source is walked -/
def tailOut (node i1 : Expr) (acc : Value) (env : Env) (cd : Code) : Bool → Sem PySem.Fin := fun ok => if ok = true then do
    let x ← eval i1 env
    standAt i1.pos
    let x ← foldedSetIterable i1 env x
    let _ ← runOwn (.compStart node 1 (← holding [x] (pyIter x)) acc env) env
    again cd
  else again cd
/-- a set's, a list's or a dict's comprehension -/
def IsC (node : Expr) : Prop := (∃ e gs sc p, node = .SetComp e gs sc p) ∨ (∃ e gs sc p, node = .ListComp e gs sc p) ∨ ∃ k v gs sc p, node = .DictComp k v gs sc p
theorem IsC.den {prog : Program} {w : World} {node : Expr} (c : IsC node) (lvl : Nat) (it acc : Value) (env : Env) (A : Around) :
    (A.under (.compLoop node lvl it acc env) = A ∧ (model prog w).den (.compLoop node lvl it acc env) = (compTurn node lvl it acc env).onRaise (fun x => do noteFrame x env; theTreesLotGoes x) ∧ (Code.compLoop node lvl it acc env).quiet = true) ∧
    (A.under (.compStart node lvl it acc env) = A ∧ (model prog w).den (.compStart node lvl it acc env) = (compStart node lvl it acc env).onRaise (fun x => do noteFrame x env; standAt theWindowsPlace)) := by
  rcases c with ⟨e, gs, sc, p, rfl⟩ | ⟨e, gs, sc, p, rfl⟩ | ⟨k, v, gs, sc, p, rfl⟩ <;> exact ⟨⟨rfl, rfl, rfl⟩, rfl, rfl⟩
abbrev nil2 : Value → Shared → Prop := fun _ _ => False
theorem loop_any {prog : Program} {w : World} {A : Around} {R : Result → Shared → Prop} {s : Shared} {node : Expr} {lvl : Nat} {it acc : Value} {env : Env} (ic : IsC node) (Iv : Nat → Shared → Prop)
    (turn : ∀ n s, Iv n s → wpAny (model prog w) A (compTurn node lvl it acc env) (fun fin s' => match fin with | .done f => R (.ok f) s' | .again c' => c' = Code.compLoop node lvl it acc env ∧ ∃ m, m < n ∧ Iv m s') nil2 s)
    (n : Nat) (h : Iv n s) : codeAny (model prog w) A (.compLoop node lvl it acc env) R s := by
  obtain ⟨d1, d2, d3⟩ := (ic.den (prog := prog) (w := w) lvl it acc env A).1
  refine codeAny_loop d3 Iv (fun n s hI => ?_) n h
  rw [d1, d2]
  exact wpAny_noted (wpAny_mono (turn n s hI) (fun _ _ z => z) fun _ _ z => z.elim)
theorem start_any {prog : Program} {w : World} {A : Around} {R : Result → Shared → Prop} {s : Shared} {node tg iter : Expr} {ifs : List Expr} {lvl : Nat} {it acc : Value} {env : Env} (ic : IsC node) (hcl : (clausesOf node)[lvl]? = some ⟨tg, iter, ifs, 0⟩)
    (h0 : codeAny (model prog w) A (.compLoop node lvl it acc env) R s)
    (h : wpAny (model prog w) A (pyIter it) (fun it' s' => codeAny (model prog w) A (.compLoop node lvl it' acc env) R s') nil2 s) :
    codeAny (model prog w) A (.compStart node lvl it acc env) R s := by
  obtain ⟨d1, d2⟩ := (ic.den (prog := prog) (w := w) lvl it acc env A).2
  have qu : ∀ it', (Code.compLoop node lvl it' acc env).quiet = true := fun it' => (ic.den (prog := prog) (w := w) lvl it' acc env A).1.2.2
  refine codeAny_of_tree ?_
  rw [d1, d2]
  refine wpAny_notedAt ?_
  unfold compStart
  rw [hcl]
  show wpAny _ _ (ask >>= _) _ _ s
  refine wpAny_bind (wpAny_askSetting (wpAny_ite ?_))
  split
  · first
      | exact wpAny_bind (wpAny_pure (wpAny_pure (And.intro (qu _) h0)))
      | exact wpAny_pure (And.intro (qu _) h0)
  · refine wpAny_bind (wpAny_rule ?_)
    show wpAny _ _ (standAt iter.pos >>= _) _ _ s
    exact wpAny_bind (wpAny_standAt (wpAny_bind (wpAny_mono h (fun it' s' h' => wpAny_pure (And.intro (qu _) h')) fun _ _ z => z.elim)))
/-- what the end of a turn reaches from the slots σ: it forgets at most vs -/
def Past (B : Cx) (pins : List (Addr × Obj)) (vs : List Nat) (σ : List (Option V)) (C : Hp → Prop) (s' : Shared) : Prop :=
  ∃ σ' H', Inv B pins σ' H' s' ∧ σ'.length = σ.length ∧ (∀ (j : Nat) v, j ∉ vs → σ[j]? = some (some v) → σ'[j]? = some (some v)) ∧ C H'
abbrev TAc := List (Option V) → Hp → (Hp → Prop) → Prop
/-- the walk of one clause, as it is read -/
def Walk (J : It) (g : TG) (tt : TT) (ta : TAc) (vs : List Nat) (σ : List (Option V)) (Done : Hp → Prop) (H0 : Hp) : Prop :=
  ∃ W : Nat → Nat → Hp → Prop, (∃ m, W 0 m H0) ∧ ∀ i m H, W i m H → (J.stop i H ∧ Done H) ∨ (J.go i H ∧ ∃ Nx : Hp → Prop, (∀ H', Nx H' → ∃ m', m' < m ∧ W (i + 1) m' H') ∧
    ∀ x H', J.yld i H x H' → g x (wipe σ vs) H' fun σ2 H2 => wipe σ2 vs = wipe σ vs ∧ tt σ2 H2 fun b H3 => if b = true then ta σ2 H3 Nx else Nx H3)
section
variable {B : Cx} {pins : List (Addr × Obj)} {it : Addr} {fp : List Addr} {tn : Nat → Heap → Prop} {J : It} {vs : List Nat} {σ : List (Option V)} {tg : Expr} {ifs : List Expr} {g : TG} {tt : TT} {ta : TAc} {p : Pos} {tail : Bool → Sem PySem.Fin} {cd : Code}
theorem turn_ok (hx : B.xe = nil2) (hc : B.calm = true) (T : Turn B.prog B.w B.K tg J fp it tn) (pg : PG B tg g) (pt : PTs B ifs tt) (stat : ∀ H', (∀ b ∈ fp, H' b = none) → ∀ b ∈ fp, FpOk B pins H' b)
    (act : ∀ (pl : List (Addr × Obj)) s σ H C, Inv B pl σ H s → ta σ H C → wpAny (model B.prog B.w) B.A (tail true) (fun fin s' => fin = .again cd ∧ Past B pl vs σ C s') nil2 s) (no : tail false = again cd)
    {R : Result → Shared → Prop} {W : Nat → Nat → Hp → Prop} {Done : Hp → Prop} (hd : ∀ s' H', Inv B pins (wipe σ vs) H' s' → Done H' → R (.ok .next) s')
    (turn : ∀ i m H, W i m H → (J.stop i H ∧ Done H) ∨ (J.go i H ∧ ∃ Nx : Hp → Prop, (∀ H', Nx H' → ∃ m', m' < m ∧ W (i + 1) m' H') ∧
      ∀ x H', J.yld i H x H' → g x (wipe σ vs) H' fun σ2 H2 => wipe σ2 vs = wipe σ vs ∧ tt σ2 H2 fun b H3 => if b = true then ta σ2 H3 Nx else Nx H3)) (n : Nat) (s : Shared)
    (start : ∃ i H', Inv B pins (wipe σ vs) H' s ∧ tn i s.heap ∧ (∀ b ∈ fp, H' b = none) ∧ W i n H') :
    wpAny (model B.prog B.w) B.A (turnOf tg ifs p (.ref it) B.env tail) (fun fin s' => match fin with | .done f => R (.ok f) s' | .again c' => c' = cd ∧ ∃ m, m < n ∧ ∃ i H', Inv B pins (wipe σ vs) H' s' ∧ tn i s'.heap ∧ (∀ b ∈ fp, H' b = none) ∧ W i m H') nil2 s := by
  obtain ⟨i, H5, I5, st5, n5, w5⟩ := start
  unfold turnOf
  refine wpAny_bind (wpAny_standAt (wpAny_bind ?_))
  rcases turn i n H5 w5 with ⟨stop, dn⟩ | ⟨go, Nx, hNx, step⟩
  · refine thnF (T.done B rfl rfl rfl hc i pins s _ H5 nil2 I5 (stat _ n5) st5 stop) fun r s6 ⟨hr, I6⟩ => ?_
    subst hr
    exact wpAny_pure (hd _ _ I6 dn)
  · refine thnF (T.item B rfl rfl rfl hc i pins s _ H5 nil2 I5 (stat _ n5) st5 go) fun r s6 ⟨u, hr, h6⟩ => ?_
    subst hr
    refine wpAny_bind (thnF h6 fun _ s7 ⟨x, H7, I7, r7, y7, st7, n7⟩ => ?_)
    have a1 := pg.run _ s7 _ H7 x u _ (I7.pinned (stat _ n7) (T.obj _ _ st7)) r7 (step x H7 y7)
    rw [hx] at a1
    refine wpAny_bind (thnF a1 fun _ s8 ⟨σ8, H8, I8, hw8, q8⟩ => ?_)
    have a2 := pt.run _ s8 σ8 H8 _ I8 q8
    rw [hx] at a2
    refine wpAny_bind (thnF a2 fun b s9 ⟨H9, I9, q9⟩ => ?_)
    have fin : ∀ s', Past B (pins ++ pinsAt fp s7.heap) vs σ8 Nx s' → ∃ m, m < n ∧ ∃ i H', Inv B pins (wipe σ vs) H' s' ∧ tn i s'.heap ∧ (∀ b ∈ fp, H' b = none) ∧ W i m H' := by
      rintro s' ⟨σ', H', I', hl, hk, nx⟩
      obtain ⟨m, lt, wm⟩ := hNx H' nx
      have there : ∀ b ∈ fp, ∀ o, s7.heap.get? b = some o → s'.heap.get? b = some o ∧ H' b = none := fun b hb o e =>
        let z := I'.pin (b, o) (List.mem_append_right _ (List.mem_append_right _ (mem_pinsAt hb e)))
        ⟨z.1, z.2.1⟩
      refine ⟨m, lt, i + 1, H', I'.unpinned.weak ?_ ?_, T.keep _ _ _ st7 fun b hb o e => (there b hb o e).1, fun b hb => ?_, wm⟩
      · rw [hl, ← hw8, wipe_length]
      · intro j v e
        rw [← hw8] at e
        exact hk j v (wipe_some e).2 (wipe_some e).1
      · obtain ⟨o, e, _⟩ := T.obj _ _ st7 b hb
        exact (there b hb o e).2
    cases b with
    | false =>
      rw [no]
      exact wpAny_pure ⟨rfl, fin _ ⟨σ8, H9, I9, rfl, fun _ _ _ e => e, q9⟩⟩
    | true =>
      refine wpAny_mono (act _ s9 σ8 H9 _ I9 q9) (fun f s' z => ?_) fun _ _ z => z.elim
      obtain ⟨rfl, pa⟩ := z
      exact ⟨rfl, fin _ pa⟩
/-- the whole loop of a clause -/
theorem clause_ok {node : Expr} {lvl : Nat} {acc : Value} (ic : IsC node) (ht : compTurn node lvl (.ref it) acc B.env = turnOf tg ifs p (.ref it) B.env tail) (hcd : cd = .compLoop node lvl (.ref it) acc B.env)
    (hx : B.xe = nil2) (hc : B.calm = true) (T : Turn B.prog B.w B.K tg J fp it tn) (pg : PG B tg g) (pt : PTs B ifs tt) (stat : ∀ H', (∀ b ∈ fp, H' b = none) → ∀ b ∈ fp, FpOk B pins H' b)
    (act : ∀ (pl : List (Addr × Obj)) s σ H C, Inv B pl σ H s → ta σ H C → wpAny (model B.prog B.w) B.A (tail true) (fun fin s' => fin = .again cd ∧ Past B pl vs σ C s') nil2 s) (no : tail false = again cd)
    {R : Result → Shared → Prop} {Done : Hp → Prop} (hd : ∀ s' H', Inv B pins (wipe σ vs) H' s' → Done H' → R (.ok .next) s')
    {H0 : Hp} (wk : Walk J g tt ta vs σ Done H0) {s : Shared} (I : Inv B pins (wipe σ vs) H0 s) (st : tn 0 s.heap) (n0 : ∀ b ∈ fp, H0 b = none) :
    codeAny (model B.prog B.w) B.A (.compLoop node lvl (.ref it) acc B.env) R s := by
  obtain ⟨W, ⟨m0, w0⟩, turn⟩ := wk
  subst hcd
  refine loop_any ic (fun n s' => ∃ i H', Inv B pins (wipe σ vs) H' s' ∧ tn i s'.heap ∧ (∀ b ∈ fp, H' b = none) ∧ W i n H') (fun n s' z => ?_) m0 ⟨0, H0, I, st, n0, w0⟩
  rw [ht]
  exact turn_ok hx hc T pg pt stat act no hd turn n s' z
/-- the end of an innermost turn, by what the code em does -/
theorem act_in {em : Sem Unit} (h : ∀ (pl : List (Addr × Obj)) s σ H C, Inv B pl σ H s → ta σ H C → wpAny (model B.prog B.w) B.A em (fun _ s' => ∃ H', Inv B pl σ H' s' ∧ C H') nil2 s) :
    ∀ (pl : List (Addr × Obj)) s σ H C, Inv B pl σ H s → ta σ H C → wpAny (model B.prog B.w) B.A (tailIn em cd true) (fun fin s' => fin = .again cd ∧ Past B pl vs σ C s') nil2 s := by
  intro pl s σ H C I q
  show wpAny _ _ (em >>= fun _ => again cd) _ _ s
  exact wpAny_bind (wpAny_mono (h pl s σ H C I q) (fun _ s' ⟨H', I', c⟩ => wpAny_pure ⟨rfl, σ, H', I', rfl, fun _ _ _ e => e, c⟩) fun _ _ z => z)
/-- the end of an outer turn -/
theorem act_out {node i1 t1 : Expr} {ifs1 : List Expr} {acc : Value} {wi1 : TI} {g1 : TG} {tt1 : TT} {vs1 : List Nat} {em : Sem Unit} {p1 : Pos} (ic : IsC node) (hcl : (clausesOf node)[1]? = some ⟨t1, i1, ifs1, 0⟩)
    (ht : ∀ it1, compTurn node 1 (.ref it1) acc B.env = turnOf t1 ifs1 p1 (.ref it1) B.env (tailIn em (.compLoop node 1 (.ref it1) acc B.env)))
    (hx : B.xe = nil2) (hc : B.calm = true) (hv : ∀ i ∈ vs1, i ∈ vs) (hs : ∀ x, foldedSetIterable i1 B.env x = pure x) (hi1 : PI B t1 i1 wi1) (pg1 : PG B t1 g1) (pt1 : PTs B ifs1 tt1)
    (h : ∀ (pl : List (Addr × Obj)) s σ H C, Inv B pl σ H s → ta σ H C → wpAny (model B.prog B.w) B.A em (fun _ s' => ∃ H', Inv B pl σ H' s' ∧ C H') nil2 s) :
    ∀ (pl : List (Addr × Obj)) s σ H C, Inv B pl σ H s → (wi1 σ H fun J1 H1 => Walk J1 g1 tt1 ta vs1 σ C H1) →
      wpAny (model B.prog B.w) B.A (tailOut node i1 acc B.env cd true) (fun fin s' => fin = .again cd ∧ Past B pl vs σ C s') nil2 s := by
  intro pl s σ H C I q
  unfold tailOut
  rw [if_pos rfl]
  have a1 := hi1.run pl s σ H _ I q
  rw [hx] at a1
  refine wpAny_bind (thnF a1 fun xv s1 a2 => ?_)
  refine wpAny_bind (wpAny_standAt (wpAny_bind (wpAny_of_eq (hs xv) (wpAny_bind (wpAny_holding (thnF a2 fun itv s2 z => ?_))))))
  obtain ⟨it1, fp1, tn1, J1, H2, rfl, I2, T1, st2, f2, wk⟩ := z
  refine wpAny_bind (wpAny_runOwn ?_)
  have stat1 : ∀ H', (∀ b ∈ fp1, H' b = none) → ∀ b ∈ fp1, FpOk B pl H' b := fun H' hn b hb => ⟨hn b hb, (f2 b hb).2⟩
  have lp : codeAny (model B.prog B.w) B.A (.compLoop node 1 (.ref it1) acc B.env) (fun r s' => match r with | .ok _ => Past B pl vs σ C s' | .error _ => False) s2 :=
    clause_ok (cd := .compLoop node 1 (.ref it1) acc B.env) ic (ht it1) rfl hx hc T1 pg1 pt1 stat1 (act_in h) rfl
      (fun s' H' I' c => ⟨wipe σ vs1, H', I', wipe_length _ _, fun j v nj e => by rw [wipe_out fun m => nj (hv j m)]; exact e, c⟩) wk (I2.weak (wipe_length _ _) fun j v e => (wipe_some e).1) st2 fun b hb => (f2 b hb).1
  rw [Around.mark_none]
  refine codeAny_mono (start_any ic hcl lp (T1.self B.A 0 _ _ _ st2 lp)) fun r s' hr => ?_
  cases r with
  | error e => exact hr.elim
  | ok f => first
    | exact wpAny_pure ⟨rfl, hr⟩
    | exact wpAny_bind (wpAny_pure (wpAny_pure ⟨rfl, hr⟩))
end
end L2.Cmp
set_option Elab.async false
set_option linter.all false
set_option maxRecDepth 100000
set_option maxHeartbeats 4000000
/-! Set comprehensions with one or two `for`s. -/
namespace L2.Cmp
open PySem PySem.Spec PyProof.Rows
section
variable {X : Cx}
/-- from the comprehension to its first clause's loop -/
theorem block_any {pins : List (Addr × Obj)} {s : Shared} {σ : L2.St} {H : Hp} {Q : VK} {node tg iter : Expr} {ifs : List Expr} {rest : List Comprehension} {scope : Scope} {own : List (PySem.Str × Nat)} {pos' : Pos} {wi : TI} {use : Option (Value → Sem Unit)} {Qf : Value → Shared → Prop}
    {newAcc : Sem Value} {O : Obj} {emp : Addr → HO} {Rd : It → Addr → Hp → Prop} (ic : IsC node) (hcl : clausesOf node = ⟨tg, iter, ifs, 0⟩ :: rest)
    (hnew : ∀ {s : Shared} {Q E : Value → Shared → Prop}, Q (.ref s.heap.objs.size) { s with heap := s.heap.push O } → wpAny (model X.prog X.w) X.A newAcc Q E s)
    (hemp : ∀ {pins : List (Addr × Obj)} {σ : L2.St} {H : Hp} {s : Shared}, Inv X pins σ H s → ∀ H' : Hp, ObjOk X.prog X.w H' (s.heap.push O) s.heap.objs.size (emp s.heap.objs.size))
    (hc : X.calm = true) (hN : X.N.Nodup) (I : Inv X pins σ H s) (hi : PI X tg iter wi) (ok : BlkOk X.N X.env.scope scope own) (hs : ∀ x, foldedSetIterable iter X.env x = pure x)
    (h : wi σ H fun J H1 => ∀ D, H1 D = none → Rd J D (upd H1 D (emp D)))
    (loop : ∀ (s3 : Shared) (H3 : Hp) (C : Addr) (cl : List (PySem.Str × Addr)) (fp : List Addr) (it : Addr) (tn : Nat → Heap → Prop) (J : It) (D : Addr) (s4 : Shared), Turn X.prog X.w X.K tg J fp it tn →
      (∀ H', (∀ b ∈ fp, H' b = none) → ∀ b ∈ fp, FpOk (X.blk s3 H3 scope (compEnvC scope cl C X.env) fp) [] H' b) → Inv (X.blk s3 H3 scope (compEnvC scope cl C X.env) fp) [] (wipe σ (own.map (·.2))) H3 s4 → tn 0 s4.heap → (∀ b ∈ fp, H3 b = none) → Rd J D H3 →
      codeAny (model X.prog X.w) X.A (.compLoop node 0 (.ref it) (.ref D) (compEnvC scope cl C X.env)) (fun r s' => match r with
        | .ok _ => ∃ H', Inv (X.blk s3 H3 scope (compEnvC scope cl C X.env) fp) [] (wipe σ (own.map (·.2))) H' s' ∧ Q (.ref D) H'
        | .error _ => False) s4)
    (hRR : ∀ D C s' m H', Inv X pins σ H' s' → Q (.ref D) H' → s'.heap.Ns C m → FpOk X pins H' C → compPost (model X.prog X.w) X.A X.xe use Qf (.ref D) C (.ok .next) s') :
    wpAny (model X.prog X.w) X.A (comprehension node scope X.env pos' newAcc false (eval iter X.env) use) Qf X.xe s := by
  have frees : ∀ y ∈ scope.names, y.2 = .free → ∃ c, X.env.cells.lookup y.1 = some c := fun y hy e => (ok.free y hy e).elim (fun k => I.ok.has _ (.inl k)) fun k => I.ok.has _ (.inr k)
  refine wpAny_comprehension_free (use := use) hcl hs (closure_ok frees) ok.kind (fun y hy e => by rw [ok.uniq y hy, e]) (thn (hi.run pins s σ H _ I h) fun xv s1 hx => thn hx fun itv s2 z => ?_)
  obtain ⟨it, fp, tn, J, H2, rfl, I2, T, st2, f2, q⟩ := z
  refine hnew (newEnv_comp ?_)
  obtain ⟨D, hD⟩ : ∃ D, s2.heap.objs.size = D := ⟨_, rfl⟩
  have rd := q D (I2.hok.fresh (Nat.le_of_eq hD))
  obtain ⟨s3, hs3⟩ : ∃ s3 : Shared, ({ s2 with heap := s2.heap.push O } : Shared) = s3 := ⟨_, rfl⟩
  have push3 : s3.heap = s2.heap.push O := by rw [← hs3]
  have I3 : Inv X pins σ (upd H2 D (emp D)) s3 := by
    rw [← hs3, ← hD]
    exact I2.laid (t' := s2.toks) (fun b o e => Heap.get?_push_of_some _ e) (Nat.le_refl _) (hemp I2 _)
  have f3 : ∀ b ∈ fp, FpOk X pins (upd H2 D (emp D)) b ∧ b < s3.heap.objs.size := fun b hb => by
    obtain ⟨o, e, _⟩ := T.obj _ _ st2 b hb
    have lt := Heap.lt_size e
    refine ⟨⟨?_, (f2 b hb).2⟩, by rw [push3, Heap.size_push]; exact Nat.lt_succ_of_lt lt⟩
    rw [upd_ne (Nat.ne_of_lt (hD ▸ lt))]
    exact (f2 b hb).1
  have st3 : tn 0 s3.heap := T.keep _ _ _ st2 fun b _ o e => by rw [push3]; exact Heap.get?_push_of_some _ e
  rw [hD, hs3]
  generalize hH3 : upd H2 D (emp D) = H3 at I3 f3 rd
  have I4 := block_start I3 ok hN f3
  generalize hcl' : cellsFrom (s3.heap.objs.size + 1) scope.names (cloFrom X.env.cells scope.names []) = cl at I4 ⊢
  obtain ⟨s4, hs4⟩ : ∃ s4 : Shared, ({ s3 with heap := pushCells (s3.heap.push { cls := .type "dict", data := .dict #[] }) scope.names } : Shared) = s4 := ⟨_, rfl⟩
  rw [hs4] at I4
  have st4 : tn 0 s4.heap := T.keep _ _ _ st3 fun b _ o e => by rw [← hs4]; exact pushCells_keeps _ _ _ _ (Heap.get?_push_of_some _ e)
  have nfp : ∀ b ∈ fp, H3 b = none := fun b hb => (f3 b hb).1.1
  have stat : ∀ H', (∀ b ∈ fp, H' b = none) → ∀ b ∈ fp, FpOk (X.blk s3 H3 scope (compEnvC scope cl s3.heap.objs.size X.env) fp) [] H' b := fun H' hn b hb =>
    ⟨hn b hb, (I4.ok.exf b hb).1, I4.ok.exfs b hb, .inl hb, fun x c e => (I4.ok.exf b hb).2 x c e, fun p hp => absurd (show p ∈ ([] : List (Addr × Obj)) ++ [] from hp) (by simp)⟩
  show codeAny _ _ (.compStart node 0 (.ref it) (.ref D) (compEnvC scope cl s3.heap.objs.size X.env)) (compPost (model X.prog X.w) X.A X.xe use Qf (.ref D) s3.heap.objs.size) _
  rw [hs4]
  have lp := codeAny_mono (loop s3 H3 s3.heap.objs.size cl fp it tn J D s4 T stat I4 st4 nfp rd) (R' := compPost (model X.prog X.w) X.A X.xe use Qf (.ref D) s3.heap.objs.size) fun r s' z => by
    cases r with
    | error e => exact z.elim
    | ok f =>
      obtain ⟨H', I', qq⟩ := z
      have I7 : Inv X pins σ H' s' := I3.call' (ch := fp) I'.os I'.base I'.hok I'.bare fun b hb => ⟨(f3 b hb).1.2.2.2.1, (f3 b hb).1.2.1, (f3 b hb).1.2.2.2.2.1, (f3 b hb).1.2.2.2.2.2⟩
      have nC : H' s3.heap.objs.size = none := I'.free
      obtain ⟨m, hn, _⟩ := I'.loc
      have cp := hRR D s3.heap.objs.size s' m H' I7 qq hn (I3.fpOk (Nat.le_refl _) nC)
      cases use <;> exact cp
  exact start_any ic (by rw [hcl]; rfl) lp (T.self X.A 0 _ _ _ st4 lp)
end
/-- how values go into a new set -/
structure Adder (P : Program) (w : World) where
  emp : Addr → HO
  ad : Addr → V → Hp → (Hp → Prop) → Prop
  fresh : ∀ (H : Hp) (h : Heap), ObjOk P w H (h.push { cls := .type "set", dict := none, data := .set #[] 0 (.fresh 0 0 (!w.params.followText "set-order")) }) h.objs.size (emp h.objs.size)
  add : ∀ {X : Cx}, X.prog = P → X.w = w → ∀ {pins : List (Addr × Obj)} {σ : L2.St} {H : Hp} {s : Shared} {E : Value → Shared → Prop} {D : Addr} {y : V} {v : Value} {C : Hp → Prop}, Inv X pins σ H s → RelV y v → ad D y H C →
    wpAny (model P w) X.A (call (.builtin "set.add") [.ref D, v]) (fun _ s' => ∃ H', Inv X pins σ H' s' ∧ C H') E s
/-- an item into the set at D -/
def tAd {P : Program} {w : World} (M : Adder P w) (te : TE) (D : Addr) : TAc := fun σ H C => te σ H fun y H' => M.ad D y H' C
def tSet1 {P : Program} {w : World} (M : Adder P w) (wi : TI) (g : TG) (tt : TT) (te : TE) (vs : List Nat) : TE := fun σ H Q => wi σ H fun J H1 => ∀ D, H1 D = none → Walk J g tt (tAd M te D) vs σ (fun H => Q (.ref D) H) (upd H1 D (M.emp D))
def tSet2 {P : Program} {w : World} (M : Adder P w) (wi : TI) (g : TG) (tt : TT) (wi1 : TI) (g1 : TG) (tt1 : TT) (te : TE) (vs vs1 : List Nat) : TE := fun σ H Q => wi σ H fun J H1 => ∀ D, H1 D = none →
  Walk J g tt (fun σ2 H2 C => wi1 σ2 H2 fun J1 H3 => Walk J1 g1 tt1 (tAd M te D) vs1 σ2 C H3) vs σ (fun H => Q (.ref D) H) (upd H1 D (M.emp D))
section
variable {X : Cx} {elt tg iter : Expr} {ifs : List Expr} {scope : Scope} {own : List (PySem.Str × Nat)} {pos : Pos} {wi : TI} {g : TG} {tt : TT} {te : TE}
theorem emit_ok {B : Cx} (M : Adder B.prog B.w) (hx : B.xe = nil2) (he : PE B elt te) {D : Addr} : ∀ (pl : List (Addr × Obj)) s σ H C, Inv B pl σ H s → tAd M te D σ H C →
    wpAny (model B.prog B.w) B.A (do let v ← eval elt B.env; standAt elt.pos; let _ ← call (.builtin "set.add") [.ref D, v]) (fun _ s' => ∃ H', Inv B pl σ H' s' ∧ C H') nil2 s := by
  intro pl s σ H C I q
  have a1 := he.run pl s σ H _ I q
  rw [hx] at a1
  exact wpAny_bind (thnF a1 fun v s1 ⟨y, H1, I1, r1, q1⟩ => wpAny_bind (wpAny_standAt (wpAny_bind (thnF (M.add rfl rfl I1 r1 q1) fun _ s2 z => wpAny_pure z))))
theorem pe_set1 (M : Adder X.prog X.w) (hc : X.calm = true) (hN : X.N.Nodup) (hi : PI X tg iter wi) (ok : BlkOk X.N X.env.scope scope own)
    (hg : ∀ (s : Shared) (H : Hp) (C : Addr) (cl : List (PySem.Str × Addr)) (fp : List Addr), PG (X.blk s H scope (compEnvC scope cl C X.env) fp) tg g) (ht : ∀ (s : Shared) (H : Hp) (C : Addr) (cl : List (PySem.Str × Addr)) (fp : List Addr), PTs (X.blk s H scope (compEnvC scope cl C X.env) fp) ifs tt)
    (he : ∀ (s : Shared) (H : Hp) (C : Addr) (cl : List (PySem.Str × Addr)) (fp : List Addr), PE (X.blk s H scope (compEnvC scope cl C X.env) fp) elt te) (hs : ∀ x, foldedSetIterable iter X.env x = pure x := by intro _; rfl) :
    PE X (.SetComp elt [⟨tg, iter, ifs, 0⟩] scope pos) (tSet1 M wi g tt te (own.map (·.2))) := by
  refine ⟨fun pins s σ H Q I h => ?_⟩
  rw [PpSet.eval_SetComp]
  refine block_any (Q := Q) (Rd := fun J D H1 => Walk J g tt (tAd M te D) (own.map fun z : PySem.Str × Nat => z.2) σ (fun H => Q (.ref D) H) H1) (.inl ⟨_, _, _, _, rfl⟩) rfl (fun q => PpSet.newSet_ok q) (fun _ _ => M.fresh _ _) hc hN I hi ok hs h
    (fun s3 H3 C cl fp it tn J D s4 T stat I4 st4 nfp rd => ?_) fun D C s' m H' I' q hn f => ⟨m, hn, fun h'' sb => ?_⟩
  · exact clause_ok (B := X.blk s3 H3 scope (compEnvC scope cl C X.env) fp) (tail := tailIn _ _) (p := iter.pos) (.inl ⟨_, _, _, _, rfl⟩) rfl rfl rfl hc T (hg s3 H3 C cl fp) (ht s3 H3 C cl fp) stat (act_in (emit_ok (B := X.blk s3 H3 scope (compEnvC scope cl C X.env) fp) M rfl (he s3 H3 C cl fp))) rfl
      (fun s' H' I' d => ⟨H', I', d⟩) rd I4 st4 nfp
  · obtain ⟨f0, f1, f2, f3, f4, f5⟩ := f
    exact ⟨.ref D, H', I'.turned (t' := s'.toks) (fun b o hb e => (sb.2 b hb).trans e) f0 f1 f3 f4 f5, rfl, q⟩
theorem pe_set2 (M : Adder X.prog X.w) {tg1 iter1 : Expr} {ifs1 : List Expr} {wi1 : TI} {g1 : TG} {tt1 : TT} {vs1 : List Nat} (hc : X.calm = true) (hN : X.N.Nodup) (hi : PI X tg iter wi) (ok : BlkOk X.N X.env.scope scope own) (hv : ∀ i ∈ vs1, i ∈ own.map (·.2))
    (hg : ∀ (s : Shared) (H : Hp) (C : Addr) (cl : List (PySem.Str × Addr)) (fp : List Addr), PG (X.blk s H scope (compEnvC scope cl C X.env) fp) tg g) (ht : ∀ (s : Shared) (H : Hp) (C : Addr) (cl : List (PySem.Str × Addr)) (fp : List Addr), PTs (X.blk s H scope (compEnvC scope cl C X.env) fp) ifs tt)
    (hi1 : ∀ (s : Shared) (H : Hp) (C : Addr) (cl : List (PySem.Str × Addr)) (fp : List Addr), PI (X.blk s H scope (compEnvC scope cl C X.env) fp) tg1 iter1 wi1)
    (hg1 : ∀ (s : Shared) (H : Hp) (C : Addr) (cl : List (PySem.Str × Addr)) (fp : List Addr), PG (X.blk s H scope (compEnvC scope cl C X.env) fp) tg1 g1) (ht1 : ∀ (s : Shared) (H : Hp) (C : Addr) (cl : List (PySem.Str × Addr)) (fp : List Addr), PTs (X.blk s H scope (compEnvC scope cl C X.env) fp) ifs1 tt1)
    (he : ∀ (s : Shared) (H : Hp) (C : Addr) (cl : List (PySem.Str × Addr)) (fp : List Addr), PE (X.blk s H scope (compEnvC scope cl C X.env) fp) elt te)
    (hs : ∀ x, foldedSetIterable iter X.env x = pure x := by intro _; rfl) (hs1 : ∀ env x, foldedSetIterable iter1 env x = pure x := by intro _ _; rfl) :
    PE X (.SetComp elt [⟨tg, iter, ifs, 0⟩, ⟨tg1, iter1, ifs1, 0⟩] scope pos) (tSet2 M wi g tt wi1 g1 tt1 te (own.map (·.2)) vs1) := by
  refine ⟨fun pins s σ H Q I h => ?_⟩
  rw [PpSet.eval_SetComp]
  refine block_any (Q := Q) (Rd := fun J D H1 => Walk J g tt (fun σ2 H2 C => wi1 σ2 H2 fun J1 H3 => Walk J1 g1 tt1 (tAd M te D) vs1 σ2 C H3) (own.map fun z : PySem.Str × Nat => z.2) σ (fun H => Q (.ref D) H) H1) (.inl ⟨_, _, _, _, rfl⟩) rfl (fun q => PpSet.newSet_ok q) (fun _ _ => M.fresh _ _) hc hN I hi ok hs h
    (fun s3 H3 C cl fp it tn J D s4 T stat I4 st4 nfp rd => ?_) fun D C s' m H' I' q hn f => ⟨m, hn, fun h'' sb => ?_⟩
  · exact clause_ok (B := X.blk s3 H3 scope (compEnvC scope cl C X.env) fp) (tail := tailOut _ iter1 (.ref D) _ _) (p := iter.pos) (.inl ⟨_, _, _, _, rfl⟩) rfl rfl rfl hc T (hg s3 H3 C cl fp) (ht s3 H3 C cl fp) stat
      (act_out (p1 := iter1.pos) (.inl ⟨_, _, _, _, rfl⟩) rfl (fun it1 => rfl) rfl hc hv (hs1 _) (hi1 s3 H3 C cl fp) (hg1 s3 H3 C cl fp) (ht1 s3 H3 C cl fp) (emit_ok (B := X.blk s3 H3 scope (compEnvC scope cl C X.env) fp) M rfl (he s3 H3 C cl fp))) rfl
      (fun s' H' I' d => ⟨H', I', d⟩) rd I4 st4 nfp
  · obtain ⟨f0, f1, f2, f3, f4, f5⟩ := f
    exact ⟨.ref D, H', I'.turned (t' := s'.toks) (fun b o hb e => (sb.2 b hb).trans e) f0 f1 f3 f4 f5, rfl, q⟩
end
/-- a key and a value into the dict at D -/
def tPut (tk tv : TE) (D : Addr) : TAc := fun σ H C => tk σ H fun y H1 => tv σ H1 fun x H2 => ∃ (kvs : List (Key × V)) (k : Key), y = kV k ∧ H2 D = some (.dK kvs) ∧ kvs.length < sizeLine ∧ C (upd H2 D (.dK (putK kvs k x)))
def tDict2 (wi : TI) (g : TG) (tt : TT) (wi1 : TI) (g1 : TG) (tt1 : TT) (tk tv : TE) (vs vs1 : List Nat) : TE := fun σ H Q => wi σ H fun J H1 => ∀ D, H1 D = none →
  Walk J g tt (fun σ2 H2 C => wi1 σ2 H2 fun J1 H3 => Walk J1 g1 tt1 (tPut tk tv D) vs1 σ2 C H3) vs σ (fun H => Q (.ref D) H) (upd H1 D (.dK []))
section
variable {X : Cx} {kx vx tg iter : Expr} {ifs : List Expr} {scope : Scope} {own : List (PySem.Str × Nat)} {pos : Pos} {wi : TI} {g : TG} {tt : TT} {tk tv : TE}
theorem emit_put {B : Cx} (hx : B.xe = nil2) (hk : PE B kx tk) (hv : PE B vx tv) {D : Addr} {p : Pos} : ∀ (pl : List (Addr × Obj)) s σ H C, Inv B pl σ H s → tPut tk tv D σ H C →
    wpAny (model B.prog B.w) B.A (do let kv ← eval kx B.env; let vv ← holding [kv] (eval vx B.env); standAt p; holding [kv, vv] (dictSet D kv vv)) (fun _ s' => ∃ H', Inv B pl σ H' s' ∧ C H') nil2 s := by
  intro pl s σ H C I q
  have a1 := hk.run pl s σ H _ I q
  rw [hx] at a1
  refine wpAny_bind (thnF a1 fun kv s1 ⟨y, H1, I1, r1, q1⟩ => ?_)
  have a2 := hv.run pl s1 σ H1 _ I1 q1
  rw [hx] at a2
  refine wpAny_bind (wpAny_holding (thnF a2 fun vv s2 ⟨x, H2, I2, r2, kvs, k, ey, hD, few, c⟩ => ?_))
  subst ey
  exact wpAny_bind (wpAny_standAt (wpAny_holding (d_dictSet I2 hD few r1 r2 fun s3 I3 => ⟨_, I3, c⟩)))
theorem pe_dict2 {tg1 iter1 : Expr} {ifs1 : List Expr} {wi1 : TI} {g1 : TG} {tt1 : TT} {vs1 : List Nat} (hc : X.calm = true) (hN : X.N.Nodup) (hi : PI X tg iter wi) (ok : BlkOk X.N X.env.scope scope own) (hv : ∀ i ∈ vs1, i ∈ own.map (·.2))
    (hg : ∀ (s : Shared) (H : Hp) (C : Addr) (cl : List (PySem.Str × Addr)) (fp : List Addr), PG (X.blk s H scope (compEnvC scope cl C X.env) fp) tg g) (ht : ∀ (s : Shared) (H : Hp) (C : Addr) (cl : List (PySem.Str × Addr)) (fp : List Addr), PTs (X.blk s H scope (compEnvC scope cl C X.env) fp) ifs tt)
    (hi1 : ∀ (s : Shared) (H : Hp) (C : Addr) (cl : List (PySem.Str × Addr)) (fp : List Addr), PI (X.blk s H scope (compEnvC scope cl C X.env) fp) tg1 iter1 wi1)
    (hg1 : ∀ (s : Shared) (H : Hp) (C : Addr) (cl : List (PySem.Str × Addr)) (fp : List Addr), PG (X.blk s H scope (compEnvC scope cl C X.env) fp) tg1 g1) (ht1 : ∀ (s : Shared) (H : Hp) (C : Addr) (cl : List (PySem.Str × Addr)) (fp : List Addr), PTs (X.blk s H scope (compEnvC scope cl C X.env) fp) ifs1 tt1)
    (hk : ∀ (s : Shared) (H : Hp) (C : Addr) (cl : List (PySem.Str × Addr)) (fp : List Addr), PE (X.blk s H scope (compEnvC scope cl C X.env) fp) kx tk) (he : ∀ (s : Shared) (H : Hp) (C : Addr) (cl : List (PySem.Str × Addr)) (fp : List Addr), PE (X.blk s H scope (compEnvC scope cl C X.env) fp) vx tv)
    (hs : ∀ x, foldedSetIterable iter X.env x = pure x := by intro _; rfl) (hs1 : ∀ env x, foldedSetIterable iter1 env x = pure x := by intro _ _; rfl) :
    PE X (.DictComp kx vx [⟨tg, iter, ifs, 0⟩, ⟨tg1, iter1, ifs1, 0⟩] scope pos) (tDict2 wi g tt wi1 g1 tt1 tk tv (own.map (·.2)) vs1) := by
  refine ⟨fun pins s σ H Q I h => ?_⟩
  rw [arm_eval_DictComp]
  refine block_any (Q := Q) (Rd := fun J D H1 => Walk J g tt (fun σ2 H2 C => wi1 σ2 H2 fun J1 H3 => Walk J1 g1 tt1 (tPut tk tv D) vs1 σ2 C H3) (own.map fun z : PySem.Str × Nat => z.2) σ (fun H => Q (.ref D) H) H1) (emp := fun _ => .dK []) (.inr (.inr ⟨_, _, _, _, _, rfl⟩)) rfl
    (fun q => wpAny_newObj_type q) (fun I' H' => dk_empty _ I'.big) hc hN I hi ok hs h
    (fun s3 H3 C cl fp it tn J D s4 T stat I4 st4 nfp rd => ?_) fun D C s' m H' I' q hn f => ⟨m, hn, fun h'' sb => ?_⟩
  · exact clause_ok (B := X.blk s3 H3 scope (compEnvC scope cl C X.env) fp) (tail := tailOut _ iter1 (.ref D) _ _) (p := iter.pos) (.inr (.inr ⟨_, _, _, _, _, rfl⟩)) rfl rfl rfl hc T (hg s3 H3 C cl fp) (ht s3 H3 C cl fp) stat
      (act_out (p1 := iter1.pos) (.inr (.inr ⟨_, _, _, _, _, rfl⟩)) rfl (fun it1 => rfl) rfl hc hv (hs1 _) (hi1 s3 H3 C cl fp) (hg1 s3 H3 C cl fp) (ht1 s3 H3 C cl fp) (emit_put (B := X.blk s3 H3 scope (compEnvC scope cl C X.env) fp) rfl (hk s3 H3 C cl fp) (he s3 H3 C cl fp))) rfl
      (fun s' H' I' d => ⟨H', I', d⟩) rd I4 st4 nfp
  · obtain ⟨f0, f1, f2, f3, f4, f5⟩ := f
    exact ⟨.ref D, H', I'.turned (t' := s'.toks) (fun b o hb e => (sb.2 b hb).trans e) f0 f1 f3 f4 f5, rfl, q⟩
end
end L2.Cmp
set_option Elab.async false
set_option linter.all false
set_option maxRecDepth 100000
set_option maxHeartbeats 4000000
/-! Sets of texts: as tracked things, by comprehension, sorted. -/
namespace L2.TxtSet
open PySem PySem.Spec PyProof.Rows L2.GSet L2.Cmp
def keyT : Value → Str
  | .str x _ => x
  | _ => ⟨#[]⟩
theorem keyT_is (P : Program) (w : World) : ∀ k v, (PySem.strKind P w).is k v = true → keyT v = k := fun k v h => by
  obtain ⟨t, rfl⟩ := Value.isStrOf_shape h
  rfl
/-- the set of texts at a: ks, in some order -/
def SetT (P : Program) (w : World) (a : Addr) (ks : List Str) : HO := .ext fun h => GAt (PySem.strKind P w) keyT h a ks
theorem setT_new {P : Program} {w : World} {H : Hp} {h : Heap} {a : Addr} {ks : List Str} (R : GAt (PySem.strKind P w) keyT h a ks) : ObjOk P w H h a (SetT P w a ks) := ⟨R, R.some, fun h1 h2 p k => GAt.keep p k⟩
section
variable {X : Cx} {pins : List (Addr × Obj)} {σ : L2.St} {H : Hp} {s : Shared}
theorem setT_get {a : Addr} {ks : List Str} (I : Inv X pins σ H s) (ha : H a = some (SetT X.prog X.w a ks)) : GAt (PySem.strKind X.prog X.w) keyT s.heap a ks := (I.hok a _ ha).1
end
/-- texts into a set of texts -/
def addT (P : Program) (w : World) : Adder P w where
  emp := fun D => SetT P w D []
  ad := fun D y H C => ∃ (z : Str) (ks : List Str), y = .str z ∧ H D = some (SetT P w D ks) ∧ ks.length + 1 < scanBound ∧ C (upd H D (SetT P w D (if z ∈ ks then ks else ks ++ [z])))
  fresh := fun H h => setT_new (GSet.fresh h)
  add := fun {X} hP hw {pins σ H s E D y v C} I r q => by
    subst hP
    subst hw
    obtain ⟨z, ks, rfl, hD, room, c⟩ := q
    obtain ⟨u, rfl⟩ := r
    refine add_call (keyT_is X.prog X.w) (k := z) (Froz.is_str z u) rfl (setT_get I hD) room fun h' sb new => ⟨_, ?_, c⟩
    exact I.write (e := D) (t' := s.toks + 1) (by rw [hD]; trivial) (.inl rfl) (fun b o hb ho => (sb.2 b hb).trans ho) new.some (setT_new new)
/-- sorted(a set of texts) -/
def rSortT (P : Program) (w : World) : List V → Hp → VK → Prop := fun vs H Q => ∃ (a : Addr) (ks : List Str), vs = [V.ref a] ∧ H a = some (SetT P w a ks) ∧ ks.length < 64 ∧
  ∀ (ys : List Str) (p : Addr), ys.Perm ks → sortedS ys = true → H p = none → Q (.ref p) (upd H p (.lst (ys.map V.str)))
theorem strs_out : ∀ {vs : List Value}, (∀ v ∈ vs, ∃ x u, v = Value.str x u) → StrsAre vs (vs.map keyT)
  | [], _ => .nil
  | v :: vs, h => by
    obtain ⟨x, u, rfl⟩ := h v List.mem_cons_self
    exact .cons x u (strs_out fun y m => h y (List.mem_cons_of_mem _ m))
theorem sort_tree {P : Program} {w : World} {A : Around} {E : Value → Shared → Prop} {s : Shared} {a : Addr} {ks : List Str} {Q : Value → Shared → Prop} (R : GAt (PySem.strKind P w) keyT s.heap a ks) (hh : A.handled = none) (h64 : ks.length < 64)
    (hQ : ∀ s' p (out : Array Value) (c : Nat) (ys : List Str), (∀ b o, s.heap.get? b = some o → s'.heap.get? b = some o) → s'.gens = s.gens → s'.os = s.os → s.heap.objs.size ≤ p → s'.heap.get? p = some (seqObj "list" out c) →
      StrsAre out.toList ys → ys.Perm ks → sortedS ys = true → Q (.ref p) s') : wpAny (model P w) A (call (.builtin "sorted") [.ref a]) Q E s := by
  obtain ⟨o, es, ep, t, ho, ox, od, p⟩ := R
  refine Calls.call_function_entry kind_sorted plain_sorted entry_sorted (args_sorted1 _) ?_
  unfold Builtin.«sorted»
  refine wpAny_bind (m := checkCount "sorted" 1 1 _) (wpAny_pure (wpAny_bind (collect_set (A := A.in1) hh ⟨o, ho, ox.1, od⟩ p.fit p.few p.ris p.led fun s1 vs k1 z1 g1 o1 pm => ?_)))
  have lv : vs.length = ks.length := by rw [pm.length_eq, List.length_map, Array.length_toList, p.size]
  have tx : StrsAre vs (vs.map keyT) := strs_out fun v m => by
    obtain ⟨e, he, rfl⟩ := List.mem_map.mp (pm.mem_iff.mp m)
    obtain ⟨⟨k, i, _⟩, _⟩ := p.el e he
    obtain ⟨u, q⟩ := Value.isStrOf_shape i
    exact ⟨k, u, q⟩
  have pk : (vs.map keyT).Perm ks := by
    have z := pm.map keyT
    rw [List.map_map] at z
    exact z.trans p.pm
  refine wpAny_bind (wpAny_newList ?_ (by rw [lv, sizeLine_eq]; omega))
  have at1 : (s1.heap.push (seqObj "list" vs.toArray 0)).get? s1.heap.objs.size = some (seqObj "list" vs.toArray 0) := Heap.get?_push_size _ rfl
  refine wpAny_bind (wpAny_holding (wpAny_call_entry slot_list_sort ⟨_, at1, rfl⟩ entry_list_sort (list_sort_treeK strKind_oneLt at1 tx.keysOf (fun v₁ v₂ rest e => keyKind_strs (by rw [← e]; exact tx)) (by rw [lv]; exact h64) fun st' hp' hs' => ?_) (args_list_sort _)))
  obtain ⟨ys, a1, a2, a3⟩ := sorted_out_str tx hp' hs'
  refine ⟨_, rfl, ?_⟩
  generalize ho' : (arrOf st').map (·.2) = out at a1
  obtain ⟨c, hc⟩ := sortedHeap_at (vs := vs) (out := out) at1
  refine wpAny_pure ⟨_, rfl, hQ _ s1.heap.objs.size out c ys (fun b u e => ?_) g1 o1 z1 hc a1 (a2.trans pk) a3⟩
  have q := k1 b u e
  have lt := Heap.lt_size q
  exact (sortedHeap_old (Nat.ne_of_lt lt) (by rw [size_push']; exact Nat.lt_succ_of_lt lt)).trans (Heap.get?_push_of_some _ q)
section
variable {X : Cx}
theorem cr_sortT (hc : X.calm = true) : CallR X (.builtin "sorted") (rSortT X.prog X.w) := by
  intro pins s σ H vs us Q I r h
  obtain ⟨a, ks, rfl, ha, h64, q⟩ := h
  rw [Vals.ref1 r]
  refine sort_tree (setT_get I ha) (I.ok.hd hc) h64 fun s' p out c ys k g o hp at2 tx pm so => ?_
  have hn : H p = none := I.hok.fresh hp
  have fits : (ys.map V.str).length ≤ sizeLine := by rw [List.length_map, pm.length_eq, sizeLine_eq]; omega
  have J : Inv X pins σ (upd H p (.lst (ys.map V.str))) { s with heap := s'.heap, gens := s'.gens, drawn := s'.drawn, toks := s'.toks } :=
    I.call (ch := []) (Un.laid k hp hn) (I.hok.laid k hp ⟨fits, out.toList, c, vals_of_strs tx, at2⟩) (by rw [g]; exact I.bare) fun _ z => nomatch z
  have e : s' = { s with heap := s'.heap, gens := s'.gens, drawn := s'.drawn, toks := s'.toks } := by
    cases s'
    cases s
    cases o
    rfl
  rw [e]
  exact ⟨.ref p, _, J, rfl, q ys p pm so hn⟩
end
end L2.TxtSet
set_option Elab.async false
set_option linter.all false
set_option maxRecDepth 100000
set_option maxHeartbeats 4000000
/-! is_free, variables_of. -/
namespace L2.LawH
open PySem PySem.Spec PyProof.Rows L2.Cmp L2.TxtSet
abbrev sVars : Stmt := top 7
/-! ### walks of a list or a tuple -/
def iSeq (K : PySem.W.Frag) (tl : TE) : TI := fun σ H R => tl σ H fun x H1 => ∃ a, x = .ref a ∧ (((∃ xs, SqL K H1 a xs) ∧ R (Itl K a) H1) ∨ ((∃ xs, SqT K H1 a xs) ∧ R (Itt K a) H1))
theorem pi_seq {X : Cx} {tg l : Expr} {tl : TE} (hl : PE X l tl) : PI X tg l (iSeq X.K tl) := by
  refine ⟨fun pins s σ H R I h => thn (hl.run pins s σ H _ I h) fun v s1 ⟨x, H1, I1, r1, q1⟩ => ?_⟩
  obtain ⟨a, rfl, q⟩ := q1
  cases r1
  have frs : ∀ b ∈ [s1.heap.objs.size], FpOk X pins H1 b := fun b hb => by
    obtain rfl : b = s1.heap.objs.size := by simpa using hb
    exact I1.fpOk (Nat.le_refl _) (I1.hok.fresh (Nat.le_refl _))
  rcases q with ⟨⟨xs, hq⟩, q⟩ | ⟨⟨xs, hq⟩, q⟩
  · obtain ⟨its, _, p, _⟩ := I1.list hq
    exact wpAny_pyIter_list p.isList ⟨_, _, _, _, H1, rfl, I1.kept (t' := s1.toks) fun b o e => Heap.get?_push_of_some _ e, turn_list a _, ⟨_, Heap.get?_push_size _ rfl, rfl, rfl⟩, frs, q⟩
  · obtain ⟨its, _, p, _⟩ := I1.tuple hq
    exact wpAny_pyIter_tuple (show s1.heap.IsTuple a its.toArray from p) ⟨_, _, _, _, H1, rfl, I1.kept (t' := s1.toks) fun b o e => Heap.get?_push_of_some _ e, turn_tuple a _, ⟨_, Heap.get?_push_size _ rfl, rfl, rfl⟩, frs, q⟩
theorem pi_tupK {X : Cx} {K : PySem.W.Frag} (e : X.K = K) {tg l : Expr} {tl : TE} (hl : PE X l tl) : PI X tg l (iTup K tl) := by
  subst e
  exact pi_tup hl
theorem sl_tupK {X : Cx} {K : PySem.W.Frag} (e : X.K = K) : SlR X (rSlT K) := by
  subst e
  exact sl_tup
/-- how a clause over xs is walked, where Sq says that they stand there -/
def WalkR (J : It) (Sq : Hp → Prop) (xs : List V) : Prop := ∀ (g : TG) (tt : TT) (ta : TAc) (vs : List Nat) (σ : List (Option V)) (H0 : Hp) (Done : Hp → Prop) (Pv : Nat → Hp → Prop), Pv 0 H0 → (∀ i H, i ≤ xs.length → Pv i H → Sq H) →
  (∀ i x H, xs[i]? = some x → Pv i H → g x (wipe σ vs) H fun σ2 H2 => wipe σ2 vs = wipe σ vs ∧ tt σ2 H2 fun b H3 => if b = true then ta σ2 H3 (Pv (i + 1)) else Pv (i + 1) H3) → (∀ H, Pv xs.length H → Done H) → L2.Cmp.Walk J g tt ta vs σ Done H0
theorem walk_list {K : PySem.W.Frag} {a : Addr} {xs : List V} : WalkR (Itl K a) (fun H => SqL K H a xs) xs := by
  intro g tt ta vs σ H0 Done Pv h0 hl hs hd
  refine ⟨fun i m H => m = xs.length - i ∧ i ≤ xs.length ∧ Pv i H, ⟨xs.length, rfl, Nat.zero_le _, h0⟩, ?_⟩
  rintro i m H ⟨rfl, hi, p⟩
  rcases Nat.lt_or_eq_of_le hi with lt | rfl
  · refine .inr ⟨⟨xs, xs[i], hl i H hi p, by simp [lt]⟩, Pv (i + 1), fun H' p' => ⟨xs.length - (i + 1), by omega, rfl, lt, p'⟩, ?_⟩
    rintro x _ ⟨rfl, y⟩
    exact hs i x _ (y xs (hl i _ hi p)) p
  · exact .inl ⟨⟨xs, hl _ H hi p, Nat.le_refl _⟩, hd H p⟩
theorem walk_tup {K : PySem.W.Frag} {a : Addr} {xs : List V} : WalkR (Itt K a) (fun H => SqT K H a xs) xs := by
  intro g tt ta vs σ H0 Done Pv h0 hl hs hd
  refine ⟨fun i m H => m = xs.length - i ∧ i ≤ xs.length ∧ Pv i H, ⟨xs.length, rfl, Nat.zero_le _, h0⟩, ?_⟩
  rintro i m H ⟨rfl, hi, p⟩
  rcases Nat.lt_or_eq_of_le hi with lt | rfl
  · refine .inr ⟨⟨xs, xs[i], hl i H hi p, by simp [lt]⟩, Pv (i + 1), fun H' p' => ⟨xs.length - (i + 1), by omega, rfl, lt, p'⟩, ?_⟩
    rintro x _ ⟨rfl, y⟩
    exact hs i x _ (y xs (hl i _ hi p)) p
  · exact .inl ⟨⟨xs, hl _ H hi p, Nat.le_refl _⟩, hd H p⟩
/-! ### each once -/
def put1 (ks : List Str) (z : Str) : List Str := if z ∈ ks then ks else ks ++ [z]
def uniq (l : List Str) : List Str := l.foldl put1 []
theorem uniq_snoc (l : List Str) (z : Str) : uniq (l ++ [z]) = put1 (uniq l) z := by
  unfold uniq
  rw [List.foldl_append]
  rfl
theorem fold_len : ∀ (l acc : List Str), (l.foldl put1 acc).length ≤ acc.length + l.length
  | [], acc => Nat.le_refl _
  | z :: l, acc => by
    have ih := fold_len l (put1 acc z)
    have : (put1 acc z).length ≤ acc.length + 1 := by
      unfold put1
      split
      · omega
      · simp
    rw [List.foldl_cons, List.length_cons]
    omega
theorem uniq_len (l : List Str) : (uniq l).length ≤ l.length := by
  have h := fold_len l []
  rw [List.length_nil, Nat.zero_add] at h
  exact h
theorem fold_mem {y : Str} : ∀ (l acc : List Str), y ∈ l.foldl put1 acc ↔ y ∈ acc ∨ y ∈ l
  | [], acc => by simp
  | z :: l, acc => by
    rw [List.foldl_cons, fold_mem l (put1 acc z), List.mem_cons]
    unfold put1
    split
    · rename_i m
      constructor
      · rintro (h | h)
        · exact .inl h
        · exact .inr (.inr h)
      · rintro (h | rfl | h)
        · exact .inl h
        · exact .inl m
        · exact .inr h
    · rw [List.mem_append, List.mem_singleton, or_assoc]
theorem uniq_mem {y : Str} {l : List Str} : y ∈ uniq l ↔ y ∈ l := by
  unfold uniq
  rw [fold_mem]
  simp
theorem fold_nodup : ∀ (l acc : List Str), acc.Nodup → (l.foldl put1 acc).Nodup
  | [], acc, h => h
  | z :: l, acc, h => by
    rw [List.foldl_cons]
    refine fold_nodup l _ ?_
    unfold put1
    split
    · exact h
    · rename_i m
      rw [List.nodup_append]
      exact ⟨h, by simp, fun a ha b hb e => by
        rw [List.mem_singleton.mp hb] at e
        exact m (e ▸ ha)⟩
theorem uniq_nodup (l : List Str) : (uniq l).Nodup := fold_nodup l [] List.nodup_nil
/-! ### lots of patterns, as they stand -/
abbrev Pt : Type := Addr × Str × List Str
def isV (z : Str) : Bool := Txt.startswith z (Str.ofString "?")
def frees (xs : List Pt) : List Str := (xs.flatMap fun x => x.2.2).filter isV
theorem frees_snoc (xs : List Pt) (x : Pt) : frees (xs ++ [x]) = frees xs ++ x.2.2.filter isV := by
  unfold frees
  rw [List.flatMap_append, List.filter_append]
  simp
theorem frees_take {xs : List Pt} {i : Nat} {x : Pt} (h : xs[i]? = some x) : frees (xs.take (i + 1)) = frees (xs.take i) ++ x.2.2.filter isV := by
  rw [List.take_succ, h]
  exact frees_snoc _ _
theorem frees_le (xs : List Pt) (i : Nat) : (frees (xs.take i)).length ≤ (frees xs).length := by
  have e : frees xs = frees (xs.take i) ++ frees (xs.drop i) := by
    unfold frees
    rw [← List.filter_append, ← List.flatMap_append, List.take_append_drop]
  rw [e, List.length_append]
  omega
/-- the lot xs at q, a list or a tuple -/
structure LotAt (H : Hp) (q : Addr) (xs : List Pt) : Prop where
  sq : H q = some (.lst (xs.map fun x => V.ref x.1)) ∨ H q = some (.tup (xs.map fun x => V.ref x.1))
  each : ∀ x ∈ xs, H x.1 = some (.tup (.str x.2.1 :: x.2.2.map V.str))
theorem cut_one (v : V) (l : List V) : cutV (v :: l) (some 1) none = l := by
  have e : HT.sIx (v :: l).length 0 (some 1) = 1 := by
    have z := HT.sIx_nat (v :: l).length 0 1
    rw [List.length_cons] at z ⊢
    exact z.trans (by omega)
  unfold cutV
  rw [e, HT.sIx_none]
  simp
theorem cut_part (v : V) (l : List V) : ¬ (HT.sIx (v :: l).length 0 (some 1) = 0 ∧ HT.sIx (v :: l).length (v :: l).length none = (v :: l).length) := by
  rintro ⟨e, _⟩
  have z := HT.sIx_nat (v :: l).length 0 1
  rw [List.length_cons] at z e
  have z' := z.symm.trans e
  omega
theorem LotAt.same {H H' : Hp} {q : Addr} {xs : List Pt} (h : LotAt H q xs) (s : Same H H') : LotAt H' q xs := ⟨h.sq.imp (s _ _) (s _ _), fun x m => s _ _ (h.each x m)⟩
theorem first_one {z : Str} {c : Nat} {r : List Nat} (h : z.cps.toList = c :: r) : decide (V.str ⟨#[c]⟩ = V.str (Str.ofString "?")) = isV z := by
  have q1 : (Str.ofString "?").cps = #[63] := by decide +kernel
  have q2 : (Str.ofString "?").length = 1 := by decide +kernel
  have es : Str.ofString "?" = ⟨#[63]⟩ := by
    cases h : Str.ofString "?" with
    | mk c => rw [h] at q1; exact congrArg Str.mk q1
  have l := length_toList z
  rw [h, List.length_cons] at l
  have hz : z.cps = (c :: r).toArray := by rw [← h]
  have z0 : z.cps[0]? = some c := by
    rw [← Array.getElem?_toList, h]
    rfl
  unfold isV Txt.startswith Builtin.Str.subAt
  rw [q1, q2, es, Bool.eq_iff_iff, decide_eq_true_iff, hz]
  have l0 : z.length = r.length + 1 := l.symm
  rw [l0]
  simp
def spVars : Sp := fun vs H Q _ => ∃ (q : Addr) (xs : List Pt), vs = [.ref q] ∧ LotAt H q xs ∧ (∀ x ∈ xs, ∀ z ∈ x.2.2, 1 ≤ z.length ∧ z.length ≤ 100) ∧ (frees xs).length ≤ 60 ∧
  ∀ (p : Addr) (ys : List Str) (H' : Hp), Same H H' → H p = none → ys.Perm (uniq (frees xs)) → sortedS ys = true → H' p = some (.lst (ys.map V.str)) → Q (.ref p) H'
section
variable {P : Program} {w : World} {K : PySem.W.Frag} {mg : Str → Option Value} {base : Heap}
abbrev nVars : List Str := ["lot", "pattern", "term"]
end
end L2.LawH
set_option Elab.async false
set_option linter.all false
set_option maxRecDepth 100000
set_option maxHeartbeats 4000000
/-! _law_variables. -/
namespace L2.LawH
open PySem PySem.Spec PyProof.Rows L2.Cmp L2.TxtSet
abbrev sLVars : Stmt := top 21
theorem first_sign (z : Str) : decide (cutS z none (some 1) = Str.ofString "?") = isV z := by
  have q1 : (Str.ofString "?").cps = #[63] := by decide +kernel
  have q2 : (Str.ofString "?").length = 1 := by decide +kernel
  have e2 : HT.sIx z.length z.length (some 1) = min 1 z.length := HT.sIx_nat z.length z.length 1
  have l : z.cps.toList.length = z.length := length_toList z
  have es : Str.ofString "?" = ⟨#[63]⟩ := by
    cases h : Str.ofString "?" with
    | mk c => rw [h] at q1; exact congrArg Str.mk q1
  unfold isV Txt.startswith cutS Builtin.Str.subAt
  rw [HT.sIx_none, e2, q1, q2, es, Bool.eq_iff_iff, decide_eq_true_iff]
  cases hz : z.cps.toList with
  | nil =>
    rw [hz] at l
    have l0 : z.length = 0 := l.symm
    rw [l0]
    simp
  | cons x r =>
    rw [hz] at l
    have l0 : z.length = r.length + 1 := l.symm
    have ez : z.cps = (x :: r).toArray := by rw [← hz]
    rw [l0, ez]
    have m : min 1 (r.length + 1) = 1 := by omega
    rw [m]
    simp
def spLVars : Sp := fun vs H Q _ => ∃ (q : Addr) (xs : List Pt), vs = [.ref q] ∧ H q = some (.lst (xs.map fun x => V.ref x.1)) ∧ LotAt H q xs ∧ (∀ x ∈ xs, ∀ z ∈ x.2.2, z.length ≤ 100) ∧ (frees xs).length ≤ 60 ∧
  ∀ (p : Addr) (ys : List Str) (H' : Hp), Same H H' → H p = none → ys.Perm (uniq (frees xs)) → sortedS ys = true → H' p = some (.lst (ys.map V.str)) → Q (.ref p) H'
section
variable {P : Program} {w : World} {K : PySem.W.Frag} {mg : Str → Option Value} {base : Heap}
abbrev nLVars : List Str := ["_law_lot_here", "_law_found", "_law_pattern_here", "_law_term_here"]
end
end L2.LawH
set_option Elab.async false
set_option linter.all false
set_option maxRecDepth 100000
set_option maxHeartbeats 4000000
/-! _law_lot; two ascending lists of the same texts. -/
namespace L2.LawH
open PySem PySem.Spec PyProof.Rows L2.Cmp L2.TxtSet
theorem asc_pw : ∀ (l : List Str) (p : Str), risingS p l = true → (p :: l).Pairwise fun a b => a.cps.toList ≤ b.cps.toList
  | [], p, _ => List.pairwise_singleton _ _
  | x :: r, p, h => by
    simp only [risingS, Bool.and_eq_true, Bool.not_eq_true', ltCps_eq, decide_eq_false_iff_not, List.not_lt] at h
    have ih := asc_pw r x h.2
    refine List.pairwise_cons.mpr ⟨fun y hy => ?_, ih⟩
    rcases List.mem_cons.mp hy with rfl | hy
    · exact h.1
    · exact List.le_trans h.1 ((List.pairwise_cons.mp ih).1 y hy)
theorem asc_all {l : List Str} (h : sortedS l = true) : l.Pairwise fun a b => a.cps.toList ≤ b.cps.toList := by
  cases l with
  | nil => exact List.Pairwise.nil
  | cons x r => exact asc_pw r x h
theorem asc_eq {l l' u : List Str} (h : sortedS l = true) (h' : sortedS l' = true) (p : l.Perm u) (p' : l'.Perm u) : l = l' := by
  refine List.Perm.eq_of_pairwise (fun a b _ _ x y => ?_) (asc_all h) (asc_all h') (p.trans p'.symm)
  have e : a.cps.toList = b.cps.toList := List.le_antisymm x y
  cases a
  cases b
  exact congrArg Str.mk (Array.toList_inj.mp e)
abbrev sLot7 : Stmt := top 20
/-- a lot xs at q, drawn over a pool and variables, outside the source -/
structure LotOf (a : Addr) (π : Pool) (W : List Str) (H : Hp) (q : Addr) (xs : List Pt) : Prop where
  sq : H q = some (.lst (xs.map fun x => V.ref x.1))
  each : ∀ x ∈ xs, H x.1 = some (.tup (.str x.2.1 :: x.2.2.map V.str))
  pat : ∀ x ∈ xs, PatOf π W x.2.1 x.2.2
  nq : q ≠ a
  nx : ∀ x ∈ xs, x.1 ≠ a
theorem LotOf.at {a : Addr} {π : Pool} {W : List Str} {H : Hp} {q : Addr} {xs : List Pt} (h : LotOf a π W H q xs) : LotAt H q xs := ⟨.inl h.sq, h.each⟩
theorem LotOf.keep {a : Addr} {π : Pool} {W : List Str} {H H' : Hp} {q : Addr} {xs : List Pt} (h : LotOf a π W H q xs) (k : Keep a H H') : LotOf a π W H' q xs :=
  ⟨k _ _ h.sq h.nq, fun x m => k _ _ (h.each x m) (h.nx x m), h.pat, h.nq, h.nx⟩
def spLot : Sp := fun vs H Q _ => ∃ (a p q : Addr) (c : Int) (m n : Nat) (π : Pool) (W : List Str), vs = [.ref a, .ref p, .ref q, .int n] ∧ n ≤ 100 ∧ SrcAt H a c (m + 20 * n + 1) ∧ PoolAt a H p π ∧ VarsAt a H q W ∧
  ∀ (t : Addr) (xs : List Pt) (H' : Hp), LotOf a π W H' t xs → xs.length ≤ n → SrcAt H' a c m → Keep a H H' → Q (.ref t) H'
section
variable {P : Program} {w : World} {K : PySem.W.Frag} {mg : Str → Option Value} {base : Heap}
abbrev nLot : List Str := ["_law_source_here", "_law_pool_here", "_law_variables_here", "_law_most", "_law_k"]
abbrev pLot : List Str := ["_law_source_here", "_law_pool_here", "_law_variables_here", "_law_most"]
end
end L2.LawH
set_option Elab.async false
set_option linter.all false
set_option maxRecDepth 100000
set_option maxHeartbeats 4000000
/-! is_name, is_variable. -/
namespace L2.LawH
open PySem PySem.Spec PyProof.Rows L2.Cmp L2.TxtSet
abbrev sIsN : Stmt := top 8
abbrev sIsV : Stmt := top 9
/-- a value of a kind that is no text -/
def NotS (K : PySem.W.Frag) (H : Hp) (x : V) : Prop := ∃ n : String, TyX K H x (.type n) ∧ kitB n "str" = some false
abbrev letS8 : Str := "abcdefghijklmnopqrstuvwxyz"
abbrev sgnS8 : Str := "abcdefghijklmnopqrstuvwxyz0123456789"
def spIsN (K : PySem.W.Frag) : Sp := fun vs H Q _ => ∃ x : V, vs = [x] ∧ ((∃ z : Str, x = .str z ∧ z.length ≤ 100000 ∧ ∀ H', Same H H' → Q (.bl (nmB z.cps.toList)) H') ∨ (NotS K H x ∧ Q (.bl false) H))
theorem in_let (c : Nat) : (!(Builtin.Str.occurrences letS8 ⟨#[c]⟩ 0 letS8.length 1).isEmpty) = isLet c := by
  rw [empty_one, Bool.not_not]
  have e : letS8.cps.toList = [97,98,99,100,101,102,103,104,105,106,107,108,109,110,111,112,113,114,115,116,117,118,119,120,121,122] := by decide +kernel
  rw [e]
  unfold isLet
  rw [Bool.eq_iff_iff]
  simp only [decide_eq_true_eq, Bool.and_eq_true, List.mem_cons, List.not_mem_nil, or_false]
  omega
theorem in_sgn (c : Nat) : (!(Builtin.Str.occurrences sgnS8 ⟨#[c]⟩ 0 sgnS8.length 1).isEmpty) = isSgn c := by
  rw [empty_one, Bool.not_not]
  have e : sgnS8.cps.toList = [97,98,99,100,101,102,103,104,105,106,107,108,109,110,111,112,113,114,115,116,117,118,119,120,121,122,48,49,50,51,52,53,54,55,56,57] := by decide +kernel
  rw [e]
  unfold isSgn isLet
  rw [Bool.eq_iff_iff]
  simp only [decide_eq_true_eq, Bool.and_eq_true, Bool.or_eq_true, List.mem_cons, List.not_mem_nil, or_false]
  omega
theorem nmB_eq (c : Nat) (r : List Nat) (h : r.length ≤ 11) : nmB (c :: r) = (isLet c && ((c :: r).all isSgn)) := by
  show (isLet c && r.all isSgn && decide (r.length ≤ 11)) = _
  rw [decide_eq_true h, Bool.and_true, List.all_cons]
  cases hl : isLet c with
  | false => rfl
  | true =>
    have : isSgn c = true := by
      unfold isSgn
      rw [hl]
      rfl
    rw [this]
    rfl
theorem asc_tab : ((List.range 128).all fun c => (Unicode.isAlnum c == (isSgn c || (decide (65 ≤ c) && decide (c ≤ 90)))) && (Unicode.isLower c == isLet c) &&
    ((Unicode.isUpper c || Unicode.isTitle c) == (decide (65 ≤ c) && decide (c ≤ 90))) && (Unicode.isAlpha c == (isLet c || (decide (65 ≤ c) && decide (c ≤ 90))))) = true := by decide +kernel
theorem asc_at {c : Nat} (h : c < 128) : Unicode.isAlnum c = (isSgn c || (decide (65 ≤ c) && decide (c ≤ 90))) ∧ Unicode.isLower c = isLet c ∧
    (Unicode.isUpper c || Unicode.isTitle c) = (decide (65 ≤ c) && decide (c ≤ 90)) ∧ Unicode.isAlpha c = (isLet c || (decide (65 ≤ c) && decide (c ≤ 90))) := by
  have q := List.all_eq_true.mp asc_tab c (List.mem_range.mpr h)
  simp only [Bool.and_eq_true, beq_iff_eq] at q
  exact ⟨q.1.1.1, q.1.1.2, q.1.2, q.2⟩
theorem all_cps (z : Str) (p : Nat → Bool) : z.cps.all p = z.cps.toList.all p := by rw [Array.all_toList]
theorem any_cps (z : Str) (p : Nat → Bool) : z.cps.any p = z.cps.toList.any p := by rw [Array.any_toList]
theorem sgn_asc {c : Nat} (h : isSgn c = true) : c < 128 := by
  unfold isSgn isLet at h
  simp only [Bool.or_eq_true, Bool.and_eq_true, decide_eq_true_eq] at h
  omega
/-- what the name test asks before the first sign -/
def pre8 (l : List Nat) : Bool := l.all (fun c => decide (c < 128)) && (decide (l.length > 0) && l.all Unicode.isAlnum) && (l.any Unicode.isLower && !l.any fun c => Unicode.isUpper c || Unicode.isTitle c)
theorem pre8_sgn {l : List Nat} (h : pre8 l = true) : l.all isSgn = true := by
  unfold pre8 at h
  simp only [Bool.and_eq_true, decide_eq_true_eq, Bool.not_eq_true'] at h
  obtain ⟨⟨h1, h2, h3⟩, h4, h5⟩ := h
  refine List.all_eq_true.mpr fun c m => ?_
  have a := of_decide_eq_true (List.all_eq_true.mp h1 c m)
  have b := List.all_eq_true.mp h3 c m
  have d := List.any_eq_false.mp h5 c m
  obtain ⟨q1, q2, q3, q4⟩ := asc_at a
  rw [q1] at b
  rw [q3] at d
  simpa [d] using b
theorem pre8_of {c : Nat} {r : List Nat} (hc : isLet c = true) (h : (c :: r).all isSgn = true) : pre8 (c :: r) = true := by
  have asc : ∀ d ∈ c :: r, d < 128 := fun d m => sgn_asc (List.all_eq_true.mp h d m)
  unfold pre8
  simp only [Bool.and_eq_true, decide_eq_true_eq, Bool.not_eq_true']
  refine ⟨⟨List.all_eq_true.mpr fun d m => decide_eq_true (asc d m), Nat.succ_pos _, List.all_eq_true.mpr fun d m => ?_⟩, List.any_eq_true.mpr ⟨c, List.mem_cons_self, ?_⟩, List.any_eq_false.mpr fun d m => ?_⟩
  · rw [(asc_at (asc d m)).1, List.all_eq_true.mp h d m, Bool.true_or]
  · rw [(asc_at (asc c List.mem_cons_self)).2.1, hc]
  · rw [(asc_at (asc d m)).2.2.1]
    have q := List.all_eq_true.mp h d m
    unfold isSgn isLet at q
    simp only [Bool.or_eq_true, Bool.and_eq_true, decide_eq_true_eq] at q
    simp only [Bool.and_eq_true, decide_eq_true_eq]
    omega
theorem nmB_pre {c : Nat} {r : List Nat} (h : pre8 (c :: r) = true) : nmB (c :: r) = (Unicode.isAlpha c && decide ((c :: r).length ≤ 12)) := by
  have sg := pre8_sgn h
  rw [List.all_cons, Bool.and_eq_true] at sg
  have asc := sgn_asc sg.1
  obtain ⟨q1, q2, q3, q4⟩ := asc_at asc
  have al : Unicode.isAlpha c = isLet c := by
    have s := sg.1
    unfold isSgn at s
    rw [q4]
    unfold isLet at s ⊢
    rw [Bool.eq_iff_iff]
    simp only [Bool.or_eq_true, Bool.and_eq_true, decide_eq_true_eq] at s ⊢
    omega
  show (isLet c && r.all isSgn && decide (r.length ≤ 11)) = _
  rw [sg.2, al, Bool.and_true, List.length_cons]
  congr 1
  exact decide_eq_decide.mpr ⟨fun h => by omega, fun h => by omega⟩
theorem pre8_eq (z : Str) : (Txt.isascii z && Txt.isalnum z && Txt.islower z) = pre8 z.cps.toList := by
  unfold Txt.isascii Txt.isalnum Txt.islower pre8
  rw [all_cps, all_cps, any_cps, any_cps, length_toList]
theorem nmB_no {l : List Nat} (h : pre8 l = false) : nmB l = false := by
  cases l with
  | nil => rfl
  | cons c r =>
    cases e : nmB (c :: r) with
    | false => rfl
    | true =>
      have e : (isLet c && r.all isSgn && decide (r.length ≤ 11)) = true := e
      simp only [Bool.and_eq_true] at e
      have sg : isSgn c = true := by
        unfold isSgn
        rw [e.1.1, Bool.true_or]
      rw [pre8_of e.1.1 (by rw [List.all_cons, sg, e.1.2, Bool.and_self])] at h
      cases h
section
variable {P : Program} {w : World} {K : PySem.W.Frag} {mg : Str → Option Value} {base : Heap}
theorem scIN : FnScope ["value"] ["value"] (defScope sIsN) := ⟨rfl, rfl, rfl, by decide +kernel, rfl, by decide +kernel, by decide +kernel⟩
theorem ok_isN {f : Addr} {fd : FuncData} (F : Fun K "is_name" "is_name" sIsN f fd) {t3 : Tok} (mM : mg "LONGEST_NAME" = some (.int 12 t3))
    (mi : mg "isinstance" = none) (mst : mg "str" = none) (ml : mg "len" = none) :
    FnOk P w K mg base CX0 1 f fd ["value"] (spIsN K) := by
  refine F.ok scIN (fun vs H Q E h => ?_) (fun cdv A outer s H vs Q E hr h => ?_)
  · obtain ⟨x, rfl, _⟩ := h
    rfl
  · obtain ⟨x, rfl, h⟩ := h
    refine ⟨_, pss_one (ps_ret (pe_and (pe_callB call_isi (by rfl) mi (by decide +kernel) (pa_cons (pv 0) (pa_cons (pe_bltn (v := .ty "str") (by rfl) mst (by decide +kernel) rfl) pa_nil)))
      (pe_and (pe_m0 PySem.F.slot_str_isascii PySem.F.type_str_isascii mt_isascii (pv 0))
      (pe_and (pe_m0 PySem.F.slot_str_isalnum PySem.F.type_str_isalnum mt_isalnum (pv 0))
      (pe_and (pe_m0 PySem.F.slot_str_islower PySem.F.type_str_islower mt_islower (pv 0))
      (pe_and (pe_m0 PySem.F.slot_str_isalpha PySem.F.type_str_isalpha mt_isalpha (pe_ix ix_str (pv 0) pe_int (fun _ _ => rfl)))
        (pe_one (pe_cmpR op_le (pe_callB call_len_str (by rfl) ml (by decide +kernel) (pa_cons (pv 0) pa_nil)) (pe_glob (v := .int 12) (by rfl) mM ⟨_, rfl⟩) (by rfl))))))))), ?_⟩
    rcases h with ⟨z, rfl, hz, k⟩ | ⟨⟨n, ty, kb⟩, k⟩
    · have szl : z.length ≤ sizeLine := by rw [sizeLine_eq]; omega
      have no : pre8 z.cps.toList = false → Q (.bl false) H := fun e => by
        have q := k H fun _ _ e => e
        rw [nmB_no e] at q
        exact q
      have pe := pre8_eq z
      refine ⟨_, rfl, _, .ty "str", _, _, true, rfl, .ty "str", .base (.str z), kit_ty (by decide +kernel), _, rfl, ?_⟩
      refine iteT ?_
      refine ⟨_, rfl, ⟨_, rfl⟩, _, rfl, rfl, trivial, _, rfl, ?_⟩
      cases eA : Txt.isascii z with
      | false => exact iteF (no (by rw [← pe, eA, Bool.false_and, Bool.false_and]))
      | true =>
        refine iteT ⟨_, rfl, ⟨_, rfl⟩, _, rfl, rfl, trivial, _, rfl, ?_⟩
        cases eB : Txt.isalnum z with
        | false => exact iteF (no (by rw [← pe, eB, Bool.and_false, Bool.false_and]))
        | true =>
          refine iteT ⟨_, rfl, ⟨_, rfl⟩, _, rfl, rfl, trivial, _, rfl, ?_⟩
          cases eC : Txt.islower z with
          | false => exact iteF (no (by rw [← pe, eC, Bool.and_false]))
          | true =>
            have p8 : pre8 z.cps.toList = true := by rw [← pe, eA, eB, eC]; rfl
            have lz : z.cps.toList.length = z.length := length_toList z
            have k' := k H fun _ _ e => e
            cases hc : z.cps.toList with
            | nil =>
              rw [hc] at p8
              cases p8
            | cons c r =>
              rw [hc] at p8 k' lz
              rw [nmB_pre p8] at k'
              refine iteT ⟨_, rfl, z, 0, c, rfl, rfl, szl, by rw [hc]; exact atI_nat (j := 0) rfl, ⟨_, rfl⟩, _, rfl, rfl, trivial, _, rfl, ?_⟩
              have ea : Txt.isalpha ⟨#[c]⟩ = Unicode.isAlpha c := by
                unfold Txt.isalpha
                simp [Str.length]
              rw [ea]
              cases eD : Unicode.isAlpha c with
              | false =>
                rw [eD, Bool.false_and] at k'
                exact iteF k'
              | true =>
                rw [eD, Bool.true_and] at k'
                refine iteT ⟨_, rfl, z, rfl, szl, _, _, rfl, rfl, ?_⟩
                have e : decide ((z.length : Int) ≤ 12) = decide ((c :: r).length ≤ 12) := decide_eq_decide.mpr ⟨fun h => by omega, fun h => by omega⟩
                rw [← e] at k'
                exact k'
    · refine ⟨_, rfl, _, .ty "str", _, _, false, rfl, .ty "str", ty, kit_ty kb, _, rfl, ?_⟩
      exact iteF k
end
end L2.LawH
set_option Elab.async false
set_option linter.all false
set_option maxRecDepth 100000
set_option maxHeartbeats 4000000
/-! is_variable, is_pattern, is_fact. -/
namespace L2.LawH
open PySem PySem.Spec PyProof.Rows L2.Cmp L2.TxtSet
abbrev sIsV9 : Stmt := top 9
abbrev sIsP9 : Stmt := top 10
abbrev sIsF9 : Stmt := top 11
def varB (z : Str) : Bool := isV z && nmB (z.cps.toList.drop 1)
theorem cut_tail (z : Str) : (cutS z (some 1) none).cps.toList = z.cps.toList.drop 1 := by
  have l : z.cps.toList.length = z.length := length_toList z
  have e1 : HT.sIx z.length 0 (some 1) = min 1 z.length := HT.sIx_nat z.length 0 1
  unfold cutS
  rw [e1, HT.sIx_none]
  show (z.cps.toList.drop (min 1 z.length)).take (z.length - min 1 z.length) = _
  cases hc : z.cps.toList with
  | nil => simp
  | cons c r =>
    rw [hc, List.length_cons] at l
    have m : min 1 z.length = 1 := by omega
    rw [m]
    have e : z.length - 1 = r.length := by omega
    rw [e]
    simp
/-- names and variables among values -/
def vN : V → Bool
  | .str z => nmB z.cps.toList
  | _ => false
def vV : V → Bool
  | .str z => varB z
  | _ => false
/-- a value that may be asked -/
def Okv (K : PySem.W.Frag) (H : Hp) (x : V) : Prop := (∃ z : Str, x = .str z ∧ z.length ≤ 100000) ∨ (NotS K H x ∧ ∀ z, x ≠ .str z)
theorem tyx_same {K : PySem.W.Frag} {H H' : Hp} (s : Same H H') {x : V} {t : Value} (h : TyX K H x t) : TyX K H' x t := by
  cases h with
  | base b =>
    refine .base ?_
    cases b with
    | non => exact .non
    | bl x => exact .bl x
    | int i => exact .int i
    | str x => exact .str x
    | flt x => exact .flt x
    | lst e => exact .lst (s _ _ e)
    | frz e => exact .frz (s _ _ e)
    | tup e => exact .tup (s _ _ e)
    | dK e => exact .dK (s _ _ e)
    | dT e => exact .dT (s _ _ e)
    | ins e cl ha hn htk hm => exact .ins (s _ _ e) cl ha hn htk hm
  | byt b => exact .byt b
  | set e => exact .set (s _ _ e)
  | kList e c => exact .kList e c
  | kTuple e c => exact .kTuple e c
  | kDict e c => exact .kDict e c
  | fTuple e => exact .fTuple (s _ _ e)
  | fDict e => exact .fDict (s _ _ e)
theorem Okv.same {K : PySem.W.Frag} {H H' : Hp} (s : Same H H') {x : V} (h : Okv K H x) : Okv K H' x := by
  rcases h with h | ⟨⟨n, ty, kb⟩, no⟩
  · exact .inl h
  · exact .inr ⟨⟨n, tyx_same s ty, kb⟩, no⟩
def NotT (K : PySem.W.Frag) (H : Hp) (x : V) : Prop := ∃ n : String, TyX K H x (.type n) ∧ kitB n "tuple" = some false
def patB (xs : List V) : Bool := match xs with
  | [] => false
  | x :: r => decide (r.length ≤ 3) && vN x && r.all fun y => vN y || vV y
def factB (xs : List V) : Bool := patB xs && xs.all vN
def spIsVr (K : PySem.W.Frag) : Sp := fun vs H Q _ => ∃ x : V, vs = [x] ∧ Okv K H x ∧ ∀ H', Same H H' → Q (.bl (vV x)) H'
def spIsP (K : PySem.W.Frag) (f : List V → Bool) : Sp := fun vs H Q _ => ∃ x : V, vs = [x] ∧
  ((∃ (t : Addr) (xs : List V), x = .ref t ∧ H t = some (.tup xs) ∧ xs.length ≤ 100000 ∧ (∀ y ∈ xs, Okv K H y) ∧ ∀ H', Same H H' → Q (.bl (f xs)) H') ∨ (NotT K H x ∧ ∀ H', Same H H' → Q (.bl false) H'))
theorem isN_of {K : PySem.W.Frag} {H : Hp} {x : V} {Q : VK} {E : XK} (o : Okv K H x) (k : ∀ H', Same H H' → Q (.bl (vN x)) H') : spIsN K [x] H Q E := by
  refine ⟨x, rfl, ?_⟩
  rcases o with ⟨z, rfl, l⟩ | ⟨n, no⟩
  · exact .inl ⟨z, rfl, l, k⟩
  · refine .inr ⟨n, ?_⟩
    have e : vN x = false := by
      cases x with
      | str z => exact absurd rfl (no z)
      | _ => rfl
    have q := k H fun _ _ e => e
    rw [e] at q
    exact q
section
variable {P : Program} {w : World} {K : PySem.W.Frag} {mg : Str → Option Value} {base : Heap}
theorem scIV : FnScope ["value"] ["value"] (defScope sIsV9) := ⟨rfl, rfl, rfl, by decide +kernel, rfl, by decide +kernel, by decide +kernel⟩
theorem ok_isV {f fN : Addr} {fd fdN : FuncData} (F : Fun K "is_variable" "is_variable" sIsV9 f fd)
    (GN : FnOk P w K mg base CX0 1 fN fdN ["value"] (spIsN K)) (kN : PySem.W.keepIn K (.ref fN) = true) (bN : Binds K fdN ["value"] []) (mN : mg "is_name" = some (.ref fN))
    (mi : mg "isinstance" = none) (mst : mg "str" = none) :
    FnOk P w K mg base CX0 2 f fd ["value"] (spIsVr K) := by
  refine F.ok scIV (fun vs H Q E h => ?_) (fun cdv A outer s H vs Q E hr h => ?_)
  · obtain ⟨x, rfl, _⟩ := h
    rfl
  · obtain ⟨x, rfl, o, k⟩ := h
    have hr1 : Room 1 _ := hr.mono (by decide)
    refine ⟨_, pss_one (ps_ret (pe_and (pe_callB call_isi (by rfl) mi (by decide +kernel) (pa_cons (pv 0) (pa_cons (pe_bltn (v := .ty "str") (by rfl) mst (by decide +kernel) rfl) pa_nil)))
      (pe_and (pe_m1 PySem.F.slot_str_startswith PySem.F.type_str_startswith mt_startswith (pv 0) pe_str)
        (pe_one (pe_call GN hr1 (by rfl) mN kN bN .nil pass0 (pa_cons (pe_slice sl_str (pv 0) (po_some pe_int) po_none) pa_nil)))))), ?_⟩
    rcases o with ⟨z, rfl, l⟩ | ⟨⟨n, ty, kb⟩, no⟩
    · have kv : ∀ H', Same H H' → Q (.bl (varB z)) H' := k
      refine ⟨_, rfl, _, .ty "str", _, _, true, rfl, .ty "str", .base (.str z), kit_ty (by decide +kernel), _, rfl, ?_⟩
      refine iteT ?_
      refine ⟨_, rfl, ⟨_, rfl⟩, _, _, rfl, rfl, _, rfl, ?_⟩
      refine ite2 (fun h1 => ?_) (fun h1 => ?_)
      · have h1 : isV z = true := h1
        refine ⟨_, rfl, _, rfl, z, rfl, by rw [sizeLine_eq]; omega, ?_⟩
        refine isN_of (E := E0) (.inl ⟨_, rfl, Nat.le_trans (cutS_length z (some 1) none) l⟩) fun H' s => ?_
        have q := kv H' s
        unfold varB at q
        rw [h1, Bool.true_and, ← cut_tail] at q
        exact q
      · have h1 : isV z = false := by
          cases e : isV z with
          | false => rfl
          | true => exact absurd e h1
        have q := kv H fun _ _ e => e
        unfold varB at q
        rw [h1, Bool.false_and] at q
        exact q
    · refine ⟨_, rfl, _, .ty "str", _, _, false, rfl, .ty "str", ty, kit_ty kb, _, rfl, ?_⟩
      refine iteF ?_
      have q := k H fun _ _ e => e
      have e : vV x = false := by
        cases x with
        | str z => exact absurd rfl (no z)
        | _ => rfl
      rw [e] at q
      exact q
theorem scIP : FnScope ["value", "term"] ["value"] (defScope sIsP9) := ⟨rfl, rfl, rfl, by decide +kernel, rfl, by decide +kernel, by decide +kernel⟩
theorem ok_isP {f fN fV : Addr} {fd fdN fdV : FuncData} (F : Fun K "is_pattern" "is_pattern" sIsP9 f fd)
    (GN : FnOk P w K mg base CX0 1 fN fdN ["value"] (spIsN K)) (kN : PySem.W.keepIn K (.ref fN) = true) (bN : Binds K fdN ["value"] []) (mN : mg "is_name" = some (.ref fN))
    (GV : FnOk P w K mg base CX0 2 fV fdV ["value"] (spIsVr K)) (kV : PySem.W.keepIn K (.ref fV) = true) (bV : Binds K fdV ["value"] []) (mV : mg "is_variable" = some (.ref fV))
    {t3 : Tok} (mM : mg "MOST_TERMS" = some (.int 3 t3)) (mi : mg "isinstance" = none) (mtp : mg "tuple" = none) (ml : mg "len" = none) :
    FnOk P w K mg base CX0 3 f fd ["value"] (spIsP K patB) := by
  refine F.ok scIP (fun vs H Q E h => ?_) (fun cdv A outer s H vs Q E hr h => ?_)
  · obtain ⟨x, rfl, _⟩ := h
    rfl
  · obtain ⟨x, rfl, h⟩ := h
    have hr1 : Room 1 _ := hr.mono (by decide)
    have hr2 : Room 2 _ := hr.mono (by decide)
    refine ⟨_, pss_cons (ps_if (PW.pt (pw_or (pt_not (pt_val (pe_callB call_isi (by rfl) mi (by decide +kernel) (pa_cons (pv 0) (pa_cons (pe_bltn (v := .ty "tuple") (by rfl) mtp (by decide +kernel) rfl) pa_nil)))))
          (pw_or1 (pt_not (pt_chain op_le op_le pe_int (pe_callB call_len_seq (by rfl) ml (by decide +kernel) (pa_cons (pv 0) pa_nil)) (pe_op op_add pe_int (pe_glob (v := .int 3) (by rfl) mM ⟨_, rfl⟩))))))) (pss_one (ps_ret pe_bl)) pss_nil)
      (pss_cons (ps_for PassesOwn.never rfl (pi_tup (pe_slice sl_tup (pv 0) (po_some pe_int) po_none)) (pg_name (i := 1) scIP.nd rfl (Or.inl rfl))
        (pss_one (ps_if (PW.pt (pw_and (pt_not (pt_val (pe_call GN hr1 (by rfl) mN kN bN .nil pass0 (pa_cons (pv 1) pa_nil)))) (pw_and1 (pt_not (pt_val (pe_call GV hr2 (by rfl) mV kV bV .nil pass0 (pa_cons (pv 1) pa_nil)))))))
          (pss_one (ps_ret pe_bl)) pss_nil)))
      (pss_one (ps_ret (pe_call GN hr1 (by rfl) mN kN bN .nil pass0 (pa_cons (pe_ix ix_tup (pv 0) pe_int (fun _ _ => rfl)) pa_nil))))), ?_⟩
    rcases h with ⟨t, xs, rfl, ht, lx, okx, k⟩ | ⟨⟨n, ty, kb⟩, k⟩
    · have big : ¬ (1 ≤ xs.length ∧ xs.length ≤ 4) → Q (.bl false) H := fun no => by
        have q := k H fun _ _ e => e
        have e : patB xs = false := by
          cases xs with
          | nil => rfl
          | cons x r =>
            rw [List.length_cons] at no
            show (decide (r.length ≤ 3) && vN x && r.all fun y => vN y || vV y) = false
            rw [decide_eq_false (by omega), Bool.false_and, Bool.false_and]
        rw [e] at q
        exact q
      refine ⟨_, rfl, _, .ty "tuple", _, _, true, rfl, .ty "tuple", .base (.tup ht), kit_ty (by decide +kernel), _, rfl, ?_⟩
      refine iteF ?_
      refine ⟨_, rfl, t, _, rfl, .inr (SqT.of ht), _, _, rfl, rfl, _, rfl, ?_⟩
      refine ite2 (fun l1 => ⟨_, _, rfl, rfl, _, _, rfl, rfl, _, rfl, ?_⟩) (fun l1 => ⟨_, rfl, iteT (big fun y => l1 (decide_eq_true (by omega)))⟩)
      have l1 : (1 : Int) ≤ xs.length := of_decide_eq_true l1
      refine ite2 (fun l2 => ?_) (fun l2 => ?_)
      · have l2' : ¬ ((xs.length : Int) ≤ 1 + 3) := fun y => by
          rw [decide_eq_true y] at l2
          cases l2
        exact big fun y => l2' (by omega)
      · have l2' : (xs.length : Int) ≤ 1 + 3 := by
          by_cases y : (xs.length : Int) ≤ 1 + 3
          · exact y
          · rw [decide_eq_false y] at l2
            exact absurd rfl l2
        cases xs with
        | nil =>
          rw [List.length_nil] at l1
          omega
        | cons y r =>
          have lr : r.length ≤ 3 := by
            rw [List.length_cons] at l2'
            omega
          have k : ∀ H', Same H H' → Q (.bl (vN y && r.all fun y => vN y || vV y)) H' := fun H' s => by
            have q := k H' s
            have e : patB (y :: r) = (vN y && r.all fun y => vN y || vV y) := by
              show (decide (r.length ≤ 3) && vN y && r.all fun y => vN y || vV y) = _
              rw [decide_eq_true lr, Bool.true_and]
            rw [e] at q
            exact q
          refine ⟨_, rfl, _, rfl, t, _, rfl, SqT.of ht, cut_part _ _, fun u nu => ⟨u, rfl, ⟨_, SqT.of upd_same⟩, ?_⟩⟩
          rw [cut_one]
          refine for_tup (xs := r) (fun i σ H5 => ∃ v1, σ = [some (.ref t), v1] ∧ Same H H5 ∧ H5 u = some (.tup r) ∧ ((r.take i).all fun y => vN y || vV y) = true)
            ⟨none, rfl, same_new nu, upd_same, rfl⟩ (fun i σ H5 _ p => ?_) (fun i x σ H5 hx p => ?_) (fun σ H5 p => ?_)
          · obtain ⟨_, _, _, p2, _⟩ := p
            exact SqT.of p2
          · obtain ⟨v1, rfl, p1, p2, p3⟩ := p
            have ox : Okv K H x := okx x (List.mem_cons_of_mem _ (List.mem_of_getElem? hx))
            have more : (vN x || vV x) = true → ((r.take (i + 1)).all fun y => vN y || vV y) = true := fun e => by
              rw [List.take_add_one, hx, List.all_append, p3]
              simpa using e
            have less : (vN x || vV x) = false → ∀ H', Same H H' → Q (.bl false) H' := fun e H' s => by
              have q := k H' s
              have n : (r.all fun y => vN y || vV y) = false := by
                rw [List.all_eq_false]
                exact ⟨x, List.mem_of_getElem? hx, by rw [e]; decide⟩
              rw [n, Bool.and_false] at q
              exact q
            refine ⟨_, rfl, ?_⟩
            dsimp only [tNil, List.cons_append, List.nil_append]
            refine isN_of (K := K) (E := E0) (ox.same p1) fun H6 s6 => ⟨_, rfl, ?_⟩
            cases en : vN x with
            | true =>
              refine iteF ⟨_, rfl, p1.trans s6, s6 _ _ p2, more (by rw [en]; rfl)⟩
            | false =>
              refine iteT ⟨_, rfl, x, rfl, ox.same (p1.trans s6), fun H7 s7 => ⟨_, rfl, ?_⟩⟩
              cases ev : vV x with
              | true => exact iteF ⟨_, rfl, (p1.trans s6).trans s7, s7 _ _ (s6 _ _ p2), more (by rw [ev, Bool.or_true])⟩
              | false => exact iteT (less (by rw [en, ev]; rfl) _ ((p1.trans s6).trans s7))
          · obtain ⟨v1, rfl, p1, p2, p3⟩ := p
            rw [List.take_length] at p3
            refine ⟨_, rfl, t, _, 0, y, rfl, rfl, SqT.of (p1 _ _ ht), atI_nat (j := 0) rfl, ?_⟩
            dsimp only [tNil, List.cons_append, List.nil_append]
            refine isN_of (K := K) (E := E0) ((okx y List.mem_cons_self).same p1) fun H1 s1 => ?_
            have q := k H1 (p1.trans s1)
            rw [p3, Bool.and_true] at q
            exact q
    · refine ⟨_, rfl, _, .ty "tuple", _, _, false, rfl, .ty "tuple", ty, kit_ty kb, _, rfl, ?_⟩
      exact iteT (k H fun _ _ e => e)
end
end L2.LawH
set_option Elab.async false
set_option linter.all false
set_option maxRecDepth 100000
set_option maxHeartbeats 4000000
/-! is_fact. -/
namespace L2.LawH
open PySem PySem.Spec PyProof.Rows L2.Cmp L2.TxtSet
abbrev sIsF10 : Stmt := top 11
section
variable {P : Program} {w : World} {K : PySem.W.Frag} {mg : Str → Option Value} {base : Heap}
theorem scIF : FnScope ["value", "term"] ["value"] (defScope sIsF10) := ⟨rfl, rfl, rfl, by decide +kernel, rfl, by decide +kernel, by decide +kernel⟩
theorem factB_eq {xs : List V} (h0 : 1 ≤ xs.length) (h : xs.length ≤ 4) : factB xs = xs.all vN := by
  cases xs with
  | nil => cases h0
  | cons y r =>
    rw [List.length_cons] at h
    show ((decide (r.length ≤ 3) && vN y && (r.all fun y => vN y || vV y)) && (vN y && r.all vN)) = (vN y && r.all vN)
    rw [decide_eq_true (by omega), Bool.true_and]
    cases e : r.all vN with
    | false => simp
    | true =>
      have e2 : (r.all fun y => vN y || vV y) = true := List.all_eq_true.mpr fun x m => by rw [List.all_eq_true.mp e x m, Bool.true_or]
      rw [e2]
      simp
theorem factB_no {xs : List V} (h : ¬ (1 ≤ xs.length ∧ xs.length ≤ 4)) : factB xs = false := by
  cases xs with
  | nil => rfl
  | cons y r =>
    rw [List.length_cons] at h
    show ((decide (r.length ≤ 3) && vN y && (r.all fun y => vN y || vV y)) && (vN y && r.all vN)) = false
    rw [decide_eq_false (by omega), Bool.false_and, Bool.false_and, Bool.false_and]
theorem ok_isF {f fN : Addr} {fd fdN : FuncData} (F : Fun K "is_fact" "is_fact" sIsF10 f fd)
    (GN : FnOk P w K mg base CX0 1 fN fdN ["value"] (spIsN K)) (kN : PySem.W.keepIn K (.ref fN) = true) (bN : Binds K fdN ["value"] []) (mN : mg "is_name" = some (.ref fN))
    {t3 : Tok} (mM : mg "MOST_TERMS" = some (.int 3 t3)) (mi : mg "isinstance" = none) (mtp : mg "tuple" = none) (ml : mg "len" = none) :
    FnOk P w K mg base CX0 4 f fd ["value"] (spIsP K factB) := by
  refine F.ok scIF (fun vs H Q E h => ?_) (fun cdv A outer s H vs Q E hr h => ?_)
  · obtain ⟨x, rfl, _⟩ := h
    rfl
  · obtain ⟨x, rfl, h⟩ := h
    have hr1 : Room 1 _ := hr.mono (by decide)
    refine ⟨_, pss_cons (ps_if (PW.pt (pw_or (pt_not (pt_val (pe_callB call_isi (by rfl) mi (by decide +kernel) (pa_cons (pv 0) (pa_cons (pe_bltn (v := .ty "tuple") (by rfl) mtp (by decide +kernel) rfl) pa_nil)))))
          (pw_or1 (pt_not (pt_chain op_le op_le pe_int (pe_callB call_len_seq (by rfl) ml (by decide +kernel) (pa_cons (pv 0) pa_nil)) (pe_op op_add pe_int (pe_glob (v := .int 3) (by rfl) mM ⟨_, rfl⟩))))))) (pss_one (ps_ret pe_bl)) pss_nil)
      (pss_cons (ps_for PassesOwn.never rfl (pi_tup (pv 0)) (pg_name (i := 1) scIF.nd rfl (Or.inl rfl))
        (pss_one (ps_if (pt_not (pt_val (pe_call GN hr1 (by rfl) mN kN bN .nil pass0 (pa_cons (pv 1) pa_nil)))) (pss_one (ps_ret pe_bl)) pss_nil)))
      (pss_one (ps_ret pe_bl))), ?_⟩
    rcases h with ⟨t, xs, rfl, ht, lx, okx, k⟩ | ⟨⟨n, ty, kb⟩, k⟩
    · have big : ¬ (1 ≤ xs.length ∧ xs.length ≤ 4) → Q (.bl false) H := fun no => by
        have q := k H fun _ _ e => e
        rw [factB_no no] at q
        exact q
      refine ⟨_, rfl, _, .ty "tuple", _, _, true, rfl, .ty "tuple", .base (.tup ht), kit_ty (by decide +kernel), _, rfl, ?_⟩
      refine iteF ?_
      refine ⟨_, rfl, t, _, rfl, .inr (SqT.of ht), _, _, rfl, rfl, _, rfl, ?_⟩
      refine ite2 (fun l1 => ⟨_, _, rfl, rfl, _, _, rfl, rfl, _, rfl, ?_⟩) (fun l1 => ⟨_, rfl, iteT (big fun y => l1 (decide_eq_true (by omega)))⟩)
      have l1 : (1 : Int) ≤ xs.length := of_decide_eq_true l1
      refine ite2 (fun l2 => ?_) (fun l2 => ?_)
      · have l2' : ¬ ((xs.length : Int) ≤ 1 + 3) := fun y => by
          rw [decide_eq_true y] at l2
          cases l2
        exact big fun y => l2' (by omega)
      · have l2' : (xs.length : Int) ≤ 1 + 3 := by
          by_cases y : (xs.length : Int) ≤ 1 + 3
          · exact y
          · rw [decide_eq_false y] at l2
            exact absurd rfl l2
        rw [factB_eq (by omega) (by omega)] at k
        refine ⟨_, rfl, t, rfl, ⟨_, SqT.of ht⟩, ?_⟩
        refine for_tup (xs := xs) (fun i σ H5 => ∃ v1, σ = [some (.ref t), v1] ∧ Same H H5 ∧ ((xs.take i).all vN) = true)
          ⟨none, rfl, fun _ _ e => e, rfl⟩ (fun i σ H5 _ p => ?_) (fun i x σ H5 hx p => ?_) (fun σ H5 p => ?_)
        · obtain ⟨_, _, p1, _⟩ := p
          exact SqT.of (p1 _ _ ht)
        · obtain ⟨v1, rfl, p1, p3⟩ := p
          have ox : Okv K H x := okx x (List.mem_of_getElem? hx)
          refine ⟨_, rfl, ?_⟩
          dsimp only [tNil, List.cons_append, List.nil_append]
          refine isN_of (K := K) (E := E0) (ox.same p1) fun H6 s6 => ⟨_, rfl, ?_⟩
          cases en : vN x with
          | true =>
            refine iteF ⟨_, rfl, p1.trans s6, ?_⟩
            rw [List.take_add_one, hx, List.all_append, p3]
            simpa using en
          | false =>
            have q := k H6 (p1.trans s6)
            have n : xs.all vN = false := by
              rw [List.all_eq_false]
              exact ⟨x, List.mem_of_getElem? hx, by rw [en]; decide⟩
            rw [n] at q
            exact iteT q
        · obtain ⟨v1, rfl, p1, p3⟩ := p
          rw [List.take_length] at p3
          have q := k H5 p1
          rw [p3] at q
          exact q
    · refine ⟨_, rfl, _, .ty "tuple", _, _, false, rfl, .ty "tuple", ty, kit_ty kb, _, rfl, ?_⟩
      exact iteT (k H fun _ _ e => e)
end
end L2.LawH
set_option Elab.async false
set_option linter.all false
set_option maxRecDepth 100000
set_option maxHeartbeats 4000000
/-! filled. -/
namespace L2.LawH
open PySem PySem.Spec PyProof.Rows L2.Cmp L2.TxtSet
abbrev sFil : Stmt := top 8
/-- what a term is replaced by -/
def fillV (kvs : List (Key × V)) (z : Str) : V := (valV kvs (Sum.inr z)).getD (.str z)
def spFil : Sp := fun vs H Q _ => ∃ (t d : Addr) (zs : List Str) (kvs : List (Key × V)), vs = [.ref t, .ref d] ∧ H t = some (.tup (zs.map V.str)) ∧ H d = some (.dK kvs) ∧ zs.length ≤ 1000 ∧
  ∀ (u : Addr) (H' : Hp), Same H H' → H u = none → H' u = some (.tup (zs.map (fillV kvs))) → Q (.ref u) H'
section
variable {P : Program} {w : World} {K : PySem.W.Frag} {mg : Str → Option Value} {base : Heap}
end
end L2.LawH
set_option Elab.async false
set_option linter.all false
set_option maxRecDepth 100000
set_option maxHeartbeats 4000000
/-! Sets whose members are tuples, nested as they may be: what is asked of a member while it is sought and laid. -/
namespace L2.NSet
open PySem PySem.Spec PyProof.Rows
section
variable {P : Program} {w : World}
def ClsAt (P : Program) (w : World) (n : Nat) (s : Shared) (v : Value) : Prop := ∀ (A : Around) (E : Value → Shared → Prop) (Q : Bool → Shared → Prop), Q false s → wpAny (model P w) A (ofAClassStatement n v) Q E s
theorem ClsAt.flat {n : Nat} {s : Shared} {v : Value} (h : ∀ a, v ≠ .ref a) : ClsAt P w n s v := fun A E Q q => by
  have e : ofAClassStatement n v = pure false := by
    cases v with
    | ref a => exact absurd rfl (h a)
    | _ => cases n <;> rfl
  rw [e]
  exact wpAny_pure q
theorem ClsAt.tup {n : Nat} {s : Shared} {a : Addr} {o : Obj} {vs : Array Value} {m : Nat} (ho : s.heap.get? a = some o) (hc : o.cls = .type "tuple") (hd : o.data = .seq vs m) (hq : ∀ v ∈ vs.toList, ClsAt P w n s v) :
    ClsAt P w (n + 1) s (.ref a) := fun A E Q h => by
  unfold ofAClassStatement
  refine wpAny_bind (wpAny_typeOf ⟨o, ho, hc⟩ ?_)
  dsimp only
  have e : (("tuple" : String) == "tuple") = true := by decide
  simp only [e, if_true, Bool.not_true, Bool.false_eq_true, if_false]
  refine wpAny_bind (wpAny_pure ?_)
  simp only [Bool.not_true, Bool.false_eq_true, if_false]
  refine wpAny_bind (wpAny_seqItems ho hd ?_)
  dsimp only
  refine wpAny_bind ?_
  show wpAny _ _ (forIn vs _ _) _ _ s
  rw [← Array.forIn_toList]
  refine wpAny_forIn_list _ (fun rest r s1 => r.1 = none ∧ s1 = s ∧ ∀ v ∈ rest, ClsAt P w n s v) _ (fun v rest r s1 I => ?_) (fun r s1 I => ?_) _ _ ⟨rfl, rfl, hq⟩
  · obtain ⟨i1, rfl, i2⟩ := I
    refine wpAny_bind (i2 v List.mem_cons_self _ _ _ ?_)
    simp only [Bool.false_eq_true, if_false]
    exact wpAny_pure ⟨rfl, rfl, fun u m => i2 u (List.mem_cons_of_mem _ m)⟩
  · obtain ⟨r1, r2⟩ := r
    obtain ⟨i1, rfl, _⟩ := I
    simp only at i1
    subst i1
    exact wpAny_pure h
mutual
theorem cls_key : ∀ (k : NestedKey) (v : Value) (n : Nat) (s : Shared), NestedIs s.heap k v → k.depth ≤ n → ClsAt P w n s v
  | .none, _, _, _, x, _ => by cases x; exact .flat fun a e => nomatch e
  | .num i, _, _, _, x, _ => by cases x <;> exact .flat fun a e => nomatch e
  | .text y, _, _, _, x, _ => by cases x; exact .flat fun a e => nomatch e
  | .tup ks, _, n, s, x, hn => by
    cases x with
    | tup hg hc hd hk =>
      simp only [NestedKey.depth] at hn
      match n, hn with
      | n + 1, hn => exact .tup hg hc hd (cls_keys ks _ n s hk (Nat.le_of_succ_le_succ hn))
theorem cls_keys : ∀ (ks : List NestedKey) (vs : List Value) (n : Nat) (s : Shared), NestedAll s.heap ks vs → NestedKey.depthAll ks ≤ n → ∀ v ∈ vs, ClsAt P w n s v
  | [], _, _, _, x, _, v, hv => by cases x; cases hv
  | k :: ks, _, n, s, x, hn, v, hv => by
    cases x with
    | cons x1 x2 =>
      simp only [NestedKey.depthAll] at hn
      rcases List.mem_cons.mp hv with rfl | hv
      · exact cls_key k _ n s x1 (Nat.le_trans (Nat.le_max_left _ _) hn)
      · exact cls_keys ks _ n s x2 (Nat.le_trans (Nat.le_max_right _ _) hn) v hv
end
/-- hash by value: some answer -/
def HbvAt (P : Program) (w : World) (n : Nat) (s : Shared) (v : Value) : Prop := ∀ (A : Around) (E : Value → Shared → Prop) (Q : Bool → Shared → Prop), (∀ b, Q b s) → wpAny (model P w) A (hashByValue n v) Q E s
theorem HbvAt.tup {n : Nat} {s : Shared} {a : Addr} {o : Obj} {vs : Array Value} {m : Nat} (ho : s.heap.get? a = some o) (hc : o.cls = .type "tuple") (hd : o.data = .seq vs m) (hq : ∀ v ∈ vs.toList, HbvAt P w n s v) :
    HbvAt P w (n + 1) s (.ref a) := fun A E Q h => by
  unfold hashByValue
  refine wpAny_bind (wpAny_specialOf ⟨o, ho, hc⟩ F.slot_tuple_hash.lookup ?_)
  show wpAny _ _ (seqItems? (.ref a) >>= _) _ _ s
  refine wpAny_bind (wpAny_seqItems ho hd ?_)
  refine wpAny_bind ?_
  show wpAny _ _ (forIn vs _ _) _ _ s
  rw [← Array.forIn_toList]
  refine wpAny_forIn_list _ (fun rest r s1 => r.1 = none ∧ s1 = s ∧ ∀ v ∈ rest, HbvAt P w n s v) _ (fun v rest r s1 I => ?_) (fun r s1 I => ?_) _ _ ⟨rfl, rfl, hq⟩
  · obtain ⟨i1, rfl, i2⟩ := I
    refine wpAny_bind (i2 v List.mem_cons_self _ _ _ fun b => ?_)
    cases b with
    | true =>
      simp only [Bool.not_true, Bool.false_eq_true, if_false]
      exact wpAny_pure ⟨rfl, rfl, fun u m => i2 u (List.mem_cons_of_mem _ m)⟩
    | false =>
      simp only [Bool.not_false, if_true]
      exact wpAny_pure (wpAny_pure (h _))
  · obtain ⟨r1, r2⟩ := r
    obtain ⟨i1, rfl, _⟩ := I
    simp only at i1
    subst i1
    exact wpAny_pure (h _)
theorem HbvAt.flat {n : Nat} {s : Shared} {v : Value} (b : Bool) (e : hashByValue n v = pure b) : HbvAt P w n s v := fun A E Q q => by
  rw [e]
  exact wpAny_pure (q b)
mutual
theorem hbv_key : ∀ (k : NestedKey) (v : Value) (n : Nat) (s : Shared), NestedIs s.heap k v → k.depth ≤ n → HbvAt P w n s v
  | .none, _, n, _, x, _ => by cases x; exact .flat true (by cases n <;> rfl)
  | .num i, _, n, _, x, _ => by cases x <;> exact .flat true (by cases n <;> rfl)
  | .text y, _, n, _, x, _ => by cases x; exact .flat false (by cases n <;> rfl)
  | .tup ks, _, n, s, x, hn => by
    cases x with
    | tup hg hc hd hk =>
      simp only [NestedKey.depth] at hn
      match n, hn with
      | n + 1, hn => exact .tup hg hc hd (hbv_keys ks _ n s hk (Nat.le_of_succ_le_succ hn))
theorem hbv_keys : ∀ (ks : List NestedKey) (vs : List Value) (n : Nat) (s : Shared), NestedAll s.heap ks vs → NestedKey.depthAll ks ≤ n → ∀ v ∈ vs, HbvAt P w n s v
  | [], _, _, _, x, _, v, hv => by cases x; cases hv
  | k :: ks, _, n, s, x, hn, v, hv => by
    cases x with
    | cons x1 x2 =>
      simp only [NestedKey.depthAll] at hn
      rcases List.mem_cons.mp hv with rfl | hv
      · exact hbv_key k _ n s x1 (Nat.le_trans (Nat.le_max_left _ _) hn)
      · exact hbv_keys ks _ n s x2 (Nat.le_trans (Nat.le_max_right _ _) hn) v hv
end
end
section
variable {P : Program} {w : World} {A : Around} {E : Value → Shared → Prop} {s : Shared}
/-- the tuple at b is the key k -/
abbrev Kb (P : Program) (w : World) (h : Heap) (k : NestedKey) (b : Addr) : Prop := (nestedKind P w).is h k b
theorem kb_at {h h' : Heap} {k : NestedKey} {b : Addr} (x : Kb P w h k b) (hk : ∀ c o vs n, h.get? c = some o → o.data = .seq vs n → h'.get? c = some o) : Kb P w h' k b := ⟨NestedIs.at hk _ _ x.1, x.2⟩
theorem kb_but {h h' : Heap} {k : NestedKey} {a b : Addr} {o : Obj} {es : Array (Int × Value)} {ep : Nat} {t : SetTable} (x : Kb P w h k b) (ho : h.get? a = some o) (hd : o.data = .set es ep t) (hs : Heap.SameBut a h h') : Kb P w h' k b :=
  kb_at x fun c u vs n e1 e2 => (hs.2 c fun z => by
    rw [z, ho] at e1
    cases e1
    rw [hd] at e2
    cases e2).trans e1
theorem seen_key {k : NestedKey} {b : Addr} {Q : Bool → Shared → Prop} (hk : Kb P w s.heap k b) {ys : List Value} (hy : ∀ y ∈ ys, ∃ k2 c, y = Value.ref c ∧ Kb P w s.heap k2 c) (h : Q false s) :
    wpAny (model P w) A (searchCouldBeSeen (.ref b) ys) Q E s := by
  unfold searchCouldBeSeen
  refine wpAny_bind ?_
  refine wpAny_forIn_list _ (fun rest r s1 => r.1 = none ∧ s1 = s ∧ ∀ y ∈ rest, ∃ k2 c, y = Value.ref c ∧ Kb P w s.heap k2 c) _ (fun v rest r s1 I => ?_) (fun r s1 I => ?_) _ _ ⟨rfl, rfl, hy⟩
  · obtain ⟨i1, rfl, i2⟩ := I
    obtain ⟨k2, c, rfl, hc⟩ := i2 v List.mem_cons_self
    have more : ∀ y ∈ rest, ∃ k2 c, y = Value.ref c ∧ Kb P w s1.heap k2 c := fun u m => i2 u (List.mem_cons_of_mem _ m)
    dsimp only
    by_cases very : (b == c || (carriedByValue (.ref b) && carriedByValue (.ref c))) = true
    · exact wp_if_pos very (wpAny_pure ⟨rfl, rfl, more⟩)
    · refine wp_if_neg very (wpAny_bind ((nestedKind P w).quiet hk ?_))
      simp only [Bool.not_true, Bool.false_eq_true, if_false]
      refine wpAny_bind ((nestedKind P w).quiet hc ?_)
      simp only [Bool.not_true, Bool.false_eq_true, if_false]
      refine wpAny_bind (cls_key k _ 8 _ hk.1 hk.2 _ _ _ ?_)
      simp only [Bool.false_eq_true, if_false]
      refine wpAny_bind (cls_key k2 _ 8 _ hc.1 hc.2 _ _ _ ?_)
      simp only [Bool.false_eq_true, if_false]
      exact wpAny_pure ⟨rfl, rfl, more⟩
  · obtain ⟨r1, r2⟩ := r
    obtain ⟨i1, rfl, _⟩ := I
    simp only at i1
    subst i1
    exact wpAny_pure h
end
end L2.NSet
set_option Elab.async false
set_option linter.all false
set_option maxRecDepth 100000
set_option maxHeartbeats 4000000
/-! Sets whose members are tuples, nested as they may be: seeking a member in the table. -/
namespace L2.NSet
open PySem PySem.Spec PyProof.Rows
/-- the rows of the table: hash and address of each member -/
abbrev Mem : Type := Addr × NestedKey
def rowN (w : World) (p : Mem) : Int × Value := (p.2.hash w, Value.ref p.1)
structure Tab (P : Program) (w : World) (h : Heap) (a : Addr) (L : List Mem) (es : Array (Int × Value)) (ep : Nat) (t : SetTable) : Prop where
  here : ∃ o, h.get? a = some o ∧ o.ExactSet ∧ o.data = .set es ep t
  rows : es.toList = L.map (rowN w)
  lay : TabOk t (L.map fun p => p.2.hash w)
  once : (L.map (·.2)).Nodup
  each : ∀ p ∈ L, Kb P w h p.2 p.1
  told : w.params.followText "set-order" = true ∨ t.led = true
  free : L.length * 5 < t.mask * 3
  few : L.length < 64
section
variable {P : Program} {w : World} {A : Around} {E : Value → Shared → Prop} {s : Shared} {a : Addr} {L : List Mem} {es : Array (Int × Value)} {ep : Nat} {t : SetTable}
theorem rows_size (h : es.toList = L.map (rowN w)) : es.size = L.length := by
  rw [← Array.length_toList, h, List.length_map]
theorem rows_at (h : es.toList = L.map (rowN w)) {i : Nat} {p : Mem} (e : L[i]? = some p) : es[i]? = some (p.2.hash w, Value.ref p.1) := by
  rw [← Array.getElem?_toList, h, List.getElem?_map, e]
  rfl
theorem Tab.size (R : Tab P w s.heap a L es ep t) : es.size = L.length := rows_size R.rows
theorem Tab.fits (R : Tab P w s.heap a L es ep t) : t.fits es.size = true := by
  have h1 := R.lay.sz
  have h2 := R.size
  have h3 := R.free
  rw [List.length_map] at h1
  unfold SetTable.fits SetTable.fill
  rw [R.lay.dm, Bool.and_eq_true, beq_iff_eq, decide_eq_true_eq]
  show t.place.size = es.size ∧ t.place.size + 0 ≤ t.mask
  omega
/-- where the way of a hash begins -/
abbrev top0 (m : Nat) (hx : Int) : SetTable.Probe := runAt m (SetTable.bits hx % (m + 1)) (SetTable.bits hx)
theorem top_dummy (m : Nat) (hx : Int) (c : Nat) : (nth m (top0 m hx) c).dummy = none := by
  have key : ∀ (n : Nat) (p : SetTable.Probe), p.dummy = none → (nth m p n).dummy = none := fun n => by
    induction n with
    | zero => exact fun p h => h
    | succ n ih =>
      refine fun p h => ih (adv m p) ?_
      unfold adv
      split <;> exact h
  exact key c _ rfl
/-- the rest behind a candidate whose answer is known -/
theorem rest_of (R : Tab P w s.heap a L es ep t) {x : Addr} {k : NestedKey} (hx : Kb P w s.heap k x) (hu : A.units + 8 < cLine) {i j : Nat} {p : Mem} (hp : L[i]? = some p) (hi : t.place.toList[i]? = some j) {f : Nat} {nx : SetTable.Probe} {Q : SetFound → Shared → Prop}
    (yes : p.2 = k → Q (.there none) s) (no : p.2 ≠ k → wpAny (model P w) A (setSearchFrom a (.ref x) (k.hash w) true f (some nx)) Q E s) :
    wpAny (model P w) A (searchRest a (.ref x) (k.hash w) true f es t j i nx) Q E s := by
  obtain ⟨o, ho, ox, od⟩ := R.here
  have mp : p ∈ L := List.mem_of_getElem? hp
  unfold searchRest
  rw [rows_at R.rows hp]
  dsimp only
  refine wpAny_bind (wpAny_holding ((nestedKind P w).eqBool hu (R.each p mp) hx ?_))
  refine wpAny_bind (wpAny_setState_of ho od R.fits ?_)
  dsimp only
  by_cases e : p.2 = k
  · exact wp_if_pos (by simp [e]) (wpAny_pure (yes e))
  · refine wp_if_neg (by simp [e]) ?_
    rw [sameMem]
    dsimp only
    simp only [if_true, slot_live R.lay.ris hi, rows_at R.rows hp]
    refine wpAny_bind (wpAny_isSame_ref_self (wpAny_bind (wpAny_pure ?_)))
    simp only [if_true]
    exact wp_if_neg (by simp [e]) (no e)
theorem seek (R : Tab P w s.heap a L es ep t) {x : Addr} {k : NestedKey} (hx : Kb P w s.heap k x) (hu : A.units + 8 < cLine) {N : Nat} (nf : N < 10 * SetTable.turns t.mask)
    (n0 : way t.mask (k.hash w) N ∉ t.place.toList) (nb : ∀ c, c < N → way t.mask (k.hash w) c ∈ t.place.toList) {Q : SetFound → Shared → Prop}
    (yes : k ∈ L.map (·.2) → Q (.there none) s) (no : k ∉ L.map (·.2) → Q (.free (way t.mask (k.hash w) N) false) s) :
    ∀ (f c : Nat) (st : Option SetTable.Probe), st.getD (t.probeStart (k.hash w)) = nth t.mask (top0 t.mask (k.hash w)) c → c ≤ N → N - c < f →
      (∀ (i : Nat) p, L[i]? = some p → p.2 = k → ∃ d, c ≤ d ∧ d < N ∧ t.place.toList[i]? = some (way t.mask (k.hash w) d)) →
      wpAny (model P w) A (setSearchFrom a (.ref x) (k.hash w) true f st) Q E s
  | 0, _, _, _, _, z, _ => absurd z (Nat.not_lt_zero _)
  | f + 1, c, st, hst, hc, hf, ahead => by
    obtain ⟨o, ho, ox, od⟩ := R.here
    rw [setSearchFrom_succ]
    refine wpAny_bind (wpAny_setState_of ho od R.fits ?_)
    dsimp only
    have gw : ¬ t.gaveWay = true := by
      unfold SetTable.gaveWay
      rw [mask_odd R.lay.mok]
      decide
    refine wp_if_neg gw ?_
    have sh : ∀ q, nth t.mask (nth t.mask (top0 t.mask (k.hash w)) c) q = nth t.mask (top0 t.mask (k.hash w)) (c + q) := fun q => (nth_add t.mask c _ q).symm
    have ej : ∀ q, (nth t.mask (nth t.mask (top0 t.mask (k.hash w)) c) q).j = way t.mask (k.hash w) (c + q) := fun q => congrArg SetTable.Probe.j (sh q)
    have cN : c + (N - c) = N := by omega
    have G := go_spec t R.lay.ris R.lay.dm (fun i => (es[i]?.map (·.1)).getD 0) (k.hash w) (10 * SetTable.turns t.mask) (N - c) _ (top_dummy t.mask (k.hash w) c) (by omega)
      (fun q hq => by rw [ej]; exact nb (c + q) (by omega)) (by rw [ej, cN]; exact n0)
    have hat : ∀ (i : Nat) p, L[i]? = some p → (fun i => (es[i]?.map (·.1)).getD 0) i = p.2.hash w := fun i p hp => by
      show (es[i]?.map (·.1)).getD 0 = _
      rw [rows_at R.rows hp]
      rfl
    rcases G with ⟨q, i, hq, hi, hh, skip, pr⟩ | ⟨skip, pr⟩
    · rw [ej] at hi
      have pr2 : t.probe (fun i => (es[i]?.map (·.1)).getD 0) (k.hash w) (st.getD (t.probeStart (k.hash w))) = some (.candidate (way t.mask (k.hash w) (c + q)) i (nth t.mask (top0 t.mask (k.hash w)) (c + (q + 1)))) := by
        rw [hst, ← ej, ← sh]
        exact pr
      rw [pr2]
      dsimp only
      have il : i < L.length := by
        have h1 : i < t.place.toList.length := (List.getElem?_eq_some_iff.mp hi).1
        have h2 := R.lay.sz
        rw [List.length_map] at h2
        rw [Array.length_toList] at h1
        omega
      obtain ⟨p, hp⟩ : ∃ p, L[i]? = some p := ⟨_, List.getElem?_eq_getElem il⟩
      have go : wpAny (model P w) A (searchRest a (.ref x) (k.hash w) true f es t (way t.mask (k.hash w) (c + q)) i (nth t.mask (top0 t.mask (k.hash w)) (c + (q + 1)))) Q E s := by
        refine rest_of R hx hu hp hi (fun e => yes (List.mem_map.mpr ⟨p, List.mem_of_getElem? hp, e⟩)) fun ne => ?_
        refine seek R hx hu nf n0 nb yes no f (c + (q + 1)) _ rfl (by omega) (by omega) fun i2 p2 h2 k2 => ?_
        obtain ⟨d, d1, d2, d3⟩ := ahead i2 p2 h2 k2
        have hk2 : (fun i => (es[i]?.map (·.1)).getD 0) i2 = k.hash w := (hat i2 p2 h2).trans (by rw [k2])
        refine ⟨d, ?_, d2, d3⟩
        rcases Nat.lt_trichotomy d (c + q) with z | z | z
        · exact absurd hk2 (skip (d - c) i2 (by omega) (by rw [ej, show c + (d - c) = d by omega]; exact d3))
        · rw [z] at d3
          have s1 := slot_live R.lay.ris hi
          have s2 := slot_live R.lay.ris d3
          rw [s1] at s2
          injection s2 with s2
          rw [← s2, hp] at h2
          cases h2
          exact absurd k2 ne
        · omega
      by_cases led : t.led = true
      · exact wp_if_neg (by simp [led]) go
      · refine wp_if_pos (by simp [led]) (wpAny_bind (seen_key hx (fun y hy => ?_) ?_))
        · obtain ⟨e, he, rfl⟩ := List.mem_map.mp hy
          have he2 : e ∈ es.toList := by
            have : e ∈ es ∧ e.1 = k.hash w := by simpa using he
            simpa using this.1
          rw [R.rows] at he2
          obtain ⟨p2, m2, rfl⟩ := List.mem_map.mp he2
          exact ⟨p2.2, p2.1, rfl, R.each p2 m2⟩
        · exact wp_if_neg (by decide) go
    · have pr2 : t.probe (fun i => (es[i]?.map (·.1)).getD 0) (k.hash w) (st.getD (t.probeStart (k.hash w))) = some (.empty (way t.mask (k.hash w) N) none) := by
        have e2 : way t.mask (k.hash w) N = (nth t.mask (nth t.mask (top0 t.mask (k.hash w)) c) (N - c)).j := by rw [ej, cN]
        rw [hst, e2]
        exact pr
      rw [pr2]
      dsimp only
      refine wpAny_pure (no fun m => ?_)
      obtain ⟨p, mp, ek⟩ := List.mem_map.mp m
      obtain ⟨i, hi, e⟩ := List.getElem_of_mem mp
      have hp : L[i]? = some p := by rw [List.getElem?_eq_getElem hi, e]
      obtain ⟨d, d1, d2, d3⟩ := ahead i p hp ek
      exact skip (d - c) i (by omega) (by rw [ej, show c + (d - c) = d by omega]; exact d3) ((hat i p hp).trans (by rw [ek]))
theorem seek_all (R : Tab P w s.heap a L es ep t) {x : Addr} {k : NestedKey} (hx : Kb P w s.heap k x) (hu : A.units + 8 < cLine) {Q : SetFound → Shared → Prop}
    (yes : k ∈ L.map (·.2) → Q (.there none) s)
    (no : ∀ N, k ∉ L.map (·.2) → way t.mask (k.hash w) N ∉ t.place.toList → (∀ c, c < N → way t.mask (k.hash w) c ∈ t.place.toList) → Q (.free (way t.mask (k.hash w) N) false) s) :
    wpAny (model P w) A (setSearch a (.ref x) (k.hash w) true) Q E s := by
  have fr := R.free
  obtain ⟨N, nf, n0, nb⟩ := R.lay.first (by rw [List.length_map]; omega) (k.hash w)
  have small : N < 100000 := by
    have : 10 * SetTable.turns t.mask ≤ 1420 := by
      unfold SetTable.turns
      rcases R.lay.mok with e | e | e <;> omega
    omega
  unfold setSearch
  refine seek R hx hu nf n0 nb yes (fun m => no N m n0 nb) 100000 0 none rfl (Nat.zero_le _) (by omega) fun i p hp hk => ?_
  have hi : (L.map fun p => p.2.hash w)[i]? = some (k.hash w) := by
    rw [List.getElem?_map, hp, ← hk]
    rfl
  have il : i < t.place.toList.length := by
    have h1 : i < L.length := (List.getElem?_eq_some_iff.mp hp).1
    have h2 := R.lay.sz
    rw [List.length_map] at h2
    rw [Array.length_toList]
    omega
  have hj := List.getElem?_eq_getElem il
  obtain ⟨c, hc, e⟩ := R.lay.before n0 hi hj
  exact ⟨c, Nat.zero_le _, hc, by rw [hj, e]⟩
end
end L2.NSet
set_option Elab.async false
set_option linter.all false
set_option maxRecDepth 100000
set_option maxHeartbeats 4000000
/-! Sets whose members are tuples, nested as they may be: laying a member down. -/
namespace L2.NSet
open PySem PySem.Spec PyProof.Rows
section
variable {P : Program} {w : World} {A : Around} {E : Value → Shared → Prop} {s : Shared} {a : Addr} {L : List Mem} {es : Array (Int × Value)} {ep : Nat} {t : SetTable}
/-- rows picked by places -/
theorem picked (h : es.toList = L.map (rowN w)) {l : List Nat} (hl : ∀ i ∈ l, i < L.length) : ∃ M : List Mem, l.filterMap (fun i => es[i]?) = M.map (rowN w) ∧ M = l.filterMap (fun i => L[i]?) ∧
    (M.map fun p => p.2.hash w) = l.map fun i => (es.map (·.1)).getD i 0 := by
  induction l with
  | nil => exact ⟨[], rfl, rfl, rfl⟩
  | cons i l ih =>
    obtain ⟨M, m1, m2, m3⟩ := ih fun j m => hl j (List.mem_cons_of_mem _ m)
    have li := hl i List.mem_cons_self
    have hp : L[i]? = some L[i] := List.getElem?_eq_getElem li
    have he := rows_at h hp
    refine ⟨L[i] :: M, ?_, ?_, ?_⟩
    · rw [List.filterMap_cons_some he, m1]
      rfl
    · rw [List.filterMap_cons_some hp, m2]
    · rw [List.map_cons, List.map_cons, m3]
      have e5 : (es.map (·.1))[i]? = some ((L[i]).2.hash w) := by
        rw [Array.getElem?_map, he]
        rfl
      simp [Array.getD_eq_getD_getElem?, e5]
theorem all_places (L : List Mem) : (List.range L.length).filterMap (fun i => L[i]?) = L := by
  have key : ∀ n, n ≤ L.length → (List.range n).filterMap (fun i => L[i]?) = L.take n := fun n => by
    induction n with
    | zero => exact fun _ => rfl
    | succ n ih =>
      intro hn
      have lt : n < L.length := hn
      have hp : L[n]? = some L[n] := List.getElem?_eq_getElem lt
      rw [List.range_succ, List.filterMap_append, ih (Nat.le_of_lt lt), List.take_succ, hp, List.filterMap_cons_some hp]
      rfl
  rw [key L.length (Nat.le_refl _), List.take_length]
theorem reordered (h : es.toList = L.map (rowN w)) {order : Array Nat} (pm : order.toList.Perm (List.range L.length)) :
    ∃ M : List Mem, (order.filterMap (es[·]?)).toList = M.map (rowN w) ∧ M.Perm L ∧ (M.map fun p => p.2.hash w) = order.toList.map fun i => (es.map (·.1)).getD i 0 := by
  obtain ⟨M, m1, m2, m3⟩ := picked h (l := order.toList) fun i m => List.mem_range.mp (pm.mem_iff.mp m)
  refine ⟨M, ?_, ?_, m3⟩
  · rw [Array.toList_filterMap]
    exact m1
  · have q := pm.filterMap fun i => L[i]?
    rw [all_places, ← m2] at q
    exact q
/-- the table laid anew -/
theorem widen {o : Obj} (ho : s.heap.get? a = some o) (ox : o.ExactSet) (od : o.data = .set es ep t) (hr : es.toList = L.map (rowN w)) (hz : t.place.size = es.size) (hd : t.dummies = #[]) (hf : es.size ≤ t.mask)
    (nd : (L.map (·.2)).Nodup) (each : ∀ p ∈ L, Kb P w s.heap p.2 p.1) (told : w.params.followText "set-order" = true ∨ t.led = true) (few : L.length < 64) {want M : Nat}
    (hw : SetTable.sizeAbove want - 1 = M) (hM : MaskOk M) (h128 : SetTable.sizeAbove want ≤ 128) (hroom : L.length * 5 < M * 3) {Q : Unit → Shared → Prop}
    (hQ : ∀ h2 L2 es2 ep2 t2, Heap.SameBut a s.heap h2 → Tab P w h2 a L2 es2 ep2 t2 → L2.Perm L → Q () { s with heap := h2 }) : wpAny (model P w) A (setRelay a want) Q E s := by
  have sz := rows_size hr
  have fits : t.fits es.size = true := by
    unfold SetTable.fits SetTable.fill
    rw [hd, Bool.and_eq_true, beq_iff_eq, decide_eq_true_eq]
    show t.place.size = es.size ∧ t.place.size + 0 ≤ t.mask
    omega
  obtain ⟨t2, order, e, pm, T, em, el, e3, e4⟩ := relaid_ok t (hs := es.map (·.1)) (wanted := want) hw hM (by rw [Array.size_map, sz]; omega)
  rw [Array.size_map, sz] at pm
  obtain ⟨M2, r1, r2, r3⟩ := reordered hr pm
  rw [← r3] at T
  have z2 : (order.filterMap (es[·]?)).size = es.size := by rw [rows_size r1, r2.length_eq, sz]
  rw [setRelay_eq]
  refine wpAny_bind (wpAny_setState_of ho od fits ?_)
  dsimp only
  refine wp_if_neg (by rw [sizeLine_eq]; omega) ?_
  rw [e]
  dsimp only
  refine wpAny_bind (wp_if_neg (by rw [z2]; simp) (wpAny_pure ?_))
  dsimp only
  refine wpAny_storeSet_of ho od ?_ (by rw [z2, sz, sizeLine_eq]; omega)
  have sb := Heap.SameBut.update s.heap a (Obj.putSet (order.filterMap (es[·]?)) t2)
  refine hQ _ M2 (order.filterMap (es[·]?)) (ep + 1) t2 sb ⟨⟨_, store_at ho od, ⟨ox.1, ox.2.1, ox.2.2⟩, rfl⟩, r1, T, (r2.map (·.2)).nodup_iff.mpr nd, fun p m => kb_but (each p (r2.mem_iff.mp m)) ho od sb, by rw [el]; exact told, ?_, by rw [r2.length_eq]; exact few⟩ r2
  rw [r2.length_eq, em]
  exact hroom
theorem put_mid (L : List Mem) (p : Nat) (x : Mem) : (L.take p ++ x :: L.drop p).Perm (x :: L) := by
  have h : (L.take p ++ x :: L.drop p).Perm (x :: (L.take p ++ L.drop p)) := List.perm_middle
  rwa [List.take_append_drop] at h
/-- adding a tuple -/
theorem lay (R : Tab P w s.heap a L es ep t) {x : Addr} {k : NestedKey} (hx : Kb P w s.heap k x) (hu : A.units + 8 < cLine) (few : L.length + 1 < 64) {Q : Bool → Shared → Prop}
    (hQ : ∀ b h2 L2 es2 ep2 t2, Heap.SameBut a s.heap h2 → Tab P w h2 a L2 es2 ep2 t2 → (k ∈ L.map (·.2) → L2 = L) → (k ∉ L.map (·.2) → L2.Perm ((x, k) :: L)) → Q b { s with heap := h2 }) :
    wpAny (model P w) A (setAddHashed a (.ref x) (k.hash w)) Q E s := by
  obtain ⟨o, ho, ox, od⟩ := R.here
  have sz := R.size
  have fr := R.free
  unfold setAddHashed
  refine wpAny_holding ?_
  rw [show (100000 : Nat) = 99999 + 1 from rfl, setAddHashedIn_succ]
  refine wpAny_bind (wpAny_setState_of ho od R.fits ?_)
  dsimp only
  refine wp_if_neg (by simp [byScan, Value.scannable]) ?_
  refine wpAny_bind (seek_all R hx hu (fun m => ?_) fun N m n0 nb => ?_)
  · dsimp only
    exact wpAny_pure (hQ false s.heap L es ep t (Heap.SameBut.refl a s.heap) R (fun _ => rfl) fun z => absurd m z)
  dsimp only
  refine wpAny_bind (wpAny_setState_of ho od R.fits ?_)
  dsimp only
  obtain ⟨q1, q2, q3, q4, q5, _, _, _, q9⟩ := R.lay.put n0 nb
  generalize t.put (way t.mask (k.hash w) N) = pt at q1 q3 q4 q5 q9 ⊢
  obtain ⟨t1, p⟩ := pt
  dsimp only at q1 q3 q4 q5 q9 ⊢
  subst q1
  have mid : ∀ b : Bool, wpAny (model P w) A (do
      storeSet a (SetTable.insertAt es (SetTable.below t.place (way t.mask (k.hash w) N)) (k.hash w, Value.ref x)) (if b = true then t1 else { t1 with plain := false })
      if (!false && (if b = true then t1 else { t1 with plain := false }).tooFull) = true then setRelay a (SetTable.grown (es.size + 1))
      return true) Q E s := fun b => by
    have hin : (SetTable.insertAt es (SetTable.below t.place (way t.mask (k.hash w) N)) (k.hash w, Value.ref x)).toList = (L.take (SetTable.below t.place (way t.mask (k.hash w) N)) ++ (x, k) :: L.drop (SetTable.below t.place (way t.mask (k.hash w) N))).map (rowN w) := by
      rw [SetTable.toList_insertAt, R.rows, List.map_append, List.map_cons, List.map_take, List.map_drop]
      rfl
    generalize SetTable.below t.place (way t.mask (k.hash w) N) = p at q2 q3 hin ⊢
    have pm := put_mid L p (x, k)
    have len : (L.take p ++ (x, k) :: L.drop p).length = L.length + 1 := pm.length_eq
    have hh : (L.take p ++ (x, k) :: L.drop p).map (fun p => p.2.hash w) = (L.map fun p => p.2.hash w).take p ++ k.hash w :: (L.map fun p => p.2.hash w).drop p := by
      rw [List.map_append, List.map_cons, List.map_take, List.map_drop]
    rw [← hh] at q3
    have nd : ((L.take p ++ (x, k) :: L.drop p).map (·.2)).Nodup := (pm.map (·.2)).nodup_iff.mpr (List.nodup_cons.mpr ⟨m, R.once⟩)
    have z1 := rows_size hin
    rw [len] at z1
    generalize SetTable.insertAt es p (k.hash w, Value.ref x) = es1 at hin z1 ⊢
    generalize L.take p ++ (x, k) :: L.drop p = L1 at pm len q3 nd hin
    obtain ⟨u, hu2, u3, u4, u5, u6⟩ : ∃ u : SetTable, (if b = true then t1 else { t1 with plain := false }) = u ∧ TabOk u (L1.map fun p => p.2.hash w) ∧ u.mask = t.mask ∧ u.led = t.led ∧ u.fill = L.length + 1 := by
      cases b
      · exact ⟨{ t1 with plain := false }, rfl, ⟨q3.ris, q3.dm, q3.sz, q3.mok, q3.bd, q3.reach⟩, q4, q5, by rw [List.length_map] at q9; exact q9⟩
      · exact ⟨t1, rfl, q3, q4, q5, by rw [List.length_map] at q9; exact q9⟩
    rw [hu2]
    refine wpAny_bind (wpAny_storeSet_of ho od ?_ (by rw [z1, sizeLine_eq]; omega))
    have sb : Heap.SameBut a s.heap (s.heap.update a (Obj.putSet es1 u)) := Heap.SameBut.update ..
    have ho1 := store_at (es' := es1) (t' := u) ho od
    generalize s.heap.update a (Obj.putSet es1 u) = h1 at sb ho1 ⊢
    have each : ∀ p ∈ L1, Kb P w h1 p.2 p.1 := fun p mp => by
      rcases List.mem_cons.mp (pm.mem_iff.mp mp) with e | mp
      · rw [e]
        exact kb_but hx ho od sb
      · exact kb_but (R.each p mp) ho od sb
    have told : w.params.followText "set-order" = true ∨ u.led = true := by rw [u5]; exact R.told
    by_cases full : u.tooFull = true
    · refine wp_if_pos (by simp [full]) (wpAny_bind ?_)
      have tight : (L.length + 1) * 5 ≥ u.mask * 3 := by
        have h := full
        unfold SetTable.tooFull at h
        rw [decide_eq_true_eq, u6] at h
        exact h
      rw [sz]
      have z2 : u.place.size = es1.size := by
        have h := u3.sz
        rw [List.length_map, len] at h
        rw [h, z1]
      have two : (t.mask = 7 ∧ L.length = 4) ∨ (t.mask = 31 ∧ L.length = 18) := by
        rcases R.lay.mok with e | e | e
        · rw [u4, e] at tight
          rw [e] at fr
          exact .inl ⟨e, by omega⟩
        · rw [u4, e] at tight
          rw [e] at fr
          exact .inr ⟨e, by omega⟩
        · rw [u4, e] at tight
          omega
      have go : ∀ M, SetTable.sizeAbove (SetTable.grown (L.length + 1)) - 1 = M → MaskOk M → SetTable.sizeAbove (SetTable.grown (L.length + 1)) ≤ 128 → (L.length + 1) * 5 < M * 3 →
          wpAny (model P w) A (setRelay a (SetTable.grown (L.length + 1))) (fun _ s2 => wpAny (model P w) A (pure true) Q E s2) E { s with heap := h1 } := fun M g1 g2 g3 g4 =>
        widen (s := { s with heap := h1 }) ho1 ⟨ox.1, ox.2.1, ox.2.2⟩ rfl hin z2 u3.dm (by rw [z1, u4]; rcases two with ⟨e, e2⟩ | ⟨e, e2⟩ <;> omega) nd each told (by rw [len]; exact few) g1 g2 g3 (by rw [len]; exact g4)
          fun h2 L2 es2 ep2 t2 sb2 R2 pm2 => wpAny_pure (hQ true h2 L2 es2 ep2 t2 (sb.trans sb2) R2 (fun z => absurd z m) fun _ => pm2.trans pm)
      rcases two with ⟨_, e2⟩ | ⟨_, e2⟩
      · exact go 31 (by rw [e2, size_20]) (.inr (.inl rfl)) (by rw [e2, size_20]; decide) (by omega)
      · exact go 127 (by rw [e2, size_76]) (.inr (.inr rfl)) (by rw [e2, size_76]; decide) (by omega)
    · refine wp_if_neg (by simp [full]) (wpAny_pure (hQ true h1 L1 es1 (ep + 1) u sb ⟨⟨_, ho1, ⟨ox.1, ox.2.1, ox.2.2⟩, rfl⟩, hin, u3, nd, each, told, ?_, by rw [len]; exact few⟩ (fun z => absurd z m) fun _ => pm))
      have h := full
      unfold SetTable.tooFull at h
      rw [decide_eq_true_eq, u6] at h
      rw [len]
      omega
  by_cases pl : t1.plain = true
  · refine wp_if_pos pl (wpAny_bind (hbv_key k _ 8 _ hx.1 hx.2 _ _ _ fun b => ?_))
    exact mid b
  · refine wp_if_neg pl (wpAny_bind (wpAny_pure ?_))
    exact mid true
end
end L2.NSet
set_option Elab.async false
set_option linter.all false
set_option maxRecDepth 100000
set_option maxHeartbeats 4000000
/-! set(tuples): a list or a tuple of tuples goes into a new set. -/
namespace L2.NSet
open PySem PySem.Spec PyProof.Rows
section
variable {P : Program} {w : World} {A : Around} {E : Value → Shared → Prop} {s : Shared}
/-- what stands in the set when the first i have gone in -/
structure In (ks : List Mem) (i : Nat) (L : List Mem) : Prop where
  from_ : ∀ p ∈ L, p ∈ ks.take i
  to_ : ∀ p ∈ ks.take i, p.2 ∈ L.map (·.2)
  le : L.length ≤ i
theorem In.zero (ks : List Mem) : In ks 0 [] := ⟨fun p h => (nomatch h), fun p h => (by simp at h), Nat.le_refl _⟩
theorem In.next {ks L M : List Mem} {i : Nat} {x : Mem} (g : In ks i L) (h : ks[i]? = some x) (old : x.2 ∈ L.map (·.2) → M = L) (new : x.2 ∉ L.map (·.2) → M.Perm (x :: L)) : In ks (i + 1) M := by
  have tk : ks.take (i + 1) = ks.take i ++ [x] := by
    rw [List.take_succ, h]
    rfl
  by_cases m : x.2 ∈ L.map (·.2)
  · rw [old m]
    refine ⟨fun p mp => ?_, fun p mp => ?_, Nat.le_succ_of_le g.le⟩
    · rw [tk]
      exact List.mem_append_left _ (g.from_ p mp)
    · rw [tk] at mp
      rcases List.mem_append.mp mp with z | z
      · exact g.to_ p z
      · rw [List.mem_singleton.mp z]
        exact m
  · have pm := new m
    refine ⟨fun p mp => ?_, fun p mp => ?_, ?_⟩
    · rw [tk]
      rcases List.mem_cons.mp (pm.mem_iff.mp mp) with e | z
      · rw [e]
        exact List.mem_append_right _ (List.mem_singleton.mpr rfl)
      · exact List.mem_append_left _ (g.from_ p z)
    · rw [(pm.map (·.2)).mem_iff, List.map_cons]
      rw [tk] at mp
      rcases List.mem_append.mp mp with z | z
      · exact List.mem_cons_of_mem _ (g.to_ p z)
      · rw [List.mem_singleton.mp z]
        exact List.mem_cons_self
    · rw [pm.length_eq, List.length_cons]
      exact Nat.succ_le_succ g.le
theorem Tab.keep {h h2 : Heap} {a : Addr} {L : List Mem} {es : Array (Int × Value)} {ep : Nat} {t : SetTable} (R : Tab P w h a L es ep t) (ha : ∀ o, h.get? a = some o → h2.get? a = some o) (each : ∀ p ∈ L, Kb P w h2 p.2 p.1) : Tab P w h2 a L es ep t :=
  let ⟨o, ho, r⟩ := R.here
  ⟨⟨o, ha o ho, r⟩, R.rows, R.lay, R.once, each, R.told, R.free, R.few⟩
abbrev newSet (w : World) : Obj := { cls := .type "set", dict := none, data := .set #[] 0 (.fresh 0 0 (!w.params.followText "set-order")) }
theorem Tab.new {h : Heap} {a : Addr} (ho : h.get? a = some (newSet w)) : Tab P w h a [] #[] 0 (.fresh 0 0 (!w.params.followText "set-order")) where
  here := ⟨_, ho, ⟨rfl, rfl, rfl⟩, rfl⟩
  rows := rfl
  lay := ⟨List.Pairwise.nil, rfl, rfl, .inl rfl, fun x hx => (nomatch hx), fun i h j hi => (by simp at hi)⟩
  once := List.nodup_nil
  each := fun p hp => nomatch hp
  told := by
    show _ ∨ (!w.params.followText "set-order") = true
    cases w.params.followText "set-order"
    · exact .inr rfl
    · exact .inl rfl
  free := by
    show 0 * 5 < 7 * 3
    decide
  few := by
    show 0 < 64
    decide
theorem kb_keep {h h2 : Heap} {k : NestedKey} {b : Addr} (x : Kb P w h k b) (hk : ∀ c o, h.get? c = some o → h2.get? c = some o) : Kb P w h2 k b := kb_at x fun c o _ _ e _ => hk c o e
/-- the loop of set.update -/
theorem loopN {I : Addr} {fp wr : List Addr} {G : Array GenState → Array GenState → Prop} {n : Nat} {Pv : Nat → Value → Prop} {St : Nat → Shared → Prop} {R : Result → Shared → Prop}
    (W : WalksS P w A.in1 I fp wr G n Pv St) (S : Addr) (nf : S ∉ fp) (ks : List Mem) (hn : n = ks.length) (few : ks.length < 64) (val : ∀ i v, Pv i v → ∃ p, ks[i]? = some p ∧ v = .ref p.1)
    (g0 : Heap) (each : ∀ p ∈ ks, Kb P w g0 p.2 p.1) (s0 : g0.get? S = none) (w0 : ∀ b ∈ wr, g0.get? b = none) (hu : A.in1.units + 8 < cLine) :
    ∀ (m i : Nat) (s : Shared), n - i = m → i ≤ n → St i s → (∀ b o, g0.get? b = some o → s.heap.get? b = some o) → (∃ L es ep t, Tab P w s.heap S L es ep t ∧ In ks i L) →
      (∀ s2 L es ep t, Moved (S :: wr) G s s2 → Tab P w s2.heap S L es ep t → In ks n L → (∀ b o, g0.get? b = some o → s2.heap.get? b = some o) → R (.ok (.ret .none)) s2) →
      codeAny (model P w) A (.builtin "set.update.loop" ⟨[.ref S, .ref I], []⟩) R s := by
  have nw : S ∉ wr := fun h => nf (W.sub _ h)
  have wider : ∀ b ∈ wr, b ∈ S :: wr := fun b m => List.mem_cons_of_mem _ m
  have hold : ∀ {s1 s2 : Shared}, Moved wr G s1 s2 → (∀ b o, g0.get? b = some o → s1.heap.get? b = some o) → ∀ b o, g0.get? b = some o → s2.heap.get? b = some o := fun mv k b o e =>
    mv.heap b o (fun m => by rw [w0 b m] at e; cases e) (k b o e)
  intro m
  induction m with
  | zero =>
    rintro i s hm hi hst kp ⟨L, es, ep, t, R0, g⟩ hR
    obtain rfl : i = n := by omega
    refine codeAny_builtin F.entry_set_update_loop ?_
    rw [Around.under_plainId F.plain_set_update_loop _] <;> show wpAny _ A.in1 (pyNext (.ref I) >>= _) _ _ s
    refine wpAny_bind (W.done s _ _ hst fun s2 mv => ?_)
    have kp2 := hold mv kp
    exact wpAny_pure (hR s2 L es ep t (mv.mono wider) (R0.keep (fun o e => mv.heap S o nw e) fun p mp => kb_keep (each p (List.mem_of_mem_take (g.from_ p mp))) kp2) g kp2)
  | succ m ih =>
    rintro i s hm hi hst kp ⟨L, es, ep, t, R0, g⟩ hR
    have lt : i < n := by omega
    refine codeAny_builtin F.entry_set_update_loop ?_
    rw [Around.under_plainId F.plain_set_update_loop _] <;> show wpAny _ A.in1 (pyNext (.ref I) >>= _) _ _ s
    refine wpAny_bind (W.item i s _ _ lt hst fun v s2 hv hst2 mv => ?_)
    obtain ⟨p, hp, rfl⟩ := val i v hv
    have kp2 := hold mv kp
    have R2 : Tab P w s2.heap S L es ep t := R0.keep (fun o e => mv.heap S o nw e) fun q mq => kb_keep (each q (List.mem_of_mem_take (g.from_ q mq))) kp2
    have hx : Kb P w s2.heap p.2 p.1 := kb_keep (each p (List.mem_of_getElem? hp)) kp2
    show wpAny _ A.in1 (holding [Value.ref p.1] (setAdd S (.ref p.1)) >>= _) _ _ s2
    unfold setAdd
    refine wpAny_bind (wpAny_holding (wpAny_holding (wpAny_bind ((nestedKind P w).pyHash hu hx ?_))))
    refine lay (s := { s2 with toks := s2.toks + p.2.draws }) R2 hx hu (by have := g.le; omega) fun b h3 L3 es3 ep3 t3 sb R3 c1 c2 => ?_
    have kp3 : ∀ b o, g0.get? b = some o → h3.get? b = some o := fun b o e => (sb.2 b fun z => by rw [z, s0] at e; cases e).trans (kp2 b o e)
    refine wpAny_pure ⟨plainId_quiet F.plain_set_update_loop _, ih (i + 1) _ (by omega) lt (W.frame _ s2 _ _ hst2 (Nat.le_add_right _ _) fun b mb o e => ?_) kp3 ⟨L3, es3, ep3, t3, R3, g.next hp c1 c2⟩
      fun s4 L4 es4 ep4 t4 mv4 R4 g4 kp4 => hR s4 L4 es4 ep4 t4 (Moved.trans W.gtrans ((mv.mono wider).then_heap (Nat.le_add_right _ _) fun b o nb e => ?_) mv4) R4 g4 kp4⟩
    · rw [sb.2 b fun z => nf (by rw [← z]; exact mb)]
      exact e
    · rw [sb.2 b fun z => nb (by rw [z]; exact List.mem_cons_self)]
      exact e

set_option maxHeartbeats 16000000 in
/-- set(a list of tuples) -/
theorem call_set_list {l : Addr} {items : Array Value} (ks : List Mem) {Q : Value → Shared → Prop} (hh : A.handled = none) (hl : s.heap.IsList l items) (it : items.toList = ks.map fun p => Value.ref p.1)
    (each : ∀ p ∈ ks, Kb P w s.heap p.2 p.1) (few : ks.length < 64) (hu : A.units + 20 < cLine)
    (h : ∀ (h2 : Heap) (tk : Nat) L es ep t, Tab P w h2 s.heap.objs.size L es ep t → In ks ks.length L → (∀ b o, s.heap.get? b = some o → h2.get? b = some o) → Q (.ref s.heap.objs.size) { s with heap := h2, toks := tk }) :
    wpAny (model P w) A (call (.type "set") [.ref l]) Q E s := by
  have isz : items.size = ks.length := by rw [← Array.length_toList, it, List.length_map]
  obtain ⟨mc, mt, mmro⟩ := F.called_set.mro
  have mmade := F.called_set.made
  have msub := F.called_set.sub
  refine wpAny_call (codeAny_of_tree ?_) <;> show wpAny _ _ (callAny (.type "set") _) _ _ _
  refine wpAny_pure ⟨Code.quiet_builtin _ (by decide +kernel), codeAny_builtin F.entry_type_call ?_⟩ <;> rw [Around.under_plain (weight_type_call_type "set" [.ref l] []) rfl]
  have m1 := F.called_set.notType
  have m2 := F.called_set.canCreate
  have m3 := F.typeCall_set_1 (.ref l)
  repeat (any_goals (first | assumption | wp_step))
  refine codeAny_mono (code_set_led1 (.ref l) (E := E) (Q₁ := fun obj s1 => obj = .ref s.heap.objs.size ∧ s1 = { s with heap := s.heap.push (newSet w) }) ⟨rfl, rfl⟩) fun r s1 hr => ?_
  match r, hr with
  | .error e, hr => exact hr
  | .ok (.ret obj), hr =>
    obtain ⟨rfl, rfl⟩ := hr
    have atS : (s.heap.push (newSet w)).get? s.heap.objs.size = some (newSet w) := Heap.get?_push_size _ rfl
    have tyS : Shared.TypeIs { s with heap := s.heap.push (newSet w) } (.ref s.heap.objs.size) "set" := ⟨_, atS, rfl⟩
    have m4 := F.called_set.init.lookup
    have m5 := F.called_set.init.bind (.ref s.heap.objs.size)
    repeat (any_goals (first | assumption | wp_step))
    refine codeAny_mono (codeAny_call_builtin (R := wants (fun r s2 => r = .none ∧ ∃ h2 tk L es ep t, s2 = { s with heap := h2, toks := tk } ∧ Tab P w h2 s.heap.objs.size L es ep t ∧ In ks ks.length L ∧
        (∀ b o, s.heap.get? b = some o → h2.get? b = some o)) E) F.called_set.init.plain F.entry_set_init (check_set_init_1 tyS ?_)) fun r2 s2 hr2 => ?_
    · obtain ⟨⟨_, odict, _, oslots⟩, hol, hcl, nl, hdl⟩ := hl
      simp only at hcl hdl
      subst hcl; subst hdl
      have hol2 : (s.heap.push (newSet w)).get? l = some { cls := .type "list", dict := odict, data := .seq items nl, slots := oslots } := Heap.get?_push_of_some _ hol
      have m6 := F.sub_list_set
      have m7 := F.sub_list_frozenset
      have m8 : (Value.type "list" == Value.type "dict") = false := by decide
      have hl1 : (s.heap.push (newSet w)).IsList l items := ⟨_, hol2, rfl, nl, rfl⟩
      unfold Builtin.«set.__init__» noKeywords Builtin.Frozenset.updateFrom
      generalize hPI : pyIter = PI
      wp_walk
      subst hPI
      refine wpAny_pyIter_list hl1 (wpAny_bind (wpAny_runValue ?_))
      have lS : l < s.heap.objs.size := Heap.lt_size hol
      have zS : (s.heap.push (newSet w)).objs.size = s.heap.objs.size + 1 := Heap.size_push ..
      have hh3 : A.in1.in1.in1.handled = none := by simp [hh]
      have nI : l ≠ (s.heap.push (newSet w)).objs.size := by rw [zS]; exact Nat.ne_of_lt (Nat.lt_succ_of_lt lS)
      have nf : s.heap.objs.size ∉ [(s.heap.push (newSet w)).objs.size, l] := by
        rw [zS]; simp only [List.mem_cons, List.not_mem_nil, or_false, not_or]
        exact ⟨Nat.ne_of_lt (Nat.lt_succ_self _), Nat.ne_of_gt lS⟩
      have val : ∀ (i : Nat) (v : Value), items[i]? = some v → ∃ p, ks[i]? = some p ∧ v = .ref p.1 := fun i v hv => by
        have q : items.toList[i]? = some v := by rw [Array.getElem?_toList]; exact hv
        rw [it, List.getElem?_map] at q
        obtain ⟨p, hp, e⟩ := Option.map_eq_some_iff.mp q
        exact ⟨p, hp, e.symm⟩
      have out : ∀ b, s.heap.objs.size ≤ b → s.heap.get? b = none := fun b hb => by
        cases q : s.heap.get? b with
        | none => rfl
        | some o => exact absurd (Nat.lt_of_lt_of_le (Heap.lt_size q) hb) (Nat.lt_irrefl _)
      refine loopN ((Walks.list hh3 _ l nI items).toS) s.heap.objs.size nf ks isz few val s.heap each (out _ (Nat.le_refl _)) (fun b mb => out b (by rw [List.mem_singleton.mp mb, zS]; exact Nat.le_succ _))
        (show A.units + 3 + 8 < cLine by omega) (items.size - 0) 0 _ (by omega) (Nat.zero_le _) ⟨⟨_, Heap.get?_push_size _ rfl, rfl, rfl⟩, (hl1.push _)⟩ (fun b o e => Heap.get?_push_of_some _ (Heap.get?_push_of_some _ e)) ?first ?last
      case first => exact ⟨[], #[], 0, _, Tab.new (Heap.get?_push_of_some _ atS), In.zero ks⟩
      case last =>
        rintro ⟨h2, g2, d2, tk2, os2⟩ L es ep t mv R2 g3 kp
        obtain rfl : g2 = s.gens := mv.gens
        obtain rfl : d2 = s.drawn := mv.drawn
        obtain rfl : os2 = s.os := mv.os
        rw [isz] at g3
        exact wpAny_pure (wpAny_pure ⟨rfl, h2, tk2, L, es, ep, t, rfl, R2, g3, kp⟩)
    · match r2, hr2 with
      | .error e, hr2 => exact hr2
      | .ok (.ret r), hr2 =>
        obtain ⟨rfl, h2, tk, L, es, ep, t, rfl, R2, g3, kp⟩ := hr2
        repeat (any_goals (first | assumption | wp_step))
        exact h _ _ _ _ _ _ R2 g3 kp

set_option maxHeartbeats 16000000 in
/-- set(a tuple of tuples) -/
theorem call_set_tuple {l : Addr} {items : Array Value} (ks : List Mem) {Q : Value → Shared → Prop} (hh : A.handled = none) (hl : s.heap.IsTuple l items) (it : items.toList = ks.map fun p => Value.ref p.1)
    (each : ∀ p ∈ ks, Kb P w s.heap p.2 p.1) (few : ks.length < 64) (hu : A.units + 20 < cLine)
    (h : ∀ (h2 : Heap) (tk : Nat) L es ep t, Tab P w h2 s.heap.objs.size L es ep t → In ks ks.length L → (∀ b o, s.heap.get? b = some o → h2.get? b = some o) → Q (.ref s.heap.objs.size) { s with heap := h2, toks := tk }) :
    wpAny (model P w) A (call (.type "set") [.ref l]) Q E s := by
  have isz : items.size = ks.length := by rw [← Array.length_toList, it, List.length_map]
  obtain ⟨mc, mt, mmro⟩ := F.called_set.mro
  have mmade := F.called_set.made
  have msub := F.called_set.sub
  refine wpAny_call (codeAny_of_tree ?_) <;> show wpAny _ _ (callAny (.type "set") _) _ _ _
  refine wpAny_pure ⟨Code.quiet_builtin _ (by decide +kernel), codeAny_builtin F.entry_type_call ?_⟩ <;> rw [Around.under_plain (weight_type_call_type "set" [.ref l] []) rfl]
  have m1 := F.called_set.notType
  have m2 := F.called_set.canCreate
  have m3 := F.typeCall_set_1 (.ref l)
  repeat (any_goals (first | assumption | wp_step))
  refine codeAny_mono (code_set_led1 (.ref l) (E := E) (Q₁ := fun obj s1 => obj = .ref s.heap.objs.size ∧ s1 = { s with heap := s.heap.push (newSet w) }) ⟨rfl, rfl⟩) fun r s1 hr => ?_
  match r, hr with
  | .error e, hr => exact hr
  | .ok (.ret obj), hr =>
    obtain ⟨rfl, rfl⟩ := hr
    have atS : (s.heap.push (newSet w)).get? s.heap.objs.size = some (newSet w) := Heap.get?_push_size _ rfl
    have tyS : Shared.TypeIs { s with heap := s.heap.push (newSet w) } (.ref s.heap.objs.size) "set" := ⟨_, atS, rfl⟩
    have m4 := F.called_set.init.lookup
    have m5 := F.called_set.init.bind (.ref s.heap.objs.size)
    repeat (any_goals (first | assumption | wp_step))
    refine codeAny_mono (codeAny_call_builtin (R := wants (fun r s2 => r = .none ∧ ∃ h2 tk L es ep t, s2 = { s with heap := h2, toks := tk } ∧ Tab P w h2 s.heap.objs.size L es ep t ∧ In ks ks.length L ∧
        (∀ b o, s.heap.get? b = some o → h2.get? b = some o)) E) F.called_set.init.plain F.entry_set_init (check_set_init_1 tyS ?_)) fun r2 s2 hr2 => ?_
    · obtain ⟨⟨_, odict, _, oslots⟩, hol, hcl, nl, hdl⟩ := hl
      simp only at hcl hdl
      subst hcl; subst hdl
      have hol2 : (s.heap.push (newSet w)).get? l = some { cls := .type "tuple", dict := odict, data := .seq items nl, slots := oslots } := Heap.get?_push_of_some _ hol
      have m6 := F.sub_tuple_set
      have m7 := F.sub_tuple_frozenset
      have m8 : (Value.type "tuple" == Value.type "dict") = false := by decide
      have hl1 : (s.heap.push (newSet w)).IsTuple l items := ⟨_, hol2, rfl, nl, rfl⟩
      unfold Builtin.«set.__init__» noKeywords Builtin.Frozenset.updateFrom
      generalize hPI : pyIter = PI
      wp_walk
      subst hPI
      refine wpAny_pyIter_tuple hl1 (wpAny_bind (wpAny_runValue ?_))
      have lS : l < s.heap.objs.size := Heap.lt_size hol
      have zS : (s.heap.push (newSet w)).objs.size = s.heap.objs.size + 1 := Heap.size_push ..
      have hh3 : A.in1.in1.in1.handled = none := by simp [hh]
      have nI : l ≠ (s.heap.push (newSet w)).objs.size := by rw [zS]; exact Nat.ne_of_lt (Nat.lt_succ_of_lt lS)
      have nf : s.heap.objs.size ∉ [(s.heap.push (newSet w)).objs.size, l] := by
        rw [zS]; simp only [List.mem_cons, List.not_mem_nil, or_false, not_or]
        exact ⟨Nat.ne_of_lt (Nat.lt_succ_self _), Nat.ne_of_gt lS⟩
      have val : ∀ (i : Nat) (v : Value), items[i]? = some v → ∃ p, ks[i]? = some p ∧ v = .ref p.1 := fun i v hv => by
        have q : items.toList[i]? = some v := by rw [Array.getElem?_toList]; exact hv
        rw [it, List.getElem?_map] at q
        obtain ⟨p, hp, e⟩ := Option.map_eq_some_iff.mp q
        exact ⟨p, hp, e.symm⟩
      have out : ∀ b, s.heap.objs.size ≤ b → s.heap.get? b = none := fun b hb => by
        cases q : s.heap.get? b with
        | none => rfl
        | some o => exact absurd (Nat.lt_of_lt_of_le (Heap.lt_size q) hb) (Nat.lt_irrefl _)
      refine loopN ((Walks.tuple hh3 _ l nI items).toS) s.heap.objs.size nf ks isz few val s.heap each (out _ (Nat.le_refl _)) (fun b mb => out b (by rw [List.mem_singleton.mp mb, zS]; exact Nat.le_succ _))
        (show A.units + 3 + 8 < cLine by omega) (items.size - 0) 0 _ (by omega) (Nat.zero_le _) ⟨⟨_, Heap.get?_push_size _ rfl, rfl, rfl⟩, (hl1.push _)⟩ (fun b o e => Heap.get?_push_of_some _ (Heap.get?_push_of_some _ e)) ?first ?last
      case first => exact ⟨[], #[], 0, _, Tab.new (Heap.get?_push_of_some _ atS), In.zero ks⟩
      case last =>
        rintro ⟨h2, g2, d2, tk2, os2⟩ L es ep t mv R2 g3 kp
        obtain rfl : g2 = s.gens := mv.gens
        obtain rfl : d2 = s.drawn := mv.drawn
        obtain rfl : os2 = s.os := mv.os
        rw [isz] at g3
        exact wpAny_pure (wpAny_pure ⟨rfl, h2, tk2, L, es, ep, t, rfl, R2, g3, kp⟩)
    · match r2, hr2 with
      | .error e, hr2 => exact hr2
      | .ok (.ret r), hr2 =>
        obtain ⟨rfl, h2, tk, L, es, ep, t, rfl, R2, g3, kp⟩ := hr2
        repeat (any_goals (first | assumption | wp_step))
        exact h _ _ _ _ _ _ R2 g3 kp
end
end L2.NSet
set_option Elab.async false
set_option linter.all false
set_option maxRecDepth 100000
set_option maxHeartbeats 4000000
/-! Sorting tuples of which some may be empty. -/
namespace L2.SortT
open PySem PySem.Spec PySem.Calls PyProof.Rows PySem.W PySem.SeqAt
section
variable {P : Program} {w : World} {A : Around} {E : Value → Shared → Prop} {s : Shared}
theorem call_tuple_lt {Q : Value → Shared → Prop} {l b : Addr} {items items2 : Array Value} {e r : Nat → Bool} (hl : s.heap.IsTuple l items) (hb : s.heap.IsTuple b items2)
    (he : ∀ j (h1 : j < items.size) (h2 : j < items2.size), EqAt A.in1 s items[j] items2[j] (e j)) (hr : ∀ j (h1 : j < items.size) (h2 : j < items2.size), e j = false → RcLt A.in1 s items[j] items2[j] (r j))
    (h : Q (.bool (firstLt e r (decide (items.size < items2.size)) (List.range (min items.size items2.size)))) s) : wpAny (model P w) A (call (.builtin "tuple.__lt__") [.ref l, .ref b]) Q E s := by
  obtain ⟨⟨c1, d1, p1, s1⟩, ho1, hc1, n1, hd1⟩ := hl
  obtain ⟨⟨c2, d2, p2, s2⟩, ho2, hc2, n2, hd2⟩ := hb
  simp only at hc1 hd1 hc2 hd2
  subst hc1 hd1 hc2 hd2
  exact call_meets F.slot_tuple_lt ⟨_, ho1, rfl⟩ F.entry_tuple_lt (F.args_tuple_lt_2 _ _) (tuple_ltAt l b items items2 n1 n2 d1 d2 s1 s2 e r) ⟨ho1, ho2, he, hr, h⟩
/-- one tuple against another, as tuples of one type are asked -/
theorem oneLt_tup {xs ys : List PyData} {a b : Value} {as bs : List Addr} {Q : Bool → Shared → Prop} (ra : Reads s.heap a (.tuple xs) as) (rb : Reads s.heap b (.tuple ys) bs) (hal : alikeAll xs ys = true)
    (hu : A.units + min (PyData.tuple xs).depth (PyData.tuple ys).depth < cLine) (hq : Q (dataLt (.tuple xs) (.tuple ys)) s) : wpAny (model P w) A (oneLt' true a b) Q E s := by
  cases ra with
  | @tuple l o vs n _ as1 h1 h2 h3 h4 =>
    cases rb with
    | @tuple l2 o2 vs2 n2 _ bs1 k1 k2 k3 k4 =>
      have z1 : vs.size = xs.length := by simpa using SeqAt.ReadsAll.length _ _ _ h4
      have z2 : vs2.size = ys.length := by simpa using SeqAt.ReadsAll.length _ _ _ k4
      rw [dataLt_tuple, ← firstLt_toks xs ys hal, ← z1, ← z2] at hq
      rw [oneLt'_eq]
      simp only [if_true]
      refine wpAny_bind (wpAny_cRoomFor (SeqAt.room_here hu) ?_)
      refine wpAny_bind (wpAny_callSpecialIfBound?_slot (T := "tuple") ⟨_, h1, h2⟩ F.slot_tuple_lt (call_tuple_lt (e := pairEq xs ys) (r := fun j => dataLt (xs.getD j .none) (ys.getD j .none)) ⟨_, h1, h2, _, h3⟩ ⟨_, k1, k2, _, k3⟩
        (fun j j1 j2 => ?_) (fun j j1 j2 hj => ?_) (wpAny_truthy_bool hq)))
      · have q := eqAt_alikeAll xs ys A.in1 s vs.toList vs2.toList _ _ h4 k4 hal (SeqAt.room_in hu) j (by simpa using j1) (by simpa using j2)
        simpa using q
      · have q := rcLt_alikeAll xs ys A.in1 s vs.toList vs2.toList _ _ h4 k4 hal (SeqAt.room_in hu) j (by simpa using j1) (by simpa using j2) hj
        simpa using q
/-- the first items of tuples -/
inductive Fsts (h : Heap) : List Value → List (Option Value) → Prop
  | nil : Fsts h [] []
  | cons {a : Addr} {o : Obj} {xs : Array Value} {n : Nat} {vs : List Value} {os : List (Option Value)} : h.get? a = some o → o.cls = .type "tuple" → o.data = .seq xs n → Fsts h vs os → Fsts h (.ref a :: vs) (xs[0]? :: os)
theorem fsts_of {h : Heap} : ∀ {vs : List Value} {ds : List PyData}, EachIs (fun v d => ∃ as, Reads h v d as) vs ds → (∀ d ∈ ds, ∃ xs, d = .tuple xs) →
    ∃ os, Fsts h vs os ∧ ((os.all fun o => o.isSome) = true → ∀ d ∈ ds, ∃ x r, d = .tuple (x :: r))
  | [], _, .nil, _ => ⟨[], .nil, fun _ d m => nomatch m⟩
  | v :: vs, d :: ds, .cons r e, ht => by
    obtain ⟨os, f, g⟩ := fsts_of e fun d m => ht d (List.mem_cons_of_mem _ m)
    obtain ⟨xs, rfl⟩ := ht d List.mem_cons_self
    obtain ⟨as, r⟩ := r
    cases r with
    | @tuple _ _ vs2 _ _ _ h1 h2 h3 h4 =>
      refine ⟨_, .cons h1 h2 h3 f, fun al d m => ?_⟩
      rw [List.all_cons, Bool.and_eq_true] at al
      rcases List.mem_cons.mp m with rfl | m
      · have z : vs2.size = xs.length := by simpa using SeqAt.ReadsAll.length _ _ _ h4
        have q : 0 < vs2.size := by
          cases k : vs2.size with
          | zero =>
            have e0 : vs2[0]? = none := Array.getElem?_eq_none (by omega)
            rw [e0] at al
            cases al.1
          | succ n => exact Nat.succ_pos n
        cases xs with
        | nil =>
          rw [List.length_nil] at z
          omega
        | cons x r => exact ⟨x, r, rfl⟩
      · exact g al.2 d m
theorem fsts_ask {M : Model} {A : Around} {E : Value → Shared → Prop} : ∀ {vs : List Value} {os : List (Option Value)} {s : Shared} {Q : List (Option Value) → Shared → Prop}, Fsts s.heap vs os → Q os s → wpAny M A (vs.mapM firstOfTuple') Q E s
  | [], _, s, Q, .nil, h => by
    rw [List.mapM_nil]
    exact wpAny_pure h
  | _ :: vs, _, s, Q, .cons (a := a) (o := o) (os := os) h1 h2 h3 t, h => by
    rw [List.mapM_cons]
    refine wpAny_bind ?_
    rw [kas_first_eq]
    refine wpAny_bind (Looks.here (show Looks M s.heap (typeOf (.ref a)) o.cls from (Looks.ld h1).andThen .now) ?_)
    rw [h2, if_neg (by first | decide | simp)]
    refine wpAny_bind (listItems_at h1 h3 (wpAny_pure ?_))
    exact wpAny_bind (fsts_ask (Q := fun bs s2 => wpAny M A (pure (_ :: bs)) Q E s2) t (wpAny_pure h))
theorem looks_tup {h : Heap} {M : Model} : ∀ {vs : List Value} {os : List (Option Value)}, Fsts h vs os → ∀ v ∈ vs, Looks M h (typeOf v) (.type "tuple")
  | _ :: vs, _, .cons h1 h2 h3 t, v, m => by
    rcases List.mem_cons.mp m with rfl | m
    · rw [← h2]
      exact (Looks.ld h1).andThen .now
    · exact looks_tup t v m
/-- what kind of keys they are, where some are empty -/
theorem fsts_kind {vs : List Value} {os : List (Option Value)} {M : Model} {Q : SortKind → Shared → Prop} (f : Fsts s.heap vs os) (ne : vs ≠ []) (no : (os.all fun o => o.isSome) = false)
    (h : Q (if (os[0]?.bind id).isSome = true then general' else oneType') s) : wpAny M A (keyKind' vs.toArray) Q E s := by
  rw [kat_kind_eq, List.mapM_toArray, map_eq_pure_bind]
  refine wpAny_bind (wpAny_bind (fsts_ask f (wpAny_pure ?_)))
  have e1 : (os.toArray.all fun x => x.isSome) = false := by simpa using no
  rw [e1, if_neg Bool.false_ne_true]
  have e2 : os.toArray[0]? = os[0]? := by simp
  rw [e2]
  cases e3 : (os[0]?.bind id).isSome with
  | true =>
    rw [e3, if_pos rfl] at h
    rw [if_pos rfl]
    exact wpAny_pure h
  | false =>
    rw [e3, if_neg Bool.false_ne_true] at h
    rw [if_neg Bool.false_ne_true]
    rw [oneTypeOnly'_eq, List.mapM_toArray, map_eq_pure_bind]
    refine wpAny_bind (wpAny_bind (wpAny_bind (kas_mapM (r := Value.type "tuple") _ (fun v hv Q2 hq => (looks_tup f v hv).here hq) (wpAny_pure ?_))))
    have al : ((List.map (fun _ => Value.type "tuple") vs).toArray.all fun x => x == Value.type "tuple") = true := by
      simp only [List.all_toArray, List.all_map, List.all_eq_true]
      intro _ _
      exact beq_self_eq_true _
    have h0 : (List.map (fun _ => Value.type "tuple") vs).toArray[0]? = some (Value.type "tuple") := by
      cases vs with
      | nil => exact absurd rfl ne
      | cons v vs => simp
    rw [h0]
    simp only [al, if_true]
    exact wpAny_pure (wpAny_pure h)
/-- tuples that read as alike data can be sorted -/
theorem sorts_tups {vs : List Value} {ds : List PyData} (e : EachIs (fun v d => ∃ as, Reads s.heap v d as) vs ds) (hal : AllAlike ds) (ht : ∀ d ∈ ds, ∃ xs, d = .tuple xs) (hu : ∀ d, d ∈ ds → A.units + d.depth < cLine) :
    SortsAt P w A s (dataKind s.heap ds) vs := by
  obtain ⟨os, f, g⟩ := fsts_of e ht
  cases al : (os.all fun o => o.isSome) with
  | true => exact SortsAt.data e hal (.inl (g al)) hu
  | false =>
    refine ⟨fun v hv => ?_, if (os[0]?.bind id).isSome = true then general' else oneType', ?_, fun h2 E Q hq => ?_⟩
    · obtain ⟨d, hd, as, r⟩ := e.left v hv
      exact ⟨_, dataKind_some hal hd r⟩
    · intro E x y a b Q ha hb hq
      obtain ⟨d, as, hd, ra, rfl⟩ := dataKind_inv ha
      obtain ⟨d2, as2, hd2, rb, rfl⟩ := dataKind_inv hb
      obtain ⟨xs, rfl⟩ := ht d hd
      obtain ⟨ys, rfl⟩ := ht d2 hd2
      have hdd := hal _ hd _ hd2
      have room : A.units + min (PyData.tuple xs).depth (PyData.tuple ys).depth < cLine := Nat.lt_of_le_of_lt (Nat.add_le_add_left (Nat.min_le_left _ _) _) (hu _ hd)
      split
      · show wpAny (model P w) A (oneLt' false x y) Q E s
        exact oneLt_alike (f := false) (fun z => nomatch z) ra rb hdd (fun z => nomatch z) room hq
      · rw [keyLt'_oneType]
        exact oneLt_tup ra rb (by simpa [alike] using hdd) room hq
    · refine fsts_kind f (fun z => ?_) al hq
      rw [z] at h2
      simp at h2
end
end L2.SortT
set_option Elab.async false
set_option linter.all false
set_option maxRecDepth 100000
set_option maxHeartbeats 4000000
/-! Lists and sets of nested data, sorted; sets of tuples as tracked things. -/
namespace L2.NSet
open PySem PySem.Spec PyProof.Rows L2.SortT
section
variable {P : Program} {w : World} {A : Around} {E : Value → Shared → Prop} {s : Shared} {β : Type} {vs : List Value} {bs : List β} {enc : β → PyData} {R : Value → β → Prop}
open PySem.W PySem.SeqAt
/-- what can be sorted: as the library says, or tuples, empty ones too -/
def Srtb (ds : List PyData) : Prop := PySem.W.Sortable ds ∨ ∀ d ∈ ds, ∃ xs, d = .tuple xs
theorem sorts_any {ds : List PyData} (e : EachIs (fun v d => ∃ as, Reads s.heap v d as) vs ds) (hal : AllAlike ds) (hk : Srtb ds) (hu : ∀ d, d ∈ ds → A.units + d.depth < cLine) : SortsAt P w A s (dataKind s.heap ds) vs :=
  hk.elim (fun k => SortsAt.data e hal k hu) fun k => sorts_tups e hal k hu
theorem sorted_any {l : Addr} {Q : Value → Shared → Prop} (hl : s.heap.IsList l vs.toArray) (e : EachIs R vs bs) (er : EachIs (fun v b => ∃ as, Reads s.heap v (enc b) as) vs bs) (hal : AllAlike (bs.map enc)) (hk : Srtb (bs.map enc)) (hL : bs.length ≤ sizeLine)
    (hu : ∀ b, b ∈ bs → A.units + 2 + (enc b).depth < cLine) (h : ∀ out, out.length = bs.length → EachIs R out (bs.mergeSort (dataLe false enc)) → Q (.ref (s.heap.objs.size + 1)) { s with heap := sortedAll s.heap vs (List.toArray out) }) :
    wpAny (model P w) A (call (.builtin "sorted") [.ref l]) Q E s := by
  have er2 : EachIs (fun v b => ∃ as, Reads (sortingHeap (copyHeap s.heap vs) (s.heap.objs.size + 1) vs) v (enc b) as) vs bs := er.mono fun _ _ ⟨as, r⟩ => ⟨as, PyProof.Rows.Reads.keeps (fun _ _ => sorting_copy_old) r⟩
  refine sorted_vals hl (sorts_any (s := { s with heap := sortingHeap (copyHeap s.heap vs) (s.heap.objs.size + 1) vs }) (each_map (R := fun v d => ∃ as, Reads (sortingHeap (copyHeap s.heap vs) (s.heap.objs.size + 1) vs) v d as) enc er2) hal hk (bound_map hu)) ?_
    (h _ ?_ (sortVals_data false e er2 hal))
  · rw [e.length]
    exact hL
  · rw [sortVals_length false rfl]
    exact e.length
theorem list_sort_any2 {a : Addr} {n : Nat} {Q : Value → Shared → Prop} (ho : s.heap.get? a = some (seqObj "list" vs.toArray n)) (e : EachIs R vs bs) (er : EachIs (fun v b => ∃ as, Reads s.heap v (enc b) as ∧ a ∉ as) vs bs) (hal : AllAlike (bs.map enc)) (hk : Srtb (bs.map enc)) (hL : bs.length ≤ sizeLine)
    (hu : ∀ b, b ∈ bs → A.units + 1 + (enc b).depth < cLine) (h : ∀ out, out.length = bs.length → EachIs R out (bs.mergeSort (dataLe false enc)) → Q .none { s with heap := sortedHeap s.heap a vs (List.toArray out) }) :
    wpAny (model P w) A (call (.builtin "list.sort") [.ref a]) Q E s := by
  have er2 : EachIs (fun v b => ∃ as, Reads (sortingHeap s.heap a vs) v (enc b) as) vs bs := each_keepBut (h' := sortingHeap s.heap a vs) (fun _ _ hb q => sortingHeap_old hb q) (fun o q => by rw [ho] at q; rw [← Option.some.inj q]) hal er
  refine wpAny_call_entry slot_list_sort ⟨_, ho, rfl⟩ entry_list_sort (list_sort_vals (κ := dataKind (sortingHeap s.heap a vs) (bs.map enc)) ho (sorts_any (s := { s with heap := sortingHeap s.heap a vs })
    (each_map (R := fun v d => ∃ as, Reads (sortingHeap s.heap a vs) v d as) enc er2) hal hk (bound_map hu)) ?_ ⟨.none, rfl, ?_⟩) (args_list_sort _)
  · rw [e.length]
    exact hL
  · refine h _ ?_ (sortVals_data false e er2 hal)
    rw [sortVals_length false rfl]
    exact e.length
/-- rising -/
def Rise (enc : β → PyData) (l : List β) : Prop := l.Pairwise fun a b => dataLe false enc a b = true
theorem rise_sort (l : List β) : Rise enc (l.mergeSort (dataLe false enc)) := sort_pairwise (sortLe_total _ false _) l
theorem eachIs_mem {α γ : Type} {R : α → γ → Prop} : ∀ {xs : List α} {ys : List γ}, EachIs R xs ys → ∀ y ∈ ys, ∃ x ∈ xs, R x y
  | _, _, .nil, y, m => nomatch m
  | _, _, .cons r e, y, m => by
    rcases List.mem_cons.mp m with rfl | m
    · exact ⟨_, List.mem_cons_self, r⟩
    · obtain ⟨x, mx, rx⟩ := eachIs_mem e y m
      exact ⟨x, List.mem_cons_of_mem _ mx, rx⟩
theorem vals_each : ∀ {xs : List (V × PyData)} {us : List Value}, Vals (xs.map Prod.fst) us → EachIs (fun v (b : V × PyData) => RelV b.1 v) us xs
  | [], _, .nil => .nil
  | _ :: _, _, .cons r t => .cons r (vals_each t)
theorem each_vals : ∀ {xs : List (V × PyData)} {us : List Value}, EachIs (fun v (b : V × PyData) => RelV b.1 v) us xs → Vals (xs.map Prod.fst) us
  | [], _, .nil => .nil
  | _ :: _, _, .cons r t => .cons r (each_vals t)
end
section
variable {X : Cx} {pins : List (Addr × Obj)} {σ : L2.St} {H : Hp} {s : Shared}
open PySem.W
theorem each_reads (I : Inv X pins σ H s) : ∀ {xs : List (V × PyData)} {us : List Value}, (∀ x ∈ xs, Dp X.K H x.1 x.2) → Vals (xs.map Prod.fst) us → EachIs (fun v (b : V × PyData) => ∃ as, Reads s.heap v b.2 as) us xs
  | [], _, _, .nil => .nil
  | x :: xs, _, h, .cons r t => .cons (Dp.reads I x.2 x.1 _ (h x List.mem_cons_self) r) (each_reads I (fun y m => h y (List.mem_cons_of_mem _ m)) t)
/-- sorted(a list of nested data) -/
def rSortD (K : PySem.W.Frag) : List V → Hp → VK → Prop := fun vs H Q => ∃ (a : Addr) (xs : List (V × PyData)), vs = [V.ref a] ∧ SqL K H a (xs.map Prod.fst) ∧ (∀ x ∈ xs, Dp K H x.1 x.2) ∧ AllAlike (xs.map Prod.snd) ∧ Srtb (xs.map Prod.snd) ∧ xs.length ≤ 1000 ∧
  (∀ x ∈ xs, x.2.depth ≤ 40) ∧ ∀ (ys : List (V × PyData)) (p : Addr), ys.Perm xs → Rise Prod.snd ys → H p = none → Q (.ref p) (upd H p (.lst (ys.map Prod.fst)))
theorem cr_sortD (hu : X.A.units + 64 < cLine) : CallR X (.builtin "sorted") (rSortD X.K) := by
  intro pins s σ H vs us Q I r h
  obtain ⟨a, xs, rfl, ha, hd, hal, hk, few, dp, q⟩ := h
  rw [Vals.ref1 r]
  obtain ⟨its, rv, pl, hz⟩ := I.list ha
  have hl : s.heap.IsList a its.toArray := pl.isList
  refine sorted_any (R := fun v (b : V × PyData) => RelV b.1 v) (bs := xs) (enc := Prod.snd) hl (vals_each rv) (each_reads I hd rv) hal hk (Nat.le_trans few (by rw [sizeLine_eq]; decide)) (fun b m => by have := dp b m; omega) fun out lo eo => ?_
  have pm := List.mergeSort_perm xs (dataLe false Prod.snd)
  have hn : H (s.heap.objs.size + 1) = none := I.hok.fresh (Nat.le_succ _)
  have fit : ((xs.mergeSort (dataLe false Prod.snd)).map Prod.fst).length ≤ sizeLine := by
    rw [List.length_map, pm.length_eq, sizeLine_eq]
    omega
  obtain ⟨c, hc⟩ := sortedAll_at s.heap its out.toArray
  refine ⟨.ref (s.heap.objs.size + 1), upd H (s.heap.objs.size + 1) (.lst ((xs.mergeSort (dataLe false Prod.snd)).map Prod.fst)), I.laid (t' := s.toks) (fun b o e => sortedAll_old e) (Nat.le_succ _) ⟨fit, out, c, each_vals eo, hc⟩, rfl, q _ _ pm (rise_sort xs) hn⟩
end
end L2.NSet
set_option Elab.async false
set_option linter.all false
set_option maxRecDepth 100000
set_option maxHeartbeats 4000000
/-! Sets of tuples as tracked things: made of a list or a tuple, sorted. -/
namespace L2.NSet
open PySem PySem.Spec PyProof.Rows L2.SortT PySem.W
/-- the set at a, its members' tuples apart -/
structure Tab0 (P : Program) (w : World) (h : Heap) (a : Addr) (L : List Mem) : Prop where
  ex : ∃ (es : Array (Int × Value)) (ep : Nat) (t : SetTable), (∃ o, h.get? a = some o ∧ o.ExactSet ∧ o.data = .set es ep t) ∧ es.toList = L.map (rowN w) ∧ TabOk t (L.map fun p => p.2.hash w) ∧ (L.map (·.2)).Nodup ∧
    (w.params.followText "set-order" = true ∨ t.led = true) ∧ L.length * 5 < t.mask * 3 ∧ L.length < 64
def SetN (P : Program) (w : World) (a : Addr) (L : List Mem) : HO := .ext fun h => Tab0 P w h a L
section
variable {P : Program} {w : World} {h : Heap} {H : Hp} {a : Addr} {L : List Mem} {es : Array (Int × Value)} {ep : Nat} {t : SetTable}
theorem Tab.t0 (R : Tab P w h a L es ep t) : Tab0 P w h a L := ⟨es, ep, t, R.here, R.rows, R.lay, R.once, R.told, R.free, R.few⟩
theorem Tab0.full (R : Tab0 P w h a L) (each : ∀ p ∈ L, Kb P w h p.2 p.1) : ∃ es ep t, Tab P w h a L es ep t := by
  obtain ⟨es, ep, t, h1, h2, h3, h4, h5, h6, h7⟩ := R.ex
  exact ⟨es, ep, t, h1, h2, h3, h4, each, h5, h6, h7⟩
theorem setN_new (R : Tab0 P w h a L) : ObjOk P w H h a (SetN P w a L) := by
  have ⟨es, ep, t, ⟨o, ho, r⟩, q⟩ := R.ex
  refine ⟨R, ⟨o, ho⟩, fun h1 h2 p k => ?_⟩
  have ⟨es2, ep2, t2, ⟨o2, ho2, r2⟩, q2⟩ := Tab0.ex p
  exact ⟨es2, ep2, t2, ⟨o2, k o2 ho2, r2⟩, q2⟩
theorem refs_vals : ∀ {ks : List Mem} {us : List Value}, Vals (ks.map fun p => V.ref p.1) us → us = ks.map fun p => Value.ref p.1
  | [], _, .nil => rfl
  | p :: ks, _, .cons r t => by
    cases r
    rw [refs_vals t]
    rfl
theorem vals_refs : ∀ (ks : List Mem), Vals (ks.map fun p => V.ref p.1) (ks.map fun p => Value.ref p.1)
  | [] => .nil
  | p :: ks => .cons rfl (vals_refs ks)
theorem perm_lift {α γ : Type} (f : α → γ) : ∀ {vs : List γ} {L : List α}, vs.Perm (L.map f) → ∃ M : List α, M.Perm L ∧ vs = M.map f
  | [], [], pm => ⟨[], List.Perm.refl _, rfl⟩
  | [], x :: L, pm => by
    have e := pm.length_eq
    cases e
  | v :: vs, L, pm => by
    have m : v ∈ L.map f := pm.mem_iff.mp List.mem_cons_self
    obtain ⟨x, mx, rfl⟩ := List.mem_map.mp m
    obtain ⟨l1, l2, rfl⟩ := List.append_of_mem mx
    have q : (f x :: vs).Perm (f x :: (l1 ++ l2).map f) := by
      refine pm.trans ?_
      rw [List.map_append, List.map_cons, List.map_append]
      exact List.perm_middle
    obtain ⟨M, pM, e⟩ := perm_lift f (List.Perm.cons_inv q)
    exact ⟨x :: M, (List.Perm.cons x pM).trans List.perm_middle.symm, by rw [e]; rfl⟩
end
section
variable {X : Cx} {pins : List (Addr × Obj)} {σ : L2.St} {H : Hp} {s : Shared}
mutual
theorem nest_of (I : Inv X pins σ H s) : ∀ (k : NestedKey) (x : V) (v : Value), Dp X.K H x k.data → RelV x v → NestedIs s.heap k v
  | .none, x, v, d, r => by
    cases d
    cases r
    exact .none
  | .num i, x, v, d, r => by
    cases d
    obtain ⟨t, rfl⟩ := r
    exact .int i t
  | .text z, x, v, d, r => by
    cases d
    obtain ⟨t, rfl⟩ := r
    exact .text z t
  | .tup ks, x, v, d, r => by
    have d : Dp X.K H x (.tuple (NestedKey.datas ks)) := d
    cases d with
    | tup hq ha =>
      cases r
      obtain ⟨its, rv, ⟨o, ho, hc, n, hd⟩, _⟩ := I.tuple hq
      exact .tup ho hc hd (by simpa using nests_of I ks _ its ha rv)
theorem nests_of (I : Inv X pins σ H s) : ∀ (ks : List NestedKey) (xs : List V) (us : List Value), DpAll X.K H xs (NestedKey.datas ks) → Vals xs us → NestedAll s.heap ks us
  | [], xs, us, d, r => by
    cases d
    cases r
    exact .nil
  | k :: ks, xs, us, d, r => by
    have d : DpAll X.K H xs (k.data :: NestedKey.datas ks) := d
    cases d with
    | cons d1 d2 =>
      cases r with
      | cons r1 r2 => exact .cons (nest_of I k _ _ d1 r1) (nests_of I ks _ _ d2 r2)
end
/-- a tuple of references that has no dict of its own, as a thing of the heap alone -/
def PTu (a : Addr) (ts : List Addr) : HO := .ext fun h => ∃ o n, h.get? a = some o ∧ o.cls = .type "tuple" ∧ o.dict = none ∧ o.data = .seq (ts.map Value.ref).toArray n
/-- a tuple of pairs of texts -/
def PtOk (H : Hp) (p : Mem) : Prop := ∃ (ts : List Addr) (ks : List (Str × Str)), H p.1 = some (PTu p.1 ts) ∧ p.2 = .tup (ks.map fun q => .tup [.text q.1, .text q.2]) ∧ Paired (fun t (q : Str × Str) => H t = some (.tup [.str q.1, .str q.2])) ts ks
theorem pt_pairs (I : Inv X pins σ H s) : ∀ {ts : List Addr} {ks : List (Str × Str)}, Paired (fun t (q : Str × Str) => H t = some (.tup [.str q.1, .str q.2])) ts ks →
    NestedAll s.heap (ks.map fun q => .tup [.text q.1, .text q.2]) (ts.map Value.ref) ∧ PySem.ReadsAll s.heap (ts.map Value.ref) (NestedKey.datas (ks.map fun q => .tup [.text q.1, .text q.2])) []
  | _, _, .nil => ⟨.nil, .nil⟩
  | _, _, .cons (a := t) (b := q) h r => by
    obtain ⟨its, rv, ⟨o, ho, hc, n, hd⟩, _⟩ := I.tuple (SqT.of h)
    obtain ⟨i1, i2⟩ := pt_pairs I r
    cases rv with
    | cons r1 r2 =>
      cases r2 with
      | cons r2 r3 =>
        cases r3
        obtain ⟨t1, rfl⟩ := r1
        obtain ⟨t2, rfl⟩ := r2
        refine ⟨.cons (.tup ho hc hd (.cons (.text _ _) (.cons (.text _ _) .nil))) i1, .cons (as := []) (bs := []) ?_ i2⟩
        exact .tuple ho hc hd (.cons (as := []) (bs := []) (.str _ _) (.cons (as := []) (bs := []) (.str _ _) .nil))
/-- the member p stands in its tuple -/
def MemOk (K : PySem.W.Frag) (H : Hp) (p : Mem) : Prop := (Dp K H (.ref p.1) p.2.data ∨ PtOk H p) ∧ p.2.depth ≤ 8
theorem pt_both (I : Inv X pins σ H s) {p : Mem} (m : PtOk H p) : NestedIs s.heap p.2 (.ref p.1) ∧ PySem.Reads s.heap (.ref p.1) p.2.data [] := by
  obtain ⟨ts, ks, h, e, pr⟩ := m
  obtain ⟨o, n, ho, hc, hdn, hd⟩ := (show ∃ o n, s.heap.get? p.1 = some o ∧ o.cls = .type "tuple" ∧ o.dict = none ∧ o.data = .seq (ts.map Value.ref).toArray n from (I.hok p.1 _ h).1)
  obtain ⟨i1, i2⟩ := pt_pairs I pr
  rw [e]
  exact ⟨.tup ho hc hd (by simpa using i1), .tuple ho hc hd (by simpa using i2)⟩
theorem kb_of (I : Inv X pins σ H s) {p : Mem} (m : MemOk X.K H p) : Kb X.prog X.w s.heap p.2 p.1 := by
  rcases m.1 with d | d
  · exact ⟨nest_of I p.2 _ _ d rfl, m.2⟩
  · exact ⟨(pt_both I d).1, m.2⟩
/-- set(xs) -/
def rSetN (K : PySem.W.Frag) (P : Program) (w : World) : List V → Hp → VK → Prop := fun xs H Q => ∃ (l : Addr) (ks : List Mem), xs = [V.ref l] ∧ (SqL K H l (ks.map fun p => V.ref p.1) ∨ SqT K H l (ks.map fun p => V.ref p.1)) ∧ (∀ p ∈ ks, MemOk K H p) ∧ ks.length < 64 ∧
  ∀ a L, H a = none → (∀ p ∈ L, p ∈ ks) → (∀ p ∈ ks, p.2 ∈ L.map (·.2)) → (L.map (·.2)).Nodup → Q (.ref a) (upd H a (SetN P w a L))
theorem cr_setN (hc : X.calm = true) (hu : X.A.units + 64 < cLine) : CallR X (.type "set") (rSetN X.K X.prog X.w) := by
  intro pins s σ H xs us Q I r h
  obtain ⟨l, ks, rfl, hl, hk, few, q⟩ := h
  rw [Vals.ref1 r]
  have hn : H s.heap.objs.size = none := I.hok.fresh (Nat.le_refl _)
  have fin : ∀ (h2 : Heap) (tk : Nat) L es ep t, Tab X.prog X.w h2 s.heap.objs.size L es ep t → In ks ks.length L → (∀ b o, s.heap.get? b = some o → h2.get? b = some o) →
      ∃ y H2, Inv X pins σ H2 { s with heap := h2, toks := tk } ∧ RelV y (.ref s.heap.objs.size) ∧ Q y H2 := fun h2 tk L es ep t R g k =>
    ⟨.ref s.heap.objs.size, upd H s.heap.objs.size (SetN X.prog X.w s.heap.objs.size L), I.laid (t' := tk) k (Nat.le_refl _) (setN_new R.t0), rfl,
      q _ L hn (fun p m => List.mem_of_mem_take (g.from_ p m)) (fun p m => g.to_ p (by rw [List.take_length]; exact m)) R.once⟩
  rcases hl with hl | hl
  · obtain ⟨its, rv, pl, hz⟩ := I.list hl
    exact call_set_list (P := X.prog) (w := X.w) ks (I.ok.hd hc) pl.isList (by simpa using refs_vals rv) (fun p m => kb_of I (hk p m)) few (by omega) fin
  · obtain ⟨its, rv, ⟨o, ho, hcl, n, hd⟩, hz⟩ := I.tuple hl
    exact call_set_tuple (P := X.prog) (w := X.w) ks (I.ok.hd hc) ⟨o, ho, hcl, n, hd⟩ (by simpa using refs_vals rv) (fun p m => kb_of I (hk p m)) few (by omega) fin
/-- sorted(a set of tuples) -/
def rSortN (K : PySem.W.Frag) (P : Program) (w : World) : List V → Hp → VK → Prop := fun vs H Q => ∃ (a : Addr) (L : List Mem), vs = [V.ref a] ∧ H a = some (SetN P w a L) ∧ (∀ p ∈ L, MemOk K H p) ∧ AllAlike (L.map fun p => p.2.data) ∧
  (∀ p ∈ L, ∃ ks, p.2 = .tup ks) ∧ (∀ p ∈ L, p.2.data.depth ≤ 40) ∧ ∀ (M : List Mem) (p : Addr), M.Perm L → Rise (fun p : Mem => p.2.data) M → H p = none → Q (.ref p) (upd H p (.lst (M.map fun p => V.ref p.1)))
mutual
theorem reads_nest {h : Heap} : ∀ (k : NestedKey) (v : Value) (as : List Addr), PySem.Reads h v k.data as → as = []
  | .none, _, _, x => by
    cases x
    rfl
  | .num i, _, _, x => by
    cases x
    rfl
  | .text z, _, _, x => by
    cases x
    rfl
  | .tup ks, _, _, x => by
    have x : PySem.Reads h _ (.tuple (NestedKey.datas ks)) _ := x
    cases x with
    | tuple h1 h2 h3 h4 => exact reads_nests ks _ _ h4
theorem reads_nests {h : Heap} : ∀ (ks : List NestedKey) (vs : List Value) (as : List Addr), PySem.ReadsAll h vs (NestedKey.datas ks) as → as = []
  | [], _, _, x => by
    cases x
    rfl
  | k :: ks, _, _, x => by
    have x : PySem.ReadsAll h _ (k.data :: NestedKey.datas ks) _ := x
    cases x with
    | cons x1 x2 => rw [reads_nest k _ _ x1, reads_nests ks _ _ x2]; rfl
end
theorem each_mem2 (I : Inv X pins σ H s) {h2 : Heap} (k : ∀ b o, s.heap.get? b = some o → h2.get? b = some o) (a : Addr) : ∀ {M : List Mem}, (∀ p ∈ M, MemOk X.K H p) →
    EachIs (fun v (p : Mem) => ∃ as, PySem.Reads h2 v p.2.data as ∧ a ∉ as) (M.map fun p => Value.ref p.1) M
  | [], _ => .nil
  | p :: M, h => by
    obtain ⟨as, r⟩ : ∃ as, PySem.Reads s.heap (.ref p.1) p.2.data as := (h p List.mem_cons_self).1.elim (fun d => Dp.reads I p.2.data (.ref p.1) (.ref p.1) d rfl) fun d => ⟨[], (pt_both I d).2⟩
    have r2 := PyProof.Rows.Reads.keeps k r
    refine .cons ⟨as, r2, ?_⟩ (each_mem2 I k a fun q m => h q (List.mem_cons_of_mem _ m))
    rw [reads_nest p.2 _ _ r2]
    simp
theorem each_ref : ∀ M : List Mem, EachIs (fun v (p : Mem) => v = Value.ref p.1) (M.map fun p => Value.ref p.1) M
  | [] => .nil
  | p :: M => .cons rfl (each_ref M)
theorem ref_each : ∀ {M : List Mem} {out : List Value}, EachIs (fun v (p : Mem) => v = Value.ref p.1) out M → out = M.map fun p => Value.ref p.1
  | [], _, .nil => rfl
  | p :: M, _, .cons r e => by rw [r, ref_each e]; rfl
theorem cr_sortN (hc : X.calm = true) (hu : X.A.units + 64 < cLine) : CallR X (.builtin "sorted") (rSortN X.K X.prog X.w) := by
  intro pins s σ H vs us Q I r h
  obtain ⟨a, L, rfl, ha, hk, hal, htup, dp, q⟩ := h
  have R0 : Tab0 X.prog X.w s.heap a L := (I.hok a _ ha).1
  obtain ⟨es, ep, t, R⟩ := R0.full fun p m => kb_of I (hk p m)
  rw [Vals.ref1 r]
  obtain ⟨o, ho, ox, od⟩ := R.here
  have few := R.few
  refine Calls.call_function_entry kind_sorted plain_sorted entry_sorted (args_sorted1 _) ?_
  unfold Builtin.«sorted»
  refine wpAny_bind (m := checkCount "sorted" 1 1 _) (wpAny_pure (wpAny_bind (collect_set (A := X.A.in1) (I.ok.hd hc) ⟨o, ho, ox.1, od⟩ R.fits (by rw [R.size]; unfold scanBound; omega) R.lay.ris R.told fun s1 vs k1 z1 g1 o1 pm => ?_)))
  have hes : es.toList.map (·.2) = L.map fun p => Value.ref p.1 := by
    rw [R.rows, List.map_map]
    rfl
  rw [hes] at pm
  obtain ⟨M, pM, rfl⟩ := perm_lift _ pm
  have lM : M.length < 64 := by rw [pM.length_eq]; exact few
  refine wpAny_bind (wpAny_newList ?_ (by rw [List.length_map, sizeLine_eq]; omega))
  have at1 : (s1.heap.push (seqObj "list" (M.map fun p => Value.ref p.1).toArray 0)).get? s1.heap.objs.size = some (seqObj "list" (M.map fun p => Value.ref p.1).toArray 0) := Heap.get?_push_size _ rfl
  have mk : ∀ p ∈ M, MemOk X.K H p := fun p m => hk p (pM.mem_iff.mp m)
  have alM : AllAlike (M.map fun p => p.2.data) := fun d hd d2 hd2 => hal d ((pM.map _).mem_iff.mp hd) d2 ((pM.map _).mem_iff.mp hd2)
  refine wpAny_bind (wpAny_holding (list_sort_any2 (R := fun v (p : Mem) => v = Value.ref p.1) (enc := fun p : Mem => p.2.data) (bs := M) at1 (each_ref M) (each_mem2 I (fun b u e => Heap.get?_push_of_some _ (k1 b u e)) _ mk) alM (.inr fun d hd => ?_) (by rw [sizeLine_eq]; omega) (fun p m => ?_) fun out lo eo => ?_))
  · obtain ⟨p, mp, rfl⟩ := List.mem_map.mp hd
    obtain ⟨ks, e⟩ := htup p (pM.mem_iff.mp mp)
    exact ⟨_, by rw [e]; rfl⟩
  · have := dp p (pM.mem_iff.mp m)
    show X.A.units + 1 + 1 + _ < cLine
    omega
  · have eO := ref_each eo
    obtain ⟨c, hc2⟩ := sortedHeap_at (vs := M.map fun p => Value.ref p.1) (out := out.toArray) at1
    generalize hS : M.mergeSort (dataLe false fun p : Mem => p.2.data) = S at eO
    have pS : S.Perm M := by rw [← hS]; exact List.mergeSort_perm _ _
    have rS : Rise (fun p : Mem => p.2.data) S := by rw [← hS]; exact rise_sort M
    have hp : s.heap.objs.size ≤ s1.heap.objs.size := z1
    have hn : H s1.heap.objs.size = none := I.hok.fresh hp
    have old : ∀ b u, s.heap.get? b = some u → (sortedHeap (s1.heap.push (seqObj "list" (M.map fun p => Value.ref p.1).toArray 0)) s1.heap.objs.size (M.map fun p => Value.ref p.1) out.toArray).get? b = some u := fun b u e => by
      have q := k1 b u e
      have lt := Heap.lt_size q
      exact (sortedHeap_old (Nat.ne_of_lt lt) (by rw [size_push']; exact Nat.lt_succ_of_lt lt)).trans (Heap.get?_push_of_some _ q)
    have fit : (S.map fun p => V.ref p.1).length ≤ sizeLine := by rw [List.length_map, pS.length_eq, sizeLine_eq]; omega
    have J : Inv X pins σ (upd H s1.heap.objs.size (.lst (S.map fun p => V.ref p.1))) { s with heap := sortedHeap (s1.heap.push (seqObj "list" (M.map fun p => Value.ref p.1).toArray 0)) s1.heap.objs.size (M.map fun p => Value.ref p.1) out.toArray, gens := s1.gens, drawn := s1.drawn, toks := s1.toks } :=
      I.call (ch := []) (Un.laid old hp hn) (I.hok.laid old hp ⟨fit, out, c, by rw [eO]; exact vals_refs S, hc2⟩) (by rw [g1]; exact I.bare) fun _ z => nomatch z
    refine wpAny_pure ⟨_, rfl, ⟨.ref s1.heap.objs.size, _, ?_, rfl, q S s1.heap.objs.size (pS.trans pM) rS hn⟩⟩
    have e : ({ s1 with heap := sortedHeap (s1.heap.push (seqObj "list" (M.map fun p => Value.ref p.1).toArray 0)) s1.heap.objs.size (M.map fun p => Value.ref p.1) out.toArray } : Shared) = { s with heap := sortedHeap (s1.heap.push (seqObj "list" (M.map fun p => Value.ref p.1).toArray 0)) s1.heap.objs.size (M.map fun p => Value.ref p.1) out.toArray, gens := s1.gens, drawn := s1.drawn, toks := s1.toks } := by
      cases s1
      cases s
      cases o1
      rfl
    rw [e]
    exact J
end
end L2.NSet
set_option Elab.async false
set_option linter.all false
set_option maxRecDepth 100000
set_option maxHeartbeats 4000000
/-! Sets of tuples by comprehension. -/
namespace L2.NSet
open PySem PySem.Spec PyProof.Rows L2.Cmp
section
variable {X : Cx}
/-- a.add(x), x a tuple -/
theorem add_tup {P : Program} {w : World} {A : Around} {E : Value → Shared → Prop} {s : Shared} {a : Addr} {L : List Mem} {es : Array (Int × Value)} {ep : Nat} {t : SetTable} (R : Tab P w s.heap a L es ep t) {x : Addr} {k : NestedKey} (hx : Kb P w s.heap k x)
    (hu : A.units + 20 < cLine) (few : L.length + 1 < 64) {Q : Value → Shared → Prop}
    (hQ : ∀ tk h2 L2 es2 ep2 t2, Heap.SameBut a s.heap h2 → Tab P w h2 a L2 es2 ep2 t2 → (k ∈ L.map (·.2) → L2 = L) → (k ∉ L.map (·.2) → L2.Perm ((x, k) :: L)) → Q .none { s with heap := h2, toks := tk }) :
    wpAny (model P w) A (call (.builtin "set.add") [.ref a, .ref x]) Q E s := by
  have ty : s.TypeIs (.ref a) "set" := by
    obtain ⟨o, ho, ox, _⟩ := R.here
    exact ⟨o, ho, ox.1⟩
  refine wpAny_call_entry F.slot_set_add ty F.entry_set_add ?_ (F.args_set_add_2 _ _)
  unfold Builtin.«set.add» Builtin.Frozenset.oneOther Builtin.Frozenset.addrOf setAdd
  simp only [List.isEmpty_nil, bind_assoc]
  refine wpAny_bind (wpAny_pure (wpAny_bind (wpAny_pure (wpAny_bind (wpAny_holding (wpAny_bind ((nestedKind P w).pyHash (show A.units + 1 + 8 < cLine by omega) hx ?_)))))))
  exact lay (s := { s with toks := s.toks + k.draws }) R hx (show A.units + 1 + 8 < cLine by omega) few fun b h2 L2 es2 ep2 t2 sb R2 c1 c2 => wpAny_pure ⟨_, rfl, hQ _ h2 L2 es2 ep2 t2 sb R2 c1 c2⟩
/-- a tuple into the set at D -/
def tAdN (K : PySem.W.Frag) (P : Program) (w : World) (te : TE) (D : Addr) : TAc := fun σ H C => te σ H fun y H1 => ∃ (p : Mem) (L : List Mem), y = .ref p.1 ∧ H1 D = some (SetN P w D L) ∧ (∀ q ∈ L, MemOk K H1 q) ∧ MemOk K H1 p ∧ L.length + 1 < 64 ∧
  ∀ L2, (p.2 ∈ L.map (·.2) → L2 = L) → (p.2 ∉ L.map (·.2) → L2.Perm (p :: L)) → C (upd H1 D (SetN P w D L2))
def tSetN (K : PySem.W.Frag) (P : Program) (w : World) (wi : TI) (g : TG) (tt : TT) (te : TE) (vs : List Nat) : TE := fun σ H Q => wi σ H fun J H1 => ∀ D, H1 D = none → L2.Cmp.Walk J g tt (tAdN K P w te D) vs σ (fun H => Q (.ref D) H) (upd H1 D (SetN P w D []))
theorem emit_tup {B : Cx} (hx : B.xe = nil2) (hu : B.A.units + 64 < cLine) {elt : Expr} {te : TE} (he : PE B elt te) {D : Addr} : ∀ (pl : List (Addr × Obj)) s σ H C, Inv B pl σ H s → tAdN B.K B.prog B.w te D σ H C →
    wpAny (model B.prog B.w) B.A (do let v ← eval elt B.env; standAt elt.pos; let _ ← call (.builtin "set.add") [.ref D, v]) (fun _ s' => ∃ H', Inv B pl σ H' s' ∧ C H') nil2 s := by
  intro pl s σ H C I q
  have a1 := he.run pl s σ H _ I q
  rw [hx] at a1
  refine wpAny_bind (thnF a1 fun v s1 ⟨y, H1, I1, r1, p, L, ey, hD, hL, hp, few, c⟩ => wpAny_bind (wpAny_standAt (wpAny_bind ?_)))
  subst ey
  cases r1
  have R0 : Tab0 B.prog B.w s1.heap D L := (I1.hok D _ hD).1
  obtain ⟨es, ep, t, R⟩ := R0.full fun p m => kb_of I1 (hL p m)
  refine add_tup R (kb_of I1 hp) (by omega) few fun tk h2 L2 es2 ep2 t2 sb R2 c1 c2 => wpAny_pure ⟨_, ?_, c L2 c1 c2⟩
  have N := setN_new (P := B.prog) (w := B.w) (H := upd H1 D (SetN B.prog B.w D L2)) R2.t0
  exact I1.write (e := D) (t' := tk) (by rw [hD]; trivial) (.inl rfl) (fun b o hb ho => (sb.2 b hb).trans ho) (by obtain ⟨o, ho, _⟩ := R2.here; exact ⟨o, ho⟩) (setN_new R2.t0)
variable {elt tg iter : Expr} {ifs : List Expr} {scope : Scope} {own : List (PySem.Str × Nat)} {pos : Pos} {wi : TI} {g : TG} {tt : TT} {te : TE}
theorem pe_setN {K : PySem.W.Frag} {P : Program} {w : World} (eK : X.K = K) (eP : X.prog = P) (ew : X.w = w) (hc : X.calm = true) (hu : X.A.units + 64 < cLine) (hN : X.N.Nodup) (hi : PI X tg iter wi) (ok : BlkOk X.N X.env.scope scope own)
    (hg : ∀ (s : Shared) (H : Hp) (C : Addr) (cl : List (PySem.Str × Addr)) (fp : List Addr), PG (X.blk s H scope (compEnvC scope cl C X.env) fp) tg g) (ht : ∀ (s : Shared) (H : Hp) (C : Addr) (cl : List (PySem.Str × Addr)) (fp : List Addr), PTs (X.blk s H scope (compEnvC scope cl C X.env) fp) ifs tt)
    (he : ∀ (s : Shared) (H : Hp) (C : Addr) (cl : List (PySem.Str × Addr)) (fp : List Addr), PE (X.blk s H scope (compEnvC scope cl C X.env) fp) elt te) (hs : ∀ x, foldedSetIterable iter X.env x = pure x := by intro _; rfl) :
    PE X (.SetComp elt [⟨tg, iter, ifs, 0⟩] scope pos) (tSetN K P w wi g tt te (own.map (·.2))) := by
  subst eK eP ew
  refine ⟨fun pins s σ H Q I h => ?_⟩
  rw [PpSet.eval_SetComp]
  refine block_any (Q := Q) (Rd := fun J D H1 => L2.Cmp.Walk J g tt (tAdN X.K X.prog X.w te D) (own.map fun z : PySem.Str × Nat => z.2) σ (fun H => Q (.ref D) H) H1) (emp := fun D => SetN X.prog X.w D []) (.inl ⟨_, _, _, _, rfl⟩) rfl (fun q => PpSet.newSet_ok q)
    (fun I1 _ => setN_new (Tab.new (Heap.get?_push_size _ rfl)).t0) hc hN I hi ok hs h
    (fun s3 H3 C cl fp it tn J D s4 T stat I4 st4 nfp rd => ?_) fun D C s' m H' I' q hn f => ⟨m, hn, fun h'' sb => ?_⟩
  · exact clause_ok (B := X.blk s3 H3 scope (compEnvC scope cl C X.env) fp) (tail := tailIn _ _) (p := iter.pos) (.inl ⟨_, _, _, _, rfl⟩) rfl rfl rfl hc T (hg s3 H3 C cl fp) (ht s3 H3 C cl fp) stat (act_in (emit_tup (B := X.blk s3 H3 scope (compEnvC scope cl C X.env) fp) rfl hu (he s3 H3 C cl fp))) rfl
      (fun s' H' I' d => ⟨H', I', d⟩) rd I4 st4 nfp
  · obtain ⟨f0, f1, f2, f3, f4, f5⟩ := f
    exact ⟨.ref D, H', I'.turned (t' := s'.toks) (fun b o hb e => (sb.2 b hb).trans e) f0 f1 f3 f4 f5, rfl, q⟩
end
end L2.NSet
set_option Elab.async false
set_option linter.all false
set_option maxRecDepth 100000
set_option maxHeartbeats 4000000
/-! Dict comprehensions with one `for` whose keys are tuples. -/
namespace L2.Cmp
open PySem PySem.Spec PyProof.Rows
theorem d_dictSetT {X : Cx} {pins : List (Addr × Obj)} {σ : List (Option V)} {H : Hp} {s : Shared} {E : Value → Shared → Prop} {D b : Addr} {kvs : List (List L2.Key × V)} {k : List L2.Key} {v : V} {r : Value} {Q : Unit → Shared → Prop} (hu : X.A.units + 1 < cLine) (I : Inv X pins σ H s)
    (e : H D = some (.dT kvs)) (eb : H b = some (.tup (k.map kV))) (l : kvs.length < sizeLine) (rv : RelV v r) (h : ∀ s', Inv X pins σ (upd H D (.dT (putK kvs k v))) s' → Q () s') : wpAny (model X.prog X.w) X.A (dictSet D (.ref b) r) Q E s := by
  obtain ⟨z, hd, xs, rel, dd⟩ := dt_of I.hok e
  have hz : xs.length ≤ sizeLine := by rw [← Paired.length rel]; exact z
  have hl : (putK kvs k v).length ≤ sizeLine := by have := length_putK kvs k v; omega
  refine wpAny_dictSet_heap (hsz := hz) (show (tupleKind (mixKind X.prog X.w)).room X.A from ?_) (key_of I.hok eb) dd fun h' dd' hs => h _ ?_
  · exact Nat.lt_of_succ_lt hu
  · obtain ⟨q, es, ep, hq, h2, h3, h4, _, h5⟩ := dd'
    refine d_write I (by rw [e]; exact True.intro) hs ⟨q, hq⟩ ⟨hl, hd, _, (rel.put k eb rv).keeps fun c ys ec => ?_, q, es, ep, hq, h2, h3, h4, h5⟩
    rw [upd_ne (ne_of ec e (fun z => nomatch z))]
    exact ec
def tPutT (tk tv : TE) (D : Addr) : TAc := fun σ H C => tk σ H fun y H1 => tv σ H1 fun x H2 => ∃ (kvs : List (List L2.Key × V)) (k : List L2.Key) (b : Addr), y = .ref b ∧ H2 b = some (.tup (k.map kV)) ∧ H2 D = some (.dT kvs) ∧ kvs.length < sizeLine ∧ C (upd H2 D (.dT (putK kvs k x)))
def tDictT (wi : TI) (g : TG) (tt : TT) (tk tv : TE) (vs : List Nat) : TE := fun σ H Q => wi σ H fun J H1 => ∀ D, H1 D = none → Walk J g tt (tPutT tk tv D) vs σ (fun H => Q (.ref D) H) (upd H1 D (.dT []))
section
variable {X : Cx} {kx vx tg iter : Expr} {ifs : List Expr} {scope : Scope} {own : List (PySem.Str × Nat)} {pos : Pos} {wi : TI} {g : TG} {tt : TT} {tk tv : TE}
theorem emit_putT {B : Cx} (hx : B.xe = nil2) (hu : B.A.units + 1 < cLine) (hk : PE B kx tk) (hv : PE B vx tv) {D : Addr} {p : Pos} : ∀ (pl : List (Addr × Obj)) s σ H C, Inv B pl σ H s → tPutT tk tv D σ H C →
    wpAny (model B.prog B.w) B.A (do let kv ← eval kx B.env; let vv ← holding [kv] (eval vx B.env); standAt p; holding [kv, vv] (dictSet D kv vv)) (fun _ s' => ∃ H', Inv B pl σ H' s' ∧ C H') nil2 s := by
  intro pl s σ H C I q
  have a1 := hk.run pl s σ H _ I q
  rw [hx] at a1
  refine wpAny_bind (thnF a1 fun kv s1 ⟨y, H1, I1, r1, q1⟩ => ?_)
  have a2 := hv.run pl s1 σ H1 _ I1 q1
  rw [hx] at a2
  refine wpAny_bind (wpAny_holding (thnF a2 fun vv s2 ⟨x, H2, I2, r2, kvs, k, b, ey, eb, hD, few, c⟩ => ?_))
  subst ey
  cases r1
  exact wpAny_bind (wpAny_standAt (wpAny_holding (d_dictSetT hu I2 hD eb few r2 fun s3 I3 => ⟨_, I3, c⟩)))
theorem pe_dictT (hc : X.calm = true) (hu : X.A.units + 1 < cLine) (hN : X.N.Nodup) (hi : PI X tg iter wi) (ok : BlkOk X.N X.env.scope scope own)
    (hg : ∀ (s : Shared) (H : Hp) (C : Addr) (cl : List (PySem.Str × Addr)) (fp : List Addr), PG (X.blk s H scope (compEnvC scope cl C X.env) fp) tg g) (ht : ∀ (s : Shared) (H : Hp) (C : Addr) (cl : List (PySem.Str × Addr)) (fp : List Addr), PTs (X.blk s H scope (compEnvC scope cl C X.env) fp) ifs tt)
    (hk : ∀ (s : Shared) (H : Hp) (C : Addr) (cl : List (PySem.Str × Addr)) (fp : List Addr), PE (X.blk s H scope (compEnvC scope cl C X.env) fp) kx tk) (he : ∀ (s : Shared) (H : Hp) (C : Addr) (cl : List (PySem.Str × Addr)) (fp : List Addr), PE (X.blk s H scope (compEnvC scope cl C X.env) fp) vx tv)
    (hs : ∀ x, foldedSetIterable iter X.env x = pure x := by intro _; rfl) :
    PE X (.DictComp kx vx [⟨tg, iter, ifs, 0⟩] scope pos) (tDictT wi g tt tk tv (own.map (·.2))) := by
  refine ⟨fun pins s σ H Q I h => ?_⟩
  rw [arm_eval_DictComp]
  refine block_any (Q := Q) (Rd := fun J D H1 => Walk J g tt (tPutT tk tv D) (own.map fun z : PySem.Str × Nat => z.2) σ (fun H => Q (.ref D) H) H1) (emp := fun _ => .dT []) (.inr (.inr ⟨_, _, _, _, _, rfl⟩)) rfl
    (fun q => wpAny_newObj_type q) (fun I' H' => dt_empty _ I'.big) hc hN I hi ok hs h
    (fun s3 H3 C cl fp it tn J D s4 T stat I4 st4 nfp rd => ?_) fun D C s' m H' I' q hn f => ⟨m, hn, fun h'' sb => ?_⟩
  · exact clause_ok (B := X.blk s3 H3 scope (compEnvC scope cl C X.env) fp) (tail := tailIn _ _) (p := iter.pos) (.inr (.inr ⟨_, _, _, _, _, rfl⟩)) rfl rfl rfl hc T (hg s3 H3 C cl fp) (ht s3 H3 C cl fp) stat
      (act_in (emit_putT (B := X.blk s3 H3 scope (compEnvC scope cl C X.env) fp) rfl hu (hk s3 H3 C cl fp) (he s3 H3 C cl fp))) rfl (fun s' H' I' d => ⟨H', I', d⟩) rd I4 st4 nfp
  · obtain ⟨f0, f1, f2, f3, f4, f5⟩ := f
    exact ⟨.ref D, H', I'.turned (t' := s'.toks) (fun b o hb e => (sb.2 b hb).trans e) f0 f1 f3 f4 f5, rfl, q⟩
end
end L2.Cmp
set_option Elab.async false
set_option linter.all false
set_option maxRecDepth 100000
set_option maxHeartbeats 4000000
/-! Store made of facts. -/
namespace L2.LawH
open PySem PySem.Spec PyProof.Rows L2.NSet PySem.W
abbrev sInitS : Stmt := inClass (top 16) 0
/-- a fact as a member of a set, and as a key -/
def ptM (x : Pt) : Mem := (x.1, .tup (.text x.2.1 :: x.2.2.map .text))
def ptK (x : Pt) : List L2.Key := (Sum.inr x.2.1 : L2.Key) :: x.2.2.map Sum.inr
def ptV (x : Pt) : List V := .str x.2.1 :: x.2.2.map V.str
theorem ptK_V (x : Pt) : (ptK x).map kV = ptV x := by
  unfold ptK ptV
  rw [List.map_cons, List.map_map]
  rfl
theorem cr_setNK {X : Cx} {K : PySem.W.Frag} {P : Program} {w : World} (eK : X.K = K) (eP : X.prog = P) (ew : X.w = w) (hc : X.calm = true) (hu : X.A.units + 64 < cLine) : CallR X (.type "set") (rSetN K P w) := by
  subst eK eP ew
  exact cr_setN hc hu
theorem cr_sortNK {X : Cx} {K : PySem.W.Frag} {P : Program} {w : World} (eK : X.K = K) (eP : X.prog = P) (ew : X.w = w) (hc : X.calm = true) (hu : X.A.units + 64 < cLine) : CallR X (.builtin "sorted") (rSortN K P w) := by
  subst eK eP ew
  exact cr_sortN hc hu
theorem ptK_inj {x y : Pt} (h : ptK x = ptK y) : x.2 = y.2 := by
  unfold ptK at h
  injection h with h1 h2
  refine Prod.ext (Sum.inr.inj h1) ?_
  exact List.map_inj_right (fun a b e => Sum.inr.inj e) |>.mp h2
theorem ptM_inj {x y : Pt} (h : (ptM x).2 = (ptM y).2) : x.2 = y.2 := by
  unfold ptM at h
  injection h with h
  injection h with h1 h2
  injection h1 with h1
  exact Prod.ext h1 (List.map_inj_right (fun a b e => by injection e) |>.mp h2)
theorem lift_sub {α β : Type} (f : α → β) {xs : List α} : ∀ {M : List β}, (∀ p ∈ M, p ∈ xs.map f) → ∃ Ms : List α, M = Ms.map f ∧ ∀ x ∈ Ms, x ∈ xs
  | [], _ => ⟨[], rfl, fun x h => nomatch h⟩
  | p :: M, h => by
    obtain ⟨Ms, e, g⟩ := lift_sub f (M := M) fun q hq => h q (List.mem_cons_of_mem _ hq)
    obtain ⟨x, hx, ex⟩ := List.mem_map.mp (h p List.mem_cons_self)
    exact ⟨x :: Ms, by rw [List.map_cons, ex, e], fun y hy => (List.mem_cons.mp hy).elim (fun e => by rw [e]; exact hx) (g y)⟩
theorem valV_out {κ : Type} [DecidableEq κ] {kvs : List (κ × V)} {k : κ} (h : k ∉ kvs.map (·.1)) : valV kvs k = none := by
  cases e : valV kvs k with
  | none => rfl
  | some v =>
    have a := valV_any k kvs
    rw [e] at a
    obtain ⟨kv, m, d⟩ := List.any_eq_true.mp a
    exact absurd (List.mem_map.mpr ⟨kv, m, of_decide_eq_true d⟩) h
theorem datas_text : ∀ zs : List Str, NestedKey.datas (zs.map NestedKey.text) = zs.map PyData.str
  | [] => by simp [NestedKey.datas]
  | z :: zs => by
    rw [List.map_cons, List.map_cons, NestedKey.datas, datas_text zs]
    simp [NestedKey.data]
theorem data_ptM (x : Pt) : (ptM x).2.data = .tuple ((x.2.1 :: x.2.2).map PyData.str) := by
  unfold ptM
  rw [← List.map_cons, NestedKey.data, datas_text]
theorem alike_texts : ∀ a b : List Str, alikeAll (a.map PyData.str) (b.map PyData.str) = true
  | [], _ => by simp [alikeAll]
  | _ :: _, [] => by simp [alikeAll]
  | a :: as, b :: bs => by
    rw [List.map_cons, List.map_cons, alikeAll, alike_texts as bs]
    simp [alike]
theorem alike_ptM (x y : Pt) : alike (ptM x).2.data (ptM y).2.data = true := by
  rw [data_ptM, data_ptM, alike]
  exact alike_texts _ _
theorem ddepth_texts : ∀ a : List Str, PyData.depthAll (a.map PyData.str) = 0
  | [] => by simp [PyData.depthAll]
  | a :: as => by
    rw [List.map_cons, PyData.depthAll, ddepth_texts as]
    simp [PyData.depth]
theorem ddepth_ptM (x : Pt) : (ptM x).2.data.depth ≤ 1 := by
  rw [data_ptM, PyData.depth, ddepth_texts]
  exact Nat.le_refl _
theorem kdepth_texts : ∀ a : List Str, NestedKey.depthAll (a.map NestedKey.text) = 0
  | [] => by simp [NestedKey.depthAll]
  | a :: as => by
    rw [List.map_cons, NestedKey.depthAll, kdepth_texts as]
    simp [NestedKey.depth]
theorem kdepth_ptM (x : Pt) : (ptM x).2.depth ≤ 1 := by
  unfold ptM
  rw [← List.map_cons, NestedKey.depth, kdepth_texts]
  exact Nat.le_refl _
theorem dp_texts {K : PySem.W.Frag} {H : Hp} : ∀ zs : List Str, DpAll K H (zs.map V.str) (zs.map PyData.str)
  | [] => .nil
  | z :: zs => .cons (.str z) (dp_texts zs)
theorem memOk_pt {K : PySem.W.Frag} {H : Hp} {x : Pt} (h : H x.1 = some (.tup (ptV x))) : MemOk K H (ptM x) := by
  refine ⟨.inl ?_, Nat.le_trans (kdepth_ptM x) (by decide)⟩
  rw [data_ptM]
  exact .tup (SqT.of h) (dp_texts (x.2.1 :: x.2.2))
/-- a for over a list or a tuple -/
theorem for_seq {K : PySem.W.Frag} {q : Addr} {xs : List V} {g : TG} {tb : TS} {D : Ends} {σ : St} {H : Hp} (hq : SqL K H q xs ∨ SqT K H q xs) (Pv : Nat → St → Hp → Prop) (h0 : Pv 0 σ H) (st : ∀ i σ H', Pv i σ H' → Ext H H')
    (hs : ∀ i x σ H', xs[i]? = some x → Pv i σ H' → g x σ H' fun σ2 H2 => tb { D with nx := Pv (i + 1), ct := Pv (i + 1), bk := D.nx } σ2 H2) (hd : ∀ σ H, Pv xs.length σ H → D.nx σ H) :
    ((∃ xs, SqL K H q xs) ∧ ∃ W : Nat → Nat → St → Hp → Prop, (∃ m, W 0 m σ H) ∧ ∀ i m σ H, W i m σ H →
      ((Itl K q).stop i H ∧ D.nx σ H) ∨ ((Itl K q).go i H ∧ ∃ N : St → Hp → Prop, (∀ σ' H', N σ' H' → ∃ m', m' < m ∧ W (i + 1) m' σ' H') ∧ ∀ x H', (Itl K q).yld i H x H' → g x σ H' fun σ2 H2 => tb { D with nx := N, ct := N, bk := D.nx } σ2 H2)) ∨
    ((∃ xs, SqT K H q xs) ∧ ∃ W : Nat → Nat → St → Hp → Prop, (∃ m, W 0 m σ H) ∧ ∀ i m σ H, W i m σ H →
      ((Itt K q).stop i H ∧ D.nx σ H) ∨ ((Itt K q).go i H ∧ ∃ N : St → Hp → Prop, (∀ σ' H', N σ' H' → ∃ m', m' < m ∧ W (i + 1) m' σ' H') ∧ ∀ x H', (Itt K q).yld i H x H' → g x σ H' fun σ2 H2 => tb { D with nx := N, ct := N, bk := D.nx } σ2 H2)) :=
  hq.elim
    (fun e => .inl ⟨⟨_, e⟩, for_it (L2.walk_list (K := K)) Pv h0 (fun i σ H' _ p => e.ext (st i σ H' p)) (fun i x σ H' H'' _ p y => by obtain ⟨rfl, hx⟩ := y; exact hs i x σ _ hx p) hd⟩)
    (fun e => .inr ⟨⟨_, e⟩, for_it (L2.walk_tup (K := K)) Pv h0 (fun i σ H' _ p => e.ext (st i σ H' p)) (fun i x σ H' H'' _ p y => by obtain ⟨rfl, hx⟩ := y; exact hs i x σ _ hx p) hd⟩)
/-- the fields of a Store -/
abbrev fsS (t d : Addr) : List (Str × V) := putF "_groups" .non (putF "_held" (.ref d) (putF "_facts" (.ref t) []))
def spInitS (C : Addr) (K : PySem.W.Frag) : Sp := fun vs H Q _ => ∃ (p q dx : Addr) (xs : List Pt), vs = [.ref p, .ref q] ∧ H p = some (.ins C dx []) ∧ (SqL K H q (xs.map fun x => V.ref x.1) ∨ SqT K H q (xs.map fun x => V.ref x.1)) ∧
  (∀ x ∈ xs, H x.1 = some (.tup (ptV x)) ∧ factB (ptV x) = true ∧ x.2.2.length ≤ 3 ∧ ∀ y ∈ ptV x, Okv K H y) ∧ xs.length < 63 ∧
  ∀ (H' : Hp) (t d : Addr) (M : List Pt), (∀ b o, b ≠ p → H b = some o → H' b = some o) → H' p = some (.ins C dx (fsS t d)) → H' t = some (.tup (M.map fun x => V.ref x.1)) → H t = none → H d = none →
    H' d = some (.dT (M.map fun x => (ptK x, V.bl true))) → (∀ x ∈ M, x ∈ xs) → (∀ x ∈ xs, x.2 ∈ M.map (·.2)) → (M.map (·.2)).Nodup → Rise (fun x : Pt => (ptM x).2.data) M → Q .non H'
structure StT (K : PySem.W.Frag) (mg : Str → Option Value) (C : Addr) : Prop where
  cl : Cls K C
  nF : NoAttr K C "_facts"
  nH : NoAttr K C "_held"
  nG : NoAttr K C "_groups"
section
variable {P : Program} {w : World} {K : PySem.W.Frag} {mg : Str → Option Value} {base : Heap}
abbrev nIS : List Str := ["self", "facts", "value", "fact"]
theorem scIS : FnScope nIS ["self", "facts"] (defScope sInitS) := ⟨rfl, rfl, rfl, by decide +kernel, rfl, by decide +kernel, by decide +kernel⟩
theorem ok_initS {f fF C : Addr} {fd fdF : FuncData} {T1 : V} (F : FunD K "__init__" "Store.__init__" (defArgs sInitS) (defBody sInitS) (defScope sInitS) [T1] [] f fd) (T : StT K mg C)
    (GF : FnOk P w K mg base CX0 4 fF fdF ["value"] (spIsP K factB)) (kF : PySem.W.keepIn K (.ref fF) = true) (bF : Binds K fdF ["value"] []) (mF : mg "is_fact" = some (.ref fF))
    (ms : mg "sorted" = none) (mt : mg "tuple" = none) (mS : mg "set" = none) :
    FnOk P w K mg base CX0 5 f fd ["self", "facts"] (spInitS C K) := by
  refine F.ok scIS (fun vs H Q E h => ?_) (fun cdv A outer s H vs Q E hr h => ?_)
  · obtain ⟨p, q, dx, xs, rfl, _⟩ := h
    rfl
  · obtain ⟨p, q, dx, xs, rfl, hp, hq, each, few, k⟩ := h
    have hu := hr.units
    have hu1 := hu_of hr
    refine ⟨_, PSs.nox (pss_cons (ps_for PassesOwn.never rfl (pi_seq (pv 1)) (pg_name (i := 2) scIS.nd rfl (Or.inl rfl))
        (pss_one (ps_if (pt_not (pt_val (pe_call GF hr (by rfl) mF kF bF .nil pass0 (pa_cons (pv 2) pa_nil)))) (pss_one ps_never) pss_nil)))
      (pss_cons (ps_fld (pv 0) (pe_callTy call_tuple_of (by rfl) mt (by decide +kernel) (pa_cons (pe_callB (cr_sortNK (K := K) (P := P) (w := w) rfl rfl rfl rfl hu) (by rfl) ms (by decide +kernel) (pa_cons (pe_callTy (cr_setNK (K := K) (P := P) (w := w) rfl rfl rfl rfl hu) (by rfl) mS (by decide +kernel) (pa_cons (pv 1) pa_nil)) pa_nil)) pa_nil)) rfl)
      (pss_cons (ps_fld (pv 0) (Cmp.pe_dictT (own := [("fact", 3)]) (g := gName 3) (tt := tYes) rfl hu1 scIS.nd (pi_tup (pe_fld (pv 0) rfl))
        (blkOk_by (own := [("fact", 3)]) (N := nIS) (sc := defScope sInitS) (by decide +kernel)) (fun _ _ _ _ _ => pg_name (i := 3) scIS.nd rfl (Or.inl rfl)) (fun _ _ _ _ _ => pts_nil)
        (fun _ _ _ _ _ => pv 3) (fun _ _ _ _ _ => pe_bl)) rfl)
      (pss_one (ps_fld (pv 0) pe_non rfl))))), ?_⟩
    refine ⟨_, rfl, q, rfl, for_seq hq (fun i σ H5 => ∃ v2 : Option V, σ = [some (.ref p), some (.ref q), v2, none] ∧ Same H H5) ⟨none, rfl, fun _ _ h => h⟩ (fun i σ H5 p => let ⟨_, _, s⟩ := p; s) (fun i z σ H5 hz pp => ?_) (fun σ H5 pp => ?_)⟩
    · obtain ⟨v2, rfl, s5⟩ := pp
      rw [List.getElem?_map] at hz
      obtain ⟨x, hx, rfl⟩ := Option.map_eq_some_iff.mp hz
      obtain ⟨e1, e2, e3, e4⟩ := each x (List.mem_of_getElem? hx)
      refine ⟨_, rfl, .ref x.1, rfl, .inl ⟨x.1, ptV x, rfl, s5 _ _ e1, ?_, fun y hy => (e4 y hy).same s5, fun H6 s6 => ?_⟩⟩
      · unfold ptV
        rw [List.length_cons, List.length_map]
        omega
      · rw [e2]
        exact ⟨true, rfl, iteF ⟨_, rfl, fun b o h => s6 _ _ (s5 _ _ h)⟩⟩
    · obtain ⟨v2, rfl, s5⟩ := pp
      have each5 : ∀ x ∈ xs, H5 x.1 = some (.tup (ptV x)) := fun x hx => s5 _ _ (each x hx).1
      have em : (xs.map ptM).map (fun z : Mem => V.ref z.1) = xs.map fun x => V.ref x.1 := by
        rw [List.map_map]
        rfl
      refine ⟨_, rfl, q, xs.map ptM, rfl, ?_, fun z hz => ?_, by rw [List.length_map]; omega, fun sa L ns sub all nd => ?_⟩
      · rw [em]
        exact hq.imp (fun e => e.ext s5) fun e => e.ext s5
      · obtain ⟨x, hx, rfl⟩ := List.mem_map.mp hz
        exact memOk_pt (each5 x hx)
      have s6 : Same H5 (upd H5 sa (SetN P w sa L)) := same_new ns
      have h6 : (upd H5 sa (SetN P w sa L)) sa = some (SetN P w sa L) := upd_same
      generalize upd H5 sa (SetN P w sa L) = H6 at s6 h6 ⊢
      refine ⟨sa, L, rfl, h6, fun z hz => ?_, fun d hd d2 hd2 => ?_, fun z hz => ?_, fun z hz => ?_, fun M l pM rM nl => ?_⟩
      · obtain ⟨x, hx, rfl⟩ := List.mem_map.mp (sub z hz)
        exact memOk_pt (s6 _ _ (each5 x hx))
      · obtain ⟨z, hz, rfl⟩ := List.mem_map.mp hd
        obtain ⟨z2, hz2, rfl⟩ := List.mem_map.mp hd2
        obtain ⟨x, hx, rfl⟩ := List.mem_map.mp (sub z hz)
        obtain ⟨x2, hx2, rfl⟩ := List.mem_map.mp (sub z2 hz2)
        exact alike_ptM x x2
      · obtain ⟨x, hx, rfl⟩ := List.mem_map.mp (sub z hz)
        exact ⟨_, rfl⟩
      · obtain ⟨x, hx, rfl⟩ := List.mem_map.mp (sub z hz)
        exact Nat.le_trans (ddepth_ptM x) (by decide)
      obtain ⟨Ms, rfl, subM⟩ := lift_sub ptM (xs := xs) (M := M) fun z hz => sub z (pM.mem_iff.mp hz)
      have ndM : (Ms.map (·.2)).Nodup := by
        have h := ((pM.map (·.2)).nodup_iff).mpr nd
        rw [List.map_map, List.Nodup, List.pairwise_map] at h
        rw [List.Nodup, List.pairwise_map]
        exact List.Pairwise.imp (fun {a b} h e => h (by show (ptM a).2 = (ptM b).2; unfold ptM; rw [show a.2.1 = b.2.1 by rw [e], show a.2.2 = b.2.2 by rw [e]])) h
      have rise : Rise (fun x : Pt => (ptM x).2.data) Ms := List.pairwise_map.mp rM
      have allM : ∀ x ∈ xs, x.2 ∈ Ms.map (·.2) := fun x hx => by
        obtain ⟨z, hz, e⟩ := List.mem_map.mp (all (ptM x) (List.mem_map.mpr ⟨x, hx, rfl⟩))
        obtain ⟨y, hy, rfl⟩ := List.mem_map.mp (pM.mem_iff.mpr hz)
        exact List.mem_map.mpr ⟨y, hy, ptM_inj e⟩
      have few2 : Ms.length ≤ 63 := by
        have := nodup_len (Ms.map (·.2)) (xs.map (·.2)) ndM fun c hc => by
          obtain ⟨y, hy, rfl⟩ := List.mem_map.mp hc
          exact List.mem_map.mpr ⟨y, subM y hy, rfl⟩
        rw [List.length_map, List.length_map] at this
        omega
      rw [List.map_map]
      refine ⟨l, _, rfl, .inl ⟨SqL.of upd_same, fun t nt => ?_⟩⟩
      have s7 : Same H5 (upd (upd H6 l (.lst (Ms.map ((fun z : Mem => V.ref z.1) ∘ ptM)))) t (.tup (Ms.map ((fun z : Mem => V.ref z.1) ∘ ptM)))) := fun b o h => same_new nt _ _ (same_new nl _ _ (s6 _ _ h))
      have h7 : (upd (upd H6 l (.lst (Ms.map ((fun z : Mem => V.ref z.1) ∘ ptM)))) t (.tup (Ms.map ((fun z : Mem => V.ref z.1) ∘ ptM)))) t = some (.tup (Ms.map fun x => V.ref x.1)) := upd_same
      generalize upd (upd H6 l (.lst (Ms.map ((fun z : Mem => V.ref z.1) ∘ ptM)))) t (.tup (Ms.map ((fun z : Mem => V.ref z.1) ∘ ptM))) = H7 at s7 h7 ⊢
      have pt : p ≠ t := fun e => by
        have h := s5 _ _ hp
        rw [← e] at nt
        rw [same_new nl _ _ (s6 _ _ h)] at nt
        cases nt
      have hp7 := s7 _ _ (s5 _ _ hp)
      refine ⟨_, rfl, p, C, dx, [], rfl, hp7, T.cl, T.nF, (by show 0 < 1000; decide), ?_⟩
      -- the dict
      have a1 : (upd H7 p (.ins C dx (putF "_facts" (.ref t) []))) p = some (.ins C dx (putF "_facts" (.ref t) [])) := upd_same
      have a2 : ∀ b o, b ≠ p → H7 b = some o → (upd H7 p (.ins C dx (putF "_facts" (.ref t) []))) b = some o := fun b o nb h => by
        rw [upd_ne nb]
        exact h
      have a3 := a2 _ _ (Ne.symm pt) h7
      have eachM : ∀ x ∈ Ms, (upd H7 p (.ins C dx (putF "_facts" (.ref t) []))) x.1 = some (.tup (ptV x)) := fun x hx => by
        refine a2 _ _ (fun e => ?_) (s7 _ _ (each5 x (subM x hx)))
        have h := each5 x (subM x hx)
        rw [e, s5 _ _ hp] at h
        cases h
      have ntH : H t = none := by
        cases h : H t with
        | none => rfl
        | some o => rw [same_new nl _ _ (s6 _ _ (s5 _ _ h))] at nt; cases nt
      generalize hH8 : upd H7 p (.ins C dx (putF "_facts" (.ref t) [])) = H8 at a1 a2 a3 eachM ⊢
      refine ⟨_, rfl, p, C, dx, _, .ref t, rfl, a1, T.cl, T.nF, rfl, t, rfl, ⟨_, SqT.of a3⟩, fun D nD => ?_⟩
      refine walk_tup (xs := Ms.map fun x => V.ref x.1) _ _ _ _ _ _ _ (fun i H9 => H9 D = some (.dT ((Ms.take i).map fun x => (ptK x, V.bl true))) ∧ Same H8 H9) ⟨upd_same, same_new nD⟩ (fun i H9 hi p => SqT.of (p.2 _ _ a3)) (fun i z H9 hz pp => ?_) (fun H9 pp => ?_)
      · obtain ⟨b1, b2⟩ := pp
        rw [List.getElem?_map] at hz
        obtain ⟨x, hx, rfl⟩ := Option.map_eq_some_iff.mp hz
        have mx : x ∈ Ms := List.mem_of_getElem? hx
        refine ⟨rfl, ?_⟩
        dsimp only [tYes]
        rw [if_pos rfl]
        have tk1 : Ms.take (i + 1) = Ms.take i ++ [x] := by
          rw [List.take_succ, hx]
          rfl
        have fresh : ptK x ∉ ((Ms.take i).map fun x => (ptK x, V.bl true)).map (·.1) := fun h => by
          rw [List.map_map] at h
          obtain ⟨y, hy, e⟩ := List.mem_map.mp h
          have nd2 : ((Ms.take (i + 1)).map (·.2)).Nodup := ((List.take_sublist (i + 1) Ms).map _).nodup ndM
          rw [tk1, List.map_append, List.nodup_append] at nd2
          exact nd2.2.2 _ (List.mem_map.mpr ⟨y, hy, rfl⟩) _ (by simp) (ptK_inj e)
        refine ⟨_, rfl, _, ptK x, x.1, rfl, by rw [ptK_V]; exact b2 _ _ (eachM x mx), b1, ?_, ?_, fun b o h => ?_⟩
        · rw [List.length_map, List.length_take, sizeLine_eq]
          omega
        · rw [upd_same, putK_new _ (valV_out fresh), tk1, List.map_append]
          rfl
        · rw [upd_ne (ne_of_none h nD)]
          exact b2 _ _ h
      · obtain ⟨b1, b2⟩ := pp
        rw [List.length_map, List.take_length] at b1
        have Dp' : D ≠ p := fun e => by
          rw [e, a1] at nD
          cases nD
        refine ⟨_, rfl, p, C, dx, _, rfl, b2 _ _ a1, T.cl, T.nH, (by show 1 < 1000; decide), ?_⟩
        refine ⟨_, rfl, p, C, dx, _, rfl, upd_same, T.cl, T.nG, (by show 2 < 1000; decide), ?_⟩
        refine k _ t D Ms (fun b o nb h => ?_) upd_same ?_ ntH ?_ ?_ subM allM ndM rise
        · rw [upd_ne nb, upd_ne nb]
          exact b2 _ _ (a2 _ _ nb (s7 _ _ (s5 _ _ h)))
        · rw [upd_ne (Ne.symm pt), upd_ne (Ne.symm pt)]
          exact b2 _ _ a3
        · cases h : H D with
          | none => rfl
          | some o =>
            by_cases e : D = p
            · exact absurd e Dp'
            · rw [a2 _ _ e (s7 _ _ (s5 _ _ h))] at nD
              cases nD
        · rw [upd_ne Dp', upd_ne Dp']
          exact b1
end
end L2.LawH
set_option Elab.async false
set_option linter.all false
set_option maxRecDepth 100000
set_option maxHeartbeats 4000000
/-! pattern_text. -/
namespace L2.LawH
open PySem PySem.Spec PyProof.Rows L2.Cmp L2.TxtSet
abbrev sPt12 : Stmt := top 12
theorem len_app (a b : Str) : (a ++ b).length = a.length + b.length := by
  rw [← length_toList, toList_append, List.length_append, length_toList, length_toList]
theorem join_len (sep : Str) : ∀ ys : List Str, (Str.join sep ys).length ≤ (ys.map (·.length)).sum + ys.length * sep.length
  | [] => Nat.zero_le _
  | [x] => by
    show x.length ≤ _
    simp
  | x :: y :: r => by
    have ih := join_len sep (y :: r)
    show (x ++ sep ++ Str.join sep (y :: r)).length ≤ _
    rw [len_app, len_app, List.map_cons, List.sum_cons, List.length_cons, Nat.succ_mul]
    omega
theorem sum_le (B : Nat) : ∀ ys : List Str, (∀ y ∈ ys, y.length ≤ B) → (ys.map (·.length)).sum ≤ ys.length * B
  | [], _ => Nat.zero_le _
  | x :: r, h => by
    have ih := sum_le B r fun y m => h y (List.mem_cons_of_mem _ m)
    have hx := h x List.mem_cons_self
    rw [List.map_cons, List.sum_cons, List.length_cons, Nat.succ_mul]
    omega
/-- the text of a pattern, as it is put together -/
def ptext (T : Str) (zs : List Str) : Str := Str.empty ++ T ++ "(" ++ Txt.join "," zs ++ ")"
def spPtx : Sp := fun vs H Q _ => ∃ (t : Addr) (T : Str) (zs : List Str), vs = [.ref t] ∧ H t = some (.tup (.str T :: zs.map V.str)) ∧ zs.length ≤ 100 ∧ T.length ≤ 1000 ∧ (∀ z ∈ zs, z.length ≤ 1000) ∧
  ∀ H', Same H H' → Q (.str (ptext T zs)) H'
section
variable {P : Program} {w : World} {K : PySem.W.Frag} {mg : Str → Option Value} {base : Heap}
theorem scPx : FnScope ["pattern", "terms"] ["pattern"] (defScope sPt12) := ⟨rfl, rfl, rfl, by decide +kernel, rfl, by decide +kernel, by decide +kernel⟩
theorem ok_ptx {f : Addr} {fd : FuncData} (F : Fun K "pattern_text" "pattern_text" sPt12 f fd) : FnOk P w K mg base CX0 1 f fd ["pattern"] spPtx := by
  refine F.ok scPx (fun vs H Q E h => ?_) (fun cdv A outer s H vs Q E hr h => ?_)
  · obtain ⟨t, T, zs, rfl, _⟩ := h
    rfl
  · obtain ⟨t, T, zs, rfl, ht, few, lT, lz, k⟩ := h
    refine ⟨_, pss_cons (ps_set (i := 1) scPx.nd rfl (Or.inl rfl) (pe_join pe_str (pe_slice sl_tup (pv 0) (po_some pe_int) po_none)))
      (pss_one (ps_ret (pe_joined (.cons (pe_fmt (pe_ix ix_tup (pv 0) pe_int (fun _ _ => rfl))) (.cons pe_str (.cons (pe_fmt (pv 1)) (.cons pe_str .nil))))))), ?_⟩
    have e0 : Str.empty.length = 0 := rfl
    have s1 := sum_le 1000 zs lz
    have c1 : (("," : String) : Str).length = 1 := by decide +kernel
    have c2 : (("(" : String) : Str).length = 1 := by decide +kernel
    have c3 : (((")" : String)) : Str).length = 1 := by decide +kernel
    have jl : (Txt.join "," zs).length ≤ 110000 := by
      have q := join_len "," zs
      rw [c1] at q
      have e : Txt.join "," zs = Str.join "," zs := StrLaws.glued_eq_join _ _
      rw [e]
      refine Nat.le_trans q ?_
      have : zs.length * 1000 ≤ 100 * 1000 := Nat.mul_le_mul_right _ few
      omega
    refine ⟨⟨_, rfl⟩, _, rfl, _, rfl, t, _, rfl, SqT.of ht, cut_part _ _, fun u nu => ?_⟩
    rw [cut_one]
    refine ⟨_, u, zs, rfl, rfl, .inr (SqT.of upd_same), ?_, ?_⟩
    · rw [c1]
      have : zs.length * 1000 ≤ 100 * 1000 := Nat.mul_le_mul_right _ few
      omega
    · have ht2 := (same_new nu (o := .tup (zs.map V.str))) _ _ ht
      refine ⟨_, rfl, t, _, 0, _, rfl, rfl, SqT.of ht2, atI_nat (j := 0) rfl, .inl ⟨T, rfl, ?_, T, rfl, ?_, _, rfl, ?_, _, rfl, .inl ⟨_, rfl, ?_, _, rfl, ?_, _, rfl, ?_, ?_⟩⟩⟩
      · rw [sizeLine_eq]; omega
      · rw [len_app, e0, sizeLine_eq]; omega
      · rw [len_app, len_app, e0, c2, sizeLine_eq]; omega
      · rw [sizeLine_eq]; omega
      · rw [len_app, len_app, len_app, e0, c2, sizeLine_eq]; omega
      · rw [len_app, len_app, len_app, len_app, e0, c2, c3, sizeLine_eq]; omega
      · exact k _ (same_new nu)
end
end L2.LawH
set_option Elab.async false
set_option linter.all false
set_option maxRecDepth 100000
set_option maxHeartbeats 4000000
/-! _law_is_name. -/
namespace L2.LawH
open PySem PySem.Spec PyProof.Rows L2.Cmp L2.TxtSet
abbrev sLIN : Stmt := top 26
def spLIN (K : PySem.W.Frag) : Sp := fun vs H Q _ => ∃ x : V, vs = [x] ∧ ((∃ z : Str, x = .str z ∧ z.length ≤ 100000 ∧ (∀ c ∈ z.cps.toList, c < 0x110000) ∧ ∀ H', Same H H' → Q (.bl (nmB z.cps.toList)) H') ∨ (NotS K H x ∧ Q (.bl false) H))
def one (c : Nat) : Str := ⟨#[c]⟩
section
variable {P : Program} {w : World} {K : PySem.W.Frag} {mg : Str → Option Value} {base : Heap}
theorem scLIN : FnScope ["_law_value", "_law_sign"] ["_law_value"] (defScope sLIN) := ⟨rfl, rfl, rfl, by decide +kernel, rfl, by decide +kernel, by decide +kernel⟩
theorem ok_LIN {f : Addr} {fd : FuncData} (F : Fun K "_law_is_name" "_law_is_name" sLIN f fd) (mi : mg "isinstance" = none) (mst : mg "str" = none) (ml : mg "len" = none) :
    FnOk P w K mg base CX0 1 f fd ["_law_value"] (spLIN K) := by
  refine F.ok scLIN (fun vs H Q E h => ?_) (fun cdv A outer s H vs Q E hr h => ?_)
  · obtain ⟨x, rfl, _⟩ := h
    rfl
  · obtain ⟨x, rfl, h⟩ := h
    have hu := hr.units
    refine ⟨_, pss_cons (ps_if (PW.pt (pw_or (pt_not (pt_val (pe_callB call_isi (by rfl) mi (by decide +kernel) (pa_cons (pv 0) (pa_cons (pe_bltn (v := .ty "str") (by rfl) mst (by decide +kernel) rfl) pa_nil)))))
          (pw_or (pt_not (pt_chain op_le op_le pe_int (pe_callB call_len_str (by rfl) ml (by decide +kernel) (pa_cons (pv 0) pa_nil)) pe_int))
            (pw_or1 (pt_cmpR op_notin_str (pe_ix ix_str (pv 0) pe_int (fun _ _ => rfl)) pe_str (by rfl)))))) (pss_one (ps_ret pe_bl)) pss_nil)
      (pss_one (ps_ret (pe_cmpR (op_eqD hu) (pe_lc (own := [("_law_sign", 1)]) (g := gName 1) (tt := tTest (tOp (fun x y H Q => ∃ i j, x = .str i ∧ y = .str j ∧ Q (.bl (!(!(Builtin.Str.occurrences j i 0 j.length 1).isEmpty))) H) (tVar 1) (tC (.str sgnS8)))) rfl scLIN.nd (pi_str (pv 0))
          (blkOk_by (own := [("_law_sign", 1)]) (N := ["_law_value", "_law_sign"]) (sc := defScope sLIN) (by decide +kernel)) (fun _ _ _ _ _ => pg_name (i := 1) scLIN.nd rfl (Or.inl rfl)) (fun _ _ _ _ _ => pts_one (pt_cmpR op_notin_str (pv 1) pe_str (by rfl)))
          (fun _ _ _ _ _ => pv 1)) (pe_lst pa_nil) (by rfl)))), ?_⟩
    rcases h with ⟨z, rfl, hz, hcs, k⟩ | ⟨⟨n, ty, kb⟩, k⟩
    · have szl : z.length ≤ sizeLine := by rw [sizeLine_eq]; omega
      have lz : z.cps.toList.length = z.length := length_toList z
      have big : ¬ (1 ≤ z.length ∧ z.length ≤ 12) → Q (.bl false) H := fun no => by
        have q := k H fun _ _ e => e
        have e : nmB z.cps.toList = false := by
          cases hc : z.cps.toList with
          | nil => rfl
          | cons c r =>
            rw [hc, List.length_cons] at lz
            show (isLet c && r.all isSgn && decide (r.length ≤ 11)) = false
            rw [decide_eq_false (by omega), Bool.and_false]
        rw [e] at q
        exact q
      refine ⟨_, rfl, _, .ty "str", _, _, true, rfl, .ty "str", .base (.str z), kit_ty (by decide +kernel), _, rfl, ?_⟩
      refine iteF ?_
      refine ⟨_, rfl, z, rfl, szl, _, _, rfl, rfl, _, rfl, ?_⟩
      refine ite2 (fun l1 => ⟨_, _, rfl, rfl, _, rfl, ?_⟩) (fun l1 => ⟨_, rfl, iteT (big fun y => l1 (decide_eq_true (by omega)))⟩)
      have l1 : (1 : Int) ≤ z.length := of_decide_eq_true l1
      refine ite2 (fun l2 => ?_) (fun l2 => ?_)
      · have l2' : ¬ ((z.length : Int) ≤ 12) := fun y => by
          rw [decide_eq_true y] at l2
          cases l2
        exact big fun y => l2' (by omega)
      · have l2' : (z.length : Int) ≤ 12 := by
          by_cases y : (z.length : Int) ≤ 12
          · exact y
          · rw [decide_eq_false y] at l2
            exact absurd rfl l2
        cases hc : z.cps.toList with
        | nil =>
          rw [hc] at lz
          have : z.length = 0 := lz.symm
          omega
        | cons c r =>
          have lr : r.length ≤ 11 := by
            rw [hc, List.length_cons] at lz
            omega
          rw [hc, nmB_eq c r lr] at k
          refine ⟨_, rfl, z, 0, c, rfl, rfl, szl, by rw [hc]; exact atI_nat (j := 0) rfl, _, _, rfl, rfl, _, rfl, ?_⟩
          rw [in_let]
          cases el : isLet c with
          | false =>
            rw [el, Bool.false_and] at k
            exact iteT (k H fun _ _ e => e)
          | true =>
            rw [el, Bool.true_and] at k
            refine iteF ⟨_, rfl, z, rfl, fun D nD => ?_⟩
            refine ⟨fun i m H5 => m = z.cps.size - i ∧ i ≤ z.cps.size ∧ Same H H5 ∧ H5 D = some (.lst ((((z.cps.toList.take i).filter fun c => !isSgn c).map one).map V.str)), ⟨_, rfl, Nat.zero_le _, same_new nD, upd_same⟩, ?_⟩
            rintro i m H5 ⟨rfl, hi, s5, h5⟩
            have sz : z.cps.size = z.cps.toList.length := by rw [Array.length_toList]
            rcases Nat.lt_or_eq_of_le hi with lt | rfl
            · refine .inr ⟨lt, fun H6 => Same H H6 ∧ H6 D = some (.lst ((((z.cps.toList.take (i + 1)).filter fun c => !isSgn c).map one).map V.str)), fun H6 p => ⟨_, by omega, rfl, lt, p.1, p.2⟩, ?_⟩
              rintro _ _ ⟨rfl, c2, hc2, rfl⟩
              have hc3 : z.cps.toList[i]? = some c2 := by rw [Array.getElem?_toList]; exact hc2
              refine ⟨rfl, _, rfl, _, _, rfl, rfl, _, rfl, ?_⟩
              rw [in_sgn]
              cases es : isSgn c2 with
              | false =>
                refine iteT ⟨_, rfl, _, h5, ?_, fun b o e => ?_, ?_⟩
                · rw [List.length_map, List.length_map]
                  refine Nat.lt_of_le_of_lt (List.length_filter_le _ _) ?_
                  rw [List.length_take, sizeLine_eq]
                  omega
                · rw [upd_ne (ne_of_none e nD)]
                  exact s5 b o e
                · rw [upd_same, List.take_add_one, hc3]
                  simp [es, one]
              | true =>
                refine iteF ⟨s5, ?_⟩
                rw [List.take_add_one, hc3, List.filter_append]
                simp only [Option.toList_some, List.filter_cons, es, Bool.not_true, Bool.false_eq_true, if_false, List.filter_nil, List.append_nil]
                exact h5
            · rw [sz, List.take_length] at h5
              refine .inl ⟨Nat.le_refl _, ?_⟩
              refine ⟨by show 0 ≤ sizeLine; decide, fun p np => ?_⟩
              have np' : p ≠ D := fun e => by
                rw [e, h5] at np
                cases np
              refine ⟨_, _, .lst (SqL.of ((same_new np) _ _ h5)) (dp_strs _), .lst (SqL.of upd_same) .nil, shaped_strs fun y hy => ?_, by decide, ?_⟩
              · obtain ⟨c3, m3, rfl⟩ := List.mem_map.mp hy
                refine ok_list fun c4 m4 => ?_
                have e4 : c4 = c3 := by simpa [one] using m4
                rw [e4]
                exact hcs c3 (List.mem_filter.mp m3).1
              · rw [eqv_nil]
                have q := k (upd H5 p (.lst [])) (s5.trans (same_new np))
                have e : decide (List.map one (List.filter (fun c => !isSgn c) z.cps.toList) = []) = (c :: r).all isSgn := by
                  rw [hc, Bool.eq_iff_iff, decide_eq_true_iff, List.map_eq_nil_iff, List.filter_eq_nil_iff, List.all_eq_true]
                  exact ⟨fun h x m => by simpa using h x m, fun h x m => by simp [h x m]⟩
                rw [e]
                exact q
    · refine ⟨_, rfl, _, .ty "str", _, _, false, rfl, .ty "str", ty, kit_ty kb, _, rfl, ?_⟩
      exact iteT k
end
end L2.LawH
set_option Elab.async false
set_option linter.all false
set_option maxRecDepth 100000
set_option maxHeartbeats 4000000
/-! _law_is_term. -/
namespace L2.LawH
open PySem PySem.Spec PyProof.Rows L2.Cmp L2.TxtSet
abbrev sLIT : Stmt := top 27
/-- a value that the law may ask: its signs are signs -/
def Okl (K : PySem.W.Frag) (H : Hp) (x : V) : Prop := (∃ z : Str, x = .str z ∧ z.length ≤ 100000 ∧ ∀ c ∈ z.cps.toList, c < 0x110000) ∨ (NotS K H x ∧ ∀ z, x ≠ .str z)
theorem Okl.okv {K : PySem.W.Frag} {H : Hp} {x : V} (h : Okl K H x) : Okv K H x := h.imp (fun ⟨z, e, l, _⟩ => ⟨z, e, l⟩) id
theorem Okl.same {K : PySem.W.Frag} {H H' : Hp} (s : Same H H') {x : V} (h : Okl K H x) : Okl K H' x := h.imp id fun ⟨⟨n, ty, kb⟩, no⟩ => ⟨⟨n, tyx_same s ty, kb⟩, no⟩
theorem lin_of {K : PySem.W.Frag} {H : Hp} {x : V} {Q : VK} {E : XK} (o : Okl K H x) (k : ∀ H', Same H H' → Q (.bl (vN x)) H') : spLIN K [x] H Q E := by
  refine ⟨x, rfl, ?_⟩
  rcases o with ⟨z, rfl, l, cs⟩ | ⟨n, no⟩
  · exact .inl ⟨z, rfl, l, cs, k⟩
  · refine .inr ⟨n, ?_⟩
    have e : vN x = false := by
      cases x with
      | str z => exact absurd rfl (no z)
      | _ => rfl
    have q := k H fun _ _ e => e
    rw [e] at q
    exact q
theorem isV_head {z : Str} (h : isV z = true) : ∃ r, z.cps.toList = 63 :: r := by
  rw [← first_sign] at h
  have e : cutS z none (some 1) = Str.ofString "?" := of_decide_eq_true h
  have q1 : (Str.ofString "?").cps.toList = [63] := by decide +kernel
  have e2 : HT.sIx z.length z.length (some 1) = min 1 z.length := HT.sIx_nat z.length z.length 1
  have e3 := congrArg (fun y : Str => y.cps.toList) e
  unfold cutS at e3
  rw [HT.sIx_none, e2] at e3
  simp only [q1] at e3
  have l : z.cps.toList.length = z.length := length_toList z
  cases hc : z.cps.toList with
  | nil =>
    rw [hc] at e3
    simp at e3
  | cons c r =>
    rw [hc] at e3 l
    rw [List.length_cons] at l
    have m : min 1 z.length = 1 := by omega
    rw [m] at e3
    simp at e3
    exact ⟨r, by rw [e3]⟩
theorem nmB_var {z : Str} (h : isV z = true) : nmB z.cps.toList = false := by
  obtain ⟨r, e⟩ := isV_head h
  rw [e]
  show (isLet 63 && r.all isSgn && decide (r.length ≤ 11)) = false
  have : isLet 63 = false := by decide
  rw [this, Bool.false_and, Bool.false_and]
def spLIT (K : PySem.W.Frag) : Sp := fun vs H Q _ => ∃ (x : V) (o : Bool), vs = [x, .bl o] ∧ Okl K H x ∧ ∀ H', Same H H' → Q (.bl (vN x || (o && vV x))) H'
section
variable {P : Program} {w : World} {K : PySem.W.Frag} {mg : Str → Option Value} {base : Heap}
abbrev nLIT : List Str := ["_law_value", "_law_open_too"]
theorem scLIT : FnScope nLIT nLIT (defScope sLIT) := ⟨rfl, rfl, rfl, by decide +kernel, rfl, by decide +kernel, by decide +kernel⟩
theorem ok_LIT {f fN : Addr} {fd fdN : FuncData} (F : Fun K "_law_is_term" "_law_is_term" sLIT f fd)
    (GN : FnOk P w K mg base CX0 1 fN fdN ["_law_value"] (spLIN K)) (kN : PySem.W.keepIn K (.ref fN) = true) (bN : Binds K fdN ["_law_value"] []) (mN : mg "_law_is_name" = some (.ref fN))
    (mi : mg "isinstance" = none) (mst : mg "str" = none) : FnOk P w K mg base CX0 2 f fd nLIT (spLIT K) := by
  refine F.ok scLIT (fun vs H Q E h => ?_) (fun cdv A outer s H vs Q E hr h => ?_)
  · obtain ⟨x, o, rfl, _⟩ := h
    rfl
  · obtain ⟨x, o, rfl, ox, k⟩ := h
    have hr1 : Room 1 _ := hr.mono (by decide)
    refine ⟨_, pss_cons (ps_if (PW.pt (pw_and (pt_val (pv 1)) (pw_and (pt_val (pe_callB call_isi (by rfl) mi (by decide +kernel) (pa_cons (pv 0) (pa_cons (pe_bltn (v := .ty "str") (by rfl) mst (by decide +kernel) rfl) pa_nil))))
          (pw_and1 (pt_cmpR op_eq (pe_slice sl_str (pv 0) po_none (po_some pe_int)) pe_str (nomark _))))))
        (pss_one (ps_ret (pe_call GN hr1 (by rfl) mN kN bN .nil pass0 (pa_cons (pe_slice sl_str (pv 0) (po_some pe_int) po_none) pa_nil)))) pss_nil)
      (pss_one (ps_ret (pe_call GN hr1 (by rfl) mN kN bN .nil pass0 (pa_cons (pv 0) pa_nil)))), ?_⟩
    -- the last row
    have last : (o && vV x) = false → spLIN K [x] H Q E0 := fun e => lin_of (E := E0) ox fun H' s => by
      have q := k H' s
      rw [e, Bool.or_false] at q
      exact q
    refine ⟨_, rfl, _, rfl, ?_⟩
    cases o with
    | false => exact iteF (iteF ⟨_, rfl, last rfl⟩)
    | true =>
      refine iteT ?_
      rcases ox with ⟨z, rfl, lz, cs⟩ | ⟨⟨n, ty, kb⟩, no⟩
      · refine ⟨_, rfl, _, .ty "str", _, _, true, rfl, .ty "str", .base (.str z), kit_ty (by decide +kernel), _, rfl, ?_⟩
        refine iteT ⟨_, rfl, _, rfl, z, rfl, by rw [sizeLine_eq]; omega, rfl, _, rfl, ?_⟩
        have ed : decide (V.str (cutS z none (some 1)) = V.str (Str.ofString "?")) = isV z := by
          rw [← first_sign]
          exact decide_eq_decide.mpr ⟨fun e => V.str.inj e, fun e => by rw [e]⟩
        rw [ed]
        cases hv : isV z with
        | true =>
          refine iteT ⟨_, rfl, _, rfl, z, rfl, by rw [sizeLine_eq]; omega, ?_⟩
          dsimp only [tNil, List.cons_append, List.nil_append]
          refine lin_of (K := K) (E := E0) (.inl ⟨_, rfl, Nat.le_trans (cutS_length z (some 1) none) lz, fun c m => ?_⟩) fun H' s => ?_
          · rw [cut_tail] at m
            exact cs c (List.mem_of_mem_drop m)
          · have q := k H' s
            have e : (vN (.str z) || (true && vV (.str z))) = vN (.str (cutS z (some 1) none)) := by
              show (nmB z.cps.toList || (true && (isV z && nmB (z.cps.toList.drop 1)))) = nmB (cutS z (some 1) none).cps.toList
              rw [nmB_var hv, hv, cut_tail, Bool.false_or, Bool.true_and, Bool.true_and]
            rw [e] at q
            exact q
        | false =>
          refine iteF ⟨_, rfl, last ?_⟩
          show (true && (isV z && nmB (z.cps.toList.drop 1))) = false
          rw [hv]
          rfl
      · refine ⟨_, rfl, _, .ty "str", _, _, false, rfl, .ty "str", ty, kit_ty kb, _, rfl, ?_⟩
        refine iteF (iteF ⟨_, rfl, last ?_⟩)
        have e : vV x = false := by
          cases x with
          | str z => exact absurd rfl (no z)
          | _ => rfl
        rw [e]
        rfl
end
end L2.LawH
set_option Elab.async false
set_option linter.all false
set_option maxRecDepth 100000
set_option maxHeartbeats 4000000
/-! _law_text. -/
namespace L2.LawH
open PySem PySem.Spec PyProof.Rows L2.Cmp L2.TxtSet
theorem empty_app (T : Str) : Str.empty ++ T = T := by
  have h : (Str.empty ++ T).cps.toList = T.cps.toList := by
    rw [toList_append]
    rfl
  have h2 := Array.toList_inj.mp h
  cases hx : Str.empty ++ T with
  | mk a =>
    rw [hx] at h2
    cases T
    exact congrArg Str.mk h2
section
variable {P : Program} {w : World} {K : PySem.W.Frag} {mg : Str → Option Value} {base : Heap}
end
end L2.LawH
set_option Elab.async false
set_option linter.all false
set_option maxRecDepth 100000
set_option maxHeartbeats 4000000
/-! _law_is_pattern; values that are asked. -/
namespace L2.LawH
open PySem PySem.Spec PyProof.Rows L2.Cmp L2.TxtSet
abbrev sLIP : Stmt := top 28
theorem Same.seqT {K : PySem.W.Frag} {H H' : Hp} {a : Addr} {xs : List V} (e : Same H H') (h : SqT K H a xs) : SqT K H' a xs := by
  rcases h with h | h
  · rcases h with h | ⟨o, h⟩
    · exact .inl (.inl (e _ _ h))
    · exact .inl (.inr ⟨o, e _ _ h⟩)
  · exact .inr h
mutual
theorem dp_same {K : PySem.W.Frag} {H H' : Hp} (s : Same H H') : ∀ (d : PyData) (v : V), Dp K H v d → Dp K H' v d
  | .none, _, h => by
    cases h
    exact .non
  | .bool b, _, h => by
    cases h
    exact .bl b
  | .int i, _, h => by
    cases h
    exact .int i
  | .str x, _, h => by
    cases h
    exact .str x
  | .list ds, _, h => by
    cases h with
    | lst hs ha => exact .lst (Same.seq s hs) (dpAll_same s ds _ ha)
  | .tuple ds, _, h => by
    cases h with
    | tup hs ha => exact .tup (Same.seqT s hs) (dpAll_same s ds _ ha)
  | .dict _, _, h => by cases h
theorem dpAll_same {K : PySem.W.Frag} {H H' : Hp} (s : Same H H') : ∀ (ds : List PyData) (vs : List V), DpAll K H vs ds → DpAll K H' vs ds
  | [], _, h => by
    cases h
    exact .nil
  | d :: ds, _, h => by
    cases h with
    | cons h1 h2 => exact .cons (dp_same s d _ h1) (dpAll_same s ds _ h2)
end
/-- an item of a tuple that is asked -/
def Itm (K : PySem.W.Frag) (H : Hp) (y : V) : Prop := Okl K H y ∧ ∃ d, Dp K H y d ∧ d.canLay0 = true ∧ d.depth ≤ 2
theorem Itm.same {K : PySem.W.Frag} {H H' : Hp} (s : Same H H') {y : V} (h : Itm K H y) : Itm K H' y :=
  let ⟨o, d, p, l⟩ := h
  ⟨o.same s, d, dp_same s d _ p, l⟩
/-- data of a list of items -/
theorem itms_data {K : PySem.W.Frag} {H : Hp} : ∀ (ys : List V), (∀ y ∈ ys, Itm K H y) → ∃ ds, DpAll K H ys ds ∧ ds.length = ys.length ∧ PyData.canLayAll0 ds = true ∧ PyData.depthAll ds ≤ 2
  | [], _ => ⟨[], .nil, rfl, by simp [PyData.canLayAll0], by simp [PyData.depthAll]⟩
  | y :: ys, h => by
    obtain ⟨ds, p, l, c, e⟩ := itms_data ys fun z m => h z (List.mem_cons_of_mem _ m)
    obtain ⟨_, d, q, c1, e1⟩ := h y List.mem_cons_self
    refine ⟨d :: ds, .cons q p, by simp [l], by simp [PyData.canLayAll0, c, c1], ?_⟩
    simp only [PyData.depthAll]
    omega
theorem shaped_list {ds : List PyData} (h : PyData.canLayAll0 ds = true) (e : PyData.depthAll ds ≤ 20) : SeqAt.shaped (.list ds) = true := by
  have h2 : PyData.depth (.list ds) ≤ 64 := by
    simp only [PyData.depth]
    omega
  show (PyData.canLay0 (.list ds) && decide (PyData.depth (.list ds) ≤ 64)) = true
  rw [Bool.and_eq_true]
  exact ⟨by simp only [PyData.canLay0]; exact h, decide_eq_true h2⟩
theorem eqv_nilD : ∀ ds : List PyData, PyData.eqv (.list ds) (.list []) = decide (ds.length = 0)
  | [] => by simp [PyData.eqv, PyData.eqvAll]
  | d :: ds => by simp [PyData.eqv, PyData.eqvAll]
/-- a value that is asked: a tuple of items, or no tuple -/
def Ask (K : PySem.W.Frag) (H : Hp) (x : V) : Option (List V) → Prop
  | none => Okl K H x ∧ NotT K H x
  | some xs => ∃ t, x = .ref t ∧ H t = some (.tup xs) ∧ xs.length ≤ 1100 ∧ ∀ y ∈ xs, Itm K H y
theorem NotT.same {K : PySem.W.Frag} {H H' : Hp} (s : Same H H') {x : V} (h : NotT K H x) : NotT K H' x := let ⟨n, ty, kb⟩ := h; ⟨n, tyx_same s ty, kb⟩
theorem Ask.same {K : PySem.W.Frag} {H H' : Hp} (s : Same H H') {x : V} {o : Option (List V)} (h : Ask K H x o) : Ask K H' x o := by
  cases o with
  | none => exact ⟨h.1.same s, h.2.same s⟩
  | some xs =>
    obtain ⟨t, e, ht, l, i⟩ := h
    exact ⟨t, e, s _ _ ht, l, fun y m => (i y m).same s⟩
theorem Ask.okl {K : PySem.W.Frag} {H : Hp} {x : V} {o : Option (List V)} (h : Ask K H x o) : Okl K H x := by
  cases o with
  | none => exact h.1
  | some xs =>
    obtain ⟨t, rfl, ht, l, i⟩ := h
    exact .inr ⟨⟨"tuple", .base (.tup ht), by decide +kernel⟩, fun z e => by cases e⟩
def pAns : Option (List V) → Bool
  | none => false
  | some xs => patB xs
def fAns : Option (List V) → Bool
  | none => false
  | some xs => factB xs
def spLIP (K : PySem.W.Frag) : Sp := fun vs H Q _ => ∃ (x : V) (o : Bool) (a : Option (List V)), vs = [x, .bl o] ∧ Ask K H x a ∧ ∀ H', Same H H' → Q (.bl (if o = true then pAns a else fAns a)) H'
theorem fact_eq (y : V) (r : List V) (lr : r.length ≤ 3) : factB (y :: r) = (vN y && r.all vN) := by
  show ((decide (r.length ≤ 3) && vN y && r.all fun y => vN y || vV y) && (vN y && r.all vN)) = _
  rw [decide_eq_true lr, Bool.true_and]
  cases h1 : vN y with
  | false => rfl
  | true =>
    cases h2 : r.all vN with
    | false => simp
    | true =>
      have : (r.all fun y => vN y || vV y) = true := List.all_eq_true.mpr fun x m => by rw [List.all_eq_true.mp h2 x m]; rfl
      rw [this]
      rfl
section
variable {P : Program} {w : World} {K : PySem.W.Frag} {mg : Str → Option Value} {base : Heap}
abbrev nLIP : List Str := ["_law_value", "_law_open_too", "_law_term_here"]
theorem scLIP : FnScope nLIP ["_law_value", "_law_open_too"] (defScope sLIP) := ⟨rfl, rfl, rfl, by decide +kernel, rfl, by decide +kernel, by decide +kernel⟩
theorem ok_LIP {f fN fT : Addr} {fd fdN fdT : FuncData} (F : Fun K "_law_is_pattern" "_law_is_pattern" sLIP f fd)
    (GN : FnOk P w K mg base CX0 1 fN fdN ["_law_value"] (spLIN K)) (kN : PySem.W.keepIn K (.ref fN) = true) (bN : Binds K fdN ["_law_value"] []) (mN : mg "_law_is_name" = some (.ref fN))
    (GT : FnOk P w K mg base CX0 2 fT fdT nLIT (spLIT K)) (kT : PySem.W.keepIn K (.ref fT) = true) (bT : Binds K fdT nLIT []) (mT : mg "_law_is_term" = some (.ref fT))
    (mi : mg "isinstance" = none) (mtp : mg "tuple" = none) (ml : mg "len" = none) :
    FnOk P w K mg base CX0 3 f fd ["_law_value", "_law_open_too"] (spLIP K) := by
  refine F.ok scLIP (fun vs H Q E h => ?_) (fun cdv A outer s H vs Q E hr h => ?_)
  · obtain ⟨x, o, a, rfl, _⟩ := h
    rfl
  · obtain ⟨x, o, a, rfl, h, k⟩ := h
    have hu := hr.units
    have hr1 : Room 1 _ := hr.mono (by decide)
    have hr2 : Room 2 _ := hr.mono (by decide)
    refine ⟨_, pss_cons (ps_if (PW.pt (pw_or (pt_not (pt_val (pe_callB call_isi (by rfl) mi (by decide +kernel) (pa_cons (pv 0) (pa_cons (pe_bltn (v := .ty "tuple") (by rfl) mtp (by decide +kernel) rfl) pa_nil)))))
          (pw_or (pt_not (pt_chain op_le op_le pe_int (pe_callB call_len_seq (by rfl) ml (by decide +kernel) (pa_cons (pv 0) pa_nil)) pe_int))
            (pw_or1 (pt_not (pt_val (pe_call GN hr1 (by rfl) mN kN bN .nil pass0 (pa_cons (pe_ix ix_tup (pv 0) pe_int (fun _ _ => rfl)) pa_nil)))))))) (pss_one (ps_ret pe_bl)) pss_nil)
      (pss_one (ps_ret (pe_cmpR (op_eqD hu) (pe_lc (own := [("_law_term_here", 2)]) (g := gName 2) (tt := tNot (tB (tCall (spLIT K) [] E0 (tCons (tVar 2) (tCons (tVar 1) tNil))))) rfl scLIP.nd (pi_tup (pe_slice sl_tup (pv 0) (po_some pe_int) po_none))
          (blkOk_by (own := [("_law_term_here", 2)]) (N := nLIP) (sc := defScope sLIP) (by decide +kernel)) (fun _ _ _ _ _ => pg_name (i := 2) scLIP.nd rfl (Or.inl rfl))
          (fun _ _ _ _ _ => pts_one (pt_not (pt_val (pe_call GT hr2 (by rfl) mT kT bT .nil pass0 (pa_cons (pv 2) (pa_cons (pv 1) pa_nil))))))
          (fun _ _ _ _ _ => pv 2)) (pe_lst pa_nil) (by rfl)))), ?_⟩
    cases a with
    | none =>
      obtain ⟨_, n, ty, kb⟩ := h
      refine ⟨_, rfl, _, .ty "tuple", _, _, false, rfl, .ty "tuple", ty, kit_ty kb, _, rfl, ?_⟩
      have q := k H fun _ _ e => e
      have e : (if o = true then pAns none else fAns none) = false := by
        cases o <;> rfl
      rw [e] at q
      exact iteT q
    | some xs =>
      obtain ⟨t, rfl, ht, lx, ix⟩ := h
      have big : ¬ (1 ≤ xs.length ∧ xs.length ≤ 4) → Q (.bl false) H := fun no => by
        have q := k H fun _ _ e => e
        have e : patB xs = false := by
          cases xs with
          | nil => rfl
          | cons x r =>
            rw [List.length_cons] at no
            show (decide (r.length ≤ 3) && vN x && r.all fun y => vN y || vV y) = false
            rw [decide_eq_false (by omega), Bool.false_and, Bool.false_and]
        have e2 : (if o = true then pAns (some xs) else fAns (some xs)) = false := by
          show (if o = true then patB xs else (patB xs && xs.all vN)) = false
          rw [e]
          cases o <;> rfl
        rw [e2] at q
        exact q
      refine ⟨_, rfl, _, .ty "tuple", _, _, true, rfl, .ty "tuple", .base (.tup ht), kit_ty (by decide +kernel), _, rfl, ?_⟩
      refine iteF ?_
      refine ⟨_, rfl, t, _, rfl, .inr (SqT.of ht), _, _, rfl, rfl, _, rfl, ?_⟩
      refine ite2 (fun l1 => ⟨_, _, rfl, rfl, _, rfl, ?_⟩) (fun l1 => ⟨_, rfl, iteT (big fun y => l1 (decide_eq_true (by omega)))⟩)
      have l1 : (1 : Int) ≤ xs.length := of_decide_eq_true l1
      refine ite2 (fun l2 => ?_) (fun l2 => ?_)
      · have l2' : ¬ ((xs.length : Int) ≤ 4) := fun y => by
          rw [decide_eq_true y] at l2
          cases l2
        exact big fun y => l2' (by omega)
      · have l2' : (xs.length : Int) ≤ 4 := by
          by_cases y : (xs.length : Int) ≤ 4
          · exact y
          · rw [decide_eq_false y] at l2
            exact absurd rfl l2
        cases xs with
        | nil =>
          rw [List.length_nil] at l1
          omega
        | cons y r =>
          have lr : r.length ≤ 3 := by
            rw [List.length_cons] at l2'
            omega
          have k : ∀ H', Same H H' → Q (.bl (vN y && r.all fun y => vN y || (o && vV y))) H' := fun H' s => by
            have q := k H' s
            have e : (if o = true then pAns (some (y :: r)) else fAns (some (y :: r))) = (vN y && r.all fun y => vN y || (o && vV y)) := by
              cases o with
              | true =>
                show (decide (r.length ≤ 3) && vN y && r.all fun y => vN y || vV y) = _
                rw [decide_eq_true lr, Bool.true_and]
                simp
              | false =>
                show factB (y :: r) = _
                rw [fact_eq y r lr]
                simp
            rw [e] at q
            exact q
          refine ⟨_, rfl, t, _, 0, y, rfl, rfl, SqT.of ht, atI_nat (j := 0) rfl, ?_⟩
          dsimp only [tNil, List.cons_append, List.nil_append]
          refine lin_of (K := K) (E := E0) (ix y List.mem_cons_self).1 fun H1 s1 => ⟨_, rfl, ?_⟩
          cases hy : vN y with
          | false =>
            rw [hy] at k
            exact iteT (k H1 s1)
          | true =>
            rw [hy] at k
            refine iteF ?_
            refine ⟨_, rfl, _, rfl, t, _, rfl, SqT.of (s1 _ _ ht), cut_part _ _, fun u nu => ⟨u, rfl, ⟨_, SqT.of upd_same⟩, fun D nD => ?_⟩⟩
            rw [cut_one] at nD ⊢
            have su : Same H (upd H1 u (.tup r)) := s1.trans (same_new nu)
            have uD : u ≠ D := fun e => by
              rw [e] at nD
              rw [upd_same] at nD
              cases nD
            have nDH : H D = none := by
              cases e : H D with
              | none => rfl
              | some o =>
                rw [su D o e] at nD
                cases nD
            refine lc_tup (K := K) (a := u) (xs := r) (fun i H5 => Same H H5 ∧ H5 u = some (.tup r) ∧ H5 D = some (.lst ((r.take i).filter fun y => !(vN y || (o && vV y)))))
              ⟨su.trans (same_new nD), (same_new nD) _ _ upd_same, upd_same⟩ (fun i H5 _ p => SqT.of p.2.1) (fun i x H5 hx p => ?_) (fun H5 p => ?_)
            · obtain ⟨p1, p2, p3⟩ := p
              have ox : Okl K H x := (ix x (List.mem_cons_of_mem _ (List.mem_of_getElem? hx))).1
              refine ⟨rfl, ?_⟩
              refine ⟨_, rfl, _, rfl, x, o, rfl, ox.same p1, fun H6 s6 => ⟨_, rfl, ?_⟩⟩
              cases hb : (vN x || (o && vV x)) with
              | true =>
                refine iteF ⟨p1.trans s6, s6 _ _ p2, ?_⟩
                rw [List.take_add_one, hx, List.filter_append]
                have e : (Option.toList (some x)).filter (fun y => !(vN y || (o && vV y))) = [] := List.filter_cons_of_neg (by rw [hb]; exact Bool.false_ne_true)
                rw [e, List.append_nil]
                exact s6 _ _ p3
              | false =>
                refine iteT ⟨_, rfl, _, s6 _ _ p3, ?_, fun b o e => ?_, ?_, ?_⟩
                · refine Nat.lt_of_le_of_lt (List.length_filter_le _ _) ?_
                  rw [List.length_take, sizeLine_eq]
                  omega
                · rw [upd_ne (ne_of_none e nDH)]
                  exact s6 _ _ (p1 b o e)
                · rw [upd_ne uD]
                  exact s6 _ _ p2
                · rw [upd_same, List.take_add_one, hx, List.filter_append]
                  have e : (Option.toList (some x)).filter (fun y => !(vN y || (o && vV y))) = [x] := List.filter_cons_of_pos (by rw [hb]; rfl)
                  rw [e]
            · obtain ⟨p1, p2, p3⟩ := p
              rw [List.take_length] at p3
              refine ⟨by show 0 ≤ sizeLine; decide, fun p np => ?_⟩
              obtain ⟨ds, hd, ld, cd, dd⟩ := itms_data (K := K) (H := upd H5 p (.lst [])) (r.filter fun y => !(vN y || (o && vV y))) fun z m =>
                (ix z (List.mem_cons_of_mem _ (List.mem_filter.mp m).1)).same (p1.trans (same_new np))
              refine ⟨_, _, .lst (SqL.of ((same_new np) _ _ p3)) hd, .lst (SqL.of upd_same) .nil, shaped_list cd (by omega), by decide, ?_⟩
              have q := k (upd H5 p (.lst [])) (p1.trans (same_new np))
              rw [eqv_nilD, ld]
              have e : decide ((r.filter fun y => !(vN y || (o && vV y))).length = 0) = (true && r.all fun y => vN y || (o && vV y)) := by
                rw [Bool.true_and, Bool.eq_iff_iff, decide_eq_true_iff, List.length_eq_zero_iff, List.filter_eq_nil_iff, List.all_eq_true]
                refine ⟨fun h x m => ?_, fun h x m => ?_⟩
                · have z := h x m
                  cases hz : (vN x || (o && vV x)) with
                  | true => rfl
                  | false =>
                    rw [hz] at z
                    exact absurd rfl z
                · rw [h x m]
                  exact Bool.false_ne_true
              rw [e]
              exact q
end
end L2.LawH
set_option Elab.async false
set_option linter.all false
set_option maxRecDepth 100000
set_option maxHeartbeats 4000000
/-! Texts of patterns read: the mathematics. -/
namespace L2.LawH
open PySem PySem.Spec PyProof.Rows L2.Cmp L2.TxtSet TL
abbrev opnS : Str := "("
abbrev clsS : Str := ")"
abbrev comS : Str := ","
theorem tl_opn : tl opnS = [40] := by decide +kernel
theorem tl_cls : tl clsS = [41] := by decide +kernel
theorem tl_com : tl comS = [44] := by decide +kernel
/-- table and inside of a text that is cut rightly -/
def cutP (z : Str) : Option (Str × Str) := match par [40] [] (tl z) with
  | none => none
  | some (a, b) => if b.getLast? = some 41 then some (⟨a.toArray⟩, ⟨b.dropLast.toArray⟩) else none
def terms (i : Str) : List Str := if i.length = 0 then [] else Txt.split i comS
def rdOk (z : Str) : Option (Str × List Str) := match cutP z with
  | none => none
  | some (a, i) => if patB (.str a :: (terms i).map V.str) = true then some (a, terms i) else none
/-! ### par and spl for one sign -/
theorem pre_one (s c : Nat) (r : List Nat) : pre [s] (c :: r) = decide (c = s) := by
  show ((c :: r).take 1 == [s]) = _
  rw [Bool.eq_iff_iff, beq_iff_eq, decide_eq_true_iff]
  simp
theorem par_eq (s : Nat) : ∀ (l acc : List Nat) (a b : List Nat), par [s] acc l = some (a, b) → ∃ m, a = acc ++ m ∧ l = m ++ s :: b ∧ s ∉ m
  | [], acc, a, b, h => by cases h
  | c :: r, acc, a, b, h => by
    by_cases hc : c = s
    · rw [par_hit (by rw [pre_one, decide_eq_true hc])] at h
      have h2 := Option.some.inj h
      have e1 : acc = a := congrArg Prod.fst h2
      have e2 : (c :: r).drop [s].length = b := congrArg Prod.snd h2
      refine ⟨[], by rw [List.append_nil]; exact e1.symm, ?_, by simp⟩
      rw [← e2, hc]
      rfl
    · rw [par_miss (by rw [pre_one, decide_eq_false hc])] at h
      obtain ⟨m, e1, e2, e3⟩ := par_eq s r (acc ++ [c]) a b h
      refine ⟨c :: m, by rw [e1, List.append_assoc]; rfl, by rw [e2]; rfl, ?_⟩
      intro hm
      rcases List.mem_cons.mp hm with h | h
      · exact hc h.symm
      · exact e3 h
theorem par_no (s : Nat) : ∀ (l acc : List Nat), par [s] acc l = none → s ∉ l
  | [], _, _ => by simp
  | c :: r, acc, h => by
    by_cases hc : c = s
    · rw [par_hit (by rw [pre_one, decide_eq_true hc])] at h
      cases h
    · rw [par_miss (by rw [pre_one, decide_eq_false hc])] at h
      intro hm
      rcases List.mem_cons.mp hm with h' | h'
      · exact hc h'.symm
      · exact par_no s r _ h h'
theorem spl_ne (S : List Nat) : ∀ (l : List Nat) (acc : List Nat), spl S 0 acc l ≠ [] := by
  intro l
  induction l with
  | nil => intro acc; rw [spl_nil]; simp
  | cons c r ih =>
    intro acc
    cases h : pre S (c :: r) with
    | true => rw [spl_hit h]; simp
    | false => rw [spl_miss h]; exact ih _
theorem joinL_cons (S p : List Nat) {X : List (List Nat)} (h : X ≠ []) : joinL S (p :: X) = p ++ (S ++ joinL S X) := by
  cases X with
  | nil => exact absurd rfl h
  | cons q r => rfl
theorem join_spl (s : Nat) : ∀ (l acc : List Nat), joinL [s] (spl [s] 0 acc l) = acc ++ l
  | [], acc => by
    rw [spl_nil]
    show acc = _
    rw [List.append_nil]
  | c :: r, acc => by
    by_cases hc : c = s
    · rw [spl_hit (by rw [pre_one, decide_eq_true hc])]
      show joinL [s] (acc :: spl [s] 0 [] r) = _
      rw [joinL_cons _ _ (spl_ne _ _ _), join_spl s r [], hc]
      rfl
    · rw [spl_miss (by rw [pre_one, decide_eq_false hc]), join_spl s r (acc ++ [c]), List.append_assoc]
      rfl
theorem part_le (s : Nat) : ∀ (X : List (List Nat)) (p : List Nat), p ∈ X → p.length ≤ (joinL [s] X).length
  | [], p, h => by cases h
  | [q], p, h => by
    rw [List.mem_singleton.mp h]
    exact Nat.le_refl _
  | q :: y :: r, p, h => by
    show p.length ≤ (q ++ ([s] ++ joinL [s] (y :: r))).length
    rw [List.length_append, List.length_append]
    rcases List.mem_cons.mp h with rfl | h
    · omega
    · have := part_le s (y :: r) p h
      omega
theorem parts_le (s : Nat) : ∀ (X : List (List Nat)), X.length ≤ (joinL [s] X).length + 1
  | [] => Nat.zero_le _
  | [q] => by simp
  | q :: y :: r => by
    have := parts_le s (y :: r)
    show (q :: y :: r).length ≤ (q ++ ([s] ++ joinL [s] (y :: r))).length + 1
    rw [List.length_append, List.length_append, List.length_cons]
    simp only [List.length_singleton]
    omega
theorem part_mem (s : Nat) : ∀ (X : List (List Nat)) (p : List Nat) (c : Nat), p ∈ X → c ∈ p → c ∈ joinL [s] X
  | [], p, c, h, _ => by cases h
  | [q], p, c, h, hc => by
    rw [List.mem_singleton.mp h] at hc
    exact hc
  | q :: y :: r, p, c, h, hc => by
    show c ∈ q ++ ([s] ++ joinL [s] (y :: r))
    rw [List.mem_append, List.mem_append]
    rcases List.mem_cons.mp h with rfl | h
    · exact .inl hc
    · exact .inr (.inr (part_mem s (y :: r) p c h hc))
/-! ### the terms -/
theorem com_kind (i : Str) : ¬ Builtin.Str.strKind i < Builtin.Str.strKind comS := kind_ok (by decide +kernel)
theorem split_tl (i : Str) : (Txt.split i comS).map tl = spl [44] 0 [] (tl i) := by
  have h := split_spl i comS (by rw [tl_com]; simp) (com_kind i)
  rw [tl_com] at h
  exact h
theorem join_terms (i : Str) : Txt.join comS (terms i) = i := by
  unfold terms
  by_cases h : i.length = 0
  · rw [if_pos h]
    refine ext_tl ?_
    rw [join_eq]
    have e : tl i = [] := by
      rw [len_tl] at h
      exact List.length_eq_zero_iff.mp h
    rw [e]
    rfl
  · rw [if_neg h]
    refine ext_tl ?_
    rw [join_eq, tl_join, tl_com, split_tl, join_spl]
    rfl
theorem terms_join (i : Str) (h : i.length ≠ 0) : joinL [44] ((terms i).map tl) = tl i := by
  unfold terms
  rw [if_neg h, split_tl, join_spl]
  rfl
theorem term_le {i y : Str} (h : y ∈ terms i) : y.length ≤ i.length := by
  by_cases h0 : i.length = 0
  · unfold terms at h
    rw [if_pos h0] at h
    cases h
  · have := part_le 44 ((terms i).map tl) (tl y) (List.mem_map_of_mem h)
    rw [terms_join i h0] at this
    rw [len_tl, len_tl]
    exact this
theorem terms_le (i : Str) : (terms i).length ≤ i.length + 1 := by
  by_cases h0 : i.length = 0
  · unfold terms
    rw [if_pos h0]
    exact Nat.zero_le _
  · have := parts_le 44 ((terms i).map tl)
    rw [terms_join i h0, List.length_map] at this
    rw [len_tl]
    exact this
theorem term_mem {i y : Str} (h : y ∈ terms i) {c : Nat} (hc : c ∈ tl y) : c ∈ tl i := by
  by_cases h0 : i.length = 0
  · unfold terms at h
    rw [if_pos h0] at h
    cases h
  · have := part_mem 44 ((terms i).map tl) (tl y) c (List.mem_map_of_mem h) hc
    rw [terms_join i h0] at this
    exact this
/-! ### the cuts -/
theorem last_cases (l : List Nat) : l = [] ∨ ∃ m c, l = m ++ [c] := by
  rcases List.eq_nil_or_concat l with h | ⟨m, c, h⟩
  · exact .inl h
  · exact .inr ⟨m, c, by rw [h, List.concat_eq_append]⟩
theorem suffix_eq (b : Str) : Txt.removesuffix b clsS = if (tl b).getLast? = some 41 then ⟨(tl b).dropLast.toArray⟩ else b := by
  have l1 : clsS.length = 1 := by decide +kernel
  have lb := len_tl b
  rw [StrLaws.removesuffix_eq, StrLaws.subAt_eq, l1, show clsS.cps.toList = [41] from tl_cls]
  rcases last_cases (tl b) with h | ⟨m, c, h⟩
  · rw [h] at lb
    have e : b.cps.toList = [] := h
    rw [h]
    simp [lb]
  · have e : b.cps.toList = m ++ [c] := h
    have l2 : b.length = m.length + 1 := by
      rw [lb, h, List.length_append]
      rfl
    rw [h, e, l2]
    have d1 : decide (0 + 1 ≤ m.length + 1) = true := decide_eq_true (by omega)
    have d2 : (m ++ [c]).drop (m.length + 1 - 1) = [c] := by
      rw [Nat.add_sub_cancel]
      exact List.drop_left
    have d3 : ((m ++ [c]).drop 0).take (m.length + 1 - 1 - 0) = m := by
      rw [List.drop_zero, Nat.sub_zero, Nat.add_sub_cancel]
      exact List.take_left
    rw [d1, d2, d3, Bool.true_and]
    by_cases hc : c = 41
    · rw [hc]
      simp
    · simp [hc]
theorem find_eq (z : Str) : Txt.find z opnS = match par [40] [] (tl z) with | none => -1 | some (a, _) => (a.length : Int) := by
  have hy : tl opnS ≠ [] := by rw [tl_opn]; simp
  have l1 : opnS.length = 1 := by decide +kernel
  have hx := len_tl z
  unfold Txt.find
  rcases StrLaws.occ_head z opnS 1 (Nat.le_refl 1) with ⟨h0, hn⟩ | ⟨i, r, h0, hi, hn⟩
  · have run := par_run (tl opnS) (tl z) (tl z).length 0 [] (by omega) (fun k _ _ => no_at hy (hn k))
    rw [List.drop_zero, Nat.zero_add, List.drop_length] at run
    rw [tl_opn] at run
    rw [h0, run]
    rfl
  · have hb : i + opnS.length ≤ z.length := hi.1
    have run := par_run (tl opnS) (tl z) i 0 [] (by omega) (fun k _ k2 => no_at hy (hn k (by omega)))
    rw [List.drop_zero, Nat.zero_add, List.nil_append, par_at hy ((at_iff hy i).mp hi)] at run
    rw [tl_opn] at run
    rw [h0, run]
    show (i : Int) = (((tl z).take i).length : Int)
    rw [List.length_take]
    omega
theorem part_eq (z : Str) : Txt.partition z opnS = (match par [40] [] (tl z) with | some (a, b) => (⟨a.toArray⟩, opnS, ⟨b.toArray⟩) | none => (z, Str.empty, Str.empty)) := by
  have h := partition_par z opnS (by rw [tl_opn]; simp)
  rw [tl_opn] at h
  exact h
/-! ### a text and its pattern's -/
theorem ptext_tl (T : Str) (i : Str) : tl (ptext T (terms i)) = tl T ++ 40 :: (tl i ++ [41]) := by
  unfold ptext
  rw [empty_app, tl_append, tl_append, tl_append, show tl (("(" : String) : Str) = [40] from tl_opn, show tl ((")" : String) : Str) = [41] from tl_cls, show Txt.join ((("," : String)) : Str) (terms i) = i from join_terms i]
  simp
theorem nm_len {l : List Nat} (h : nmB l = true) : l.length ≤ 12 := (nm_sgns h).2.1
theorem var_len {z : Str} (h : varB z = true) : z.length ≤ 13 := by
  unfold varB at h
  rw [Bool.and_eq_true] at h
  have := nm_len h.2
  rw [List.length_drop] at this
  rw [len_tl]
  show z.cps.toList.length ≤ 13
  omega
theorem pat_bd {a : Str} {ts : List Str} (h : patB (.str a :: ts.map V.str) = true) : a.length ≤ 12 ∧ ts.length ≤ 3 ∧ ∀ y ∈ ts, y.length ≤ 13 := by
  have h : (decide ((ts.map V.str).length ≤ 3) && vN (.str a) && (ts.map V.str).all fun y => vN y || vV y) = true := h
  rw [Bool.and_eq_true, Bool.and_eq_true, decide_eq_true_iff, List.length_map, List.all_eq_true] at h
  obtain ⟨⟨h1, h2⟩, h3⟩ := h
  refine ⟨?_, h1, fun y hy => ?_⟩
  · have := nm_len (show nmB a.cps.toList = true from h2)
    rw [len_tl]
    exact this
  · have := h3 (.str y) (List.mem_map_of_mem hy)
    rw [Bool.or_eq_true] at this
    rcases this with h | h
    · have := nm_len (show nmB y.cps.toList = true from h)
      rw [len_tl]
      exact Nat.le_trans this (by decide)
    · exact var_len (show varB y = true from h)
/-- the reading of the program: where its own test of the text holds -/
theorem read_same {z a b : Str} (h : par [40] [] (tl z) = some (tl a, tl b)) :
    (decide (V.str (ptext a (terms (Txt.removesuffix b clsS))) = V.str z)) = decide ((tl b).getLast? = some 41) := by
  obtain ⟨m, e1, e2, _⟩ := par_eq 40 _ _ _ _ h
  rw [List.nil_append] at e1
  rw [← e1] at e2
  have key : (ptext a (terms (Txt.removesuffix b clsS)) = z) ↔ tl (Txt.removesuffix b clsS) ++ [41] = tl b := by
    constructor
    · intro e
      have e3 := congrArg tl e
      rw [ptext_tl, e2] at e3
      have e4 := List.append_cancel_left e3
      injection e4
    · intro e
      refine ext_tl ?_
      rw [ptext_tl, e2, e]
  refine decide_eq_decide.mpr ⟨fun e => ?_, fun e => ?_⟩
  · have e5 := key.mp (V.str.inj e)
    rw [← e5]
    simp
  · refine congrArg V.str (key.mpr ?_)
    rw [suffix_eq, if_pos e]
    show (tl b).dropLast ++ [41] = tl b
    rcases last_cases (tl b) with h | ⟨m, c, h⟩
    · rw [h] at e
      cases e
    · rw [h] at e ⊢
      have : c = 41 := by simpa using e
      rw [this]
      simp
theorem read_none {z : Str} (h : par [40] [] (tl z) = none) : (decide (V.str (ptext z (terms (Txt.removesuffix Str.empty clsS))) = V.str z)) = false := by
  refine decide_eq_false fun e => ?_
  have e3 := congrArg (fun y => (tl y).length) (V.str.inj e)
  simp only [ptext_tl, List.length_append, List.length_cons] at e3
  omega
end L2.LawH
set_option Elab.async false
set_option linter.all false
set_option maxRecDepth 100000
set_option maxHeartbeats 4000000
/-! read_pattern. -/
namespace L2.LawH
open PySem PySem.Spec PyProof.Rows L2.Cmp L2.TxtSet TL
abbrev sRd18 : Stmt := top 13
def spRd : Sp := fun vs H Q _ => ∃ z : Str, vs = [.str z] ∧ z.length ≤ 1000 ∧ (∀ c ∈ tl z, c < 0x110000) ∧ (rdOk z = none → ∀ H', Same H H' → Q .non H') ∧
  (∀ a ts, rdOk z = some (a, ts) → ∀ (p : Addr) (H' : Hp), Same H H' → H p = none → H' p = some (.tup (.str a :: ts.map V.str)) → Q (.ref p) H')
theorem cut_le {z a i : Str} (h : cutP z = some (a, i)) : a.length ≤ z.length ∧ i.length ≤ z.length ∧ (∀ c ∈ tl a, c ∈ tl z) ∧ ∀ c ∈ tl i, c ∈ tl z := by
  unfold cutP at h
  cases hp : par [40] [] (tl z) with
  | none => rw [hp] at h; cases h
  | some ab =>
    obtain ⟨a', b'⟩ := ab
    obtain ⟨m, e1, e2, _⟩ := par_eq 40 _ _ _ _ hp
    rw [List.nil_append] at e1
    rw [hp] at h
    dsimp only at h
    by_cases hl : b'.getLast? = some 41
    · rw [if_pos hl] at h
      have h2 := Option.some.inj h
      have e3 : a = ⟨a'.toArray⟩ := (congrArg Prod.fst h2).symm
      have e4 : i = ⟨b'.dropLast.toArray⟩ := (congrArg Prod.snd h2).symm
      have t1 : tl a = m := by rw [e3, ← e1]
      have t2 : tl i = b'.dropLast := by rw [e4]
      have lz := congrArg List.length e2
      rw [List.length_append, List.length_cons] at lz
      have lb : b'.dropLast.length ≤ b'.length := by rw [List.length_dropLast]; omega
      refine ⟨?_, ?_, fun c hc => ?_, fun c hc => ?_⟩
      · rw [len_tl, len_tl, t1]
        omega
      · rw [len_tl, len_tl z, t2]
        omega
      · rw [e2]
        rw [t1] at hc
        exact List.mem_append_left _ hc
      · rw [e2]
        rw [t2] at hc
        exact List.mem_append_right _ (List.mem_cons_of_mem _ ((List.dropLast_sublist _).subset hc))
    · rw [if_neg hl] at h
      cases h
section
variable {P : Program} {w : World} {K : PySem.W.Frag} {mg : Str → Option Value} {base : Heap}
abbrev nRd : List Str := ["text", "table", "_", "rest", "inner", "terms", "pattern"]
theorem scRd : FnScope nRd ["text"] (defScope sRd18) := ⟨rfl, rfl, rfl, by decide +kernel, rfl, by decide +kernel, by decide +kernel⟩
theorem ok_rd {f fP fX : Addr} {fd fdP fdX : FuncData} (F : Fun K "read_pattern" "read_pattern" sRd18 f fd)
    (GP : FnOk P w K mg base CX0 3 fP fdP ["value"] (spIsP K patB)) (kP : PySem.W.keepIn K (.ref fP) = true) (bP : Binds K fdP ["value"] []) (mP : mg "is_pattern" = some (.ref fP))
    (GX : FnOk P w K mg base CX0 1 fX fdX ["pattern"] spPtx) (kX : PySem.W.keepIn K (.ref fX) = true) (bX : Binds K fdX ["pattern"] []) (mX : mg "pattern_text" = some (.ref fX)) :
    FnOk P w K mg base CX0 4 f fd ["text"] spRd := by
  refine F.ok scRd (fun vs H Q E h => ?_) (fun cdv A outer s H vs Q E hr h => ?_)
  · obtain ⟨z, rfl, _⟩ := h
    rfl
  · obtain ⟨z, rfl, lz, cz, kN, kS⟩ := h
    have hr1 : Room 1 _ := hr.mono (by decide)
    have hr3 : Room 3 _ := hr.mono (by decide)
    refine ⟨_, pss_cons (ps_asg (pe_partition (pv 0) pe_str) (pg_tup rfl (pgs_cons (pg_name (i := 1) scRd.nd rfl (.inl rfl)) (pgs_cons (pg_name (i := 2) scRd.nd rfl (.inl rfl)) (pgs_cons (pg_name (i := 3) scRd.nd rfl (.inl rfl)) pgs_nil)))))
      (pss_cons (ps_set (i := 4) scRd.nd rfl (Or.inl rfl) (pe_m1 PySem.F.slot_str_removesuffix PySem.F.type_str_removesuffix mt_removesuffix (pv 3) pe_str))
      (pss_cons (ps_set (i := 5) scRd.nd rfl (Or.inl rfl) (pe_ifExp (pt_truth (pv 4) (by intro _; rfl)) (pe_split (pv 4) pe_str) (pe_lst pa_nil)))
      (pss_cons (ps_set (i := 6) scRd.nd rfl (Or.inl rfl) (pe_tup (pa_cons (pv 1) (StX.pa_star (pv 5) pa_nil))))
      (pss_cons (ps_if (PW.pt (pw_and (pt_val (pe_call GP hr3 (by rfl) mP kP bP .nil pass0 (pa_cons (pv 6) pa_nil)))
          (pw_and1 (pt_cmpR op_eq (pe_call GX hr1 (by rfl) mX kX bX .nil pass0 (pa_cons (pv 6) pa_nil)) (pv 0) (nomark _))))) (pss_one (ps_ret (pv 6))) pss_nil)
      (pss_one (ps_ret pe_non)))))), ?_⟩
    refine ⟨_, rfl, ⟨_, rfl⟩, z, _, rfl, rfl, by decide +kernel, by rw [sizeLine_eq]; omega, fun p np => ?_⟩
    have facts : ∃ a b m, Txt.partition z opnS = (a, m, b) ∧ a.length ≤ z.length ∧ b.length ≤ z.length ∧
        (patB (.str a :: (terms (Txt.removesuffix b clsS)).map V.str) = true → decide (V.str (ptext a (terms (Txt.removesuffix b clsS))) = V.str z) = true → rdOk z = some (a, terms (Txt.removesuffix b clsS))) ∧
        (patB (.str a :: (terms (Txt.removesuffix b clsS)).map V.str) = false ∨ decide (V.str (ptext a (terms (Txt.removesuffix b clsS))) = V.str z) = false → rdOk z = none) := by
      cases hp : par [40] [] (tl z) with
      | none =>
        refine ⟨z, Str.empty, Str.empty, by rw [part_eq, hp], Nat.le_refl _, Nat.zero_le _, fun _ h => ?_, fun _ => ?_⟩
        · rw [read_none hp] at h
          cases h
        · unfold rdOk cutP
          rw [hp]
      | some ab =>
        obtain ⟨a, b⟩ := ab
        obtain ⟨m, e1, e2, _⟩ := par_eq 40 _ _ _ _ hp
        rw [List.nil_append] at e1
        have lz := congrArg List.length e2
        rw [List.length_append, List.length_cons, ← e1] at lz
        have hp2 : par [40] [] (tl z) = some (tl ⟨a.toArray⟩, tl ⟨b.toArray⟩) := hp
        refine ⟨⟨a.toArray⟩, ⟨b.toArray⟩, opnS, by rw [part_eq, hp], ?_, ?_, fun h1 h2 => ?_, fun h => ?_⟩
        · rw [len_tl, len_tl z]
          show a.length ≤ _
          omega
        · rw [len_tl, len_tl z]
          show b.length ≤ _
          omega
        · rw [read_same hp2] at h2
          have h2 : b.getLast? = some 41 := of_decide_eq_true h2
          have e : Txt.removesuffix ⟨b.toArray⟩ clsS = ⟨b.dropLast.toArray⟩ := by
            rw [suffix_eq]
            exact if_pos h2
          rw [e] at h1 ⊢
          unfold rdOk cutP
          rw [hp]
          dsimp only
          rw [if_pos h2]
          dsimp only
          rw [if_pos h1]
        · unfold rdOk cutP
          rw [hp]
          dsimp only
          by_cases h2 : b.getLast? = some 41
          · rw [if_pos h2]
            dsimp only
            rw [read_same hp2, decide_eq_true (show (tl ⟨b.toArray⟩).getLast? = some 41 from h2)] at h
            have e : Txt.removesuffix ⟨b.toArray⟩ clsS = ⟨b.dropLast.toArray⟩ := by
              rw [suffix_eq]
              exact if_pos h2
            rw [e] at h
            rcases h with h | h
            · rw [if_neg (by rw [h]; exact Bool.false_ne_true)]
            · cases h
          · rw [if_neg h2]
    obtain ⟨a, b, m, ep, la, lb, hyes, hno⟩ := facts
    have ep : Txt.partition z (Str.ofString "(") = (a, m, b) := ep
    rw [ep]
    dsimp only
    have li : (Txt.removesuffix b clsS).length ≤ b.length := by
      rw [suffix_eq]
      split
      · rw [len_tl, len_tl]
        show (tl b).dropLast.length ≤ _
        rw [List.length_dropLast]
        omega
      · exact Nat.le_refl _
    have u1 : Same H (upd H p (.tup [.str a, .str m, .str b])) := same_new np
    refine ⟨p, _, rfl, SqT.of upd_same, rfl, _, _, rfl, _, _, rfl, _, _, rfl, rfl, ?_⟩
    refine ⟨_, rfl, ⟨_, rfl⟩, b, _, rfl, rfl, by rw [sizeLine_eq]; omega, ?_⟩
    generalize hi : Txt.removesuffix b clsS = i at hyes hno li
    refine ⟨_, rfl, _, ⟨by rw [sizeLine_eq]; omega, rfl⟩, ?_⟩
    refine ite2 (fun h0 => ⟨_, rfl, ⟨_, rfl⟩, i, _, rfl, rfl, by decide +kernel, by rw [sizeLine_eq]; omega, fun l nl => ?_⟩) (fun h0 => ⟨by show 0 ≤ sizeLine; decide, fun l nl => ?_⟩)
    all_goals
      generalize hH2 : upd _ l _ = H2
      have s2 : Same H H2 := by
        rw [← hH2]
        exact u1.trans (same_new nl)
      have hl : H2 l = some (.lst ((terms i).map V.str)) := by
        rw [← hH2, upd_same]
        unfold terms
        first
          | exact congrArg (fun y : List Str => some (HO.lst (y.map V.str))) (if_neg (fun z : i.length = 0 => by simp [z] at h0)).symm
          | exact congrArg (fun y : List Str => some (HO.lst (y.map V.str))) (show ([] : List Str) = if i.length = 0 then [] else Txt.split i comS from (if_pos (show i.length = 0 by simpa using h0)).symm)
      have tle := terms_le i
      refine ⟨_, rfl, _, rfl, l, _, rfl, .inr (SqL.of hl), ?_, fun t nt => ?_⟩
      · simp only [List.append_nil, List.length_cons, List.length_map]
        rw [sizeLine_eq]
        omega
      rw [List.append_nil]
      generalize hH3 : upd H2 t _ = H3
      have s3 : Same H2 H3 := by
        rw [← hH3]
        exact same_new nt
      have ht : H3 t = some (.tup (.str a :: (terms i).map V.str)) := by
        rw [← hH3]
        exact upd_same
      have ntH : H t = none := by
        cases e : H t with
        | none => rfl
        | some o =>
          rw [s2 t o e] at nt
          cases nt
      refine ⟨_, rfl, _, rfl, .inl ⟨t, _, rfl, ht, ?_, fun y hy => ?_, fun H4 s4 => ⟨_, rfl, ?_⟩⟩⟩
      · rw [List.length_cons, List.length_map]
        omega
      · rcases List.mem_cons.mp hy with rfl | hy
        · exact .inl ⟨_, rfl, by omega⟩
        · obtain ⟨y', hy', rfl⟩ := List.mem_map.mp hy
          have := term_le hy'
          exact .inl ⟨_, rfl, by omega⟩
      cases hA : patB (.str a :: (terms i).map V.str) with
      | false =>
        refine iteF (iteF ?_)
        exact kN (hno (.inl hA)) _ ((s2.trans s3).trans s4)
      | true =>
        obtain ⟨ba, bt, by_⟩ := pat_bd hA
        refine iteT ⟨_, rfl, t, a, terms i, rfl, s4 _ _ ht, by omega, by omega, fun y hy => Nat.le_trans (by_ y hy) (by decide), fun H5 s5 => ⟨_, rfl, rfl, _, rfl, ?_⟩⟩
        cases hB : decide (V.str (ptext a (terms i)) = V.str z) with
        | false =>
          refine iteF ?_
          exact kN (hno (.inr hB)) _ (((s2.trans s3).trans s4).trans s5)
        | true =>
          refine iteT ⟨_, rfl, ?_⟩
          exact kS a (terms i) (hyes hA hB) t _ (((s2.trans s3).trans s4).trans s5) ntH (s5 _ _ (s4 _ _ ht))
end
end L2.LawH
set_option Elab.async false
set_option linter.all false
set_option maxRecDepth 100000
set_option maxHeartbeats 4000000
/-! _law_of_text. -/
namespace L2.LawH
open PySem PySem.Spec PyProof.Rows L2.Cmp L2.TxtSet TL
/-- the fact with a text -/
def rdF (z : Str) : Option (Str × List Str) := match cutP z with
  | none => none
  | some (a, i) => if factB (.str a :: (terms i).map V.str) = true then some (a, terms i) else none
def spLOT : Sp := fun vs H Q _ => ∃ z : Str, vs = [.str z] ∧ z.length ≤ 1000 ∧ (∀ c ∈ tl z, c < 0x110000) ∧ (rdF z = none → ∀ H', Same H H' → Q .non H') ∧
  (∀ a ts, rdF z = some (a, ts) → ∀ (p : Addr) (H' : Hp), Same H H' → H p = none → H' p = some (.tup (.str a :: ts.map V.str)) → Q (.ref p) H')
theorem sIx_m1 (n d : Nat) : HT.sIx n d (some (-1)) = n - 1 := by
  show (if (-1 : Int) < 0 then ((-1 : Int) + (n : Int)).toNat else min (-1 : Int).toNat n) = n - 1
  rw [if_pos (by decide)]
  omega
theorem cut_last (z : Str) : tl (cutS z (some (-1)) none) = (tl z).drop (z.length - 1) := by
  show ((tl z).drop (HT.sIx z.length 0 (some (-1)))).take (HT.sIx z.length z.length none - HT.sIx z.length 0 (some (-1))) = _
  rw [sIx_m1, HT.sIx_none]
  refine List.take_of_length_le ?_
  rw [List.length_drop, ← len_tl]
  omega
theorem cut_to (z : Str) (k : Nat) : tl (cutS z none (some (k : Int))) = (tl z).take k := by
  show ((tl z).drop (HT.sIx z.length 0 none)).take (HT.sIx z.length z.length (some (k : Int)) - HT.sIx z.length 0 none) = _
  rw [HT.sIx_nat, HT.sIx_none, List.drop_zero, Nat.sub_zero, len_tl z]
  rcases Nat.le_total k (tl z).length with h | h
  · rw [Nat.min_eq_left h]
  · rw [Nat.min_eq_right h, List.take_of_length_le (Nat.le_refl _), List.take_of_length_le h]
theorem cut_in {z : Str} {m b : List Nat} (h : tl z = m ++ 40 :: b) : tl (cutS z (some ((m.length : Int) + 1)) (some (-1))) = b.dropLast := by
  have hz : z.length = m.length + 1 + b.length := by
    rw [len_tl, h, List.length_append, List.length_cons]
    omega
  have e1 : HT.sIx z.length 0 (some ((m.length : Int) + 1)) = m.length + 1 := by
    have e := HT.sIx_nat z.length 0 (m.length + 1)
    rw [show ((m.length + 1 : Nat) : Int) = (m.length : Int) + 1 by omega] at e
    rw [e]
    omega
  show ((tl z).drop (HT.sIx z.length 0 (some ((m.length : Int) + 1)))).take (HT.sIx z.length z.length (some (-1)) - HT.sIx z.length 0 (some ((m.length : Int) + 1))) = _
  rw [sIx_m1, e1, h, hz]
  have e2 : (m ++ 40 :: b).drop (m.length + 1) = b := by
    rw [show m ++ 40 :: b = (m ++ [40]) ++ b by simp]
    have e3 : (m ++ [40]).length = m.length + 1 := by simp
    rw [← e3]
    exact List.drop_left
  rw [e2, List.dropLast_eq_take]
  congr 1
  omega
/-- the last sign of a text that is cut -/
theorem last_sign {z : Str} {m b : List Nat} (h : tl z = m ++ 40 :: b) : decide (V.str (cutS z (some (-1)) none) = V.str clsS) = decide (b.getLast? = some 41) := by
  refine decide_eq_decide.mpr ⟨fun e => ?_, fun e => ?_⟩
  · have e1 := congrArg tl (V.str.inj e)
    rw [cut_last, tl_cls, h, len_tl, h] at e1
    rcases last_cases b with hb | ⟨k, c, hb⟩
    · subst hb
      rw [List.length_append] at e1
      have e2 : (m ++ [40]).drop (m.length + 1 - 1) = [40] := by
        rw [Nat.add_sub_cancel]
        exact List.drop_left
      have e3 : (m ++ [40]).drop (m.length + [40].length - 1) = [40] := e2
      rw [e3] at e1
      cases e1
    · subst hb
      have e4 : m ++ 40 :: (k ++ [c]) = (m ++ 40 :: k) ++ [c] := by simp
      rw [e4, List.length_append] at e1
      have e5 : ((m ++ 40 :: k) ++ [c]).drop ((m ++ 40 :: k).length + 1 - 1) = [c] := by
        rw [Nat.add_sub_cancel]
        exact List.drop_left
      have e6 : ((m ++ 40 :: k) ++ [c]).drop ((m ++ 40 :: k).length + [c].length - 1) = [c] := e5
      rw [e6] at e1
      have : c = 41 := by simpa using e1
      rw [this]
      simp
  · refine congrArg V.str (ext_tl ?_)
    rw [cut_last, tl_cls, h, len_tl, h]
    rcases last_cases b with hb | ⟨k, c, hb⟩
    · subst hb
      cases e
    · subst hb
      have hc : c = 41 := by simpa using e
      subst hc
      have e4 : m ++ 40 :: (k ++ [41]) = (m ++ 40 :: k) ++ [41] := by simp
      rw [e4, List.length_append]
      have e5 : ((m ++ 40 :: k) ++ [41]).drop ((m ++ 40 :: k).length + 1 - 1) = [41] := by
        rw [Nat.add_sub_cancel]
        exact List.drop_left
      exact e5
theorem itm_str {K : PySem.W.Frag} {H : Hp} {y : Str} (l : y.length ≤ 100000) (h : ∀ c ∈ tl y, c < 0x110000) : Itm K H (.str y) :=
  ⟨.inl ⟨y, rfl, l, h⟩, .str y, .str y, by
    show (PyData.str y).canLay0 = true
    simp only [PyData.canLay0]
    exact ok_list h, by simp [PyData.depth]⟩
section
variable {P : Program} {w : World} {K : PySem.W.Frag} {mg : Str → Option Value} {base : Heap}
end
end L2.LawH
set_option Elab.async false
set_option linter.all false
set_option maxRecDepth 100000
set_option maxHeartbeats 4000000
/-! Data compared; BadLine made; the lines of a text. -/
namespace L2.LawH
open PySem PySem.Spec PyProof.Rows L2.Cmp L2.TxtSet TL
def rLtD (K : PySem.W.Frag) : R2 := fun x y H Q => ∃ d e, Dp K H x d ∧ Dp K H y e ∧ PySem.W.alike d e = true ∧ d ≠ .none ∧ min d.depth e.depth ≤ 20 ∧ Q (.bl (PySem.W.dataLt d e)) H
theorem op_ltD {X : Cx} {K : PySem.W.Frag} (e : X.K = K) (hu : X.A.units + 64 < cLine) : OpR X (compareOp .Lt) (rLtD K) := by
  subst e
  intro pins s σ H x y v u Q I rx ry h
  obtain ⟨d, e, hd, he, al, nn, dp, q⟩ := h
  obtain ⟨as, r1⟩ := Dp.reads I d x v hd rx
  obtain ⟨bs, r2⟩ := Dp.reads I e y u he ry
  exact PySem.W.lt_data r1 r2 al nn (by omega) ⟨.bl _, H, I, rfl, q⟩
def rLeD (K : PySem.W.Frag) : R2 := fun x y H Q => ∃ d e, Dp K H x d ∧ Dp K H y e ∧ PySem.W.alike d e = true ∧ d ≠ .none ∧ min d.depth e.depth ≤ 20 ∧ Q (.bl (!PySem.W.dataLt e d)) H
theorem op_leD {X : Cx} {K : PySem.W.Frag} (e : X.K = K) (hu : X.A.units + 64 < cLine) : OpR X (compareOp .LtE) (rLeD K) := by
  subst e
  intro pins s σ H x y v u Q I rx ry h
  obtain ⟨d, e, hd, he, al, nn, dp, q⟩ := h
  obtain ⟨as, r1⟩ := Dp.reads I d x v hd rx
  obtain ⟨bs, r2⟩ := Dp.reads I e y u he ry
  exact PySem.W.le_data r1 r2 al nn (by omega) ⟨.bl _, H, I, rfl, q⟩
abbrev sBLi : Stmt := inClass (top 4) 0
def spBL (C : Addr) : Sp := fun vs H Q _ => ∃ (e : Addr) (n : Int), vs = [.ref e, .int n] ∧ H e = some (exo e C none) ∧ ∀ dx, H dx = none → dx ≠ e → Q .non (upd (upd H dx (exd dx [("line", .int n)])) e (exo e C (some dx)))
abbrev sLinesOf : Stmt := top 14
abbrev nlS : Str := Str.ofString "\n"
/-- the lines of a text -/
def lns (z : Str) : List Str := if z.length = 0 then [] else Txt.split z nlS
def spLns : Sp := fun vs H Q _ => ∃ z : Str, vs = [.str z] ∧ z.length ≤ 1000 ∧ ∀ (H' : Hp) (p : Addr), Same H H' → H p = none → H' p = some (.lst ((lns z).map V.str)) → Q (.ref p) H'
section
variable {P : Program} {w : World} {K : PySem.W.Frag} {mg : Str → Option Value} {base : Heap}
theorem scBL : FnScope ["self", "line"] ["self", "line"] (defScope sBLi) := ⟨rfl, rfl, rfl, by decide +kernel, rfl, by decide +kernel, by decide +kernel⟩
theorem ok_BL {f C : Addr} {fd : FuncData} (F : Fun K "__init__" "BadLine.__init__" sBLi f fd) (T : OexC K C) (nl : PySem.W.findIn K (.ref C) "line" = some none) : FnOk P w K mg base CX0 1 f fd ["self", "line"] (spBL C) := by
  refine F.ok scBL (fun vs H Q E h => ?_) (fun cdv A outer s H vs Q E hr h => ?_)
  · obtain ⟨e, n, rfl, _⟩ := h
    rfl
  · obtain ⟨e, n, rfl, he, k⟩ := h
    refine ⟨_, pss_one (ps_ost (pv 0) (pv 1)), ?_⟩
    exact ⟨_, rfl, _, rfl, e, C, rfl, T, nl, .inl ⟨he, fun dx h1 h2 => k dx h1 h2⟩⟩
theorem scLns : FnScope ["text"] ["text"] (defScope sLinesOf) := ⟨rfl, rfl, rfl, by decide +kernel, rfl, by decide +kernel, by decide +kernel⟩
theorem ok_lns {f : Addr} {fd : FuncData} (F : Fun K "lines_of" "lines_of" sLinesOf f fd) : FnOk P w K mg base CX0 1 f fd ["text"] spLns := by
  refine F.ok scLns (fun vs H Q E h => ?_) (fun cdv A outer s H vs Q E hr h => ?_)
  · obtain ⟨z, rfl, _⟩ := h
    rfl
  · obtain ⟨z, rfl, lz, k⟩ := h
    refine ⟨_, pss_one (ps_ret (pe_ifExp (pt_truth (pv 0) (by intro _; rfl)) (pe_split (pv 0) pe_str) (pe_lst pa_nil))), ?_⟩
    refine ⟨_, rfl, _, ⟨by rw [sizeLine_eq]; omega, rfl⟩, ?_⟩
    refine ite2 (fun h0 => ⟨_, rfl, ⟨_, rfl⟩, z, _, rfl, rfl, by decide +kernel, by rw [sizeLine_eq]; omega, fun l nl => ?_⟩) (fun h0 => ⟨by show 0 ≤ sizeLine; decide, fun l nl => ?_⟩)
    · refine k _ l (same_new nl) nl ?_
      rw [upd_same]
      unfold lns
      exact congrArg (fun y : List Str => some (HO.lst (y.map V.str))) (if_neg (fun q : z.length = 0 => by simp [q] at h0)).symm
    · refine k _ l (same_new nl) nl ?_
      rw [upd_same]
      unfold lns
      exact congrArg (fun y : List Str => some (HO.lst (y.map V.str))) (show ([] : List Str) = if z.length = 0 then [] else Txt.split z nlS from (if_pos (show z.length = 0 by simpa using h0)).symm)
end
end L2.LawH
set_option Elab.async false
set_option linter.all false
set_option maxRecDepth 100000
set_option maxHeartbeats 4000000
/-! for n, x in enumerate(xs, start=1). -/
namespace L2.EnumS
open PySem PySem.Spec PyProof.Rows
/-- the list at a, each item in a new pair, counted from k0 -/
def IteS (K : PySem.W.Frag) (k0 : Nat) (a : Addr) : It :=
  ⟨fun i H => ∃ (xs : List V) (x : V), SqL K H a xs ∧ xs[i]? = some x, fun i H v H' => ∃ T x, v = .ref T ∧ H T = none ∧ H' = upd H T (.tup [.int ((k0 + i : Nat) : Int), x]) ∧ ∀ xs, SqL K H a xs → xs[i]? = some x, fun i H => ∃ xs : List V, SqL K H a xs ∧ xs.length ≤ i⟩
theorem apart {h : Heap} {a it : Addr} {i : Nat} {its : Array Value} (hl : h.IsList a its) (hi : h.IsListIter it a i) : a ≠ it := fun z => by
  obtain ⟨o1, g1, c1, _⟩ := hl
  obtain ⟨o2, g2, c2, _⟩ := hi
  rw [z, g2] at g1
  have eo := Option.some.inj g1
  rw [← eo, c2] at c1
  exact absurd c1 (by decide)
theorem apart2 {h : Heap} {a e it : Addr} {c : Int} {old : Value} {its : Array Value} (hl : h.IsList a its) (he : IsEnum h e it c old) : e ≠ a := fun z => by
  obtain ⟨o1, g1, c1, _⟩ := hl
  rw [← z, show h.get? e = some _ from he] at g1
  have eo := Option.some.inj g1
  rw [← eo] at c1
  have c2 : Value.type "enumerate" = Value.type "list" := c1
  injection c2 with c2
  exact absurd c2 (by decide)
theorem turn_enumS {P : Program} {w : World} {K : PySem.W.Frag} {elts : List Expr} {kk : Nat} {tpos : Pos} (k0 : Nat) (a e it : Addr) :
    Turn P w K (.Tuple elts kk tpos) (IteS K k0 a) [e, it] e (fun i h => (∃ old, IsEnum h e it ((k0 + i : Nat) : Int) old) ∧ h.IsListIter it a i ∧ e ≠ it) where
  mem := List.mem_cons_self
  obj := by
    rintro i h ⟨⟨old, g⟩, ⟨o, go, _, gd⟩, _⟩ b hb
    rcases List.mem_cons.mp hb with rfl | hb
    · exact ⟨_, g, fun v q => nomatch q⟩
    · rw [List.mem_singleton.mp hb]
      exact ⟨o, go, fun v q => by rw [gd] at q; cases q⟩
  keep := by
    rintro i h h' ⟨⟨old, g⟩, hi, ne⟩ kp
    exact ⟨⟨old, kp e List.mem_cons_self _ g⟩, hi.at fun o q => kp it (List.mem_cons_of_mem _ List.mem_cons_self) o q, ne⟩
  item := by
    rintro X rfl rfl rfl calm i pins s σ H E I fr ⟨⟨old, g⟩, hi, ne⟩ ⟨xs, x, sq, hx⟩
    obtain ⟨its, vals, pl, _⟩ := I.list sq
    obtain ⟨u, hu, ru⟩ := vals.get hx
    have e_lt : e < s.heap.objs.size := Heap.lt_size g
    have i_lt : it < s.heap.objs.size := by
      obtain ⟨_, q, _⟩ := hi
      exact Heap.lt_size q
    have nea := apart2 pl.isList g
    have ilt : i < its.toArray.size := by
      rw [List.size_toArray, ← vals.length]
      exact (List.getElem?_eq_some_iff.mp hx).1
    refine wpAny_pyNext_enum_itemC (Draws.list (A := X.A.in1) (I.ok.hd calm) it a (apart pl.isList hi) its.toArray) g ⟨hi, pl.isList⟩ ilt ne (fun m => ?_) fun z h' tk hz out st hT _ kp => ?_
    · rcases List.mem_cons.mp m with m | m
      · exact ne m
      · exact nea (List.mem_singleton.mp m)
    have zu : z = u := by
      have q : its.toArray[i]? = some z := hz
      have q2 : its.toArray[i]? = some u := by simpa using hu
      rw [q2] at q
      exact (Option.some.inj q).symm
    subst zu
    refine ⟨_, rfl, wpAny_letOwnedTupleGo_enum (s := { s with heap := h', toks := tk + 1 }) out fun h2 g2 sb => ?_⟩
    have hT2 : h2.get? s.heap.objs.size = some { cls := .type "tuple", data := .seq #[.int ((k0 + i : Nat) : Int) tk, z] } := (sb.2 _ (Nat.ne_of_gt e_lt)).trans hT
    have made : ObjOk X.prog X.w (upd H s.heap.objs.size (.tup [.int ((k0 + i : Nat) : Int), x])) h2 s.heap.objs.size (.tup [.int ((k0 + i : Nat) : Int), x]) :=
      ⟨by show 2 ≤ sizeLine; decide, [.int ((k0 + i : Nat) : Int) tk, z], .cons ⟨_, rfl⟩ (.cons ru .nil), ⟨_, hT2, rfl, _, rfl⟩⟩
    have J : Inv X pins σ (upd H s.heap.objs.size (.tup [.int ((k0 + i : Nat) : Int), x])) { s with heap := h2, toks := tk + 1 } :=
      I.turnedNew (ch := [e, it]) (fun b ob nb q => (sb.2 b (fun y => nb (by simp [y]))).trans (kp b ob (fun y => nb (by simp [y])) (fun y => nb (by simp [y])) q)) fr (Nat.le_refl _) made
    refine ⟨.ref s.heap.objs.size, _, J, rfl, ⟨_, x, rfl, I.hok.fresh (Nat.le_refl _), rfl, fun ys hy => by rw [I.list_inj hy sq]; exact hx⟩, ⟨⟨z, ?_⟩, st.1.at fun o q => (sb.2 it (Ne.symm ne)).trans q, ne⟩, fun b hb => ?_⟩
    · have up : ((k0 + (i + 1) : Nat) : Int) = ((k0 + i : Nat) : Int) + 1 := by omega
      rw [up]
      exact g2
    · have lt : b < s.heap.objs.size := by
        rcases List.mem_cons.mp hb with rfl | hb
        · exact e_lt
        · rw [List.mem_singleton.mp hb]
          exact i_lt
      rw [upd_ne (Nat.ne_of_lt lt)]
      exact (fr b hb).1
  done := by
    rintro X rfl rfl rfl calm i pins s σ H E I fr ⟨⟨old, g⟩, hi, ne⟩ ⟨xs, sq, over⟩
    obtain ⟨its, vals, pl, _⟩ := I.list sq
    obtain ⟨f0, f1, f2, f3, f4, f5⟩ := fr it (List.mem_cons_of_mem _ List.mem_cons_self)
    have none' : its.toArray[i]? = none := by
      have hlen := vals.length
      simp
      omega
    have D : Draws X.prog X.w X.A.in1 it [it, a] i (fun _ _ => True) (fun j h => j = i ∧ h.IsListIter it a i ∧ h.IsList a its.toArray) :=
      ⟨fun j h st => let ⟨o, ho, _⟩ := st.2.1; ⟨o, ho⟩, fun j h h' st kp => ⟨st.1, st.2.1.at fun o q => kp it List.mem_cons_self o q, st.2.2.at fun o q => kp a (List.mem_cons_of_mem _ List.mem_cons_self) o q⟩,
        fun j s Q E lt st _ => absurd st.1 (Nat.ne_of_lt lt), fun s Q E st hE => wpAny_nextOf_list_end (I.ok.hd calm) st.2.1 st.2.2 none' hE⟩
    refine wpAny_pyNext_enum_endD D g ⟨rfl, hi, pl.isList⟩ fun h' but => ⟨rfl, ?_⟩
    exact I.turned (t' := s.toks) (fun b o nb q => but b o nb q) f0 f1 f3 f4 f5
  self := fun A i s Q E st h => by
    obtain ⟨⟨_, g⟩, _⟩ := st
    exact wpAny_pyIter_enum g h
theorem callWith_tyK {M : Model} {A : Around} {E : Value → Shared → Prop} {s : Shared} {pos : Pos} {T : String} {args : List (Bool × Sem Value)} {kws : List (Option Str × Sem Value)} {Q : Value → Shared → Prop} (hpl : (args.any (·.1) || kws.any (·.1.isNone)) = false)
    (h : wpAny M A (evalArgs (.type T) true args kws) (fun a s1 => wpAny M A (call (.type T) a.pos a.kw) Q E s1) E s) : wpAny M A (callWith pos (.type T) [] args kws) Q E s := by
  unfold callWith
  refine wpAny_bind (wpAny_holding (wpAny_mono h (fun a s1 z => wpAny_bind (wpAny_standAt ?_)) fun _ _ x => x))
  simp only [hpl, Bool.false_eq_true, if_false]
  refine wpAny_bind (wpAny_pure ?_)
  exact wpAny_bind (wpAny_mono z (fun r s2 hr => wpAny_bind (wpAny_holding (wpAny_point (wpAny_pure hr)))) fun _ _ x => x)
def iEnumS (K : PySem.W.Frag) (k0 : Nat) (ta : TA) : TI := fun σ H R => ta σ H fun vs H1 => ∃ a xs, vs = [.ref a] ∧ SqL K H1 a xs ∧ R (IteS K k0 a) H1
theorem pi_enumS {X : Cx} {e : Expr} {ta : TA} {p pos tpos : Pos} {elts : List Expr} {kk : Nat} {kws : List Keyword} (hg : Gl X "enumerate") (hm : X.mg "enumerate" = none) (ha : PA X [e] ta) (hkw : PK X kws (tCons (tC (.int 1)) tNil))
    (hks : (backToKw pos (keywordEach kws X.env)).filterMap (·.1) = [Str.ofString "start"] := by rfl) (hall : (backToKw pos (keywordEach kws X.env)).all (·.1.isSome) = true := by rfl) (hs : starEach [e] X.env = (false, eval e X.env) :: starEach [] X.env := by rfl)
    (hpl : ((backTo pos (starEach [e] X.env)).any (·.1) || (backToKw pos (keywordEach kws X.env)).any (·.1.isNone)) = false := by rfl) :
    PI X (.Tuple elts kk tpos) (.Call (.Name "enumerate" p) [e] kws pos) (iEnumS X.K 1 ta) := by
  refine ⟨fun pins s σ H R I h => ?_⟩
  refine wpAny_Call_Name_kw (ld_blt I hg hm boot_enumerate ?_)
  refine callWith_tyK hpl (PyProof.Rows.evalArgs_kw2 hall (thn (ha.run pos pins s σ H _ I h) fun us s1 ⟨vs, H1, I1, r1, a, xs, ev, sq, q⟩ => thn (hkw.run pos pins s1 σ H1 (fun zs H2 => zs = [.int 1] ∧ H2 = H1) I1 ⟨rfl, rfl⟩) fun ws s2 ⟨zs, H2, I2, r2, ez, eH⟩ => ?_) hs)
  subst ev ez eH
  rw [hks]
  cases r1 with
  | cons ra rb =>
    cases rb
    cases ra
    cases r2 with
    | cons rc rd =>
      cases rd
      obtain ⟨t, rfl⟩ := rc
      obtain ⟨its, rv, pl, _⟩ := I2.list sq
      show wpAny _ _ (call (.type "enumerate") [.ref a] [(Str.ofString "start", .int 1 t)]) _ _ _
      refine enum_begins_start (begins_list a its.toArray) pl.isList (by decide) (by decide) fun h' he hit hsz hk => wpAny_pyIter_enum he ?_
      have I3 : Inv X pins σ H2 { s2 with heap := h' } := I2.kept (t' := s2.toks) hk
      refine ⟨s2.heap.objs.size + 1, [s2.heap.objs.size + 1, s2.heap.objs.size], _, _, H2, rfl, I3, turn_enumS 1 a (s2.heap.objs.size + 1) s2.heap.objs.size, ⟨⟨.none, he⟩, ⟨_, hit, rfl, rfl⟩, Nat.succ_ne_self _⟩, fun b hb => ?_, q⟩
      have up : s2.heap.objs.size ≤ b := by
        rcases List.mem_cons.mp hb with z | z
        · rw [z]
          exact Nat.le_succ _
        · exact Nat.le_of_eq (List.mem_singleton.mp z).symm
      exact I2.fpOk up (I2.hok.fresh up)
end L2.EnumS
set_option Elab.async false
set_option linter.all false
set_option maxRecDepth 100000
set_option maxHeartbeats 4000000
/-! x != y of tuples and of instances that are equal by a class's own ==. -/
namespace L2.InsNe
open PySem PySem.Spec PyProof.Rows PySem.SeqAt AutoSeq1 MeetsSeq MeetsSeq2 MeetsSeq3 SeqRoads2 GQ
section
variable {P : Program} {w : World} {A : Around} {R : Result → Shared → Prop}
theorem tup_ne (a c : Addr) (us vs : Array Value) (n m : Nat) (d1 d2 : Option Addr) (s1 s2 : Array (Option Value)) (hz : us.size = vs.size) (J : Nat → Shared → Prop)
    (step : ∀ j (k1 : j < us.size) (k2 : j < vs.size) t, J j t → wpAny (model P w) A.in1 (eqBool us[j] vs[j]) (fun r t' => r = true ∧ J (j + 1) t') (fun e t' => R (.error e) t') t)
    (stop : ∀ t, J us.size t → R (.ok (.ret (.bool false))) t) {t : Shared} (ha : t.heap.get? a = some { cls := .type "tuple", dict := d1, data := .seq us n, slots := s1 }) (hc : t.heap.get? c = some { cls := .type "tuple", dict := d2, data := .seq vs m, slots := s2 }) (j0 : J 0 t) :
    wpAny (model P w) A.in1 (Builtin.«tuple.__ne__» ⟨[.ref a, .ref c], []⟩) (FinOf P w A R) (fun e t' => R (.error e) t') t := by
  have sub := AutoSeq1.sub_tuple_tuple
  have lz : (us.toList.zip vs.toList).length = us.size := by simp [hz]
  have keep := j0
  obtain ⟨hp, g, d, tk, os⟩ := t
  wp_walk using wpAny_loadPart' ha, wpAny_loadPart' hc, wpAny_forIn_list _ (fun left q t' => q.1 = none ∧ ∃ k, left = (us.toList.zip vs.toList).drop k ∧ k ≤ us.size ∧ J k t') _
  case turn =>
    rintro ⟨u, v⟩ left q t' ⟨_, k, e, _, hJ⟩
    have lt : k < (us.toList.zip vs.toList).length := Nat.lt_of_not_le fun ge => by
      rw [List.drop_of_length_le ge] at e
      cases e
    have k1 : k < us.size := lz ▸ lt
    have k2 : k < vs.size := hz ▸ k1
    rw [List.drop_eq_getElem_cons lt] at e
    injection e with e1 e2
    have eu : u = us[k] := by simpa using congrArg Prod.fst e1
    have ev : v = vs[k] := by simpa using congrArg Prod.snd e1
    subst eu ev
    refine wpAny_bind (wpAny_mono (step k k1 k2 t' hJ) (fun r t2 z => ?_) fun _ _ x => x)
    obtain ⟨rfl, z⟩ := z
    wp_walk
    exact ⟨rfl, k + 1, e2, k1, z⟩
  case fin =>
    rintro ⟨q1, q2⟩ t' ⟨e0, k, e, le, hJ⟩
    simp only at e0
    subst e0
    have ge : us.size ≤ k := Nat.le_of_not_lt fun lt => by
      rw [List.drop_eq_getElem_cons (by rw [lz]; exact lt)] at e
      cases e
    obtain rfl : k = us.size := Nat.le_antisymm le ge
    have fin := stop t' hJ
    wp_walk
    simpa [Builtin.Tuple.tupleCompareSizes, hz] using fin
  case h =>
    exact ⟨rfl, 0, rfl, Nat.zero_le _, keep⟩
end
section
variable {P : Program} {w : World} {A : Around} {E : Value → Shared → Prop} {t : Shared}
theorem rc_tup_ne {a c : Addr} {us vs : Array Value} {Q : Value → Shared → Prop} (hz : us.size = vs.size) (hu : A.units < cLine) (J : Nat → Shared → Prop) (ha : t.heap.IsTuple a us) (hc : t.heap.IsTuple c vs)
    (step : ∀ j (k1 : j < us.size) (k2 : j < vs.size) t, J j t → wpAny (model P w) A.in1 (eqBool us[j] vs[j]) (fun r t' => r = true ∧ J (j + 1) t') E t) (stop : ∀ t, J us.size t → Q (.bool false) t) (j0 : J 0 t) :
    wpAny (model P w) A (richCompare .NotEq (.ref a) (.ref c)) Q E t := by
  obtain ⟨⟨c1, d1, x1, s1⟩, o1, k1, n1, e1⟩ := id ha
  obtain ⟨⟨c2, d2, x2, s2⟩, o2, k2, n2, e2⟩ := id hc
  simp only at k1 e1 k2 e2
  subst k1 e1 k2 e2
  refine wpAny_richCompare_same_room (op := .NotEq) ⟨_, o1, rfl⟩ ⟨_, o2, rfl⟩ F.slot_tuple_ne (call_here F.slot_tuple_ne ⟨_, o1, rfl⟩ F.entry_tuple_ne (F.args_tuple_ne_2 _ _) ?_) hu
  exact tup_ne (R := wants (fun v t' => v ≠ .notImplemented ∧ Q v t') E) a c us vs n1 n2 d1 d2 s1 s2 hz J step (fun t' q => ⟨(fun x => nomatch x), stop t' q⟩) o1 o2 j0
end
section
variable {M : Model} {P : Program} {w : World} {A : Around} {E : Value → Shared → Prop} {s : Shared} {K : PySem.W.Frag} {x C f : Addr} {ox : Obj} {od : Option Obj}
theorem bound_ne {args : List Value} {Q : Option Value → Shared → Prop} (X : K.In s.heap) (I : PySem.W.InstAt s.heap x ox C od) (hs : PySem.W.findIn K (.ref C) "__ne__" = some (some (.builtin "object.__ne__")))
    (h : wpAny M A (call (.builtin "object.__ne__") (.ref x :: args)) (fun v => Q (some v)) E s) : wpAny M A (callSpecialIfBound? (.ref x) "__ne__" args) Q E s := by
  simp only [callSpecialIfBound?, bindSpecialIfBound?]
  refine wpAny_holding (wpAny_bind (wpAny_bind (wpAny_bind (I.type.here ((PySem.W.looks_findIn X hs).here ?_)))))
  refine wpAny_bind (wpAny_askSetting (wpAny_ite ?_))
  have last : wpAny M A (call (.builtin "object.__ne__") ([.ref x] ++ args) >>= fun v => pure (some v)) Q E s := wpAny_bind (wpAny_mono h (fun v s' z => wpAny_pure z) fun _ _ z => z)
  split
  · exact wpAny_bind (wpAny_of_eq (F.cmp_object.ne.bind _) (wpAny_pure (by exact last)))
  · exact wpAny_tryCatch (wpAny_bind (wpAny_of_eq (F.cmp_object.ne.bind _) (wpAny_pure (by exact last))))
theorem body_ne {y : Value} {Q : Fin → Shared → Prop} (X : K.In s.heap) (I : PySem.W.InstAt s.heap x ox C od) (hs : PySem.W.findIn K (.ref C) "__eq__" = some (some (.ref f))) (hf : PySem.W.isFn K (.ref f) = true) (hu : A.units < cLine)
    (h : wpAny (model P w) A (call (.ref f) [.ref x, y]) (fun v s' => ∃ b, v = .bool b ∧ Q (.done (.ret (.bool (!b)))) s') E s) : wpAny (model P w) A (Builtin.«object.__ne__» ⟨[.ref x, y], []⟩) Q E s := by
  unfold Builtin.«object.__ne__»
  repeat (first
    | with_reducible refine wpAny_cRoomFor hu ?_
    | (refine wpAny_bind (m := callSpecialIfBound? (.ref x) (Str.ofString "__eq__") [y]) (PySem.W.ifBound_K X I hs hf (wpAny_mono h (fun r s' z => by
        obtain ⟨b, rfl, z⟩ := z
        repeat (first | exact z | exact wpAny_pure z | exact wpAny_truthy_bool z | (refine wpAny_bind (m := truthy (.bool _)) (wpAny_truthy_bool ?_)) | wp_step)) fun _ _ z => z)))
    | wp_step)
theorem rc_ne {y : Addr} {oy : Obj} {oe : Option Obj} {Q : Value → Shared → Prop} (X : K.In s.heap) (I : PySem.W.InstAt s.heap x ox C od) (I2 : PySem.W.InstAt s.heap y oy C oe) (hm : PySem.W.mroIn K C (.type "object") = some true) (hn : PySem.W.findIn K (.ref C) "__ne__" = some (some (.builtin "object.__ne__"))) (hs : PySem.W.findIn K (.ref C) "__eq__" = some (some (.ref f))) (hf : PySem.W.isFn K (.ref f) = true) (hu : A.units + 1 < cLine)
    (h : wpAny (model P w) A.in1 (call (.ref f) [.ref x, .ref y]) (fun v s' => ∃ b, v = .bool b ∧ Q (.bool (!b)) s') E s) : wpAny (model P w) A (richCompare .NotEq (.ref x) (.ref y)) Q E s := by
  have one : wpAny (model P w) A (tryCompare (.ref x) "__ne__" (.ref y)) (fun r s' => ∃ v, r = some v ∧ Q v s') E s := by
    unfold tryCompare
    refine wpAny_bind (bound_ne X I hn (wpAny_call (codeAny_call_builtin F.cmp_object.ne.plain F.cmpEntry_ne (PySem.W.check_slot F.cmpKind_ne F.cmpSplit_ne (I.type.andThen (PySem.W.looks_mroIn X hm)) (F.cmpArgs_ne _ _)
      (body_ne (A := A.in1) X I hs hf hu (wpAny_mono h (fun v s' z => ?_) fun _ _ z => z))))))
    obtain ⟨b, rfl, z⟩ := z
    exact ⟨b, rfl, wpAny_pure ⟨_, rfl, z⟩⟩
  unfold richCompare
  simp only [oneThing_ref]
  refine wpAny_holding (wpAny_bind (wpAny_cRoomFor (Nat.lt_of_succ_lt hu) ?_))
  refine wpAny_bind (I.type.here (wpAny_bind (I2.type.here ?_)))
  split
  · rename_i q
    simp at q
  · refine wpAny_bind (wpAny_pure ?_)
    simp only [Bool.false_eq_true, if_false]
    refine wpAny_bind (wpAny_mono one (fun r s' z => ?_) fun _ _ e => e)
    obtain ⟨v, rfl, hq⟩ := z
    exact wpAny_pure hq
end
end L2.InsNe
namespace L2
open PySem PySem.Spec PyProof.Rows
/-- != gives False for what D says, and only makes objects -/
def NcG (X : Cx) (n : Nat) (D : Eqv) : Prop :=
  ∀ (A : Around) (pins : List (Addr × Obj)) (s : Shared) (σ : St) (H : Hp) (x y : V) (u v : Value), Sub X n A → Inv X pins σ H s → RelV x u → RelV y v → D x y H →
    wpAny (model X.prog X.w) A (richCompare .NotEq u v) (fun r s' => r = .bool false ∧ ∃ H', Inv X pins σ H' s' ∧ Ext H H') X.xe s
section
variable {X : Cx} {n m : Nat} {D D' : Eqv}
theorem ncG_tup (hD : Mon D) (h : EqG X n D) : NcG X (n + 1) (DTup X.K D) := by
  intro A pins s σ H x y u v sb I rx ry d
  obtain ⟨a, b, xs, ys, rfl, rfl, ha, hb, p⟩ := d
  cases rx
  cases ry
  obtain ⟨i1, r1, e1, _⟩ := I.tuple ha
  obtain ⟨i2, r2, e2, _⟩ := I.tuple hb
  have hz : i1.toArray.size = i2.toArray.size := by rw [List.size_toArray, List.size_toArray, ← r1.length, ← r2.length]; exact p.1
  exact InsNe.rc_tup_ne hz sb.room.units0 (fun _ t => LoopI X pins σ H t) e1 e2 (fun j k1 k2 t q => turnG hD h sb p r1 r2 j k1 k2 t q) (fun t q => ⟨rfl, q⟩) ⟨H, I, Ext.rfl'⟩
theorem ncG_ins {CX : CXT} {C f : Addr} {fd : FuncData} {ps : List Str} {R : Addr → Addr → Hp → Prop} {E : XK} (F : FnOk X.prog X.w X.K X.mg X.base CX n f fd ps (spEq R)) (hm : PySem.W.mroIn X.K C (.type "object") = some true) (hn : PySem.W.findIn X.K (.ref C) "__ne__" = some (some (.builtin "object.__ne__")))
    (hs : PySem.W.findIn X.K (.ref C) "__eq__" = some (some (.ref f))) (hf : PySem.W.isFn X.K (.ref f) = true) (hb : Binds X.K fd ps []) (hx : Passes CX X E) : NcG X (n + 1) (DIns C R) := by
  intro A pins s σ H x y u v sb I rx ry d
  obtain ⟨a, b, dx, dy, fs, gs, rfl, rfl, ha, hb', hr⟩ := d
  cases rx
  cases ry
  obtain ⟨mA, J, _⟩ := ins_get I.hok ha
  obtain ⟨mB, J', _⟩ := ins_get I.hok hb'
  obtain ⟨od, J, _⟩ := J.look
  obtain ⟨od', J', _⟩ := J'.look
  refine InsNe.rc_ne I.kIn J J' hm hn hs hf (by have := sb.room.un; omega) ?_
  have want : spEq R [.ref a, .ref b] H (fun v H' => v = .bl true ∧ Ext H H') E := ⟨a, b, rfl, hr, fun H' e => ⟨rfl, e⟩⟩
  have e0 : Env0 X.prog X.w X.K X.mg X.base A.in1 X.stack s H := by
    have e := I.env0
    have sf : A.in1.frames = X.A.frames := sb.in1.fr
    exact ⟨by rw [sf]; exact e.frames, e.mod, e.bs, e.bsz, e.funs, e.frf, e.hok, e.bare⟩
  have hl := F.len _ _ _ _ want
  refine wpAny_call (codeAny_mono (F.run A.in1 X.stack s H ⟨[.ref a, .ref b], []⟩ [.ref a, .ref b] [.ref a, .ref b] _ E sb.in1.room e0 (by
    have := hb s [.ref a, .ref b] I.kIn (by simpa using hl)
    simpa using this) (.cons rfl (.cons rfl .nil)) want) fun r s' hq => ?_)
  cases r with
  | error e => exact hx pins σ H s e s' I hq
  | ok fl =>
    cases fl with
    | ret z =>
      obtain ⟨_, H', I', rz, ez, ex⟩ := I.after hq
      subst ez
      cases rz
      exact ⟨true, rfl, rfl, H', I', ex⟩
    | next => exact False.elim hq
    | brk => exact False.elim hq
    | cont => exact False.elim hq
/-- x != y, which are equal -/
def rNeG (D : Eqv) : R2 := fun x y H Q => D x y H ∧ ∀ H', Ext H H' → Q (.bl false) H'
theorem op_neG (h : NcG X n D) (hr : Room n X.A) : OpR X (compareOp .NotEq) (rNeG D) := by
  intro pins s σ H x y v u Q I rx ry hq
  obtain ⟨d, q⟩ := hq
  show wpAny (model X.prog X.w) X.A (richCompare .NotEq v u) (EP X pins σ Q) X.xe s
  refine wpAny_mono (h X.A pins s σ H x y v u ⟨hr, rfl⟩ I rx ry d) (fun r t z => ?_) fun _ _ x => x
  obtain ⟨rfl, H', I', e⟩ := z
  exact ⟨.bl false, H', I', rfl, q H' e⟩
/-- two dicts of texts with the same pairs -/
def DDic : Eqv := fun x y H => ∃ a b ks, x = .ref a ∧ y = .ref b ∧ H a = some (.dK ks) ∧ H b = some (.dK ks) ∧ ∀ p ∈ ks, valV ks p.1 = some p.2 ∧ flatB p.2 = true
theorem mon_dic : Mon DDic := fun x y H H' e ⟨a, b, ks, hx, hy, h1, h2, k⟩ => ⟨a, b, ks, hx, hy, e _ _ h1, e _ _ h2, k⟩
theorem eqG_dic : EqG X 2 DDic := by
  intro A pins s σ H x y u v sb I rx ry d
  obtain ⟨a, b, ks, rfl, rfl, h1, h2, k⟩ := d
  refine eqV_run I 2 A (by have := sb.room.un; omega) (.ref a) (.ref b) u v (.inr (.inr (.inr ⟨a, b, ks, ks, rfl, rfl, h1, h2, rfl, fun p hp => ?_⟩))) rx ry _ _ ⟨rfl, H, I, Ext.rfl'⟩
  obtain ⟨e, f⟩ := k p hp
  exact ⟨p.2, e, .inl ⟨rfl, f⟩⟩
end
end L2
set_option Elab.async false
set_option linter.all false
set_option maxRecDepth 100000
set_option maxHeartbeats 4000000
/-! Store's own ==. -/
namespace L2.LawH
open PySem PySem.Spec PyProof.Rows L2.NSet PySem.W
abbrev sEqS : Stmt := inClass (top 16) 7
/-- a Store with these facts stands at a -/
def StoreAt (C : Addr) (H : Hp) (a : Addr) (M : List Pt) : Prop := ∃ dx t d, H a = some (.ins C dx (fsS t d)) ∧ H t = some (.tup (M.map fun x => V.ref x.1)) ∧ ∀ x ∈ M, H x.1 = some (.tup (ptV x))
theorem StoreAt.ext {C : Addr} {H H' : Hp} {a : Addr} {M : List Pt} (h : StoreAt C H a M) (e : Ext H H') : StoreAt C H' a M :=
  let ⟨dx, t, d, h1, h2, h3⟩ := h
  ⟨dx, t, d, e _ _ h1, e _ _ h2, fun x hx => e _ _ (h3 x hx)⟩
/-- two Stores with the same facts -/
def RS (C : Addr) (a b : Addr) (H : Hp) : Prop := ∃ M N : List Pt, StoreAt C H a M ∧ StoreAt C H b N ∧ M.map (·.2) = N.map (·.2)
theorem RS.mon {C : Addr} (a b : Addr) (H H' : Hp) (e : Ext H H') (r : RS C a b H) : RS C a b H' := let ⟨M, N, h1, h2, h3⟩ := r; ⟨M, N, h1.ext e, h2.ext e, h3⟩
theorem op_eqTTK {X : Cx} {K : PySem.W.Frag} (e : X.K = K) (hr : Room 2 X.A) : OpR X (compareOp .Eq) (rEqG (DTup K (DTup K DFlat))) := by
  subst e
  exact op_eqG (rcG_tup (mon_tup mon_flat) (eqG_tup mon_flat eqG_flat)) hr
theorem call_isCK {X : Cx} {K : PySem.W.Frag} {C : Addr} (e : X.K = K) (c : C8.InsC K C) : CallR X (.builtin "isinstance") (fun xs H Q => ∃ a dx fs, xs = [.ref a, .ref C] ∧ H a = some (.ins C dx fs) ∧ Q (.bl true) H) := by
  subst e
  exact C8.call_isC c
theorem eqV_str (z : Str) : eqV (.str z) (.str z) = true := by simp [eqV]
theorem prs_strs : ∀ (zs : List Str) {H : Hp}, Prs DFlat (zs.map V.str) (zs.map V.str) H
  | [], _ => .nil
  | z :: zs, _ => .cons ⟨rfl, rfl, eqV_str z⟩ (prs_strs zs)
theorem ptV_map (x : Pt) : ptV x = (x.2.1 :: x.2.2).map V.str := rfl
theorem prs_pts {K : PySem.W.Frag} {H : Hp} : ∀ {M N : List Pt}, M.map (·.2) = N.map (·.2) → (∀ x ∈ M, H x.1 = some (.tup (ptV x))) → (∀ x ∈ N, H x.1 = some (.tup (ptV x))) →
    Prs (DTup K DFlat) (M.map fun x => V.ref x.1) (N.map fun x => V.ref x.1) H
  | [], [], _, _, _ => .nil
  | [], _ :: _, h, _, _ => nomatch h
  | _ :: _, [], h, _, _ => nomatch h
  | x :: M, y :: N, h, h1, h2 => by
    rw [List.map_cons, List.map_cons] at h
    injection h with e1 e2
    refine .cons ⟨x.1, y.1, ptV x, ptV y, rfl, rfl, SqT.of (h1 x List.mem_cons_self), SqT.of (h2 y List.mem_cons_self), ?_⟩ (prs_pts e2 (fun z hz => h1 z (List.mem_cons_of_mem _ hz)) fun z hz => h2 z (List.mem_cons_of_mem _ hz))
    rw [ptV_map, ptV_map, e1]
    exact prs_strs _
section
variable {P : Program} {w : World} {K : PySem.W.Frag} {mg : Str → Option Value} {base : Heap}
theorem scEq : FnScope ["self", "other"] ["self", "other"] (defScope sEqS) := ⟨rfl, rfl, rfl, by decide +kernel, rfl, by decide +kernel, by decide +kernel⟩
theorem ok_eqS {f C : Addr} {fd : FuncData} (F : Fun K "__eq__" "Store.__eq__" sEqS f fd) (T : StT K mg C) (c : C8.InsC K C) (mC : mg "Store" = some (.ref C)) (mi : mg "isinstance" = none) :
    FnOk P w K mg base CX0 3 f fd ["self", "other"] (spEq (RS C)) := by
  refine F.ok scEq (fun vs H Q E h => ?_) (fun cdv A outer s H vs Q E hr h => ?_)
  · obtain ⟨a, b, rfl, _⟩ := h
    rfl
  · obtain ⟨a, b, rfl, ⟨M, N, ⟨dx, t, d, h1, h2, h3⟩, ⟨dy, t', d', g1, g2, g3⟩, e⟩, k⟩ := h
    refine ⟨_, pss_one (ps_ret (pe_and (pe_callB (call_isCK (K := K) rfl c) (by rfl) mi (by decide +kernel) (pa_cons (pv 1) (pa_cons (pe_glob (v := .ref C) (by rfl) mC rfl) pa_nil)))
      (pe_one (pe_cmpR (op_eqTTK (K := K) rfl hr) (pe_fld (pv 0) rfl) (pe_fld (pv 1) rfl) (nomark _))))), ?_⟩
    refine ⟨_, rfl, b, dy, _, rfl, g1, true, rfl, iteT ?_⟩
    refine ⟨_, rfl, a, C, dx, _, .ref t, rfl, h1, T.cl, T.nF, rfl, _, rfl, b, C, dy, _, .ref t', rfl, g1, T.cl, T.nF, rfl, ?_⟩
    exact ⟨⟨t, t', _, _, rfl, rfl, SqT.of h2, SqT.of g2, prs_pts e h3 g3⟩, k⟩
end
end L2.LawH
set_option Elab.async false
set_option linter.all false
set_option maxRecDepth 100000
set_option maxHeartbeats 4000000
/-! facts_told. -/
namespace L2.LawH
open PySem PySem.Spec PyProof.Rows L2.TxtSet TL L2.NSet L2.EnumS
abbrev sFactsTold : Stmt := top 15
/-- a fact as data, and the order of facts -/
def facD (c : Str × List Str) : PyData := .tuple ((c.1 :: c.2).map PyData.str)
def fle (a b : Str × List Str) : Bool := !PySem.W.dataLt (facD b) (facD a)
def over (acc : List (Str × List Str)) (c : Str × List Str) : Bool := match acc.getLast? with
  | none => false
  | some l => fle c l
/-- the facts that lines tell, or the first wrong line -/
def go : List Str → List (Str × List Str) → Nat → Sum Nat (List (Str × List Str))
  | [], acc, _ => .inr acc
  | z :: zs, acc, n => match rdF z with
    | none => .inl n
    | some c => if over acc c = true then .inl n else go zs (acc ++ [c]) (n + 1)
theorem rdF_no {z : Str} (h : rdOk z = none) : rdF z = none := by
  unfold rdOk at h
  unfold rdF
  cases e : cutP z with
  | none => rfl
  | some q =>
    obtain ⟨a, i⟩ := q
    rw [e] at h
    dsimp only at h ⊢
    by_cases c : patB (.str a :: (terms i).map V.str) = true
    · rw [if_pos c] at h
      cases h
    · rw [if_neg]
      intro f
      unfold factB at f
      rw [Bool.and_eq_true] at f
      exact c f.1
theorem rdF_of {z a : Str} {ts : List Str} (h : rdOk z = some (a, ts)) : rdF z = if factB (.str a :: ts.map V.str) = true then some (a, ts) else none := by
  unfold rdOk at h
  unfold rdF
  cases e : cutP z with
  | none =>
    rw [e] at h
    cases h
  | some q =>
    obtain ⟨b, i⟩ := q
    rw [e] at h
    dsimp only at h ⊢
    by_cases c : patB (.str b :: (terms i).map V.str) = true
    · rw [if_pos c] at h
      have h2 := Option.some.inj h
      injection h2 with h3 h4
      subst h3 h4
      rfl
    · rw [if_neg c] at h
      cases h
theorem rdF_fact {z : Str} {c : Str × List Str} (h : rdF z = some c) : factB (.str c.1 :: c.2.map V.str) = true := by
  unfold rdF at h
  cases e : cutP z with
  | none =>
    rw [e] at h
    cases h
  | some q =>
    obtain ⟨b, i⟩ := q
    rw [e] at h
    dsimp only at h
    by_cases f : factB (.str b :: (terms i).map V.str) = true
    · rw [if_pos f] at h
      have h2 := Option.some.inj h
      rw [← h2]
      exact f
    · rw [if_neg f] at h
      cases h
theorem rdOk_pat {z a : Str} {ts : List Str} (h : rdOk z = some (a, ts)) : patB (.str a :: ts.map V.str) = true := by
  unfold rdOk at h
  cases e : cutP z with
  | none =>
    rw [e] at h
    cases h
  | some q =>
    obtain ⟨b, i⟩ := q
    rw [e] at h
    dsimp only at h
    by_cases c : patB (.str b :: (terms i).map V.str) = true
    · rw [if_pos c] at h
      have h2 := Option.some.inj h
      injection h2 with h3 h4
      rw [← h3, ← h4]
      exact c
    · rw [if_neg c] at h
      cases h
/-- a text that may be read -/
def Rdb (z : Str) : Prop := z.length ≤ 1000 ∧ ∀ c ∈ tl z, c < 0x110000
def spFT (C : Addr) : Sp := fun vs H Q E => ∃ (q : Addr) (zs : List Str), vs = [.ref q] ∧ H q = some (.lst (zs.map V.str)) ∧ zs.length ≤ 1000 ∧ (∀ z ∈ zs, Rdb z) ∧
  (∀ n, go zs [] 1 = .inl n → ∀ (H' : Hp) (d : Addr), Same H H' → H d = none → H' d = some (.xd [("line", .int (n : Nat))]) → E (.ref C) (some d) H') ∧
  (∀ cs, go zs [] 1 = .inr cs → ∀ (H' : Hp) (l : Addr) (Fs : List Pt), Same H H' → H l = none → H' l = some (.lst (Fs.map fun x => V.ref x.1)) → (∀ x ∈ Fs, H' x.1 = some (.tup (ptV x))) → Fs.map (·.2) = cs → Q (.ref l) H')
section
variable {P : Program} {w : World} {K : PySem.W.Frag} {mg : Str → Option Value} {base : Heap}
theorem walk_enumS {K : PySem.W.Frag} {a : Addr} {xs : List V} {k0 : Nat} : L2.Walk (IteS K k0 a) xs.length (fun H => SqL K H a xs) (YPair (fun i => some (.int ((k0 + i : Nat) : Int))) (fun i => xs[i]?)) := by
  refine ⟨fun i _ lt q => ⟨xs, xs[i], q, by simp [lt]⟩, fun _ q => ⟨xs, q, Nat.le_refl _⟩, fun i H v H' _ q y => ?_⟩
  obtain ⟨T, x, y1, y2, y3, y4⟩ := y
  exact ⟨T, _, x, y1, y2, y3, rfl, y4 xs q⟩
/-- BadLine(n) is on its way -/
theorem mk_line {C : Addr} {H H1 : Hp} {Q : XK} {n : Int} (s : Same H H1) (k : ∀ (H' : Hp) (d : Addr), Same H H' → H d = none → H' d = some (.xd [("line", .int n)]) → Q (.ref C) (some d) H') : ∀ a, H1 a = none →
    spBL C [.ref a, .int n] (upd H1 a (exo a C none)) (fun v H2 => v = .non ∧ ∃ (d : Addr) (fs : List (Str × V)), H2 a = some (exo a C (some d)) ∧ H2 d = some (exd d fs) ∧ H1 d = none ∧ Q (.ref C) (some d) (upd (del H2 a) d (.xd fs))) (fun _ _ _ => False) := fun a na => by
  refine ⟨a, n, rfl, upd_same, fun dx nd ne => ⟨rfl, dx, [("line", .int n)], upd_same, ?_, ?_, ?_⟩⟩
  · rw [upd_ne ne, upd_same]
  · rw [upd_ne ne] at nd
    exact nd
  · rw [upd_ne ne] at nd
    have old : ∀ b o, H b = some o → b ≠ a ∧ b ≠ dx := fun b o h => by
      have h1 := s _ _ h
      refine ⟨fun e => ?_, fun e => ?_⟩
      · rw [e, na] at h1
        cases h1
      · rw [e, nd] at h1
        cases h1
    refine k _ dx (fun b o h => ?_) ?_ upd_same
    · obtain ⟨n1, n2⟩ := old b o h
      rw [upd_ne n2, del_ne n1, upd_ne n1, upd_ne n2, upd_ne n1]
      exact s _ _ h
    · cases e : H dx with
      | none => rfl
      | some o =>
        rw [s _ _ e] at nd
        cases nd
theorem dp_fact {K : PySem.W.Frag} {H : Hp} {p : Addr} {c : Str × List Str} (h : H p = some (.tup ((c.1 :: c.2).map V.str))) : Dp K H (.ref p) (facD c) := .tup (SqT.of h) (dp_texts (c.1 :: c.2))
theorem alike_fact (a b : Str × List Str) : PySem.W.alike (facD a) (facD b) = true := by
  unfold facD
  rw [PySem.W.alike]
  exact alike_texts _ _
theorem depth_fact (a : Str × List Str) : (facD a).depth ≤ 1 := by
  unfold facD
  rw [PyData.depth, ddepth_texts]
  exact Nat.le_refl _
theorem over_snoc (acc : List (Str × List Str)) (l c : Str × List Str) : over (acc ++ [l]) c = fle c l := by
  unfold over
  rw [List.getLast?_append]
  rfl
abbrev nFT : List Str := ["lines", "facts", "number", "line", "fact"]
theorem scFT : FnScope nFT ["lines"] (defScope sFactsTold) := ⟨rfl, rfl, rfl, by decide +kernel, rfl, by decide +kernel, by decide +kernel⟩
theorem ok_FT {f fR fF fI C : Addr} {fd fdR fdF fdI : FuncData} (F : Fun K "facts_told" "facts_told" sFactsTold f fd)
    (GR : FnOk P w K mg base CX0 4 fR fdR ["text"] spRd) (kR : PySem.W.keepIn K (.ref fR) = true) (bR : Binds K fdR ["text"] []) (mR : mg "read_pattern" = some (.ref fR))
    (GF : FnOk P w K mg base CX0 4 fF fdF ["value"] (spIsP K factB)) (kF : PySem.W.keepIn K (.ref fF) = true) (bF : Binds K fdF ["value"] []) (mF : mg "is_fact" = some (.ref fF))
    (T : OexC K C) (iC : PySem.W.findIn K (.ref C) "__init__" = some (some (.ref fI))) (tI : PySem.W.typeIn K (.ref fI) = some (.type "function")) (GI : FnOk P w K mg base CX0 1 fI fdI ["self", "line"] (spBL C)) (bI : Binds K fdI ["self", "line"] []) (mC : mg "BadLine" = some (.ref C))
    (me : mg "enumerate" = none) : FnOk P w K mg base (L2.CX P w) 5 f fd ["lines"] (spFT C) := by
  refine F.okX scFT (fun vs H Q E h => ?_) (fun cdv A outer s H vs Q E hr h => ?_)
  · obtain ⟨q, zs, rfl, _⟩ := h
    rfl
  · obtain ⟨q, zs, rfl, hq, few, rdb, kE, kS⟩ := h
    have hr2 : Room 2 _ := hr.mono (by decide)
    have hu := hr.units
    refine ⟨_, pss_cons (ps_set (i := 1) scFT.nd rfl (Or.inl rfl) (pe_lst pa_nil))
      (pss_cons (ps_for (passes_of rfl) rfl (pi_enumS (by rfl) me (pa_cons (pv 0) pa_nil) (pk_cons pe_int pk_nil)) (pg_tup rfl (pgs_cons (pg_name (i := 2) scFT.nd rfl (.inl rfl)) (pgs_cons (pg_name (i := 3) scFT.nd rfl (.inl rfl)) pgs_nil)))
        (pss_cons (ps_set (i := 4) scFT.nd rfl (Or.inl rfl) (pe_call GR hr (by rfl) mR kR bR .nil pass0 (pa_cons (pv 3) pa_nil)))
        (pss_cons (ps_if (PW.pt (pw_or (pt_not (pt_val (pe_call GF hr (by rfl) mF kF bF .nil pass0 (pa_cons (pv 4) pa_nil))))
            (pw_or1 (PW.pt (pw_and (pt_truth (pv 1) (by intro _; rfl)) (pw_and1 (pt_cmpR (op_leD (K := K) rfl hu) (pv 4) (pe_ix ix_list (pv 1) (pe_un un_neg pe_int) (fun _ _ => rfl)) (nomark _))))))))
          (pss_one (ps_raise rfl (takes_of rfl rfl rfl rfl) (pmk_oex T iC tI GI hr2 bI .nil pass0 (by rfl) mC (pa_cons (pv 2) pa_nil)))) pss_nil)
        (pss_one (ps_expr (pe_bm PySem.F.plainAttrs_list PySem.F.slot_list_append PySem.F.type_list_append mt_append (pv 1) (pa_cons (pv 4) pa_nil)))))))
      (pss_one (ps_ret (pv 1)))), ?_⟩
    refine ⟨(by show 0 ≤ sizeLine; decide), fun D nD => ?_⟩
    have s0 : Same H (upd H D (.lst [])) := same_new nD
    have hD0 : (upd H D (.lst [])) D = some (.lst []) := upd_same
    generalize upd H D (.lst []) = H0 at s0 hD0 ⊢
    have qD : q ≠ D := ne_of_none hq nD
    refine ⟨_, rfl, q, _, rfl, SqL.of (s0 _ _ hq), ?_⟩
    refine for_it (walk_enumS (K := K) (xs := zs.map V.str)) (fun i σ H5 => ∃ (v2 v3 v4 : Option V) (Fs : List Pt), σ = [some (.ref q), some (.ref D), v2, v3, v4] ∧ H5 D = some (.lst (Fs.map fun x => V.ref x.1)) ∧ (∀ x ∈ Fs, H5 x.1 = some (.tup (ptV x)) ∧ x.1 ≠ D) ∧ Fs.length ≤ i ∧ go zs [] 1 = go (zs.drop i) (Fs.map (·.2)) (i + 1) ∧ (∀ b o, b ≠ D → H0 b = some o → H5 b = some o))
      ⟨none, none, none, [], rfl, hD0, fun x h => (nomatch h), Nat.le_refl _, rfl, fun _ _ _ h => h⟩ (fun i σ H5 hi p => let ⟨_, _, _, _, _, _, _, _, _, p6⟩ := p; SqL.of (p6 _ _ qD (s0 _ _ hq))) (fun i z σ H5 H6 hi p yy => ?_) (fun σ H5 p => ?_)
    · obtain ⟨v2, v3, v4, Fs, rfl, p1, p2, p3, p4, p5⟩ := p
      obtain ⟨T2, xx, yv, rfl, nT, rfl, ex, ey⟩ := yy
      obtain rfl := Option.some.inj ex
      have ey : (zs.map V.str)[i]? = some yv := ey
      rw [List.getElem?_map] at ey
      obtain ⟨y, hy, rfl⟩ := Option.map_eq_some_iff.mp ey
      have my := List.mem_of_getElem? hy
      have dr : zs.drop i = y :: zs.drop (i + 1) := by
        have lt : i < zs.length := (List.getElem?_eq_some_iff.mp hy).1
        rw [List.drop_eq_getElem_cons lt]
        have e : zs[i] = y := (List.getElem?_eq_some_iff.mp hy).2
        rw [e]
      rw [dr] at p4
      rw [List.length_map] at hi
      have s5 : ∀ b o, b ≠ D → H0 b = some o → (upd H5 T2 (.tup [.int ((1 + i : Nat) : Int), .str y])) b = some o := fun b o nb h => same_new nT _ _ (p5 b o nb h)
      have p1' := same_new (o := .tup [.int ((1 + i : Nat) : Int), .str y]) nT _ _ p1
      have p2' : ∀ x ∈ Fs, (upd H5 T2 (.tup [.int ((1 + i : Nat) : Int), .str y])) x.1 = some (.tup (ptV x)) ∧ x.1 ≠ D := fun x hx => ⟨same_new nT _ _ (p2 x hx).1, (p2 x hx).2⟩
      have hT : (upd H5 T2 (.tup [.int ((1 + i : Nat) : Int), .str y])) T2 = some (.tup [.int ((1 + i : Nat) : Int), .str y]) := upd_same
      generalize upd H5 T2 (.tup [.int ((1 + i : Nat) : Int), .str y]) = H6 at s5 p1' p2' hT ⊢
      have s06 : Same H H6 := fun b o h => s5 b o (ne_of_none h nD) (s0 _ _ h)
      refine ⟨T2, _, rfl, SqT.of hT, rfl, _, _, rfl, _, _, rfl, rfl, ?_⟩
      have wrong : go zs [] 1 = .inl (1 + i) → ∀ (H7 : Hp), Same H6 H7 → ∀ a, H7 a = none → spBL C [.ref a, .int ((1 + i : Nat) : Int)] (upd H7 a (exo a C none)) (fun v H2 => v = .non ∧ ∃ (d : Addr) (fs : List (Str × V)), H2 a = some (exo a C (some d)) ∧ H2 d = some (exd d fs) ∧ H7 d = none ∧ E (.ref C) (some d) (upd (del H2 a) d (.xd fs))) (fun _ _ _ => False) := fun g H7 s7 =>
        mk_line (fun b o h => s7 _ _ (s06 _ _ h)) fun H' d s' nd hd => kE _ g H' d s' nd hd
      obtain ⟨ly, cy⟩ := rdb y my
      refine ⟨_, rfl, y, rfl, ly, cy, fun hn H7 s7 => ?_, fun a ts hs p H7 s7 np hp => ?_⟩
      · have g : go zs [] 1 = .inl (1 + i) := by
          rw [p4, go, rdF_no hn, Nat.add_comm]
        refine ⟨_, rfl, .non, rfl, .inr ⟨⟨"NoneType", .base .non, by decide +kernel⟩, fun H8 s8 => ⟨false, rfl, iteT ?_⟩⟩⟩
        exact ⟨_, rfl, (by show 1 ≤ 1000; decide), wrong g H8 (s7.trans s8)⟩
      · have rf := rdF_of hs
        have bd := pat_bd (rdOk_pat hs)
        refine ⟨_, rfl, .ref p, rfl, .inl ⟨p, _, rfl, hp, ?_, fun v hv => ?_, fun H8 s8 => ⟨_, rfl, ?_⟩⟩⟩
        · rw [List.length_cons, List.length_map]
          omega
        · rcases List.mem_cons.mp hv with rfl | hv
          · exact .inl ⟨_, rfl, by omega⟩
          · obtain ⟨w2, hw2, rfl⟩ := List.mem_map.mp hv
            have := bd.2.2 w2 hw2
            exact .inl ⟨_, rfl, by omega⟩
        by_cases hf : factB (.str a :: ts.map V.str) = true
        case neg =>
          have hf' : factB (.str a :: ts.map V.str) = false := by simpa using hf
          rw [hf']
          have g : go zs [] 1 = .inl (1 + i) := by
            rw [p4, go, rf, if_neg hf, Nat.add_comm]
          refine iteT ?_
          exact ⟨_, rfl, (by show 1 ≤ 1000; decide), wrong g H8 (s7.trans s8)⟩
        rw [hf]
        rw [if_pos hf] at rf
        refine iteF ?_
        have s68 : Same H6 H8 := s7.trans s8
        have p1'' := s68 _ _ p1'
        have hp8 := s8 _ _ hp
        have pD : p ≠ D := fun e => by
          rw [e, p1'] at np
          cases np
        -- laid behind the others
        have put : over (Fs.map (·.2)) (a, ts) = false → ∀ (HZ : Hp), HZ = upd H8 D (.lst ((Fs.map fun x => V.ref x.1) ++ [V.ref p])) → ∃ (v2 v3 v4 : Option V) (Gs : List Pt), ([some (.ref q), some (.ref D), some (.int ((1 + i : Nat) : Int)), some (.str y), some (.ref p)] : St) = [some (.ref q), some (.ref D), v2, v3, v4] ∧ HZ D = some (.lst (Gs.map fun x => V.ref x.1)) ∧ (∀ x ∈ Gs, HZ x.1 = some (.tup (ptV x)) ∧ x.1 ≠ D) ∧ Gs.length ≤ i + 1 ∧
            go zs [] 1 = go (zs.drop (i + 1)) (Gs.map (·.2)) (i + 1 + 1) ∧ (∀ b o, b ≠ D → H0 b = some o → HZ b = some o) := fun ov HZ eZ => by
          subst eZ
          refine ⟨_, _, _, Fs ++ [(p, a, ts)], rfl, by rw [upd_same, List.map_append]; rfl, fun x hx => ?_, by rw [List.length_append]; show Fs.length + 1 ≤ _; omega, ?_, fun b o nb h => ?_⟩
          · rcases List.mem_append.mp hx with hx | hx
            · obtain ⟨c1, c2⟩ := p2' x hx
              exact ⟨by rw [upd_ne c2]; exact s68 _ _ c1, c2⟩
            · rw [List.mem_singleton.mp hx]
              exact ⟨by rw [upd_ne pD]; exact hp8, pD⟩
          · rw [p4, go, rf]
            dsimp only
            rw [ov, if_neg Bool.false_ne_true, List.map_append]
            rfl
          · rw [upd_ne nb]
            exact s68 _ _ (s5 b o nb h)
        refine ⟨_, rfl, _, .inl ⟨_, SqL.of p1'', rfl⟩, ?_⟩
        rcases List.eq_nil_or_concat Fs with e | ⟨G, lst, e⟩
        · subst e
          refine iteF ?_
          refine iteF ?_
          exact ⟨_, rfl, .inl ⟨rfl, _, SqL.of p1''⟩, _, rfl, D, _, _, rfl, rfl, p1'', by show 0 < sizeLine; rw [sizeLine_eq]; decide, put rfl _ rfl⟩
        · rw [List.concat_eq_append] at e
          have ne : (!(Fs.map fun x => V.ref x.1).isEmpty) = true := by
            rw [e]
            simp
          rw [ne]
          refine iteT ?_
          have mL : lst ∈ Fs := by
            rw [e]
            simp
          have at9 : atI (Fs.map fun x => V.ref x.1) (-1) = some (V.ref lst.1) := by
            rw [e, List.map_append]
            exact atI_last _ _
          have ov : over (Fs.map (·.2)) (a, ts) = fle (a, ts) lst.2 := by
            rw [e, List.map_append]
            exact over_snoc _ _ _
          refine ⟨_, rfl, _, rfl, 1, rfl, D, _, -1, _, rfl, rfl, SqL.of p1'', at9, facD (a, ts), facD lst.2, dp_fact hp8, dp_fact (s68 _ _ (p2' lst mL).1), alike_fact _ _, (fun z => by unfold facD at z; cases z), ?_, _, rfl, ?_⟩
          · have := depth_fact (a, ts)
            omega
          have eo : (!PySem.W.dataLt (facD lst.2) (facD (a, ts))) = over (Fs.map (·.2)) (a, ts) := ov.symm
          rw [eo]
          cases c : over (Fs.map (·.2)) (a, ts) with
          | true =>
            refine iteT ?_
            have g : go zs [] 1 = .inl (1 + i) := by
              rw [p4, go, rf]
              dsimp only
              rw [c, if_pos rfl, Nat.add_comm]
            exact ⟨_, rfl, (by show 1 ≤ 1000; decide), wrong g H8 s68⟩
          | false =>
            refine iteF ?_
            exact ⟨_, rfl, .inl ⟨rfl, _, SqL.of p1''⟩, _, rfl, D, _, _, rfl, rfl, p1'', by rw [List.length_map, sizeLine_eq]; omega, put c _ rfl⟩
    · obtain ⟨v2, v3, v4, Fs, rfl, p1, p2, p3, p4, p5⟩ := p
      have e : zs.drop (zs.map V.str).length = [] := by
        rw [List.length_map]
        exact List.drop_length
      rw [e] at p4
      exact ⟨_, rfl, kS _ p4 H5 D Fs (fun b o h => p5 b o (ne_of_none h nD) (s0 _ _ h)) nD p1 (fun x hx => (p2 x hx).1) rfl⟩
end
end L2.LawH
set_option Elab.async false
set_option linter.all false
set_option maxRecDepth 100000
set_option maxHeartbeats 4000000
/-! Store.read. -/
namespace L2.ClsCall
open PySem PySem.Spec PyProof.Rows ClX
section
variable {X : Cx} {CX : CXT} {k n : Nat} {C p g f : Addr} {mc : Value} {sp : Sp} {E : St → XK} {o e : Expr} {es : List Expr} {m x : Str} {pos apos np : Pos} {ta : TE} {t tk : TA} {pl : Sem Bool} {fd : FuncData} {ps ks : List Str} {kws : List Keyword}
theorem run_cmA {q : Addr} {pins : List (Addr × Obj)} {σ : St} {H : Hp} {s : Shared} {Q : VK} {E1 : XK} {us : List Value} {kw : List (Str × Value)} {zs : List Value} {ws : List V} (F : FnOk X.prog X.w X.K X.mg X.base CX k g fd ps sp) (hr : Room k X.A)
    (hb : BindsTo s fd ⟨.ref C :: us, kw⟩ (ps.zip zs)) (hx : PassesAt CX X σ E1) (I : Inv X ((q, PySem.W.methodObj (.ref g) (.ref C)) :: pins) σ H s) (r : Vals ws zs) (h : sp ws H Q E1) :
    wpAny (model X.prog X.w) X.A (call (.ref q) us kw) (EP X pins σ Q) X.xe s := by
  have z : wpAny (model X.prog X.w) X.A (call (.ref q) us kw) (EP X ((q, PySem.W.methodObj (.ref g) (.ref C)) :: pins) σ Q) X.xe s := by
    refine wpAny_call (PySem.W.method_call (pin_at I) (codeAny_mono (F.run X.A X.stack s H ⟨.ref C :: us, kw⟩ zs ws Q E1 hr I.env0 hb r h) fun r s' hq => ?_))
    cases r with
    | error e => exact hx _ H s e s' I hq
    | ok fl =>
      cases fl with
      | ret u => exact I.after hq
      | next => exact False.elim hq
      | brk => exact False.elim hq
      | cont => exact False.elim hq
  exact thn z fun _ _ y => unpinE y
/-- C.m(e, ..), m a classmethod; what it raises may tell of the slots -/
def tCMethS (C : Addr) (sp : Sp) (E : St → XK) (ta : TE) (t : TA) : TE := fun σ H Q => ta σ H fun x H1 => x = .ref C ∧ t σ H1 fun vs H2 => sp (.ref C :: vs) H2 Q (E σ)
theorem pe_cmethS (he : PE X o ta) (r : CRead X.K C mc) (c : CMet X.K C mc m p g) (F : FnOk X.prog X.w X.K X.mg X.base CX k g fd ps sp) (hr : Room k X.A) (hb : Binds X.K fd ps []) (hx : ∀ σ, PassesAt CX X σ (E σ)) (ha : PA X (e :: es) t)
    (hst : starEach (e :: es) X.env = (false, eval e X.env) :: starEach es X.env := by rfl) (hpl : (backTo pos (starEach es X.env)).any (·.1) = false := by rfl)
    (ht : eval (.Call (.Attribute o m apos) (e :: es) [] pos) X.env = (do
      let ov ← eval o X.env
      standAt apos.atName
      let (f, first) ← holding [ov] (getMethod ov m pl)
      callWith pos f first (backTo pos (starEach (e :: es) X.env)) (backToKw pos (keywordEach [] X.env))) := by rfl) :
    PE X (.Call (.Attribute o m apos) (e :: es) [] pos) (tCMethS C sp E ta t) := by
  refine ⟨fun pins s σ H Q I h => PySem.W.methodCall_KW (pl := pl) (thn (he.run pins s σ H _ I h) fun u s1 ⟨x, H1, I1, rx, ex, q⟩ => ?_) ht⟩
  subst ex
  cases rx
  refine getmethcm_ok I1 r c fun s2 I2 => ?_
  refine callwith_cm I2 (base_none I1 (Nat.le_refl _)) c.fi (thn (ha.run pos _ s2 σ H1 _ I2 q) fun us s3 ⟨vs, H2, I3, rv, q2⟩ => ⟨⟨pin_at I3, I3.kIn⟩, ?_⟩) hst hpl
  have r2 : Vals (V.ref C :: vs) (Value.ref C :: us) := .cons rfl rv
  have hl : (Value.ref C :: us).length = ps.length := by rw [← r2.length]; exact F.len _ _ _ _ q2
  have b := hb s3 (Value.ref C :: us) I3.kIn (by rw [List.append_nil]; exact hl)
  rw [List.append_nil] at b
  exact run_cmA F hr b (hx σ) I3 r2 q2
/-- C.m(k = v, ..) -/
def tCMethK (C : Addr) (n : Nat) (sp : Sp) (gV : List V → List V → List V) (E : St → XK) (ta : TE) (tk : TA) : TE := fun σ H Q => ta σ H fun x H1 => x = .ref C ∧ tk σ H1 fun zs H2 => zs.length = n ∧ sp (gV [.ref C] zs) H2 Q (E σ)
theorem pe_cmethK {g1 : List Value → List Value → List Value} {gV : List V → List V → List V} (he : PE X o ta) (r : CRead X.K C mc) (c : CMet X.K C mc m p g) (F : FnOk X.prog X.w X.K X.mg X.base CX k g fd ps sp) (hr : Room k X.A) (hb : KBn X.K fd ps 1 ks g1 gV) (hx : ∀ σ, PassesAt CX X σ (E σ)) (hkw : PK X kws tk)
    (hall : (backToKw pos (keywordEach kws X.env)).all (·.1.isSome) = true := by rfl) (hks : (backToKw pos (keywordEach kws X.env)).filterMap (·.1) = ks := by rfl)
    (hpl : ((backTo pos (starEach [] X.env)).any (·.1) || (backToKw pos (keywordEach kws X.env)).any (·.1.isNone)) = false := by rfl)
    (ht : eval (.Call (.Attribute o m apos) [] kws pos) X.env = (do
      let ov ← eval o X.env
      standAt apos.atName
      let (f, first) ← holding [ov] (getMethod ov m pl)
      callWith pos f first (backTo pos (starEach [] X.env)) (backToKw pos (keywordEach kws X.env))) := by rfl) :
    PE X (.Call (.Attribute o m apos) [] kws pos) (tCMethK C ks.length sp gV E ta tk) := by
  refine ⟨fun pins s σ H Q I h => PySem.W.methodCall_KW (pl := pl) (thn (he.run pins s σ H _ I h) fun u s1 ⟨x, H1, I1, rx, ex, q⟩ => ?_) ht⟩
  subst ex
  cases rx
  refine getmethcm_ok I1 r c fun s2 I2 => ?_
  refine PySem.W.callWith_of (P := PySem.W.MethP X.K s1.heap.objs.size g (.ref C)) hpl (PySem.W.keeps_M c.fi) (PyProof.Rows.evalArgs_kw2_nil hall (thn (hkw.run pos _ s2 σ H1 _ I2 q) fun ws s3 ⟨zs, H2, I3, rz, lz, q2⟩ => ⟨⟨pin_at I3, I3.kIn⟩, ?_⟩))
  rw [hks]
  have b := hb.to s3 [Value.ref C] ws I3.kIn rfl (rz.length.symm.trans lz)
  exact run_cmA (us := []) F hr b (hx σ) I3 (hb.rel (show Vals [V.ref C] [Value.ref C] from .cons rfl .nil) rz) q2
/-- a class in a slot is called -/
def tMakeV (i : Nat) (C : Addr) (sp : Sp) (t : TA) : TE := fun σ H Q => σ[i]? = some (some (.ref C)) ∧ tMake C sp [] E0 t σ H Q
theorem pe_makeV {i : Nat} (hN : X.N[i]? = some x) (hv : Vis X.env.scope x) (M : Mk X.K C f) (F : FnOk X.prog X.w X.K X.mg X.base CX0 k f fd ps sp) (hr : Room (k + 1) X.A) (hb : Binds X.K fd ps []) (ha : PA X (e :: es) t)
    (hd : (x == ("__debug__" : Str)) = false := by decide) (hcd : (x == ("__classdict__" : Str)) = false := by decide) (he : starEach (e :: es) X.env = (false, eval e X.env) :: starEach es X.env := by rfl) (hpl : (backTo pos (starEach es X.env)).any (·.1) = false := by rfl) :
    PE X (.Call (.Name x np) (e :: es) [] pos) (tMakeV i C sp t) := by
  refine ⟨fun pins s σ H Q I h => ?_⟩
  obtain ⟨at_i, h⟩ := h
  refine wpAny_Call_Name_kw (thn ((pe_var (pos := np) hN hv hd hcd).run pins s σ H (fun v H1 => v = .ref C ∧ H1 = H) I ⟨.ref C, at_i, rfl, rfl⟩) fun u s1 ⟨v, H1, I1, r1, q1⟩ => ?_)
  obtain ⟨rfl, rfl⟩ := q1
  cases r1
  refine PySem.W.callWith_K (h₀ := X.base) I.ok.mod.kin M.kp (thn (ha.run pos pins s1 σ _ _ I1 h) fun us s2 ⟨vs, H2, I2, r, q⟩ => ⟨I2.kIn, ?_⟩) he hpl
  exact run_make M F hr hb .nil pass0 I2 r q
end
end L2.ClsCall
set_option Elab.async false
set_option linter.all false
set_option maxRecDepth 100000
set_option maxHeartbeats 4000000
/-! Store.read. -/
namespace L2.LawH
open PySem PySem.Spec PyProof.Rows L2.TxtSet TL L2.NSet L2.ClsCall ClX
abbrev sReadS : Stmt := inClass (top 16) 14
theorem tl_nl : tl nlS = [10] := by decide +kernel
theorem nl_kind (i : Str) : ¬ Builtin.Str.strKind i < Builtin.Str.strKind nlS := kind_ok (by decide +kernel)
theorem split_nl (i : Str) : (Txt.split i nlS).map tl = spl [10] 0 [] (tl i) := by
  have h := split_spl i nlS (by rw [tl_nl]; simp) (nl_kind i)
  rw [tl_nl] at h
  exact h
theorem lns_join (i : Str) (h : i.length ≠ 0) : joinL [10] ((lns i).map tl) = tl i := by
  unfold lns
  rw [if_neg h, split_nl, join_spl]
  rfl
theorem lns_rdb {z y : Str} (h : Rdb z) (hy : y ∈ lns z) : Rdb y := by
  by_cases h0 : z.length = 0
  · unfold lns at hy
    rw [if_pos h0] at hy
    cases hy
  · have e := lns_join z h0
    have m : tl y ∈ (lns z).map tl := List.mem_map_of_mem hy
    refine ⟨?_, fun c hc => h.2 c ?_⟩
    · have := part_le 10 _ _ m
      rw [e, ← len_tl, ← len_tl] at this
      exact Nat.le_trans this h.1
    · have := part_mem 10 _ _ c m hc
      rw [e] at this
      exact this
theorem go_facts : ∀ (zs : List Str) (acc : List (Str × List Str)) (n : Nat) (cs : List (Str × List Str)), go zs acc n = .inr cs → (∀ c ∈ acc, factB (.str c.1 :: c.2.map V.str) = true) → (∀ c ∈ cs, factB (.str c.1 :: c.2.map V.str) = true) ∧ cs.length ≤ acc.length + zs.length
  | [], acc, n, cs, h, ha => by
    rw [go] at h
    injection h with h
    rw [← h]
    exact ⟨ha, Nat.le_add_right _ _⟩
  | z :: zs, acc, n, cs, h, ha => by
    rw [go] at h
    cases e : rdF z with
    | none =>
      rw [e] at h
      cases h
    | some c =>
      rw [e] at h
      dsimp only at h
      by_cases o : over acc c = true
      · rw [if_pos o] at h
        cases h
      · rw [if_neg o] at h
        obtain ⟨g1, g2⟩ := go_facts zs _ _ _ h fun d hd => by
          rcases List.mem_append.mp hd with hd | hd
          · exact ha d hd
          · rw [List.mem_singleton.mp hd]
            exact rdF_fact e
        refine ⟨g1, ?_⟩
        rw [List.length_append] at g2
        rw [List.length_cons]
        have : [c].length = 1 := rfl
        omega
theorem none_ext {H H' : Hp} {a : Addr} (s : Same H H') (n : H' a = none) : H a = none := by
  cases h : H a with
  | none => rfl
  | some o => rw [s _ _ h] at n; cases n
def spReadS (S B : Addr) : Sp := fun vs H Q E => ∃ z : Str, vs = [.ref S, .str z] ∧ Rdb z ∧ (lns z).length ≤ 60 ∧
  (∀ n, go (lns z) [] 1 = .inl n → ∀ (H' : Hp) (d : Addr), Same H H' → H d = none → H' d = some (.xd [("line", .int (n : Nat))]) → E (.ref B) (some d) H') ∧
  (∀ cs, go (lns z) [] 1 = .inr cs → ∀ (H' : Hp) (s : Addr) (M : List Pt), Same H H' → H s = none → StoreAt S H' s M → (∀ c, c ∈ M.map (·.2) ↔ c ∈ cs) → (M.map (·.2)).Nodup → Rise (fun x : Pt => (ptM x).2.data) M → Q (.ref s) H')
section
variable {P : Program} {w : World} {K : PySem.W.Frag} {mg : Str → Option Value} {base : Heap}
theorem scRdS : FnScope ["cls", "text"] ["cls", "text"] (defScope sReadS) := ⟨rfl, rfl, rfl, by decide +kernel, rfl, by decide +kernel, by decide +kernel⟩
theorem ok_readS {f fT fL fI S B : Addr} {fd fdT fdL fdI : FuncData} (F : Fun K "read" "Store.read" sReadS f fd) (M : Mk K S fI) (GI : FnOk P w K mg base CX0 5 fI fdI ["self", "facts"] (spInitS S K)) (bI : Binds K fdI ["self", "facts"] [])
    (GT : FnOk P w K mg base (L2.CX P w) 5 fT fdT ["lines"] (spFT B)) (kT : PySem.W.keepIn K (.ref fT) = true) (bT : Binds K fdT ["lines"] []) (mT : mg "facts_told" = some (.ref fT))
    (GL : FnOk P w K mg base CX0 1 fL fdL ["text"] spLns) (kL : PySem.W.keepIn K (.ref fL) = true) (bL : Binds K fdL ["text"] []) (mL : mg "lines_of" = some (.ref fL)) :
    FnOk P w K mg base (L2.CX P w) 7 f fd ["cls", "text"] (spReadS S B) := by
  refine F.okX scRdS (fun vs H Q E h => ?_) (fun cdv A outer s H vs Q E hr h => ?_)
  · obtain ⟨z, rfl, _⟩ := h
    rfl
  · obtain ⟨z, rfl, rz, few, kE, kS⟩ := h
    have hr1 : Room 1 _ := hr.mono (by decide)
    have hr5 : Room 5 _ := hr.mono (by decide)
    refine ⟨_, pss_one (ps_ret (pe_makeV (i := 0) (by rfl) (.inl (by rfl)) M GI hr bI (pa_cons (pe_callS GT hr5 (by rfl) mT kT bT (fun σ => passAt (takes_of (E := E) rfl rfl rfl rfl) σ) (pa_cons (pe_call GL hr1 (by rfl) mL kL bL .nil pass0 (pa_cons (pv 1) pa_nil)) pa_nil)) pa_nil))), ?_⟩
    refine ⟨rfl, _, rfl, z, rfl, rz.1, fun H1 p s1 np hp => ?_⟩
    refine ⟨p, lns z, rfl, hp, by omega, fun y hy => lns_rdb rz hy, fun n g H' d s' nd hd => kE n g H' d (fun b o h => s' _ _ (s1 _ _ h)) (none_ext s1 nd) hd, fun cs g H2 l Fs s2 nl hl each eF => ?_⟩
    obtain ⟨fB, lc⟩ := go_facts _ _ _ _ g (fun c hc => nomatch hc)
    have lF : Fs.length = cs.length := by rw [← eF, List.length_map]
    have few2 : Fs.length < 63 := by
      rw [lF]
      have : ([] : List (Str × List Str)).length = 0 := rfl
      omega
    have memF : ∀ y ∈ Fs, factB (ptV y) = true := fun y hy => fB y.2 (by rw [← eF]; exact List.mem_map.mpr ⟨y, hy, rfl⟩)
    intro x dx nx ndx ne
    have sU : Same H2 (upd (upd H2 dx (.own x)) x (.ins S dx [])) := fun b o h => by
      rw [upd_ne (ne_of_none h nx), upd_ne (ne_of_none h ndx)]
      exact h
    have hxi : (upd (upd H2 dx (.own x)) x (.ins S dx [])) x = some (.ins S dx []) := upd_same
    generalize upd (upd H2 dx (.own x)) x (.ins S dx []) = H3 at sU hxi ⊢
    refine ⟨x, l, dx, Fs, rfl, hxi, .inl (SqL.of (sU _ _ hl)), fun y hy => ?_, few2, fun H4 t d M2 keep hp4 ht nt nd hd sub all nodup rise => ⟨rfl, ?_⟩⟩
    · have f := memF y hy
      have pb : patB (.str y.2.1 :: y.2.2.map V.str) = true := by
        unfold factB at f
        rw [Bool.and_eq_true] at f
        exact f.1
      have bd := pat_bd pb
      refine ⟨sU _ _ (each y hy), f, bd.2.1, fun v hv => ?_⟩
      rcases List.mem_cons.mp hv with rfl | hv
      · exact .inl ⟨_, rfl, by omega⟩
      · obtain ⟨w2, hw2, rfl⟩ := List.mem_map.mp hv
        have := bd.2.2 w2 hw2
        exact .inl ⟨_, rfl, by omega⟩
    · have s24 : Same H2 H4 := fun b o h => keep b o (fun e => by rw [e, nx] at h; cases h) (sU _ _ h)
      have s02 : Same H H2 := fun b o h => s2 _ _ (s1 _ _ h)
      refine kS cs g H4 x M2 (fun b o h => s24 _ _ (s02 _ _ h)) (none_ext s02 nx) ⟨dx, t, d, hp4, ht, fun y hy => s24 _ _ (each y (sub y hy))⟩ (fun c => ?_) nodup rise
      rw [← eF]
      constructor
      · intro h
        obtain ⟨y, hy, rfl⟩ := List.mem_map.mp h
        exact List.mem_map.mpr ⟨y, sub y hy, rfl⟩
      · intro h
        obtain ⟨y, hy, rfl⟩ := List.mem_map.mp h
        exact all y hy
end
end L2.LawH
set_option Elab.async false
set_option linter.all false
set_option maxRecDepth 100000
set_option maxHeartbeats 4000000
/-! Store.text and store.facts. -/
namespace L2.LawH
open PySem PySem.Spec PyProof.Rows L2.TxtSet TL L2.NSet
abbrev sTextS : Stmt := inClass (top 16) 13
abbrev sFactsS : Stmt := inClass (top 16) 1
theorem ptext_le {T : Str} {zs : List Str} (hT : T.length ≤ 12) (l3 : zs.length ≤ 3) (hz : ∀ z ∈ zs, z.length ≤ 13) : (ptext T zs).length ≤ 60 := by
  have c1 : (("," : String) : Str).length = 1 := by decide +kernel
  have c2 : (("(" : String) : Str).length = 1 := by decide +kernel
  have c3 : (((")" : String)) : Str).length = 1 := by decide +kernel
  have e0 : Str.empty.length = 0 := rfl
  have s1 := sum_le 13 zs hz
  have q := join_len "," zs
  rw [c1] at q
  have e : Txt.join "," zs = Str.join "," zs := StrLaws.glued_eq_join _ _
  unfold ptext
  rw [len_app, len_app, len_app, len_app, e0, c2, c3, e]
  have : zs.length * 13 ≤ 3 * 13 := Nat.mul_le_mul_right _ l3
  omega
theorem fact_bd {x : Pt} (h : factB (ptV x) = true) : x.2.1.length ≤ 12 ∧ x.2.2.length ≤ 3 ∧ ∀ y ∈ x.2.2, y.length ≤ 13 := by
  have pb : patB (.str x.2.1 :: x.2.2.map V.str) = true := by
    unfold factB at h
    rw [Bool.and_eq_true] at h
    exact h.1
  exact pat_bd pb
/-- the lines of a store, and its text -/
def linesS (M : List Pt) : List Str := M.map fun x => ptext x.2.1 x.2.2
theorem lines_bd {M : List Pt} (h : ∀ x ∈ M, factB (ptV x) = true) : ∀ z ∈ linesS M, z.length ≤ 60 := fun z hz => by
  obtain ⟨x, hx, rfl⟩ := List.mem_map.mp hz
  obtain ⟨b1, b2, b3⟩ := fact_bd (h x hx)
  exact ptext_le b1 b2 b3
theorem join_bd {zs : List Str} (h : ∀ z ∈ zs, z.length ≤ 60) : (Txt.join nlS zs).length ≤ zs.length * 61 := by
  have c1 : nlS.length = 1 := by decide +kernel
  have q := join_len nlS zs
  rw [c1] at q
  have e : Txt.join nlS zs = Str.join nlS zs := StrLaws.glued_eq_join _ _
  have s1 := sum_le 60 zs h
  rw [e]
  omega
def spTextS (S : Addr) : Sp := fun vs H Q _ => ∃ (s : Addr) (M : List Pt), vs = [.ref s] ∧ StoreAt S H s M ∧ M.length ≤ 60 ∧ (∀ x ∈ M, factB (ptV x) = true) ∧ ∀ H', Same H H' → Q (.str (Txt.join nlS (linesS M))) H'
section
variable {P : Program} {w : World} {K : PySem.W.Frag} {mg : Str → Option Value} {base : Heap}
abbrev nTx : List Str := ["self", "fact"]
theorem scTx : FnScope nTx ["self"] (defScope sTextS) := ⟨rfl, rfl, rfl, by decide +kernel, rfl, by decide +kernel, by decide +kernel⟩
theorem ok_textS {f fX S : Addr} {fd fdX : FuncData} (F : Fun K "text" "Store.text" sTextS f fd) (T : StT K mg S)
    (GX : FnOk P w K mg base CX0 1 fX fdX ["pattern"] spPtx) (kX : PySem.W.keepIn K (.ref fX) = true) (bX : Binds K fdX ["pattern"] []) (mX : mg "pattern_text" = some (.ref fX)) :
    FnOk P w K mg base CX0 2 f fd ["self"] (spTextS S) := by
  refine F.ok scTx (fun vs H Q E h => ?_) (fun cdv A outer s H vs Q E hr h => ?_)
  · obtain ⟨s, M, rfl, _⟩ := h
    rfl
  · obtain ⟨s, M, rfl, ⟨dx, t, d, h1, h2, h3⟩, few, fB, k⟩ := h
    have hr1 : Room 1 _ := hr.mono (by decide)
    refine ⟨_, pss_one (ps_ret (pe_join pe_str (pe_lc (own := [("fact", 1)]) (g := gName 1) (tt := tYes) rfl scTx.nd (pi_tup (pe_fld (pv 0) rfl))
      (blkOk_by (own := [("fact", 1)]) (N := nTx) (sc := defScope sTextS) (by decide +kernel)) (fun _ _ _ _ _ => pg_name (i := 1) scTx.nd rfl (Or.inl rfl)) (fun _ _ _ _ _ => pts_nil)
      (fun _ _ _ _ _ => pe_call GX hr1 (by rfl) mX kX bX .nil pass0 (pa_cons (pv 1) pa_nil))))), ?_⟩
    refine ⟨⟨_, rfl⟩, _, rfl, s, S, dx, _, .ref t, rfl, h1, T.cl, T.nF, rfl, t, rfl, ⟨_, SqT.of h2⟩, fun L nL => ?_⟩
    refine lc_tup (K := K) (a := t) (xs := M.map fun x => V.ref x.1) (fun i H5 => Same H H5 ∧ H5 L = some (.lst ((linesS (M.take i)).map V.str))) ⟨same_new nL, upd_same⟩ (fun i H5 _ p => SqT.of (p.1 _ _ h2)) (fun i z H5 hz p => ?_) (fun H5 p => ?_)
    · obtain ⟨p1, p2⟩ := p
      rw [List.getElem?_map] at hz
      obtain ⟨x, hx, rfl⟩ := Option.map_eq_some_iff.mp hz
      have mx := List.mem_of_getElem? hx
      obtain ⟨b1, b2, b3⟩ := fact_bd (fB x mx)
      refine ⟨rfl, ?_⟩
      dsimp only [tYes]
      rw [if_pos rfl]
      refine ⟨_, rfl, x.1, x.2.1, x.2.2, rfl, p1 _ _ (h3 x mx), by omega, by omega, fun y hy => by have := b3 y hy; omega, fun H6 s6 => ⟨_, s6 _ _ p2, ?_, fun b o h => ?_, ?_⟩⟩
      · unfold linesS
        rw [List.length_map, List.length_map, List.length_take, sizeLine_eq]
        omega
      · rw [upd_ne (ne_of_none h nL)]
        exact s6 _ _ (p1 _ _ h)
      · rw [upd_same]
        unfold linesS
        rw [List.take_succ, hx, List.map_append, List.map_append]
        rfl
    · obtain ⟨p1, p2⟩ := p
      rw [List.length_map, List.take_length] at p2
      have c1 : nlS.length = 1 := by decide +kernel
      have s1 := sum_le 60 (linesS M) (lines_bd fB)
      have ll : (linesS M).length = M.length := List.length_map _
      refine ⟨_, L, linesS M, rfl, rfl, .inl (SqL.of p2), ?_, k H5 p1⟩
      rw [show (Str.ofString "\n").length = 1 from c1]
      omega
theorem scFs : FnScope ["self"] ["self"] (defScope sFactsS) := ⟨rfl, rfl, rfl, by decide +kernel, rfl, by decide +kernel, by decide +kernel⟩
/-- what the property tells: the tuple itself -/
theorem ok_factsS {f S : Addr} {fd : FuncData} (F : Fun K "facts" "Store.facts" sFactsS f fd) (T : StT K mg S) : FnOk P w K mg base CX0 1 f fd ["self"] (getSp S "_facts") := by
  refine F.ok scFs (fun vs H Q E h => ?_) (fun cdv A outer s H vs Q E hr h => ?_)
  · obtain ⟨a, dx, fs, v, rfl, _⟩ := h
    rfl
  · obtain ⟨a, dx, fs, v, rfl, ha, l, q⟩ := h
    exact ⟨_, pss_one (ps_ret (pe_fld (pv 0) rfl)), _, rfl, a, S, dx, fs, v, rfl, ha, T.cl, T.nF, l, q⟩
end
end L2.LawH
set_option Elab.async false
set_option linter.all false
set_option maxRecDepth 100000
set_option maxHeartbeats 4000000
/-! _law_facts. -/
namespace L2.LawH
open PySem PySem.Spec PyProof.Rows L2.TxtSet TL L2.NSet
abbrev sLFacts : Stmt := top 25
theorem eqvAll_texts : ∀ a b : List Str, PyData.eqvAll (a.map PyData.str) (b.map PyData.str) = decide (a = b)
  | [], [] => by simp [PyData.eqvAll]
  | [], _ :: _ => by simp [PyData.eqvAll]
  | _ :: _, [] => by simp [PyData.eqvAll]
  | x :: a, y :: b => by
    rw [List.map_cons, List.map_cons, PyData.eqvAll, eqvAll_texts a b]
    by_cases h : x = y
    · subst h
      simp [PyData.eqv]
    · simp [PyData.eqv, h]
theorem eqv_fact (a b : Str × List Str) : PyData.eqv (facD a) (facD b) = decide (a = b) := by
  unfold facD
  rw [PyData.eqv, eqvAll_texts]
  refine decide_eq_decide.mpr ⟨fun h => ?_, fun h => by rw [h]⟩
  injection h with h1 h2
  exact Prod.ext h1 h2
theorem lay_texts : ∀ zs : List Str, PyData.canLayAll0 (zs.map PyData.str) = zs.all PyData.strOk
  | [] => by simp [PyData.canLayAll0]
  | z :: zs => by
    rw [List.map_cons, PyData.canLayAll0, lay_texts zs]
    simp [PyData.canLay0]
/-- a fact of names -/
structure Fct (c : Str × List Str) : Prop where
  nT : Nm c.1
  l3 : c.2.length ≤ 3
  nz : ∀ z ∈ c.2, Nm z
theorem lay_fact {c : Str × List Str} (h : Fct c) : (facD c).canLay0 = true := by
  unfold facD
  rw [PyData.canLay0, lay_texts, List.all_cons, h.nT.strOk, List.all_eq_true.mpr fun z hz => (h.nz z hz).strOk]
  rfl
theorem lay_facts : ∀ {cs : List (Str × List Str)}, (∀ c ∈ cs, Fct c) → PyData.canLayAll0 (cs.map facD) = true
  | [], _ => by simp [PyData.canLayAll0]
  | c :: cs, h => by
    rw [List.map_cons, PyData.canLayAll0, lay_fact (h c List.mem_cons_self), lay_facts fun d hd => h d (List.mem_cons_of_mem _ hd)]
    rfl
theorem depth_facts : ∀ cs : List (Str × List Str), PyData.depthAll (cs.map facD) ≤ 1
  | [] => by simp [PyData.depthAll]
  | c :: cs => by
    have a := depth_fact c
    have b := depth_facts cs
    rw [List.map_cons, PyData.depthAll]
    omega
theorem shaped_fact {c : Str × List Str} (h : Fct c) : SeqAt.shaped (facD c) = true := by
  unfold SeqAt.shaped
  rw [lay_fact h, Bool.true_and]
  exact decide_eq_true (Nat.le_trans (depth_fact c) (by decide))
theorem shaped_facts {cs : List (Str × List Str)} (h : ∀ c ∈ cs, Fct c) : SeqAt.shaped (.list (cs.map facD)) = true := by
  unfold SeqAt.shaped
  rw [PyData.canLay0, lay_facts h, Bool.true_and, PyData.depth]
  have := depth_facts cs
  exact decide_eq_true (by omega)
theorem dp_facts {K : PySem.W.Frag} {H : Hp} : ∀ {Fs : List Pt}, (∀ x ∈ Fs, H x.1 = some (.tup (ptV x))) → DpAll K H (Fs.map fun x => V.ref x.1) ((Fs.map (·.2)).map facD)
  | [], _ => .nil
  | x :: Fs, h => .cons (dp_fact (h x List.mem_cons_self)) (dp_facts fun y hy => h y (List.mem_cons_of_mem _ hy))
theorem any_fact (cs : List (Str × List Str)) (c : Str × List Str) : ((cs.map facD).any fun z => PyData.eqv z (facD c)) = decide (c ∈ cs) := by
  induction cs with
  | nil => rfl
  | cons d cs ih =>
    rw [List.map_cons, List.any_cons, ih, eqv_fact]
    by_cases e : d = c
    · simp [e]
    · have e2 : ¬ c = d := fun h => e h.symm
      simp [e, e2]
def spLFacts : Sp := fun vs H Q _ => ∃ (a p : Addr) (c : Int) (m n : Nat) (π : Pool), vs = [.ref a, .ref p, .int n] ∧ n ≤ 20 ∧ SrcAt H a c (m + 1 + 20 * n) ∧ PoolAt a H p π ∧
  ∀ (t : Addr) (Fs : List Pt) (H' : Hp), H' t = some (.lst (Fs.map fun x => V.ref x.1)) → t ≠ a → (∀ x ∈ Fs, H' x.1 = some (.tup (ptV x)) ∧ x.1 ≠ a ∧ Fct x.2) → (Fs.map (·.2)).Nodup → Rise (fun x : Pt => facD x.2) Fs → Fs.length ≤ n → SrcAt H' a c m → Keep a H H' → Q (.ref t) H'
section
variable {P : Program} {w : World} {K : PySem.W.Frag} {mg : Str → Option Value} {base : Heap}
theorem op_notInDK {X : Cx} {K : PySem.W.Frag} (e : X.K = K) (hu : X.A.units + 65 < cLine) : OpR X (compareOp .NotIn) (rNotInD K) := by
  subst e
  exact op_notInD hu
abbrev nLFa : List Str := ["_law_source_here", "_law_pool_here", "_law_most", "_law_found", "_law_k", "_law_fact"]
theorem scLFa : FnScope nLFa ["_law_source_here", "_law_pool_here", "_law_most"] (defScope sLFacts) := ⟨rfl, rfl, rfl, by decide +kernel, rfl, by decide +kernel, by decide +kernel⟩
theorem ok_lfacts {f fD fP : Addr} {fd fdD fdP : FuncData} (F : Fun K "_law_facts" "_law_facts" sLFacts f fd)
    (GD : FnOk P w K mg base CX0 1 fD fdD ["_law_source_here", "_law_limit"] spDraw) (kD : PySem.W.keepIn K (.ref fD) = true) (bD : Binds K fdD ["_law_source_here", "_law_limit"] []) (mD : mg "_law_draw" = some (.ref fD))
    (GP : FnOk P w K mg base CX0 3 fP fdP ["_law_source_here", "_law_pool_here", "_law_variables", "_law_share"] spPat) (kP : PySem.W.keepIn K (.ref fP) = true) (bP : Binds K fdP ["_law_source_here", "_law_pool_here", "_law_variables", "_law_share"] []) (mP : mg "_law_pattern" = some (.ref fP))
    (mr : mg "range" = none) (ms : mg "sorted" = none) : FnOk P w K mg base CX0 4 f fd ["_law_source_here", "_law_pool_here", "_law_most"] spLFacts := by
  refine F.ok scLFa (fun vs H Q E h => ?_) (fun cdv A outer s H vs Q E hr h => ?_)
  · obtain ⟨a, p, c, m, n, π, rfl, _⟩ := h
    rfl
  · obtain ⟨a, p, c, m, n, π, rfl, few, src, hp, k⟩ := h
    have hr1 : Room 1 _ := hr.mono (by decide)
    have hu := hr.units
    have hu5 : (A.deeper (envOfC "_law_facts" (defScope sLFacts) s.heap.objs.size f cdv)).units + 65 < cLine := by have := hr.un; omega
    refine ⟨_, pss_cons (ps_set (i := 3) scLFa.nd rfl (Or.inl rfl) (pe_lst pa_nil))
      (pss_cons (ps_for PassesOwn.never rfl (pi_range1 (by rfl) mr (pa_cons (pe_call GD hr1 (by rfl) mD kD bD .nil pass0 (pa_cons (pv 0) (pa_cons (pe_op op_add (pv 2) pe_int) pa_nil))) pa_nil)) (pg_name (i := 4) scLFa.nd rfl (Or.inl rfl))
        (pss_cons (ps_set (i := 5) scLFa.nd rfl (Or.inl rfl) (pe_call GP hr (by rfl) mP kP bP .nil pass0 (pa_cons (pv 0) (pa_cons (pv 1) (pa_cons (pe_lst pa_nil) (pa_cons pe_int pa_nil))))))
        (pss_one (ps_if (pt_cmpR (op_notInDK (K := K) rfl hu5) (pv 5) (pv 3) (by rfl)) (pss_one (ps_expr (pe_bm PySem.F.plainAttrs_list PySem.F.slot_list_append PySem.F.type_list_append mt_append (pv 3) (pa_cons (pv 5) pa_nil)))) pss_nil))))
      (pss_one (ps_ret (pe_callB (cr_sortD hu) (by rfl) ms (by decide +kernel) (pa_cons (pv 3) pa_nil))))), ?_⟩
    refine ⟨(by show 0 ≤ sizeLine; decide), fun D nD => ?_⟩
    have s0 : Same H (upd H D (.lst [])) := same_new nD
    have hD0 : (upd H D (.lst [])) D = some (.lst []) := upd_same
    have nDa : D ≠ a := src.ne nD
    have src0 : SrcAt (upd H D (.lst [])) a c (m + 20 * n + 1) := (src.same s0).mono (by omega)
    have hp0 := hp.keep (Keep.of (a := a) s0)
    generalize upd H D (.lst []) = H0 at s0 hD0 src0 hp0 ⊢
    refine ⟨_, rfl, _, rfl, _, _, rfl, rfl, ?_⟩
    refine ⟨a, c, _, (n : Int) + 1, rfl, src0, by omega, by omega, fun r H1 r0 r1 src1 k1 => ?_⟩
    obtain ⟨jn, rfl⟩ : ∃ j : Nat, r = j := ⟨r.toNat, by omega⟩
    have hD1 := k1 _ _ hD0 nDa
    refine ⟨_, rfl, by omega, by omega, for_range (lo := 0) (n := jn) (fun i σ H5 => ∃ (v4 v5 : Option V) (Fs : List Pt), σ = [some (.ref a), some (.ref p), some (.int (n : Int)), some (.ref D), v4, v5] ∧ H5 D = some (.lst (Fs.map fun x => V.ref x.1)) ∧ (∀ x ∈ Fs, H5 x.1 = some (.tup (ptV x)) ∧ x.1 ≠ a ∧ x.1 ≠ D ∧ Fct x.2) ∧ (Fs.map (·.2)).Nodup ∧ Fs.length ≤ i ∧
        SrcAt H5 a c (m + 20 * (n - i)) ∧ Keep a H H5)
      ⟨none, none, [], rfl, hD1, fun x h => (nomatch h), List.nodup_nil, Nat.le_refl _, src1, (Keep.of s0).trans k1⟩ (fun i σ H5 hi pp => ?_) (fun σ H5 pp => ?_)⟩
    · obtain ⟨v4, v5, Fs, rfl, p1, p2, p3, p4, p5, p6⟩ := pp
      refine ⟨_, rfl, _, rfl, (by show 0 ≤ sizeLine; decide), fun L nL => ?_⟩
      have nLa : L ≠ a := p5.ne nL
      have sL : Same H5 (upd H5 L (.lst [])) := same_new nL
      have hL : (upd H5 L (.lst [])) L = some (.lst (([] : List Str).map V.str)) := upd_same
      have src5 : SrcAt (upd H5 L (.lst [])) a c (m + 20 * (n - (i + 1)) + 20) := (p5.same sL).mono (by omega)
      generalize upd H5 L (.lst []) = H6 at sL hL src5 ⊢
      have k6 : Keep a H H6 := p6.trans (Keep.of sL)
      refine ⟨a, p, L, c, _, 0, π, [], rfl, src5, hp.keep k6, ⟨hL, fun z h => (nomatch h), Nat.zero_le _, nLa⟩, fun t T zs H7 pat ht nta src7 k7 => ?_⟩
      have fc : Fct (T, zs) := by
        obtain ⟨y, hy, e1, e2⟩ := pat.tab
        obtain ⟨_, g2, g3, _⟩ := hp.hrow y hy
        exact ⟨by rw [← e1]; exact g2, by rw [show (T, zs).2.length = y.2.2 from e2]; exact g3, fun z hz => (pat.trm z hz).elim (hp.nC z) fun q => nomatch q⟩
      have k07 : Keep a H H7 := k6.trans k7
      have p1' : H7 D = some (.lst (Fs.map fun x => V.ref x.1)) := k7 _ _ (sL _ _ p1) nDa
      have p2' : ∀ x ∈ Fs, H7 x.1 = some (.tup (ptV x)) ∧ x.1 ≠ a ∧ x.1 ≠ D ∧ Fct x.2 := fun x hx => let ⟨g1, g2, g3, g4⟩ := p2 x hx; ⟨k7 _ _ (sL _ _ g1) g2, g2, g3, g4⟩
      have tD : t ≠ D := fun e => by
        rw [e, p1'] at ht
        cases ht
      have fcs : ∀ d ∈ Fs.map (·.2), Fct d := fun d hd => by
        obtain ⟨y, hy, rfl⟩ := List.mem_map.mp hd
        exact (p2' y hy).2.2.2
      refine ⟨_, rfl, _, rfl, facD (T, zs), _, dp_fact ht, .lst (SqL.of p1') (dp_facts fun x hx => (p2' x hx).1), shaped_fact fc, shaped_facts fcs, _, rfl, ?_⟩
      rw [any_fact]
      by_cases e : (T, zs) ∈ Fs.map (·.2)
      · rw [decide_eq_true e]
        refine iteF ?_
        exact ⟨_, _, Fs, rfl, p1', p2', p3, by omega, src7, k07⟩
      · rw [decide_eq_false e]
        refine iteT ?_
        have keepD : ∀ (u : HO) b o, b ≠ D → H7 b = some o → (upd H7 D u) b = some o := fun u b o nb h => by
          rw [upd_ne nb]
          exact h
        refine ⟨_, rfl, .inl ⟨rfl, _, SqL.of p1'⟩, _, rfl, D, _, _, rfl, rfl, p1', by rw [List.length_map, sizeLine_eq]; omega, ?_⟩
        refine ⟨_, _, Fs ++ [(t, T, zs)], rfl, by rw [upd_same, List.map_append]; rfl, fun x hx => ?_, ?_, by rw [List.length_append]; show Fs.length + 1 ≤ _; omega, ?_, fun b o h nb => ?_⟩
        · rcases List.mem_append.mp hx with hx | hx
          · obtain ⟨g1, g2, g3, g4⟩ := p2' x hx
            exact ⟨keepD _ _ _ g3 g1, g2, g3, g4⟩
          · rw [List.mem_singleton.mp hx]
            exact ⟨keepD _ _ _ tD ht, nta, tD, fc⟩
        · rw [List.map_append, List.nodup_append]
          refine ⟨p3, by simp, fun x hx y hy => ?_⟩
          have e2 : y = (T, zs) := by simpa using hy
          rw [e2]
          exact fun q => e (by rw [← q]; exact hx)
        · obtain ⟨x1, x2, x3, x4⟩ := src7
          exact ⟨x1, x2, keepD _ _ _ nDa.symm x3, x4⟩
        · exact keepD _ _ _ (ne_of_none h nD) (k07 b o h nb)
    · obtain ⟨v4, v5, Fs, rfl, p1, p2, p3, p4, p5, p6⟩ := pp
      have em : (Fs.map fun x => (V.ref x.1, facD x.2)).map Prod.fst = Fs.map fun x => V.ref x.1 := by
        rw [List.map_map]
        rfl
      refine ⟨_, rfl, D, Fs.map fun x => (V.ref x.1, facD x.2), rfl, by rw [em]; exact SqL.of p1, fun x hx => ?_, fun d hd d2 hd2 => ?_, .inr fun d hd => ?_, by rw [List.length_map]; omega, fun x hx => ?_, fun ys l pm rise nl => ?_⟩
      · obtain ⟨y, hy, rfl⟩ := List.mem_map.mp hx
        exact dp_fact (p2 y hy).1
      · rw [List.map_map] at hd hd2
        obtain ⟨y, _, rfl⟩ := List.mem_map.mp hd
        obtain ⟨y2, _, rfl⟩ := List.mem_map.mp hd2
        exact alike_fact _ _
      · rw [List.map_map] at hd
        obtain ⟨y, _, rfl⟩ := List.mem_map.mp hd
        exact ⟨_, rfl⟩
      · obtain ⟨y, _, rfl⟩ := List.mem_map.mp hx
        exact Nat.le_trans (depth_fact _) (by decide)
      · obtain ⟨zs, pz, rfl⟩ := L2.NSet.perm_lift _ pm
        have r2 : Rise (fun x : Pt => facD x.2) zs := List.pairwise_map.mp rise
        have s5 : Same H5 (upd H5 l (.lst ((zs.map fun x => (V.ref x.1, facD x.2)).map Prod.fst))) := same_new nl
        refine k l zs _ (by rw [upd_same, List.map_map]; rfl) (p5.ne nl) (fun x hx => ?_) (((pz.map (·.2)).nodup_iff).mpr p3) r2 (by rw [pz.length_eq]; omega) ((p5.same s5).mono (by omega)) (p6.trans (Keep.of s5))
        obtain ⟨g1, g2, _, g4⟩ := p2 x (pz.mem_iff.mp hx)
        exact ⟨s5 _ _ g1, g2, g4⟩
end
end L2.LawH
set_option Elab.async false
set_option linter.all false
set_option maxRecDepth 100000
set_option maxHeartbeats 4000000
/-! Texts of facts read back; facts in order. -/
namespace L2.LawH
open PySem PySem.Spec PyProof.Rows L2.TxtSet TL L2.NSet PySem.W
theorem sgn_ne {c : Nat} (h : isSgn c = true) : c ≠ 10 ∧ c ≠ 40 ∧ c ≠ 44 ∧ c < 128 := by
  unfold isSgn isLet at h
  simp only [Bool.or_eq_true, Bool.and_eq_true, decide_eq_true_eq] at h
  omega
theorem chr_nm {z : Str} (h : Nm z) : ∀ c ∈ tl z, isSgn c = true := fun c hc => List.all_eq_true.mp (nm_sgns h).1 c hc
theorem nm_bds {z : Str} (h : Nm z) : 1 ≤ z.length ∧ z.length ≤ 12 := by
  have := nm_sgns h
  rw [len_tl]
  exact ⟨this.2.2, this.2.1⟩
theorem joinL_signs {q : Nat → Prop} {s : Nat} (hs : q s) : ∀ X : List (List Nat), (∀ p ∈ X, ∀ c ∈ p, q c) → ∀ c ∈ joinL [s] X, q c
  | [], _, c, hc => nomatch hc
  | [p], hX, c, hc => hX p List.mem_cons_self c hc
  | p :: r :: X, hX, c, hc => by
    rw [joinL_cons _ _ (by simp), List.mem_append, List.mem_append] at hc
    rcases hc with hc | hc | hc
    · exact hX p List.mem_cons_self c hc
    · rw [List.mem_singleton.mp hc]
      exact hs
    · exact joinL_signs hs (r :: X) (fun p' hp => hX p' (List.mem_cons_of_mem _ hp)) c hc
theorem terms_nm {zs : List Str} (h : ∀ z ∈ zs, Nm z) : terms (Txt.join comS zs) = zs := by
  unfold terms
  cases zs with
  | nil => rfl
  | cons z r =>
    have hl : (Txt.join comS (z :: r)).length ≠ 0 := by
      rw [join_eq, len_tl, tl_join, tl_com]
      have h1 := (nm_bds (h z List.mem_cons_self)).1
      have h2 := part_le 44 ((z :: r).map tl) (tl z) (List.mem_map_of_mem List.mem_cons_self)
      rw [len_tl] at h1
      omega
    rw [if_neg hl]
    exact split_join (s := 44) (S := []) tl_com (by decide +kernel) (by simp) fun p m hc => (sgn_ne (chr_nm (h p m) 44 hc)).2.2.1 rfl
theorem ptext_tl2 (T : Str) (zs : List Str) : tl (ptext T zs) = tl T ++ 40 :: (tl (Txt.join comS zs) ++ [41]) := by
  unfold ptext
  rw [empty_app, tl_append, tl_append, tl_append, show tl (("(" : String) : Str) = [40] from tl_opn, show tl ((")" : String) : Str) = [41] from tl_cls]
  simp
theorem par_app {m b : List Nat} (h : 40 ∉ m) : par [40] [] (m ++ 40 :: b) = some (m, b) := by
  have e := par_part1 (s := 40) (S := []) (p := m) (rest := b) (acc := []) h
  rw [List.nil_append] at e
  exact e
theorem Fct.fact {c : Str × List Str} (h : Fct c) : factB (.str c.1 :: c.2.map V.str) = true := by
  have vn : ∀ z : Str, Nm z → vN (.str z) = true := fun z q => q
  have pb : patB (.str c.1 :: c.2.map V.str) = true := by
    show (decide ((c.2.map V.str).length ≤ 3) && vN (.str c.1) && (c.2.map V.str).all fun y => vN y || vV y) = true
    rw [List.length_map, decide_eq_true h.l3, vn _ h.nT, Bool.true_and, Bool.true_and, List.all_map, List.all_eq_true]
    intro z m
    show (vN (.str z) || vV (.str z)) = true
    rw [vn _ (h.nz z m)]
    rfl
  unfold factB
  rw [pb, Bool.true_and, List.all_eq_true]
  intro v hv
  rcases List.mem_cons.mp hv with rfl | hv
  · exact h.nT
  · obtain ⟨z, hz, rfl⟩ := List.mem_map.mp hv
    exact h.nz z hz
theorem Fct.read {c : Str × List Str} (h : Fct c) : rdF (ptext c.1 c.2) = some c := by
  have nT : 40 ∉ tl c.1 := fun hc => (sgn_ne (chr_nm h.nT 40 hc)).2.1 rfl
  unfold rdF cutP
  rw [ptext_tl2, par_app nT]
  dsimp only
  rw [if_pos (by simp)]
  dsimp only
  have e1 : (⟨(tl c.1).toArray⟩ : Str) = c.1 := mk_tl c.1
  have e2 : (⟨(tl (Txt.join comS c.2) ++ [41]).dropLast.toArray⟩ : Str) = Txt.join comS c.2 := by
    rw [List.dropLast_concat]
  rw [e1, e2, terms_nm h.nz, if_pos h.fact]
theorem Fct.signs {c : Str × List Str} (h : Fct c) : ∀ x ∈ tl (ptext c.1 c.2), x ≠ 10 ∧ x < 0x110000 := by
  have one : ∀ z : Str, Nm z → ∀ x ∈ tl z, x ≠ 10 ∧ x < 0x110000 := fun z q x hx => by
    have := sgn_ne (chr_nm q x hx)
    exact ⟨this.1, Nat.lt_trans this.2.2.2 (by decide)⟩
  rw [ptext_tl2]
  intro x hx
  rcases List.mem_append.mp hx with hx | hx
  · exact one _ h.nT x hx
  rcases List.mem_cons.mp hx with rfl | hx
  · decide
  rcases List.mem_append.mp hx with hx | hx
  · rw [join_eq, tl_join, tl_com] at hx
    refine joinL_signs (q := fun x => x ≠ 10 ∧ x < 0x110000) (by decide) _ (fun p hp => ?_) x hx
    obtain ⟨z, hz, rfl⟩ := List.mem_map.mp hp
    exact one z (h.nz z hz)
  · rw [List.mem_singleton.mp hx]
    decide
theorem Fct.len {c : Str × List Str} (h : Fct c) : 1 ≤ (ptext c.1 c.2).length ∧ (ptext c.1 c.2).length ≤ 60 := by
  refine ⟨?_, ptext_le (nm_bds h.nT).2 h.l3 fun z hz => Nat.le_trans (nm_bds (h.nz z hz)).2 (by decide)⟩
  rw [len_tl, ptext_tl2, List.length_append, List.length_cons]
  omega
/-- the lines of facts -/
def txts (cs : List (Str × List Str)) : List Str := cs.map fun c => ptext c.1 c.2
theorem lns_join2 {zs : List Str} (h1 : ∀ z ∈ zs, 1 ≤ z.length) (h2 : ∀ z ∈ zs, 10 ∉ tl z) : lns (Txt.join nlS zs) = zs := by
  unfold lns
  cases zs with
  | nil => rfl
  | cons z r =>
    have hl : (Txt.join nlS (z :: r)).length ≠ 0 := by
      rw [join_eq, len_tl, tl_join, tl_nl]
      have h3 := h1 z List.mem_cons_self
      have h4 := part_le 10 ((z :: r).map tl) (tl z) (List.mem_map_of_mem List.mem_cons_self)
      rw [len_tl] at h3
      omega
    rw [if_neg hl]
    exact split_join (s := 10) (S := []) tl_nl (by decide +kernel) (by simp) h2
theorem lns_txts {cs : List (Str × List Str)} (h : ∀ c ∈ cs, Fct c) : lns (Txt.join nlS (txts cs)) = txts cs := by
  refine lns_join2 (fun z hz => ?_) (fun z hz q => ?_)
  · obtain ⟨c, hc, rfl⟩ := List.mem_map.mp hz
    exact (h c hc).len.1
  · obtain ⟨c, hc, rfl⟩ := List.mem_map.mp hz
    exact ((h c hc).signs 10 q).1 rfl
/-! order -/
def tkT (zs : List Str) : List (Int ⊕ List Nat) := keyToksAll (zs.map PyData.str)
theorem tkT_nil : tkT [] = [.inl 0] := by simp [tkT, keyToksAll]
theorem tkT_cons (z : Str) (zs : List Str) : tkT (z :: zs) = .inl 1 :: .inr z.cps.toList :: tkT zs := by simp [tkT, keyToksAll, keyToks]
theorem str_cps {a b : Str} (h : a.cps.toList = b.cps.toList) : a = b := by
  cases a
  cases b
  exact congrArg Str.mk (Array.toList_inj.mp h)
theorem tkT_inj : ∀ {m m' : List Str}, tkT m = tkT m' → m = m'
  | [], [], _ => rfl
  | [], p :: m', h => by
    rw [tkT_nil, tkT_cons] at h
    injection h with h1 h2
    exact absurd h1 (by decide)
  | p :: m, [], h => by
    rw [tkT_nil, tkT_cons] at h
    injection h with h1 h2
    exact absurd h1 (by decide)
  | p :: m, q :: m', h => by
    rw [tkT_cons, tkT_cons] at h
    injection h with _ h
    injection h with h1 h
    rw [tkT_inj h, str_cps (Sum.inr.inj h1)]
/-- a stands ahead of b -/
def ltF (a b : Str × List Str) : Bool := PyProof.Rows.lexLt itemOrd (tkT (a.1 :: a.2)) (tkT (b.1 :: b.2))
theorem toks_facD (c : Str × List Str) : keyToks (facD c) = tkT (c.1 :: c.2) := by
  unfold facD
  simp [tkT, keyToks]
theorem dataLt_facD (a b : Str × List Str) : dataLt (facD a) (facD b) = ltF a b := by
  show PyProof.Rows.lexLt itemOrd (keyToks (facD a)) (keyToks (facD b)) = _
  rw [toks_facD, toks_facD]
  rfl
theorem fle_eq (a b : Str × List Str) : fle a b = !ltF b a := by
  unfold fle
  rw [dataLt_facD]
theorem ltF_trans {a b c : Str × List Str} (x : ltF a b = true) (y : ltF b c = true) : ltF a c = true := lex_trans (O := itemOrd) _ _ _ x y
theorem ltF_irr (a : Str × List Str) : ltF a a = false := lex_irrefl (O := itemOrd) _
theorem ltF_asym {a b : Str × List Str} (x : ltF a b = true) : ltF b a = false := by
  cases e : ltF b a with
  | false => rfl
  | true =>
    have := ltF_trans x e
    rw [ltF_irr] at this
    cases this
theorem ltF_anti {a b : Str × List Str} (x : ltF a b = false) (y : ltF b a = false) : a = b := by
  have e := tkT_inj (lex_total (O := itemOrd) _ _ x y)
  injection e with e1 e2
  exact Prod.ext e1 e2
def Asc (cs : List (Str × List Str)) : Prop := cs.Pairwise fun a b => ltF a b = true
theorem Asc.nodup {cs : List (Str × List Str)} (h : Asc cs) : cs.Nodup := List.Pairwise.imp (fun {a b} q e => by
  rw [e, ltF_irr] at q
  cases q) h
theorem over_no {acc : List (Str × List Str)} {c : Str × List Str} (h : Asc acc) (o : ¬ over acc c = true) : ∀ x ∈ acc, ltF x c = true := by
  rcases List.eq_nil_or_concat acc with e | ⟨G, l, e⟩
  · subst e
    exact fun x hx => nomatch hx
  · rw [List.concat_eq_append] at e
    subst e
    rw [over_snoc, fle_eq] at o
    have hl : ltF l c = true := by simpa using o
    intro x hx
    rcases List.mem_append.mp hx with hx | hx
    · exact ltF_trans ((List.pairwise_append.mp h).2.2 x hx l List.mem_cons_self) hl
    · rw [List.mem_singleton.mp hx]
      exact hl
theorem go_asc : ∀ (zs : List Str) (acc : List (Str × List Str)) (n : Nat) (cs : List (Str × List Str)), go zs acc n = .inr cs → Asc acc → Asc cs
  | [], acc, n, cs, h, ha => by
    rw [go] at h
    injection h with h
    rw [← h]
    exact ha
  | z :: zs, acc, n, cs, h, ha => by
    rw [go] at h
    cases e : rdF z with
    | none =>
      rw [e] at h
      cases h
    | some c =>
      rw [e] at h
      dsimp only at h
      by_cases o : over acc c = true
      · rw [if_pos o] at h
        cases h
      · rw [if_neg o] at h
        refine go_asc zs _ _ _ h (List.pairwise_append.mpr ⟨ha, List.pairwise_singleton _ _, fun x hx y hy => ?_⟩)
        rw [List.mem_singleton.mp hy]
        exact over_no ha o x hx
theorem go_txts : ∀ (cs acc : List (Str × List Str)) (n : Nat), (∀ c ∈ cs, Fct c) → Asc (acc ++ cs) → go (txts cs) acc n = .inr (acc ++ cs)
  | [], acc, n, _, _ => by
    show go [] acc n = _
    rw [go, List.append_nil]
  | c :: cs, acc, n, hf, ha => by
    show go (ptext c.1 c.2 :: txts cs) acc n = _
    rw [go, (hf c List.mem_cons_self).read]
    dsimp only
    have no : ¬ over acc c = true := by
      rcases List.eq_nil_or_concat acc with e | ⟨G, l, e⟩
      · subst e
        exact Bool.false_ne_true
      · rw [List.concat_eq_append] at e
        subst e
        rw [over_snoc, fle_eq]
        have := (List.pairwise_append.mp ha).2.2 l (List.mem_append_right _ List.mem_cons_self) c List.mem_cons_self
        rw [this]
        exact Bool.false_ne_true
    rw [if_neg no, go_txts cs (acc ++ [c]) (n + 1) (fun d hd => hf d (List.mem_cons_of_mem _ hd)) (by rw [List.append_assoc]; exact ha), List.append_assoc]
    rfl
theorem go_lines {cs : List (Str × List Str)} (hf : ∀ c ∈ cs, Fct c) (ha : Asc cs) : go (lns (Txt.join nlS (txts cs))) [] 1 = .inr cs := by
  rw [lns_txts hf]
  exact go_txts cs [] 1 hf ha
theorem facD_ptM (x : Pt) : (ptM x).2.data = facD x.2 := data_ptM x
theorem asc_rise {Fs : List Pt} (n : (Fs.map (·.2)).Nodup) (r : Rise (fun x : Pt => facD x.2) Fs) : Asc (Fs.map (·.2)) := by
  have r2 : (Fs.map (·.2)).Pairwise fun a b => ltF b a = false := by
    rw [List.pairwise_map]
    refine List.Pairwise.imp (fun {a b} h => ?_) r
    have h' : (!dataLt (facD b.2) (facD a.2)) = true := h
    rw [dataLt_facD] at h'
    simpa using h'
  refine List.Pairwise.imp (fun {a b} h => ?_) (List.Pairwise.and n r2)
  obtain ⟨h1, h2⟩ := h
  cases e : ltF a b with
  | true => rfl
  | false => exact absurd (ltF_anti e h2) h1
theorem asc_riseM {M : List Pt} (n : (M.map (·.2)).Nodup) (r : Rise (fun x : Pt => (ptM x).2.data) M) : Asc (M.map (·.2)) := by
  refine asc_rise n ?_
  have e : (fun x : Pt => (ptM x).2.data) = fun x : Pt => facD x.2 := funext facD_ptM
  rw [← e]
  exact r
theorem asc_one {a b : List (Str × List Str)} (ha : Asc a) (hb : Asc b) (h : ∀ c, c ∈ a ↔ c ∈ b) : a = b :=
  List.Perm.eq_of_pairwise (le := fun x y => ltF x y = true) (fun x y _ _ p q => by
    have := ltF_asym p
    rw [q] at this
    cases this) ha hb ((List.perm_ext_iff_of_nodup ha.nodup hb.nodup).mpr h)
end L2.LawH
set_option Elab.async false
set_option linter.all false
set_option maxRecDepth 100000
set_option maxHeartbeats 4000000
/-! Store: len, iter, in, +. -/
namespace L2.LawH
open PySem PySem.Spec PyProof.Rows L2.TxtSet TL L2.NSet PySem.W L2.OwnOp
abbrev sLenS : Stmt := inClass (top 16) 2
abbrev sIterS : Stmt := inClass (top 16) 3
abbrev sHasS : Stmt := inClass (top 16) 4
abbrev sAddS : Stmt := inClass (top 16) 8
abbrev Fc := Str × List Str
/-- a Store of facts in order, all found again in its dict -/
structure StM (C : Addr) (H : Hp) (a : Addr) (M : List Pt) : Prop where
  ex : ∃ dx t d, H a = some (.ins C dx (fsS t d)) ∧ H t = some (.tup (M.map fun x => V.ref x.1)) ∧ H d = some (.dT (M.map fun x => (ptK x, V.bl true)))
  each : ∀ x ∈ M, H x.1 = some (.tup (ptV x))
  fct : ∀ x ∈ M, Fct x.2
  asc : Asc (M.map (·.2))
  few : M.length ≤ 40
def StC (C : Addr) (H : Hp) (a : Addr) (cs : List Fc) : Prop := ∃ M, StM C H a M ∧ M.map (·.2) = cs
theorem StM.same {C : Addr} {H H' : Hp} {a : Addr} {M : List Pt} (h : StM C H a M) (s : Same H H') : StM C H' a M := by
  obtain ⟨⟨dx, t, d, h1, h2, h3⟩, e, f, g, l⟩ := h
  exact ⟨⟨dx, t, d, s _ _ h1, s _ _ h2, s _ _ h3⟩, fun x m => s _ _ (e x m), f, g, l⟩
theorem StC.same {C : Addr} {H H' : Hp} {a : Addr} {cs : List Fc} (h : StC C H a cs) (s : Same H H') : StC C H' a cs := let ⟨M, m, e⟩ := h; ⟨M, m.same s, e⟩
theorem StM.at {C : Addr} {H : Hp} {a : Addr} {M : List Pt} (h : StM C H a M) : StoreAt C H a M := let ⟨dx, t, d, h1, h2, h3⟩ := h.ex; ⟨dx, t, d, h1, h2, h.each⟩
/-- facts that are asked for -/
structure FsAt (H : Hp) (xs : List Pt) : Prop where
  each : ∀ x ∈ xs, H x.1 = some (.tup (ptV x))
  fct : ∀ x ∈ xs, Fct x.2
theorem FsAt.same {H H' : Hp} {xs : List Pt} (h : FsAt H xs) (s : Same H H') : FsAt H' xs := ⟨fun x m => s _ _ (h.each x m), h.fct⟩
theorem fct_okv {K : PySem.W.Frag} {H : Hp} {x : Pt} (h : Fct x.2) : ∀ y ∈ ptV x, Okv K H y := by
  intro v hv
  unfold ptV at hv
  rcases List.mem_cons.mp hv with rfl | hv
  · exact .inl ⟨_, rfl, Nat.le_trans (nm_bds h.nT).2 (by decide)⟩
  · obtain ⟨z, hz, rfl⟩ := List.mem_map.mp hv
    exact .inl ⟨_, rfl, Nat.le_trans (nm_bds (h.nz z hz)).2 (by decide)⟩
/-- what Store(..) wants of facts, and what it gives -/
theorem init_fcts {C : Addr} {K : PySem.W.Frag} {H : Hp} {p q dx : Addr} {xs : List Pt} {Q : VK} (hp : H p = some (.ins C dx [])) (hq : SqL K H q (xs.map fun x => V.ref x.1) ∨ SqT K H q (xs.map fun x => V.ref x.1)) (f : FsAt H xs) (few : xs.length ≤ 40)
    (k : ∀ (H' : Hp) (M : List Pt), (∀ b o, b ≠ p → H b = some o → H' b = some o) → StM C H' p M → (∀ c, c ∈ M.map (·.2) ↔ c ∈ xs.map (·.2)) → Q .non H') : spInitS C K [.ref p, .ref q] H Q E0 := by
  refine ⟨p, q, dx, xs, rfl, hp, hq, fun x hx => ⟨f.each x hx, (f.fct x hx).fact, (f.fct x hx).l3, fct_okv (f.fct x hx)⟩, by omega, fun H' t d M keep h1 h2 _ _ h3 sub all nd rise => ?_⟩
  have lM : M.length ≤ 40 := by
    have := nodup_len (M.map (·.2)) (xs.map (·.2)) nd fun c hc => by
      obtain ⟨y, hy, rfl⟩ := List.mem_map.mp hc
      exact List.mem_map.mpr ⟨y, sub y hy, rfl⟩
    rw [List.length_map, List.length_map] at this
    omega
  refine k H' M keep ⟨⟨dx, t, d, h1, h2, h3⟩, fun x hx => keep _ _ (fun e => ?_) (f.each x (sub x hx)), fun x hx => f.fct x (sub x hx), asc_riseM nd rise, lM⟩ fun c => ⟨fun h => ?_, fun h => ?_⟩
  · have h := f.each x (sub x hx)
    rw [e, hp] at h
    cases h
  · obtain ⟨y, hy, rfl⟩ := List.mem_map.mp h
    exact List.mem_map.mpr ⟨y, sub y hy, rfl⟩
  · obtain ⟨y, hy, rfl⟩ := List.mem_map.mp h
    exact all y hy
theorem none_of8 {H H' : Hp} {a : Addr} (s : Same H H') (n : H' a = none) : H a = none := by
  cases h : H a with
  | none => rfl
  | some o => rw [s _ _ h] at n; cases n
/-- Store(..) of facts in a list, made -/
theorem make_fcts {C : Addr} {K : PySem.W.Frag} {H HL : Hp} {L : Addr} {xs : List Pt} {Q : VK} (s : Same H HL) (f : FsAt HL xs) (few : xs.length ≤ 40) (hq : SqL K HL L (xs.map fun x => V.ref x.1) ∨ SqT K HL L (xs.map fun x => V.ref x.1))
    (k : ∀ (H' : Hp) (r : Addr) (R : List Pt), Same H H' → Same HL H' → HL r = none → StM C H' r R → (∀ c, c ∈ R.map (·.2) ↔ c ∈ xs.map (·.2)) → Q (.ref r) H') (x dx : Addr) (nx : HL x = none) (ndx : HL dx = none) (ne : dx ≠ x) :
    spInitS C K [.ref x, .ref L] (upd (upd HL dx (.own x)) x (.ins C dx [])) (fun v H' => v = .non ∧ Q (.ref x) H') E0 := by
  have sU : Same HL (upd (upd HL dx (.own x)) x (.ins C dx [])) := fun b o h => by
    rw [upd_ne (ne_of_none h nx), upd_ne (ne_of_none h ndx)]
    exact h
  refine init_fcts upd_same (hq.imp (fun h => h.ext sU) fun h => h.ext sU) (f.same sU) few fun H' M keep st mem => ⟨rfl, ?_⟩
  have s2 : Same HL H' := fun b o h => keep _ _ (ne_of_none h nx) (sU _ _ h)
  exact k H' x M (fun b o h => s2 _ _ (s _ _ h)) s2 nx st mem
def spLenS (C : Addr) : Sp := fun vs H Q _ => ∃ (s : Addr) (M : List Pt), vs = [.ref s] ∧ StM C H s M ∧ Q (.int (M.length : Nat)) H
/-- whether a value is a fact of these -/
def hasB (M : List Pt) : Option (List V) → Bool
  | none => false
  | some ys => decide (ys ∈ M.map ptV)
def spHasS (C : Addr) (K : PySem.W.Frag) : Sp := fun vs H Q _ => ∃ (s : Addr) (M : List Pt) (x : V) (a : Option (List V)), vs = [.ref s, x] ∧ StM C H s M ∧ Ask K H x a ∧ ∀ H', Same H H' → Q (.bl (hasB M a)) H'
def spAddS (C : Addr) (K : PySem.W.Frag) : Sp := fun vs H Q _ => ∃ (a b : Addr) (M N : List Pt), vs = [.ref a, .ref b] ∧ StM C H a M ∧ StM C H b N ∧ M.length + N.length ≤ 40 ∧
  ∀ (H' : Hp) (r : Addr) (R : List Pt), Same H H' → H r = none → StM C H' r R → (∀ c, c ∈ R.map (·.2) ↔ c ∈ M.map (·.2) ∨ c ∈ N.map (·.2)) → Q (.ref r) H'
theorem fact_strs {ys : List V} (h : factB ys = true) : ∃ (T : Str) (zs : List Str), ys = .str T :: zs.map V.str ∧ zs.length ≤ 3 := by
  cases ys with
  | nil => cases h
  | cons y r =>
    have l3 : r.length ≤ 3 := by
      unfold factB at h
      rw [Bool.and_eq_true] at h
      have h1 : (decide (r.length ≤ 3) && vN y && (r.all fun y => vN y || vV y)) = true := h.1
      rw [Bool.and_eq_true, Bool.and_eq_true] at h1
      exact of_decide_eq_true h1.1.1
    rw [fact_eq y r l3, Bool.and_eq_true] at h
    have str : ∀ v : V, vN v = true → ∃ z : Str, v = .str z := fun v hv => by
      cases v <;> first | exact ⟨_, rfl⟩ | cases hv
    obtain ⟨T, rfl⟩ := str y h.1
    have all : ∀ l : List V, l.all vN = true → ∃ zs : List Str, l = zs.map V.str := by
      intro l
      induction l with
      | nil => exact fun _ => ⟨[], rfl⟩
      | cons v l ih =>
        intro hl
        rw [List.all_cons, Bool.and_eq_true] at hl
        obtain ⟨z, rfl⟩ := str v hl.1
        obtain ⟨zs, rfl⟩ := ih hl.2
        exact ⟨z :: zs, rfl⟩
    obtain ⟨zs, rfl⟩ := all r h.2
    exact ⟨T, zs, rfl, by rw [List.length_map] at l3; exact l3⟩
theorem val_ptK (M : List Pt) (T : Str) (zs : List Str) : (valV (M.map fun x => (ptK x, V.bl true)) ((Sum.inr T : L2.Key) :: zs.map Sum.inr)).isSome = decide ((V.str T :: zs.map V.str) ∈ M.map ptV) := by
  rw [← valV_any]
  induction M with
  | nil => rfl
  | cons x M ih =>
    rw [List.map_cons, List.any_cons, List.map_cons, ih]
    by_cases e : x.2 = (T, zs)
    · have e1 : ptK x = (Sum.inr T : L2.Key) :: zs.map Sum.inr := by unfold ptK; rw [e]
      have e2 : ptV x = V.str T :: zs.map V.str := by unfold ptV; rw [e]
      rw [e2]
      simp [e1]
    · have e1 : ¬ ptK x = (Sum.inr T : L2.Key) :: zs.map Sum.inr := fun h => e (ptK_inj (x := x) (y := (0, T, zs)) h)
      have e2 : ¬ (V.str T :: zs.map V.str) = ptV x := fun h => by
        unfold ptV at h
        injection h with h1 h2
        injection h1 with h1
        refine e (Prod.ext h1.symm ?_)
        exact (List.map_inj_right (fun a b e => by injection e) |>.mp h2).symm
      simp [e1, e2]
section
variable {P : Program} {w : World} {K : PySem.W.Frag} {mg : Str → Option Value} {base : Heap}
theorem scSelf1 : FnScope ["self"] ["self"] (defScope sLenS) := ⟨rfl, rfl, rfl, by decide +kernel, rfl, by decide +kernel, by decide +kernel⟩
theorem ok_lenS {f C : Addr} {fd : FuncData} (F : Fun K "__len__" "Store.__len__" sLenS f fd) (T : StT K mg C) (ml : mg "len" = none) : FnOk P w K mg base CX0 1 f fd ["self"] (spLenS C) := by
  refine F.ok scSelf1 (fun vs H Q E h => ?_) (fun cdv A outer s H vs Q E hr h => ?_)
  · obtain ⟨s, M, rfl, _⟩ := h
    rfl
  · obtain ⟨s, M, rfl, ⟨⟨dx, t, d, h1, h2, h3⟩, _⟩, q⟩ := h
    refine ⟨_, pss_one (ps_ret (pe_callB call_len_seq (by rfl) ml (by decide +kernel) (pa_cons (pe_fld (pv 0) rfl) pa_nil))), ?_⟩
    refine ⟨_, rfl, s, C, dx, _, .ref t, rfl, h1, T.cl, T.nF, rfl, t, _, rfl, .inr (SqT.of h2), ?_⟩
    rw [List.length_map]
    exact q
theorem scSelf2 : FnScope ["self"] ["self"] (defScope sIterS) := ⟨rfl, rfl, rfl, by decide +kernel, rfl, by decide +kernel, by decide +kernel⟩
theorem ok_iterS {f C : Addr} {fd : FuncData} (F : Fun K "__iter__" "Store.__iter__" sIterS f fd) (T : StT K mg C) (mI : mg "iter" = none) : FnIt P w K mg base 1 f fd C "_facts" := by
  refine it_of F scSelf2 (fun cdv A outer s H vs Q E hr h => ?_)
  obtain ⟨p, dx, fs, t, zs, rfl, hp, lk, ht, q⟩ := h
  refine ⟨_, pss_one (ps_ret (pe_callB call_iterTup (by rfl) mI (by decide +kernel) (pa_cons (pe_fld (pv 0) rfl) pa_nil))), ?_⟩
  exact ⟨_, rfl, p, C, dx, fs, .ref t, rfl, hp, T.cl, T.nF, lk, t, zs, rfl, ht, q⟩
theorem scHasS : FnScope ["self", "value"] ["self", "value"] (defScope sHasS) := ⟨rfl, rfl, rfl, by decide +kernel, rfl, by decide +kernel, by decide +kernel⟩
theorem ok_hasS {f fF C : Addr} {fd fdF : FuncData} (F : Fun K "__contains__" "Store.__contains__" sHasS f fd) (T : StT K mg C)
    (GF : FnOk P w K mg base CX0 4 fF fdF ["value"] (spIsP K factB)) (kF : PySem.W.keepIn K (.ref fF) = true) (bF : Binds K fdF ["value"] []) (mF : mg "is_fact" = some (.ref fF)) :
    FnOk P w K mg base CX0 5 f fd ["self", "value"] (spHasS C K) := by
  refine F.ok scHasS (fun vs H Q E h => ?_) (fun cdv A outer s H vs Q E hr h => ?_)
  · obtain ⟨s, M, x, a, rfl, _⟩ := h
    rfl
  · obtain ⟨s, M, x, a, rfl, ⟨⟨dx, t, d, h1, h2, h3⟩, each, fct, _, _⟩, ask, k⟩ := h
    have hu1 := hu_of hr
    refine ⟨_, pss_one (ps_ret (pe_and (pe_call GF hr (by rfl) mF kF bF .nil pass0 (pa_cons (pv 1) pa_nil)) (pe_one (pe_cmp (pc_din hu1 (pv 1) (pe_fld (pv 0) rfl)))))), ?_⟩
    refine ⟨_, rfl, x, rfl, ?_⟩
    cases a with
    | none =>
      refine .inr ⟨ask.2, fun H' s' => ?_⟩
      exact ⟨false, rfl, iteF (k H' s')⟩
    | some ys =>
      obtain ⟨u, rfl, hu, lu, okx⟩ := ask
      refine .inl ⟨u, ys, rfl, hu, Nat.le_trans lu (by decide), fun y hy => (okx y hy).1.okv, fun H' s' => ⟨_, rfl, ?_⟩⟩
      by_cases c : factB ys = true
      · rw [c]
        refine iteT ?_
        obtain ⟨T', zs, rfl, l3⟩ := fact_strs c
        have eu : (((Sum.inr T' : L2.Key) :: zs.map Sum.inr).map kV) = V.str T' :: zs.map V.str := by
          rw [List.map_cons, List.map_map]
          rfl
        refine ⟨_, rfl, _, rfl, s, C, dx, _, .ref d, rfl, s' _ _ h1, T.cl, T.nH, rfl, d, _, rfl, DGet.t (k := (Sum.inr T' : L2.Key) :: zs.map Sum.inr) (s' _ _ h3) (by rw [eu]; exact s' _ _ hu), ?_⟩
        rw [val_ptK]
        exact k H' s'
      · have c' : factB ys = false := by simpa using c
        rw [c']
        refine iteF ?_
        have e : hasB M (some ys) = false := by
          show decide (ys ∈ M.map ptV) = false
          refine decide_eq_false fun h => ?_
          obtain ⟨z, hz, rfl⟩ := List.mem_map.mp h
          have := (fct z hz).fact
          have e2 : factB (ptV z) = true := this
          rw [e2] at c'
          cases c'
        have q := k H' s'
        rw [e] at q
        exact q
theorem scAddS : FnScope ["self", "other"] ["self", "other"] (defScope sAddS) := ⟨rfl, rfl, rfl, by decide +kernel, rfl, by decide +kernel, by decide +kernel⟩
theorem ok_addS {f fI C : Addr} {fd fdI : FuncData} (F : Fun K "__add__" "Store.__add__" sAddS f fd) (T : StT K mg C) (c : C8.InsC K C) (M : Mk K C fI) (GI : FnOk P w K mg base CX0 5 fI fdI ["self", "facts"] (spInitS C K)) (bI : Binds K fdI ["self", "facts"] []) (mC : mg "Store" = some (.ref C)) (mi : mg "isinstance" = none) :
    FnOk P w K mg base CX0 7 f fd ["self", "other"] (spAddS C K) := by
  refine F.ok scAddS (fun vs H Q E h => ?_) (fun cdv A outer s H vs Q E hr h => ?_)
  · obtain ⟨a, b, M, N, rfl, _⟩ := h
    rfl
  · obtain ⟨a, b, Ma, Mb, rfl, hA, hB, few, k⟩ := h
    obtain ⟨dx, t, d, h1, h2, h3⟩ := hA.ex
    obtain ⟨dy, t', d', g1, g2, g3⟩ := hB.ex
    refine ⟨_, pss_cons (ps_if (pt_not (pt_val (pe_callB (call_isCK (K := K) rfl c) (by rfl) mi (by decide +kernel) (pa_cons (pv 1) (pa_cons (pe_glob (v := .ref C) (by rfl) mC rfl) pa_nil))))) (pss_one ps_never) pss_nil)
      (pss_one (ps_ret (pe_make M GI hr (by rfl) mC bI .nil pass0 (pa_cons (pe_lst (StX.pa_star (pe_fld (pv 0) rfl) (StX.pa_star (pe_fld (pv 1) rfl) pa_nil))) pa_nil)))), ?_⟩
    refine ⟨_, rfl, b, dy, _, rfl, g1, true, rfl, iteF ?_⟩
    refine ⟨_, rfl, a, C, dx, _, .ref t, rfl, h1, T.cl, T.nF, rfl, t, _, rfl, .inl (SqT.of h2), _, rfl, b, C, dy, _, .ref t', rfl, g1, T.cl, T.nF, rfl, t', _, rfl, .inl (SqT.of g2), ?_⟩
    refine ⟨?_, fun L nL => ?_⟩
    · rw [List.append_nil, List.length_append, List.length_map, List.length_map, sizeLine_eq]
      omega
    have sL : Same H (upd H L (.lst (Ma.map (fun x => V.ref x.1) ++ (Mb.map (fun x => V.ref x.1) ++ [])))) := same_new nL
    have hL : (upd H L (.lst (Ma.map (fun x => V.ref x.1) ++ (Mb.map (fun x => V.ref x.1) ++ [])))) L = some (.lst ((Ma ++ Mb).map fun x => V.ref x.1)) := by
      rw [upd_same, List.append_nil, List.map_append]
    refine make_fcts sL ⟨fun x hx => ?_, fun x hx => ?_⟩ (by rw [List.length_append]; exact few) (.inl (SqL.of hL)) fun H' r R s' s2 nr st mem => k H' r R s' (none_of8 sL nr) st fun c => ?_
    · exact (List.mem_append.mp hx).elim (fun h => sL _ _ (hA.each x h)) fun h => sL _ _ (hB.each x h)
    · exact (List.mem_append.mp hx).elim (hA.fct x) (hB.fct x)
    · rw [mem, List.map_append, List.mem_append]
end
end L2.LawH
set_option Elab.async false
set_option linter.all false
set_option maxRecDepth 100000
set_option maxHeartbeats 4000000
/-! Store: -, within, only. -/
namespace L2.LawH
open PySem PySem.Spec PyProof.Rows L2.TxtSet TL L2.NSet PySem.W L2.OwnOp
abbrev sSubS : Stmt := inClass (top 16) 9
abbrev sWithinS : Stmt := inClass (top 16) 10
abbrev sOnlyS : Stmt := inClass (top 16) 12
theorem pe_fldK {X : Cx} {K : PySem.W.Frag} (e : X.K = K) {o : Expr} {f : Str} {pos : Pos} {ta : TE} (he : PE X o ta) (hb : attributeBase o f X.env (eval o X.env) = eval o X.env) : PE X (.Attribute o f pos) (tFld K ta f) := by
  subst e
  exact pe_fld he hb
/-- [out x for x in .. if p x], the heap only grows -/
theorem lc_sift {α : Type} {J : It} {n : Nat} {G : Hp → Prop} {ms : List α} {val : α → V} (w : L2.Walk J n G (YAt (ms.map val))) (en : n = ms.length) {g : TG} {tt : TT} {te : TE} {vs : List Nat} {σ : St} {H1 : Hp} {D : Addr} {Qd : Hp → Prop} (p : α → Bool) (out : α → V)
    (nD : H1 D = none) (few : ms.length ≤ 1000) (hG : ∀ H, Same H1 H → G H)
    (hs : ∀ x ∈ ms, ∀ (H5 : Hp) (Yes : V → Hp → Prop) (No : Hp → Prop), Same H1 H5 → (∀ H4, Same H5 H4 → p x = true → Yes (out x) H4) → (∀ H4, Same H5 H4 → p x = false → No H4) →
      g (val x) (wipe σ vs) H5 fun σ2 H2 => wipe σ2 vs = wipe σ vs ∧ tt σ2 H2 fun b H3 => if b = true then te σ2 H3 Yes else No H3)
    (hd : ∀ H', Same H1 H' → H' D = some (.lst ((ms.filter p).map out)) → Qd H') :
    ∃ W : Nat → Nat → Hp → Prop, (∃ m, W 0 m (upd H1 D (.lst []))) ∧ ∀ i m H, W i m H →
      (J.stop i H ∧ Qd H) ∨ (J.go i H ∧ ∃ Nx : Hp → Prop, (∀ H', Nx H' → ∃ m', m' < m ∧ W (i + 1) m' H') ∧ ∀ x H', J.yld i H x H' → g x (wipe σ vs) H' fun σ2 H2 => wipe σ2 vs = wipe σ vs ∧ tt σ2 H2 fun b H3 =>
        if b = true then te σ2 H3 fun y H4 => ∃ acc, H4 D = some (.lst acc) ∧ acc.length < sizeLine ∧ Nx (upd H4 D (.lst (acc ++ [y]))) else Nx H3) := by
  subst en
  refine lc_it w (fun i H5 => Same H1 H5 ∧ H5 D = some (.lst (((ms.take i).filter p).map out))) ⟨same_new nD, upd_same⟩ (fun i H5 _ q => hG H5 q.1) (fun i z H5 H6 hi q y => ?_) (fun H5 q => ?_)
  · obtain ⟨rfl, hz⟩ := y
    obtain ⟨q1, q2⟩ := q
    rw [List.getElem?_map] at hz
    obtain ⟨x, hx, rfl⟩ := Option.map_eq_some_iff.mp hz
    have tk : ms.take (i + 1) = ms.take i ++ [x] := by
      rw [List.take_succ, hx]
      rfl
    refine hs x (List.mem_of_getElem? hx) H6 _ _ q1 (fun H4 s4 hp => ⟨_, s4 _ _ q2, ?_, ?_, ?_⟩) fun H4 s4 hp => ⟨?_, ?_⟩
    · rw [List.length_map, sizeLine_eq]
      have := List.length_filter_le p (ms.take i)
      rw [List.length_take] at this
      omega
    · intro b o h
      rw [upd_ne (ne_of_none h nD)]
      exact s4 _ _ (q1 _ _ h)
    · rw [upd_same, tk, List.filter_append, List.filter_cons_of_pos hp, List.filter_nil, List.map_append]
      rfl
    · intro b o h
      exact s4 _ _ (q1 _ _ h)
    · rw [tk, List.filter_append, List.filter_cons_of_neg (by rw [hp]; exact Bool.false_ne_true), List.filter_nil, List.append_nil]
      exact s4 _ _ q2
  · obtain ⟨q1, q2⟩ := q
    rw [List.take_length] at q2
    exact hd H5 q1 q2
theorem val_ptK2 (M : List Pt) (x : Pt) : (valV (M.map fun x => (ptK x, V.bl true)) (ptK x)).isSome = decide (x.2 ∈ M.map (·.2)) := by
  have e := val_ptK M x.2.1 x.2.2
  unfold ptK
  rw [show (fun x : Pt => ((Sum.inr x.2.1 : L2.Key) :: x.2.2.map Sum.inr, V.bl true)) = fun x => (ptK x, V.bl true) from rfl, e]
  refine decide_eq_decide.mpr ⟨fun h => ?_, fun h => ?_⟩
  · obtain ⟨y, hy, h2⟩ := List.mem_map.mp h
    unfold ptV at h2
    injection h2 with h3 h4
    injection h3 with h3
    exact List.mem_map.mpr ⟨y, hy, Prod.ext h3 ((List.map_inj_right (fun a b e => by injection e)).mp h4)⟩
  · obtain ⟨y, hy, h2⟩ := List.mem_map.mp h
    exact List.mem_map.mpr ⟨y, hy, by unfold ptV; rw [h2]⟩
def spSubS (C : Addr) (K : PySem.W.Frag) : Sp := fun vs H Q _ => ∃ (a b : Addr) (M N : List Pt), vs = [.ref a, .ref b] ∧ StM C H a M ∧ StM C H b N ∧
  ∀ (H' : Hp) (r : Addr) (R : List Pt), Same H H' → H r = none → StM C H' r R → (∀ c, c ∈ R.map (·.2) ↔ c ∈ M.map (·.2) ∧ c ∉ N.map (·.2)) → Q (.ref r) H'
def spWithinS (C : Addr) (K : PySem.W.Frag) : Sp := fun vs H Q _ => ∃ (a b : Addr) (M N : List Pt), vs = [.ref a, .ref b] ∧ StM C H a M ∧ StM C H b N ∧ ∀ (H' : Hp), Same H H' → Q (.bl (M.all fun x => decide (x.2 ∈ N.map (·.2)))) H'
def spOnlyS (C : Addr) (K : PySem.W.Frag) : Sp := fun vs H Q _ => ∃ (a b : Addr) (M : List Pt) (ts : List Str), vs = [.ref a, .ref b] ∧ StM C H a M ∧ (SqL K H b (ts.map V.str) ∨ SqT K H b (ts.map V.str)) ∧
  ∀ (H' : Hp) (r : Addr) (R : List Pt), Same H H' → H r = none → StM C H' r R → (∀ c, c ∈ R.map (·.2) ↔ c ∈ M.map (·.2) ∧ c.1 ∈ ts) → Q (.ref r) H'
section
variable {P : Program} {w : World} {K : PySem.W.Frag} {mg : Str → Option Value} {base : Heap}
abbrev nSub : List Str := ["self", "other", "fact"]
theorem scSubS : FnScope nSub ["self", "other"] (defScope sSubS) := ⟨rfl, rfl, rfl, by decide +kernel, rfl, by decide +kernel, by decide +kernel⟩
theorem ok_subS {f fI C : Addr} {fd fdI : FuncData} (F : Fun K "__sub__" "Store.__sub__" sSubS f fd) (T : StT K mg C) (c : C8.InsC K C) (M : Mk K C fI) (GI : FnOk P w K mg base CX0 5 fI fdI ["self", "facts"] (spInitS C K)) (bI : Binds K fdI ["self", "facts"] []) (mC : mg "Store" = some (.ref C)) (mi : mg "isinstance" = none) :
    FnOk P w K mg base CX0 7 f fd ["self", "other"] (spSubS C K) := by
  refine F.ok scSubS (fun vs H Q E h => ?_) (fun cdv A outer s H vs Q E hr h => ?_)
  · obtain ⟨a, b, M, N, rfl, _⟩ := h
    rfl
  · obtain ⟨a, b, Ma, Mb, rfl, hA, hB, k⟩ := h
    have hu1 := hu_of hr
    obtain ⟨dx, t, d, h1, h2, h3⟩ := hA.ex
    obtain ⟨dy, t', d', g1, g2, g3⟩ := hB.ex
    refine ⟨_, pss_cons (ps_if (pt_not (pt_val (pe_callB (call_isCK (K := K) rfl c) (by rfl) mi (by decide +kernel) (pa_cons (pv 1) (pa_cons (pe_glob (v := .ref C) (by rfl) mC rfl) pa_nil))))) (pss_one ps_never) pss_nil)
      (pss_one (ps_ret (pe_make M GI hr (by rfl) mC bI .nil pass0 (pa_cons (pe_lc (own := [("fact", 2)]) (g := gName 2) (tt := tB (tDNotIn (tVar 2) (tFld K (tVar 1) "_held"))) rfl scSubS.nd (pi_tup (pe_fld (pv 0) rfl))
        (blkOk_by (own := [("fact", 2)]) (N := nSub) (sc := defScope sSubS) (by decide +kernel)) (fun _ _ _ _ _ => pg_name (i := 2) scSubS.nd rfl (Or.inl rfl)) (fun _ _ _ _ _ => pts_one (pt_cmp (pc_dnotin hu1 (pv 2) (pe_fldK (K := K) rfl (pv 1) rfl))))
        (fun _ _ _ _ _ => pv 2)) pa_nil)))), ?_⟩
    refine ⟨_, rfl, b, dy, _, rfl, g1, true, rfl, iteF ?_⟩
    refine ⟨_, rfl, a, C, dx, _, .ref t, rfl, h1, T.cl, T.nF, rfl, t, rfl, ⟨_, SqT.of h2⟩, fun L nL => ?_⟩
    refine lc_sift (ms := Ma) (val := fun x => V.ref x.1) (L2.walk_tup (K := K)) (List.length_map _) (fun x => !decide (x.2 ∈ Mb.map (·.2))) (fun x => V.ref x.1) nL (Nat.le_trans hA.few (by decide)) (fun H' s' => SqT.of (s' _ _ h2)) (fun x hx H5 Yes No s5 yes no => ?_) (fun H' s' hL => ?_)
    · refine ⟨rfl, ?_⟩
      refine ⟨_, rfl, _, rfl, b, C, dy, _, .ref d', rfl, s5 _ _ g1, T.cl, T.nH, rfl, d', _, rfl, DGet.t (k := ptK x) (s5 _ _ g3) (by rw [ptK_V]; exact s5 _ _ (hA.each x hx)), _, rfl, ?_⟩
      rw [val_ptK2]
      refine ite2 (fun e => ?_) (fun e => ?_)
      · exact ⟨_, rfl, yes _ (Same.refl _) (by simpa using e)⟩
      · exact no _ (Same.refl _) (by simpa using e)
    · have few : (Ma.filter fun x => !decide (x.2 ∈ Mb.map (·.2))).length ≤ 40 := Nat.le_trans (List.length_filter_le _ _) hA.few
      refine make_fcts s' ⟨fun x hx => ?_, fun x hx => ?_⟩ few (.inl (SqL.of hL)) fun H2 r R s'' s2 nr st mem => k H2 r R s'' (none_of8 s' nr) st fun c => ?_
      · exact s' _ _ (hA.each x ((List.mem_filter.mp hx).1))
      · exact hA.fct x ((List.mem_filter.mp hx).1)
      · rw [mem]
        constructor
        · intro h
          obtain ⟨x, hx, rfl⟩ := List.mem_map.mp h
          obtain ⟨m1, m2⟩ := List.mem_filter.mp hx
          exact ⟨List.mem_map.mpr ⟨x, m1, rfl⟩, by simpa using m2⟩
        · rintro ⟨h, n⟩
          obtain ⟨x, hx, rfl⟩ := List.mem_map.mp h
          exact List.mem_map.mpr ⟨x, List.mem_filter.mpr ⟨hx, by simpa using n⟩, rfl⟩
theorem op_inKK {X : Cx} {K : PySem.W.Frag} (e : X.K = K) : OpR X (compareOp .In) (rIn K false) := by
  subst e
  exact op_in_seq
abbrev nOnly : List Str := ["self", "tables", "fact"]
theorem scOnlyS : FnScope nOnly ["self", "tables"] (defScope sOnlyS) := ⟨rfl, rfl, rfl, by decide +kernel, rfl, by decide +kernel, by decide +kernel⟩
theorem ok_onlyS {f fI C : Addr} {fd fdI : FuncData} (F : Fun K "only" "Store.only" sOnlyS f fd) (T : StT K mg C) (M : Mk K C fI) (GI : FnOk P w K mg base CX0 5 fI fdI ["self", "facts"] (spInitS C K)) (bI : Binds K fdI ["self", "facts"] []) (mC : mg "Store" = some (.ref C)) :
    FnOk P w K mg base CX0 7 f fd ["self", "tables"] (spOnlyS C K) := by
  refine F.ok scOnlyS (fun vs H Q E h => ?_) (fun cdv A outer s H vs Q E hr h => ?_)
  · obtain ⟨a, b, M, N, rfl, _⟩ := h
    rfl
  · obtain ⟨a, b, Ma, ts, rfl, hA, hb, k⟩ := h
    obtain ⟨dx, t, d, h1, h2, h3⟩ := hA.ex
    refine ⟨_, (pss_one (ps_ret (pe_make M GI hr (by rfl) mC bI .nil pass0 (pa_cons (pe_lc (own := [("fact", 2)]) (g := gName 2) (tt := tB (tOp (rIn K false) (tOp (rIxT K) (tVar 2) (tC (.int 0))) (tVar 1))) rfl scOnlyS.nd (pi_tup (pe_fld (pv 0) rfl))
        (blkOk_by (own := [("fact", 2)]) (N := nOnly) (sc := defScope sOnlyS) (by decide +kernel)) (fun _ _ _ _ _ => pg_name (i := 2) scOnlyS.nd rfl (Or.inl rfl)) (fun _ _ _ _ _ => pts_one (pt_cmpR (op_inKK (K := K) rfl) (pe_ix ix_tup (pv 2) pe_int (fun _ _ => rfl)) (pv 1) (by rfl)))
        (fun _ _ _ _ _ => pv 2)) pa_nil)))), ?_⟩
    refine ⟨_, rfl, a, C, dx, _, .ref t, rfl, h1, T.cl, T.nF, rfl, t, rfl, ⟨_, SqT.of h2⟩, fun L nL => ?_⟩
    refine lc_sift (ms := Ma) (val := fun x => V.ref x.1) (L2.walk_tup (K := K)) (List.length_map _) (fun x => decide (x.2.1 ∈ ts)) (fun x => V.ref x.1) nL (Nat.le_trans hA.few (by decide)) (fun H' s' => SqT.of (s' _ _ h2)) (fun x hx H5 Yes No s5 yes no => ?_) (fun H' s' hL => ?_)
    · refine ⟨rfl, ?_⟩
      refine ⟨_, rfl, x.1, ptV x, 0, .str x.2.1, rfl, rfl, SqT.of (s5 _ _ (hA.each x hx)), atI_nat (j := 0) rfl, _, rfl, b, ts.map V.str, rfl, hb.imp (fun h => h.ext s5) fun h => h.ext s5, rfl, flat_strs ts, _, rfl, ?_⟩
      rw [if_neg Bool.false_ne_true, inV_strs]
      refine ite2 (fun e => ?_) (fun e => ?_)
      · exact ⟨_, rfl, yes _ (Same.refl _) e⟩
      · exact no _ (Same.refl _) (by simpa using e)
    · have few : (Ma.filter fun x => decide (x.2.1 ∈ ts)).length ≤ 40 := Nat.le_trans (List.length_filter_le _ _) hA.few
      refine make_fcts s' ⟨fun x hx => ?_, fun x hx => ?_⟩ few (.inl (SqL.of hL)) fun H2 r R s'' s2 nr st mem => k H2 r R s'' (none_of8 s' nr) st fun c => ?_
      · exact s' _ _ (hA.each x ((List.mem_filter.mp hx).1))
      · exact hA.fct x ((List.mem_filter.mp hx).1)
      · rw [mem]
        constructor
        · intro h
          obtain ⟨x, hx, rfl⟩ := List.mem_map.mp h
          obtain ⟨m1, m2⟩ := List.mem_filter.mp hx
          exact ⟨List.mem_map.mpr ⟨x, m1, rfl⟩, by simpa using m2⟩
        · rintro ⟨h, n⟩
          obtain ⟨x, hx, rfl⟩ := List.mem_map.mp h
          exact List.mem_map.mpr ⟨x, List.mem_filter.mpr ⟨hx, by simpa using n⟩, rfl⟩
end
end L2.LawH
set_option Elab.async false
set_option linter.all false
set_option maxRecDepth 100000
set_option maxHeartbeats 4000000
/-! Store: within, constants. -/
namespace L2.LawH
open PySem PySem.Spec PyProof.Rows L2.TxtSet TL L2.NSet PySem.W L2.OwnOp
abbrev sConstS : Stmt := inClass (top 16) 11
theorem ask_fact {K : PySem.W.Frag} {H : Hp} {x : Pt} (h : H x.1 = some (.tup (ptV x))) (f : Fct x.2) : Ask K H (.ref x.1) (some (ptV x)) := by
  refine ⟨x.1, rfl, h, ?_, fun y hy => ?_⟩
  · unfold ptV
    rw [List.length_cons, List.length_map]
    have := f.l3
    omega
  · have one : ∀ z : Str, Nm z → Itm K H (.str z) := fun z n => itm_str (Nat.le_trans (nm_bds n).2 (by decide)) fun c hc => Nat.lt_trans (sgn_ne (chr_nm n c hc)).2.2.2 (by decide)
    unfold ptV at hy
    rcases List.mem_cons.mp hy with rfl | hy
    · exact one _ f.nT
    · obtain ⟨z, hz, rfl⟩ := List.mem_map.mp hy
      exact one z (f.nz z hz)
theorem has_fact (N : List Pt) (x : Pt) : hasB N (some (ptV x)) = decide (x.2 ∈ N.map (·.2)) := by
  show decide (ptV x ∈ N.map ptV) = _
  refine decide_eq_decide.mpr ⟨fun h => ?_, fun h => ?_⟩
  · obtain ⟨y, hy, h2⟩ := List.mem_map.mp h
    unfold ptV at h2
    injection h2 with h3 h4
    injection h3 with h3
    exact List.mem_map.mpr ⟨y, hy, Prod.ext h3 ((List.map_inj_right (fun a b e => by injection e)).mp h4)⟩
  · obtain ⟨y, hy, h2⟩ := List.mem_map.mp h
    exact List.mem_map.mpr ⟨y, hy, by unfold ptV; rw [h2]⟩
/-- the terms of facts -/
def trms (cs : List Fc) : List Str := cs.flatMap (·.2)
theorem trms_snoc (cs : List Fc) (c : Fc) : trms (cs ++ [c]) = trms cs ++ c.2 := by
  unfold trms
  rw [List.flatMap_append]
  simp
theorem uniq_le_of {a b : List Str} (h : ∀ z ∈ a, z ∈ b) : (uniq a).length ≤ (uniq b).length :=
  nodup_len (uniq a) (uniq b) (uniq_nodup a) fun c hc => uniq_mem.mpr (h c (uniq_mem.mp hc))
def spConstS (C : Addr) : Sp := fun vs H Q _ => ∃ (a : Addr) (M : List Pt), vs = [.ref a] ∧ StM C H a M ∧ (uniq (trms (M.map (·.2)))).length ≤ 60 ∧
  ∀ (ys : List Str) (p : Addr) (H' : Hp), Same H H' → H p = none → ys.Perm (uniq (trms (M.map (·.2)))) → sortedS ys = true → H' p = some (.lst (ys.map V.str)) → Q (.ref p) H'
section
variable {P : Program} {w : World} {K : PySem.W.Frag} {mg : Str → Option Value} {base : Heap}
theorem scWithinS : FnScope nSub ["self", "other"] (defScope sWithinS) := ⟨rfl, rfl, rfl, by decide +kernel, rfl, by decide +kernel, by decide +kernel⟩
theorem ok_withinS {f fH C : Addr} {fd fdH : FuncData} (F : Fun K "within" "Store.within" sWithinS f fd) (T : StT K mg C)
    (GH : FnOk P w K mg base CX0 5 fH fdH ["self", "value"] (spHasS C K)) (bH : Binds K fdH ["self", "value"] []) (iH : PySem.W.findIn K (.ref C) "__contains__" = some (some (.ref fH))) (nH : PySem.W.isFn K (.ref fH) = true) (ma : mg "all" = none) :
    FnOk P w K mg base CX0 6 f fd ["self", "other"] (spWithinS C K) := by
  refine F.ok scWithinS (fun vs H Q E h => ?_) (fun cdv A outer s H vs Q E hr h => ?_)
  · obtain ⟨a, b, M, N, rfl, _⟩ := h
    rfl
  · obtain ⟨a, b, Ma, Mb, rfl, hA, hB, k⟩ := h
    obtain ⟨dx, t, d, h1, h2, h3⟩ := hA.ex
    obtain ⟨dy, t', d', g1, g2, g3⟩ := hB.ex
    refine ⟨_, pss_one (ps_ret (pe_callB (cr_all rfl) (by rfl) ma (by decide +kernel) (pa_cons (pe_lc (own := [("fact", 2)]) (g := gName 2) (tt := tYes) rfl scWithinS.nd (pi_tup (pe_fld (pv 0) rfl))
        (blkOk_by (own := [("fact", 2)]) (N := nSub) (sc := defScope sWithinS) (by decide +kernel)) (fun _ _ _ _ _ => pg_name (i := 2) scWithinS.nd rfl (Or.inl rfl)) (fun _ _ _ _ _ => pts_nil)
        (fun _ _ _ _ _ => pe_cmpR (op_inOwn (C := C) GH bH ⟨iH, nH⟩ hr pass0) (pv 2) (pv 1) (by rfl))) pa_nil))), ?_⟩
    refine ⟨_, rfl, a, C, dx, _, .ref t, rfl, h1, T.cl, T.nF, rfl, t, rfl, ⟨_, SqT.of h2⟩, fun L nL => ?_⟩
    refine lc_sift (ms := Ma) (val := fun x => V.ref x.1) (L2.walk_tup (K := K)) (List.length_map _) (fun _ => true) (fun x => V.bl (decide (x.2 ∈ Mb.map (·.2)))) nL (Nat.le_trans hA.few (by decide)) (fun H' s' => SqT.of (s' _ _ h2)) (fun x hx H5 Yes No s5 yes no => ?_) (fun H' s' hL => ?_)
    · refine ⟨rfl, ?_⟩
      dsimp only [tYes]
      rw [if_pos rfl]
      refine ⟨_, rfl, _, rfl, b, dy, _, rfl, s5 _ _ g1, b, Mb, _, some (ptV x), rfl, hB.same s5, ask_fact (s5 _ _ (hA.each x hx)) (hA.fct x hx), fun H6 s6 => ?_⟩
      rw [has_fact]
      exact ⟨_, rfl, yes H6 s6 rfl⟩
    · refine ⟨L, Ma.map fun x => decide (x.2 ∈ Mb.map (·.2)), rfl, SqL.of ?_, ?_⟩
      · rw [hL, List.filter_eq_self.mpr (fun _ _ => rfl), List.map_map]
        rfl
      · rw [List.all_map]
        exact k H' s'
abbrev nConst : List Str := ["self", "fact", "term"]
theorem scConstS : FnScope nConst ["self"] (defScope sConstS) := ⟨rfl, rfl, rfl, by decide +kernel, rfl, by decide +kernel, by decide +kernel⟩
theorem ok_constS {f C : Addr} {fd : FuncData} (F : Fun K "constants" "Store.constants" sConstS f fd) (T : StT K mg C) (ms : mg "sorted" = none) : FnOk P w K mg base CX0 2 f fd ["self"] (spConstS C) := by
  refine F.ok scConstS (fun vs H Q E h => ?_) (fun cdv A outer s H vs Q E hr h => ?_)
  · obtain ⟨a, M, rfl, _⟩ := h
    rfl
  · obtain ⟨a, M, rfl, hA, few, k⟩ := h
    obtain ⟨dx, t0, d0, h1, h2, h3⟩ := hA.ex
    refine ⟨_, pss_one (ps_ret (pe_callB (L2.TxtSet.cr_sortT rfl) (by rfl) ms (by decide +kernel) (pa_cons
      (L2.Cmp.pe_set2 (own := [("fact", 1), ("term", 2)]) (vs1 := [2]) (g := gName 1) (g1 := gName 2) (tt := tYes) (L2.TxtSet.addT P w) rfl scConstS.nd (pi_tup (pe_fld (pv 0) rfl))
        (blkOk_by (own := [("fact", 1), ("term", 2)]) (N := nConst) (sc := defScope sConstS) (by decide +kernel)) (by decide)
        (fun _ _ _ _ _ => pg_name (i := 1) scConstS.nd rfl (Or.inl rfl)) (fun _ _ _ _ _ => pts_nil)
        (fun _ _ _ _ _ => pi_tupK (K := K) rfl (pe_slice (sl_tupK (K := K) rfl) (pv 1) (po_some pe_int) po_none))
        (fun _ _ _ _ _ => pg_name (i := 2) scConstS.nd rfl (Or.inl rfl))
        (fun _ _ _ _ _ => pts_nil)
        (fun _ _ _ _ _ => pv 2)) pa_nil))), ?_⟩
    refine ⟨_, rfl, a, C, dx, _, .ref t0, rfl, h1, T.cl, T.nF, rfl, t0, rfl, ⟨_, SqT.of h2⟩, fun D nD => ?_⟩
    refine walk_tup (xs := M.map fun x => V.ref x.1) _ _ _ _ _ _ _ (fun i H5 => H5 D = some (SetT P w D (uniq (trms ((M.take i).map (·.2))))) ∧ Same H H5) ⟨upd_same, same_new nD⟩ (fun i H5 hi p => SqT.of (p.2 _ _ h2)) (fun i x H5 hx p => ?_) fun H5 p => ?_
    · obtain ⟨p1, p2⟩ := p
      rw [List.getElem?_map] at hx
      obtain ⟨y, hy, rfl⟩ := Option.map_eq_some_iff.mp hx
      have my : y ∈ M := List.mem_of_getElem? hy
      have ty := hA.each y my
      have tky : (M.take (i + 1)).map (·.2) = (M.take i).map (·.2) ++ [y.2] := by
        rw [List.take_succ, hy, List.map_append]
        rfl
      refine ⟨rfl, ?_⟩
      dsimp only [tYes]
      rw [if_pos rfl]
      refine ⟨_, rfl, _, rfl, y.1, _, rfl, SqT.of (p2 _ _ ty), cut_part _ _, fun t nt => ⟨t, rfl, ⟨_, SqT.of upd_same⟩, ?_⟩⟩
      unfold ptV
      rw [cut_one]
      have tD : t ≠ D := fun e => by
        rw [e, p1] at nt
        cases nt
      refine walk_tup (xs := y.2.2.map V.str) _ _ _ _ _ _ _ (fun j H6 => H6 D = some (SetT P w D (uniq (trms ((M.take i).map (·.2)) ++ y.2.2.take j))) ∧ Same H H6 ∧ H6 t = some (.tup (y.2.2.map V.str))) ?_ (fun j H6 hj p => SqT.of p.2.2) (fun j x H6 hx p => ?_) (fun H6 p => ?_)
      · refine ⟨?_, fun b o e => ?_, upd_same⟩
        · rw [upd_ne (Ne.symm tD), p1]
          simp
        · have q5 := p2 b o e
          rw [upd_ne (ne_of_none q5 nt)]
          exact q5
      · obtain ⟨p3, p4, p5⟩ := p
        rw [List.getElem?_map] at hx
        obtain ⟨z, hz, rfl⟩ := Option.map_eq_some_iff.mp hx
        have tk : (y.2.2.take (j + 1)) = y.2.2.take j ++ [z] := by
          rw [List.take_succ, hz]
          rfl
        refine ⟨rfl, ?_⟩
        dsimp only [tYes]
        rw [if_pos rfl]
        have room : (uniq (trms ((M.take i).map (·.2)) ++ y.2.2.take j)).length ≤ 60 := by
          refine Nat.le_trans (uniq_le_of fun z hz => ?_) few
          unfold trms
          rcases List.mem_append.mp hz with hz | hz
          · unfold trms at hz
            obtain ⟨c, hc, hz⟩ := List.mem_flatMap.mp hz
            obtain ⟨x2, hx2, rfl⟩ := List.mem_map.mp hc
            exact List.mem_flatMap.mpr ⟨_, List.mem_map.mpr ⟨x2, List.mem_of_mem_take hx2, rfl⟩, hz⟩
          · exact List.mem_flatMap.mpr ⟨_, List.mem_map.mpr ⟨y, my, rfl⟩, List.mem_of_mem_take hz⟩
        refine ⟨_, rfl, z, _, rfl, p3, Nat.lt_of_le_of_lt (Nat.succ_le_succ room) (by decide), ?_, fun b o e => ?_, ?_⟩
        · rw [upd_same, tk, ← List.append_assoc, uniq_snoc]
          rfl
        · have hb : b ≠ D := ne_of_none e nD
          rw [upd_ne hb]
          exact p4 b o e
        · rw [upd_ne tD]
          exact p5
      · rw [List.length_map, List.take_length] at p
        exact ⟨by rw [tky, trms_snoc]; exact p.1, p.2.1⟩
    · obtain ⟨e1, e2⟩ := p
      rw [List.length_map, List.take_length] at e1
      exact ⟨D, _, rfl, e1, Nat.lt_of_le_of_lt few (by decide), fun ys p pm so np => k ys p _ (fun b o e => by
        have e' := e2 b o e
        rw [upd_ne (ne_of_none e' np)]
        exact e') (none_of8 e2 np) pm so upd_same⟩
end
end L2.LawH
set_option Elab.async false
set_option linter.all false
set_option maxRecDepth 100000
set_option maxHeartbeats 4000000
/-! Store(..) of what is no fact: BadFact. -/
namespace L2.OwnOp
open PySem PySem.Spec PyProof.Rows
section
variable {X : Cx} {CX : CXT} {k : Nat} {f C : Addr} {fd : FuncData} {ps : List Str} {sp : Sp} {E : St → XK} {x : Str} {p pos : Pos} {e : Expr} {es : List Expr} {t : TA}
theorem run_makeS {pins : List (Addr × Obj)} {σ : St} {H : Hp} {s : Shared} {Q : VK} {us : List Value} {vs : List V} (M : Mk X.K C f) (F : FnOk X.prog X.w X.K X.mg X.base CX k f fd ps sp) (hr : Room (k + 1) X.A) {dvs : List V} {ds : List Value} (hb : Binds X.K fd ps ds) (hd : Vals dvs ds)
    (hx : PassesAt CX X σ (E σ)) (I : Inv X pins σ H s) (r : Vals vs us)
    (h : ∀ x dx, H x = none → H dx = none → dx ≠ x → sp (.ref x :: (vs ++ dvs)) (upd (upd H dx (.own x)) x (.ins C dx [])) (fun v H2 => v = .non ∧ Q (.ref x) H2) (E σ)) :
    wpAny (model X.prog X.w) X.A (call (.ref C) us) (EP X pins σ Q) X.xe s := by
  have hq := h (s.heap.objs.size + 1) s.heap.objs.size (I.hok.fresh (Nat.le_succ _)) (I.hok.fresh (Nat.le_refl _)) (Nat.ne_of_lt (Nat.lt_succ_self _))
  have I2 := Inv.made (C := C) I
  have r2 : Vals (V.ref (s.heap.objs.size + 1) :: (vs ++ dvs)) (Value.ref (s.heap.objs.size + 1) :: (us ++ ds)) := .cons rfl (r.append hd)
  have hl : (Value.ref (s.heap.objs.size + 1) :: us ++ ds).length = ps.length := by
    have e := r2.length
    rw [F.len _ _ _ _ hq] at e
    exact e.symm
  refine wpAny_call (make_map (f := f) I.kIn M.makes M.init (beq_iff_eq.mp M.fn) (codeAny_mono (F.run _ X.stack _ _ ⟨Value.ref (s.heap.objs.size + 1) :: us, []⟩ (Value.ref (s.heap.objs.size + 1) :: (us ++ ds)) _ _ (E σ) (hr.make C us [])
    (I2.env0.make C us []) (hb _ (Value.ref (s.heap.objs.size + 1) :: us) I2.kIn hl) r2 hq) fun r s' hq' => ?_))
  cases r with
  | error e => exact hx pins _ _ e s' I2 hq'
  | ok fl =>
    cases fl with
    | ret u =>
      obtain ⟨v, H', I3, rv, ev, q3⟩ := I2.after hq'
      subst ev
      exact ⟨rv, ⟨V.ref (s.heap.objs.size + 1), H', I3, rfl, q3⟩⟩
    | next => exact False.elim hq'
    | brk => exact False.elim hq'
    | cont => exact False.elim hq'
def tMakeS (C : Addr) (sp : Sp) (dvs : List V) (E : St → XK) (t : TA) : TE := fun σ H Q => t σ H fun vs H1 => ∀ x dx, H1 x = none → H1 dx = none → dx ≠ x → sp (.ref x :: (vs ++ dvs)) (upd (upd H1 dx (.own x)) x (.ins C dx [])) (fun v H2 => v = .non ∧ Q (.ref x) H2) (E σ)
theorem pe_makeS (M : Mk X.K C f) (F : FnOk X.prog X.w X.K X.mg X.base CX k f fd ps sp) (hr : Room (k + 1) X.A) (hg : Gl X x) (hm : X.mg x = some (.ref C)) {dvs : List V} {ds : List Value} (hb : Binds X.K fd ps ds) (hd : Vals dvs ds) (hx : ∀ σ, PassesAt CX X σ (E σ))
    (ha : PA X (e :: es) t) (hdb : (x == ("__debug__" : Str)) = false := by decide) (he : starEach (e :: es) X.env = (false, eval e X.env) :: starEach es X.env := by rfl) (hpl : (backTo pos (starEach es X.env)).any (·.1) = false := by rfl) :
    PE X (.Call (.Name x p) (e :: es) [] pos) (tMakeS C sp dvs E t) := by
  refine ⟨fun pins s σ H Q I h => ?_⟩
  refine wpAny_Call_Name_kw (ld_glob I hg hm ?_ hdb)
  refine PySem.W.callWith_K (h₀ := X.base) I.ok.mod.kin M.kp (thn (ha.run pos pins s σ H _ I h) fun us s1 ⟨vs, H1, I1, r, q⟩ => ⟨I1.kIn, ?_⟩) he hpl
  exact run_makeS M F hr hb hd (hx σ) I1 r q
end
end L2.OwnOp
namespace L2.LawH
open PySem PySem.Spec PyProof.Rows L2.TxtSet TL L2.NSet PySem.W
abbrev sBFi : Stmt := inClass (top 3) 0
def spBF (C : Addr) : Sp := fun vs H Q _ => ∃ (e : Addr) (y : V), vs = [.ref e, y] ∧ H e = some (exo e C none) ∧ ∀ dx, H dx = none → dx ≠ e → Q .non (upd (upd H dx (exd dx [("value", y)])) e (exo e C (some dx)))
theorem mk_value {C : Addr} {H H1 : Hp} {Q : XK} {y : V} (s : Same H H1) (k : ∀ (H' : Hp) (d : Addr), Same H H' → H d = none → H' d = some (.xd [("value", y)]) → Q (.ref C) (some d) H') : ∀ a, H1 a = none →
    spBF C [.ref a, y] (upd H1 a (exo a C none)) (fun v H2 => v = .non ∧ ∃ (d : Addr) (fs : List (Str × V)), H2 a = some (exo a C (some d)) ∧ H2 d = some (exd d fs) ∧ H1 d = none ∧ Q (.ref C) (some d) (upd (del H2 a) d (.xd fs))) (fun _ _ _ => False) := fun a na => by
  refine ⟨a, y, rfl, upd_same, fun dx nd ne => ⟨rfl, dx, [("value", y)], upd_same, ?_, ?_, ?_⟩⟩
  · rw [upd_ne ne, upd_same]
  · rw [upd_ne ne] at nd
    exact nd
  · rw [upd_ne ne] at nd
    have old : ∀ b o, H b = some o → b ≠ a ∧ b ≠ dx := fun b o h => by
      have h1 := s _ _ h
      refine ⟨fun e => ?_, fun e => ?_⟩
      · rw [e, na] at h1
        cases h1
      · rw [e, nd] at h1
        cases h1
    refine k _ dx (fun b o h => ?_) ?_ upd_same
    · obtain ⟨n1, n2⟩ := old b o h
      rw [upd_ne n2, del_ne n1, upd_ne n1, upd_ne n2, upd_ne n1]
      exact s _ _ h
    · cases e : H dx with
      | none => rfl
      | some o =>
        rw [s _ _ e] at nd
        cases nd
def spInitB (C B : Addr) (K : PySem.W.Frag) : Sp := fun vs H Q E => ∃ (p q dx : Addr) (xs : List Pt) (y : V) (a : Option (List V)) (rest : List V), vs = [.ref p, .ref q] ∧ H p = some (.ins C dx []) ∧ SqL K H q ((xs.map fun x => V.ref x.1) ++ y :: rest) ∧
  FsAt H xs ∧ Ask K H y a ∧ fAns a = false ∧ ∀ (H' : Hp) (d : Addr), Same H H' → H d = none → H' d = some (.xd [("value", y)]) → E (.ref B) (some d) H'
section
variable {P : Program} {w : World} {K : PySem.W.Frag} {mg : Str → Option Value} {base : Heap}
theorem scBF : FnScope ["self", "value"] ["self", "value"] (defScope sBFi) := ⟨rfl, rfl, rfl, by decide +kernel, rfl, by decide +kernel, by decide +kernel⟩
theorem ok_BF {f C : Addr} {fd : FuncData} (F : Fun K "__init__" "BadFact.__init__" sBFi f fd) (T : OexC K C) (nl : PySem.W.findIn K (.ref C) "value" = some none) : FnOk P w K mg base CX0 1 f fd ["self", "value"] (spBF C) := by
  refine F.ok scBF (fun vs H Q E h => ?_) (fun cdv A outer s H vs Q E hr h => ?_)
  · obtain ⟨e, n, rfl, _⟩ := h
    rfl
  · obtain ⟨e, n, rfl, he, k⟩ := h
    refine ⟨_, pss_one (ps_ost (pv 0) (pv 1)), ?_⟩
    exact ⟨_, rfl, _, rfl, e, C, rfl, T, nl, .inl ⟨he, fun dx h1 h2 => k dx h1 h2⟩⟩
theorem ok_initB {f fF fI C B : Addr} {fd fdF fdI : FuncData} {T1 : V} (F : FunD K "__init__" "Store.__init__" (defArgs sInitS) (defBody sInitS) (defScope sInitS) [T1] [] f fd)
    (GF : FnOk P w K mg base CX0 4 fF fdF ["value"] (spIsP K factB)) (kF : PySem.W.keepIn K (.ref fF) = true) (bF : Binds K fdF ["value"] []) (mF : mg "is_fact" = some (.ref fF))
    (T : OexC K B) (iB : PySem.W.findIn K (.ref B) "__init__" = some (some (.ref fI))) (tI : PySem.W.typeIn K (.ref fI) = some (.type "function")) (GI : FnOk P w K mg base CX0 1 fI fdI ["self", "value"] (spBF B)) (bI : Binds K fdI ["self", "value"] []) (mB : mg "BadFact" = some (.ref B)) :
    FnOk P w K mg base (L2.CX P w) 5 f fd ["self", "facts"] (spInitB C B K) := by
  refine F.ok scIS (fun vs H Q E h => ?_) (fun cdv A outer s H vs Q E hr h => ?_)
  · obtain ⟨p, q, dx, xs, y, a, rest, rfl, _⟩ := h
    rfl
  · obtain ⟨p, q, dx, xs, y, a, rest, rfl, hp, hq, fs, ask, no, k⟩ := h
    have hr2 : Room 2 _ := hr.mono (by decide)
    refine ⟨_, pss_cons (ps_for (passes_of rfl) rfl (pi_list (pv 1)) (pg_name (i := 2) scIS.nd rfl (Or.inl rfl))
        (pss_one (ps_if (pt_not (pt_val (pe_call GF hr (by rfl) mF kF bF .nil pass0 (pa_cons (pv 2) pa_nil)))) (pss_one (ps_raise rfl (takes_of rfl rfl rfl rfl) (pmk_oex T iB tI GI hr2 bI .nil pass0 (by rfl) mB (pa_cons (pv 2) pa_nil)))) pss_nil)))
      (pss_cons ps_never (pss_cons ps_never (pss_one ps_never))), ?_⟩
    refine ⟨_, rfl, q, rfl, ⟨_, hq⟩, for_it (L2.walk_list (K := K)) (fun i σ H5 => i ≤ xs.length ∧ ∃ v2 : Option V, σ = [some (.ref p), some (.ref q), v2, none] ∧ Same H H5) ⟨Nat.zero_le _, none, rfl, fun _ _ h => h⟩ (fun i σ H5 _ pp => let ⟨_, _, _, s5⟩ := pp; hq.ext s5) (fun i z σ H5 H6 hi pp yy => ?_) (fun σ H5 pp => ?_)⟩
    · obtain ⟨le, v2, rfl, s5⟩ := pp
      obtain ⟨rfl, hz⟩ := yy
      by_cases lt : i < xs.length
      · rw [List.getElem?_append_left (by rw [List.length_map]; exact lt), List.getElem?_map] at hz
        obtain ⟨x, hx, rfl⟩ := Option.map_eq_some_iff.mp hz
        have mx := List.mem_of_getElem? hx
        have fx := fs.fct x mx
        refine ⟨_, rfl, .ref x.1, rfl, .inl ⟨x.1, ptV x, rfl, s5 _ _ (fs.each x mx), ?_, fct_okv fx, fun H7 s7 => ?_⟩⟩
        · unfold ptV
          rw [List.length_cons, List.length_map]
          have := fx.l3
          omega
        · rw [show factB (ptV x) = true from fx.fact]
          exact ⟨true, rfl, iteF ⟨lt, _, rfl, fun b o h => s7 _ _ (s5 _ _ h)⟩⟩
      · have e : i = xs.length := by omega
        rw [e, List.getElem?_append_right (by rw [List.length_map]; exact Nat.le_refl _), List.length_map, Nat.sub_self] at hz
        obtain rfl := Option.some.inj hz
        have wrong : ∀ (H7 : Hp), Same H6 H7 → ∀ a, H7 a = none → spBF B [.ref a, y] (upd H7 a (exo a B none)) (fun v H2 => v = .non ∧ ∃ (d : Addr) (fs : List (Str × V)), H2 a = some (exo a B (some d)) ∧ H2 d = some (exd d fs) ∧ H7 d = none ∧ E (.ref B) (some d) (upd (del H2 a) d (.xd fs))) (fun _ _ _ => False) := fun H7 s7 =>
          mk_value (fun b o h => s7 _ _ (s5 _ _ h)) fun H' d s' nd hd => k H' d s' nd hd
        have ask6 := ask.same s5
        refine ⟨_, rfl, y, rfl, ?_⟩
        cases a with
        | none =>
          exact .inr ⟨ask6.2, fun H7 s7 => ⟨false, rfl, iteT ⟨_, rfl, (by show 1 ≤ 1000; decide), wrong H7 s7⟩⟩⟩
        | some ys =>
          obtain ⟨u, rfl, hu, lu, okx⟩ := ask6
          refine .inl ⟨u, ys, rfl, hu, Nat.le_trans lu (by decide), fun y hy => (okx y hy).1.okv, fun H7 s7 => ?_⟩
          rw [show factB ys = false from no]
          exact ⟨false, rfl, iteT ⟨_, rfl, (by show 1 ≤ 1000; decide), wrong H7 s7⟩⟩
    · obtain ⟨le, _⟩ := pp
      rw [List.length_append, List.length_cons, List.length_map] at le
      omega
end
end L2.LawH
set_option Elab.async false
set_option linter.all false
set_option maxRecDepth 100000
set_option maxHeartbeats 4000000
/-! _law_refused. -/
namespace L2.LawH
open PySem PySem.Spec PyProof.Rows L2.TxtSet TL L2.NSet PySem.W
abbrev sLRefused : Stmt := top 35
def spRefused (K : PySem.W.Frag) : Sp := fun vs H Q _ => ∃ (q : Addr) (xs : List Pt) (y : V) (a : Option (List V)) (rest : List V), vs = [.ref q] ∧ SqL K H q ((xs.map fun x => V.ref x.1) ++ y :: rest) ∧
  FsAt H xs ∧ Ask K H y a ∧ fAns a = false ∧ ∀ (H' : Hp) (r : Addr), Same H H' → H r = none → H' r = some (.tup [.str (Str.ofString "bad"), y]) → Q (.ref r) H'
section
variable {P : Program} {w : World} {K : PySem.W.Frag} {mg : Str → Option Value} {base : Heap}
theorem scRef : FnScope ["_law_facts_here", "e"] ["_law_facts_here"] (defScope sLRefused) := ⟨rfl, rfl, rfl, by decide +kernel, rfl, by decide +kernel, by decide +kernel⟩
theorem ok_refused {f fI C B : Addr} {fd fdI : FuncData} (F : Fun K "_law_refused" "_law_refused" sLRefused f fd) (M : Mk K C fI)
    (GI : FnOk P w K mg base (L2.CX P w) 5 fI fdI ["self", "facts"] (spInitB C B K)) (bI : Binds K fdI ["self", "facts"] []) (mC : mg "Store" = some (.ref C))
    (mB : mg "BadFact" = some (.ref B)) (T : XfC K B) (hno : PySem.W.findIn K (.ref B) "value" = some none) (te : PySem.W.exmOne K (.ref B) (.ref B) = some true) :
    FnOk P w K mg base CX0 7 f fd ["_law_facts_here"] (spRefused K) := by
  refine F.ok scRef (fun vs H Q E h => ?_) (fun cdv A outer s H vs Q E hr h => ?_)
  · obtain ⟨q, xs, y, a, rest, rfl, _⟩ := h
    rfl
  · obtain ⟨q, xs, y, a, rest, rfl, hq, fs, ask, no, k⟩ := h
    refine ⟨_, pss_cons (ps_try_as (i := 1) rfl rfl scRef.nd rfl rfl ⟨rfl, by decide, .inl mB⟩ takes0 (fun W pn xe tk _ =>
        pss_one (ps_expr (L2.OwnOp.pe_makeS M GI hr (by rfl) mC bI .nil (fun σ => passAt tk σ) (pa_cons (pv 0) pa_nil))))
      (fun a oe cls d pn hz hf => pss_one (ps_ret (pe_tup (pa_cons pe_str (pa_cons (pe_xf T hno hz hf (pv 1)) pa_nil))))))
      (pss_one (ps_ret (pe_tup (pa_cons pe_str (pa_cons pe_non pa_nil))))), ?_⟩
    refine ⟨_, rfl, fun x dx nx ndx ne => ?_⟩
    have sU : Same H (upd (upd H dx (.own x)) x (.ins C dx [])) := fun b o h => by
      rw [upd_ne (ne_of_none h nx), upd_ne (ne_of_none h ndx)]
      exact h
    refine ⟨x, q, dx, xs, y, a, rest, rfl, upd_same, hq.ext sU, fs.same sU, ask.same sU, no, fun H' d s' nd hd => ?_⟩
    have s2 := sU.trans s'
    refine ⟨true, te, fun _ a na => ?_, fun q => nomatch q⟩
    refine ⟨_, rfl, rfl, rfl, d, _, _, rfl, hd, rfl, (by show 2 ≤ sizeLine; rw [sizeLine_eq]; decide), fun r nr => k _ r (s2.trans (same_new nr)) (none_of8 s2 nr) upd_same⟩
end
end L2.LawH
set_option Elab.async false
set_option linter.all false
set_option maxRecDepth 100000
set_option maxHeartbeats 4000000
/-! _law_some. -/
namespace L2.LawH
open PySem PySem.Spec PyProof.Rows L2.TxtSet TL L2.NSet PySem.W
abbrev sLSome : Stmt := top 30
/-- facts of a pool, away from the source -/
structure FsP (a : Addr) (π : Pool) (H : Hp) (Fs : List Pt) : Prop where
  each : ∀ x ∈ Fs, H x.1 = some (.tup (ptV x)) ∧ x.1 ≠ a
  fct : ∀ x ∈ Fs, Fct x.2
  trm : ∀ x ∈ Fs, ∀ z ∈ x.2.2, z ∈ π.C
theorem FsP.keep {a : Addr} {π : Pool} {H H' : Hp} {Fs : List Pt} (h : FsP a π H Fs) (k : Keep a H H') : FsP a π H' Fs := ⟨fun x hx => ⟨k _ _ (h.each x hx).1 (h.each x hx).2, (h.each x hx).2⟩, h.fct, h.trm⟩
theorem FsP.sub {a : Addr} {π : Pool} {H : Hp} {Fs Gs : List Pt} (h : FsP a π H Fs) (s : ∀ x ∈ Gs, x ∈ Fs) : FsP a π H Gs := ⟨fun x hx => h.each x (s x hx), fun x hx => h.fct x (s x hx), fun x hx => h.trm x (s x hx)⟩
theorem FsP.app {a : Addr} {π : Pool} {H : Hp} {Fs Gs : List Pt} (h : FsP a π H Fs) (g : FsP a π H Gs) : FsP a π H (Fs ++ Gs) := by
  refine ⟨fun x hx => ?_, fun x hx => ?_, fun x hx => ?_⟩
  · exact (List.mem_append.mp hx).elim (h.each x) (g.each x)
  · exact (List.mem_append.mp hx).elim (h.fct x) (g.fct x)
  · exact (List.mem_append.mp hx).elim (h.trm x) (g.trm x)
theorem FsP.at {a : Addr} {π : Pool} {H : Hp} {Fs : List Pt} (h : FsP a π H Fs) : FsAt H Fs := ⟨fun x hx => (h.each x hx).1, h.fct⟩
theorem PatOf.fct {a : Addr} {H : Hp} {p : Addr} {π : Pool} {T : Str} {zs : List Str} (hp : PoolAt a H p π) (pat : PatOf π [] T zs) : Fct (T, zs) ∧ ∀ z ∈ zs, z ∈ π.C := by
  obtain ⟨y, hy, e1, e2⟩ := pat.tab
  obtain ⟨_, g2, g3, _⟩ := hp.hrow y hy
  have tc : ∀ z ∈ zs, z ∈ π.C := fun z hz => (pat.trm z hz).elim id fun q => nomatch q
  exact ⟨⟨by rw [← e1]; exact g2, by rw [show (T, zs).2.length = y.2.2 from e2]; exact g3, fun z hz => hp.nC z (tc z hz)⟩, tc⟩
theorem cutV_to' (xs : List V) (k : Nat) : cutV xs none (some (k : Int)) = xs.take k := by
  unfold cutV
  rw [HT.sIx_nat, HT.sIx_none, List.drop_zero, Nat.sub_zero]
  rcases Nat.le_total k xs.length with h | h
  · rw [Nat.min_eq_left h]
  · rw [Nat.min_eq_right h, List.take_of_length_le (Nat.le_refl _), List.take_of_length_le h]
def spSome : Sp := fun vs H Q _ => ∃ (a p : Addr) (c : Int) (m : Nat) (π : Pool), vs = [.ref a, .ref p] ∧ SrcAt H a c (m + 170) ∧ PoolAt a H p π ∧
  ∀ (t : Addr) (Fs : List Pt) (H' : Hp), H' t = some (.lst (Fs.map fun x => V.ref x.1)) → t ≠ a → H t = none → FsP a π H' Fs → Fs.length ≤ 9 → (∃ F8 : List Pt, F8.length ≤ 8 ∧ ∀ x ∈ Fs, x ∈ F8) → SrcAt H' a c m → Keep a H H' → Q (.ref t) H'
section
variable {P : Program} {w : World} {K : PySem.W.Frag} {mg : Str → Option Value} {base : Heap}
abbrev nSome : List Str := ["_law_source_here", "_law_pool_here", "_law_found", "_law_k"]
theorem scSome : FnScope nSome ["_law_source_here", "_law_pool_here"] (defScope sLSome) := ⟨rfl, rfl, rfl, by decide +kernel, rfl, by decide +kernel, by decide +kernel⟩
theorem ok_some {f fD fP : Addr} {fd fdD fdP : FuncData} (F : Fun K "_law_some" "_law_some" sLSome f fd)
    (GD : FnOk P w K mg base CX0 1 fD fdD ["_law_source_here", "_law_limit"] spDraw) (kD : PySem.W.keepIn K (.ref fD) = true) (bD : Binds K fdD ["_law_source_here", "_law_limit"] []) (mD : mg "_law_draw" = some (.ref fD))
    (GP : FnOk P w K mg base CX0 3 fP fdP ["_law_source_here", "_law_pool_here", "_law_variables", "_law_share"] spPat) (kP : PySem.W.keepIn K (.ref fP) = true) (bP : Binds K fdP ["_law_source_here", "_law_pool_here", "_law_variables", "_law_share"] []) (mP : mg "_law_pattern" = some (.ref fP))
    (mr : mg "range" = none) (ml : mg "len" = none) : FnOk P w K mg base CX0 4 f fd ["_law_source_here", "_law_pool_here"] spSome := by
  refine F.ok scSome (fun vs H Q E h => ?_) (fun cdv A outer s H vs Q E hr h => ?_)
  · obtain ⟨a, p, c, m, π, rfl, _⟩ := h
    rfl
  · obtain ⟨a, p, c, m, π, rfl, src, hp, k⟩ := h
    have hr1 : Room 1 _ := hr.mono (by decide)
    refine ⟨_, pss_cons (ps_set (i := 2) scSome.nd rfl (Or.inl rfl) (pe_lst pa_nil))
      (pss_cons (ps_for PassesOwn.never rfl (pi_range1 (by rfl) mr (pa_cons (pe_call GD hr1 (by rfl) mD kD bD .nil pass0 (pa_cons (pv 0) (pa_cons pe_int pa_nil))) pa_nil)) (pg_name (i := 3) scSome.nd rfl (Or.inl rfl))
        (pss_one (ps_expr (pe_bm PySem.F.plainAttrs_list PySem.F.slot_list_insert PySem.F.type_list_insert mt_insert (pv 2) (pa_cons (pe_call GD hr1 (by rfl) mD kD bD .nil pass0 (pa_cons (pv 0) (pa_cons (pe_op op_add (pe_callB call_len_seq (by rfl) ml (by decide +kernel) (pa_cons (pv 2) pa_nil)) pe_int) pa_nil)))
          (pa_cons (pe_call GP hr (by rfl) mP kP bP .nil pass0 (pa_cons (pv 0) (pa_cons (pv 1) (pa_cons (pe_lst pa_nil) (pa_cons pe_int pa_nil))))) pa_nil))))))
      (pss_one (ps_ret (pe_op op_cat (pv 2) (pe_slice sl_list (pv 2) po_none (po_some (pe_call GD hr1 (by rfl) mD kD bD .nil pass0 (pa_cons (pv 0) (pa_cons pe_int pa_nil))))))))), ?_⟩
    refine ⟨(by show 0 ≤ sizeLine; decide), fun D nD => ?_⟩
    have s0 : Same H (upd H D (.lst [])) := same_new nD
    have hD0 : (upd H D (.lst [])) D = some (.lst []) := upd_same
    have nDa : D ≠ a := src.ne nD
    have src0 : SrcAt (upd H D (.lst [])) a c (m + 169 + 1) := (src.same s0).mono (by omega)
    have hp0 := hp.keep (Keep.of (a := a) s0)
    generalize upd H D (.lst []) = H0 at s0 hD0 src0 hp0 ⊢
    refine ⟨_, rfl, a, c, _, 9, rfl, src0, by decide, by decide, fun r H1 r0 r1 src1 k1 => ?_⟩
    obtain ⟨jn, rfl⟩ : ∃ j : Nat, r = j := ⟨r.toNat, by omega⟩
    have hD1 := k1 _ _ hD0 nDa
    refine ⟨_, rfl, by omega, by omega, for_range (lo := 0) (n := jn) (fun i σ H5 => i ≤ 8 ∧ ∃ (v3 : Option V) (Fs : List Pt), σ = [some (.ref a), some (.ref p), some (.ref D), v3] ∧ H5 D = some (.lst (Fs.map fun x => V.ref x.1)) ∧ FsP a π H5 Fs ∧ (∀ x ∈ Fs, x.1 ≠ D) ∧ Fs.length = i ∧
        SrcAt H5 a c (m + 1 + 21 * (8 - i)) ∧ Keep a H H5)
      ⟨by omega, none, [], rfl, hD1, ⟨fun x h => (nomatch h), fun x h => (nomatch h), fun x h => (nomatch h)⟩, fun x h => (nomatch h), rfl, src1.mono (by omega), (Keep.of s0).trans k1⟩ (fun i σ H5 hi pp => ?_) (fun σ H5 pp => ?_)⟩
    · obtain ⟨i8, v3, Fs, rfl, p1, p2, p3, p4, p5, p6⟩ := pp
      refine ⟨_, rfl, .inl ⟨rfl, _, SqL.of p1⟩, _, rfl, _, rfl, D, _, rfl, .inl (SqL.of p1), _, _, rfl, rfl, a, c, m + 21 + 21 * (8 - (i + 1)), _, rfl, p5.mono (by omega), by rw [List.length_map]; omega, by rw [List.length_map]; omega, fun r2 H6 r20 r21 src6 k6 => ?_⟩
      obtain ⟨j, rfl⟩ : ∃ j : Nat, r2 = j := ⟨r2.toNat, by omega⟩
      refine ⟨_, rfl, _, rfl, (by show 0 ≤ sizeLine; decide), fun L nL => ?_⟩
      have nLa : L ≠ a := src6.ne nL
      have sL : Same H6 (upd H6 L (.lst [])) := same_new nL
      have hL : (upd H6 L (.lst [])) L = some (.lst (([] : List Str).map V.str)) := upd_same
      have src7 : SrcAt (upd H6 L (.lst [])) a c (m + 1 + 21 * (8 - (i + 1)) + 20) := (src6.same sL).mono (by omega)
      have k57 : Keep a H5 (upd H6 L (.lst [])) := k6.trans (Keep.of sL)
      generalize upd H6 L (.lst []) = H7 at sL hL src7 k57 ⊢
      have k7 : Keep a H H7 := p6.trans k57
      refine ⟨a, p, L, c, _, 0, π, [], rfl, src7, hp.keep k7, ⟨hL, fun z h => (nomatch h), Nat.zero_le _, nLa⟩, fun t T zs H8 pat ht nta src8 k8 => ?_⟩
      obtain ⟨fc, tc⟩ := pat.fct hp
      have k58 := k57.trans k8
      have p1' : H8 D = some (.lst (Fs.map fun x => V.ref x.1)) := k58 _ _ p1 nDa
      have p2' := p2.keep k58
      have tD : t ≠ D := fun e => by
        rw [e, p1'] at ht
        cases ht
      refine ⟨D, _, _, _, rfl, rfl, p1', by rw [List.length_map, sizeLine_eq]; omega, by omega, by rw [List.length_map] at r21; omega, ?_⟩
      have e9 : ((Fs.map fun x => V.ref x.1).take (j : Int).toNat ++ [V.ref t] ++ (Fs.map fun x => V.ref x.1).drop (j : Int).toNat) = (Fs.take j ++ [(t, T, zs)] ++ Fs.drop j).map fun x => V.ref x.1 := by
        rw [Int.toNat_natCast, List.map_append, List.map_append, List.map_take, List.map_drop]
        rfl
      rw [e9]
      have keepD : ∀ (u : HO) b o, b ≠ D → H8 b = some o → (upd H8 D u) b = some o := fun u b o nb h => by
        rw [upd_ne nb]
        exact h
      have mem : ∀ x ∈ Fs.take j ++ [(t, T, zs)] ++ Fs.drop j, x ∈ Fs ∨ x = (t, T, zs) := fun x hx => by
        rcases List.mem_append.mp hx with hx | hx
        · rcases List.mem_append.mp hx with hx | hx
          · exact .inl (List.mem_of_mem_take hx)
          · exact .inr (List.mem_singleton.mp hx)
        · exact .inl (List.mem_of_mem_drop hx)
      refine ⟨by omega, _, _, rfl, upd_same, ⟨fun x hx => ?_, fun x hx => ?_, fun x hx => ?_⟩, fun x hx => ?_, ?_, ?_, fun b o h nb => ?_⟩
      · rcases mem x hx with hx | rfl
        · exact ⟨keepD _ _ _ (p3 x hx) (p2'.each x hx).1, (p2'.each x hx).2⟩
        · exact ⟨keepD _ _ _ tD ht, nta⟩
      · rcases mem x hx with hx | rfl
        · exact p2.fct x hx
        · exact fc
      · rcases mem x hx with hx | rfl
        · exact p2.trm x hx
        · exact tc
      · rcases mem x hx with hx | rfl
        · exact p3 x hx
        · exact tD
      · rw [List.length_append, List.length_append, List.length_take, List.length_drop]
        show min j Fs.length + 1 + (Fs.length - j) = i + 1
        omega
      · obtain ⟨x1, x2, x3, x4⟩ := src8
        exact ⟨x1, x2, keepD _ _ _ nDa.symm x3, by omega, x4.2⟩
      · exact keepD _ _ _ (ne_of_none h nD) (k8 _ _ (k7 b o h nb) nb)
    · obtain ⟨i8, v3, Fs, rfl, p1, p2, p3, p4, p5, p6⟩ := pp
      refine ⟨_, rfl, _, rfl, _, rfl, a, c, m, 2, rfl, p5.mono (by omega), by decide, by decide, fun r2 H6 r20 r21 src6 k6 => ?_⟩
      obtain ⟨j, rfl⟩ : ∃ j : Nat, r2 = j := ⟨r2.toNat, by omega⟩
      have p1' := k6 _ _ p1 nDa
      refine ⟨_, rfl, D, _, rfl, SqL.of p1', fun l nl => ?_⟩
      have sl : Same H6 (upd H6 l (.lst (cutV (Fs.map fun x => V.ref x.1) none (some (j : Int))))) := same_new nl
      have hl : (upd H6 l (.lst (cutV (Fs.map fun x => V.ref x.1) none (some (j : Int))))) l = some (.lst ((Fs.take j).map fun x => V.ref x.1)) := by
        rw [upd_same, cutV_to', List.map_take]
      have sl6 := src6.same sl
      generalize upd H6 l (.lst (cutV (Fs.map fun x => V.ref x.1) none (some (j : Int)))) = H7 at sl hl sl6 ⊢
      have kk : Keep a H5 H7 := k6.trans (Keep.of sl)
      have l1 : (Fs.take j).length ≤ 1 := by rw [List.length_take]; omega
      refine ⟨D, l, _, _, rfl, rfl, sl _ _ p1', hl, ?_, fun t nt => ?_⟩
      · rw [List.length_map, List.length_map, sizeLine_eq]
        omega
      rw [← List.map_append]
      have st : Same H7 (upd H7 t (.lst ((Fs ++ Fs.take j).map fun x => V.ref x.1))) := same_new nt
      refine k t (Fs ++ Fs.take j) _ upd_same (sl6.ne nt) ?_ ((p2.app (p2.sub fun x hx => List.mem_of_mem_take hx)).keep (kk.trans (Keep.of st))) (by rw [List.length_append]; omega) ⟨Fs, by omega, fun x hx => (List.mem_append.mp hx).elim id List.mem_of_mem_take⟩ (sl6.same st) (p6.trans (kk.trans (Keep.of st)))
      cases e : H t with
      | none => rfl
      | some o =>
        have ta : t ≠ a := sl6.ne nt
        rw [(p6.trans kk) _ _ e ta] at nt
        cases nt
end
end L2.LawH
set_option Elab.async false
set_option linter.all false
set_option maxRecDepth 100000
set_option maxHeartbeats 4000000
/-! _law_sorted. -/
namespace L2.LawH
open PySem PySem.Spec PyProof.Rows L2.TxtSet TL L2.NSet PySem.W
abbrev sLSorted : Stmt := top 31
theorem new_top {acc : List Fc} {c : Fc} (h : Asc acc) (le : ∀ g ∈ acc, ltF c g = false) (ne : ∀ l ∈ acc.getLast?, l ≠ c) : Asc (acc ++ [c]) := by
  have out : c ∉ acc := fun m => by
    rcases List.eq_nil_or_concat acc with e | ⟨G, l, e⟩
    · rw [e] at m
      cases m
    · rw [List.concat_eq_append] at e
      subst e
      have nl : l ≠ c := ne l (by simp)
      rcases List.mem_append.mp m with m | m
      · have q := (List.pairwise_append.mp h).2.2 c m l List.mem_cons_self
        rw [le l (by simp)] at q
        cases q
      · exact nl (List.mem_singleton.mp m).symm
  refine List.pairwise_append.mpr ⟨h, List.pairwise_singleton _ _, fun g hg y hy => ?_⟩
  rw [List.mem_singleton.mp hy]
  cases e : ltF g c with
  | true => rfl
  | false => exact absurd (ltF_anti e (le g hg)) fun q => out (q ▸ hg)
theorem dp_refs {K : PySem.W.Frag} {H : Hp} {q : Addr} {Fs : List Pt} (h : SqL K H q (Fs.map fun x => V.ref x.1)) (f : FsAt H Fs) : Dp K H (.ref q) (.list ((Fs.map (·.2)).map facD)) := .lst h (dp_facts f.each)
theorem sh_refs {H : Hp} {Fs : List Pt} (f : FsAt H Fs) : SeqAt.shaped (.list ((Fs.map (·.2)).map facD)) = true := shaped_facts fun c hc => by
  obtain ⟨x, hx, rfl⟩ := List.mem_map.mp hc
  exact f.fct x hx
def spSorted (K : PySem.W.Frag) : Sp := fun vs H Q _ => ∃ (q : Addr) (Fs : List Pt), vs = [.ref q] ∧ SqL K H q (Fs.map fun x => V.ref x.1) ∧ FsAt H Fs ∧ Fs.length ≤ 40 ∧
  ∀ (H' : Hp) (t : Addr) (Gs : List Pt), Same H H' → H t = none → H' t = some (.lst (Gs.map fun x => V.ref x.1)) → (∀ x ∈ Gs, x ∈ Fs) → (∀ c, c ∈ Gs.map (·.2) ↔ c ∈ Fs.map (·.2)) → Asc (Gs.map (·.2)) → Q (.ref t) H'
section
variable {P : Program} {w : World} {K : PySem.W.Frag} {mg : Str → Option Value} {base : Heap}
abbrev nSorted : List Str := ["_law_facts_here", "_law_found", "_law_fact"]
theorem scSorted : FnScope nSorted ["_law_facts_here"] (defScope sLSorted) := ⟨rfl, rfl, rfl, by decide +kernel, rfl, by decide +kernel, by decide +kernel⟩
theorem ok_sorted {f : Addr} {fd : FuncData} (F : Fun K "_law_sorted" "_law_sorted" sLSorted f fd) (ms : mg "sorted" = none) : FnOk P w K mg base CX0 1 f fd ["_law_facts_here"] (spSorted K) := by
  refine F.ok scSorted (fun vs H Q E h => ?_) (fun cdv A outer s H vs Q E hr h => ?_)
  · obtain ⟨q, Fs, rfl, _⟩ := h
    rfl
  · obtain ⟨q, Fs, rfl, hq, fs, few, k⟩ := h
    have hu := hr.units
    refine ⟨_, pss_cons (ps_set (i := 1) scSorted.nd rfl (Or.inl rfl) (pe_lst pa_nil))
      (pss_cons (ps_for PassesOwn.never rfl (pi_list (pe_callB (cr_sortD hu) (by rfl) ms (by decide +kernel) (pa_cons (pv 0) pa_nil))) (pg_name (i := 2) scSorted.nd rfl (Or.inl rfl))
        (pss_one (ps_if (PW.pt (pw_or (pt_cmpR (op_eqD hu) (pv 1) (pe_lst pa_nil) (nomark _)) (pw_or1 (pt_cmpR (op_neD hu) (pe_ix ix_list (pv 1) (pe_un un_neg pe_int) (fun _ _ => rfl)) (pv 2) (nomark _)))))
          (pss_one (ps_expr (pe_bm PySem.F.plainAttrs_list PySem.F.slot_list_append PySem.F.type_list_append mt_append (pv 1) (pa_cons (pv 2) pa_nil)))) pss_nil)))
      (pss_one (ps_ret (pv 1)))), ?_⟩
    refine ⟨(by show 0 ≤ sizeLine; decide), fun D nD => ?_⟩
    have s0 : Same H (upd H D (.lst [])) := same_new nD
    have hD0 : (upd H D (.lst [])) D = some (.lst []) := upd_same
    generalize upd H D (.lst []) = H0 at s0 hD0 ⊢
    have fs0 := fs.same s0
    have em : (Fs.map fun x => (V.ref x.1, facD x.2)).map Prod.fst = Fs.map fun x => V.ref x.1 := by
      rw [List.map_map]
      rfl
    refine ⟨_, rfl, q, Fs.map fun x => (V.ref x.1, facD x.2), rfl, by rw [em]; exact hq.ext s0, fun x hx => ?_, fun d hd d2 hd2 => ?_, .inr fun d hd => ?_, by rw [List.length_map]; omega, fun x hx => ?_, fun ys l pm rise nl => ?_⟩
    · obtain ⟨y, hy, rfl⟩ := List.mem_map.mp hx
      exact dp_fact (fs0.each y hy)
    · rw [List.map_map] at hd hd2
      obtain ⟨y, _, rfl⟩ := List.mem_map.mp hd
      obtain ⟨y2, _, rfl⟩ := List.mem_map.mp hd2
      exact alike_fact _ _
    · rw [List.map_map] at hd
      obtain ⟨y, _, rfl⟩ := List.mem_map.mp hd
      exact ⟨_, rfl⟩
    · obtain ⟨y, _, rfl⟩ := List.mem_map.mp hx
      exact Nat.le_trans (depth_fact _) (by decide)
    obtain ⟨zs, pz, rfl⟩ := L2.NSet.perm_lift _ pm
    have r2 : Rise (fun x : Pt => facD x.2) zs := List.pairwise_map.mp rise
    have s1 : Same H0 (upd H0 l (.lst ((zs.map fun x => (V.ref x.1, facD x.2)).map Prod.fst))) := same_new nl
    have hl : (upd H0 l (.lst ((zs.map fun x => (V.ref x.1, facD x.2)).map Prod.fst))) l = some (.lst (zs.map fun x => V.ref x.1)) := by
      rw [upd_same, List.map_map]
      rfl
    have Dl : l ≠ D := fun e => by
      rw [e, hD0] at nl
      cases nl
    have hD1 := s1 _ _ hD0
    have eachZ : ∀ x ∈ zs, x ∈ Fs := fun x hx => pz.mem_iff.mp hx
    have fz := fs0.same s1
    have s01 := s0.trans s1
    generalize upd H0 l (.lst ((zs.map fun x => (V.ref x.1, facD x.2)).map Prod.fst)) = H1 at s1 hl hD1 fz s01 ⊢
    have few2 : zs.length ≤ 40 := by rw [pz.length_eq]; exact few
    refine ⟨l, rfl, ⟨_, SqL.of hl⟩, for_it (L2.walk_list (K := K)) (fun i σ H5 => ∃ (v2 : Option V) (Gs : List Pt), σ = [some (.ref q), some (.ref D), v2] ∧ H5 D = some (.lst (Gs.map fun x => V.ref x.1)) ∧ (∀ x ∈ Gs, x ∈ zs.take i) ∧ (∀ c, c ∈ Gs.map (·.2) ↔ c ∈ (zs.take i).map (·.2)) ∧ Asc (Gs.map (·.2)) ∧ Gs.length ≤ i ∧
        ∀ b o, b ≠ D → H1 b = some o → H5 b = some o)
      ⟨none, [], rfl, hD1, fun x h => (nomatch h), fun c => by simp, List.Pairwise.nil, Nat.le_refl _, fun _ _ _ h => h⟩ (fun i σ H5 hi pp => let ⟨_, _, _, _, _, _, _, _, p6⟩ := pp; SqL.of (p6 _ _ Dl hl)) (fun i z σ H5 H6 hi pp yy => ?_) (fun σ H5 pp => ?_)⟩
    · obtain ⟨v2, Gs, rfl, p1, p2, p3, p4, p5, p6⟩ := pp
      obtain ⟨rfl, hz⟩ := yy
      rw [List.getElem?_map] at hz
      obtain ⟨x, hx, rfl⟩ := Option.map_eq_some_iff.mp hz
      have mx := List.mem_of_getElem? hx
      have tk : zs.take (i + 1) = zs.take i ++ [x] := by
        rw [List.take_succ, hx]
        rfl
      refine ⟨_, rfl, (by show 0 ≤ sizeLine; decide), fun E1 nE => ?_⟩
      have sE : Same H6 (upd H6 E1 (.lst [])) := same_new nE
      have hE : (upd H6 E1 (.lst [])) E1 = some (.lst []) := upd_same
      have p6 : ∀ b o, b ≠ D → H1 b = some o → (upd H6 E1 (.lst [])) b = some o := fun b o nb h => sE _ _ (p6 b o nb h)
      have p1 := sE _ _ p1
      generalize upd H6 E1 (.lst []) = H6 at sE hE p6 p1 ⊢
      have fG : FsAt H6 Gs := ⟨fun y hy => p6 _ _ (fun e => ?_) (fz.each y (eachZ y (List.mem_of_mem_take (p2 y hy)))), fun y hy => fz.fct y (eachZ y (List.mem_of_mem_take (p2 y hy)))⟩
      rotate_left
      · have h := fz.each y (eachZ y (List.mem_of_mem_take (p2 y hy)))
        rw [e, hD1] at h
        cases h
      have nxD : x.1 ≠ D := fun e => by
        have h := fz.each x (eachZ x mx)
        rw [e, hD1] at h
        cases h
      have hx6 : H6 x.1 = some (.tup (ptV x)) := p6 _ _ nxD (fz.each x (eachZ x mx))
      have fx := fz.fct x (eachZ x mx)
      have le : ∀ g ∈ Gs.map (·.2), ltF x.2 g = false := fun g hg => by
        obtain ⟨y, hy, e⟩ := List.mem_map.mp ((p3 g).mp hg)
        subst e
        have r3 := List.Pairwise.sublist (List.take_sublist (i + 1) zs) r2
        rw [tk] at r3
        have h := (List.pairwise_append.mp r3).2.2 y hy x List.mem_cons_self
        have h' : (!dataLt (facD x.2) (facD y.2)) = true := h
        rw [dataLt_facD] at h'
        simpa using h'
      have mem' : ∀ c, c ∈ (zs.take (i + 1)).map (·.2) ↔ c ∈ Gs.map (·.2) ∨ c = x.2 := fun c => by
        rw [tk, List.map_append, List.mem_append, ← p3]
        simp
      have put : (∀ l ∈ (Gs.map (·.2)).getLast?, l ≠ x.2) → ∃ (v2 : Option V) (Gs' : List Pt), [some (.ref q), some (.ref D), some (.ref x.1)] = [some (.ref q), some (.ref D), v2] ∧ (upd H6 D (.lst (Gs.map (fun x => V.ref x.1) ++ [.ref x.1]))) D = some (.lst (Gs'.map fun x => V.ref x.1)) ∧ (∀ x ∈ Gs', x ∈ zs.take (i + 1)) ∧ (∀ c, c ∈ Gs'.map (·.2) ↔ c ∈ (zs.take (i + 1)).map (·.2)) ∧ Asc (Gs'.map (·.2)) ∧ Gs'.length ≤ i + 1 ∧
          ∀ b o, b ≠ D → H1 b = some o → (upd H6 D (.lst (Gs.map (fun x => V.ref x.1) ++ [.ref x.1]))) b = some o := fun ne => by
        refine ⟨_, Gs ++ [x], rfl, by rw [upd_same, List.map_append]; rfl, fun y hy => ?_, fun c => ?_, ?_, by rw [List.length_append]; show Gs.length + 1 ≤ _; omega, fun b o nb h => ?_⟩
        · rw [tk]
          exact (List.mem_append.mp hy).elim (fun h => List.mem_append_left _ (p2 y h)) fun h => List.mem_append_right _ h
        · rw [mem', List.map_append, List.mem_append]
          simp
        · rw [List.map_append]
          exact new_top p4 le ne
        · rw [upd_ne nb]
          exact p6 b o nb h
      have skip : x.2 ∈ Gs.map (·.2) → ∃ (v2 : Option V) (Gs' : List Pt), [some (.ref q), some (.ref D), some (.ref x.1)] = [some (.ref q), some (.ref D), v2] ∧ H6 D = some (.lst (Gs'.map fun x => V.ref x.1)) ∧ (∀ x ∈ Gs', x ∈ zs.take (i + 1)) ∧ (∀ c, c ∈ Gs'.map (·.2) ↔ c ∈ (zs.take (i + 1)).map (·.2)) ∧ Asc (Gs'.map (·.2)) ∧ Gs'.length ≤ i + 1 ∧
          ∀ b o, b ≠ D → H1 b = some o → H6 b = some o := fun m => by
        refine ⟨_, Gs, rfl, p1, fun y hy => ?_, fun c => ?_, p4, by omega, p6⟩
        · rw [tk]
          exact List.mem_append_left _ (p2 y hy)
        · rw [mem']
          exact ⟨.inl, fun h => h.elim id fun e => e ▸ m⟩
      have dq : Dp K H6 (.ref D) (.list ((Gs.map (·.2)).map facD)) := dp_refs (SqL.of p1) fG
      refine ⟨_, .list [], dq, .lst (SqL.of hE) .nil, sh_refs fG, by decide +kernel, _, rfl, ?_⟩
      rw [eqv_nilD, List.length_map, List.length_map]
      rw [List.length_map] at hi
      have b63 : (Gs.map fun x => V.ref x.1).length < sizeLine := by rw [List.length_map, sizeLine_eq]; omega
      refine ite2 (fun e => ?_) (fun e => ?_)
      · have e0 : Gs = [] := List.length_eq_zero_iff.mp (of_decide_eq_true e)
        refine ⟨_, rfl, .inl ⟨rfl, _, SqL.of p1⟩, _, rfl, D, _, _, rfl, rfl, p1, b63, ?_⟩
        refine put fun l hl => ?_
        rw [e0] at hl
        simp at hl
      · have ne0 : Gs ≠ [] := fun h => by
          rw [h] at e
          exact e (by simp)
        obtain ⟨G0, l, eG⟩ : ∃ G0 l, Gs = G0 ++ [l] := by
          rcases List.eq_nil_or_concat Gs with h | ⟨G0, l, h⟩
          · exact absurd h ne0
          · exact ⟨G0, l, by rw [h, List.concat_eq_append]⟩
        have ml : l ∈ Gs := by rw [eG]; simp
        have at9 : atI (Gs.map fun x => V.ref x.1) (-1) = some (V.ref l.1) := by
          rw [eG, List.map_append]
          exact atI_last _ _
        have eL : (Gs.map (·.2)).getLast? = some l.2 := by
          rw [eG, List.map_append]
          simp
        refine ⟨_, rfl, 1, rfl, D, _, -1, .ref l.1, rfl, rfl, SqL.of p1, at9, _, rfl, facD l.2, facD x.2, dp_fact (fG.each l ml), dp_fact hx6, shaped_fact (fG.fct l ml), shaped_fact fx, _, rfl, ?_⟩
        rw [eqv_fact]
        refine ite2 (fun e2 => ?_) (fun e2 => ?_)
        · refine ⟨_, rfl, .inl ⟨rfl, _, SqL.of p1⟩, _, rfl, D, _, _, rfl, rfl, p1, b63, ?_⟩
          refine put fun l2 hl => ?_
          rw [eL] at hl
          obtain rfl := Option.some.inj hl
          simpa using e2
        · refine skip ?_
          have e3 : l.2 = x.2 := by simpa using e2
          rw [← e3]
          exact List.mem_map.mpr ⟨l, ml, rfl⟩
    · obtain ⟨v2, Gs, rfl, p1, p2, p3, p4, p5, p6⟩ := pp
      rw [List.length_map, List.take_length] at p2 p3
      refine ⟨_, rfl, k H5 D Gs (fun b o h => p6 _ _ (ne_of_none h nD) (s01 _ _ h)) nD p1 (fun x hx => eachZ x (p2 x hx)) (fun c => ?_) p4⟩
      rw [p3]
      exact (pz.map (·.2)).mem_iff
end
end L2.LawH
set_option Elab.async false
set_option linter.all false
set_option maxRecDepth 100000
set_option maxHeartbeats 4000000
/-! _law_constants, _law_once. -/
namespace L2.LawH
open PySem PySem.Spec PyProof.Rows L2.TxtSet TL L2.NSet PySem.W
abbrev sLConst : Stmt := top 32
abbrev sLOnce : Stmt := top 33
def spConsts : Sp := fun vs H Q _ => ∃ (q : Addr) (Fs : List Pt), vs = [.ref q] ∧ H q = some (.lst (Fs.map fun x => V.ref x.1)) ∧ FsAt H Fs ∧ Fs.length ≤ 40 ∧ (uniq (trms (Fs.map (·.2)))).length ≤ 20 ∧
  ∀ (H' : Hp) (t : Addr) (ws : List Str), Same H H' → H t = none → H' t = some (.lst (ws.map V.str)) → (∀ z, z ∈ ws ↔ z ∈ trms (Fs.map (·.2))) → sortedS ws = true → ws.length ≤ 60 → Q (.ref t) H'
def spOnce : Sp := fun vs H Q _ => ∃ (q : Addr) (ws : List Str), vs = [.ref q] ∧ H q = some (.lst (ws.map V.str)) ∧ ws.length ≤ 60 ∧
  ∀ (H' : Hp) (t : Addr), Same H H' → H t = none → H' t = some (.lst ((uniq ws).map V.str)) → Q (.ref t) H'
theorem uniq_grow {ws add : List Str} (h : ws.length ≤ 3 * (uniq ws).length) (l : add.length ≤ 3) (new : ∀ z ∈ add, z ∉ ws) : (ws ++ add).length ≤ 3 * (uniq (ws ++ add)).length := by
  rw [List.length_append]
  cases add with
  | nil =>
    rw [List.append_nil]
    exact h
  | cons z r =>
    have nz := new z List.mem_cons_self
    have g : ((uniq ws) ++ [z]).length ≤ (uniq (ws ++ z :: r)).length := by
      refine nodup_len _ _ ?_ fun c hc => ?_
      · refine List.nodup_append.mpr ⟨uniq_nodup _, by simp, fun a ha b hb e => ?_⟩
        rw [List.mem_singleton.mp hb] at e
        exact nz (e ▸ uniq_mem.mp ha)
      · refine uniq_mem.mpr ?_
        rcases List.mem_append.mp hc with hc | hc
        · exact List.mem_append_left _ (uniq_mem.mp hc)
        · rw [List.mem_singleton.mp hc]
          simp
    rw [List.length_append] at g
    have : [z].length = 1 := rfl
    omega
theorem trms_take {Fs : List Pt} {i : Nat} {x : Pt} (h : Fs[i]? = some x) : trms ((Fs.take (i + 1)).map (·.2)) = trms ((Fs.take i).map (·.2)) ++ x.2.2 := by
  have e : (Fs.take (i + 1)).map (·.2) = (Fs.take i).map (·.2) ++ [x.2] := by
    rw [List.take_succ, h, List.map_append]
    rfl
  rw [e, trms_snoc]
theorem trms_sub {Fs : List Pt} {i : Nat} {z : Str} (h : z ∈ trms ((Fs.take i).map (·.2))) : z ∈ trms (Fs.map (·.2)) := by
  unfold trms at h ⊢
  obtain ⟨c, hc, hz⟩ := List.mem_flatMap.mp h
  obtain ⟨x, hx, rfl⟩ := List.mem_map.mp hc
  exact List.mem_flatMap.mpr ⟨_, List.mem_map.mpr ⟨x, List.mem_of_mem_take hx, rfl⟩, hz⟩
theorem nm_ne {z : Str} (h : Nm z) : z ≠ Str.ofString "" := fun e => by
  have := (nm_bds h).1
  rw [e] at this
  exact absurd this (by decide +kernel)
section
variable {P : Program} {w : World} {K : PySem.W.Frag} {mg : Str → Option Value} {base : Heap}
abbrev nConsts : List Str := ["_law_facts_here", "_law_found", "_law_fact", "_law_term_here"]
theorem scConsts : FnScope nConsts ["_law_facts_here"] (defScope sLConst) := ⟨rfl, rfl, rfl, by decide +kernel, rfl, by decide +kernel, by decide +kernel⟩
theorem op_notInKK {X : Cx} {K : PySem.W.Frag} (e : X.K = K) : OpR X (compareOp .NotIn) (rIn K true) := by
  subst e
  exact op_notIn_seq
theorem ok_consts {f : Addr} {fd : FuncData} (F : Fun K "_law_constants" "_law_constants" sLConst f fd) (ms : mg "sorted" = none) : FnOk P w K mg base CX0 1 f fd ["_law_facts_here"] spConsts := by
  refine F.ok scConsts (fun vs H Q E h => ?_) (fun cdv A outer s H vs Q E hr h => ?_)
  · obtain ⟨q, Fs, rfl, _⟩ := h
    rfl
  · obtain ⟨q, Fs, rfl, hq, fs, few, u20, k⟩ := h
    refine ⟨_, pss_cons (ps_set (i := 1) scConsts.nd rfl (Or.inr rfl) (pe_lst pa_nil))
      (pss_cons (ps_for PassesOwn.never rfl (pi_list (pv 0)) (pg_name (i := 2) scConsts.nd rfl (Or.inl rfl))
        (pss_one (ps_set (i := 1) scConsts.nd rfl (Or.inr rfl) (pe_op op_cat (pv 1) (pe_lc (own := [("_law_term_here", 3)]) (g := gName 3) (tt := tB (tOp (rIn K true) (tVar 3) (tVar 1))) rfl scConsts.nd (pi_tup (pe_slice sl_tup (pv 2) (po_some pe_int) po_none))
          (blkOk_by (own := [("_law_term_here", 3)]) (N := nConsts) (sc := defScope sLConst) (by decide +kernel)) (fun _ _ _ _ _ => pg_name (i := 3) scConsts.nd rfl (Or.inl rfl)) (fun _ _ _ _ _ => pts_one (pt_cmpR (op_notInKK (K := K) rfl) (pv 3) (pv 1) (by rfl)))
          (fun _ _ _ _ _ => pv 3))))))
      (pss_one (ps_ret (pe_callB cr_sortedS (by rfl) ms (by decide +kernel) (pa_cons (pe_lc (own := [("_law_term_here", 3)]) (g := gName 3) (tt := tB (tOp rNe (tVar 3) (tC (.str (Str.ofString ""))))) rfl scConsts.nd (pi_list (pv 1))
          (blkOk_by (own := [("_law_term_here", 3)]) (N := nConsts) (sc := defScope sLConst) (by decide +kernel)) (fun _ _ _ _ _ => pg_name (i := 3) scConsts.nd rfl (Or.inl rfl)) (fun _ _ _ _ _ => pts_one (pt_cmpR op_ne (pv 3) pe_str (nomark _)))
          (fun _ _ _ _ _ => pv 3)) pa_nil))))), ?_⟩
    refine ⟨(by show 0 ≤ sizeLine; decide), fun D nD => ?_⟩
    have s0 : Same H (upd H D (.lst [])) := same_new nD
    have hD0 : (upd H D (.lst [])) D = some (.lst (([] : List Str).map V.str)) := upd_same
    generalize upd H D (.lst []) = H0 at s0 hD0 ⊢
    refine ⟨_, rfl, q, rfl, ⟨_, SqL.of (s0 _ _ hq)⟩, for_it (L2.walk_list (K := K)) (fun i σ H5 => ∃ (v2 v3 : Option V) (D : Addr) (ws : List Str), σ = [some (.ref q), some (.ref D), v2, v3] ∧ H5 D = some (.lst (ws.map V.str)) ∧ (∀ z, z ∈ ws ↔ z ∈ trms ((Fs.take i).map (·.2))) ∧ ws.length ≤ 3 * (uniq ws).length ∧ Same H H5)
      ⟨none, none, D, [], rfl, hD0, fun z => by simp [trms], Nat.zero_le _, s0⟩ (fun i σ H5 hi pp => let ⟨_, _, _, _, _, _, _, _, s5⟩ := pp; SqL.of (s5 _ _ hq)) (fun i z σ H5 H6 hi pp yy => ?_) (fun σ H5 pp => ?_)⟩
    · obtain ⟨v2, v3, D, ws, rfl, p1, p2, p3, p4⟩ := pp
      obtain ⟨rfl, hz⟩ := yy
      rw [List.getElem?_map] at hz
      obtain ⟨x, hx, rfl⟩ := Option.map_eq_some_iff.mp hz
      have mx := List.mem_of_getElem? hx
      have hx6 := p4 _ _ (fs.each x mx)
      refine ⟨_, rfl, _, rfl, _, rfl, x.1, ptV x, rfl, SqT.of hx6, cut_part _ _, fun t nt => ⟨t, rfl, ⟨_, SqT.of upd_same⟩, ?_⟩⟩
      unfold ptV
      rw [cut_one]
      have st : Same H6 (upd H6 t (.tup (x.2.2.map V.str))) := same_new nt
      have ht : (upd H6 t (.tup (x.2.2.map V.str))) t = some (.tup (x.2.2.map V.str)) := upd_same
      generalize upd H6 t (.tup (x.2.2.map V.str)) = H7 at st ht ⊢
      intro L nL
      refine lc_sift (ms := x.2.2) (val := V.str) (L2.walk_tup (K := K)) (List.length_map _) (fun z => !decide (z ∈ ws)) V.str nL (Nat.le_trans (fs.fct x mx).l3 (by decide)) (fun H' s' => SqT.of (s' _ _ ht)) (fun z hz H8 Yes No s8 yes no => ?_) (fun H' s' hL => ?_)
      · refine ⟨rfl, ?_⟩
        refine ⟨_, rfl, _, rfl, D, ws.map V.str, rfl, .inl (SqL.of (s8 _ _ (st _ _ p1))), rfl, flat_strs ws, _, rfl, ?_⟩
        rw [if_pos rfl, inV_strs]
        refine ite2 (fun e => ?_) (fun e => ?_)
        · exact ⟨_, rfl, yes _ (Same.refl _) (by simpa using e)⟩
        · exact no _ (Same.refl _) (by simpa using e)
      · have s7' := st.trans s'
        have lf : (x.2.2.filter fun z => !decide (z ∈ ws)).length ≤ 3 := Nat.le_trans (List.length_filter_le _ _) (fs.fct x mx).l3
        have new : ∀ z ∈ x.2.2.filter (fun z => !decide (z ∈ ws)), z ∉ ws := fun z hz => by simpa using (List.mem_filter.mp hz).2
        have mem : ∀ z, z ∈ ws ++ x.2.2.filter (fun z => !decide (z ∈ ws)) ↔ z ∈ trms ((Fs.take (i + 1)).map (·.2)) := fun z => by
          rw [trms_take hx, List.mem_append, List.mem_append, ← p2, List.mem_filter]
          constructor
          · rintro (h | ⟨h, _⟩)
            · exact .inl h
            · exact .inr h
          · intro h
            by_cases c : z ∈ ws
            · exact .inl c
            · exact .inr ⟨h.resolve_left c, by simpa using c⟩
        have gr := uniq_grow p3 lf new
        have u20' : (uniq (ws ++ x.2.2.filter fun z => !decide (z ∈ ws))).length ≤ 20 := Nat.le_trans (uniq_le_of fun z hz => trms_sub ((mem z).mp hz)) u20
        refine ⟨D, L, _, _, rfl, rfl, s7' _ _ p1, hL, ?_, fun r nr => ⟨_, _, r, ws ++ x.2.2.filter (fun z => !decide (z ∈ ws)), rfl, by rw [upd_same, List.map_append], mem, gr, fun b o h => same_new nr _ _ (s7' _ _ (p4 _ _ h))⟩⟩
        rw [List.length_map, List.length_map, sizeLine_eq]
        rw [List.length_append] at gr
        omega
    · obtain ⟨v2, v3, D, ws, rfl, p1, p2, p3, p4⟩ := pp
      rw [List.length_map, List.take_length] at p2
      have u20' : (uniq ws).length ≤ 20 := Nat.le_trans (uniq_le_of fun z hz => (p2 z).mp hz) u20
      have nmw : ∀ z ∈ ws, z ≠ Str.ofString "" := fun z hz => by
        have h := (p2 z).mp hz
        unfold trms at h
        obtain ⟨c, hc, hz⟩ := List.mem_flatMap.mp h
        obtain ⟨x, hx, rfl⟩ := List.mem_map.mp hc
        exact nm_ne ((fs.fct x hx).nz z hz)
      refine ⟨_, rfl, D, rfl, ⟨_, SqL.of p1⟩, fun L nL => ?_⟩
      refine lc_sift (ms := ws) (val := V.str) (L2.walk_list (K := K)) (List.length_map _) (fun _ => true) V.str nL (by omega) (fun H' s' => SqL.of (s' _ _ p1)) (fun z hz H8 Yes No s8 yes no => ?_) (fun H' s' hL => ?_)
      · refine ⟨rfl, _, rfl, rfl, _, rfl, ?_⟩
        rw [decide_eq_false fun h => nmw z hz (V.str.inj h)]
        exact iteT ⟨_, rfl, yes _ (Same.refl _) rfl⟩
      · rw [List.filter_eq_self.mpr (fun _ _ => rfl)] at hL
        refine ⟨L, ws, rfl, SqL.of hL, by omega, fun ys r pm so nr => ?_⟩
        have s1 := p4.trans s'
        refine k _ r ys (s1.trans (same_new nr)) (none_of8 s1 nr) upd_same (fun z => ?_) so (by rw [pm.length_eq]; omega)
        rw [pm.mem_iff, p2]
abbrev nOnce : List Str := ["_law_words", "_law_k"]
theorem scOnce : FnScope nOnce ["_law_words"] (defScope sLOnce) := ⟨rfl, rfl, rfl, by decide +kernel, rfl, by decide +kernel, by decide +kernel⟩
theorem sl_listK {X : Cx} {K : PySem.W.Frag} (e : X.K = K) : SlR X (rSlL K) := by
  subst e
  exact sl_list
theorem ok_once {f : Addr} {fd : FuncData} (F : Fun K "_law_once" "_law_once" sLOnce f fd) (mr : mg "range" = none) (ml : mg "len" = none) : FnOk P w K mg base CX0 1 f fd ["_law_words"] spOnce := by
  refine F.ok scOnce (fun vs H Q E h => ?_) (fun cdv A outer s H vs Q E hr h => ?_)
  · obtain ⟨q, ws, rfl, _⟩ := h
    rfl
  · obtain ⟨q, ws, rfl, hq, few, k⟩ := h
    refine ⟨_, pss_one (ps_ret (pe_lc (own := [("_law_k", 1)]) (g := gName 1) (tt := tB (tOp (rIn K true) (tOp (rIxL K) (tVar 0) (tVar 1)) (tSl (rSlL K) (tVar 0) tNoPart (tPart (tVar 1))))) rfl scOnce.nd (pi_range1 (by rfl) mr (pa_cons (pe_callB call_len_seq (by rfl) ml (by decide +kernel) (pa_cons (pv 0) pa_nil)) pa_nil))
          (blkOk_by (own := [("_law_k", 1)]) (N := nOnce) (sc := defScope sLOnce) (by decide +kernel)) (fun _ _ _ _ _ => pg_name (i := 1) scOnce.nd rfl (Or.inl rfl)) (fun _ _ _ _ _ => pts_one (pt_cmpR (op_notInKK (K := K) rfl) (pe_ix (ix_listK (K := K) rfl) (pv 0) (pv 1) (fun _ _ => rfl)) (pe_slice (sl_listK (K := K) rfl) (pv 0) po_none (po_some (pv 1))) (by rfl)))
          (fun _ _ _ _ _ => pe_ix (ix_listK (K := K) rfl) (pv 0) (pv 1) (fun _ _ => rfl)))), ?_⟩
    refine ⟨_, rfl, q, _, rfl, .inl (SqL.of hq), _, rfl, by rw [List.length_map]; omega, by rw [List.length_map]; omega, fun L nL => ?_⟩
    rw [List.length_map, Int.toNat_natCast]
    refine lc_it (L2.walk_range (lo := 0) (n := ws.length)) (fun i H5 => Same H H5 ∧ H5 L = some (.lst ((uniq (ws.take i)).map V.str))) ⟨same_new nL, upd_same⟩ (fun _ _ _ _ => trivial) (fun i z H5 H6 hi pp y => ?_) (fun H5 pp => ?_)
    · obtain ⟨rfl, rfl⟩ := y
      obtain ⟨p1, p2⟩ := pp
      obtain ⟨w0, hw0⟩ : ∃ w0, ws[i]? = some w0 := ⟨_, List.getElem?_eq_getElem hi⟩
      have at0 : ∀ {z : Int}, z = i → atI (ws.map V.str) z = some (V.str w0) := fun {z} e => by
        rw [e]
        refine atI_nat ?_
        rw [List.getElem?_map, hw0]
        rfl
      have tk : ws.take (i + 1) = ws.take i ++ [w0] := by
        rw [List.take_succ, hw0]
        rfl
      refine ⟨rfl, ?_⟩
      refine ⟨_, rfl, _, rfl, q, _, _, _, rfl, rfl, SqL.of (p1 _ _ hq), at0 (by omega), _, rfl, _, rfl, _, rfl, q, _, rfl, SqL.of (p1 _ _ hq), fun l nl => ?_⟩
      have sl : Same H6 (upd H6 l (.lst (cutV (ws.map V.str) none (some (0 + (i : Int)))))) := same_new nl
      have hl : (upd H6 l (.lst (cutV (ws.map V.str) none (some (0 + (i : Int)))))) l = some (.lst ((ws.take i).map V.str)) := by
        rw [upd_same, Int.zero_add, cutV_to', List.map_take]
      generalize upd H6 l (.lst (cutV (ws.map V.str) none (some (0 + (i : Int))))) = H7 at sl hl ⊢
      refine ⟨l, _, rfl, .inl (SqL.of hl), rfl, flat_strs _, _, rfl, ?_⟩
      rw [if_pos rfl, inV_strs]
      have p1' := p1.trans sl
      have p2' := sl _ _ p2
      refine ite2 (fun e => ?_) (fun e => ?_)
      · have out : w0 ∉ uniq (ws.take i) := fun h => by
          have := uniq_mem.mp h
          simp [this] at e
        refine ⟨_, rfl, _, rfl, q, _, _, _, rfl, rfl, SqL.of (p1' _ _ hq), at0 (by omega), _, p2', ?_, ?_, ?_⟩
        · have := uniq_len (ws.take i)
          rw [List.length_take] at this
          rw [List.length_map, sizeLine_eq]
          omega
        · intro b o h
          rw [upd_ne (ne_of_none h nL)]
          exact p1' _ _ h
        · rw [upd_same, tk, uniq_snoc]
          unfold put1
          rw [if_neg out, List.map_append]
          rfl
      · have inn : w0 ∈ uniq (ws.take i) := uniq_mem.mpr (by simpa using e)
        refine ⟨p1', ?_⟩
        rw [tk, uniq_snoc]
        unfold put1
        rw [if_pos inn]
        exact p2'
    · obtain ⟨p1, p2⟩ := pp
      rw [List.take_length] at p2
      exact k H5 L p1 nL p2
end
end L2.LawH
set_option Elab.async false
set_option linter.all false
set_option maxRecDepth 100000
set_option maxHeartbeats 4000000
/-! == of an own class, decided; Store's own ==. -/
namespace L2.OwnOp
open PySem PySem.Spec PyProof.Rows
section
variable {X : Cx} {n : Nat} {f : Addr} {fd : FuncData} {ps : List Str} {sp : Sp}
theorem looks_at {M : Model} {h : Heap} {q : Addr} {o : Obj} {t : Value} (e : h.get? q = some o) (c : o.cls = t) : PySem.W.Looks M h (typeOf (.ref q)) t := c ▸ (PySem.W.Looks.ld e).andThen .now
/-- how the right side of own == may stand -/
def RightOk (K : PySem.W.Frag) (C : Addr) (H : Hp) (y : V) : Prop := ∃ q, y = .ref q ∧ ((∃ dy gs, H q = some (.ins C dy gs)) ∨ ((∃ xs, SqL K H q xs) ∧ PySem.W.subIn K (.type "list") (.ref C) = some false) ∨ ((∃ xs, SqT K H q xs) ∧ PySem.W.subIn K (.type "tuple") (.ref C) = some false))
def rEqOwn (K : PySem.W.Frag) (C : Addr) (sp : Sp) : R2 := fun x y H Q => ∃ p dx fs, x = .ref p ∧ H p = some (.ins C dx fs) ∧ RightOk K C H y ∧ sp [.ref p, y] H (fun v H' => ∃ b, v = .bl b ∧ Q (.bl b) H') E0
theorem op_eqOwn {C : Addr} (F : FnOk X.prog X.w X.K X.mg X.base CX0 n f fd ps sp) (hb : Binds X.K fd ps []) (m : OwnM X C f "__eq__") (hr : Room n X.A) (hx : Passes CX0 X E0) : OpR X (compareOp .Eq) (rEqOwn X.K C sp) := by
  intro pins s σ H x y v u Q I rx ry hq
  obtain ⟨p, dx, fs, rfl, hp, ⟨q, rfl, right⟩, want⟩ := hq
  cases rx
  cases ry
  obtain ⟨_, J, _⟩ := ins_get I.hok hp
  obtain ⟨od, J, _⟩ := J.look
  obtain ⟨_, fr⟩ := I.fr
  have go : ∀ tb, PySem.W.Looks (model X.prog X.w) s.heap (typeOf (.ref q)) tb → PySem.W.notFirst X.K C tb = true → wpAny (model X.prog X.w) X.A (richCompare .Eq (.ref p) (.ref q)) (EP X pins σ Q) X.xe s := fun tb lk nf => by
    refine PySem.W.cmp_K hr.units0 fr I.mod.kin J lk nf m.fi m.fn (wpAny_mono (run_own (vs := [.ref p, .ref q]) F hb hx ⟨hr, rfl⟩ I (.cons rfl (.cons rfl .nil)) want) (fun r s' z => ?_) fun _ _ z => z)
    obtain ⟨v', H', I', rv, b, rfl, q⟩ := I.after z
    cases rv
    exact ⟨.bl b, H', I', rfl, q⟩
  rcases right with ⟨dy, gs, h⟩ | ⟨⟨xs, h⟩, nl⟩ | ⟨⟨xs, h⟩, nl⟩
  · obtain ⟨_, J2, _⟩ := ins_get I.hok h
    obtain ⟨od2, J2, _⟩ := J2.look
    exact go (.ref C) J2.type (by unfold PySem.W.notFirst; simp)
  · obtain ⟨its, r, p, z⟩ := I.list h
    obtain ⟨o, n, e, c1, c2, c3⟩ := p
    exact go (.type "list") (looks_at e (by first | exact c1 | rfl)) (by unfold PySem.W.notFirst; rw [nl]; simp)
  · obtain ⟨its, r, p, z⟩ := I.tuple h
    obtain ⟨o, e, c1, c2⟩ := id p
    exact go (.type "tuple") (looks_at e (by first | exact c1 | rfl)) (by unfold PySem.W.notFirst; rw [nl]; simp)
end
end L2.OwnOp
namespace L2.LawH
open PySem PySem.Spec PyProof.Rows L2.TxtSet TL L2.NSet PySem.W L2.OwnOp
/-- == of a Store with a Store, or with a list or a tuple -/
def spEqD (C : Addr) (K : PySem.W.Frag) : Sp := fun vs H Q _ => ∃ (a : Addr) (M : List Pt), StM C H a M ∧ ((∃ (b : Addr) (N : List Pt), vs = [.ref a, .ref b] ∧ StM C H b N ∧ ∀ H', Same H H' → Q (.bl (decide (M.map (·.2) = N.map (·.2)))) H') ∨
  ∃ y, vs = [.ref a, y] ∧ ∃ t, TyX K H y t ∧ PySem.W.kitOne K t (.ref C) = some false ∧ Q (.bl false) H)
theorem eqvAll_facts : ∀ a b : List Fc, PyData.eqvAll (a.map facD) (b.map facD) = decide (a = b)
  | [], [] => by simp [PyData.eqvAll]
  | [], _ :: _ => by simp [PyData.eqvAll]
  | _ :: _, [] => by simp [PyData.eqvAll]
  | x :: a, y :: b => by
    rw [List.map_cons, List.map_cons, PyData.eqvAll, eqvAll_facts a b, eqv_fact]
    by_cases h : x = y
    · subst h
      simp
    · simp [h]
theorem eqv_list (a b : List Fc) : PyData.eqv (.list (a.map facD)) (.list (b.map facD)) = decide (a = b) := by
  rw [PyData.eqv, eqvAll_facts]
theorem eqv_tup (a b : List Fc) : PyData.eqv (.tuple (a.map facD)) (.tuple (b.map facD)) = decide (a = b) := by
  rw [PyData.eqv, eqvAll_facts]
theorem sh_tup {cs : List Fc} (h : ∀ c ∈ cs, Fct c) : SeqAt.shaped (.tuple (cs.map facD)) = true := by
  unfold SeqAt.shaped
  rw [PyData.canLay0, lay_facts h, Bool.true_and, PyData.depth]
  have := depth_facts cs
  exact decide_eq_true (by omega)
theorem StM.dp {C : Addr} {K : PySem.W.Frag} {H : Hp} {a : Addr} {M : List Pt} (h : StM C H a M) {t : Addr} (ht : H t = some (.tup (M.map fun x => V.ref x.1))) : Dp K H (.ref t) (.tuple ((M.map (·.2)).map facD)) := .tup (SqT.of ht) (dp_facts h.each)
theorem StM.sh {C : Addr} {H : Hp} {a : Addr} {M : List Pt} (h : StM C H a M) : SeqAt.shaped (.tuple ((M.map (·.2)).map facD)) = true := sh_tup fun c hc => by
  obtain ⟨x, hx, rfl⟩ := List.mem_map.mp hc
  exact h.fct x hx
section
variable {P : Program} {w : World} {K : PySem.W.Frag} {mg : Str → Option Value} {base : Heap}
theorem call_isiK {X : Cx} {K : PySem.W.Frag} (e : X.K = K) : CallR X (.builtin "isinstance") (rIsi K) := by
  subst e
  exact call_isi
theorem or_isi {X : Cx} {K : PySem.W.Frag} {C : Addr} (e : X.K = K) (c : C8.InsC K C) : CallR X (.builtin "isinstance") (fun xs H Q => (∃ a dx fs, xs = [.ref a, .ref C] ∧ H a = some (.ins C dx fs) ∧ Q (.bl true) H) ∨ rIsi K xs H Q) := by
  subst e
  intro pins s σ H xs us Q I rv h
  rcases h with h | h
  · exact C8.call_isC c pins s σ H xs us Q I rv h
  · exact call_isi pins s σ H xs us Q I rv h
theorem ok_eqD {f C : Addr} {fd : FuncData} (F : Fun K "__eq__" "Store.__eq__" sEqS f fd) (T : StT K mg C) (c : C8.InsC K C) (mC : mg "Store" = some (.ref C)) (mi : mg "isinstance" = none) :
    FnOk P w K mg base CX0 3 f fd ["self", "other"] (spEqD C K) := by
  refine F.ok scEq (fun vs H Q E h => ?_) (fun cdv A outer s H vs Q E hr h => ?_)
  · obtain ⟨a, M, _, ⟨b, N, rfl, _⟩ | ⟨y, rfl, _⟩⟩ := h
    · rfl
    · rfl
  · obtain ⟨a, M, hM, h⟩ := h
    have hu := hr.units
    obtain ⟨dx, t, d, h1, h2, h3⟩ := hM.ex
    refine ⟨_, pss_one (ps_ret (pe_and (pe_callB (or_isi (K := K) rfl c) (by rfl) mi (by decide +kernel) (pa_cons (pv 1) (pa_cons (pe_glob (v := .ref C) (by rfl) mC rfl) pa_nil)))
      (pe_one (pe_cmpR (op_eqD hu) (pe_fld (pv 0) rfl) (pe_fld (pv 1) rfl) (nomark _))))), ?_⟩
    rcases h with ⟨b, N, rfl, hN, k⟩ | ⟨y, rfl, ty, hty, kit, k⟩
    · obtain ⟨dy, t', d', g1, g2, g3⟩ := hN.ex
      refine ⟨_, rfl, .inl ⟨b, dy, _, rfl, g1, true, rfl, iteT ?_⟩⟩
      refine ⟨_, rfl, a, C, dx, _, .ref t, rfl, h1, T.cl, T.nF, rfl, _, rfl, b, C, dy, _, .ref t', rfl, g1, T.cl, T.nF, rfl, ?_⟩
      refine ⟨.tuple ((M.map (·.2)).map facD), .tuple ((N.map (·.2)).map facD), hM.dp h2, hN.dp g2, hM.sh, hN.sh, ?_⟩
      rw [eqv_tup]
      exact k H (Same.refl _)
    · refine ⟨_, rfl, .inr ⟨y, .ref C, ty, .ref C, false, rfl, .own C, hty, kit, false, rfl, iteF k⟩⟩
end
end L2.LawH
set_option Elab.async false
set_option linter.all false
set_option maxRecDepth 100000
set_option maxHeartbeats 8000000
/-! _law_is. -/
namespace L2.LawH
open PySem PySem.Spec PyProof.Rows L2.TxtSet TL L2.NSet PySem.W L2.OwnOp L2.ClsCall
abbrev sLIs : Stmt := top 34
/-- a method of an own class, called by place -/
def OM (P : Program) (w : World) (K : PySem.W.Frag) (mg : Str → Option Value) (base : Heap) (C : Addr) (nm : Str) (k : Nat) (ps : List Str) (sp : Sp) : Prop :=
  ∃ f fd, FnOk P w K mg base CX0 k f fd ps sp ∧ Binds K fd ps [] ∧ PySem.W.findIn K (.ref C) nm = some (some (.ref f)) ∧ PySem.W.isFn K (.ref f) = true ∧ PySem.W.keepIn K (.ref f) = true
/-- a def of the top -/
def OF (P : Program) (w : World) (K : PySem.W.Frag) (mg : Str → Option Value) (base : Heap) (nm : Str) (k : Nat) (ps : List Str) (sp : Sp) : Prop :=
  ∃ f fd, FnOk P w K mg base CX0 k f fd ps sp ∧ PySem.W.keepIn K (.ref f) = true ∧ Binds K fd ps [] ∧ mg nm = some (.ref f)
/-- the class Store, with all its methods -/
structure StF (P : Program) (w : World) (K : PySem.W.Frag) (mg : Str → Option Value) (base : Heap) (C : Addr) : Prop where
  T : StT K mg C
  c : C8.InsC K C
  mC : mg "Store" = some (.ref C)
  sf : PySem.W.selfFirst K C = true
  no : PySem.W.findIn K (.ref C) "__ne__" = some (some (.builtin "object.__ne__"))
  I : ∃ fI fd, Mk K C fI ∧ FnOk P w K mg base CX0 5 fI fd ["self", "facts"] (spInitS C K) ∧ Binds K fd ["self", "facts"] []
  L : OM P w K mg base C "__len__" 1 ["self"] (spLenS C)
  It : ∃ f fd, FnIt P w K mg base 1 f fd C "_facts" ∧ Binds K fd ["self"] [] ∧ PySem.W.findIn K (.ref C) "__iter__" = some (some (.ref f)) ∧ PySem.W.isFn K (.ref f) = true
  H : OM P w K mg base C "__contains__" 5 ["self", "value"] (spHasS C K)
  E : OM P w K mg base C "__eq__" 3 ["self", "other"] (spEqD C K)
  N : OM P w K mg base C "__eq__" 3 ["self", "other"] (spEq (RS C))
  A : OM P w K mg base C "__add__" 7 ["self", "other"] (spAddS C K)
  S : OM P w K mg base C "__sub__" 7 ["self", "other"] (spSubS C K)
  W : OM P w K mg base C "within" 6 ["self", "other"] (spWithinS C K)
  K' : OM P w K mg base C "constants" 2 ["self"] (spConstS C)
  O : OM P w K mg base C "only" 7 ["self", "tables"] (spOnlyS C K)
  X : OM P w K mg base C "text" 2 ["self"] (spTextS C)
  F : ∃ p g fd, PropOf K C "facts" p g ∧ FnOk P w K mg base CX0 1 g fd ["self"] (getSp C "_facts") ∧ Binds K fd ["self"] []
  R : ∃ B mc p g fd, ClX.CRead K C mc ∧ ClX.CMet K C mc "read" p g ∧ FnOk P w K mg base (L2.CX P w) 7 g fd ["cls", "text"] (spReadS C B) ∧ Binds K fd ["cls", "text"] []
theorem pass_none {X : Cx} (σ : St) : PassesAt (L2.CX X.prog X.w) X σ E0 := fun pins H s e s' _ c => by
  obtain ⟨_, _, _, _, _, _, _, _, _, _, _, _, h⟩ := c
  exact h.elim
theorem uniq_sub : ∀ l : List Str, (uniq l).Sublist l := fun l => by
  induction h : l.length generalizing l with
  | zero =>
    rw [List.length_eq_zero_iff.mp h]
    exact List.Sublist.slnil
  | succ n ih =>
    rcases List.eq_nil_or_concat l with e | ⟨r, z, e⟩
    · rw [e] at h
      cases h
    · rw [List.concat_eq_append] at e
      subst e
      have lr : r.length = n := by rw [List.length_append] at h; have : [z].length = 1 := rfl; omega
      have q := ih r lr
      rw [uniq_snoc]
      unfold put1
      split
      · exact q.trans (List.sublist_append_left _ _)
      · exact q.append_right _
theorem asc_eq2 {l ws : List Str} (h : sortedS l = true) (h' : sortedS ws = true) (p : l.Perm (uniq ws)) : l = uniq ws := by
  refine List.Perm.eq_of_pairwise (fun a b _ _ x y => ?_) (asc_all h) (List.Pairwise.sublist (uniq_sub ws) (asc_all h')) p
  have e : a.cps.toList = b.cps.toList := List.le_antisymm x y
  cases a
  cases b
  exact congrArg Str.mk (Array.toList_inj.mp e)
def spIs (C : Addr) (K : PySem.W.Frag) : Sp := fun vs H Q _ => ∃ (s q : Addr) (M Gs : List Pt), vs = [.ref s, .ref q] ∧ StM C H s M ∧ H q = some (.lst (Gs.map fun x => V.ref x.1)) ∧ FsAt H Gs ∧ Gs.map (·.2) = M.map (·.2) ∧ M.length ≤ 16 ∧ (uniq (trms (M.map (·.2)))).length ≤ 20 ∧
  ∀ H', Same H H' → Q (.bl true) H'
section
variable {P : Program} {w : World} {K : PySem.W.Frag} {mg : Str → Option Value} {base : Heap}
theorem ix_tupK {X : Cx} {K : PySem.W.Frag} (e : X.K = K) : IxR X (rIxT K) := by
  subst e
  exact ix_tup
/-- Store(..) made, the wish by its place -/
theorem make_fctsA {C : Addr} {K : PySem.W.Frag} {H HL : Hp} {L : Addr} {xs : List Pt} {Q : Addr → Hp → Prop} (s : Same H HL) (f : FsAt HL xs) (few : xs.length ≤ 40) (hq : SqL K HL L (xs.map fun x => V.ref x.1) ∨ SqT K HL L (xs.map fun x => V.ref x.1))
    (k : ∀ (H' : Hp) (r : Addr) (R : List Pt), Same H H' → Same HL H' → HL r = none → StM C H' r R → (∀ c, c ∈ R.map (·.2) ↔ c ∈ xs.map (·.2)) → Q r H') (x dx : Addr) (nx : HL x = none) (ndx : HL dx = none) (ne : dx ≠ x) :
    spInitS C K [.ref x, .ref L] (upd (upd HL dx (.own x)) x (.ins C dx [])) (fun v H' => v = .non ∧ Q x H') E0 := by
  have sU : Same HL (upd (upd HL dx (.own x)) x (.ins C dx [])) := fun b o h => by
    rw [upd_ne (ne_of_none h nx), upd_ne (ne_of_none h ndx)]
    exact h
  refine init_fcts upd_same (hq.imp (fun h => h.ext sU) fun h => h.ext sU) (f.same sU) few fun H' M keep st mem => ⟨rfl, ?_⟩
  have s2 : Same HL H' := fun b o h => keep _ _ (ne_of_none h nx) (sU _ _ h)
  exact k H' x M (fun b o h => s2 _ _ (s _ _ h)) s2 nx st mem
/-- the fact that is asked besides -/
def othF : Fc := (Str.ofString "zz9", [Str.ofString "q"])
abbrev nIs : List Str := ["_law_store", "_law_facts_here", "_law_fact", "_law_other", "_law_row"]
theorem scIs : FnScope nIs ["_law_store", "_law_facts_here"] (defScope sLIs) := ⟨rfl, rfl, rfl, by decide +kernel, rfl, by decide +kernel, by decide +kernel⟩
theorem ok_is {f C : Addr} {fd : FuncData} (F : Fun K "_law_is" "_law_is" sLIs f fd) (Z : StF P w K mg base C)
    (Co : OF P w K mg base "_law_constants" 1 ["_law_facts_here"] spConsts) (Ou : OF P w K mg base "_law_once" 1 ["_law_words"] spOnce)
    (mt : mg "tuple" = none) (ml : mg "len" = none) :
    FnOk P w K mg base CX0 8 f fd ["_law_store", "_law_facts_here"] (spIs C K) := by
  obtain ⟨T, c, mC, sf, no, ⟨fI, fdI, MI, GI, bI⟩, ⟨fL, fdL, GL, bL, iL, nL, kL⟩, ⟨fY, fdY, GY, bY, iY, nY⟩, ⟨fH, fdH, GH, bH, iH, nH, kH⟩, ⟨fE, fdE, GE, bE, iE, nE, kE⟩, ⟨fN, fdN, GN, bN, iN, nN, kN⟩, ⟨fA, fdA, GA, bA, iA, nA, kA⟩, ⟨fS, fdS, GS, bS, iS, nS, kS⟩,
    ⟨fW, fdW, GW, bW, iW, nW, kW⟩, ⟨fK, fdK, GK, bK, iK, nK, kK⟩, ⟨fO, fdO, GO, bO, iO, nO, kO⟩, ⟨fX, fdX, GX, bX, iX, nX, kX⟩, ⟨pF, gF, fdF, PF, GF, bF⟩, ⟨B, mc, pR, gR, fdR, cr, cm, GR, bR⟩⟩ := Z
  obtain ⟨fCo, fdCo, GCo, kCo, bCo, mCo⟩ := Co
  obtain ⟨fOu, fdOu, GOu, kOu, bOu, mOu⟩ := Ou
  refine F.ok scIs (fun vs H Q E h => ?_) (fun cdv A outer s H vs Q E hr h => ?_)
  · obtain ⟨s, q, M, Gs, rfl, _⟩ := h
    rfl
  · obtain ⟨st, q, M, Gs, rfl, hM, hq, fs, eq, few, u20, k⟩ := h
    have hu := hr.units
    have hu5 : (A.deeper (envOfC "_law_is" (defScope sLIs) s.heap.objs.size f cdv)).units + 65 < cLine := by have := hr.un; omega
    have hr1 : Room 1 _ := hr.mono (by decide)
    have hr2 : Room 2 _ := hr.mono (by decide)
    have hr3 : Room 3 _ := hr.mono (by decide)
    have hr4 : Room 4 _ := hr.mono (by decide)
    have hr5 : Room 5 _ := hr.mono (by decide)
    have hr6 : Room 6 _ := hr.mono (by decide)
    have mO : mroIn K C (.type "object") = some true := c.hm
    refine ⟨_, pss_cons (ps_if (PW.pt (pw_or (pt_cmpR (op_neD hu) (pe_prop (pv 0) c.cl PF GF hr2 bF .nil pass0 rfl) (pe_callTy call_tuple_of (by rfl) mt (by decide +kernel) (pa_cons (pv 1) pa_nil)) (nomark _))
          (pw_or (pt_cmpR op_ne (pe_callB (call_lenOwn GL bL ⟨iL, nL⟩ hr2 pass0) (by rfl) ml (by decide +kernel) (pa_cons (pv 0) pa_nil)) (pe_callB call_len_seq (by rfl) ml (by decide +kernel) (pa_cons (pv 1) pa_nil)) (nomark _))
          (pw_or1 (pt_cmpR (op_neD hu) (pe_lc (own := [("_law_fact", 2)]) (g := gName 2) (tt := tYes) rfl scIs.nd (pi_own GY bY ⟨iY, nY⟩ hr1 (pv 0)) (blkOk_by (own := [("_law_fact", 2)]) (N := nIs) (sc := defScope sLIs) (by decide +kernel))
            (fun _ _ _ _ _ => pg_name (i := 2) scIs.nd rfl (Or.inl rfl)) (fun _ _ _ _ _ => pts_nil) (fun _ _ _ _ _ => pv 2)) (pv 1) (nomark _)))))) (pss_one (ps_ret pe_bl)) pss_nil)
      (pss_cons (ps_set (i := 3) scIs.nd rfl (Or.inl rfl) (pe_tup (pa_cons pe_str (pa_cons pe_str pa_nil))))
      (pss_cons (ps_if (PW.pt (pw_or (pt_cmpR (op_neD hu) (pe_lc (own := [("_law_fact", 2)]) (g := gName 2) (tt := tB (tOp (rNotInOwn C (spHasS C K)) (tVar 2) (tVar 0))) rfl scIs.nd (pi_list (pv 1)) (blkOk_by (own := [("_law_fact", 2)]) (N := nIs) (sc := defScope sLIs) (by decide +kernel))
            (fun _ _ _ _ _ => pg_name (i := 2) scIs.nd rfl (Or.inl rfl)) (fun _ _ _ _ _ => pts_one (pt_cmpR (op_notInOwn (C := C) GH bH ⟨iH, nH⟩ hr5 pass0) (pv 2) (pv 0) (by rfl))) (fun _ _ _ _ _ => pv 2)) (pe_lst pa_nil) (nomark _))
          (pw_or1 (pt_cmpR op_ne (pe_cmpR (op_inOwn (C := C) GH bH ⟨iH, nH⟩ hr5 pass0) (pv 3) (pv 0) (by rfl)) (pe_cmpR (op_inD hu5) (pv 3) (pv 1) (by rfl)) (nomark _))))) (pss_one (ps_ret pe_bl)) pss_nil)
      (pss_cons (ps_if (PW.pt (pw_or (pt_not (pt_val (pe_meth (pv 0) c.cl ⟨iW, nW, kW⟩ GW hr6 bW .nil pass0 (pa_cons (pe_op (op_binOwn (C := C) (op := .Add) GA bA ⟨iA, nA⟩ sf hr pass0) (pv 0) (pe_make MI GI hr6 (by rfl) mC bI .nil pass0 (pa_cons (pe_lst (pa_cons (pv 3) pa_nil)) pa_nil))) pa_nil))))
          (pw_or1 (pt_cmpR op_ne (pe_callB (call_lenOwn GL bL ⟨iL, nL⟩ hr2 pass0) (by rfl) ml (by decide +kernel) (pa_cons (pe_meth (pv 0) c.cl ⟨iO, nO, kO⟩ GO hr bO .nil pass0
              (pa_cons (pe_lc (own := [("_law_row", 4)]) (g := gName 4) (tt := tYes) rfl scIs.nd (pi_list (pv 1)) (blkOk_by (own := [("_law_row", 4)]) (N := nIs) (sc := defScope sLIs) (by decide +kernel)) (fun _ _ _ _ _ => pg_name (i := 4) scIs.nd rfl (Or.inl rfl)) (fun _ _ _ _ _ => pts_nil)
                (fun _ _ _ _ _ => pe_ix (ix_tupK (K := K) rfl) (pv 4) pe_int (fun _ _ => rfl))) pa_nil)) pa_nil)) (pe_callB call_len_seq (by rfl) ml (by decide +kernel) (pa_cons (pv 1) pa_nil)) (nomark _))))) (pss_one (ps_ret pe_bl)) pss_nil)
      (pss_cons (ps_if (pt_cmpR (op_neG (ncG_ins GN mO no iN nN bN pass0) hr4) (pe_cmethS (E := fun _ => E0) (pe_glob (v := .ref C) (by rfl) mC rfl) cr cm GR hr bR (fun σ => pass_none σ) (pa_cons (pe_meth0 (pv 0) c.cl ⟨iX, nX, kX⟩ GX hr2 bX .nil pass0) pa_nil)) (pv 0) (nomark _)) (pss_one (ps_ret pe_bl)) pss_nil)
      (pss_one (ps_ret (pe_and (pe_cmpR (op_eqD hu) (pe_meth0 (pv 0) c.cl ⟨iK, nK, kK⟩ GK hr2 bK .nil pass0) (pe_call GOu hr1 (by rfl) mOu kOu bOu .nil pass0 (pa_cons (pe_call GCo hr1 (by rfl) mCo kCo bCo .nil pass0 (pa_cons (pv 1) pa_nil)) pa_nil)) (nomark _))
        (pe_one (pe_cmpR (op_eqOwn (C := C) GE bE ⟨iE, nE⟩ hr3 pass0) (pv 0) (pe_make MI GI hr6 (by rfl) mC bI .nil pass0 (pa_cons (pe_revL (pv 1)) pa_nil)) (nomark _)))))))))), ?_⟩
    obtain ⟨dx, t, d, h1, h2, h3⟩ := hM.ex
    have lG : Gs.length = M.length := by
      have := congrArg List.length eq
      rw [List.length_map, List.length_map] at this
      exact this
    refine ⟨_, rfl, st, dx, _, rfl, h1, st, dx, _, .ref t, rfl, h1, rfl, ?_⟩
    refine ⟨_, rfl, q, _, rfl, .inl ⟨SqL.of hq, fun u nu => ?_⟩⟩
    have s1 : Same H (upd H u (.tup (Gs.map fun x => V.ref x.1))) := same_new nu
    have hu1 : (upd H u (.tup (Gs.map fun x => V.ref x.1))) u = some (.tup (Gs.map fun x => V.ref x.1)) := upd_same
    generalize upd H u (.tup (Gs.map fun x => V.ref x.1)) = H1 at s1 hu1 ⊢
    have fG : ∀ {H'}, Same H H' → FsAt H' Gs := fun s' => fs.same s'
    have shG : SeqAt.shaped (.tuple ((Gs.map (·.2)).map facD)) = true := by rw [eq]; exact hM.sh
    have lsG : SeqAt.shaped (.list ((Gs.map (·.2)).map facD)) = true := sh_refs fs
    refine ⟨.tuple ((M.map (·.2)).map facD), .tuple ((Gs.map (·.2)).map facD), (hM.same s1).dp (s1 _ _ h2), .tup (SqT.of hu1) (dp_facts (fG s1).each), hM.sh, shG, _, rfl, ?_⟩
    rw [eqv_tup, decide_eq_true eq.symm]
    refine iteF ?_
    refine ⟨_, rfl, st, dx, _, rfl, s1 _ _ h1, st, M, rfl, hM.same s1, M.length, rfl, by omega, ?_⟩
    refine ⟨_, rfl, q, _, rfl, .inl (SqL.of (s1 _ _ hq)), rfl, _, rfl, ?_⟩
    rw [List.length_map, lG, decide_eq_true rfl]
    refine iteF ?_
    refine ⟨_, rfl, st, dx, _, t, M.map (fun x => V.ref x.1), rfl, s1 _ _ h1, rfl, SqT.of (s1 _ _ h2), fun L nL => ?_⟩
    refine lc_sift (ms := M) (val := fun x => V.ref x.1) (L2.walk_tup (K := K)) (List.length_map _) (fun _ => true) (fun x => V.ref x.1) nL (by omega) (fun H' s' => SqT.of (s' _ _ (s1 _ _ h2))) (fun x hx H5 Yes No s5 yes no => ?_) (fun H2 s12 hL => ?_)
    · refine ⟨rfl, ?_⟩
      dsimp only [tYes]
      rw [if_pos rfl]
      exact ⟨_, rfl, yes _ (Same.refl _) rfl⟩
    rw [List.filter_eq_self.mpr (fun _ _ => rfl)] at hL
    have s2 := s1.trans s12
    refine ⟨_, rfl, .list ((M.map (·.2)).map facD), .list ((Gs.map (·.2)).map facD), .lst (SqL.of hL) (dp_facts (hM.same s2).each), .lst (SqL.of (s2 _ _ hq)) (dp_facts (fG s2).each), ?_, lsG, _, rfl, ?_⟩
    · rw [← eq]
      exact lsG
    rw [eqv_list, decide_eq_true eq.symm]
    refine iteF ?_
    -- another fact
    refine ⟨(by show 2 ≤ sizeLine; rw [sizeLine_eq]; decide), fun o no => ?_⟩
    have s23 : Same H2 (upd H2 o (.tup [.str (Str.ofString "zz9"), .str (Str.ofString "q")])) := same_new no
    have ho : (upd H2 o (.tup [.str (Str.ofString "zz9"), .str (Str.ofString "q")])) o = some (.tup (ptV (o, othF))) := upd_same
    have s3 := s2.trans s23
    generalize upd H2 o (.tup [.str (Str.ofString "zz9"), .str (Str.ofString "q")]) = H3 at s3 ho ⊢
    clear s23
    have fo : Fct othF := ⟨by unfold Nm; decide +kernel, by decide, fun z hz => by
      rw [List.mem_singleton.mp hz]
      unfold Nm
      decide +kernel⟩
    refine ⟨_, rfl, q, rfl, ⟨_, SqL.of (s3 _ _ hq)⟩, fun Lx nLx => ?_⟩
    refine lc_sift (ms := Gs) (val := fun x => V.ref x.1) (L2.walk_list (K := K)) (List.length_map _) (fun x => !decide (x.2 ∈ M.map (·.2))) (fun x => V.ref x.1) nLx (by omega) (fun H' s' => SqL.of (s' _ _ (s3 _ _ hq))) (fun x hx H5 Yes No s5 yes no => ?_) (fun H4 s34 hLx => ?_)
    · refine ⟨rfl, ?_⟩
      have s05 := s3.trans s5
      refine ⟨_, rfl, _, rfl, st, dx, _, rfl, s05 _ _ h1, st, M, _, some (ptV x), rfl, hM.same s05, ask_fact ((fG s05).each x hx) (fs.fct x hx), fun H6 s6 => ⟨_, rfl, _, rfl, ?_⟩⟩
      rw [has_fact]
      refine ite2 (fun e => ?_) (fun e => ?_)
      · exact ⟨_, rfl, yes _ s6 e⟩
      · exact no _ s6 (by simpa using e)
    have s4 := s3.trans s34
    have e0 : Gs.filter (fun x => !decide (x.2 ∈ M.map (·.2))) = [] := List.filter_eq_nil_iff.mpr fun x hx => by
      have : x.2 ∈ M.map (·.2) := by rw [← eq]; exact List.mem_map.mpr ⟨x, hx, rfl⟩
      simp [this]
    rw [e0] at hLx
    refine ⟨(by show 0 ≤ sizeLine; decide), fun e1 ne1 => ?_⟩
    have s45 : Same H4 (upd H4 e1 (.lst [])) := same_new ne1
    have he1 : (upd H4 e1 (.lst [])) e1 = some (.lst []) := upd_same
    have hLx' := s45 _ _ hLx
    have s5 := s4.trans s45
    have ho5 := s45 _ _ (s34 _ _ ho)
    generalize upd H4 e1 (.lst []) = H5 at s5 he1 hLx' ho5 ⊢
    clear s45
    refine ⟨.list [], .list [], .lst (SqL.of hLx') .nil, .lst (SqL.of he1) .nil, by decide +kernel, by decide +kernel, _, rfl, ?_⟩
    rw [show PyData.eqv (.list []) (.list []) = true from by simp [PyData.eqv, PyData.eqvAll]]
    refine iteF ?_
    refine ⟨_, rfl, _, rfl, st, dx, _, rfl, s5 _ _ h1, st, M, _, some (ptV (o, othF)), rfl, hM.same s5, ask_fact (x := (o, othF)) ho5 fo, fun H6 s56 => ⟨_, rfl, ?_⟩⟩
    have s6 := s5.trans s56
    refine ⟨_, rfl, _, rfl, facD othF, _, dp_fact (c := othF) (s56 _ _ ho5), .lst (SqL.of (s6 _ _ hq)) (dp_facts (fG s6).each), shaped_fact fo, lsG, ?_⟩
    rw [any_fact, has_fact, eq]
    refine ⟨rfl, _, rfl, ?_⟩
    rw [decide_eq_true rfl]
    refine iteF ?_
    -- within
    have ho6 := s56 _ _ ho5
    clear ho5 hLx' he1 s56 s5 s4 s34
    refine ⟨_, rfl, st, dx, _, rfl, s6 _ _ h1, rfl, _, rfl, _, rfl, (by show 1 ≤ sizeLine; rw [sizeLine_eq]; decide), fun l nl => ?_⟩
    have s67 : Same H6 (upd H6 l (.lst [.ref o])) := same_new nl
    have hl : (upd H6 l (.lst [.ref o])) l = some (.lst ([((o, othF) : Pt)].map fun x => V.ref x.1)) := upd_same
    have ho7 := s67 _ _ ho6
    have s7 := s6.trans s67
    generalize upd H6 l (.lst [.ref o]) = H7 at hl ho7 s7 ⊢
    clear s67
    dsimp only [tNil, List.cons_append, List.nil_append]
    refine make_fctsA (xs := [((o, othF) : Pt)]) s7 ⟨fun x hx => by rw [List.mem_singleton.mp hx]; exact ho7, fun x hx => by rw [List.mem_singleton.mp hx]; exact fo⟩ (show 1 ≤ 40 by decide) (.inl (SqL.of hl)) fun H8 r R s8 _ _ sR mem => ?_
    obtain ⟨dxR, tR, dR, hr1', _, _⟩ := sR.ex
    have lR : R.length ≤ 1 := by
      have := nodup_len (R.map (·.2)) [othF] sR.asc.nodup fun c hc => (mem c).mp hc
      rw [List.length_map] at this
      exact this
    refine ⟨st, dx, _, r, dxR, _, rfl, rfl, s8 _ _ h1, hr1', st, r, M, R, rfl, hM.same s8, sR, by omega, fun H9 r2 R2 s89 _ sR2 mem2 => ⟨r2, rfl, ?_⟩⟩
    have s9 := s8.trans s89
    refine ⟨st, r2, M, R2, rfl, hM.same s9, sR2, fun H10 s910 => ?_⟩
    have s10 := s9.trans s910
    rw [show (M.all fun x => decide (x.2 ∈ R2.map (·.2))) = true from List.all_eq_true.mpr fun x hx => decide_eq_true ((mem2 x.2).mpr (.inl (List.mem_map.mpr ⟨x, hx, rfl⟩)))]
    refine ⟨true, rfl, iteF ?_⟩
    -- only
    refine ⟨_, rfl, st, dx, _, rfl, s10 _ _ h1, rfl, _, rfl, q, rfl, ⟨_, SqL.of (s10 _ _ hq)⟩, fun Lr nLr => ?_⟩
    refine lc_sift (ms := Gs) (val := fun x => V.ref x.1) (L2.walk_list (K := K)) (List.length_map _) (fun _ => true) (fun x => V.str x.2.1) nLr (by omega) (fun H' s' => SqL.of (s' _ _ (s10 _ _ hq))) (fun x hx H5 Yes No s5 yes no => ?_) (fun H11 s1011 hLr => ?_)
    · refine ⟨rfl, ?_⟩
      dsimp only [tYes]
      rw [if_pos rfl]
      exact ⟨_, rfl, x.1, ptV x, 0, .str x.2.1, rfl, rfl, SqT.of (s5 _ _ ((fG s10).each x hx)), atI_nat (j := 0) rfl, yes _ (Same.refl _) rfl⟩
    rw [List.filter_eq_self.mpr (fun _ _ => rfl)] at hLr
    have s11 := s10.trans s1011
    have eLr : (Gs.map fun x => V.str x.2.1) = (Gs.map fun x => x.2.1).map V.str := by rw [List.map_map]; rfl
    rw [eLr] at hLr
    refine ⟨st, Lr, M, Gs.map (fun x => x.2.1), rfl, hM.same s11, .inl (SqL.of hLr), fun H12 r3 R3 s12 _ sR3 mem3 => ?_⟩
    have s012 := s11.trans s12
    obtain ⟨dx3, t3, d3, hr3', _, _⟩ := sR3.ex
    have e3 : R3.map (·.2) = M.map (·.2) := asc_one sR3.asc hM.asc fun c => by
      rw [mem3]
      refine ⟨fun h => h.1, fun h => ⟨h, ?_⟩⟩
      rw [← eq] at h
      obtain ⟨x, hx, rfl⟩ := List.mem_map.mp h
      exact List.mem_map.mpr ⟨x, hx, rfl⟩
    have l3 : R3.length = M.length := by
      have := congrArg List.length e3
      rw [List.length_map, List.length_map] at this
      exact this
    refine ⟨r3, dx3, _, rfl, hr3', r3, R3, rfl, sR3, R3.length, rfl, by omega, ?_⟩
    refine ⟨_, rfl, q, _, rfl, .inl (SqL.of (s012 _ _ hq)), rfl, _, rfl, ?_⟩
    rw [List.length_map, lG, l3, decide_eq_true rfl]
    refine iteF ?_
    -- read
    have txt : linesS M = txts (M.map (·.2)) := by
      unfold linesS txts
      rw [List.map_map]
      rfl
    have fcs : ∀ c ∈ M.map (·.2), Fct c := fun c hc => by
      obtain ⟨x, hx, rfl⟩ := List.mem_map.mp hc
      exact hM.fct x hx
    refine ⟨rfl, _, rfl, st, dx, _, rfl, s012 _ _ h1, rfl, st, M, rfl, (hM.same s012).at, by omega, fun x hx => (hM.fct x hx).fact, fun H13 s13 => ?_⟩
    have s013 := s012.trans s13
    have gl : go (lns (Txt.join nlS (linesS M))) [] 1 = .inr (M.map (·.2)) := by
      rw [txt]
      exact go_lines fcs hM.asc
    have jb := join_bd (zs := linesS M) (lines_bd fun x hx => (hM.fct x hx).fact)
    have ll : (linesS M).length = M.length := List.length_map _
    refine ⟨Txt.join nlS (linesS M), rfl, ⟨by omega, fun ch hc => ?_⟩, ?_, fun n g => ?_, fun cs g H14 r4 R4 s14 _ at4 mem4 nd4 rise4 => ?_⟩
    · rw [join_eq, tl_join, tl_nl, txt] at hc
      refine joinL_signs (q := fun x => x < 0x110000) (by decide) _ (fun p hp c hc => ?_) ch hc
      obtain ⟨z, hz, rfl⟩ := List.mem_map.mp hp
      obtain ⟨c0, hc0, rfl⟩ := List.mem_map.mp hz
      exact ((fcs c0 hc0).signs c hc).2
    · rw [txt, lns_txts fcs]
      unfold txts
      rw [List.length_map, List.length_map]
      omega
    · rw [gl] at g
      cases g
    rw [gl] at g
    have ecs : M.map (·.2) = cs := Sum.inr.inj g
    have s014 := s013.trans s14
    have e4 : R4.map (·.2) = M.map (·.2) := asc_one (asc_riseM nd4 rise4) hM.asc fun c => by rw [mem4, ecs]
    obtain ⟨dx4, t4, d4, q41, q42, q43⟩ := id at4
    refine ⟨_, rfl, ⟨r4, st, dx4, dx, _, _, rfl, rfl, q41, s014 _ _ h1, R4, M, at4, (hM.same s014).at, e4⟩, fun H15 s15 => ⟨_, rfl, ?_⟩⟩
    have s015 := s014.trans s15
    refine iteF ?_
    -- constants
    refine ⟨_, rfl, st, dx, _, rfl, s015 _ _ h1, rfl, st, M, rfl, hM.same s015, Nat.le_trans u20 (by decide), fun ys p H16 s16 _ pm so hp => ?_⟩
    have s016 := s015.trans s16
    refine ⟨_, rfl, q, Gs, rfl, s016 _ _ hq, fG s016, by omega, by rw [eq]; exact u20, fun H17 t2 ws s17 _ ht2 memw sow lw => ?_⟩
    have s017 := s016.trans s17
    refine ⟨t2, ws, rfl, ht2, lw, fun H18 t3 s18 _ ht3 => ?_⟩
    have s018 := s017.trans s18
    have nmT : ∀ z ∈ trms (M.map (·.2)), Nm z := fun z hz => by
      unfold trms at hz
      obtain ⟨c, hc, hz⟩ := List.mem_flatMap.mp hz
      exact (fcs c hc).nz z hz
    have my : ∀ z ∈ ys, Nm z := fun z hz => nmT z (uniq_mem.mp (pm.mem_iff.mp hz))
    rw [eq] at memw
    have mw : ∀ z ∈ uniq ws, Nm z := fun z hz => nmT z ((memw z).mp (uniq_mem.mp hz))
    have eys : ys = uniq ws := by
      refine asc_eq2 so sow (pm.trans ((List.perm_ext_iff_of_nodup (uniq_nodup _) (uniq_nodup _)).mpr fun z => ?_))
      rw [uniq_mem, uniq_mem, memw]
    refine ⟨.list (ys.map PyData.str), .list ((uniq ws).map PyData.str), .lst (SqL.of (s18 _ _ (s17 _ _ hp))) (dp_texts ys), .lst (SqL.of ht3) (dp_texts _), shaped_strs fun z hz => (my z hz).strOk, shaped_strs fun z hz => (mw z hz).strOk, ?_⟩
    rw [← eys, show PyData.eqv (.list (ys.map PyData.str)) (.list (ys.map PyData.str)) = true from by rw [PyData.eqv, eqvAll_texts]; exact decide_eq_true rfl]
    refine ⟨_, rfl, iteT ?_⟩
    -- the same again
    refine ⟨_, rfl, _, rfl, q, _, rfl, SqL.of (s018 _ _ hq), fun lr nlr => ?_⟩
    have s1819 : Same H18 (upd H18 lr (.lst (Gs.map (fun x => V.ref x.1)).reverse)) := same_new nlr
    have hlr : (upd H18 lr (.lst (Gs.map (fun x => V.ref x.1)).reverse)) lr = some (.lst (Gs.reverse.map fun x => V.ref x.1)) := by
      rw [upd_same, List.map_reverse]
    have s019 := s018.trans s1819
    generalize upd H18 lr (.lst (Gs.map (fun x => V.ref x.1)).reverse) = H19 at hlr s019 ⊢
    clear s1819
    dsimp only [tNil, List.cons_append, List.nil_append]
    refine make_fctsA (xs := Gs.reverse) s019 ⟨fun x hx => (fG s019).each x (List.mem_reverse.mp hx), fun x hx => fs.fct x (List.mem_reverse.mp hx)⟩ (by rw [List.length_reverse]; omega) (.inl (SqL.of hlr)) fun H20 r5 R5 s20 _ _ sR5 mem5 => ?_
    obtain ⟨dx5, t5, d5, q51, _, _⟩ := sR5.ex
    have e5 : M.map (·.2) = R5.map (·.2) := asc_one hM.asc sR5.asc fun c => by
      rw [mem5, List.map_reverse, List.mem_reverse, eq]
    refine ⟨st, dx, _, rfl, s20 _ _ h1, ⟨r5, rfl, .inl ⟨dx5, _, q51⟩⟩, st, M, hM.same s20, .inl ⟨r5, R5, rfl, sR5, fun H21 s21 => ⟨_, rfl, ?_⟩⟩⟩
    rw [decide_eq_true e5]
    exact k _ (s20.trans s21)
end
end L2.LawH
set_option Elab.async false
set_option linter.all false
set_option maxRecDepth 100000
set_option maxHeartbeats 4000000
/-! Texts of right patterns; _law_texts. -/
namespace L2.LawH
open PySem PySem.Spec PyProof.Rows L2.Cmp L2.TxtSet TL
/-- a right pattern -/
structure PatG (T : Str) (zs : List Str) : Prop where
  nT : Nm T
  few : zs.length ≤ 3
  each : ∀ z ∈ zs, Nm z ∨ Vr z
theorem sgn_ne21 {c : Nat} (h : isSgn c = true) : c ≠ 40 ∧ c ≠ 44 ∧ c ≠ 63 ∧ c < 128 := by
  unfold isSgn isLet at h
  simp only [Bool.or_eq_true, Bool.and_eq_true, decide_eq_true_eq] at h
  omega
theorem chr_nm21 {z : Str} (h : Nm z) : ∀ c ∈ tl z, isSgn c = true := fun c hc => List.all_eq_true.mp (nm_sgns h).1 c hc
theorem tl_q : tl (Str.ofString "?") = [63] := by decide +kernel
theorem chr_tm {z : Str} (h : Nm z ∨ Vr z) : ∀ c ∈ tl z, c ≠ 40 ∧ c ≠ 44 ∧ c < 128 := by
  intro c hc
  rcases h with h | ⟨y, ny, rfl⟩
  · have := sgn_ne21 (chr_nm21 h c hc)
    exact ⟨this.1, this.2.1, this.2.2.2⟩
  · rw [tl_append, tl_q] at hc
    rcases List.mem_append.mp hc with hc | hc
    · rw [List.mem_singleton.mp hc]
      decide
    · have := sgn_ne21 (chr_nm21 ny c hc)
      exact ⟨this.1, this.2.1, this.2.2.2⟩
theorem isV_q (y : Str) : isV (Str.ofString "?" ++ y) = true := by
  rw [← first_sign, decide_eq_true_iff]
  refine ext_tl ?_
  have e := cut_to (Str.ofString "?" ++ y) 1
  rw [show (some ((1 : Nat) : Int)) = some (1 : Int) from rfl] at e
  rw [e, tl_append, tl_q]
  rfl
theorem varB_vr {z : Str} (h : Vr z) : varB z = true := by
  obtain ⟨y, ny, rfl⟩ := h
  unfold varB
  rw [isV_q, Bool.true_and]
  have e : (Str.ofString "?" ++ y).cps.toList.drop 1 = tl y := by
    rw [show (Str.ofString "?" ++ y).cps.toList = tl (Str.ofString "?" ++ y) from rfl, tl_append, tl_q]
    rfl
  rw [e]
  exact ny
theorem tm_ok {z : Str} (h : Nm z ∨ Vr z) : (vN (.str z) || vV (.str z)) = true := by
  rcases h with h | h
  · have : vN (.str z) = true := h
    rw [this]
    rfl
  · have : vV (.str z) = true := varB_vr h
    rw [this, Bool.or_true]
theorem tm_len {z : Str} (h : Nm z ∨ Vr z) : 1 ≤ z.length ∧ z.length ≤ 13 := by
  rcases h with h | ⟨y, ny, rfl⟩
  · have := nm_sgns h
    rw [len_tl]
    exact ⟨this.2.2, Nat.le_trans this.2.1 (by decide)⟩
  · have := nm_sgns ny
    rw [len_tl, tl_append, tl_q, List.length_append]
    have e : (tl y).length = y.cps.toList.length := rfl
    simp only [List.length_singleton]
    omega
theorem PatG.pat {T : Str} {zs : List Str} (h : PatG T zs) : patB (.str T :: zs.map V.str) = true := by
  show (decide ((zs.map V.str).length ≤ 3) && vN (.str T) && (zs.map V.str).all fun y => vN y || vV y) = true
  rw [List.length_map, decide_eq_true h.few, show vN (.str T) = true from h.nT, Bool.true_and, Bool.true_and, List.all_map, List.all_eq_true]
  exact fun z m => tm_ok (h.each z m)
theorem PatG.strs {T : Str} {zs : List Str} (h : PatG T zs) : T.length ≤ 12 ∧ (∀ z ∈ zs, z.length ≤ 13) := ⟨by
  have := nm_len h.nT
  rw [len_tl]
  exact this, fun z m => (tm_len (h.each z m)).2⟩
theorem terms_text {zs : List Str} (h : ∀ z ∈ zs, Nm z ∨ Vr z) : terms (Txt.join comS zs) = zs := by
  unfold terms
  cases zs with
  | nil => rfl
  | cons z r =>
    have hl : (Txt.join comS (z :: r)).length ≠ 0 := by
      rw [join_eq, len_tl, tl_join, tl_com]
      have h1 := (tm_len (h z List.mem_cons_self)).1
      have h2 := part_le 44 ((z :: r).map tl) (tl z) (List.mem_map_of_mem List.mem_cons_self)
      rw [len_tl] at h1
      omega
    rw [if_neg hl]
    exact split_join (s := 44) (S := []) tl_com (by decide +kernel) (by simp) fun p m hc => (chr_tm (h p m) 44 hc).2.1 rfl
theorem ptext_tl21 (T : Str) (zs : List Str) : tl (ptext T zs) = tl T ++ 40 :: (tl (Txt.join comS zs) ++ [41]) := by
  unfold ptext
  rw [empty_app, tl_append, tl_append, tl_append, show tl (("(" : String) : Str) = [40] from tl_opn, show tl ((")" : String) : Str) = [41] from tl_cls]
  simp
theorem par_app21 {m b : List Nat} (h : 40 ∉ m) : par [40] [] (m ++ 40 :: b) = some (m, b) := by
  have e := par_part1 (s := 40) (S := []) (p := m) (rest := b) (acc := []) h
  rw [List.nil_append] at e
  exact e
theorem PatG.read {T : Str} {zs : List Str} (h : PatG T zs) : rdOk (ptext T zs) = some (T, zs) := by
  have nT : 40 ∉ tl T := fun hc => (sgn_ne21 (chr_nm21 h.nT 40 hc)).1 rfl
  unfold rdOk cutP
  rw [ptext_tl21, par_app21 nT]
  dsimp only
  rw [if_pos (by simp)]
  dsimp only
  have e1 : (⟨(tl T).toArray⟩ : Str) = T := mk_tl T
  have e2 : (⟨(tl (Txt.join comS zs) ++ [41]).dropLast.toArray⟩ : Str) = Txt.join comS zs := by
    rw [List.dropLast_concat]
  rw [e1, e2, terms_text h.each, if_pos h.pat]
theorem PatG.read_sp {T : Str} {zs : List Str} (h : PatG T zs) : rdOk (ptext T zs ++ Str.ofString " ") = none := by
  have nT : 40 ∉ tl T := fun hc => (sgn_ne21 (chr_nm21 h.nT 40 hc)).1 rfl
  have e : tl (ptext T zs ++ Str.ofString " ") = tl T ++ 40 :: ((tl (Txt.join comS zs) ++ [41]) ++ [32]) := by
    rw [tl_append, ptext_tl21, show tl (Str.ofString " ") = [32] by decide +kernel]
    simp
  unfold rdOk cutP
  rw [e, par_app21 nT]
  dsimp only
  rw [if_neg (by simp)]
theorem read_empty : rdOk (Str.ofString "") = none := by
  unfold rdOk cutP
  rw [show tl (Str.ofString "") = [] by decide +kernel]
  rfl
theorem PatG.codes {T : Str} {zs : List Str} (h : PatG T zs) : (∀ c ∈ tl (ptext T zs), c < 0x110000) ∧ (ptext T zs).length ≤ 57 := by
  have hj : ∀ c ∈ tl (Txt.join comS zs), c < 128 := by
    rw [join_eq, tl_join, tl_com]
    intro c hc
    -- signs of a joined text
    have key : ∀ X : List (List Nat), (∀ p ∈ X, ∀ c ∈ p, c < 128) → ∀ c ∈ joinL [44] X, c < 128 := by
      intro X
      induction X with
      | nil => intro _ c hc; cases hc
      | cons p r ih =>
        intro hX c hc
        cases r with
        | nil => exact hX p List.mem_cons_self c hc
        | cons q r =>
          rw [joinL_cons _ _ (by simp), List.mem_append, List.mem_append] at hc
          rcases hc with hc | hc | hc
          · exact hX p List.mem_cons_self c hc
          · rw [List.mem_singleton.mp hc]
            decide
          · exact ih (fun p m => hX p (List.mem_cons_of_mem _ m)) c hc
    refine key _ (fun p m c hc => ?_) c hc
    obtain ⟨z, mz, rfl⟩ := List.mem_map.mp m
    exact (chr_tm (h.each z mz) c hc).2.2
  refine ⟨fun c hc => ?_, ?_⟩
  · rw [ptext_tl21] at hc
    rcases List.mem_append.mp hc with hc | hc
    · exact Nat.lt_trans (sgn_ne21 (chr_nm21 h.nT c hc)).2.2.2 (by decide)
    · rcases List.mem_cons.mp hc with rfl | hc
      · decide
      · rcases List.mem_append.mp hc with hc | hc
        · exact Nat.lt_trans (hj c hc) (by decide)
        · rw [List.mem_singleton.mp hc]
          decide
  · rw [len_tl, ptext_tl21, List.length_append, List.length_cons, List.length_append]
    have l1 := h.strs.1
    rw [len_tl] at l1
    have l2 : (tl (Txt.join comS zs)).length ≤ 3 * 14 := by
      rw [← len_tl, join_eq]
      have q := join_len comS zs
      have s1 := sum_le 13 zs h.strs.2
      have c1 : comS.length = 1 := by decide +kernel
      have few := h.few
      rw [c1] at q
      omega
    simp only [List.length_singleton]
    omega
/-! ### compared -/
theorem strs_lay : ∀ zs : List Str, (∀ z ∈ zs, ∀ c ∈ tl z, c < 0x110000) → PyData.canLayAll0 (zs.map PyData.str) = true
  | [], _ => by simp [PyData.canLayAll0]
  | z :: zs, h => by
    have h1 : PyData.strOk z = true := ok_list (h z List.mem_cons_self)
    simp [PyData.canLayAll0, PyData.canLay0, h1, strs_lay zs fun y m => h y (List.mem_cons_of_mem _ m)]
theorem strs_dep : ∀ zs : List Str, PyData.depthAll (zs.map PyData.str) ≤ 2
  | [] => by simp [PyData.depthAll]
  | z :: zs => by
    have h1 := strs_dep zs
    simp only [List.map_cons, PyData.depthAll, PyData.depth]
    omega
theorem shaped_tupS {zs : List Str} (h : ∀ z ∈ zs, ∀ c ∈ tl z, c < 0x110000) : SeqAt.shaped (.tuple (zs.map PyData.str)) = true := by
  have h1 := strs_dep zs
  have h2 : PyData.depth (.tuple (zs.map PyData.str)) ≤ 64 := by
    simp only [PyData.depth]
    omega
  show (PyData.canLay0 (.tuple (zs.map PyData.str)) && decide (PyData.depth (.tuple (zs.map PyData.str)) ≤ 64)) = true
  rw [Bool.and_eq_true]
  exact ⟨by simp only [PyData.canLay0]; exact strs_lay zs h, decide_eq_true h2⟩
theorem eqv_tupS {zs : List Str} (h : ∀ z ∈ zs, ∀ c ∈ tl z, c < 0x110000) : PyData.eqv (.tuple (zs.map PyData.str)) (.tuple (zs.map PyData.str)) = true :=
  SeqAt.eqv_refl _ (SeqAt.canLay_of_shaped (shaped_tupS h))
theorem dp_pat {K : PySem.W.Frag} {H : Hp} {t : Addr} {T : Str} {zs : List Str} (h : H t = some (.tup (.str T :: zs.map V.str))) : Dp K H (.ref t) (.tuple ((T :: zs).map PyData.str)) :=
  .tup (SqT.of h) (dp_strs (T :: zs))
theorem PatG.all {T : Str} {zs : List Str} (h : PatG T zs) : ∀ z ∈ T :: zs, ∀ c ∈ tl z, c < 0x110000 := by
  intro z m c hc
  rcases List.mem_cons.mp m with rfl | m
  · exact Nat.lt_trans (sgn_ne21 (chr_nm21 h.nT c hc)).2.2.2 (by decide)
  · exact Nat.lt_trans (chr_tm (h.each z m) c hc).2.2 (by decide)
theorem rd_codes {z a : Str} {ts : List Str} (h : rdOk z = some (a, ts)) (cz : ∀ c ∈ tl z, c < 0x110000) : ∀ y ∈ a :: ts, ∀ c ∈ tl y, c < 0x110000 := by
  unfold rdOk at h
  cases hc : cutP z with
  | none => rw [hc] at h; cases h
  | some ai =>
    obtain ⟨a', i⟩ := ai
    rw [hc] at h
    dsimp only at h
    obtain ⟨_, _, c1, c2⟩ := cut_le hc
    by_cases hp : patB (.str a' :: (terms i).map V.str) = true
    · rw [if_pos hp] at h
      have h2 := Option.some.inj h
      have e1 : a' = a := congrArg Prod.fst h2
      have e2 : terms i = ts := congrArg Prod.snd h2
      subst e1
      subst e2
      intro y m c hy
      rcases List.mem_cons.mp m with rfl | m
      · exact cz c (c1 c hy)
      · exact cz c (c2 c (term_mem m hy))
    · rw [if_neg hp] at h
      cases h
end L2.LawH
set_option Elab.async false
set_option linter.all false
set_option maxRecDepth 100000
set_option maxHeartbeats 4000000
/-! Tuples put together and repeated, whatever their length. -/
namespace L2.LawH
open PySem PySem.Spec PyProof.Rows L2.Cmp L2.TxtSet TL
def rCatB : R2 := fun x y H Q => ∃ a b xs ys, x = .ref a ∧ y = .ref b ∧ H a = some (.tup xs) ∧ H b = some (.tup ys) ∧ xs.length + ys.length ≤ sizeLine ∧
  ∀ (p : Addr) (H' : Hp), Same H H' → H' p = some (.tup (xs ++ ys)) → (p = a ∨ p = b ∨ H p = none) → Q (.ref p) H'
theorem op_catB {X : Cx} : OpR X (binaryOp .Add) rCatB := by
  intro pins s σ H x y v u Q I rx ry h
  obtain ⟨a, b, xs, ys, rfl, rfl, ha, hb, hz, q⟩ := h
  refine op_catA pins s σ H _ _ v u Q I rx ry ⟨a, b, xs, ys, rfl, rfl, SqT.of ha, SqT.of hb, hz, fun e => ?_, fun _ e => ?_, fun _ _ p np => ?_⟩
  · subst e
    exact q b H (Same.refl H) hb (.inr (.inl rfl))
  · subst e
    exact q a H (Same.refl H) (by rw [List.append_nil]; exact ha) (.inl rfl)
  · exact q p _ (same_new np) upd_same (.inr (.inr np))
open AutoSeq1 (wpAny_loadPart')
theorem tuple_mul1 (l : Addr) (items : Array Value) (n : Nat) (dd : Option Addr) (sl : Array (Option Value)) (u : Tok) :
    Meets (Builtin.«tuple.__mul__» ⟨[.ref l, .int 1 u], []⟩) (fun _ R s => s.heap.get? l = some { cls := .type "tuple", dict := dd, data := .seq items n, slots := sl } ∧ R (.ok (.ret (Value.ref l))) s) :=
  .of_wp fun prog w A R s h => by
    obtain ⟨hp, g, d, tk, os⟩ := s
    obtain ⟨hl, h⟩ := h
    have f1 := AutoSeq1.idx_int
    wp_walk using wpAny_loadPart' hl
    exact ⟨_, rfl, h⟩
theorem tuple_mul0 (l : Addr) (items : Array Value) (n : Nat) (dd : Option Addr) (sl : Array (Option Value)) (u : Tok) (hi : items.isEmpty = false) :
    Meets (Builtin.«tuple.__mul__» ⟨[.ref l, .int 0 u], []⟩) (fun _ R s => s.heap.get? l = some { cls := .type "tuple", dict := dd, data := .seq items n, slots := sl } ∧
      R (.ok (.ret (Value.ref s.heap.objs.size))) { s with heap := s.heap.push { cls := Value.type "tuple", data := Data.seq #[] }, toks := s.toks }) :=
  .of_wp fun prog w A R s h => by
    obtain ⟨hp, g, d, tk, os⟩ := s
    obtain ⟨hl, h⟩ := h
    have f1 := AutoSeq1.idx_int
    wp_walk using wpAny_loadPart' hl
    repeat (first
      | (refine wpAny_ite_false (decide_eq_false (by rw [hi]; decide)) ?_; wp_walk using wpAny_loadPart' hl)
      | (refine wpAny_ite_true (decide_eq_true (by decide)) ?_; wp_walk using wpAny_loadPart' hl))
    exact ⟨_, rfl, h⟩
/-- t * k, t not empty -/
def rRepB : R2 := fun x y H Q => ∃ l k xs, x = .ref l ∧ y = .int k ∧ H l = some (.tup xs) ∧ xs ≠ [] ∧ 0 ≤ k ∧ k ≤ 1000 ∧ xs.length ≤ 1000 ∧
  ∀ (p : Addr) (H' : Hp), Same H H' → H' p = some (.tup (List.replicate k.toNat xs).flatten) → (p = l ∨ H p = none) → Q (.ref p) H'
theorem op_repB {X : Cx} : OpR X (binaryOp .Mult) rRepB := by
  intro pins s σ H x y v u Q I rx ry h
  obtain ⟨l, k, xs, rfl, rfl, hl, hne, h0, h1, hz, q⟩ := h
  by_cases h2 : 2 ≤ k
  · exact op_repT pins s σ H _ _ v u Q I rx ry ⟨l, k, xs, rfl, rfl, SqT.of hl, hne, h2, h1, hz, fun p np => q p _ (same_new np) upd_same (.inr np)⟩
  cases rx
  obtain ⟨t, rfl⟩ := ry
  obtain ⟨its, r, ⟨⟨cls, dd, data, sl⟩, ho, hc, n, hd⟩, hs⟩ := I.tuple (SqT.of hl)
  simp only at hc hd
  subst hc hd
  have hi : its.toArray.isEmpty = false := by
    cases its with
    | nil =>
      cases r
      exact absurd rfl hne
    | cons a b => rfl
  by_cases hk : k = 0
  · subst hk
    refine wpAny_binaryOp_repeat_ref (T := "tuple") (U := "int") (by decide) ⟨_, ho, rfl⟩ (fun s' => typeIs_int s' 0 t) noFill_tuple_mul F.fills_int_mul F.slot_int_rmul repeat_tuple F.slot_int_index.lookup
      (call_meets F.slot_int_rmul (typeIs_int s 0 t) F.entry_int_rmul (F.args_int_rmul_2 _ _) (int_rmul_tuple 0 t l its.toArray n dd sl)
        ⟨ho, rfl, ⟨_, ho, rfl⟩, call_meets F.slot_tuple_mul ⟨_, ho, rfl⟩ F.entry_tuple_mul (F.args_tuple_mul_2 _ _) (tuple_mul0 l its.toArray n dd sl t hi) ⟨ho, ?_⟩⟩)
    have np := I.hok.fresh (Nat.le_refl s.heap.objs.size)
    refine ⟨.ref s.heap.objs.size, _, I.laid (t' := s.toks) (o := .tup []) (fun b ob q => Heap.get?_push_of_some _ q) (Nat.le_refl _) ?_, rfl, q _ _ (same_new np) upd_same (.inr np)⟩
    exact ⟨Nat.zero_le _, [], .nil, IsTup.new _ _⟩
  · have : k = 1 := by omega
    subst this
    refine wpAny_binaryOp_repeat_ref (T := "tuple") (U := "int") (by decide) ⟨_, ho, rfl⟩ (fun s' => typeIs_int s' 1 t) noFill_tuple_mul F.fills_int_mul F.slot_int_rmul repeat_tuple F.slot_int_index.lookup
      (call_meets F.slot_int_rmul (typeIs_int s 1 t) F.entry_int_rmul (F.args_int_rmul_2 _ _) (int_rmul_tuple 1 t l its.toArray n dd sl)
        ⟨ho, rfl, ⟨_, ho, rfl⟩, call_meets F.slot_tuple_mul ⟨_, ho, rfl⟩ F.entry_tuple_mul (F.args_tuple_mul_2 _ _) (tuple_mul1 l its.toArray n dd sl t) ⟨ho, ?_⟩⟩)
    refine ⟨.ref l, H, I, rfl, q l H (Same.refl H) ?_ (.inl rfl)⟩
    have e : (List.replicate (1 : Int).toNat xs).flatten = xs := by
      show (List.replicate 1 xs).flatten = xs
      simp
    rw [e]
    exact hl
end L2.LawH
set_option Elab.async false
set_option linter.all false
set_option maxRecDepth 100000
set_option maxHeartbeats 4000000
/-! Values of all kinds, away from the source. -/
namespace L2.LawH
open PySem PySem.Spec PyProof.Rows L2.Cmp L2.TxtSet TL
open Classical in
/-- a heap without what stands where p holds -/
noncomputable def Ex (p : Addr → Prop) (H : Hp) : Hp := fun b => if p b then none else H b
theorem ex_at {p : Addr → Prop} {b : Addr} {H : Hp} (n : ¬ p b) : Ex p H b = H b := by
  unfold Ex
  exact if_neg n
theorem ex_some {p : Addr → Prop} {b : Addr} {H : Hp} {o : HO} (e : Ex p H b = some o) : ¬ p b ∧ H b = some o := by
  unfold Ex at e
  by_cases n : p b
  · rw [if_pos n] at e
    cases e
  · rw [if_neg n] at e
    exact ⟨n, e⟩
/-- changes at places that are left out -/
theorem ex_same {p q : Addr → Prop} {H H' : Hp} (i : ∀ b, q b → p b) (k : ∀ b o, H b = some o → ¬ q b → H' b = some o) : Same (Ex p H) (Ex q H') := fun b o e => by
  obtain ⟨n, e⟩ := ex_some e
  have nq : ¬ q b := fun z => n (i b z)
  rw [ex_at nq]
  exact k b o e nq
theorem ex_keep {p : Addr → Prop} {a : Addr} {H H' : Hp} (k : Keep a H H') (pa : p a) : Same (Ex p H) (Ex p H') :=
  ex_same (fun _ z => z) fun b o e n => k b o e fun z => n (z ▸ pa)
/-- what stood before, but for the pattern -/
def Pr (H0 : Hp) (t : Addr) : Addr → Prop := fun b => H0 b ≠ none ∧ b ≠ t
theorem pr_new {H0 : Hp} {t b : Addr} (h : b = t ∨ H0 b = none) : ¬ Pr H0 t b := fun ⟨x, y⟩ => h.elim y x
theorem src_tup {H : Hp} {a p : Addr} {c : Int} {m : Nat} {xs : List V} (h : SrcAt H a c m) (e : H p = some (HO.tup xs)) : p ≠ a := fun z => by
  obtain ⟨d, n, e2, _⟩ := h
  rw [z, e2] at e
  cases e
/-- a value of any kind, as an item and by itself -/
def Smp (x : V) : Prop := (∃ p, x = .ref p) ∨ (flatV x = true ∧ eqV x x = true)
def AskS (K : PySem.W.Frag) (H : Hp) (x : V) (o : Option (List V)) : Prop := Ask K H x o ∧ Smp x
theorem AskS.same {K : PySem.W.Frag} {H H' : Hp} (s : Same H H') {x : V} {o : Option (List V)} (h : AskS K H x o) : AskS K H' x o := ⟨h.1.same s, h.2⟩
def Any (K : PySem.W.Frag) (H : Hp) (x : V) : Prop := Itm K H x ∧ ∃ o, AskS K H x o
theorem Any.same {K : PySem.W.Frag} {H H' : Hp} (s : Same H H') {x : V} (h : Any K H x) : Any K H' x := ⟨h.1.same s, let ⟨o, q⟩ := h.2; ⟨o, q.same s⟩⟩
section
variable {K : PySem.W.Frag} {H : Hp}
theorem any_str {y : Str} (l : y.length ≤ 1000) (h : ∀ c ∈ tl y, c < 0x110000) : Any K H (.str y) := by
  have i := itm_str (K := K) (H := H) (y := y) (by omega) h
  exact ⟨i, none, ⟨i.1, "str", .base (.str y), by decide +kernel⟩, .inr ⟨rfl, by simp [eqV]⟩⟩
theorem any_non : Any K H .non := by
  have o : Okl K H .non := .inr ⟨⟨"NoneType", .base .non, by decide +kernel⟩, fun z e => by cases e⟩
  exact ⟨⟨o, .none, .non, by simp [PyData.canLay0], by simp [PyData.depth]⟩, none, ⟨o, "NoneType", .base .non, by decide +kernel⟩, .inr ⟨rfl, by simp [eqV]⟩⟩
theorem any_int (i : Int) : Any K H (.int i) := by
  have o : Okl K H (.int i) := .inr ⟨⟨"int", .base (.int i), by decide +kernel⟩, fun z e => by cases e⟩
  exact ⟨⟨o, .int i, .int i, by simp [PyData.canLay0], by simp [PyData.depth]⟩, none, ⟨o, "int", .base (.int i), by decide +kernel⟩, .inr ⟨rfl, by simp [eqV]⟩⟩
theorem any_bl (b : Bool) : Any K H (.bl b) := by
  have o : Okl K H (.bl b) := .inr ⟨⟨"bool", .base (.bl b), by decide +kernel⟩, fun z e => by cases e⟩
  exact ⟨⟨o, .bool b, .bl b, by simp [PyData.canLay0], by simp [PyData.depth]⟩, none, ⟨o, "bool", .base (.bl b), by decide +kernel⟩, .inr ⟨rfl, by simp [eqV]⟩⟩
theorem any_tup {p : Addr} {y : Str} (e : H p = some (.tup [.str y])) (l : y.length ≤ 1000) (h : ∀ c ∈ tl y, c < 0x110000) : Any K H (.ref p) := by
  have o : Okl K H (.ref p) := .inr ⟨⟨"tuple", .base (.tup e), by decide +kernel⟩, fun z e => by cases e⟩
  have hs : PyData.strOk y = true := ok_list h
  exact ⟨⟨o, .tuple [.str y], .tup (SqT.of e) (.cons (.str y) .nil), by simp [PyData.canLay0, PyData.canLayAll0, hs], by simp [PyData.depth, PyData.depthAll]⟩, some [.str y], ⟨p, rfl, e, by simp, fun z m => by
    rw [List.mem_singleton.mp m]
    exact itm_str (by omega) h⟩, .inl ⟨p, rfl⟩⟩
theorem any_lst {p : Addr} {y : Str} (e : H p = some (.lst [.str y])) (l : y.length ≤ 1000) (h : ∀ c ∈ tl y, c < 0x110000) : Any K H (.ref p) := by
  have o : Okl K H (.ref p) := .inr ⟨⟨"list", .base (.lst e), by decide +kernel⟩, fun z e => by cases e⟩
  have hs : PyData.strOk y = true := ok_list h
  exact ⟨⟨o, .list [.str y], .lst (SqL.of e) (.cons (.str y) .nil), by simp [PyData.canLay0, PyData.canLayAll0, hs], by simp [PyData.depth, PyData.depthAll]⟩, none, ⟨o, "list", .base (.lst e), by decide +kernel⟩, .inl ⟨p, rfl⟩⟩
theorem ask_lst {p : Addr} {xs : List V} (e : H p = some (.lst xs)) : AskS K H (.ref p) none :=
  ⟨⟨.inr ⟨⟨"list", .base (.lst e), by decide +kernel⟩, fun z e => by cases e⟩, "list", .base (.lst e), by decide +kernel⟩, .inl ⟨p, rfl⟩⟩
theorem ask_dic {p : Addr} {xs : List (Key × V)} (e : H p = some (.dK xs)) : AskS K H (.ref p) none :=
  ⟨⟨.inr ⟨⟨"dict", .base (.dK e), by decide +kernel⟩, fun z e => by cases e⟩, "dict", .base (.dK e), by decide +kernel⟩, .inl ⟨p, rfl⟩⟩
end
def oddA : List Str := ["", "A", "1a", "?", "??a", "a b", "a,", "?1", "abcdefghijklm", "?abcdefghijklm", "a\n"]
def oddB : List Str := ["abcdefghijkl", "?abcdefghijkl", "?a9"]
theorem odd_ok : ((oddA ++ oddB).all fun s => decide (s.length ≤ 1000) && (tl s).all fun c => decide (c < 128)) = true := by decide +kernel
def oddW (p q : Addr) : List V := oddA.map V.str ++ ([.non, .int 3, .bl true, .ref p, .ref q] ++ oddB.map V.str)
theorem odd_any {K : PySem.W.Frag} {H : Hp} {p q : Addr} (hp : H p = some (.tup [.str "a"])) (hq : H q = some (.lst [.str "a"])) : ∀ x ∈ oddW p q, Any K H x := by
  intro x m
  have st : ∀ s ∈ oddA ++ oddB, Any K H (.str s) := fun s ms => by
    have := List.all_eq_true.mp odd_ok s ms
    rw [Bool.and_eq_true, decide_eq_true_iff, List.all_eq_true] at this
    exact any_str this.1 fun c hc => Nat.lt_trans (of_decide_eq_true (this.2 c hc)) (by decide)
  have la : (("a" : String) : Str).length ≤ 1000 := by decide +kernel
  have ca : ∀ c ∈ tl (("a" : String) : Str), c < 0x110000 := by decide +kernel
  unfold oddW at m
  rcases List.mem_append.mp m with m | m
  · obtain ⟨s, ms, rfl⟩ := List.mem_map.mp m
    exact st s (List.mem_append_left _ ms)
  · rcases List.mem_append.mp m with m | m
    · simp only [List.mem_cons, List.not_mem_nil, or_false] at m
      rcases m with rfl | rfl | rfl | rfl | rfl
      · exact any_non
      · exact any_int 3
      · exact any_bl true
      · exact any_tup hp la ca
      · exact any_lst hq la ca
    · obtain ⟨s, ms, rfl⟩ := List.mem_map.mp m
      exact st s (List.mem_append_right _ ms)
theorem odd_len (p q : Addr) : (oddW p q).length = 19 := rfl
end L2.LawH
set_option Elab.async false
set_option linter.all false
set_option maxRecDepth 100000
set_option maxHeartbeats 4000000
/-! _law_odd. -/
namespace L2.LawH
open PySem PySem.Spec PyProof.Rows L2.Cmp L2.TxtSet TL
abbrev sOdd : Stmt := top 29
def spOdd (K : PySem.W.Frag) : Sp := fun vs H Q _ => ∃ (a t : Addr) (c : Int) (m : Nat) (T : Str) (zs : List Str), vs = [.ref a, .ref t] ∧ SrcAt H a c (m + 4) ∧ H t = some (.tup (.str T :: zs.map V.str)) ∧ PatG T zs ∧
  ∀ (x : V) (o : Option (List V)) (H' : Hp), AskS K (Ex (Pr H t) H') x o → SrcAt H' a c m → Keep a H H' → Q x H'
theorem same_two {H : Hp} {p : Addr} {o o' : HO} (n : H p = none) : Same H (upd (upd H p o) p o') := fun b u e => by
  rw [upd_ne (ne_of_none e n), upd_ne (ne_of_none e n)]
  exact e
theorem cutV_to (xs : List V) (k : Nat) : cutV xs none (some (k : Int)) = xs.take k := by
  unfold cutV
  rw [HT.sIx_nat, HT.sIx_none, List.drop_zero, Nat.sub_zero]
  rcases Nat.le_total k xs.length with h | h
  · rw [Nat.min_eq_left h]
  · rw [Nat.min_eq_right h, List.take_of_length_le (Nat.le_refl _), List.take_of_length_le h]
theorem cutV_from (xs : List V) (k : Nat) : cutV xs (some (k : Int)) none = xs.drop k := by
  unfold cutV
  rw [HT.sIx_nat, HT.sIx_none]
  rcases Nat.le_total k xs.length with h | h
  · rw [Nat.min_eq_left h]
    refine List.take_of_length_le ?_
    rw [List.length_drop]
    omega
  · rw [Nat.min_eq_right h, List.drop_of_length_le h, List.drop_of_length_le (Nat.le_refl _), List.take_nil]
section
variable {P : Program} {w : World} {K : PySem.W.Frag} {mg : Str → Option Value} {base : Heap}
abbrev nOdd : List Str := ["_law_source_here", "_law_pattern_here", "_law_wrong", "_law_strange_here", "_law_place", "_law_way"]
theorem scOdd : FnScope nOdd ["_law_source_here", "_law_pattern_here"] (defScope sOdd) := ⟨rfl, rfl, rfl, by decide +kernel, rfl, by decide +kernel, by decide +kernel⟩
theorem ok_odd {f fD : Addr} {fd fdD : FuncData} (F : Fun K "_law_odd" "_law_odd" sOdd f fd)
    (GD : FnOk P w K mg base CX0 1 fD fdD ["_law_source_here", "_law_limit"] spDraw) (kD : PySem.W.keepIn K (.ref fD) = true) (bD : Binds K fdD ["_law_source_here", "_law_limit"] []) (mD : mg "_law_draw" = some (.ref fD))
    (ml : mg "len" = none) (mL : mg "list" = none) :
    FnOk P w K mg base CX0 2 f fd ["_law_source_here", "_law_pattern_here"] (spOdd K) := by
  refine F.ok scOdd (fun vs H Q E h => ?_) (fun cdv A outer s H vs Q E hr h => ?_)
  · obtain ⟨a, t, c, m, T, zs, rfl, _⟩ := h
    rfl
  · obtain ⟨a, t, c, m, T, zs, rfl, hs, ht, pt, k⟩ := h
    have hr1 : Room 1 _ := hr.mono (by decide)
    refine ⟨_, pss_cons (ps_set (i := 2) scOdd.nd rfl (Or.inl rfl) (pe_lst (pa_cons pe_str (pa_cons pe_str (pa_cons pe_str (pa_cons pe_str (pa_cons pe_str (pa_cons pe_str (pa_cons pe_str (pa_cons pe_str (pa_cons pe_str (pa_cons pe_str (pa_cons pe_str pa_nil)))))))))))))
      (pss_cons (ps_set (i := 2) scOdd.nd rfl (Or.inl rfl) (pe_op op_cat (pv 2) (pe_lst (pa_cons pe_non (pa_cons pe_int (pa_cons pe_bl (pa_cons (pe_tup (pa_cons pe_str pa_nil)) (pa_cons (pe_lst (pa_cons pe_str pa_nil)) (pa_cons pe_str (pa_cons pe_str (pa_cons pe_str pa_nil)))))))))))
      (pss_cons (ps_set (i := 3) scOdd.nd rfl (Or.inl rfl) (pe_ix ix_list (pv 2) (pe_call GD hr1 (by rfl) mD kD bD .nil pass0 (pa_cons (pv 0) (pa_cons (pe_callB call_len_seq (by rfl) ml (by decide +kernel) (pa_cons (pv 2) pa_nil)) pa_nil))) (fun _ _ => rfl)))
      (pss_cons (ps_set (i := 4) scOdd.nd rfl (Or.inl rfl) (pe_call GD hr1 (by rfl) mD kD bD .nil pass0 (pa_cons (pv 0) (pa_cons (pe_callB call_len_seq (by rfl) ml (by decide +kernel) (pa_cons (pv 1) pa_nil)) pa_nil))))
      (pss_cons (ps_set (i := 5) scOdd.nd rfl (Or.inl rfl) (pe_call GD hr1 (by rfl) mD kD bD .nil pass0 (pa_cons (pv 0) (pa_cons pe_int pa_nil))))
      (pss_cons (ps_if (pt_cmpR op_eq (pv 5) pe_int (nomark _)) (pss_one (ps_ret (pe_callTy call_list_of (by rfl) mL (by decide +kernel) (pa_cons (pv 1) pa_nil)))) pss_nil)
      (pss_cons (ps_if (pt_cmpR op_eq (pv 5) pe_int (nomark _)) (pss_one (ps_ret (pe_op op_catB (pe_op op_catB (pv 1) (pe_op op_repB (pe_tup (pa_cons pe_str pa_nil)) (pe_op op_sub pe_int (pe_callB call_len_seq (by rfl) ml (by decide +kernel) (pa_cons (pv 1) pa_nil))))) (pe_tup (pa_cons (pv 3) pa_nil))))) pss_nil)
      (pss_cons (ps_if (pt_cmpR op_eq (pv 5) pe_int (nomark _)) (pss_one (ps_ret (pe_ix ix_list (pe_lst (pa_cons (pv 3) (pa_cons pe_non (pa_cons (pe_tup pa_nil) (pa_cons pe_str (pa_cons (pe_disp (pps_cons pe_str pe_int pps_nil) rfl rfl (by simp) (by decide)) (pa_cons pe_int (pa_cons pe_bl pa_nil))))))))
          (pe_call GD hr1 (by rfl) mD kD bD .nil pass0 (pa_cons (pv 0) (pa_cons pe_int pa_nil))) (fun _ _ => rfl)))) pss_nil)
      (pss_cons (ps_if (pt_cmpR op_eq (pv 5) pe_int (nomark _)) (pss_one (ps_ret (pe_op op_catB (pe_op op_catB (pe_slice sl_tup (pv 1) po_none (po_some (pv 4))) (pe_tup (pa_cons (pe_op op_add_str pe_str (pe_ix ix_tup (pv 1) pe_int (fun _ _ => rfl))) pa_nil))) (pe_slice sl_tup (pv 1) (po_some (pe_op op_add (pv 4) pe_int)) po_none)))) pss_nil)
      (pss_one (ps_ret (pe_op op_catB (pe_op op_catB (pe_slice sl_tup (pv 1) po_none (po_some (pv 4))) (pe_tup (pa_cons (pv 3) pa_nil))) (pe_slice sl_tup (pv 1) (po_some (pe_op op_add (pv 4) pe_int)) po_none)))))))))))), ?_⟩
    have few := pt.few
    have ta := src_tup hs ht
    have pa : Pr H t a := ⟨hs.some, fun z => ta z.symm⟩
    have lx : (V.str T :: zs.map V.str).length = zs.length + 1 := by rw [List.length_cons, List.length_map]
    -- the wrong ones
    refine ⟨by show 11 ≤ sizeLine; decide, fun l1 n1 => ?_⟩
    have sA : Same H (upd H l1 (.lst (oddA.map V.str))) := same_new n1
    have cA : (upd H l1 (.lst (oddA.map V.str))) l1 = some (.lst (oddA.map V.str)) := upd_same
    refine ⟨_, rfl, by show 1 ≤ sizeLine; decide, fun q1 m1 => ?_⟩
    have m1 : (upd H l1 (.lst (oddA.map V.str))) q1 = none := m1
    refine ⟨by show 1 ≤ sizeLine; decide, fun q2 m2 => ?_⟩
    have m2 : upd (upd H l1 (.lst (oddA.map V.str))) q1 (.tup [.str "a"]) q2 = none := m2
    refine ⟨by show 8 ≤ sizeLine; decide, fun l2 n2 => ?_⟩
    have n2 : upd (upd (upd H l1 (.lst (oddA.map V.str))) q1 (.tup [.str "a"])) q2 (.lst [.str "a"]) l2 = none := n2
    have h2 : ∀ {y : HO}, (upd (upd (upd (upd H l1 (.lst (oddA.map V.str))) q1 (.tup [.str "a"])) q2 (.lst [.str "a"])) l2 y) l1 = some (.lst (oddA.map V.str)) := fun {y} =>
      (same_new n2) _ _ ((same_new m2) _ _ ((same_new m1) _ _ cA))
    refine ⟨l1, l2, _, _, rfl, rfl, h2, upd_same, by show 11 + 8 ≤ sizeLine; decide, fun l3 n3 => ?_⟩
    have zq1 : ¬ Pr H t q1 := pr_new (.inr (sA.free m1))
    have zq2 : ¬ Pr H t q2 := pr_new (.inr ((sA.trans (same_new m1)).free m2))
    generalize hHE : upd _ l3 _ = HE
    have cE : HE l3 = some (.lst (oddW q1 q2)) := by
      rw [← hHE]
      exact upd_same
    have sE : Same H HE := by
      rw [← hHE]
      exact (((sA.trans (same_new m1)).trans (same_new m2)).trans (same_new n2)).trans (same_new n3)
    have e1 : HE q1 = some (.tup [.str "a"]) := by
      rw [← hHE]
      exact (((same_new m2).trans (same_new n2)).trans (same_new n3)) _ _ upd_same
    have e2 : HE q2 = some (.lst [.str "a"]) := by
      rw [← hHE]
      exact ((same_new n2).trans (same_new n3)) _ _ upd_same
    have zl3 : l3 ≠ a := fun z => by
      obtain ⟨d, n, e, _⟩ := hs.same sE
      rw [z, e] at cE
      cases cE
    clear hHE n3 h2 n2 m2 m1 cA sA n1
    have anyE : ∀ x ∈ oddW q1 q2, Any K (Ex (Pr H t) HE) x := odd_any (by rw [ex_at zq1]; exact e1) (by rw [ex_at zq2]; exact e2)
    -- the strange one
    refine ⟨_, rfl, _, rfl, _, rfl, l3, _, rfl, .inl (SqL.of cE), a, c, m + 3, _, rfl, hs.same sE, by rw [odd_len]; decide, by rw [odd_len]; decide, fun r1 H1 r10 r11 s1 k1 => ?_⟩
    rw [odd_len] at r11
    obtain ⟨j1, rfl⟩ : ∃ j : Nat, r1 = j := ⟨r1.toNat, by omega⟩
    have hj1 : j1 < (oddW q1 q2).length := by rw [odd_len]; omega
    have c1 := k1 _ _ cE zl3
    refine ⟨l3, _, _, _, rfl, rfl, SqL.of c1, atI_nat (List.getElem?_eq_getElem hj1), ?_⟩
    have any1 := anyE _ (List.getElem_mem hj1)
    generalize (oddW q1 q2)[j1] = st at any1 ⊢
    have K1 : Keep a H H1 := (Keep.of sE).trans k1
    have any1 := any1.same (ex_keep k1 pa)
    have ht1 := K1 _ _ ht ta
    refine ⟨_, rfl, _, rfl, t, _, rfl, .inr (SqT.of ht1), a, c, m + 2, _, rfl, s1, by rw [lx]; omega, by rw [lx]; omega, fun r2 H2 r20 r21 s2 k2 => ?_⟩
    rw [lx] at r21
    obtain ⟨j, rfl⟩ : ∃ j : Nat, r2 = j := ⟨r2.toNat, by omega⟩
    have hj : j < zs.length + 1 := by omega
    refine ⟨_, rfl, a, c, m + 1, 6, rfl, s2, by decide, by decide, fun r3 H3 r30 r31 s3 k3 => ?_⟩
    have any3 := (any1.same (ex_keep k2 pa)).same (ex_keep k3 pa)
    have K3 : Keep a H H3 := (K1.trans k2).trans k3
    have ht3 := K3 _ _ ht ta
    have s3m : SrcAt H3 a c m := s3.mono (by omega)
    have itx : ∀ y ∈ (V.str T :: zs.map V.str), ∀ H' : Hp, Itm K H' y := fun y my H' => by
      rcases List.mem_cons.mp my with rfl | my
      · exact itm_str (Nat.le_trans pt.strs.1 (by decide)) (pt.all T List.mem_cons_self)
      · obtain ⟨z, mz, rfl⟩ := List.mem_map.mp my
        exact itm_str (Nat.le_trans (pt.strs.2 z mz) (by decide)) (pt.all z (List.mem_cons_of_mem _ mz))
    -- new places
    have new3 : ∀ (b : Addr) (H' : Hp), Same H3 H' → H' b = none → H b = none := fun b H' sm n => K3.free (sm.free n) s3.some
    -- a tuple of items told
    have told : ∀ (u : Addr) (H' : Hp) (ys : List V), Same H3 H' → (u = t ∨ H u = none) → H' u = some (.tup ys) → ys.length ≤ 100 → (∀ y ∈ ys, y ∈ (V.str T :: zs.map V.str) ∨ Itm K (Ex (Pr H t) H3) y) → Q (.ref u) H' := fun u H' ys sm nu hu ly hy =>
      k (.ref u) (some ys) H' ⟨⟨u, rfl, by rw [ex_at (pr_new nu)]; exact hu, Nat.le_trans ly (by decide), fun y my => (hy y my).elim (fun q => itx y q _) fun q => q.same (ex_keep (Keep.of sm) pa)⟩, .inl ⟨u, rfl⟩⟩ (s3m.same sm) (K3.trans (Keep.of sm))
    refine ⟨_, rfl, rfl, _, rfl, ?_⟩
    refine ite2 (fun _ => ?_) (fun _ => ?_)
    · refine ⟨_, rfl, t, _, rfl, .inr (SqT.of ht3), fun l nl => ?_⟩
      have sm : Same H3 (upd H3 l (.lst (.str T :: zs.map V.str))) := same_new nl
      exact k (.ref l) none _ (ask_lst (by rw [ex_at (pr_new (.inr (new3 l _ (Same.refl _) nl)))]; exact upd_same)) (s3m.same sm) (K3.trans (Keep.of sm))
    refine ⟨_, rfl, rfl, _, rfl, ?_⟩
    refine ite2 (fun _ => ?_) (fun _ => ?_)
    · refine ⟨_, rfl, by show 1 ≤ sizeLine; decide, fun q nq => ?_⟩
      have sq : Same H3 (upd H3 q (.tup [.str "x"])) := same_new nq
      refine ⟨_, rfl, t, _, rfl, .inr (SqT.of (sq _ _ ht3)), _, _, rfl, rfl, q, _, [.str "x"], rfl, rfl, upd_same, by simp, by rw [lx]; omega, by rw [lx]; omega, by simp, fun r H4 s4 hr4 fr => ?_⟩
      have nr : H r = none := fr.elim (fun z => z ▸ new3 q _ (Same.refl _) nq) (new3 r _ sq)
      have s4' := sq.trans s4
      generalize hR : (List.replicate _ [V.str (Str.ofString "x")]).flatten = R at hr4 ⊢
      have lr : R.length ≤ 4 := by
        rw [← hR, PyProof.Rows.lm_len_rep_flat, lx, List.length_singleton]
        omega
      have mR : ∀ y ∈ R, y = V.str (Str.ofString "x") := fun y my => by
        rw [← hR] at my
        obtain ⟨l, ml, hl⟩ := List.mem_flatten.mp my
        rw [List.eq_of_mem_replicate ml] at hl
        exact List.mem_singleton.mp hl
      refine ⟨t, r, _, _, rfl, rfl, s4' _ _ ht3, hr4, by rw [lx, sizeLine_eq]; omega, fun u H5 s5 hu fu => ?_⟩
      have nu : u = t ∨ H u = none := fu.elim .inl fun z => .inr (z.elim (fun z => z ▸ nr) (new3 u _ s4'))
      have s5' := s4'.trans s5
      refine ⟨_, rfl, by show 1 ≤ sizeLine; decide, fun v nv => ?_⟩
      have sv : Same H5 (upd H5 v (.tup [st])) := same_new nv
      refine ⟨u, v, _, _, rfl, rfl, sv _ _ hu, upd_same, by rw [List.length_append, lx, List.length_singleton, sizeLine_eq]; omega, fun x H6 s6 hx fx => ?_⟩
      have nx : x = t ∨ H x = none := fx.elim (fun z => z ▸ nu) fun z => .inr (z.elim (fun z => z ▸ new3 v _ s5' nv) (new3 x _ (s5'.trans sv)))
      refine told x H6 _ ((s5'.trans sv).trans s6) nx hx (by rw [List.length_append, List.length_append, lx, List.length_singleton]; omega) fun y my => ?_
      rcases List.mem_append.mp my with my | my
      · rcases List.mem_append.mp my with my | my
        · exact .inl my
        · rw [mR y my]
          exact .inr (itm_str (by decide +kernel) (by decide +kernel))
      · rw [List.mem_singleton.mp my]
        exact .inr any3.1
    refine ⟨_, rfl, rfl, _, rfl, ?_⟩
    refine ite2 (fun _ => ?_) (fun _ => ?_)
    · refine ⟨_, rfl, by show 0 ≤ sizeLine; decide, fun q nq => ?_⟩
      have sq : Same H3 (upd H3 q (.tup [])) := same_new nq
      have cq : (upd H3 q (.tup [])) q = some (.tup []) := upd_same
      have zq := s3.ne nq
      have fq : ¬ Pr H t q := pr_new (.inr (new3 q _ (Same.refl _) nq))
      generalize upd H3 q (.tup []) = H4 at sq cq ⊢
      refine fun d nd => ⟨upd_same, [(Sum.inr (Str.ofString "a"), .int 1)], rfl, by simp, ?_⟩
      have sd : Same H4 (upd (upd H4 d (.dK [])) d (.dK (mergeK [] [(Sum.inr (Str.ofString "a"), .int 1)]))) := same_two nd
      have cd : (upd (upd H4 d (.dK [])) d (.dK (mergeK [] [(Sum.inr (Str.ofString "a"), .int 1)]))) d = some (.dK (mergeK [] [(Sum.inr (Str.ofString "a"), .int 1)])) := upd_same
      have zd := (s3.same sq).ne nd
      have fd' : ¬ Pr H t d := pr_new (.inr (new3 d _ sq nd))
      generalize upd (upd H4 d (.dK [])) d (.dK (mergeK [] [(Sum.inr (Str.ofString "a"), .int 1)])) = H5 at sd cd ⊢
      refine ⟨by show 7 ≤ sizeLine; decide, fun l nl => ?_⟩
      have s5 := s3.same (sq.trans sd)
      have zl := s5.ne nl
      have sl : Same H5 (upd H5 l (.lst [st, .non, .ref q, .str "a", .ref d, .int 7, .bl false])) := same_new nl
      have cl : (upd H5 l (.lst [st, .non, .ref q, .str "a", .ref d, .int 7, .bl false])) l = some (.lst [st, .non, .ref q, .str "a", .ref d, .int 7, .bl false]) := upd_same
      refine ⟨_, rfl, a, c, m, 7, rfl, s5.same sl, by decide, by decide, fun r6 H6 r60 r61 s6 k6 => ?_⟩
      obtain ⟨j6, rfl⟩ : ∃ j : Nat, r6 = j := ⟨r6.toNat, by omega⟩
      have hj6 : j6 < [st, .non, .ref q, .str "a", .ref d, .int 7, .bl false].length := by
        show j6 < 7
        omega
      refine ⟨l, _, _, _, rfl, rfl, SqL.of (k6 _ _ cl zl), atI_nat (List.getElem?_eq_getElem hj6), ?_⟩
      have K36 : Keep a H3 H6 := ((Keep.of (sq.trans sd)).trans (Keep.of sl)).trans k6
      have any6 := any3.same (ex_keep K36 pa)
      have cq6 : Ex (Pr H t) H6 q = some (.tup []) := by
        rw [ex_at fq]
        exact k6 _ _ (sl _ _ (sd _ _ cq)) zq
      have cd6 : Ex (Pr H t) H6 d = some (.dK (mergeK [] [(Sum.inr (Str.ofString "a"), .int 1)])) := by
        rw [ex_at fd']
        exact k6 _ _ (sl _ _ cd) zd
      have fin : ∀ x o, AskS K (Ex (Pr H t) H6) x o → Q x H6 := fun x o ask => k x o H6 ask s6 (K3.trans K36)
      have hmem := List.getElem_mem hj6
      generalize ([st, .non, .ref q, .str "a", .ref d, .int 7, .bl false] : List V)[j6] = x at hmem ⊢
      simp only [List.mem_cons, List.not_mem_nil, or_false] at hmem
      rcases hmem with rfl | rfl | rfl | rfl | rfl | rfl | rfl
      · obtain ⟨o, q⟩ := any6.2
        exact fin _ o q
      · obtain ⟨o, q⟩ := (any_non (K := K) (H := Ex (Pr H t) H6)).2
        exact fin _ o q
      · exact fin _ (some []) ⟨⟨q, rfl, cq6, by simp, fun y my => by cases my⟩, .inl ⟨q, rfl⟩⟩
      · obtain ⟨o, q⟩ := (any_str (K := K) (H := Ex (Pr H t) H6) (y := "a") (by decide +kernel) (by decide +kernel)).2
        exact fin _ o q
      · exact fin _ none (ask_dic cd6)
      · obtain ⟨o, q⟩ := (any_int (K := K) (H := Ex (Pr H t) H6) 7).2
        exact fin _ o q
      · obtain ⟨o, q⟩ := (any_bl (K := K) (H := Ex (Pr H t) H6) false).2
        exact fin _ o q
    have np1 : ¬ (HT.sIx (V.str T :: zs.map V.str).length 0 none = 0 ∧ HT.sIx (V.str T :: zs.map V.str).length (V.str T :: zs.map V.str).length (some (j : Int)) = (V.str T :: zs.map V.str).length) := by
      rintro ⟨_, e⟩
      rw [HT.sIx_nat, lx] at e
      omega
    have ej : ((j : Int) + 1) = ((j + 1 : Nat) : Int) := by omega
    have np2 : ¬ (HT.sIx (V.str T :: zs.map V.str).length 0 (some ((j : Int) + 1)) = 0 ∧ HT.sIx (V.str T :: zs.map V.str).length (V.str T :: zs.map V.str).length none = (V.str T :: zs.map V.str).length) := by
      rintro ⟨e, _⟩
      rw [ej, HT.sIx_nat, lx] at e
      omega
    -- the pattern with another item in a place
    refine ⟨_, rfl, rfl, _, rfl, ?_⟩
    refine ite2 (fun _ => ?_) (fun _ => ?_)
    · refine ⟨_, rfl, _, rfl, _, rfl, t, _, rfl, SqT.of ht3, np1, fun p np => ?_⟩
      have s4 : Same H3 (upd H3 p (.tup (cutV (.str T :: zs.map V.str) none (some (j : Int))))) := same_new np
      refine ⟨_, rfl, t, _, 0, _, rfl, rfl, SqT.of (s4 _ _ ht3), atI_nat (j := 0) rfl, _, _, rfl, rfl, ?_, by show 1 ≤ sizeLine; decide, fun q nq => ?_⟩
      · have e1 : (Str.ofString "?").length = 1 := by decide +kernel
        have := pt.strs.1
        rw [e1, sizeLine_eq]
        omega
      have s5 : Same (upd H3 p (.tup (cutV (.str T :: zs.map V.str) none (some (j : Int))))) (upd (upd H3 p (.tup (cutV (.str T :: zs.map V.str) none (some (j : Int))))) q (.tup [.str (Str.ofString "?" ++ T)])) := same_new nq
      refine ⟨p, q, _, _, rfl, rfl, s5 _ _ upd_same, upd_same, ?_, fun u H6 s6 hu fu => ?_⟩
      · have := cutV_length (.str T :: zs.map V.str) none (some (j : Int))
        rw [List.length_singleton, sizeLine_eq]
        rw [lx] at this
        omega
      have nu : H u = none := fu.elim (fun z => z ▸ new3 p _ (Same.refl _) np) fun z => z.elim (fun z => z ▸ new3 q _ s4 nq) (new3 u _ (s4.trans s5))
      have s6' := (s4.trans s5).trans s6
      refine ⟨_, rfl, _, rfl, _, _, rfl, rfl, _, rfl, t, _, rfl, SqT.of (s6' _ _ ht3), np2, fun r nr => ?_⟩
      have s7 : Same H6 (upd H6 r (.tup (cutV (.str T :: zs.map V.str) (some ((j : Int) + 1)) none))) := same_new nr
      have b1 := cutV_length (.str T :: zs.map V.str) none (some (j : Int))
      have b2 := cutV_length (.str T :: zs.map V.str) (some ((j : Int) + 1)) none
      rw [lx] at b1 b2
      refine ⟨u, r, _, _, rfl, rfl, s7 _ _ hu, upd_same, by rw [List.length_append, List.length_singleton, sizeLine_eq]; omega, fun x H8 s8 hx fx => ?_⟩
      have nx : H x = none := fx.elim (fun z => z ▸ nu) fun z => z.elim (fun z => z ▸ new3 r _ s6' nr) (new3 x _ (s6'.trans s7))
      refine told x H8 _ ((s6'.trans s7).trans s8) (.inr nx) hx (by rw [List.length_append, List.length_append, List.length_singleton]; omega) fun y my => ?_
      rw [cutV_to, ej, cutV_from] at my
      rcases List.mem_append.mp my with my | my
      · rcases List.mem_append.mp my with my | my
        · exact .inl (List.mem_of_mem_take my)
        · rw [List.mem_singleton.mp my]
          refine .inr (itm_str ?_ fun x hx => ?_)
          · have e1 : (Str.ofString "?").length = 1 := by decide +kernel
            have := pt.strs.1
            rw [len_app, e1]
            omega
          · rw [tl_append, tl_q] at hx
            rcases List.mem_append.mp hx with hx | hx
            · rw [List.mem_singleton.mp hx]
              decide
            · exact pt.all T List.mem_cons_self x hx
      · exact .inl (List.mem_of_mem_drop my)
    · refine ⟨_, rfl, _, rfl, _, rfl, t, _, rfl, SqT.of ht3, np1, fun p np => ?_⟩
      have s4 : Same H3 (upd H3 p (.tup (cutV (.str T :: zs.map V.str) none (some (j : Int))))) := same_new np
      refine ⟨_, rfl, by show 1 ≤ sizeLine; decide, fun q nq => ?_⟩
      have s5 : Same (upd H3 p (.tup (cutV (.str T :: zs.map V.str) none (some (j : Int))))) (upd (upd H3 p (.tup (cutV (.str T :: zs.map V.str) none (some (j : Int))))) q (.tup [st])) := same_new nq
      refine ⟨p, q, _, _, rfl, rfl, s5 _ _ upd_same, upd_same, ?_, fun u H6 s6 hu fu => ?_⟩
      · have := cutV_length (.str T :: zs.map V.str) none (some (j : Int))
        rw [List.length_singleton, sizeLine_eq]
        rw [lx] at this
        omega
      have nu : H u = none := fu.elim (fun z => z ▸ new3 p _ (Same.refl _) np) fun z => z.elim (fun z => z ▸ new3 q _ s4 nq) (new3 u _ (s4.trans s5))
      have s6' := (s4.trans s5).trans s6
      refine ⟨_, rfl, _, rfl, _, _, rfl, rfl, _, rfl, t, _, rfl, SqT.of (s6' _ _ ht3), np2, fun r nr => ?_⟩
      have s7 : Same H6 (upd H6 r (.tup (cutV (.str T :: zs.map V.str) (some ((j : Int) + 1)) none))) := same_new nr
      have b1 := cutV_length (.str T :: zs.map V.str) none (some (j : Int))
      have b2 := cutV_length (.str T :: zs.map V.str) (some ((j : Int) + 1)) none
      rw [lx] at b1 b2
      refine ⟨u, r, _, _, rfl, rfl, s7 _ _ hu, upd_same, by rw [List.length_append, List.length_singleton, sizeLine_eq]; omega, fun x H8 s8 hx fx => ?_⟩
      have nx : H x = none := fx.elim (fun z => z ▸ nu) fun z => z.elim (fun z => z ▸ new3 r _ s6' nr) (new3 x _ (s6'.trans s7))
      refine told x H8 _ ((s6'.trans s7).trans s8) (.inr nx) hx (by rw [List.length_append, List.length_append, List.length_singleton]; omega) fun y my => ?_
      rw [cutV_to, ej, cutV_from] at my
      rcases List.mem_append.mp my with my | my
      · rcases List.mem_append.mp my with my | my
        · exact .inl (List.mem_of_mem_take my)
        · rw [List.mem_singleton.mp my]
          exact .inr any3.1
      · exact .inl (List.mem_of_mem_drop my)
end
end L2.LawH
set_option Elab.async false
set_option linter.all false
set_option maxRecDepth 100000
set_option maxHeartbeats 8000000
/-! _law_strange. -/
namespace L2.LawH
open PySem PySem.Spec PyProof.Rows L2.TxtSet TL L2.NSet PySem.W L2.OwnOp
abbrev sLStrange : Stmt := top 36
/-- one and the same object at both sides -/
def DRef : Eqv := fun x y _ => ∃ p, x = .ref p ∧ y = .ref p
theorem eqG_ref {X : Cx} : EqG X 0 DRef := by
  intro A pins s σ H x y u v sb I rx ry d
  obtain ⟨p, rfl, rfl⟩ := d
  cases rx
  cases ry
  unfold eqBool
  refine wpAny_holding ?_
  rw [if_pos (show (Value.ref p == Value.ref p) = true by simp)]
  exact wpAny_bind (wpAny_rule (wpAny_pure ⟨rfl, H, I, Ext.rfl'⟩))
abbrev DSm : Eqv := fun x y H => DRef x y H ∨ DFlat x y H
theorem mon_ref : Mon DRef := fun _ _ _ _ _ d => d
theorem mon_sm : Mon DSm := mon_ref.or mon_flat
theorem eq_sm {X : Cx} : EqG X 0 DSm := eqG_ref.or eqG_flat
theorem smp_sm {x : V} {H : Hp} (h : Smp x) : DSm x x H := h.elim (fun ⟨p, e⟩ => .inl ⟨p, e, e⟩) fun ⟨f, e⟩ => .inr ⟨f, f, e⟩
end L2.LawH
namespace L2.LawH
open PySem PySem.Spec PyProof.Rows L2.TxtSet TL L2.NSet PySem.W L2.OwnOp
theorem Fct.patG {c : Fc} (h : Fct c) : PatG c.1 c.2 := ⟨h.nT, h.l3, fun z hz => .inl (h.nz z hz)⟩
theorem has_no {M : List Pt} (f : ∀ x ∈ M, Fct x.2) {a : Option (List V)} (h : fAns a = false) : hasB M a = false := by
  cases a with
  | none => rfl
  | some ys =>
    refine decide_eq_false fun m => ?_
    obtain ⟨x, hx, rfl⟩ := List.mem_map.mp m
    have e : factB (ptV x) = true := (f x hx).fact
    have h' : factB (ptV x) = false := h
    rw [e] at h'
    cases h'
theorem ex_sub {p : Addr → Prop} {H : Hp} : Same (Ex p H) H := fun b o e => (ex_some e).2
abbrev DB (K : PySem.W.Frag) : Eqv := fun x y H => DTup K DFlat x y H ∨ DFlat x y H
theorem mon_B {K : PySem.W.Frag} : Mon (DB K) := (mon_tup mon_flat).or mon_flat
theorem op_eqB {X : Cx} {K : PySem.W.Frag} (e : X.K = K) (hr : Room 2 X.A) : OpR X (compareOp .Eq) (rEqG (DTup K (DB K))) := by
  subst e
  exact op_eqG (rcG_tup mon_B ((eqG_tup mon_flat eqG_flat).or (eqG_flat.mono (by decide)))) hr
theorem op_neSm {X : Cx} {K : PySem.W.Frag} (e : X.K = K) (hr : Room 1 X.A) : OpR X (compareOp .NotEq) (rNeG (DTup K DSm)) := by
  subst e
  exact op_neG (ncG_tup mon_sm eq_sm) hr
/-- the fact that stands for none -/
def othP : Fc := (Str.ofString "p", [Str.ofString "q"])
theorem fct_P : Fct othP := ⟨by unfold Nm; decide +kernel, by decide, fun z hz => by
  rw [List.mem_singleton.mp hz]
  unfold Nm
  decide +kernel⟩
def spStrange (K : PySem.W.Frag) : Sp := fun vs H Q _ => ∃ (a q r : Addr) (c : Int) (m : Nat) (π : Pool) (Gs Ms : List Pt), vs = [.ref a, .ref q, .ref r] ∧ SrcAt H a c (m + 16) ∧ H q = some (.lst (Gs.map fun x => V.ref x.1)) ∧ H r = some (.lst (Ms.map fun x => V.ref x.1)) ∧ q ≠ a ∧ r ≠ a ∧
  FsP a π H Gs ∧ FsP a π H Ms ∧ Gs.length ≤ 16 ∧ Ms.length ≤ 16 ∧ ∀ H', SrcAt H' a c m → Keep a H H' → Q (.bl true) H'
section
variable {P : Program} {w : World} {K : PySem.W.Frag} {mg : Str → Option Value} {base : Heap}
abbrev nStr : List Str := ["_law_source_here", "_law_facts_here", "_law_more", "_law_k", "_law_value"]
theorem scStr : FnScope nStr ["_law_source_here", "_law_facts_here", "_law_more"] (defScope sLStrange) := ⟨rfl, rfl, rfl, by decide +kernel, rfl, by decide +kernel, by decide +kernel⟩
theorem ok_strange {f C : Addr} {fd : FuncData} (F : Fun K "_law_strange" "_law_strange" sLStrange f fd) (Z : StF P w K mg base C)
    (Od : OF P w K mg base "_law_odd" 2 ["_law_source_here", "_law_pattern_here"] (spOdd K)) (Lp : OF P w K mg base "_law_is_pattern" 3 ["_law_value", "_law_open_too"] (spLIP K)) (Re : OF P w K mg base "_law_refused" 7 ["_law_facts_here"] (spRefused K))
    (mr : mg "range" = none) :
    FnOk P w K mg base CX0 8 f fd ["_law_source_here", "_law_facts_here", "_law_more"] (spStrange K) := by
  obtain ⟨T, c, mC, sf, no, ⟨fI, fdI, MI, GI, bI⟩, _, _, ⟨fH, fdH, GH, bH, iH, nH, kH⟩, _⟩ := Z
  obtain ⟨fOd, fdOd, GOd, kOd, bOd, mOd⟩ := Od
  obtain ⟨fLp, fdLp, GLp, kLp, bLp, mLp⟩ := Lp
  obtain ⟨fRe, fdRe, GRe, kRe, bRe, mRe⟩ := Re
  refine F.ok scStr (fun vs H Q E h => ?_) (fun cdv A outer s H vs Q E hr h => ?_)
  · obtain ⟨a, q, r, ci, m, π, Gs, Ms, rfl, _⟩ := h
    rfl
  · obtain ⟨a, q, r, ci, m, π, Gs, Ms, rfl, src, hq, hrr, qa, ra, fG, fM, lG, lM, k⟩ := h
    have hr1 : Room 1 _ := hr.mono (by decide)
    have hr2 : Room 2 _ := hr.mono (by decide)
    have hr3 : Room 3 _ := hr.mono (by decide)
    have hr5 : Room 5 _ := hr.mono (by decide)
    have hr6 : Room 6 _ := hr.mono (by decide)
    refine ⟨_, pss_cons (ps_for PassesOwn.never rfl (pi_range1 (by rfl) mr (pa_cons pe_int pa_nil)) (pg_name (i := 3) scStr.nd rfl (Or.inl rfl))
        (pss_cons (ps_set (i := 4) scStr.nd rfl (Or.inl rfl) (pe_call GOd hr2 (by rfl) mOd kOd bOd .nil pass0 (pa_cons (pv 0) (pa_cons (pe_ix ix_list (pe_op op_cat (pe_op op_cat (pv 1) (pv 2)) (pe_lst (pa_cons (pe_tup (pa_cons pe_str (pa_cons pe_str pa_nil))) pa_nil))) pe_int (fun _ _ => rfl)) pa_nil))))
        (pss_cons (ps_if (pt_val (pe_call GLp hr3 (by rfl) mLp kLp bLp .nil pass0 (pa_cons (pv 4) (pa_cons pe_bl pa_nil)))) (pss_one ps_continue) pss_nil)
        (pss_one (ps_if (PW.pt (pw_or (pt_cmpR (op_inOwn (C := C) GH bH ⟨iH, nH⟩ hr5 pass0) (pv 4) (pe_make MI GI hr6 (by rfl) mC bI .nil pass0 (pa_cons (pv 1) pa_nil)) (by rfl))
            (pw_or1 (pt_cmpR (op_neSm (K := K) rfl hr1) (pe_call GRe hr (by rfl) mRe kRe bRe .nil pass0 (pa_cons (pe_op op_cat (pv 1) (pe_lst (pa_cons (pv 4) (pa_cons pe_non pa_nil)))) pa_nil)) (pe_tup (pa_cons pe_str (pa_cons (pv 4) pa_nil))) (nomark _))))) (pss_one (ps_ret pe_bl)) pss_nil)))))
      (pss_one (ps_ret (pe_and (pe_cmpR (op_eqB (K := K) rfl hr2) (pe_call GRe hr (by rfl) mRe kRe bRe .nil pass0 (pa_cons (pe_op op_cat (pv 1) (pe_lst (pa_cons (pe_tup (pa_cons pe_str (pa_cons pe_str pa_nil))) pa_nil))) pa_nil)) (pe_tup (pa_cons pe_str (pa_cons (pe_tup (pa_cons pe_str (pa_cons pe_str pa_nil))) pa_nil))) (nomark _))
        (pe_one (pe_cmpR (op_notInOwn (C := C) GH bH ⟨iH, nH⟩ hr5 pass0) (pe_tup (pa_cons pe_str (pa_cons pe_str pa_nil))) (pe_make MI GI hr6 (by rfl) mC bI .nil pass0 (pa_cons (pv 1) pa_nil)) (by rfl)))))), ?_⟩
    refine ⟨4, rfl, by decide, by decide, for_range (lo := 0) (n := 4) (fun i σ H5 => ∃ (v3 v4 : Option V), σ = [some (.ref a), some (.ref q), some (.ref r), v3, v4] ∧ SrcAt H5 a ci (m + 4 * (4 - i)) ∧ Keep a H H5)
      ⟨none, none, rfl, src.mono (by omega), Keep.of (Same.refl _)⟩ (fun i σ H5 hi pp => ?_) (fun σ H5 pp => ?_)⟩
    · obtain ⟨v3, v4, rfl, p1, p2⟩ := pp
      have hq5 := p2 _ _ hq qa
      have hr5' := p2 _ _ hrr ra
      refine ⟨_, rfl, _, rfl, _, rfl, q, r, _, _, rfl, rfl, hq5, hr5', by rw [List.length_map, List.length_map, sizeLine_eq]; omega, fun l1 nl1 => ?_⟩
      refine ⟨(by show 2 ≤ sizeLine; rw [sizeLine_eq]; decide), fun t1 nt1 => ?_⟩
      refine ⟨(by show 1 ≤ sizeLine; rw [sizeLine_eq]; decide), fun l2 nl2 => ?_⟩
      have sA : Same H5 (upd H5 l1 (.lst (Gs.map (fun x => V.ref x.1) ++ Ms.map (fun x => V.ref x.1)))) := same_new nl1
      have cA : (upd H5 l1 (.lst (Gs.map (fun x => V.ref x.1) ++ Ms.map (fun x => V.ref x.1)))) l1 = some (.lst (Gs.map (fun x => V.ref x.1) ++ Ms.map (fun x => V.ref x.1))) := upd_same
      have nt1 : (upd H5 l1 (.lst (Gs.map (fun x => V.ref x.1) ++ Ms.map (fun x => V.ref x.1)))) t1 = none := nt1
      have sB : Same _ (upd (upd H5 l1 (.lst (Gs.map (fun x => V.ref x.1) ++ Ms.map (fun x => V.ref x.1)))) t1 (.tup [.str (Str.ofString "p"), .str (Str.ofString "q")])) := same_new nt1
      have cB : (upd (upd H5 l1 (.lst (Gs.map (fun x => V.ref x.1) ++ Ms.map (fun x => V.ref x.1)))) t1 (.tup [.str (Str.ofString "p"), .str (Str.ofString "q")])) t1 = some (.tup [.str (Str.ofString "p"), .str (Str.ofString "q")]) := upd_same
      have nl2 : (upd (upd H5 l1 (.lst (Gs.map (fun x => V.ref x.1) ++ Ms.map (fun x => V.ref x.1)))) t1 (.tup [.str (Str.ofString "p"), .str (Str.ofString "q")])) l2 = none := nl2
      have sC : Same _ (upd (upd (upd H5 l1 (.lst (Gs.map (fun x => V.ref x.1) ++ Ms.map (fun x => V.ref x.1)))) t1 (.tup [.str (Str.ofString "p"), .str (Str.ofString "q")])) l2 (.lst [.ref t1])) := same_new nl2
      refine ⟨l1, l2, _, _, rfl, rfl, sC _ _ (sB _ _ cA), upd_same, by rw [List.length_append, List.length_map, List.length_map]; show _ + 1 ≤ sizeLine; rw [sizeLine_eq]; omega, fun l3 nl3 => ?_⟩
      have sD := same_new (o := .lst (Gs.map (fun x => V.ref x.1) ++ Ms.map (fun x => V.ref x.1) ++ [.ref t1])) nl3
      generalize hHE : upd _ l3 _ = HE at sD ⊢
      have cE : HE l3 = some (.lst ((Gs ++ Ms ++ [((t1, othP) : Pt)]).map fun x => V.ref x.1)) := by
        rw [← hHE, upd_same, List.map_append, List.map_append]
        rfl
      have sE : Same H5 HE := ((sA.trans sB).trans sC).trans sD
      have ct : HE t1 = some (.tup (ptV (t1, othP))) := sD _ _ (sC _ _ cB)
      clear hHE sD sC sB sA cA cB nl3 nl2 nt1
      have kE : Keep a H HE := p2.trans (Keep.of sE)
      have fall : ∀ x ∈ Gs ++ Ms ++ [((t1, othP) : Pt)], HE x.1 = some (.tup (ptV x)) ∧ Fct x.2 := fun x hx => by
        rcases List.mem_append.mp hx with hx | hx
        · rcases List.mem_append.mp hx with hx | hx
          · exact ⟨kE _ _ (fG.each x hx).1 (fG.each x hx).2, fG.fct x hx⟩
          · exact ⟨kE _ _ (fM.each x hx).1 (fM.each x hx).2, fM.fct x hx⟩
        · rw [List.mem_singleton.mp hx]
          exact ⟨ct, fct_P⟩
      have ne : 0 < (Gs ++ Ms ++ [((t1, othP) : Pt)]).length := by rw [List.length_append]; show 0 < _ + 1; omega
      obtain ⟨x0, hx0⟩ : ∃ x0, (Gs ++ Ms ++ [((t1, othP) : Pt)])[0]? = some x0 := ⟨_, List.getElem?_eq_getElem ne⟩
      obtain ⟨h0, f0⟩ := fall x0 (List.mem_of_getElem? hx0)
      refine ⟨l3, _, 0, .ref x0.1, rfl, rfl, SqL.of cE, atI_nat (j := 0) (by rw [List.getElem?_map, hx0]; rfl), ?_⟩
      refine ⟨a, x0.1, ci, m + 4 * (4 - (i + 1)), x0.2.1, x0.2.2, rfl, (p1.same sE).mono (by omega), h0, f0.patG, fun y o H6 ask0 s6 k6 => ?_⟩
      have ask : Ask K H6 y o := ask0.1.same ex_sub
      have smp := ask0.2
      have k06 : Keep a H H6 := kE.trans k6
      have hq6 := k06 _ _ hq qa
      have fG6 : FsAt H6 Gs := (fG.keep k06).at
      refine ⟨_, rfl, y, false, o, rfl, ask, fun H7 s7 => ⟨_, rfl, ?_⟩⟩
      rw [if_neg Bool.false_ne_true]
      have k07 := k06.trans (Keep.of s7)
      cases hno : fAns o with
      | true =>
        refine iteT ?_
        exact ⟨_, _, rfl, (s6.same s7), k07⟩
      | false =>
        refine iteF ?_
        have ask7 := ask.same s7
        have hq7 := s7 _ _ hq6
        have fG7 := fG6.same s7
        refine ⟨_, rfl, _, rfl, ?_⟩
        dsimp only [tNil, List.cons_append, List.nil_append]
        refine make_fctsA (xs := Gs) (Same.refl _) fG7 (by omega) (.inl (SqL.of hq7)) fun H8 rs R s8 _ _ sR _ => ?_
        obtain ⟨dxR, tR, dR, hR1, _, _⟩ := sR.ex
        refine ⟨rs, dxR, _, rfl, hR1, rs, R, y, o, rfl, sR, ask7.same s8, fun H9 s9 => ⟨_, rfl, _, rfl, ?_⟩⟩
        rw [has_no sR.fct hno]
        refine iteF ?_
        have s79 := s8.trans s9
        have hq9 := s79 _ _ hq7
        refine ⟨_, rfl, _, rfl, (by show 2 ≤ sizeLine; rw [sizeLine_eq]; decide), fun l nl => ?_⟩
        have sF : Same H9 (upd H9 l (.lst [y, .non])) := same_new nl
        have cF : (upd H9 l (.lst [y, .non])) l = some (.lst [y, .non]) := upd_same
        have s7F := s79.trans sF
        have hqF := sF _ _ hq9
        generalize upd H9 l (.lst [y, .non]) = HF at sF cF s7F hqF ⊢
        refine ⟨q, l, _, _, rfl, rfl, hqF, cF, by rw [List.length_map]; show _ + 2 ≤ sizeLine; rw [sizeLine_eq]; omega, fun l4 nl4 => ?_⟩
        have sJ : Same HF (upd HF l4 (.lst (Gs.map (fun x => V.ref x.1) ++ [y, .non]))) := same_new nl4
        have cJ : (upd HF l4 (.lst (Gs.map (fun x => V.ref x.1) ++ [y, .non]))) l4 = some (.lst (Gs.map (fun x => V.ref x.1) ++ y :: [.non])) := upd_same
        have s7J := s7F.trans sJ
        generalize upd HF l4 (.lst (Gs.map (fun x => V.ref x.1) ++ [y, .non])) = HJ at cJ s7J ⊢
        refine ⟨l4, Gs, y, o, [.non], rfl, SqL.of cJ, fG7.same s7J, ask7.same s7J, hno, fun HL u sL _ hu => ?_⟩
        refine ⟨_, rfl, (by show 2 ≤ sizeLine; rw [sizeLine_eq]; decide), fun v nv => ?_⟩
        have sV : Same HL (upd HL v (.tup [.str (Str.ofString "bad"), y])) := same_new nv
        refine ⟨⟨u, v, [.str (Str.ofString "bad"), y], [.str (Str.ofString "bad"), y], rfl, rfl, SqT.of (sV _ _ hu), SqT.of upd_same, .cons (smp_sm (.inr ⟨rfl, by simp [eqV]⟩)) (.cons (smp_sm smp) .nil)⟩, fun HM sM => ⟨_, rfl, iteF ?_⟩⟩
        have sAll := ((s7J.trans sL).trans sV).trans sM
        exact ⟨_, _, rfl, (s6.same s7).same sAll, k07.trans (Keep.of sAll)⟩
    · obtain ⟨v3, v4, rfl, p1, p2⟩ := pp
      have hq5 := p2 _ _ hq qa
      have fG5 := (fG.keep p2).at
      have askX : ∀ {H' : Hp} {u : Addr}, H' u = some (.tup [.str (Str.ofString "p"), .str (Str.ofString "?x")]) → Ask K H' (.ref u) (some [.str (Str.ofString "p"), .str (Str.ofString "?x")]) := fun {H' u} hu => by
        refine ⟨u, rfl, hu, by simp, fun y hy => ?_⟩
        have one : ∀ z : Str, z = Str.ofString "p" ∨ z = Str.ofString "?x" → Itm K H' (.str z) := fun z e => by
          rcases e with rfl | rfl
          · exact itm_str (by decide +kernel) (by decide +kernel)
          · exact itm_str (by decide +kernel) (by decide +kernel)
        rcases List.mem_cons.mp hy with rfl | hy
        · exact one _ (.inl rfl)
        · rw [List.mem_singleton.mp hy]
          exact one _ (.inr rfl)
      have noX : fAns (some [.str (Str.ofString "p"), .str (Str.ofString "?x")]) = false := by
        show factB [.str (Str.ofString "p"), .str (Str.ofString "?x")] = false
        decide +kernel
      refine ⟨_, rfl, (by show 2 ≤ sizeLine; rw [sizeLine_eq]; decide), fun t nt => ?_⟩
      have sA : Same H5 (upd H5 t (.tup [.str (Str.ofString "p"), .str (Str.ofString "?x")])) := same_new nt
      have cA : (upd H5 t (.tup [.str (Str.ofString "p"), .str (Str.ofString "?x")])) t = some (.tup [.str (Str.ofString "p"), .str (Str.ofString "?x")]) := upd_same
      generalize upd H5 t (.tup [.str (Str.ofString "p"), .str (Str.ofString "?x")]) = HA at sA cA ⊢
      refine ⟨(by show 1 ≤ sizeLine; rw [sizeLine_eq]; decide), fun l nl => ?_⟩
      have sB : Same HA (upd HA l (.lst [.ref t])) := same_new nl
      have cB : (upd HA l (.lst [.ref t])) l = some (.lst [.ref t]) := upd_same
      have s5B := sA.trans sB
      have cA := sB _ _ cA
      generalize upd HA l (.lst [.ref t]) = HB at cA cB s5B ⊢
      refine ⟨q, l, _, _, rfl, rfl, s5B _ _ hq5, cB, by rw [List.length_map]; show _ + 1 ≤ sizeLine; rw [sizeLine_eq]; omega, fun l4 nl4 => ?_⟩
      have sC : Same HB (upd HB l4 (.lst (Gs.map (fun x => V.ref x.1) ++ [.ref t]))) := same_new nl4
      have cC : (upd HB l4 (.lst (Gs.map (fun x => V.ref x.1) ++ [.ref t]))) l4 = some (.lst (Gs.map (fun x => V.ref x.1) ++ .ref t :: [])) := upd_same
      have s5C := s5B.trans sC
      have cA := sC _ _ cA
      generalize upd HB l4 (.lst (Gs.map (fun x => V.ref x.1) ++ [.ref t])) = HC at cA cC s5C ⊢
      refine ⟨l4, Gs, .ref t, some [.str (Str.ofString "p"), .str (Str.ofString "?x")], [], rfl, SqL.of cC, fG5.same s5C, askX cA, noX, fun HL u sL _ hu => ?_⟩
      have cA := sL _ _ cA
      have s5L := s5C.trans sL
      refine ⟨(by show 2 ≤ sizeLine; rw [sizeLine_eq]; decide), fun t2 nt2 => ?_⟩
      have sD : Same HL (upd HL t2 (.tup [.str (Str.ofString "p"), .str (Str.ofString "?x")])) := same_new nt2
      have cD : (upd HL t2 (.tup [.str (Str.ofString "p"), .str (Str.ofString "?x")])) t2 = some (.tup [.str (Str.ofString "p"), .str (Str.ofString "?x")]) := upd_same
      have cA := sD _ _ cA
      have hu := sD _ _ hu
      have s5D := s5L.trans sD
      generalize upd HL t2 (.tup [.str (Str.ofString "p"), .str (Str.ofString "?x")]) = HD at cA cD hu s5D ⊢
      refine ⟨(by show 2 ≤ sizeLine; rw [sizeLine_eq]; decide), fun v nv => ?_⟩
      have sV : Same HD (upd HD v (.tup [.str (Str.ofString "bad"), .ref t2])) := same_new nv
      have eqs : ∀ z : Str, DFlat (.str z) (.str z) (upd HD v (.tup [.str (Str.ofString "bad"), .ref t2])) := fun z => ⟨rfl, rfl, by simp [eqV]⟩
      refine ⟨⟨u, v, [.str (Str.ofString "bad"), .ref t], [.str (Str.ofString "bad"), .ref t2], rfl, rfl, SqT.of (sV _ _ hu), SqT.of upd_same, .cons (.inr (eqs _)) (.cons (.inl ⟨t, t2, _, _, rfl, rfl, SqT.of (sV _ _ cA), SqT.of (sV _ _ cD), .cons (eqs _) (.cons (eqs _) .nil)⟩) .nil)⟩, fun HM sM => ⟨_, rfl, iteT ?_⟩⟩
      have s5M := (s5D.trans sV).trans sM
      refine ⟨(by show 2 ≤ sizeLine; rw [sizeLine_eq]; decide), fun t3 nt3 => ?_⟩
      have sN : Same HM (upd HM t3 (.tup [.str (Str.ofString "p"), .str (Str.ofString "?x")])) := same_new nt3
      have cN : (upd HM t3 (.tup [.str (Str.ofString "p"), .str (Str.ofString "?x")])) t3 = some (.tup [.str (Str.ofString "p"), .str (Str.ofString "?x")]) := upd_same
      have s5N := s5M.trans sN
      generalize upd HM t3 (.tup [.str (Str.ofString "p"), .str (Str.ofString "?x")]) = HN at cN s5N ⊢
      refine ⟨_, rfl, ?_⟩
      dsimp only [tNil, List.cons_append, List.nil_append]
      refine make_fctsA (xs := Gs) (Same.refl _) (fG5.same s5N) (by omega) (.inl (SqL.of (s5N _ _ hq5))) fun HO rs R sO _ _ sR _ => ?_
      obtain ⟨dxR, tR, dR, hR1, _, _⟩ := sR.ex
      refine ⟨rs, dxR, _, rfl, hR1, rs, R, .ref t3, some [.str (Str.ofString "p"), .str (Str.ofString "?x")], rfl, sR, askX (sO _ _ cN), fun HP sP => ⟨_, rfl, ?_⟩⟩
      rw [has_no sR.fct noX]
      have sAll := (s5N.trans sO).trans sP
      exact k HP ((p1.same sAll).mono (by omega)) (p2.trans (Keep.of sAll))
end
end L2.LawH
set_option Elab.async false
set_option linter.all false
set_option maxRecDepth 100000
set_option maxHeartbeats 4000000
/-! Methods called by keywords. -/
namespace L2.OwnOp
open PySem PySem.Spec PyProof.Rows
section
variable {X : Cx} {CX : CXT} {k n : Nat} {f C : Addr} {fd : FuncData} {ps ks : List Str} {sp : Sp} {E : XK} {m : Str} {pos apos : Pos} {o : Expr} {kws : List Keyword} {ta : TE} {tk : TA} {g : List Value → List Value → List Value} {gV : List V → List V → List V}
theorem run_kbn {pins : List (Addr × Obj)} {σ : St} {H : Hp} {s : Shared} {Q : VK} {us ws : List Value} {vs zs : List V} (F : FnOk X.prog X.w X.K X.mg X.base CX k f fd ps sp) (hr : Room k X.A) (hb : KBn X.K fd ps n ks g gV) (hx : Passes CX X E)
    (I : Inv X pins σ H s) (r : Vals vs us) (rz : Vals zs ws) (l1 : us.length = n) (l2 : ws.length = ks.length) (h : sp (gV vs zs) H Q E) : wpAny (model X.prog X.w) X.A (call (.ref f) us (ks.zip ws)) (EP X pins σ Q) X.xe s := by
  have r2 := hb.rel r rz
  refine wpAny_call (codeAny_mono (F.run X.A X.stack s H ⟨us, ks.zip ws⟩ (g us ws) (gV vs zs) Q E hr I.env0 (hb.to s us ws I.kIn l1 l2) r2 h) fun r s' hq => ?_)
  cases r with
  | error e => exact hx pins σ H s e s' I hq
  | ok fl =>
    cases fl with
    | ret u => exact I.after hq
    | next => exact False.elim hq
    | brk => exact False.elim hq
    | cont => exact False.elim hq
def tMethK (C : Addr) (m : Str) (n : Nat) (sp : Sp) (gV : List V → List V → List V) (E : XK) (ta : TE) (tk : TA) : TE := fun σ H Q => ta σ H fun x H1 => ∃ a dx fs, x = .ref a ∧ H1 a = some (.ins C dx fs) ∧ fs.lookup m = none ∧ tk σ H1 fun zs H2 => zs.length = n ∧ sp (gV [.ref a] zs) H2 Q E
/-- o.m(k = v) -/
theorem pe_methK {pl : Sem Bool} (he : PE X o ta) (c : Cls X.K C) (hm : Meth X.K C m f) (F : FnOk X.prog X.w X.K X.mg X.base CX k f fd ps sp) (hr : Room k X.A) (hb : KBn X.K fd ps 1 ks g gV) (hx : Passes CX X E) (hkw : PK X kws tk)
    (hall : (backToKw pos (keywordEach kws X.env)).all (·.1.isSome) = true := by rfl) (hks : (backToKw pos (keywordEach kws X.env)).filterMap (·.1) = ks := by rfl)
    (hpl : ((backTo pos (starEach [] X.env)).any (·.1) || (backToKw pos (keywordEach kws X.env)).any (·.1.isNone)) = false := by rfl)
    (ht : eval (.Call (.Attribute o m apos) [] kws pos) X.env = (do
      let ov ← eval o X.env
      standAt apos.atName
      let (f, first) ← holding [ov] (getMethod ov m pl)
      callWith pos f first (backTo pos (starEach [] X.env)) (backToKw pos (keywordEach kws X.env))) := by rfl) :
    PE X (.Call (.Attribute o m apos) [] kws pos) (tMethK C m ks.length sp gV E ta tk) := by
  refine ⟨fun pins s σ H Q I h => ?_⟩
  refine PySem.W.methodCall_KW (pl := pl) (thn (he.run pins s σ H _ I h) fun u s1 ⟨x, H1, I1, rx, a, dx, fs, ex, ea, l, q⟩ => ?_) ht
  subst ex
  obtain rfl : u = Value.ref a := rx
  refine getmeth_ok I1 ea c hm l ?_
  refine PySem.W.callWith_KW0 (first := [.ref a]) (h₀ := X.base) I.ok.mod.kin hm.kp hall (thn (hkw.run pos pins s1 σ H1 _ I1 q) fun ws s2 ⟨zs, H2, I2, rz, lz, q2⟩ => ⟨I2.kIn, ?_⟩) hpl
  rw [hks]
  exact run_kbn (us := [.ref a]) (vs := [.ref a]) F hr hb hx I2 (.cons rfl .nil) rz rfl (rz.length.symm.trans lz) q2
end
section
variable {K : PySem.W.Frag} {x qual : Str} {st : Stmt} {f : Addr} {fd : FuncData}
theorem kbn2 (F : Fun K x qual st f fd) {p q : Str} (h : ∀ (kV doc pm : Value) (an : Option Addr) (cdv ct : Value) (u v : Value), bindArgs (PySem.W.fnOf x qual (defArgs st) (defBody st) (defScope st) .none kV doc pm an cdv ct) ⟨[u], [(q, v)]⟩ = pure [(p, u), (q, v)]) :
    KBn K fd [p, q] 1 [q] (fun us ws => us ++ ws) (fun vs zs => vs ++ zs) := by
  obtain ⟨oc, od, kV, doc, pm, an, cdv, ct, osl, rfl, lk, hcd⟩ := F.ex
  refine ⟨fun s us ws _ l1 l2 => ?_, fun r1 r2 => r1.append r2⟩
  match us, l1, ws, l2 with
  | [u], _, [v], _ => exact .of_eq (h kV doc pm an cdv ct u v)
end
end L2.OwnOp
set_option Elab.async false
set_option linter.all false
set_option maxRecDepth 100000
set_option maxHeartbeats 16000000
/-! The law on stores: its rows. -/
namespace L2.LawH
open PySem PySem.Spec PyProof.Rows L2.TxtSet TL L2.NSet PySem.W L2.OwnOp
open Builtin.Int (intBits)
abbrev sLaw : Stmt := top 37
def spLaw (K : PySem.W.Frag) : Sp := fun vs H Q _ => ∃ (a : Addr) (ns : List Int), vs = [.ref a] ∧ SqL K H a (ns.map V.int) ∧ ns.length ≤ 63 ∧
  (∀ n ∈ ns, intBits n ≤ 1048576) ∧ ∀ H', Q (.bl true) H'
/-- Store, with its calls by keywords -/
structure StK (P : Program) (w : World) (K : PySem.W.Frag) (mg : Str → Option Value) (base : Heap) (C : Addr) : Prop where
  Z : StF P w K mg base C
  I0 : ∃ fI fd T0, Mk K C fI ∧ FnOk P w K mg base CX0 5 fI fd ["self", "facts"] (spInitS C K) ∧ Binds K fd ["self", "facts"] [] ∧ Binds K fd ["self", "facts"] [.ref T0] ∧ (∀ H, SqT K H T0 []) ∧
    ∃ g, KBn K fd ["self", "facts"] 1 ["facts"] g (fun vs zs => vs ++ zs)
  Wk : ∃ f fd, FnOk P w K mg base CX0 6 f fd ["self", "other"] (spWithinS C K) ∧ Meth K C "within" f ∧ KBn K fd ["self", "other"] 1 ["other"] (fun us ws => us ++ ws) (fun vs zs => vs ++ zs)
  Ok : ∃ f fd, FnOk P w K mg base CX0 7 f fd ["self", "tables"] (spOnlyS C K) ∧ Meth K C "only" f ∧ KBn K fd ["self", "tables"] 1 ["tables"] (fun us ws => us ++ ws) (fun vs zs => vs ++ zs)
  sl : PySem.W.subIn K (.type "list") (.ref C) = some false
  st : PySem.W.subIn K (.type "tuple") (.ref C) = some false
  kl : PySem.W.kitOne K (.type "list") (.ref C) = some false
  kt : PySem.W.kitOne K (.type "tuple") (.ref C) = some false
theorem op_addOwn {X : Cx} {n : Nat} {C f : Addr} {fd : FuncData} {ps : List Str} {sp : Sp} (F : FnOk X.prog X.w X.K X.mg X.base CX0 n f fd ps sp) (hb : Binds X.K fd ps []) (m : OwnM X C f "__add__") (hc : PySem.W.selfFirst X.K C = true) (hr : Room n X.A) (hx : Passes CX0 X E0) :
    OpR X (binaryOp .Add) (rBinOwn C sp) := op_binOwn (op := .Add) F hb m hc hr hx
theorem op_subOwn {X : Cx} {n : Nat} {C f : Addr} {fd : FuncData} {ps : List Str} {sp : Sp} (F : FnOk X.prog X.w X.K X.mg X.base CX0 n f fd ps sp) (hb : Binds X.K fd ps []) (m : OwnM X C f "__sub__") (hc : PySem.W.selfFirst X.K C = true) (hr : Room n X.A) (hx : Passes CX0 X E0) :
    OpR X (binaryOp .Sub) (rBinOwn C sp) := op_binOwn (op := .Sub) F hb m hc hr hx
theorem cut_ints {ns : List Int} (hb : ∀ z ∈ ns, intBits z ≤ 1048576) {i : Nat} {v : V} (lo hi : Option Int)
    (h : (cutV (ns.map V.int) lo hi ++ [V.int 0])[i]? = some v) : ∃ z, v = .int z ∧ intBits z ≤ 1048576 := by
  have hm := List.mem_of_getElem? h
  rcases List.mem_append.mp hm with q | q
  · have q2 : v ∈ ns.map V.int := List.mem_of_mem_drop (List.mem_of_mem_take q)
    obtain ⟨z, hz, rfl⟩ := List.mem_map.mp q2
    exact ⟨z, rfl, hb z hz⟩
  · have q2 : v = .int 0 := by simpa using q
    exact ⟨0, q2, by decide⟩
/-- a Store stays when a list is exchanged -/
theorem StM.but {C : Addr} {H H' : Hp} {a p : Addr} {M : List Pt} {xs : List V} (h : StM C H a M) (hp : H p = some (.lst xs)) (k : Keep p H H') : StM C H' a M := by
  obtain ⟨⟨dx, t, d, h1, h2, h3⟩, e, f, g, l⟩ := h
  have ne : ∀ {b o}, H b = some o → (∀ ys, o ≠ .lst ys) → b ≠ p := fun {b o} hb no z => by
    rw [z, hp] at hb
    cases hb
    exact no _ rfl
  exact ⟨⟨dx, t, d, k _ _ h1 (ne h1 fun _ q => nomatch q), k _ _ h2 (ne h2 fun _ q => nomatch q), k _ _ h3 (ne h3 fun _ q => nomatch q)⟩, fun x m => k _ _ (e x m) (ne (e x m) fun _ q => nomatch q), f, g, l⟩
theorem StM.keep {C : Addr} {H H' : Hp} {a p : Addr} {c : Int} {m : Nat} {M : List Pt} (h : StM C H a M) (src : SrcAt H p c m) (k : Keep p H H') : StM C H' a M := let ⟨_, _, e, _⟩ := src; h.but e k
theorem src_ne {H : Hp} {p b : Addr} {c : Int} {m : Nat} {C dx : Addr} {fs : List (Str × V)} (src : SrcAt H p c m) (h : H b = some (.ins C dx fs)) : b ≠ p := fun e => by
  obtain ⟨_, _, e2, _⟩ := src
  rw [e, e2] at h
  cases h
theorem few16 {cs : List Fc} {A B : List Pt} (nd : cs.Nodup) (a8 : A.length ≤ 8) (b8 : B.length ≤ 8) (h : ∀ c ∈ cs, c ∈ A.map (·.2) ∨ c ∈ B.map (·.2)) : cs.length ≤ 16 := by
  have := nodup_len cs ((A ++ B).map (·.2)) nd fun c hc => by
    rw [List.map_append, List.mem_append]
    exact h c hc
  rw [List.length_map, List.length_append] at this
  omega
theorem few_trms {cs : List Fc} {T : List Str} (h : ∀ c ∈ cs, ∀ z ∈ c.2, z ∈ T) (l : T.length ≤ 9) : (uniq (trms cs)).length ≤ 20 := by
  have := nodup_len (uniq (trms cs)) T (uniq_nodup _) fun z hz => by
    have hz := uniq_mem.mp hz
    unfold trms at hz
    obtain ⟨c, hc, hz⟩ := List.mem_flatMap.mp hz
    exact h c hc z hz
  omega
theorem map_ex {Fs : List Pt} {P : Fc → Prop} (h : ∀ x ∈ Fs, P x.2) : ∀ c ∈ Fs.map (·.2), P c := fun c hc => by
  obtain ⟨x, hx, rfl⟩ := List.mem_map.mp hc
  exact h x hx
theorem len_of {A B : List Pt} (h : A.map (·.2) = B.map (·.2)) : A.length = B.length := by
  have := congrArg List.length h
  rwa [List.length_map, List.length_map] at this
theorem asc_filter {G : List Pt} (h : Asc (G.map (·.2))) (p : Pt → Bool) : Asc ((G.filter p).map (·.2)) := List.Pairwise.sublist ((List.filter_sublist).map _) h
theorem mem_fil {G : List Pt} {q : Fc → Bool} (c : Fc) : c ∈ (G.filter fun x => q x.2).map (·.2) ↔ c ∈ G.map (·.2) ∧ q c = true := by
  constructor
  · intro h
    obtain ⟨x, hx, rfl⟩ := List.mem_map.mp h
    obtain ⟨m, e⟩ := List.mem_filter.mp hx
    exact ⟨List.mem_map.mpr ⟨x, m, rfl⟩, e⟩
  · rintro ⟨h, e⟩
    obtain ⟨x, hx, rfl⟩ := List.mem_map.mp h
    exact List.mem_map.mpr ⟨x, List.mem_filter.mpr ⟨hx, e⟩, rfl⟩
theorem within_none {M1 M2 G1 G2 : List Pt} (c1 : M1.map (·.2) = G1.map (·.2)) (c2 : M2.map (·.2) = G2.map (·.2)) :
    (M1.all fun x => decide (x.2 ∈ M2.map (·.2))) = decide ((((G1.filter fun x => !decide (x.2 ∈ G2.map (·.2))).map (·.2)).map facD).length = 0) := by
  rw [Bool.eq_iff_iff, List.all_eq_true, decide_eq_true_iff, List.length_map, List.length_map, List.length_eq_zero_iff, List.filter_eq_nil_iff]
  constructor
  · intro h x hx
    have m : x.2 ∈ M1.map (·.2) := by rw [c1]; exact List.mem_map.mpr ⟨x, hx, rfl⟩
    obtain ⟨y, hy, e⟩ := List.mem_map.mp m
    have h2 := of_decide_eq_true (h y hy)
    rw [e, c2] at h2
    simp [h2]
  · intro h x hx
    have m : x.2 ∈ G1.map (·.2) := by rw [← c1]; exact List.mem_map.mpr ⟨x, hx, rfl⟩
    obtain ⟨y, hy, e⟩ := List.mem_map.mp m
    have h2 := h y hy
    rw [e] at h2
    refine decide_eq_true ?_
    rw [c2]
    simpa using h2
theorem src_neL {H : Hp} {p b : Addr} {c : Int} {m : Nat} {G : List Pt} (src : SrcAt H p c m) (h : H b = some (.lst (G.map fun x => V.ref x.1))) : b ≠ p := fun e => by
  obtain ⟨_, _, e2, _⟩ := src
  rw [e, e2] at h
  have h := Option.some.inj h
  injection h with h
  cases G with
  | nil => cases h
  | cons x G =>
    rw [List.map_cons] at h
    injection h with h1 h2
    cases h1
theorem FsAt.sub3 {H : Hp} {Fs Gs : List Pt} (h : FsAt H Fs) (s : ∀ x ∈ Gs, x ∈ Fs) : FsAt H Gs := ⟨fun x hx => h.each x (s x hx), fun x hx => h.fct x (s x hx)⟩
/-- Store() -/
theorem make_none {C : Addr} {K : PySem.W.Frag} {H : Hp} {T0 : Addr} {Q : Addr → Hp → Prop} (hT0 : ∀ H, SqT K H T0 []) (k : ∀ (H' : Hp) (r : Addr), Same H H' → H r = none → StM C H' r [] → Q r H') (x dx : Addr) (nx : H x = none) (ndx : H dx = none) (ne : dx ≠ x) :
    spInitS C K [.ref x, .ref T0] (upd (upd H dx (.own x)) x (.ins C dx [])) (fun v H' => v = .non ∧ Q x H') E0 := by
  refine make_fctsA (xs := []) (Same.refl _) ⟨fun x h => (nomatch h), fun x h => (nomatch h)⟩ (by decide) (.inr (hT0 _)) (fun H' r R s _ nr st mem => ?_) x dx nx ndx ne
  have e : R = [] := by
    cases R with
    | nil => rfl
    | cons y R =>
      have := (mem y.2).mp (by simp)
      cases this
  rw [e] at st
  exact k H' r s nr st
theorem st_nil {M : List Pt} (h : ∀ c, c ∉ M.map (·.2)) : M = [] := by
  cases M with
  | nil => rfl
  | cons y M => exact absurd (by simp) (h y.2)
section
variable {P : Program} {w : World} {K : PySem.W.Frag} {mg : Str → Option Value} {base : Heap}
theorem op_inDK {X : Cx} {K : PySem.W.Frag} (e : X.K = K) (hu : X.A.units + 65 < cLine) : OpR X (compareOp .In) (rInD K) := by
  subst e
  exact op_inD hu
abbrev nLaw : List Str := ["_law_script", "_law_cell", "_law_source_here", "_law_pool_here", "_law_one", "_law_other", "_law_here", "_law_there", "_law_passed", "_law_store", "_law_second", "_law_fact", "_law_missing", "_law_tables", "_law_row"]
theorem scLaw : FnScope nLaw ["_law_script"] (defScope sLaw) := ⟨rfl, rfl, rfl, by decide +kernel, rfl, by decide +kernel, by decide +kernel⟩
theorem ok_law {f C : Addr} {fd : FuncData} (F : Fun K "law" "law" sLaw f fd) (Y : StK P w K mg base C)
    (So : OF P w K mg base "_law_source" 1 ["_law_cell"] spSource) (Po : OF P w K mg base "_law_pool" 4 ["_law_source_here"] spPool) (Dr : OF P w K mg base "_law_draw" 1 ["_law_source_here", "_law_limit"] spDraw)
    (Sm : OF P w K mg base "_law_some" 4 ["_law_source_here", "_law_pool_here"] spSome) (Sr : OF P w K mg base "_law_sorted" 1 ["_law_facts_here"] (spSorted K))
    (Is : OF P w K mg base "_law_is" 8 ["_law_store", "_law_facts_here"] (spIs C K)) (Sg : OF P w K mg base "_law_strange" 8 ["_law_source_here", "_law_facts_here", "_law_more"] (spStrange K))
    (ml : mg "len" = none) (mL : mg "list" = none) (mt : mg "tuple" = none) :
    FnOk P w K mg base CX0 9 f fd ["_law_script"] (spLaw K) := by
  obtain ⟨Z, ⟨fI, fdI, T0, MI, GI, bI, bI0, hT0, gI, kI⟩, ⟨fWk, fdWk, GWk, hWk, kWk⟩, ⟨fOk, fdOk, GOk, hOk, kOk⟩, nsl, nst, nkl, nkt⟩ := Y
  obtain ⟨T, c, mC, sf, no, _, ⟨fL, fdL, GL, bL, iL, nL, kL⟩, _, ⟨fH, fdH, GH, bH, iH, nH, kH⟩, ⟨fE, fdE, GE, bE, iE, nE, kE⟩, ⟨fN, fdN, GN, bN, iN, nN, kN⟩, ⟨fA, fdA, GA, bA, iA, nA, kA⟩, ⟨fS, fdS, GS, bS, iS, nS, kS⟩,
    ⟨fW, fdW, GW, bW, iW, nW, kW⟩, ⟨fK, fdK, GK, bK, iK, nK, kK⟩, ⟨fO, fdO, GO, bO, iO, nO, kO⟩, _⟩ := Z
  obtain ⟨fSo, fdSo, GSo, kSo, bSo, mSo⟩ := So
  obtain ⟨fPo, fdPo, GPo, kPo, bPo, mPo⟩ := Po
  obtain ⟨fDr, fdDr, GDr, kDr, bDr, mDr⟩ := Dr
  obtain ⟨fSm, fdSm, GSm, kSm, bSm, mSm⟩ := Sm
  obtain ⟨fSr, fdSr, GSr, kSr, bSr, mSr⟩ := Sr
  obtain ⟨fIs, fdIs, GIs, kIs, bIs, mIs⟩ := Is
  obtain ⟨fSg, fdSg, GSg, kSg, bSg, mSg⟩ := Sg
  refine F.ok scLaw (fun vs H Q E h => ?_) (fun cdv A outer s H vs Q E hr h => ?_)
  · obtain ⟨a, ns, rfl, _⟩ := h
    rfl
  · obtain ⟨a, ns, rfl, hS, hlen, hbits, k⟩ := h
    have hr1 : Room 1 _ := hr.mono (by decide)
    have hr2 : Room 2 _ := hr.mono (by decide)
    have hr3 : Room 3 _ := hr.mono (by decide)
    have hr4 : Room 4 _ := hr.mono (by decide)
    have hr5 : Room 5 _ := hr.mono (by decide)
    have hr6 : Room 6 _ := hr.mono (by decide)
    have hr7 : Room 7 _ := hr.mono (by decide)
    have hu := hr.units
    have hu5 : (A.deeper (envOfC "law" (defScope sLaw) s.heap.objs.size f cdv)).units + 65 < cLine := by have := hr.un; omega
    have mO : mroIn K C (.type "object") = some true := c.hm
    refine ⟨_, pss_cons (ps_for PassesOwn.never rfl (pi_list (pe_op op_cat (pe_slice sl_list (pv 0) po_none (po_some pe_int)) (pe_lst (pa_cons pe_int pa_nil)))) (pg_name (i := 1) scLaw.nd rfl (Or.inl rfl))
        (pss_cons (ps_set (i := 2) scLaw.nd rfl (Or.inr rfl) (pe_call GSo hr1 (by rfl) mSo kSo bSo .nil pass0 (pa_cons (pv 1) pa_nil)))
        (pss_cons (ps_set (i := 3) scLaw.nd rfl (Or.inl rfl) (pe_call GPo hr4 (by rfl) mPo kPo bPo .nil pass0 (pa_cons (pv 2) pa_nil)))
        (pss_cons (ps_par (i := 4) (j := 5) rfl scLaw.nd rfl rfl (by decide) rfl rfl (pa_cons (pe_call GSm hr4 (by rfl) mSm kSm bSm .nil pass0 (pa_cons (pv 2) (pa_cons (pv 3) pa_nil))) (pa_cons (pe_call GSm hr4 (by rfl) mSm kSm bSm .nil pass0 (pa_cons (pv 2) (pa_cons (pv 3) pa_nil))) pa_nil)) (by rfl))
        (pss_cons (ps_asg (pe_tup (pa_cons (pe_call GSr hr1 (by rfl) mSr kSr bSr .nil pass0 (pa_cons (pv 4) pa_nil)) (pa_cons (pe_call GSr hr1 (by rfl) mSr kSr bSr .nil pass0 (pa_cons (pv 5) pa_nil)) pa_nil)))
            (pg_tup (by rfl) (pgs_cons (pg_name (i := 6) scLaw.nd rfl (Or.inr rfl)) (pgs_cons (pg_name (i := 7) scLaw.nd rfl (Or.inr rfl)) pgs_nil))))
        (pss_cons (ps_set (i := 8) scLaw.nd rfl (Or.inl rfl) (pe_callTy call_list_of (by rfl) mL (by decide +kernel) (pa_cons (pv 4) pa_nil)))
        (pss_cons (ps_set (i := 9) scLaw.nd rfl (Or.inr rfl) (pe_make MI GI hr6 (by rfl) mC bI .nil pass0 (pa_cons (pv 8) pa_nil)))
        (pss_cons (ps_if (pt_cmpR (op_neD hu) (pv 8) (pv 4) (nomark _)) (pss_one (ps_ret pe_bl)) pss_nil)
        (pss_cons (ps_expr (pe_bm0 PySem.F.plainAttrs_list PySem.F.slot_list_clear PySem.F.type_list_clear mt_clear (pv 8)))
        (pss_cons (ps_set (i := 10) scLaw.nd rfl (Or.inl rfl) (pe_makeK0 MI GI hr6 (by rfl) mC kI pass0 (pk_cons (pe_callTy call_tuple_of (by rfl) mt (by decide +kernel) (pa_cons (pv 5) pa_nil)) pk_nil)))
        (pss_cons (ps_if (PW.pt (pw_or (pt_not (pt_val (pe_call GIs hr (by rfl) mIs kIs bIs .nil pass0 (pa_cons (pv 9) (pa_cons (pv 6) pa_nil)))))
            (pw_or (pt_not (pt_val (pe_call GIs hr (by rfl) mIs kIs bIs .nil pass0 (pa_cons (pv 10) (pa_cons (pv 7) pa_nil)))))
            (pw_or1 (pt_cmpR op_ne (pe_cmpR (op_eqOwn (C := C) GE bE ⟨iE, nE⟩ hr3 pass0) (pv 9) (pv 10) (nomark _)) (pe_cmpR (op_eqD hu) (pv 6) (pv 7) (nomark _)) (nomark _)))))) (pss_one (ps_ret pe_bl)) pss_nil)
        (pss_cons (ps_if (pt_cmpR (op_neD hu) (pe_lc (own := [("_law_fact", 11)]) (g := gName 11) (tt := tB (tOp rNe (tOp (rInOwn C (spHasS C K)) (tVar 11) (tVar 9)) (tOp (rInD K) (tVar 11) (tVar 6)))) rfl scLaw.nd (pi_list (pe_op op_cat (pv 6) (pv 7)))
              (blkOk_by (own := [("_law_fact", 11)]) (N := nLaw) (sc := defScope sLaw) (by decide +kernel)) (fun _ _ _ _ _ => pg_name (i := 11) scLaw.nd rfl (Or.inl rfl))
              (fun _ _ _ _ _ => pts_one (pt_cmpR op_ne (pe_cmpR (op_inOwn (C := C) GH bH ⟨iH, nH⟩ hr5 pass0) (pv 11) (pv 9) (by rfl)) (pe_cmpR (op_inDK (K := K) rfl hu5) (pv 11) (pv 6) (by rfl)) (nomark _))) (fun _ _ _ _ _ => pv 11)) (pe_lst pa_nil) (nomark _)) (pss_one (ps_ret pe_bl)) pss_nil)
        (pss_cons (ps_if (PW.pt (pw_or (pt_not (pt_val (pe_call GIs hr (by rfl) mIs kIs bIs .nil pass0 (pa_cons (pe_op (op_addOwn (C := C) GA bA ⟨iA, nA⟩ sf hr7 pass0) (pv 9) (pv 10)) (pa_cons (pe_call GSr hr1 (by rfl) mSr kSr bSr .nil pass0 (pa_cons (pe_op op_cat (pv 4) (pv 5)) pa_nil)) pa_nil))))) (pw_or1 (pt_cmpR (op_neG (ncG_ins GN mO no iN nN bN pass0) hr4) (pe_op (op_addOwn (C := C) GA bA ⟨iA, nA⟩ sf hr7 pass0) (pv 9) (pv 10)) (pe_op (op_addOwn (C := C) GA bA ⟨iA, nA⟩ sf hr7 pass0) (pv 10) (pv 9)) (nomark _))))) (pss_one (ps_ret pe_bl)) pss_nil)
        (pss_cons (ps_if (pt_not (pt_val (pe_call GIs hr (by rfl) mIs kIs bIs .nil pass0 (pa_cons (pe_op (op_subOwn (C := C) GS bS ⟨iS, nS⟩ sf hr7 pass0) (pv 9) (pv 10)) (pa_cons (pe_lc (own := [("_law_fact", 11)]) (g := gName 11) (tt := tB (tOp (rNotInD K) (tVar 11) (tVar 7))) rfl scLaw.nd (pi_list (pv 6)) (blkOk_by (own := [("_law_fact", 11)]) (N := nLaw) (sc := defScope sLaw) (by decide +kernel)) (fun _ _ _ _ _ => pg_name (i := 11) scLaw.nd rfl (Or.inl rfl)) (fun _ _ _ _ _ => pts_one (pt_cmpR (op_notInDK (K := K) rfl hu5) (pv 11) (pv 7) (by rfl))) (fun _ _ _ _ _ => pv 11)) pa_nil))))) (pss_one (ps_ret pe_bl)) pss_nil)
        (pss_cons (ps_setLc (i := 12) (own := [("_law_fact", 11)]) (g := gName 11) (tt := tB (tOp (rNotInD K) (tVar 11) (tVar 7))) (by rfl) scLaw.nd rfl rfl (sw_true rfl rfl rfl (by decide +kernel)) (pi_list (pv 6)) (blkOk_by (own := [("_law_fact", 11)]) (N := nLaw) (sc := defScope sLaw) (by decide +kernel)) (fun _ _ _ _ _ => pg_name (i := 11) scLaw.nd rfl (Or.inl rfl)) (fun _ _ _ _ _ => pts_one (pt_cmpR (op_notInDK (K := K) rfl hu5) (pv 11) (pv 7) (by rfl))) (fun _ _ _ _ _ => pv 11))
        (pss_cons (ps_if (PW.pt (pw_or (pt_cmpR op_ne (pe_methK (pv 9) c.cl hWk GWk hr6 kWk pass0 (pk_cons (pv 10) pk_nil)) (pe_cmpR (op_eqD hu) (pv 12) (pe_lst pa_nil) (nomark _)) (nomark _)) (pw_or1 (pt_not (pt_val (pe_meth (pv 9) c.cl ⟨iW, nW, kW⟩ GW hr6 bW .nil pass0 (pa_cons (pe_op (op_addOwn (C := C) GA bA ⟨iA, nA⟩ sf hr7 pass0) (pv 9) (pv 10)) pa_nil))))))) (pss_one (ps_ret pe_bl)) pss_nil)
        (pss_cons (ps_set (i := 13) scLaw.nd rfl (Or.inr rfl) (pe_op op_cat (pe_lc (own := [("_law_row", 14)]) (g := gName 14) (tt := tB (tOp rEq (tCall spDraw [] E0 (tCons (tVar 2) (tCons (tC (.int 2)) tNil))) (tC (.int 0)))) rfl scLaw.nd (pi_list (pe_ix ix_list (pv 3) pe_int (fun _ _ => rfl))) (blkOk_by (own := [("_law_row", 14)]) (N := nLaw) (sc := defScope sLaw) (by decide +kernel)) (fun _ _ _ _ _ => pg_name (i := 14) scLaw.nd rfl (Or.inl rfl)) (fun _ _ _ _ _ => pts_one (pt_cmpR op_eq (pe_call GDr hr1 (by rfl) mDr kDr bDr .nil pass0 (pa_cons (pv 2) (pa_cons pe_int pa_nil))) pe_int (nomark _))) (fun _ _ _ _ _ => pe_ix (ix_tupK (K := K) rfl) (pv 14) pe_int (fun _ _ => rfl))) (pe_lst (pa_cons pe_str pa_nil))))
        (pss_cons (ps_if (pt_not (pt_val (pe_call GIs hr (by rfl) mIs kIs bIs .nil pass0 (pa_cons (pe_meth (pv 9) c.cl ⟨iO, nO, kO⟩ GO hr7 bO .nil pass0 (pa_cons (pv 13) pa_nil)) (pa_cons (pe_lc (own := [("_law_fact", 11)]) (g := gName 11) (tt := tB (tOp (rIn K false) (tOp (rIxT K) (tVar 11) (tC (.int 0))) (tVar 13))) rfl scLaw.nd (pi_list (pv 6)) (blkOk_by (own := [("_law_fact", 11)]) (N := nLaw) (sc := defScope sLaw) (by decide +kernel)) (fun _ _ _ _ _ => pg_name (i := 11) scLaw.nd rfl (Or.inl rfl)) (fun _ _ _ _ _ => pts_one (pt_cmpR (op_inKK (K := K) rfl) (pe_ix (ix_tupK (K := K) rfl) (pv 11) pe_int (fun _ _ => rfl)) (pv 13) (by rfl))) (fun _ _ _ _ _ => pv 11)) pa_nil))))) (pss_one (ps_ret pe_bl)) pss_nil)
        (pss_cons (ps_if (PW.pt (pw_or (pt_cmpR (op_neG (ncG_ins GN mO no iN nN bN pass0) hr4) (pe_methK (pv 9) c.cl hOk GOk hr7 kOk pass0 (pk_cons (pe_callTy call_tuple_of (by rfl) mt (by decide +kernel) (pa_cons (pv 13) pa_nil)) pk_nil)) (pe_meth (pv 9) c.cl ⟨iO, nO, kO⟩ GO hr7 bO .nil pass0 (pa_cons (pv 13) pa_nil)) (nomark _)) (pw_or (pt_cmpR op_ne (pe_callB (call_lenOwn (C := C) GL bL ⟨iL, nL⟩ hr2 pass0) (by rfl) ml (by decide +kernel) (pa_cons (pe_meth (pv 9) c.cl ⟨iO, nO, kO⟩ GO hr7 bO .nil pass0 (pa_cons (pe_lst pa_nil) pa_nil)) pa_nil)) pe_int (nomark _)) (pw_or1 (pt_cmpR (op_neG (ncG_ins GN mO no iN nN bN pass0) hr4) (pe_op (op_addOwn (C := C) GA bA ⟨iA, nA⟩ sf hr7 pass0) (pv 9) (pv 9)) (pv 9) (nomark _)))))) (pss_one (ps_ret pe_bl)) pss_nil)
        (pss_cons (ps_if (PW.pt (pw_or (pt_cmpR op_ne (pe_callB (call_lenOwn (C := C) GL bL ⟨iL, nL⟩ hr2 pass0) (by rfl) ml (by decide +kernel) (pa_cons (pe_op (op_subOwn (C := C) GS bS ⟨iS, nS⟩ sf hr7 pass0) (pv 9) (pv 9)) pa_nil)) pe_int (nomark _)) (pw_or1 (pt_cmpR (op_neG (ncG_ins GN mO no iN nN bN pass0) hr4) (pe_op (op_subOwn (C := C) GS bS ⟨iS, nS⟩ sf hr7 pass0) (pv 9) (pe_make0 MI GI hr6 (by rfl) mC bI0 (dvs := [.ref T0]) (.cons rfl .nil) pass0)) (pv 9) (nomark _))))) (pss_one (ps_ret pe_bl)) pss_nil)
        (pss_cons (ps_expr (pe_bm0 PySem.F.plainAttrs_list PySem.F.slot_list_clear PySem.F.type_list_clear mt_clear (pe_meth0 (pv 9) c.cl ⟨iK, nK, kK⟩ GK hr2 bK .nil pass0)))
        (pss_cons (ps_if (PW.pt (pw_or (pt_not (pt_val (pe_call GSg hr (by rfl) mSg kSg bSg .nil pass0 (pa_cons (pv 2) (pa_cons (pv 6) (pa_cons (pv 7) pa_nil)))))) (pw_or1 (pt_not (pt_val (pe_call GIs hr (by rfl) mIs kIs bIs .nil pass0 (pa_cons (pv 9) (pa_cons (pv 6) pa_nil)))))))) (pss_one (ps_ret pe_bl)) pss_nil)
        (pss_one (ps_if (PW.pt (pw_or (pt_cmpR (op_eqOwn (C := C) GE bE ⟨iE, nE⟩ hr3 pass0) (pv 9) (pv 6) (nomark _)) (pw_or1 (pt_cmpR (op_eqOwn (C := C) GE bE ⟨iE, nE⟩ hr3 pass0) (pv 9) (pe_callTy call_tuple_of (by rfl) mt (by decide +kernel) (pa_cons (pv 6) pa_nil)) (nomark _))))) (pss_one (ps_ret pe_bl)) pss_nil))))))))))))))))))))))))
      (pss_one (ps_ret (pe_and (pe_cmpR op_eq (pe_callB (call_lenOwn (C := C) GL bL ⟨iL, nL⟩ hr2 pass0) (by rfl) ml (by decide +kernel) (pa_cons (pe_make0 MI GI hr6 (by rfl) mC bI0 (dvs := [.ref T0]) (.cons rfl .nil) pass0) pa_nil)) pe_int (nomark _)) (pe_and (pe_cmpR (op_eqOwn (C := C) GE bE ⟨iE, nE⟩ hr3 pass0) (pe_make0 MI GI hr6 (by rfl) mC bI0 (dvs := [.ref T0]) (.cons rfl .nil) pass0) (pe_make MI GI hr6 (by rfl) mC bI .nil pass0 (pa_cons (pe_lst pa_nil) pa_nil)) (nomark _)) (pe_one (pe_cmpR (op_eqD hu) (pe_meth0 (pe_make0 MI GI hr6 (by rfl) mC bI0 (dvs := [.ref T0]) (.cons rfl .nil) pass0) c.cl ⟨iK, nK, kK⟩ GK hr2 bK .nil pass0) (pe_lst pa_nil) (nomark _))))))), ?_⟩
    refine ⟨_, rfl, 4, rfl, a, _, rfl, hS, fun p1 n1 => ⟨(by show 1 ≤ sizeLine; decide), fun p2 n2 => ?_⟩⟩
    have u1 := same_new (o := .lst (cutV (ns.map V.int) none (some 4))) n1
    have u2 := same_new (o := .lst [V.int 0]) n2
    have few : (cutV (ns.map V.int) none (some 4)).length ≤ 63 := by
      refine Nat.le_trans (cutV_length _ _ _) ?_
      rw [List.length_map]
      exact hlen
    refine ⟨p1, p2, _, _, rfl, rfl, u2 _ _ upd_same, upd_same, (by rw [sizeLine_eq]; show _ + 1 ≤ _; omega), fun p3 n3 => ?_⟩
    refine ⟨p3, rfl, ⟨_, SqL.of upd_same⟩, for_list (K := K) (a := p3) (xs := cutV (ns.map V.int) none (some 4) ++ [V.int 0])
      (fun i σ H5 => (∃ v1 v2 v3 v4 v5 v6 v7 v8 v9 w1 w2 w3 w4 w5 : Option V, σ = [some (.ref a), v1, v2, v3, v4, v5, v6, v7, v8, v9, w1, w2, w3, w4, w5]) ∧ H5 p3 = some (.lst (cutV (ns.map V.int) none (some 4) ++ [V.int 0])))
      ⟨⟨none, none, none, none, none, none, none, none, none, none, none, none, none, none, rfl⟩, upd_same⟩ (fun i σ H5 _ h5 => SqL.of h5.2) ?_ ?_⟩
    · rintro i v σ H0 hi ⟨⟨v1, v2, v3, v4, v5, v6, v7, v8, v9, w1, w2, w3, w4, w5, rfl⟩, h3⟩
      obtain ⟨ci, rfl, hc⟩ := cut_ints hbits none (some 4) hi
      refine ⟨_, rfl, ci, rfl, hc, fun pS H1 s1 nS src1 => ?_⟩
      have zS : p3 ≠ pS := ne_of_none h3 nS
      have k1 : Keep pS H0 H1 := Keep.of s1
      refine ⟨_, rfl, pS, ci, 999700, rfl, src1, fun p π H2 hp src2 k2 => ?_⟩
      have k2 := k1.trans k2
      refine ⟨_, rfl, _, rfl, pS, p, ci, 999530, π, rfl, src2, hp, fun o1 F1 H3 ho1 no1 fr1 f1 l1 ⟨A8, la8, sa8⟩ src3 k3 => ?_⟩
      have hp3 := hp.keep k3
      have k3 := k2.trans k3
      refine ⟨_, rfl, _, rfl, pS, p, ci, 999360, π, rfl, src3, hp3, fun o2 F2 H4 ho2 no2 fr2 f2 l2 ⟨B8, lb8, sb8⟩ src4 k4 => ?_⟩
      have hp4 := hp3.keep k4
      have ho1 := k4 _ _ ho1 no1
      have f1 := f1.keep k4
      have k4 := k3.trans k4
      refine ⟨_, _, rfl, ?_⟩
      refine ⟨_, rfl, o1, F1, rfl, SqL.of ho1, f1.at, by omega, fun H5 g1 G1 s5 _ hg1 sub1 mem1 asc1 => ?_⟩
      refine ⟨_, rfl, o2, F2, rfl, SqL.of (s5 _ _ ho2), (f2.keep (Keep.of s5)).at, by omega, fun H6 g2 G2 s6 _ hg2 sub2 mem2 asc2 => ?_⟩
      refine ⟨(by show 2 ≤ sizeLine; rw [sizeLine_eq]; decide), fun tp ntp => ?_⟩
      have s67 : Same H6 (upd H6 tp (.tup [.ref g1, .ref g2])) := same_new ntp
      refine ⟨tp, _, rfl, SqT.of upd_same, rfl, _, _, rfl, _, _, rfl, rfl, ?_⟩
      have s46 := s5.trans s6
      have s47 := s46.trans s67
      have hg1 := s67 _ _ (s6 _ _ hg1)
      have hg2 := s67 _ _ hg2
      generalize upd H6 tp (.tup [.ref g1, .ref g2]) = H7 at hg1 hg2 s47 ⊢
      clear s67 s46 s6 s5
      -- the facts of both
      have ho1 := s47 _ _ ho1
      have ho2 := s47 _ _ ho2
      have f1 := f1.keep (Keep.of s47)
      have f2 := f2.keep (Keep.of s47)
      have hp7 := hp4.keep (Keep.of s47)
      have src7 := src4.same s47
      have k7 := k4.trans (Keep.of s47)
      have fg1 : FsP pS π H7 G1 := f1.sub sub1
      have fg2 : FsP pS π H7 G2 := f2.sub sub2
      clear s47 k4 k3 k2 k1 hp4 hp3 hp src1 src2 src3 src4
      -- passed
      refine ⟨_, rfl, o1, _, rfl, .inl (SqL.of ho1), fun p8 n8 => ?_⟩
      have s78 : Same H7 (upd H7 p8 (.lst (F1.map fun x => V.ref x.1))) := same_new n8
      have h8 : (upd H7 p8 (.lst (F1.map fun x => V.ref x.1))) p8 = some (.lst (F1.map fun x => V.ref x.1)) := upd_same
      have old8 : ∀ {b o}, H7 b = some o → b ≠ p8 := fun {b o} h e => by
        rw [e, n8] at h
        cases h
      generalize upd H7 p8 (.lst (F1.map fun x => V.ref x.1)) = H8 at s78 h8 ⊢
      refine ⟨_, rfl, ?_⟩
      dsimp only [tNil, List.cons_append, List.nil_append]
      refine make_fctsA (xs := F1) s78 (f1.keep (Keep.of s78)).at (by omega) (.inl (SqL.of h8)) fun H9 st M1 s79 s89 _ sM1 memM1 => ?_
      have h89 := s89 _ _ h8
      have c1 : M1.map (·.2) = G1.map (·.2) := asc_one sM1.asc asc1 fun c => by rw [memM1, mem1]
      have f1L : SeqAt.shaped (.list ((F1.map (·.2)).map facD)) = true := sh_refs f1.at
      refine ⟨_, rfl, _, rfl, .list ((F1.map (·.2)).map facD), .list ((F1.map (·.2)).map facD), .lst (SqL.of h89) (dp_facts (f1.keep (Keep.of s79)).at.each), .lst (SqL.of (s79 _ _ ho1)) (dp_facts (f1.keep (Keep.of s79)).at.each), f1L, f1L, _, rfl, ?_⟩
      rw [eqv_list, decide_eq_true rfl]
      refine iteF ?_
      refine ⟨_, rfl, .inl ⟨rfl, _, SqL.of h89⟩, p8, _, rfl, rfl, h89, ?_⟩
      have k9 : Keep p8 H9 (upd H9 p8 (.lst [])) := fun b o h nb => by
        rw [upd_ne nb]
        exact h
      have s7A : Same H7 (upd H9 p8 (.lst [])) := fun b o h => k9 _ _ (s79 _ _ h) (old8 h)
      have sM1 := sM1.but h89 k9
      generalize upd H9 p8 (.lst []) = HA at s7A sM1 ⊢
      clear k9 h89 old8 h8 s79 s89 s78
      -- second
      refine ⟨_, rfl, o2, _, rfl, .inl ⟨SqL.of (s7A _ _ ho2), fun t8 nt8 => ?_⟩⟩
      have sAB : Same HA (upd HA t8 (.tup (F2.map fun x => V.ref x.1))) := same_new nt8
      have ht8 : (upd HA t8 (.tup (F2.map fun x => V.ref x.1))) t8 = some (.tup (F2.map fun x => V.ref x.1)) := upd_same
      generalize upd HA t8 (.tup (F2.map fun x => V.ref x.1)) = HB at sAB ht8 ⊢
      refine ⟨rfl, rfl, ?_⟩
      dsimp only [tNil, List.cons_append, List.nil_append]
      refine make_fctsA (xs := F2) sAB (f2.keep (Keep.of (s7A.trans sAB))).at (by omega) (.inr (SqT.of ht8)) fun HC se M2 sAC _ nse sM2 memM2 => ?_
      have sM1 := sM1.same sAC
      have s7C := s7A.trans sAC
      have c2 : M2.map (·.2) = G2.map (·.2) := asc_one sM2.asc asc2 fun c => by rw [memM2, mem2]
      have ho1 := s7C _ _ ho1
      have ho2 := s7C _ _ ho2
      have hg1 := s7C _ _ hg1
      have hg2 := s7C _ _ hg2
      have f1 := f1.keep (Keep.of s7C)
      have f2 := f2.keep (Keep.of s7C)
      have fg1 := fg1.keep (Keep.of s7C)
      have fg2 := fg2.keep (Keep.of s7C)
      have hp := hp7.keep (Keep.of s7C)
      have src := src7.same s7C
      have kC := k7.trans (Keep.of s7C)
      clear s7C s7A sAB sAC hp7 src7 k7
      obtain ⟨dx1, tt1, dd1, q11, _, _⟩ := sM1.ex
      obtain ⟨dx2, tt2, dd2, q21, _, _⟩ := sM2.ex
      have in1 : ∀ c ∈ M1.map (·.2), c ∈ A8.map (·.2) := fun c hc => by
        rw [c1, mem1] at hc
        obtain ⟨x, hx, rfl⟩ := List.mem_map.mp hc
        exact List.mem_map.mpr ⟨x, sa8 x hx, rfl⟩
      have in2 : ∀ c ∈ M2.map (·.2), c ∈ B8.map (·.2) := fun c hc => by
        rw [c2, mem2] at hc
        obtain ⟨x, hx, rfl⟩ := List.mem_map.mp hc
        exact List.mem_map.mpr ⟨x, sb8 x hx, rfl⟩
      have tr1 : ∀ c ∈ M1.map (·.2), ∀ z ∈ c.2, z ∈ π.C := by
        rw [c1]
        exact map_ex (P := fun c => ∀ z ∈ c.2, z ∈ π.C) fg1.trm
      have tr2 : ∀ c ∈ M2.map (·.2), ∀ z ∈ c.2, z ∈ π.C := by
        rw [c2]
        exact map_ex (P := fun c => ∀ z ∈ c.2, z ∈ π.C) fg2.trm
      have C9 := hp.C9
      -- what any set of these facts is
      have fine : ∀ {R : List Pt}, Asc (R.map (·.2)) → (∀ c ∈ R.map (·.2), c ∈ M1.map (·.2) ∨ c ∈ M2.map (·.2)) → R.length ≤ 16 ∧ (uniq (trms (R.map (·.2)))).length ≤ 20 := fun {R} asc sub => by
        refine ⟨?_, few_trms (T := π.C) (fun c hc z hz => (sub c hc).elim (fun h => tr1 c h z hz) fun h => tr2 c h z hz) C9⟩
        have := few16 asc.nodup la8 lb8 fun c hc => (sub c hc).imp (in1 c) (in2 c)
        rwa [List.length_map] at this
      obtain ⟨lM1, uM1⟩ := fine sM1.asc fun c h => .inl h
      obtain ⟨lM2, uM2⟩ := fine sM2.asc fun c h => .inr h
      have lG1 : G1.length ≤ 16 := by rw [← len_of c1]; exact lM1
      have lG2 : G2.length ≤ 16 := by rw [← len_of c2]; exact lM2
      -- each of them is
      refine ⟨_, rfl, _, rfl, st, g1, M1, G1, rfl, sM1, hg1, fg1.at, c1.symm, lM1, uM1, fun HD sD => ⟨true, rfl, iteF ?_⟩⟩
      refine ⟨_, rfl, _, rfl, se, g2, M2, G2, rfl, sM2.same sD, sD _ _ hg2, fg2.at.same sD, c2.symm, lM2, uM2, fun HE sE => ⟨true, rfl, iteF ?_⟩⟩
      have sE := sD.trans sE
      have shG1 : SeqAt.shaped (.list ((G1.map (·.2)).map facD)) = true := sh_refs fg1.at
      have shG2 : SeqAt.shaped (.list ((G2.map (·.2)).map facD)) = true := sh_refs fg2.at
      refine ⟨_, rfl, _, rfl, st, dx1, _, rfl, sE _ _ q11, ⟨se, rfl, .inl ⟨dx2, _, sE _ _ q21⟩⟩, st, M1, sM1.same sE, .inl ⟨se, M2, rfl, sM2.same sE, fun HF sF => ⟨_, rfl, ?_⟩⟩⟩
      have sF := sE.trans sF
      refine ⟨_, rfl, _, rfl, .list ((G1.map (·.2)).map facD), .list ((G2.map (·.2)).map facD), .lst (SqL.of (sF _ _ hg1)) (dp_facts (fg1.at.same sF).each), .lst (SqL.of (sF _ _ hg2)) (dp_facts (fg2.at.same sF).each), shG1, shG2, ?_⟩
      rw [eqv_list, c1, c2]
      refine ⟨rfl, _, rfl, ?_⟩
      rw [decide_eq_true rfl]
      refine iteF ?_
      clear sD sE
      -- in, of all of them
      refine ⟨_, rfl, _, rfl, g1, g2, _, _, rfl, rfl, sF _ _ hg1, sF _ _ hg2, by rw [List.length_map, List.length_map, sizeLine_eq]; omega, fun l11 nl11 => ?_⟩
      have sFG : Same HF (upd HF l11 (.lst (G1.map (fun x => V.ref x.1) ++ G2.map (fun x => V.ref x.1)))) := same_new nl11
      have hl11 : (upd HF l11 (.lst (G1.map (fun x => V.ref x.1) ++ G2.map (fun x => V.ref x.1)))) l11 = some (.lst ((G1 ++ G2).map fun x => V.ref x.1)) := by
        rw [upd_same, List.map_append]
      have sG := sF.trans sFG
      generalize upd HF l11 (.lst (G1.map (fun x => V.ref x.1) ++ G2.map (fun x => V.ref x.1))) = HG at hl11 sG ⊢
      clear sFG sF
      refine ⟨l11, rfl, ⟨_, SqL.of hl11⟩, fun L11 nL11 => ?_⟩
      refine lc_sift (ms := G1 ++ G2) (val := fun x => V.ref x.1) (L2.walk_list (K := K)) (List.length_map _) (fun _ => false) (fun x => V.ref x.1) nL11 (by rw [List.length_append]; omega) (fun H' s' => SqL.of (s' _ _ hl11)) (fun x hx HX Yes No sX yes no => ?_) (fun HH sGH hL11 => ?_)
      · have sX := sG.trans sX
        have fx : HX x.1 = some (.tup (ptV x)) ∧ Fct x.2 := (List.mem_append.mp hx).elim (fun h => ⟨(fg1.at.same sX).each x h, fg1.fct x h⟩) fun h => ⟨(fg2.at.same sX).each x h, fg2.fct x h⟩
        refine ⟨rfl, ?_⟩
        refine ⟨_, rfl, _, rfl, st, dx1, _, rfl, sX _ _ q11, st, M1, _, some (ptV x), rfl, sM1.same sX, ask_fact fx.1 fx.2, fun H6 s6 => ⟨_, rfl, ?_⟩⟩
        have sX6 := sX.trans s6
        refine ⟨_, rfl, _, rfl, facD x.2, _, dp_fact (s6 _ _ fx.1), .lst (SqL.of (sX6 _ _ hg1)) (dp_facts (fg1.at.same sX6).each), shaped_fact fx.2, shG1, ?_⟩
        rw [any_fact, has_fact, c1]
        refine ⟨rfl, _, rfl, ?_⟩
        rw [decide_eq_true rfl]
        exact iteF (no _ s6 rfl)
      have sH := sG.trans sGH
      rw [show (G1 ++ G2).filter (fun _ => false) = [] from List.filter_eq_nil_iff.mpr fun _ _ => Bool.false_ne_true] at hL11
      refine ⟨(by show 0 ≤ sizeLine; decide), fun e11 ne11 => ?_⟩
      have sHI : Same HH (upd HH e11 (.lst [])) := same_new ne11
      have he11 : (upd HH e11 (.lst [])) e11 = some (.lst []) := upd_same
      have hL11 := sHI _ _ hL11
      have sI := sH.trans sHI
      generalize upd HH e11 (.lst []) = HI at he11 hL11 sI ⊢
      refine ⟨.list [], .list [], .lst (SqL.of hL11) .nil, .lst (SqL.of he11) .nil, by decide +kernel, by decide +kernel, _, rfl, ?_⟩
      rw [show PyData.eqv (.list []) (.list []) = true from by simp [PyData.eqv, PyData.eqvAll]]
      refine iteF ?_
      clear hL11 he11 sHI sH hl11 sGH sG nL11 nl11 ne11
      -- +
      have b40 : M1.length + M2.length ≤ 40 := by omega
      refine ⟨_, rfl, _, rfl, st, dx1, _, se, dx2, _, rfl, rfl, sI _ _ q11, sI _ _ q21, st, se, M1, M2, rfl, sM1.same sI, sM2.same sI, b40, fun HJ r3 R3 sIJ _ sR3 memR3 => ⟨r3, rfl, ?_⟩⟩
      have sJ := sI.trans sIJ
      refine ⟨_, rfl, _, rfl, o1, o2, _, _, rfl, rfl, sJ _ _ ho1, sJ _ _ ho2, by rw [List.length_map, List.length_map, sizeLine_eq]; omega, fun l12 nl12 => ?_⟩
      have sJK : Same HJ (upd HJ l12 (.lst (F1.map (fun x => V.ref x.1) ++ F2.map (fun x => V.ref x.1)))) := same_new nl12
      have hl12 : (upd HJ l12 (.lst (F1.map (fun x => V.ref x.1) ++ F2.map (fun x => V.ref x.1)))) l12 = some (.lst ((F1 ++ F2).map fun x => V.ref x.1)) := by
        rw [upd_same, List.map_append]
      have sK := sJ.trans sJK
      have sR3 := sR3.same sJK
      generalize upd HJ l12 (.lst (F1.map (fun x => V.ref x.1) ++ F2.map (fun x => V.ref x.1))) = HK at hl12 sK sR3 ⊢
      clear sJK
      refine ⟨l12, F1 ++ F2, rfl, SqL.of hl12, ((f1.app f2).at.same sK), by rw [List.length_append]; omega, fun HL g3 G3 sKL _ hg3 sub3 mem3 asc3 => ?_⟩
      have sL := sK.trans sKL
      have e3 : G3.map (·.2) = R3.map (·.2) := asc_one asc3 sR3.asc fun c => by rw [mem3, memR3, c1, c2, mem1, mem2, List.map_append, List.mem_append]
      obtain ⟨lR3, uR3⟩ := fine sR3.asc fun c h => (memR3 c).mp h
      refine ⟨r3, g3, R3, G3, rfl, sR3.same sKL, hg3, ((f1.app f2).at.same sL).sub3 sub3, e3, lR3, uR3, fun HM sLM => ⟨true, rfl, iteF ?_⟩⟩
      have sM := sL.trans sLM
      clear hl12 sK sKL hg3 sLM sL sJ sIJ sR3 nl12
      refine ⟨_, rfl, _, rfl, st, dx1, _, se, dx2, _, rfl, rfl, sM _ _ q11, sM _ _ q21, st, se, M1, M2, rfl, sM1.same sM, sM2.same sM, b40, fun HN r4 R4 sMN _ sR4 mem4 => ⟨r4, rfl, ?_⟩⟩
      have sN := sM.trans sMN
      refine ⟨_, rfl, _, rfl, se, dx2, _, st, dx1, _, rfl, rfl, sN _ _ q21, sN _ _ q11, se, st, M2, M1, rfl, sM2.same sN, sM1.same sN, by omega, fun HO r5 R5 sNO _ sR5 mem5 => ⟨r5, rfl, ?_⟩⟩
      have sO := sN.trans sNO
      have sR4 := sR4.same sNO
      obtain ⟨dx4, tt4, dd4, q41, _, _⟩ := sR4.ex
      obtain ⟨dx5, tt5, dd5, q51, _, _⟩ := sR5.ex
      refine ⟨⟨r4, r5, dx4, dx5, _, _, rfl, rfl, q41, q51, R4, R5, sR4.at, sR5.at, asc_one sR4.asc sR5.asc fun c => by rw [mem4, mem5, or_comm]⟩, fun HP sOP => ⟨_, rfl, iteF ?_⟩⟩
      have sP := sO.trans sOP
      clear sOP sNO sMN sM sN sO sI q41 q51 sR4 sR5
      -- minus
      refine ⟨_, rfl, _, rfl, st, dx1, _, se, dx2, _, rfl, rfl, sP _ _ q11, sP _ _ q21, st, se, M1, M2, rfl, sM1.same sP, sM2.same sP, fun HQ r6 R6 sPQ _ sR6 mem6 => ⟨r6, rfl, ?_⟩⟩
      have sQ := sP.trans sPQ
      refine ⟨_, rfl, g1, rfl, ⟨_, SqL.of (sQ _ _ hg1)⟩, fun L13 nL13 => ?_⟩
      refine lc_sift (ms := G1) (val := fun x => V.ref x.1) (L2.walk_list (K := K)) (List.length_map _) (fun x => !decide (x.2 ∈ G2.map (·.2))) (fun x => V.ref x.1) nL13 (by omega) (fun H' s' => SqL.of (s' _ _ (sQ _ _ hg1))) (fun x hx HX Yes No sX yes no => ?_) (fun HR sQR hL13 => ?_)
      · have sX := sQ.trans sX
        refine ⟨rfl, ?_⟩
        refine ⟨_, rfl, _, rfl, facD x.2, _, dp_fact ((fg1.at.same sX).each x hx), .lst (SqL.of (sX _ _ hg2)) (dp_facts (fg2.at.same sX).each), shaped_fact (fg1.fct x hx), shG2, _, rfl, ?_⟩
        rw [any_fact]
        refine ite2 (fun e => ?_) (fun e => ?_)
        · exact ⟨_, rfl, yes _ (Same.refl _) e⟩
        · exact no _ (Same.refl _) (by simpa using e)
      have sR := sQ.trans sQR
      have e6 : (G1.filter fun x => !decide (x.2 ∈ G2.map (·.2))).map (·.2) = R6.map (·.2) := asc_one (asc_filter asc1 _) sR6.asc fun c => by
        rw [mem_fil (q := fun c => !decide (c ∈ G2.map (·.2))), mem6, c1, c2]
        simp
      obtain ⟨lR6, uR6⟩ := fine sR6.asc fun c h => .inl ((mem6 c).mp h).1
      refine ⟨r6, L13, R6, _, rfl, sR6.same sQR, hL13, (fg1.at.same sR).sub3 fun x hx => (List.mem_filter.mp hx).1, e6, lR6, uR6, fun HS sRS => ⟨true, rfl, iteF ?_⟩⟩
      have sS := sR.trans sRS
      clear sRS sR sQR hL13 sQ sPQ sP nL13 sR6
      -- missing
      refine ⟨_, rfl, g1, rfl, ⟨_, SqL.of (sS _ _ hg1)⟩, fun L14 nL14 => ?_⟩
      refine lc_sift (ms := G1) (val := fun x => V.ref x.1) (L2.walk_list (K := K)) (List.length_map _) (fun x => !decide (x.2 ∈ G2.map (·.2))) (fun x => V.ref x.1) nL14 (by omega) (fun H' s' => SqL.of (s' _ _ (sS _ _ hg1))) (fun x hx HX Yes No sX yes no => ?_) (fun HT sST hL14 => ?_)
      · have sX := sS.trans sX
        refine ⟨rfl, ?_⟩
        refine ⟨_, rfl, _, rfl, facD x.2, _, dp_fact ((fg1.at.same sX).each x hx), .lst (SqL.of (sX _ _ hg2)) (dp_facts (fg2.at.same sX).each), shaped_fact (fg1.fct x hx), shG2, _, rfl, ?_⟩
        rw [any_fact]
        refine ite2 (fun e => ?_) (fun e => ?_)
        · exact ⟨_, rfl, yes _ (Same.refl _) e⟩
        · exact no _ (Same.refl _) (by simpa using e)
      have sT := sS.trans sST
      clear sST sS nL14
      -- within
      refine ⟨_, rfl, st, dx1, _, rfl, sT _ _ q11, rfl, _, rfl, rfl, st, se, M1, M2, rfl, sM1.same sT, sM2.same sT, fun HU sTU => ?_⟩
      have sU := sT.trans sTU
      have hL14 := sTU _ _ hL14
      refine ⟨_, rfl, (by show 0 ≤ sizeLine; decide), fun e15 ne15 => ?_⟩
      have sUV : Same HU (upd HU e15 (.lst [])) := same_new ne15
      have he15 : (upd HU e15 (.lst [])) e15 = some (.lst []) := upd_same
      have hL14 := sUV _ _ hL14
      have sV := sU.trans sUV
      generalize upd HU e15 (.lst []) = HV at he15 hL14 sV ⊢
      have fL14 : FsAt HV (G1.filter fun x => !decide (x.2 ∈ G2.map (·.2))) := (fg1.at.same sV).sub3 fun x hx => (List.mem_filter.mp hx).1
      refine ⟨_, .list [], .lst (SqL.of hL14) (dp_facts fL14.each), .lst (SqL.of he15) .nil, sh_refs fL14, by decide +kernel, ?_⟩
      rw [eqv_nilD, within_none c1 c2]
      refine ⟨rfl, _, rfl, ?_⟩
      rw [decide_eq_true rfl]
      refine iteF ?_
      clear sUV sU sTU sT fL14 he15 hL14
      refine ⟨_, rfl, st, dx1, _, rfl, sV _ _ q11, rfl, _, rfl, _, rfl, st, dx1, _, se, dx2, _, rfl, rfl, sV _ _ q11, sV _ _ q21, st, se, M1, M2, rfl, sM1.same sV, sM2.same sV, b40, fun HW r7 R7 sVW _ sR7 mem7 => ⟨r7, rfl, ?_⟩⟩
      have sW := sV.trans sVW
      refine ⟨st, r7, M1, R7, rfl, sM1.same sW, sR7, fun HX sWX => ?_⟩
      have sX := sW.trans sWX
      rw [show (M1.all fun x => decide (x.2 ∈ R7.map (·.2))) = true from List.all_eq_true.mpr fun x hx => decide_eq_true ((mem7 x.2).mpr (.inl (List.mem_map.mpr ⟨x, hx, rfl⟩)))]
      refine ⟨true, rfl, iteF ?_⟩
      clear sWX sW sVW sV sR7
      -- tables
      have srcX := src.same sX
      have hpX := hp.keep (Keep.of sX)
      refine ⟨_, rfl, p, _, 0, .ref π.r, rfl, rfl, SqL.of hpX.hp, atI_nat (j := 0) rfl, π.r, rfl, ⟨_, SqL.of hpX.hr⟩, fun L16 nL16 => ?_⟩
      have nLS : L16 ≠ pS := srcX.ne nL16
      refine lc_list (K := K) (a := π.r) (xs := π.rows.map fun x => V.ref x.1) (fun i H5 => ∃ ts : List Str, H5 L16 = some (.lst (ts.map V.str)) ∧ ts.length ≤ i ∧ SrcAt H5 pS ci (999360 - i) ∧ Keep pS HX H5)
        ⟨[], upd_same, Nat.zero_le _, srcX.same (same_new nL16), Keep.of (same_new nL16)⟩ (fun i H5 _ q => let ⟨_, _, _, _, kq⟩ := q; SqL.of (kq _ _ hpX.hr hpX.nr)) (fun i z H5 hz q => ?_) (fun HY q => ?_)
      · obtain ⟨ts, q1, q2, q3, q4⟩ := q
        rw [List.getElem?_map] at hz
        obtain ⟨x, hx, rfl⟩ := Option.map_eq_some_iff.mp hz
        have mx := List.mem_of_getElem? hx
        have li : i < π.rows.length := (List.getElem?_eq_some_iff.mp hx).1
        have l9 := hpX.rows9
        obtain ⟨t1, _, _, nx⟩ := hpX.hrow x mx
        refine ⟨rfl, ?_⟩
        refine ⟨_, rfl, pS, ci, 999360 - (i + 1), 2, rfl, q3.mono (by omega), by decide, by decide, fun r HZ r0 r1 srcZ kZ => ⟨rfl, _, rfl, ?_⟩⟩
        have q1 := kZ _ _ q1 nLS
        have q4 := q4.trans kZ
        refine ite2 (fun e => ?_) (fun e => ?_)
        · refine ⟨_, rfl, x.1, _, 0, .str x.2.1, rfl, rfl, SqT.of (q4 _ _ t1 nx), atI_nat (j := 0) rfl, _, q1, by rw [List.length_map, sizeLine_eq]; omega, ts ++ [x.2.1], by rw [upd_same, List.map_append]; rfl, by rw [List.length_append]; show ts.length + 1 ≤ _; omega, ?_, fun b o h nb => ?_⟩
          · obtain ⟨x1, x2, x3, x4⟩ := srcZ
            exact ⟨x1, x2, by rw [upd_ne nLS.symm]; exact x3, x4⟩
          · rw [upd_ne (ne_of_none h nL16)]
            exact q4 b o h nb
        · exact ⟨ts, q1, by omega, srcZ, q4⟩
      obtain ⟨ts, q1, q2, q3, q4⟩ := q
      have l9 := hpX.rows9
      rw [List.length_map] at q2 q3
      refine ⟨(by show 1 ≤ sizeLine; rw [sizeLine_eq]; decide), fun z16 nz16 => ?_⟩
      have sYZ : Same HY (upd HY z16 (.lst [.str (Str.ofString "zz")])) := same_new nz16
      have hz16 : (upd HY z16 (.lst [.str (Str.ofString "zz")])) z16 = some (.lst [.str (Str.ofString "zz")]) := upd_same
      have q1 := sYZ _ _ q1
      have q3 := q3.same sYZ
      have q4 := q4.trans (Keep.of sYZ)
      generalize upd HY z16 (.lst [.str (Str.ofString "zz")]) = HZ at hz16 q1 q3 q4 ⊢
      refine ⟨L16, z16, _, _, rfl, rfl, q1, hz16, by rw [List.length_map]; show _ + 1 ≤ sizeLine; rw [sizeLine_eq]; omega, fun l16 nl16 => ?_⟩
      have sZI : Same HZ (upd HZ l16 (.lst (ts.map V.str ++ [.str (Str.ofString "zz")]))) := same_new nl16
      have hl16 : (upd HZ l16 (.lst (ts.map V.str ++ [.str (Str.ofString "zz")]))) l16 = some (.lst ((ts ++ [Str.ofString "zz"]).map V.str)) := by
        rw [upd_same, List.map_append]
        rfl
      have src1 := (q3.same sZI).mono (show 999300 ≤ 999360 - π.rows.length by omega)
      have kCI : Keep pS HC (upd HZ l16 (.lst (ts.map V.str ++ [.str (Str.ofString "zz")]))) := (Keep.of sX).trans (q4.trans (Keep.of sZI))
      generalize upd HZ l16 (.lst (ts.map V.str ++ [.str (Str.ofString "zz")])) = I0 at hl16 src1 kCI ⊢
      generalize ts ++ [Str.ofString "zz"] = tn at hl16 ⊢
      clear sZI hz16 q1 q3 q4 sYZ srcX hpX sX q2 nl16 nz16 nL16
      have sM1 := sM1.keep src kCI
      have sM2 := sM2.keep src kCI
      have ng1 := src_neL src hg1
      have ng2 := src_neL src hg2
      have q11 := kCI _ _ q11 (src_ne src q11)
      have q21 := kCI _ _ q21 (src_ne src q21)
      have hg1 := kCI _ _ hg1 ng1
      have hg2 := kCI _ _ hg2 ng2
      have fg1 := fg1.keep kCI
      have fg2 := fg2.keep kCI
      have kI := kC.trans kCI
      clear kCI src ho1 ho2 f1 f2 kC hp
      -- only
      refine ⟨_, rfl, st, dx1, _, rfl, q11, rfl, _, rfl, st, l16, M1, tn, rfl, sM1, .inl (SqL.of hl16), fun I1 r17 R17 sI1 _ sR17 mem17 => ?_⟩
      refine ⟨_, rfl, g1, rfl, ⟨_, SqL.of (sI1 _ _ hg1)⟩, fun L17 nL17 => ?_⟩
      refine lc_sift (ms := G1) (val := fun x => V.ref x.1) (L2.walk_list (K := K)) (List.length_map _) (fun x => decide (x.2.1 ∈ tn)) (fun x => V.ref x.1) nL17 (by omega) (fun H' s' => SqL.of (s' _ _ (sI1 _ _ hg1))) (fun x hx HX Yes No sX yes no => ?_) (fun I2 sI12 hL17 => ?_)
      · have sX := sI1.trans sX
        refine ⟨rfl, ?_⟩
        refine ⟨_, rfl, x.1, ptV x, 0, .str x.2.1, rfl, rfl, SqT.of ((fg1.at.same sX).each x hx), atI_nat (j := 0) rfl, _, rfl, l16, tn.map V.str, rfl, .inl (SqL.of (sX _ _ hl16)), rfl, flat_strs tn, _, rfl, ?_⟩
        rw [if_neg Bool.false_ne_true, inV_strs]
        refine ite2 (fun e => ?_) (fun e => ?_)
        · exact ⟨_, rfl, yes _ (Same.refl _) e⟩
        · exact no _ (Same.refl _) (by simpa using e)
      have sI2 := sI1.trans sI12
      have e17 : (G1.filter fun x => decide (x.2.1 ∈ tn)).map (·.2) = R17.map (·.2) := asc_one (asc_filter asc1 _) sR17.asc fun c => by
        rw [mem_fil (q := fun c => decide (c.1 ∈ tn)), mem17, c1]
        simp
      obtain ⟨lR17, uR17⟩ := fine sR17.asc fun c h => .inl ((mem17 c).mp h).1
      refine ⟨r17, L17, R17, _, rfl, sR17.same sI12, hL17, (fg1.at.same sI2).sub3 fun x hx => (List.mem_filter.mp hx).1, e17, lR17, uR17, fun I3 sI23 => ⟨true, rfl, iteF ?_⟩⟩
      have sI3 := sI2.trans sI23
      clear sI23 sI2 sI12 hL17 sI1 nL17 sR17
      -- only, by keyword
      refine ⟨_, rfl, st, dx1, _, rfl, sI3 _ _ q11, rfl, _, rfl, l16, _, rfl, .inl ⟨SqL.of (sI3 _ _ hl16), fun t18 nt18 => ?_⟩⟩
      have s34 : Same I3 (upd I3 t18 (.tup (tn.map V.str))) := same_new nt18
      have ht18 : (upd I3 t18 (.tup (tn.map V.str))) t18 = some (.tup (tn.map V.str)) := upd_same
      have sI4 := sI3.trans s34
      generalize upd I3 t18 (.tup (tn.map V.str)) = I4 at ht18 sI4 ⊢
      clear s34 sI3 nt18
      refine ⟨rfl, st, t18, M1, tn, rfl, sM1.same sI4, .inr (SqT.of ht18), fun I5 r18 R18 s45 _ sR18 mem18 => ?_⟩
      have sI5 := sI4.trans s45
      refine ⟨_, rfl, st, dx1, _, rfl, sI5 _ _ q11, rfl, _, rfl, st, l16, M1, tn, rfl, sM1.same sI5, .inl (SqL.of (sI5 _ _ hl16)), fun I6 r19 R19 s56 _ sR19 mem19 => ?_⟩
      have sI6 := sI5.trans s56
      have sR18 := sR18.same s56
      obtain ⟨dx18, tt18, dd18, q18, _, _⟩ := sR18.ex
      obtain ⟨dx19, tt19, dd19, q19, _, _⟩ := sR19.ex
      refine ⟨⟨r18, r19, dx18, dx19, _, _, rfl, rfl, q18, q19, R18, R19, sR18.at, sR19.at, asc_one sR18.asc sR19.asc fun c => by rw [mem18, mem19]⟩, fun I7 s67 => ⟨_, rfl, iteF ?_⟩⟩
      have sI7 := sI6.trans s67
      clear s67 s56 s45 sI6 sI5 sI4 ht18 q18 q19 sR18 sR19
      -- only of none
      refine ⟨_, rfl, st, dx1, _, rfl, sI7 _ _ q11, rfl, (by show 0 ≤ sizeLine; decide), fun e18 ne18 => ?_⟩
      have s78 : Same I7 (upd I7 e18 (.lst [])) := same_new ne18
      have he18 : (upd I7 e18 (.lst [])) e18 = some (.lst (([] : List Str).map V.str)) := upd_same
      have sI8 := sI7.trans s78
      generalize upd I7 e18 (.lst []) = I8 at he18 sI8 ⊢
      refine ⟨st, e18, M1, [], rfl, sM1.same sI8, .inl (SqL.of he18), fun I9 r20 R20 s89 _ sR20 mem20 => ?_⟩
      have sI9 := sI8.trans s89
      obtain rfl : R20 = [] := st_nil fun c h => nomatch ((mem20 c).mp h).2
      obtain ⟨dx20, tt20, dd20, q20, _, _⟩ := sR20.ex
      refine ⟨r20, dx20, _, rfl, q20, r20, [], rfl, sR20, 0, rfl, by decide, ?_⟩
      refine ⟨rfl, _, rfl, ?_⟩
      rw [decide_eq_true (show V.int ((0 : Nat) : Int) = V.int 0 from rfl)]
      refine iteF ?_
      clear s78 sI7 he18 s89 sI8 q20 sR20 ne18
      -- + itself
      refine ⟨_, rfl, _, rfl, st, dx1, _, st, dx1, _, rfl, rfl, sI9 _ _ q11, sI9 _ _ q11, st, st, M1, M1, rfl, sM1.same sI9, sM1.same sI9, by omega, fun IA r21 R21 s9A _ sR21 mem21 => ⟨r21, rfl, ?_⟩⟩
      have sIA := sI9.trans s9A
      obtain ⟨dx21, tt21, dd21, q21', _, _⟩ := sR21.ex
      refine ⟨_, rfl, ⟨r21, st, dx21, dx1, _, _, rfl, rfl, q21', sIA _ _ q11, R21, M1, sR21.at, (sM1.same sIA).at, asc_one sR21.asc sM1.asc fun c => by rw [mem21, or_self]⟩, fun IB sAB => ⟨_, rfl, iteF ?_⟩⟩
      have sIB := sIA.trans sAB
      clear sAB sIA s9A sI9 q21' sR21
      -- minus itself
      refine ⟨_, rfl, _, rfl, st, dx1, _, st, dx1, _, rfl, rfl, sIB _ _ q11, sIB _ _ q11, st, st, M1, M1, rfl, sM1.same sIB, sM1.same sIB, fun IC r22 R22 sBC _ sR22 mem22 => ⟨r22, rfl, ?_⟩⟩
      have sIC := sIB.trans sBC
      obtain rfl : R22 = [] := st_nil fun c h => ((mem22 c).mp h).2 ((mem22 c).mp h).1
      obtain ⟨dx22, tt22, dd22, q22, _, _⟩ := sR22.ex
      refine ⟨r22, dx22, _, rfl, q22, r22, [], rfl, sR22, 0, rfl, by decide, ?_⟩
      refine ⟨rfl, _, rfl, ?_⟩
      rw [decide_eq_true (show V.int ((0 : Nat) : Int) = V.int 0 from rfl)]
      refine iteF ?_
      clear sBC sIB q22 sR22
      -- minus none
      refine ⟨_, rfl, ?_⟩
      dsimp only [tNil, List.cons_append, List.nil_append]
      refine make_none hT0 fun ID r23 sCD _ sR23 => ?_
      have sID := sIC.trans sCD
      obtain ⟨dx23, tt23, dd23, q23, _, _⟩ := sR23.ex
      refine ⟨st, dx1, _, r23, dx23, _, rfl, rfl, sID _ _ q11, q23, st, r23, M1, [], rfl, sM1.same sID, sR23, fun IE r24 R24 sDE _ sR24 mem24 => ⟨r24, rfl, ?_⟩⟩
      have sIE := sID.trans sDE
      obtain ⟨dx24, tt24, dd24, q24, _, _⟩ := sR24.ex
      refine ⟨_, rfl, ⟨r24, st, dx24, dx1, _, _, rfl, rfl, q24, sIE _ _ q11, R24, M1, sR24.at, (sM1.same sIE).at, asc_one sR24.asc sM1.asc fun c => by rw [mem24]; simp⟩, fun IF sEF => ⟨_, rfl, iteF ?_⟩⟩
      have sIF := sIE.trans sEF
      clear sEF sIE sDE sID sCD sIC q23 q24 sR23 sR24
      -- constants, emptied
      refine ⟨_, rfl, st, dx1, _, rfl, sIF _ _ q11, rfl, st, M1, rfl, sM1.same sIF, Nat.le_trans uM1 (by decide), fun ys r25 IG sFG n25 _ _ h25 => ?_⟩
      refine ⟨.inl ⟨rfl, _, SqL.of h25⟩, r25, _, rfl, rfl, h25, ?_⟩
      have sIH : Same I0 (upd IG r25 (.lst [])) := fun b o h => by
        have hF := sIF _ _ h
        rw [upd_ne (ne_of_none hF n25)]
        exact sFG _ _ hF
      generalize upd IG r25 (.lst []) = IH at sIH ⊢
      clear sFG h25 n25 sIF
      -- strange ones
      refine ⟨_, rfl, _, rfl, _, rfl, pS, g1, g2, ci, 999200, π, G1, G2, rfl, (src1.same sIH).mono (by decide), sIH _ _ hg1, sIH _ _ hg2, ng1, ng2, fg1.keep (Keep.of sIH), fg2.keep (Keep.of sIH), lG1, lG2, fun II srcI kHI => ⟨true, rfl, iteF ?_⟩⟩
      have sM1 := (sM1.same sIH).keep (src1.same sIH) kHI
      have q11 := kHI _ _ (sIH _ _ q11) (src_ne (src1.same sIH) (sIH _ _ q11))
      have hg1 := kHI _ _ (sIH _ _ hg1) ng1
      have fg1 := (fg1.keep (Keep.of sIH)).keep kHI
      have kI := (kI.trans (Keep.of sIH)).trans kHI
      clear sIH kHI srcI src1
      refine ⟨_, rfl, _, rfl, st, g1, M1, G1, rfl, sM1, hg1, fg1.at, c1.symm, lM1, uM1, fun IJ sIJ => ⟨true, rfl, iteF ?_⟩⟩
      -- no list, no tuple
      refine ⟨_, rfl, _, rfl, st, dx1, _, rfl, sIJ _ _ q11, ⟨g1, rfl, .inr (.inl ⟨⟨_, SqL.of (sIJ _ _ hg1)⟩, nsl⟩)⟩, st, M1, sM1.same sIJ, .inr ⟨.ref g1, rfl, _, .base (.lst (sIJ _ _ hg1)), nkl, _, rfl, _, rfl, iteF ?_⟩⟩
      refine ⟨_, rfl, _, rfl, g1, _, rfl, .inl ⟨SqL.of (sIJ _ _ hg1), fun t22 nt22 => ?_⟩⟩
      have sJK : Same IJ (upd IJ t22 (.tup (G1.map fun x => V.ref x.1))) := same_new nt22
      have ht22 : (upd IJ t22 (.tup (G1.map fun x => V.ref x.1))) t22 = some (.tup (G1.map fun x => V.ref x.1)) := upd_same
      have sIK := sIJ.trans sJK
      generalize upd IJ t22 (.tup (G1.map fun x => V.ref x.1)) = IK at ht22 sIK ⊢
      refine ⟨st, dx1, _, rfl, sIK _ _ q11, ⟨t22, rfl, .inr (.inr ⟨⟨_, SqT.of ht22⟩, nst⟩)⟩, st, M1, sM1.same sIK, .inr ⟨.ref t22, rfl, _, .base (.tup ht22), nkt, _, rfl, _, rfl, iteF ?_⟩⟩
      exact ⟨⟨_, _, _, _, _, _, _, _, _, _, _, _, _, _, rfl⟩, sIK _ _ (kI _ _ h3 zS)⟩
    · rintro σ HA ⟨⟨v1, v2, v3, v4, v5, v6, v7, v8, v9, w1, w2, w3, w4, w5, rfl⟩, _⟩
      show ∀ x dx, HA x = none → HA dx = none → dx ≠ x → spInitS C K [.ref x, .ref T0] (upd (upd HA dx (.own x)) x (.ins C dx [])) _ E0
      refine make_none hT0 fun HB r1 sAB _ st1 => ?_
      obtain ⟨dx1, tt1, dd1, q1, _, _⟩ := st1.ex
      refine ⟨r1, dx1, _, rfl, q1, r1, [], rfl, st1, 0, rfl, by decide, ?_⟩
      refine ⟨rfl, _, rfl, ?_⟩
      rw [decide_eq_true (show V.int ((0 : Nat) : Int) = V.int 0 from rfl)]
      refine iteT ?_
      show ∀ x dx, HB x = none → HB dx = none → dx ≠ x → spInitS C K [.ref x, .ref T0] (upd (upd HB dx (.own x)) x (.ins C dx [])) _ E0
      refine make_none hT0 fun HC r2 sBC _ st2 => ?_
      obtain ⟨dx2, tt2, dd2, q2, _, _⟩ := st2.ex
      refine ⟨(by show 0 ≤ sizeLine; decide), fun l nl => ?_⟩
      have sCD : Same HC (upd HC l (.lst [])) := same_new nl
      have hl : (upd HC l (.lst [])) l = some (.lst ((([] : List Pt)).map fun x => V.ref x.1)) := upd_same
      generalize upd HC l (.lst []) = HD at sCD hl ⊢
      dsimp only [tNil, List.cons_append, List.nil_append]
      refine make_fctsA (xs := []) sCD ⟨fun x h => (nomatch h), fun x h => (nomatch h)⟩ (by decide) (.inl (SqL.of hl)) fun HE r3 R3 sCE _ _ st3 mem3 => ?_
      obtain rfl : R3 = [] := st_nil fun c h => nomatch ((mem3 c).mp h)
      obtain ⟨dx3, tt3, dd3, q3, _, _⟩ := st3.ex
      refine ⟨r2, dx2, _, rfl, sCE _ _ q2, ⟨r3, rfl, .inl ⟨dx3, _, q3⟩⟩, r2, [], st2.same sCE, .inl ⟨r3, [], rfl, st3, fun HF sEF => ⟨_, rfl, ?_⟩⟩⟩
      rw [decide_eq_true rfl]
      refine ⟨_, rfl, iteT ?_⟩
      show ∀ x dx, HF x = none → HF dx = none → dx ≠ x → spInitS C K [.ref x, .ref T0] (upd (upd HF dx (.own x)) x (.ins C dx [])) _ E0
      refine make_none hT0 fun HG r4 sFG _ st4 => ?_
      obtain ⟨dx4, tt4, dd4, q4, _, _⟩ := st4.ex
      refine ⟨r4, dx4, _, rfl, q4, rfl, r4, [], rfl, st4, (by decide), fun ys r5 HH sGH _ pm _ h5 => ?_⟩
      obtain rfl : ys = [] := List.Perm.eq_nil pm
      refine ⟨(by show 0 ≤ sizeLine; decide), fun l2 nl2 => ?_⟩
      have sHI : Same HH (upd HH l2 (.lst [])) := same_new nl2
      refine ⟨.list [], .list [], .lst (SqL.of (sHI _ _ h5)) .nil, .lst (SqL.of upd_same) .nil, by decide +kernel, by decide +kernel, ?_⟩
      rw [show PyData.eqv (.list []) (.list []) = true from by simp [PyData.eqv, PyData.eqvAll]]
      exact k _
end
end L2.LawH
set_option Elab.async false
set_option linter.all false
set_option maxRecDepth 100000
set_option maxHeartbeats 0
/-! The law on stores: its end. -/
namespace L2.LawH
open PySem PySem.Spec PyProof.Rows L2.TxtSet TL L2.NSet L2.ClsCall PySem.W L2.OwnOp
open Builtin.Int (intBits)
/-- a def with the default () -/
theorem fund_mk {K : PySem.W.Frag} {x qual : Str} {st : Stmt} {f TD T0 : Addr} {oc kV doc pm cdv ct : Value} {od an d2 d3 : Option Addr} {osl s2 s3 : Array (Option Value)} {c2 : Value} {n2 n3 : Nat}
    (l : K.lookup f = some ⟨oc, od, .func (PySem.W.fnOf x qual (defArgs st) (defBody st) (defScope st) (.ref TD) kV doc pm an cdv ct), osl⟩) (c : PySem.W.codeIn K cdv qual = true) (k : PySem.W.keepIn K (.ref f) = true)
    (lD : K.lookup TD = some ⟨c2, d2, .seq #[.ref T0] n2, s2⟩) (l0 : K.lookup T0 = some ⟨.type "tuple", d3, .seq #[] n3, s3⟩) :
    ∃ fd T0, FunD K x qual (defArgs st) (defBody st) (defScope st) [.ref T0] [] f fd ∧ ∀ H, SqT K H T0 [] :=
  ⟨_, T0, ⟨⟨oc, od, _, kV, doc, pm, an, cdv, ct, osl, rfl, l, c, .inr ⟨by simp, TD, _, [.ref T0], n2, rfl, lD, rfl, .cons rfl .nil⟩, .inl rfl⟩, k⟩,
    fun H => .inr ⟨_, #[], n3, l0, rfl, rfl, (by show 0 ≤ sizeLine; decide), .nil⟩⟩
theorem all_given {K : PySem.W.Frag} {x qual : Str} {st : Stmt} {T0 : V} {f : Addr} {fd : FuncData} {p1 p2 : Str} (F : FunD K x qual (defArgs st) (defBody st) (defScope st) [T0] [] f fd)
    (h : ∀ (T : Addr) (kV doc pm : Value) (an : Option Addr) (cdv ct : Value) (us its : List Value), us.length = 2 → its.length = 1 →
      ∃ k, bindArgs (PySem.W.fnOf x qual (defArgs st) (defBody st) (defScope st) (.ref T) kV doc pm an cdv ct) ⟨us, []⟩ = seqItems? (.ref T) >>= k ∧ k (some its.toArray) = pure ([p1, p2].zip (us ++ its.drop 1))) : Binds K fd [p1, p2] [] := by
  obtain ⟨ds, v, b⟩ := FunD.binds1 (ps := [p1, p2]) F 2 1 (by simp) rfl h
  cases v
  exact b
theorem one_given {K : PySem.W.Frag} {x qual : Str} {st : Stmt} {T0 : Addr} {f : Addr} {fd : FuncData} {p1 p2 : Str} (F : FunD K x qual (defArgs st) (defBody st) (defScope st) [.ref T0] [] f fd)
    (h : ∀ (T : Addr) (kV doc pm : Value) (an : Option Addr) (cdv ct : Value) (us its : List Value), us.length = 1 → its.length = 1 →
      ∃ k, bindArgs (PySem.W.fnOf x qual (defArgs st) (defBody st) (defScope st) (.ref T) kV doc pm an cdv ct) ⟨us, []⟩ = seqItems? (.ref T) >>= k ∧ k (some its.toArray) = pure ([p1, p2].zip (us ++ its.drop 0))) : Binds K fd [p1, p2] [.ref T0] := by
  obtain ⟨ds, v, b⟩ := FunD.binds1 (ps := [p1, p2]) F 1 0 (by simp) rfl h
  cases v with
  | cons r t =>
    cases t
    cases r
    exact b
theorem exm_self {K : PySem.W.Frag} {B : Addr} (su : PySem.W.subIn K (.ref B) (.type "BaseException") = some true) (ic : PySem.W.isClsIn K B = true) (ty : PySem.W.typeIn K (.ref B) = some (.type "type")) (sB : PySem.W.subIn K (.ref B) (.ref B) = some true) :
    PySem.W.exmOne K (.ref B) (.ref B) = some true := by
  unfold PySem.W.exmOne
  rw [su, if_pos (by decide +kernel)]
  show (if ((PySem.W.clsIn K B).isSome && PySem.W.typeIn K (.ref B) == some (.type "type")) = true then PySem.W.subIn K (.ref B) (.ref B) else none) = _
  have ic' : (PySem.W.clsIn K B).isSome = true := ic
  rw [ic', ty, if_pos (by decide +kernel)]
  exact sB
theorem kit_not {K : PySem.W.Frag} {C : Addr} {n : String} (ic : PySem.W.isClsIn K C = true) (ty : PySem.W.typeIn K (.ref C) = some (.type "type")) (s : PySem.W.subIn K (.type n) (.ref C) = some false) : PySem.W.kitOne K (.type n) (.ref C) = some false := by
  show (if (Value.type n == Value.ref C) = true then some true else PySem.W.kitCls K (.type n) (.ref C)) = some false
  rw [if_neg (by simp)]
  show (if ((PySem.W.clsIn K C).isSome && PySem.W.typeIn K (.ref C) == some (.type "type")) = true then PySem.W.subIn K (.type n) (.ref C) else none) = _
  have ic' : (PySem.W.clsIn K C).isSome = true := ic
  rw [ic', ty, if_pos (by decide +kernel)]
  exact s
def Oex (K : PySem.W.Frag) (C : Addr) : Prop := ∃ nm q N bs bm sn sub ab col dd k0 k1 k2 k3 k5, K.lookup C = some (excClassObj nm q C N bs bm true sn sub ab col dd k0 k1 k2 k3 k5 "ValueError.__new__") ∧ PySem.HandSPX.refsVE bm = true
theorem all_mk {P : Program} {w : World} {K : PySem.W.Frag} {h : Heap} {mg : Str → Option Value} {fa fS fD fNm fNs fPo fTm fPt fLN fLT fLP fOd fSm fSr fCo fOu fIs fRe fSg fN fV fP fF fX fR fLi fFt fL fZl fZi fZh fZe fZa fZs fZw fZk fZo fZx fC fI pF fFs pR fRd fB fBI fW fWI : Addr} {t3 t4 : Tok}
    (X : K.In h) (G : h.Ns mainGlobals mg) (hfa : mg "law" = some (.ref fa))
    (bS : PySem.W.nsIn K mainGlobals "_law_source" = some (some (.ref fS)))
    (ES : ∃ fd, Fun K "_law_source" "_law_source" sSource fS fd)
    (bD : PySem.W.nsIn K mainGlobals "_law_draw" = some (some (.ref fD)))
    (ED : ∃ fd, Fun K "_law_draw" "_law_draw" sDraw fD fd)
    (bNm : PySem.W.nsIn K mainGlobals "_law_name" = some (some (.ref fNm)))
    (ENm : ∃ fd, Fun K "_law_name" "_law_name" sName fNm fd)
    (bNs : PySem.W.nsIn K mainGlobals "_law_names" = some (some (.ref fNs)))
    (ENs : ∃ fd, Fun K "_law_names" "_law_names" sNames fNs fd)
    (bPo : PySem.W.nsIn K mainGlobals "_law_pool" = some (some (.ref fPo)))
    (EPo : ∃ fd, Fun K "_law_pool" "_law_pool" sPool fPo fd)
    (bTm : PySem.W.nsIn K mainGlobals "_law_term" = some (some (.ref fTm)))
    (ETm : ∃ fd, Fun K "_law_term" "_law_term" sTerm fTm fd)
    (bPt : PySem.W.nsIn K mainGlobals "_law_pattern" = some (some (.ref fPt)))
    (EPt : ∃ fd, Fun K "_law_pattern" "_law_pattern" sPat fPt fd)
    (bLN : PySem.W.nsIn K mainGlobals "_law_is_name" = some (some (.ref fLN)))
    (ELN : ∃ fd, Fun K "_law_is_name" "_law_is_name" sLIN fLN fd)
    (bLT : PySem.W.nsIn K mainGlobals "_law_is_term" = some (some (.ref fLT)))
    (ELT : ∃ fd, Fun K "_law_is_term" "_law_is_term" sLIT fLT fd)
    (bLP : PySem.W.nsIn K mainGlobals "_law_is_pattern" = some (some (.ref fLP)))
    (ELP : ∃ fd, Fun K "_law_is_pattern" "_law_is_pattern" sLIP fLP fd)
    (bOd : PySem.W.nsIn K mainGlobals "_law_odd" = some (some (.ref fOd)))
    (EOd : ∃ fd, Fun K "_law_odd" "_law_odd" sOdd fOd fd)
    (bSm : PySem.W.nsIn K mainGlobals "_law_some" = some (some (.ref fSm)))
    (ESm : ∃ fd, Fun K "_law_some" "_law_some" sLSome fSm fd)
    (bSr : PySem.W.nsIn K mainGlobals "_law_sorted" = some (some (.ref fSr)))
    (ESr : ∃ fd, Fun K "_law_sorted" "_law_sorted" sLSorted fSr fd)
    (bCo : PySem.W.nsIn K mainGlobals "_law_constants" = some (some (.ref fCo)))
    (ECo : ∃ fd, Fun K "_law_constants" "_law_constants" sLConst fCo fd)
    (bOu : PySem.W.nsIn K mainGlobals "_law_once" = some (some (.ref fOu)))
    (EOu : ∃ fd, Fun K "_law_once" "_law_once" sLOnce fOu fd)
    (bIs : PySem.W.nsIn K mainGlobals "_law_is" = some (some (.ref fIs)))
    (EIs : ∃ fd, Fun K "_law_is" "_law_is" sLIs fIs fd)
    (bRe : PySem.W.nsIn K mainGlobals "_law_refused" = some (some (.ref fRe)))
    (ERe : ∃ fd, Fun K "_law_refused" "_law_refused" sLRefused fRe fd)
    (bSg : PySem.W.nsIn K mainGlobals "_law_strange" = some (some (.ref fSg)))
    (ESg : ∃ fd, Fun K "_law_strange" "_law_strange" sLStrange fSg fd)
    (bN : PySem.W.nsIn K mainGlobals "is_name" = some (some (.ref fN)))
    (EN : ∃ fd, Fun K "is_name" "is_name" sIsN fN fd)
    (bV : PySem.W.nsIn K mainGlobals "is_variable" = some (some (.ref fV)))
    (EV : ∃ fd, Fun K "is_variable" "is_variable" sIsV9 fV fd)
    (bP : PySem.W.nsIn K mainGlobals "is_pattern" = some (some (.ref fP)))
    (EP : ∃ fd, Fun K "is_pattern" "is_pattern" sIsP9 fP fd)
    (bF : PySem.W.nsIn K mainGlobals "is_fact" = some (some (.ref fF)))
    (EF : ∃ fd, Fun K "is_fact" "is_fact" sIsF10 fF fd)
    (bX : PySem.W.nsIn K mainGlobals "pattern_text" = some (some (.ref fX)))
    (EX : ∃ fd, Fun K "pattern_text" "pattern_text" sPt12 fX fd)
    (bR : PySem.W.nsIn K mainGlobals "read_pattern" = some (some (.ref fR)))
    (ER : ∃ fd, Fun K "read_pattern" "read_pattern" sRd18 fR fd)
    (bLi : PySem.W.nsIn K mainGlobals "lines_of" = some (some (.ref fLi)))
    (ELi : ∃ fd, Fun K "lines_of" "lines_of" sLinesOf fLi fd)
    (bFt : PySem.W.nsIn K mainGlobals "facts_told" = some (some (.ref fFt)))
    (EFt : ∃ fd, Fun K "facts_told" "facts_told" sFactsTold fFt fd)
    (bL : PySem.W.nsIn K mainGlobals "law" = some (some (.ref fL)))
    (EL : ∃ fd, Fun K "law" "law" sLaw fL fd)
    (bC : PySem.W.nsIn K mainGlobals "Store" = some (some (.ref fC)))
    (bI : PySem.W.findIn K (.ref fC) "__init__" = some (some (.ref fI)))
    (DI : ∃ fd T0, FunD K "__init__" "Store.__init__" (defArgs sInitS) (defBody sInitS) (defScope sInitS) [.ref T0] [] fI fd ∧ ∀ H, SqT K H T0 [])
    (iI : PySem.W.isFn K (.ref fI) = true)
    (bZl : PySem.W.findIn K (.ref fC) "__len__" = some (some (.ref fZl)))
    (EZl : ∃ fd, Fun K "__len__" "Store.__len__" sLenS fZl fd)
    (iZl : PySem.W.isFn K (.ref fZl) = true)
    (bZi : PySem.W.findIn K (.ref fC) "__iter__" = some (some (.ref fZi)))
    (EZi : ∃ fd, Fun K "__iter__" "Store.__iter__" sIterS fZi fd)
    (iZi : PySem.W.isFn K (.ref fZi) = true)
    (bZh : PySem.W.findIn K (.ref fC) "__contains__" = some (some (.ref fZh)))
    (EZh : ∃ fd, Fun K "__contains__" "Store.__contains__" sHasS fZh fd)
    (iZh : PySem.W.isFn K (.ref fZh) = true)
    (bZe : PySem.W.findIn K (.ref fC) "__eq__" = some (some (.ref fZe)))
    (EZe : ∃ fd, Fun K "__eq__" "Store.__eq__" sEqS fZe fd)
    (iZe : PySem.W.isFn K (.ref fZe) = true)
    (bZa : PySem.W.findIn K (.ref fC) "__add__" = some (some (.ref fZa)))
    (EZa : ∃ fd, Fun K "__add__" "Store.__add__" sAddS fZa fd)
    (iZa : PySem.W.isFn K (.ref fZa) = true)
    (bZs : PySem.W.findIn K (.ref fC) "__sub__" = some (some (.ref fZs)))
    (EZs : ∃ fd, Fun K "__sub__" "Store.__sub__" sSubS fZs fd)
    (iZs : PySem.W.isFn K (.ref fZs) = true)
    (bZw : PySem.W.findIn K (.ref fC) "within" = some (some (.ref fZw)))
    (EZw : ∃ fd, Fun K "within" "Store.within" sWithinS fZw fd)
    (iZw : PySem.W.isFn K (.ref fZw) = true)
    (bZk : PySem.W.findIn K (.ref fC) "constants" = some (some (.ref fZk)))
    (EZk : ∃ fd, Fun K "constants" "Store.constants" sConstS fZk fd)
    (iZk : PySem.W.isFn K (.ref fZk) = true)
    (bZo : PySem.W.findIn K (.ref fC) "only" = some (some (.ref fZo)))
    (EZo : ∃ fd, Fun K "only" "Store.only" sOnlyS fZo fd)
    (iZo : PySem.W.isFn K (.ref fZo) = true)
    (bZx : PySem.W.findIn K (.ref fC) "text" = some (some (.ref fZx)))
    (EZx : ∃ fd, Fun K "text" "Store.text" sTextS fZx fd)
    (iZx : PySem.W.isFn K (.ref fZx) = true)
    (bFs : PySem.W.findIn K (.ref fC) "facts" = some (some (.ref pF)))
    (gFs : PySem.W.specialIn K (.ref pF) "__get__" = some (some (.builtin "property.__get__")))
    (tFs : PySem.W.takesIn K (.ref pF) = some true)
    (XrFs : ∃ rest, PySem.W.recIn K pF "property" = some (.ref fFs :: rest))
    (EFs : ∃ fd, Fun K "facts" "Store.facts" sFactsS fFs fd)
    (rd : PySem.W.readsIn K fC (.type "type") = true)
    (rga : PySem.W.specialIn K (.ref fC) "__getattribute__" = some (some (.builtin "type.__getattribute__")))
    (bRd : PySem.W.findCls K (.ref fC) (.type "type") "read" = some (.get (.builtin "classmethod.__get__") (.ref pR) .none (.ref fC)))
    (XrRd : ∃ rest, PySem.W.recIn K pR "classmethod" = some (.ref fRd :: rest))
    (iRd : PySem.W.fnIn K fRd = true)
    (ERd : ∃ fd, Fun K "read" "Store.read" sReadS fRd fd)
    (pg : PySem.W.plainGet K fC Str.empty = true)
    (hd : PySem.W.hasDictIn K fC = true)
    (po : PySem.W.plainOver K fC = true)
    (sa : PySem.W.findIn K (.ref fC) "__setattr__" = some (some (.builtin "object.__setattr__")))
    (mk : PySem.W.makesIn K fC = true)
    (kc : PySem.W.keepIn K (.ref fC) = true)
    (nF : PySem.W.findIn K (.ref fC) "_facts" = some none)
    (nH : PySem.W.findIn K (.ref fC) "_held" = some none)
    (nG : PySem.W.findIn K (.ref fC) "_groups" = some none)
    (ha : PySem.W.findIn K (.ref fC) "__class__" = some (some (.builtin "object.__class__")))
    (hn : PySem.W.specialIn K (.builtin "object.__class__") "__get__" = some (some (.builtin "getset_descriptor.__get__")))
    (htk : PySem.W.takesIn K (.builtin "object.__class__") = some true)
    (hm : PySem.W.mroIn K fC (.type "object") = some true)
    (ne : PySem.W.findIn K (.ref fC) "__ne__" = some (some (.builtin "object.__ne__")))
    (sf : PySem.W.selfFirst K fC = true)
    (icC : PySem.W.isClsIn K fC = true)
    (tyC : PySem.W.typeIn K (.ref fC) = some (.type "type"))
    (slC : PySem.W.subIn K (.type "list") (.ref fC) = some false)
    (stC : PySem.W.subIn K (.type "tuple") (.ref fC) = some false)
    (bB : PySem.W.nsIn K mainGlobals "BadLine" = some (some (.ref fB)))
    (OB : Oex K fB)
    (saB : PySem.W.findIn K (.ref fB) "__setattr__" = some (some (.builtin "object.__setattr__")))
    (exB : PySem.W.subIn K (.ref fB) (.type "BaseException") = some true)
    (tyB : PySem.W.typeIn K (.ref fB) = some (.type "type"))
    (kB : PySem.W.keepIn K (.ref fB) = true)
    (iXB : PySem.W.findIn K (.ref fB) "__init__" = some (some (.ref fBI)))
    (tBI : PySem.W.typeIn K (.ref fBI) = some (.type "function"))
    (EBI : ∃ fd, Fun K "__init__" "BadLine.__init__" sBLi fBI fd)
    (nlB : PySem.W.findIn K (.ref fB) "line" = some none)
    (gaB : PySem.W.findIn K (.ref fB) "__getattribute__" = some (some (.builtin "BaseException.__getattribute__")))
    (ggB : PySem.W.findIn K (.ref fB) "__getattr__" = some none)
    (hdB : PySem.W.hasDictIn K fB = true)
    (icB : PySem.W.isClsIn K fB = true)
    (sBB : PySem.W.subIn K (.ref fB) (.ref fB) = some true)
    (bW : PySem.W.nsIn K mainGlobals "BadFact" = some (some (.ref fW)))
    (OW : Oex K fW)
    (saW : PySem.W.findIn K (.ref fW) "__setattr__" = some (some (.builtin "object.__setattr__")))
    (exW : PySem.W.subIn K (.ref fW) (.type "BaseException") = some true)
    (tyW : PySem.W.typeIn K (.ref fW) = some (.type "type"))
    (kW : PySem.W.keepIn K (.ref fW) = true)
    (iXW : PySem.W.findIn K (.ref fW) "__init__" = some (some (.ref fWI)))
    (tWI : PySem.W.typeIn K (.ref fWI) = some (.type "function"))
    (EWI : ∃ fd, Fun K "__init__" "BadFact.__init__" sBFi fWI fd)
    (nlW : PySem.W.findIn K (.ref fW) "value" = some none)
    (gaW : PySem.W.findIn K (.ref fW) "__getattribute__" = some (some (.builtin "BaseException.__getattribute__")))
    (ggW : PySem.W.findIn K (.ref fW) "__getattr__" = some none)
    (hdW : PySem.W.hasDictIn K fW = true)
    (icW : PySem.W.isClsIn K fW = true)
    (sWB : PySem.W.subIn K (.ref fW) (.ref fW) = some true)
    (z_int : PySem.W.nsIn K mainGlobals "int" = some none)
    (z_str : PySem.W.nsIn K mainGlobals "str" = some none)
    (z_len : PySem.W.nsIn K mainGlobals "len" = some none)
    (z_range : PySem.W.nsIn K mainGlobals "range" = some none)
    (z_tuple : PySem.W.nsIn K mainGlobals "tuple" = some none)
    (z_list : PySem.W.nsIn K mainGlobals "list" = some none)
    (z_sorted : PySem.W.nsIn K mainGlobals "sorted" = some none)
    (z_isinstance : PySem.W.nsIn K mainGlobals "isinstance" = some none)
    (z_set : PySem.W.nsIn K mainGlobals "set" = some none)
    (z_enumerate : PySem.W.nsIn K mainGlobals "enumerate" = some none)
    (z_iter : PySem.W.nsIn K mainGlobals "iter" = some none)
    (z_all : PySem.W.nsIn K mainGlobals "all" = some none)
    (c0 : PySem.W.nsIn K mainGlobals "LONGEST_NAME" = some (some (.int 12 t3)))
    (c1 : PySem.W.nsIn K mainGlobals "MOST_TERMS" = some (some (.int 3 t4)))
    : ∃ fd : FuncData, (∀ (s : Shared) (v : Value), BindsTo s fd ⟨[v], []⟩ [("_law_script", v)]) ∧
      ∀ base : Heap, K.In base → base.Ns mainGlobals mg → FnOk P w K mg base CX0 9 fa fd ["_law_script"] (spLaw K) := by
  have e := hfa.symm.trans (PySem.W.mg_of X G bL)
  cases e
  obtain ⟨dS, FS⟩ := ES
  obtain ⟨dD, FD⟩ := ED
  obtain ⟨dNm, FNm⟩ := ENm
  obtain ⟨dNs, FNs⟩ := ENs
  obtain ⟨dPo, FPo⟩ := EPo
  obtain ⟨dTm, FTm⟩ := ETm
  obtain ⟨dPt, FPt⟩ := EPt
  obtain ⟨dLN, FLN⟩ := ELN
  obtain ⟨dLT, FLT⟩ := ELT
  obtain ⟨dLP, FLP⟩ := ELP
  obtain ⟨dOd, FOd⟩ := EOd
  obtain ⟨dSm, FSm⟩ := ESm
  obtain ⟨dSr, FSr⟩ := ESr
  obtain ⟨dCo, FCo⟩ := ECo
  obtain ⟨dOu, FOu⟩ := EOu
  obtain ⟨dIs, FIs⟩ := EIs
  obtain ⟨dRe, FRe⟩ := ERe
  obtain ⟨dSg, FSg⟩ := ESg
  obtain ⟨dN, FN⟩ := EN
  obtain ⟨dV, FV⟩ := EV
  obtain ⟨dP, FP⟩ := EP
  obtain ⟨dF, FF⟩ := EF
  obtain ⟨dX, FX⟩ := EX
  obtain ⟨dR, FR⟩ := ER
  obtain ⟨dLi, FLi⟩ := ELi
  obtain ⟨dFt, FFt⟩ := EFt
  obtain ⟨dL, FL⟩ := EL
  obtain ⟨dZl, FZl⟩ := EZl
  obtain ⟨dZi, FZi⟩ := EZi
  obtain ⟨dZh, FZh⟩ := EZh
  obtain ⟨dZe, FZe⟩ := EZe
  obtain ⟨dZa, FZa⟩ := EZa
  obtain ⟨dZs, FZs⟩ := EZs
  obtain ⟨dZw, FZw⟩ := EZw
  obtain ⟨dZk, FZk⟩ := EZk
  obtain ⟨dZo, FZo⟩ := EZo
  obtain ⟨dZx, FZx⟩ := EZx
  obtain ⟨ddFs, FFFs⟩ := EFs
  obtain ⟨ddRd, FFRd⟩ := ERd
  obtain ⟨ddBI, FFBI⟩ := EBI
  obtain ⟨ddWI, FFWI⟩ := EWI
  obtain ⟨dI, T1, FI, hT1⟩ := DI
  have mS := PySem.W.mg_of X G bS
  have qS := FS.binds (ps := ["_law_cell"]) fun _ _ _ _ _ _ us hl => match us, hl with | [_], _ => rfl
  have mD := PySem.W.mg_of X G bD
  have qD := FD.binds (ps := ["_law_source_here", "_law_limit"]) fun _ _ _ _ _ _ us hl => match us, hl with | [_, _], _ => rfl
  have mNm := PySem.W.mg_of X G bNm
  have qNm := FNm.binds (ps := ["_law_source_here"]) fun _ _ _ _ _ _ us hl => match us, hl with | [_], _ => rfl
  have mNs := PySem.W.mg_of X G bNs
  have qNs := FNs.binds (ps := ["_law_source_here", "_law_many"]) fun _ _ _ _ _ _ us hl => match us, hl with | [_, _], _ => rfl
  have mPo := PySem.W.mg_of X G bPo
  have qPo := FPo.binds (ps := ["_law_source_here"]) fun _ _ _ _ _ _ us hl => match us, hl with | [_], _ => rfl
  have mTm := PySem.W.mg_of X G bTm
  have qTm := FTm.binds (ps := ["_law_source_here", "_law_pool_here", "_law_variables", "_law_share"]) fun _ _ _ _ _ _ us hl => match us, hl with | [_, _, _, _], _ => rfl
  have mPt := PySem.W.mg_of X G bPt
  have qPt := FPt.binds (ps := ["_law_source_here", "_law_pool_here", "_law_variables", "_law_share"]) fun _ _ _ _ _ _ us hl => match us, hl with | [_, _, _, _], _ => rfl
  have mLN := PySem.W.mg_of X G bLN
  have qLN := FLN.binds (ps := ["_law_value"]) fun _ _ _ _ _ _ us hl => match us, hl with | [_], _ => rfl
  have mLT := PySem.W.mg_of X G bLT
  have qLT := FLT.binds (ps := ["_law_value", "_law_open_too"]) fun _ _ _ _ _ _ us hl => match us, hl with | [_, _], _ => rfl
  have mLP := PySem.W.mg_of X G bLP
  have qLP := FLP.binds (ps := ["_law_value", "_law_open_too"]) fun _ _ _ _ _ _ us hl => match us, hl with | [_, _], _ => rfl
  have mOd := PySem.W.mg_of X G bOd
  have qOd := FOd.binds (ps := ["_law_source_here", "_law_pattern_here"]) fun _ _ _ _ _ _ us hl => match us, hl with | [_, _], _ => rfl
  have mSm := PySem.W.mg_of X G bSm
  have qSm := FSm.binds (ps := ["_law_source_here", "_law_pool_here"]) fun _ _ _ _ _ _ us hl => match us, hl with | [_, _], _ => rfl
  have mSr := PySem.W.mg_of X G bSr
  have qSr := FSr.binds (ps := ["_law_facts_here"]) fun _ _ _ _ _ _ us hl => match us, hl with | [_], _ => rfl
  have mCo := PySem.W.mg_of X G bCo
  have qCo := FCo.binds (ps := ["_law_facts_here"]) fun _ _ _ _ _ _ us hl => match us, hl with | [_], _ => rfl
  have mOu := PySem.W.mg_of X G bOu
  have qOu := FOu.binds (ps := ["_law_words"]) fun _ _ _ _ _ _ us hl => match us, hl with | [_], _ => rfl
  have mIs := PySem.W.mg_of X G bIs
  have qIs := FIs.binds (ps := ["_law_store", "_law_facts_here"]) fun _ _ _ _ _ _ us hl => match us, hl with | [_, _], _ => rfl
  have mRe := PySem.W.mg_of X G bRe
  have qRe := FRe.binds (ps := ["_law_facts_here"]) fun _ _ _ _ _ _ us hl => match us, hl with | [_], _ => rfl
  have mSg := PySem.W.mg_of X G bSg
  have qSg := FSg.binds (ps := ["_law_source_here", "_law_facts_here", "_law_more"]) fun _ _ _ _ _ _ us hl => match us, hl with | [_, _, _], _ => rfl
  have mN := PySem.W.mg_of X G bN
  have qN := FN.binds (ps := ["value"]) fun _ _ _ _ _ _ us hl => match us, hl with | [_], _ => rfl
  have mV := PySem.W.mg_of X G bV
  have qV := FV.binds (ps := ["value"]) fun _ _ _ _ _ _ us hl => match us, hl with | [_], _ => rfl
  have mP := PySem.W.mg_of X G bP
  have qP := FP.binds (ps := ["value"]) fun _ _ _ _ _ _ us hl => match us, hl with | [_], _ => rfl
  have mF := PySem.W.mg_of X G bF
  have qF := FF.binds (ps := ["value"]) fun _ _ _ _ _ _ us hl => match us, hl with | [_], _ => rfl
  have mX := PySem.W.mg_of X G bX
  have qX := FX.binds (ps := ["pattern"]) fun _ _ _ _ _ _ us hl => match us, hl with | [_], _ => rfl
  have mR := PySem.W.mg_of X G bR
  have qR := FR.binds (ps := ["text"]) fun _ _ _ _ _ _ us hl => match us, hl with | [_], _ => rfl
  have mLi := PySem.W.mg_of X G bLi
  have qLi := FLi.binds (ps := ["text"]) fun _ _ _ _ _ _ us hl => match us, hl with | [_], _ => rfl
  have mFt := PySem.W.mg_of X G bFt
  have qFt := FFt.binds (ps := ["lines"]) fun _ _ _ _ _ _ us hl => match us, hl with | [_], _ => rfl
  have mL := PySem.W.mg_of X G bL
  have qZl := FZl.binds (ps := ["self"]) fun _ _ _ _ _ _ us hl => match us, hl with | [_], _ => rfl
  have qZi := FZi.binds (ps := ["self"]) fun _ _ _ _ _ _ us hl => match us, hl with | [_], _ => rfl
  have qZh := FZh.binds (ps := ["self", "value"]) fun _ _ _ _ _ _ us hl => match us, hl with | [_, _], _ => rfl
  have qZe := FZe.binds (ps := ["self", "other"]) fun _ _ _ _ _ _ us hl => match us, hl with | [_, _], _ => rfl
  have qZa := FZa.binds (ps := ["self", "other"]) fun _ _ _ _ _ _ us hl => match us, hl with | [_, _], _ => rfl
  have qZs := FZs.binds (ps := ["self", "other"]) fun _ _ _ _ _ _ us hl => match us, hl with | [_, _], _ => rfl
  have qZw := FZw.binds (ps := ["self", "other"]) fun _ _ _ _ _ _ us hl => match us, hl with | [_, _], _ => rfl
  have qZk := FZk.binds (ps := ["self"]) fun _ _ _ _ _ _ us hl => match us, hl with | [_], _ => rfl
  have qZo := FZo.binds (ps := ["self", "tables"]) fun _ _ _ _ _ _ us hl => match us, hl with | [_, _], _ => rfl
  have qZx := FZx.binds (ps := ["self"]) fun _ _ _ _ _ _ us hl => match us, hl with | [_], _ => rfl
  have mC := PySem.W.mg_of X G bC
  have mB := PySem.W.mg_of X G bB
  have mW := PySem.W.mg_of X G bW
  have qI := all_given (p1 := "self") (p2 := "facts") FI fun _ _ _ _ _ _ _ us its hl h1 => match us, hl, its, h1 with | [_, _], _, [_], _ => ⟨_, rfl, rfl⟩
  have qI0 := one_given (p1 := "self") (p2 := "facts") FI fun _ _ _ _ _ _ _ us its hl h1 => match us, hl, its, h1 with | [_], _, [_], _ => ⟨_, rfl, rfl⟩
  obtain ⟨_, qIK⟩ := FunD.kbindsD (ps := ["self", "facts"]) FI 1 ["facts"] (fun us _ ws => us ++ ws) (by simp) (fun r1 _ r3 => r1.append r3) fun _ _ _ _ _ _ _ us its ws hl h1 h2 => match us, hl, its, h1, ws, h2 with | [_], _, [_], _, [_], _ => ⟨_, rfl, rfl⟩
  have qFs := FFFs.binds (ps := ["self"]) fun _ _ _ _ _ _ us hl => match us, hl with | [_], _ => rfl
  have qRd := FFRd.binds (ps := ["cls", "text"]) fun _ _ _ _ _ _ us hl => match us, hl with | [_, _], _ => rfl
  have qWk := kbn2 FZw (p := "self") (q := "other") fun _ _ _ _ _ _ _ _ => rfl
  have qOk := kbn2 FZo (p := "self") (q := "tables") fun _ _ _ _ _ _ _ _ => rfl
  have qBI := FFBI.binds (ps := ["self", "line"]) fun _ _ _ _ _ _ us hl => match us, hl with | [_, _], _ => rfl
  have qWI := FFWI.binds (ps := ["self", "value"]) fun _ _ _ _ _ _ us hl => match us, hl with | [_, _], _ => rfl
  have y_int := PySem.W.mg_none_of X G z_int
  have y_str := PySem.W.mg_none_of X G z_str
  have y_len := PySem.W.mg_none_of X G z_len
  have y_range := PySem.W.mg_none_of X G z_range
  have y_tuple := PySem.W.mg_none_of X G z_tuple
  have y_list := PySem.W.mg_none_of X G z_list
  have y_sorted := PySem.W.mg_none_of X G z_sorted
  have y_isinstance := PySem.W.mg_none_of X G z_isinstance
  have y_set := PySem.W.mg_none_of X G z_set
  have y_enumerate := PySem.W.mg_none_of X G z_enumerate
  have y_iter := PySem.W.mg_none_of X G z_iter
  have y_all := PySem.W.mg_none_of X G z_all
  have g0 := PySem.W.mg_of X G c0
  have g1 := PySem.W.mg_of X G c1
  have cl : Cls K fC := ⟨pg, hd, po, sa⟩
  have T : StT K mg fC := ⟨cl, nF, nH, nG⟩
  have M : Mk K fC fI := ⟨mk, bI, iI, kc⟩
  have me : PySem.W.kitOne K (.ref fC) (.ref fC) = some true := by
    show (if (Value.ref fC == Value.ref fC) = true then some true else PySem.W.kitCls K (.ref fC) (.ref fC)) = some true
    rw [if_pos (by simp)]
  have IC : C8.InsC K fC := ⟨cl, ha, hn, htk, hm, me⟩
  have TB : OexC K fB := ⟨OB, saB, exB, tyB, kB⟩
  have TW : OexC K fW := ⟨OW, saW, exW, tyW, kW⟩
  have XW : XfC K fW := ⟨gaW, ggW, exW, hdW⟩
  have te := exm_self exW icW tyW sWB
  have RR : ClX.CRead K fC (.type "type") := ⟨rd, rga⟩
  have CR : ClX.CMet K fC (.type "type") "read" pR fRd := ⟨bRd, XrRd, iRd⟩
  have PF : PropOf K fC "facts" pF fFs := ⟨bFs, gFs, tFs, XrFs⟩
  have FL' := FL
  obtain ⟨oc, od, kV, doc, pm, an, cdv, ct, osl, ez, _, _⟩ := FL.ex
  subst ez
  refine ⟨PySem.W.fnOf "law" "law" (defArgs sLaw) (defBody sLaw) (defScope sLaw) .none kV doc pm an cdv ct, fun s v => .of_eq rfl, fun base _ _ => ?_⟩
  have GS := ok_source (P := P) (w := w) (mg := mg) (base := base) FS
  have GD := ok_draw (P := P) (w := w) (mg := mg) (base := base) FD y_int
  have GNm := ok_name (P := P) (w := w) (mg := mg) (base := base) FNm FD qD y_int mD y_range
  have GNs := ok_names (P := P) (w := w) (mg := mg) (base := base) FNs GNm FNm.kp qNm mNm y_range y_str
  have GPo := ok_pool (P := P) (w := w) (mg := mg) (base := base) FPo GD FD.kp qD mD GNs FNs.kp qNs mNs y_range y_len
  have GTm := ok_term (P := P) (w := w) (mg := mg) (base := base) FTm GD FD.kp qD mD y_len
  have GPt := ok_pat (P := P) (w := w) (mg := mg) (base := base) FPt GD FD.kp qD mD GTm FTm.kp qTm mTm y_len y_range y_tuple
  have GN := ok_isN (P := P) (w := w) (mg := mg) (base := base) FN g0 y_isinstance y_str y_len
  have GV := ok_isV (P := P) (w := w) (mg := mg) (base := base) FV GN FN.kp qN mN y_isinstance y_str
  have GP := ok_isP (P := P) (w := w) (mg := mg) (base := base) FP GN FN.kp qN mN GV FV.kp qV mV g1 y_isinstance y_tuple y_len
  have GF := ok_isF (P := P) (w := w) (mg := mg) (base := base) FF GN FN.kp qN mN g1 y_isinstance y_tuple y_len
  have GX := ok_ptx (P := P) (w := w) (mg := mg) (base := base) FX
  have GLN := ok_LIN (P := P) (w := w) (mg := mg) (base := base) FLN y_isinstance y_str y_len
  have GLT := ok_LIT (P := P) (w := w) (mg := mg) (base := base) FLT GLN FLN.kp qLN mLN y_isinstance y_str
  have GLP := ok_LIP (P := P) (w := w) (mg := mg) (base := base) FLP GLN FLN.kp qLN mLN GLT FLT.kp qLT mLT y_isinstance y_tuple y_len
  have GR := ok_rd (P := P) (w := w) (mg := mg) (base := base) FR GP FP.kp qP mP GX FX.kp qX mX
  have GLi := ok_lns (P := P) (w := w) (mg := mg) (base := base) FLi
  have GBI := ok_BL (P := P) (w := w) (mg := mg) (base := base) FFBI TB nlB
  have GWI := ok_BF (P := P) (w := w) (mg := mg) (base := base) FFWI TW nlW
  have GFt := ok_FT (P := P) (w := w) (mg := mg) (base := base) FFt GR FR.kp qR mR GF FF.kp qF mF TB iXB tBI GBI qBI mB y_enumerate
  have GI := ok_initS (P := P) (w := w) (mg := mg) (base := base) FI T GF FF.kp qF mF y_sorted y_tuple y_set
  have GIB := ok_initB (P := P) (w := w) (mg := mg) (base := base) (C := fC) FI GF FF.kp qF mF TW iXW tWI GWI qWI mW
  have GZl := ok_lenS (P := P) (w := w) (mg := mg) (base := base) FZl T y_len
  have GZi := ok_iterS (P := P) (w := w) (mg := mg) (base := base) FZi T y_iter
  have GZh := ok_hasS (P := P) (w := w) (mg := mg) (base := base) FZh T GF FF.kp qF mF
  have GZe := ok_eqD (P := P) (w := w) (mg := mg) (base := base) FZe T IC mC y_isinstance
  have GZn := ok_eqS (P := P) (w := w) (mg := mg) (base := base) FZe T IC mC y_isinstance
  have GZa := ok_addS (P := P) (w := w) (mg := mg) (base := base) FZa T IC M GI qI mC y_isinstance
  have GZs := ok_subS (P := P) (w := w) (mg := mg) (base := base) FZs T IC M GI qI mC y_isinstance
  have GZw := ok_withinS (P := P) (w := w) (mg := mg) (base := base) FZw T GZh qZh bZh iZh y_all
  have GZk := ok_constS (P := P) (w := w) (mg := mg) (base := base) FZk T y_sorted
  have GZo := ok_onlyS (P := P) (w := w) (mg := mg) (base := base) FZo T M GI qI mC
  have GZx := ok_textS (P := P) (w := w) (mg := mg) (base := base) FZx T GX FX.kp qX mX
  have GFs := ok_factsS (P := P) (w := w) (mg := mg) (base := base) FFFs T
  have GRd := ok_readS (P := P) (w := w) (mg := mg) (base := base) FFRd M GI qI GFt FFt.kp qFt mFt GLi FLi.kp qLi mLi
  have GZ := (⟨T, IC, mC, sf, ne, ⟨_, _, M, GI, qI⟩, ⟨_, _, GZl, qZl, bZl, iZl, FZl.kp⟩, ⟨_, _, GZi, qZi, bZi, iZi⟩, ⟨_, _, GZh, qZh, bZh, iZh, FZh.kp⟩, ⟨_, _, GZe, qZe, bZe, iZe, FZe.kp⟩, ⟨_, _, GZn, qZe, bZe, iZe, FZe.kp⟩, ⟨_, _, GZa, qZa, bZa, iZa, FZa.kp⟩, ⟨_, _, GZs, qZs, bZs, iZs, FZs.kp⟩, ⟨_, _, GZw, qZw, bZw, iZw, FZw.kp⟩, ⟨_, _, GZk, qZk, bZk, iZk, FZk.kp⟩, ⟨_, _, GZo, qZo, bZo, iZo, FZo.kp⟩, ⟨_, _, GZx, qZx, bZx, iZx, FZx.kp⟩, ⟨_, _, _, PF, GFs, qFs⟩, ⟨_, _, _, _, _, RR, CR, GRd, qRd⟩⟩ : StF P w K mg base fC)
  have GOd := ok_odd (P := P) (w := w) (mg := mg) (base := base) FOd GD FD.kp qD mD y_len y_list
  have GSm := ok_some (P := P) (w := w) (mg := mg) (base := base) FSm GD FD.kp qD mD GPt FPt.kp qPt mPt y_range y_len
  have GSr := ok_sorted (P := P) (w := w) (mg := mg) (base := base) FSr y_sorted
  have GCo := ok_consts (P := P) (w := w) (mg := mg) (base := base) FCo y_sorted
  have GOu := ok_once (P := P) (w := w) (mg := mg) (base := base) FOu y_range y_len
  have GIs := ok_is (P := P) (w := w) (mg := mg) (base := base) FIs GZ ⟨_, _, GCo, FCo.kp, qCo, mCo⟩ ⟨_, _, GOu, FOu.kp, qOu, mOu⟩ y_tuple y_len
  have GRe := ok_refused (P := P) (w := w) (mg := mg) (base := base) FRe M GIB qI mC mW XW nlW te
  have GSg := ok_strange (P := P) (w := w) (mg := mg) (base := base) FSg GZ ⟨_, _, GOd, FOd.kp, qOd, mOd⟩ ⟨_, _, GLP, FLP.kp, qLP, mLP⟩ ⟨_, _, GRe, FRe.kp, qRe, mRe⟩ y_range
  have GK := (⟨GZ, ⟨_, _, T1, M, GI, qI, qI0, hT1, _, qIK⟩, ⟨_, _, GZw, ⟨bZw, iZw, FZw.kp⟩, qWk⟩, ⟨_, _, GZo, ⟨bZo, iZo, FZo.kp⟩, qOk⟩, slC, stC, kit_not icC tyC slC, kit_not icC tyC stC⟩ : StK P w K mg base fC)
  exact ok_law FL' GK ⟨_, _, GS, FS.kp, qS, mS⟩ ⟨_, _, GPo, FPo.kp, qPo, mPo⟩ ⟨_, _, GD, FD.kp, qD, mD⟩ ⟨_, _, GSm, FSm.kp, qSm, mSm⟩ ⟨_, _, GSr, FSr.kp, qSr, mSr⟩ ⟨_, _, GIs, FIs.kp, qIs, mIs⟩ ⟨_, _, GSg, FSg.kp, qSg, mSg⟩ y_len y_list y_tuple
theorem walk {l : PySem.W.OpenLaw} {q : Program} {loose : List Str} {XP : (Str → Option Value) → Heap → Prop} {YP : World → Heap → Prop} {d : DefRec} {K : Params → PySem.W.Frag}
    (hn : l.most = some 63) (hdf : d.params.defaults = []) (hY : ∀ (w : World) (h : Heap), YP w h → (K w.params).In h)
    (F : ∀ (w : World) (mg : Str → Option Value) (fa : Addr) (h : Heap), (K w.params).In h → h.Ns mainGlobals mg → mg d.name = some (.ref fa) →
      ∃ fd : FuncData, (∀ (s : Shared) (u : Value), BindsTo s fd ⟨[u], []⟩ [("_law_script", u)]) ∧
        ∀ base : Heap, (K w.params).In base → base.Ns mainGlobals mg → FnOk l.prog w (K w.params) mg base CX0 9 fa fd ["_law_script"] (spLaw (K w.params))) :
    PySem.W.WalkO q loose XP YP l.row.toRowW d [] (fun f vs => PySem.call f vs) :=
  L2.walk_ofB (n := 63) (k := 9) (x := "_law_script") (CX := fun _ => CX0) (sp := fun w => spLaw (K w.params)) hn (by decide) hdf ⟨rfl, by decide, by decide⟩ hY F
    (fun _ _ a ns hl hb _ hS => ⟨a, ns, rfl, hS, hl, hb, fun _ => rfl⟩) fun _ _ _ _ _ z => z
end L2.LawH
set_option Elab.async false
open PySem PySem.W PyProof.Rows
set_option maxRecDepth 100000 in
set_option maxHeartbeats 0 in
theorem PySem.Challenge.cw_fullestrows_k03_stores_holds : PySem.Challenge.rw_fullestrows_k03_stores.Holds := by
  w_on; o_law; k_head; (case hw => w_witness2)
  k_fill
  refine L2.LawH.walk (l := PySem.Challenge.rw_fullestrows_k03_stores) rfl rfl (fun w h Y => PySem.W.kIn_of Y) ?F
  case F =>
    intro w mg fa h KX G hmg
    refine' L2.LawH.all_mk KX G hmg ?bS ?ES ?bD ?ED ?bNm ?ENm ?bNs ?ENs ?bPo ?EPo ?bTm ?ETm ?bPt ?EPt ?bLN ?ELN ?bLT ?ELT ?bLP ?ELP ?bOd ?EOd ?bSm ?ESm ?bSr ?ESr ?bCo ?ECo ?bOu ?EOu ?bIs ?EIs ?bRe ?ERe ?bSg ?ESg ?bN ?EN ?bV ?EV ?bP ?EP ?bF ?EF ?bX ?EX ?bR ?ER ?bLi ?ELi ?bFt ?EFt ?bL ?EL ?bC ?bI ?DI ?iI ?bZl ?EZl ?iZl ?bZi ?EZi ?iZi ?bZh ?EZh ?iZh ?bZe ?EZe ?iZe ?bZa ?EZa ?iZa ?bZs ?EZs ?iZs ?bZw ?EZw ?iZw ?bZk ?EZk ?iZk ?bZo ?EZo ?iZo ?bZx ?EZx ?iZx ?bFs ?gFs ?tFs ?XrFs ?EFs ?rd ?rga ?bRd ?XrRd ?iRd ?ERd ?pg ?hd ?po ?sa ?mk ?kc ?nF ?nH ?nG ?ha ?hn ?htk ?hm ?ne ?sf ?icC ?tyC ?slC ?stC ?bB ?OB ?saB ?exB ?tyB ?kB ?iXB ?tBI ?EBI ?nlB ?gaB ?ggB ?hdB ?icB ?sBB ?bW ?OW ?saW ?exW ?tyW ?kW ?iXW ?tWI ?EWI ?nlW ?gaW ?ggW ?hdW ?icW ?sWB ?z_int ?z_str ?z_len ?z_range ?z_tuple ?z_list ?z_sorted ?z_isinstance ?z_set ?z_enumerate ?z_iter ?z_all ?c0 ?c1
    (case bS => k_is)
    (case ES => exact ⟨_, L2.fun_mk (by k_is) (by k_is) (by k_is)⟩)
    (case bD => k_is)
    (case ED => exact ⟨_, L2.fun_mk (by k_is) (by k_is) (by k_is)⟩)
    (case bNm => k_is)
    (case ENm => exact ⟨_, L2.fun_mk (by k_is) (by k_is) (by k_is)⟩)
    (case bNs => k_is)
    (case ENs => exact ⟨_, L2.fun_mk (by k_is) (by k_is) (by k_is)⟩)
    (case bPo => k_is)
    (case EPo => exact ⟨_, L2.fun_mk (by k_is) (by k_is) (by k_is)⟩)
    (case bTm => k_is)
    (case ETm => exact ⟨_, L2.fun_mk (by k_is) (by k_is) (by k_is)⟩)
    (case bPt => k_is)
    (case EPt => exact ⟨_, L2.fun_mk (by k_is) (by k_is) (by k_is)⟩)
    (case bLN => k_is)
    (case ELN => exact ⟨_, L2.fun_mk (by k_is) (by k_is) (by k_is)⟩)
    (case bLT => k_is)
    (case ELT => exact ⟨_, L2.fun_mk (by k_is) (by k_is) (by k_is)⟩)
    (case bLP => k_is)
    (case ELP => exact ⟨_, L2.fun_mk (by k_is) (by k_is) (by k_is)⟩)
    (case bOd => k_is)
    (case EOd => exact ⟨_, L2.fun_mk (by k_is) (by k_is) (by k_is)⟩)
    (case bSm => k_is)
    (case ESm => exact ⟨_, L2.fun_mk (by k_is) (by k_is) (by k_is)⟩)
    (case bSr => k_is)
    (case ESr => exact ⟨_, L2.fun_mk (by k_is) (by k_is) (by k_is)⟩)
    (case bCo => k_is)
    (case ECo => exact ⟨_, L2.fun_mk (by k_is) (by k_is) (by k_is)⟩)
    (case bOu => k_is)
    (case EOu => exact ⟨_, L2.fun_mk (by k_is) (by k_is) (by k_is)⟩)
    (case bIs => k_is)
    (case EIs => exact ⟨_, L2.fun_mk (by k_is) (by k_is) (by k_is)⟩)
    (case bRe => k_is)
    (case ERe => exact ⟨_, L2.fun_mk (by k_is) (by k_is) (by k_is)⟩)
    (case bSg => k_is)
    (case ESg => exact ⟨_, L2.fun_mk (by k_is) (by k_is) (by k_is)⟩)
    (case bN => k_is)
    (case EN => exact ⟨_, L2.fun_mk (by k_is) (by k_is) (by k_is)⟩)
    (case bV => k_is)
    (case EV => exact ⟨_, L2.fun_mk (by k_is) (by k_is) (by k_is)⟩)
    (case bP => k_is)
    (case EP => exact ⟨_, L2.fun_mk (by k_is) (by k_is) (by k_is)⟩)
    (case bF => k_is)
    (case EF => exact ⟨_, L2.fun_mk (by k_is) (by k_is) (by k_is)⟩)
    (case bX => k_is)
    (case EX => exact ⟨_, L2.fun_mk (by k_is) (by k_is) (by k_is)⟩)
    (case bR => k_is)
    (case ER => exact ⟨_, L2.fun_mk (by k_is) (by k_is) (by k_is)⟩)
    (case bLi => k_is)
    (case ELi => exact ⟨_, L2.fun_mk (by k_is) (by k_is) (by k_is)⟩)
    (case bFt => k_is)
    (case EFt => exact ⟨_, L2.fun_mk (by k_is) (by k_is) (by k_is)⟩)
    (case bL => k_is)
    (case EL => exact ⟨_, L2.fun_mk (by k_is) (by k_is) (by k_is)⟩)
    (case bC => k_is)
    (case bI => k_is)
    (case DI => exact L2.LawH.fund_mk (by k_is) (by k_is) (by k_is) (by k_is) (by k_is))
    (case iI => k_is)
    (case bZl => k_is)
    (case EZl => exact ⟨_, L2.fun_mk (by k_is) (by k_is) (by k_is)⟩)
    (case iZl => k_is)
    (case bZi => k_is)
    (case EZi => exact ⟨_, L2.fun_mk (by k_is) (by k_is) (by k_is)⟩)
    (case iZi => k_is)
    (case bZh => k_is)
    (case EZh => exact ⟨_, L2.fun_mk (by k_is) (by k_is) (by k_is)⟩)
    (case iZh => k_is)
    (case bZe => k_is)
    (case EZe => exact ⟨_, L2.fun_mk (by k_is) (by k_is) (by k_is)⟩)
    (case iZe => k_is)
    (case bZa => k_is)
    (case EZa => exact ⟨_, L2.fun_mk (by k_is) (by k_is) (by k_is)⟩)
    (case iZa => k_is)
    (case bZs => k_is)
    (case EZs => exact ⟨_, L2.fun_mk (by k_is) (by k_is) (by k_is)⟩)
    (case iZs => k_is)
    (case bZw => k_is)
    (case EZw => exact ⟨_, L2.fun_mk (by k_is) (by k_is) (by k_is)⟩)
    (case iZw => k_is)
    (case bZk => k_is)
    (case EZk => exact ⟨_, L2.fun_mk (by k_is) (by k_is) (by k_is)⟩)
    (case iZk => k_is)
    (case bZo => k_is)
    (case EZo => exact ⟨_, L2.fun_mk (by k_is) (by k_is) (by k_is)⟩)
    (case iZo => k_is)
    (case bZx => k_is)
    (case EZx => exact ⟨_, L2.fun_mk (by k_is) (by k_is) (by k_is)⟩)
    (case iZx => k_is)
    (case bFs => k_is)
    (case gFs => k_is)
    (case tFs => k_is)
    (case XrFs => exact ⟨_, by k_is⟩)
    (case EFs => exact ⟨_, L2.fun_mk (by k_is) (by k_is) (by k_is)⟩)
    (case rd => k_is)
    (case rga => k_is)
    (case bRd => k_is)
    (case XrRd => exact ⟨_, by k_is⟩)
    (case iRd => k_is)
    (case ERd => exact ⟨_, L2.fun_mk (by k_is) (by k_is) (by k_is)⟩)
    (case pg => k_is)
    (case hd => k_is)
    (case po => k_is)
    (case sa => k_is)
    (case mk => k_is)
    (case kc => k_is)
    (case nF => k_is)
    (case nH => k_is)
    (case nG => k_is)
    (case ha => k_is)
    (case hn => k_is)
    (case htk => k_is)
    (case hm => k_is)
    (case ne => k_is)
    (case sf => k_is)
    (case icC => k_is)
    (case tyC => k_is)
    (case slC => k_is)
    (case stC => k_is)
    (case bB => k_is)
    (case OB => exact ⟨_, _, _, _, _, _, _, _, _, _, _, _, _, _, _, by k_is, by decide +kernel⟩)
    (case saB => k_is)
    (case exB => k_is)
    (case tyB => k_is)
    (case kB => k_is)
    (case iXB => k_is)
    (case tBI => k_is)
    (case EBI => exact ⟨_, L2.fun_mk (by k_is) (by k_is) (by k_is)⟩)
    (case nlB => k_is)
    (case gaB => k_is)
    (case ggB => k_is)
    (case hdB => k_is)
    (case icB => k_is)
    (case sBB => k_is)
    (case bW => k_is)
    (case OW => exact ⟨_, _, _, _, _, _, _, _, _, _, _, _, _, _, _, by k_is, by decide +kernel⟩)
    (case saW => k_is)
    (case exW => k_is)
    (case tyW => k_is)
    (case kW => k_is)
    (case iXW => k_is)
    (case tWI => k_is)
    (case EWI => exact ⟨_, L2.fun_mk (by k_is) (by k_is) (by k_is)⟩)
    (case nlW => k_is)
    (case gaW => k_is)
    (case ggW => k_is)
    (case hdW => k_is)
    (case icW => k_is)
    (case sWB => k_is)
    (case z_int => k_is)
    (case z_str => k_is)
    (case z_len => k_is)
    (case z_range => k_is)
    (case z_tuple => k_is)
    (case z_list => k_is)
    (case z_sorted => k_is)
    (case z_isinstance => k_is)
    (case z_set => k_is)
    (case z_enumerate => k_is)
    (case z_iter => k_is)
    (case z_all => k_is)
    (case c0 => k_is)
    (case c1 => k_is)
