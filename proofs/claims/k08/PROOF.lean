import PyProof.Rows.All
import Wide.All
import OpenK.AllK
import Wide.FinOn
import HandS.ForMost
import HandS.Wide
import HandS.IsInst
import HandS.Style
import HandS.Walk
import HandS.LawCells
import HandS.TupAny
import HandS.TupMul
import HandS.MakeKwOnly
import HandS.ForExc
import HandS.Defaults
import HandS.ExcInit
import HandS.CallSlots
import HandS.ExcIs
import HandS.ExcField
import HandS.MakeKw
import HandS.Gcd
import HandS.FStr
import HandS.RaiseMore
import PyProof.NeKinds
import PyProof.InstNe
import KE.KExcIs
import KE.KCallOwn
import PySem.Challenge.RW_voicefold_k08_sums_refused
set_option Elab.async false
set_option linter.all false
set_option maxRecDepth 100000
set_option maxHeartbeats 4000000
/-! Own rules: one reading for things of several kinds. -/
namespace Own
open PySem PySem.Spec PyProof.Rows L2
section
variable {X : Cx}
def orR (r1 r2 : R2) : R2 := fun x y H Q => r1 x y H Q ∨ r2 x y H Q
theorem ix_or {r1 r2 : R2} (h1 : IxR X r1) (h2 : IxR X r2) : IxR X (orR r1 r2) := by
  intro value slice pins s σ H x y v u Q I rx ry h hs
  rcases h with h | h
  · exact h1 _ _ _ _ _ _ _ _ _ _ _ I rx ry h hs
  · exact h2 _ _ _ _ _ _ _ _ _ _ _ I rx ry h hs
theorem op_or {op : Value → Value → Sem Value} {r1 r2 : R2} (h1 : OpR X op r1) (h2 : OpR X op r2) : OpR X op (orR r1 r2) := by
  intro pins s σ H x y v u Q I rx ry h
  rcases h with h | h
  · exact h1 _ _ _ _ _ _ _ _ _ I rx ry h
  · exact h2 _ _ _ _ _ _ _ _ _ I rx ry h
theorem call_or {f : Value} {r1 r2 : List V → Hp → VK → Prop} (h1 : CallR X f r1) (h2 : CallR X f r2) : CallR X f (fun xs H Q => r1 xs H Q ∨ r2 xs H Q) := by
  intro pins s σ H xs us Q I r h
  rcases h with h | h
  · exact h1 _ _ _ _ _ _ _ I r h
  · exact h2 _ _ _ _ _ _ _ I r h
end
end Own

/-! Tuples once more: one time a tuple is itself; a tuple beside the empty one. -/
namespace L2
open PySem PySem.Spec PyProof.Rows
theorem mul_once (l : Addr) (its : Array Value) (n : Nat) (dd : Option Addr) (sl : Array (Option Value)) (u : Tok) :
    Meets (Builtin.«tuple.__mul__» ⟨[.ref l, .int 1 u], []⟩) (fun _ R s => s.heap.get? l = some { cls := .type "tuple", dict := dd, data := .seq its n, slots := sl } ∧ R (.ok (.ret (Value.ref l))) s) :=
  .of_wp fun prog w A R s h => by
    obtain ⟨hp, g, d, tk, os⟩ := s
    obtain ⟨hl, h⟩ := h
    have f1 := AutoSeq1.idx_int
    have c1 : (its.isEmpty || (1 : Int) == 1) = true := by simp
    wp_walk using wpAny_loadPart' hl
    exact ⟨_, rfl, h⟩
/-- t * n, n from 1 on -/
def rMany (K : PySem.W.Frag) : R2 := fun x y H Q => ∃ (l : Addr) (k : Int) (xs : List V), x = .ref l ∧ y = .int k ∧ SqT K H l xs ∧ xs ≠ [] ∧ 1 ≤ k ∧ k ≤ 1000 ∧ xs.length ≤ 1000 ∧ (k = 1 → Q (.ref l) H) ∧ (2 ≤ k → ∀ p, H p = none → Q (.ref p) (upd H p (.tup (List.replicate k.toNat xs).flatten)))
section
variable {X : Cx}
theorem op_many : OpR X (binaryOp .Mult) (rMany X.K) := by
  intro pins s σ H x y v u Q I rx ry h
  obtain ⟨l, k, xs, rfl, rfl, hT, hne, h1, h2, hz, q1, q2⟩ := h
  by_cases hk : k = 1
  · subst hk
    cases rx
    obtain ⟨t, rfl⟩ := ry
    obtain ⟨its, r, ⟨⟨cls, dd, data, sl⟩, ho, hc, n, hd⟩, hs⟩ := I.tuple hT
    simp only at hc hd
    subst hc hd
    refine wpAny_binaryOp_repeat_ref (T := "tuple") (U := "int") (by decide) ⟨_, ho, rfl⟩ (fun s' => typeIs_int s' 1 t) noFill_tuple_mul F.fills_int_mul F.slot_int_rmul repeat_tuple F.slot_int_index.lookup
      (call_meets F.slot_int_rmul (typeIs_int s 1 t) F.entry_int_rmul (F.args_int_rmul_2 _ _) (int_rmul_tuple 1 t l its.toArray n dd sl)
        ⟨ho, rfl, ⟨_, ho, rfl⟩, call_meets F.slot_tuple_mul ⟨_, ho, rfl⟩ F.entry_tuple_mul (F.args_tuple_mul_2 _ _) (mul_once l its.toArray n dd sl t) ⟨ho, ?_⟩⟩)
    exact ⟨.ref l, _, I, rfl, q1 rfl⟩
  · exact op_repT pins s σ H _ _ v u Q I rx ry ⟨l, k, xs, rfl, rfl, hT, hne, by omega, h2, hz, q2 (by omega)⟩
/-- t != (), whatever stands in t -/
def rNeEmpty (K : PySem.W.Frag) : R2 := fun x y H Q => ∃ (a b : Addr) (xs : List V), x = .ref a ∧ y = .ref b ∧ SqT K H a xs ∧ SqT K H b [] ∧ Q (.bl (!xs.isEmpty)) H
theorem op_neE (hu : X.A.units + 64 < cLine) : OpR X (compareOp .NotEq) (rNeEmpty X.K) := by
  intro pins s σ H x y v u Q I rx ry h
  obtain ⟨a, b, xs, rfl, rfl, ha, hb, q⟩ := h
  cases rx
  cases ry
  obtain ⟨its, r, h1, _⟩ := I.tuple ha
  obtain ⟨jts, r2, h2, _⟩ := I.tuple hb
  cases r2
  have e : (!((List.range (min its.toArray.size ([] : List Value).toArray.size)).all (fun _ => true) && its.toArray.size == ([] : List Value).toArray.size)) = !xs.isEmpty := by
    have hl := r.length
    cases xs <;> cases its <;> simp_all
  refine (SeqAt.RcNeAt.tuples h1 h2 (by omega) (e := fun _ => true) fun j _ z => absurd z (Nat.not_lt_zero _)) _ _ _ _ ?_
  rw [e]
  exact ⟨.bl _, H, I, rfl, q⟩
end
end L2

/-! Own rules: exceptions of own classes made with keywords, in any place; calls with keywords that may raise. -/
namespace PySem
namespace OwnK
open PySem.W PySem.Calls PyProof.Rows PySem.HandSPX
section
variable {M : Model} {A : Around} {E : Value → Shared → Prop} {h : Heap} {g : Array GenState} {d : Drawn} {t : Nat} {os : OsState}
variable {nm q : Str} {C N : Addr} {bs bm bmB : List Value} {hd : Bool} {sn : List Str} {sub : List Value} {ab : Bool} {col : Option Bool} {dd : Option Addr} {k0 k1 k2 k3 k5 : Option Value} {B newId initId : String}
/-- the look ahead of the base's __new__, keywords or none -/
theorem newLook (F : ExcBaseFacts B newId initId bmB) (hT : bm.contains (.type B) = true ∧ bm.contains (.type "AttributeError") = false ∧ bm.contains (.type "NameError") = false) {rest : List Value} {kw : List (Str × Value)} {Q : Unit → Shared → Prop}
    (hC : h.get? C = some (excClassObj nm q C N bs bm hd sn sub ab col dd k0 k1 k2 k3 k5 newId)) (z : Q () ⟨h, g, d, t, os⟩) : wpAny M A (checkBuiltinCall newId ⟨.ref C :: rest, kw⟩) Q E ⟨h, g, d, t, os⟩ := by
  have hB : (Value.ref C :: bm).contains (.type B) = true := by
    rw [List.contains_cons, hT.1]
    exact Bool.or_true _
  have st := F.noStar
  simp only [checkBuiltinCall, F.newKind, F.newSplit, F.newRow]
  repeat (first
    | refine wpAny_loadPart_at hC ?_
    | (refine wpAny_isSubtype_exc hC ?_; rw [hB])
    | refine wpAny_staticBase_exc hC ?_
    | refine wpAny_madeBy_exc hC ?_
    | simp only [bne_self_eq_false, Bool.false_eq_true, if_false]
    | wp_step)
  exact z
end
section
variable {prog : Program} {w : World} {A : Around} {E : Value → Shared → Prop} {R : Result → Shared → Prop} {h : Heap} {g : Array GenState} {d : Drawn} {t : Nat} {os : OsState}
variable {nm q : Str} {C N : Addr} {bs bm bmB : List Value} {hd : Bool} {sn : List Str} {sub : List Value} {ab : Bool} {col : Option Bool} {dd : Option Addr} {k0 k1 k2 k3 k5 : Option Value} {B newId initId : String}
theorem newRun (F : ExcBaseFacts B newId initId bmB) (hT : bm.contains (.type B) = true ∧ bm.contains (.type "AttributeError") = false ∧ bm.contains (.type "NameError") = false) {rest : List Value} {kw : List (Str × Value)}
    (hC : h.get? C = some (excClassObj nm q C N bs bm hd sn sub ab col dd k0 k1 k2 k3 k5 newId))
    (z : R (.ok (.ret (.ref (h.objs.size + 1)))) ⟨(h.push (kdv_tup rest)).push (excO C h.objs.size), g, d, t, os⟩) (hr : rest.length ≤ sizeLine) :
    codeAny (model prog w) A (.builtin newId ⟨.ref C :: rest, kw⟩) R ⟨h, g, d, t, os⟩ := by
  have en := F.ends
  have hB : (Value.ref C :: bm).contains (.type B) = true := by
    rw [List.contains_cons, hT.1]
    exact Bool.or_true _
  have hA : (Value.ref C :: bm).contains (.type "AttributeError") = false := by
    rw [List.contains_cons, hT.2.1] <;> rfl
  have hN : (Value.ref C :: bm).contains (.type "NameError") = false := by
    rw [List.contains_cons, hT.2.2] <;> rfl
  refine codeAny_builtinAt F.entry ?_
  unfold Builtin.«BaseException.__new__»
  refine wpAt_bind ?_
  show wpAt _ _ _ (stack >>= _) _ _ _
  refine wpAt_bind (wpAt_stack fun p below => wpAt_of_wpAny ?_)
  wp_walk
  refine wpAt_of_wpAny ?_
  rw [F.owner]
  repeat (first
    | with_reducible refine wpAny_madeHere_exc F.canon hC ?_
    | with_reducible refine wpAny_loadPart_at hC ?_
    | (with_reducible refine wpAny_isSubtype_exc hC ?_; first | rw [hB] | rw [hA] | rw [hN])
    | wp_step)
  show R _ _
  rw [Heap.size_push]
  exact z
/-- the base's type.__call__, then the own __init__ -/
theorem typeCallRun (F : ExcBaseFacts B newId initId bmB) (hT : bm.contains (.type B) = true ∧ bm.contains (.type "AttributeError") = false ∧ bm.contains (.type "NameError") = false) {rest : List Value} {kw : List (Str × Value)} {fI : Addr} {Q : Fin → Shared → Prop}
    (hC : h.get? C = some (excClassObj nm q C N bs bm hd sn sub ab col dd k0 k1 k2 k3 k5 newId))
    (hi : Looks (model prog w) h (typeLookup (.ref C) "__init__") (some (.ref fI))) (hb : ∀ self, Looks (model prog w) h (bindSpecial (.ref fI) self) (.ref fI, [self])) (hr : rest.length ≤ sizeLine)
    (z : codeAny (model prog w) A (.call (.ref fI) ⟨.ref (h.objs.size + 1) :: rest, kw⟩)
      (fun r s' => match r with | .ok (.ret v) => v = .none ∧ Q (.done (.ret (.ref (h.objs.size + 1)))) s' | .ok _ => False | .error e => E e s')
      ⟨(h.push (kdv_tup rest)).push (excO C h.objs.size), g, d, t, os⟩) :
    wpAny (model prog w) A (Builtin.«type.__call__» ⟨.ref C :: rest, kw⟩) Q E ⟨h, g, d, t, os⟩ := by
  repeat (first
    | with_reducible refine wpAny_loadPart_at hC ?_
    | with_reducible refine wpAny_madeBy_exc hC ?_
    | wp_step)
  refine codeAny_call_builtin_code (Code.quiet_builtin _ F.quiet) (newLook F hT hC ?_)
  refine newRun F hT hC ?_ hr
  show wpAny _ _ _ _ _ _
  have kk : ∀ b o, h.get? b = some o → ((h.push (kdv_tup rest)).push (excO C h.objs.size)).get? b = some o := fun b o e => Heap.get?_push_of_some _ (Heap.get?_push_of_some _ e)
  have hC1 := kk _ _ hC
  have hx : ((h.push (kdv_tup rest)).push (excO C h.objs.size)).get? (h.objs.size + 1) = some (excO C h.objs.size) := by heap_get
  have hs : (Value.ref C :: bm).contains (.ref C) = true := by simp
  have i1 := hi.keeps kk
  have b1 := (hb (.ref (h.objs.size + 1))).keeps kk
  unfold isInstance
  repeat (first
    | with_reducible refine wpAny_loadPart_at hx ?_
    | (with_reducible refine wpAny_isSubtype_exc hC1 ?_; rw [hs])
    | wp_step)
  show wpAny _ _ (typeLookup (.ref C) _) _ _ _
  refine i1.at (wpAny_holding (wpAny_bind (b1.at ?_)))
  refine wpAny_bind (wpAny_call (codeAny_mono z fun r s' y => ?_))
  rcases r with e | fl
  · exact y
  cases fl with
  | ret v =>
    obtain ⟨rfl, y⟩ := y
    first
    | exact wpAny_pure (wpAny_pure y)
    | (wp_walk; exact y)
  | next => exact y.elim
  | brk => exact y.elim
  | cont => exact y.elim
theorem excCall (F : ExcBaseFacts B newId initId bmB) (hT : bm.contains (.type B) = true ∧ bm.contains (.type "AttributeError") = false ∧ bm.contains (.type "NameError") = false) {rest : List Value} {kw : List (Str × Value)} {fI : Addr}
    (hC : h.get? C = some (excClassObj nm q C N bs bm hd sn sub ab col dd k0 k1 k2 k3 k5 newId))
    (hi : Looks (model prog w) h (typeLookup (.ref C) "__init__") (some (.ref fI))) (hb : ∀ self, Looks (model prog w) h (bindSpecial (.ref fI) self) (.ref fI, [self])) (hr : rest.length ≤ sizeLine)
    (z : codeAny (model prog w) (A.under (.builtin "type.__call__" ⟨.ref C :: rest, kw⟩)) (.call (.ref fI) ⟨.ref (h.objs.size + 1) :: rest, kw⟩) (InitBack (h.objs.size + 1) R)
      ⟨(h.push (kdv_tup rest)).push (excO C h.objs.size), g, d, t, os⟩) :
    codeAny (model prog w) A (.call (.ref C) ⟨rest, kw⟩) R ⟨h, g, d, t, os⟩ := by
  have f1 := tc_lookup
  have f2 := tc_bind (.ref C)
  have ty : (⟨h, g, d, t, os⟩ : Shared).TypeIs (.ref C) "type" := ⟨_, hC, rfl⟩
  refine codeAny_of_tree ?_
  show wpAny _ _ (callAny (.ref C) _) _ _ _
  repeat (any_goals (first
    | assumption
    | with_reducible refine wpAny_loadPart_at hC ?_
    | wp_step))
  refine ⟨rfl, ?_⟩
  have look : ∀ {Q : Unit → Shared → Prop} {E : Value → Shared → Prop} {A : Around}, Q () ⟨h, g, d, t, os⟩ → wpAny (model prog w) A (checkBuiltinCall "type.__call__" ⟨.ref C :: rest, kw⟩) Q E ⟨h, g, d, t, os⟩ := by
    intro Q E A hq
    have f3 := tc_sub
    simp only [checkBuiltinCall, tc_kind, tc_split]
    repeat (any_goals (first
      | assumption
      | with_reducible refine wpAny_loadPart_at hC ?_
      | with_reducible refine wpAny_onRaise ?_
      | with_reducible refine wpAny_map ?_
      | wp_step))
  refine codeAny_call_builtin_at (Code.quiet_builtin _ (by decide +kernel)) entry_typeCall (look (typeCallRun F hT hC hi hb hr ?_))
  refine codeAny_mono z fun r s' y => ?_
  rcases r with e | (v | _ | _ | _) <;> exact y
end
end OwnK
end PySem

namespace Own
open PySem PySem.Spec PyProof.Rows L2
/-! ### calls of any form: positional values and keywords bound by KBn; what is raised is wished for at the caller's slots -/
theorem at0 {X : Cx} (σ : L2.St) : PassesAt CX0 X σ E0 := fun _ _ _ _ _ _ z => z.elim
theorem atE {X : Cx} {W : WX} (tk : Takes X W) (σ : L2.St) : PassesAt (L2.CX X.prog X.w) X σ (WE W σ) := passAt tk σ
theorem atN {X : Cx} (σ : L2.St) : PassesAt (L2.CX X.prog X.w) X σ E0 := fun _ _ _ _ _ _ z => by
  obtain ⟨_, _, _, _, _, _, _, _, _, _, _, _, y⟩ := z
  exact y.elim
section
variable {X : Cx} {CX : CXT} {k n : Nat} {f C : Addr} {fd : FuncData} {ps ks : List Str} {sp : Sp} {E : L2.St → XK} {E1 : XK} {x m : Str} {p pos apos : Pos} {e o : Expr} {es : List Expr} {kws : List Keyword} {t tk : TA} {to : TE}
variable {g : List Value → List Value → List Value} {gV : List V → List V → List V} {pins : List (Addr × Obj)} {σ : L2.St} {H : Hp} {s : Shared} {Q : VK} {us ws : List Value} {vs zs : List V}
theorem runF (F : FnOk X.prog X.w X.K X.mg X.base CX k f fd ps sp) (hr : Room k X.A) (hb : KBn X.K fd ps n ks g gV) (hx : PassesAt CX X σ E1) (I : Inv X pins σ H s) (r : Vals vs us) (rz : Vals zs ws) (l1 : vs.length = n) (l2 : zs.length = ks.length)
    (h : sp (gV vs zs) H Q E1) : wpAny (model X.prog X.w) X.A (call (.ref f) us (ks.zip ws)) (EP X pins σ Q) X.xe s := by
  have b := hb.to s us ws I.kIn (r.length.symm.trans l1) (rz.length.symm.trans l2)
  refine wpAny_call (codeAny_mono (F.run X.A X.stack s H _ (g us ws) (gV vs zs) Q E1 hr I.env0 b (hb.rel r rz) h) fun r s' y => ?_)
  cases r with
  | error e => exact hx pins H s e s' I y
  | ok fl =>
    cases fl with
    | ret u => exact I.after y
    | next => exact y.elim
    | brk => exact y.elim
    | cont => exact y.elim
theorem runM (M : Mk X.K C f) (F : FnOk X.prog X.w X.K X.mg X.base CX k f fd ps sp) (hr : Room (k + 1) X.A) (hb : KBn X.K fd ps (n + 1) ks g gV) (hx : PassesAt CX X σ E1) (I : Inv X pins σ H s) (r : Vals vs us) (rz : Vals zs ws) (l1 : vs.length = n) (l2 : zs.length = ks.length)
    (h : ∀ a dx, H a = none → H dx = none → dx ≠ a → sp (gV (.ref a :: vs) zs) (upd (upd H dx (.own a)) a (.ins C dx [])) (fun v H2 => v = .non ∧ Q (.ref a) H2) E1) :
    wpAny (model X.prog X.w) X.A (call (.ref C) us (ks.zip ws)) (EP X pins σ Q) X.xe s := by
  have hq := h (s.heap.objs.size + 1) s.heap.objs.size (I.hok.fresh (Nat.le_succ _)) (I.hok.fresh (Nat.le_refl _)) (Nat.ne_of_lt (Nat.lt_succ_self _))
  have J := Inv.made (C := C) I
  have r1 : Vals (V.ref (s.heap.objs.size + 1) :: vs) (Value.ref (s.heap.objs.size + 1) :: us) := .cons rfl r
  have n1 : (Value.ref (s.heap.objs.size + 1) :: us).length = n + 1 := r1.length.symm.trans (congrArg Nat.succ l1)
  have b := hb.to _ (Value.ref (s.heap.objs.size + 1) :: us) ws J.kIn n1 (rz.length.symm.trans l2)
  refine wpAny_call (make_map (f := f) I.kIn M.makes M.init (beq_iff_eq.mp M.fn) (codeAny_mono (F.run _ X.stack _ _ _ _ _ _ E1 (hr.make C us (ks.zip ws)) (J.env0.make C us (ks.zip ws)) b (hb.rel r1 rz) hq) fun r s' y => ?_))
  cases r with
  | error e => exact hx pins _ _ e s' J y
  | ok fl =>
    cases fl with
    | ret u =>
      obtain ⟨v, H', I3, rv, ev, q3⟩ := J.after y
      subst ev
      exact ⟨rv, ⟨V.ref (s.heap.objs.size + 1), H', I3, rfl, q3⟩⟩
    | next => exact y.elim
    | brk => exact y.elim
    | cont => exact y.elim
/-- f(e, .., k = v, ..) -/
def tFn (n m : Nat) (sp : Sp) (gV : List V → List V → List V) (E : L2.St → XK) (t tk : TA) : TE := fun σ H Q => t σ H fun vs H1 => tk σ H1 fun zs H2 => vs.length = n ∧ zs.length = m ∧ sp (gV vs zs) H2 Q (E σ)
theorem pf_pos (F : FnOk X.prog X.w X.K X.mg X.base CX k f fd ps sp) (hr : Room k X.A) (hg : Gl X x) (hm : X.mg x = some (.ref f)) (hk : PySem.W.keepIn X.K (.ref f) = true) (hb : KBn X.K fd ps n [] g gV) (hx : ∀ σ, PassesAt CX X σ (E σ)) (ha : PA X (e :: es) t)
    (hdb : (x == ("__debug__" : Str)) = false := by decide) (he : starEach (e :: es) X.env = (false, eval e X.env) :: starEach es X.env := by rfl) (hpl : (backTo pos (starEach es X.env)).any (·.1) = false := by rfl) :
    PE X (.Call (.Name x p) (e :: es) [] pos) (tFn n 0 sp gV E t tNil) := by
  refine ⟨fun pins s σ H Q I h => wpAny_Call_Name_kw (ld_glob I hg hm ?_ hdb)⟩
  exact PySem.W.callWith_K (h₀ := X.base) I.ok.mod.kin hk (thn (ha.run pos pins s σ H _ I h) fun us s1 ⟨vs, H1, I1, r, l1, l2, q⟩ => ⟨I1.kIn, runF (ks := []) F hr hb (hx σ) I1 r (.nil : Vals [] []) l1 rfl q⟩) he hpl
theorem pf_both (F : FnOk X.prog X.w X.K X.mg X.base CX k f fd ps sp) (hr : Room k X.A) (hg : Gl X x) (hm : X.mg x = some (.ref f)) (hk : PySem.W.keepIn X.K (.ref f) = true) (hb : KBn X.K fd ps n ks g gV) (hx : ∀ σ, PassesAt CX X σ (E σ)) (ha : PA X (e :: es) t) (hkw : PK X kws tk)
    (hall : (backToKw pos (keywordEach kws X.env)).all (·.1.isSome) = true := by rfl) (hks : (backToKw pos (keywordEach kws X.env)).filterMap (·.1) = ks := by rfl) (hdb : (x == ("__debug__" : Str)) = false := by decide)
    (he : starEach (e :: es) X.env = (false, eval e X.env) :: starEach es X.env := by rfl) (hpl : ((backTo pos (starEach (e :: es) X.env)).any (·.1) || (backToKw pos (keywordEach kws X.env)).any (·.1.isNone)) = false := by rfl) :
    PE X (.Call (.Name x p) (e :: es) kws pos) (tFn n ks.length sp gV E t tk) := by
  refine ⟨fun pins s σ H Q I h => wpAny_Call_Name_kw (ld_glob I hg hm ?_ hdb)⟩
  refine PySem.W.callWith_KW (h₀ := X.base) I.ok.mod.kin hk hall (thn (ha.run pos pins s σ H _ I h) fun us s1 ⟨vs, H1, I1, r, q⟩ => ?_) hpl he
  refine thn (hkw.run pos pins s1 σ H1 _ I1 q) fun ws s2 ⟨zs, H2, I2, rz, l1, l2, q2⟩ => ⟨I2.kIn, ?_⟩
  rw [hks]
  exact runF F hr hb (hx σ) I2 r rz l1 l2 q2
theorem pf_kw (F : FnOk X.prog X.w X.K X.mg X.base CX k f fd ps sp) (hr : Room k X.A) (hg : Gl X x) (hm : X.mg x = some (.ref f)) (hk : PySem.W.keepIn X.K (.ref f) = true) (hb : KBn X.K fd ps 0 ks g gV) (hx : ∀ σ, PassesAt CX X σ (E σ)) (hkw : PK X kws tk)
    (hall : (backToKw pos (keywordEach kws X.env)).all (·.1.isSome) = true := by rfl) (hks : (backToKw pos (keywordEach kws X.env)).filterMap (·.1) = ks := by rfl) (hdb : (x == ("__debug__" : Str)) = false := by decide)
    (hpl : ((backTo pos (starEach [] X.env)).any (·.1) || (backToKw pos (keywordEach kws X.env)).any (·.1.isNone)) = false := by rfl) :
    PE X (.Call (.Name x p) [] kws pos) (tFn 0 ks.length sp gV E tNil tk) := by
  refine ⟨fun pins s σ H Q I h => wpAny_Call_Name_kw (ld_glob I hg hm ?_ hdb)⟩
  refine PySem.W.callWith_KW0 (h₀ := X.base) I.ok.mod.kin hk hall ?_ hpl
  refine thn (hkw.run pos pins s σ H _ I h) fun ws s2 ⟨zs, H2, I2, rz, l1, l2, q2⟩ => ⟨I2.kIn, ?_⟩
  rw [hks]
  exact runF (us := []) (vs := []) F hr hb (hx σ) I2 .nil rz rfl l2 q2
/-- o.m(e, .., k = v, ..) -/
def tMt (C : Addr) (m : Str) (n j : Nat) (sp : Sp) (gV : List V → List V → List V) (E : L2.St → XK) (to : TE) (t tk : TA) : TE := fun σ H Q => to σ H fun x H0 => ∃ a dx fs, x = .ref a ∧ H0 a = some (.ins C dx fs) ∧ fs.lookup m = none ∧
  t σ H0 fun vs H1 => tk σ H1 fun zs H2 => vs.length = n ∧ zs.length = j ∧ sp (gV (.ref a :: vs) zs) H2 Q (E σ)
theorem pm_pos {pl : Sem Bool} (ho : PE X o to) (c : Cls X.K C) (hm : Meth X.K C m f) (F : FnOk X.prog X.w X.K X.mg X.base CX k f fd ps sp) (hr : Room k X.A) (hb : KBn X.K fd ps (n + 1) [] g gV) (hx : ∀ σ, PassesAt CX X σ (E σ)) (ha : PA X (e :: es) t)
    (hst : starEach (e :: es) X.env = (false, eval e X.env) :: starEach es X.env := by rfl) (hpl : (backTo pos (starEach es X.env)).any (·.1) = false := by rfl)
    (ht : eval (.Call (.Attribute o m apos) (e :: es) [] pos) X.env = (do
      let ov ← eval o X.env
      standAt apos.atName
      let (f, first) ← holding [ov] (getMethod ov m pl)
      callWith pos f first (backTo pos (starEach (e :: es) X.env)) (backToKw pos (keywordEach [] X.env))) := by rfl) :
    PE X (.Call (.Attribute o m apos) (e :: es) [] pos) (tMt C m n 0 sp gV E to t tNil) := by
  refine ⟨fun pins s σ H Q I h => ?_⟩
  refine PySem.W.methodCall_KW (pl := pl) (thn (ho.run pins s σ H _ I h) fun u s1 ⟨x, H1, I1, rx, a, dx, fs, ex, ea, l, q⟩ => ?_) ht
  subst ex
  obtain rfl : u = Value.ref a := rx
  refine getmeth_ok I1 ea c hm l ?_
  exact PySem.W.callWith_K (first := [.ref a]) (h₀ := X.base) I.ok.mod.kin hm.kp (thn (ha.run pos pins s1 σ H1 _ I1 q) fun us s2 ⟨vs, H2, I2, r, l1, l2, q2⟩ =>
    ⟨I2.kIn, runF (ks := []) (us := .ref a :: us) (vs := .ref a :: vs) F hr hb (hx σ) I2 (.cons rfl r) (.nil : Vals [] []) (congrArg Nat.succ l1) rfl q2⟩) hst hpl
theorem pm_kw {pl : Sem Bool} (ho : PE X o to) (c : Cls X.K C) (hm : Meth X.K C m f) (F : FnOk X.prog X.w X.K X.mg X.base CX k f fd ps sp) (hr : Room k X.A) (hb : KBn X.K fd ps 1 ks g gV) (hx : ∀ σ, PassesAt CX X σ (E σ)) (hkw : PK X kws tk)
    (hall : (backToKw pos (keywordEach kws X.env)).all (·.1.isSome) = true := by rfl) (hks : (backToKw pos (keywordEach kws X.env)).filterMap (·.1) = ks := by rfl)
    (hpl : ((backTo pos (starEach [] X.env)).any (·.1) || (backToKw pos (keywordEach kws X.env)).any (·.1.isNone)) = false := by rfl)
    (ht : eval (.Call (.Attribute o m apos) [] kws pos) X.env = (do
      let ov ← eval o X.env
      standAt apos.atName
      let (f, first) ← holding [ov] (getMethod ov m pl)
      callWith pos f first (backTo pos (starEach [] X.env)) (backToKw pos (keywordEach kws X.env))) := by rfl) :
    PE X (.Call (.Attribute o m apos) [] kws pos) (tMt C m 0 ks.length sp gV E to tNil tk) := by
  refine ⟨fun pins s σ H Q I h => ?_⟩
  refine PySem.W.methodCall_KW (pl := pl) (thn (ho.run pins s σ H _ I h) fun u s1 ⟨x, H1, I1, rx, a, dx, fs, ex, ea, l, q⟩ => ?_) ht
  subst ex
  obtain rfl : u = Value.ref a := rx
  refine getmeth_ok I1 ea c hm l ?_
  refine PySem.W.callWith_KW0 (first := [.ref a]) (h₀ := X.base) I.ok.mod.kin hm.kp hall ?_ hpl
  refine thn (hkw.run pos pins s1 σ H1 _ I1 q) fun ws s2 ⟨zs, H2, I2, rz, l1, l2, q2⟩ => ⟨I2.kIn, ?_⟩
  rw [hks]
  exact runF (us := [.ref a]) (vs := [.ref a]) F hr hb (hx σ) I2 (.cons rfl .nil) rz rfl l2 q2
/-- C(e, .., k = v, ..) -/
def tMk (C : Addr) (n m : Nat) (sp : Sp) (gV : List V → List V → List V) (E : L2.St → XK) (t tk : TA) : TE := fun σ H Q => t σ H fun vs H1 => tk σ H1 fun zs H2 => vs.length = n ∧ zs.length = m ∧ ∀ a dx, H2 a = none → H2 dx = none → dx ≠ a →
  sp (gV (.ref a :: vs) zs) (upd (upd H2 dx (.own a)) a (.ins C dx [])) (fun v H3 => v = .non ∧ Q (.ref a) H3) (E σ)
theorem pc_pos (M : Mk X.K C f) (F : FnOk X.prog X.w X.K X.mg X.base CX k f fd ps sp) (hr : Room (k + 1) X.A) (hg : Gl X x) (hm : X.mg x = some (.ref C)) (hb : KBn X.K fd ps (n + 1) [] g gV) (hx : ∀ σ, PassesAt CX X σ (E σ)) (ha : PA X (e :: es) t)
    (hdb : (x == ("__debug__" : Str)) = false := by decide) (he : starEach (e :: es) X.env = (false, eval e X.env) :: starEach es X.env := by rfl) (hpl : (backTo pos (starEach es X.env)).any (·.1) = false := by rfl) :
    PE X (.Call (.Name x p) (e :: es) [] pos) (tMk C n 0 sp gV E t tNil) := by
  refine ⟨fun pins s σ H Q I h => wpAny_Call_Name_kw (ld_glob I hg hm ?_ hdb)⟩
  exact PySem.W.callWith_K (h₀ := X.base) I.ok.mod.kin M.kp (thn (ha.run pos pins s σ H _ I h) fun us s1 ⟨vs, H1, I1, r, l1, l2, q⟩ =>
    ⟨I1.kIn, runM (ks := []) M F hr hb (hx σ) I1 r (.nil : Vals [] []) l1 rfl q⟩) he hpl
theorem pc_both (M : Mk X.K C f) (F : FnOk X.prog X.w X.K X.mg X.base CX k f fd ps sp) (hr : Room (k + 1) X.A) (hg : Gl X x) (hm : X.mg x = some (.ref C)) (hb : KBn X.K fd ps (n + 1) ks g gV) (hx : ∀ σ, PassesAt CX X σ (E σ)) (ha : PA X (e :: es) t) (hkw : PK X kws tk)
    (hall : (backToKw pos (keywordEach kws X.env)).all (·.1.isSome) = true := by rfl) (hks : (backToKw pos (keywordEach kws X.env)).filterMap (·.1) = ks := by rfl) (hdb : (x == ("__debug__" : Str)) = false := by decide)
    (he : starEach (e :: es) X.env = (false, eval e X.env) :: starEach es X.env := by rfl) (hpl : ((backTo pos (starEach (e :: es) X.env)).any (·.1) || (backToKw pos (keywordEach kws X.env)).any (·.1.isNone)) = false := by rfl) :
    PE X (.Call (.Name x p) (e :: es) kws pos) (tMk C n ks.length sp gV E t tk) := by
  refine ⟨fun pins s σ H Q I h => wpAny_Call_Name_kw (ld_glob I hg hm ?_ hdb)⟩
  refine PySem.W.callWith_KW (h₀ := X.base) I.ok.mod.kin M.kp hall (thn (ha.run pos pins s σ H _ I h) fun us s1 ⟨vs, H1, I1, r, q⟩ => ?_) hpl he
  refine thn (hkw.run pos pins s1 σ H1 _ I1 q) fun ws s2 ⟨zs, H2, I2, rz, l1, l2, q2⟩ => ⟨I2.kIn, ?_⟩
  rw [hks]
  exact runM M F hr hb (hx σ) I2 r rz l1 l2 q2
theorem pc_kw (M : Mk X.K C f) (F : FnOk X.prog X.w X.K X.mg X.base CX k f fd ps sp) (hr : Room (k + 1) X.A) (hg : Gl X x) (hm : X.mg x = some (.ref C)) (hb : KBn X.K fd ps 1 ks g gV) (hx : ∀ σ, PassesAt CX X σ (E σ)) (hkw : PK X kws tk)
    (hall : (backToKw pos (keywordEach kws X.env)).all (·.1.isSome) = true := by rfl) (hks : (backToKw pos (keywordEach kws X.env)).filterMap (·.1) = ks := by rfl) (hdb : (x == ("__debug__" : Str)) = false := by decide)
    (hpl : ((backTo pos (starEach [] X.env)).any (·.1) || (backToKw pos (keywordEach kws X.env)).any (·.1.isNone)) = false := by rfl) :
    PE X (.Call (.Name x p) [] kws pos) (tMk C 0 ks.length sp gV E tNil tk) := by
  refine ⟨fun pins s σ H Q I h => wpAny_Call_Name_kw (ld_glob I hg hm ?_ hdb)⟩
  refine PySem.W.callWith_KW0 (h₀ := X.base) I.ok.mod.kin M.kp hall ?_ hpl
  refine thn (hkw.run pos pins s σ H _ I h) fun ws s2 ⟨zs, H2, I2, rz, l1, l2, q2⟩ => ⟨I2.kIn, ?_⟩
  rw [hks]
  exact runM (n := 0) (us := []) (vs := []) M F hr hb (hx σ) I2 .nil rz rfl l2 q2
/-- C0.m(e, ..), the def read off an own class -/
theorem pcl_pos {C0 : Addr} {mc : Value} {pl : Sem Bool} (hg : Gl X x) (hm : X.mg x = some (.ref C0)) (rd : PySem.W.readsIn X.K C0 mc = true) (ga : PySem.W.specialIn X.K (.ref C0) "__getattribute__" = some (some (.builtin "type.__getattribute__")))
    (fc : PySem.W.findCls X.K (.ref C0) mc m = some (.val (.ref f))) (hk : PySem.W.keepIn X.K (.ref f) = true) (F : FnOk X.prog X.w X.K X.mg X.base CX k f fd ps sp) (hr : Room k X.A) (hb : KBn X.K fd ps n [] g gV) (hx : ∀ σ, PassesAt CX X σ (E σ)) (ha : PA X (e :: es) t)
    (hdb : (x == ("__debug__" : Str)) = false := by decide) (hst : starEach (e :: es) X.env = (false, eval e X.env) :: starEach es X.env := by rfl) (hpl : (backTo pos (starEach es X.env)).any (·.1) = false := by rfl)
    (ht : eval (.Call (.Attribute (.Name x p) m apos) (e :: es) [] pos) X.env = (do
      let ov ← eval (.Name x p) X.env
      standAt apos.atName
      let (f, first) ← holding [ov] (getMethod ov m pl)
      callWith pos f first (backTo pos (starEach (e :: es) X.env)) (backToKw pos (keywordEach [] X.env))) := by rfl) :
    PE X (.Call (.Attribute (.Name x p) m apos) (e :: es) [] pos) (tFn n 0 sp gV E t tNil) := by
  refine ⟨fun pins s σ H Q I h => ?_⟩
  refine PySem.W.methodCall_KW (pl := pl) (ld_glob I hg hm ?_ hdb) ht
  refine PySem.W.method_cls I.kIn ga (PySem.W.cls_value I.kIn rd fc rfl ?_)
  exact PySem.W.callWith_K (first := []) (h₀ := X.base) I.ok.mod.kin hk (thn (ha.run pos pins _ σ H _ (I.tok _) h) fun us s2 ⟨vs, H2, I2, r, l1, l2, q2⟩ => ⟨I2.kIn, runF (ks := []) F hr hb (hx σ) I2 r (.nil : Vals [] []) l1 rfl q2⟩) hst hpl
end

/-! ### raise C(..) of an own class over ValueError: positional values, keywords, none -/
section
variable {X : Cx} {CX : CXT} {k n : Nat} {fI C : Addr} {fd : FuncData} {ps ks : List Str} {sp : Sp} {x : Str} {p pos : Pos} {e : Expr} {es : List Expr} {kws : List Keyword} {t tk : TA}
variable {g : List Value → List Value → List Value} {gV : List V → List V → List V} {pins : List (Addr × Obj)} {σ : L2.St} {H : Hp} {s : Shared} {Q : XK} {us ws : List Value} {vs zs : List V}
abbrev NoE : XK := fun _ _ _ => False
/-- what the written part says of C and its __init__ -/
structure ExK (K : PySem.W.Frag) (C fI : Addr) : Prop where
  made : ∃ (B newId initId : String) (bmB : List Value) (nm q : Str) (N : Addr) (bs bm : List Value) (sn : List Str) (sub : List Value) (ab : Bool) (col : Option Bool) (dd : Option Addr) (k0 k1 k2 k3 k5 : Option Value),
    ExcBaseFacts B newId initId bmB ∧ K.lookup C = some (excClassObj nm q C N bs bm true sn sub ab col dd k0 k1 k2 k3 k5 newId) ∧
    (bm.contains (.type B) = true ∧ bm.contains (.type "AttributeError") = false ∧ bm.contains (.type "NameError") = false)
  exC : PySem.W.subIn K (.ref C) (.type "BaseException") = some true
  tyC : PySem.W.typeIn K (.ref C) = some (.type "type")
  kC : PySem.W.keepIn K (.ref C) = true
  init : PySem.W.findIn K (.ref C) "__init__" = some (some (.ref fI))
  fn : PySem.W.typeIn K (.ref fI) = some (.type "function")
theorem exK_ve {K : PySem.W.Frag} {C fI : Addr} (T : OexC K C) (i : PySem.W.findIn K (.ref C) "__init__" = some (some (.ref fI))) (f : PySem.W.typeIn K (.ref fI) = some (.type "function")) : ExK K C fI := by
  obtain ⟨nm, q, N, bs, bm, sn, sub, ab, col, dd, k0, k1, k2, k3, k5, hC, hbm⟩ := T.cls
  have F := PySem.F.excBase_ValueError
  have c := fun Y => PySem.HandSPX.refsVE_contains Y bm hbm
  exact ⟨⟨_, _, _, _, _, _, _, _, _, _, _, _, _, _, _, _, _, _, _, F, hC, (c _).trans F.hasB, (c _).trans F.noAttr, (c _).trans F.noName⟩, T.exC, T.tyC, T.kC, i, f⟩
def BackX (a C : Addr) (H2 : Hp) (Q : XK) : VK := fun v H3 => v = .non ∧ ∃ (d : Addr) (fs : List (Str × V)), H3 a = some (exo a C (some d)) ∧ H3 d = some (exd d fs) ∧ H2 d = none ∧ Q (.ref C) (some d) (upd (del H3 a) d (.xd fs))
theorem runX (T : ExK X.K C fI) (F : FnOk X.prog X.w X.K X.mg X.base CX k fI fd ps sp) (hr : Room (k + 1) X.A) (hb : KBn X.K fd ps (n + 1) ks g gV) (hx : PassesAt CX X σ NoE) (I : Inv X pins σ H s) (r : Vals vs us) (rz : Vals zs ws) (l1 : vs.length = n) (l2 : zs.length = ks.length) (hn : n ≤ 1000)
    (h : ∀ a, H a = none → sp (gV (.ref a :: vs) zs) (upd H a (exo a C none)) (BackX a C H Q) NoE) : wpAny (model X.prog X.w) X.A (call (.ref C) us (ks.zip ws)) (MkP X pins σ Q) X.xe s := by
  obtain ⟨B, newId, initId, bmB, nm, q, N, bs, bm, sn, sub, ab, col, dd, k0, k1, k2, k3, k5, F0, hC, hbm⟩ := T.made
  obtain ⟨hp, gs, dr, tk, os⟩ := s
  have sz : hp.objs.size ≤ hp.objs.size + 1 := Nat.le_succ _
  have hq := h (hp.objs.size + 1) (I.hok.fresh sz)
  have kk : ∀ b o, hp.get? b = some o → ((hp.push (PySem.W.kdv_tup us)).push (PySem.HandSPX.excO C hp.objs.size)).get? b = some o := fun b o e => Heap.get?_push_of_some _ (Heap.get?_push_of_some _ e)
  have hat : ((hp.push (PySem.W.kdv_tup us)).push (PySem.HandSPX.excO C hp.objs.size)).get? (hp.objs.size + 1) = some (PySem.HandSPX.excO C hp.objs.size) := by heap_get
  have J : Inv X pins σ (upd H (hp.objs.size + 1) (exo (hp.objs.size + 1) C none)) ⟨(hp.push (PySem.W.kdv_tup us)).push (PySem.HandSPX.excO C hp.objs.size), gs, dr, tk, os⟩ :=
    I.laid (t' := tk) (a := hp.objs.size + 1) (o := exo (hp.objs.size + 1) C none) kk sz (exo_ok hat)
  have r1 : Vals (V.ref (hp.objs.size + 1) :: vs) (Value.ref (hp.objs.size + 1) :: us) := .cons rfl r
  have b := hb.to _ (Value.ref (hp.objs.size + 1) :: us) ws J.kIn (r1.length.symm.trans (congrArg Nat.succ l1)) (rz.length.symm.trans l2)
  have hus : us.length ≤ sizeLine := by
    rw [← r.length, l1, sizeLine_eq]
    omega
  refine wpAny_call (PySem.OwnK.excCall F0 hbm (I.kIn _ _ hC) (PySem.W.looks_findIn I.kIn T.init) (fun self => PySem.W.bind_fn I.kIn self T.fn) hus
    (codeAny_mono (F.run _ X.stack _ _ _ _ _ _ NoE (hr.make C us (ks.zip ws)) (J.env0.make C us (ks.zip ws)) b (hb.rel r1 rz) hq) fun r s' y => ?_))
  cases r with
  | error er => exact hx pins _ _ er s' J y
  | ok fl =>
    cases fl with
    | ret u =>
      obtain ⟨v, H2, os2, bare2, un2, hok2, rv, ev, d, fs, ea, ed, hd1, q2⟩ := y
      subst ev
      obtain ⟨h2, g2, d2, t2, os'⟩ := s'
      exact ⟨rv, mk_end (raises_own T.exC T.tyC) I sz kk un2 hok2 os2 bare2 ea ed hd1 q2⟩
    | next => exact y.elim
    | brk => exact y.elim
    | cont => exact y.elim
def tRz (C : Addr) (n m : Nat) (sp : Sp) (gV : List V → List V → List V) (t tk : TA) : L2.St → Hp → XK → Prop := fun σ H Q => t σ H fun vs H1 => tk σ H1 fun zs H2 => vs.length = n ∧ zs.length = m ∧ n ≤ 1000 ∧
  ∀ a, H2 a = none → sp (gV (.ref a :: vs) zs) (upd H2 a (exo a C none)) (BackX a C H2 Q) NoE
theorem px_pos (T : ExK X.K C fI) (F : FnOk X.prog X.w X.K X.mg X.base CX k fI fd ps sp) (hr : Room (k + 1) X.A) (hg : Gl X x) (hm : X.mg x = some (.ref C)) (hb : KBn X.K fd ps (n + 1) [] g gV) (hx : ∀ σ, PassesAt CX X σ NoE) (ha : PA X (e :: es) t)
    (hdb : (x == ("__debug__" : Str)) = false := by decide) (he : starEach (e :: es) X.env = (false, eval e X.env) :: starEach es X.env := by rfl) (hpl : (backTo pos (starEach es X.env)).any (·.1) = false := by rfl) :
    PMk X (.Call (.Name x p) (e :: es) [] pos) (tRz C n 0 sp gV t tNil) := by
  intro pins s σ H Q I h
  refine wpAny_Call_Name_kw (ld_glob I hg hm ?_ hdb)
  exact PySem.W.callWith_K (h₀ := X.base) I.ok.mod.kin T.kC (thn (ha.run pos pins s σ H _ I h) fun us s1 ⟨vs, H1, I1, r, l1, l2, l3, q⟩ => ⟨I1.kIn, runX (ks := []) T F hr hb (hx σ) I1 r (.nil : Vals [] []) l1 rfl l3 q⟩) he hpl
theorem px_both (T : ExK X.K C fI) (F : FnOk X.prog X.w X.K X.mg X.base CX k fI fd ps sp) (hr : Room (k + 1) X.A) (hg : Gl X x) (hm : X.mg x = some (.ref C)) (hb : KBn X.K fd ps (n + 1) ks g gV) (hx : ∀ σ, PassesAt CX X σ NoE) (ha : PA X (e :: es) t) (hkw : PK X kws tk)
    (hall : (backToKw pos (keywordEach kws X.env)).all (·.1.isSome) = true := by rfl) (hks : (backToKw pos (keywordEach kws X.env)).filterMap (·.1) = ks := by rfl) (hdb : (x == ("__debug__" : Str)) = false := by decide)
    (he : starEach (e :: es) X.env = (false, eval e X.env) :: starEach es X.env := by rfl) (hpl : ((backTo pos (starEach (e :: es) X.env)).any (·.1) || (backToKw pos (keywordEach kws X.env)).any (·.1.isNone)) = false := by rfl) :
    PMk X (.Call (.Name x p) (e :: es) kws pos) (tRz C n ks.length sp gV t tk) := by
  intro pins s σ H Q I h
  refine wpAny_Call_Name_kw (ld_glob I hg hm ?_ hdb)
  refine PySem.W.callWith_KW (h₀ := X.base) I.ok.mod.kin T.kC hall (thn (ha.run pos pins s σ H _ I h) fun us s1 ⟨vs, H1, I1, r, q⟩ => ?_) hpl he
  refine thn (hkw.run pos pins s1 σ H1 _ I1 q) fun ws s2 ⟨zs, H2, I2, rz, l1, l2, l3, q2⟩ => ⟨I2.kIn, ?_⟩
  rw [hks]
  exact runX T F hr hb (hx σ) I2 r rz l1 l2 l3 q2
theorem px_kw (T : ExK X.K C fI) (F : FnOk X.prog X.w X.K X.mg X.base CX k fI fd ps sp) (hr : Room (k + 1) X.A) (hg : Gl X x) (hm : X.mg x = some (.ref C)) (hb : KBn X.K fd ps 1 ks g gV) (hx : ∀ σ, PassesAt CX X σ NoE) (hkw : PK X kws tk)
    (hall : (backToKw pos (keywordEach kws X.env)).all (·.1.isSome) = true := by rfl) (hks : (backToKw pos (keywordEach kws X.env)).filterMap (·.1) = ks := by rfl) (hdb : (x == ("__debug__" : Str)) = false := by decide)
    (hpl : ((backTo pos (starEach [] X.env)).any (·.1) || (backToKw pos (keywordEach kws X.env)).any (·.1.isNone)) = false := by rfl) :
    PMk X (.Call (.Name x p) [] kws pos) (tRz C 0 ks.length sp gV tNil tk) := by
  intro pins s σ H Q I h
  refine wpAny_Call_Name_kw (ld_glob I hg hm ?_ hdb)
  refine PySem.W.callWith_KW0 (h₀ := X.base) I.ok.mod.kin T.kC hall ?_ hpl
  refine thn (hkw.run pos pins s σ H _ I h) fun ws s2 ⟨zs, H2, I2, rz, l1, l2, l3, q2⟩ => ⟨I2.kIn, ?_⟩
  rw [hks]
  exact runX (n := 0) (us := []) (vs := []) T F hr hb (hx σ) I2 .nil rz rfl l2 l3 q2
theorem px_none (T : ExK X.K C fI) (F : FnOk X.prog X.w X.K X.mg X.base CX k fI fd ps sp) (hr : Room (k + 1) X.A) (hg : Gl X x) (hm : X.mg x = some (.ref C)) (hb : KBn X.K fd ps 1 [] g gV) (hx : ∀ σ, PassesAt CX X σ NoE)
    (hdb : (x == ("__debug__" : Str)) = false := by decide) : PMk X (.Call (.Name x p) [] [] pos) (tRz C 0 0 sp gV tNil tNil) := by
  intro pins s σ H Q I h
  refine wpAny_Call_Name_kw (ld_glob I hg hm ?_ hdb)
  obtain ⟨l1, l2, l3, q⟩ := h
  exact PySem.W.callWith_K0 I.kIn T.kC (runX (n := 0) (ks := []) (us := []) (vs := []) T F hr hb (hx σ) I .nil (.nil : Vals [] []) rfl rfl l3 q)
end
end Own

/-! Own rules: == and != where the left one is an instance of a class with an own __eq__ (and object's __ne__), whatever the right one is. -/
namespace PySem
namespace OwnQ
open PySem.W PyProof.Rows Builtin
section
variable {prog : Program} {w : World} {A : Around} {E : Value → Shared → Prop} {s : Shared} {K : Frag} {x C L f : Addr} {h₀ : Heap} {m : Str → Option Value} {ox : Obj} {od : Option Obj} {b tb : Value}
/-- a def's word back, then turned round -/
def NotBack (Q : Value → Shared → Prop) (v : Value) (s' : Shared) : Prop := ∃ r : Bool, v = .bool r ∧ Q (.bool (!r)) s'
theorem neTry {Q : Option Value → Shared → Prop} (hu : A.units + 1 < cLine) (X : K.In s.heap) (I : InstAt s.heap x ox C od) (hn : findIn K (.ref C) "__ne__" = some (some (.builtin "object.__ne__"))) (ho : mroIn K C (.type "object") = some true)
    (hs : findIn K (.ref C) "__eq__" = some (some (.ref f))) (hf : isFn K (.ref f) = true) (h : wpAny (model prog w) A.in1 (call (.ref f) [.ref x, b]) (NotBack fun v s' => Q (some v) s') E s) :
    wpAny (model prog w) A (tryCompare (.ref x) "__ne__" b) Q E s := by
  obtain ⟨hp, gs, dr, tk, os⟩ := s
  have sub : Looks (model prog w) hp (isInstance (.ref x) (.type "object")) true := I.type.andThen (looks_mroIn X ho)
  have entry : ∀ {P : Fin → Shared → Prop}, wpAny (model prog w) A.in1 (call (.ref f) [.ref x, b]) (NotBack fun v s' => P (.done (.ret v)) s') E ⟨hp, gs, dr, tk, os⟩ →
      wpAny (model prog w) A.in1 (Builtin.«object.__ne__» ⟨[.ref x, b], []⟩) P E ⟨hp, gs, dr, tk, os⟩ := by
    intro P hc
    unfold Builtin.«object.__ne__»
    refine wpAny_bind (wpAny_of_eq (a := ((Value.ref x : Value), [b])) (by first | rfl | (simp only [slotArgs]; rfl)) ?_)
    refine wpAny_bind (wpAny_cRoomFor hu ?_)
    refine wpAny_bind (ifBound_K (args := [b]) X I hs hf (wpAny_mono hc (fun v s' y => ?_) fun _ _ e => e))
    obtain ⟨r, rfl, q⟩ := y
    exact wpAny_bind (wpAny_truthy_bool (wpAny_pure q))
  have go : ∀ {P : Option Value → Shared → Prop}, wpAny (model prog w) A.in1 (call (.ref f) [.ref x, b]) (NotBack fun v s' => P (some v) s') E ⟨hp, gs, dr, tk, os⟩ →
      wpAny (model prog w) A (call (.builtin "object.__ne__") ([.ref x] ++ [b]) >>= fun v => pure (some v)) P E ⟨hp, gs, dr, tk, os⟩ := by
    intro P hc
    refine wpAny_bind (wpAny_call (codeAny_call_builtin F.cmp_object.ne.plain F.cmpEntry_ne ?_))
    refine @check_slot (model prog w) _ _ ⟨hp, gs, dr, tk, os⟩ "object.__ne__" "object" "__ne__" (.ref x) [b] [] _ F.cmpKind_ne F.cmpSplit_ne sub (F.cmpArgs_ne _ _) ?_
    refine entry (wpAny_mono hc (fun v s' y => ?_) fun _ _ e => e)
    obtain ⟨r, rfl, q⟩ := y
    exact ⟨r, rfl, wpAny_pure q⟩
  have full : ∀ {P : Option Value → Shared → Prop}, wpAny (model prog w) A.in1 (call (.ref f) [.ref x, b]) (NotBack fun v s' => P (some v) s') E ⟨hp, gs, dr, tk, os⟩ →
      wpAny (model prog w) A (callSpecialIfBound? (.ref x) "__ne__" [b]) P E ⟨hp, gs, dr, tk, os⟩ := by
    intro P hc
    simp only [callSpecialIfBound?, bindSpecialIfBound?]
    refine wpAny_holding (wpAny_bind (wpAny_bind (wpAny_bind (I.type.here ((looks_findIn X hn).here ?_)))))
    refine wpAny_bind (wpAny_askSetting (wpAny_ite ?_))
    split
    · refine wpAny_bind ?_
      rw [F.cmp_object.ne.bind (.ref x)]
      exact wpAny_pure (wpAny_pure (go hc))
    · refine wpAny_tryCatch (wpAny_bind ?_)
      rw [F.cmp_object.ne.bind (.ref x)]
      exact wpAny_pure (wpAny_pure (go hc))
  unfold tryCompare
  refine wpAny_bind (full (wpAny_mono h (fun v s' y => ?_) fun _ _ e => e))
  obtain ⟨r, rfl, q⟩ := y
  exact ⟨r, rfl, wpAny_pure q⟩
theorem neK {Q : Value → Shared → Prop} (hu : A.units + 1 < cLine) (X : K.In s.heap) (I : InstAt s.heap x ox C od) (hb : Looks (model prog w) s.heap (typeOf b) tb) (hnf : notFirst K C tb = true) (hn : findIn K (.ref C) "__ne__" = some (some (.builtin "object.__ne__")))
    (ho : mroIn K C (.type "object") = some true) (hs : findIn K (.ref C) "__eq__" = some (some (.ref f))) (hf : isFn K (.ref f) = true) (h : wpAny (model prog w) A.in1 (call (.ref f) [.ref x, b]) (NotBack Q) E s) :
    wpAny (model prog w) A (richCompare .NotEq (.ref x) b) Q E s := by
  have one : wpAny (model prog w) A (tryCompare (.ref x) "__ne__" b) (fun r s' => ∃ v, r = some v ∧ Q v s') E s := by
    refine neTry hu X I hn ho hs hf (wpAny_mono h (fun v s' y => ?_) fun _ _ e => e)
    obtain ⟨r, rfl, q⟩ := y
    exact ⟨r, rfl, _, rfl, q⟩
  unfold richCompare
  simp only [oneThing_ref]
  refine wpAny_holding (wpAny_bind (wpAny_cRoomFor (Nat.lt_of_succ_lt hu) ?_))
  rw [cmpInfo_NotEq]
  dsimp only
  refine wpAny_bind (I.type.here (wpAny_bind (hb.here ?_)))
  split
  · rename_i z
    have e : subIn K tb (.ref C) = some false := by
      rcases Bool.or_eq_true_iff.mp hnf with e | e
      · rw [beq_iff_eq.mp e] at z; simp at z
      · exact beq_iff_eq.mp e
    refine wpAny_bind ((looks_subIn X e).here ?_)
    simp only [Bool.false_eq_true, if_false]
    refine wpAny_bind (wpAny_mono one (fun r s' y => ?_) fun _ _ e => e)
    obtain ⟨v, rfl, q⟩ := y
    exact wpAny_pure q
  · refine wpAny_bind (wpAny_pure ?_)
    simp only [Bool.false_eq_true, if_false]
    refine wpAny_bind (wpAny_mono one (fun r s' y => ?_) fun _ _ e => e)
    obtain ⟨v, rfl, q⟩ := y
    exact wpAny_pure q
end
end OwnQ
end PySem
namespace Own
open PySem PySem.Spec PyProof.Rows L2
section
variable {X : Cx} {CX : CXT} {k : Nat} {C f : Addr} {fd : FuncData} {ps : List Str} {sp : Sp} {E : XK}
/-- what == and != by an own __eq__ ask of the written part -/
structure EqOwn (K : PySem.W.Frag) (C f : Addr) : Prop where
  eq : PySem.W.findIn K (.ref C) "__eq__" = some (some (.ref f))
  fn : PySem.W.isFn K (.ref f) = true
  ne : PySem.W.findIn K (.ref C) "__ne__" = some (some (.builtin "object.__ne__"))
  ob : PySem.W.mroIn K C (.type "object") = some true
def rEqO (K : PySem.W.Frag) (C : Addr) (sp : Sp) (E : XK) (flip : Bool) : R2 := fun x y H Q => ∃ (a dx : Addr) (fs : List (Str × V)) (t : Value), x = .ref a ∧ H a = some (.ins C dx fs) ∧ TyX K H y t ∧ PySem.W.notFirst K C t = true ∧
  sp [x, y] H (fun v H' => ∃ b : Bool, v = .bl b ∧ Q (.bl (xor flip b)) H') E
theorem looks_ty {pins : List (Addr × Obj)} {σ : L2.St} {H : Hp} {s : Shared} {y : V} {u t : Value} {M : Model} (I : Inv X pins σ H s) (r : RelV y u) (h : TyX X.K H y t) : PySem.W.Looks M s.heap (typeOf u) t := by
  obtain ⟨P, Z, p, _⟩ := kit_of I r h
  exact Z.ty M s.heap I.kIn p
theorem op_eqO (T : EqOwn X.K C f) (F : FnOk X.prog X.w X.K X.mg X.base CX k f fd ps sp) (hr : Room k X.A) (hb : Binds X.K fd ps []) (hx : Passes CX X E) : OpR X (compareOp .Eq) (rEqO X.K C sp E false) := by
  intro pins s σ H x y v u Q I rx ry h
  obtain ⟨a, dx, fs, t, rfl, ha, ht, hn, q⟩ := h
  cases rx
  obtain ⟨mA, J, _⟩ := ins_get I.hok ha
  obtain ⟨od, J, _⟩ := J.look
  obtain ⟨m, hF⟩ := I.fr
  show wpAny _ _ (richCompare .Eq (.ref a) u) _ _ _
  refine PySem.W.cmp_K (op := .Eq) hr.units0 hF I.ok.mod.kin J (looks_ty I ry ht) hn T.eq T.fn ?_
  have r2 : Vals [V.ref a, y] [Value.ref a, u] := .cons rfl (.cons ry .nil)
  refine wpAny_mono (run_fn (us := [.ref a, u]) F hr hb (dvs := []) .nil hx I r2 q) (fun w s' z => ?_) fun _ _ z => z
  obtain ⟨v', H', I', rv, b, ev, q'⟩ := z
  subst ev
  obtain rfl : w = Value.bool b := rv
  have e : xor false b = b := by cases b <;> rfl
  rw [e] at q'
  exact ⟨.bl b, H', I', rfl, q'⟩
theorem op_neO (T : EqOwn X.K C f) (F : FnOk X.prog X.w X.K X.mg X.base CX k f fd ps sp) (hr : Room (k + 1) X.A) (hb : Binds X.K fd ps []) (hx : Passes CX X E) : OpR X (compareOp .NotEq) (rEqO X.K C sp E true) := by
  intro pins s σ H x y v u Q I rx ry h
  obtain ⟨a, dx, fs, t, rfl, ha, ht, hn, q⟩ := h
  cases rx
  obtain ⟨mA, J, _⟩ := ins_get I.hok ha
  obtain ⟨od, J, _⟩ := J.look
  show wpAny _ _ (richCompare .NotEq (.ref a) u) _ _ _
  refine PySem.OwnQ.neK (hu_of hr) I.kIn J (looks_ty I ry ht) hn T.ne T.ob T.eq T.fn ?_
  have r2 : Vals [V.ref a, y] [Value.ref a, u] := .cons rfl (.cons ry .nil)
  have hl : ([Value.ref a, u] : List Value).length = ps.length := (Paired.length r2).symm.trans (F.len _ _ _ _ q)
  have b0 := hb s [.ref a, u] I.kIn (by simpa using hl)
  rw [List.append_nil] at b0
  refine wpAny_call (codeAny_mono (F.run X.A.in1 X.stack s H ⟨[.ref a, u], []⟩ [.ref a, u] [.ref a, y] _ E hr.in1 I.env0.in1 b0 r2 q) fun r s' z => ?_)
  cases r with
  | error e => exact hx pins σ H s e s' I z
  | ok fl =>
    cases fl with
    | ret w =>
      obtain ⟨v', H', I', rv, b, ev, q'⟩ := I.after z
      subst ev
      obtain rfl : w = Value.bool b := rv
      have e : xor true b = !b := by cases b <;> rfl
      rw [e] at q'
      exact ⟨b, rfl, .bl (!b), H', I', rfl, q'⟩
    | next => exact z.elim
    | brk => exact z.elim
    | cont => exact z.elim
end
end Own
namespace Own
open PySem PySem.Spec PyProof.Rows L2
/-- what isinstance asks of an own class -/
structure InsK (K : PySem.W.Frag) (C : Addr) : Prop where
  ha : PySem.W.findIn K (.ref C) "__class__" = some (some (.builtin "object.__class__"))
  hn : PySem.W.specialIn K (.builtin "object.__class__") "__get__" = some (some (.builtin "getset_descriptor.__get__"))
  ht : PySem.W.takesIn K (.builtin "object.__class__") = some true
  hm : PySem.W.mroIn K C (.type "object") = some true
theorem tyx_ins {K : PySem.W.Frag} {H : Hp} {a C dx : Addr} {fs : List (Str × V)} (e : H a = some (.ins C dx fs)) (cl : Cls K C) (i : InsK K C) : TyX K H (.ref a) (.ref C) := .base (.ins e cl i.ha i.hn i.ht i.hm)
end Own

/-! Own rules and mathematics: floor division by any divisor but nought; fractions in lowest terms. -/
namespace Own
open PySem PySem.Spec PyProof.Rows L2
/-- // by a divisor that isn't nought, below 2 ^ 9000 in size -/
def DivOk (_ j : Int) : Prop := j ≠ 0 ∧ j.natAbs.log2 < 9000
section
variable {X : Cx}
theorem op_fdivX : OpR X (binaryOp .FloorDiv) (rI DivOk fun i j => .int (i.fdiv j)) := opI fun i j _ _ _ _ _ hc q => floordiv_int hc.1 q (.inl (PyProof.noPylong_of_log2 hc.2))
end
theorem div_ok {i j : Int} {b : Nat} (h : j ≠ 0) (hb : j.natAbs < 2 ^ b) (h0 : 0 < b) (h9 : b ≤ 9000) : DivOk i j := ⟨h, Nat.lt_of_lt_of_le (PySem.Flt.log2_lt_of h0 hb) h9⟩
/-! ### lowest terms -/
/-- what both are divided by -/
def cg (a b : Int) : Int := if b < 0 then -((Nat.gcd a.natAbs b.natAbs : Nat) : Int) else ((Nat.gcd a.natAbs b.natAbs : Nat) : Int)
def low (a b : Int) : Int × Int := (a.fdiv (cg a b), b.fdiv (cg a b))
/-- in lowest terms, the lower one above 0 -/
def Red (p : Int × Int) : Prop := 0 < p.2 ∧ Nat.gcd p.1.natAbs p.2.natAbs = 1
theorem gcd_pos {a b : Int} (h : b ≠ 0) : 0 < Nat.gcd a.natAbs b.natAbs := Nat.gcd_pos_of_pos_right _ (by omega)
theorem cg_ne {a b : Int} (h : b ≠ 0) : cg a b ≠ 0 := by
  have := gcd_pos (a := a) h
  unfold cg
  split <;> omega
theorem cg_abs (a b : Int) : (cg a b).natAbs = Nat.gcd a.natAbs b.natAbs := by
  unfold cg
  split <;> omega
theorem cg_le {a b : Int} (h : b ≠ 0) : (cg a b).natAbs ≤ b.natAbs := by
  rw [cg_abs]
  exact Nat.le_of_dvd (by omega) (Nat.gcd_dvd_right _ _)
theorem cg_dvd (a b : Int) : cg a b ∣ a ∧ cg a b ∣ b := by
  constructor
  · rw [← Int.natAbs_dvd_natAbs, cg_abs]
    exact Nat.gcd_dvd_left _ _
  · rw [← Int.natAbs_dvd_natAbs, cg_abs]
    exact Nat.gcd_dvd_right _ _
theorem low_eqs (a b : Int) : (low a b).1 * cg a b = a ∧ (low a b).2 * cg a b = b := ⟨Int.fdiv_mul_cancel (cg_dvd a b).1, Int.fdiv_mul_cancel (cg_dvd a b).2⟩
theorem low_red {a b : Int} (h : b ≠ 0) : Red (low a b) := by
  obtain ⟨e1, e2⟩ := low_eqs a b
  have hc := cg_ne (a := a) h
  have n1 : (low a b).1.natAbs * Nat.gcd a.natAbs b.natAbs = a.natAbs := by
    rw [← cg_abs, ← Int.natAbs_mul, e1]
  have n2 : (low a b).2.natAbs * Nat.gcd a.natAbs b.natAbs = b.natAbs := by
    rw [← cg_abs, ← Int.natAbs_mul, e2]
  have g0 := gcd_pos (a := a) h
  refine ⟨?_, ?_⟩
  · generalize hx : (low a b).2 = x at e2
    unfold cg at e2
    generalize hg : ((Nat.gcd a.natAbs b.natAbs : Nat) : Int) = g at e2
    have gp : 0 < g := by omega
    split at e2
    · rename_i hb
      rcases Int.lt_trichotomy 0 x with z | z | z
      · exact z
      · rw [← z, Int.zero_mul] at e2
        omega
      · have : 0 < x * -g := Int.mul_pos_of_neg_of_neg z (by omega)
        omega
    · rename_i hb
      rcases Int.lt_trichotomy 0 x with z | z | z
      · exact z
      · rw [← z, Int.zero_mul] at e2
        omega
      · have : x * g < 0 := Int.mul_neg_of_neg_of_pos z gp
        omega
  · have d1 : (low a b).1.natAbs = a.natAbs / Nat.gcd a.natAbs b.natAbs := (Nat.div_eq_of_eq_mul_left g0 n1.symm).symm
    have d2 : (low a b).2.natAbs = b.natAbs / Nat.gcd a.natAbs b.natAbs := (Nat.div_eq_of_eq_mul_left g0 n2.symm).symm
    rw [d1, d2]
    exact Nat.coprime_div_gcd_div_gcd g0
theorem abs_le_mul {x c a : Int} (hc : c ≠ 0) (e : x * c = a) : x.natAbs ≤ a.natAbs := by
  rw [← e, Int.natAbs_mul]
  exact Nat.le_mul_of_pos_right _ (by omega)
theorem low_le {a b : Int} (h : b ≠ 0) : (low a b).1.natAbs ≤ a.natAbs ∧ (low a b).2.natAbs ≤ b.natAbs :=
  ⟨abs_le_mul (cg_ne h) (low_eqs a b).1, abs_le_mul (cg_ne h) (low_eqs a b).2⟩
/-- lowest terms are one -/
theorem red_one {p q : Int × Int} (hp : Red p) (hq : Red q) (e : p.1 * q.2 = q.1 * p.2) : p = q := by
  obtain ⟨p1, p2⟩ := p
  obtain ⟨q1, q2⟩ := q
  obtain ⟨hp0, hpg⟩ := hp
  obtain ⟨hq0, hqg⟩ := hq
  dsimp only at hp0 hpg hq0 hqg e
  have en : p1.natAbs * q2.natAbs = q1.natAbs * p2.natAbs := by rw [← Int.natAbs_mul, ← Int.natAbs_mul, e]
  have c1 : Nat.Coprime p2.natAbs p1.natAbs := by
    unfold Nat.Coprime
    rw [Nat.gcd_comm]
    exact hpg
  have c2 : Nat.Coprime q2.natAbs q1.natAbs := by
    unfold Nat.Coprime
    rw [Nat.gcd_comm]
    exact hqg
  have d1 : p2.natAbs ∣ q2.natAbs := c1.dvd_of_dvd_mul_left (by rw [en]; exact Nat.dvd_mul_left _ _)
  have d2 : q2.natAbs ∣ p2.natAbs := c2.dvd_of_dvd_mul_left (by rw [← en]; exact Nat.dvd_mul_left _ _)
  have ed := Nat.dvd_antisymm d1 d2
  have e2 : p2 = q2 := by omega
  subst e2
  have e1 : p1 = q1 := Int.eq_of_mul_eq_mul_right (by omega) e
  rw [e1]
theorem low_cross {a b c d : Int} (hb : b ≠ 0) (hd : d ≠ 0) (e : a * d = c * b) : low a b = low c d := by
  refine red_one (low_red hb) (low_red hd) ?_
  obtain ⟨a1, b1⟩ := low_eqs a b
  obtain ⟨c1, d1⟩ := low_eqs c d
  have k1 := cg_ne (a := a) hb
  have k2 := cg_ne (a := c) hd
  generalize cg a b = k at a1 b1 k1
  generalize cg c d = m at c1 d1 k2
  generalize (low a b).1 = x at a1 ⊢
  generalize (low a b).2 = y at b1 ⊢
  generalize (low c d).1 = u at c1 ⊢
  generalize (low c d).2 = v at d1 ⊢
  subst a1 b1 c1 d1
  have e' : (x * v) * (k * m) = (u * y) * (k * m) := by
    have l : x * k * (v * m) = (x * v) * (k * m) := by ac_rfl
    have r : u * m * (y * k) = (u * y) * (k * m) := by ac_rfl
    rw [← l, ← r, e]
  exact Int.eq_of_mul_eq_mul_right (Int.mul_ne_zero k1 k2) e'
theorem low_of_red {p : Int × Int} (h : Red p) : low p.1 p.2 = p := by
  refine red_one (low_red (by have := h.1; omega)) h ?_
  obtain ⟨e1, e2⟩ := low_eqs p.1 p.2
  have k := cg_ne (a := p.1) (b := p.2) (by have := h.1; omega)
  generalize hx : low p.1 p.2 = q at e1 e2
  generalize cg p.1 p.2 = c at e1 e2 k
  refine Int.eq_of_mul_eq_mul_right k ?_
  have l : q.1 * p.2 * c = (q.1 * c) * p.2 := by ac_rfl
  have r : p.1 * q.2 * c = (q.2 * c) * p.1 := by ac_rfl
  rw [l, r, e1, e2, Int.mul_comm]
theorem low_scale {a b k : Int} (hb : b ≠ 0) (hk : k ≠ 0) : low (a * k) (b * k) = low a b :=
  low_cross (Int.mul_ne_zero hb hk) hb (by ac_rfl)
/-! ### sums -/
def addL (p q : Int × Int) : Int × Int := low (p.1 * q.2 + q.1 * p.2) (p.2 * q.2)
theorem addL_red {p q : Int × Int} (hp : 0 < p.2) (hq : 0 < q.2) : Red (addL p q) := low_red (by have := Int.mul_pos hp hq; omega)
theorem addL_swap {p q r : Int × Int} (hp : 0 < p.2) (hq : 0 < q.2) (hr : 0 < r.2) : addL (addL p q) r = addL (addL p r) q := by
  have key : ∀ {x y : Int × Int}, 0 < x.2 → 0 < y.2 → addL (addL p x) y = low (p.1 * x.2 * y.2 + x.1 * p.2 * y.2 + y.1 * (p.2 * x.2)) (p.2 * x.2 * y.2) := by
    intro x y hx hy
    have hpx : p.2 * x.2 ≠ 0 := by have := Int.mul_pos hp hx; omega
    have hb : (addL p x).2 * y.2 ≠ 0 := by have := Int.mul_pos (addL_red hp hx).1 hy; omega
    obtain ⟨e1, e2⟩ := low_eqs (p.1 * x.2 + x.1 * p.2) (p.2 * x.2)
    have k := cg_ne (a := p.1 * x.2 + x.1 * p.2) hpx
    show low ((addL p x).1 * y.2 + y.1 * (addL p x).2) ((addL p x).2 * y.2) = _
    unfold addL at hb ⊢
    generalize hl : low (p.1 * x.2 + x.1 * p.2) (p.2 * x.2) = t at e1 e2 hb
    generalize cg (p.1 * x.2 + x.1 * p.2) (p.2 * x.2) = c at e1 e2 k
    rw [← low_scale hb k]
    have f1 : (t.1 * y.2 + y.1 * t.2) * c = p.1 * x.2 * y.2 + x.1 * p.2 * y.2 + y.1 * (p.2 * x.2) := by
      rw [Int.add_mul]
      have g1 : t.1 * y.2 * c = (t.1 * c) * y.2 := by ac_rfl
      have g2 : y.1 * t.2 * c = y.1 * (t.2 * c) := by ac_rfl
      rw [g1, g2, e1, e2, Int.add_mul]
    have f2 : t.2 * y.2 * c = p.2 * x.2 * y.2 := by
      have g1 : t.2 * y.2 * c = (t.2 * c) * y.2 := by ac_rfl
      rw [g1, e2]
    rw [f1, f2]
  rw [key hq hr, key hr hq]
  have f1 : p.1 * q.2 * r.2 + q.1 * p.2 * r.2 + r.1 * (p.2 * q.2) = p.1 * r.2 * q.2 + r.1 * p.2 * q.2 + q.1 * (p.2 * r.2) := by
    have a1 : p.1 * q.2 * r.2 = p.1 * r.2 * q.2 := by ac_rfl
    have a2 : q.1 * p.2 * r.2 = q.1 * (p.2 * r.2) := by ac_rfl
    have a3 : r.1 * (p.2 * q.2) = r.1 * p.2 * q.2 := by ac_rfl
    rw [a1, a2, a3]
    ac_rfl
  have f2 : p.2 * q.2 * r.2 = p.2 * r.2 * q.2 := by ac_rfl
  rw [f1, f2]
def sumL (l : List (Int × Int)) (e : Int × Int) : Int × Int := l.foldl addL e
theorem sumL_pos : ∀ (l : List (Int × Int)) (e : Int × Int), 0 < e.2 → (∀ p ∈ l, 0 < p.2) → 0 < (sumL l e).2
  | [], _, h, _ => h
  | p :: l, e, h, hl => sumL_pos l (addL e p) (addL_red h (hl p List.mem_cons_self)).1 fun q hq => hl q (List.mem_cons_of_mem _ hq)
theorem sumL_front : ∀ (l : List (Int × Int)) (e p : Int × Int), 0 < e.2 → 0 < p.2 → (∀ q ∈ l, 0 < q.2) → sumL l (addL e p) = addL (sumL l e) p
  | [], _, _, _, _, _ => rfl
  | q :: l, e, p, he, hp, hl => by
    have hq := hl q List.mem_cons_self
    show sumL l (addL (addL e p) q) = addL (sumL l (addL e q)) p
    rw [addL_swap he hp hq, sumL_front l (addL e q) p (addL_red he hq).1 hp fun x hx => hl x (List.mem_cons_of_mem _ hx)]
theorem sumL_rev : ∀ (l : List (Int × Int)) (e : Int × Int), 0 < e.2 → (∀ q ∈ l, 0 < q.2) → sumL l.reverse e = sumL l e
  | [], _, _, _ => rfl
  | p :: l, e, he, hl => by
    have hp := hl p List.mem_cons_self
    have hl' : ∀ q ∈ l, 0 < q.2 := fun q hq => hl q (List.mem_cons_of_mem _ hq)
    rw [List.reverse_cons]
    show List.foldl addL e (l.reverse ++ [p]) = sumL l (addL e p)
    rw [List.foldl_append]
    show addL (sumL l.reverse e) p = _
    rw [sumL_rev l e he hl', sumL_front l e p he hp hl']
/-! ### sizes -/
def Bd (n : Nat) (p : Int × Int) : Prop := p.1.natAbs < 2 ^ n ∧ p.2.natAbs < 2 ^ n
theorem Bd.mono {n m : Nat} {p : Int × Int} (h : Bd n p) (k : n ≤ m) : Bd m p := ⟨Nat.lt_of_lt_of_le h.1 (Nat.pow_le_pow_right (by decide) k), Nat.lt_of_lt_of_le h.2 (Nat.pow_le_pow_right (by decide) k)⟩
theorem bd_low {n : Nat} {a b : Int} (h : b ≠ 0) (ha : a.natAbs < 2 ^ n) (hb : b.natAbs < 2 ^ n) : Bd n (low a b) := ⟨Nat.lt_of_le_of_lt (low_le h).1 ha, Nat.lt_of_le_of_lt (low_le h).2 hb⟩
theorem mul_lt {i j : Int} {a b : Nat} (ha : i.natAbs < 2 ^ a) (hb : j.natAbs < 2 ^ b) : (i * j).natAbs < 2 ^ (a + b) := wide_lt ha hb
theorem add_lt {i j : Int} {a : Nat} (ha : i.natAbs < 2 ^ a) (hb : j.natAbs < 2 ^ a) : (i + j).natAbs < 2 ^ (a + 1) ∧ (i - j).natAbs < 2 ^ (a + 1) := by
  rw [Nat.pow_succ]
  omega
theorem bd_add {n m : Nat} {p q : Int × Int} (hp : Bd n p) (hq : Bd m q) (h1 : 0 < p.2) (h2 : 0 < q.2) : Bd (n + m + 1) (addL p q) := by
  refine bd_low (by have := Int.mul_pos h1 h2; omega) ?_ ?_
  · exact (add_lt (mul_lt hp.1 hq.2) (by rw [Nat.add_comm]; exact mul_lt hq.1 hp.2)).1
  · exact Nat.lt_of_lt_of_le (mul_lt hp.2 hq.2) (Nat.pow_le_pow_right (by decide) (by omega))
/-- Euclid's rest -/
theorem gcd_step {a b : Nat} : Nat.gcd b (a % b) = Nat.gcd a b := by
  rw [Nat.gcd_comm b (a % b), ← Nat.gcd_rec, Nat.gcd_comm]
end Own

/-! Own rules: repr and str of an instance with own __repr__, __str__; a text times 0 or 1; isinstance of a caught own exception that has fields. -/
namespace Own
open PySem PySem.Spec PyProof.Rows L2
section
variable {X : Cx} {CX : CXT} {k : Nat} {C f : Addr} {fd : FuncData} {ps : List Str} {sp : Sp} {E : XK}
/-- what repr or str by an own def asks of the written part -/
structure TxtOwn (K : PySem.W.Frag) (C f : Addr) (nm : Str) : Prop where
  fd : PySem.W.findIn K (.ref C) nm = some (some (.ref f))
  fn : PySem.W.isFn K (.ref f) = true
def rTxO (C : Addr) (sp : Sp) (E : XK) : List V → Hp → VK → Prop := fun xs H Q => ∃ (a dx : Addr) (fs : List (Str × V)), xs = [.ref a] ∧ H a = some (.ins C dx fs) ∧
  sp [.ref a] H (fun v H' => ∃ y : Str, v = .str y ∧ Q (.str y) H') E
theorem call_reprO (T : TxtOwn X.K C f "__repr__") (F : FnOk X.prog X.w X.K X.mg X.base CX k f fd ps sp) (hr : Room (k + 1) X.A) (hb : Binds X.K fd ps []) (hx : Passes CX X E) : CallR X (.builtin "repr") (rTxO C sp E) := by
  intro pins s σ H xs us Q I r h
  obtain ⟨a, dx, fs, rfl, ha, q⟩ := h
  obtain ⟨mA, J, _⟩ := ins_get I.hok ha
  obtain ⟨od, J, _⟩ := J.look
  obtain ⟨m, hF⟩ := I.fr
  obtain ⟨u, rfl, ru⟩ := vals1 r
  cases ru
  have r2 : Vals [V.ref a] [Value.ref a] := .cons rfl .nil
  refine PySem.W.repr_K hr.in1.units0 hF I.ok.mod.kin J T.fd T.fn ?_
  have hl : ([Value.ref a] : List Value).length = ps.length := (Paired.length r2).symm.trans (F.len _ _ _ _ q)
  have b0 := hb s [.ref a] I.kIn (by simpa using hl)
  rw [List.append_nil] at b0
  refine wpAny_call (codeAny_mono (F.run X.A.in1 X.stack s H ⟨[.ref a], []⟩ [.ref a] [.ref a] _ E hr.in1 I.env0.in1 b0 r2 q) fun r s' z => ?_)
  cases r with
  | error e => exact hx pins σ H s e s' I z
  | ok fl =>
    cases fl with
    | ret w =>
      obtain ⟨v', H', I', rv, y, ev, q'⟩ := I.after z
      subst ev
      obtain ⟨t, rfl⟩ := rv
      exact ⟨.str y, H', I', ⟨t, rfl⟩, q'⟩
    | next => exact z.elim
    | brk => exact z.elim
    | cont => exact z.elim
theorem call_strO (T : TxtOwn X.K C f "__str__") (F : FnOk X.prog X.w X.K X.mg X.base CX k f fd ps sp) (hr : Room (k + 2) X.A) (hb : Binds X.K fd ps []) (hx : Passes CX X E) : CallR X (.type "str") (rTxO C sp E) := by
  intro pins s σ H xs us Q I r h
  obtain ⟨a, dx, fs, rfl, ha, q⟩ := h
  obtain ⟨mA, J, _⟩ := ins_get I.hok ha
  obtain ⟨od, J, _⟩ := J.look
  obtain ⟨u, rfl, ru⟩ := vals1 r
  cases ru
  have r2 : Vals [V.ref a] [Value.ref a] := .cons rfl .nil
  refine PySem.W.kso_call hr.in1.in1.units0 I.kIn J T.fd T.fn ?_
  have hl : ([Value.ref a] : List Value).length = ps.length := (Paired.length r2).symm.trans (F.len _ _ _ _ q)
  have b0 := hb s [.ref a] I.kIn (by simpa using hl)
  rw [List.append_nil] at b0
  refine wpAny_call (codeAny_mono (F.run X.A.in1.in1 X.stack s H ⟨[.ref a], []⟩ [.ref a] [.ref a] _ E hr.in1.in1 I.env0.in1.in1 b0 r2 q) fun r s' z => ?_)
  cases r with
  | error e => exact hx pins σ H s e s' I z
  | ok fl =>
    cases fl with
    | ret w =>
      obtain ⟨v', H', I', rv, y, ev, q'⟩ := I.after z
      subst ev
      obtain ⟨t, rfl⟩ := rv
      exact ⟨.str y, H', I', ⟨t, rfl⟩, q'⟩
    | next => exact z.elim
    | brk => exact z.elim
    | cont => exact z.elim
/-- a text times int(a truth) -/
theorem op_mul01 : OpR X (binaryOp .Mult) (fun x y H Q => ∃ (z : Str) (n : Int), x = .str z ∧ y = .int n ∧ (n = 0 ∨ n = 1) ∧ Q (.str (if n = 1 then z else Str.empty)) H) := by
  intro pins s σ H x y v u Q I rx ry h
  obtain ⟨z, n, rfl, rfl, hn, q⟩ := h
  obtain ⟨t, rfl⟩ := rx
  obtain ⟨t', rfl⟩ := ry
  rcases hn with rfl | rfl
  · exact PySem.P.mul_str_none (by decide) (by decide) ⟨.str Str.empty, H, I.tok _, ⟨_, rfl⟩, q⟩
  · exact PySem.P.mul_str (by decide) (fun _ h => by simp at h) (fun _ h => by simp at h) (by rw [if_neg (by decide), if_pos (by rfl)]; exact ⟨.str z, H, I, ⟨_, rfl⟩, q⟩)
end
/-- isinstance(e, c), e the caught exception, of the class D, with the dict d -/
def rIsX (K : PySem.W.Frag) (D a : Addr) (cls : Value) (d : Option Addr) : List V → Hp → VK → Prop := fun xs H Q => ∃ (c : V) (cv : Value) (b : Bool) (dd : Addr) (fs : List (Str × V)), xs = [.ref a, c] ∧ (∀ u, RelV c u → u = cv) ∧ cls = .ref D ∧ d = some dd ∧ H dd = some (.xd fs) ∧
  PySem.W.kitOne K (.ref D) cv = some b ∧ Q (.bl b) H
theorem suite_inst {X : Cx} {a D dd : Addr} {oe : Obj} {cls : Value} {d : Option Addr} {pn pins : List (Addr × Obj)} {σ : L2.St} {H : Hp} {s : Shared} {fs : List (Str × V)} (hz : Zc cls d oe) (hf : ∃ vs, oe.data = .fields vs) (I : Inv (X.suite a ((a, oe) :: pn)) pins σ H s)
    (ec : cls = .ref D) (ed : d = some dd) (ea : H dd = some (.xd fs)) : ∃ od, PySem.W.InstAt s.heap a oe D (some od) := by
  subst ec
  subst ed
  obtain ⟨hget, _⟩ := I.pin (a, oe) (List.mem_append_left _ List.mem_cons_self)
  obtain ⟨vs, hv⟩ := hf
  have hx : ObjOk X.prog X.w H s.heap dd (.xd fs) := I.hok dd _ ea
  obtain ⟨mA, hns, hr⟩ := hx
  obtain ⟨od, ho, hl⟩ := lookIn_ns hns
  exact ⟨od, hget, hz.1, by unfold PySem.W.notCls; rw [hv] <;> rfl, by rw [hz.2]; exact ho⟩
theorem excC_cls {K : PySem.W.Frag} {D : Addr} (C : ExcC K D) : (PySem.W.clsIn K D).isSome = true := by
  obtain ⟨cd, hc, _⟩ := PySem.W.any_some C.hd
  rw [hc]
  rfl
theorem call_isX {X : Cx} {a D : Addr} {oe : Obj} {cls : Value} {d : Option Addr} {pn : List (Addr × Obj)} (C : ExcC X.K D) (hz : Zc cls d oe) (hf : ∃ vs, oe.data = .fields vs) : CallR (X.suite a ((a, oe) :: pn)) (.builtin "isinstance") (rIsX X.K D a cls d) := by
  intro pins s σ H xs us Q I r h
  obtain ⟨c, cv, b, dd, fs, rfl, hcv, ec, ed, ea, e, q⟩ := h
  obtain ⟨u1, u2, rfl, rx, rt⟩ := vals2 r
  cases rx
  have e2 := hcv _ rt
  subst e2
  obtain ⟨od, J⟩ := suite_inst hz hf I ec ed ea
  exact PySem.W.kia_one (PySem.W.kitx_exc (excC_cls C) C.hg C.hk C.hs C.ha C.hn C.ht C.hm) I.kIn J e (fun z => nomatch z) fun tk => ⟨.bl b, H, I.kept (t' := tk) fun _ _ z => z, rfl, q⟩
/-- isinstance(e, (c1, c2, ..)), the tuple just laid -/
def rIsXT (K : PySem.W.Frag) (D a : Addr) (cls : Value) (d : Option Addr) : List V → Hp → VK → Prop := fun xs H Q => ∃ (tp : Addr) (cs : List V) (us : List Value) (b : Bool) (dd : Addr) (fs : List (Str × V)), xs = [.ref a, .ref tp] ∧ H tp = some (.tup cs) ∧ Paired ClsV cs us ∧ cls = .ref D ∧ d = some dd ∧ H dd = some (.xd fs) ∧
  PySem.W.kitAny K (.ref D) us = some b ∧ Q (.bl b) H
theorem call_isXT {X : Cx} {a D : Addr} {oe : Obj} {cls : Value} {d : Option Addr} {pn : List (Addr × Obj)} (C : ExcC X.K D) (hz : Zc cls d oe) (hf : ∃ vs, oe.data = .fields vs) : CallR (X.suite a ((a, oe) :: pn)) (.builtin "isinstance") (rIsXT X.K D a cls d) := by
  intro pins s σ H xs us Q I r h
  obtain ⟨tp, cs, ws, b, dd, fs, rfl, hT, k, ec, ed, ea, e, q⟩ := h
  obtain ⟨u1, u2, rfl, rx, rt⟩ := vals2 r
  cases rx
  cases (show u2 = Value.ref tp from rt)
  obtain ⟨od, J⟩ := suite_inst hz hf I ec ed ea
  have ht : ObjOk X.prog X.w H s.heap tp (.tup cs) := I.hok tp _ hT
  obtain ⟨_, its, rv, o, h1, h2, n, h3⟩ := ht
  have e3 := ClsV.all k rv
  subst e3
  obtain ⟨oc, odd, dt, sl⟩ := o
  dsimp only at h2 h3
  subst h2 h3
  exact PySem.W.kia_tup (PySem.W.kitx_exc (excC_cls C) C.hg C.hk C.hs C.ha C.hn C.ht C.hm) I.kIn J h1 e (fun z => nomatch z) fun tk => ⟨.bl b, H, I.kept (t' := tk) fun _ _ z => z, rfl, q⟩
end Own

/-! Law k08 over the landed sums: by hand, over the layer. -/
namespace Own
open PySem PySem.Spec PyProof.Rows L2
/-! ### the text -/
/-- the k-th block of a statement -/
def blkOf (s : Stmt) (k : Nat) : List Stmt := match s with
  | .If _ a b _ => if k = 0 then a else b
  | .For _ _ a _ _ => a
  | .While _ a _ _ => a
  | .Try a hs _ _ _ => match k, hs with
    | 0, _ => a
    | j + 1, hs => match hs[j]? with
      | some (.ExceptHandler _ _ b _) => b
      | none => []
  | _ => []
abbrev noE : Expr := .Constant .none 0 ⟨0, 0, 0, 0⟩
/-- a statement's own expression; the k-th part of an expression -/
def rootE (s : Stmt) : Expr := match s with
  | .Assign _ v _ => v
  | .Return (some v) _ => v
  | .Expr v _ => v
  | .AugAssign _ _ v _ => v
  | .If t _ _ _ => t
  | .While t _ _ _ => t
  | .For _ i _ _ _ => i
  | _ => noE
def subE (e : Expr) (k : Nat) : Expr := match e with
  | .BinOp a _ b _ => if k = 0 then a else b
  | .BoolOp _ vs _ => vs.getD k noE
  | .UnaryOp _ a _ => a
  | .Compare a _ cs _ => (a :: cs).getD k noE
  | .Call f as kws _ => (f :: (as ++ kws.map (·.value))).getD k noE
  | .Attribute a _ _ => a
  | .Subscript a b _ => if k = 0 then a else b
  | .Tuple es _ _ => es.getD k noE
  | .List es _ => es.getD k noE
  | .IfExp c a b _ => [c, a, b].getD k noE
  | .Slice a b c _ => ([a, b, c].getD k none).getD noE
  | .ListComp a gs _ _ => match gs with
    | g :: _ => ([a, g.iter, g.target] ++ g.ifs).getD k noE
    | [] => noE
  | _ => noE
def lcScope (e : Expr) : Scope := match e with
  | .ListComp _ _ sc _ => sc
  | _ => { kind := .function, names := [], isGenerator := false, isCoroutine := false }
def lcIfs (e : Expr) : List Expr := match e with
  | .ListComp _ (g :: _) _ _ => g.ifs
  | _ => []
def topS (i : Nat) : Stmt := PySem.Challenge.pw_voicefold_k08_sums_refused.main.body.getD i (.Pass ⟨0, 0, 0, 0⟩)
abbrev s_PollError_init : Stmt := inClass (topS 2) 0
theorem sc_PollError_init : FnScope ["self", "why"] ["self", "why"] (defScope s_PollError_init) := ⟨rfl, rfl, rfl, by decide +kernel, rfl, by decide +kernel, by decide +kernel⟩
abbrev s_NoShare_init : Stmt := inClass (topS 10) 0
theorem sc_NoShare_init : FnScope ["self", "num", "over"] ["self", "num", "over"] (defScope s_NoShare_init) := ⟨rfl, rfl, rfl, by decide +kernel, rfl, by decide +kernel, by decide +kernel⟩
abbrev s_Share_init : Stmt := inClass (topS 12) 0
theorem sc_Share_init : FnScope ["self", "num", "over", "common"] ["self", "num", "over"] (defScope s_Share_init) := ⟨rfl, rfl, rfl, by decide +kernel, rfl, by decide +kernel, by decide +kernel⟩
abbrev s_is_tuple_of : Stmt := topS 20
theorem sc_is_tuple_of : FnScope ["thing", "many"] ["thing", "many"] (defScope s_is_tuple_of) := ⟨rfl, rfl, rfl, by decide +kernel, rfl, by decide +kernel, by decide +kernel⟩
abbrev s_is_row : Stmt := topS 26
theorem sc_is_row : FnScope ["thing", "share"] ["thing"] (defScope s_is_row) := ⟨rfl, rfl, rfl, by decide +kernel, rfl, by decide +kernel, by decide +kernel⟩
abbrev s_are_sums : Stmt := topS 25
theorem sc_are_sums : FnScope ["thing", "row"] ["thing"] (defScope s_are_sums) := ⟨rfl, rfl, rfl, by decide +kernel, rfl, by decide +kernel, by decide +kernel⟩
abbrev s_check_sums : Stmt := topS 24
theorem sc_check_sums : FnScope ["sums"] ["sums"] (defScope s_check_sums) := ⟨rfl, rfl, rfl, by decide +kernel, rfl, by decide +kernel, by decide +kernel⟩
abbrev s_met_by : Stmt := topS 29
theorem sc_met_by : FnScope ["sums", "many", "parts", "table"] ["sums", "many"] (defScope s_met_by) := ⟨rfl, rfl, rfl, by decide +kernel, rfl, by decide +kernel, by decide +kernel⟩
abbrev s_unmet : Stmt := topS 30
theorem sc_unmet : FnScope ["sums", "many", "parts", "table", "at", "taken", "unknown", "number", "place", "row"] ["sums", "many"] (defScope s_unmet) := ⟨rfl, rfl, rfl, by decide +kernel, rfl, by decide +kernel, by decide +kernel⟩
abbrev s_shows_met : Stmt := topS 35
theorem sc_shows_met : FnScope ["sums", "paper", "many", "parts", "least"] ["sums", "paper", "many"] (defScope s_shows_met) := ⟨rfl, rfl, rfl, by decide +kernel, rfl, by decide +kernel, by decide +kernel⟩
abbrev s_shows_unmet : Stmt := topS 36
theorem sc_shows_unmet : FnScope ["sums", "paper", "many", "columns", "place", "parts", "_", "column", "least"] ["sums", "paper", "many"] (defScope s_shows_unmet) := ⟨rfl, rfl, rfl, by decide +kernel, rfl, by decide +kernel, by decide +kernel⟩
abbrev s_law_cell_at : Stmt := topS 38
theorem sc_law_cell_at : FnScope ["_law_script", "_law_k"] ["_law_script", "_law_k"] (defScope s_law_cell_at) := ⟨rfl, rfl, rfl, by decide +kernel, rfl, by decide +kernel, by decide +kernel⟩
abbrev s_law_well : Stmt := topS 39
theorem sc_law_well : FnScope ["_law_cell"] ["_law_cell"] (defScope s_law_well) := ⟨rfl, rfl, rfl, by decide +kernel, rfl, by decide +kernel, by decide +kernel⟩
abbrev s_law_draw : Stmt := topS 40
theorem sc_law_draw : FnScope ["_law_well_here", "_law_size", "_law_digit", "_law_mix"] ["_law_well_here", "_law_size"] (defScope s_law_draw) := ⟨rfl, rfl, rfl, by decide +kernel, rfl, by decide +kernel, by decide +kernel⟩
abbrev s_law_one : Stmt := topS 41
theorem sc_law_one : FnScope ["_law_well_here", "_law_some"] ["_law_well_here", "_law_some"] (defScope s_law_one) := ⟨rfl, rfl, rfl, by decide +kernel, rfl, by decide +kernel, by decide +kernel⟩
abbrev s_law_share : Stmt := topS 42
theorem sc_law_share : FnScope ["_law_well_here"] ["_law_well_here"] (defScope s_law_share) := ⟨rfl, rfl, rfl, by decide +kernel, rfl, by decide +kernel, by decide +kernel⟩
abbrev s_law_row : Stmt := topS 43
theorem sc_law_row : FnScope ["_law_well_here", "_law_size", "_law_k"] ["_law_well_here", "_law_size"] (defScope s_law_row) := ⟨rfl, rfl, rfl, by decide +kernel, rfl, by decide +kernel, by decide +kernel⟩
abbrev s_law_bent : Stmt := topS 44
theorem sc_law_bent : FnScope ["_law_well_here", "_law_row_here", "_law_pieces", "_law_least", "_law_odd", "_law_some", "_law_strange", "_law_at"] ["_law_well_here", "_law_row_here"] (defScope s_law_bent) := ⟨rfl, rfl, rfl, by decide +kernel, rfl, by decide +kernel, by decide +kernel⟩
abbrev s_law_spoilt : Stmt := topS 45
theorem sc_law_spoilt : FnScope ["_law_well_here", "_law_rows", "_law_size", "_law_way", "_law_at", "_law_bent_here", "_law_k"] ["_law_well_here", "_law_rows", "_law_size"] (defScope s_law_spoilt) := ⟨rfl, rfl, rfl, by decide +kernel, rfl, by decide +kernel, by decide +kernel⟩
abbrev s_law_word : Stmt := topS 46
theorem sc_law_word : FnScope ["_law_way", "_law_some", "_law_paper_in", "_law_told", "e", "_law_others"] ["_law_way", "_law_some", "_law_paper_in"] (defScope s_law_word) := ⟨rfl, rfl, rfl, by decide +kernel, rfl, by decide +kernel, by decide +kernel⟩
abbrev s_law : Stmt := topS 47
theorem sc_law : FnScope ["_law_script", "_law_cell", "_law_well_here", "_law_size", "_law_rows", "_law_turn", "_law_bad", "_law_paper_in", "_law_way", "_law_k"] ["_law_script"] (defScope s_law) := ⟨rfl, rfl, rfl, by decide +kernel, rfl, by decide +kernel, by decide +kernel⟩
structure Txt (K : PySem.W.Frag) (mg : Str → Option Value) where
  f_PollError_init : Addr
  fd_PollError_init : FuncData
  F_PollError_init : FunD K "__init__" "PollError.__init__" (defArgs s_PollError_init) (defBody s_PollError_init) (defScope s_PollError_init) [.str ""] [] f_PollError_init fd_PollError_init
  gkb_PollError_init_2 : List Value → List Value → List Value
  kb_PollError_init_2 : KBn K fd_PollError_init ["self", "why"] 2 [] gkb_PollError_init_2 (fun vs zs => vs)
  f_NoShare_init : Addr
  fd_NoShare_init : FuncData
  F_NoShare_init : Fun K "__init__" "NoShare.__init__" s_NoShare_init f_NoShare_init fd_NoShare_init
  gkb_NoShare_init_2_over : List Value → List Value → List Value
  kb_NoShare_init_2_over : KBn K fd_NoShare_init ["self", "num", "over"] 2 ["over"] gkb_NoShare_init_2_over (fun vs zs => vs ++ ((zs.drop 0).take 1))
  f_Share_init : Addr
  fd_Share_init : FuncData
  F_Share_init : FunD K "__init__" "Share.__init__" (defArgs s_Share_init) (defBody s_Share_init) (defScope s_Share_init) [.int 1] [] f_Share_init fd_Share_init
  gkb_Share_init_3 : List Value → List Value → List Value
  kb_Share_init_3 : KBn K fd_Share_init ["self", "num", "over"] 3 [] gkb_Share_init_3 (fun vs zs => vs)
  gkb_Share_init_2 : List Value → List Value → List Value
  kb_Share_init_2 : KBn K fd_Share_init ["self", "num", "over"] 2 [] gkb_Share_init_2 (fun vs zs => vs ++ ([V.int 1]))
  f_is_tuple_of : Addr
  fd_is_tuple_of : FuncData
  F_is_tuple_of : Fun K "is_tuple_of" "is_tuple_of" s_is_tuple_of f_is_tuple_of fd_is_tuple_of
  b_is_tuple_of : Binds K fd_is_tuple_of ["thing", "many"] []
  g_is_tuple_of : mg "is_tuple_of" = some (.ref f_is_tuple_of)
  f_is_row : Addr
  fd_is_row : FuncData
  F_is_row : Fun K "is_row" "is_row" s_is_row f_is_row fd_is_row
  b_is_row : Binds K fd_is_row ["thing"] []
  g_is_row : mg "is_row" = some (.ref f_is_row)
  f_are_sums : Addr
  fd_are_sums : FuncData
  F_are_sums : Fun K "are_sums" "are_sums" s_are_sums f_are_sums fd_are_sums
  b_are_sums : Binds K fd_are_sums ["thing"] []
  g_are_sums : mg "are_sums" = some (.ref f_are_sums)
  f_check_sums : Addr
  fd_check_sums : FuncData
  F_check_sums : Fun K "check_sums" "check_sums" s_check_sums f_check_sums fd_check_sums
  b_check_sums : Binds K fd_check_sums ["sums"] []
  g_check_sums : mg "check_sums" = some (.ref f_check_sums)
  gkb_check_sums_1 : List Value → List Value → List Value
  kb_check_sums_1 : KBn K fd_check_sums ["sums"] 1 [] gkb_check_sums_1 (fun vs zs => vs)
  f_met_by : Addr
  fd_met_by : FuncData
  F_met_by : FunD K "met_by" "met_by" (defArgs s_met_by) (defBody s_met_by) (defScope s_met_by) [] [("many", .int 0)] f_met_by fd_met_by
  g_met_by : mg "met_by" = some (.ref f_met_by)
  gkb_met_by_1 : List Value → List Value → List Value
  kb_met_by_1 : KBn K fd_met_by ["sums", "many"] 1 [] gkb_met_by_1 (fun vs zs => vs ++ ([V.int 0]))
  f_unmet : Addr
  fd_unmet : FuncData
  F_unmet : FunD K "unmet" "unmet" (defArgs s_unmet) (defBody s_unmet) (defScope s_unmet) [] [("many", .int 0)] f_unmet fd_unmet
  g_unmet : mg "unmet" = some (.ref f_unmet)
  gkb_unmet_1_many : List Value → List Value → List Value
  kb_unmet_1_many : KBn K fd_unmet ["sums", "many"] 1 ["many"] gkb_unmet_1_many (fun vs zs => vs ++ ((zs.drop 0).take 1))
  f_shows_met : Addr
  fd_shows_met : FuncData
  F_shows_met : FunD K "shows_met" "shows_met" (defArgs s_shows_met) (defBody s_shows_met) (defScope s_shows_met) [] [("many", .int 0)] f_shows_met fd_shows_met
  g_shows_met : mg "shows_met" = some (.ref f_shows_met)
  gkb_shows_met_2 : List Value → List Value → List Value
  kb_shows_met_2 : KBn K fd_shows_met ["sums", "paper", "many"] 2 [] gkb_shows_met_2 (fun vs zs => vs ++ ([V.int 0]))
  f_shows_unmet : Addr
  fd_shows_unmet : FuncData
  F_shows_unmet : FunD K "shows_unmet" "shows_unmet" (defArgs s_shows_unmet) (defBody s_shows_unmet) (defScope s_shows_unmet) [] [("many", .int 0)] f_shows_unmet fd_shows_unmet
  g_shows_unmet : mg "shows_unmet" = some (.ref f_shows_unmet)
  gkb_shows_unmet_2_many : List Value → List Value → List Value
  kb_shows_unmet_2_many : KBn K fd_shows_unmet ["sums", "paper", "many"] 2 ["many"] gkb_shows_unmet_2_many (fun vs zs => vs ++ ((zs.drop 0).take 1))
  f_law_cell_at : Addr
  fd_law_cell_at : FuncData
  F_law_cell_at : Fun K "_law_cell_at" "_law_cell_at" s_law_cell_at f_law_cell_at fd_law_cell_at
  b_law_cell_at : Binds K fd_law_cell_at ["_law_script", "_law_k"] []
  g_law_cell_at : mg "_law_cell_at" = some (.ref f_law_cell_at)
  f_law_well : Addr
  fd_law_well : FuncData
  F_law_well : Fun K "_law_well" "_law_well" s_law_well f_law_well fd_law_well
  b_law_well : Binds K fd_law_well ["_law_cell"] []
  g_law_well : mg "_law_well" = some (.ref f_law_well)
  f_law_draw : Addr
  fd_law_draw : FuncData
  F_law_draw : Fun K "_law_draw" "_law_draw" s_law_draw f_law_draw fd_law_draw
  b_law_draw : Binds K fd_law_draw ["_law_well_here", "_law_size"] []
  g_law_draw : mg "_law_draw" = some (.ref f_law_draw)
  f_law_one : Addr
  fd_law_one : FuncData
  F_law_one : Fun K "_law_one" "_law_one" s_law_one f_law_one fd_law_one
  b_law_one : Binds K fd_law_one ["_law_well_here", "_law_some"] []
  g_law_one : mg "_law_one" = some (.ref f_law_one)
  f_law_share : Addr
  fd_law_share : FuncData
  F_law_share : Fun K "_law_share" "_law_share" s_law_share f_law_share fd_law_share
  b_law_share : Binds K fd_law_share ["_law_well_here"] []
  g_law_share : mg "_law_share" = some (.ref f_law_share)
  f_law_row : Addr
  fd_law_row : FuncData
  F_law_row : Fun K "_law_row" "_law_row" s_law_row f_law_row fd_law_row
  b_law_row : Binds K fd_law_row ["_law_well_here", "_law_size"] []
  g_law_row : mg "_law_row" = some (.ref f_law_row)
  f_law_bent : Addr
  fd_law_bent : FuncData
  F_law_bent : Fun K "_law_bent" "_law_bent" s_law_bent f_law_bent fd_law_bent
  b_law_bent : Binds K fd_law_bent ["_law_well_here", "_law_row_here"] []
  g_law_bent : mg "_law_bent" = some (.ref f_law_bent)
  f_law_spoilt : Addr
  fd_law_spoilt : FuncData
  F_law_spoilt : Fun K "_law_spoilt" "_law_spoilt" s_law_spoilt f_law_spoilt fd_law_spoilt
  b_law_spoilt : Binds K fd_law_spoilt ["_law_well_here", "_law_rows", "_law_size"] []
  g_law_spoilt : mg "_law_spoilt" = some (.ref f_law_spoilt)
  f_law_word : Addr
  fd_law_word : FuncData
  F_law_word : Fun K "_law_word" "_law_word" s_law_word f_law_word fd_law_word
  b_law_word : Binds K fd_law_word ["_law_way", "_law_some", "_law_paper_in"] []
  g_law_word : mg "_law_word" = some (.ref f_law_word)
  f_law : Addr
  fd_law : FuncData
  F_law : Fun K "law" "law" s_law f_law fd_law
  b_law : Binds K fd_law ["_law_script"] []
  g_law : mg "law" = some (.ref f_law)
  C_PollError : Addr
  k_PollError : mg "PollError" = some (.ref C_PollError)
  ex_PollError : ExK K C_PollError f_PollError_init
  ox_PollError : OexC K C_PollError
  xf_PollError : XfC K C_PollError
  nf_PollError_why : PySem.W.findIn K (.ref C_PollError) "why" = some none
  rd_PollError : PySem.W.readsIn K C_PollError (.type "type") = true
  ga_PollError : PySem.W.specialIn K (.ref C_PollError) "__getattribute__" = some (some (.builtin "type.__getattribute__"))
  fc_PollError_init : PySem.W.findCls K (.ref C_PollError) (.type "type") "__init__" = some (.val (.ref f_PollError_init))
  C_NoShare : Addr
  k_NoShare : mg "NoShare" = some (.ref C_NoShare)
  ex_NoShare : ExK K C_NoShare f_NoShare_init
  ox_NoShare : OexC K C_NoShare
  xf_NoShare : XfC K C_NoShare
  nf_NoShare_why : PySem.W.findIn K (.ref C_NoShare) "why" = some none
  nf_NoShare_num : PySem.W.findIn K (.ref C_NoShare) "num" = some none
  nf_NoShare_over : PySem.W.findIn K (.ref C_NoShare) "over" = some none
  C_BadSums : Addr
  k_BadSums : mg "BadSums" = some (.ref C_BadSums)
  ex_BadSums : ExK K C_BadSums f_PollError_init
  ox_BadSums : OexC K C_BadSums
  xf_BadSums : XfC K C_BadSums
  nf_BadSums_why : PySem.W.findIn K (.ref C_BadSums) "why" = some none
  ic_BadSums : ExcC K C_BadSums
  C_BadBallot : Addr
  k_BadBallot : mg "BadBallot" = some (.ref C_BadBallot)
  ex_BadBallot : ExK K C_BadBallot f_PollError_init
  ox_BadBallot : OexC K C_BadBallot
  xf_BadBallot : XfC K C_BadBallot
  nf_BadBallot_why : PySem.W.findIn K (.ref C_BadBallot) "why" = some none
  C_BadClaim : Addr
  k_BadClaim : mg "BadClaim" = some (.ref C_BadClaim)
  ex_BadClaim : ExK K C_BadClaim f_PollError_init
  ox_BadClaim : OexC K C_BadClaim
  xf_BadClaim : XfC K C_BadClaim
  nf_BadClaim_why : PySem.W.findIn K (.ref C_BadClaim) "why" = some none
  C_BadMargins : Addr
  k_BadMargins : mg "BadMargins" = some (.ref C_BadMargins)
  ex_BadMargins : ExK K C_BadMargins f_PollError_init
  ox_BadMargins : OexC K C_BadMargins
  xf_BadMargins : XfC K C_BadMargins
  nf_BadMargins_why : PySem.W.findIn K (.ref C_BadMargins) "why" = some none
  C_BadOrder : Addr
  k_BadOrder : mg "BadOrder" = some (.ref C_BadOrder)
  ex_BadOrder : ExK K C_BadOrder f_PollError_init
  ox_BadOrder : OexC K C_BadOrder
  xf_BadOrder : XfC K C_BadOrder
  nf_BadOrder_why : PySem.W.findIn K (.ref C_BadOrder) "why" = some none
  C_BadPoll : Addr
  k_BadPoll : mg "BadPoll" = some (.ref C_BadPoll)
  ex_BadPoll : ExK K C_BadPoll f_PollError_init
  ox_BadPoll : OexC K C_BadPoll
  xf_BadPoll : XfC K C_BadPoll
  nf_BadPoll_why : PySem.W.findIn K (.ref C_BadPoll) "why" = some none
  C_BadRule : Addr
  k_BadRule : mg "BadRule" = some (.ref C_BadRule)
  ex_BadRule : ExK K C_BadRule f_PollError_init
  ox_BadRule : OexC K C_BadRule
  xf_BadRule : XfC K C_BadRule
  nf_BadRule_why : PySem.W.findIn K (.ref C_BadRule) "why" = some none
  C_Share : Addr
  k_Share : mg "Share" = some (.ref C_Share)
  cl_Share : Cls K C_Share
  n_Share_num : NoAttr K C_Share "num"
  n_Share_over : NoAttr K C_Share "over"
  mk_Share : Mk K C_Share f_Share_init
  is_Share : InsK K C_Share
  ki_Share : PySem.W.kitOne K (.ref C_Share) (.ref C_Share) = some true
  ki_Share_NoneType : PySem.W.kitOne K (.type "NoneType") (.ref C_Share) = some false
  ki_Share_bool : PySem.W.kitOne K (.type "bool") (.ref C_Share) = some false
  ki_Share_int : PySem.W.kitOne K (.type "int") (.ref C_Share) = some false
  ki_Share_str : PySem.W.kitOne K (.type "str") (.ref C_Share) = some false
  ki_Share_tuple : PySem.W.kitOne K (.type "tuple") (.ref C_Share) = some false
  ki_Share_list : PySem.W.kitOne K (.type "list") (.ref C_Share) = some false
  ki_Share_dict : PySem.W.kitOne K (.type "dict") (.ref C_Share) = some false
  kj_Share_tuple : PySem.W.kitOne K (.ref C_Share) (.type "tuple") = some false
  kj_Share_list : PySem.W.kitOne K (.ref C_Share) (.type "list") = some false
  te_BadSums_PollError : PySem.W.exmOne K (.ref C_BadSums) (.ref C_PollError) = some true
  kt_BadSums_BadSums : PySem.W.kitOne K (.ref C_BadSums) (.ref C_BadSums) = some true
  kt_BadSums_BadBallot : PySem.W.kitOne K (.ref C_BadSums) (.ref C_BadBallot) = some false
  kt_BadSums_BadClaim : PySem.W.kitOne K (.ref C_BadSums) (.ref C_BadClaim) = some false
  kt_BadSums_BadMargins : PySem.W.kitOne K (.ref C_BadSums) (.ref C_BadMargins) = some false
  kt_BadSums_BadOrder : PySem.W.kitOne K (.ref C_BadSums) (.ref C_BadOrder) = some false
  kt_BadSums_BadPoll : PySem.W.kitOne K (.ref C_BadSums) (.ref C_BadPoll) = some false
  kt_BadSums_BadRule : PySem.W.kitOne K (.ref C_BadSums) (.ref C_BadRule) = some false
  kt_BadSums_NoShare : PySem.W.kitOne K (.ref C_BadSums) (.ref C_NoShare) = some false
  vV : PySem.W.findCls K (.type "ValueError") (.type "type") "__init__" = some (.val (.builtin "ValueError.__init__"))
  gcd : mg "gcd" = some (.builtin "math.gcd")
  z_ValueError : mg "ValueError" = none
  z_len : mg "len" = none
  z_isinstance : mg "isinstance" = none
  z_tuple : mg "tuple" = none
  z_all : mg "all" = none
  z_list : mg "list" = none
  z_int : mg "int" = none
  z_range : mg "range" = none
  t_MOST_PARTS : Tok
  c_MOST_PARTS : mg "MOST_PARTS" = some (.int 12 t_MOST_PARTS)
  t_MOST_ROWS : Tok
  c_MOST_ROWS : mg "MOST_ROWS" = some (.int 30 t_MOST_ROWS)
/-! ### wells -/
/-- a well's three numbers, k a bound of how often it was drawn from -/
def WellL (w : List V) (k : Nat) : Prop := ∃ a b c : Int, w = [.int a, .int b, .int c] ∧ 0 ≤ a ∧ 0 ≤ b ∧ b < 2147483629 ∧ 0 ≤ c ∧ c ≤ k
theorem WellL.mono {w : List V} {j k : Nat} (h : WellL w j) (hk : j ≤ k) : WellL w k := by
  obtain ⟨a, b, c, e, h1, h2, h3, h4, h5⟩ := h
  exact ⟨a, b, c, e, h1, h2, h3, h4, by omega⟩
theorem mix_mod (x m : Int) (h : 0 < m) : 0 ≤ x % m ∧ x % m < m := ⟨Int.emod_nonneg x (by omega), Int.emod_lt_of_pos x h⟩
theorem div_nn {a n : Int} (h : 0 ≤ a) (hn : 0 < n) : 0 ≤ a / n := Int.ediv_nonneg h (by omega)
theorem same_upd {H : Hp} {p : Addr} {o : HO} (h : H p = none) : Same H (upd H p o) := fun b x e => by
  rw [upd_ne (ne_of_none e h)]
  exact e
theorem same_mut {H H' : Hp} {p : Addr} {o : HO} (e : Same H H') (h : H p = none) : Same H (upd H' p o) := fun b x q => by
  rw [upd_ne (ne_of_none q h)]
  exact e b x q
theorem mulOk {a b : Int} {n m : Nat} (ha : a.natAbs < 2 ^ n) (hb : b.natAbs < 2 ^ m) (h : n + m + 1 ≤ 8000) : CMulW a b :=
  wide_mul (a := n + 1) (b := m + 1) (Nat.lt_of_lt_of_le ha (Nat.pow_le_pow_right (by decide) (by omega))) (Nat.lt_of_lt_of_le hb (Nat.pow_le_pow_right (by decide) (by omega))) (by omega) (by omega) (by omega)
theorem line_of {n : Nat} (h : n ≤ 1000) : n ≤ sizeLine := Nat.le_of_lt (small1000 h)
/-- what was tracked besides p stays -/
def But (p : Addr) (H H' : Hp) : Prop := ∀ b o, b ≠ p → H b = some o → H' b = some o
theorem But.refl (p : Addr) (H : Hp) : But p H H := fun _ _ _ h => h
theorem But.upd {p : Addr} {H H' : Hp} (e : But p H H') (o : HO) : But p H (upd H' p o) := fun b u hb q => by
  rw [upd_ne hb]
  exact e b u hb q
theorem But.new {p q : Addr} {H H' : Hp} (e : But p H H') (n : H' q = none) (o : HO) : But p H (L2.upd H' q o) := fun b u hb h => by
  have h2 := e b u hb h
  rw [upd_ne (ne_of_none h2 n)]
  exact h2
theorem But.same {p : Addr} {H H1 H2 : Hp} (e : But p H H1) (s : Same H1 H2) : But p H H2 := fun b u hb h => s b u (e b u hb h)
theorem But.trans {p : Addr} {H H1 H2 : Hp} (e : But p H H1) (f : But p H1 H2) : But p H H2 := fun b u hb h => f b u hb (e b u hb h)
/-- p new to H0 -/
theorem But.ext {p : Addr} {H0 H H' : Hp} (s : Same H0 H) (n : H0 p = none) (e : But p H H') : Same H0 H' := fun b u h => e b u (ne_of_none h n) (s b u h)
theorem size_ok {n : Int} (h0 : 0 ≤ n) (h : n ≤ 1000) : n.natAbs < 2 ^ 8000 := Nat.lt_of_le_of_lt (show n.natAbs ≤ 1000 by omega) (by decide +kernel)
theorem cut_ints (ns : List Int) (lo hi : Option Int) : ∃ ms : List Int, cutV (ns.map V.int) lo hi = ms.map V.int ∧ ms.length ≤ ns.length := by
  refine ⟨(ns.drop (HT.sIx (ns.map V.int).length 0 lo)).take (HT.sIx (ns.map V.int).length (ns.map V.int).length hi - HT.sIx (ns.map V.int).length 0 lo), ?_, ?_⟩
  · unfold cutV
    rw [← List.map_drop, ← List.map_take]
  · rw [List.length_take, List.length_drop]
    omega
theorem take_more {α : Type} : ∀ {l : List α} {i : Nat} {x : α}, l[i]? = some x → l.take (i + 1) = l.take i ++ [x]
  | [], i, x, h => by simp at h
  | a :: l, 0, x, h => by
    have e : a = x := Option.some.inj h
    subst e
    rfl
  | a :: l, i + 1, x, h => by
    have ih := take_more (l := l) (i := i) (x := x) h
    show a :: l.take (i + 1) = a :: l.take i ++ [x]
    rw [ih]
    rfl
section
variable {P : Program} {w : World} {K : PySem.W.Frag} {mg : Str → Option Value} {base : Heap}
/-! ### the law's own small defs -/
def sp_law_cell_at (K : PySem.W.Frag) : Sp := fun vs H Q _ => ∃ (a : Addr) (ns : List Int), vs = [.ref a, .int 0] ∧ SqL K H a (ns.map V.int) ∧ ns.length ≤ 63 ∧ ∀ z : Int, Q (.int z) H
theorem ok_law_cell_at (T : Txt K mg) : FnOk P w K mg base CX0 1 T.f_law_cell_at T.fd_law_cell_at ["_law_script", "_law_k"] (sp_law_cell_at K) := by
  refine T.F_law_cell_at.ok sc_law_cell_at (fun vs H Q E h => ?_) (fun cdv A outer s H vs Q E hr h => ?_)
  · obtain ⟨a, ns, rfl, _⟩ := h
    rfl
  · obtain ⟨a, ns, rfl, hS, hlen, q⟩ := h
    refine ⟨_, (pss_cons
 (ps_if (pt_cmpR op_lt (pv 1) (pe_callB call_len_seq (by rfl) T.z_len (by decide +kernel) (pa_cons (pv 0) pa_nil)) (nomark _))
 (pss_one
 (ps_ret (pe_ix ix_list (pv 0) (pv 1) (fun _ _ => rfl))))
 pss_nil)
 (pss_one
 (ps_ret pe_int))), ?_⟩
    refine ⟨.int 0, rfl, .ref a, rfl, a, ns.map V.int, rfl, .inl hS, 0, _, rfl, rfl, _, rfl, ite2 (fun e => ?_) (fun e => ?_)⟩
    · have e0 := of_decide_eq_true e
      cases ns with
      | nil => simp at e0
      | cons z r => exact ⟨.ref a, rfl, .int 0, rfl, a, _, 0, .int z, rfl, rfl, hS, atI_nat (j := 0) rfl, q z⟩
    · exact q 0
def sp_law_well : Sp := fun vs H Q _ => ∃ z : Int, vs = [.int z] ∧ ∀ (p : Addr) (x : List V) (H' : Hp), H p = none → Same H H' → H' p = some (.lst x) → WellL x 0 → Q (.ref p) H'
theorem ok_law_well (T : Txt K mg) : FnOk P w K mg base CX0 1 T.f_law_well T.fd_law_well ["_law_cell"] sp_law_well := by
  refine T.F_law_well.ok sc_law_well (fun vs H Q E h => ?_) (fun cdv A outer s H vs Q E hr h => ?_)
  · obtain ⟨z, rfl, _⟩ := h
    rfl
  · obtain ⟨z, rfl, q⟩ := h
    refine ⟨_, (pss_one
 (ps_ret (pe_lst (pa_cons (pe_ix ix_list (pe_lst (pa_cons pe_int (pa_cons (pv 0) pa_nil))) (pe_callTy call_int1 (by rfl) T.z_int (by decide +kernel) (pa_cons (pe_cmpR op_ge (pv 0) (pe_op op_pow pe_int pe_int) (nomark _)) pa_nil)) (fun _ _ => rfl)) (pa_cons (pe_op op_mod (pv 0) pe_int) (pa_cons pe_int pa_nil)))))), ?_⟩
    refine ⟨.int z, rfl, Nat.le_trans (by decide : 2 ≤ 1000) (Nat.le_of_lt (small1000 (by decide))), fun t nt => ?_⟩
    have ht : (upd H t (.lst [V.int 0, V.int z])) t = some (.lst [V.int 0, V.int z]) := upd_same
    refine ⟨.int z, rfl, 10, 18, rfl, rfl, ⟨by decide, by decide, by decide⟩, z, _, rfl, rfl, .inr ⟨_, rfl, ?_⟩⟩
    have fin : ∀ a : Int, 0 ≤ a → ∀ (p : Addr), (upd H t (.lst [V.int 0, V.int z])) p = none → Q (.ref p) (upd (upd H t (.lst [V.int 0, V.int z])) p (.lst [.int a, .int (z % 2147483629), .int 0])) := fun a ha p np => by
      have hb := mix_mod z 2147483629 (by decide)
      exact q p _ _ ((same_upd nt).free np) ((same_upd nt).trans (same_upd np)) upd_same ⟨a, _, 0, rfl, ha, hb.1, hb.2, by decide, by decide⟩
    by_cases hz : (10 : Int) ^ 18 ≤ z
    · refine ⟨t, _, 1, .int z, rfl, ?_, .of ht, rfl, .int z, rfl, z, _, rfl, rfl, (by show (0 : Int) < 2147483629; decide), Nat.le_trans (by decide : 3 ≤ 1000) (Nat.le_of_lt (small1000 (by decide))), fun p np => fin z (by omega) p np⟩
      rw [show decide ((10 : Int) ^ (18 : Int).toNat ≤ z) = true from decide_eq_true hz] <;> rfl
    · refine ⟨t, _, 0, .int 0, rfl, ?_, .of ht, rfl, .int z, rfl, z, _, rfl, rfl, (by show (0 : Int) < 2147483629; decide), Nat.le_trans (by decide : 3 ≤ 1000) (Nat.le_of_lt (small1000 (by decide))), fun p np => fin 0 (by omega) p np⟩
      rw [show decide ((10 : Int) ^ (18 : Int).toNat ≤ z) = false from decide_eq_false hz] <;> rfl
/-- drawing: a number below the size; the well holds three numbers again -/
def sp_law_draw : Sp := fun vs H Q _ => ∃ (p : Addr) (n : Int) (x : List V) (k : Nat), vs = [.ref p, .int n] ∧ H p = some (.lst x) ∧ WellL x k ∧ k ≤ 1000000 ∧ 0 < n ∧ n.natAbs < 2 ^ 8000 ∧
  ∀ (d : Int) (y : List V), 0 ≤ d → d < n → WellL y (k + 1) → Q (.int d) (upd H p (.lst y))
theorem ok_law_draw (T : Txt K mg) : FnOk P w K mg base CX0 1 T.f_law_draw T.fd_law_draw ["_law_well_here", "_law_size"] sp_law_draw := by
  refine T.F_law_draw.ok sc_law_draw (fun vs H Q E h => ?_) (fun cdv A outer s H vs Q E hr h => ?_)
  · obtain ⟨p, n, x, k, rfl, _⟩ := h
    rfl
  · obtain ⟨p, n, x, k, rfl, hp, ⟨a, b, c, rfl, ha, hb, hb2, hc, hck⟩, hk, hn, hn2, q⟩ := h
    refine ⟨_, (pss_cons
 (ps_if (pt_cmpR op_gt (pe_ix ix_list (pv 0) pe_int (fun _ _ => rfl)) pe_int (nomark _))
 (pss_cons
 (ps_set (i := 2) sc_law_draw.nd rfl (Or.inl rfl) (pe_op op_mod (pe_ix ix_list (pv 0) pe_int (fun _ _ => rfl)) (pv 1)))
 (pss_cons
 (ps_asg (pe_op op_fdivW (pe_ix ix_list (pv 0) pe_int (fun _ _ => rfl)) (pv 1)) (pg_sub (pv 0) pe_int set_list))
 (pss_one
 (ps_ret (pv 2)))))
 pss_nil)
 (pss_cons
 (ps_asg (pe_op op_add (pe_ix ix_list (pv 0) pe_int (fun _ _ => rfl)) pe_int) (pg_sub (pv 0) pe_int set_list))
 (pss_cons
 (ps_set (i := 3) sc_law_draw.nd rfl (Or.inl rfl) (pe_op op_mod (pe_op op_pow (pe_op op_add (pe_op op_add (pe_ix ix_list (pv 0) pe_int (fun _ _ => rfl)) (pe_op op_mul pe_int (pe_ix ix_list (pv 0) pe_int (fun _ _ => rfl)))) pe_int) pe_int) pe_int))
 (pss_cons
 (ps_set (i := 3) sc_law_draw.nd rfl (Or.inl rfl) (pe_op op_mod (pe_op op_mul (pv 3) (pe_op op_add (pe_op op_add (pe_op op_fdiv (pv 3) pe_int) pe_int) (pe_ix ix_list (pv 0) pe_int (fun _ _ => rfl)))) pe_int))
 (pss_one
 (ps_ret (pe_op op_mod (pe_op op_mod (pe_op op_mul (pv 3) (pe_op op_add (pe_op op_fdiv (pv 3) pe_int) pe_int)) pe_int) (pv 1)))))))), ?_⟩
    refine ⟨.ref p, rfl, p, _, 0, .int a, rfl, rfl, .of hp, rfl, a, 0, rfl, rfl, _, rfl, ite2 (fun e => ?_) (fun e => ?_)⟩
    · have hd := mix_mod a n hn
      have ha2 := div_nn ha hn
      refine ⟨.ref p, rfl, p, _, 0, .int a, rfl, rfl, .of hp, rfl, .int n, rfl, a, n, rfl, rfl, hn, ?_⟩
      refine ⟨.ref p, rfl, p, _, 0, .int a, rfl, rfl, .of hp, rfl, .int n, rfl, a, n, rfl, rfl, wide_div hn hn2 (by decide) (by decide), .ref p, rfl, p, _, 0, 0, rfl, rfl, hp, rfl, ?_⟩
      exact ⟨_, rfl, q (a % n) _ hd.1 hd.2 ⟨a / n, b, c, rfl, ha2, hb, hb2, hc, by omega⟩⟩
    · refine ⟨.ref p, rfl, p, _, 2, .int c, rfl, rfl, .of hp, rfl, c, 1, rfl, rfl, .ref p, rfl, p, _, 2, 2, rfl, rfl, hp, rfl, ?_⟩
      have h1 : (upd H p (.lst [V.int a, V.int b, V.int (c + 1)])) p = some (.lst [V.int a, V.int b, V.int (c + 1)]) := upd_same
      refine ⟨.ref p, rfl, p, _, 1, .int b, rfl, rfl, .of h1, rfl, .ref p, rfl, p, _, 2, .int (c + 1), rfl, rfl, .of h1, rfl, 7919, c + 1, rfl, rfl, .inl ⟨by decide, by decide⟩, b, _, rfl, rfl, _, 1, rfl, rfl, _, 5, rfl, rfl, ⟨by decide, by decide, by omega⟩, _, 2147483647, rfl, rfl, (by show (0 : Int) < 2147483647; decide), ?_⟩
      dsimp only
      generalize hg : (_ : Int) % 2147483647 = m
      have hm : 0 ≤ m ∧ m < 2147483647 := hg ▸ mix_mod _ _ (by decide)
      refine ⟨.int m, rfl, .int m, rfl, m, 1009, rfl, rfl, ⟨by decide, by decide⟩, _, 69621, rfl, rfl, .ref p, rfl, p, _, 2, .int (c + 1), rfl, rfl, .of h1, rfl, _, c + 1, rfl, rfl, m, _, rfl, rfl, .inl ⟨by omega, by omega⟩, _, 2147483629, rfl, rfl, (by show (0 : Int) < 2147483629; decide), ?_⟩
      dsimp only
      generalize hg2 : (_ : Int) % 2147483629 = m2
      have hm2 : 0 ≤ m2 ∧ m2 < 2147483629 := hg2 ▸ mix_mod _ _ (by decide)
      refine ⟨.int m2, rfl, .int m2, rfl, m2, 2003, rfl, rfl, ⟨by decide, by decide⟩, _, 40692, rfl, rfl, m2, _, rfl, rfl, .inl ⟨by omega, by omega⟩, _, 2147483399, rfl, rfl, (by show (0 : Int) < 2147483399; decide), .int n, rfl, _, n, rfl, rfl, hn, ?_⟩
      have hd := mix_mod (m2 * (m2 / 2003 + 40692) % 2147483399) n hn
      exact q _ _ hd.1 hd.2 ⟨a, b, c + 1, rfl, ha, hb, hb2, by omega, by omega⟩
end
/-! ### refusals: PollError's and NoShare's __init__ -/
theorem fld_putF2 (n o : V) : putF "over" o (putF "num" n []) = ([("num", n), ("over", o)] : List (Str × V)) := by
  have h : ¬ (("num" : Str) = "over") := by decide +kernel
  show (if ("num" : Str) = "over" then [(("num" : Str), o)] else (("num" : Str), n) :: putF "over" o []) = ([("num", n), ("over", o)] : List (Str × V))
  rw [if_neg h] <;> rfl
/-- a share's fields -/
def shF (r : Int × Int) : List (Str × V) := putF "over" (.int r.2) (putF "num" (.int r.1) [])
theorem shF_num (r : Int × Int) : (shF r).lookup ("num" : Str) = some (.int r.1) := by
  unfold shF
  rw [lookup_putF, if_neg (by decide +kernel), lookup_putF, if_pos rfl]
theorem shF_over (r : Int × Int) : (shF r).lookup ("over" : Str) = some (.int r.2) := by
  unfold shF
  rw [lookup_putF, if_pos rfl]
theorem shF_no (r : Int × Int) {m : Str} (h1 : ¬ m = "over") (h2 : ¬ m = "num") : (shF r).lookup m = none := by
  unfold shF
  rw [lookup_putF, if_neg h1, lookup_putF, if_neg h2] <;> rfl
/-- the share r stands at p -/
def ShAt (C : Addr) (H : Hp) (p : Addr) (r : Int × Int) : Prop := ∃ dx, H p = some (.ins C dx (shF r))
theorem ShAt.same {C : Addr} {H H' : Hp} {p : Addr} {r : Int × Int} (s : Same H H') (h : ShAt C H p r) : ShAt C H' p r := by
  obtain ⟨dx, h⟩ := h
  exact ⟨dx, s _ _ h⟩
/-- the dict of a NoShare -/
def NoF (n : Int) (fs : List (Str × V)) : Prop := fs.lookup ("num" : Str) = some (.int n) ∧ fs.lookup ("over" : Str) = some (.int 0)
section
variable {P : Program} {w : World} {K : PySem.W.Frag} {mg : Str → Option Value} {base : Heap}
def sp_PollError_init (K : PySem.W.Frag) : Sp := fun vs H Q _ => ∃ (a C : Addr) (z : Str), vs = [.ref a, .str z] ∧ H a = some (exo a C none) ∧ OexC K C ∧ PySem.W.findIn K (.ref C) "why" = some none ∧
  ∀ dx, H dx = none → dx ≠ a → Q .non (upd (upd H dx (exd dx [("why", .str z)])) a (exo a C (some dx)))
theorem ok_PollError_init (T : Txt K mg) : FnOk P w K mg base CX0 1 T.f_PollError_init T.fd_PollError_init ["self", "why"] (sp_PollError_init K) := by
  refine T.F_PollError_init.ok (CX := CX0) sc_PollError_init (fun vs H Q E h => ?_) (fun cdv A outer s H vs Q E hr h => ?_)
  · obtain ⟨a, C, z, rfl, _⟩ := h
    rfl
  · obtain ⟨a, C, z, rfl, ha, hT, hno, q⟩ := h
    refine ⟨_, (pss_cons
 (ps_expr (pe_veinit (by rfl) T.z_ValueError T.vV (pa_cons (pv 0) (pa_cons (pv 1) pa_nil))))
 (pss_one
 (ps_ost (pv 0) (pv 1)))), ?_⟩
    refine ⟨.ref a, rfl, .str z, rfl, a, C, [.str z], rfl, (by show 1 ≤ 1000; decide), hT, ha, ?_⟩
    exact ⟨.str z, rfl, .ref a, rfl, a, C, rfl, hT, hno, .inl ⟨ha, fun dx n1 n2 => q dx n1 n2⟩⟩
def sp_NoShare_init (K : PySem.W.Frag) (C : Addr) : Sp := fun vs H Q _ => ∃ (a : Addr) (n o : Int), vs = [.ref a, .int n, .int o] ∧ H a = some (exo a C none) ∧
  ∀ (dx : Addr) (z : Str) (H' : Hp), H dx = none → dx ≠ a → But a H H' → H' a = some (exo a C (some dx)) → H' dx = some (exd dx [("over", .int o), ("num", .int n), ("why", .str z)]) → Q .non H'
theorem ok_NoShare_init (T : Txt K mg) : FnOk P w K mg base CX0 2 T.f_NoShare_init T.fd_NoShare_init ["self", "num", "over"] (sp_NoShare_init K T.C_NoShare) := by
  refine T.F_NoShare_init.ok sc_NoShare_init (fun vs H Q E h => ?_) (fun cdv A outer s H vs Q E hr h => ?_)
  · obtain ⟨a, n, o, rfl, _⟩ := h
    rfl
  · obtain ⟨a, n, o, rfl, ha, q⟩ := h
    refine ⟨_, (pss_cons
 (ps_expr (pcl_pos (by rfl) T.k_PollError T.rd_PollError T.ga_PollError T.fc_PollError_init T.F_PollError_init.kp (ok_PollError_init T) (hr.mono (by decide)) T.kb_PollError_init_2 (fun σ => at0 σ) (pa_cons (pv 0) (pa_cons pe_str pa_nil))))
 (pss_cons
 (ps_ost (pv 0) (pv 1))
 (pss_one
 (ps_ost (pv 0) (pv 2))))), ?_⟩
    refine ⟨.ref a, rfl, rfl, rfl, a, T.C_NoShare, _, rfl, ha, T.ox_NoShare, T.nf_NoShare_why, fun dx n1 n2 => ?_⟩
    have h1 : (upd (upd H dx (exd dx [("why", V.str "no share over nought")])) a (exo a T.C_NoShare (some dx))) a = some (exo a T.C_NoShare (some dx)) := upd_same
    have h2 : (upd (upd H dx (exd dx [("why", V.str "no share over nought")])) a (exo a T.C_NoShare (some dx))) dx = some (exd dx [("why", V.str "no share over nought")]) := by rw [upd_ne n2, upd_same]
    refine ⟨.int n, rfl, .ref a, rfl, a, T.C_NoShare, rfl, T.ox_NoShare, T.nf_NoShare_num, .inr ⟨dx, _, h1, h2, (by show 1 ≤ 900; decide), ?_⟩⟩
    refine ⟨.int o, rfl, .ref a, rfl, a, T.C_NoShare, rfl, T.ox_NoShare, T.nf_NoShare_over, .inr ⟨dx, _, by rw [upd_ne n2.symm]; exact h1, upd_same, (by show 2 ≤ 900; decide), ?_⟩⟩
    refine q dx _ _ n1 n2 (fun b x hb hx => ?_) (by rw [upd_ne n2.symm, upd_ne n2.symm]; exact h1) upd_same
    have hbd : b ≠ dx := ne_of_none hx n1
    rw [upd_ne hbd, upd_ne hbd, upd_ne hb, upd_ne hbd]
    exact hx
/-! ### a share is made -/
def sp_Share_init (C CN : Addr) : Sp := fun vs H Q E => ∃ (p dx : Addr) (a b : Int) (m : Nat), vs = [.ref p, .int a, .int b] ∧ H p = some (.ins C dx []) ∧ b.natAbs < 2 ^ m ∧ 0 < m ∧ m ≤ 9000 ∧
  (b = 0 → ∀ (d : Addr) (fs : List (Str × V)) (H' : Hp), Same H H' → H d = none → H' d = some (.xd fs) → NoF a fs → E (.ref CN) (some d) H') ∧
  (b ≠ 0 → ∀ H', But p H H' → H' p = some (.ins C dx (shF (low a b))) → Q .non H')
theorem ok_Share_init (T : Txt K mg) : FnOk P w K mg base (L2.CX P w) 4 T.f_Share_init T.fd_Share_init ["self", "num", "over"] (sp_Share_init T.C_Share T.C_NoShare) := by
  refine T.F_Share_init.ok (CX := L2.CX P w) sc_Share_init (fun vs H Q E h => ?_) (fun cdv A outer s H vs Q E hr h => ?_)
  · obtain ⟨p, dx, a, b, m, rfl, _⟩ := h
    rfl
  · obtain ⟨p, dx, a, b, m, rfl, hp, hm, hm0, hm9, q0, q1⟩ := h
    refine ⟨_, (pss_cons
 (ps_if (pt_cmpR op_eq (pv 2) pe_int (nomark _))
 (pss_one
 (ps_raise rfl (takes_of rfl rfl rfl rfl) (px_both T.ex_NoShare (ok_NoShare_init T) (hr.mono (by decide)) (by rfl) T.k_NoShare T.kb_NoShare_init_2_over (fun σ => at0 σ) (pa_cons (pv 1) pa_nil) (pk_cons pe_int pk_nil))))
 pss_nil)
 (pss_cons
 (ps_set (i := 3) sc_Share_init.nd rfl (Or.inl rfl) (pe_callBfun cr_gcd (by rfl) T.gcd (pa_cons (pv 1) (pa_cons (pv 2) pa_nil))))
 (pss_cons
 (ps_if (pt_cmpR op_lt (pv 2) pe_int (nomark _))
 (pss_one
 (ps_set (i := 3) sc_Share_init.nd rfl (Or.inl rfl) (pe_un un_neg (pv 3))))
 pss_nil)
 (pss_cons
 (ps_fld (pv 0) (pe_op op_fdivX (pv 1) (pv 3)) rfl)
 (pss_one
 (ps_fld (pv 0) (pe_op op_fdivX (pv 2) (pv 3)) rfl)))))), ?_⟩
    refine ⟨.int b, rfl, rfl, _, rfl, ite2 (fun e => ?_) (fun e => ?_)⟩
    · have hb : b = 0 := V.int.inj (of_decide_eq_true e)
      refine ⟨.int a, rfl, rfl, rfl, by decide, fun x nx => ?_⟩
      refine ⟨x, a, 0, rfl, upd_same, fun dy z H' n1 n2 bt e1 e2 => ⟨rfl, dy, _, e1, e2, ?_, ?_⟩⟩
      · rw [upd_ne n2] at n1
        exact n1
      · rw [upd_ne n2] at n1
        refine q0 hb dy _ _ (fun y o ho => ?_) n1 upd_same ⟨rfl, rfl⟩
        have y1 : y ≠ dy := ne_of_none ho n1
        have y2 : y ≠ x := ne_of_none ho nx
        rw [upd_ne y1, del_ne y2]
        exact bt y o y2 (by rw [upd_ne y2]; exact ho)
    · have hb : b ≠ 0 := fun z => e (by rw [z]; exact decide_eq_true rfl)
      have hc0 := cg_ne (a := a) hb
      have hcl : (cg a b).natAbs < 2 ^ m := Nat.lt_of_le_of_lt (cg_le hb) hm
      refine ⟨.int a, rfl, .int b, rfl, a, b, rfl, .int b, rfl, b, 0, rfl, rfl, _, rfl, ite2 (fun e2 => ?_) (fun e2 => ?_)⟩
      · have ec : cg a b = -((Nat.gcd a.natAbs b.natAbs : Nat) : Int) := if_pos (of_decide_eq_true e2)
        refine ⟨_, rfl, _, rfl, ?_⟩
        refine ⟨.int a, rfl,   .int (cg a b), (by rw [ec]; rfl), a, _, rfl, rfl, div_ok hc0 hcl hm0 hm9, .ref p, rfl, p, T.C_Share, dx, [], rfl, hp, T.cl_Share, T.n_Share_num, by decide, ?_⟩
        refine ⟨.int b, rfl, .int (cg a b), (by rw [ec]; rfl), b, _, rfl, rfl, div_ok hc0 hcl hm0 hm9, .ref p, rfl, p, T.C_Share, dx, _, rfl, upd_same, T.cl_Share, T.n_Share_over, (by show 1 < 1000; decide), ?_⟩
        refine q1 hb _ (fun y o hy ho => ?_) upd_same
        rw [upd_ne hy, upd_ne hy]
        exact ho
      · have ec : cg a b = ((Nat.gcd a.natAbs b.natAbs : Nat) : Int) := if_neg (fun z => e2 (decide_eq_true z))
        refine ⟨.int a, rfl,   .int (cg a b), (by rw [ec]; rfl), a, _, rfl, rfl, div_ok hc0 hcl hm0 hm9, .ref p, rfl, p, T.C_Share, dx, [], rfl, hp, T.cl_Share, T.n_Share_num, by decide, ?_⟩
        refine ⟨.int b, rfl, .int (cg a b), (by rw [ec]; rfl), b, _, rfl, rfl, div_ok hc0 hcl hm0 hm9, .ref p, rfl, p, T.C_Share, dx, _, rfl, upd_same, T.cl_Share, T.n_Share_over, (by show 1 < 1000; decide), ?_⟩
        refine q1 hb _ (fun y o hy ho => ?_) upd_same
        rw [upd_ne hy, upd_ne hy]
        exact ho
end
/-! ### what stands apart from the well -/
/-- all that is tracked, but p -/
def hide (p : Addr) (H : Hp) : Hp := fun a => if a = p then none else H a
theorem hide_ne {p a : Addr} {H : Hp} (h : a ≠ p) : hide p H a = H a := if_neg h
theorem hide_at {p : Addr} {H : Hp} : hide p H p = none := if_pos rfl
theorem hide_sub (p : Addr) (H : Hp) : Same (hide p H) H := fun b o h => by
  by_cases e : b = p
  · rw [e, hide_at] at h
    cases h
  · rw [hide_ne e] at h
    exact h
theorem But.hid {p : Addr} {H H' : Hp} (b : But p H H') : Same (hide p H) (hide p H') := fun a o h => by
  by_cases e : a = p
  · rw [e, hide_at] at h
    cases h
  · rw [hide_ne e] at h ⊢
    exact b a o e h
theorem hid_but {p : Addr} {H H' : Hp} (s : Same (hide p H) (hide p H')) : But p H H' := fun a o e h => by
  have := s a o (by rw [hide_ne e]; exact h)
  rw [hide_ne e] at this
  exact this
theorem hide_upd {p : Addr} {H : Hp} {o : HO} : hide p (upd H p o) = hide p H := by
  funext a
  by_cases e : a = p
  · rw [e, hide_at, hide_at]
  · rw [hide_ne e, hide_ne e, upd_ne e]
theorem hid_same {p : Addr} {H H' : Hp} (s : Same H H') : Same (hide p H) (hide p H') := But.hid fun a o _ h => s a o h
theorem hid_new {p a : Addr} {H : Hp} {o u : HO} (hp : H p = some o) (n : H a = none) (h : H' a = some u) : hide p H' a = some u := by
  rw [hide_ne (fun e => by rw [e, hp] at n; cases n)]
  exact h
theorem hid_tup {p a : Addr} {H : Hp} {x : List V} {xs : List V} (hp : H p = some (.lst x)) (h : H a = some (.tup xs)) : hide p H a = some (.tup xs) := by
  rw [hide_ne (fun e => by rw [e, hp] at h; cases h)]
  exact h
theorem made_same {H H' : Hp} {a dx : Addr} {o u : HO} (n1 : H a = none) (n2 : H dx = none) (b : But a (upd (upd H dx u) a o) H') : Same H H' := fun y x h => by
  have y1 : y ≠ a := ne_of_none h n1
  exact b y x y1 (by rw [upd_ne y1, upd_ne (ne_of_none h n2)]; exact h)
/-- what a value is, as the sums look at it -/
inductive Kd where
  | oth
  | sh
  | tup (l : List Kd)
  | lst (l : List Kd)
/-- None, a truth, a number, a text, a dict -/
def Oth (H : Hp) (v : V) : Prop := v = .non ∨ (∃ b, v = .bl b) ∨ (∃ i, v = .int i) ∨ (∃ z, v = .str z) ∨ ∃ a kvs, v = .ref a ∧ H a = some (.dK kvs)
mutual
def KAt (C : Addr) (H : Hp) : Kd → V → Prop
  | .oth, v => Oth H v
  | .sh, v => ∃ p r, v = .ref p ∧ ShAt C H p r
  | .tup l, v => ∃ p xs, v = .ref p ∧ H p = some (.tup xs) ∧ KAll C H l xs
  | .lst l, v => ∃ p xs, v = .ref p ∧ H p = some (.lst xs) ∧ KAll C H l xs
def KAll (C : Addr) (H : Hp) : List Kd → List V → Prop
  | [], xs => xs = []
  | k :: l, xs => ∃ v r, xs = v :: r ∧ KAt C H k v ∧ KAll C H l r
end
mutual
theorem KAt.same {C : Addr} {H H' : Hp} (s : Same H H') : ∀ (k : Kd) {v : V}, KAt C H k v → KAt C H' k v
  | .oth, _, h => by
    rcases h with h | h | h | h | ⟨a, kvs, e, h⟩
    · exact .inl h
    · exact .inr (.inl h)
    · exact .inr (.inr (.inl h))
    · exact .inr (.inr (.inr (.inl h)))
    · exact .inr (.inr (.inr (.inr ⟨a, kvs, e, s _ _ h⟩)))
  | .sh, _, ⟨p, r, e, h⟩ => ⟨p, r, e, h.same s⟩
  | .tup l, _, ⟨p, xs, e, h, g⟩ => ⟨p, xs, e, s _ _ h, KAll.same s l g⟩
  | .lst l, _, ⟨p, xs, e, h, g⟩ => ⟨p, xs, e, s _ _ h, KAll.same s l g⟩
theorem KAll.same {C : Addr} {H H' : Hp} (s : Same H H') : ∀ (l : List Kd) {xs : List V}, KAll C H l xs → KAll C H' l xs
  | [], _, h => h
  | k :: l, _, ⟨v, r, e, h, g⟩ => ⟨v, r, e, KAt.same s k h, KAll.same s l g⟩
end
theorem KAll.len {C : Addr} {H : Hp} : ∀ {l : List Kd} {xs : List V}, KAll C H l xs → xs.length = l.length
  | [], _, h => by rw [show _ = [] from h]; rfl
  | k :: l, _, ⟨v, r, e, h, g⟩ => by rw [e]; exact congrArg Nat.succ (KAll.len g)
theorem KAll.get {C : Addr} {H : Hp} : ∀ {l : List Kd} {xs : List V}, KAll C H l xs → ∀ {i : Nat} {v : V}, xs[i]? = some v → ∃ k, l[i]? = some k ∧ KAt C H k v
  | [], _, h, i, v, e => by
    rw [show _ = [] from h] at e
    simp at e
  | k :: l, _, ⟨v, r, e, h, g⟩, 0, u, q => by
    rw [e] at q
    cases q
    exact ⟨k, rfl, h⟩
  | k :: l, _, ⟨v, r, e, h, g⟩, i + 1, u, q => by
    rw [e] at q
    exact KAll.get g (i := i) q
theorem KAll.append {C : Addr} {H : Hp} : ∀ {l m : List Kd} {xs ys : List V}, KAll C H l xs → KAll C H m ys → KAll C H (l ++ m) (xs ++ ys)
  | [], _, _, _, h, g => by rw [show _ = [] from h]; exact g
  | k :: l, _, _, _, ⟨v, r, e, h, g⟩, q => by rw [e]; exact ⟨v, _, rfl, h, KAll.append g q⟩
theorem KAll.take {C : Addr} {H : Hp} : ∀ (n : Nat) {l : List Kd} {xs : List V}, KAll C H l xs → KAll C H (l.take n) (xs.take n)
  | 0, _, _, _ => by rw [List.take_zero, List.take_zero]; rfl
  | n + 1, [], _, h => by rw [show _ = [] from h]; rfl
  | n + 1, k :: l, _, ⟨v, r, e, h, g⟩ => by rw [e]; exact ⟨v, _, rfl, h, KAll.take n g⟩
theorem KAll.drop {C : Addr} {H : Hp} : ∀ (n : Nat) {l : List Kd} {xs : List V}, KAll C H l xs → KAll C H (l.drop n) (xs.drop n)
  | 0, _, _, h => h
  | n + 1, [], _, h => by rw [show _ = [] from h]; rfl
  | n + 1, k :: l, _, ⟨v, r, e, h, g⟩ => by rw [e]; exact KAll.drop n g
def isT : Kd → Bool
  | .tup _ => true
  | _ => false
def isL : Kd → Bool
  | .lst _ => true
  | _ => false
def isS : Kd → Bool
  | .sh => true
  | _ => false
def tupN : Kd → Nat → Bool
  | .tup l, n => decide (l.length = n)
  | _, _ => false
def isRowK : Kd → Bool
  | .tup [.tup ps, l] => decide (ps.length ≤ 12) && ps.all isS && isS l
  | _ => false
def partsN : Kd → Nat
  | .tup (.tup ps :: _) => ps.length
  | _ => 0
def areK : Kd → Bool
  | .lst rows => decide (rows.length ≤ 30) && rows.all isRowK && rows.all fun r => decide (partsN r = partsN (rows.headD .oth))
  | _ => false
section
variable {P : Program} {w : World} {K : PySem.W.Frag} {mg : Str → Option Value} {base : Heap}
/-- what isinstance tells of them -/
theorem KAt.ty (T : Txt K mg) {H : Hp} : ∀ {k : Kd} {v : V}, KAt T.C_Share H k v → ∃ t, TyX K H v t ∧ PySem.W.kitOne K t (.type "tuple") = some (isT k) ∧ PySem.W.kitOne K t (.type "list") = some (isL k) ∧ PySem.W.kitOne K t (.ref T.C_Share) = some (isS k)
  | .oth, _, h => by
    rcases h with rfl | ⟨b, rfl⟩ | ⟨i, rfl⟩ | ⟨z, rfl⟩ | ⟨a, kvs, rfl, h⟩
    · exact ⟨_, .base .non, kit_ty (by decide +kernel), kit_ty (by decide +kernel), T.ki_Share_NoneType⟩
    · exact ⟨_, .base (.bl b), kit_ty (by decide +kernel), kit_ty (by decide +kernel), T.ki_Share_bool⟩
    · exact ⟨_, .base (.int i), kit_ty (by decide +kernel), kit_ty (by decide +kernel), T.ki_Share_int⟩
    · exact ⟨_, .base (.str z), kit_ty (by decide +kernel), kit_ty (by decide +kernel), T.ki_Share_str⟩
    · exact ⟨_, .base (.dK h), kit_ty (by decide +kernel), kit_ty (by decide +kernel), T.ki_Share_dict⟩
  | .sh, _, ⟨p, r, e, dx, h⟩ => by
    subst e
    exact ⟨_, tyx_ins h T.cl_Share T.is_Share, T.kj_Share_tuple, T.kj_Share_list, T.ki_Share⟩
  | .tup l, _, ⟨p, xs, e, h, g⟩ => by
    subst e
    exact ⟨_, .base (.tup h), kit_ty (show kitB "tuple" "tuple" = some true by decide +kernel), kit_ty (show kitB "tuple" "list" = some false by decide +kernel), T.ki_Share_tuple⟩
  | .lst l, _, ⟨p, xs, e, h, g⟩ => by
    subst e
    exact ⟨_, .base (.lst h), kit_ty (show kitB "list" "tuple" = some false by decide +kernel), kit_ty (show kitB "list" "list" = some true by decide +kernel), T.ki_Share_list⟩
def sp_is_tuple_of (C : Addr) : Sp := fun vs H Q _ => ∃ (v : V) (n : Nat) (k : Kd), vs = [v, .int n] ∧ KAt C H k v ∧ Q (.bl (tupN k n)) H
theorem ok_is_tuple_of (T : Txt K mg) : FnOk P w K mg base CX0 1 T.f_is_tuple_of T.fd_is_tuple_of ["thing", "many"] (sp_is_tuple_of T.C_Share) := by
  refine T.F_is_tuple_of.ok sc_is_tuple_of (fun vs H Q E h => ?_) (fun cdv A outer s H vs Q E hr h => ?_)
  · obtain ⟨v, n, k, rfl, _⟩ := h
    rfl
  · obtain ⟨v, n, k, rfl, hk, q⟩ := h
    refine ⟨_, (pss_one
 (ps_ret (pe_and (pe_callB call_isi (by rfl) T.z_isinstance (by decide +kernel) (pa_cons (pv 0) (pa_cons (pe_bltn (v := .ty "tuple") (u := .type "tuple") rfl T.z_tuple (by decide +kernel) rfl) pa_nil))) (pe_one (pe_cmpR op_eq (pe_callB call_len_seq (by rfl) T.z_len (by decide +kernel) (pa_cons (pv 0) pa_nil)) (pv 1) (nomark _)))))), ?_⟩
    obtain ⟨t, ht, k1, _⟩ := KAt.ty T hk
    refine ⟨v, rfl, v, _, t, _, isT k, rfl, .ty _, ht, k1, isT k, rfl, ?_⟩
    cases k with
    | tup l =>
      obtain ⟨p, xs, rfl, hp, ha⟩ := hk
      refine iteT ⟨.ref p, rfl, p, _, rfl, .inr (.of hp), .int n, rfl, rfl, ?_⟩
      rw [ha.len]
      have e : decide (V.int (l.length : Int) = V.int (n : Int)) = decide (l.length = n) := decide_eq_decide.mpr ⟨fun h => by have := V.int.inj h; omega, fun h => by rw [h]⟩
      rw [e]
      exact q
    | oth => exact iteF q
    | sh => exact iteF q
    | lst l => exact iteF q
end
section
variable {P : Program} {w : World} {K : PySem.W.Frag} {mg : Str → Option Value} {base : Heap}
theorem two_of_tupN : ∀ {k : Kd}, tupN k 2 = true → ∃ a b, k = .tup [a, b]
  | .tup [a, b], _ => ⟨a, b, rfl⟩
  | .tup [], h => (by cases h)
  | .tup [_], h => (by cases h)
  | .tup (_ :: _ :: _ :: _), h => (by simp [tupN] at h)
  | .oth, h => (by cases h)
  | .sh, h => (by cases h)
  | .lst _, h => (by cases h)
theorem isRowK_two {k : Kd} (h : tupN k 2 = false) : isRowK k = false := by
  unfold isRowK
  split
  · simp [tupN] at h
  · rfl
theorem isRowK_first {a b : Kd} (h : isT a = false) : isRowK (.tup [a, b]) = false := by
  cases a with
  | tup l => cases h
  | oth => rfl
  | sh => rfl
  | lst l => rfl
def sp_is_row (C : Addr) : Sp := fun vs H Q _ => ∃ (v : V) (k : Kd), vs = [v] ∧ KAt C H k v ∧ ∀ H', Same H H' → Q (.bl (isRowK k)) H'
theorem ok_is_row (T : Txt K mg) : FnOk P w K mg base CX0 2 T.f_is_row T.fd_is_row ["thing"] (sp_is_row T.C_Share) := by
  refine T.F_is_row.ok sc_is_row (fun vs H Q E h => ?_) (fun cdv A outer s H vs Q E hr h => ?_)
  · obtain ⟨v, k, rfl, _⟩ := h
    rfl
  · obtain ⟨v, k, rfl, hk, q⟩ := h
    refine ⟨_, (pss_cons
 (ps_if (PW.pt (pw_or (pt_not (pt_val (pe_call (ok_is_tuple_of T) (hr.mono (by decide)) (by rfl) T.g_is_tuple_of T.F_is_tuple_of.kp T.b_is_tuple_of .nil pass0 (pa_cons (pv 0) (pa_cons pe_int pa_nil))))) (pw_or (pt_not (pt_val (pe_callB call_isi (by rfl) T.z_isinstance (by decide +kernel) (pa_cons (pe_ix ix_tup (pv 0) pe_int (fun _ _ => rfl)) (pa_cons (pe_bltn (v := .ty "tuple") (u := .type "tuple") rfl T.z_tuple (by decide +kernel) rfl) pa_nil))))) (pw_or1 (pt_cmpR op_gt (pe_callB call_len_seq (by rfl) T.z_len (by decide +kernel) (pa_cons (pe_ix ix_tup (pv 0) pe_int (fun _ _ => rfl)) pa_nil)) (pe_glob (v := .int 12) rfl T.c_MOST_PARTS ⟨_, rfl⟩) (nomark _))))))
 (pss_one
 (ps_ret pe_bl))
 pss_nil)
 (pss_one
 (ps_ret (pe_and (pe_callB (cr_all rfl) (by rfl) T.z_all (by decide +kernel) (pa_cons (pe_lc (own := [("share", 1)]) (g := gName 1) (tt := tYes) rfl sc_is_row.nd (pi_tup (pe_ix ix_tup (pv 0) pe_int (fun _ _ => rfl))) (blkOk_by (own := [("share", 1)]) (N := ["thing", "share"]) (sc := defScope s_is_row) (by decide +kernel)) (fun _ _ _ _ _ => pg_name (i := 1) sc_is_row.nd rfl (Or.inl rfl)) (fun _ _ _ _ _ => pts_nil) (fun s0 H0 C0 cl0 fp0 => (by have h := ((pe_callB call_isi (by rfl) T.z_isinstance (by decide +kernel) (pa_cons (pv 1) (pa_cons (pe_glob (v := .ref T.C_Share) rfl T.k_Share rfl) pa_nil))) : PE ((cxOf CX0 P w K mg base ["thing", "share"] "is_row" (defScope s_is_row) T.f_is_row cdv A outer s H E).nox.blk s0 H0 (lcScope (subE (subE (rootE ((defBody s_is_row).getD 1 (.Pass ⟨0, 0, 0, 0⟩))) 0) 1)) (compEnvC (lcScope (subE (subE (rootE ((defBody s_is_row).getD 1 (.Pass ⟨0, 0, 0, 0⟩))) 0) 1)) cl0 C0 (cxOf CX0 P w K mg base ["thing", "share"] "is_row" (defScope s_is_row) T.f_is_row cdv A outer s H E).nox.env) fp0) (subE (subE (subE (rootE ((defBody s_is_row).getD 1 (.Pass ⟨0, 0, 0, 0⟩))) 0) 1) 0) _); dsimp only [Cx.blk, Cx.tr, Cx.suite, Cx.nox, Cx.wish, cxOf] at h; exact h))) pa_nil)) (pe_one (pe_callB call_isi (by rfl) T.z_isinstance (by decide +kernel) (pa_cons (pe_ix ix_tup (pv 0) pe_int (fun _ _ => rfl)) (pa_cons (pe_glob (v := .ref T.C_Share) rfl T.k_Share rfl) pa_nil)))))))), ?_⟩
    refine ⟨v, rfl, v, 2, k, rfl, hk, _, rfl, ?_⟩
    have q0 := q H (Same.refl H)
    cases h2 : tupN k 2 with
    | false =>
      rw [isRowK_two h2] at q0
      exact iteT q0
    | true =>
      obtain ⟨a, b, rfl⟩ := two_of_tupN h2
      obtain ⟨p, xs, rfl, hp, v0, r, rfl, ha, v1, r2, rfl, hb, rfl⟩ := hk
      obtain ⟨t0, ht0, k0, _⟩ := KAt.ty T ha
      refine iteF ⟨.ref p, rfl, p, _, 0, v0, rfl, rfl, .of hp, atI_nat (j := 0) rfl, v0, _, t0, _, isT a, rfl, .ty _, ht0, k0, isT a, rfl, ?_⟩
      cases a with
      | oth => exact iteT q0
      | sh => exact iteT q0
      | lst l => exact iteT q0
      | tup ps =>
        obtain ⟨p0, ys, rfl, hp0, hall⟩ := ha
        refine iteF ⟨.ref p, rfl, p, _, 0, .ref p0, rfl, rfl, .of hp, atI_nat (j := 0) rfl, p0, _, rfl, .inr (.of hp0), _, 12, rfl, rfl, _, rfl, ?_⟩
        have e12 : decide ((12 : Int) < (ys.length : Int)) = !decide (ps.length ≤ 12) := by
          rw [hall.len]
          by_cases h : ps.length ≤ 12
          · rw [decide_eq_true h, decide_eq_false (by omega)]
            rfl
          · rw [decide_eq_false h, decide_eq_true (by omega)]
            rfl
        show if decide ((12 : Int) < (ys.length : Int)) = true then _ else _
        rw [e12]
        have eR : isRowK (.tup [.tup ps, b]) = (decide (ps.length ≤ 12) && ps.all isS && isS b) := rfl
        rw [eR] at q q0
        cases l12 : decide (ps.length ≤ 12) with
        | false =>
          rw [l12] at q0
          exact iteT q0
        | true =>
          rw [l12, Bool.true_and] at q
          have l12' := of_decide_eq_true l12
          refine iteF ⟨.ref p, rfl, p, _, 0, .ref p0, rfl, rfl, .of hp, atI_nat (j := 0) rfl, p0, rfl, ⟨_, .of hp0⟩, fun D nD => ?_⟩
          refine lc_tup (K := K) (a := p0) (xs := ys) (fun i H' => Same H H' ∧ H' D = some (.lst (((ps.take i).map isS).map V.bl))) ⟨same_upd nD, upd_same⟩ (fun _ _ _ h => .of (h.1 _ _ hp0)) ?_ ?_
          · rintro i x H1 hi ⟨s1, e1⟩
            obtain ⟨kk, hkk, hx⟩ := hall.get hi
            obtain ⟨t, ht, _, _, k3⟩ := KAt.ty T (KAt.same s1 _ hx)
            refine ⟨rfl, x, rfl, x, _, t, _, isS kk, rfl, .own _, ht, k3, _, e1, ?_, same_mut s1 nD, ?_⟩
            · rw [List.length_map, List.length_map, List.length_take]
              exact small1000 (by omega)
            · rw [upd_same, take_more hkk, List.map_append, List.map_append]
              rfl
          · rintro H1 ⟨s1, e1⟩
            have el : ys.length = ps.length := hall.len
            rw [el, List.take_length] at e1
            refine ⟨D, _, rfl, .of e1, _, rfl, ?_⟩
            have ea : (ps.map isS).all id = ps.all isS := by rw [List.all_map]; rfl
            rw [ea]
            have q1 := q _ s1
            cases hs : ps.all isS with
            | false =>
              rw [hs] at q1
              exact iteF q1
            | true =>
              rw [hs, Bool.true_and] at q1
              obtain ⟨t, ht, _, _, k3⟩ := KAt.ty T (KAt.same s1 _ hb)
              exact iteT ⟨.ref p, rfl, p, _, 1, v1, rfl, rfl, .of (s1 _ _ hp), atI_nat (j := 1) rfl, v1, _, t, _, isS b, rfl, .own _, ht, k3, q1⟩
def sp_are_sums (C : Addr) : Sp := fun vs H Q _ => ∃ (v : V) (k : Kd), vs = [v] ∧ KAt C H k v ∧ ∀ H', Same H H' → Q (.bl (areK k)) H'
theorem row_first {C : Addr} {H : Hp} {k : Kd} {v : V} (hr : isRowK k = true) (h : KAt C H k v) : ∃ (p p0 : Addr) (v1 : V) (ys : List V), v = .ref p ∧ H p = some (.tup [.ref p0, v1]) ∧ H p0 = some (.tup ys) ∧ ys.length = partsN k := by
  unfold isRowK at hr
  split at hr
  · obtain ⟨p, xs, rfl, hp, v0, r, rfl, ha, v1, r2, rfl, hb, rfl⟩ := h
    obtain ⟨p0, ys, rfl, hp0, hall⟩ := ha
    exact ⟨p, p0, v1, ys, rfl, hp, hp0, hall.len⟩
  · cases hr
theorem ok_are_sums (T : Txt K mg) : FnOk P w K mg base CX0 3 T.f_are_sums T.fd_are_sums ["thing"] (sp_are_sums T.C_Share) := by
  refine T.F_are_sums.ok sc_are_sums (fun vs H Q E h => ?_) (fun cdv A outer s H vs Q E hr h => ?_)
  · obtain ⟨v, k, rfl, _⟩ := h
    rfl
  · obtain ⟨v, k, rfl, hk, q⟩ := h
    refine ⟨_, (pss_cons
 (ps_if (PW.pt (pw_or (pt_not (pt_val (pe_callB call_isi (by rfl) T.z_isinstance (by decide +kernel) (pa_cons (pv 0) (pa_cons (pe_bltn (v := .ty "list") (u := .type "list") rfl T.z_list (by decide +kernel) rfl) pa_nil))))) (pw_or1 (pt_cmpR op_gt (pe_callB call_len_seq (by rfl) T.z_len (by decide +kernel) (pa_cons (pv 0) pa_nil)) (pe_glob (v := .int 30) rfl T.c_MOST_ROWS ⟨_, rfl⟩) (nomark _)))))
 (pss_one
 (ps_ret pe_bl))
 pss_nil)
 (pss_cons
 (ps_if (pt_not (pt_val (pe_callB (cr_all rfl) (by rfl) T.z_all (by decide +kernel) (pa_cons (pe_lc (own := [("row", 1)]) (g := gName 1) (tt := tYes) rfl sc_are_sums.nd (pi_list (pv 0)) (blkOk_by (own := [("row", 1)]) (N := ["thing", "row"]) (sc := defScope s_are_sums) (by decide +kernel)) (fun _ _ _ _ _ => pg_name (i := 1) sc_are_sums.nd rfl (Or.inl rfl)) (fun _ _ _ _ _ => pts_nil) (fun _ _ _ _ _ => (pe_call (ok_is_row T) (hr.mono (by decide)) (by rfl) T.g_is_row T.F_is_row.kp T.b_is_row .nil pass0 (pa_cons (pv 1) pa_nil)))) pa_nil))))
 (pss_one
 (ps_ret pe_bl))
 pss_nil)
 (pss_one
 (ps_ret (pe_callB (cr_all rfl) (by rfl) T.z_all (by decide +kernel) (pa_cons (pe_lc (own := [("row", 1)]) (g := gName 1) (tt := tYes) rfl sc_are_sums.nd (pi_list (pv 0)) (blkOk_by (own := [("row", 1)]) (N := ["thing", "row"]) (sc := defScope s_are_sums) (by decide +kernel)) (fun _ _ _ _ _ => pg_name (i := 1) sc_are_sums.nd rfl (Or.inl rfl)) (fun _ _ _ _ _ => pts_nil) (fun s0 H0 C0 cl0 fp0 => (by have h := ((pe_cmpR op_eq (pe_callB call_len_seq (by rfl) T.z_len (by decide +kernel) (pa_cons (pe_ix ix_tup (pv 1) pe_int (fun _ _ => rfl)) pa_nil)) (pe_callB call_len_seq (by rfl) T.z_len (by decide +kernel) (pa_cons (pe_ix ix_tup (pe_ix ix_list (pv 0) pe_int (fun _ _ => rfl)) pe_int (fun _ _ => rfl)) pa_nil)) (nomark _)) : PE ((cxOf CX0 P w K mg base ["thing", "row"] "are_sums" (defScope s_are_sums) T.f_are_sums cdv A outer s H E).nox.blk s0 H0 (lcScope (subE (rootE ((defBody s_are_sums).getD 2 (.Pass ⟨0, 0, 0, 0⟩))) 1)) (compEnvC (lcScope (subE (rootE ((defBody s_are_sums).getD 2 (.Pass ⟨0, 0, 0, 0⟩))) 1)) cl0 C0 (cxOf CX0 P w K mg base ["thing", "row"] "are_sums" (defScope s_are_sums) T.f_are_sums cdv A outer s H E).nox.env) fp0) (subE (subE (rootE ((defBody s_are_sums).getD 2 (.Pass ⟨0, 0, 0, 0⟩))) 1) 0) _); dsimp only [Cx.blk, Cx.tr, Cx.suite, Cx.nox, Cx.wish, cxOf] at h; exact h))) pa_nil)))))), ?_⟩
    obtain ⟨t, ht, _, k2, _⟩ := KAt.ty T hk
    refine ⟨v, rfl, v, _, t, _, isL k, rfl, .ty _, ht, k2, isL k, rfl, ?_⟩
    have q0 := q H (Same.refl H)
    cases k with
    | oth => exact iteT q0
    | sh => exact iteT q0
    | tup l => exact iteT q0
    | lst rows =>
      obtain ⟨p, xs, rfl, hp, hall⟩ := hk
      refine iteF ⟨.ref p, rfl, p, _, rfl, .inl (.of hp), _, 30, rfl, rfl, _, rfl, ?_⟩
      have e30 : decide ((30 : Int) < (xs.length : Int)) = !decide (rows.length ≤ 30) := by
        rw [hall.len]
        by_cases h : rows.length ≤ 30
        · rw [decide_eq_true h, decide_eq_false (by omega)]
          rfl
        · rw [decide_eq_false h, decide_eq_true (by omega)]
          rfl
      show if decide ((30 : Int) < (xs.length : Int)) = true then _ else _
      rw [e30]
      have eR : areK (.lst rows) = (decide (rows.length ≤ 30) && rows.all isRowK && rows.all fun r => decide (partsN r = partsN (rows.headD .oth))) := rfl
      rw [eR] at q q0
      cases l30 : decide (rows.length ≤ 30) with
      | false =>
        rw [l30] at q0
        exact iteT q0
      | true =>
        rw [l30, Bool.true_and] at q
        have l30' := of_decide_eq_true l30
        have el : xs.length = rows.length := hall.len
        refine iteF ⟨.ref p, rfl, p, rfl, ⟨_, .of hp⟩, fun D nD => ?_⟩
        refine lc_list (K := K) (a := p) (xs := xs) (fun i H' => Same H H' ∧ H' D = some (.lst (((rows.take i).map isRowK).map V.bl))) ⟨same_upd nD, upd_same⟩ (fun _ _ _ h => .of (h.1 _ _ hp)) ?_ ?_
        · rintro i x H1 hi ⟨s1, e1⟩
          obtain ⟨kk, hkk, hx⟩ := hall.get hi
          refine ⟨rfl, x, rfl, x, kk, rfl, KAt.same s1 _ hx, fun H2 s2 => ⟨_, s2 _ _ e1, ?_, same_mut (s1.trans s2) nD, ?_⟩⟩
          · rw [List.length_map, List.length_map, List.length_take]
            exact small1000 (by omega)
          · rw [upd_same, take_more hkk, List.map_append, List.map_append]
            rfl
        · rintro H1 ⟨s1, e1⟩
          rw [el, List.take_length] at e1
          refine ⟨D, _, rfl, .of e1, _, rfl, ?_⟩
          have ea : (rows.map isRowK).all id = rows.all isRowK := by rw [List.all_map]; rfl
          rw [ea]
          cases hs : rows.all isRowK with
          | false =>
            have q1 := q _ s1
            rw [hs] at q1
            exact iteT q1
          | true =>
            rw [hs, Bool.true_and] at q
            refine iteF ⟨.ref p, rfl, p, rfl, ⟨_, .of (s1 _ _ hp)⟩, fun D2 nD2 => ?_⟩
            have every : ∀ {i : Nat} {k : Kd}, rows[i]? = some k → isRowK k = true := fun h => List.all_eq_true.mp hs _ (List.mem_of_getElem? h)
            refine lc_list (K := K) (a := p) (xs := xs) (fun i H' => Same H1 H' ∧ H' D2 = some (.lst (((rows.take i).map fun r => decide (partsN r = partsN (rows.headD .oth))).map V.bl))) ⟨same_upd nD2, upd_same⟩ (fun _ _ _ h => .of (h.1 _ _ (s1 _ _ hp))) ?_ ?_
            · rintro i x H2 hi ⟨s2, e2⟩
              have s12 := s1.trans s2
              obtain ⟨kk, hkk, hx⟩ := hall.get hi
              obtain ⟨a1, a2, a3, ys, rfl, b1, b2, b3⟩ := row_first (every hkk) hx
              have h0 : 0 < xs.length := by
                have := (List.getElem?_eq_some_iff.mp hi).1
                omega
              have g0 : xs[0]? = some xs[0] := List.getElem?_eq_getElem h0
              obtain ⟨k0, hk0, hx0⟩ := hall.get g0
              obtain ⟨c1, c2, c3, zs, ec, d1, d2, d3⟩ := row_first (every hk0) hx0
              have hd0 : rows.headD .oth = k0 := by
                cases rows with
                | nil => simp at hk0
                | cons r rs => simpa using hk0
              refine ⟨rfl, .ref a1, rfl, a1, _, 0, .ref a2, rfl, rfl, .of (s12 _ _ b1), atI_nat (j := 0) rfl, a2, _, rfl, .inr (.of (s12 _ _ b2)), .ref p, rfl, p, _, 0, .ref c1, rfl, rfl, .of (s12 _ _ hp), atI_nat (j := 0) (by rw [g0, ec]), c1, _, 0, .ref c2, rfl, rfl, .of (s12 _ _ d1), atI_nat (j := 0) rfl, c2, _, rfl, .inr (.of (s12 _ _ d2)), rfl, ?_⟩
              refine ⟨_, e2, ?_, same_mut s2 nD2, ?_⟩
              · rw [List.length_map, List.length_map, List.length_take]
                exact small1000 (by omega)
              · rw [upd_same, take_more hkk, List.map_append, List.map_append]
                have e : decide (V.int (ys.length : Int) = V.int (zs.length : Int)) = decide (partsN kk = partsN (rows.headD .oth)) := by
                  rw [hd0, b3, d3]
                  exact decide_eq_decide.mpr ⟨fun h => by have := V.int.inj h; omega, fun h => by rw [h]⟩
                rw [e]
                rfl
            · rintro H2 ⟨s2, e2⟩
              rw [el, List.take_length] at e2
              refine ⟨D2, _, rfl, .of e2, ?_⟩
              have ea : (rows.map fun r => decide (partsN r = partsN (rows.headD .oth))).all id = rows.all fun r => decide (partsN r = partsN (rows.headD .oth)) := by rw [List.all_map]; rfl
              rw [ea]
              exact q _ (s1.trans s2)
/-- sums that are none are refused -/
def BadE (C : Addr) (H : Hp) (E : XK) : Prop := ∀ (d : Addr) (fs : List (Str × V)) (H' : Hp), Same H H' → H d = none → H' d = some (.xd fs) → E (.ref C) (some d) H'
def sp_check_sums (C CB : Addr) : Sp := fun vs H Q E => ∃ (v : V) (k : Kd), vs = [v] ∧ KAt C H k v ∧ (areK k = true → ∀ H', Same H H' → Q .non H') ∧ (areK k = false → BadE CB H E)
theorem ok_check_sums (T : Txt K mg) : FnOk P w K mg base (L2.CX P w) 4 T.f_check_sums T.fd_check_sums ["sums"] (sp_check_sums T.C_Share T.C_BadSums) := by
  refine T.F_check_sums.okX sc_check_sums (fun vs H Q E h => ?_) (fun cdv A outer s H vs Q E hr h => ?_)
  · obtain ⟨v, k, rfl, _⟩ := h
    rfl
  · obtain ⟨v, k, rfl, hk, qt, qf⟩ := h
    refine ⟨_, (pss_one
 (ps_if (pt_not (pt_val (pe_call (ok_are_sums T) (hr.mono (by decide)) (by rfl) T.g_are_sums T.F_are_sums.kp T.b_are_sums .nil pass0 (pa_cons (pv 0) pa_nil))))
 (pss_one
 (ps_raise rfl (takes_of rfl rfl rfl rfl) (px_pos T.ex_BadSums (ok_PollError_init T) (hr.mono (by decide)) (by rfl) T.k_BadSums T.kb_PollError_init_2 (fun σ => at0 σ) (pa_cons pe_str pa_nil))))
 pss_nil)), ?_⟩
    refine ⟨v, rfl, v, k, rfl, hk, fun H1 s1 => ⟨_, rfl, ?_⟩⟩
    cases ha : areK k with
    | true => exact iteF (qt ha _ s1)
    | false =>
      refine iteT ⟨rfl, rfl, by decide, fun x nx => ⟨x, T.C_BadSums, _, rfl, upd_same, T.ox_BadSums, T.nf_BadSums_why, fun dx n1 n2 => ⟨rfl, dx, _, upd_same, by rw [upd_ne n2, upd_same], ?_, ?_⟩⟩⟩
      · rw [upd_ne n2] at n1
        exact n1
      · rw [upd_ne n2] at n1
        refine qf ha dx _ _ (s1.trans fun y o ho => ?_) (s1.free n1) upd_same
        have y1 : y ≠ dx := ne_of_none ho n1
        have y2 : y ≠ x := ne_of_none ho nx
        rw [upd_ne y1, del_ne y2, upd_ne y2, upd_ne y1, upd_ne y2]
        exact ho
def sp_refused1 (C CB : Addr) : Sp := fun vs H Q E => ∃ (v m : V) (k : Kd), vs = [v, m] ∧ KAt C H k v ∧ areK k = false ∧ BadE CB H E
def sp_refused2 (C CB : Addr) : Sp := fun vs H Q E => ∃ (v u m : V) (k : Kd), vs = [v, u, m] ∧ KAt C H k v ∧ areK k = false ∧ BadE CB H E
theorem ok_met_by (T : Txt K mg) : FnOk P w K mg base (L2.CX P w) 5 T.f_met_by T.fd_met_by ["sums", "many"] (sp_refused1 T.C_Share T.C_BadSums) := by
  refine T.F_met_by.ok (CX := L2.CX P w) sc_met_by (fun vs H Q E h => ?_) (fun cdv A outer s H vs Q E hr h => ?_)
  · obtain ⟨v, m, k, rfl, _⟩ := h
    rfl
  · obtain ⟨v, m, k, rfl, hk, ha, q⟩ := h
    refine ⟨_, (pss_cons
 (ps_expr (pf_pos (ok_check_sums T) (hr.mono (by decide)) (by rfl) T.g_check_sums T.F_check_sums.kp T.kb_check_sums_1 (fun σ => atE (takes_of rfl rfl rfl rfl) σ) (pa_cons (pv 0) pa_nil)))
 (pss_cons
 ps_never
 (pss_cons
 ps_never
 (pss_cons
 ps_never
 (pss_one
 ps_never))))), ?_⟩
    exact ⟨v, rfl, rfl, rfl, v, k, rfl, hk, fun z => (by rw [ha] at z; cases z), fun _ => q⟩
theorem ok_unmet (T : Txt K mg) : FnOk P w K mg base (L2.CX P w) 5 T.f_unmet T.fd_unmet ["sums", "many"] (sp_refused1 T.C_Share T.C_BadSums) := by
  refine T.F_unmet.ok (CX := L2.CX P w) sc_unmet (fun vs H Q E h => ?_) (fun cdv A outer s H vs Q E hr h => ?_)
  · obtain ⟨v, m, k, rfl, _⟩ := h
    rfl
  · obtain ⟨v, m, k, rfl, hk, ha, q⟩ := h
    refine ⟨_, (pss_cons
 (ps_expr (pf_pos (ok_check_sums T) (hr.mono (by decide)) (by rfl) T.g_check_sums T.F_check_sums.kp T.kb_check_sums_1 (fun σ => atE (takes_of rfl rfl rfl rfl) σ) (pa_cons (pv 0) pa_nil)))
 (pss_cons
 ps_never
 (pss_cons
 ps_never
 (pss_cons
 ps_never
 (pss_cons
 ps_never
 (pss_cons
 ps_never
 (pss_cons
 ps_never
 (pss_one
 ps_never)))))))), ?_⟩
    exact ⟨v, rfl, rfl, rfl, v, k, rfl, hk, fun z => (by rw [ha] at z; cases z), fun _ => q⟩
theorem ok_shows_met (T : Txt K mg) : FnOk P w K mg base (L2.CX P w) 5 T.f_shows_met T.fd_shows_met ["sums", "paper", "many"] (sp_refused2 T.C_Share T.C_BadSums) := by
  refine T.F_shows_met.ok (CX := L2.CX P w) sc_shows_met (fun vs H Q E h => ?_) (fun cdv A outer s H vs Q E hr h => ?_)
  · obtain ⟨v, u, m, k, rfl, _⟩ := h
    rfl
  · obtain ⟨v, u, m, k, rfl, hk, ha, q⟩ := h
    refine ⟨_, (pss_cons
 (ps_expr (pf_pos (ok_check_sums T) (hr.mono (by decide)) (by rfl) T.g_check_sums T.F_check_sums.kp T.kb_check_sums_1 (fun σ => atE (takes_of rfl rfl rfl rfl) σ) (pa_cons (pv 0) pa_nil)))
 (pss_cons
 ps_never
 (pss_one
 ps_never))), ?_⟩
    exact ⟨v, rfl, rfl, rfl, v, k, rfl, hk, fun z => (by rw [ha] at z; cases z), fun _ => q⟩
theorem ok_shows_unmet (T : Txt K mg) : FnOk P w K mg base (L2.CX P w) 5 T.f_shows_unmet T.fd_shows_unmet ["sums", "paper", "many"] (sp_refused2 T.C_Share T.C_BadSums) := by
  refine T.F_shows_unmet.ok (CX := L2.CX P w) sc_shows_unmet (fun vs H Q E h => ?_) (fun cdv A outer s H vs Q E hr h => ?_)
  · obtain ⟨v, u, m, k, rfl, _⟩ := h
    rfl
  · obtain ⟨v, u, m, k, rfl, hk, ha, q⟩ := h
    refine ⟨_, (pss_cons
 (ps_expr (pf_pos (ok_check_sums T) (hr.mono (by decide)) (by rfl) T.g_check_sums T.F_check_sums.kp T.kb_check_sums_1 (fun σ => atE (takes_of rfl rfl rfl rfl) σ) (pa_cons (pv 0) pa_nil)))
 (pss_cons
 ps_never
 (pss_cons
 ps_never
 (pss_cons
 ps_never
 (pss_one
 ps_never))))), ?_⟩
    exact ⟨v, rfl, rfl, rfl, v, k, rfl, hk, fun z => (by rw [ha] at z; cases z), fun _ => q⟩
end
/-! ### what the law draws -/
theorem slX_of {K : PySem.W.Frag} {H : Hp} {a : Addr} {xs : List V} {lo hi : Option Int} {Q : VK} (h : H a = some (.tup xs)) (c : ∀ (s : Addr) (H' : Hp), H' s = some (.tup (cutV xs lo hi)) → Same H H' → Q (.ref s) H') : rSlA K (.ref a) lo hi H Q := by
  refine ⟨a, xs, rfl, .of h, fun e => c a H ?_ (Same.refl _), fun _ s ns => c s _ upd_same (same_upd ns)⟩
  have e2 : cutV xs lo hi = xs := by
    unfold cutV
    rw [e.1, e.2, List.drop_zero, Nat.sub_zero, List.take_length]
  rw [e2]
  exact h
theorem catA_of {K : PySem.W.Frag} {H : Hp} {a b : Addr} {xs ys : List V} {Q : VK} (ha : H a = some (.tup xs)) (hb : H b = some (.tup ys)) (hz : xs.length + ys.length ≤ 1000) (c : ∀ (s : Addr) (H' : Hp), H' s = some (.tup (xs ++ ys)) → Same H H' → Q (.ref s) H') : rCatA K (.ref a) (.ref b) H Q := by
  refine ⟨a, b, xs, ys, rfl, rfl, .of ha, .of hb, line_of hz, fun e => ?_, fun _ e => ?_, fun _ _ s ns => c s _ upd_same (same_upd ns)⟩
  · refine c b H ?_ (Same.refl _)
    rw [e]
    exact hb
  · refine c a H ?_ (Same.refl _)
    rw [e, List.append_nil]
    exact ha
theorem cut_from {xs : List V} {k : Nat} (h : k ≤ xs.length) : cutV xs (some (k : Int)) none = xs.drop k := by
  unfold cutV
  rw [HT.sIx_nat, HT.sIx_none, Nat.min_eq_left h, List.take_of_length_le (by rw [List.length_drop]; exact Nat.le_refl _)]
theorem cut_to {xs : List V} {k : Nat} (h : k ≤ xs.length) : cutV xs none (some (k : Int)) = xs.take k := by
  unfold cutV
  rw [HT.sIx_nat, HT.sIx_none, Nat.min_eq_left h, List.drop_zero, Nat.sub_zero]
/-- as H stood, but for the well p, which holds y -/
def On (p : Addr) (H : Hp) (y : List V) (Hc : Hp) : Prop := Same (hide p H) (hide p Hc) ∧ Hc p = some (.lst y)
theorem On.start {p : Addr} {H : Hp} {y : List V} (h : H p = some (.lst y)) : On p H y H := ⟨Same.refl _, h⟩
theorem On.same {p : Addr} {H Hc H' : Hp} {y : List V} (o : On p H y Hc) (s : Same Hc H') : On p H y H' := ⟨o.1.trans (hid_same s), s _ _ o.2⟩
theorem On.new {p q : Addr} {H Hc : Hp} {y : List V} {u : HO} (o : On p H y Hc) (n : Hc q = none) : On p H y (upd Hc q u) := o.same (same_upd n)
theorem On.put {p : Addr} {H Hc : Hp} {y z : List V} (o : On p H y Hc) : On p H z (upd Hc p (.lst z)) := ⟨by rw [hide_upd]; exact o.1, upd_same⟩
theorem On.trans {p : Addr} {H H1 H2 : Hp} {y z : List V} (o : On p H y H1) (c : On p H1 z H2) : On p H z H2 := ⟨o.1.trans c.1, c.2⟩
theorem On.hid {p q : Addr} {H Hc : Hp} {y : List V} {u : HO} (o : On p H y Hc) (n : Hc q = none) : hide p (upd Hc q u) q = some u := hid_new o.2 n upd_same
theorem On.free {p q : Addr} {H Hc : Hp} {y : List V} {u : HO} (o : On p H y Hc) (h : H p = some u) (n : Hc q = none) : H q = none := by
  have e : q ≠ p := fun z => by rw [z, o.2] at n; cases n
  cases g : H q with
  | none => rfl
  | some b =>
    have z := hide_sub p Hc q b (o.1 q b (by rw [hide_ne e]; exact g))
    rw [z] at n
    cases n
/-- a list made meanwhile is changed -/
theorem On.lstD {p D : Addr} {H Hc : Hp} {y : List V} {o : HO} (h : On p H y Hc) (n : H D = none) (d : D ≠ p) : On p H y (upd Hc D o) := by
  refine ⟨fun a u g => ?_, by rw [upd_ne d.symm]; exact h.2⟩
  have ap : a ≠ p := fun e => by rw [e, hide_at] at g; cases g
  have z := h.1 a u g
  rw [hide_ne ap] at z g ⊢
  rw [upd_ne (ne_of_none g n)]
  exact z
theorem hide_put {p q : Addr} {H : Hp} {o : HO} (h : q ≠ p) : hide p (upd H q o) = upd (hide p H) q o := by
  funext a
  by_cases e : a = p
  · rw [e, hide_at, upd_ne h.symm, hide_at]
  · rw [hide_ne e]
    by_cases e3 : a = q
    · rw [e3, upd_same, upd_same]
    · rw [upd_ne e3, upd_ne e3, hide_ne e]
mutual
/-- no list in it -/
def NoL : Kd → Prop
  | .oth => True
  | .sh => True
  | .tup l => NoLs l
  | .lst _ => False
def NoLs : List Kd → Prop
  | [] => True
  | k :: l => NoL k ∧ NoLs l
end
mutual
theorem KAt.put {C D : Addr} {H : Hp} {xs : List V} {o : HO} (h : H D = some (.lst xs)) : ∀ (k : Kd) {v : V}, NoL k → KAt C H k v → KAt C (upd H D o) k v
  | .oth, _, _, g => by
    rcases g with g | g | g | g | ⟨a, kvs, e, g⟩
    · exact .inl g
    · exact .inr (.inl g)
    · exact .inr (.inr (.inl g))
    · exact .inr (.inr (.inr (.inl g)))
    · exact .inr (.inr (.inr (.inr ⟨a, kvs, e, (upd_ne (fun z => by rw [z, h] at g; cases g)).trans g⟩)))
  | .sh, _, _, ⟨p, r, e, dx, g⟩ => ⟨p, r, e, dx, (upd_ne (fun z => by rw [z, h] at g; cases g)).trans g⟩
  | .tup l, _, n, ⟨p, ys, e, g, c⟩ => ⟨p, ys, e, (upd_ne (fun z => by rw [z, h] at g; cases g)).trans g, KAll.put h l n c⟩
  | .lst _, _, n, _ => n.elim
theorem KAll.put {C D : Addr} {H : Hp} {xs : List V} {o : HO} (h : H D = some (.lst xs)) : ∀ (l : List Kd) {ys : List V}, NoLs l → KAll C H l ys → KAll C (upd H D o) l ys
  | [], _, _, g => g
  | k :: l, _, n, ⟨v, r, e, g, c⟩ => ⟨v, r, e, KAt.put h k n.1 g, KAll.put h l n.2 c⟩
end
theorem NoLs.rep {k : Kd} (h : NoL k) : ∀ n, NoLs (List.replicate n k)
  | 0 => trivial
  | n + 1 => ⟨h, NoLs.rep h n⟩
theorem rep_more {α : Type} (n : Nat) (a : α) : List.replicate (n + 1) a = List.replicate n a ++ [a] := List.replicate_succ'
/-- a comprehension's turn: the item is put behind -/
theorem comp_put {C D p : Addr} {H : Hp} {xs : List V} {v : V} {k : Kd} {i : Nat} (h1 : hide p H D = some (.lst xs)) (n : NoL k) (a : KAll C (hide p H) (List.replicate i k) xs) (b : KAt C (hide p H) k v) :
    D ≠ p ∧ H D = some (.lst xs) ∧ hide p (upd H D (.lst (xs ++ [v]))) D = some (.lst (xs ++ [v])) ∧ KAll C (hide p (upd H D (.lst (xs ++ [v])))) (List.replicate (i + 1) k) (xs ++ [v]) := by
  have Dp : D ≠ p := fun e => by rw [e, hide_at] at h1; cases h1
  refine ⟨Dp, hide_sub _ _ _ _ h1, by rw [hide_put Dp, upd_same], ?_⟩
  rw [hide_put Dp, rep_more]
  exact (KAll.put h1 _ (NoLs.rep n i) a).append ⟨v, [], rfl, KAt.put h1 _ n b, rfl⟩
def rowK (n : Nat) : Kd := .tup [.tup (List.replicate n .sh), .sh]
section
variable {P : Program} {w : World} {K : PySem.W.Frag} {mg : Str → Option Value} {base : Heap}
def sp_law_one : Sp := fun vs H Q _ => ∃ (p q : Addr) (x xs : List V) (k : Nat), vs = [.ref p, .ref q] ∧ H p = some (.lst x) ∧ hide p H q = some (.lst xs) ∧ xs ≠ [] ∧ xs.length ≤ 1000 ∧ WellL x k ∧ k ≤ 900000 ∧
  ∀ (i : Nat) (v : V) (y : List V), xs[i]? = some v → WellL y (k + 1) → Q v (upd H p (.lst y))
theorem ok_law_one (T : Txt K mg) : FnOk P w K mg base CX0 2 T.f_law_one T.fd_law_one ["_law_well_here", "_law_some"] sp_law_one := by
  refine T.F_law_one.ok sc_law_one (fun vs H Q E h => ?_) (fun cdv A outer s H vs Q E hr h => ?_)
  · obtain ⟨p, q, x, xs, k, rfl, _⟩ := h
    rfl
  · obtain ⟨p, q, x, xs, k, rfl, hp, hq, hne, hl, wx, hk, c⟩ := h
    refine ⟨_, (pss_one
 (ps_ret (pe_ix ix_list (pv 1) (pe_call (ok_law_draw T) (hr.mono (by decide)) (by rfl) T.g_law_draw T.F_law_draw.kp T.b_law_draw .nil pass0 (pa_cons (pv 0) (pa_cons (pe_callB call_len_seq (by rfl) T.z_len (by decide +kernel) (pa_cons (pv 1) pa_nil)) pa_nil))) (fun _ _ => rfl)))), ?_⟩
    have hq0 := hide_sub p H _ _ hq
    have qp : q ≠ p := fun e => by rw [e, hide_at] at hq; cases hq
    have pos : 0 < xs.length := List.length_pos_iff.mpr hne
    refine ⟨.ref q, rfl, .ref p, rfl, .ref q, rfl, q, _, rfl, .inl (.of hq0), p, _, x, k, rfl, hp, wx, by omega, by omega, size_ok (by omega) (by omega), fun d y d0 d1 wy => ?_⟩
    obtain ⟨j, rfl⟩ := Int.eq_ofNat_of_zero_le d0
    have hj : j < xs.length := by omega
    exact ⟨q, xs, _, xs[j], rfl, rfl, .of (by rw [upd_ne qp]; exact hq0), atI_nat (List.getElem?_eq_getElem hj), c j _ y (List.getElem?_eq_getElem hj) wy⟩
def sp_law_share (C : Addr) : Sp := fun vs H Q _ => ∃ (p : Addr) (x : List V) (k : Nat), vs = [.ref p] ∧ H p = some (.lst x) ∧ WellL x k ∧ k ≤ 900000 ∧
  ∀ (v : V) (y : List V) (H' : Hp), On p H y H' → WellL y (k + 2) → KAt C (hide p H') .sh v → Q v H'
theorem ok_law_share (T : Txt K mg) : FnOk P w K mg base CX0 6 T.f_law_share T.fd_law_share ["_law_well_here"] (sp_law_share T.C_Share) := by
  refine T.F_law_share.ok sc_law_share (fun vs H Q E h => ?_) (fun cdv A outer s H vs Q E hr h => ?_)
  · obtain ⟨p, x, k, rfl, _⟩ := h
    rfl
  · obtain ⟨p, x, k, rfl, hp, wx, hk, c⟩ := h
    refine ⟨_, (pss_one
 (ps_ret (pc_pos T.mk_Share (ok_Share_init T) (hr.mono (by decide)) (by rfl) T.k_Share T.kb_Share_init_3 (fun σ => atN σ) (pa_cons (pe_op op_sub (pe_call (ok_law_draw T) (hr.mono (by decide)) (by rfl) T.g_law_draw T.F_law_draw.kp T.b_law_draw .nil pass0 (pa_cons (pv 0) (pa_cons pe_int pa_nil))) pe_int) (pa_cons (pe_op op_add pe_int (pe_call (ok_law_draw T) (hr.mono (by decide)) (by rfl) T.g_law_draw T.F_law_draw.kp T.b_law_draw .nil pass0 (pa_cons (pv 0) (pa_cons pe_int pa_nil)))) pa_nil))))), ?_⟩
    refine ⟨.ref p, rfl, p, 9, x, k, rfl, hp, wx, by omega, by decide, size_ok (by decide) (by decide), fun d1 y1 a1 b1 w1 => ?_⟩
    refine ⟨_, 4, rfl, rfl, .ref p, rfl, p, 4, y1, _, rfl, upd_same, w1, by omega, by decide, size_ok (by decide) (by decide), fun d2 y2 a2 b2 w2 => ?_⟩
    refine ⟨1, d2, rfl, rfl, rfl, rfl, fun a dx n1 n2 n3 => ?_⟩
    refine ⟨a, dx, d1 - 4, 1 + d2, 9, rfl, upd_same, by omega, by decide, by decide, fun z => absurd z (by omega), fun _ H7 b7 e7 => ⟨rfl, ?_⟩⟩
    have s7 := made_same n1 n2 b7
    have o2 : On p H y2 (upd (upd H p (.lst y1)) p (.lst y2)) := (On.start hp).put.put
    refine c _ y2 _ (o2.same s7) w2 ⟨a, low (d1 - 4) (1 + d2), rfl, dx, ?_⟩
    exact hid_new o2.2 n1 e7
def sp_law_row (C : Addr) : Sp := fun vs H Q _ => ∃ (p : Addr) (n : Nat) (x : List V) (k : Nat), vs = [.ref p, .int n] ∧ n ≤ 13 ∧ H p = some (.lst x) ∧ WellL x k ∧ k ≤ 800000 ∧
  ∀ (v : V) (y : List V) (H' : Hp), On p H y H' → WellL y (k + 30) → KAt C (hide p H') (rowK n) v → Q v H'
theorem ok_law_row (T : Txt K mg) : FnOk P w K mg base CX0 7 T.f_law_row T.fd_law_row ["_law_well_here", "_law_size"] (sp_law_row T.C_Share) := by
  refine T.F_law_row.ok sc_law_row (fun vs H Q E h => ?_) (fun cdv A outer s H vs Q E hr h => ?_)
  · obtain ⟨p, n, x, k, rfl, _⟩ := h
    rfl
  · obtain ⟨p, n, x, k, rfl, hn, hp, wx, hk, c⟩ := h
    refine ⟨_, (pss_one
 (ps_ret (pe_tup (pa_cons (pe_callTy call_tuple_of (by rfl) T.z_tuple (by decide +kernel) (pa_cons (pe_lc (own := [("_law_k", 2)]) (g := gName 2) (tt := tYes) rfl sc_law_row.nd (pi_range1 rfl T.z_range (pa_cons (pv 1) pa_nil)) (blkOk_by (own := [("_law_k", 2)]) (N := ["_law_well_here", "_law_size", "_law_k"]) (sc := defScope s_law_row) (by decide +kernel)) (fun _ _ _ _ _ => pg_name (i := 2) sc_law_row.nd rfl (Or.inl rfl)) (fun _ _ _ _ _ => pts_nil) (fun _ _ _ _ _ => (pe_call (ok_law_share T) (hr.mono (by decide)) (by rfl) T.g_law_share T.F_law_share.kp T.b_law_share .nil pass0 (pa_cons (pv 0) pa_nil)))) pa_nil)) (pa_cons (pe_call (ok_law_share T) (hr.mono (by decide)) (by rfl) T.g_law_share T.F_law_share.kp T.b_law_share .nil pass0 (pa_cons (pv 0) pa_nil)) pa_nil))))), ?_⟩
    refine ⟨.int n, rfl, n, rfl, by omega, by omega, fun D nD => ?_⟩
    have oD : On p H x (upd H D (.lst [])) := (On.start hp).new nD
    refine lc_range (lo := 0) (n := (n : Int).toNat) (fun i H' => ∃ (xs y : List V), On p H y H' ∧ WellL y (k + 2 * i) ∧ hide p H' D = some (.lst xs) ∧ KAll T.C_Share (hide p H') (List.replicate i .sh) xs) ⟨[], x, oD, wx.mono (by omega), (On.start hp).hid nD, rfl⟩ ?_ ?_
    · rintro i H1 hi ⟨xs, y, o1, w1, h1, a1⟩
      refine ⟨rfl, .ref p, rfl, p, y, _, rfl, o1.2, w1, by omega, fun v y2 H2 o2 w2 a2 => ?_⟩
      obtain ⟨Dp, g1, g2, g3⟩ := comp_put (k := .sh) (o2.1 _ _ h1) trivial (KAll.same o2.1 _ a1) a2
      exact ⟨xs, g1, small1000 (by rw [a1.len, List.length_replicate]; omega), _, y2, (o1.trans o2).lstD nD Dp, w2.mono (by omega), g2, g3⟩
    · rintro H1 ⟨xs, y, o1, w1, h1, a1⟩
      refine ⟨D, _, rfl, .inl ⟨.of (hide_sub _ _ _ _ h1), fun t nt => ?_⟩⟩
      have o2 := o1.new (u := HO.tup xs) nt
      have ht := o1.hid (u := HO.tup xs) nt
      have a2 := KAll.same (hid_same (same_upd (o := HO.tup xs) nt)) _ a1
      refine ⟨.ref p, rfl, p, y, _, rfl, o2.2, w1, by omega, fun v y2 H2 o3 w2 a3 => ⟨line_of (show 2 ≤ 1000 by decide), fun u nu => ?_⟩⟩
      have o4 := o2.trans o3
      have s4 := o3.1.trans (hid_same (same_upd (o := HO.tup [V.ref t, v]) nu))
      refine c _ y2 _ (o4.new nu) (w2.mono (by omega)) ⟨u, _, rfl, o4.hid nu, _, _, rfl, ⟨t, xs, rfl, s4 _ _ ht, ?_⟩, _, _, rfl, KAt.same (hid_same (same_upd nu)) _ a3, rfl⟩
      exact KAll.same s4 _ a2
end
theorem shK {C p a dx : Addr} {H Hc H1 : Hp} {y : List V} {o u : HO} {r : Int × Int} (c : On p H y Hc) (n1 : Hc a = none) (n2 : Hc dx = none) (b : But a (upd (upd Hc dx u) a o) H1) (e : H1 a = some (.ins C dx (shF r))) :
    On p H y H1 ∧ Same (hide p Hc) (hide p H1) ∧ KAt C (hide p H1) .sh (.ref a) :=
  have s := made_same n1 n2 b
  ⟨c.same s, hid_same s, a, r, rfl, dx, hid_new c.2 n1 e⟩
theorem tupK {C p t : Addr} {H Hc : Hp} {y xs : List V} {l : List Kd} (c : On p H y Hc) (n : Hc t = none) (a : KAll C (hide p Hc) l xs) :
    On p H y (upd Hc t (.tup xs)) ∧ Same (hide p Hc) (hide p (upd Hc t (.tup xs))) ∧ KAt C (hide p (upd Hc t (.tup xs))) (.tup l) (.ref t) :=
  have s := hid_same (p := p) (same_upd (o := HO.tup xs) n)
  ⟨c.new n, s, t, xs, rfl, c.hid n, KAll.same s _ a⟩
theorem lstK {C p t : Addr} {H Hc : Hp} {y xs : List V} {l : List Kd} (c : On p H y Hc) (n : Hc t = none) (a : KAll C (hide p Hc) l xs) :
    On p H y (upd Hc t (.lst xs)) ∧ Same (hide p Hc) (hide p (upd Hc t (.lst xs))) ∧ KAt C (hide p (upd Hc t (.lst xs))) (.lst l) (.ref t) :=
  have s := hid_same (p := p) (same_upd (o := HO.lst xs) n)
  ⟨c.new n, s, t, xs, rfl, c.hid n, KAll.same s _ a⟩
theorem oI {C : Addr} {H : Hp} (i : Int) : KAt C H .oth (.int i) := .inr (.inr (.inl ⟨i, rfl⟩))
theorem oN {C : Addr} {H : Hp} : KAt C H .oth .non := .inl rfl
theorem oB {C : Addr} {H : Hp} (b : Bool) : KAt C H .oth (.bl b) := .inr (.inl ⟨b, rfl⟩)
theorem oS {C : Addr} {H : Hp} (z : Str) : KAt C H .oth (.str z) := .inr (.inr (.inr (.inl ⟨z, rfl⟩)))
theorem ka0 {C : Addr} {H : Hp} : KAll C H [] [] := rfl
theorem ka1 {C : Addr} {H : Hp} {k : Kd} {v : V} {l : List Kd} {xs : List V} (a : KAt C H k v) (b : KAll C H l xs) : KAll C H (k :: l) (v :: xs) := ⟨v, xs, rfl, a, b⟩
theorem puts {p : Addr} {G Hc : Hp} {o : HO} (s : Same G (hide p Hc)) : Same G (hide p (upd Hc p o)) := by
  rw [hide_upd]
  exact s
theorem KAt.puts {C p : Addr} {Hc : Hp} {o : HO} {k : Kd} {v : V} (s : KAt C (hide p Hc) k v) : KAt C (hide p (upd Hc p o)) k v := by
  rw [hide_upd]
  exact s
/-- no row of n parts -/
def bad (n : Nat) (k : Kd) : Prop := isRowK k = false ∨ partsN k ≠ n
theorem bad_sh : ∀ n, isRowK (.tup (List.replicate n .sh)) = false
  | 0 => rfl
  | 1 => rfl
  | 2 => rfl
  | _ + 3 => rfl
def odds : List Kd := [.oth, .oth, .oth, .oth, .oth, .tup [.sh], .lst [.sh], .tup [.oth, .oth]]
def oddq : List Kd := [.oth, .oth, .oth, .oth, .lst [.sh], .tup [.oth, .oth]]
theorem odds_no : odds.all (fun k => !isS k && !isRowK k) = true := rfl
theorem oddq_no : oddq.all (fun k => !isRowK (.tup [k, .sh])) = true := rfl
theorem row_last {P o : Kd} (h : isS o = false) : isRowK (.tup [P, o]) = false := by
  cases P with
  | tup ps => show (decide (ps.length ≤ 12) && ps.all isS && isS o) = false; rw [h, Bool.and_false]
  | oth => rfl
  | sh => rfl
  | lst l => rfl
theorem row_part {ps : List Kd} {l o : Kd} (h : o ∈ ps) (e : isS o = false) : isRowK (.tup [.tup ps, l]) = false := by
  have z : ps.all isS = false := by
    rw [Bool.eq_false_iff]
    intro q
    rw [List.all_eq_true.mp q o h] at e
    cases e
  show (decide (ps.length ≤ 12) && ps.all isS && isS l) = false
  rw [z, Bool.and_false, Bool.false_and]
section
variable {P : Program} {w : World} {K : PySem.W.Frag} {mg : Str → Option Value} {base : Heap}
def sp_law_bent (C : Addr) : Sp := fun vs H Q _ => ∃ (p : Addr) (v : V) (n : Nat) (x : List V) (k : Nat), vs = [.ref p, v] ∧ n ≤ 12 ∧ H p = some (.lst x) ∧ KAt C (hide p H) (rowK n) v ∧ WellL x k ∧ k ≤ 800000 ∧
  ∀ (u : V) (kd : Kd) (y : List V) (H' : Hp), On p H y H' → WellL y (k + 10) → KAt C (hide p H') kd u → bad n kd → Q u H'
theorem ok_law_bent (T : Txt K mg) : FnOk P w K mg base CX0 6 T.f_law_bent T.fd_law_bent ["_law_well_here", "_law_row_here"] (sp_law_bent T.C_Share) := by
  refine T.F_law_bent.ok sc_law_bent (fun vs H Q E h => ?_) (fun cdv A outer s H vs Q E hr h => ?_)
  · obtain ⟨p, v, n, x, k, rfl, _⟩ := h
    rfl
  · obtain ⟨p, v, n, x, k, rfl, hn, hp, hv, wx, hk, c⟩ := h
    refine ⟨_, (pss_cons
 (ps_asg (pv 1) (pg_tup rfl (pgs_cons (pg_name (i := 2) sc_law_bent.nd rfl (Or.inl rfl)) (pgs_cons (pg_name (i := 3) sc_law_bent.nd rfl (Or.inl rfl)) pgs_nil))))
 (pss_cons
 (ps_set (i := 4) sc_law_bent.nd rfl (Or.inl rfl) (pe_call (ok_law_one T) (hr.mono (by decide)) (by rfl) T.g_law_one T.F_law_one.kp T.b_law_one .nil pass0 (pa_cons (pv 0) (pa_cons (pe_lst (pa_cons pe_int (pa_cons pe_int (pa_cons pe_non (pa_cons pe_bl (pa_cons pe_str (pa_cons (pe_tup (pa_cons (pc_pos T.mk_Share (ok_Share_init T) (hr.mono (by decide)) (by rfl) T.k_Share T.kb_Share_init_2 (fun σ => atN σ) (pa_cons pe_int pa_nil)) pa_nil)) (pa_cons (pe_lst (pa_cons (pc_pos T.mk_Share (ok_Share_init T) (hr.mono (by decide)) (by rfl) T.k_Share T.kb_Share_init_2 (fun σ => atN σ) (pa_cons pe_int pa_nil)) pa_nil)) (pa_cons (pe_tup (pa_cons pe_int (pa_cons pe_int pa_nil))) pa_nil))))))))) pa_nil))))
 (pss_cons
 (ps_set (i := 5) sc_law_bent.nd rfl (Or.inl rfl) (pe_lst (pa_cons (pe_tup (pa_cons (pv 2) (pa_cons (pv 4) pa_nil))) (pa_cons (pe_tup (pa_cons (pe_callTy call_list_of (by rfl) T.z_list (by decide +kernel) (pa_cons (pv 2) pa_nil)) (pa_cons (pv 3) pa_nil))) (pa_cons (pe_tup (pa_cons (pv 2) pa_nil)) (pa_cons (pe_tup (pa_cons (pv 2) (pa_cons (pv 3) (pa_cons (pv 3) pa_nil)))) (pa_cons (pe_lst (pa_cons (pv 2) (pa_cons (pv 3) pa_nil))) (pa_cons pe_non (pa_cons (pv 2) (pa_cons (pv 4) pa_nil))))))))))
 (pss_cons
 (ps_set (i := 6) sc_law_bent.nd rfl (Or.inl rfl) (pe_call (ok_law_one T) (hr.mono (by decide)) (by rfl) T.g_law_one T.F_law_one.kp T.b_law_one .nil pass0 (pa_cons (pv 0) (pa_cons (pe_lst (pa_cons pe_int (pa_cons pe_non (pa_cons pe_bl (pa_cons pe_str (pa_cons (pe_lst (pa_cons (pc_pos T.mk_Share (ok_Share_init T) (hr.mono (by decide)) (by rfl) T.k_Share T.kb_Share_init_2 (fun σ => atN σ) (pa_cons pe_int pa_nil)) pa_nil)) (pa_cons (pe_tup (pa_cons pe_int (pa_cons pe_int pa_nil))) pa_nil))))))) pa_nil))))
 (pss_cons
 (ps_set (i := 5) sc_law_bent.nd rfl (Or.inl rfl) (pe_op op_cat (pv 5) (pe_lst (pa_cons (pe_tup (pa_cons (pe_op op_catA (pv 2) (pe_tup (pa_cons (pc_pos T.mk_Share (ok_Share_init T) (hr.mono (by decide)) (by rfl) T.k_Share T.kb_Share_init_2 (fun σ => atN σ) (pa_cons pe_int pa_nil)) pa_nil))) (pa_cons (pv 3) pa_nil))) (pa_cons (pe_tup (pa_cons (pv 6) (pa_cons (pv 3) pa_nil))) pa_nil)))))
 (pss_cons
 (ps_if (pt_cmpR (op_neE hr.units) (pv 2) (pe_tup pa_nil) (nomark _))
 (pss_cons
 (ps_set (i := 7) sc_law_bent.nd rfl (Or.inl rfl) (pe_call (ok_law_draw T) (hr.mono (by decide)) (by rfl) T.g_law_draw T.F_law_draw.kp T.b_law_draw .nil pass0 (pa_cons (pv 0) (pa_cons (pe_callB call_len_seq (by rfl) T.z_len (by decide +kernel) (pa_cons (pv 2) pa_nil)) pa_nil))))
 (pss_one
 (ps_set (i := 5) sc_law_bent.nd rfl (Or.inl rfl) (pe_op op_cat (pe_op op_cat (pv 5) (pe_op op_rep (pe_lst (pa_cons (pe_tup (pa_cons (pe_op op_catA (pe_op op_catA (pe_slice sl_tupA (pv 2) po_none (po_some (pv 7))) (pe_tup (pa_cons (pv 4) pa_nil))) (pe_slice sl_tupA (pv 2) (po_some (pe_op op_add (pv 7) pe_int)) po_none)) (pa_cons (pv 3) pa_nil))) pa_nil)) pe_int)) (pe_lst (pa_cons (pe_tup (pa_cons (pe_slice sl_tupA (pv 2) (po_some pe_int) po_none) (pa_cons (pv 3) pa_nil))) pa_nil))))))
 pss_nil)
 (pss_one
 (ps_ret (pe_call (ok_law_one T) (hr.mono (by decide)) (by rfl) T.g_law_one T.F_law_one.kp T.b_law_one .nil pass0 (pa_cons (pv 0) (pa_cons (pv 5) pa_nil))))))))))), ?_⟩
    obtain ⟨r, xs, rfl, hr0, v0, _, rfl, ⟨tp, ps, rfl, htp, hps⟩, v1, _, rfl, h1, rfl⟩ := hv
    have lps : ps.length = n := by rw [hps.len, List.length_replicate]
    refine ⟨.ref r, rfl, r, _, rfl, .of (hide_sub _ _ _ _ hr0), rfl, _, _, rfl, _, _, rfl, rfl, ?_⟩
    refine ⟨.ref p, rfl, ?_⟩
    refine ⟨rfl, rfl, fun a1 dx1 m1 m2 m3 => ⟨a1, dx1, 1, 1, 1, rfl, upd_same, by decide, by decide, by decide, fun z => absurd z (by decide), fun _ H1 b1 e1 => ⟨rfl, ?_⟩⟩⟩
    obtain ⟨o1, s1, k1⟩ := shK (On.start hp) m1 m2 b1 e1
    refine ⟨line_of (show 1 ≤ 1000 by decide), fun t1 nt1 => ?_⟩
    obtain ⟨o2, s2, k2⟩ := tupK o1 nt1 (ka1 k1 ka0)
    refine ⟨rfl, rfl, fun a2 dx2 m4 m5 m6 => ⟨a2, dx2, 1, 1, 1, rfl, upd_same, by decide, by decide, by decide, fun z => absurd z (by decide), fun _ H3 b3 e3 => ⟨rfl, ?_⟩⟩⟩
    obtain ⟨o3, s3, k3⟩ := shK o2 m4 m5 b3 e3
    refine ⟨line_of (show 1 ≤ 1000 by decide), fun t2 nt2 => ?_⟩
    obtain ⟨o4, s4, k4⟩ := lstK o3 nt2 (ka1 k3 ka0)
    refine ⟨line_of (show 2 ≤ 1000 by decide), fun t3 nt3 => ?_⟩
    obtain ⟨o5, s5, k5⟩ := tupK o4 nt3 (ka1 (oI 1) (ka1 (oI 2) ka0))
    refine ⟨line_of (show 8 ≤ 1000 by decide), fun t4 nt4 => ?_⟩
    obtain ⟨o6, s6, t4', ys, e4, h4, a6⟩ := lstK (l := odds) o5 nt4 (ka1 (oI 0) (ka1 (oI 1) (ka1 oN (ka1 (oB true) (ka1 (oS "1") (ka1 (KAt.same (s3.trans (s4.trans s5)) _ k2) (ka1 (KAt.same s5 _ k4) (ka1 k5 ka0))))))))
    cases e4
    have l6 : ys.length = 8 := a6.len
    refine ⟨p, t4, x, _, k, rfl, o6.2, h4, (fun z => by rw [z] at l6; cases l6), by omega, wx, by omega, fun i od y7 hi w7 => ?_⟩
    obtain ⟨ko, hko, a7⟩ := a6.get hi
    have no := List.all_eq_true.mp odds_no _ (List.mem_of_getElem? hko)
    rw [Bool.and_eq_true] at no
    have noS : isS ko = false := by simpa using no.1
    have noR : isRowK ko = false := by simpa using no.2
    have o7 : On p H y7 _ := o6.put (z := y7)
    have a7 := a7.puts (o := .lst y7)
    generalize upd _ p (HO.lst y7) = H7 at o7 a7 ⊢
    -- eight things
    refine ⟨.ref tp, rfl, od, rfl, line_of (show 2 ≤ 1000 by decide), fun u1 n1 => ?_⟩
    have gP : ∀ {Hc : Hp} {y : List V}, On p H y Hc → KAt T.C_Share (hide p Hc) (.tup (List.replicate n .sh)) (.ref tp) := fun o => ⟨tp, ps, rfl, o.1 _ _ htp, KAll.same o.1 _ hps⟩
    have gL : ∀ {Hc : Hp} {y : List V}, On p H y Hc → KAt T.C_Share (hide p Hc) .sh v1 := fun o => KAt.same o.1 _ h1
    have gT : ∀ {Hc : Hp} {y : List V}, On p H y Hc → Hc tp = some (.tup ps) := fun o => hide_sub _ _ _ _ (o.1 _ _ htp)
    obtain ⟨p1, z1, c1⟩ := tupK o7 n1 (ka1 (gP o7) (ka1 a7 ka0))
    refine ⟨.ref tp, rfl, tp, _, rfl, .inr (.of (gT p1)), fun u2 n2 => ?_⟩
    obtain ⟨p2, z2, c2⟩ := lstK p1 n2 (KAll.same p1.1 _ hps)
    refine ⟨v1, rfl, line_of (show 2 ≤ 1000 by decide), fun u3 n3 => ?_⟩
    obtain ⟨p3, z3, c3⟩ := tupK p2 n3 (ka1 c2 (ka1 (gL p2) ka0))
    refine ⟨.ref tp, rfl, line_of (show 1 ≤ 1000 by decide), fun u4 n4 => ?_⟩
    obtain ⟨p4, z4, c4⟩ := tupK p3 n4 (ka1 (gP p3) ka0)
    refine ⟨.ref tp, rfl, v1, rfl, v1, rfl, line_of (show 3 ≤ 1000 by decide), fun u5 n5 => ?_⟩
    obtain ⟨p5, z5, c5⟩ := tupK p4 n5 (ka1 (gP p4) (ka1 (gL p4) (ka1 (gL p4) ka0)))
    refine ⟨.ref tp, rfl, v1, rfl, line_of (show 2 ≤ 1000 by decide), fun u6 n6 => ?_⟩
    obtain ⟨p6, z6, c6⟩ := lstK p5 n6 (ka1 (gP p5) (ka1 (gL p5) ka0))
    refine ⟨.ref tp, rfl, od, rfl, line_of (show 8 ≤ 1000 by decide), fun u7 n7 => ?_⟩
    have z36 := z3.trans (z4.trans (z5.trans z6))
    have z56 := z5.trans z6
    obtain ⟨p7, z7, u7', xs8, e7, h8, a8⟩ := lstK (l := [.tup [.tup (List.replicate n .sh), ko], .tup [.lst (List.replicate n .sh), .sh], .tup [.tup (List.replicate n .sh)], .tup [.tup (List.replicate n .sh), .sh, .sh], .lst [.tup (List.replicate n .sh), .sh], .oth, .tup (List.replicate n .sh), ko]) p6 n7
      (ka1 (KAt.same (z2.trans z36) _ c1) (ka1 (KAt.same (z4.trans z56) _ c3) (ka1 (KAt.same z56 _ c4) (ka1 (KAt.same z6 _ c5) (ka1 c6 (ka1 oN (ka1 (gP p6) (ka1 (KAt.same (z1.trans (z2.trans z36)) _ a7) ka0))))))))
    cases e7
    have b8 : ∀ k ∈ [Kd.tup [.tup (List.replicate n .sh), ko], .tup [.lst (List.replicate n .sh), .sh], .tup [.tup (List.replicate n .sh)], .tup [.tup (List.replicate n .sh), .sh, .sh], .lst [.tup (List.replicate n .sh), .sh], .oth, .tup (List.replicate n .sh), ko], bad n k := by
      intro k hk
      simp only [List.mem_cons, List.not_mem_nil, or_false] at hk
      rcases hk with rfl | rfl | rfl | rfl | rfl | rfl | rfl | rfl
      · exact .inl (row_last noS)
      · exact .inl rfl
      · exact .inl rfl
      · exact .inl rfl
      · exact .inl rfl
      · exact .inl rfl
      · exact .inl (bad_sh n)
      · exact .inl noR
    have a7' := KAt.same (z1.trans (z2.trans (z36.trans z7))) _ a7
    have n8 : xs8.length = 8 := a8.len
    generalize upd _ u7 _ = H8 at p7 a8 h8 a7' ⊢
    generalize [Kd.tup [.tup (List.replicate n .sh), ko], .tup [.lst (List.replicate n .sh), .sh], .tup [.tup (List.replicate n .sh)], .tup [.tup (List.replicate n .sh), .sh, .sh], .lst [.tup (List.replicate n .sh), .sh], .oth, .tup (List.replicate n .sh), ko] = l8 at a8 b8
    clear z1 z2 z3 z4 z5 z6 z7 z36 z56 c1 c2 c3 c4 c5 c6 p1 p2 p3 p4 p5 p6 n1 n2 n3 n4 n5 n6 n7 s1 s2 s3 s4 s5 s6 k1 k2 k3 k4 k5 o1 o2 o3 o4 o5 o6 a6 h4 l6 b1 b3 e1 e3 nt1 nt2 nt3 nt4 m1 m2 m3 m4 m5 m6 a7 o7
    -- something strange
    refine ⟨.ref p, rfl, ?_⟩
    refine ⟨rfl, rfl, fun a1 dx1 m1 m2 m3 => ⟨a1, dx1, 1, 1, 1, rfl, upd_same, by decide, by decide, by decide, fun z => absurd z (by decide), fun _ H1 b1 e1 => ⟨rfl, ?_⟩⟩⟩
    obtain ⟨o1, s1, k1⟩ := shK p7 m1 m2 b1 e1
    refine ⟨line_of (show 1 ≤ 1000 by decide), fun t1 nt1 => ?_⟩
    obtain ⟨o2, s2, k2⟩ := lstK o1 nt1 (ka1 k1 ka0)
    refine ⟨line_of (show 2 ≤ 1000 by decide), fun t2 nt2 => ?_⟩
    obtain ⟨o3, s3, k3⟩ := tupK o2 nt2 (ka1 (oI 1) (ka1 (oI 2) ka0))
    refine ⟨line_of (show 6 ≤ 1000 by decide), fun t3 nt3 => ?_⟩
    obtain ⟨o4, s4, t3', zs, e3, h3, a3⟩ := lstK (l := oddq) o3 nt3 (ka1 (oI 0) (ka1 oN (ka1 (oB true) (ka1 (oS "1") (ka1 (KAt.same s3 _ k2) (ka1 k3 ka0))))))
    cases e3
    have l4 : zs.length = 6 := a3.len
    refine ⟨p, t3, y7, _, _, rfl, o4.2, h3, (fun z => by rw [z] at l4; cases l4), by omega, w7, by omega, fun i2 st y9 hi2 w9 => ?_⟩
    obtain ⟨ks, hks, a9⟩ := a3.get hi2
    have noK : isRowK (.tup [ks, .sh]) = false := by
      have := List.all_eq_true.mp oddq_no _ (List.mem_of_getElem? hks)
      simpa using this
    have s14 := puts (o := .lst y9) (s1.trans (s2.trans (s3.trans s4)))
    have o9 : On p H y9 _ := o4.put (z := y9)
    have a9 := a9.puts (o := .lst y9)
    have a8 := KAll.same s14 _ a8
    have h8 := s14 _ _ h8
    have a7 := KAt.same s14 _ a7'
    generalize upd _ p (HO.lst y9) = H9 at o9 a9 a8 h8 a7 ⊢
    clear s14 s1 s2 s3 s4 k1 k2 k3 o1 o2 o3 o4 a3 h3 l4 b1 e1 nt1 nt2 nt3 m1 m2 m3 a7' p7
    -- two more
    have hcat : ∀ {Hc : Hp} {y : List V} {l : List Kd} {a : Addr} {xs : List V}, On p H y Hc → hide p Hc a = some (.lst xs) → KAll T.C_Share (hide p Hc) l xs → Hc a = some (.lst xs) := fun _ h _ => hide_sub _ _ _ _ h
    refine ⟨.ref u7, rfl, .ref tp, rfl, ?_⟩
    refine ⟨rfl, rfl, fun a1 dx1 m1 m2 m3 => ⟨a1, dx1, 1, 1, 1, rfl, upd_same, by decide, by decide, by decide, fun z => absurd z (by decide), fun _ H1 b1 e1 => ⟨rfl, ?_⟩⟩⟩
    obtain ⟨o1, s1, k1⟩ := shK o9 m1 m2 b1 e1
    refine ⟨line_of (show 1 ≤ 1000 by decide), fun t1 nt1 => ?_⟩
    obtain ⟨o2, s2, t1', _, e2, h2, k2⟩ := tupK o1 nt1 (ka1 k1 ka0)
    cases e2
    obtain ⟨_, _, rfl, k2a, rfl⟩ := k2
    refine catA_of (gT o2) (hide_sub _ _ _ _ h2) (by show ps.length + 1 ≤ 1000; omega) fun sq H2 hsq ssq => ?_
    have o3 := o2.same ssq
    have k3 : KAt T.C_Share (hide p H2) (.tup (List.replicate n .sh ++ [.sh])) (.ref sq) := ⟨sq, _, rfl, hid_tup o3.2 hsq, KAll.append (KAll.same o3.1 _ hps) (ka1 (KAt.same (hid_same ssq) _ k2a) ka0)⟩
    refine ⟨v1, rfl, line_of (show 2 ≤ 1000 by decide), fun t2 nt2 => ?_⟩
    obtain ⟨o4, s4, k4⟩ := tupK o3 nt2 (ka1 k3 (ka1 (gL o3) ka0))
    refine ⟨st, rfl, v1, rfl, line_of (show 2 ≤ 1000 by decide), fun t3 nt3 => ?_⟩
    have s24 := s1.trans (s2.trans ((hid_same ssq).trans s4))
    obtain ⟨o5, s5, k5⟩ := tupK o4 nt3 (ka1 (KAt.same s24 _ a9) (ka1 (gL o4) ka0))
    refine ⟨line_of (show 2 ≤ 1000 by decide), fun t4 nt4 => ?_⟩
    obtain ⟨o6, s6, t4', ws, e4, h4, k6⟩ := lstK o5 nt4 (ka1 (KAt.same s5 _ k4) (ka1 k5 ka0))
    cases e4
    have n2 : ws.length = 2 := k6.len
    have s96 := s24.trans (s5.trans s6)
    refine ⟨u7, t4, _, _, rfl, rfl, hide_sub _ _ _ _ (s96 _ _ h8), hide_sub _ _ _ _ h4, line_of (by rw [n8, n2]; decide), fun q0 nq0 => ?_⟩
    obtain ⟨o7, s7, q0', xs10, e7, h10, a10⟩ := lstK o6 nq0 (KAll.append (KAll.same s96 _ a8) k6)
    cases e7
    have b10 : ∀ k ∈ l8 ++ [Kd.tup [.tup (List.replicate n .sh ++ [.sh]), .sh], .tup [ks, .sh]], bad n k := by
      intro k hk
      rcases List.mem_append.mp hk with hk | hk
      · exact b8 k hk
      · simp only [List.mem_cons, List.not_mem_nil, or_false] at hk
        rcases hk with rfl | rfl
        · refine .inr ?_
          show (List.replicate n Kd.sh ++ [Kd.sh]).length ≠ n
          rw [List.length_append, List.length_replicate]
          exact Nat.succ_ne_self n
        · exact .inl noK
    have n10 : xs10.length = 10 := by
      have h1 := a10.len
      have h2 := a8.len
      rw [List.length_append] at h1
      have h3 : [Kd.tup [.tup (List.replicate n .sh ++ [.sh]), .sh], .tup [ks, .sh]].length = 2 := rfl
      omega
    have a11 := KAt.same (s96.trans s7) _ a7
    generalize l8 ++ [Kd.tup [.tup (List.replicate n .sh ++ [.sh]), .sh], .tup [ks, .sh]] = l10 at a10 b10
    generalize upd _ q0 _ = H10 at o7 a10 h10 a11 ⊢
    clear s96 s24 s7 s6 s5 s4 s2 s1 k6 k5 k4 k3 k2a k1 o1 o2 o3 o4 o5 o6 h4 h2 nq0 nt1 nt2 nt3 nt4 m1 m2 m3 b1 e1 ssq hsq a7 a8 a9 h8
    have fin : ∀ {Hc : Hp} {y : List V} {a : Addr} {xs : List V} {l : List Kd} {E1 : XK}, On p H y Hc → WellL y (k + 4) → hide p Hc a = some (.lst xs) → KAll T.C_Share (hide p Hc) l xs → (∀ k ∈ l, bad n k) → 0 < xs.length → xs.length ≤ 1000 → sp_law_one [.ref p, .ref a] Hc Q E1 := by
      intro Hc y a xs l E1 o wy ha al bl g1 g2
      refine ⟨p, a, y, xs, _, rfl, o.2, ha, List.length_pos_iff.mp g1, g2, wy, by omega, fun i v y2 hi w2 => ?_⟩
      obtain ⟨kd, hkd, av⟩ := al.get hi
      exact c v kd y2 _ o.put (w2.mono (by omega)) av.puts (bl kd (List.mem_of_getElem? hkd))
    refine ⟨.ref tp, rfl, line_of (show 0 ≤ 1000 by decide), fun t0 nt0 => ⟨tp, t0, ps, rfl, rfl, .of (gT (o7.new nt0)), .of upd_same, _, rfl, ?_⟩⟩
    obtain ⟨o0, s0, _⟩ := tupK (C := T.C_Share) o7 nt0 ka0
    have h11 := s0 _ _ h10
    have b11 := KAll.same s0 _ a10
    have g11 := KAt.same s0 _ a11
    generalize upd _ t0 _ = H11 at o0 h11 b11 g11 ⊢
    clear s0 o7 h10 a10 a11
    cases ps with
    | nil => exact iteF ⟨.ref p, rfl, .ref q0, rfl, fin (E1 := E0) o0 (w9.mono (by omega)) h11 b11 b10 (by omega) (by omega)⟩
    | cons v2 ps2 =>
      generalize hps2 : v2 :: ps2 = ps at *
      have pos : 0 < ps.length := by rw [← hps2]; exact Nat.succ_pos _
      have ne : ps.isEmpty = false := by rw [← hps2]; rfl
      rw [ne]
      refine iteT ⟨.ref p, rfl, .ref tp, rfl, tp, _, rfl, .inr (.of (gT o0)), p, _, y9, _, rfl, o0.2, w9, by omega, by omega, size_ok (by omega) (by omega), fun d y2 d0 d1 w2 => ?_⟩
      obtain ⟨j, rfl⟩ := Int.eq_ofNat_of_zero_le d0
      have hj : j < ps.length := by omega
      have o1 : On p H y2 (upd H11 p (.lst y2)) := o0.put
      have h1 := puts (o := .lst y2) (Same.refl _) _ _ h11
      have a1 := KAll.same (puts (o := .lst y2) (Same.refl _)) _ b11
      have g1 := g11.puts (o := .lst y2)
      generalize upd _ p (HO.lst y2) = H12 at o1 h1 a1 g1 ⊢
      refine ⟨.ref q0, rfl, .ref tp, rfl, _, rfl, _, rfl, slX_of (gT o1) fun sq H13 hsq ssq => ?_⟩
      have o2 := o1.same ssq
      rw [cut_to (k := j) (by omega)] at hsq
      refine ⟨od, rfl, line_of (show 1 ≤ 1000 by decide), fun t1 nt1 => ?_⟩
      obtain ⟨o3, s3, k3⟩ := tupK o2 nt1 (ka1 (KAt.same (hid_same ssq) _ g1) ka0)
      obtain ⟨t1', ws1, e1, h3, k3⟩ := k3
      cases e1
      have lw : ws1.length = 1 := k3.len
      refine catA_of (same_upd nt1 _ _ hsq) (hide_sub _ _ _ _ h3) (by rw [List.length_take, lw]; omega) fun sr H14 hsr ssr => ?_
      have o4 := o3.same ssr
      refine ⟨.ref tp, rfl, .int (j : Int), rfl, _, _, rfl, rfl, _, rfl, ?_⟩
      dsimp only [tNoPart]
      refine slX_of (gT o4) fun su H15 hsu ssu => ?_
      have o5 := o4.same ssu
      have hsu : H15 su = some (.tup (ps.drop (j + 1))) := by
        rw [hsu]
        exact congrArg (fun l => some (HO.tup l)) (cut_from (k := j + 1) (by omega))
      refine catA_of (ssu _ _ hsr) hsu (by rw [List.length_append, List.length_take, List.length_drop, lw]; omega) fun sv H16 hsv ssv => ?_
      have o6 := o5.same ssv
      have tr : Same (hide p (upd H13 t1 (.tup [od]))) (hide p H16) := hid_same (ssr.trans (ssu.trans ssv))
      have kM : KAt T.C_Share (hide p H16) (.tup ((List.replicate n .sh).take j ++ [ko] ++ (List.replicate n .sh).drop (j + 1))) (.ref sv) := by
        refine ⟨sv, _, rfl, hid_tup o6.2 hsv, KAll.append (KAll.append ?_ (KAll.same tr _ k3)) ?_⟩
        · exact KAll.take j (KAll.same o6.1 _ hps)
        · exact KAll.drop (j + 1) (KAll.same o6.1 _ hps)
      refine ⟨v1, rfl, line_of (show 2 ≤ 1000 by decide), fun t2 nt2 => ?_⟩
      obtain ⟨o7, s7, k7⟩ := tupK o6 nt2 (ka1 kM (ka1 (gL o6) ka0))
      refine ⟨line_of (show 1 ≤ 1000 by decide), fun t3 nt3 => ?_⟩
      obtain ⟨o8, s8, t3', _, e8, h8, k8⟩ := lstK o7 nt3 (ka1 k7 ka0)
      cases e8
      obtain ⟨_, _, rfl, k8a, rfl⟩ := k8
      refine ⟨t3, 4, _, rfl, rfl, hide_sub _ _ _ _ h8, by decide, by decide, line_of (show 1 * 4 ≤ 1000 by decide), fun t4 nt4 => ?_⟩
      obtain ⟨o9, s9, t4', zs, e9, h9, k9⟩ := lstK (l := [.tup [.tup ((List.replicate n .sh).take j ++ [ko] ++ (List.replicate n .sh).drop (j + 1)), .sh], .tup [.tup ((List.replicate n .sh).take j ++ [ko] ++ (List.replicate n .sh).drop (j + 1)), .sh], .tup [.tup ((List.replicate n .sh).take j ++ [ko] ++ (List.replicate n .sh).drop (j + 1)), .sh], .tup [.tup ((List.replicate n .sh).take j ++ [ko] ++ (List.replicate n .sh).drop (j + 1)), .sh]]) o8 nt4 (ka1 k8a (ka1 k8a (ka1 k8a (ka1 k8a ka0))))
      cases e9
      have s129 := (hid_same (p := p) (ssq.trans (same_upd (o := HO.tup [od]) nt1))).trans (tr.trans (s7.trans (s8.trans s9)))
      have nz : zs.length = 4 := k9.len
      refine ⟨q0, t4, _, _, rfl, rfl, hide_sub _ _ _ _ (s129 _ _ h1), hide_sub _ _ _ _ h9, line_of (by rw [n10, nz]; decide), fun t5 nt5 => ?_⟩
      obtain ⟨o10, s10, k10⟩ := lstK o9 nt5 (KAll.append (KAll.same s129 _ a1) k9)
      refine ⟨.ref tp, rfl, 1, rfl, ?_⟩
      dsimp only [tNoPart]
      refine slX_of (gT o10) fun sw H20 hsw ssw => ?_
      have o11 := o10.same ssw
      have hsw : H20 sw = some (.tup (ps.drop 1)) := by
        rw [hsw]
        exact congrArg (fun l => some (HO.tup l)) (cut_from (k := 1) (by omega))
      have kD : KAt T.C_Share (hide p H20) (.tup ((List.replicate n .sh).drop 1)) (.ref sw) := ⟨sw, _, rfl, hid_tup o11.2 hsw, KAll.drop 1 (KAll.same o11.1 _ hps)⟩
      refine ⟨v1, rfl, line_of (show 2 ≤ 1000 by decide), fun t6 nt6 => ?_⟩
      obtain ⟨o12, s12, k12⟩ := tupK o11 nt6 (ka1 kD (ka1 (gL o11) ka0))
      refine ⟨line_of (show 1 ≤ 1000 by decide), fun t7 nt7 => ?_⟩
      obtain ⟨o13, s13, t7', ys7, e13, h13, k13⟩ := lstK o12 nt7 (ka1 k12 ka0)
      cases e13
      have s20 := (hid_same (p := p) ssw).trans (s12.trans s13)
      obtain ⟨t5', xs5, e5, h5, k5⟩ := KAt.same s20 _ k10
      cases e5
      have n5 : xs5.length = 14 := by
        have := k5.len
        have e1 := a1.len
        rw [List.length_append] at this
        have e4 : [Kd.tup [.tup ((List.replicate n .sh).take j ++ [ko] ++ (List.replicate n .sh).drop (j + 1)), .sh], .tup [.tup ((List.replicate n .sh).take j ++ [ko] ++ (List.replicate n .sh).drop (j + 1)), .sh], .tup [.tup ((List.replicate n .sh).take j ++ [ko] ++ (List.replicate n .sh).drop (j + 1)), .sh], .tup [.tup ((List.replicate n .sh).take j ++ [ko] ++ (List.replicate n .sh).drop (j + 1)), .sh]].length = 4 := rfl
        omega
      have n7 : ys7.length = 1 := k13.len
      refine ⟨t5, t7, _, _, rfl, rfl, hide_sub _ _ _ _ h5, hide_sub _ _ _ _ h13, line_of (by rw [n5, n7]; decide), fun t8 nt8 => ?_⟩
      obtain ⟨o14, s14, t8', xs8', e14, h14, k14⟩ := lstK o13 nt8 (KAll.append k5 k13)
      cases e14
      have n15 := k14.len
      rw [List.length_append, ← k5.len, ← k13.len, n5, n7] at n15
      refine ⟨.ref p, rfl, .ref t8, rfl, fin (E1 := E0) o14 (w2.mono (by omega)) h14 k14 (fun kd hkd => ?_) ?_ ?_⟩
      · rcases List.mem_append.mp hkd with h | h
        · rcases List.mem_append.mp h with h | h
          · exact b10 _ h
          · simp only [List.mem_cons, List.not_mem_nil, or_false, or_self] at h
            rw [h]
            exact .inl (row_part (List.mem_append_left _ (List.mem_append_right _ List.mem_cons_self)) noS)
        · rw [List.mem_singleton.mp h]
          refine .inr ?_
          show ((List.replicate n Kd.sh).drop 1).length ≠ n
          rw [List.length_drop, List.length_replicate]
          omega
      · omega
      · omega
end
theorem cut_next {xs : List V} {k : Nat} (h : k + 1 ≤ xs.length) : cutV xs (some ((k : Int) + 1)) none = xs.drop (k + 1) := cut_from (k := k + 1) h
theorem noL_row (n : Nat) : NoL (rowK n) := ⟨NoLs.rep (k := .sh) trivial n, trivial, trivial⟩
theorem parts_row (n : Nat) : partsN (rowK n) = n := by
  show (List.replicate n Kd.sh).length = n
  rw [List.length_replicate]
theorem KAll.rep {C : Addr} {H : Hp} {k : Kd} {v : V} (a : KAt C H k v) : ∀ n, KAll C H (List.replicate n k) (List.replicate n v)
  | 0 => rfl
  | n + 1 => ⟨v, _, rfl, a, KAll.rep a n⟩
theorem KAll.flat {C : Addr} {H : Hp} {k : Kd} {ws : List V} (a : KAll C H [k] ws) : ∀ n, KAll C H (List.replicate n k) (List.replicate n ws).flatten
  | 0 => rfl
  | n + 1 => by
    rw [List.replicate_succ, List.replicate_succ, List.flatten_cons]
    exact KAll.append a (KAll.flat a n)
theorem flat_one (v : V) : ∀ n, (List.replicate n [v]).flatten = List.replicate n v
  | 0 => rfl
  | n + 1 => by rw [List.replicate_succ, List.flatten_cons, flat_one v n]; rfl
theorem mix_no {n m j : Nat} {kd : Kd} (hb : bad n kd) (h2 : 2 ≤ m) (hj : j < m) : areK (.lst ((List.replicate m (rowK n)).take j ++ [kd] ++ (List.replicate m (rowK n)).drop (j + 1))) = false := by
  rw [Bool.eq_false_iff]
  intro h
  unfold areK at h
  rw [Bool.and_eq_true, Bool.and_eq_true] at h
  obtain ⟨⟨_, h1⟩, h3⟩ := h
  have mk : kd ∈ (List.replicate m (rowK n)).take j ++ [kd] ++ (List.replicate m (rowK n)).drop (j + 1) := List.mem_append_left _ (List.mem_append_right _ List.mem_cons_self)
  rcases hb with hb | hb
  · have := List.all_eq_true.mp h1 _ mk
    rw [hb] at this
    cases this
  · have e1 := of_decide_eq_true (List.all_eq_true.mp h3 _ mk)
    have mr : rowK n ∈ (List.replicate m (rowK n)).take j ++ [kd] ++ (List.replicate m (rowK n)).drop (j + 1) := by
      by_cases h0 : j = 0
      · refine List.mem_append_right _ ?_
        rw [h0, List.drop_replicate]
        exact List.mem_replicate.mpr ⟨by omega, rfl⟩
      · refine List.mem_append_left _ (List.mem_append_left _ ?_)
        rw [List.take_replicate]
        exact List.mem_replicate.mpr ⟨by omega, rfl⟩
    have e2 := of_decide_eq_true (List.all_eq_true.mp h3 _ mr)
    rw [parts_row] at e2
    exact hb (e1.trans e2.symm)
theorem far_no (c : Nat) : areK (.lst (List.replicate (c + 1) (rowK 13))) = false := by
  have e : isRowK (rowK 13) = false := rfl
  show (decide ((List.replicate (c + 1) (rowK 13)).length ≤ 30) && (isRowK (rowK 13) && (List.replicate c (rowK 13)).all isRowK) && _) = false
  rw [e, Bool.false_and, Bool.and_false, Bool.false_and]
theorem long_no {l : List Kd} (h : 30 < l.length) : areK (.lst l) = false := by
  show (decide (l.length ≤ 30) && _ && _) = false
  rw [decide_eq_false (by omega), Bool.false_and, Bool.false_and]
theorem dicK {C p d : Addr} {H Hc : Hp} {y : List V} (c : On p H y Hc) (n : Hc d = none) :
    On p H y (upd Hc d (.dK [])) ∧ Same (hide p Hc) (hide p (upd Hc d (.dK []))) ∧ KAt C (hide p (upd Hc d (.dK []))) .oth (.ref d) :=
  ⟨c.new n, hid_same (same_upd n), .inr (.inr (.inr (.inr ⟨d, [], rfl, c.hid n⟩)))⟩
section
variable {P : Program} {w : World} {K : PySem.W.Frag} {mg : Str → Option Value} {base : Heap}
def sp_law_spoilt (C : Addr) : Sp := fun vs H Q _ => ∃ (p q : Addr) (n m : Nat) (rs x : List V) (k : Nat), vs = [.ref p, .ref q, .int n] ∧ n ≤ 3 ∧ 1 ≤ m ∧ m ≤ 4 ∧ H p = some (.lst x) ∧ hide p H q = some (.lst rs) ∧ KAll C (hide p H) (List.replicate m (rowK n)) rs ∧ WellL x k ∧ k ≤ 700000 ∧
  ∀ (u : V) (kd : Kd) (y : List V) (H' : Hp), On p H y H' → WellL y (k + 150) → KAt C (hide p H') kd u → areK kd = false → Q u H'
theorem ok_law_spoilt (T : Txt K mg) : FnOk P w K mg base CX0 8 T.f_law_spoilt T.fd_law_spoilt ["_law_well_here", "_law_rows", "_law_size"] (sp_law_spoilt T.C_Share) := by
  refine T.F_law_spoilt.ok sc_law_spoilt (fun vs H Q E h => ?_) (fun cdv A outer s H vs Q E hr h => ?_)
  · obtain ⟨p, q, n, m, rs, x, k, rfl, _⟩ := h
    rfl
  · obtain ⟨p, q, n, m, rs, x, k, rfl, hn, hm1, hm4, hp, hq, hrs, wx, hk, c⟩ := h
    refine ⟨_, (pss_cons
 (ps_set (i := 3) sc_law_spoilt.nd rfl (Or.inl rfl) (pe_call (ok_law_draw T) (hr.mono (by decide)) (by rfl) T.g_law_draw T.F_law_draw.kp T.b_law_draw .nil pass0 (pa_cons (pv 0) (pa_cons pe_int pa_nil))))
 (pss_cons
 (ps_if (pt_cmpR op_eq (pv 3) pe_int (nomark _))
 (pss_one
 (ps_ret (pe_call (ok_law_one T) (hr.mono (by decide)) (by rfl) T.g_law_one T.F_law_one.kp T.b_law_one .nil pass0 (pa_cons (pv 0) (pa_cons (pe_lst (pa_cons pe_non (pa_cons (pe_callTy call_tuple_of (by rfl) T.z_tuple (by decide +kernel) (pa_cons (pv 1) pa_nil)) (pa_cons pe_dnewK (pa_cons pe_str (pa_cons pe_int (pa_cons (pe_tup (pa_cons (pv 1) pa_nil)) pa_nil))))))) pa_nil)))))
 pss_nil)
 (pss_cons
 (ps_if (pt_cmpR op_eq (pv 3) pe_int (nomark _))
 (pss_one
 (ps_ret (pe_lc (own := [("_law_k", 6)]) (g := gName 6) (tt := tYes) rfl sc_law_spoilt.nd (pi_range1 rfl T.z_range (pa_cons (pe_op op_add pe_int (pe_call (ok_law_draw T) (hr.mono (by decide)) (by rfl) T.g_law_draw T.F_law_draw.kp T.b_law_draw .nil pass0 (pa_cons (pv 0) (pa_cons pe_int pa_nil)))) pa_nil)) (blkOk_by (own := [("_law_k", 6)]) (N := ["_law_well_here", "_law_rows", "_law_size", "_law_way", "_law_at", "_law_bent_here", "_law_k"]) (sc := defScope s_law_spoilt) (by decide +kernel)) (fun _ _ _ _ _ => pg_name (i := 6) sc_law_spoilt.nd rfl (Or.inl rfl)) (fun _ _ _ _ _ => pts_nil) (fun _ _ _ _ _ => (pe_call (ok_law_row T) (hr.mono (by decide)) (by rfl) T.g_law_row T.F_law_row.kp T.b_law_row .nil pass0 (pa_cons (pv 0) (pa_cons pe_int pa_nil)))))))
 pss_nil)
 (pss_cons
 (ps_if (pt_cmpR op_eq (pv 3) pe_int (nomark _))
 (pss_one
 (ps_ret (pe_op op_cat (pv 1) (pe_op op_rep (pe_lst (pa_cons (pe_call (ok_law_row T) (hr.mono (by decide)) (by rfl) T.g_law_row T.F_law_row.kp T.b_law_row .nil pass0 (pa_cons (pv 0) (pa_cons (pv 2) pa_nil))) pa_nil)) (pe_op op_sub pe_int (pe_callB call_len_seq (by rfl) T.z_len (by decide +kernel) (pa_cons (pv 1) pa_nil)))))))
 pss_nil)
 (pss_cons
 (ps_set (i := 4) sc_law_spoilt.nd rfl (Or.inl rfl) (pe_call (ok_law_draw T) (hr.mono (by decide)) (by rfl) T.g_law_draw T.F_law_draw.kp T.b_law_draw .nil pass0 (pa_cons (pv 0) (pa_cons (pe_callB call_len_seq (by rfl) T.z_len (by decide +kernel) (pa_cons (pv 1) pa_nil)) pa_nil))))
 (pss_cons
 (ps_set (i := 5) sc_law_spoilt.nd rfl (Or.inl rfl) (pe_call (ok_law_bent T) (hr.mono (by decide)) (by rfl) T.g_law_bent T.F_law_bent.kp T.b_law_bent .nil pass0 (pa_cons (pv 0) (pa_cons (pe_ix ix_list (pv 1) (pv 4) (fun _ _ => rfl)) pa_nil))))
 (pss_cons
 (ps_if (pt_cmpR op_eq (pe_callB call_len_seq (by rfl) T.z_len (by decide +kernel) (pa_cons (pv 1) pa_nil)) pe_int (nomark _))
 (pss_one
 (ps_set (i := 1) sc_law_spoilt.nd rfl (Or.inl rfl) (pe_op op_cat (pv 1) (pv 1))))
 pss_nil)
 (pss_one
 (ps_ret (pe_op op_cat (pe_op op_cat (pe_slice sl_list (pv 1) po_none (po_some (pv 4))) (pe_lst (pa_cons (pv 5) pa_nil))) (pe_slice sl_list (pv 1) (po_some (pe_op op_add (pv 4) pe_int)) po_none))))))))))), ?_⟩
    have lrs : rs.length = m := by rw [hrs.len, List.length_replicate]
    refine ⟨.ref p, rfl, p, 8, x, k, rfl, hp, wx, by omega, by decide, size_ok (by decide) (by decide), fun way y1 a0 a1 w1 => ?_⟩
    have o1 : On p H y1 (upd H p (.lst y1)) := (On.start hp).put
    generalize upd H p (HO.lst y1) = H1 at o1 ⊢
    have gq : ∀ {Hc : Hp} {y : List V}, On p H y Hc → Hc q = some (.lst rs) := fun o => hide_sub _ _ _ _ (o.1 _ _ hq)
    have gr : ∀ {Hc : Hp} {y : List V}, On p H y Hc → KAll T.C_Share (hide p Hc) (List.replicate m (rowK n)) rs := fun o => KAll.same o.1 _ hrs
    refine ⟨.int way, rfl, rfl, _, rfl, ?_⟩
    cases decide (V.int way = V.int 0) with
    | true =>
      refine iteT ⟨.ref p, rfl, .ref q, rfl, q, _, rfl, .inl ⟨.of (gq o1), fun t1 nt1 => ?_⟩⟩
      obtain ⟨o2, s2, k2⟩ := tupK o1 nt1 (gr o1)
      refine fun d nd => ?_
      obtain ⟨o3, s3, k3⟩ := dicK (C := T.C_Share) o2 nd
      refine ⟨.ref q, rfl, line_of (show 1 ≤ 1000 by decide), fun t2 nt2 => ?_⟩
      obtain ⟨o4, s4, k4⟩ := tupK o3 nt2 (ka1 (C := T.C_Share) (k := .lst (List.replicate m (rowK n))) (v := .ref q) ⟨q, rs, rfl, o3.1 _ _ hq, gr o3⟩ ka0)
      refine ⟨line_of (show 6 ≤ 1000 by decide), fun t3 nt3 => ?_⟩
      obtain ⟨o5, s5, t3', xs, e5, h5, k5⟩ := lstK (l := [.oth, .tup (List.replicate m (rowK n)), .oth, .oth, .oth, .tup [.lst (List.replicate m (rowK n))]]) o4 nt3 (ka1 oN (ka1 (KAt.same (s3.trans s4) _ k2) (ka1 (KAt.same s4 _ k3) (ka1 (oS "sums") (ka1 (oI 5) (ka1 k4 ka0))))))
      cases e5
      have n5 : xs.length = 6 := k5.len
      refine ⟨p, t3, y1, _, _, rfl, o5.2, h5, (fun z => by rw [z] at n5; cases n5), by omega, w1, by omega, fun i v y2 hi w2 => ?_⟩
      obtain ⟨kd, hkd, av⟩ := k5.get hi
      refine c v kd y2 _ o5.put (w2.mono (by omega)) av.puts ?_
      have mem := List.mem_of_getElem? hkd
      simp only [List.mem_cons, List.not_mem_nil, or_false] at mem
      rcases mem with rfl | rfl | rfl | rfl | rfl | rfl <;> rfl
    | false =>
      refine iteF ⟨.int way, rfl, rfl, _, rfl, ?_⟩
      cases decide (V.int way = V.int 1) with
      | true =>
        refine iteT ⟨.ref p, rfl, p, 3, y1, _, rfl, o1.2, w1, by omega, by decide, size_ok (by decide) (by decide), fun d y2 d0 d1 w2 => ?_⟩
        have o2 : On p H y2 (upd H1 p (.lst y2)) := o1.put
        generalize upd H1 p (HO.lst y2) = H2 at o2 ⊢
        refine ⟨1, d, rfl, rfl, _, rfl, by omega, by omega, fun D nD => ?_⟩
        have nDH := o2.free hp nD
        refine lc_range (lo := 0) (n := (1 + d).toNat) (fun i H' => ∃ (xs y : List V), On p H y H' ∧ WellL y (k + 2 + 30 * i) ∧ hide p H' D = some (.lst xs) ∧ KAll T.C_Share (hide p H') (List.replicate i (rowK 13)) xs) ⟨[], y2, o2.new nD, w2.mono (by omega), o2.hid nD, rfl⟩ ?_ ?_
        · rintro i H3 hi ⟨xs, y, o3, w3, h3, a3⟩
          refine ⟨rfl, .ref p, rfl, p, 13, y, _, rfl, by decide, o3.2, w3, by omega, fun v y4 H4 o4 w4 a4 => ?_⟩
          obtain ⟨Dp, g1, g2, g3⟩ := comp_put (k := rowK 13) (o4.1 _ _ h3) (noL_row 13) (KAll.same o4.1 _ a3) a4
          exact ⟨xs, g1, small1000 (by rw [a3.len, List.length_replicate]; omega), _, y4, (o3.trans o4).lstD nDH Dp, w4.mono (by omega), g2, g3⟩
        · rintro H3 ⟨xs, y, o3, w3, h3, a3⟩
          refine c _ (.lst (List.replicate (1 + d).toNat (rowK 13))) y _ o3 (w3.mono (by omega)) ⟨D, xs, rfl, h3, a3⟩ ?_
          obtain ⟨j, rfl⟩ := Int.eq_ofNat_of_zero_le d0
          have e : (1 + (j : Int)).toNat = j + 1 := by omega
          rw [e]
          exact far_no j
      | false =>
        refine iteF ⟨.int way, rfl, rfl, _, rfl, ?_⟩
        cases decide (V.int way = V.int 2) with
        | true =>
          refine iteT ⟨.ref q, rfl, .ref p, rfl, .int n, rfl, p, n, y1, _, rfl, by omega, o1.2, w1, by omega, fun v y2 H2 o2 w2 a2 => ?_⟩
          have o12 := o1.trans o2
          refine ⟨line_of (show 1 ≤ 1000 by decide), fun l nl => ?_⟩
          obtain ⟨o3, s3, l', ws, e3, h3, k3⟩ := lstK (C := T.C_Share) o12 nl (ka1 a2 ka0)
          cases e3
          have lw : ws.length = 1 := k3.len
          refine ⟨.ref q, rfl, q, _, rfl, .inl (.of (gq o3)), 31, _, rfl, rfl, ?_⟩
          refine ⟨l, _, _, rfl, rfl, hide_sub _ _ _ _ h3, by rw [lrs]; show (-(2 ^ 63) : Int) ≤ 31 - (m : Int); omega, by rw [lrs]; show (31 - (m : Int)) < 2 ^ 63; omega, line_of (by rw [lrs, lw]; show 1 * (31 - (m : Int)).toNat ≤ 1000; omega), fun t nt => ?_⟩
          have e31 : (31 - (rs.length : Int)).toNat = 31 - m := by rw [lrs]; omega
          rw [e31]
          obtain ⟨o4, s4, t', zs, e4, h4, k4⟩ := lstK (C := T.C_Share) o3 nt (KAll.flat k3 (31 - m))
          cases e4
          have lz : zs.length = 31 - m := by rw [k4.len, List.length_replicate]
          refine ⟨q, t, _, _, rfl, rfl, gq o4, hide_sub _ _ _ _ h4, line_of (by rw [lrs, lz]; omega), fun u nu => ?_⟩
          obtain ⟨o5, s5, k5⟩ := lstK (C := T.C_Share) o4 nu (KAll.append (gr o4) k4)
          refine c _ _ y2 _ o5 (w2.mono (by omega)) k5 (long_no ?_)
          rw [List.length_append, List.length_replicate, List.length_replicate]
          omega
        | false =>
          refine iteF ⟨.ref p, rfl, .ref q, rfl, q, _, rfl, .inl (.of (gq o1)), p, _, y1, _, rfl, o1.2, w1, by omega, by omega, size_ok (by omega) (by omega), fun d y2 d0 d1 w2 => ?_⟩
          obtain ⟨j, rfl⟩ := Int.eq_ofNat_of_zero_le d0
          have hj : j < rs.length := by omega
          have o2 : On p H y2 (upd H1 p (.lst y2)) := o1.put
          generalize upd H1 p (HO.lst y2) = H2 at o2 ⊢
          obtain ⟨kr, hkr, av⟩ := (gr o2).get (List.getElem?_eq_getElem hj)
          have ekr : kr = rowK n := (List.mem_replicate.mp (List.mem_of_getElem? hkr)).2
          rw [ekr] at av
          refine ⟨.ref p, rfl, .ref q, rfl, .int (j : Int), rfl, q, _, _, rs[j], rfl, rfl, .of (gq o2), atI_nat (List.getElem?_eq_getElem hj), p, rs[j], n, y2, _, rfl, by omega, o2.2, av, w2, by omega, fun be kb y3 H3 o23 w3 a3 hb => ?_⟩
          have o3 := o2.trans o23
          refine ⟨.ref q, rfl, q, _, rfl, .inl (.of (gq o3)), rfl, _, rfl, ?_⟩
          by_cases h1 : rs.length = 1
          · rw [h1]
            refine iteT ⟨.ref q, rfl, .ref q, rfl, q, q, _, _, rfl, rfl, gq o3, gq o3, line_of (by omega), fun l nl => ?_⟩
            obtain ⟨o4, s4, l', xs, e4, h4, k4⟩ := lstK (C := T.C_Share) o3 nl (KAll.append (gr o3) (gr o3))
            cases e4
            have lx : xs.length = m + m := by rw [k4.len, List.length_append, List.length_replicate]
            rw [List.replicate_append_replicate] at k4
            refine ⟨.ref l, rfl, .int (j : Int), rfl, _, rfl, l, _, rfl, .of (hide_sub _ _ _ _ h4), fun t1 nt1 => ?_⟩
            rw [cut_to (k := j) (by omega)]
            obtain ⟨o5, s5, t1', xs5, e5, h5, k5⟩ := lstK (C := T.C_Share) o4 nt1 (KAll.take j (k4))
            cases e5
            refine ⟨be, rfl, line_of (show 1 ≤ 1000 by decide), fun t2 nt2 => ?_⟩
            obtain ⟨o6, s6, t2', xs6, e6, h6, k6⟩ := lstK (C := T.C_Share) o5 nt2 (ka1 (KAt.same (s4.trans s5) _ a3) ka0)
            cases e6
            have l5 : xs5.length ≤ 8 := by rw [k5.len, List.length_take, List.length_replicate]; omega
            have l6 : xs6.length = 1 := k6.len
            refine ⟨t1, t2, _, _, rfl, rfl, hide_sub _ _ _ _ (s6 _ _ h5), hide_sub _ _ _ _ h6, line_of (by omega), fun t3 nt3 => ?_⟩
            obtain ⟨o7, s7, t3', xs7, e7, h7, k7⟩ := lstK (C := T.C_Share) o6 nt3 (KAll.append (KAll.same s6 _ k5) k6)
            cases e7
            refine ⟨.ref l, rfl, .int (j : Int), rfl, _, _, rfl, rfl, _, rfl, ?_⟩
            dsimp only [tNoPart]
            refine ⟨l, _, rfl, .of (hide_sub _ _ _ _ ((s5.trans (s6.trans s7)) _ _ (h4))), fun t4 nt4 => ?_⟩
            rw [cut_next (by omega)]
            have k8a := KAll.drop (j + 1) (KAll.same (s5.trans (s6.trans s7)) _ (k4))
            obtain ⟨o8, s8, t4', xs9, e8, h8, k8⟩ := lstK (C := T.C_Share) o7 nt4 k8a
            cases e8
            have l7 : xs7.length ≤ 9 := by
              have e := k7.len
              rw [List.length_append, List.length_take, List.length_replicate, List.length_singleton] at e
              omega
            have l8 := k8.len
            rw [List.length_drop, List.length_replicate] at l8
            refine ⟨t3, t4, _, _, rfl, rfl, hide_sub _ _ _ _ (s8 _ _ h7), hide_sub _ _ _ _ h8, line_of (by omega), fun t5 nt5 => ?_⟩
            obtain ⟨o9, s9, k9⟩ := lstK (C := T.C_Share) o8 nt5 (KAll.append (KAll.same s8 _ k7) k8)
            exact c _ _ y3 _ o9 (w3.mono (by omega)) k9 (mix_no hb (by omega) (by omega))
          · have e1 : decide (V.int (rs.length : Int) = V.int 1) = false := decide_eq_false (fun z => h1 (by have := V.int.inj z; omega))
            rw [e1]
            refine iteF ?_
            have sR : Same (hide p H3) (hide p H3) := Same.refl _
            refine ⟨.ref q, rfl, .int (j : Int), rfl, _, rfl, q, _, rfl, .of (gq o3), fun t1 nt1 => ?_⟩
            rw [cut_to (k := j) (by omega)]
            obtain ⟨o5, s5, t1', xs5, e5, h5, k5⟩ := lstK (C := T.C_Share) o3 nt1 (KAll.take j (gr o3))
            cases e5
            refine ⟨be, rfl, line_of (show 1 ≤ 1000 by decide), fun t2 nt2 => ?_⟩
            obtain ⟨o6, s6, t2', xs6, e6, h6, k6⟩ := lstK (C := T.C_Share) o5 nt2 (ka1 (KAt.same (sR.trans s5) _ a3) ka0)
            cases e6
            have l5 : xs5.length ≤ 8 := by rw [k5.len, List.length_take, List.length_replicate]; omega
            have l6 : xs6.length = 1 := k6.len
            refine ⟨t1, t2, _, _, rfl, rfl, hide_sub _ _ _ _ (s6 _ _ h5), hide_sub _ _ _ _ h6, line_of (by omega), fun t3 nt3 => ?_⟩
            obtain ⟨o7, s7, t3', xs7, e7, h7, k7⟩ := lstK (C := T.C_Share) o6 nt3 (KAll.append (KAll.same s6 _ k5) k6)
            cases e7
            refine ⟨.ref q, rfl, .int (j : Int), rfl, _, _, rfl, rfl, _, rfl, ?_⟩
            dsimp only [tNoPart]
            refine ⟨q, _, rfl, .of (hide_sub _ _ _ _ ((s5.trans (s6.trans s7)) _ _ (o3.1 _ _ hq))), fun t4 nt4 => ?_⟩
            rw [cut_next (by omega)]
            have k8a := KAll.drop (j + 1) (KAll.same (s5.trans (s6.trans s7)) _ (gr o3))
            obtain ⟨o8, s8, t4', xs9, e8, h8, k8⟩ := lstK (C := T.C_Share) o7 nt4 k8a
            cases e8
            have l7 : xs7.length ≤ 9 := by
              have e := k7.len
              rw [List.length_append, List.length_take, List.length_replicate, List.length_singleton] at e
              omega
            have l8 := k8.len
            rw [List.length_drop, List.length_replicate] at l8
            refine ⟨t3, t4, _, _, rfl, rfl, hide_sub _ _ _ _ (s8 _ _ h7), hide_sub _ _ _ _ h8, line_of (by omega), fun t5 nt5 => ?_⟩
            obtain ⟨o9, s9, k9⟩ := lstK (C := T.C_Share) o8 nt5 (KAll.append (KAll.same s8 _ k7) k8)
            exact c _ _ y3 _ o9 (w3.mono (by omega)) k9 (mix_no hb (by omega) (by omega))
end
section
variable {P : Program} {w : World} {K : PySem.W.Frag} {mg : Str → Option Value} {base : Heap}
theorem kit_none (T : Txt K mg) : PySem.W.kitAny K (.ref T.C_BadSums) [.ref T.C_BadBallot, .ref T.C_BadClaim, .ref T.C_BadMargins, .ref T.C_BadOrder, .ref T.C_BadPoll, .ref T.C_BadRule, .ref T.C_NoShare] = some false :=
  kitAny_cons T.kt_BadSums_BadBallot (fun _ => kitAny_cons T.kt_BadSums_BadClaim (fun _ => kitAny_cons T.kt_BadSums_BadMargins (fun _ => kitAny_cons T.kt_BadSums_BadOrder (fun _ => kitAny_cons T.kt_BadSums_BadPoll (fun _ => kitAny_cons T.kt_BadSums_BadRule (fun _ =>
    kitAny_cons T.kt_BadSums_NoShare (fun _ => kitAny_nil) (fun z => (by cases z))) (fun z => (by cases z))) (fun z => (by cases z))) (fun z => (by cases z))) (fun z => (by cases z))) (fun z => (by cases z))) (fun z => (by cases z))
def sp_law_word (C : Addr) : Sp := fun vs H Q _ => ∃ (way : Int) (v u : V) (kd : Kd), vs = [.int way, v, u] ∧ KAt C H kd v ∧ areK kd = false ∧ ∀ H', Same H H' → Q (.str "refused") H'
theorem ok_law_word (T : Txt K mg) : FnOk P w K mg base CX0 6 T.f_law_word T.fd_law_word ["_law_way", "_law_some", "_law_paper_in"] (sp_law_word T.C_Share) := by
  refine T.F_law_word.ok sc_law_word (fun vs H Q E h => ?_) (fun cdv A outer s H vs Q E hr h => ?_)
  · obtain ⟨way, v, u, kd, rfl, _⟩ := h
    rfl
  · obtain ⟨way, v, u, kd, rfl, hk, ha, c⟩ := h
    refine ⟨_, (pss_cons
 (ps_set (i := 3) sc_law_word.nd rfl (Or.inl rfl) pe_str)
 (pss_cons
 (ps_try_as (i := 4) rfl rfl sc_law_word.nd rfl rfl ⟨rfl, by decide, Or.inl T.k_PollError⟩ takes0
 (fun W pn xe tk _ => (by have h := ((pss_one
 (ps_if (pt_cmpR op_eq (pv 0) pe_int (nomark _))
 (pss_one
 (ps_expr (pf_pos (ok_check_sums T) (hr.mono (by decide)) (by rfl) T.g_check_sums T.F_check_sums.kp T.kb_check_sums_1 (fun σ => atE tk σ) (pa_cons (pv 1) pa_nil))))
 (pss_one
 (ps_if (pt_cmpR op_eq (pv 0) pe_int (nomark _))
 (pss_one
 (ps_expr (pf_pos (ok_met_by T) (hr.mono (by decide)) (by rfl) T.g_met_by T.F_met_by.kp T.kb_met_by_1 (fun σ => atE tk σ) (pa_cons (pv 1) pa_nil))))
 (pss_one
 (ps_if (pt_cmpR op_eq (pv 0) pe_int (nomark _))
 (pss_one
 (ps_expr (pf_both (ok_unmet T) (hr.mono (by decide)) (by rfl) T.g_unmet T.F_unmet.kp T.kb_unmet_1_many (fun σ => atE tk σ) (pa_cons (pv 1) pa_nil) (pk_cons pe_int pk_nil))))
 (pss_one
 (ps_if (pt_cmpR op_eq (pv 0) pe_int (nomark _))
 (pss_one
 (ps_expr (pf_pos (ok_shows_met T) (hr.mono (by decide)) (by rfl) T.g_shows_met T.F_shows_met.kp T.kb_shows_met_2 (fun σ => atE tk σ) (pa_cons (pv 1) (pa_cons (pv 2) pa_nil)))))
 (pss_one
 (ps_expr (pf_both (ok_shows_unmet T) (hr.mono (by decide)) (by rfl) T.g_shows_unmet T.F_shows_unmet.kp T.kb_shows_unmet_2_many (fun σ => atE tk σ) (pa_cons (pv 1) (pa_cons (pv 2) pa_nil)) (pk_cons pe_int pk_nil)))))))))))) : PSs ((cxOf CX0 P w K mg base ["_law_way", "_law_some", "_law_paper_in", "_law_told", "e", "_law_others"] "_law_word" (defScope s_law_word) T.f_law_word cdv A outer s H E).nox.tr pn xe) (blkOf ((defBody s_law_word).getD 1 (.Pass ⟨0, 0, 0, 0⟩)) 0) _); dsimp only [Cx.tr, Cx.suite, Cx.nox, Cx.wish, cxOf] at h; exact h))
 (fun a oe cls d pn hz hf => (by have h := ((pss_cons
 (ps_set (i := 5) sc_law_word.nd rfl (Or.inl rfl) (pe_callB (call_isXT T.ic_BadSums hz hf) (by rfl) T.z_isinstance (by decide +kernel) (pa_cons (pv 4) (pa_cons (pe_tup (pa_cons (pe_glob (v := .ref T.C_BadBallot) rfl T.k_BadBallot rfl) (pa_cons (pe_glob (v := .ref T.C_BadClaim) rfl T.k_BadClaim rfl) (pa_cons (pe_glob (v := .ref T.C_BadMargins) rfl T.k_BadMargins rfl) (pa_cons (pe_glob (v := .ref T.C_BadOrder) rfl T.k_BadOrder rfl) (pa_cons (pe_glob (v := .ref T.C_BadPoll) rfl T.k_BadPoll rfl) (pa_cons (pe_glob (v := .ref T.C_BadRule) rfl T.k_BadRule rfl) (pa_cons (pe_glob (v := .ref T.C_NoShare) rfl T.k_NoShare rfl) pa_nil)))))))) pa_nil))))
 (pss_one
 (ps_set (i := 3) sc_law_word.nd rfl (Or.inl rfl) (pe_ix ix_list (pe_lst (pa_cons pe_str (pa_cons pe_str pa_nil))) (pe_callTy call_int1 (by rfl) T.z_int (by decide +kernel) (pa_cons (pe_and (pe_callB (call_isX T.ic_BadSums hz hf) (by rfl) T.z_isinstance (by decide +kernel) (pa_cons (pv 4) (pa_cons (pe_glob (v := .ref T.C_BadSums) rfl T.k_BadSums rfl) pa_nil))) (pe_one (pe_not (pv 5)))) pa_nil)) (fun _ _ => rfl))))) : PSs ((cxOf CX0 P w K mg base ["_law_way", "_law_some", "_law_paper_in", "_law_told", "e", "_law_others"] "_law_word" (defScope s_law_word) T.f_law_word cdv A outer s H E).nox.suite a ((a, oe) :: pn)) (blkOf ((defBody s_law_word).getD 1 (.Pass ⟨0, 0, 0, 0⟩)) 1) _); dsimp only [Cx.tr, Cx.suite, Cx.nox, Cx.wish, cxOf] at h; exact h)))
 (pss_one
 (ps_ret (pv 3))))), ?_⟩
    refine ⟨.int way, rfl, rfl, _, rfl, ?_⟩
    cases decide (V.int way = V.int 0) with
    | true => refine iteT ⟨v, rfl, rfl, rfl, v, kd, rfl, hk, fun z => (by rw [ha] at z; cases z), fun _ => ?_⟩; refine fun d fs H' s1 nd hd => ?_; exact ⟨true, T.te_BadSums_PollError, fun _ x _ => ⟨.ref x, rfl, line_of (show 7 ≤ 1000 by decide), fun tp ntp => ⟨tp, _, _, false, d, fs, rfl, upd_same, .cons (.own _) (.cons (.own _) (.cons (.own _) (.cons (.own _) (.cons (.own _) (.cons (.own _) (.cons (.own _) .nil)))))), rfl, rfl, same_upd ntp _ _ hd, kit_none T,
            line_of (show 2 ≤ 1000 by decide), fun l nl => ⟨.ref x, rfl, _, _, true, d, fs, rfl, fun _ h => h, rfl, rfl, same_upd nl _ _ (same_upd ntp _ _ hd), T.kt_BadSums_BadSums, true, rfl, iteT ⟨_, rfl, _, rfl, .inr ⟨_, rfl, l, _, 1, _, rfl, rfl, .of upd_same, atI_nat (j := 1) rfl, _, rfl, c _ (s1.trans ((same_upd ntp).trans (same_upd nl)))⟩⟩⟩⟩⟩, fun q => Bool.noConfusion q⟩
    | false =>
      refine iteF ⟨.int way, rfl, rfl, _, rfl, ?_⟩
      cases decide (V.int way = V.int 1) with
      | true => refine iteT ⟨v, rfl, rfl, rfl, v, _, kd, rfl, hk, ha, ?_⟩; refine fun d fs H' s1 nd hd => ?_; exact ⟨true, T.te_BadSums_PollError, fun _ x _ => ⟨.ref x, rfl, line_of (show 7 ≤ 1000 by decide), fun tp ntp => ⟨tp, _, _, false, d, fs, rfl, upd_same, .cons (.own _) (.cons (.own _) (.cons (.own _) (.cons (.own _) (.cons (.own _) (.cons (.own _) (.cons (.own _) .nil)))))), rfl, rfl, same_upd ntp _ _ hd, kit_none T,
            line_of (show 2 ≤ 1000 by decide), fun l nl => ⟨.ref x, rfl, _, _, true, d, fs, rfl, fun _ h => h, rfl, rfl, same_upd nl _ _ (same_upd ntp _ _ hd), T.kt_BadSums_BadSums, true, rfl, iteT ⟨_, rfl, _, rfl, .inr ⟨_, rfl, l, _, 1, _, rfl, rfl, .of upd_same, atI_nat (j := 1) rfl, _, rfl, c _ (s1.trans ((same_upd ntp).trans (same_upd nl)))⟩⟩⟩⟩⟩, fun q => Bool.noConfusion q⟩
      | false =>
        refine iteF ⟨.int way, rfl, rfl, _, rfl, ?_⟩
        cases decide (V.int way = V.int 2) with
        | true => refine iteT ⟨v, rfl, rfl, rfl, v, _, kd, rfl, hk, ha, ?_⟩; refine fun d fs H' s1 nd hd => ?_; exact ⟨true, T.te_BadSums_PollError, fun _ x _ => ⟨.ref x, rfl, line_of (show 7 ≤ 1000 by decide), fun tp ntp => ⟨tp, _, _, false, d, fs, rfl, upd_same, .cons (.own _) (.cons (.own _) (.cons (.own _) (.cons (.own _) (.cons (.own _) (.cons (.own _) (.cons (.own _) .nil)))))), rfl, rfl, same_upd ntp _ _ hd, kit_none T,
            line_of (show 2 ≤ 1000 by decide), fun l nl => ⟨.ref x, rfl, _, _, true, d, fs, rfl, fun _ h => h, rfl, rfl, same_upd nl _ _ (same_upd ntp _ _ hd), T.kt_BadSums_BadSums, true, rfl, iteT ⟨_, rfl, _, rfl, .inr ⟨_, rfl, l, _, 1, _, rfl, rfl, .of upd_same, atI_nat (j := 1) rfl, _, rfl, c _ (s1.trans ((same_upd ntp).trans (same_upd nl)))⟩⟩⟩⟩⟩, fun q => Bool.noConfusion q⟩
        | false =>
          refine iteF ⟨.int way, rfl, rfl, _, rfl, ?_⟩
          cases decide (V.int way = V.int 3) with
          | true => refine iteT ⟨v, rfl, u, rfl, rfl, rfl, v, u, _, kd, rfl, hk, ha, ?_⟩; refine fun d fs H' s1 nd hd => ?_; exact ⟨true, T.te_BadSums_PollError, fun _ x _ => ⟨.ref x, rfl, line_of (show 7 ≤ 1000 by decide), fun tp ntp => ⟨tp, _, _, false, d, fs, rfl, upd_same, .cons (.own _) (.cons (.own _) (.cons (.own _) (.cons (.own _) (.cons (.own _) (.cons (.own _) (.cons (.own _) .nil)))))), rfl, rfl, same_upd ntp _ _ hd, kit_none T,
            line_of (show 2 ≤ 1000 by decide), fun l nl => ⟨.ref x, rfl, _, _, true, d, fs, rfl, fun _ h => h, rfl, rfl, same_upd nl _ _ (same_upd ntp _ _ hd), T.kt_BadSums_BadSums, true, rfl, iteT ⟨_, rfl, _, rfl, .inr ⟨_, rfl, l, _, 1, _, rfl, rfl, .of upd_same, atI_nat (j := 1) rfl, _, rfl, c _ (s1.trans ((same_upd ntp).trans (same_upd nl)))⟩⟩⟩⟩⟩, fun q => Bool.noConfusion q⟩
          | false => refine iteF ⟨v, rfl, u, rfl, rfl, rfl, v, u, _, kd, rfl, hk, ha, ?_⟩; refine fun d fs H' s1 nd hd => ?_; exact ⟨true, T.te_BadSums_PollError, fun _ x _ => ⟨.ref x, rfl, line_of (show 7 ≤ 1000 by decide), fun tp ntp => ⟨tp, _, _, false, d, fs, rfl, upd_same, .cons (.own _) (.cons (.own _) (.cons (.own _) (.cons (.own _) (.cons (.own _) (.cons (.own _) (.cons (.own _) .nil)))))), rfl, rfl, same_upd ntp _ _ hd, kit_none T,
            line_of (show 2 ≤ 1000 by decide), fun l nl => ⟨.ref x, rfl, _, _, true, d, fs, rfl, fun _ h => h, rfl, rfl, same_upd nl _ _ (same_upd ntp _ _ hd), T.kt_BadSums_BadSums, true, rfl, iteT ⟨_, rfl, _, rfl, .inr ⟨_, rfl, l, _, 1, _, rfl, rfl, .of upd_same, atI_nat (j := 1) rfl, _, rfl, c _ (s1.trans ((same_upd ntp).trans (same_upd nl)))⟩⟩⟩⟩⟩, fun q => Bool.noConfusion q⟩
end
theorem item_map {α : Type} {f : α → V} {l : List α} {i : Nat} {v : V} (h : (l.map f)[i]? = some v) : ∃ a, l[i]? = some a ∧ v = f a := by
  rw [List.getElem?_map] at h
  cases e : l[i]? with
  | none => rw [e] at h; cases h
  | some a => rw [e] at h; exact ⟨a, rfl, (Option.some.inj h).symm⟩
theorem rows_yes {n m : Nat} (hn : n ≤ 12) (hm : m ≤ 30) : areK (.lst (List.replicate m (rowK n))) = true := by
  have e : isRowK (rowK n) = true := by
    show (decide ((List.replicate n Kd.sh).length ≤ 12) && (List.replicate n Kd.sh).all isS && true) = true
    rw [List.length_replicate, decide_eq_true hn, Bool.true_and, Bool.and_true, List.all_eq_true]
    intro k hk
    rw [(List.mem_replicate.mp hk).2]
    rfl
  show (decide ((List.replicate m (rowK n)).length ≤ 30) && (List.replicate m (rowK n)).all isRowK && (List.replicate m (rowK n)).all fun r => decide (partsN r = partsN ((List.replicate m (rowK n)).headD .oth))) = true
  rw [List.length_replicate, decide_eq_true hm, Bool.true_and, Bool.and_eq_true, List.all_eq_true, List.all_eq_true]
  refine ⟨fun k hk => ?_, fun k hk => ?_⟩
  · rw [(List.mem_replicate.mp hk).2]
    exact e
  · obtain ⟨h0, rfl⟩ := List.mem_replicate.mp hk
    cases m with
    | zero => exact absurd rfl h0
    | succ j => exact decide_eq_true rfl
theorem many_of {K : PySem.W.Frag} {H : Hp} {l : Addr} {k : Int} {xs : List V} {Q : VK} (h : H l = some (.tup xs)) (h1 : xs ≠ []) (h2 : 1 ≤ k) (h3 : k ≤ 1000) (h4 : xs.length ≤ 1000) (c : ∀ (s : Addr) (H' : Hp), Same H H' → Q (.ref s) H') : rMany K (.ref l) (.int k) H Q :=
  ⟨l, k, xs, rfl, rfl, .of h, h1, h2, h3, h4, fun _ => c l H (Same.refl _), fun _ s ns => c s _ (same_upd ns)⟩
section
variable {P : Program} {w : World} {K : PySem.W.Frag} {mg : Str → Option Value} {base : Heap}
def FrL (a : Addr) (σ : L2.St) : Prop := ∃ y1 y2 y3 y4 y5 y6 y7 y8 y9 : Option V, σ = [some (.ref a), y1, y2, y3, y4, y5, y6, y7, y8, y9]
def sp_law (K : PySem.W.Frag) : Sp := fun vs H Q _ => ∃ (a : Addr) (ns : List Int), vs = [.ref a] ∧ SqL K H a (ns.map V.int) ∧ ns.length ≤ 63 ∧ ∀ H', Q (.bl true) H'
theorem ok_law (T : Txt K mg) : FnOk P w K mg base CX0 9 T.f_law T.fd_law ["_law_script"] (sp_law K) := by
  refine T.F_law.ok sc_law (fun vs H Q E h => ?_) (fun cdv A outer s H vs Q E hr h => ?_)
  · obtain ⟨a, ns, rfl, _⟩ := h
    rfl
  · obtain ⟨a, ns, rfl, hS, hlen, q⟩ := h
    refine ⟨_, (pss_cons
 (ps_for PassesOwn.never rfl (pi_list (pe_op op_cat (pe_lst (pa_cons (pe_call (ok_law_cell_at T) (hr.mono (by decide)) (by rfl) T.g_law_cell_at T.F_law_cell_at.kp T.b_law_cell_at .nil pass0 (pa_cons (pv 0) (pa_cons pe_int pa_nil))) pa_nil)) (pe_slice sl_list (pv 0) (po_some pe_int) (po_some pe_int)))) (pg_name (i := 1) sc_law.nd rfl (Or.inl rfl))
 (pss_cons
 (ps_set (i := 2) sc_law.nd rfl (Or.inr rfl) (pe_call (ok_law_well T) (hr.mono (by decide)) (by rfl) T.g_law_well T.F_law_well.kp T.b_law_well .nil pass0 (pa_cons (pv 1) pa_nil)))
 (pss_cons
 (ps_set (i := 3) sc_law.nd rfl (Or.inr rfl) (pe_call (ok_law_draw T) (hr.mono (by decide)) (by rfl) T.g_law_draw T.F_law_draw.kp T.b_law_draw .nil pass0 (pa_cons (pv 2) (pa_cons pe_int pa_nil))))
 (pss_cons
 (ps_setLc (i := 4) (own := [("_law_k", 9)]) (g := gName 9) (tt := tYes) rfl sc_law.nd rfl rfl (sw_true rfl rfl rfl (by decide +kernel)) (pi_range1 rfl T.z_range (pa_cons (pe_op op_add pe_int (pe_call (ok_law_draw T) (hr.mono (by decide)) (by rfl) T.g_law_draw T.F_law_draw.kp T.b_law_draw .nil pass0 (pa_cons (pv 2) (pa_cons pe_int pa_nil)))) pa_nil)) (blkOk_by (own := [("_law_k", 9)]) (N := ["_law_script", "_law_cell", "_law_well_here", "_law_size", "_law_rows", "_law_turn", "_law_bad", "_law_paper_in", "_law_way", "_law_k"]) (sc := defScope s_law) (by decide +kernel)) (fun _ _ _ _ _ => pg_name (i := 9) sc_law.nd rfl (Or.inl rfl)) (fun _ _ _ _ _ => pts_nil) (fun _ _ _ _ _ => (pe_call (ok_law_row T) (hr.mono (by decide)) (by rfl) T.g_law_row T.F_law_row.kp T.b_law_row .nil pass0 (pa_cons (pv 2) (pa_cons (pv 3) pa_nil)))))
 (pss_cons
 (ps_if (PW.pt (pw_or (pt_cmpR op_notN (pf_pos (ok_check_sums T) (hr.mono (by decide)) (by rfl) T.g_check_sums T.F_check_sums.kp T.kb_check_sums_1 (fun σ => atN σ) (pa_cons (pv 4) pa_nil)) pe_non (nomark _)) (pw_or1 (pt_cmpR op_notN (pf_pos (ok_check_sums T) (hr.mono (by decide)) (by rfl) T.g_check_sums T.F_check_sums.kp T.kb_check_sums_1 (fun σ => atN σ) (pa_cons (pe_lst pa_nil) pa_nil)) pe_non (nomark _)))))
 (pss_one
 (ps_ret pe_bl))
 pss_nil)
 (pss_cons
 (ps_for PassesOwn.never rfl (pi_range1 rfl T.z_range (pa_cons pe_int pa_nil)) (pg_name (i := 5) sc_law.nd rfl (Or.inl rfl))
 (pss_cons
 (ps_set (i := 6) sc_law.nd rfl (Or.inl rfl) (pe_call (ok_law_spoilt T) (hr.mono (by decide)) (by rfl) T.g_law_spoilt T.F_law_spoilt.kp T.b_law_spoilt .nil pass0 (pa_cons (pv 2) (pa_cons (pv 4) (pa_cons (pv 3) pa_nil)))))
 (pss_cons
 (ps_set (i := 7) sc_law.nd rfl (Or.inl rfl) (pe_call (ok_law_one T) (hr.mono (by decide)) (by rfl) T.g_law_one T.F_law_one.kp T.b_law_one .nil pass0 (pa_cons (pv 2) (pa_cons (pe_lst (pa_cons pe_non (pa_cons (pe_tup pa_nil) (pa_cons (pe_op op_many (pe_tup (pa_cons (pc_pos T.mk_Share (ok_Share_init T) (hr.mono (by decide)) (by rfl) T.k_Share T.kb_Share_init_2 (fun σ => atN σ) (pa_cons pe_int pa_nil)) pa_nil)) (pe_callB call_len_seq (by rfl) T.z_len (by decide +kernel) (pa_cons (pv 4) pa_nil))) (pa_cons pe_str (pa_cons (pe_lst pa_nil) (pa_cons pe_int pa_nil))))))) pa_nil))))
 (pss_one
 (ps_for PassesOwn.never rfl (pi_range1 rfl T.z_range (pa_cons pe_int pa_nil)) (pg_name (i := 8) sc_law.nd rfl (Or.inl rfl))
 (pss_one
 (ps_if (pt_cmpR op_ne (pe_call (ok_law_word T) (hr.mono (by decide)) (by rfl) T.g_law_word T.F_law_word.kp T.b_law_word .nil pass0 (pa_cons (pv 8) (pa_cons (pv 6) (pa_cons (pv 7) pa_nil)))) pe_str (nomark _))
 (pss_one
 (ps_ret pe_bl))
 pss_nil)))))))
 (pss_one
 (ps_if (pt_cmpR op_notN (pf_pos (ok_check_sums T) (hr.mono (by decide)) (by rfl) T.g_check_sums T.F_check_sums.kp T.kb_check_sums_1 (fun σ => atN σ) (pa_cons (pe_op op_rep (pe_lst (pa_cons (pe_tup (pa_cons (pe_op op_repT (pe_tup (pa_cons (pc_pos T.mk_Share (ok_Share_init T) (hr.mono (by decide)) (by rfl) T.k_Share T.kb_Share_init_2 (fun σ => atN σ) (pa_cons pe_int pa_nil)) pa_nil)) pe_int) (pa_cons (pc_pos T.mk_Share (ok_Share_init T) (hr.mono (by decide)) (by rfl) T.k_Share T.kb_Share_init_2 (fun σ => atN σ) (pa_cons pe_int pa_nil)) pa_nil))) pa_nil)) pe_int) pa_nil)) pe_non (nomark _))
 (pss_one
 (ps_ret pe_bl))
 pss_nil))))))))
 (pss_one
 (ps_ret pe_bl))), ?_⟩
    refine ⟨.ref a, rfl, a, ns, rfl, hS, hlen, fun z => ?_⟩
    refine ⟨line_of (show 1 ≤ 1000 by decide), fun l1 n1 => ?_⟩
    have s1 : Same H (upd H l1 (.lst [V.int z])) := same_upd n1
    obtain ⟨ms, em, lm⟩ := cut_ints ns (some 1) (some 12)
    refine ⟨.ref a, rfl, 1, rfl, 12, rfl, a, _, rfl, s1.seq hS, fun l2 n2 => ?_⟩
    rw [em]
    have hl12 : l1 ≠ l2 := fun e => by rw [← e, upd_same] at n2; cases n2
    refine ⟨l1, l2, _, _, rfl, rfl, (by rw [upd_ne hl12, upd_same]), upd_same, ?_, fun l3 n3 => ?_⟩
    · rw [List.length_map]
      exact line_of (show 1 + ms.length ≤ 1000 by omega)
    have e3 : ([V.int z] ++ ms.map V.int) = (z :: ms).map V.int := rfl
    rw [e3]
    generalize hH0 : upd (upd (upd H l1 (.lst [V.int z])) l2 (.lst (ms.map V.int))) l3 (.lst ((z :: ms).map V.int)) = H0
    have h3 : H0 l3 = some (.lst ((z :: ms).map V.int)) := by rw [← hH0, upd_same]
    refine ⟨l3, rfl, ⟨_, .of h3⟩, for_list (K := K) (a := l3) (xs := (z :: ms).map V.int) (fun _ σ H' => FrL a σ ∧ Same H0 H') ⟨⟨none, none, none, none, none, none, none, none, none, rfl⟩, Same.refl _⟩ (fun _ _ _ _ h => .of (h.2 _ _ h3)) ?_ ?_⟩
    · rintro i x σ H1 hi ⟨⟨y1, y2, y3, y4, y5, y6, y7, y8, y9, rfl⟩, s2⟩
      obtain ⟨nn, _, rfl⟩ := item_map hi
      refine ⟨.int nn, rfl, nn, rfl, fun p x H2 np s3 hp hx => ?_⟩
      have np0 : H0 p = none := s2.free np
      have s4 : Same H0 H2 := s2.trans s3
      refine ⟨.ref p, rfl, p, 4, x, 0, rfl, hp, hx, by decide, by decide, size_ok (by decide) (by decide), fun sz x1 b0 b1 w1 => ?_⟩
      obtain ⟨n, rfl⟩ := Int.eq_ofNat_of_zero_le b0
      have o1 : On p H2 x1 (upd H2 p (.lst x1)) := (On.start hp).put
      generalize upd H2 p (HO.lst x1) = H3 at o1 ⊢
      refine ⟨.ref p, rfl, p, 4, x1, _, rfl, o1.2, w1, by decide, by decide, size_ok (by decide) (by decide), fun m0 x2 c0 c1 w2 => ?_⟩
      have o2 : On p H2 x2 (upd H3 p (.lst x2)) := o1.put
      generalize upd H3 p (HO.lst x2) = H4 at o2 ⊢
      refine ⟨1, m0, rfl, rfl, _, rfl, by omega, by omega, fun D nD => ?_⟩
      have nDH := o2.free hp nD
      refine lc_range (lo := 0) (n := (1 + m0).toNat) (fun i H' => ∃ (xs y : List V), On p H2 y H' ∧ WellL y (2 + 30 * i) ∧ hide p H' D = some (.lst xs) ∧ KAll T.C_Share (hide p H') (List.replicate i (rowK n)) xs) ⟨[], x2, o2.new nD, w2.mono (by omega), o2.hid nD, rfl⟩ ?_ ?_
      · rintro i H5 hi ⟨xs, y, o3, w3, h3, a3⟩
        refine ⟨rfl, .ref p, rfl, .int n, rfl, p, n, y, _, rfl, by omega, o3.2, w3, by omega, fun v y4 H6 o4 w4 a4 => ?_⟩
        obtain ⟨Dp, g1, g2, g3⟩ := comp_put (k := rowK n) (o4.1 _ _ h3) (noL_row n) (KAll.same o4.1 _ a3) a4
        exact ⟨xs, g1, small1000 (by rw [a3.len, List.length_replicate]; omega), _, y4, (o3.trans o4).lstD nDH Dp, w4.mono (by omega), g2, g3⟩
      · rintro H5 ⟨rs, y, o3, w3, h3, a3⟩
        obtain ⟨m, em2⟩ : ∃ m : Nat, (1 + m0).toNat = m := ⟨_, rfl⟩
        rw [em2] at a3 w3
        have m1 : 1 ≤ m := by omega
        have m4 : m ≤ 4 := by omega
        have w3 := w3.mono (show 2 + 30 * m ≤ 200 by omega)
        refine ⟨.ref D, rfl, rfl, rfl, .ref D, .lst (List.replicate m (rowK n)), rfl, ⟨D, rs, rfl, hide_sub _ _ _ _ h3, KAll.same (hide_sub p H5) _ a3⟩, fun _ H6 s6 => ?_, fun z => (by rw [rows_yes (by omega) (by omega)] at z; cases z)⟩
        have o4 := o3.same s6
        refine ⟨rfl, _, rfl, ?_⟩
        refine iteNS rfl ⟨line_of (show 0 ≤ 1000 by decide), fun l0 nl0 => ⟨rfl, rfl, .ref l0, .lst [], rfl, ⟨l0, [], rfl, upd_same, rfl⟩, fun _ H7 s7 => ⟨rfl, _, rfl, iteNS rfl ?_⟩, fun z => absurd z (by decide)⟩⟩
        have s67 := (same_upd (o := HO.lst []) nl0).trans s7
        have o5 := o4.same s67
        have h5 := (hid_same (p := p) (s6.trans s67)) _ _ h3
        have a5 := KAll.same (hid_same (p := p) (s6.trans s67)) _ a3
        clear s67 s7 s6 o4 o3 h3 a3
        refine ⟨3, rfl, by decide, by decide, for_range (fun i σ H' => ∃ (t5 t6 t7 t8 : Option V) (yy : List V), σ = [some (.ref a), some (.int nn), some (.ref p), some (.int n), some (.ref D), t5, t6, t7, t8, y9] ∧ On p H7 yy H' ∧ WellL yy (200 + 300 * i))
          ⟨y5, y6, y7, y8, y, rfl, On.start o5.2, w3.mono (by omega)⟩ ?_ ?_⟩
        · rintro i σ H8 hi8 ⟨t5, t6, t7, t8, yy, rfl, o6, w6⟩
          refine ⟨.ref p, rfl, .ref D, rfl, .int n, rfl, p, D, n, m, rs, yy, _, rfl, by omega, m1, m4, o6.2, o6.1 _ _ h5, KAll.same o6.1 _ a5, w6, by omega, fun u kd y7' H9 o67 w7 a7 hb => ?_⟩
          have o7 := o6.trans o67
          refine ⟨.ref p, rfl, ?_⟩
          refine ⟨line_of (show 0 ≤ 1000 by decide), fun t0 nt0 => ?_⟩
          have g1 := same_upd (o := HO.tup []) nt0
          refine ⟨rfl, rfl, fun a1 dx1 m1' m2' m3' => ⟨a1, dx1, 1, 1, 1, rfl, upd_same, by decide, by decide, by decide, fun z => absurd z (by decide), fun _ H10 b1' e1' => ⟨rfl, ?_⟩⟩⟩
          have g2 := made_same m1' m2' b1'
          refine ⟨line_of (show 1 ≤ 1000 by decide), fun t1 nt1 => ?_⟩
          have g3 := same_upd (o := HO.tup [V.ref a1]) nt1
          have g13 := g1.trans (g2.trans g3)
          have hD : H9 D = some (.lst rs) := hide_sub _ _ _ _ (o7.1 _ _ h5)
          have lrs : rs.length = m := by rw [a5.len, List.length_replicate]
          refine ⟨.ref D, rfl, D, _, rfl, .inl (.of (g13 _ _ hD)), many_of upd_same (List.cons_ne_nil _ _) (by omega) (by omega) (by show 1 ≤ 1000; decide) fun tm H11 g4 => ?_⟩
          refine ⟨line_of (show 0 ≤ 1000 by decide), fun t2 nt2 => ?_⟩
          have g5 := same_upd (o := HO.lst []) nt2
          refine ⟨line_of (show 6 ≤ 1000 by decide), fun t3 nt3 => ?_⟩
          have g6 := same_upd (o := HO.lst [V.non, V.ref t0, V.ref tm, V.str "paper", V.ref t2, V.int 7]) nt3
          have g15 := g13.trans (g4.trans g5)
          have o8 := o7.same g15
          refine ⟨p, t3, y7', _, _, rfl, (o8.new nt3).2, o8.hid nt3, List.cons_ne_nil _ _, by show 6 ≤ 1000; decide, w7, by omega, fun i3 pv y8' hi3 w8 => ?_⟩
          have o9 := (o8.new (u := HO.lst [V.non, V.ref t0, V.ref tm, V.str "paper", V.ref t2, V.int 7]) nt3).put (z := y8')
          have a8 := KAt.same (puts (o := .lst y8') ((hid_same (p := p) g15).trans (hid_same (p := p) g6))) _ a7
          generalize upd _ p (HO.lst y8') = H12 at o9 a8 ⊢
          have a8 := KAt.same (hide_sub p H12) _ a8
          refine ⟨5, rfl, by decide, by decide, for_range (fun _ σ H' => ∃ (t8 : Option V), σ = [some (.ref a), some (.int nn), some (.ref p), some (.int n), some (.ref D), some (.int (0 + (i : Nat))), some u, some pv, t8, y9] ∧ Same H12 H')
            ⟨t8, rfl, Same.refl _⟩ ?_ ?_⟩
          · rintro j σ H13 hj ⟨t9, rfl, s13⟩
            refine ⟨.int (0 + (j : Nat)), rfl, u, rfl, pv, rfl, _, u, pv, kd, rfl, KAt.same s13 _ a8, hb, fun H14 s14 => ⟨rfl, _, rfl, iteNS rfl ⟨_, rfl, s13.trans s14⟩⟩⟩
          · rintro σ H13 ⟨t9, rfl, s13⟩
            exact ⟨_, _, _, _, y8', rfl, o9.same s13, w8.mono (by omega)⟩
        · rintro σ H8 ⟨t5, t6, t7, t8, yy, rfl, o6, w6⟩
          refine ⟨rfl, rfl, fun a1 dx1 m1' m2' m3' => ⟨a1, dx1, 0, 1, 1, rfl, upd_same, by decide, by decide, by decide, fun z => absurd z (by decide), fun _ H9 b1' e1' => ⟨rfl, ?_⟩⟩⟩
          obtain ⟨o7, s7, k7⟩ := shK o6 m1' m2' b1' e1'
          refine ⟨line_of (show 1 ≤ 1000 by decide), fun t1 nt1 => ?_⟩
          have o8 := o7.new (u := HO.tup [V.ref a1]) nt1
          have k8 := KAt.same (hid_same (p := p) (same_upd (o := HO.tup [V.ref a1]) nt1)) _ k7
          refine ⟨t1, 12, _, rfl, rfl, .of upd_same, List.cons_ne_nil _ _, by decide, by decide, by show 1 ≤ 1000; decide, fun t2 nt2 => ?_⟩
          obtain ⟨o9, s9, k9⟩ := tupK o8 nt2 (KAll.flat (ka1 k8 ka0) 12)
          refine ⟨rfl, rfl, fun a2 dx2 m4' m5' m6' => ⟨a2, dx2, 0, 1, 1, rfl, upd_same, by decide, by decide, by decide, fun z => absurd z (by decide), fun _ H10 b2' e2' => ⟨rfl, ?_⟩⟩⟩
          obtain ⟨o10, s10, k10⟩ := shK o9 m4' m5' b2' e2'
          refine ⟨line_of (show 2 ≤ 1000 by decide), fun t3 nt3 => ?_⟩
          obtain ⟨o11, s11, k11⟩ := tupK o10 nt3 (ka1 (KAt.same s10 _ k9) (ka1 k10 ka0))
          refine ⟨line_of (show 1 ≤ 1000 by decide), fun t4 nt4 => ?_⟩
          have o12 := o11.new (u := HO.lst [V.ref t3]) nt4
          have k12 := KAt.same (hid_same (p := p) (same_upd (o := HO.lst [V.ref t3]) nt4)) _ k11
          refine ⟨t4, 30, _, rfl, rfl, upd_same, by decide, by decide, line_of (show 1 * 30 ≤ 1000 by decide), fun t5' nt5 => ?_⟩
          obtain ⟨o13, s13, k13⟩ := lstK o12 nt5 (KAll.flat (ka1 (k := rowK 12) k12 ka0) 30)
          refine ⟨rfl, rfl, .ref t5', .lst (List.replicate 30 (rowK 12)), rfl, KAt.same (hide_sub p _) _ k13, fun _ H11 s14 => ⟨rfl, _, rfl, iteNS rfl ?_⟩, fun z => (by rw [rows_yes (by decide) (by decide)] at z; cases z)⟩
          exact ⟨⟨_, _, _, _, _, _, _, _, _, rfl⟩, But.ext s4 np0 (hid_but (o5.trans (o13.same s14)).1)⟩
    · rintro σ H1 ⟨⟨y1, y2, y3, y4, y5, y6, y7, y8, y9, rfl⟩, s2⟩
      exact q H1
end
theorem all_mk {l : PySem.W.OpenLaw} {w : World} {K : PySem.W.Frag} {h : Heap} {mg : Str → Option Value} {fa : Addr} (X : K.In h) (G : h.Ns mainGlobals mg) (hfa : mg "law" = some (.ref fa))
    {f_PollError_init : Addr} {od_PollError_init an_PollError_init : Option Addr} {sl_PollError_init : Array (Option Value)} {oc_PollError_init kV_PollError_init dc_PollError_init pm_PollError_init cd_PollError_init ct_PollError_init : Value}
    {T_PollError_init : Addr} {to_PollError_init : Value} {td_PollError_init : Option Addr} {tn_PollError_init : Nat} {tsl_PollError_init : Array (Option Value)} {tk0_PollError_init : Tok}
    (lt_PollError_init : K.lookup T_PollError_init = some ⟨to_PollError_init, td_PollError_init, .seq #[.str "" tk0_PollError_init] tn_PollError_init, tsl_PollError_init⟩)
    (l_PollError_init : K.lookup f_PollError_init = some ⟨oc_PollError_init, od_PollError_init, .func (PySem.W.fnOf "__init__" "PollError.__init__" (defArgs s_PollError_init) (defBody s_PollError_init) (defScope s_PollError_init) (.ref T_PollError_init) kV_PollError_init dc_PollError_init pm_PollError_init an_PollError_init cd_PollError_init ct_PollError_init), sl_PollError_init⟩)
    (c_PollError_init : PySem.W.codeIn K cd_PollError_init "PollError.__init__" = true) (k_PollError_init : PySem.W.keepIn K (.ref f_PollError_init) = true)
    {f_NoShare_init : Addr} {od_NoShare_init an_NoShare_init : Option Addr} {sl_NoShare_init : Array (Option Value)} {oc_NoShare_init kV_NoShare_init dc_NoShare_init pm_NoShare_init cd_NoShare_init ct_NoShare_init : Value}
    (l_NoShare_init : K.lookup f_NoShare_init = some ⟨oc_NoShare_init, od_NoShare_init, .func (PySem.W.fnOf "__init__" "NoShare.__init__" (defArgs s_NoShare_init) (defBody s_NoShare_init) (defScope s_NoShare_init) .none kV_NoShare_init dc_NoShare_init pm_NoShare_init an_NoShare_init cd_NoShare_init ct_NoShare_init), sl_NoShare_init⟩)
    (c_NoShare_init : PySem.W.codeIn K cd_NoShare_init "NoShare.__init__" = true) (k_NoShare_init : PySem.W.keepIn K (.ref f_NoShare_init) = true)
    {f_Share_init : Addr} {od_Share_init an_Share_init : Option Addr} {sl_Share_init : Array (Option Value)} {oc_Share_init kV_Share_init dc_Share_init pm_Share_init cd_Share_init ct_Share_init : Value}
    {T_Share_init : Addr} {to_Share_init : Value} {td_Share_init : Option Addr} {tn_Share_init : Nat} {tsl_Share_init : Array (Option Value)} {tk0_Share_init : Tok}
    (lt_Share_init : K.lookup T_Share_init = some ⟨to_Share_init, td_Share_init, .seq #[.int 1 tk0_Share_init] tn_Share_init, tsl_Share_init⟩)
    (l_Share_init : K.lookup f_Share_init = some ⟨oc_Share_init, od_Share_init, .func (PySem.W.fnOf "__init__" "Share.__init__" (defArgs s_Share_init) (defBody s_Share_init) (defScope s_Share_init) (.ref T_Share_init) kV_Share_init dc_Share_init pm_Share_init an_Share_init cd_Share_init ct_Share_init), sl_Share_init⟩)
    (c_Share_init : PySem.W.codeIn K cd_Share_init "Share.__init__" = true) (k_Share_init : PySem.W.keepIn K (.ref f_Share_init) = true)
    {f_is_tuple_of : Addr} {od_is_tuple_of an_is_tuple_of : Option Addr} {sl_is_tuple_of : Array (Option Value)} {oc_is_tuple_of kV_is_tuple_of dc_is_tuple_of pm_is_tuple_of cd_is_tuple_of ct_is_tuple_of : Value}
    (a_is_tuple_of : PySem.W.nsIn K mainGlobals "is_tuple_of" = some (some (.ref f_is_tuple_of)))
    (l_is_tuple_of : K.lookup f_is_tuple_of = some ⟨oc_is_tuple_of, od_is_tuple_of, .func (PySem.W.fnOf "is_tuple_of" "is_tuple_of" (defArgs s_is_tuple_of) (defBody s_is_tuple_of) (defScope s_is_tuple_of) .none kV_is_tuple_of dc_is_tuple_of pm_is_tuple_of an_is_tuple_of cd_is_tuple_of ct_is_tuple_of), sl_is_tuple_of⟩)
    (c_is_tuple_of : PySem.W.codeIn K cd_is_tuple_of "is_tuple_of" = true) (k_is_tuple_of : PySem.W.keepIn K (.ref f_is_tuple_of) = true)
    {f_is_row : Addr} {od_is_row an_is_row : Option Addr} {sl_is_row : Array (Option Value)} {oc_is_row kV_is_row dc_is_row pm_is_row cd_is_row ct_is_row : Value}
    (a_is_row : PySem.W.nsIn K mainGlobals "is_row" = some (some (.ref f_is_row)))
    (l_is_row : K.lookup f_is_row = some ⟨oc_is_row, od_is_row, .func (PySem.W.fnOf "is_row" "is_row" (defArgs s_is_row) (defBody s_is_row) (defScope s_is_row) .none kV_is_row dc_is_row pm_is_row an_is_row cd_is_row ct_is_row), sl_is_row⟩)
    (c_is_row : PySem.W.codeIn K cd_is_row "is_row" = true) (k_is_row : PySem.W.keepIn K (.ref f_is_row) = true)
    {f_are_sums : Addr} {od_are_sums an_are_sums : Option Addr} {sl_are_sums : Array (Option Value)} {oc_are_sums kV_are_sums dc_are_sums pm_are_sums cd_are_sums ct_are_sums : Value}
    (a_are_sums : PySem.W.nsIn K mainGlobals "are_sums" = some (some (.ref f_are_sums)))
    (l_are_sums : K.lookup f_are_sums = some ⟨oc_are_sums, od_are_sums, .func (PySem.W.fnOf "are_sums" "are_sums" (defArgs s_are_sums) (defBody s_are_sums) (defScope s_are_sums) .none kV_are_sums dc_are_sums pm_are_sums an_are_sums cd_are_sums ct_are_sums), sl_are_sums⟩)
    (c_are_sums : PySem.W.codeIn K cd_are_sums "are_sums" = true) (k_are_sums : PySem.W.keepIn K (.ref f_are_sums) = true)
    {f_check_sums : Addr} {od_check_sums an_check_sums : Option Addr} {sl_check_sums : Array (Option Value)} {oc_check_sums kV_check_sums dc_check_sums pm_check_sums cd_check_sums ct_check_sums : Value}
    (a_check_sums : PySem.W.nsIn K mainGlobals "check_sums" = some (some (.ref f_check_sums)))
    (l_check_sums : K.lookup f_check_sums = some ⟨oc_check_sums, od_check_sums, .func (PySem.W.fnOf "check_sums" "check_sums" (defArgs s_check_sums) (defBody s_check_sums) (defScope s_check_sums) .none kV_check_sums dc_check_sums pm_check_sums an_check_sums cd_check_sums ct_check_sums), sl_check_sums⟩)
    (c_check_sums : PySem.W.codeIn K cd_check_sums "check_sums" = true) (k_check_sums : PySem.W.keepIn K (.ref f_check_sums) = true)
    {f_met_by : Addr} {od_met_by an_met_by : Option Addr} {sl_met_by : Array (Option Value)} {oc_met_by dc_met_by pm_met_by cd_met_by ct_met_by : Value}
    (a_met_by : PySem.W.nsIn K mainGlobals "met_by" = some (some (.ref f_met_by)))
    {D_met_by : Addr} {tq0_met_by : Tok}
    (l_met_by : K.lookup f_met_by = some ⟨oc_met_by, od_met_by, .func (PySem.W.fnOf "met_by" "met_by" (defArgs s_met_by) (defBody s_met_by) (defScope s_met_by) .none (.ref D_met_by) dc_met_by pm_met_by an_met_by cd_met_by ct_met_by), sl_met_by⟩)
    (nk_met_by_many : PySem.W.nsIn K D_met_by "many" = some (some (.int 0 tq0_met_by)))
    (c_met_by : PySem.W.codeIn K cd_met_by "met_by" = true) (k_met_by : PySem.W.keepIn K (.ref f_met_by) = true)
    {f_unmet : Addr} {od_unmet an_unmet : Option Addr} {sl_unmet : Array (Option Value)} {oc_unmet dc_unmet pm_unmet cd_unmet ct_unmet : Value}
    (a_unmet : PySem.W.nsIn K mainGlobals "unmet" = some (some (.ref f_unmet)))
    {D_unmet : Addr} {tq0_unmet : Tok}
    (l_unmet : K.lookup f_unmet = some ⟨oc_unmet, od_unmet, .func (PySem.W.fnOf "unmet" "unmet" (defArgs s_unmet) (defBody s_unmet) (defScope s_unmet) .none (.ref D_unmet) dc_unmet pm_unmet an_unmet cd_unmet ct_unmet), sl_unmet⟩)
    (nk_unmet_many : PySem.W.nsIn K D_unmet "many" = some (some (.int 0 tq0_unmet)))
    (c_unmet : PySem.W.codeIn K cd_unmet "unmet" = true) (k_unmet : PySem.W.keepIn K (.ref f_unmet) = true)
    {f_shows_met : Addr} {od_shows_met an_shows_met : Option Addr} {sl_shows_met : Array (Option Value)} {oc_shows_met dc_shows_met pm_shows_met cd_shows_met ct_shows_met : Value}
    (a_shows_met : PySem.W.nsIn K mainGlobals "shows_met" = some (some (.ref f_shows_met)))
    {D_shows_met : Addr} {tq0_shows_met : Tok}
    (l_shows_met : K.lookup f_shows_met = some ⟨oc_shows_met, od_shows_met, .func (PySem.W.fnOf "shows_met" "shows_met" (defArgs s_shows_met) (defBody s_shows_met) (defScope s_shows_met) .none (.ref D_shows_met) dc_shows_met pm_shows_met an_shows_met cd_shows_met ct_shows_met), sl_shows_met⟩)
    (nk_shows_met_many : PySem.W.nsIn K D_shows_met "many" = some (some (.int 0 tq0_shows_met)))
    (c_shows_met : PySem.W.codeIn K cd_shows_met "shows_met" = true) (k_shows_met : PySem.W.keepIn K (.ref f_shows_met) = true)
    {f_shows_unmet : Addr} {od_shows_unmet an_shows_unmet : Option Addr} {sl_shows_unmet : Array (Option Value)} {oc_shows_unmet dc_shows_unmet pm_shows_unmet cd_shows_unmet ct_shows_unmet : Value}
    (a_shows_unmet : PySem.W.nsIn K mainGlobals "shows_unmet" = some (some (.ref f_shows_unmet)))
    {D_shows_unmet : Addr} {tq0_shows_unmet : Tok}
    (l_shows_unmet : K.lookup f_shows_unmet = some ⟨oc_shows_unmet, od_shows_unmet, .func (PySem.W.fnOf "shows_unmet" "shows_unmet" (defArgs s_shows_unmet) (defBody s_shows_unmet) (defScope s_shows_unmet) .none (.ref D_shows_unmet) dc_shows_unmet pm_shows_unmet an_shows_unmet cd_shows_unmet ct_shows_unmet), sl_shows_unmet⟩)
    (nk_shows_unmet_many : PySem.W.nsIn K D_shows_unmet "many" = some (some (.int 0 tq0_shows_unmet)))
    (c_shows_unmet : PySem.W.codeIn K cd_shows_unmet "shows_unmet" = true) (k_shows_unmet : PySem.W.keepIn K (.ref f_shows_unmet) = true)
    {f_law_cell_at : Addr} {od_law_cell_at an_law_cell_at : Option Addr} {sl_law_cell_at : Array (Option Value)} {oc_law_cell_at kV_law_cell_at dc_law_cell_at pm_law_cell_at cd_law_cell_at ct_law_cell_at : Value}
    (a_law_cell_at : PySem.W.nsIn K mainGlobals "_law_cell_at" = some (some (.ref f_law_cell_at)))
    (l_law_cell_at : K.lookup f_law_cell_at = some ⟨oc_law_cell_at, od_law_cell_at, .func (PySem.W.fnOf "_law_cell_at" "_law_cell_at" (defArgs s_law_cell_at) (defBody s_law_cell_at) (defScope s_law_cell_at) .none kV_law_cell_at dc_law_cell_at pm_law_cell_at an_law_cell_at cd_law_cell_at ct_law_cell_at), sl_law_cell_at⟩)
    (c_law_cell_at : PySem.W.codeIn K cd_law_cell_at "_law_cell_at" = true) (k_law_cell_at : PySem.W.keepIn K (.ref f_law_cell_at) = true)
    {f_law_well : Addr} {od_law_well an_law_well : Option Addr} {sl_law_well : Array (Option Value)} {oc_law_well kV_law_well dc_law_well pm_law_well cd_law_well ct_law_well : Value}
    (a_law_well : PySem.W.nsIn K mainGlobals "_law_well" = some (some (.ref f_law_well)))
    (l_law_well : K.lookup f_law_well = some ⟨oc_law_well, od_law_well, .func (PySem.W.fnOf "_law_well" "_law_well" (defArgs s_law_well) (defBody s_law_well) (defScope s_law_well) .none kV_law_well dc_law_well pm_law_well an_law_well cd_law_well ct_law_well), sl_law_well⟩)
    (c_law_well : PySem.W.codeIn K cd_law_well "_law_well" = true) (k_law_well : PySem.W.keepIn K (.ref f_law_well) = true)
    {f_law_draw : Addr} {od_law_draw an_law_draw : Option Addr} {sl_law_draw : Array (Option Value)} {oc_law_draw kV_law_draw dc_law_draw pm_law_draw cd_law_draw ct_law_draw : Value}
    (a_law_draw : PySem.W.nsIn K mainGlobals "_law_draw" = some (some (.ref f_law_draw)))
    (l_law_draw : K.lookup f_law_draw = some ⟨oc_law_draw, od_law_draw, .func (PySem.W.fnOf "_law_draw" "_law_draw" (defArgs s_law_draw) (defBody s_law_draw) (defScope s_law_draw) .none kV_law_draw dc_law_draw pm_law_draw an_law_draw cd_law_draw ct_law_draw), sl_law_draw⟩)
    (c_law_draw : PySem.W.codeIn K cd_law_draw "_law_draw" = true) (k_law_draw : PySem.W.keepIn K (.ref f_law_draw) = true)
    {f_law_one : Addr} {od_law_one an_law_one : Option Addr} {sl_law_one : Array (Option Value)} {oc_law_one kV_law_one dc_law_one pm_law_one cd_law_one ct_law_one : Value}
    (a_law_one : PySem.W.nsIn K mainGlobals "_law_one" = some (some (.ref f_law_one)))
    (l_law_one : K.lookup f_law_one = some ⟨oc_law_one, od_law_one, .func (PySem.W.fnOf "_law_one" "_law_one" (defArgs s_law_one) (defBody s_law_one) (defScope s_law_one) .none kV_law_one dc_law_one pm_law_one an_law_one cd_law_one ct_law_one), sl_law_one⟩)
    (c_law_one : PySem.W.codeIn K cd_law_one "_law_one" = true) (k_law_one : PySem.W.keepIn K (.ref f_law_one) = true)
    {f_law_share : Addr} {od_law_share an_law_share : Option Addr} {sl_law_share : Array (Option Value)} {oc_law_share kV_law_share dc_law_share pm_law_share cd_law_share ct_law_share : Value}
    (a_law_share : PySem.W.nsIn K mainGlobals "_law_share" = some (some (.ref f_law_share)))
    (l_law_share : K.lookup f_law_share = some ⟨oc_law_share, od_law_share, .func (PySem.W.fnOf "_law_share" "_law_share" (defArgs s_law_share) (defBody s_law_share) (defScope s_law_share) .none kV_law_share dc_law_share pm_law_share an_law_share cd_law_share ct_law_share), sl_law_share⟩)
    (c_law_share : PySem.W.codeIn K cd_law_share "_law_share" = true) (k_law_share : PySem.W.keepIn K (.ref f_law_share) = true)
    {f_law_row : Addr} {od_law_row an_law_row : Option Addr} {sl_law_row : Array (Option Value)} {oc_law_row kV_law_row dc_law_row pm_law_row cd_law_row ct_law_row : Value}
    (a_law_row : PySem.W.nsIn K mainGlobals "_law_row" = some (some (.ref f_law_row)))
    (l_law_row : K.lookup f_law_row = some ⟨oc_law_row, od_law_row, .func (PySem.W.fnOf "_law_row" "_law_row" (defArgs s_law_row) (defBody s_law_row) (defScope s_law_row) .none kV_law_row dc_law_row pm_law_row an_law_row cd_law_row ct_law_row), sl_law_row⟩)
    (c_law_row : PySem.W.codeIn K cd_law_row "_law_row" = true) (k_law_row : PySem.W.keepIn K (.ref f_law_row) = true)
    {f_law_bent : Addr} {od_law_bent an_law_bent : Option Addr} {sl_law_bent : Array (Option Value)} {oc_law_bent kV_law_bent dc_law_bent pm_law_bent cd_law_bent ct_law_bent : Value}
    (a_law_bent : PySem.W.nsIn K mainGlobals "_law_bent" = some (some (.ref f_law_bent)))
    (l_law_bent : K.lookup f_law_bent = some ⟨oc_law_bent, od_law_bent, .func (PySem.W.fnOf "_law_bent" "_law_bent" (defArgs s_law_bent) (defBody s_law_bent) (defScope s_law_bent) .none kV_law_bent dc_law_bent pm_law_bent an_law_bent cd_law_bent ct_law_bent), sl_law_bent⟩)
    (c_law_bent : PySem.W.codeIn K cd_law_bent "_law_bent" = true) (k_law_bent : PySem.W.keepIn K (.ref f_law_bent) = true)
    {f_law_spoilt : Addr} {od_law_spoilt an_law_spoilt : Option Addr} {sl_law_spoilt : Array (Option Value)} {oc_law_spoilt kV_law_spoilt dc_law_spoilt pm_law_spoilt cd_law_spoilt ct_law_spoilt : Value}
    (a_law_spoilt : PySem.W.nsIn K mainGlobals "_law_spoilt" = some (some (.ref f_law_spoilt)))
    (l_law_spoilt : K.lookup f_law_spoilt = some ⟨oc_law_spoilt, od_law_spoilt, .func (PySem.W.fnOf "_law_spoilt" "_law_spoilt" (defArgs s_law_spoilt) (defBody s_law_spoilt) (defScope s_law_spoilt) .none kV_law_spoilt dc_law_spoilt pm_law_spoilt an_law_spoilt cd_law_spoilt ct_law_spoilt), sl_law_spoilt⟩)
    (c_law_spoilt : PySem.W.codeIn K cd_law_spoilt "_law_spoilt" = true) (k_law_spoilt : PySem.W.keepIn K (.ref f_law_spoilt) = true)
    {f_law_word : Addr} {od_law_word an_law_word : Option Addr} {sl_law_word : Array (Option Value)} {oc_law_word kV_law_word dc_law_word pm_law_word cd_law_word ct_law_word : Value}
    (a_law_word : PySem.W.nsIn K mainGlobals "_law_word" = some (some (.ref f_law_word)))
    (l_law_word : K.lookup f_law_word = some ⟨oc_law_word, od_law_word, .func (PySem.W.fnOf "_law_word" "_law_word" (defArgs s_law_word) (defBody s_law_word) (defScope s_law_word) .none kV_law_word dc_law_word pm_law_word an_law_word cd_law_word ct_law_word), sl_law_word⟩)
    (c_law_word : PySem.W.codeIn K cd_law_word "_law_word" = true) (k_law_word : PySem.W.keepIn K (.ref f_law_word) = true)
    {f_law : Addr} {od_law an_law : Option Addr} {sl_law : Array (Option Value)} {oc_law kV_law dc_law pm_law cd_law ct_law : Value}
    (a_law : PySem.W.nsIn K mainGlobals "law" = some (some (.ref f_law)))
    (l_law : K.lookup f_law = some ⟨oc_law, od_law, .func (PySem.W.fnOf "law" "law" (defArgs s_law) (defBody s_law) (defScope s_law) .none kV_law dc_law pm_law an_law cd_law ct_law), sl_law⟩)
    (c_law : PySem.W.codeIn K cd_law "law" = true) (k_law : PySem.W.keepIn K (.ref f_law) = true)
    {C_PollError : Addr}
    (aC_PollError : PySem.W.nsIn K mainGlobals "PollError" = some (some (.ref C_PollError)))
    {nm_PollError q_PollError : Str} {N_PollError : Addr} {bs_PollError : List Value} {sn_PollError : List Str} {sub_PollError : List Value} {ab_PollError : Bool} {col_PollError : Option Bool} {dd_PollError : Option Addr} {m0_PollError m1_PollError m2_PollError m3_PollError m5_PollError : Option Value}
    (xL_PollError : K.lookup C_PollError = some (excClassObj nm_PollError q_PollError C_PollError N_PollError bs_PollError [.type "ValueError", .type "Exception", .type "BaseException", .type "object"] true sn_PollError sub_PollError ab_PollError col_PollError dd_PollError m0_PollError m1_PollError m2_PollError m3_PollError m5_PollError "ValueError.__new__"))
    (sa_PollError : PySem.W.findIn K (.ref C_PollError) "__setattr__" = some (some (.builtin "object.__setattr__")))
    (gt_PollError : PySem.W.findIn K (.ref C_PollError) "__getattribute__" = some (some (.builtin "BaseException.__getattribute__")))
    (gg_PollError : PySem.W.findIn K (.ref C_PollError) "__getattr__" = some none)
    (ai_PollError : PySem.W.findIn K (.ref C_PollError) "__init__" = some (some (.ref f_PollError_init)))
    (ti_PollError : PySem.W.typeIn K (.ref f_PollError_init) = some (.type "function"))
    (kC_PollError : PySem.W.keepIn K (.ref C_PollError) = true)
    (eC_PollError : PySem.W.subIn K (.ref C_PollError) (.type "BaseException") = some true)
    (tC_PollError : PySem.W.typeIn K (.ref C_PollError) = some (.type "type"))
    (hC_PollError : PySem.W.hasDictIn K C_PollError = true)
    (nf_PollError_why : PySem.W.findIn K (.ref C_PollError) "why" = some none)
    (rd_PollError : PySem.W.readsIn K C_PollError (.type "type") = true)
    (ga_PollError : PySem.W.specialIn K (.ref C_PollError) "__getattribute__" = some (some (.builtin "type.__getattribute__")))
    (fc_PollError_init : PySem.W.findCls K (.ref C_PollError) (.type "type") "__init__" = some (.val (.ref f_PollError_init)))
    {C_NoShare : Addr}
    (aC_NoShare : PySem.W.nsIn K mainGlobals "NoShare" = some (some (.ref C_NoShare)))
    {nm_NoShare q_NoShare : Str} {N_NoShare : Addr} {bs_NoShare : List Value} {sn_NoShare : List Str} {sub_NoShare : List Value} {ab_NoShare : Bool} {col_NoShare : Option Bool} {dd_NoShare : Option Addr} {m0_NoShare m1_NoShare m2_NoShare m3_NoShare m5_NoShare : Option Value}
    (xL_NoShare : K.lookup C_NoShare = some (excClassObj nm_NoShare q_NoShare C_NoShare N_NoShare bs_NoShare [.ref C_PollError, .type "ValueError", .type "Exception", .type "BaseException", .type "object"] true sn_NoShare sub_NoShare ab_NoShare col_NoShare dd_NoShare m0_NoShare m1_NoShare m2_NoShare m3_NoShare m5_NoShare "ValueError.__new__"))
    (sa_NoShare : PySem.W.findIn K (.ref C_NoShare) "__setattr__" = some (some (.builtin "object.__setattr__")))
    (gt_NoShare : PySem.W.findIn K (.ref C_NoShare) "__getattribute__" = some (some (.builtin "BaseException.__getattribute__")))
    (gg_NoShare : PySem.W.findIn K (.ref C_NoShare) "__getattr__" = some none)
    (ai_NoShare : PySem.W.findIn K (.ref C_NoShare) "__init__" = some (some (.ref f_NoShare_init)))
    (ti_NoShare : PySem.W.typeIn K (.ref f_NoShare_init) = some (.type "function"))
    (kC_NoShare : PySem.W.keepIn K (.ref C_NoShare) = true)
    (eC_NoShare : PySem.W.subIn K (.ref C_NoShare) (.type "BaseException") = some true)
    (tC_NoShare : PySem.W.typeIn K (.ref C_NoShare) = some (.type "type"))
    (hC_NoShare : PySem.W.hasDictIn K C_NoShare = true)
    (nf_NoShare_why : PySem.W.findIn K (.ref C_NoShare) "why" = some none)
    (nf_NoShare_num : PySem.W.findIn K (.ref C_NoShare) "num" = some none)
    (nf_NoShare_over : PySem.W.findIn K (.ref C_NoShare) "over" = some none)
    {C_BadSums : Addr}
    (aC_BadSums : PySem.W.nsIn K mainGlobals "BadSums" = some (some (.ref C_BadSums)))
    {nm_BadSums q_BadSums : Str} {N_BadSums : Addr} {bs_BadSums : List Value} {sn_BadSums : List Str} {sub_BadSums : List Value} {ab_BadSums : Bool} {col_BadSums : Option Bool} {dd_BadSums : Option Addr} {m0_BadSums m1_BadSums m2_BadSums m3_BadSums m5_BadSums : Option Value}
    (xL_BadSums : K.lookup C_BadSums = some (excClassObj nm_BadSums q_BadSums C_BadSums N_BadSums bs_BadSums [.ref C_PollError, .type "ValueError", .type "Exception", .type "BaseException", .type "object"] true sn_BadSums sub_BadSums ab_BadSums col_BadSums dd_BadSums m0_BadSums m1_BadSums m2_BadSums m3_BadSums m5_BadSums "ValueError.__new__"))
    (sa_BadSums : PySem.W.findIn K (.ref C_BadSums) "__setattr__" = some (some (.builtin "object.__setattr__")))
    (gt_BadSums : PySem.W.findIn K (.ref C_BadSums) "__getattribute__" = some (some (.builtin "BaseException.__getattribute__")))
    (gg_BadSums : PySem.W.findIn K (.ref C_BadSums) "__getattr__" = some none)
    (ai_BadSums : PySem.W.findIn K (.ref C_BadSums) "__init__" = some (some (.ref f_PollError_init)))
    (ti_BadSums : PySem.W.typeIn K (.ref f_PollError_init) = some (.type "function"))
    (kC_BadSums : PySem.W.keepIn K (.ref C_BadSums) = true)
    (eC_BadSums : PySem.W.subIn K (.ref C_BadSums) (.type "BaseException") = some true)
    (tC_BadSums : PySem.W.typeIn K (.ref C_BadSums) = some (.type "type"))
    (hC_BadSums : PySem.W.hasDictIn K C_BadSums = true)
    (nf_BadSums_why : PySem.W.findIn K (.ref C_BadSums) "why" = some none)
    (ha_BadSums : PySem.W.findIn K (.ref C_BadSums) "__class__" = some (some (.builtin "object.__class__")))
    (hn_BadSums : PySem.W.specialIn K (.builtin "object.__class__") "__get__" = some (some (.builtin "getset_descriptor.__get__")))
    (ht_BadSums : PySem.W.takesIn K (.builtin "object.__class__") = some true)
    (ob_BadSums : PySem.W.mroIn K C_BadSums (.type "object") = some true)
    {C_BadBallot : Addr}
    (aC_BadBallot : PySem.W.nsIn K mainGlobals "BadBallot" = some (some (.ref C_BadBallot)))
    {nm_BadBallot q_BadBallot : Str} {N_BadBallot : Addr} {bs_BadBallot : List Value} {sn_BadBallot : List Str} {sub_BadBallot : List Value} {ab_BadBallot : Bool} {col_BadBallot : Option Bool} {dd_BadBallot : Option Addr} {m0_BadBallot m1_BadBallot m2_BadBallot m3_BadBallot m5_BadBallot : Option Value}
    (xL_BadBallot : K.lookup C_BadBallot = some (excClassObj nm_BadBallot q_BadBallot C_BadBallot N_BadBallot bs_BadBallot [.ref C_PollError, .type "ValueError", .type "Exception", .type "BaseException", .type "object"] true sn_BadBallot sub_BadBallot ab_BadBallot col_BadBallot dd_BadBallot m0_BadBallot m1_BadBallot m2_BadBallot m3_BadBallot m5_BadBallot "ValueError.__new__"))
    (sa_BadBallot : PySem.W.findIn K (.ref C_BadBallot) "__setattr__" = some (some (.builtin "object.__setattr__")))
    (gt_BadBallot : PySem.W.findIn K (.ref C_BadBallot) "__getattribute__" = some (some (.builtin "BaseException.__getattribute__")))
    (gg_BadBallot : PySem.W.findIn K (.ref C_BadBallot) "__getattr__" = some none)
    (ai_BadBallot : PySem.W.findIn K (.ref C_BadBallot) "__init__" = some (some (.ref f_PollError_init)))
    (ti_BadBallot : PySem.W.typeIn K (.ref f_PollError_init) = some (.type "function"))
    (kC_BadBallot : PySem.W.keepIn K (.ref C_BadBallot) = true)
    (eC_BadBallot : PySem.W.subIn K (.ref C_BadBallot) (.type "BaseException") = some true)
    (tC_BadBallot : PySem.W.typeIn K (.ref C_BadBallot) = some (.type "type"))
    (hC_BadBallot : PySem.W.hasDictIn K C_BadBallot = true)
    (nf_BadBallot_why : PySem.W.findIn K (.ref C_BadBallot) "why" = some none)
    {C_BadClaim : Addr}
    (aC_BadClaim : PySem.W.nsIn K mainGlobals "BadClaim" = some (some (.ref C_BadClaim)))
    {nm_BadClaim q_BadClaim : Str} {N_BadClaim : Addr} {bs_BadClaim : List Value} {sn_BadClaim : List Str} {sub_BadClaim : List Value} {ab_BadClaim : Bool} {col_BadClaim : Option Bool} {dd_BadClaim : Option Addr} {m0_BadClaim m1_BadClaim m2_BadClaim m3_BadClaim m5_BadClaim : Option Value}
    (xL_BadClaim : K.lookup C_BadClaim = some (excClassObj nm_BadClaim q_BadClaim C_BadClaim N_BadClaim bs_BadClaim [.ref C_PollError, .type "ValueError", .type "Exception", .type "BaseException", .type "object"] true sn_BadClaim sub_BadClaim ab_BadClaim col_BadClaim dd_BadClaim m0_BadClaim m1_BadClaim m2_BadClaim m3_BadClaim m5_BadClaim "ValueError.__new__"))
    (sa_BadClaim : PySem.W.findIn K (.ref C_BadClaim) "__setattr__" = some (some (.builtin "object.__setattr__")))
    (gt_BadClaim : PySem.W.findIn K (.ref C_BadClaim) "__getattribute__" = some (some (.builtin "BaseException.__getattribute__")))
    (gg_BadClaim : PySem.W.findIn K (.ref C_BadClaim) "__getattr__" = some none)
    (ai_BadClaim : PySem.W.findIn K (.ref C_BadClaim) "__init__" = some (some (.ref f_PollError_init)))
    (ti_BadClaim : PySem.W.typeIn K (.ref f_PollError_init) = some (.type "function"))
    (kC_BadClaim : PySem.W.keepIn K (.ref C_BadClaim) = true)
    (eC_BadClaim : PySem.W.subIn K (.ref C_BadClaim) (.type "BaseException") = some true)
    (tC_BadClaim : PySem.W.typeIn K (.ref C_BadClaim) = some (.type "type"))
    (hC_BadClaim : PySem.W.hasDictIn K C_BadClaim = true)
    (nf_BadClaim_why : PySem.W.findIn K (.ref C_BadClaim) "why" = some none)
    {C_BadMargins : Addr}
    (aC_BadMargins : PySem.W.nsIn K mainGlobals "BadMargins" = some (some (.ref C_BadMargins)))
    {nm_BadMargins q_BadMargins : Str} {N_BadMargins : Addr} {bs_BadMargins : List Value} {sn_BadMargins : List Str} {sub_BadMargins : List Value} {ab_BadMargins : Bool} {col_BadMargins : Option Bool} {dd_BadMargins : Option Addr} {m0_BadMargins m1_BadMargins m2_BadMargins m3_BadMargins m5_BadMargins : Option Value}
    (xL_BadMargins : K.lookup C_BadMargins = some (excClassObj nm_BadMargins q_BadMargins C_BadMargins N_BadMargins bs_BadMargins [.ref C_PollError, .type "ValueError", .type "Exception", .type "BaseException", .type "object"] true sn_BadMargins sub_BadMargins ab_BadMargins col_BadMargins dd_BadMargins m0_BadMargins m1_BadMargins m2_BadMargins m3_BadMargins m5_BadMargins "ValueError.__new__"))
    (sa_BadMargins : PySem.W.findIn K (.ref C_BadMargins) "__setattr__" = some (some (.builtin "object.__setattr__")))
    (gt_BadMargins : PySem.W.findIn K (.ref C_BadMargins) "__getattribute__" = some (some (.builtin "BaseException.__getattribute__")))
    (gg_BadMargins : PySem.W.findIn K (.ref C_BadMargins) "__getattr__" = some none)
    (ai_BadMargins : PySem.W.findIn K (.ref C_BadMargins) "__init__" = some (some (.ref f_PollError_init)))
    (ti_BadMargins : PySem.W.typeIn K (.ref f_PollError_init) = some (.type "function"))
    (kC_BadMargins : PySem.W.keepIn K (.ref C_BadMargins) = true)
    (eC_BadMargins : PySem.W.subIn K (.ref C_BadMargins) (.type "BaseException") = some true)
    (tC_BadMargins : PySem.W.typeIn K (.ref C_BadMargins) = some (.type "type"))
    (hC_BadMargins : PySem.W.hasDictIn K C_BadMargins = true)
    (nf_BadMargins_why : PySem.W.findIn K (.ref C_BadMargins) "why" = some none)
    {C_BadOrder : Addr}
    (aC_BadOrder : PySem.W.nsIn K mainGlobals "BadOrder" = some (some (.ref C_BadOrder)))
    {nm_BadOrder q_BadOrder : Str} {N_BadOrder : Addr} {bs_BadOrder : List Value} {sn_BadOrder : List Str} {sub_BadOrder : List Value} {ab_BadOrder : Bool} {col_BadOrder : Option Bool} {dd_BadOrder : Option Addr} {m0_BadOrder m1_BadOrder m2_BadOrder m3_BadOrder m5_BadOrder : Option Value}
    (xL_BadOrder : K.lookup C_BadOrder = some (excClassObj nm_BadOrder q_BadOrder C_BadOrder N_BadOrder bs_BadOrder [.ref C_PollError, .type "ValueError", .type "Exception", .type "BaseException", .type "object"] true sn_BadOrder sub_BadOrder ab_BadOrder col_BadOrder dd_BadOrder m0_BadOrder m1_BadOrder m2_BadOrder m3_BadOrder m5_BadOrder "ValueError.__new__"))
    (sa_BadOrder : PySem.W.findIn K (.ref C_BadOrder) "__setattr__" = some (some (.builtin "object.__setattr__")))
    (gt_BadOrder : PySem.W.findIn K (.ref C_BadOrder) "__getattribute__" = some (some (.builtin "BaseException.__getattribute__")))
    (gg_BadOrder : PySem.W.findIn K (.ref C_BadOrder) "__getattr__" = some none)
    (ai_BadOrder : PySem.W.findIn K (.ref C_BadOrder) "__init__" = some (some (.ref f_PollError_init)))
    (ti_BadOrder : PySem.W.typeIn K (.ref f_PollError_init) = some (.type "function"))
    (kC_BadOrder : PySem.W.keepIn K (.ref C_BadOrder) = true)
    (eC_BadOrder : PySem.W.subIn K (.ref C_BadOrder) (.type "BaseException") = some true)
    (tC_BadOrder : PySem.W.typeIn K (.ref C_BadOrder) = some (.type "type"))
    (hC_BadOrder : PySem.W.hasDictIn K C_BadOrder = true)
    (nf_BadOrder_why : PySem.W.findIn K (.ref C_BadOrder) "why" = some none)
    {C_BadPoll : Addr}
    (aC_BadPoll : PySem.W.nsIn K mainGlobals "BadPoll" = some (some (.ref C_BadPoll)))
    {nm_BadPoll q_BadPoll : Str} {N_BadPoll : Addr} {bs_BadPoll : List Value} {sn_BadPoll : List Str} {sub_BadPoll : List Value} {ab_BadPoll : Bool} {col_BadPoll : Option Bool} {dd_BadPoll : Option Addr} {m0_BadPoll m1_BadPoll m2_BadPoll m3_BadPoll m5_BadPoll : Option Value}
    (xL_BadPoll : K.lookup C_BadPoll = some (excClassObj nm_BadPoll q_BadPoll C_BadPoll N_BadPoll bs_BadPoll [.ref C_PollError, .type "ValueError", .type "Exception", .type "BaseException", .type "object"] true sn_BadPoll sub_BadPoll ab_BadPoll col_BadPoll dd_BadPoll m0_BadPoll m1_BadPoll m2_BadPoll m3_BadPoll m5_BadPoll "ValueError.__new__"))
    (sa_BadPoll : PySem.W.findIn K (.ref C_BadPoll) "__setattr__" = some (some (.builtin "object.__setattr__")))
    (gt_BadPoll : PySem.W.findIn K (.ref C_BadPoll) "__getattribute__" = some (some (.builtin "BaseException.__getattribute__")))
    (gg_BadPoll : PySem.W.findIn K (.ref C_BadPoll) "__getattr__" = some none)
    (ai_BadPoll : PySem.W.findIn K (.ref C_BadPoll) "__init__" = some (some (.ref f_PollError_init)))
    (ti_BadPoll : PySem.W.typeIn K (.ref f_PollError_init) = some (.type "function"))
    (kC_BadPoll : PySem.W.keepIn K (.ref C_BadPoll) = true)
    (eC_BadPoll : PySem.W.subIn K (.ref C_BadPoll) (.type "BaseException") = some true)
    (tC_BadPoll : PySem.W.typeIn K (.ref C_BadPoll) = some (.type "type"))
    (hC_BadPoll : PySem.W.hasDictIn K C_BadPoll = true)
    (nf_BadPoll_why : PySem.W.findIn K (.ref C_BadPoll) "why" = some none)
    {C_BadRule : Addr}
    (aC_BadRule : PySem.W.nsIn K mainGlobals "BadRule" = some (some (.ref C_BadRule)))
    {nm_BadRule q_BadRule : Str} {N_BadRule : Addr} {bs_BadRule : List Value} {sn_BadRule : List Str} {sub_BadRule : List Value} {ab_BadRule : Bool} {col_BadRule : Option Bool} {dd_BadRule : Option Addr} {m0_BadRule m1_BadRule m2_BadRule m3_BadRule m5_BadRule : Option Value}
    (xL_BadRule : K.lookup C_BadRule = some (excClassObj nm_BadRule q_BadRule C_BadRule N_BadRule bs_BadRule [.ref C_PollError, .type "ValueError", .type "Exception", .type "BaseException", .type "object"] true sn_BadRule sub_BadRule ab_BadRule col_BadRule dd_BadRule m0_BadRule m1_BadRule m2_BadRule m3_BadRule m5_BadRule "ValueError.__new__"))
    (sa_BadRule : PySem.W.findIn K (.ref C_BadRule) "__setattr__" = some (some (.builtin "object.__setattr__")))
    (gt_BadRule : PySem.W.findIn K (.ref C_BadRule) "__getattribute__" = some (some (.builtin "BaseException.__getattribute__")))
    (gg_BadRule : PySem.W.findIn K (.ref C_BadRule) "__getattr__" = some none)
    (ai_BadRule : PySem.W.findIn K (.ref C_BadRule) "__init__" = some (some (.ref f_PollError_init)))
    (ti_BadRule : PySem.W.typeIn K (.ref f_PollError_init) = some (.type "function"))
    (kC_BadRule : PySem.W.keepIn K (.ref C_BadRule) = true)
    (eC_BadRule : PySem.W.subIn K (.ref C_BadRule) (.type "BaseException") = some true)
    (tC_BadRule : PySem.W.typeIn K (.ref C_BadRule) = some (.type "type"))
    (hC_BadRule : PySem.W.hasDictIn K C_BadRule = true)
    (nf_BadRule_why : PySem.W.findIn K (.ref C_BadRule) "why" = some none)
    {C_Share : Addr}
    (aC_Share : PySem.W.nsIn K mainGlobals "Share" = some (some (.ref C_Share)))
    (pg_Share : PySem.W.plainGet K C_Share Str.empty = true)
    (hd_Share : PySem.W.hasDictIn K C_Share = true)
    (po_Share : PySem.W.plainOver K C_Share = true)
    (sa_Share : PySem.W.findIn K (.ref C_Share) "__setattr__" = some (some (.builtin "object.__setattr__")))
    (mk_Share : PySem.W.makesIn K C_Share = true)
    (kc_Share : PySem.W.keepIn K (.ref C_Share) = true)
    (ai_Share : PySem.W.findIn K (.ref C_Share) "__init__" = some (some (.ref f_Share_init)))
    (ii_Share : PySem.W.isFn K (.ref f_Share_init) = true)
    (n_Share_num : PySem.W.findIn K (.ref C_Share) "num" = some none)
    (n_Share_over : PySem.W.findIn K (.ref C_Share) "over" = some none)
    (ha_Share : PySem.W.findIn K (.ref C_Share) "__class__" = some (some (.builtin "object.__class__")))
    (hn_Share : PySem.W.specialIn K (.builtin "object.__class__") "__get__" = some (some (.builtin "getset_descriptor.__get__")))
    (ht_Share : PySem.W.takesIn K (.builtin "object.__class__") = some true)
    (ob_Share : PySem.W.mroIn K C_Share (.type "object") = some true)
    (ki_Share : PySem.W.kitOne K (.ref C_Share) (.ref C_Share) = some true)
    (ki_Share_NoneType : PySem.W.kitOne K (.type "NoneType") (.ref C_Share) = some false)
    (ki_Share_bool : PySem.W.kitOne K (.type "bool") (.ref C_Share) = some false)
    (ki_Share_int : PySem.W.kitOne K (.type "int") (.ref C_Share) = some false)
    (ki_Share_str : PySem.W.kitOne K (.type "str") (.ref C_Share) = some false)
    (ki_Share_tuple : PySem.W.kitOne K (.type "tuple") (.ref C_Share) = some false)
    (ki_Share_list : PySem.W.kitOne K (.type "list") (.ref C_Share) = some false)
    (ki_Share_dict : PySem.W.kitOne K (.type "dict") (.ref C_Share) = some false)
    (kj_Share_tuple : PySem.W.kitOne K (.ref C_Share) (.type "tuple") = some false)
    (kj_Share_list : PySem.W.kitOne K (.ref C_Share) (.type "list") = some false)
    (sb_BadSums_PollError : PySem.W.subIn K (.ref C_BadSums) (.ref C_PollError) = some true)
    (kt_BadSums_BadSums : PySem.W.kitOne K (.ref C_BadSums) (.ref C_BadSums) = some true)
    (kt_BadSums_BadBallot : PySem.W.kitOne K (.ref C_BadSums) (.ref C_BadBallot) = some false)
    (kt_BadSums_BadClaim : PySem.W.kitOne K (.ref C_BadSums) (.ref C_BadClaim) = some false)
    (kt_BadSums_BadMargins : PySem.W.kitOne K (.ref C_BadSums) (.ref C_BadMargins) = some false)
    (kt_BadSums_BadOrder : PySem.W.kitOne K (.ref C_BadSums) (.ref C_BadOrder) = some false)
    (kt_BadSums_BadPoll : PySem.W.kitOne K (.ref C_BadSums) (.ref C_BadPoll) = some false)
    (kt_BadSums_BadRule : PySem.W.kitOne K (.ref C_BadSums) (.ref C_BadRule) = some false)
    (kt_BadSums_NoShare : PySem.W.kitOne K (.ref C_BadSums) (.ref C_NoShare) = some false)
    (vV : PySem.W.findCls K (.type "ValueError") (.type "type") "__init__" = some (.val (.builtin "ValueError.__init__")))
    (gcd : PySem.W.nsIn K mainGlobals "gcd" = some (some (.builtin "math.gcd")))
    (z_ValueError : PySem.W.nsIn K mainGlobals "ValueError" = some none)
    (z_len : PySem.W.nsIn K mainGlobals "len" = some none)
    (z_isinstance : PySem.W.nsIn K mainGlobals "isinstance" = some none)
    (z_tuple : PySem.W.nsIn K mainGlobals "tuple" = some none)
    (z_all : PySem.W.nsIn K mainGlobals "all" = some none)
    (z_list : PySem.W.nsIn K mainGlobals "list" = some none)
    (z_int : PySem.W.nsIn K mainGlobals "int" = some none)
    (z_range : PySem.W.nsIn K mainGlobals "range" = some none)
    {t_MOST_PARTS : Tok} (cc_MOST_PARTS : PySem.W.nsIn K mainGlobals "MOST_PARTS" = some (some (.int 12 t_MOST_PARTS)))
    {t_MOST_ROWS : Tok} (cc_MOST_ROWS : PySem.W.nsIn K mainGlobals "MOST_ROWS" = some (some (.int 30 t_MOST_ROWS)))
    : ∃ fd : FuncData, (∀ (s : Shared) (v : Value), BindsTo s fd ⟨[v], []⟩ [("_law_script", v)]) ∧ ∀ base : Heap, K.In base → base.Ns mainGlobals mg → FnOk l.prog w K mg base CX0 9 fa fd ["_law_script"] (sp_law K) := by
  have e := hfa.symm.trans (PySem.W.mg_of X G a_law)
  cases e
  have F_PollError_init : FunD K "__init__" "PollError.__init__" (defArgs s_PollError_init) (defBody s_PollError_init) (defScope s_PollError_init) [V.str ""] [] f_PollError_init _ := ⟨⟨_, _, _, _, _, _, _, _, _, _, rfl, l_PollError_init, c_PollError_init, .inr ⟨by simp, _, _, [.str "" tk0_PollError_init], _, rfl, lt_PollError_init, rfl, (.cons ⟨_, rfl⟩ Paired.nil)⟩, .inl rfl⟩, k_PollError_init⟩
  obtain ⟨ikb_PollError_init_2, kb_PollError_init_2⟩ := F_PollError_init.kbindsD (ps := ["self", "why"]) 2 [] (fun us its ws => us) (by simp) (fun r1 r2 r3 => r1) (fun _ _ _ _ _ _ _ us its ws l1 l2 l3 => match us, its, ws, l1, l2, l3 with | [_, _], [_], [], _, _, _ => ⟨_, rfl, rfl⟩)
  have F_NoShare_init := fun_mk (st := s_NoShare_init) l_NoShare_init c_NoShare_init k_NoShare_init
  have kb_NoShare_init_2_over : KBn K (PySem.W.fnOf "__init__" "NoShare.__init__" (defArgs s_NoShare_init) (defBody s_NoShare_init) (defScope s_NoShare_init) .none kV_NoShare_init dc_NoShare_init pm_NoShare_init an_NoShare_init cd_NoShare_init ct_NoShare_init) ["self", "num", "over"] 2 ["over"] (fun us ws => us ++ ((ws.drop 0).take 1)) (fun vs zs => vs ++ ((zs.drop 0).take 1)) := ⟨fun s us ws _ l1 l2 => .of_eq (match us, ws, l1, l2 with | [_, _], [_], _, _ => rfl), fun r1 r3 => r1.append (((r3.drop 0).take 1))⟩
  have F_Share_init : FunD K "__init__" "Share.__init__" (defArgs s_Share_init) (defBody s_Share_init) (defScope s_Share_init) [V.int 1] [] f_Share_init _ := ⟨⟨_, _, _, _, _, _, _, _, _, _, rfl, l_Share_init, c_Share_init, .inr ⟨by simp, _, _, [.int 1 tk0_Share_init], _, rfl, lt_Share_init, rfl, (.cons ⟨_, rfl⟩ Paired.nil)⟩, .inl rfl⟩, k_Share_init⟩
  obtain ⟨ikb_Share_init_3, kb_Share_init_3⟩ := F_Share_init.kbindsD (ps := ["self", "num", "over"]) 3 [] (fun us its ws => us) (by simp) (fun r1 r2 r3 => r1) (fun _ _ _ _ _ _ _ us its ws l1 l2 l3 => match us, its, ws, l1, l2, l3 with | [_, _, _], [_], [], _, _, _ => ⟨_, rfl, rfl⟩)
  obtain ⟨ikb_Share_init_2, kb_Share_init_2⟩ := F_Share_init.kbindsD (ps := ["self", "num", "over"]) 2 [] (fun us its ws => us ++ ((its.drop 0).take 1)) (by simp) (fun r1 r2 r3 => r1.append (((r2.drop 0).take 1))) (fun _ _ _ _ _ _ _ us its ws l1 l2 l3 => match us, its, ws, l1, l2, l3 with | [_, _], [_], [], _, _, _ => ⟨_, rfl, rfl⟩)
  have F_is_tuple_of := fun_mk (st := s_is_tuple_of) l_is_tuple_of c_is_tuple_of k_is_tuple_of
  have b_is_tuple_of := F_is_tuple_of.binds (ps := ["thing", "many"]) fun _ _ _ _ _ _ us hl => match us, hl with | [_, _], _ => rfl
  have F_is_row := fun_mk (st := s_is_row) l_is_row c_is_row k_is_row
  have b_is_row := F_is_row.binds (ps := ["thing"]) fun _ _ _ _ _ _ us hl => match us, hl with | [_], _ => rfl
  have F_are_sums := fun_mk (st := s_are_sums) l_are_sums c_are_sums k_are_sums
  have b_are_sums := F_are_sums.binds (ps := ["thing"]) fun _ _ _ _ _ _ us hl => match us, hl with | [_], _ => rfl
  have F_check_sums := fun_mk (st := s_check_sums) l_check_sums c_check_sums k_check_sums
  have b_check_sums := F_check_sums.binds (ps := ["sums"]) fun _ _ _ _ _ _ us hl => match us, hl with | [_], _ => rfl
  have kb_check_sums_1 : KBn K (PySem.W.fnOf "check_sums" "check_sums" (defArgs s_check_sums) (defBody s_check_sums) (defScope s_check_sums) .none kV_check_sums dc_check_sums pm_check_sums an_check_sums cd_check_sums ct_check_sums) ["sums"] 1 [] (fun us ws => us) (fun vs zs => vs) := ⟨fun s us ws _ l1 l2 => .of_eq (match us, ws, l1, l2 with | [_], [], _, _ => rfl), fun r1 r3 => r1⟩
  have F_met_by : FunD K "met_by" "met_by" (defArgs s_met_by) (defBody s_met_by) (defScope s_met_by) [] [("many", V.int 0)] f_met_by _ := ⟨⟨_, _, _, _, _, _, _, _, _, _, rfl, l_met_by, c_met_by, .inl ⟨rfl, rfl⟩, .inr ⟨D_met_by, rfl, (List.forall_mem_cons.mpr ⟨⟨_, nk_met_by_many, ⟨_, rfl⟩⟩, fun _ h => (nomatch h)⟩)⟩⟩, k_met_by⟩
  obtain ⟨ikb_met_by_1, kb_met_by_1⟩ := F_met_by.kbinds0 (ps := ["sums", "many"]) 1 [] [("many", V.int 0)] (fun us mv ws => us ++ ((mv.drop 0).take 1)) (by simp) (by simp) (fun r1 r2 r3 => r1.append (((r2.drop 0).take 1))) (fun _ _ _ _ _ _ us mv ws l1 l2 l3 => match us, mv, ws, l1, l2, l3 with | [_], [_], [], _, _, _ => ⟨_, _, _, _, _, _, rfl, rfl, rfl⟩)
  have F_unmet : FunD K "unmet" "unmet" (defArgs s_unmet) (defBody s_unmet) (defScope s_unmet) [] [("many", V.int 0)] f_unmet _ := ⟨⟨_, _, _, _, _, _, _, _, _, _, rfl, l_unmet, c_unmet, .inl ⟨rfl, rfl⟩, .inr ⟨D_unmet, rfl, (List.forall_mem_cons.mpr ⟨⟨_, nk_unmet_many, ⟨_, rfl⟩⟩, fun _ h => (nomatch h)⟩)⟩⟩, k_unmet⟩
  obtain ⟨ikb_unmet_1_many, kb_unmet_1_many⟩ := F_unmet.kbinds0 (ps := ["sums", "many"]) 1 ["many"] [] (fun us mv ws => us ++ ((ws.drop 0).take 1)) (by simp) (by simp) (fun r1 r2 r3 => r1.append (((r3.drop 0).take 1))) (fun _ _ _ _ _ _ us mv ws l1 l2 l3 => match us, mv, ws, l1, l2, l3 with | [_], [], [_], _, _, _ => rfl)
  have F_shows_met : FunD K "shows_met" "shows_met" (defArgs s_shows_met) (defBody s_shows_met) (defScope s_shows_met) [] [("many", V.int 0)] f_shows_met _ := ⟨⟨_, _, _, _, _, _, _, _, _, _, rfl, l_shows_met, c_shows_met, .inl ⟨rfl, rfl⟩, .inr ⟨D_shows_met, rfl, (List.forall_mem_cons.mpr ⟨⟨_, nk_shows_met_many, ⟨_, rfl⟩⟩, fun _ h => (nomatch h)⟩)⟩⟩, k_shows_met⟩
  obtain ⟨ikb_shows_met_2, kb_shows_met_2⟩ := F_shows_met.kbinds0 (ps := ["sums", "paper", "many"]) 2 [] [("many", V.int 0)] (fun us mv ws => us ++ ((mv.drop 0).take 1)) (by simp) (by simp) (fun r1 r2 r3 => r1.append (((r2.drop 0).take 1))) (fun _ _ _ _ _ _ us mv ws l1 l2 l3 => match us, mv, ws, l1, l2, l3 with | [_, _], [_], [], _, _, _ => ⟨_, _, _, _, _, _, rfl, rfl, rfl⟩)
  have F_shows_unmet : FunD K "shows_unmet" "shows_unmet" (defArgs s_shows_unmet) (defBody s_shows_unmet) (defScope s_shows_unmet) [] [("many", V.int 0)] f_shows_unmet _ := ⟨⟨_, _, _, _, _, _, _, _, _, _, rfl, l_shows_unmet, c_shows_unmet, .inl ⟨rfl, rfl⟩, .inr ⟨D_shows_unmet, rfl, (List.forall_mem_cons.mpr ⟨⟨_, nk_shows_unmet_many, ⟨_, rfl⟩⟩, fun _ h => (nomatch h)⟩)⟩⟩, k_shows_unmet⟩
  obtain ⟨ikb_shows_unmet_2_many, kb_shows_unmet_2_many⟩ := F_shows_unmet.kbinds0 (ps := ["sums", "paper", "many"]) 2 ["many"] [] (fun us mv ws => us ++ ((ws.drop 0).take 1)) (by simp) (by simp) (fun r1 r2 r3 => r1.append (((r3.drop 0).take 1))) (fun _ _ _ _ _ _ us mv ws l1 l2 l3 => match us, mv, ws, l1, l2, l3 with | [_, _], [], [_], _, _, _ => rfl)
  have F_law_cell_at := fun_mk (st := s_law_cell_at) l_law_cell_at c_law_cell_at k_law_cell_at
  have b_law_cell_at := F_law_cell_at.binds (ps := ["_law_script", "_law_k"]) fun _ _ _ _ _ _ us hl => match us, hl with | [_, _], _ => rfl
  have F_law_well := fun_mk (st := s_law_well) l_law_well c_law_well k_law_well
  have b_law_well := F_law_well.binds (ps := ["_law_cell"]) fun _ _ _ _ _ _ us hl => match us, hl with | [_], _ => rfl
  have F_law_draw := fun_mk (st := s_law_draw) l_law_draw c_law_draw k_law_draw
  have b_law_draw := F_law_draw.binds (ps := ["_law_well_here", "_law_size"]) fun _ _ _ _ _ _ us hl => match us, hl with | [_, _], _ => rfl
  have F_law_one := fun_mk (st := s_law_one) l_law_one c_law_one k_law_one
  have b_law_one := F_law_one.binds (ps := ["_law_well_here", "_law_some"]) fun _ _ _ _ _ _ us hl => match us, hl with | [_, _], _ => rfl
  have F_law_share := fun_mk (st := s_law_share) l_law_share c_law_share k_law_share
  have b_law_share := F_law_share.binds (ps := ["_law_well_here"]) fun _ _ _ _ _ _ us hl => match us, hl with | [_], _ => rfl
  have F_law_row := fun_mk (st := s_law_row) l_law_row c_law_row k_law_row
  have b_law_row := F_law_row.binds (ps := ["_law_well_here", "_law_size"]) fun _ _ _ _ _ _ us hl => match us, hl with | [_, _], _ => rfl
  have F_law_bent := fun_mk (st := s_law_bent) l_law_bent c_law_bent k_law_bent
  have b_law_bent := F_law_bent.binds (ps := ["_law_well_here", "_law_row_here"]) fun _ _ _ _ _ _ us hl => match us, hl with | [_, _], _ => rfl
  have F_law_spoilt := fun_mk (st := s_law_spoilt) l_law_spoilt c_law_spoilt k_law_spoilt
  have b_law_spoilt := F_law_spoilt.binds (ps := ["_law_well_here", "_law_rows", "_law_size"]) fun _ _ _ _ _ _ us hl => match us, hl with | [_, _, _], _ => rfl
  have F_law_word := fun_mk (st := s_law_word) l_law_word c_law_word k_law_word
  have b_law_word := F_law_word.binds (ps := ["_law_way", "_law_some", "_law_paper_in"]) fun _ _ _ _ _ _ us hl => match us, hl with | [_, _, _], _ => rfl
  have F_law := fun_mk (st := s_law) l_law c_law k_law
  have b_law := F_law.binds (ps := ["_law_script"]) fun _ _ _ _ _ _ us hl => match us, hl with | [_], _ => rfl
  have ox_PollError : OexC K C_PollError := ⟨⟨_, _, _, _, _, _, _, _, _, _, _, _, _, _, _, xL_PollError, rfl⟩, sa_PollError, eC_PollError, tC_PollError, kC_PollError⟩
  have ox_NoShare : OexC K C_NoShare := ⟨⟨_, _, _, _, _, _, _, _, _, _, _, _, _, _, _, xL_NoShare, rfl⟩, sa_NoShare, eC_NoShare, tC_NoShare, kC_NoShare⟩
  have ox_BadSums : OexC K C_BadSums := ⟨⟨_, _, _, _, _, _, _, _, _, _, _, _, _, _, _, xL_BadSums, rfl⟩, sa_BadSums, eC_BadSums, tC_BadSums, kC_BadSums⟩
  have ox_BadBallot : OexC K C_BadBallot := ⟨⟨_, _, _, _, _, _, _, _, _, _, _, _, _, _, _, xL_BadBallot, rfl⟩, sa_BadBallot, eC_BadBallot, tC_BadBallot, kC_BadBallot⟩
  have ox_BadClaim : OexC K C_BadClaim := ⟨⟨_, _, _, _, _, _, _, _, _, _, _, _, _, _, _, xL_BadClaim, rfl⟩, sa_BadClaim, eC_BadClaim, tC_BadClaim, kC_BadClaim⟩
  have ox_BadMargins : OexC K C_BadMargins := ⟨⟨_, _, _, _, _, _, _, _, _, _, _, _, _, _, _, xL_BadMargins, rfl⟩, sa_BadMargins, eC_BadMargins, tC_BadMargins, kC_BadMargins⟩
  have ox_BadOrder : OexC K C_BadOrder := ⟨⟨_, _, _, _, _, _, _, _, _, _, _, _, _, _, _, xL_BadOrder, rfl⟩, sa_BadOrder, eC_BadOrder, tC_BadOrder, kC_BadOrder⟩
  have ox_BadPoll : OexC K C_BadPoll := ⟨⟨_, _, _, _, _, _, _, _, _, _, _, _, _, _, _, xL_BadPoll, rfl⟩, sa_BadPoll, eC_BadPoll, tC_BadPoll, kC_BadPoll⟩
  have ox_BadRule : OexC K C_BadRule := ⟨⟨_, _, _, _, _, _, _, _, _, _, _, _, _, _, _, xL_BadRule, rfl⟩, sa_BadRule, eC_BadRule, tC_BadRule, kC_BadRule⟩
  let T : Txt K mg := {
    f_PollError_init := _, fd_PollError_init := _, F_PollError_init := F_PollError_init, gkb_PollError_init_2 := _, kb_PollError_init_2 := kb_PollError_init_2,
    f_NoShare_init := _, fd_NoShare_init := _, F_NoShare_init := F_NoShare_init, gkb_NoShare_init_2_over := _, kb_NoShare_init_2_over := kb_NoShare_init_2_over,
    f_Share_init := _, fd_Share_init := _, F_Share_init := F_Share_init, gkb_Share_init_3 := _, kb_Share_init_3 := kb_Share_init_3, gkb_Share_init_2 := _, kb_Share_init_2 := kb_Share_init_2,
    f_is_tuple_of := _, fd_is_tuple_of := _, F_is_tuple_of := F_is_tuple_of, b_is_tuple_of := b_is_tuple_of, g_is_tuple_of := PySem.W.mg_of X G a_is_tuple_of,
    f_is_row := _, fd_is_row := _, F_is_row := F_is_row, b_is_row := b_is_row, g_is_row := PySem.W.mg_of X G a_is_row,
    f_are_sums := _, fd_are_sums := _, F_are_sums := F_are_sums, b_are_sums := b_are_sums, g_are_sums := PySem.W.mg_of X G a_are_sums,
    f_check_sums := _, fd_check_sums := _, F_check_sums := F_check_sums, b_check_sums := b_check_sums, gkb_check_sums_1 := _, kb_check_sums_1 := kb_check_sums_1, g_check_sums := PySem.W.mg_of X G a_check_sums,
    f_met_by := _, fd_met_by := _, F_met_by := F_met_by, gkb_met_by_1 := _, kb_met_by_1 := kb_met_by_1, g_met_by := PySem.W.mg_of X G a_met_by,
    f_unmet := _, fd_unmet := _, F_unmet := F_unmet, gkb_unmet_1_many := _, kb_unmet_1_many := kb_unmet_1_many, g_unmet := PySem.W.mg_of X G a_unmet,
    f_shows_met := _, fd_shows_met := _, F_shows_met := F_shows_met, gkb_shows_met_2 := _, kb_shows_met_2 := kb_shows_met_2, g_shows_met := PySem.W.mg_of X G a_shows_met,
    f_shows_unmet := _, fd_shows_unmet := _, F_shows_unmet := F_shows_unmet, gkb_shows_unmet_2_many := _, kb_shows_unmet_2_many := kb_shows_unmet_2_many, g_shows_unmet := PySem.W.mg_of X G a_shows_unmet,
    f_law_cell_at := _, fd_law_cell_at := _, F_law_cell_at := F_law_cell_at, b_law_cell_at := b_law_cell_at, g_law_cell_at := PySem.W.mg_of X G a_law_cell_at,
    f_law_well := _, fd_law_well := _, F_law_well := F_law_well, b_law_well := b_law_well, g_law_well := PySem.W.mg_of X G a_law_well,
    f_law_draw := _, fd_law_draw := _, F_law_draw := F_law_draw, b_law_draw := b_law_draw, g_law_draw := PySem.W.mg_of X G a_law_draw,
    f_law_one := _, fd_law_one := _, F_law_one := F_law_one, b_law_one := b_law_one, g_law_one := PySem.W.mg_of X G a_law_one,
    f_law_share := _, fd_law_share := _, F_law_share := F_law_share, b_law_share := b_law_share, g_law_share := PySem.W.mg_of X G a_law_share,
    f_law_row := _, fd_law_row := _, F_law_row := F_law_row, b_law_row := b_law_row, g_law_row := PySem.W.mg_of X G a_law_row,
    f_law_bent := _, fd_law_bent := _, F_law_bent := F_law_bent, b_law_bent := b_law_bent, g_law_bent := PySem.W.mg_of X G a_law_bent,
    f_law_spoilt := _, fd_law_spoilt := _, F_law_spoilt := F_law_spoilt, b_law_spoilt := b_law_spoilt, g_law_spoilt := PySem.W.mg_of X G a_law_spoilt,
    f_law_word := _, fd_law_word := _, F_law_word := F_law_word, b_law_word := b_law_word, g_law_word := PySem.W.mg_of X G a_law_word,
    f_law := _, fd_law := _, F_law := F_law, b_law := b_law, g_law := PySem.W.mg_of X G a_law,
    C_PollError := _, k_PollError := PySem.W.mg_of X G aC_PollError,
    ox_PollError := ox_PollError, ex_PollError := exK_ve ox_PollError ai_PollError ti_PollError,
    xf_PollError := ⟨gt_PollError, gg_PollError, eC_PollError, hC_PollError⟩,
    nf_PollError_why := nf_PollError_why,
    rd_PollError := rd_PollError, ga_PollError := ga_PollError, fc_PollError_init := fc_PollError_init,
    C_NoShare := _, k_NoShare := PySem.W.mg_of X G aC_NoShare,
    ox_NoShare := ox_NoShare, ex_NoShare := exK_ve ox_NoShare ai_NoShare ti_NoShare,
    xf_NoShare := ⟨gt_NoShare, gg_NoShare, eC_NoShare, hC_NoShare⟩,
    nf_NoShare_why := nf_NoShare_why,
    nf_NoShare_num := nf_NoShare_num,
    nf_NoShare_over := nf_NoShare_over,
    C_BadSums := _, k_BadSums := PySem.W.mg_of X G aC_BadSums,
    ox_BadSums := ox_BadSums, ex_BadSums := exK_ve ox_BadSums ai_BadSums ti_BadSums,
    xf_BadSums := ⟨gt_BadSums, gg_BadSums, eC_BadSums, hC_BadSums⟩,
    nf_BadSums_why := nf_BadSums_why,
    ic_BadSums := ⟨gt_BadSums, gg_BadSums, eC_BadSums, hC_BadSums, ha_BadSums, hn_BadSums, ht_BadSums, ob_BadSums⟩,
    C_BadBallot := _, k_BadBallot := PySem.W.mg_of X G aC_BadBallot,
    ox_BadBallot := ox_BadBallot, ex_BadBallot := exK_ve ox_BadBallot ai_BadBallot ti_BadBallot,
    xf_BadBallot := ⟨gt_BadBallot, gg_BadBallot, eC_BadBallot, hC_BadBallot⟩,
    nf_BadBallot_why := nf_BadBallot_why,
    C_BadClaim := _, k_BadClaim := PySem.W.mg_of X G aC_BadClaim,
    ox_BadClaim := ox_BadClaim, ex_BadClaim := exK_ve ox_BadClaim ai_BadClaim ti_BadClaim,
    xf_BadClaim := ⟨gt_BadClaim, gg_BadClaim, eC_BadClaim, hC_BadClaim⟩,
    nf_BadClaim_why := nf_BadClaim_why,
    C_BadMargins := _, k_BadMargins := PySem.W.mg_of X G aC_BadMargins,
    ox_BadMargins := ox_BadMargins, ex_BadMargins := exK_ve ox_BadMargins ai_BadMargins ti_BadMargins,
    xf_BadMargins := ⟨gt_BadMargins, gg_BadMargins, eC_BadMargins, hC_BadMargins⟩,
    nf_BadMargins_why := nf_BadMargins_why,
    C_BadOrder := _, k_BadOrder := PySem.W.mg_of X G aC_BadOrder,
    ox_BadOrder := ox_BadOrder, ex_BadOrder := exK_ve ox_BadOrder ai_BadOrder ti_BadOrder,
    xf_BadOrder := ⟨gt_BadOrder, gg_BadOrder, eC_BadOrder, hC_BadOrder⟩,
    nf_BadOrder_why := nf_BadOrder_why,
    C_BadPoll := _, k_BadPoll := PySem.W.mg_of X G aC_BadPoll,
    ox_BadPoll := ox_BadPoll, ex_BadPoll := exK_ve ox_BadPoll ai_BadPoll ti_BadPoll,
    xf_BadPoll := ⟨gt_BadPoll, gg_BadPoll, eC_BadPoll, hC_BadPoll⟩,
    nf_BadPoll_why := nf_BadPoll_why,
    C_BadRule := _, k_BadRule := PySem.W.mg_of X G aC_BadRule,
    ox_BadRule := ox_BadRule, ex_BadRule := exK_ve ox_BadRule ai_BadRule ti_BadRule,
    xf_BadRule := ⟨gt_BadRule, gg_BadRule, eC_BadRule, hC_BadRule⟩,
    nf_BadRule_why := nf_BadRule_why,
    C_Share := _, k_Share := PySem.W.mg_of X G aC_Share,
    cl_Share := ⟨pg_Share, hd_Share, po_Share, sa_Share⟩, mk_Share := ⟨mk_Share, ai_Share, ii_Share, kc_Share⟩,
    n_Share_num := n_Share_num,
    n_Share_over := n_Share_over,
    is_Share := ⟨ha_Share, hn_Share, ht_Share, ob_Share⟩, ki_Share := ki_Share,
    ki_Share_NoneType := ki_Share_NoneType,
    ki_Share_bool := ki_Share_bool,
    ki_Share_int := ki_Share_int,
    ki_Share_str := ki_Share_str,
    ki_Share_tuple := ki_Share_tuple,
    ki_Share_list := ki_Share_list,
    ki_Share_dict := ki_Share_dict,
    kj_Share_tuple := kj_Share_tuple,
    kj_Share_list := kj_Share_list,
    te_BadSums_PollError := PySem.W.exm_ref eC_PollError hC_PollError tC_PollError sb_BadSums_PollError,
    kt_BadSums_BadSums := kt_BadSums_BadSums,
    kt_BadSums_BadBallot := kt_BadSums_BadBallot,
    kt_BadSums_BadClaim := kt_BadSums_BadClaim,
    kt_BadSums_BadMargins := kt_BadSums_BadMargins,
    kt_BadSums_BadOrder := kt_BadSums_BadOrder,
    kt_BadSums_BadPoll := kt_BadSums_BadPoll,
    kt_BadSums_BadRule := kt_BadSums_BadRule,
    kt_BadSums_NoShare := kt_BadSums_NoShare,
    vV := vV,
    gcd := PySem.W.mg_of X G gcd,
    z_ValueError := PySem.W.mg_none_of X G z_ValueError,
    z_len := PySem.W.mg_none_of X G z_len,
    z_isinstance := PySem.W.mg_none_of X G z_isinstance,
    z_tuple := PySem.W.mg_none_of X G z_tuple,
    z_all := PySem.W.mg_none_of X G z_all,
    z_list := PySem.W.mg_none_of X G z_list,
    z_int := PySem.W.mg_none_of X G z_int,
    z_range := PySem.W.mg_none_of X G z_range,
    t_MOST_PARTS := t_MOST_PARTS, c_MOST_PARTS := PySem.W.mg_of X G cc_MOST_PARTS,
    t_MOST_ROWS := t_MOST_ROWS, c_MOST_ROWS := PySem.W.mg_of X G cc_MOST_ROWS }
  exact ⟨PySem.W.fnOf "law" "law" (defArgs s_law) (defBody s_law) (defScope s_law) .none kV_law dc_law pm_law an_law cd_law ct_law, fun s v => .of_eq rfl, fun base _ _ => ok_law T⟩
end Own
open PySem PySem.W PyProof.Rows
set_option maxHeartbeats 0 in
theorem PySem.Challenge.cw_voicefold_k08_sums_refused_holds : PySem.Challenge.rw_voicefold_k08_sums_refused.Holds := by
  w_on; o_law; k_head; (case hw => w_witness2)
  k_fill
  refine L2.walk_of (l := PySem.Challenge.rw_voicefold_k08_sums_refused) (n := 63) (k := 9) (x := "_law_script") (CX := fun _ => L2.CX0) (sp := fun w => Own.sp_law _) rfl (by decide) rfl ⟨rfl, by decide, by decide⟩ (fun w h Y => PySem.W.kIn_of Y) ?F (fun _ _ a ns hl _ hS => ⟨a, ns, rfl, hS, hl, fun _ => rfl⟩) (fun _ _ _ _ _ h => h)
  case F =>
    intro w mg fa h KX G hmg
    refine' Own.all_mk KX G hmg ?lt_PollError_init ?l_PollError_init ?c_PollError_init ?k_PollError_init ?l_NoShare_init ?c_NoShare_init ?k_NoShare_init ?lt_Share_init ?l_Share_init ?c_Share_init ?k_Share_init ?a_is_tuple_of ?l_is_tuple_of ?c_is_tuple_of ?k_is_tuple_of ?a_is_row ?l_is_row ?c_is_row ?k_is_row ?a_are_sums ?l_are_sums ?c_are_sums ?k_are_sums ?a_check_sums ?l_check_sums ?c_check_sums ?k_check_sums ?a_met_by ?l_met_by ?nk_met_by_many ?c_met_by ?k_met_by ?a_unmet ?l_unmet ?nk_unmet_many ?c_unmet ?k_unmet ?a_shows_met ?l_shows_met ?nk_shows_met_many ?c_shows_met ?k_shows_met ?a_shows_unmet ?l_shows_unmet ?nk_shows_unmet_many ?c_shows_unmet ?k_shows_unmet ?a_law_cell_at ?l_law_cell_at ?c_law_cell_at ?k_law_cell_at ?a_law_well ?l_law_well ?c_law_well ?k_law_well ?a_law_draw ?l_law_draw ?c_law_draw ?k_law_draw ?a_law_one ?l_law_one ?c_law_one ?k_law_one ?a_law_share ?l_law_share ?c_law_share ?k_law_share ?a_law_row ?l_law_row ?c_law_row ?k_law_row ?a_law_bent ?l_law_bent ?c_law_bent ?k_law_bent ?a_law_spoilt ?l_law_spoilt ?c_law_spoilt ?k_law_spoilt ?a_law_word ?l_law_word ?c_law_word ?k_law_word ?a_law ?l_law ?c_law ?k_law ?aC_PollError ?xL_PollError ?sa_PollError ?gt_PollError ?gg_PollError ?ai_PollError ?ti_PollError ?kC_PollError ?eC_PollError ?tC_PollError ?hC_PollError ?nf_PollError_why ?rd_PollError ?ga_PollError ?fc_PollError_init ?aC_NoShare ?xL_NoShare ?sa_NoShare ?gt_NoShare ?gg_NoShare ?ai_NoShare ?ti_NoShare ?kC_NoShare ?eC_NoShare ?tC_NoShare ?hC_NoShare ?nf_NoShare_why ?nf_NoShare_num ?nf_NoShare_over ?aC_BadSums ?xL_BadSums ?sa_BadSums ?gt_BadSums ?gg_BadSums ?ai_BadSums ?ti_BadSums ?kC_BadSums ?eC_BadSums ?tC_BadSums ?hC_BadSums ?nf_BadSums_why ?ha_BadSums ?hn_BadSums ?ht_BadSums ?ob_BadSums ?aC_BadBallot ?xL_BadBallot ?sa_BadBallot ?gt_BadBallot ?gg_BadBallot ?ai_BadBallot ?ti_BadBallot ?kC_BadBallot ?eC_BadBallot ?tC_BadBallot ?hC_BadBallot ?nf_BadBallot_why ?aC_BadClaim ?xL_BadClaim ?sa_BadClaim ?gt_BadClaim ?gg_BadClaim ?ai_BadClaim ?ti_BadClaim ?kC_BadClaim ?eC_BadClaim ?tC_BadClaim ?hC_BadClaim ?nf_BadClaim_why ?aC_BadMargins ?xL_BadMargins ?sa_BadMargins ?gt_BadMargins ?gg_BadMargins ?ai_BadMargins ?ti_BadMargins ?kC_BadMargins ?eC_BadMargins ?tC_BadMargins ?hC_BadMargins ?nf_BadMargins_why ?aC_BadOrder ?xL_BadOrder ?sa_BadOrder ?gt_BadOrder ?gg_BadOrder ?ai_BadOrder ?ti_BadOrder ?kC_BadOrder ?eC_BadOrder ?tC_BadOrder ?hC_BadOrder ?nf_BadOrder_why ?aC_BadPoll ?xL_BadPoll ?sa_BadPoll ?gt_BadPoll ?gg_BadPoll ?ai_BadPoll ?ti_BadPoll ?kC_BadPoll ?eC_BadPoll ?tC_BadPoll ?hC_BadPoll ?nf_BadPoll_why ?aC_BadRule ?xL_BadRule ?sa_BadRule ?gt_BadRule ?gg_BadRule ?ai_BadRule ?ti_BadRule ?kC_BadRule ?eC_BadRule ?tC_BadRule ?hC_BadRule ?nf_BadRule_why ?aC_Share ?pg_Share ?hd_Share ?po_Share ?sa_Share ?mk_Share ?kc_Share ?ai_Share ?ii_Share ?n_Share_num ?n_Share_over ?ha_Share ?hn_Share ?ht_Share ?ob_Share ?ki_Share ?ki_Share_NoneType ?ki_Share_bool ?ki_Share_int ?ki_Share_str ?ki_Share_tuple ?ki_Share_list ?ki_Share_dict ?kj_Share_tuple ?kj_Share_list ?sb_BadSums_PollError ?kt_BadSums_BadSums ?kt_BadSums_BadBallot ?kt_BadSums_BadClaim ?kt_BadSums_BadMargins ?kt_BadSums_BadOrder ?kt_BadSums_BadPoll ?kt_BadSums_BadRule ?kt_BadSums_NoShare ?vV ?gcd ?z_ValueError ?z_len ?z_isinstance ?z_tuple ?z_all ?z_list ?z_int ?z_range ?cc_MOST_PARTS ?cc_MOST_ROWS
    (case a_is_tuple_of => k_is); (case a_is_row => k_is); (case a_are_sums => k_is); (case a_check_sums => k_is); (case a_met_by => k_is); (case a_unmet => k_is); (case a_shows_met => k_is); (case a_shows_unmet => k_is); (case a_law_cell_at => k_is); (case a_law_well => k_is); (case a_law_draw => k_is); (case a_law_one => k_is); (case a_law_share => k_is); (case a_law_row => k_is); (case a_law_bent => k_is); (case a_law_spoilt => k_is); (case a_law_word => k_is); (case a_law => k_is); (case aC_PollError => k_is); (case aC_NoShare => k_is); (case aC_BadSums => k_is); (case aC_BadBallot => k_is); (case aC_BadClaim => k_is); (case aC_BadMargins => k_is); (case aC_BadOrder => k_is); (case aC_BadPoll => k_is); (case aC_BadRule => k_is); (case aC_Share => k_is); (case ai_PollError => k_is); (case ai_NoShare => k_is); (case ai_BadSums => k_is); (case ai_BadBallot => k_is); (case ai_BadClaim => k_is); (case ai_BadMargins => k_is); (case ai_BadOrder => k_is); (case ai_BadPoll => k_is); (case ai_BadRule => k_is); (case ai_Share => k_is); (case l_PollError_init => k_is); (case l_NoShare_init => k_is); (case l_Share_init => k_is); (case l_is_tuple_of => k_is); (case l_is_row => k_is); (case l_are_sums => k_is); (case l_check_sums => k_is); (case l_met_by => k_is); (case l_unmet => k_is); (case l_shows_met => k_is); (case l_shows_unmet => k_is); (case l_law_cell_at => k_is); (case l_law_well => k_is); (case l_law_draw => k_is); (case l_law_one => k_is); (case l_law_share => k_is); (case l_law_row => k_is); (case l_law_bent => k_is); (case l_law_spoilt => k_is); (case l_law_word => k_is); (case l_law => k_is); (case xL_PollError => k_is); (case xL_NoShare => k_is); (case xL_BadSums => k_is); (case xL_BadBallot => k_is); (case xL_BadClaim => k_is); (case xL_BadMargins => k_is); (case xL_BadOrder => k_is); (case xL_BadPoll => k_is); (case xL_BadRule => k_is); (case lt_PollError_init => k_is); (case lt_Share_init => k_is); (case c_PollError_init => k_is); (case k_PollError_init => k_is); (case c_NoShare_init => k_is); (case k_NoShare_init => k_is); (case c_Share_init => k_is); (case k_Share_init => k_is); (case c_is_tuple_of => k_is); (case k_is_tuple_of => k_is); (case c_is_row => k_is); (case k_is_row => k_is); (case c_are_sums => k_is); (case k_are_sums => k_is); (case c_check_sums => k_is); (case k_check_sums => k_is); (case nk_met_by_many => k_is); (case c_met_by => k_is); (case k_met_by => k_is); (case nk_unmet_many => k_is); (case c_unmet => k_is); (case k_unmet => k_is); (case nk_shows_met_many => k_is); (case c_shows_met => k_is); (case k_shows_met => k_is); (case nk_shows_unmet_many => k_is); (case c_shows_unmet => k_is); (case k_shows_unmet => k_is); (case c_law_cell_at => k_is); (case k_law_cell_at => k_is); (case c_law_well => k_is); (case k_law_well => k_is); (case c_law_draw => k_is); (case k_law_draw => k_is); (case c_law_one => k_is); (case k_law_one => k_is); (case c_law_share => k_is); (case k_law_share => k_is); (case c_law_row => k_is); (case k_law_row => k_is); (case c_law_bent => k_is); (case k_law_bent => k_is); (case c_law_spoilt => k_is); (case k_law_spoilt => k_is); (case c_law_word => k_is); (case k_law_word => k_is); (case c_law => k_is); (case k_law => k_is); (case sa_PollError => k_is); (case gt_PollError => k_is); (case gg_PollError => k_is); (case ti_PollError => k_is); (case kC_PollError => k_is); (case eC_PollError => k_is); (case tC_PollError => k_is); (case hC_PollError => k_is); (case nf_PollError_why => first | k_is | rfl | decide +kernel); (case rd_PollError => k_is); (case ga_PollError => k_is); (case fc_PollError_init => first | k_is | rfl | decide +kernel); (case sa_NoShare => k_is); (case gt_NoShare => k_is); (case gg_NoShare => k_is); (case ti_NoShare => k_is); (case kC_NoShare => k_is); (case eC_NoShare => k_is); (case tC_NoShare => k_is); (case hC_NoShare => k_is); (case nf_NoShare_why => first | k_is | rfl | decide +kernel); (case nf_NoShare_num => first | k_is | rfl | decide +kernel); (case nf_NoShare_over => first | k_is | rfl | decide +kernel); (case sa_BadSums => k_is); (case gt_BadSums => k_is); (case gg_BadSums => k_is); (case ti_BadSums => k_is); (case kC_BadSums => k_is); (case eC_BadSums => k_is); (case tC_BadSums => k_is); (case hC_BadSums => k_is); (case nf_BadSums_why => first | k_is | rfl | decide +kernel); (case ha_BadSums => k_is); (case hn_BadSums => k_is); (case ht_BadSums => first | k_is | rfl | decide +kernel); (case ob_BadSums => k_is); (case sa_BadBallot => k_is); (case gt_BadBallot => k_is); (case gg_BadBallot => k_is); (case ti_BadBallot => k_is); (case kC_BadBallot => k_is); (case eC_BadBallot => k_is); (case tC_BadBallot => k_is); (case hC_BadBallot => k_is); (case nf_BadBallot_why => first | k_is | rfl | decide +kernel); (case sa_BadClaim => k_is); (case gt_BadClaim => k_is); (case gg_BadClaim => k_is); (case ti_BadClaim => k_is); (case kC_BadClaim => k_is); (case eC_BadClaim => k_is); (case tC_BadClaim => k_is); (case hC_BadClaim => k_is); (case nf_BadClaim_why => first | k_is | rfl | decide +kernel); (case sa_BadMargins => k_is); (case gt_BadMargins => k_is); (case gg_BadMargins => k_is); (case ti_BadMargins => k_is); (case kC_BadMargins => k_is); (case eC_BadMargins => k_is); (case tC_BadMargins => k_is); (case hC_BadMargins => k_is); (case nf_BadMargins_why => first | k_is | rfl | decide +kernel); (case sa_BadOrder => k_is); (case gt_BadOrder => k_is); (case gg_BadOrder => k_is); (case ti_BadOrder => k_is); (case kC_BadOrder => k_is); (case eC_BadOrder => k_is); (case tC_BadOrder => k_is); (case hC_BadOrder => k_is); (case nf_BadOrder_why => first | k_is | rfl | decide +kernel); (case sa_BadPoll => k_is); (case gt_BadPoll => k_is); (case gg_BadPoll => k_is); (case ti_BadPoll => k_is); (case kC_BadPoll => k_is); (case eC_BadPoll => k_is); (case tC_BadPoll => k_is); (case hC_BadPoll => k_is); (case nf_BadPoll_why => first | k_is | rfl | decide +kernel); (case sa_BadRule => k_is); (case gt_BadRule => k_is); (case gg_BadRule => k_is); (case ti_BadRule => k_is); (case kC_BadRule => k_is); (case eC_BadRule => k_is); (case tC_BadRule => k_is); (case hC_BadRule => k_is); (case nf_BadRule_why => first | k_is | rfl | decide +kernel); (case pg_Share => k_is); (case hd_Share => k_is); (case po_Share => k_is); (case sa_Share => k_is); (case mk_Share => k_is); (case kc_Share => k_is); (case ii_Share => k_is); (case n_Share_num => k_is); (case n_Share_over => k_is); (case ha_Share => k_is); (case hn_Share => k_is); (case ht_Share => first | k_is | rfl | decide +kernel); (case ob_Share => k_is); (case ki_Share => first | k_is | rfl | decide +kernel); (case ki_Share_NoneType => first | k_is | rfl | decide +kernel); (case ki_Share_bool => first | k_is | rfl | decide +kernel); (case ki_Share_int => first | k_is | rfl | decide +kernel); (case ki_Share_str => first | k_is | rfl | decide +kernel); (case ki_Share_tuple => first | k_is | rfl | decide +kernel); (case ki_Share_list => first | k_is | rfl | decide +kernel); (case ki_Share_dict => first | k_is | rfl | decide +kernel); (case kj_Share_tuple => first | k_is | rfl | decide +kernel); (case kj_Share_list => first | k_is | rfl | decide +kernel); (case sb_BadSums_PollError => first | k_is | rfl | decide +kernel); (case kt_BadSums_BadSums => first | k_is | rfl | decide +kernel); (case kt_BadSums_BadBallot => first | k_is | rfl | decide +kernel); (case kt_BadSums_BadClaim => first | k_is | rfl | decide +kernel); (case kt_BadSums_BadMargins => first | k_is | rfl | decide +kernel); (case kt_BadSums_BadOrder => first | k_is | rfl | decide +kernel); (case kt_BadSums_BadPoll => first | k_is | rfl | decide +kernel); (case kt_BadSums_BadRule => first | k_is | rfl | decide +kernel); (case kt_BadSums_NoShare => first | k_is | rfl | decide +kernel); (case vV => first | k_is | rfl | decide +kernel); (case gcd => k_is); (case z_ValueError => k_is); (case z_len => k_is); (case z_isinstance => k_is); (case z_tuple => k_is); (case z_all => k_is); (case z_list => k_is); (case z_int => k_is); (case z_range => k_is); (case cc_MOST_PARTS => k_is); (case cc_MOST_ROWS => k_is)
